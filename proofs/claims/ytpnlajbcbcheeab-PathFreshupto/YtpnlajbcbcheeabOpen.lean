import Derived.Test.YtpnlajbcbcheeabLeaf
import Derived.ProofKit
import Derived.OpenShut
import Derived.ShutString
import Derived.ChangeOld
import Derived.JoinedCond
import Derived.SizedLaws
namespace Go.Proofs.Ytpnlajbcbcheeab
open Go.ChangeShapes Go.WideShapes Go.ChangeAt Go.RowKit

theorem own : ownKnob Try.prog.godebug = none := by kernel_rfl
theorem laidOut : laidOutB Try.prog = true := by kernel_rfl
theorem bulk_bound {H : Type} {l : List (DataW H)} (hk : Rows.uptoSmall H l = true) : Rows.uptoBulkAll l ≤ 1048576 := of_decide_eq_true hk
theorem bs_back (s : ByteArray) : s = bs s.data.toList := rfl
theorem len_back (s : ByteArray) : s.data.toList.length = s.size := (Lib.size_eq s).symm
end Go.Proofs.Ytpnlajbcbcheeab
