/-
  The landed package, by its contracts.
-/
import Derived.Test.YtbaheiimcnfaaaaGreatJNs
import Derived.Test.YtbaheiimcnfaaaaGreatJNt
import Derived.Test.YtbaheiimcnfaaaaGreatNu
import Derived.Test.YtbaheiimcnfaaaaGreatJFil
namespace Go.Proofs.YtbaheiimcnfaaaaGreat
open Go.RowKit

theorem mc_any : MC where
  cost h1 h2 h3 h4 := mcost_any h1 h2 h3 h4
  step h1 h2 h3 h4 := mStep_any h1 h2 h3 h4
  at' p h1 h2 h3 := mat_any p h1 h2 h3
  down b h1 h2 h3 h4 h5 h6 := mDown_any b h1 h2 h3 h4 h5 h6
  valid h1 h2 := cvalid_any h1 h2
  view h1 h2 h3 h4 := view_any (fun h s => cvalid_any h s) h1 h2 h3 h4
  cones h1 h2 := rcones_any h1 h2
  common a c w h1 h2 := rcommon_any a c w (by omega) (by omega)
  above a c w h1 h2 := by rw [abvV_eq]; exact rabove_any a c w (by omega) (by omega)
end Go.Proofs.YtbaheiimcnfaaaaGreat

namespace Go.Proofs.YtbaheiimcnfaaaaGreat
open Go.RowKit

set_option maxRecDepth 100000 in
set_option maxHeartbeats 1000000 in
theorem rbase_any (l : List UInt8) (w : World) (hl : l.length < 9223372036854775807) :
    Calls Tryz.prog 132 #[.string (bs l)] w fun e w' => e = .returned (.string (bs (base l))) ∧ w' = w := by
  have HL : Hid (l.length < 9223372036854775807) := hl
  have hz : (bs l).size = l.length := rfl
  have h2 := lst_lt l
  have h3 := lst_ge l
  obtain ⟨n, hn⟩ : ∃ n : Nat, lst l = (n : Int) - 1 := ⟨(lst l + 1).toNat, by omega⟩
  have hd0 : base l = l.drop n := by unfold base; congr 1; omega
  rw [hd0]
  have HE : Hid ((bs l).extract n l.length = bs (l.drop n)) := extract_from l n
  have hnl : n ≤ l.length := by omega
  clear h2 h3
  go_enter Tryz.func132, Tryz.ntmps132
  go_wp2_with fail
  refine (rlast_any _ _ HL.out).mono ?_
  rintro e w1 ⟨rfl, rfl⟩
  rw [hn]
  go_wp2_with fail
  go_ret
  exact ⟨by rw [← HE.out]; rfl, rfl⟩

end Go.Proofs.YtbaheiimcnfaaaaGreat
