import Derived.Test.YtkbefggjfggdgaaGreatJPRows
import Derived.Test.YtkbefggjfggdgaaGreatSets
import Derived.Deep.RegionLaw
import Derived.Deep.RegionHeld3
namespace Go.Proofs.YtkbefggjfggdgaaGreat
open Go.RowKit

set_option maxRecDepth 100000 in
set_option maxHeartbeats 1000000 in
theorem take_any {w : World} {base : Nat} {v x : Value} {l k : List (List UInt8)} (wt : Bool) (hown : Own base w v l) (hs : SS w x k) (hb : l.length + k.length ≤ 8000000) (hbase : base ≤ w.heap.size) :
    Calls Tryz.prog 90 #[v, x, .bool wt] w fun e w' => ∃ v', e = .returned v' ∧ Own base w' v' (l ++ if wt then k else []) ∧ Below base w w' := by
  have HO : Hid (Own base w v l) := hown
  have HS : Hid (Src Tryz.prog 1 23 x k.length (sc k) w) := hs.src und44
  clear hown hs
  cases wt
  · go_enter Tryz.func90, Tryz.ntmps90
    go_wp2_with fail
    go_ret
    exact ⟨v, rfl, by simpa using HO.out, Below.refl _ _⟩
  · go_enter Tryz.func90, Tryz.ntmps90
    go_wp2_with (at_builtin; refine app_strs HO.out HS.out (by omega) hbase rfl (.tmp 10) (.tmp 11) rfl rfl rfl ?_; intro v' w' h1 h2 h3)
    have H1 : Hid (Own base w' v' (l ++ k)) := h1
    have H2 : Hid (Below base w w') := (Below.refl _ _).grown h2 hbase (fun k hk => (HO.out.lt hk).1)
    clear h1 h2 h3
    go_wp2_with fail
    go_ret
    exact ⟨v', rfl, by simpa using H1.out, H2.out⟩
end Go.Proofs.YtkbefggjfggdgaaGreat
