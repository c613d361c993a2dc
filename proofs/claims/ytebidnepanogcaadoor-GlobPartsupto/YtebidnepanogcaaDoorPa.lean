/-
  GlobParts.
-/
import Derived.Test.YtebidnepanogcaaDoorPtt
import Derived.Test.YtebidnepanogcaaDoorPft
import Derived.Test.YtebidnepanogcaaDoorPtft
import Derived.Test.YtebidnepanogcaaDoorPtff
import Derived.Test.YtebidnepanogcaaDoorPff
namespace Go.Proofs.YtebidnepanogcaaDoor
open Go.RowKit

theorem parts_law {w : World} {v vk : Value} {l : List Fl} {ks : List Bool} (E : Ev w) (p s : List UInt8) (h : FS w v l) (sm : FQ l) (hk : BL w vk ks) (hl : l.length ≤ 1048576) (hp : p.length ≤ 4000000) (hs : s.length ≤ 4000000) :
    Calls Tryd.prog 3 #[v, .string (bs p), .string (bs s), vk] w fun e w' => e = .returned (.bool true) ∧ Below w.heap.size w w' := by
  cases hst : starP s
  · cases hfn : (exl (kp l ks l.length) (whl p s)).2
    · cases hok : (exl l (whl p s)).2
      · exact parts_ff E p s h sm hk hl hp hs hok hst hfn
      · exact parts_tff E p s h sm hk hl hp hs hok hst hfn
    · obtain ⟨f, g, _, h2, _⟩ := lit_part ks hst hfn
      exact parts_tft E p s h sm hk hl hp hs (by rw [h2]) hst hfn
  · have he := (star_part (l := l) (p := p) ks hst).1
    cases hok : (exl l (whl p s)).2
    · exact parts_ft E p s h sm hk hl hp hs hok hst (he.trans hok)
    · exact parts_tt E p s h sm hk hl hp hs hok hst (he.trans hok)
end Go.Proofs.YtebidnepanogcaaDoor
