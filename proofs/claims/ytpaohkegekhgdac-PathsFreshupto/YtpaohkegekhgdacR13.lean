import Derived.Test.YtpaohkegekhgdacDuo
import Derived.Deep.RegionLaw
namespace Go.Proofs.Ytpaohkegekhgdac
open Go.RowKit

set_option maxHeartbeats 4000000 in
set_option maxRecDepth 100000 in
theorem r13 {lv1 lv2 lv3 lv4 lv5 lv6 lv9 lv10 lv11 lv12 lv13 lv14 lv15 lv16 lv17 lv18 lv19 lv20 lv21 lv22 lv23 lv24 lv25 lv26 lv27 lv28 lv29 lv30 lv31 lv32 lv33 lv34 lv35 lv36 lv37 lv38 lv39 lv40 lv41 lv42 lv43 lv44 lv45 lv46 lv47 lv48 lv49 lv50 lv51 lv52 lv53 lv54 lv55 lv56 lv57 lv58 lv59 lv60 lv61 lv62 lv63 lv64 lv65 lv66 lv67 lv68 lv69 lv70 lv71 lv72 lv73 lv74 lv75 lv76 lv77 lv78 lv79 lv80 lv81 lv82 lv83 lv84 lv85 lv86 lv87 lv88 lv89 lv90 lv91 lv92 lv93 lv94 lv95 lv96 lv97 lv98 : Value} {wr : World} {ga k j g n c : Nat} {p : List UInt8} (hlt : k < 2) (hj : j < n) (hcv : wr.cell? ⟨ga, k, none⟩ = some (.slice (some ⟨g, 0, none⟩) n c)) (hct : wr.cell? ⟨g, j, none⟩ = some (.string (bs p))) (hcf : wr.frozen? ⟨g, j, none⟩ = false) (Q : Exit → Act → World → Prop)
    (hQ : ∀ (s44 s45 s46 s47 s48 s49 s50 s51 : Value) (w2 : World), (∃ q, w2 = wr.drewN q) → Q .normal ⟨(.slice (some ⟨ga, 0, none⟩) 2 2 :: lv1 :: lv2 :: lv3 :: lv4 :: lv5 :: lv6 :: .int .i64 ((k : Nat) : Int) :: .int .i64 ((j : Nat) : Int) :: lv9 :: lv10 :: lv11 :: lv12 :: lv13 :: lv14 :: lv15 :: lv16 :: lv17 :: lv18 :: lv19 :: lv20 :: lv21 :: lv22 :: lv23 :: lv24 :: lv25 :: lv26 :: lv27 :: lv28 :: lv29 :: lv30 :: lv31 :: lv32 :: lv33 :: lv34 :: lv35 :: lv36 :: lv37 :: lv38 :: lv39 :: lv40 :: lv41 :: lv42 :: lv43 :: s44 :: s45 :: s46 :: s47 :: s48 :: s49 :: s50 :: s51 :: lv52 :: lv53 :: lv54 :: lv55 :: lv56 :: lv57 :: lv58 :: lv59 :: lv60 :: lv61 :: lv62 :: lv63 :: lv64 :: lv65 :: lv66 :: lv67 :: lv68 :: lv69 :: lv70 :: lv71 :: lv72 :: lv73 :: lv74 :: lv75 :: lv76 :: lv77 :: lv78 :: lv79 :: lv80 :: lv81 :: lv82 :: lv83 :: lv84 :: lv85 :: lv86 :: lv87 :: lv88 :: lv89 :: lv90 :: lv91 :: lv92 :: lv93 :: lv94 :: lv95 :: lv96 :: lv97 :: lv98 :: []).toArray, []⟩ (w2.setCell ⟨g, j, none⟩ (.string (bs (mk k))))) :
    Code.wp Try.prog ((findReg 13 (Try.f22.body.getD .skip)).getD .skip) Q ⟨(.slice (some ⟨ga, 0, none⟩) 2 2 :: lv1 :: lv2 :: lv3 :: lv4 :: lv5 :: lv6 :: .int .i64 ((k : Nat) : Int) :: .int .i64 ((j : Nat) : Int) :: lv9 :: lv10 :: lv11 :: lv12 :: lv13 :: lv14 :: lv15 :: lv16 :: lv17 :: lv18 :: lv19 :: lv20 :: lv21 :: lv22 :: lv23 :: lv24 :: lv25 :: lv26 :: lv27 :: lv28 :: lv29 :: lv30 :: lv31 :: lv32 :: lv33 :: lv34 :: lv35 :: lv36 :: lv37 :: lv38 :: lv39 :: lv40 :: lv41 :: lv42 :: lv43 :: lv44 :: lv45 :: lv46 :: lv47 :: lv48 :: lv49 :: lv50 :: lv51 :: lv52 :: lv53 :: lv54 :: lv55 :: lv56 :: lv57 :: lv58 :: lv59 :: lv60 :: lv61 :: lv62 :: lv63 :: lv64 :: lv65 :: lv66 :: lv67 :: lv68 :: lv69 :: lv70 :: lv71 :: lv72 :: lv73 :: lv74 :: lv75 :: lv76 :: lv77 :: lv78 :: lv79 :: lv80 :: lv81 :: lv82 :: lv83 :: lv84 :: lv85 :: lv86 :: lv87 :: lv88 :: lv89 :: lv90 :: lv91 :: lv92 :: lv93 :: lv94 :: lv95 :: lv96 :: lv97 :: lv98 :: []).toArray, []⟩ wr := by
  conv => arg 2; whnf
  have HQ : Hid _ := hQ
  clear hQ
  have i0 : (0 : Int) ≤ (k : Int) := by omega
  have i1 : (k : Int) < 2 := by omega
  have i2 : (0 : Int) ≤ (j : Int) := by omega
  have i3 : (j : Int) < (n : Int) := by omega
  refine wp_region_noPanic ?_
  go_region_law (refine step_mark rfl (.tmp 49) rfl k (by omega) rfl ?_)
  all_goals exact NoPanic.normal (HQ.out _ _ _ _ _ _ _ _ _ ⟨1, rfl⟩)
end Go.Proofs.Ytpaohkegekhgdac
