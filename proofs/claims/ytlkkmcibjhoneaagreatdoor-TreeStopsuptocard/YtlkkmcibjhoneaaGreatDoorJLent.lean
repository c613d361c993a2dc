import Derived.Test.YtlkkmcibjhoneaaGreatDoorSPkg
import Derived.Test.YtlkkmcibjhoneaaGreatDoorJWw
import Derived.Laws.BitsLemmas
import Derived.Deep.DeepCutAuto
import Derived.Test.YtlkkmcibjhoneaaGreatDoorJSEq
import Derived.Test.YtlkkmcibjhoneaaGreatDoorJFil
import Derived.Deep.RegionLaw
import Derived.Deep.RegionHeld3
import Derived.Deep.OwnRows
import Derived.Laws.OwnMore
namespace Go.Proofs.YtlkkmcibjhoneaaGreatDoor
open Go.RowKit

/-- does a statement begin with this region? -/
def beg (n : Nat) : Code → Bool
  | .region m _ _ => m == n
  | .seq a _ => beg n a
  | .block _ c => beg n c
  | .loop c => beg n c
  | .scope c => beg n c
  | _ => false
/-- what stands from there on -/
def suff (n : Nat) : Code → Code
  | .seq a b => if beg n a then .seq a b else suff n b
  | c => c
theorem bdN {B : Nat} {w w1 : World} {n : Nat} (h : Below B w w1) : Below B w (w1.drewN n) := ⟨h.os, h.tape, h.output, h.size, h.block⟩
end Go.Proofs.YtlkkmcibjhoneaaGreatDoor

namespace Go.Proofs.YtlkkmcibjhoneaaGreatDoor
open Go.RowKit

theorem ins_len (x : List UInt8) (m : List (List UInt8)) : (ins x m).length ≤ m.length + 1 := by
  induction m with
  | nil => simp [ins]
  | cons y m ih =>
    unfold ins
    split
    · simp
    · split
      · simp
      · simp; omega

end Go.Proofs.YtlkkmcibjhoneaaGreatDoor

namespace Go.Proofs.YtlkkmcibjhoneaaGreatDoor
open Go.RowKit

theorem Sm.filter {l : List (List UInt8)} (h : Sm l) (f : List UInt8 → Bool) : Sm (l.filter f) := ⟨Nat.le_trans (List.length_filter_le _ _) h.len, fun x hx => h.each x (List.mem_filter.1 hx).1⟩

end Go.Proofs.YtlkkmcibjhoneaaGreatDoor

namespace Go.Proofs.YtlkkmcibjhoneaaGreatDoor
open Go.RowKit

theorem heap_setCell (w : World) (g i : Nat) (v : Value) {cur : Array Value} {e : TypeId} {fr : Nat × Nat} (h : w.heap[g]? = some (.cells cur e fr)) :
    (w.setCell ⟨g, i, none⟩ v).heap[g]? = some (.cells (cur.setIfInBounds i v) e fr) := by
  simp [World.setCell, Array.getElem?_modify, h]
theorem sc_set (l : List (List UInt8)) (i : Nat) (p : List UInt8) : sc (l.set i p) = (sc l).set i (.string (bs p)) := by
  simp [sc, List.map_set]

theorem own_set {base : Nat} {w : World} {g n cap : Nat} {l : List (List UInt8)} (h : Own base w (.slice (some ⟨g, 0, none⟩) n cap) l) (i : Nat) (_ : i < l.length) (p : List UInt8) :
    Own base (w.setCell ⟨g, i, none⟩ (.string (bs p))) (.slice (some ⟨g, 0, none⟩) n cap) (l.set i p) := by
  rcases h.2 with ⟨e, _⟩ | ⟨g', cap', cur, e, hbg, hg, hn, hcm, hcs, htake⟩
  · cases e
  · injection e with e1 e2 e3
    injection e1 with e1
    injection e1 with e1 _ _
    subst e1
    subst e3
    refine ⟨by rw [sc_length]; simp, .inr ⟨g, cap, _, by rw [List.length_set, e2], hbg, heap_setCell w g i _ hg, by rw [List.length_set]; exact hn, hcm, by simpa using hcs, ?_⟩⟩
    rw [List.length_set, sc_set]
    have h2 : cur.toList.take (l.length * 1) = sc l := htake
    rw [← h2, Array.toList_setIfInBounds, List.take_set]
theorem own_cell {base : Nat} {w : World} {g n cap : Nat} {l : List (List UInt8)} (h : Own base w (.slice (some ⟨g, 0, none⟩) n cap) l) (i : Nat) (hi : i < l.length) :
    w.cell? ⟨g, i, none⟩ = some (.string (bs l[i])) ∧ w.frozen? ⟨g, i, none⟩ = false ∧ base ≤ g ∧ g < w.heap.size := by
  have hlt := h.lt (k := g) rfl
  refine ⟨?_, ?_, hlt⟩
  · have := World.ownsRow.cells h (g := g) rfl i (.string (bs l[i])) (by simp [sc_get, hi])
    rw [add_lit, Nat.zero_add] at this
    exact this
  · rcases h.2 with ⟨e, _⟩ | ⟨g', cap', cur, e, hbg, hg, _⟩
    · cases e
    · injection e with e1 e2 e3
      injection e1 with e1
      injection e1 with e1 _ _
      subst e1
      simp [World.frozen?, hg]
theorem bset {base : Nat} {w : World} (g i : Nat) (v : Value) (hg : base ≤ g) (hb : base ≤ w.heap.size) : Below base w (w.setCell ⟨g, i, none⟩ v) :=
  (Only.set w g i v).below hb (by simp; omega)

theorem set_mid (a : List (List UInt8)) (m : Nat) (z x : List UInt8) (hm : 0 < m) : (a ++ List.replicate m z).set a.length x = a ++ [x] ++ List.replicate (m - 1) z := by
  obtain ⟨k, rfl⟩ : ∃ k, m = k + 1 := ⟨m - 1, by omega⟩
  simp [List.replicate_succ]

/-- the texts, and thirty marks behind them -/
def lentL (L : List (List UInt8)) : List (List UInt8) := L ++ List.replicate 30 [63]
theorem lentL_length (L : List (List UInt8)) : (lentL L).length = L.length + 30 := by simp [lentL]

set_option maxHeartbeats 2000000 in
set_option maxRecDepth 100000 in
theorem lent_any {w : World} {v : Value} {L : List (List UInt8)} (h : SS w v L) (sm : Sm L) :
    Calls Tryz.prog 21 #[v] w fun e w' => e = .returned (.slice (some ⟨w.heap.size, 0, none⟩) (L.length + 30) (L.length + 30)) ∧ Own w.heap.size w' (.slice (some ⟨w.heap.size, 0, none⟩) (L.length + 30) (L.length + 30)) (lentL L) ∧ Below w.heap.size w w' := by
  obtain ⟨a, c, n, hn, rfl, ca⟩ := h.form'
  have CA : Hid (∀ k, (hk : k < L.length) → ∃ b off, a = some ⟨b, off, none⟩ ∧ b < w.heap.size ∧ w.cell? ⟨b, off + k, none⟩ = some (.string (bs L[k]))) := ca
  have HN : Hid (n = L.length) := hn
  have hnl : n ≤ 4000000 := by rw [hn]; exact sm.len
  rw [← hn]
  obtain ⟨G, hG⟩ : ∃ G, w.heap.size = G := ⟨_, rfl⟩
  rw [hG]
  have hmk0 := run_make_row' (P := Tryz.prog) 42 9 (.string ByteArray.empty) 16 und52 info9 rfl .i64 .i64 (n + 30) (by omega) (by omega) w
  obtain ⟨w1, hw1⟩ : ∃ w1, w.alloc (.cells (madeCells #[.string ByteArray.empty] (n + 30)) 9) = w1 := ⟨_, rfl⟩
  rw [hw1, hG] at hmk0
  have hmk : Sem.run Tryz.prog (Instr.makeSlice 42 (.int .i64 ((n : Int) + 30)) (.int .i64 ((n : Int) + 30))) w = .ok (.slice (some ⟨G, 0, none⟩) (n + 30) (n + 30)) w1 := hmk0
  have HO1 : Hid (Own G w1 (.slice (some ⟨G, 0, none⟩) (n + 30) (n + 30)) (List.replicate (n + 30) []) ∧ Below G w w1) := by
    rw [← hw1, ← hG]
    refine ⟨⟨by rw [sc_length]; simp, .inr ⟨w.heap.size, n + 30, _, by simp, Nat.le_refl _, heap_alloc_new w _, by simp, by unfold maxLen; omega, by simp [size_madeCells], ?_⟩⟩, balloc _ _⟩
    rw [toList_madeCells_one]
    simp [sc]
    rfl
  have hz1 : G ≤ w1.heap.size := by have := HO1.out.2.size; omega
  clear h sm ca hn hmk0 hw1
  go_enter Tryz.func21, Tryz.ntmps21
  go_wp2_with fail
  clear hmk
  go_loopw [4] (fun i wr => ∃ k : Nat, k ≤ n ∧ i = .int .i64 k ∧ Own G wr (.slice (some ⟨G, 0, none⟩) (n + 30) (n + 30)) (L.take k ++ List.replicate (n + 30 - k) []) ∧ Below G w wr) (fun i _ => n - (intOf i).toNat)
  case atStart => exact ⟨0, Nat.zero_le _, rfl, HO1.out.1, HO1.out.2⟩
  case round =>
    obtain ⟨k, hk, rfl, ho, hbw⟩ := hrel
    have hz : G ≤ wr.heap.size := by have := hbw.size; omega
    by_cases hlt : k < n
    · have hlt2 : k < L.length := by have := HN.out; omega
      obtain ⟨g1, o1, rfl, hg1, c1⟩ := CA.out k hlt2
      have htk := take_snoc L k hlt2
      obtain ⟨p, hp⟩ : ∃ p, L[k]'hlt2 = p := ⟨_, rfl⟩
      rw [hp] at c1 htk
      have hkl : (L.take k).length = k := by simp; omega
      have hcl := own_cell ho k (by simp; omega)
      have hcell : wr.cell? ⟨G, k, none⟩ = some (.string (bs [])) := by
        rw [hcl.1]
        simp [hkl]
      have hfr : wr.frozen? ⟨G, k, none⟩ = false := hcl.2.1
      have d1 : wr.cell? ⟨g1, o1 + k, none⟩ = some (.string (bs p)) := by rw [hbw.cell (p := ⟨g1, o1 + k, none⟩) (by show g1 < G; omega)]; exact c1
      have HO5 : Hid (Own G (wr.setCell ⟨G, k, none⟩ (.string (bs p))) (.slice (some ⟨G, 0, none⟩) (n + 30) (n + 30)) (L.take (k + 1) ++ List.replicate (n + 30 - (k + 1)) [])) := by
        have h1 := own_set ho k (by simp; omega) p
        have h2 := set_mid (L.take k) (n + 30 - k) [] p (by omega)
        rw [hkl] at h2
        rw [h2] at h1
        rw [htk, show n + 30 - (k + 1) = n + 30 - k - 1 by omega]
        exact h1
      have HB5 : Hid (Below G w (wr.setCell ⟨G, k, none⟩ (.string (bs p)))) := below_trans hbw (bset _ _ _ (Nat.le_refl _) hz)
      clear c1 htk hp hkl hcl ho hbw
      go_wp2_with fail
      go_roundw
      case rel => exact ⟨k + 1, by omega, by go_num, HO5.out, HB5.out⟩
      case measure => simp [intOf]; omega
    · obtain rfl : k = n := by omega
      have HOE : Hid (Own G wr (.slice (some ⟨G, 0, none⟩) (k + 30) (k + 30)) (L ++ List.replicate (k - k) [63] ++ List.replicate (k + 30 - k) [])) := by
        rw [Nat.sub_self, List.replicate_zero, List.append_nil]
        rw [List.take_of_length_le (by have := HN.out; omega)] at ho
        exact ho
      have HBE : Hid (Below G w wr) := hbw
      clear ho hbw
      go_wp2_with fail
      go_loopw [5] (fun i wr => ∃ m : Nat, k ≤ m ∧ m ≤ k + 30 ∧ i = .int .i64 m ∧ Own G wr (.slice (some ⟨G, 0, none⟩) (k + 30) (k + 30)) (L ++ List.replicate (m - k) [63] ++ List.replicate (k + 30 - m) []) ∧ Below G w wr) (fun i _ => k + 30 - (intOf i).toNat)
      case atStart => exact ⟨k, Nat.le_refl _, by omega, rfl, HOE.out, HBE.out⟩
      case round =>
        obtain ⟨m, hm1, hm2, rfl, ho, hbw⟩ := hrel
        have hz3 : G ≤ wr.heap.size := by have := hbw.size; omega
        by_cases hlt3 : m < k + 30
        · have hkl : (L ++ List.replicate (m - k) [63]).length = m := by have := HN.out; simp; omega
          have hcl := own_cell ho m (by have := HN.out; simp; omega)
          have hcell : wr.cell? ⟨G, m, none⟩ = some (.string (bs [])) := by
            rw [hcl.1]
            rw [List.getElem_append_right (by omega)]
            simp
          have hfr : wr.frozen? ⟨G, m, none⟩ = false := hcl.2.1
          have HO5 : Hid (Own G (wr.setCell ⟨G, m, none⟩ (.string (bs [63]))) (.slice (some ⟨G, 0, none⟩) (k + 30) (k + 30)) (L ++ List.replicate (m + 1 - k) [63] ++ List.replicate (k + 30 - (m + 1)) [])) := by
            have h1 := own_set ho m (by have := HN.out; simp; omega) [63]
            have h2 := set_mid (L ++ List.replicate (m - k) [63]) (k + 30 - m) [] [63] (by omega)
            rw [hkl] at h2
            rw [h2] at h1
            rw [show m + 1 - k = (m - k) + 1 by omega, List.replicate_succ', show k + 30 - (m + 1) = k + 30 - m - 1 by omega, ← List.append_assoc L]
            exact h1
          have HB5 : Hid (Below G w (wr.setCell ⟨G, m, none⟩ (.string (bs [63])))) := below_trans hbw (bset _ _ _ (Nat.le_refl _) hz3)
          have k1 : (m : Int) < (k : Int) + 30 := by omega
          clear hkl hcl ho hbw
          go_wp2_with fail
          go_roundw
          case rel => exact ⟨m + 1, by omega, by omega, by go_num, HO5.out, HB5.out⟩
          case measure => simp [intOf]; omega
        · obtain rfl : m = k + 30 := by omega
          have HOZ : Hid (Own G wr (.slice (some ⟨G, 0, none⟩) (k + 30) (k + 30)) (lentL L)) := by
            rw [show k + 30 - k = 30 by omega, Nat.sub_self, List.replicate_zero, List.append_nil] at ho
            exact ho
          have HBZ : Hid (Below G w wr) := hbw
          clear ho hbw
          go_wp2_with fail
          go_ret
          exact ⟨rfl, HOZ.out, HBZ.out⟩
end Go.Proofs.YtlkkmcibjhoneaaGreatDoor
