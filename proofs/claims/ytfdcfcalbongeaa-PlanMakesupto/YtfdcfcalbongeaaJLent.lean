import Derived.Test.YtfdcfcalbongeaaPRef
import Derived.Test.YtfdcfcalbongeaaJCuts
import Derived.Deep.OwnRows
import Derived.Laws.OwnMore
namespace Go.Proofs.Ytfdcfcalbongeaa
open Go.RowKit

set_option maxHeartbeats 1000000 in
set_option maxRecDepth 100000 in
theorem rhas_any {w : World} {v : Value} {L : List (List UInt8)} (p : List UInt8) (h : SS w v L) (hL : L.length ≤ 8000000) :
    Calls Try.prog 36 #[v, .string (bs p)] w fun e w' => e = .returned (.bool (decide (p ∈ L))) ∧ w' = w := by
  obtain ⟨a, c, n, hn, rfl, ca⟩ := h.form'
  have CA : Hid (∀ k, (hk : k < L.length) → ∃ b off, a = some ⟨b, off, none⟩ ∧ b < w.heap.size ∧ w.cell? ⟨b, off + k, none⟩ = some (.string (bs L[k]))) := ca
  obtain ⟨r, hr⟩ : ∃ r, decide (p ∈ L) = r := ⟨_, rfl⟩
  rw [hr]
  have HR : Hid (decide (p ∈ L) = r) := hr
  have HN : Hid (n = L.length) := hn
  have hnl : n ≤ 8000000 := by omega
  clear ca h hr hn hL
  go_enter Try.func36, Try.ntmps36
  go_wp2_with fail
  go_loop [5] (fun i => ∃ k : Nat, k ≤ n ∧ i = .int .i64 k ∧ ∀ j, (hj : j < L.length) → j < k → L[j] ≠ p) (fun i => n - (intOf i).toNat)
  case atStart => exact ⟨0, Nat.zero_le _, rfl, fun j _ hj => absurd hj (Nat.not_lt_zero _)⟩
  case round =>
    obtain ⟨k, hk, rfl, hno⟩ := hrel
    have HNO : Hid (∀ j, (hj : j < L.length) → j < k → L[j] ≠ p) := hno
    clear hno
    by_cases hlt : k < n
    · have hlt2 : k < L.length := by have := HN.out; omega
      obtain ⟨g1, o1, rfl, hg1, c1⟩ := CA.out k hlt2
      by_cases heq : L[k]'hlt2 = p
      · have t1 : (bs p).toList = p := bs_toList _
        have t2 : (bs (L[k]'hlt2)).toList = p := by rw [bs_toList, heq]
        have HE : Hid (L[k]'hlt2 = p) := heq
        clear heq
        go_wp2_with fail
        go_ret
        have : p ∈ L := by rw [← HE.out]; exact List.getElem_mem _
        exact ⟨by rw [← HR.out, decide_eq_true this]; rfl, rfl⟩
      · have t1 : (bs p).toList = p := bs_toList _
        have t2 : (bs (L[k]'hlt2)).toList = L[k]'hlt2 := bs_toList _
        have t3 : ((L[k]'hlt2) == p) = false := by rw [beq_eq_false_iff_ne]; exact heq
        have HE : Hid (L[k]'hlt2 ≠ p) := heq
        clear heq
        go_wp2_with fail
        go_round
        case rel =>
          refine ⟨k + 1, by omega, by go_num, fun j hj hjk => ?_⟩
          by_cases e : j = k
          · subst e; exact HE.out
          · exact HNO.out j hj (by omega)
        case measure => simp [intOf]; omega
    · go_wp2_with fail
      go_ret
      have : p ∉ L := fun hp => by
        obtain ⟨j, hj, e⟩ := List.getElem_of_mem hp
        exact HNO.out j hj (by have := HN.out; omega) e
      exact ⟨by rw [← HR.out, decide_eq_false this]; rfl, rfl⟩

theorem rcmp_grow {w : World} {p q : List UInt8} {o : Int} (hp : p.length ≤ 1000000000) (hq : q.length ≤ 1000000000) (ho : cf p q = o) (X : GW w) :
    Calls Try.prog 10 #[.string (bs p), .string (bs q)] X.it fun e w' => e = .returned (.int .i64 o) ∧ ∃ Y : GW w, w' = Y.it :=
  (rcmp_any p q X.it (by omega) (by omega)).mono fun _ w' ⟨he, hb⟩ => ⟨by rw [← ho]; exact he, ⟨w', bstep X.below hb⟩, rfl⟩
theorem ins_len (x : List UInt8) (m : List (List UInt8)) : (ins x m).length ≤ m.length + 1 := by
  induction m with
  | nil => simp [ins]
  | cons y m ih =>
    unfold ins
    split
    · simp
    · split
      · simp
      · simp; omega

end Go.Proofs.Ytfdcfcalbongeaa

namespace Go.Proofs.Ytfdcfcalbongeaa
open Go.RowKit

theorem filter_take (f : List UInt8 → Bool) (L : List (List UInt8)) (k : Nat) (h : k < L.length) : (L.take (k + 1)).filter f = (L.take k).filter f ++ (if f (L[k]'h) then [L[k]'h] else []) := by
  rw [take_snoc L k h, List.filter_append]
  congr 1
  cases hf : f (L[k]'h) <;> simp [hf]
theorem Sm.filter {l : List (List UInt8)} (h : Sm l) (f : List UInt8 → Bool) : Sm (l.filter f) := ⟨Nat.le_trans (List.length_filter_le _ _) h.len, fun x hx => h.each x (List.mem_filter.1 hx).1⟩

end Go.Proofs.Ytfdcfcalbongeaa

namespace Go.Proofs.Ytfdcfcalbongeaa
open Go.RowKit

theorem heap_setCell (w : World) (g i : Nat) (v : Value) {cur : Array Value} {e : TypeId} {fr : Nat × Nat} (h : w.heap[g]? = some (.cells cur e fr)) :
    (w.setCell ⟨g, i, none⟩ v).heap[g]? = some (.cells (cur.setIfInBounds i v) e fr) := by
  simp [World.setCell, Array.getElem?_modify, h]
theorem sc_set (l : List (List UInt8)) (i : Nat) (p : List UInt8) : sc (l.set i p) = (sc l).set i (.string (bs p)) := by
  simp [sc, List.map_set]

theorem own_set {base : Nat} {w : World} {g n cap : Nat} {l : List (List UInt8)} (h : Own base w (.slice (some ⟨g, 0, none⟩) n cap) l) (i : Nat) (_ : i < l.length) (p : List UInt8) :
    Own base (w.setCell ⟨g, i, none⟩ (.string (bs p))) (.slice (some ⟨g, 0, none⟩) n cap) (l.set i p) := by
  rcases h.2 with ⟨e, _⟩ | ⟨g', cap', cur, e, hbg, hg, hn, hcm, hcs, htake⟩
  · cases e
  · injection e with e1 e2 e3
    injection e1 with e1
    injection e1 with e1 _ _
    subst e1
    subst e3
    refine ⟨by rw [sc_length]; simp, .inr ⟨g, cap, _, by rw [List.length_set, e2], hbg, heap_setCell w g i _ hg, by rw [List.length_set]; exact hn, hcm, by simpa using hcs, ?_⟩⟩
    rw [List.length_set, sc_set]
    have h2 : cur.toList.take (l.length * 1) = sc l := htake
    rw [← h2, Array.toList_setIfInBounds, List.take_set]
theorem own_cell {base : Nat} {w : World} {g n cap : Nat} {l : List (List UInt8)} (h : Own base w (.slice (some ⟨g, 0, none⟩) n cap) l) (i : Nat) (hi : i < l.length) :
    w.cell? ⟨g, i, none⟩ = some (.string (bs l[i])) ∧ w.frozen? ⟨g, i, none⟩ = false ∧ base ≤ g ∧ g < w.heap.size := by
  have hlt := h.lt (k := g) rfl
  refine ⟨?_, ?_, hlt⟩
  · have := World.ownsRow.cells h (g := g) rfl i (.string (bs l[i])) (by simp [sc_get, hi])
    rw [add_lit, Nat.zero_add] at this
    exact this
  · rcases h.2 with ⟨e, _⟩ | ⟨g', cap', cur, e, hbg, hg, _⟩
    · cases e
    · injection e with e1 e2 e3
      injection e1 with e1
      injection e1 with e1 _ _
      subst e1
      simp [World.frozen?, hg]
theorem bset {base : Nat} {w : World} (g i : Nat) (v : Value) (hg : base ≤ g) (hb : base ≤ w.heap.size) : Below base w (w.setCell ⟨g, i, none⟩ v) :=
  (Only.set w g i v).below hb (by simp; omega)

theorem set_mid (a : List (List UInt8)) (m : Nat) (z x : List UInt8) (hm : 0 < m) : (a ++ List.replicate m z).set a.length x = a ++ [x] ++ List.replicate (m - 1) z := by
  obtain ⟨k, rfl⟩ : ∃ k, m = k + 1 := ⟨m - 1, by omega⟩
  simp [List.replicate_succ]

/-- the texts, and thirty marks behind them -/
def lentL (L : List (List UInt8)) : List (List UInt8) := L ++ List.replicate 30 [63]
theorem lentL_length (L : List (List UInt8)) : (lentL L).length = L.length + 30 := by simp [lentL]

end Go.Proofs.Ytfdcfcalbongeaa
