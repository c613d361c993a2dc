import Derived.Test.YtfdcfcalbongeaaGreatJPRef
import Derived.Test.YtfdcfcalbongeaaGreatJFil
import Derived.Deep.RegionHeld3
import Derived.Test.YtfdcfcalbongeaaGreatSPkg
import Derived.Laws.BitsLemmas
import Derived.Deep.DeepCutAuto
import Derived.Deep.OwnRows
import Derived.Laws.OwnMore
namespace Go.Proofs.YtfdcfcalbongeaaGreat
open Go.RowKit

theorem SS.tail {w : World} {a : Option Addr} {c n : Nat} {x : List UInt8} {A : List (List UInt8)} (h : SS w (.slice a n c) (x :: A)) :
    ∃ b off, a = some ⟨b, off, none⟩ ∧ b < w.heap.size ∧ n = A.length + 1 ∧ n ≤ c ∧ w.cell? ⟨b, off, none⟩ = some (.string (bs x)) ∧ SS w (.slice (some ⟨b, off, none⟩) 1 c) [x] ∧ SS w (.slice (some ⟨b, off + 1, none⟩) (n - 1) (c - 1)) A := by
  rcases h with ⟨_, h0⟩ | ⟨b, off, cap, e, hc, hlt, hcell⟩
  · cases h0
  · injection e with e1 e2 e3
    subst e1
    subst e3
    have hn : n = A.length + 1 := by simpa using e2
    have hc' : n ≤ c := by simp at hc; omega
    have h0 := hcell 0 (.string (bs x)) (by simp [sc])
    refine ⟨b, off, rfl, hlt, hn, hc', h0, .inr ⟨b, off, c, rfl, by simp; omega, hlt, fun i u hu => ?_⟩, .inr ⟨b, off + 1, c - 1, by rw [hn]; rfl, by omega, hlt, fun i u hu => ?_⟩⟩
    · cases i with
      | zero => simp [sc] at hu; subst hu; exact h0
      | succ i => simp [sc] at hu
    · have := hcell (i + 1) u (by simpa [sc] using hu)
      rw [show off + 1 + i = off + (i + 1) by omega]; exact this

theorem SS.zero {w : World} {p : Option Addr} {n c : Nat} {A : List (List UInt8)} (h : SS w (.slice p n c) A) (hc : n ≤ c) (h0 : c = 0) (p' : Option Addr) (c' : Nat) : SS w (.slice p' n c') A := by
  have hn : n = 0 := by omega
  subst hn
  refine .inl ⟨⟨_, _, rfl⟩, ?_⟩
  obtain ⟨a, c2, e, _⟩ := h.form
  injection e with _ e2 _
  exact List.eq_nil_of_length_eq_zero e2.symm
theorem bdrw {B : Nat} {w w1 : World} (h : Below B w w1) : Below B w w1.drew := ⟨h.os, h.tape, h.output, h.size, h.block⟩

theorem SS.len {w : World} {v : Value} {L : List (List UInt8)} (h : SS w v L) : ∃ a c, v = .slice a L.length c := by
  obtain ⟨a, c, e, _⟩ := h.form
  exact ⟨a, c, e⟩
theorem SS.len' {w : World} {v : Value} {L : List (List UInt8)} (h : SS w v L) : ∃ a c n, n = L.length ∧ v = .slice a n c := by
  obtain ⟨a, c, e, _⟩ := h.form
  exact ⟨a, c, _, rfl, e⟩
theorem SS.own {w : World} {v : Value} {L : List (List UInt8)} (h : SS w v L) {B : Nat} (hB : w.heap.size ≤ B) : ∀ k, v.ownBlock = some k → k < B ∨ L = [] := by
  intro k hk
  rcases h with ⟨⟨a, c, rfl⟩, h0⟩ | ⟨b, off, cap, rfl, hc, hlt, hcell⟩
  · exact .inr h0
  · simp [Value.ownBlock] at hk; subst hk; exact .inl (by omega)
theorem SS.kept {w w' : World} {v : Value} {l : List (List UInt8)} {B : Nat} (h : SS w v l) (hB : w.heap.size ≤ B) (hb : Below B w w') : SS w' v l := by
  rcases h with h | ⟨b, off, cap, rfl, hc, hlt, hcell⟩
  · exact .inl h
  · refine .inr ⟨b, off, cap, rfl, hc, Nat.lt_of_lt_of_le hlt hb.size, fun i u hu => ?_⟩
    rw [hb.cell (p := ⟨b, off + i, none⟩) (by show b < B; omega)]; exact hcell i u hu

end Go.Proofs.YtfdcfcalbongeaaGreat

namespace Go.Proofs.YtfdcfcalbongeaaGreat
open Go.RowKit Go.Sort Go.Lib

/-
  A list brought into its order, each text once.
-/

theorem slaid_grow {w w' : World} (h : Laid w w') : ∃ q os, w' = grow (w.drewN q) os := by
  refine ⟨w'.drawn - w.drawn, w'.heap.extract w.heap.size w'.heap.size, ?_⟩
  obtain ⟨hb, hd⟩ := h
  have hh : w'.heap = w.heap ++ w'.heap.extract w.heap.size w'.heap.size := by
    apply Array.ext_getElem?
    intro i
    rw [Array.getElem?_append]
    by_cases hi : i < w.heap.size
    · rw [if_pos hi]; exact hb.block i hi
    · rw [if_neg hi]
      have hs := hb.size
      by_cases hj : i < w'.heap.size
      · rw [Array.getElem?_extract_of_lt (by omega)]
        simp [Array.getElem?_eq_getElem hj, show w.heap.size + (i - w.heap.size) = i by omega]
      · rw [Array.getElem?_eq_none (by omega), Array.getElem?_eq_none (by simp; omega)]
  have e1 := hb.os
  have e2 := hb.tape
  have e3 := hb.output
  cases w' with
  | mk heap tape drawn os output =>
    cases w with
    | mk heap0 tape0 drawn0 os0 output0 =>
      simp only at hh e1 e2 e3 hd
      simp only [grow, World.drewN]
      subst e1 e2 e3
      congr 1
      omega


theorem Own.cut {base : Nat} {w : World} {g n cap : Nat} {l : List (List UInt8)} (h : Own base w (.slice (some ⟨g, 0, none⟩) n cap) l) (k : Nat) (hk : k ≤ l.length) : Own base w (.slice (some ⟨g, 0, none⟩) k cap) (l.take k) := by
  rcases h.2 with ⟨e, _⟩ | ⟨g', cap', cur, e, hbg, hg, hn, hcm, hcs, htake⟩
  · cases e
  · injection e with e1 e2 e3
    injection e1 with e1
    injection e1 with e1 _ _
    subst e1
    subst e3
    have hlk : (l.take k).length = k := by simp; omega
    refine ⟨by rw [sc_length]; simp, .inr ⟨g, cap, cur, by rw [hlk], hbg, hg, by omega, hcm, hcs, ?_⟩⟩
    rw [hlk]
    have h2 : cur.toList.take (l.length * 1) = sc l := htake
    rw [Nat.mul_one] at h2 ⊢
    have h3 : cur.toList.take k = (cur.toList.take l.length).take k := by rw [List.take_take]; congr 1; omega
    rw [h3, h2]
    simp [sc]

end Go.Proofs.YtfdcfcalbongeaaGreat

namespace Go.Proofs.YtfdcfcalbongeaaGreat
open Go.RowKit

theorem Sm.som {a b : List (List UInt8)} (i : Bool) (h : Sm a) : Sm (som a b i) :=
  ⟨Nat.le_trans (norm_len _) (Nat.le_trans (List.length_filter_le _ _) h.len), fun x hx => h.each x (by
    cases i
    · exact (mem_mns.1 hx).1
    · exact (mem_met.1 hx).1)⟩
theorem Own.ss {base : Nat} {w : World} {v : Value} {l : List (List UInt8)} (h : Own base w v l) : SS w v l := h.bs

theorem dir_len (l : List UInt8) : (dir l).length ≤ l.length := by
  unfold dir; split
  · simp
  · simp; omega
theorem Sm.dirs {l : List (List UInt8)} (h : Sm l) : Sm (l.map dir) := ⟨by simpa using h.len, fun x hx => by
  obtain ⟨y, hy, rfl⟩ := List.mem_map.1 hx
  exact Nat.le_trans (dir_len y) (h.each y hy)⟩
theorem take_map_succ (L : List (List UInt8)) (k : Nat) (h : k < L.length) : (L.take (k + 1)).map dir = (L.take k).map dir ++ [dir (L[k]'h)] := by
  rw [List.take_add_one, List.getElem?_eq_getElem h, List.map_append]; rfl

theorem SS.form' {w : World} {v : Value} {L : List (List UInt8)} (h : SS w v L) : ∃ a c n, n = L.length ∧ v = .slice a n c ∧ (∀ k, (hk : k < L.length) → ∃ b off, a = some ⟨b, off, none⟩ ∧ b < w.heap.size ∧ w.cell? ⟨b, off + k, none⟩ = some (.string (bs L[k]))) := by
  obtain ⟨a, c, e, hc⟩ := h.form
  exact ⟨a, c, _, rfl, e, hc⟩

theorem take_snoc (L : List (List UInt8)) (k : Nat) (h : k < L.length) : L.take (k + 1) = L.take k ++ [L[k]'h] := by
  rw [List.take_add_one, List.getElem?_eq_getElem h]; rfl
theorem hds_take {L : List (List UInt8)} (hu : Up L) (k : Nat) (h : k < L.length) :
    hds (L.take (k + 1)) = if (match (hds (L.take k)).getLast? with | none => true | some q => !abvV q (L[k]'h)) then hds (L.take k) ++ [L[k]'h] else hds (L.take k) := by
  rw [take_snoc L k h]
  refine hds_snoc ?_
  rw [← take_snoc L k h]
  exact List.Pairwise.sublist (List.take_sublist _ _) hu
theorem hds_len (L : List (List UInt8)) : (hds L).length ≤ L.length := List.length_filter_le _ _
theorem Sm.take {l : List (List UInt8)} (h : Sm l) (k : Nat) : Sm (l.take k) := ⟨by have := h.len; simp; omega, fun x hx => h.each x (List.mem_of_mem_take hx)⟩
theorem Sm.hds {l : List (List UInt8)} (h : Sm l) : Sm (hds l) := ⟨Nat.le_trans (hds_len l) h.len, fun x hx => h.each x (mem_hds.1 hx).1⟩

end Go.Proofs.YtfdcfcalbongeaaGreat

namespace Go.Proofs.YtfdcfcalbongeaaGreat
open Go.RowKit

theorem ss_lit (w : World) (l : List (List UInt8)) (n : Nat) (hn : n = l.length) : SS (w.alloc (.cells (sc l).toArray 9)) (.slice (some ⟨w.heap.size, 0, none⟩) n n) l := by
  subst hn
  refine .inr ⟨w.heap.size, 0, l.length, rfl, Nat.le_refl _, by simp, fun i u hu => ?_⟩
  simp
  simpa using hu

theorem norm_lit : norm [[97, 45, 98], [97, 47, 98], [97]] = [[97], [97, 47, 98], [97, 45, 98]] := by decide
theorem heads_lit : hds (norm [[97, 47, 98], [97]]) = [[97]] := by decide

end Go.Proofs.YtfdcfcalbongeaaGreat

namespace Go.Proofs.YtfdcfcalbongeaaGreat
open Go.RowKit

/-- does a statement begin with this region? -/
def beg (n : Nat) : Code → Bool
  | .region m _ _ => m == n
  | .seq a _ => beg n a
  | .block _ c => beg n c
  | .loop c => beg n c
  | .scope c => beg n c
  | _ => false
/-- what stands from there on -/
def suff (n : Nat) : Code → Code
  | .seq a b => if beg n a then .seq a b else suff n b
  | c => c
/-- what the laws answer -/
def Good (w : World) (e : Ending) (w' : World) : Prop := e = .returned (.bool true) ∧ Below w.heap.size w w'

theorem above_grow {w : World} {p q : List UInt8} {r : Bool} (hp : p.length ≤ 1000000000) (hq : q.length ≤ 1000000000) (hr : abvV p q = r) (X : GW w) :
    Calls Tryz.prog 44 #[.string (bs p), .string (bs q)] X.it fun e w' => e = .returned (.bool r) ∧ ∃ Y : GW w, w' = Y.it :=
  (above_any p q X.it (by omega) (by omega)).mono fun _ w' ⟨he, hl⟩ => ⟨by rw [← hr]; exact he, ⟨w', bstep X.below hl.below⟩, rfl⟩
theorem bdN {B : Nat} {w w1 : World} {n : Nat} (h : Below B w w1) : Below B w (w1.drewN n) := ⟨h.os, h.tape, h.output, h.size, h.block⟩
/-- the two lists, and how far the world has grown -/
structure St (w wc : World) (va vb : Value) (A B : List (List UInt8)) : Prop where
  below : Below w.heap.size w wc
  a : SS wc va A
  b : SS wc vb B
  sa : Sm A
  sb : Sm B
theorem St.later {w wc wd : World} {va vb : Value} {A B : List (List UInt8)} (h : St w wc va vb A B) (k : Below wc.heap.size wc wd) : St w wd va vb A B :=
  ⟨bstep h.below k, h.a.later k, h.b.later k, h.sa, h.sb⟩
/-- the five sets -/
structure S5 (wc : World) (A B : List (List UInt8)) (vn vm vu vi vd : Value) : Prop where
  n : SS wc vn (norm A)
  m : SS wc vm (norm B)
  u : SS wc vu (uni A B)
  i : SS wc vi (som A B true)
  d : SS wc vd (som A B false)
theorem S5.later {wc wd : World} {A B : List (List UInt8)} {vn vm vu vi vd : Value} (h : S5 wc A B vn vm vu vi vd) (k : Below wc.heap.size wc wd) : S5 wd A B vn vm vu vi vd :=
  ⟨h.n.later k, h.m.later k, h.u.later k, h.i.later k, h.d.later k⟩
theorem uni_len (A B : List (List UInt8)) (ha : Sm A) (hb : Sm B) : (uni A B).length ≤ 8000000 := by
  have := norm_len (A ++ B)
  have h1 := ha.len
  have h2 := hb.len
  unfold uni
  rw [List.length_append] at this
  omega
theorem uni_each (A B : List (List UInt8)) (ha : Sm A) (hb : Sm B) : ∀ x ∈ uni A B, x.length ≤ 1000000000 := fun x hx => by
  rcases mem_uni.1 hx with h | h
  · exact ha.each x h
  · exact hb.each x h
theorem drs_sm {A : List (List UInt8)} (h : Sm A) : Sm (drs A) := h.dirs.norm
end Go.Proofs.YtfdcfcalbongeaaGreat

namespace Go.Proofs.YtfdcfcalbongeaaGreat
open Go.RowKit

set_option maxHeartbeats 1000000 in
set_option maxRecDepth 100000 in
theorem rhas_any {w : World} {v : Value} {L : List (List UInt8)} (p : List UInt8) (h : SS w v L) (hL : L.length ≤ 8000000) :
    Calls Tryz.prog 15 #[v, .string (bs p)] w fun e w' => e = .returned (.bool (decide (p ∈ L))) ∧ w' = w := by
  obtain ⟨a, c, n, hn, rfl, ca⟩ := h.form'
  have CA : Hid (∀ k, (hk : k < L.length) → ∃ b off, a = some ⟨b, off, none⟩ ∧ b < w.heap.size ∧ w.cell? ⟨b, off + k, none⟩ = some (.string (bs L[k]))) := ca
  obtain ⟨r, hr⟩ : ∃ r, decide (p ∈ L) = r := ⟨_, rfl⟩
  rw [hr]
  have HR : Hid (decide (p ∈ L) = r) := hr
  have HN : Hid (n = L.length) := hn
  have hnl : n ≤ 8000000 := by omega
  clear ca h hr hn hL
  go_enter Tryz.func15, Tryz.ntmps15
  go_wp2_with fail
  go_loop [5] (fun i => ∃ k : Nat, k ≤ n ∧ i = .int .i64 k ∧ ∀ j, (hj : j < L.length) → j < k → L[j] ≠ p) (fun i => n - (intOf i).toNat)
  case atStart => exact ⟨0, Nat.zero_le _, rfl, fun j _ hj => absurd hj (Nat.not_lt_zero _)⟩
  case round =>
    obtain ⟨k, hk, rfl, hno⟩ := hrel
    have HNO : Hid (∀ j, (hj : j < L.length) → j < k → L[j] ≠ p) := hno
    clear hno
    by_cases hlt : k < n
    · have hlt2 : k < L.length := by have := HN.out; omega
      obtain ⟨g1, o1, rfl, hg1, c1⟩ := CA.out k hlt2
      by_cases heq : L[k]'hlt2 = p
      · have t1 : (bs p).toList = p := bs_toList _
        have t2 : (bs (L[k]'hlt2)).toList = p := by rw [bs_toList, heq]
        have HE : Hid (L[k]'hlt2 = p) := heq
        clear heq
        go_wp2_with fail
        go_ret
        have : p ∈ L := by rw [← HE.out]; exact List.getElem_mem _
        exact ⟨by rw [← HR.out, decide_eq_true this]; rfl, rfl⟩
      · have t1 : (bs p).toList = p := bs_toList _
        have t2 : (bs (L[k]'hlt2)).toList = L[k]'hlt2 := bs_toList _
        have t3 : ((L[k]'hlt2) == p) = false := by rw [beq_eq_false_iff_ne]; exact heq
        have HE : Hid (L[k]'hlt2 ≠ p) := heq
        clear heq
        go_wp2_with fail
        go_round
        case rel =>
          refine ⟨k + 1, by omega, by go_num, fun j hj hjk => ?_⟩
          by_cases e : j = k
          · subst e; exact HE.out
          · exact HNO.out j hj (by omega)
        case measure => simp [intOf]; omega
    · go_wp2_with fail
      go_ret
      have : p ∉ L := fun hp => by
        obtain ⟨j, hj, e⟩ := List.getElem_of_mem hp
        exact HNO.out j hj (by have := HN.out; omega) e
      exact ⟨by rw [← HR.out, decide_eq_false this]; rfl, rfl⟩

theorem rcmp_grow {w : World} {p q : List UInt8} {o : Int} (hp : p.length ≤ 1000000000) (hq : q.length ≤ 1000000000) (ho : cf p q = o) (X : GW w) :
    Calls Tryz.prog 33 #[.string (bs p), .string (bs q)] X.it fun e w' => e = .returned (.int .i64 o) ∧ ∃ Y : GW w, w' = Y.it :=
  (rcmp_any p q X.it (by omega) (by omega)).mono fun _ w' ⟨he, hb⟩ => ⟨by rw [← ho]; exact he, ⟨w', bstep X.below hb⟩, rfl⟩
theorem ins_len (x : List UInt8) (m : List (List UInt8)) : (ins x m).length ≤ m.length + 1 := by
  induction m with
  | nil => simp [ins]
  | cons y m ih =>
    unfold ins
    split
    · simp
    · split
      · simp
      · simp; omega

end Go.Proofs.YtfdcfcalbongeaaGreat

namespace Go.Proofs.YtfdcfcalbongeaaGreat
open Go.RowKit

theorem filter_take (f : List UInt8 → Bool) (L : List (List UInt8)) (k : Nat) (h : k < L.length) : (L.take (k + 1)).filter f = (L.take k).filter f ++ (if f (L[k]'h) then [L[k]'h] else []) := by
  rw [take_snoc L k h, List.filter_append]
  congr 1
  cases hf : f (L[k]'h) <;> simp [hf]
theorem Sm.filter {l : List (List UInt8)} (h : Sm l) (f : List UInt8 → Bool) : Sm (l.filter f) := ⟨Nat.le_trans (List.length_filter_le _ _) h.len, fun x hx => h.each x (List.mem_filter.1 hx).1⟩

end Go.Proofs.YtfdcfcalbongeaaGreat

namespace Go.Proofs.YtfdcfcalbongeaaGreat
open Go.RowKit

theorem heap_setCell (w : World) (g i : Nat) (v : Value) {cur : Array Value} {e : TypeId} {fr : Nat × Nat} (h : w.heap[g]? = some (.cells cur e fr)) :
    (w.setCell ⟨g, i, none⟩ v).heap[g]? = some (.cells (cur.setIfInBounds i v) e fr) := by
  simp [World.setCell, Array.getElem?_modify, h]
theorem sc_set (l : List (List UInt8)) (i : Nat) (p : List UInt8) : sc (l.set i p) = (sc l).set i (.string (bs p)) := by
  simp [sc, List.map_set]

theorem own_set {base : Nat} {w : World} {g n cap : Nat} {l : List (List UInt8)} (h : Own base w (.slice (some ⟨g, 0, none⟩) n cap) l) (i : Nat) (_ : i < l.length) (p : List UInt8) :
    Own base (w.setCell ⟨g, i, none⟩ (.string (bs p))) (.slice (some ⟨g, 0, none⟩) n cap) (l.set i p) := by
  rcases h.2 with ⟨e, _⟩ | ⟨g', cap', cur, e, hbg, hg, hn, hcm, hcs, htake⟩
  · cases e
  · injection e with e1 e2 e3
    injection e1 with e1
    injection e1 with e1 _ _
    subst e1
    subst e3
    refine ⟨by rw [sc_length]; simp, .inr ⟨g, cap, _, by rw [List.length_set, e2], hbg, heap_setCell w g i _ hg, by rw [List.length_set]; exact hn, hcm, by simpa using hcs, ?_⟩⟩
    rw [List.length_set, sc_set]
    have h2 : cur.toList.take (l.length * 1) = sc l := htake
    rw [← h2, Array.toList_setIfInBounds, List.take_set]
theorem own_cell {base : Nat} {w : World} {g n cap : Nat} {l : List (List UInt8)} (h : Own base w (.slice (some ⟨g, 0, none⟩) n cap) l) (i : Nat) (hi : i < l.length) :
    w.cell? ⟨g, i, none⟩ = some (.string (bs l[i])) ∧ w.frozen? ⟨g, i, none⟩ = false ∧ base ≤ g ∧ g < w.heap.size := by
  have hlt := h.lt (k := g) rfl
  refine ⟨?_, ?_, hlt⟩
  · have := World.ownsRow.cells h (g := g) rfl i (.string (bs l[i])) (by simp [sc_get, hi])
    rw [add_lit, Nat.zero_add] at this
    exact this
  · rcases h.2 with ⟨e, _⟩ | ⟨g', cap', cur, e, hbg, hg, _⟩
    · cases e
    · injection e with e1 e2 e3
      injection e1 with e1
      injection e1 with e1 _ _
      subst e1
      simp [World.frozen?, hg]
theorem bset {base : Nat} {w : World} (g i : Nat) (v : Value) (hg : base ≤ g) (hb : base ≤ w.heap.size) : Below base w (w.setCell ⟨g, i, none⟩ v) :=
  (Only.set w g i v).below hb (by simp; omega)

theorem set_mid (a : List (List UInt8)) (m : Nat) (z x : List UInt8) (hm : 0 < m) : (a ++ List.replicate m z).set a.length x = a ++ [x] ++ List.replicate (m - 1) z := by
  obtain ⟨k, rfl⟩ : ∃ k, m = k + 1 := ⟨m - 1, by omega⟩
  simp [List.replicate_succ]

/-- the texts, and thirty marks behind them -/
def lentL (L : List (List UInt8)) : List (List UInt8) := L ++ List.replicate 30 [63]
theorem lentL_length (L : List (List UInt8)) : (lentL L).length = L.length + 30 := by simp [lentL]

end Go.Proofs.YtfdcfcalbongeaaGreat
