/-
  The document's keys in memory: held against each other, in blocks, in rows.
  The document's cache: where a key is, what is a manifest's path.
  The document's texts: how many, and each.
  The document's Same: two lists of targets held against each other.
-/
import Derived.Test.YtddaoloabfkheaaGreatDoorJORead
import Derived.Test.YtddaoloabfkheaaGreatDoorRows3
import Derived.Test.YtddaoloabfkheaaGreatDoorJOBase
import Derived.Test.YtddaoloabfkheaaGreatDoorJJoin
namespace Go.Proofs.YtddaoloabfkheaaGreatDoor
open Go.RowKit

/-- Text, by definition -/
def textS (m : Int) (l : List UInt8) : List UInt8 × Int × List UInt8 :=
  if l.length < 4 then ([], 11, l) else if m < num (l.take 4) then ([], 12, l) else if l.length - 4 < num (l.take 4) then ([], 11, l) else ((l.drop 4).take (num (l.take 4)), 0, l.drop (4 + num (l.take 4)))

theorem num4 (l : List UInt8) : num (l.take 4) < 4294967296 := by
  have h1 := num_lt (l.take 4)
  have h2 : 256 ^ (l.take 4).length ≤ 256 ^ 4 := Nat.pow_le_pow_right (by omega) (by simp; omega)
  omega

set_option maxRecDepth 100000 in
set_option maxHeartbeats 400000 in
theorem text_short {w : World} {g d : Nat} {l : List UInt8} (h : RDo w g d l) (m : Int) (hl : l.length < 4) :
    Calls Tryz.prog 71 #[.pointer (some ⟨g, 0, none⟩), .int .i64 m] w fun e w' => e = .returned (.tuple #[.string ⟨#[]⟩, .int .i64 11]) ∧ w' = w := by
  have H : Hid (RDo w g d l) := h
  clear h
  go_enter Tryz.func71, Tryz.ntmps71
  go_wp2_with fail
  refine (peek_no H.out _ 4 rfl hl).mono ?_
  rintro e w1 ⟨rfl, rfl⟩
  go_wp2_with fail
  go_ret2
  exact ⟨rfl, rfl⟩

set_option maxRecDepth 100000 in
set_option maxHeartbeats 400000 in
theorem text_above {w : World} {g d : Nat} {l : List UInt8} (h : RDo w g d l) (m : Int) (hl : 4 ≤ l.length) (hm : m < num (l.take 4)) :
    Calls Tryz.prog 71 #[.pointer (some ⟨g, 0, none⟩), .int .i64 m] w fun e w' => e = .returned (.tuple #[.string ⟨#[]⟩, .int .i64 12]) ∧ w' = w := by
  have H : Hid (RDo w g d l) := h
  clear h
  have h4 := num4 l
  go_enter Tryz.func71, Tryz.ntmps71
  go_wp2_with fail
  refine (peek_at H.out _ 4 rfl (by omega) hl).mono ?_
  rintro e w1 ⟨rfl, rfl⟩
  generalize num (l.take 4) = x at *
  go_wp2_with fail
  go_ret2
  exact ⟨rfl, rfl⟩

theorem slice_to (d off len cap n : Nat) (h2 : n ≤ cap) :
    ∀ (z : Int), z = (n : Int) → ∀ u : World, (Instr.slice 41 (.slice (some ⟨d, off, none⟩) len cap) none (some (.int .i64 z)) none).run Tryz.prog u = .ok (.slice (some ⟨d, off, none⟩) n cap) u := by
  obtain ⟨i0, hi, hz0, hz1, hz2⟩ := info_parts info5
  intro z hz u
  subst hz
  rw [run_slice_h (P := Tryz.prog) u 41 (some ⟨d, off, none⟩) len cap (by rw [elem27]; exact und41) .i64 n (by omega) (by omega)]
  have hsz : (sizeOf 5).run Tryz.prog u = .ok 1 u := by simp [sizeOf, typeInfo, hi, hz1]
  rw [elem27, hsz]
  simp [sliced, add_lit]

set_option maxRecDepth 100000 in
set_option maxHeartbeats 400000 in
theorem text_long {w : World} {g d : Nat} {l : List UInt8} (h : RDo w g d l) (m : Int) (hl : 4 ≤ l.length) (hm : (num (l.take 4) : Int) ≤ m) (hn : l.length - 4 < num (l.take 4)) :
    Calls Tryz.prog 71 #[.pointer (some ⟨g, 0, none⟩), .int .i64 m] w fun e w' => e = .returned (.tuple #[.string ⟨#[]⟩, .int .i64 11]) ∧ w' = w := by
  have H : Hid (RDo w g d l) := h
  obtain ⟨off, cap, hc, hf, hlc, hgs, hds, hne, hb, hcell⟩ := h
  clear hcell hgs hds hne
  have h4 := num4 l
  obtain ⟨so, hso, hsl⟩ := slice_from d off l.length cap 4 hl hlc
  have hsl' := hsl 4 rfl
  clear hso hsl
  go_enter Tryz.func71, Tryz.ntmps71
  go_wp2_with fail
  refine (peek_at H.out _ 4 rfl (by omega) hl).mono ?_
  rintro e w1 ⟨rfl, rfl⟩
  generalize num (l.take 4) = x at *
  go_wp2_with fail
  go_ret2
  exact ⟨rfl, rfl⟩

set_option maxRecDepth 100000 in
set_option maxHeartbeats 400000 in
theorem text_ok {w : World} {g d : Nat} {l : List UInt8} (h : RDo w g d l) (m : Int) (hl : 4 ≤ l.length) (hm : (num (l.take 4) : Int) ≤ m) (hn : num (l.take 4) ≤ l.length - 4) :
    Calls Tryz.prog 71 #[.pointer (some ⟨g, 0, none⟩), .int .i64 m] w fun e w' => e = .returned (.tuple #[.string ⟨((l.drop 4).take (num (l.take 4))).toArray⟩, .int .i64 0]) ∧ RDo w' g d (l.drop (4 + num (l.take 4))) ∧ w.grownBy w' (some g) := by
  have H : Hid (RDo w g d l) := h
  obtain ⟨off, cap, hc, hf, hlc, hgs, hds, hne, hb, hcell⟩ := h
  have HC : Hid (∀ i u, (bc l)[i]? = some u → w.cell? ⟨d, off + i, none⟩ = some u) := hcell
  clear hcell hgs
  have h4 := num4 l
  obtain ⟨so, hso, hsl⟩ := slice_from d off l.length cap 4 hl hlc
  have HSO : Hid (4 < l.length → so = off + 4) := hso
  have hsl' := hsl 4 rfl
  clear hso hsl
  obtain ⟨x, hxe⟩ : ∃ x, num (l.take 4) = x := ⟨_, rfl⟩
  rw [hxe] at h4 hn hm ⊢
  have HX : Hid (num (l.take 4) = x) := hxe
  clear hxe
  go_enter Tryz.func71, Tryz.ntmps71
  go_wp2_with fail
  refine (peek_at H.out _ 4 rfl (by omega) hl).mono ?_
  rintro e w1 ⟨rfl, rfl⟩
  rw [HX.out]
  obtain ⟨so2, hso2, hsl2⟩ := slice_from d so (l.length - 4) (cap - 4) x hn (by omega)
  have HSO2 : Hid (x < l.length - 4 → so2 = so + x) := hso2
  have hsl2' := hsl2 x rfl
  have hst := slice_to d so (l.length - 4) (cap - 4) x (by omega) x rfl
  clear hso2 hsl2
  have HT : Hid (RDo (w1.setCell ⟨g, 0, none⟩ (.slice (some ⟨d, so2, none⟩) (l.length - (4 + x)) (cap - (4 + x)))) g d (l.drop (4 + x)) ∧ w1.grownBy (w1.setCell ⟨g, 0, none⟩ (.slice (some ⟨d, so2, none⟩) (l.length - (4 + x)) (cap - (4 + x)))) (some g)) :=
    H.out.take hc (4 + x) (by omega) so2 (fun h => by rw [HSO2.out (by omega), HSO.out (by omega)]; omega)
  have hconv : (convert 41 9 (.slice (some ⟨d, so, none⟩) x (cap - 4))).run Tryz.prog (w1.setCell ⟨g, 0, none⟩ (.slice (some ⟨d, so2, none⟩) (l.length - 4 - x) (cap - 4 - x))) = .ok (.string ⟨((l.drop 4).take x).toArray⟩) (w1.setCell ⟨g, 0, none⟩ (.slice (some ⟨d, so2, none⟩) (l.length - 4 - x) (cap - 4 - x))) := by
    refine conv_bs (.inr ⟨d, so, cap - 4, by simp; omega, by simp; omega, by simpa [World.setCell] using hds, fun i u hu => ?_⟩)
    rw [World.cell?_of_block (w := w1) (Below.heap_setCell _ _ _ _ hne)]
    have hi : i < x := by
      have := (List.getElem?_eq_some_iff.1 hu).1
      simp [bc_length] at this
      omega
    rw [HSO.out (by omega), Nat.add_assoc]
    refine HC.out (4 + i) u ?_
    rw [← hu, bc_get, bc_get, List.getElem?_take_of_lt hi, List.getElem?_drop]
  clear hds hne
  go_wp2_with fail
  go_ret2
  refine ⟨rfl, ?_⟩
  rw [Nat.sub_sub, Nat.sub_sub]
  exact HT.out

theorem text_any' {w : World} {g d : Nat} {l : List UInt8} (h : RDo w g d l) (m : Int) :
    Calls Tryz.prog 71 #[.pointer (some ⟨g, 0, none⟩), .int .i64 m] w fun e w' => e = .returned (.tuple #[.string ⟨(textS m l).1.toArray⟩, .int .i64 (textS m l).2.1]) ∧ RDo w' g d (textS m l).2.2 ∧ w.grownBy w' (some g) := by
  by_cases hl : l.length < 4
  · have hS : textS m l = ([], 11, l) := by unfold textS; rw [if_pos hl]
    rw [hS]
    refine (text_short h m hl).mono ?_
    rintro e w' ⟨rfl, rfl⟩
    exact ⟨rfl, h, grownBy_refl _ _⟩
  · by_cases hm : m < num (l.take 4)
    · have hS : textS m l = ([], 12, l) := by unfold textS; rw [if_neg hl, if_pos hm]
      rw [hS]
      refine (text_above h m (by omega) hm).mono ?_
      rintro e w' ⟨rfl, rfl⟩
      exact ⟨rfl, h, grownBy_refl _ _⟩
    · by_cases hn : l.length - 4 < num (l.take 4)
      · have hS : textS m l = ([], 11, l) := by unfold textS; rw [if_neg hl, if_neg hm, if_pos hn]
        rw [hS]
        refine (text_long h m (by omega) (by omega) hn).mono ?_
        rintro e w' ⟨rfl, rfl⟩
        exact ⟨rfl, h, grownBy_refl _ _⟩
      · have hS : textS m l = ((l.drop 4).take (num (l.take 4)), 0, l.drop (4 + num (l.take 4))) := by unfold textS; rw [if_neg hl, if_neg hm, if_neg hn]
        rw [hS]
        exact text_ok h m (by omega) (by omega) (by omega)

end Go.Proofs.YtddaoloabfkheaaGreatDoor

namespace Go.Proofs.YtddaoloabfkheaaGreatDoor
open Go.RowKit

/-- two keys held against each other -/
def keq (a b : Lb) : Bool := decide (a = b)
/-! ### frames -/
structure OnlyP (F : Nat → Prop) (w w' : World) : Prop where
  os : w'.os = w.os
  tape : w'.tape = w.tape
  output : w'.output = w.output
  size : w.heap.size ≤ w'.heap.size
  block : ∀ k, k < w.heap.size → ¬ F k → w'.heap[k]? = w.heap[k]?
theorem OnlyP.refl (F : Nat → Prop) (w : World) : OnlyP F w w := ⟨rfl, rfl, rfl, Nat.le_refl _, fun _ _ _ => rfl⟩
theorem OnlyP.of_below {a b : World} (h : Below a.heap.size a b) (F : Nat → Prop) : OnlyP F a b := ⟨h.os, h.tape, h.output, h.size, fun i hi _ => h.block i hi⟩
theorem OnlyP.of_only {S : List Nat} {F : Nat → Prop} {a b : World} (h : Only S a b) (hF : ∀ k, k ∈ S → k < a.heap.size → F k) : OnlyP F a b := ⟨h.os, h.tape, h.output, h.size, fun i hi hn => h.block i hi (fun e => hn (hF i e hi))⟩
theorem OnlyP.trans {F G : Nat → Prop} {a b c : World} (h : OnlyP F a b) (k : OnlyP G b c) (hG : ∀ i, i < a.heap.size → G i → F i) : OnlyP F a c :=
  ⟨k.os.trans h.os, k.tape.trans h.tape, k.output.trans h.output, Nat.le_trans h.size k.size, fun i hi hn => (k.block i (Nat.lt_of_lt_of_le hi h.size) (fun e => hn (hG i hi e))).trans (h.block i hi hn)⟩
theorem OnlyP.below {F : Nat → Prop} {a b : World} {B : Nat} (h : OnlyP F a b) (hB : B ≤ a.heap.size) (hF : ∀ k, F k → B ≤ k) : Below B a b :=
  ⟨h.os, h.tape, h.output, h.size, fun i hi => h.block i (by omega) (fun e => by have := hF i e; omega)⟩
/-- F, and what is new since w -/
abbrev nwF (F : Nat → Prop) (w w' : World) : Nat → Prop := fun k => F k ∨ w.heap.size ≤ k ∧ k < w'.heap.size
theorem LS.stay {w w' : World} {v : Value} {l : List Lb} (h : LS w v l) (hz : w.heap.size ≤ w'.heap.size) (hs : ∀ k, v.ownBlock = some k → w'.heap[k]? = w.heap[k]?) : LS w' v l := by
  rcases h with h | ⟨b, off, cap, rfl, hc, hlt, hcell⟩
  · exact .inl h
  · refine .inr ⟨b, off, cap, rfl, hc, Nat.lt_of_lt_of_le hlt hz, fun i u hu => ?_⟩
    have e := hs b rfl
    have := hcell i u hu
    unfold World.cell? at this ⊢
    simp only [e]
    exact this

/-! ### the document's cache -/
structure RC (w : World) (F : Nat → Prop) (g : Nat) (K : List Lb) : Prop where
  it : ∃ v, w.heap[g]? = some (.cells #[v] 56 (0, 0)) ∧ LS w v K ∧ (∀ k, v.ownBlock = some k → F k)
  own : F g
  lt : ∀ k, F k → k < w.heap.size
  ok : OKK K
section
variable {w w' : World} {F : Nat → Prop} {g : Nat} {K : List Lb}
end
end Go.Proofs.YtddaoloabfkheaaGreatDoor

namespace Go.Proofs.YtddaoloabfkheaaGreatDoor
open Go.RowKit

/-- where a key is; -1: nowhere -/
def kix (K : List Lb) (k : Lb) : Int := if k ∈ K then (K.idxOf k : Int) else -1
theorem kix_here {K : List Lb} {a : Lb} {k : Nat} (hk : k < K.length) (e : K[k] = a) (hn : ∀ x ∈ K.take k, x ≠ a) : kix K a = (k : Int) := by
  have hm : a ∈ K := e ▸ List.getElem_mem hk
  unfold kix
  rw [if_pos hm]
  have e2 : K = K.take k ++ a :: K.drop (k + 1) := by
    rw [← e, List.getElem_cons_drop, List.take_append_drop]
  have h3 : a ∉ K.take k := fun h => hn a h rfl
  rw [e2, List.idxOf_append, if_neg h3, List.length_take, List.idxOf_cons_self]
  omega
theorem kix_none {K : List Lb} {a : Lb} (hn : ∀ x ∈ K, x ≠ a) : kix K a = -1 := by
  unfold kix
  rw [if_neg (fun h => hn a h rfl)]
end Go.Proofs.YtddaoloabfkheaaGreatDoor

namespace Go.Proofs.YtddaoloabfkheaaGreatDoor
open Go.RowKit

theorem SS.at {w : World} {a : Option Addr} {c n : Nat} {l : List (List UInt8)} (h : SS w (.slice a n c) l) {wr : World} (hb : Below w.heap.size w wr) {k : Nat} (hk : k < l.length) : ∃ b off, a = some ⟨b, off, none⟩ ∧ b < w.heap.size ∧ wr.cell? ⟨b, off + k, none⟩ = some (.string (bs l[k])) := by
  obtain ⟨a', c', e, h2⟩ := h.form
  injection e with e1 e2 e3
  subst e1
  obtain ⟨b, off, e4, h3, h4⟩ := h2 k hk
  exact ⟨b, off, e4, h3, by rw [hb.cell (p := ⟨b, off + k, none⟩) h3]; exact h4⟩
theorem flat_one {α : Type} (f : α → List UInt8) {l : List α} {x : α} (hx : x ∈ l) : (f x).length ≤ (l.flatMap f).length := by
  induction l with
  | nil => simp at hx
  | cons y r ih =>
    rw [List.flatMap_cons, List.length_append]
    rcases List.mem_cons.1 hx with rfl | h
    · omega
    · have := ih h; omega
theorem txB_len (s : List UInt8) : (txB s).length = 4 + s.length := by simp [txB, le_length]
theorem OwnB.later {base : Nat} {w w' : World} {v : Value} {l : List UInt8} (h : OwnB base w v l) (hb : Below w.heap.size w w') : OwnB base w' v l := by
  rcases h with ⟨h0, h | ⟨g, cap, cur, rfl, hb1, hg, hr⟩⟩
  · exact ⟨h0, .inl h⟩
  · exact ⟨h0, .inr ⟨g, cap, cur, rfl, hb1, (hb.block g (Array.getElem?_eq_some_iff.1 hg).1).trans hg, hr⟩⟩

end Go.Proofs.YtddaoloabfkheaaGreatDoor

namespace Go.Proofs.YtddaoloabfkheaaGreatDoor
open Go.RowKit

/-- a target reads as -/
structure TRead (w : World) (v : Tv) (t : Tg) : Prop where
  name : v.name = t.name
  s : SS w v.s t.srcs
  d : LS w v.d t.deps
  e : SS w v.e t.see
theorem TRead.later {w w' : World} {v : Tv} {t : Tg} (h : TRead w v t) (hb : Below w.heap.size w w') : TRead w' v t := ⟨h.name, h.s.later hb, h.d.later hb, h.e.later hb⟩
def TsRead (w : World) : List Tv → List Tg → Prop
  | [], [] => True
  | a :: r, b :: q => TRead w a b ∧ TsRead w r q
  | _, _ => False
theorem TsRead.len {w : World} : ∀ {a : List Tv} {b : List Tg}, TsRead w a b → a.length = b.length
  | [], [], _ => rfl
  | _ :: _, _ :: _, h => by simp only [List.length_cons, h.2.len]
theorem TsRead.later {w w' : World} (hb : Below w.heap.size w w') : ∀ {a : List Tv} {b : List Tg}, TsRead w a b → TsRead w' a b
  | [], [], _ => trivial
  | _ :: _, _ :: _, h => ⟨h.1.later hb, TsRead.later hb h.2⟩
theorem TsRead.get {w : World} : ∀ {a : List Tv} {b : List Tg}, TsRead w a b → ∀ (k : Nat) (ha : k < a.length) (hb : k < b.length), TRead w a[k] b[k]
  | _ :: _, _ :: _, h, 0, _, _ => h.1
  | _ :: _, _ :: _, h, k + 1, ha, hb => TsRead.get h.2 k (by simpa using ha) (by simpa using hb)
theorem TOwn.read {base : Nat} {w : World} {v : Tv} {t : Tg} (h : TOwn base w v t) : TRead w v t := ⟨h.name, own_ss h.s, h.d.rs, own_ss h.e⟩
theorem TsOwn.read {base : Nat} {w : World} : ∀ {a : List Tv} {b : List Tg}, TsOwn base w a b → TsRead w a b
  | [], [], _ => trivial
  | _ :: _, _ :: _, h => ⟨h.1.read, h.2.read⟩
/-- a list of targets reads as -/
structure GR (w : World) (v : Value) (l : List Tg) : Prop where
  it : ∃ a : List Tv, GS w v a ∧ TsRead w a l
theorem GR.later {w w' : World} {v : Value} {l : List Tg} (h : GR w v l) (hb : Below w.heap.size w w') : GR w' v l := by
  obtain ⟨a, h1, h2⟩ := h.it; exact ⟨a, h1.later hb, TsRead.later hb h2⟩
theorem GOwn.read {base : Nat} {w : World} {v : Value} {l : List Tg} (h : GOwn base w v l) : GR w v l := by
  obtain ⟨a, h1, h2, _⟩ := h.it; exact ⟨a, h1.rs, h2.read⟩

set_option maxRecDepth 100000 in
set_option maxHeartbeats 1000000 in
theorem rlist_any {w : World} {va vb : Value} {A B : List (List UInt8)} (ha : SS w va A) (hb : SS w vb B) (hl : A.length ≤ 1000000000) (_hl2 : B.length ≤ 1000000000) :
    Calls Tryz.prog 38 #[va, vb] w fun e w' => e = .returned (.bool (decide (A = B))) ∧ ∃ n, w' = w.drewN n := by
  obtain ⟨R, hR⟩ : ∃ R, decide (A = B) = R := ⟨_, rfl⟩
  rw [hR]
  have HR : Hid (decide (A = B) = R) := hR
  clear hR
  obtain ⟨a, c, rfl, ca⟩ := ha.form
  obtain ⟨b, d, rfl, cb⟩ := hb.form
  have HA : Hid (∀ k, (hk : k < A.length) → ∃ b off, a = some ⟨b, off, none⟩ ∧ b < w.heap.size ∧ w.cell? ⟨b, off + k, none⟩ = some (.string (bs A[k]))) := ca
  have HB : Hid (∀ k, (hk : k < B.length) → ∃ b' off, b = some ⟨b', off, none⟩ ∧ b' < w.heap.size ∧ w.cell? ⟨b', off + k, none⟩ = some (.string (bs B[k]))) := cb
  clear ha hb ca cb
  by_cases hlen : A.length = B.length
  rotate_left
  · obtain rfl : R = false := by
      rw [← HR.out]; simp; intro e; exact hlen (by rw [e])
    have n1 : ((A.length : Int) != (B.length : Int)) = true := by simp; omega
    have n2 : ((A.length : Int) == (B.length : Int)) = false := by simp; omega
    have n3 : ¬ (A.length : Int) = (B.length : Int) := by omega
    clear HA HB
    go_enter Tryz.func38, Tryz.ntmps38
    go_wp2_with fail
    go_ret
    exact ⟨rfl, 0, rfl⟩
  obtain ⟨nA, hnA⟩ : ∃ nA, A.length = nA := ⟨_, rfl⟩
  have hnB : B.length = nA := by omega
  have HNA : Hid (A.length = nA ∧ B.length = nA) := ⟨hnA, hnB⟩
  rw [hnA, hnB]
  clear hlen
  rw [hnA] at hl
  clear hnA hnB
  go_enter Tryz.func38, Tryz.ntmps38
  go_wp2_with fail
  go_loopw [5] (fun i wr => ∃ k n : Nat, k ≤ nA ∧ i = .int .i64 k ∧ decide (A.drop k = B.drop k) = R ∧ wr = w.drewN n) (fun i _ => nA - (intOf i).toNat)
  case atStart => exact ⟨0, 0, Nat.zero_le _, rfl, by simpa using HR.out, rfl⟩
  case round =>
    obtain ⟨k, m, hk, rfl, hR, rfl⟩ := hrel
    have HRk : Hid (decide (A.drop k = B.drop k) = R) := hR
    clear hR
    by_cases hlt : k < nA
    · have hA : k < A.length := by have := HNA.out; omega
      have hB : k < B.length := by have := HNA.out; omega
      obtain ⟨b1, o1, rfl, h1, c1⟩ := HA.out k hA
      obtain ⟨b2, o2, rfl, h2, c2⟩ := HB.out k hB
      have i1 : (0 : Int) ≤ (k : Int) := by omega
      have i2 : (k : Int) < (nA : Int) := by omega
      have e1 := bs_toList A[k]
      have e2 := bs_toList B[k]
      have hd := drop_same hA hB
      by_cases he : A[k] = B[k]
      · have q1 : (A[k] == B[k]) = true := by rw [he]; simp
        have HR2 : Hid (decide (A.drop (k + 1) = B.drop (k + 1)) = R) := by
          show decide _ = R
          have := HRk.out
          rw [hd, he] at this; simpa using this
        clear he hd
        go_wp2_with fail
        go_quiet (fail)
        go_wp2_with fail
        go_roundw
        case rel => exact ⟨k + 1, _, hlt, rfl, HR2.out, rfl⟩
        case measure => simp only [intOf]; omega
      · have q1 : (A[k] == B[k]) = false := by simpa using he
        obtain rfl : R = false := by
          have := HRk.out
          rw [hd, decide_eq_false he] at this; simpa using this.symm
        clear he hd
        go_wp2_with fail
        go_quiet (fail)
        go_wp2_with fail
        go_ret
        exact ⟨rfl, _, World.drewN_drewN _ _ _⟩
    · obtain rfl : k = nA := by omega
      obtain rfl : R = true := by
        have := HRk.out
        rw [← this, List.drop_eq_nil_of_le (by have := HNA.out; omega), List.drop_eq_nil_of_le (by have := HNA.out; omega)]; simp
      go_wp2_with fail
      go_ret
      exact ⟨rfl, _, rfl⟩
end Go.Proofs.YtddaoloabfkheaaGreatDoor
