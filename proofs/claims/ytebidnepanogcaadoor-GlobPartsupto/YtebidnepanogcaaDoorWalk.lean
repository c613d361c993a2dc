import Derived.Test.YtebidnepanogcaaDoorLeaf
import Derived.Deep.LoopGhost
import Derived.Sort.Grow
namespace Go.Proofs.YtebidnepanogcaaDoor
open Go.RowKit

/-- What was there has not turned, but for the blocks of S. -/
structure Only (S : List Nat) (w w' : World) : Prop where
  os : w'.os = w.os
  tape : w'.tape = w.tape
  output : w'.output = w.output
  size : w.heap.size ≤ w'.heap.size
  block : ∀ k, k < w.heap.size → k ∉ S → w'.heap[k]? = w.heap[k]?

/-- What was there has not turned; it may have drawn. -/
structure Laid (w w' : World) : Prop where
  below : Below w.heap.size w w'
  drawn : w.drawn ≤ w'.drawn

theorem Only.refl (S : List Nat) (w : World) : Only S w w := ⟨rfl, rfl, rfl, Nat.le_refl _, fun _ _ _ => rfl⟩
theorem Only.trans {S : List Nat} {a b c : World} (h : Only S a b) (k : Only S b c) : Only S a c :=
  ⟨k.os.trans h.os, k.tape.trans h.tape, k.output.trans h.output, Nat.le_trans h.size k.size, fun i hi hn => (k.block i (Nat.lt_of_lt_of_le hi h.size) hn).trans (h.block i hi hn)⟩
theorem Only.mono {S T : List Nat} {a b : World} (h : Only S a b) (hs : ∀ k, k ∈ S → k ∈ T) : Only T a b :=
  ⟨h.os, h.tape, h.output, h.size, fun i hi hn => h.block i hi (fun e => hn (hs i e))⟩
theorem Only.of_below {a b : World} (h : Below a.heap.size a b) (S : List Nat) : Only S a b :=
  ⟨h.os, h.tape, h.output, h.size, fun i hi _ => h.block i hi⟩
theorem Only.below {S : List Nat} {a b : World} {B : Nat} (h : Only S a b) (hB : B ≤ a.heap.size) (hS : ∀ k, k ∈ S → B ≤ k) : Below B a b :=
  ⟨h.os, h.tape, h.output, h.size, fun i hi => h.block i (by omega) (fun e => by have := hS i e; omega)⟩
theorem Only.set (w : World) (g o : Nat) (v : Value) : Only [g] w (w.setCell ⟨g, o, none⟩ v) :=
  ⟨rfl, rfl, rfl, by simp [World.setCell], fun k _ hn => Below.heap_setCell _ _ _ _ (fun e => hn (by simp [e]))⟩
theorem Only.drew (S : List Nat) (w : World) (n : Nat) : Only S w (w.drewN n) := ⟨rfl, rfl, rfl, Nat.le_refl _, fun _ _ _ => rfl⟩
theorem balloc (w : World) (o : Obj) : Below w.heap.size w (w.alloc o) := (Below.refl _ _).alloc (Nat.le_refl _) o
theorem below_trans {B : Nat} {a b c : World} (h : Below B a b) (k : Below B b c) : Below B a c :=
  ⟨k.os.trans h.os, k.tape.trans h.tape, k.output.trans h.output, Nat.le_trans h.size k.size, fun i hi => (k.block i hi).trans (h.block i hi)⟩
theorem below_mono {B C : Nat} {a b : World} (h : Below C a b) (hBC : B ≤ C) : Below B a b :=
  ⟨h.os, h.tape, h.output, h.size, fun i hi => h.block i (by omega)⟩

/-- A walk in block g: the text that is left, and whether there is more. -/
structure WK (w : World) (g : Nat) (t : List UInt8) (m : Bool) : Prop where
  text : w.cell? ⟨g, 0, none⟩ = some (.string (bs t))
  more : w.cell? ⟨g, 1, none⟩ = some (.bool m)
  f0 : w.frozen? ⟨g, 0, none⟩ = false
  f1 : w.frozen? ⟨g, 1, none⟩ = false
  lt : g < w.heap.size

theorem WK.only {S : List Nat} {w w' : World} {g : Nat} {t : List UInt8} {m : Bool} (h : WK w g t m) (ho : Only S w w') (hg : g ∉ S) : WK w' g t m := by
  have hb := ho.block g h.lt hg
  exact ⟨by rw [World.cell?_of_block (w := w) hb]; exact h.text, by rw [World.cell?_of_block (w := w) hb]; exact h.more,
    by rw [World.frozen?_of_block (w := w) hb]; exact h.f0, by rw [World.frozen?_of_block (w := w) hb]; exact h.f1, Nat.lt_of_lt_of_le h.lt ho.size⟩
theorem WK.later {w w' : World} {g : Nat} {t : List UInt8} {m : Bool} (h : WK w g t m) (hb : Below w.heap.size w w') : WK w' g t m := h.only (Only.of_below hb []) (by simp)
theorem WK.new (w : World) (t : List UInt8) (m : Bool) (k : TypeId) : WK (w.alloc (.cells #[.string (bs t), .bool m] k)) w.heap.size t m :=
  ⟨by simp, by simp, by simp, by simp, by simp⟩
theorem WK.set {w : World} {g : Nat} {t : List UInt8} {m : Bool} (h : WK w g t m) (t' : List UInt8) (m' : Bool) :
    WK ((w.setCell ⟨g, 0, none⟩ (.string (bs t'))).setCell ⟨g, 1, none⟩ (.bool m')) g t' m' := by
  refine ⟨?_, ?_, by simpa using h.f0, by simpa using h.f1, by simpa using h.lt⟩
  · rw [World.cell?_setCell_other _ _ _ _ (by simp)]; exact World.cell?_setCell_same _ _ _ h.text
  · refine World.cell?_setCell_same _ _ _ (u := .bool m) ?_
    rw [World.cell?_setCell_other _ _ _ _ (by simp)]; exact h.more

theorem isE (l : List UInt8) : (bs l).toList.isEmpty = l.isEmpty := by rw [bs_toList]

set_option maxHeartbeats 1000000 in
theorem begin_any (l : List UInt8) (w : World) :
    Calls Tryd.prog 44 #[.string (bs l)] w fun e w' => e = .returned (.agg #[.string (bs l), .bool (!l.isEmpty)]) ∧ Laid w w' := by
  have he := isE l
  go_enter Tryd.func44, Tryd.ntmps44
  go_wp2_with fail
  refine bodyPost_ret (results_cell_row rfl _ _ w.heap.size 55 #[.string (bs l), .bool (!l.isEmpty)] (0, 0) _ rfl (heap_alloc_new _ _) Tryd.underlying55 rfl (by kernel_rfl)) rfl ?_
  exact ⟨rfl, balloc _ _, Nat.le_refl _⟩

theorem left_start (l : List UInt8) : left l (!l.isEmpty) = pcs l := by
  cases l <;> simp [left, pcs]

set_option maxHeartbeats 1000000 in
theorem next_any {w : World} {g : Nat} {t : List UInt8} {m : Bool} (h : WK w g t m) (hm : t.length ≤ 9223372036854775807) :
    Calls Tryd.prog 46 #[.pointer (some ⟨g, 0, none⟩)] w fun e w' => e = .returned (.string (bs (hd t))) ∧ WK w' g (tl t) (sl t) ∧ Only [g] w w' ∧ w.drawn ≤ w'.drawn := by
  have H : Hid (WK w g t m) := h
  obtain ⟨h0, h1, h2, h3, h4⟩ := h
  have HM : Hid (t.length ≤ 9223372036854775807) := hm
  clear hm
  go_enter Tryd.func46, Tryd.ntmps46
  go_wp2_with fail
  refine (cut_any _ _ HM.out).mono ?_
  rintro e w1 ⟨rfl, n, rfl⟩
  go_wp2_with fail
  go_ret
  exact ⟨rfl, (H.out.only (Only.drew [] w n) (by simp)).set _ _, ((Only.drew [g] w n).trans (Only.set _ _ _ _)).trans (Only.set _ _ _ _), Nat.le_add_right _ _⟩

end Go.Proofs.YtebidnepanogcaaDoor
