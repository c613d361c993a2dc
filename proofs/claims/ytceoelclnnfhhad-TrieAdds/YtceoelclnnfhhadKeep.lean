/-
  What no tree is made of stays.
-/
import Derived.Test.YtceoelclnnfhhadReach
import Derived.Test.YtceoelclnnfhhadFiles
namespace Go.Proofs.Ytceoelclnnfhhad
open Go.RowKit

/-- every block that is neither a node nor a map is what it was -/
structure AK (w w' : World) : Prop where
  os : w'.os = w.os
  tape : w'.tape = w.tape
  output : w'.output = w.output
  size : w.heap.size ≤ w'.heap.size
  block : ∀ (k : Nat) (cs : Array Value) (e : TypeId) (fr : Nat × Nat), w.heap[k]? = some (Obj.cells cs e fr) → e ≠ 58 → w'.heap[k]? = w.heap[k]?
theorem AK.refl (w : World) : AK w w := ⟨rfl, rfl, rfl, Nat.le_refl _, fun _ _ _ _ _ _ => rfl⟩
theorem AK.trans {a b c : World} (h : AK a b) (k : AK b c) : AK a c :=
  ⟨k.os.trans h.os, k.tape.trans h.tape, k.output.trans h.output, Nat.le_trans h.size k.size, fun i cs e fr hi he => (k.block i cs e fr ((h.block i cs e fr hi he).trans hi) he).trans (h.block i cs e fr hi he)⟩
theorem AK.of_below {a b : World} (h : Below a.heap.size a b) : AK a b :=
  ⟨h.os, h.tape, h.output, h.size, fun i _ _ _ hi _ => h.block i (Array.getElem?_eq_some_iff.1 hi).1⟩
theorem AK.node {a b : World} {g : Nat} {m : Option Nat} {c s o : Nat} (h : Only [g] a b) (n : ND a g m c s o) : AK a b :=
  ⟨h.os, h.tape, h.output, h.size, fun i cs e fr hi he => h.block i (Array.getElem?_eq_some_iff.1 hi).1 (by
    simp only [List.mem_singleton]
    rintro rfl
    rw [n.blk] at hi
    cases hi
    exact he rfl)⟩
theorem AK.map {a b : World} {g N : Nat} {F : List UInt8 → Option Nat} (h : Only [g] a b) (n : MP a N g F) : AK a b :=
  ⟨h.os, h.tape, h.output, h.size, fun i cs e fr hi _ => h.block i (Array.getElem?_eq_some_iff.1 hi).1 (by
    simp only [List.mem_singleton]
    rintro rfl
    obtain ⟨_, _, ⟨es, clock, hb, _⟩, _⟩ := n
    rw [hb] at hi; cases hi)⟩
theorem TB.ak {w w' : World} {t r : Nat} (h : TB w t r) (k : AK w w') : TB w' t r := h.block (k.block _ _ _ _ h.blk (by decide))
theorem SB.ak {w w' : World} {b h l : Nat} (s : SB w b h l) (k : AK w w') : SB w' b h l := s.block (k.block _ _ _ _ s.blk (by decide))
theorem Own.ak {base : Nat} {w w' : World} {v : Value} {l : List (List UInt8)} (h : Own base w v l) (k : AK w w') : Own base w' v l := by
  rcases h with ⟨h0, h | ⟨g, cap, cur, rfl, hb, hg, hr⟩⟩
  · exact ⟨h0, .inl h⟩
  · exact ⟨h0, .inr ⟨g, cap, cur, rfl, hb, (k.block _ _ _ _ hg (by decide)).trans hg, hr⟩⟩
theorem OwnF.ak {base : Nat} {w w' : World} {v : Value} {l : List Fl} (h : OwnF base w v l) (k : AK w w') : OwnF base w' v l := by
  rcases h with ⟨h0, h | ⟨g, cap, cur, rfl, hb, hg, hr⟩⟩
  · exact ⟨h0, .inl h⟩
  · exact ⟨h0, .inr ⟨g, cap, cur, rfl, hb, (k.block _ _ _ _ hg (by decide)).trans hg, hr⟩⟩
/-- a boxed file -/
structure XB (w : World) (g : Nat) (f : Fl) : Prop where
  blk : w.heap[g]? = some (.cells #[.string (bs f.path), .string (bs f.text), .int .i64 f.blob, .int .i64 f.size] 30 (0, 0))
theorem XB.new (w : World) (f : Fl) : XB (w.alloc (.cells #[.string (bs f.path), .string (bs f.text), .int .i64 f.blob, .int .i64 f.size] 30)) w.heap.size f := ⟨heap_alloc_new _ _⟩
theorem XB.lt {w : World} {g : Nat} {f : Fl} (h : XB w g f) : g < w.heap.size := (Array.getElem?_eq_some_iff.1 h.blk).1
theorem XB.block {w w' : World} {g : Nat} {f : Fl} (h : XB w g f) (e : w'.heap[g]? = w.heap[g]?) : XB w' g f := ⟨e.trans h.blk⟩
theorem XB.ak {w w' : World} {g : Nat} {f : Fl} (h : XB w g f) (k : AK w w') : XB w' g f := h.block (k.block _ _ _ _ h.blk (by decide))
theorem XB.later {w w' : World} {g : Nat} {f : Fl} (h : XB w g f) (hb : Below w.heap.size w w') : XB w' g f := h.block (hb.block g h.lt)
theorem XB.cells {w : World} {g : Nat} {f : Fl} (h : XB w g f) : w.cell? ⟨g, 0, none⟩ = some (.string (bs f.path)) ∧ w.cell? ⟨g, 1, none⟩ = some (.string (bs f.text)) ∧ w.cell? ⟨g, 2, none⟩ = some (.int .i64 f.blob) ∧ w.cell? ⟨g, 3, none⟩ = some (.int .i64 f.size) := by
  refine ⟨?_, ?_, ?_, ?_⟩ <;> simp [World.cell?, h.blk]
end Go.Proofs.Ytceoelclnnfhhad
