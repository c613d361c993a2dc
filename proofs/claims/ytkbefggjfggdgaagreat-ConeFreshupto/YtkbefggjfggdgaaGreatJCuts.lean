/-
-/
import Derived.Test.YtkbefggjfggdgaaGreatSPkg
import Derived.Test.YtkbefggjfggdgaaGreatPPkg
import Derived.Laws.BitsLemmas
import Derived.Deep.DeepCutAuto
namespace Go.Proofs.YtkbefggjfggdgaaGreat
open Go.RowKit

theorem ss_lit (w : World) (l : List (List UInt8)) (n : Nat) (hn : n = l.length) : SS (w.alloc (.cells (sc l).toArray 9)) (.slice (some ⟨w.heap.size, 0, none⟩) n n) l := by
  subst hn
  refine .inr ⟨w.heap.size, 0, l.length, rfl, Nat.le_refl _, by simp, fun i u hu => ?_⟩
  simp
  simpa using hu

theorem norm_lit : norm [[97, 45, 98], [97, 47, 98], [97]] = [[97], [97, 47, 98], [97, 45, 98]] := by decide
theorem heads_lit : hds (norm [[97, 47, 98], [97]]) = [[97]] := by decide

end Go.Proofs.YtkbefggjfggdgaaGreat

namespace Go.Proofs.YtkbefggjfggdgaaGreat
open Go.RowKit

/-- does a statement begin with this region? -/
def beg (n : Nat) : Code → Bool
  | .region m _ _ => m == n
  | .seq a _ => beg n a
  | .block _ c => beg n c
  | .loop c => beg n c
  | .scope c => beg n c
  | _ => false
/-- what stands from there on -/
def suff (n : Nat) : Code → Code
  | .seq a b => if beg n a then .seq a b else suff n b
  | c => c
/-- what the laws answer -/
def Good (w : World) (e : Ending) (w' : World) : Prop := e = .returned (.bool true) ∧ Below w.heap.size w w'

theorem above_grow {w : World} {p q : List UInt8} {r : Bool} (hp : p.length ≤ 1000000000) (hq : q.length ≤ 1000000000) (hr : abvV p q = r) (X : GW w) :
    Calls Tryz.prog 54 #[.string (bs p), .string (bs q)] X.it fun e w' => e = .returned (.bool r) ∧ ∃ Y : GW w, w' = Y.it :=
  (above_any p q X.it (by omega) (by omega)).mono fun _ w' ⟨he, hl⟩ => ⟨by rw [← hr]; exact he, ⟨w', bstep X.below hl.below⟩, rfl⟩
theorem bdN {B : Nat} {w w1 : World} {n : Nat} (h : Below B w w1) : Below B w (w1.drewN n) := ⟨h.os, h.tape, h.output, h.size, h.block⟩
/-- the two lists, and how far the world has grown -/
structure St (w wc : World) (va vb : Value) (A B : List (List UInt8)) : Prop where
  below : Below w.heap.size w wc
  a : SS wc va A
  b : SS wc vb B
  sa : Sm A
  sb : Sm B
theorem St.later {w wc wd : World} {va vb : Value} {A B : List (List UInt8)} (h : St w wc va vb A B) (k : Below wc.heap.size wc wd) : St w wd va vb A B :=
  ⟨bstep h.below k, h.a.later k, h.b.later k, h.sa, h.sb⟩
/-- the five sets -/
structure S5 (wc : World) (A B : List (List UInt8)) (vn vm vu vi vd : Value) : Prop where
  n : SS wc vn (norm A)
  m : SS wc vm (norm B)
  u : SS wc vu (uni A B)
  i : SS wc vi (som A B true)
  d : SS wc vd (som A B false)
theorem S5.later {wc wd : World} {A B : List (List UInt8)} {vn vm vu vi vd : Value} (h : S5 wc A B vn vm vu vi vd) (k : Below wc.heap.size wc wd) : S5 wd A B vn vm vu vi vd :=
  ⟨h.n.later k, h.m.later k, h.u.later k, h.i.later k, h.d.later k⟩
theorem uni_len (A B : List (List UInt8)) (ha : Sm A) (hb : Sm B) : (uni A B).length ≤ 8000000 := by
  have := norm_len (A ++ B)
  have h1 := ha.len
  have h2 := hb.len
  unfold uni
  rw [List.length_append] at this
  omega
theorem uni_each (A B : List (List UInt8)) (ha : Sm A) (hb : Sm B) : ∀ x ∈ uni A B, x.length ≤ 1000000000 := fun x hx => by
  rcases mem_uni.1 hx with h | h
  · exact ha.each x h
  · exact hb.each x h
theorem drs_sm {A : List (List UInt8)} (h : Sm A) : Sm (drs A) := h.dirs.norm
end Go.Proofs.YtkbefggjfggdgaaGreat
