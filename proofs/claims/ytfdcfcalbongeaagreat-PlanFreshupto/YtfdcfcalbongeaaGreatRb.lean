/-
  The look at fresh memory (plan): what came in, and the longer lists.
-/
import Derived.Test.YtfdcfcalbongeaaGreatRa
namespace Go.Proofs.YtfdcfcalbongeaaGreat
open Go.RowKit
attribute [local go_sem] Oper.semAt_some

def fo1 : Fl := ⟨[111, 110, 101], [], 0, 0⟩
def fo2 : Fl := ⟨[116, 119, 111], [], 0, 0⟩
def fo3 : Fl := ⟨[116, 104, 114, 101, 101], [], 0, 0⟩
def fo4 : Fl := ⟨[102, 111, 117, 114], [], 0, 0⟩
theorem ownP_cell {base : Nat} {w : World} {g n cap : Nat} {l : List Fl} (h : OwnF base w (.slice (some ⟨g, 0, none⟩) n cap) l) {j : Nat} {u : Value} (hu : (fc l)[j]? = some u) : w.cell? ⟨g, j, none⟩ = some u ∧ w.frozen? ⟨g, j, none⟩ = false := by
  refine ⟨?_, ?_⟩
  · have := World.ownsRow.cells h (g := g) rfl j u hu
    rw [add_lit, Nat.zero_add] at this
    exact this
  · rcases h.2 with ⟨e, _⟩ | ⟨g', cap', cur, e, hbg, hg, _⟩
    · cases e
    · injection e with e1 e2 e3
      injection e1 with e1
      injection e1 with e1 _ _
      subst e1
      simp [World.frozen?, hg]
theorem ownP_form {base : Nat} {w : World} {v : Value} {l : List Fl} (h : OwnF base w v l) : (v = .slice none 0 0 ∧ l = []) ∨ ∃ g c, v = .slice (some ⟨g, 0, none⟩) l.length c ∧ l.length ≤ c ∧ base ≤ g ∧ g < w.heap.size := by
  rcases h.2 with ⟨rfl, h0⟩ | ⟨g, cap, cur, rfl, hb, hg, hn, _⟩
  · exact .inl ⟨rfl, List.eq_nil_of_length_eq_zero h0⟩
  · exact .inr ⟨g, cap, rfl, hn, hb, (Array.getElem?_eq_some_iff.1 hg).1⟩
theorem ownP_cap {base : Nat} {w : World} {g n cap : Nat} {l : List Fl} (h : OwnF base w (.slice (some ⟨g, 0, none⟩) n cap) l) : n = l.length ∧ n ≤ cap := by
  rcases h.2 with ⟨e, _⟩ | ⟨g', cap', cur, e, hbg, hg, hn, _⟩
  · cases e
  · injection e with e1 e2 e3
    omega
theorem ownP_fs {base : Nat} {w : World} {g n m c c' : Nat} {l : List Fl} (h : OwnF base w (.slice (some ⟨g, 0, none⟩) m c) l) (hn : n ≤ l.length) (hc : n ≤ c') : FS w (.slice (some ⟨g, 0, none⟩) n c') (l.take n) := by
  have hlt := (h.lt (k := g) rfl).2
  have e : (l.take n).length = n := by simp; omega
  have ef : fc l = fc (l.take n) ++ fc (l.drop n) := by rw [← fc_append, List.take_append_drop]
  refine .inr ⟨g, 0, c', by rw [e], by omega, hlt, fun i u hu => ?_⟩
  have hi := (List.getElem?_eq_some_iff.1 hu).1
  have := World.ownsRow.cells h (g := g) rfl i u (by rw [ef, List.getElem?_append_left hi]; exact hu)
  rw [add_lit] at this; exact this
/-- the first file's number is turned -/
theorem ownP_blob {base : Nat} {w : World} {g n cap : Nat} {f : Fl} {r : List Fl} (h : OwnF base w (.slice (some ⟨g, 0, none⟩) n cap) (f :: r)) (b : Int) :
    OwnF base (w.setCell ⟨g, 2, none⟩ (.int .i64 b)) (.slice (some ⟨g, 0, none⟩) n cap) (⟨f.path, f.text, b, f.size⟩ :: r) := by
  rcases h.2 with ⟨e, _⟩ | ⟨g', cap', cur, e, hbg, hg, hn, hcm, hcs, htake⟩
  · cases e
  · injection e with e1 e2 e3
    injection e1 with e1
    injection e1 with e1 _ _
    subst e1
    subst e3
    refine ⟨by rw [fc_length], .inr ⟨g, cap, _, by rw [e2]; rfl, hbg, heap_setCell w g 2 _ hg, hn, hcm, by simpa using hcs, ?_⟩⟩
    have h2 : cur.toList.take ((f :: r).length * 4) = fc (f :: r) := htake
    show List.take ((f :: r).length * 4) _ = _
    rw [Array.toList_setIfInBounds, List.take_set, h2]
    simp [fc]
theorem FS.tail {w : World} {b off n c : Nat} {l : List Fl} (h : FS w (.slice (some ⟨b, off, none⟩) n c) l) (hn : n = l.length) : FS w (.slice (some ⟨b, off + 4, none⟩) (n - 1) (c - 1)) (l.drop 1) := by
  rcases h with ⟨⟨a, c', e⟩, rfl⟩ | ⟨b', off', cap, e, hc, hlt, hcell⟩
  · injection e with _ e2 _
    exact .inl ⟨⟨_, _, by rw [e2]⟩, rfl⟩
  · injection e with e1 e2 e3
    injection e1 with e1
    injection e1 with e1 e4 _
    subst e1
    subst e3
    subst e4
    refine .inr ⟨b, off + 4, c - 1, by rw [List.length_drop, ← hn], by rw [List.length_drop]; omega, hlt, fun i u hu => ?_⟩
    cases l with
    | nil => simp [fc] at hu
    | cons f r =>
      rw [Nat.add_assoc]
      refine hcell (4 + i) u ?_
      rw [Nat.add_comm 4 i]
      simpa [fc] using hu
/-- the lists that came in, and longer ones of the call's own: of old, and of X -/
structure FE (w W : World) (oa na : Option Addr) (no oc nn nc go oq gn nq : Nat) (old now X : List Fl) : Prop where
  fo : FS w (.slice oa no oc) old
  fn : FS w (.slice na nn nc) now
  o : OwnF w.heap.size W (.slice (some ⟨go, 0, none⟩) (no + 2) oq) (old ++ [fo1, fo2])
  n : OwnF w.heap.size W (.slice (some ⟨gn, 0, none⟩) (nn + 2) nq) (X ++ [fo3, fo4])
  below : Below w.heap.size w W
  ol : old.length = no
  nl : now.length = nn
  xl : X.length = nn
  ne : go ≠ gn
section
variable {w W W' : World} {oa na : Option Addr} {no oc nn nc go oq gn nq : Nat} {old now X : List Fl}
theorem FE.later (h : FE w W oa na no oc nn nc go oq gn nq old now X) (hb : Below W.heap.size W W') : FE w W' oa na no oc nn nc go oq gn nq old now X :=
  ⟨h.fo, h.fn, h.o.later hb, h.n.later hb, bstep h.below hb, h.ol, h.nl, h.xl, h.ne⟩
/-- of a world in which nothing below B was turned -/
theorem FE.past {B : Nat} (h : FE w W oa na no oc nn nc go oq gn nq old now X) (hb : Below B W W') (hB : w.heap.size ≤ B) (ho : go < B) (hn : gn < B) : FE w W' oa na no oc nn nc go oq gn nq old now X :=
  have stay : ∀ {v : Value} {l : List Fl} {g : Nat} {a b : Nat}, v = .slice (some ⟨g, 0, none⟩) a b → OwnF w.heap.size W v l → g < B → OwnF w.heap.size W' v l := fun e hv hg => by
    rcases hv with ⟨h0, h | ⟨g', cap, cur, rfl, hb', hg', hr⟩⟩
    · exact ⟨h0, .inl h⟩
    · injection e with e1 _ _
      injection e1 with e1
      injection e1 with e1 _ _
      subst e1
      exact ⟨h0, .inr ⟨_, cap, cur, rfl, hb', (hb.block _ hg).trans hg', hr⟩⟩
  ⟨h.fo, h.fn, stay rfl h.o ho, stay rfl h.n hn, below_trans h.below (below_mono hb hB), h.ol, h.nl, h.xl, h.ne⟩
theorem FE.po (h : FE w W oa na no oc nn nc go oq gn nq old now X) : FS W (.slice (some ⟨go, 0, none⟩) no oq) old := by
  have h1 := ownP_fs (n := no) (c' := oq) h.o (by have := h.ol; simp; omega) (by have := ownP_cap h.o; omega)
  rwa [List.take_append_of_le_length (by have := h.ol; omega), List.take_of_length_le (by have := h.ol; omega)] at h1
theorem FE.pn (h : FE w W oa na no oc nn nc go oq gn nq old now X) : FS W (.slice (some ⟨gn, 0, none⟩) nn nq) X := by
  have h1 := ownP_fs (n := nn) (c' := nq) h.n (by have := h.xl; simp; omega) (by have := ownP_cap h.n; omega)
  rwa [List.take_append_of_le_length (by have := h.xl; omega), List.take_of_length_le (by have := h.xl; omega)] at h1
theorem FE.qo (h : FE w W oa na no oc nn nc go oq gn nq old now X) : FS W (.slice oa no oc) old := h.fo.later h.below
theorem FE.qn (h : FE w W oa na no oc nn nc go oq gn nq old now X) : FS W (.slice na nn nc) now := h.fn.later h.below
theorem FE.caps (h : FE w W oa na no oc nn nc go oq gn nq old now X) : no + 2 ≤ oq ∧ nn + 2 ≤ nq := ⟨(ownP_cap h.o).2, (ownP_cap h.n).2⟩
end
end Go.Proofs.YtfdcfcalbongeaaGreat
