/-
  Lists of files marked.
-/
import Derived.Test.YtkbefggjfggdgaaGreatRw
import Derived.Test.YtkbefggjfggdgaaGreatJCn
import Derived.Test.YtkbefggjfggdgaaGreatJFq
import Derived.Test.YtkbefggjfggdgaaGreatLent
import Derived.Test.YtkbefggjfggdgaaGreatApart
namespace Go.Proofs.YtkbefggjfggdgaaGreat
open Go.RowKit

theorem fc_set : ∀ (l : List Fl) (i : Nat) (f : Fl), fc (l.set i f) = ((((fc l).set (i * 4) (.string (bs f.path))).set (i * 4 + 1) (.string (bs f.text))).set (i * 4 + 2) (.int .i64 f.blob)).set (i * 4 + 3) (.int .i64 f.size)
  | [], i, f => by simp [fc]
  | g :: r, 0, f => by simp [fc]
  | g :: r, i + 1, f => by
    rw [List.set_cons_succ, fc, fc_set r i f, show (i + 1) * 4 = i * 4 + 4 by omega]
    simp [fc]
theorem own_setF {base : Nat} {w : World} {g n cap : Nat} {l : List Fl} (h : OwnF base w (.slice (some ⟨g, 0, none⟩) n cap) l) (i : Nat) (f : Fl) :
    OwnF base ((((w.setCell ⟨g, i * 4, none⟩ (.string (bs f.path))).setCell ⟨g, i * 4 + 1, none⟩ (.string (bs f.text))).setCell ⟨g, i * 4 + 2, none⟩ (.int .i64 f.blob)).setCell ⟨g, i * 4 + 3, none⟩ (.int .i64 f.size)) (.slice (some ⟨g, 0, none⟩) n cap) (l.set i f) := by
  rcases h.2 with ⟨e, _⟩ | ⟨g', cap', cur, e, hbg, hg, hn, hcm, hcs, htake⟩
  · cases e
  · injection e with e1 e2 e3
    injection e1 with e1
    injection e1 with e1 _ _
    subst e1
    subst e3
    refine ⟨by rw [fc_length, List.length_set], .inr ⟨g, cap, _, by rw [List.length_set, e2], hbg, heap_setCell _ _ _ _ (heap_setCell _ _ _ _ (heap_setCell _ _ _ _ (heap_setCell w g _ _ hg))), by rw [List.length_set]; exact hn, hcm, by simpa using hcs, ?_⟩⟩
    rw [List.length_set, fc_set]
    have h2 : cur.toList.take (l.length * 4) = fc l := htake
    rw [← h2]
    simp only [Array.toList_setIfInBounds, List.take_set]
theorem own_cellF {base : Nat} {w : World} {g n cap : Nat} {l : List Fl} (h : OwnF base w (.slice (some ⟨g, 0, none⟩) n cap) l) (i : Nat) (hi : i < l.length) :
    (w.cell? ⟨g, i * 4, none⟩ = some (.string (bs l[i].path)) ∧ w.cell? ⟨g, i * 4 + 1, none⟩ = some (.string (bs l[i].text)) ∧ w.cell? ⟨g, i * 4 + 2, none⟩ = some (.int .i64 l[i].blob) ∧ w.cell? ⟨g, i * 4 + 3, none⟩ = some (.int .i64 l[i].size)) ∧
    (w.frozen? ⟨g, i * 4, none⟩ = false ∧ w.frozen? ⟨g, i * 4 + 1, none⟩ = false ∧ w.frozen? ⟨g, i * 4 + 2, none⟩ = false ∧ w.frozen? ⟨g, i * 4 + 3, none⟩ = false) ∧ base ≤ g ∧ g < w.heap.size := by
  have hlt := h.lt (k := g) rfl
  obtain ⟨c0, c1, c2, c3⟩ := fc_get l i hi
  have hc : ∀ j u, (fc l)[j]? = some u → w.cell? ⟨g, j, none⟩ = some u := fun j u hu => by
    have := World.ownsRow.cells h (g := g) rfl j u hu
    rw [add_lit, Nat.zero_add] at this
    exact this
  have hf : ∀ j, w.frozen? ⟨g, j, none⟩ = false := fun j => by
    rcases h.2 with ⟨e, _⟩ | ⟨g', cap', cur, e, hbg, hg, _⟩
    · cases e
    · injection e with e1 e2 e3
      injection e1 with e1
      injection e1 with e1 _ _
      subst e1
      simp [World.frozen?, hg]
  exact ⟨⟨hc _ _ c0, hc _ _ c1, hc _ _ c2, hc _ _ c3⟩, ⟨hf _, hf _, hf _, hf _⟩, hlt⟩
theorem FS.only {S : List Nat} {w w' : World} {v : Value} {l : List Fl} (h : FS w v l) (ho : Only S w w') (hn : ∀ g, v.ownBlock = some g → g ∉ S) : FS w' v l := by
  rcases h with h | ⟨b, off, cap, rfl, hc, hlt, hcell⟩
  · exact .inl h
  · refine .inr ⟨b, off, cap, rfl, hc, Nat.lt_of_lt_of_le hlt ho.size, fun i u hu => ?_⟩
    rw [World.cell?_of_block (w := w) (ho.block b hlt (hn b rfl))]
    exact hcell i u hu
theorem FS.grown {w w' : World} {v : Value} {l : List Fl} {row : Option Nat} (h : FS w v l) (hg : w.grownBy w' row) (hn : v.ownBlock = none ∨ row ≠ v.ownBlock) : FS w' v l := by
  rcases h with h | ⟨b, off, cap, rfl, hc, hlt, hcell⟩
  · exact .inl h
  · refine .inr ⟨b, off, cap, rfl, hc, Nat.lt_of_lt_of_le hlt hg.size, fun i u hu => ?_⟩
    have hb : w'.heap[b]? = w.heap[b]? := hg.block b hlt (fun e => by
      rcases hn with h0 | h0
      · simp [Value.ownBlock] at h0
      · exact h0 (by rw [← e]; rfl))
    rw [World.cell?_of_block (w := w) hb]
    exact hcell i u hu
theorem OwnF.form' {base : Nat} {w : World} {v : Value} {l : List Fl} (h : OwnF base w v l) : (v = .slice none 0 0 ∧ l = []) ∨ ∃ g c, v = .slice (some ⟨g, 0, none⟩) l.length c ∧ l.length ≤ c ∧ base ≤ g ∧ g < w.heap.size := by
  rcases h.2 with ⟨rfl, h0⟩ | ⟨g, cap, cur, rfl, hb, hg, hn, _⟩
  · exact .inl ⟨rfl, List.eq_nil_of_length_eq_zero h0⟩
  · exact .inr ⟨g, cap, rfl, hn, hb, (Array.getElem?_eq_some_iff.1 hg).1⟩
theorem fs_of_own {base : Nat} {w : World} {g n m c c' : Nat} {l : List Fl} (h : OwnF base w (.slice (some ⟨g, 0, none⟩) m c) l) (hn : n ≤ l.length) (hc : n ≤ c') : FS w (.slice (some ⟨g, 0, none⟩) n c') (l.take n) := by
  have hlt := (h.lt (k := g) rfl).2
  have e : (l.take n).length = n := by simp; omega
  have ef : fc l = fc (l.take n) ++ fc (l.drop n) := by rw [← fc_append, List.take_append_drop]
  refine .inr ⟨g, 0, c', by rw [e], by omega, hlt, fun i u hu => ?_⟩
  have hi := (List.getElem?_eq_some_iff.1 hu).1
  have := World.ownsRow.cells h (g := g) rfl i u (by rw [ef, List.getElem?_append_left hi]; exact hu)
  rw [add_lit] at this; exact this


/-- a marked file -/
def mkP (c : UInt8) : Fl := ⟨[c], [], 0, 0⟩
theorem fs_ne {B : Nat} {w : World} {v : Value} {l : List Fl} (h : OwnF B w v l) {g : Nat} (hg : g < B) : ∀ k, v.ownBlock = some k → k ∉ [g] := fun k hk hm => by
  have := (h.lt hk).1
  have : k = g := by simpa using hm
  omega
/-- a list whose first k files are marked -/
def mrk (c : UInt8) (k : Nat) (l : List Fl) : List Fl := List.replicate k (mkP c) ++ l.drop k
theorem mrk_zero (c : UInt8) (l : List Fl) : mrk c 0 l = l := by simp [mrk]
theorem mrk_len (c : UInt8) (k : Nat) (l : List Fl) (h : k ≤ l.length) : (mrk c k l).length = l.length := by simp [mrk]; omega
theorem mrk_set (c : UInt8) (k : Nat) (l : List Fl) (h : k < l.length) : (mrk c k l).set k (mkP c) = mrk c (k + 1) l := by
  unfold mrk
  rw [List.drop_eq_getElem_cons h, List.set_append_right _ _ (by simp)]
  simp only [List.length_replicate, Nat.sub_self, List.set_cons_zero]
  rw [List.replicate_succ', List.append_assoc]; rfl
theorem mrk_all (c : UInt8) (l : List Fl) : mrk c l.length l = List.replicate l.length (mkP c) := by simp [mrk]
theorem rep_snoc (n : Nat) (f : Fl) : List.replicate n f ++ [f] = List.replicate (n + 1) f := by rw [List.replicate_succ']
theorem only_step {S T : List Nat} {a b c : World} (h : Only S a b) (k : Only T b c) (hk : ∀ j ∈ T, j ∈ S ∨ a.heap.size ≤ j) : Only S a c :=
  ⟨k.os.trans h.os, k.tape.trans h.tape, k.output.trans h.output, Nat.le_trans h.size k.size, fun j hj hn => by
    rw [k.block j (Nat.lt_of_lt_of_le hj h.size) (fun hm => (hk j hm).elim hn (fun h1 => by omega))]
    exact h.block j hj hn⟩
theorem bl_lt {B : Nat} {w : World} {v : Value} {l : List Fl} (h : OwnF B w v l) {k : Nat} (hk : k ∈ bl v) : B ≤ k ∧ k < w.heap.size := h.lt (mem_bl.1 hk)

theorem SS.front {w : World} {b off n c : Nat} {l m : List (List UInt8)} (h : SS w (.slice (some ⟨b, off, none⟩) n c) (l ++ m)) : SS w (.slice (some ⟨b, off, none⟩) l.length c) l := by
  rcases h with ⟨_, h0⟩ | ⟨b', off', cap, e, hc, hlt, hcell⟩
  · have : l = [] := (List.append_eq_nil_iff.1 h0).1
    subst this; exact .inl ⟨⟨_, _, rfl⟩, rfl⟩
  · injection e with e1 e2 e3
    injection e1 with e1
    injection e1 with e4 e5
    subst e3 e4 e5
    refine .inr ⟨b, off, c, rfl, by rw [List.length_append] at hc; omega, hlt, fun i u hu => hcell i u ?_⟩
    rw [sc_append]
    rw [List.getElem?_append_left (by exact (List.getElem?_eq_some_iff.1 hu).1)]; exact hu
theorem viw_len (l : List Fl) (k : List (List UInt8)) : (viw l k).1.length ≤ l.length := by
  unfold viw
  split
  · split
    · exact List.length_filter_le _ _
    · simp
  · simp
theorem own_cellS {base : Nat} {w : World} {g n cap : Nat} {l : List (List UInt8)} (h : Own base w (.slice (some ⟨g, 0, none⟩) n cap) l) (i : Nat) (hi : i < l.length) :
    w.cell? ⟨g, i, none⟩ = some (.string (bs l[i])) ∧ w.frozen? ⟨g, i, none⟩ = false ∧ base ≤ g ∧ g < w.heap.size := by
  have hlt := h.lt (k := g) rfl
  refine ⟨?_, ?_, hlt⟩
  · have := World.ownsRow.cells h (g := g) rfl i (.string (bs l[i])) (by rw [sc_get, List.getElem?_eq_getElem hi]; rfl)
    rw [add_lit, Nat.zero_add] at this
    exact this
  · rcases h.2 with ⟨e, _⟩ | ⟨g', cap', cur, e, hbg, hg, _⟩
    · cases e
    · injection e with e1 e2 e3
      injection e1 with e1
      injection e1 with e1 _ _
      subst e1
      simp [World.frozen?, hg]
theorem ss_ne {B : Nat} {w : World} {v : Value} {l : List (List UInt8)} (h : Own B w v l) {g : Nat} (hg : g < B) : ∀ k, v.ownBlock = some k → k ∉ [g] := fun k hk hm => by
  have := (h.lt hk).1
  have : k = g := by simpa using hm
  omega
theorem Sm.cov {l : List (List UInt8)} (h : Sm l) : Sm (cov l) := (Sm.som false h.dirs.norm).hds
theorem SS.only3 {S : List Nat} {w w' : World} {v : Value} {l : List (List UInt8)} (h : SS w v l) (ho : Only S w w') (hn : ∀ g, v.ownBlock = some g → g ∉ S) : SS w' v l := by
  rcases h with h | ⟨b, off, cap, rfl, hc, hlt, hcell⟩
  · exact .inl h
  · refine .inr ⟨b, off, cap, rfl, hc, Nat.lt_of_lt_of_le hlt ho.size, fun i u hu => ?_⟩
    rw [World.cell?_of_block (w := w) (ho.block b hlt (hn b rfl))]
    exact hcell i u hu
end Go.Proofs.YtkbefggjfggdgaaGreat
