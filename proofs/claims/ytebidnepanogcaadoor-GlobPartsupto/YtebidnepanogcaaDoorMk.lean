/-
  Lists of files marked.
-/
import Derived.Test.YtebidnepanogcaaDoorLt
import Derived.Test.YtebidnepanogcaaDoorAv
import Derived.Test.YtebidnepanogcaaDoorRx
namespace Go.Proofs.YtebidnepanogcaaDoor
open Go.RowKit

theorem fc_set : ∀ (l : List Fl) (i : Nat) (f : Fl), fc (l.set i f) = ((((fc l).set (i * 4) (.string (bs f.path))).set (i * 4 + 1) (.string (bs f.text))).set (i * 4 + 2) (.int .i64 f.blob)).set (i * 4 + 3) (.int .i64 f.size)
  | [], i, f => by simp [fc]
  | g :: r, 0, f => by simp [fc]
  | g :: r, i + 1, f => by
    rw [List.set_cons_succ, fc, fc_set r i f, show (i + 1) * 4 = i * 4 + 4 by omega]
    simp [fc]
theorem own_setF {base : Nat} {w : World} {g n cap : Nat} {l : List Fl} (h : OwnF base w (.slice (some ⟨g, 0, none⟩) n cap) l) (i : Nat) (f : Fl) :
    OwnF base ((((w.setCell ⟨g, i * 4, none⟩ (.string (bs f.path))).setCell ⟨g, i * 4 + 1, none⟩ (.string (bs f.text))).setCell ⟨g, i * 4 + 2, none⟩ (.int .i64 f.blob)).setCell ⟨g, i * 4 + 3, none⟩ (.int .i64 f.size)) (.slice (some ⟨g, 0, none⟩) n cap) (l.set i f) := by
  rcases h.2 with ⟨e, _⟩ | ⟨g', cap', cur, e, hbg, hg, hn, hcm, hcs, htake⟩
  · cases e
  · injection e with e1 e2 e3
    injection e1 with e1
    injection e1 with e1 _ _
    subst e1
    subst e3
    refine ⟨by rw [fc_length, List.length_set], .inr ⟨g, cap, _, by rw [List.length_set, e2], hbg, heap_setCell _ _ _ _ (heap_setCell _ _ _ _ (heap_setCell _ _ _ _ (heap_setCell w g _ _ hg))), by rw [List.length_set]; exact hn, hcm, by simpa using hcs, ?_⟩⟩
    rw [List.length_set, fc_set]
    have h2 : cur.toList.take (l.length * 4) = fc l := htake
    rw [← h2]
    simp only [Array.toList_setIfInBounds, List.take_set]
theorem own_cellF {base : Nat} {w : World} {g n cap : Nat} {l : List Fl} (h : OwnF base w (.slice (some ⟨g, 0, none⟩) n cap) l) (i : Nat) (hi : i < l.length) :
    (w.cell? ⟨g, i * 4, none⟩ = some (.string (bs l[i].path)) ∧ w.cell? ⟨g, i * 4 + 1, none⟩ = some (.string (bs l[i].text)) ∧ w.cell? ⟨g, i * 4 + 2, none⟩ = some (.int .i64 l[i].blob) ∧ w.cell? ⟨g, i * 4 + 3, none⟩ = some (.int .i64 l[i].size)) ∧
    (w.frozen? ⟨g, i * 4, none⟩ = false ∧ w.frozen? ⟨g, i * 4 + 1, none⟩ = false ∧ w.frozen? ⟨g, i * 4 + 2, none⟩ = false ∧ w.frozen? ⟨g, i * 4 + 3, none⟩ = false) ∧ base ≤ g ∧ g < w.heap.size := by
  have hlt := h.lt (k := g) rfl
  obtain ⟨c0, c1, c2, c3⟩ := fc_get l i hi
  have hc : ∀ j u, (fc l)[j]? = some u → w.cell? ⟨g, j, none⟩ = some u := fun j u hu => by
    have := World.ownsRow.cells h (g := g) rfl j u hu
    rw [add_lit, Nat.zero_add] at this
    exact this
  have hf : ∀ j, w.frozen? ⟨g, j, none⟩ = false := fun j => by
    rcases h.2 with ⟨e, _⟩ | ⟨g', cap', cur, e, hbg, hg, _⟩
    · cases e
    · injection e with e1 e2 e3
      injection e1 with e1
      injection e1 with e1 _ _
      subst e1
      simp [World.frozen?, hg]
  exact ⟨⟨hc _ _ c0, hc _ _ c1, hc _ _ c2, hc _ _ c3⟩, ⟨hf _, hf _, hf _, hf _⟩, hlt⟩
theorem FS.only {S : List Nat} {w w' : World} {v : Value} {l : List Fl} (h : FS w v l) (ho : Only S w w') (hn : ∀ g, v.ownBlock = some g → g ∉ S) : FS w' v l := by
  rcases h with h | ⟨b, off, cap, rfl, hc, hlt, hcell⟩
  · exact .inl h
  · refine .inr ⟨b, off, cap, rfl, hc, Nat.lt_of_lt_of_le hlt ho.size, fun i u hu => ?_⟩
    rw [World.cell?_of_block (w := w) (ho.block b hlt (hn b rfl))]
    exact hcell i u hu
theorem FS.grown {w w' : World} {v : Value} {l : List Fl} {row : Option Nat} (h : FS w v l) (hg : w.grownBy w' row) (hn : v.ownBlock = none ∨ row ≠ v.ownBlock) : FS w' v l := by
  rcases h with h | ⟨b, off, cap, rfl, hc, hlt, hcell⟩
  · exact .inl h
  · refine .inr ⟨b, off, cap, rfl, hc, Nat.lt_of_lt_of_le hlt hg.size, fun i u hu => ?_⟩
    have hb : w'.heap[b]? = w.heap[b]? := hg.block b hlt (fun e => by
      rcases hn with h0 | h0
      · simp [Value.ownBlock] at h0
      · exact h0 (by rw [← e]; rfl))
    rw [World.cell?_of_block (w := w) hb]
    exact hcell i u hu
/-- the block of a value, as a list -/
def bl (v : Value) : List Nat := v.ownBlock.toList
theorem mem_bl {v : Value} {g : Nat} : g ∈ bl v ↔ v.ownBlock = some g := by
  unfold bl
  cases v.ownBlock with
  | none => simp
  | some k => simp [eq_comm]
theorem only_grown {w w' : World} {row : Option Nat} (h : w.grownBy w' row) : Only row.toList w w' :=
  ⟨h.os, h.tape, h.output, h.size, fun k hk hn => h.block k hk (by
    intro e
    apply hn
    rw [← e]; simp)⟩
theorem OwnF.form' {base : Nat} {w : World} {v : Value} {l : List Fl} (h : OwnF base w v l) : (v = .slice none 0 0 ∧ l = []) ∨ ∃ g c, v = .slice (some ⟨g, 0, none⟩) l.length c ∧ l.length ≤ c ∧ base ≤ g ∧ g < w.heap.size := by
  rcases h.2 with ⟨rfl, h0⟩ | ⟨g, cap, cur, rfl, hb, hg, hn, _⟩
  · exact .inl ⟨rfl, List.eq_nil_of_length_eq_zero h0⟩
  · exact .inr ⟨g, cap, rfl, hn, hb, (Array.getElem?_eq_some_iff.1 hg).1⟩
theorem fs_of_own {base : Nat} {w : World} {g n m c c' : Nat} {l : List Fl} (h : OwnF base w (.slice (some ⟨g, 0, none⟩) m c) l) (hn : n ≤ l.length) (hc : n ≤ c') : FS w (.slice (some ⟨g, 0, none⟩) n c') (l.take n) := by
  have hlt := (h.lt (k := g) rfl).2
  have e : (l.take n).length = n := by simp; omega
  have ef : fc l = fc (l.take n) ++ fc (l.drop n) := by rw [← fc_append, List.take_append_drop]
  refine .inr ⟨g, 0, c', by rw [e], by omega, hlt, fun i u hu => ?_⟩
  have hi := (List.getElem?_eq_some_iff.1 hu).1
  have := World.ownsRow.cells h (g := g) rfl i u (by rw [ef, List.getElem?_append_left hi]; exact hu)
  rw [add_lit] at this; exact this


/-- a marked file -/
def mkP (c : UInt8) : Fl := ⟨[c], [], 0, 0⟩
theorem fs_ne {B : Nat} {w : World} {v : Value} {l : List Fl} (h : OwnF B w v l) {g : Nat} (hg : g < B) : ∀ k, v.ownBlock = some k → k ∉ [g] := fun k hk hm => by
  have := (h.lt hk).1
  have : k = g := by simpa using hm
  omega
end Go.Proofs.YtebidnepanogcaaDoor
