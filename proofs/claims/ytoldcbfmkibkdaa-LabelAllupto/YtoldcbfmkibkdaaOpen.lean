/-
  What came in, where it is small: texts, labels.
-/
import Derived.Test.YtoldcbfmkibkdaaWide
namespace Go.Proofs.Ytoldcbfmkibkdaa
open Go.ChangeShapes Go.WideShapes Go.ChangeAt Go.RowKit Go.Deep

theorem bulk_bound {H : Type} {l : List (DataW H)} (hk : Rows.uptoSmall H l = true) : Rows.uptoBulkAll l ≤ 1048576 := of_decide_eq_true hk
theorem bulk_lb {H : Type} (l : Lb) : Rows.uptoBulk (Lb.datum (H := H) l) = l.pkg.length + l.name.length + 3 := by
  simp only [Lb.datum, Rows.uptoBulk, Rows.uptoBulkAll]; omega
theorem upto_label {H : Type} {enc : TypeId × Value → H} {W : World} {base : Nat} {v : Value} {d : DataW H} {ps : List MemPlace} (hok : Value.okWide Try.prog W .any base 23 v)
    (h : DataW.Trod enc Try.prog W 0 (fun _ => true) true 23 v d ps) (hd : Rows.uptoBulk d ≤ 1048576) : ∃ l : Lb, v = l.val ∧ l.pkg.length ≤ 1048576 ∧ l.name.length ≤ 1048576 := by
  obtain ⟨l, rfl, rfl⟩ := read_label hok h
  rw [bulk_lb] at hd
  exact ⟨l, rfl, by omega, by omega⟩
theorem bulk_strs {H : Type} : ∀ l : List (List UInt8), l.length ≤ Rows.uptoBulkAll (l.map fun s => (DataW.lit (.string s) : DataW H)) ∧ ∀ x ∈ l, x.length ≤ Rows.uptoBulkAll (l.map fun s => (DataW.lit (.string s) : DataW H))
  | [] => ⟨by simp, fun x hx => by cases hx⟩
  | y :: l => by
    obtain ⟨h1, h2⟩ := bulk_strs (H := H) l
    rw [List.map_cons]
    simp only [Rows.uptoBulkAll, Rows.uptoBulk, List.length_cons]
    refine ⟨by omega, fun x hx => ?_⟩
    rcases List.mem_cons.1 hx with rfl | hx
    · omega
    · have := h2 x hx; omega

/-- a slice of texts that came in: what it reads as, and how much it is -/
theorem open_texts {H : Type} {enc : TypeId × Value → H} {W : World} {base : Nat} {v : Value} {d : DataW H} {ps : List MemPlace} (hok : Value.okWide Try.prog W .any base 34 v)
    (h : DataW.Trod enc Try.prog W 0 (fun _ => true) true 34 v d ps) (hd : Rows.uptoBulk d ≤ 1048576) : ∃ l : List (List UInt8), SS W v l ∧ l.length ≤ 1048576 ∧ ∀ x ∈ l, x.length ≤ 1048576 := by
  obtain ⟨a0, len0, cap0, rfl⟩ := okWide_slice Try.underlying34 hok
  obtain ⟨fuel, hf⟩ := h
  rcases open_strs Try.underlying34 Try.underlying9 cells9 hf with ⟨hcs, _⟩ | ⟨a, len, cap, m, Sx, hcs, _, hl, hm, hmm, hx, hcell⟩
  · simp [Value.cells] at hcs
    obtain ⟨rfl, rfl, rfl⟩ := hcs
    exact ⟨[], SS_nil _, by simp, fun x hx => by cases hx⟩
  · simp [Value.cells] at hcs
    obtain ⟨rfl, rfl, rfl⟩ := hcs
    simp at hmm
    subst hmm
    have hd2 : d = .slice ((List.range len0).map fun i => .lit (.string (Sx i).data.toList)) ((List.range (m - len0)).map fun j => .lit (.string (Sx (len0 + j)).data.toList)) := by simpa using congrArg Prod.fst hx
    have e1 : (List.range len0).map (fun i => (DataW.lit (.string (Sx i).data.toList) : DataW H)) = ((List.range len0).map fun i => (Sx i).data.toList).map fun s => .lit (.string s) := by simp [Function.comp_def]
    obtain ⟨h1, h2⟩ := bulk_strs (H := H) ((List.range len0).map fun i => (Sx i).data.toList)
    rw [← e1] at h1 h2
    rw [hd2] at hd
    simp only [Rows.uptoBulk] at hd
    refine ⟨(List.range len0).map fun i => (Sx i).data.toList, ?_, by omega, fun x hx => by have := h2 x hx; omega⟩
    by_cases h0 : len0 = 0
    · subst h0
      exact .inl ⟨⟨_, _, rfl⟩, rfl⟩
    · obtain ⟨b, off, spot⟩ := a
      have hspot : spot = none := by simpa [Addr.add] using World.cell?_spot (hcell 0 (by omega)).1
      subst hspot
      have hc0 := (hcell 0 (by omega)).1
      rw [add_lit] at hc0
      refine .inr ⟨b, off, m, by simp, by simpa using hl, World.block_lt_of_cell? W _ hc0, fun i u hu => ?_⟩
      have hi : i < len0 := by
        have := (List.getElem?_eq_some_iff.1 hu).1
        simpa [sc_length] using this
      have hc := (hcell i (by omega)).1
      rw [add_lit] at hc
      rw [hc, ← hu]
      simp [sc, hi]
      rfl
end Go.Proofs.Ytoldcbfmkibkdaa
