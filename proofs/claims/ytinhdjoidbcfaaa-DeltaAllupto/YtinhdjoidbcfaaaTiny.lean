/-
  What came in, where it is small: for the document's answers too.
-/
import Derived.Test.YtinhdjoidbcfaaaAll
import Derived.Test.YtinhdjoidbcfaaaOpen
namespace Go.Proofs.Ytinhdjoidbcfaaa
open Go.ChangeShapes Go.WideShapes Go.ChangeAt Go.RowKit Go.Deep

set_option maxRecDepth 100000 in
theorem tiny_files {H : Type} {enc : TypeId × Value → H} {W : World} {base : Nat} {v : Value} {d : DataW H} {ps : List MemPlace} (hok : Value.okWide Try.prog W .any base 22 v)
    (h : DataW.Trod enc Try.prog W 0 (fun _ => true) true 22 v d ps) (hd : Rows.uptoBulk d ≤ 1048576) : ∃ l : List Fl, FS W v l ∧ TF l ∧ True := by
  obtain ⟨l, h1, h2, h3⟩ := read_files hok h
  rcases h3 with rfl | ⟨sp, rfl⟩
  · exact ⟨[], h1, ⟨⟨by simp, fun f hf => by cases hf⟩, ⟨by simp, fun f hf => by cases hf⟩, by simp, fun f hf => by cases hf⟩, trivial⟩
  · simp only [Rows.uptoBulk] at hd
    have hl := bulk_len (H := H) 1 (l := l.map (Fl.datum (H := H))) (fun d hd => by
      obtain ⟨c, _, rfl⟩ := List.mem_map.1 hd
      rw [bulk_fl]; omega)
    simp only [List.length_map] at hl
    have hb : ∀ f ∈ l, f.path.length + f.text.length + 5 ≤ 1048576 := fun f hf => by
      have hb := bulk_mem (H := H) (List.mem_map_of_mem (f := Fl.datum (H := H)) hf)
      rw [bulk_fl] at hb; omega
    refine ⟨l, h1, ⟨⟨by omega, fun c hc => ?_⟩, ⟨by omega, fun c hc => ?_⟩, by omega, fun c hc => ?_⟩, trivial⟩
    · have := hb c hc
      obtain ⟨g1, g2, g3, g4⟩ := h2 c hc
      exact ⟨by omega, by omega, g1, g2, g3, g4⟩
    · have := hb c hc
      obtain ⟨g1, g2, g3, g4⟩ := h2 c hc
      exact ⟨by omega, by omega, g1, g2, g3, g4⟩
    · have := hb c hc; omega
set_option maxRecDepth 100000 in
theorem tiny_changes {H : Type} {enc : TypeId × Value → H} {W : World} {base : Nat} {v : Value} {d : DataW H} {ps : List MemPlace} (hok : Value.okWide Try.prog W .any base 23 v)
    (h : DataW.Trod enc Try.prog W 0 (fun _ => true) true 23 v d ps) (hd : Rows.uptoBulk d ≤ 1048576) : ∃ l : List Ch, CS W v l ∧ TC l ∧ True := by
  obtain ⟨l, h1, h2, h3⟩ := read_changes hok h
  rcases h3 with rfl | ⟨sp, rfl⟩
  · exact ⟨[], h1, ⟨⟨by simp, fun f hf => by cases hf⟩, ⟨by simp, fun f hf => by cases hf⟩, by simp⟩, trivial⟩
  · simp only [Rows.uptoBulk] at hd
    have hl := bulk_len (H := H) 1 (l := l.map (Ch.datum (H := H))) (fun d hd => by
      obtain ⟨c, _, rfl⟩ := List.mem_map.1 hd
      rw [bulk_ch]; omega)
    simp only [List.length_map] at hl
    have hb : ∀ c ∈ l, c.path.length + c.old.path.length + c.old.text.length + c.new.path.length + c.new.text.length + 14 ≤ 1048576 := fun c hc => by
      have hb := bulk_mem (H := H) (List.mem_map_of_mem (f := Ch.datum (H := H)) hc)
      rw [bulk_ch] at hb; omega
    refine ⟨l, h1, ⟨⟨by omega, fun c hc => ?_⟩, ⟨by omega, fun c hc => ?_⟩, by omega⟩, trivial⟩
    · have := hb c hc
      obtain ⟨⟨g1, g2, g3, g4⟩, g5, g6, g7, g8⟩ := h2 c hc
      exact ⟨by omega, ⟨by omega, by omega, g1, g2, g3, g4⟩, ⟨by omega, by omega, g5, g6, g7, g8⟩⟩
    · have := hb c hc
      obtain ⟨⟨g1, g2, g3, g4⟩, g5, g6, g7, g8⟩ := h2 c hc
      exact ⟨by omega, ⟨by omega, by omega, g1, g2, g3, g4⟩, ⟨by omega, by omega, g5, g6, g7, g8⟩⟩
end Go.Proofs.Ytinhdjoidbcfaaa
