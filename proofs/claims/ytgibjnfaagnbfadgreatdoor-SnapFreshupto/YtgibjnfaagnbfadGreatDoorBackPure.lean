/-
  What the law over texts that come back asks of lists.
-/
import Derived.Test.YtgibjnfaagnbfadGreatDoorOpen
namespace Go.Proofs.YtgibjnfaagnbfadGreatDoor
open Go.RowKit

theorem prt_tot : ∀ (l : List Fl), (∀ f ∈ l, fileE f = 0) → (prt l).length ≤ 2 * tot l + 200 * l.length
  | [], _ => by simp [prt]
  | f :: r, h => by
    have h1 := line_len (h f (by simp)) f.text.length (Nat.le_refl _)
    have h2 := prt_tot r (fun g hg => h g (by simp [hg]))
    simp only [prt, tot, List.length_append, List.length_cons]
    omega
theorem prt_small {l : List Fl} (h : stand l = true) (ht : tot l ≤ 1048576) : (prt l).length ≤ 4194304 := by
  have h1 := prt_tot l (stand_all h)
  have h2 := ((stand_iff l).1 h).1
  omega
theorem prt_nil (l : List Fl) : prt l = [] ↔ l = [] := by
  cases l with
  | nil => simp [prt]
  | cons f r => simp [prt, line]
theorem hexs_in {f : Fl} (h : isM f.path = true) : f.text.length ≤ (line f).length := by
  unfold line wordsOf
  rw [if_pos h]
  have := hexs_length f.text
  simp only [blanks, List.length_append, List.length_cons]
  omega
theorem line_mem : ∀ (l : List Fl), ∀ f ∈ l, (line f).length ≤ (prt l).length
  | [], f, h => by cases h
  | g :: r, f, h => by
    simp only [prt, List.length_append]
    rcases List.mem_cons.1 h with rfl | h
    · omega
    · have := line_mem r f h; omega
theorem fok_of {f : Fl} (h : fileE f = 0) (m : Nat) (hm : (line f).length ≤ m) (h4 : m ≤ 4194304) : Fok f := by
  obtain ⟨h1, h2⟩ := (fileE_zero f).1 h
  have h3 := pathOk_len h1
  unfold fits at h2
  cases hM : isM f.path
  · simp only [hM, Bool.false_eq_true, if_false, Bool.and_eq_true, decide_eq_true_eq, beq_iff_eq] at h2
    obtain ⟨⟨e, hb⟩, hs⟩ := h2
    refine ⟨by omega, by rw [e]; simp, by omega, by omega, by omega, by omega⟩
  · have h5 := hexs_in hM
    simp only [hM, if_true, Bool.and_eq_true, beq_iff_eq] at h2
    exact ⟨by omega, by omega, by omega, by omega, by omega, by omega⟩
theorem fsm_of {l : List Fl} (h : stand l = true) (hm : (prt l).length ≤ 4194304) : FSm l :=
  ⟨by have := ((stand_iff l).1 h).1; omega, fun f hf => fok_of (stand_all h f hf) _ (line_mem l f hf) hm⟩
theorem back_same {l m : List Fl} {t : List UInt8} (hl : stand l = true) (h : rd t = some m) : leq m l = (t == prt l) := by
  obtain ⟨h1, h2⟩ := rd_some h
  rw [Bool.eq_iff_iff, leq_iff]
  simp only [beq_iff_eq]
  constructor
  · rintro rfl; exact h2.symm
  · intro e
    rw [e, rd_prt hl] at h
    exact (Option.some.inj h).symm
theorem dir_lt {d : List UInt8} (h : d ≠ []) : (dir d).length < d.length := by
  by_cases h1 : 1 < (pcs d).length
  · have := congrArg List.length (dir_base d h1)
    simp at this
    omega
  · rw [(dir_base0 d h1).1]
    cases d with
    | nil => exact absurd rfl h
    | cons => simp
end Go.Proofs.YtgibjnfaagnbfadGreatDoor
