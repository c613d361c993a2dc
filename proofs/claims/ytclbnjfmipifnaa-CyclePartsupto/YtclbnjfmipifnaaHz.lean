/-
  The document's example: its parts.
-/
import Derived.Test.YtclbnjfmipifnaaJGy
import Derived.Test.YtclbnjfmipifnaaMd
namespace Go.Proofs.Ytclbnjfmipifnaa
open Go.RowKit Go.Maps

def lA : Lb := ⟨[], [97]⟩
def lB : Lb := ⟨[], [98]⟩
def lC : Lb := ⟨[], [99]⟩
def lD : Lb := ⟨[], [100]⟩
def lE : Lb := ⟨[], [101]⟩
def N5 : List Lb := [lA, lB, lC, lD, lE]
def E5 : List Ee := [(lA, lB), (lB, lA), (lB, lC), (lC, lC), (lD, lA)]
def P5 : List (List Lb) := [[lA, lB], [lC], [lD], [lE]]
def I5 : List Ein := [⟨lA, lB, false⟩, ⟨lB, lA, false⟩, ⟨lB, lC, false⟩, ⟨lC, lC, false⟩, ⟨lD, lA, false⟩, ⟨lE, ⟨[], []⟩, true⟩]
theorem mg5 : mg (I5.take 60) = (N5, E5) := by decide
theorem noway {E : List Ee} (C : List Lb) (hC : ∀ e ∈ E, e.1 ∈ C → e.2 ∈ C) {a b : Lb} (h : Gs.Way E a b) (ha : a ∈ C) : b ∈ C := by
  induction h with
  | refl => exact ha
  | step _ h2 ih => exact hC _ h2 ih
theorem w_abc {a b : Lb} (h : Gs.Way E5 a b) (ha : a ∈ [lA, lB, lC]) : b ∈ [lA, lB, lC] := noway _ (by decide) h ha
theorem w_c {a b : Lb} (h : Gs.Way E5 a b) (ha : a ∈ [lC]) : b ∈ [lC] := noway _ (by decide) h ha
theorem w_e {a b : Lb} (h : Gs.Way E5 a b) (ha : a ∈ [lE]) : b ∈ [lE] := noway _ (by decide) h ha
theorem w_d {a b : Lb} (h : Gs.Way E5 a b) (ha : a ∈ [lA, lB, lC, lD]) : b ∈ [lA, lB, lC, lD] := noway _ (by decide) h ha
theorem m_ab : Gs.Mut E5 lA lB := ⟨.step (.refl _) (by decide), .step (.refl _) (by decide)⟩
theorem pts5 : Gs.Pts ltL N5 E5 P5 := by
  refine ⟨fun p hp => ?_, by decide, ?_, by decide, ?_⟩
  · have hP : p = [lA, lB] ∨ p = [lC] ∨ p = [lD] ∨ p = [lE] := by simpa [P5] using hp
    rcases hP with rfl | rfl | rfl | rfl <;> (unfold Gs.Ris; decide)
  · unfold P5
    simp only [List.pairwise_cons, List.mem_cons, List.not_mem_nil, or_false, List.Pairwise.nil, and_true, false_implies, implies_true]
    refine ⟨?_, ?_, ?_⟩
    · rintro q (rfl | rfl | rfl) a b ha hb <;> (injection ha with ha; injection hb with hb; subst ha hb; decide)
    · rintro q (rfl | rfl) a b ha hb <;> (injection ha with ha; injection hb with hb; subst ha hb; decide)
    · rintro q rfl a b ha hb
      injection ha with ha
      injection hb with hb
      subst ha hb
      decide
  · intro p hp x hx
    have hN : ∀ y, y ∈ N5 → y = lA ∨ y = lB ∨ y = lC ∨ y = lD ∨ y = lE := fun y hy => by simpa [N5] using hy
    have hP : p = [lA, lB] ∨ p = [lC] ∨ p = [lD] ∨ p = [lE] := by simpa [P5] using hp
    rcases hP with rfl | rfl | rfl | rfl
    · have hx' : x = lA ∨ x = lB := by simpa using hx
      rcases hx' with rfl | rfl
      · refine ⟨by decide, fun y => ⟨fun hy => ?_, fun ⟨hy, hm⟩ => ?_⟩⟩
        · have hy' : y = lA ∨ y = lB := by simpa using hy
          rcases hy' with rfl | rfl
          · exact ⟨by decide, Gs.Mut.refl _ _⟩
          · exact ⟨by decide, m_ab⟩
        · rcases hN y hy with rfl | rfl | rfl | rfl | rfl
          · decide
          · decide
          · exact absurd (w_c hm.2 (by decide)) (by decide)
          · exact absurd (w_abc hm.1 (by decide)) (by decide)
          · exact absurd (w_abc hm.1 (by decide)) (by decide)
      · refine ⟨by decide, fun y => ⟨fun hy => ?_, fun ⟨hy, hm⟩ => ?_⟩⟩
        · have hy' : y = lA ∨ y = lB := by simpa using hy
          rcases hy' with rfl | rfl
          · exact ⟨by decide, m_ab.symm⟩
          · exact ⟨by decide, Gs.Mut.refl _ _⟩
        · rcases hN y hy with rfl | rfl | rfl | rfl | rfl
          · decide
          · decide
          · exact absurd (w_c hm.2 (by decide)) (by decide)
          · exact absurd (w_abc hm.1 (by decide)) (by decide)
          · exact absurd (w_abc hm.1 (by decide)) (by decide)
    · have hx' : x = lC := by simpa using hx
      subst hx'
      refine ⟨by decide, fun y => ⟨fun hy => ?_, fun ⟨hy, hm⟩ => w_c hm.1 (by decide)⟩⟩
      have hy' : y = lC := by simpa using hy
      subst hy'
      exact ⟨by decide, Gs.Mut.refl _ _⟩
    · have hx' : x = lD := by simpa using hx
      subst hx'
      refine ⟨by decide, fun y => ⟨fun hy => ?_, fun ⟨hy, hm⟩ => ?_⟩⟩
      · have hy' : y = lD := by simpa using hy
        subst hy'
        exact ⟨by decide, Gs.Mut.refl _ _⟩
      · rcases hN y hy with rfl | rfl | rfl | rfl | rfl
        · exact absurd (w_abc hm.2 (by decide)) (by decide)
        · exact absurd (w_abc hm.2 (by decide)) (by decide)
        · exact absurd (w_abc hm.2 (by decide)) (by decide)
        · decide
        · exact absurd (w_e hm.2 (by decide)) (by decide)
    · have hx' : x = lE := by simpa using hx
      subst hx'
      refine ⟨by decide, fun y => ⟨fun hy => ?_, fun ⟨hy, hm⟩ => w_e hm.1 (by decide)⟩⟩
      have hy' : y = lE := by simpa using hy
      subst hy'
      exact ⟨by decide, Gs.Mut.refl _ _⟩
theorem pts5_eq : Gs.pts ltL N5 E5 = P5 := (pts5.eq stoL).symm
theorem frs5 : frs E5 P5 = some [lA, lB] := by decide
end Go.Proofs.Ytclbnjfmipifnaa
