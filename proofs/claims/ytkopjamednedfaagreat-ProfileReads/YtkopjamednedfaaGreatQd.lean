/-
  The document's text of cones, and what it reads: Write.
-/
import Derived.Test.YtkopjamednedfaaGreatQc
namespace Go.Proofs.YtkopjamednedfaaGreat
open Go.RowKit Go.Maps
attribute [local go_sem] Oper.semAt_some

theorem dln_len (k : List (List UInt8)) : ∀ (D : List (List UInt8)), (∀ d ∈ D, d.length ≤ 120) → (wrL (dln k D)).length ≤ D.length * 260
  | [], _ => by simp [dln, wrL]
  | d :: D, h => by
    have ih := dln_len k D fun x hx => h x (by simp [hx])
    have hd := h d (by simp)
    have e : dln k (d :: D) = (if d ∈ k then [dl d] else [dl d, nl d]) ++ dln k D := by simp [dln]
    rw [e, wrL_app, List.length_append, List.length_cons]
    have h1 : (wrL (if d ∈ k then [dl d] else [dl d, nl d])).length ≤ 260 := by
      split
      · simp [wrL, dl]; omega
      · simp [wrL, dl, nl]; omega
    omega
theorem wrt_len {k : List (List UInt8)} (hk : coneE k = 0) (hl : k.length ≤ 4000000) : (dsL k).length ≤ 1000000000 ∧ (wrt k).length ≤ 4000000000000 := by
  have h1 : (dsL k).length ≤ 13 * k.length := by
    rw [← dsA_eq hk]
    have := dsA_len k []
    unfold dsA
    simpa using this
  refine ⟨by omega, ?_⟩
  have h2 := dln_len k (dsL k) (fun d hd => (okP_len (dsL_ok hk hd).1).1)
  by_cases hr : k = [[]]
  · rw [hr, wrt_root]; simp
  · rw [← wrS_all hr (Nat.le_refl _)]
    unfold wrS
    rw [List.take_length, List.length_append]
    simp only [List.length_cons, List.length_nil]
    omega
theorem rwr_any {w : World} {u : Value} {k : List (List UInt8)} (h : SS w u k) (sm : Sm k) :
    Calls Tryz.prog 12 #[u] w fun e w' => e = .returned (.tuple #[.string (bs (pwr k).1), .int .i64 (pwr k).2]) ∧ Below w.heap.size w w' :=
  rwrite_any (fun W hW => rcones_any (h.later hW) sm) (fun hk W hW => by
    have := rdirs_any (h.later hW) hk sm.len
    rw [dsA_eq hk] at this
    exact this) h sm.len (fun hk => wrt_len hk sm.len)
end Go.Proofs.YtkopjamednedfaaGreat
