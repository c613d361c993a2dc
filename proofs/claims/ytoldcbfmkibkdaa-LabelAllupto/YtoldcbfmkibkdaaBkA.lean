/-
  The law of there and back: what it stands on.
-/
import Derived.Test.YtoldcbfmkibkdaaHead
namespace Go.Proofs.Ytoldcbfmkibkdaa
open Go.RowKit

/-- does a statement begin with this region? -/
def beg (n : Nat) : Code → Bool
  | .region m _ _ => m == n
  | .seq a _ => beg n a
  | .block _ c => beg n c
  | .loop c => beg n c
  | .scope c => beg n c
  | _ => false
/-- what stands from there on -/
def suff (n : Nat) : Code → Code
  | .seq a b => if beg n a then .seq a b else suff n b
  | c => c
/-- what the law answers -/
def GoodE (w : World) (e : Ending) (w' : World) : Prop := e = .returned (.bool true) ∧ Below w.heap.size w w'
/-- texts that came in -/
structure Lw (l : Lb) : Prop where
  pkg : l.pkg.length ≤ 281474976710656
  name : l.name.length ≤ 281474976710656
theorem Lw.lm {l : Lb} (h : Lw l) : Lm l := ⟨by have := h.pkg; omega, by have := h.name; omega⟩
theorem prt_len {l : Lb} (h : Lw l) : (prt l).length ≤ 1125899906842624 := by
  have h1 := h.pkg
  have h2 := h.name
  simp only [prt, List.length_cons, List.length_append]; omega
/-- the three labels in their blocks -/
structure Tri (w wc : World) (g3 g4 g5 : Nat) (a b c : Lb) : Prop where
  below : Below w.heap.size w wc
  ra : RB wc g3 a
  rb : RB wc g4 b
  rc : RB wc g5 c
  sa : Lw a
  sb : Lw b
  sc : Lw c
theorem Tri.later {w wc w' : World} {g3 g4 g5 : Nat} {a b c : Lb} (h : Tri w wc g3 g4 g5 a b c) (hb : Below wc.heap.size wc w') : Tri w w' g3 g4 g5 a b c :=
  ⟨bstep h.below hb, h.ra.later hb, h.rb.later hb, h.rc.later hb, h.sa, h.sb, h.sc⟩
/-- the see words of a package -/
def won (p : List UInt8) : List UInt8 := 47 :: 47 :: p
def wsb (p : List UInt8) : List UInt8 := if p = [] then adots else 47 :: 47 :: (p ++ dots)
theorem rdk_won {p : List UInt8} (h : okP p = true) : rdk (won p) = .one p := by
  have h1 : won p ≠ pub := by unfold won pub; simp
  have h2 : won p ≠ adots := by
    intro e
    have : p = [46, 46, 46] := by unfold won adots at e; simpa using e
    rw [this] at h; exact absurd h (by decide)
  have h3 : won p ≠ 47 :: 47 :: dots := by
    intro e
    have : p = dots := by unfold won at e; simpa using e
    rw [this, show dots = [] ++ dots from rfl, okP_dots] at h; cases h
  have h4 : dots.isSuffixOf p = false := by
    cases h4 : dots.isSuffixOf p
    · rfl
    · obtain ⟨r, hr⟩ := List.isSuffixOf_iff_suffix.1 h4
      rw [← hr, okP_dots] at h; cases h
  unfold rdk kin
  simp only [h1, h2, h3, if_false]
  simp [won, List.isPrefixOf, h4, Kd.top, h]
theorem rdk_pub : rdk pub = .all := by decide
theorem rdk_adots : rdk adots = .tree [] := by decide
theorem rdk_wsb {p : List UInt8} (h : okP p = true) : rdk (wsb p) = .tree p := by
  unfold wsb
  by_cases hp : p = []
  · rw [if_pos hp, hp]; exact rdk_adots
  rw [if_neg hp]
  have h1 : 47 :: 47 :: (p ++ dots) ≠ pub := by unfold pub; simp
  have hl : 0 < p.length := by cases p with | nil => exact absurd rfl hp | cons => simp
  have h2 : 47 :: 47 :: (p ++ dots) ≠ adots := by
    intro e
    have := congrArg List.length e
    simp only [dots, adots, List.length_cons, List.length_append, List.length_nil] at this; omega
  have h3 : 47 :: 47 :: (p ++ dots) ≠ 47 :: 47 :: dots := by
    intro e
    have := congrArg List.length e
    simp only [dots, List.length_cons, List.length_append, List.length_nil] at this; omega
  have h4 : dots.isSuffixOf (p ++ dots) = true := List.isSuffixOf_iff_suffix.2 ⟨p, rfl⟩
  unfold rdk kin
  simp only [h1, h2, h3, if_false]
  have h5 : (p ++ dots).take ((p ++ dots).length - 4) = p := by
    have : (p ++ dots).length - 4 = p.length := by simp [dots]
    rw [this]; simp
  simp only [List.isPrefixOf, beq_self_eq_true, Bool.true_and, if_true, List.drop_succ_cons, List.drop_zero, h4, h5, Kd.top, h]
theorem len_won {p : List UInt8} (h : okP p = true) : (won p).length ≤ 1125899906842624 := by
  have := (okP_len h).1
  simp only [won, List.length_cons]; omega
theorem len_wsb {p : List UInt8} (h : okP p = true) : (wsb p).length ≤ 1125899906842624 := by
  have := (okP_len h).1
  unfold wsb
  split
  · decide
  · simp only [dots, List.length_cons, List.length_append, List.length_nil]; omega
theorem len_pub : pub.length ≤ 1125899906842624 := by decide
theorem len_adots : adots.length ≤ 1125899906842624 := by decide
theorem ses_one (s b c : List UInt8) : ses [s] b c = (decide (b = c) || nms (rdk s) c) := by simp [ses]
/-- below, by its bytes -/
def blw (a c : List UInt8) : Bool := decide (c = a) || abvV a c
theorem won_len {l : Lb} (h : okL l = true) : l.pkg.length ≤ 120 := by
  unfold okL at h; simp only [Bool.and_eq_true] at h
  exact (okP_len h.1).1
theorem okL_pkg {l : Lb} (h : okL l = true) : okP l.pkg = true := by
  unfold okL at h; simp only [Bool.and_eq_true] at h; exact h.1
theorem bad_ctl : ∀ (p n : List UInt8), (58 : UInt8) ∈ p → (58 : UInt8) ∈ ctl (p ++ 58 :: n)
  | [], n, h => by cases h
  | c :: r, n, h => by
    by_cases hc : c = 58
    · simp [ctl, hc]
    · have hr : (58 : UInt8) ∈ r := by
        rcases List.mem_cons.1 h with e | e
        · exact absurd e.symm hc
        · exact e
      simp only [List.cons_append, ctl, hc, if_false]
      exact bad_ctl r n hr
theorem prs_good {l : Lb} (h : okL l = true) : prs (prt l) = (l, 0) := by
  have h1 := okP_colon (okL_pkg h)
  obtain ⟨e1, e2⟩ := cut_colon l.pkg l.name h1
  rw [prs_prt, e1, e2]; unfold chk; rw [if_pos h]
theorem prs_bad {l : Lb} (h : okL l = false) : prs (prt l) = (zl, 10) := by
  rw [prs_prt]
  unfold chk
  by_cases hc : (58 : UInt8) ∈ l.pkg
  · have h1 := bad_ctl l.pkg l.name hc
    have h2 : okC (ctl (l.pkg ++ 58 :: l.name)) = false := by
      cases hh : okC (ctl (l.pkg ++ 58 :: l.name))
      · rfl
      · exact absurd h1 (okC_colon hh)
    simp [okL, h2]
  · obtain ⟨e1, e2⟩ := cut_colon l.pkg l.name hc
    rw [e1, e2]
    simp [h]
end Go.Proofs.Ytoldcbfmkibkdaa
