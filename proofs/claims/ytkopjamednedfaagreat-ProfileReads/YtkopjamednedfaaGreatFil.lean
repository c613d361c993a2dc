/-
  Files and their texts: plain lists.
-/
import Derived.Test.YtkopjamednedfaaGreatParts
namespace Go.Proofs.YtkopjamednedfaaGreat

/-- A file. -/
structure Fl where
  path : List UInt8
  text : List UInt8
  blob : Int
  size : Int

def feq (a b : Fl) : Bool := a.path == b.path && a.text == b.text && a.blob == b.blob && a.size == b.size
theorem feq_iff (a b : Fl) : feq a b = true ↔ a = b := by
  obtain ⟨p, t, b1, s⟩ := a
  obtain ⟨p', t', b', s'⟩ := b
  simp [feq, and_assoc]
theorem feq_self (a : Fl) : feq a a = true := (feq_iff a a).2 rfl
def leq : List Fl → List Fl → Bool
  | [], [] => true
  | a :: l, b :: m => feq a b && leq l m
  | _, _ => false
theorem leq_iff : ∀ (l m : List Fl), leq l m = true ↔ l = m
  | [], [] => by simp [leq]
  | [], _ :: _ => by simp [leq]
  | _ :: _, [] => by simp [leq]
  | a :: l, b :: m => by
    simp only [leq, Bool.and_eq_true, feq_iff, leq_iff l m, List.cons.injEq]

/-- TARGETS -/
def tgt : List UInt8 := [84, 65, 82, 71, 69, 84, 83]
def isM (p : List UInt8) : Bool := base p == tgt
def fits (f : Fl) : Bool :=
  if isM f.path then f.blob == 0 && f.size == (f.text.length : Int)
  else f.text == [] && (decide (0 ≤ f.blob) && decide (f.blob ≤ 1152921504606846976)) && (decide (0 ≤ f.size) && decide (f.size ≤ 4611686018427387904))
def pathOk (p : List UInt8) : Bool := !(p == []) && okP p
def fileE (f : Fl) : Int := if pathOk f.path then (if fits f then 0 else 8) else 7
theorem fileE_seven (f : Fl) : fileE f = 7 ↔ pathOk f.path = false := by
  unfold fileE; cases pathOk f.path <;> cases fits f <;> simp
theorem fileE_zero (f : Fl) : fileE f = 0 ↔ pathOk f.path = true ∧ fits f = true := by
  unfold fileE; cases pathOk f.path <;> cases fits f <;> simp
/-- may q stand right behind p? -/
def fol (p q : List UInt8) : Bool := decide (cmpP (pcs p) (pcs q) < 0) && !abvV p q
def chain : List Fl → Bool
  | a :: b :: r => fol a.path b.path && chain (b :: r)
  | _ => true
def stand (l : List Fl) : Bool := decide (l.length ≤ 512) && l.all (fun f => fileE f == 0) && chain l
def validE (l : List Fl) : Int := if l.all (fun f => pathOk f.path) then (if stand l then 0 else 8) else 7
theorem stand_all {l : List Fl} (h : stand l = true) : ∀ f ∈ l, fileE f = 0 := by
  unfold stand at h
  simp only [Bool.and_eq_true, List.all_eq_true, beq_iff_eq] at h
  exact h.1.2
theorem validE_zero (l : List Fl) : validE l = 0 ↔ stand l = true := by
  unfold validE
  constructor
  · intro h; cases hs : stand l
    · rw [hs] at h; revert h; split <;> simp
    · rfl
  · intro h
    have : l.all (fun f => pathOk f.path) = true := List.all_eq_true.2 fun f hf => ((fileE_zero f).1 (stand_all h f hf)).1
    rw [this, h]; rfl

end Go.Proofs.YtkopjamednedfaaGreat
