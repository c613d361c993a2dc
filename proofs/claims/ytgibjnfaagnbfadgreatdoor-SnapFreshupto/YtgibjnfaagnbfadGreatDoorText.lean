/-
  Files and their texts: plain lists.
-/
import Derived.Test.YtgibjnfaagnbfadGreatDoorParts
import Derived.Lib.AtoiAll
import Derived.Lib.ItoaMem
import Derived.Lib.Split
import Derived.Lib.SplitLaws
import Derived.Lib.IndexBytes
namespace Go.Proofs.YtgibjnfaagnbfadGreatDoor

/-- A file. -/
structure Fl where
  path : List UInt8
  text : List UInt8
  blob : Int
  size : Int

def feq (a b : Fl) : Bool := a.path == b.path && a.text == b.text && a.blob == b.blob && a.size == b.size
theorem feq_iff (a b : Fl) : feq a b = true ↔ a = b := by
  obtain ⟨p, t, b1, s⟩ := a
  obtain ⟨p', t', b', s'⟩ := b
  simp [feq, and_assoc]
theorem feq_self (a : Fl) : feq a a = true := (feq_iff a a).2 rfl
def leq : List Fl → List Fl → Bool
  | [], [] => true
  | a :: l, b :: m => feq a b && leq l m
  | _, _ => false
theorem leq_iff : ∀ (l m : List Fl), leq l m = true ↔ l = m
  | [], [] => by simp [leq]
  | [], _ :: _ => by simp [leq]
  | _ :: _, [] => by simp [leq]
  | a :: l, b :: m => by
    simp only [leq, Bool.and_eq_true, feq_iff, leq_iff l m, List.cons.injEq]

/-- TARGETS -/
def tgt : List UInt8 := [84, 65, 82, 71, 69, 84, 83]
def isM (p : List UInt8) : Bool := base p == tgt
def fits (f : Fl) : Bool :=
  if isM f.path then f.blob == 0 && f.size == (f.text.length : Int)
  else f.text == [] && (decide (0 ≤ f.blob) && decide (f.blob ≤ 1152921504606846976)) && (decide (0 ≤ f.size) && decide (f.size ≤ 4611686018427387904))
def pathOk (p : List UInt8) : Bool := !(p == []) && okP p
def fileE (f : Fl) : Int := if pathOk f.path then (if fits f then 0 else 8) else 7
theorem fileE_seven (f : Fl) : fileE f = 7 ↔ pathOk f.path = false := by
  unfold fileE; cases pathOk f.path <;> cases fits f <;> simp
theorem fileE_zero (f : Fl) : fileE f = 0 ↔ pathOk f.path = true ∧ fits f = true := by
  unfold fileE; cases pathOk f.path <;> cases fits f <;> simp
/-- may q stand right behind p? -/
def fol (p q : List UInt8) : Bool := decide (cmpP (pcs p) (pcs q) < 0) && !abvV p q
def chain : List Fl → Bool
  | a :: b :: r => fol a.path b.path && chain (b :: r)
  | _ => true
def stand (l : List Fl) : Bool := decide (l.length ≤ 512) && l.all (fun f => fileE f == 0) && chain l
def validE (l : List Fl) : Int := if l.all (fun f => pathOk f.path) then (if stand l then 0 else 8) else 7
theorem stand_all {l : List Fl} (h : stand l = true) : ∀ f ∈ l, fileE f = 0 := by
  unfold stand at h
  simp only [Bool.and_eq_true, List.all_eq_true, beq_iff_eq] at h
  exact h.1.2
theorem validE_zero (l : List Fl) : validE l = 0 ↔ stand l = true := by
  unfold validE
  constructor
  · intro h; cases hs : stand l
    · rw [hs] at h; revert h; split <;> simp
    · rfl
  · intro h
    have : l.all (fun f => pathOk f.path) = true := List.all_eq_true.2 fun f hf => ((fileE_zero f).1 (stand_all h f hf)).1
    rw [this, h]; rfl

/-- two digits a byte -/
def hx (n : Nat) : UInt8 := if n < 10 then UInt8.ofNat (48 + n) else UInt8.ofNat (87 + n)
def hexs : List UInt8 → List UInt8
  | [] => []
  | c :: r => hx (c.toNat / 16) :: hx (c.toNat % 16) :: hexs r
theorem hexs_length : ∀ l, (hexs l).length = 2 * l.length
  | [] => rfl
  | c :: r => by simp only [hexs, List.length_cons, hexs_length r]; omega
theorem hexs_app : ∀ a b, hexs (a ++ b) = hexs a ++ hexs b
  | [], b => rfl
  | c :: r, b => by simp [hexs, hexs_app r b]
/-- the words of a file's line -/
def wordsOf (f : Fl) : List (List UInt8) :=
  if isM f.path then [[116], f.path, hexs f.text] else [[102], f.path, Lib.itoa f.blob, Lib.itoa f.size]
/-- with blanks between -/
def blanks : List (List UInt8) → List UInt8
  | [] => []
  | [a] => a
  | a :: b :: r => a ++ 32 :: blanks (b :: r)
def line (f : Fl) : List UInt8 := blanks (wordsOf f) ++ [10]
def prt : List Fl → List UInt8
  | [] => []
  | f :: r => line f ++ prt r
theorem prt_app : ∀ a b, prt (a ++ b) = prt a ++ prt b
  | [], b => rfl
  | f :: r, b => by simp [prt, prt_app r b]

/-- the words of a line -/
def cutAt (c : UInt8) : List UInt8 → List (List UInt8)
  | [] => [[]]
  | x :: r => if x = c then [] :: cutAt c r else (match cutAt c r with | [] => [[x]] | h :: t => (x :: h) :: t)
theorem cutAt_ne (c : UInt8) : ∀ l, cutAt c l ≠ []
  | [] => by simp [cutAt]
  | x :: r => by
    unfold cutAt
    split
    · simp
    · cases cutAt c r <;> simp
theorem cutAt_free (c : UInt8) : ∀ (l : List UInt8), c ∉ l → cutAt c l = [l]
  | [], _ => rfl
  | x :: r, h => by
    have hx : x ≠ c := fun e => h (by simp [e])
    rw [cutAt, if_neg hx, cutAt_free c r (fun e => h (by simp [e]))]
theorem cutAt_app (c : UInt8) : ∀ (a b : List UInt8), c ∉ a → cutAt c (a ++ c :: b) = a :: cutAt c b
  | [], b, _ => by simp [cutAt]
  | x :: r, b, h => by
    have hx : x ≠ c := fun e => h (by simp [e])
    rw [List.cons_append, cutAt, if_neg hx, cutAt_app c r b (fun e => h (by simp [e]))]
theorem cutAt_blanks : ∀ (ws : List (List UInt8)), ws ≠ [] → (∀ x ∈ ws, (32 : UInt8) ∉ x) → cutAt 32 (blanks ws) = ws
  | [], h, _ => absurd rfl h
  | [a], _, h => cutAt_free 32 a (h a (by simp))
  | a :: b :: r, _, h => by
    rw [blanks, cutAt_app 32 a _ (h a (by simp)), cutAt_blanks (b :: r) (by simp) (fun x hx => h x (by simp [hx]))]
/-- the lines, each with its end -/
def lns : List UInt8 → List (List UInt8)
  | [] => []
  | x :: r => if x = 10 then [10] :: lns r else (match lns r with | [] => [[x]] | h :: t => (x :: h) :: t)
theorem lns_app : ∀ (a b : List UInt8), (10 : UInt8) ∉ a → lns (a ++ 10 :: b) = (a ++ [10]) :: lns b
  | [], b, _ => by simp [lns]
  | x :: r, b, h => by
    have hx : x ≠ 10 := fun e => h (by simp [e])
    rw [List.cons_append, lns, if_neg hx, lns_app r b (fun e => h (by simp [e]))]
    rfl
theorem lns_free : ∀ (l : List UInt8), l ≠ [] → (10 : UInt8) ∉ l → lns l = [l]
  | [], h, _ => absurd rfl h
  | [x], _, h => by
    have hx : x ≠ 10 := fun e => h (by simp [e])
    simp [lns, hx]
  | x :: y :: r, _, h => by
    have hx : x ≠ 10 := fun e => h (by simp [e])
    rw [lns, if_neg hx, lns_free (y :: r) (by simp) (fun e => h (by simp [e]))]
/-- a line without its end -/
def chop (l : List UInt8) : List UInt8 := Lib.trimSuffix l [10]
theorem chop_end (l : List UInt8) : chop (l ++ [10]) = l := by
  unfold chop Lib.trimSuffix Lib.hasSuffix
  have : ([10] : List UInt8).isSuffixOf (l ++ [10]) = true := by rw [List.isSuffixOf_iff_suffix]; exact ⟨l, rfl⟩
  rw [this]; simp

/-- a digit's value, of either kind -/
def hv (c : UInt8) : Option Nat :=
  if 48 ≤ c.toNat ∧ c.toNat ≤ 57 then some (c.toNat - 48) else if 97 ≤ c.toNat ∧ c.toNat ≤ 102 then some (c.toNat - 87)
  else if 65 ≤ c.toNat ∧ c.toNat ≤ 70 then some (c.toNat - 55) else none
def pair (a b : UInt8) : Option Nat := match hv a, hv b with | some x, some y => some (16 * x + y) | _, _ => none
def unhex : List UInt8 → Option (List UInt8)
  | [] => some []
  | [_] => none
  | a :: b :: r => match pair a b, unhex r with | some n, some t => some (UInt8.ofNat n :: t) | _, _ => none
theorem hv_hx : ∀ n, n < 16 → hv (hx n) = some n := by decide
theorem unhex_hexs : ∀ l, unhex (hexs l) = some l
  | [] => rfl
  | c :: r => by
    have h := c.toNat_lt
    rw [hexs, unhex, unhex_hexs r, pair, hv_hx _ (by omega), hv_hx _ (by omega)]
    simp only [Option.some.injEq, List.cons.injEq, and_true]
    have : 16 * (c.toNat / 16) + c.toNat % 16 = c.toNat := by omega
    rw [this]; simp
/-- the file that a line's words tell of -/
def fileOf : List (List UInt8) → Option Fl
  | [k, p, h] => if k = [116] then (match unhex h with | some t => some ⟨p, t, 0, t.length⟩ | none => none) else none
  | [k, p, b, z] => if k = [102] then (match Lib.atoiAll b, Lib.atoiAll z with | .ok m, .ok n => some ⟨p, [], m, n⟩ | _, _ => none) else none
  | _ => none
def rdl : List (List UInt8) → Option (List Fl)
  | [] => some []
  | x :: r => match fileOf (cutAt 32 (chop x)), rdl r with | some f, some l => some (f :: l) | _, _ => none
def rd (s : List UInt8) : Option (List Fl) :=
  match rdl (lns s) with | some l => if stand l = true ∧ prt l = s then some l else none | none => none

/-! ### digits -/
theorem dec_digit : ∀ (u : Nat), ∀ c ∈ Lib.decDigits u, 48 ≤ c.toNat ∧ c.toNat ≤ 57 := by
  intro u
  induction u using Nat.strongRecOn with
  | ind u ih =>
    intro c hc
    rw [Lib.decDigits] at hc
    split at hc
    · simp at hc; subst hc; rename_i h; simp [UInt8.toNat_ofNat]; omega
    · rename_i h
      rcases List.mem_append.1 hc with h1 | h1
      · exact ih (u / 10) (by omega) c h1
      · simp at h1; subst h1; simp [UInt8.toNat_ofNat]; omega
theorem dec_ne (u : Nat) : Lib.decDigits u ≠ [] := by rw [Lib.decDigits]; split <;> simp
theorem pu_app : ∀ (l : List UInt8) (acc u : Nat) (c : UInt8), Lib.parseUint10 acc l = .ok u → 48 ≤ c.toNat → c.toNat ≤ 57 → u * 10 + (c.toNat - 48) < 18446744073709551616 →
    Lib.parseUint10 acc (l ++ [c]) = .ok (u * 10 + (c.toNat - 48))
  | [], acc, u, c, h, h1, h2, h3 => by
    simp only [Lib.parseUint10] at h
    injection h with h; subst h
    simp only [List.nil_append, Lib.parseUint10]
    rw [if_pos ⟨h1, h2⟩, if_neg (by omega), if_neg (by omega)]
  | x :: r, acc, u, c, h, h1, h2, h3 => by
    simp only [List.cons_append, Lib.parseUint10] at h ⊢
    split at h
    · rename_i hx
      split at h
      · cases h
      · rename_i hy
        split at h
        · cases h
        · rename_i hz
          rw [if_pos hx, if_neg hy, if_neg hz]
          exact pu_app r _ u c h h1 h2 h3
    · cases h
theorem pu_dec (u : Nat) : u < 18446744073709551616 → Lib.parseUint10 0 (Lib.decDigits u) = .ok u := by
  induction u using Nat.strongRecOn with
  | ind u ih =>
    intro hu
    rw [Lib.decDigits]
    split
    · rename_i h
      simp only [Lib.parseUint10]
      have e : (UInt8.ofNat (48 + u)).toNat = 48 + u := by simp [UInt8.toNat_ofNat]; omega
      rw [e, if_pos ⟨by omega, by omega⟩, if_neg (by omega), if_neg (by omega)]
      congr 1; omega
    · rename_i h
      have e : (UInt8.ofNat (48 + u % 10)).toNat = 48 + u % 10 := by simp [UInt8.toNat_ofNat]; omega
      have := pu_app _ _ _ (UInt8.ofNat (48 + u % 10)) (ih (u / 10) (by omega) (by omega)) (by omega) (by omega) (by omega)
      rw [this, e]
      congr 1; omega
theorem atoi_dec (u : Nat) (hu : u < 9223372036854775808) : Lib.atoiAll (Lib.decDigits u) = .ok (u : Int) := by
  have hp := pu_dec u (by omega)
  have hd := dec_digit u
  have hne := dec_ne u
  revert hp hd hne
  generalize Lib.decDigits u = L
  intro hp hd hne
  cases L with
  | nil => exact absurd rfl hne
  | cons c r =>
    have hc := hd c (by simp)
    unfold Lib.atoiAll
    simp only
    rw [if_neg (by omega)]
    unfold Lib.parseMag
    rw [if_neg (by simp), hp]
    simp only
    rw [if_neg (by omega), if_neg (by omega), if_neg (by omega)]
theorem itoa_nat (n : Int) (h : 0 ≤ n) : Lib.itoa n = Lib.decDigits n.toNat := by
  unfold Lib.itoa; rw [if_neg (by omega)]
theorem atoi_itoa (n : Int) (h : 0 ≤ n) (h2 : n ≤ 9223372036854775807) : Lib.atoiAll (Lib.itoa n) = .ok n := by
  rw [itoa_nat n h, atoi_dec _ (by omega)]; congr 1; omega

/-! ### what stands in a line -/
theorem okB_free {c : UInt8} (h : okB c = true) : c ≠ 32 ∧ c ≠ 10 := by
  constructor <;> (intro e; subst e; revert h; decide)
theorem okC_free {l : List UInt8} (h : okC l = true) : ∀ c ∈ l, okB c = true := by
  unfold okC at h
  simp only [Bool.and_eq_true, List.all_eq_true] at h
  exact h.2
theorem sp_mem : ∀ (l : List UInt8) (c : UInt8), c ∈ l → c = 47 ∨ ∃ p ∈ sp l, c ∈ p := by
  intro l
  induction l with
  | nil => intro c h; simp at h
  | cons x r ih =>
    intro c hc
    by_cases hx : x = 47
    · rcases List.mem_cons.1 hc with h | h
      · exact .inl (h.trans hx)
      · rcases ih c h with h | ⟨p, hp, hcp⟩
        · exact .inl h
        · exact .inr ⟨p, by rw [sp, if_pos hx]; simp [hp], hcp⟩
    · rcases List.mem_cons.1 hc with h | h
      · subst h
        rw [sp, if_neg hx]
        cases hs : sp r with
        | nil => exact absurd hs (sp_ne r)
        | cons p q => exact .inr ⟨c :: p, by simp, by simp⟩
      · rcases ih c h with h | ⟨p, hp, hcp⟩
        · exact .inl h
        · rw [sp, if_neg hx]
          cases hs : sp r with
          | nil => exact absurd hs (sp_ne r)
          | cons q t =>
            rw [hs] at hp
            rcases List.mem_cons.1 hp with h2 | h2
            · subst h2; exact .inr ⟨x :: p, by simp, by simp [hcp]⟩
            · exact .inr ⟨p, by simp [h2], hcp⟩
theorem pathOk_free {p : List UInt8} (h : pathOk p = true) : ∀ c ∈ p, c ≠ 32 ∧ c ≠ 10 := by
  intro c hc
  unfold pathOk at h
  simp only [Bool.and_eq_true, Bool.not_eq_true', beq_eq_false_iff_ne] at h
  have ha := okP_all h.2
  have hp : pcs p = sp p := by unfold pcs; rw [if_neg h.1]
  rcases sp_mem p c hc with e | ⟨q, hq, hcq⟩
  · subst e; decide
  · rw [hp, List.all_eq_true] at ha
    exact okB_free (okC_free (ha q hq) c hcq)
theorem hx_free : ∀ n, n < 16 → hx n ≠ 32 ∧ hx n ≠ 10 := by decide
theorem hexs_free : ∀ (l : List UInt8), ∀ c ∈ hexs l, c ≠ 32 ∧ c ≠ 10
  | [], c, h => by simp [hexs] at h
  | x :: r, c, h => by
    have hl := x.toNat_lt
    rw [hexs] at h
    rcases List.mem_cons.1 h with h | h
    · subst h; exact hx_free _ (by omega)
    · rcases List.mem_cons.1 h with h | h
      · subst h; exact hx_free _ (by omega)
      · exact hexs_free r c h
theorem dec_free (u : Nat) : ∀ c ∈ Lib.decDigits u, c ≠ 32 ∧ c ≠ 10 := fun c hc => by
  have := dec_digit u c hc
  constructor <;> (intro e; subst e; revert this; decide)
theorem words_free {f : Fl} (h : fileE f = 0) : ∀ x ∈ wordsOf f, ∀ c ∈ x, c ≠ 32 ∧ c ≠ 10 := by
  obtain ⟨hp, hf⟩ := (fileE_zero f).1 h
  intro x hx c hc
  unfold wordsOf at hx
  unfold fits at hf
  split at hx
  · simp only [List.mem_cons, List.not_mem_nil, or_false] at hx
    rcases hx with rfl | rfl | rfl
    · simp at hc; subst hc; decide
    · exact pathOk_free hp c hc
    · exact hexs_free _ c hc
  · rename_i hm
    rw [if_neg hm] at hf
    simp only [Bool.and_eq_true, decide_eq_true_eq] at hf
    simp only [List.mem_cons, List.not_mem_nil, or_false] at hx
    rcases hx with rfl | rfl | rfl | rfl
    · simp at hc; subst hc; decide
    · exact pathOk_free hp c hc
    · rw [itoa_nat _ hf.1.2.1] at hc; exact dec_free _ c hc
    · rw [itoa_nat _ hf.2.1] at hc; exact dec_free _ c hc
theorem blanks_free : ∀ (ws : List (List UInt8)), (∀ x ∈ ws, (10 : UInt8) ∉ x) → (10 : UInt8) ∉ blanks ws
  | [], _ => by simp [blanks]
  | [a], h => by simpa [blanks] using h a (by simp)
  | a :: b :: r, h => by
    rw [blanks]
    have h1 := h a (by simp)
    have h2 := blanks_free (b :: r) (fun x hx => h x (by simp [hx]))
    simp [h1, h2]
theorem wordsOf_ne (f : Fl) : wordsOf f ≠ [] := by unfold wordsOf; split <;> simp
theorem fileOf_words {f : Fl} (h : fileE f = 0) : fileOf (wordsOf f) = some f := by
  obtain ⟨hp, hf⟩ := (fileE_zero f).1 h
  unfold wordsOf
  unfold fits at hf
  split
  · rename_i hm
    rw [if_pos hm] at hf
    simp only [Bool.and_eq_true, beq_iff_eq] at hf
    simp only [fileOf, if_true, unhex_hexs]
    obtain ⟨p, t, b, s⟩ := f
    simp only at hf ⊢
    rw [hf.1, hf.2]
  · rename_i hm
    rw [if_neg hm] at hf
    simp only [Bool.and_eq_true, decide_eq_true_eq, beq_iff_eq] at hf
    simp only [fileOf, if_true]
    rw [atoi_itoa _ hf.1.2.1 (by omega), atoi_itoa _ hf.2.1 (by omega)]
    obtain ⟨p, t, b, s⟩ := f
    simp only at hf ⊢
    rw [hf.1.1]
theorem lns_prt : ∀ (l : List Fl), (∀ f ∈ l, fileE f = 0) → lns (prt l) = l.map line
  | [], _ => rfl
  | f :: r, h => by
    have hf := words_free (h f (by simp))
    have h10 : (10 : UInt8) ∉ blanks (wordsOf f) := blanks_free _ fun x hx e => (hf x hx 10 e).2 rfl
    rw [prt, line, List.append_assoc]
    show lns (blanks (wordsOf f) ++ 10 :: prt r) = _
    rw [lns_app _ _ h10, lns_prt r (fun g hg => h g (by simp [hg]))]
    rfl
theorem rdl_lines : ∀ (l : List Fl), (∀ f ∈ l, fileE f = 0) → rdl (l.map line) = some l
  | [], _ => rfl
  | f :: r, h => by
    have hf := words_free (h f (by simp))
    rw [List.map_cons, rdl, line, chop_end, cutAt_blanks _ (wordsOf_ne f) (fun x hx e => (hf x hx 32 e).1 rfl), fileOf_words (h f (by simp)), rdl_lines r (fun g hg => h g (by simp [hg]))]
theorem rd_prt {l : List Fl} (h : stand l = true) : rd (prt l) = some l := by
  unfold rd
  rw [lns_prt l (stand_all h), rdl_lines l (stand_all h)]
  simp [h]
theorem rd_some {s : List UInt8} {l : List Fl} (h : rd s = some l) : stand l = true ∧ prt l = s := by
  unfold rd at h
  cases hr : rdl (lns s) with
  | none => rw [hr] at h; simp at h
  | some m =>
    rw [hr] at h
    simp only at h
    split at h
    · rename_i hc; injection h with h; subst h; exact hc
    · cases h
/-- Whatever reads right texts back, and hands on only what prints as the text, is this reader. -/
theorem rd_unique (g : List UInt8 → List Fl) (hg : ∀ l, stand l = true → g (prt l) = l) (s : List UInt8) :
    rd s = if stand (g s) = true ∧ prt (g s) = s then some (g s) else none := by
  by_cases h : stand (g s) = true ∧ prt (g s) = s
  · rw [if_pos h]
    have := rd_prt h.1
    rw [h.2] at this; exact this
  · rw [if_neg h]
    cases hr : rd s with
    | none => rfl
    | some l =>
      obtain ⟨h1, h2⟩ := rd_some hr
      have := hg l h1
      rw [h2] at this
      rw [this] at h
      exact absurd ⟨h1, h2⟩ h
end Go.Proofs.YtgibjnfaagnbfadGreatDoor
