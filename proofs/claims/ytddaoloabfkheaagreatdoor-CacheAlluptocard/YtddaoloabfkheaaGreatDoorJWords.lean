/-
  Plain lists: what lies between tokens, tokens, and what follows of them.
  Bytes: words, kinds, the program's and the document's.
-/
import Derived.Test.YtddaoloabfkheaaGreatDoorPkg
namespace Go.Proofs.YtddaoloabfkheaaGreatDoor

/-- a byte of words -/
def inW (c : UInt8) : Bool := (decide (97 ≤ c) && decide (c ≤ 122)) || (decide (65 ≤ c) && decide (c ≤ 90)) || (decide (48 ≤ c) && decide (c ≤ 57)) || [46, 95, 47, 42, 58, 45].contains c
/-- a blank -/
def isB (c : UInt8) : Bool := c == 9 || c == 10 || c == 13 || c == 32
/-- the kind of one of the six others; 0: it is none -/
def mkd (c : UInt8) : Nat :=
  if c = 123 then 2 else if c = 125 then 3 else if c = 91 then 4 else if c = 93 then 5 else if c = 44 then 6 else if c = 61 then 7 else 0
/-- the kind of the token that a byte begins -/
def kd (c : UInt8) : Nat := if inW c then 1 else mkd c

/-- how much is passed over (cm: within a comment) -/
def gp : Bool → List UInt8 → Nat
  | _, [] => 0
  | true, c :: r => 1 + gp (c != 10) r
  | false, c :: r => if c == 35 then 1 + gp true r else if isB c then 1 + gp false r else 0
/-- a stretch of blanks and comments alone? does it end within a comment? -/
def blk : Bool → List UInt8 → Bool × Bool
  | cm, [] => (true, cm)
  | true, c :: r => blk (c != 10) r
  | false, c :: r => if c == 35 then blk true r else if isB c then blk false r else (false, false)
/-- how many bytes of words -/
def wl : List UInt8 → Nat
  | [] => 0
  | c :: r => if inW c then 1 + wl r else 0
/-- how many more bytes the token has that this byte begins -/
def ktl (c : UInt8) (r : List UInt8) : Nat := if inW c then wl r else 0

theorem gp_le : ∀ (b : Bool) (r : List UInt8), gp b r ≤ r.length
  | true, [] => by simp [gp]
  | false, [] => by simp [gp]
  | true, c :: r => by have := gp_le (c != 10) r; simp only [gp, List.length_cons]; omega
  | false, c :: r => by
    have h1 := gp_le true r
    have h2 := gp_le false r
    simp only [gp, List.length_cons]
    split
    · omega
    · split <;> omega
theorem wl_le : ∀ r : List UInt8, wl r ≤ r.length
  | [] => by simp [wl]
  | c :: r => by
    have h1 := wl_le r
    simp only [wl, List.length_cons]
    split <;> omega
theorem ktl_le (c : UInt8) (r : List UInt8) : ktl c r ≤ r.length := by
  have := wl_le r
  unfold ktl
  split <;> omega

/-- a token -/
structure Tk where
  kind : Int
  text : List UInt8
  at' : Int
    deriving DecidableEq

/-- the tokens from a place that is not passed over -/
def tq (r : List UInt8) (n : Nat) : List Tk × Int :=
  match r with
  | [] => ([], -1)
  | c :: q => if kd c = 0 then ([], (n : Int)) else
    (⟨(kd c : Int), c :: q.take (ktl c q), (n : Int)⟩ :: (tq ((q.drop (ktl c q)).drop (gp false (q.drop (ktl c q)))) (n + 1 + ktl c q + gp false (q.drop (ktl c q)))).1,
      (tq ((q.drop (ktl c q)).drop (gp false (q.drop (ktl c q)))) (n + 1 + ktl c q + gp false (q.drop (ktl c q)))).2)
  termination_by r.length
  decreasing_by all_goals (simp only [List.length_drop, List.length_cons]; omega)
/-- the tokens of what begins at a place -/
def tg (r : List UInt8) (n : Nat) : List Tk × Int := tq (r.drop (gp false r)) (n + gp false r)
def toks (s : List UInt8) : List Tk × Int := tg s 0

theorem tq_nil (n : Nat) : tq [] n = ([], -1) := by rw [tq]
theorem tq_bad {c : UInt8} {q : List UInt8} {n : Nat} (h : kd c = 0) : tq (c :: q) n = ([], (n : Int)) := by rw [tq, if_pos h]
theorem tq_tok {c : UInt8} {q : List UInt8} {n : Nat} (h : kd c ≠ 0) : tq (c :: q) n = (⟨(kd c : Int), c :: q.take (ktl c q), (n : Int)⟩ :: (tg (q.drop (ktl c q)) (n + 1 + ktl c q)).1, (tg (q.drop (ktl c q)) (n + 1 + ktl c q)).2) := by
  rw [tq, if_neg h]; rfl

/-- a step of the document's reader: a blank, a comment -/
theorem gp_blank {c : UInt8} {r : List UInt8} (h : isB c = true) : gp false (c :: r) = 1 + gp false r := by
  rw [gp]
  have : (c == 35) = false := by
    simp only [isB, Bool.or_eq_true, beq_iff_eq] at h
    rcases h with ((rfl | rfl) | rfl) | rfl <;> decide
  rw [this, if_neg (by simp), if_pos h]
theorem tg_blank {c : UInt8} {r : List UInt8} {n : Nat} (h : isB c = true) : tg (c :: r) n = tg r (n + 1) := by
  unfold tg
  rw [gp_blank h, Nat.add_comm 1, List.drop_succ_cons, show n + (gp false r + 1) = n + 1 + gp false r by omega]
theorem tg_nil (n : Nat) : tg [] n = ([], -1) := by unfold tg; simp [gp, tq_nil]
/-- how long a comment is, up to the line's end -/
def cl : List UInt8 → Nat
  | [] => 0
  | c :: r => if c == 10 then 0 else 1 + cl r
theorem cl_le : ∀ r : List UInt8, cl r ≤ r.length
  | [] => by simp [cl]
  | c :: r => by
    have h1 := cl_le r
    simp only [cl, List.length_cons]
    split <;> omega
theorem gp_true : ∀ r : List UInt8, gp true r = cl r + gp false (r.drop (cl r))
  | [] => by simp [gp, cl]
  | c :: r => by
    rw [gp, cl]
    by_cases h : (c == 10) = true
    · have e : c = 10 := by simpa using h
      subst e
      rw [if_pos (by decide)]
      rw [show ((10 : UInt8) != 10) = false by decide]
      simp only [List.drop_zero, Nat.zero_add]
      rw [gp_blank (by decide)]
    · rw [if_neg h]
      have e : (c != 10) = true := by simpa using h
      rw [e, gp_true r, Nat.add_comm 1 (cl r), List.drop_succ_cons]; omega
theorem tg_comment {r : List UInt8} {n : Nat} : tg (35 :: r) n = tg (r.drop (cl r)) (n + 1 + cl r) := by
  unfold tg
  have e : gp false (35 :: r) = 1 + (cl r + gp false (r.drop (cl r))) := by rw [gp, if_pos (by decide), gp_true]
  rw [e, Nat.add_comm 1, List.drop_succ_cons, List.drop_drop]
  congr 1; omega
theorem gp_other {c : UInt8} {r : List UInt8} (h1 : c ≠ 35) (h2 : isB c = false) : gp false (c :: r) = 0 := by
  rw [gp, if_neg (by simpa using h1), if_neg (by simp [h2])]
theorem tg_other {c : UInt8} {r : List UInt8} {n : Nat} (h1 : c ≠ 35) (h2 : isB c = false) : tg (c :: r) n = tq (c :: r) n := by
  unfold tg
  rw [gp_other h1 h2]; rfl
/-- by all the bytes there are -/
theorem u8_all {P : UInt8 → Prop} (h : ∀ n : Fin 256, P (UInt8.ofFin n)) (c : UInt8) : P c := h c.toFin
/-- kinds part bytes -/
theorem kd_ne {c : UInt8} (h : kd c ≠ 0) : c ≠ 35 ∧ isB c = false :=
  u8_all (P := fun c => kd c ≠ 0 → c ≠ 35 ∧ isB c = false) (by decide +kernel) c h
theorem mkd_word {c : UInt8} (h : mkd c ≠ 0) : inW c = false :=
  u8_all (P := fun c => mkd c ≠ 0 → inW c = false) (by decide +kernel) c h
theorem kd_mark {c : UInt8} (h : mkd c ≠ 0) : kd c = mkd c := by unfold kd; rw [mkd_word h]; simp
theorem kd_word {c : UInt8} (h : inW c = true) : kd c = 1 := by unfold kd; rw [if_pos h]
theorem tg_tok {c : UInt8} {q : List UInt8} {n : Nat} (h : kd c ≠ 0) : tg (c :: q) n = (⟨(kd c : Int), c :: q.take (ktl c q), (n : Int)⟩ :: (tg (q.drop (ktl c q)) (n + 1 + ktl c q)).1, (tg (q.drop (ktl c q)) (n + 1 + ktl c q)).2) := by
  obtain ⟨h1, h2⟩ := kd_ne h
  rw [tg_other h1 h2, tq_tok h]
end Go.Proofs.YtddaoloabfkheaaGreatDoor

namespace Go.Proofs.YtddaoloabfkheaaGreatDoor
open Go.RowKit

set_option maxHeartbeats 1000000 in
set_option maxRecDepth 100000 in
theorem indexByte0_any (l : List UInt8) (c : UInt8) (w : World) :
    Calls Tryz.prog 135 #[.string (bs l), .int .u8 c.toNat] w fun e w' => e = .returned (.int .i64 (Lib.indexByte l c)) ∧ w' = w := by
  have hc : ((c.toNat : Int)).toNat.toUInt8 = c := by simp
  go_enter Tryz.func135, Tryz.ntmps135
  go_wp2
  rw [run_callFunc_extern Tryz.func155 (by kernel_rfl) (by kernel_rfl) (by kernel_rfl) (e := Extern.BytealgIndexByte.indexByte) (by kernel_rfl), Lib.run_indexByteString, hc]
  simp only [Result.andThen]
  rw [Oper.upon_value]
  go_wp2
  go_ret
  exact ⟨rfl, rfl⟩
set_option maxRecDepth 100000 in
set_option maxHeartbeats 1000000 in
theorem xindexByte_any (l : List UInt8) (c : UInt8) (w : World) :
    Calls Tryz.prog 144 #[.string (bs l), .int .u8 c.toNat] w fun e w' => e = .returned (.int .i64 (Lib.indexByte l c)) ∧ w' = w := by
  go_enter Tryz.func144, Tryz.ntmps144
  go_wp2_with fail
  refine (indexByte0_any _ _ _).mono ?_
  rintro e w1 ⟨rfl, rfl⟩
  go_wp2_with fail
  go_ret
  exact ⟨rfl, rfl⟩

theorem idx_joints (c : UInt8) : decide (0 ≤ Lib.indexByte [46, 95, 47, 42, 58, 45] c) = [46, 95, 47, 42, 58, 45].contains c :=
  u8_all (P := fun c => decide (0 ≤ Lib.indexByte [46, 95, 47, 42, 58, 45] c) = [46, 95, 47, 42, 58, 45].contains c) (by decide +kernel) c
theorem idx_marks (c : UInt8) : (0 ≤ Lib.indexByte [123, 125, 91, 93, 44, 61] c → 2 + Lib.indexByte [123, 125, 91, 93, 44, 61] c = (mkd c : Int)) ∧ (¬ 0 ≤ Lib.indexByte [123, 125, 91, 93, 44, 61] c → mkd c = 0) ∧ Lib.indexByte [123, 125, 91, 93, 44, 61] c < 6 :=
  u8_all (P := fun c => (0 ≤ Lib.indexByte [123, 125, 91, 93, 44, 61] c → 2 + Lib.indexByte [123, 125, 91, 93, 44, 61] c = (mkd c : Int)) ∧ (¬ 0 ≤ Lib.indexByte [123, 125, 91, 93, 44, 61] c → mkd c = 0) ∧ Lib.indexByte [123, 125, 91, 93, 44, 61] c < 6) (by decide +kernel) c
theorem inW_nat (c : UInt8) : inW c = ((decide (97 ≤ c.toNat) && decide (c.toNat ≤ 122)) || (decide (65 ≤ c.toNat) && decide (c.toNat ≤ 90)) || (decide (48 ≤ c.toNat) && decide (c.toNat ≤ 57)) || [46, 95, 47, 42, 58, 45].contains c) :=
  u8_all (P := fun c => inW c = ((decide (97 ≤ c.toNat) && decide (c.toNat ≤ 122)) || (decide (65 ≤ c.toNat) && decide (c.toNat ≤ 90)) || (decide (48 ≤ c.toNat) && decide (c.toNat ≤ 57)) || [46, 95, 47, 42, 58, 45].contains c)) (by decide +kernel) c

theorem at_eq {l : List UInt8} {k : Nat} {c : UInt8} (h : k < l.length) (hc : l[k] = c) : ((((bs l)[k]'(show k < (bs l).size from h)).toNat : Int) == (c.toNat : Int)) = true := by
  rw [bs_get _ _ _ h, hc]; simp
theorem at_ne {l : List UInt8} {k : Nat} {c : UInt8} (h : k < l.length) (hc : l[k] ≠ c) : ((((bs l)[k]'(show k < (bs l).size from h)).toNat : Int) == (c.toNat : Int)) = false := by
  rw [bs_get _ _ _ h, beq_eq_false_iff_ne]; intro e; apply hc; apply UInt8.toNat_inj.1; exact Int.ofNat.inj e

set_option maxRecDepth 100000 in
set_option maxHeartbeats 1000000 in
theorem in_any (l : List UInt8) (c : UInt8) (w : World) (hl : l.length ≤ 1000) :
    Calls Tryz.prog 101 #[.string (bs l), .int .u8 c.toNat] w fun e w' => e = .returned (.bool (l.contains c)) ∧ w' = w := by
  have hz : (bs l).size = l.length := rfl
  obtain ⟨R, hR⟩ : ∃ R, l.contains c = R := ⟨_, rfl⟩
  rw [hR]
  have HR : Hid ((l.drop 0).contains c = R) := hR
  clear hR
  go_enter Tryz.func101, Tryz.ntmps101
  go_wp2_with fail
  go_loop [5] (fun s => ∃ k : Nat, k ≤ l.length ∧ s = .int .i64 k ∧ (l.drop k).contains c = R) (fun s => l.length - (intOf s).toNat)
  case atStart => exact ⟨0, by omega, rfl, HR.out⟩
  case round =>
    obtain ⟨k, hk, rfl, hr⟩ := hrel
    by_cases hlt : k < l.length
    · have hx := List.drop_eq_getElem_cons hlt
      rw [hx, List.contains_cons] at hr
      have HR : Hid ((c == l[k] || (l.drop (k + 1)).contains c) = R) := hr
      clear hr hx
      have k1 : (0 : Int) ≤ (k : Int) := by omega
      have k2 : (k : Int) < (l.length : Int) := by omega
      by_cases hc : l[k] = c
      · have e1 := at_eq hlt hc
        rw [hc] at HR
        go_wp2_with fail
        go_ret
        exact ⟨by rw [← HR.out]; simp, rfl⟩
      · have e1 := at_ne hlt hc
        go_wp2_with fail
        go_round
        case rel => exact ⟨k + 1, by omega, by go_num, by rw [← HR.out]; simp [Ne.symm hc]⟩
        case measure => simp [intOf]; omega
    · obtain rfl : k = l.length := by omega
      have HR : Hid (false = R) := by
        show false = R
        simp at hr; exact hr.symm
      clear hr
      go_wp2_with fail
      go_ret
      exact ⟨by rw [← HR.out]; rfl, rfl⟩

set_option maxRecDepth 100000 in
set_option maxHeartbeats 2000000 in
theorem inWord_any (c : UInt8) (w : World) :
    Calls Tryz.prog 143 #[.int .u8 c.toNat] w fun e w' => e = .returned (.bool (inW c)) ∧ w' = w := by
  obtain ⟨r, hr⟩ : ∃ r, inW c = r := ⟨_, rfl⟩
  rw [hr]
  rw [inW_nat] at hr
  obtain ⟨n, hn⟩ : ∃ n, c.toNat = n := ⟨_, rfl⟩
  have HC : Hid (∀ w : World, Calls Tryz.prog 144 #[.string (bs [46, 95, 47, 42, 58, 45]), .int .u8 c.toNat] w fun e w' => e = .returned (.int .i64 (Lib.indexByte [46, 95, 47, 42, 58, 45] c)) ∧ w' = w) := fun w => xindexByte_any _ c w
  rw [hn] at hr HC ⊢
  rw [← idx_joints] at hr
  obtain ⟨y, hy⟩ : ∃ y, Lib.indexByte [46, 95, 47, 42, 58, 45] c = y := ⟨_, rfl⟩
  rw [hy] at HC hr
  clear hy
  obtain ⟨t, ht⟩ : ∃ t, decide (0 ≤ y) = t := ⟨_, rfl⟩
  rw [ht] at hr
  have HR2 : Hid (((decide (97 ≤ n) && decide (n ≤ 122)) || (decide (65 ≤ n) && decide (n ≤ 90)) || (decide (48 ≤ n) && decide (n ≤ 57)) || t) = r) := hr
  clear hr hn
  by_cases h1 : 97 ≤ n ∧ n ≤ 122
  · obtain ⟨h1, h2⟩ := h1
    go_enter Tryz.func143, Tryz.ntmps143
    go_wp2_with fail
    go_ret
    exact ⟨by rw [← HR2.out]; simp [h1, h2], rfl⟩
  by_cases h2 : 65 ≤ n ∧ n ≤ 90
  · obtain ⟨h2, h3⟩ := h2
    have h4 : ¬ 97 ≤ n := by omega
    clear h1
    go_enter Tryz.func143, Tryz.ntmps143
    go_wp2_with fail
    go_ret
    exact ⟨by rw [← HR2.out]; simp [h2, h3], rfl⟩
  by_cases h3 : 48 ≤ n ∧ n ≤ 57
  · obtain ⟨h3, h4⟩ := h3
    have h5 : ¬ 97 ≤ n := by omega
    have h6 : ¬ 65 ≤ n := by omega
    clear h1 h2
    go_enter Tryz.func143, Tryz.ntmps143
    go_wp2_with fail
    go_ret
    exact ⟨by rw [← HR2.out]; simp [h3, h4], rfl⟩
  have z : t = r := by
    rw [← HR2.out]
    have e1 : (decide (97 ≤ n) && decide (n ≤ 122)) = false := by simp; omega
    have e2 : (decide (65 ≤ n) && decide (n ≤ 90)) = false := by simp; omega
    have e3 : (decide (48 ≤ n) && decide (n ≤ 57)) = false := by simp; omega
    rw [e1, e2, e3]; rfl
  subst z
  clear HR2
  by_cases p1 : 97 ≤ n
  · have q0 : ¬ n ≤ 122 := by omega
    have q1 : 65 ≤ n := by omega
    have q2 : ¬ n ≤ 90 := by omega
    have q3 : 48 ≤ n := by omega
    have q4 : ¬ n ≤ 57 := by omega
    clear h1 h2 h3
    go_enter Tryz.func143, Tryz.ntmps143
    go_wp2_with fail
    refine (HC.out _).mono ?_
    rintro e w1 ⟨rfl, rfl⟩
    go_wp2_with fail
    go_ret
    exact ⟨by show Ending.returned (Value.bool _) = _; rw [decide_eq_false (by omega : ¬ (n : Int) ≤ 122), decide_eq_false (by omega : ¬ (n : Int) ≤ 90), decide_eq_false (by omega : ¬ (n : Int) ≤ 57)]; rfl, rfl⟩
  by_cases p2 : 65 ≤ n
  · have q0 : ¬ n ≤ 90 := by omega
    have q1 : 48 ≤ n := by omega
    have q2 : ¬ n ≤ 57 := by omega
    clear h1 h2 h3
    go_enter Tryz.func143, Tryz.ntmps143
    go_wp2_with fail
    refine (HC.out _).mono ?_
    rintro e w1 ⟨rfl, rfl⟩
    go_wp2_with fail
    go_ret
    exact ⟨by show Ending.returned (Value.bool _) = _; rw [decide_eq_false (by omega : ¬ (n : Int) ≤ 90), decide_eq_false (by omega : ¬ (n : Int) ≤ 57)]; rfl, rfl⟩
  by_cases p3 : 48 ≤ n
  · have q0 : ¬ n ≤ 57 := by omega
    clear h1 h2 h3
    go_enter Tryz.func143, Tryz.ntmps143
    go_wp2_with fail
    refine (HC.out _).mono ?_
    rintro e w1 ⟨rfl, rfl⟩
    go_wp2_with fail
    go_ret
    exact ⟨by show Ending.returned (Value.bool _) = _; rw [decide_eq_false (by omega : ¬ (n : Int) ≤ 57)]; rfl, rfl⟩
  clear h1 h2 h3
  go_enter Tryz.func143, Tryz.ntmps143
  go_wp2_with fail
  refine (HC.out _).mono ?_
  rintro e w1 ⟨rfl, rfl⟩
  go_wp2_with fail
  go_ret
  exact ⟨rfl, rfl⟩

set_option maxRecDepth 100000 in
set_option maxHeartbeats 2000000 in
theorem letter_any (c : UInt8) (w : World) :
    Calls Tryz.prog 77 #[.int .u8 c.toNat] w fun e w' => e = .returned (.bool (inW c)) ∧ w' = w := by
  obtain ⟨r, hr⟩ : ∃ r, inW c = r := ⟨_, rfl⟩
  rw [hr]
  rw [inW_nat] at hr
  obtain ⟨n, hn⟩ : ∃ n, c.toNat = n := ⟨_, rfl⟩
  have HC : Hid (∀ w : World, Calls Tryz.prog 101 #[.string (bs [46, 95, 47, 42, 58, 45]), .int .u8 c.toNat] w fun e w' => e = .returned (.bool ([46, 95, 47, 42, 58, 45].contains c)) ∧ w' = w) := fun w => in_any _ c w (by decide)
  rw [hn] at hr HC ⊢
  obtain ⟨t, ht⟩ : ∃ t, [46, 95, 47, 42, 58, 45].contains c = t := ⟨_, rfl⟩
  rw [ht] at HC hr
  clear ht
  have HR2 : Hid (((decide (97 ≤ n) && decide (n ≤ 122)) || (decide (65 ≤ n) && decide (n ≤ 90)) || (decide (48 ≤ n) && decide (n ≤ 57)) || t) = r) := hr
  clear hr hn
  by_cases h1 : 97 ≤ n ∧ n ≤ 122
  · obtain ⟨h1, h2⟩ := h1
    go_enter Tryz.func77, Tryz.ntmps77
    go_wp2_with fail
    go_ret
    exact ⟨by rw [← HR2.out]; simp [h1, h2], rfl⟩
  by_cases h2 : 65 ≤ n ∧ n ≤ 90
  · obtain ⟨h2, h3⟩ := h2
    have h4 : ¬ 97 ≤ n := by omega
    clear h1
    go_enter Tryz.func77, Tryz.ntmps77
    go_wp2_with fail
    go_ret
    exact ⟨by rw [← HR2.out]; simp [h2, h3], rfl⟩
  by_cases h3 : 48 ≤ n ∧ n ≤ 57
  · obtain ⟨h3, h4⟩ := h3
    have h5 : ¬ 97 ≤ n := by omega
    have h6 : ¬ 65 ≤ n := by omega
    clear h1 h2
    go_enter Tryz.func77, Tryz.ntmps77
    go_wp2_with fail
    go_ret
    exact ⟨by rw [← HR2.out]; simp [h3, h4], rfl⟩
  have z : t = r := by
    rw [← HR2.out]
    have e1 : (decide (97 ≤ n) && decide (n ≤ 122)) = false := by simp; omega
    have e2 : (decide (65 ≤ n) && decide (n ≤ 90)) = false := by simp; omega
    have e3 : (decide (48 ≤ n) && decide (n ≤ 57)) = false := by simp; omega
    rw [e1, e2, e3]; rfl
  subst z
  clear HR2
  by_cases p1 : 97 ≤ n
  · have q0 : ¬ n ≤ 122 := by omega
    have q1 : 65 ≤ n := by omega
    have q2 : ¬ n ≤ 90 := by omega
    have q3 : 48 ≤ n := by omega
    have q4 : ¬ n ≤ 57 := by omega
    clear h1 h2 h3
    go_enter Tryz.func77, Tryz.ntmps77
    go_wp2_with fail
    refine (HC.out _).mono ?_
    rintro e w1 ⟨rfl, rfl⟩
    go_wp2_with fail
    go_ret
    exact ⟨by show Ending.returned (Value.bool _) = _; rw [decide_eq_false (by omega : ¬ (n : Int) ≤ 122), decide_eq_false (by omega : ¬ (n : Int) ≤ 90), decide_eq_false (by omega : ¬ (n : Int) ≤ 57)]; rfl, rfl⟩
  by_cases p2 : 65 ≤ n
  · have q0 : ¬ n ≤ 90 := by omega
    have q1 : 48 ≤ n := by omega
    have q2 : ¬ n ≤ 57 := by omega
    clear h1 h2 h3
    go_enter Tryz.func77, Tryz.ntmps77
    go_wp2_with fail
    refine (HC.out _).mono ?_
    rintro e w1 ⟨rfl, rfl⟩
    go_wp2_with fail
    go_ret
    exact ⟨by show Ending.returned (Value.bool _) = _; rw [decide_eq_false (by omega : ¬ (n : Int) ≤ 90), decide_eq_false (by omega : ¬ (n : Int) ≤ 57)]; rfl, rfl⟩
  by_cases p3 : 48 ≤ n
  · have q0 : ¬ n ≤ 57 := by omega
    clear h1 h2 h3
    go_enter Tryz.func77, Tryz.ntmps77
    go_wp2_with fail
    refine (HC.out _).mono ?_
    rintro e w1 ⟨rfl, rfl⟩
    go_wp2_with fail
    go_ret
    exact ⟨by show Ending.returned (Value.bool _) = _; rw [decide_eq_false (by omega : ¬ (n : Int) ≤ 57)]; rfl, rfl⟩
  clear h1 h2 h3
  go_enter Tryz.func77, Tryz.ntmps77
  go_wp2_with fail
  refine (HC.out _).mono ?_
  rintro e w1 ⟨rfl, rfl⟩
  go_wp2_with fail
  go_ret
  exact ⟨rfl, rfl⟩

set_option maxRecDepth 100000 in
set_option maxHeartbeats 1000000 in
theorem xkind_any (c : UInt8) (w : World) : Calls Tryz.prog 126 #[.int .u8 c.toNat] w fun e w' => e = .returned (.int .i64 (kd c : Nat)) ∧ w' = w := by
  have H1 : Hid (∀ w : World, Calls Tryz.prog 143 #[.int .u8 c.toNat] w fun e w' => e = .returned (.bool (inW c)) ∧ w' = w) := fun w => inWord_any c w
  have H2 : Hid (∀ w : World, Calls Tryz.prog 144 #[.string (bs [123, 125, 91, 93, 44, 61]), .int .u8 c.toNat] w fun e w' => e = .returned (.int .i64 (Lib.indexByte [123, 125, 91, 93, 44, 61] c)) ∧ w' = w) := fun w => xindexByte_any _ c w
  obtain ⟨i1, i2, i3⟩ := idx_marks c
  unfold kd
  cases hw : inW c
  · rw [hw] at H1
    simp only [Bool.false_eq_true, if_false]
    generalize Lib.indexByte [123, 125, 91, 93, 44, 61] c = y at *
    generalize mkd c = m at *
    clear hw
    by_cases hy : 0 ≤ y
    · have e1 := i1 hy
      clear i1 i2
      have HE : Hid (2 + y = (m : Int)) := e1
      clear e1
      go_enter Tryz.func126, Tryz.ntmps126
      go_wp2_with fail
      refine (H1.out _).mono ?_
      rintro e w1 ⟨rfl, rfl⟩
      go_wp2_with fail
      refine (H2.out _).mono ?_
      rintro e w1 ⟨rfl, rfl⟩
      go_wp2_with fail
      go_ret
      exact ⟨by rw [← HE.out]; rfl, rfl⟩
    · have e1 := i2 hy
      subst e1
      clear i1 i2
      go_enter Tryz.func126, Tryz.ntmps126
      go_wp2_with fail
      refine (H1.out _).mono ?_
      rintro e w1 ⟨rfl, rfl⟩
      go_wp2_with fail
      refine (H2.out _).mono ?_
      rintro e w1 ⟨rfl, rfl⟩
      go_wp2_with fail
      go_ret
      exact ⟨rfl, rfl⟩
  · rw [hw] at H1
    simp only [if_true]
    clear i1 i2 i3 hw
    go_enter Tryz.func126, Tryz.ntmps126
    go_wp2_with fail
    refine (H1.out _).mono ?_
    rintro e w1 ⟨rfl, rfl⟩
    go_wp2_with fail
    go_ret
    exact ⟨rfl, rfl⟩

/-- the marks from one on -/
def mk6 (c : UInt8) : List UInt8 → Nat → Nat
  | [], _ => 0
  | d :: r, k => if d = c then k + 2 else mk6 c r (k + 1)
theorem mk6_mkd (c : UInt8) : mk6 c [123, 125, 91, 93, 44, 61] 0 = mkd c :=
  u8_all (P := fun c => mk6 c [123, 125, 91, 93, 44, 61] 0 = mkd c) (by decide +kernel) c

set_option maxRecDepth 100000 in
set_option maxHeartbeats 2000000 in
theorem rkind_any (c : UInt8) (w : World) : Calls Tryz.prog 76 #[.int .u8 c.toNat] w fun e w' => e = .returned (.int .i64 (mkd c : Nat)) ∧ w' = w := by
  obtain ⟨R, hR⟩ : ∃ R, mkd c = R := ⟨_, rfl⟩
  rw [hR]
  obtain ⟨l, hl⟩ : ∃ l : List UInt8, [123, 125, 91, 93, 44, 61] = l := ⟨_, rfl⟩
  have hz : (bs l).size = 6 := by rw [← hl]; rfl
  have HL : Hid (l.length = 6) := by rw [← hl]; rfl
  have HR : Hid (mk6 c (l.drop 0) 0 = R) := by rw [← hl]; exact (mk6_mkd c).trans hR
  have HE : Hid (ByteArray.mk #[123, 125, 91, 93, 44, 61] = bs l) := by rw [← hl]; rfl
  clear hR hl
  go_enter Tryz.func76, Tryz.ntmps76
  rw [HE.out]
  go_wp2_with fail
  go_loop [3] (fun s => ∃ k : Nat, k ≤ 6 ∧ s = .int .i64 k ∧ mk6 c (l.drop k) k = R) (fun s => 6 - (intOf s).toNat)
  case atStart => exact ⟨0, by omega, rfl, HR.out⟩
  case round =>
    obtain ⟨k, hk, rfl, hr⟩ := hrel
    by_cases hlt : k < 6
    · have hlt' : k < l.length := by rw [HL.out]; exact hlt
      rw [List.drop_eq_getElem_cons hlt', mk6] at hr
      have HR : Hid ((if l[k] = c then k + 2 else mk6 c (l.drop (k + 1)) (k + 1)) = R) := hr
      clear hr
      have k1 : (0 : Int) ≤ (k : Int) := by omega
      have k2 : (k : Int) < 6 := by omega
      by_cases hc : l[k] = c
      · have e1 := at_eq hlt' hc
        rw [if_pos hc] at HR
        go_wp2_with fail
        go_ret
        exact ⟨by rw [← HR.out]; rfl, rfl⟩
      · have e1 := at_ne hlt' hc
        go_wp2_with fail
        go_round
        case rel => exact ⟨k + 1, by omega, by go_num, by rw [← HR.out, if_neg hc]⟩
        case measure => simp [intOf]; omega
    · obtain rfl : k = 6 := by omega
      have HR : Hid (0 = R) := by
        rw [List.drop_of_length_le (by rw [HL.out]; exact Nat.le_refl _)] at hr
        exact hr
      clear hr
      go_wp2_with fail
      go_ret
      exact ⟨by rw [← HR.out]; rfl, rfl⟩
end Go.Proofs.YtddaoloabfkheaaGreatDoor
