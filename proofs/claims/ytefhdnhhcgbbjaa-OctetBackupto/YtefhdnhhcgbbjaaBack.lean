import Derived.Test.YtefhdnhhcgbbjaaItem
import Derived.Laws.BitsAllLaws
namespace Go.Proofs.Ytefhdnhhcgbbjaa
open Go.RowKit

theorem num_snoc (l : List UInt8) (b : UInt8) : num (l ++ [b]) = num l + 256 ^ l.length * b.toNat := by
  induction l with
  | nil => simp [num]
  | cons x l ih =>
    simp only [List.cons_append, num, ih, List.length_cons, Nat.pow_succ]
    rw [Nat.mul_add, Nat.mul_comm (256 ^ l.length) 256, Nat.mul_assoc]
    omega
theorem num_le (k y : Nat) : num (le k y) = y % 256 ^ k := by
  induction k with
  | zero => simp [le, num, Nat.mod_one]
  | succ k ih =>
    rw [le, num_snoc, ih, le_length, Nat.mod_pow_succ]
    simp
theorem take_le (k y : Nat) (r : List UInt8) : (le k y ++ r).take k = le k y := by
  have h := List.take_left (l₁ := le k y) (l₂ := r)
  rw [le_length] at h
  exact h
theorem drop_le (k y : Nat) (r : List UInt8) : (le k y ++ r).drop k = r := by
  have h := List.drop_left (l₁ := le k y) (l₂ := r)
  rw [le_length] at h
  exact h
theorem numberS_enc (z : Int) (k y : Nat) (r : List UInt8) (hz : z = (k : Int)) (h : k = 1 ∨ k = 2 ∨ k = 4 ∨ k = 8) (hy : y < 256 ^ k) : numberS z (le k y ++ r) = (y, 0, r) := by
  subst hz
  unfold numberS
  rw [if_pos (by omega), if_pos (by simp [le_length]), Int.toNat_natCast, take_le, drop_le, num_le, Nat.mod_eq_of_lt hy]
theorem intS_enc (y : Nat) (r : List UInt8) (hy : y ≤ 9223372036854775807) : intS (le 8 y ++ r) = (y, 0, r) := by
  unfold intS
  rw [if_neg (by simp [le_length]), take_le, num_le, Nat.mod_eq_of_lt (by omega), if_neg (by omega), drop_le]
theorem textS_enc (s : List UInt8) (r : List UInt8) (m : Int) (hm : (s.length : Int) ≤ m) (hs : s.length < 4294967296) : textS m (le 4 s.length ++ (s ++ r)) = (s, 0, r) := by
  unfold textS
  have h1 : num ((le 4 s.length ++ (s ++ r)).take 4) = s.length := by rw [take_le, num_le, Nat.mod_eq_of_lt (by omega)]
  rw [h1, if_neg (by simp [le_length]), if_neg (by omega), if_neg (by simp [le_length]), drop_le, ← List.drop_drop, drop_le]
  simp
theorem and_mask (x n : Nat) (hx : x < 18446744073709551616) (h : 2 ^ n - 1 < 18446744073709551616) : bits .and .u64 (x : Int) ((2 ^ n - 1 : Nat) : Int) = ((x % 2 ^ n : Nat) : Int) := by
  rw [u64_and_nat x _ hx h, Nat.and_two_pow_sub_one_eq_mod]

set_option maxHeartbeats 1000000 in
theorem back0 {w : World} {g d : Nat} {r : List UInt8} (k : Int) (x : Nat) (s : ByteArray) (hk : -9223372036854775808 ≤ k) (hk2 : k ≤ 9223372036854775807) (hx : x < 18446744073709551616) (hn : kd k = 0)
    (h : RD w g d (le 1 (x % 256) ++ r)) : Calls Try.prog 10 #[.pointer (some ⟨g, 0, none⟩), .agg #[.int .i64 k, .int .u64 x, .string s]] w fun e w' => e = .returned (.bool true) ∧ RD w' g d r ∧ Only [g] w w' := by
  have HR : Hid (RD w g d (le 1 (x % 256) ++ r)) := h
  have hgs : g < w.heap.size := by obtain ⟨_, _, _, _, _, h, _⟩ := h; exact h
  clear h
  have HK : Hid (∀ w : World, Calls Try.prog 28 #[.agg #[.int .i64 k, .int .u64 x, .string s]] w fun e w' => e = .returned (.int .i64 0) ∧ Below w.heap.size w w') := fun w => by
    have := kind_any w ⟨k, x, s⟩ hk hk2
    rw [hn] at this
    exact this
  clear hn
  have hcell : ∀ w' : World, Only [g] (w.alloc (.cells #[.int .i64 k, .int .u64 x, .string s] 26)) w' → w'.cell? ⟨w.heap.size, 1, none⟩ = some (.int .u64 x) ∧ w'.cell? ⟨w.heap.size, 2, none⟩ = some (.string s) := by
    intro w' ho
    have hb : w'.heap[w.heap.size]? = (w.alloc (.cells #[.int .i64 k, .int .u64 x, .string s] 26)).heap[w.heap.size]? := ho.block _ (by simp) (by simp; omega)
    refine ⟨?_, ?_⟩
    · rw [World.cell?_of_block (w := w.alloc (.cells #[.int .i64 k, .int .u64 x, .string s] 26)) hb]; simp
    · rw [World.cell?_of_block (w := w.alloc (.cells #[.int .i64 k, .int .u64 x, .string s] 26)) hb]; simp
  have HC : Hid (∀ w' : World, Only [g] (w.alloc (.cells #[.int .i64 k, .int .u64 x, .string s] 26)) w' → w'.cell? ⟨w.heap.size, 1, none⟩ = some (.int .u64 x) ∧ w'.cell? ⟨w.heap.size, 2, none⟩ = some (.string s)) := hcell
  clear hcell
  obtain ⟨y, hy⟩ : ∃ y, x % 256 = y := ⟨_, rfl⟩
  have he : bits .and .u64 (x : Int) 255 = (y : Int) := by rw [← hy]; exact and_mask x 8 hx (by omega)
  have HS : Hid (numberS 1 (le 1 y ++ r) = (y, 0, r)) := numberS_enc 1 1 y r rfl (by omega) (by have := Nat.mod_lt x (show 0 < 256 by omega); rw [hy] at this; omega)
  rw [hy] at HR
  clear hy hx
  go_enter Try.func10, Try.ntmps10
  go_wp2_with fail
  refine (HK.out _).mono ?_
  rintro e w1 ⟨rfl, hb1⟩
  have B1 : Hid (Below w.heap.size w w1) := bstep (balloc w _) hb1
  have O1 : Hid (Only [g] (w.alloc (.cells #[.int .i64 k, .int .u64 x, .string s] 26)) w1) := Only.of_below hb1 _
  obtain ⟨hc1, hc2⟩ := HC.out w1 O1.out
  have HR1 : Hid (RD w1 g d (le 1 y ++ r)) := HR.out.later B1.out
  clear hb1
  go_wp2_with fail
  refine (number_any HR1.out 1).mono ?_
  rintro e w2 ⟨rfl, hr2, hg2⟩
  rw [HS.out] at hr2 ⊢
  have HR2 : Hid (RD w2 g d r) := hr2
  have O2 : Hid (Only [g] w1 w2) := Only.of_grown hg2
  obtain ⟨hd1, hd2⟩ := HC.out w2 (O1.out.trans O2.out)
  clear hr2 hg2 hc1 hc2
  go_wp2_with fail
  go_ret
  exact ⟨rfl, HR2.out, (Only.of_below B1.out _).trans O2.out⟩

set_option maxHeartbeats 1000000 in
theorem back1 {w : World} {g d : Nat} {r : List UInt8} (k : Int) (x : Nat) (s : ByteArray) (hk : -9223372036854775808 ≤ k) (hk2 : k ≤ 9223372036854775807) (hx : x < 18446744073709551616) (hn : kd k = 1)
    (h : RD w g d (le 2 (x % 65536) ++ r)) : Calls Try.prog 10 #[.pointer (some ⟨g, 0, none⟩), .agg #[.int .i64 k, .int .u64 x, .string s]] w fun e w' => e = .returned (.bool true) ∧ RD w' g d r ∧ Only [g] w w' := by
  have HR : Hid (RD w g d (le 2 (x % 65536) ++ r)) := h
  have hgs : g < w.heap.size := by obtain ⟨_, _, _, _, _, h, _⟩ := h; exact h
  clear h
  have HK : Hid (∀ w : World, Calls Try.prog 28 #[.agg #[.int .i64 k, .int .u64 x, .string s]] w fun e w' => e = .returned (.int .i64 1) ∧ Below w.heap.size w w') := fun w => by
    have := kind_any w ⟨k, x, s⟩ hk hk2
    rw [hn] at this
    exact this
  clear hn
  have hcell : ∀ w' : World, Only [g] (w.alloc (.cells #[.int .i64 k, .int .u64 x, .string s] 26)) w' → w'.cell? ⟨w.heap.size, 1, none⟩ = some (.int .u64 x) ∧ w'.cell? ⟨w.heap.size, 2, none⟩ = some (.string s) := by
    intro w' ho
    have hb : w'.heap[w.heap.size]? = (w.alloc (.cells #[.int .i64 k, .int .u64 x, .string s] 26)).heap[w.heap.size]? := ho.block _ (by simp) (by simp; omega)
    refine ⟨?_, ?_⟩
    · rw [World.cell?_of_block (w := w.alloc (.cells #[.int .i64 k, .int .u64 x, .string s] 26)) hb]; simp
    · rw [World.cell?_of_block (w := w.alloc (.cells #[.int .i64 k, .int .u64 x, .string s] 26)) hb]; simp
  have HC : Hid (∀ w' : World, Only [g] (w.alloc (.cells #[.int .i64 k, .int .u64 x, .string s] 26)) w' → w'.cell? ⟨w.heap.size, 1, none⟩ = some (.int .u64 x) ∧ w'.cell? ⟨w.heap.size, 2, none⟩ = some (.string s)) := hcell
  clear hcell
  obtain ⟨y, hy⟩ : ∃ y, x % 65536 = y := ⟨_, rfl⟩
  have he : bits .and .u64 (x : Int) 65535 = (y : Int) := by rw [← hy]; exact and_mask x 16 hx (by omega)
  have HS : Hid (numberS 2 (le 2 y ++ r) = (y, 0, r)) := numberS_enc 2 2 y r rfl (by omega) (by have := Nat.mod_lt x (show 0 < 65536 by omega); rw [hy] at this; omega)
  rw [hy] at HR
  clear hy hx
  go_enter Try.func10, Try.ntmps10
  go_wp2_with fail
  refine (HK.out _).mono ?_
  rintro e w1 ⟨rfl, hb1⟩
  have B1 : Hid (Below w.heap.size w w1) := bstep (balloc w _) hb1
  have O1 : Hid (Only [g] (w.alloc (.cells #[.int .i64 k, .int .u64 x, .string s] 26)) w1) := Only.of_below hb1 _
  obtain ⟨hc1, hc2⟩ := HC.out w1 O1.out
  have HR1 : Hid (RD w1 g d (le 2 y ++ r)) := HR.out.later B1.out
  clear hb1
  go_wp2_with fail
  refine (number_any HR1.out 2).mono ?_
  rintro e w2 ⟨rfl, hr2, hg2⟩
  rw [HS.out] at hr2 ⊢
  have HR2 : Hid (RD w2 g d r) := hr2
  have O2 : Hid (Only [g] w1 w2) := Only.of_grown hg2
  obtain ⟨hd1, hd2⟩ := HC.out w2 (O1.out.trans O2.out)
  clear hr2 hg2 hc1 hc2
  go_wp2_with fail
  go_ret
  exact ⟨rfl, HR2.out, (Only.of_below B1.out _).trans O2.out⟩

set_option maxHeartbeats 1000000 in
theorem back2 {w : World} {g d : Nat} {r : List UInt8} (k : Int) (x : Nat) (s : ByteArray) (hk : -9223372036854775808 ≤ k) (hk2 : k ≤ 9223372036854775807) (hx : x < 18446744073709551616) (hn : kd k = 2)
    (h : RD w g d (le 4 (x % 4294967296) ++ r)) : Calls Try.prog 10 #[.pointer (some ⟨g, 0, none⟩), .agg #[.int .i64 k, .int .u64 x, .string s]] w fun e w' => e = .returned (.bool true) ∧ RD w' g d r ∧ Only [g] w w' := by
  have HR : Hid (RD w g d (le 4 (x % 4294967296) ++ r)) := h
  have hgs : g < w.heap.size := by obtain ⟨_, _, _, _, _, h, _⟩ := h; exact h
  clear h
  have HK : Hid (∀ w : World, Calls Try.prog 28 #[.agg #[.int .i64 k, .int .u64 x, .string s]] w fun e w' => e = .returned (.int .i64 2) ∧ Below w.heap.size w w') := fun w => by
    have := kind_any w ⟨k, x, s⟩ hk hk2
    rw [hn] at this
    exact this
  clear hn
  have hcell : ∀ w' : World, Only [g] (w.alloc (.cells #[.int .i64 k, .int .u64 x, .string s] 26)) w' → w'.cell? ⟨w.heap.size, 1, none⟩ = some (.int .u64 x) ∧ w'.cell? ⟨w.heap.size, 2, none⟩ = some (.string s) := by
    intro w' ho
    have hb : w'.heap[w.heap.size]? = (w.alloc (.cells #[.int .i64 k, .int .u64 x, .string s] 26)).heap[w.heap.size]? := ho.block _ (by simp) (by simp; omega)
    refine ⟨?_, ?_⟩
    · rw [World.cell?_of_block (w := w.alloc (.cells #[.int .i64 k, .int .u64 x, .string s] 26)) hb]; simp
    · rw [World.cell?_of_block (w := w.alloc (.cells #[.int .i64 k, .int .u64 x, .string s] 26)) hb]; simp
  have HC : Hid (∀ w' : World, Only [g] (w.alloc (.cells #[.int .i64 k, .int .u64 x, .string s] 26)) w' → w'.cell? ⟨w.heap.size, 1, none⟩ = some (.int .u64 x) ∧ w'.cell? ⟨w.heap.size, 2, none⟩ = some (.string s)) := hcell
  clear hcell
  obtain ⟨y, hy⟩ : ∃ y, x % 4294967296 = y := ⟨_, rfl⟩
  have he : bits .and .u64 (x : Int) 4294967295 = (y : Int) := by rw [← hy]; exact and_mask x 32 hx (by omega)
  have HS : Hid (numberS 4 (le 4 y ++ r) = (y, 0, r)) := numberS_enc 4 4 y r rfl (by omega) (by have := Nat.mod_lt x (show 0 < 4294967296 by omega); rw [hy] at this; omega)
  rw [hy] at HR
  clear hy hx
  go_enter Try.func10, Try.ntmps10
  go_wp2_with fail
  refine (HK.out _).mono ?_
  rintro e w1 ⟨rfl, hb1⟩
  have B1 : Hid (Below w.heap.size w w1) := bstep (balloc w _) hb1
  have O1 : Hid (Only [g] (w.alloc (.cells #[.int .i64 k, .int .u64 x, .string s] 26)) w1) := Only.of_below hb1 _
  obtain ⟨hc1, hc2⟩ := HC.out w1 O1.out
  have HR1 : Hid (RD w1 g d (le 4 y ++ r)) := HR.out.later B1.out
  clear hb1
  go_wp2_with fail
  refine (number_any HR1.out 4).mono ?_
  rintro e w2 ⟨rfl, hr2, hg2⟩
  rw [HS.out] at hr2 ⊢
  have HR2 : Hid (RD w2 g d r) := hr2
  have O2 : Hid (Only [g] w1 w2) := Only.of_grown hg2
  obtain ⟨hd1, hd2⟩ := HC.out w2 (O1.out.trans O2.out)
  clear hr2 hg2 hc1 hc2
  go_wp2_with fail
  go_ret
  exact ⟨rfl, HR2.out, (Only.of_below B1.out _).trans O2.out⟩

set_option maxHeartbeats 1000000 in
theorem back3 {w : World} {g d : Nat} {r : List UInt8} (k : Int) (x : Nat) (s : ByteArray) (hk : -9223372036854775808 ≤ k) (hk2 : k ≤ 9223372036854775807) (hx : x < 18446744073709551616) (hn : kd k = 3)
    (h : RD w g d (le 8 x ++ r)) : Calls Try.prog 10 #[.pointer (some ⟨g, 0, none⟩), .agg #[.int .i64 k, .int .u64 x, .string s]] w fun e w' => e = .returned (.bool true) ∧ RD w' g d r ∧ Only [g] w w' := by
  have HR : Hid (RD w g d (le 8 x ++ r)) := h
  have hgs : g < w.heap.size := by obtain ⟨_, _, _, _, _, h, _⟩ := h; exact h
  clear h
  have HK : Hid (∀ w : World, Calls Try.prog 28 #[.agg #[.int .i64 k, .int .u64 x, .string s]] w fun e w' => e = .returned (.int .i64 3) ∧ Below w.heap.size w w') := fun w => by
    have := kind_any w ⟨k, x, s⟩ hk hk2
    rw [hn] at this
    exact this
  clear hn
  have hcell : ∀ w' : World, Only [g] (w.alloc (.cells #[.int .i64 k, .int .u64 x, .string s] 26)) w' → w'.cell? ⟨w.heap.size, 1, none⟩ = some (.int .u64 x) ∧ w'.cell? ⟨w.heap.size, 2, none⟩ = some (.string s) := by
    intro w' ho
    have hb : w'.heap[w.heap.size]? = (w.alloc (.cells #[.int .i64 k, .int .u64 x, .string s] 26)).heap[w.heap.size]? := ho.block _ (by simp) (by simp; omega)
    refine ⟨?_, ?_⟩
    · rw [World.cell?_of_block (w := w.alloc (.cells #[.int .i64 k, .int .u64 x, .string s] 26)) hb]; simp
    · rw [World.cell?_of_block (w := w.alloc (.cells #[.int .i64 k, .int .u64 x, .string s] 26)) hb]; simp
  have HC : Hid (∀ w' : World, Only [g] (w.alloc (.cells #[.int .i64 k, .int .u64 x, .string s] 26)) w' → w'.cell? ⟨w.heap.size, 1, none⟩ = some (.int .u64 x) ∧ w'.cell? ⟨w.heap.size, 2, none⟩ = some (.string s)) := hcell
  clear hcell
  have HS : Hid (numberS 8 (le 8 x ++ r) = (x, 0, r)) := numberS_enc 8 8 x r rfl (by omega) (by omega)
  clear hx
  go_enter Try.func10, Try.ntmps10
  go_wp2_with fail
  refine (HK.out _).mono ?_
  rintro e w1 ⟨rfl, hb1⟩
  have B1 : Hid (Below w.heap.size w w1) := bstep (balloc w _) hb1
  have O1 : Hid (Only [g] (w.alloc (.cells #[.int .i64 k, .int .u64 x, .string s] 26)) w1) := Only.of_below hb1 _
  obtain ⟨hc1, hc2⟩ := HC.out w1 O1.out
  have HR1 : Hid (RD w1 g d (le 8 x ++ r)) := HR.out.later B1.out
  clear hb1
  go_wp2_with fail
  refine (number_any HR1.out 8).mono ?_
  rintro e w2 ⟨rfl, hr2, hg2⟩
  rw [HS.out] at hr2 ⊢
  have HR2 : Hid (RD w2 g d r) := hr2
  have O2 : Hid (Only [g] w1 w2) := Only.of_grown hg2
  obtain ⟨hd1, hd2⟩ := HC.out w2 (O1.out.trans O2.out)
  clear hr2 hg2 hc1 hc2
  go_wp2_with fail
  go_ret
  exact ⟨rfl, HR2.out, (Only.of_below B1.out _).trans O2.out⟩

set_option maxHeartbeats 1000000 in
theorem back4 {w : World} {g d : Nat} {r : List UInt8} (k : Int) (x : Nat) (s : ByteArray) (hk : -9223372036854775808 ≤ k) (hk2 : k ≤ 9223372036854775807) (hx : x < 18446744073709551616) (hn : kd k = 4)
    (h : RD w g d (le 8 (x / 2) ++ r)) : Calls Try.prog 10 #[.pointer (some ⟨g, 0, none⟩), .agg #[.int .i64 k, .int .u64 x, .string s]] w fun e w' => e = .returned (.bool true) ∧ RD w' g d r ∧ Only [g] w w' := by
  have HR : Hid (RD w g d (le 8 (x / 2) ++ r)) := h
  have hgs : g < w.heap.size := by obtain ⟨_, _, _, _, _, h, _⟩ := h; exact h
  clear h
  have HK : Hid (∀ w : World, Calls Try.prog 28 #[.agg #[.int .i64 k, .int .u64 x, .string s]] w fun e w' => e = .returned (.int .i64 4) ∧ Below w.heap.size w w') := fun w => by
    have := kind_any w ⟨k, x, s⟩ hk hk2
    rw [hn] at this
    exact this
  clear hn
  have hcell : ∀ w' : World, Only [g] (w.alloc (.cells #[.int .i64 k, .int .u64 x, .string s] 26)) w' → w'.cell? ⟨w.heap.size, 1, none⟩ = some (.int .u64 x) ∧ w'.cell? ⟨w.heap.size, 2, none⟩ = some (.string s) := by
    intro w' ho
    have hb : w'.heap[w.heap.size]? = (w.alloc (.cells #[.int .i64 k, .int .u64 x, .string s] 26)).heap[w.heap.size]? := ho.block _ (by simp) (by simp; omega)
    refine ⟨?_, ?_⟩
    · rw [World.cell?_of_block (w := w.alloc (.cells #[.int .i64 k, .int .u64 x, .string s] 26)) hb]; simp
    · rw [World.cell?_of_block (w := w.alloc (.cells #[.int .i64 k, .int .u64 x, .string s] 26)) hb]; simp
  have HC : Hid (∀ w' : World, Only [g] (w.alloc (.cells #[.int .i64 k, .int .u64 x, .string s] 26)) w' → w'.cell? ⟨w.heap.size, 1, none⟩ = some (.int .u64 x) ∧ w'.cell? ⟨w.heap.size, 2, none⟩ = some (.string s)) := hcell
  clear hcell
  obtain ⟨y, hy⟩ : ∃ y, x / 2 = y := ⟨_, rfl⟩
  have he : ((x : Int) / 2) = (y : Int) := by omega
  have hyb : y ≤ 9223372036854775807 := by omega
  have HS : Hid (intS (le 8 y ++ r) = (y, 0, r)) := intS_enc y r hyb
  rw [hy] at HR
  clear hy hx
  go_enter Try.func10, Try.ntmps10
  go_wp2_with fail
  refine (HK.out _).mono ?_
  rintro e w1 ⟨rfl, hb1⟩
  have B1 : Hid (Below w.heap.size w w1) := bstep (balloc w _) hb1
  have O1 : Hid (Only [g] (w.alloc (.cells #[.int .i64 k, .int .u64 x, .string s] 26)) w1) := Only.of_below hb1 _
  obtain ⟨hc1, hc2⟩ := HC.out w1 O1.out
  have HR1 : Hid (RD w1 g d (le 8 y ++ r)) := HR.out.later B1.out
  clear hb1
  go_wp2_with fail
  refine (int_any HR1.out).mono ?_
  rintro e w2 ⟨rfl, hr2, hg2⟩
  rw [HS.out] at hr2 ⊢
  have HR2 : Hid (RD w2 g d r) := hr2
  have O2 : Hid (Only [g] w1 w2) := Only.of_grown hg2
  obtain ⟨hd1, hd2⟩ := HC.out w2 (O1.out.trans O2.out)
  clear hr2 hg2 hc1 hc2
  go_wp2_with fail
  go_ret
  exact ⟨rfl, HR2.out, (Only.of_below B1.out _).trans O2.out⟩

set_option maxHeartbeats 1000000 in
theorem back5 {w : World} {g d : Nat} {r : List UInt8} (k : Int) (x : Nat) (s : ByteArray) (hk : -9223372036854775808 ≤ k) (hk2 : k ≤ 9223372036854775807) (hs : s.size ≤ 1000000000) (hn : kd k = 5)
    (h : RD w g d ((le 4 s.size ++ s.data.toList) ++ r)) : Calls Try.prog 10 #[.pointer (some ⟨g, 0, none⟩), .agg #[.int .i64 k, .int .u64 x, .string s]] w fun e w' => e = .returned (.bool true) ∧ RD w' g d r ∧ Only [g] w w' := by
  have HR : Hid (RD w g d ((le 4 s.size ++ s.data.toList) ++ r)) := h
  have hgs : g < w.heap.size := by obtain ⟨_, _, _, _, _, h, _⟩ := h; exact h
  clear h
  have HK : Hid (∀ w : World, Calls Try.prog 28 #[.agg #[.int .i64 k, .int .u64 x, .string s]] w fun e w' => e = .returned (.int .i64 5) ∧ Below w.heap.size w w') := fun w => by
    have := kind_any w ⟨k, x, s⟩ hk hk2
    rw [hn] at this
    exact this
  clear hn
  have hcell : ∀ w' : World, Only [g] (w.alloc (.cells #[.int .i64 k, .int .u64 x, .string s] 26)) w' → w'.cell? ⟨w.heap.size, 1, none⟩ = some (.int .u64 x) ∧ w'.cell? ⟨w.heap.size, 2, none⟩ = some (.string s) := by
    intro w' ho
    have hb : w'.heap[w.heap.size]? = (w.alloc (.cells #[.int .i64 k, .int .u64 x, .string s] 26)).heap[w.heap.size]? := ho.block _ (by simp) (by simp; omega)
    refine ⟨?_, ?_⟩
    · rw [World.cell?_of_block (w := w.alloc (.cells #[.int .i64 k, .int .u64 x, .string s] 26)) hb]; simp
    · rw [World.cell?_of_block (w := w.alloc (.cells #[.int .i64 k, .int .u64 x, .string s] 26)) hb]; simp
  have HC : Hid (∀ w' : World, Only [g] (w.alloc (.cells #[.int .i64 k, .int .u64 x, .string s] 26)) w' → w'.cell? ⟨w.heap.size, 1, none⟩ = some (.int .u64 x) ∧ w'.cell? ⟨w.heap.size, 2, none⟩ = some (.string s)) := hcell
  clear hcell
  have HS : Hid (textS s.size (le 4 s.size ++ s.data.toList ++ r) = (s.data.toList, 0, r)) := by
    have := textS_enc s.data.toList r s.size (by rw [size_toList]; exact Int.le_refl _) (by rw [size_toList]; omega)
    rw [size_toList] at this
    rw [List.append_assoc]
    exact this
  go_enter Try.func10, Try.ntmps10
  go_wp2_with fail
  refine (HK.out _).mono ?_
  rintro e w1 ⟨rfl, hb1⟩
  have B1 : Hid (Below w.heap.size w w1) := bstep (balloc w _) hb1
  have O1 : Hid (Only [g] (w.alloc (.cells #[.int .i64 k, .int .u64 x, .string s] 26)) w1) := Only.of_below hb1 _
  obtain ⟨hc1, hc2⟩ := HC.out w1 O1.out
  have HR1 : Hid (RD w1 g d ((le 4 s.size ++ s.data.toList) ++ r)) := HR.out.later B1.out
  clear hb1
  go_wp2_with fail
  refine (text_any' HR1.out s.size).mono ?_
  rintro e w2 ⟨rfl, hr2, hg2⟩
  rw [HS.out] at hr2 ⊢
  have HR2 : Hid (RD w2 g d r) := hr2
  have O2 : Hid (Only [g] w1 w2) := Only.of_grown hg2
  obtain ⟨hd1, hd2⟩ := HC.out w2 (O1.out.trans O2.out)
  clear hr2 hg2 hc1 hc2
  go_wp2_with fail
  go_ret
  exact ⟨rfl, HR2.out, (Only.of_below B1.out _).trans O2.out⟩

theorem back_any {w : World} {g d : Nat} {r : List UInt8} (i : It) (hk : -9223372036854775808 ≤ i.k) (hk2 : i.k ≤ 9223372036854775807) (hx : i.x < 18446744073709551616) (hs : i.s.size ≤ 1000000000)
    (h : RD w g d (i.enc ++ r)) : Calls Try.prog 10 #[.pointer (some ⟨g, 0, none⟩), i.val] w fun e w' => e = .returned (.bool true) ∧ RD w' g d r ∧ Only [g] w w' := by
  have hkd : kd i.k = 0 ∨ kd i.k = 1 ∨ kd i.k = 2 ∨ kd i.k = 3 ∨ kd i.k = 4 ∨ kd i.k = 5 := by unfold kd; omega
  obtain ⟨k, x, s⟩ := i
  simp only at hk hk2 hx hs hkd
  unfold It.val
  simp only [It.enc] at h
  rcases hkd with e | e | e | e | e | e
  · rw [e] at h; exact back0 k x s hk hk2 hx e h
  · rw [e] at h; exact back1 k x s hk hk2 hx e h
  · rw [e] at h; exact back2 k x s hk hk2 hx e h
  · rw [e] at h; exact back3 k x s hk hk2 hx e h
  · rw [e] at h; exact back4 k x s hk hk2 hx e h
  · rw [e] at h; exact back5 k x s hk hk2 hs e h

end Go.Proofs.Ytefhdnhhcgbbjaa
