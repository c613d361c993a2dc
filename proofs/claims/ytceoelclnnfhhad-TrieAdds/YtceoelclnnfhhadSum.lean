/-
  Lists of texts held against each other; sums by halves.
-/
import Derived.Test.YtceoelclnnfhhadRows2
import Derived.Test.YtceoelclnnfhhadTri4
import Derived.Laws.BitsLemmas
import Derived.Laws.ResultCell
import Derived.Deep.RegionHeld3
namespace Go.Proofs.Ytceoelclnnfhhad
open Go.RowKit

theorem ss_lit (w : World) (l : List (List UInt8)) (n : Nat) (hn : n = l.length) : SS (w.alloc (.cells (sc l).toArray 9)) (.slice (some ⟨w.heap.size, 0, none⟩) n n) l := by
  subst hn
  refine .inr ⟨w.heap.size, 0, l.length, rfl, Nat.le_refl _, by simp, fun i u hu => ?_⟩
  simp
  simpa using hu

theorem SS.at1 {w : World} {a : Option Addr} {c n : Nat} {l : List (List UInt8)} (h : SS w (.slice a n c) l) (_hn : l.length = n) {wr : World} (hb : Below w.heap.size w wr) {k : Nat} (hk : k < l.length) : ∃ b off, a = some ⟨b, off, none⟩ ∧ b < w.heap.size ∧ wr.cell? ⟨b, off + k, none⟩ = some (.string (bs l[k])) := by
  obtain ⟨a', c', e, hf⟩ := h.form
  obtain ⟨b, off, ha, hlt, h0⟩ := hf k hk
  injection e with e1 e2 e3
  exact ⟨b, off, e1.trans ha, hlt, (hb.cell (p := ⟨b, off + k, none⟩) hlt).trans h0⟩

set_option maxHeartbeats 1000000 in
set_option maxRecDepth 100000 in
theorem same_any {w : World} {va vb : Value} {A B : List (List UInt8)} (h1 : SS w va A) (h2 : SS w vb B) (hA : A.length ≤ 140737488355328) :
    Calls Try.prog 17 #[va, vb] w fun e w' => e = .returned (.bool (decide (A = B))) ∧ Below w.heap.size w w' := by
  obtain ⟨a, c, rfl, ca⟩ := h1.form
  obtain ⟨b, c', rfl, cb⟩ := h2.form
  have CA : Hid (∀ k, (hk : k < A.length) → ∃ b off, a = some ⟨b, off, none⟩ ∧ b < w.heap.size ∧ w.cell? ⟨b, off + k, none⟩ = some (.string (bs A[k]))) := ca
  have CB : Hid (∀ k, (hk : k < B.length) → ∃ b' off, b = some ⟨b', off, none⟩ ∧ b' < w.heap.size ∧ w.cell? ⟨b', off + k, none⟩ = some (.string (bs B[k]))) := cb
  clear ca cb h1 h2
  by_cases hl : A.length = B.length
  · have e1 : (((A.length : Int)) != (B.length : Int)) = false := by rw [hl]; simp
    obtain ⟨r, hr⟩ : ∃ r, decide (A = B) = r := ⟨_, rfl⟩
    rw [hr]
    have HR : Hid (decide (A.drop 0 = B.drop 0) = r) := hr
    clear hr
    go_enter Try.func17, Try.ntmps17
    go_wp2_with fail
    go_loopw [5] (fun i wr => ∃ k n : Nat, k ≤ A.length ∧ i = .int .i64 k ∧ wr = w.drewN n ∧ decide (A.drop k = B.drop k) = r) (fun i _ => A.length - (intOf i).toNat)
    case atStart => exact ⟨0, 0, Nat.zero_le _, rfl, rfl, HR.out⟩
    case round =>
      obtain ⟨k, n, hk, rfl, rfl, hd⟩ := hrel
      have HD : Hid (decide (A.drop k = B.drop k) = r) := hd
      clear hd
      by_cases hlt : k < A.length
      · have hlt2 : k < B.length := by omega
        obtain ⟨g1, o1, rfl, hg1, c1⟩ := CA.out k hlt
        obtain ⟨g2, o2, rfl, hg2, c2⟩ := CB.out k hlt2
        have hd := HD.out
        rw [drop_same hlt hlt2] at hd
        by_cases heq : A[k]'hlt = B[k]'hlt2
        · have t1 : (bs (A[k]'hlt)).toList = A[k]'hlt := bs_toList _
          have t2 : (bs (B[k]'hlt2)).toList = A[k]'hlt := by rw [bs_toList, heq]
          have hd2 : decide (A.drop (k + 1) = B.drop (k + 1)) = r := by rw [← hd]; simp [heq]
          have HD2 : Hid (decide (A.drop (k + 1) = B.drop (k + 1)) = r) := hd2
          clear hd hd2
          go_wp2_with fail
          go_region
          go_wp2_with fail
          go_roundw
          case rel => exact ⟨k + 1, n + 1, by omega, by go_num, rfl, HD2.out⟩
          case measure => simp [intOf]; omega
        · have t1 : (bs (A[k]'hlt)).toList = A[k]'hlt := bs_toList _
          have t2 : (bs (B[k]'hlt2)).toList = B[k]'hlt2 := bs_toList _
          have t3 : ((A[k]'hlt) == (B[k]'hlt2)) = false := by rw [beq_eq_false_iff_ne]; exact heq
          have hd2 : false = r := by rw [← hd]; simp [heq]
          subst hd2
          clear hd
          go_wp2_with fail
          go_region
          go_wp2_with fail
          go_ret
          exact ⟨rfl, ⟨rfl, rfl, rfl, Nat.le_refl _, fun _ _ => rfl⟩⟩
      · obtain rfl : k = A.length := by omega
        go_wp2_with fail
        go_ret
        refine ⟨?_, ⟨rfl, rfl, rfl, Nat.le_refl _, fun _ _ => rfl⟩⟩
        have h1 := HD.out
        rw [List.drop_eq_nil_of_le (Nat.le_refl _), List.drop_eq_nil_of_le (by omega)] at h1
        rw [← h1]; rfl
  · have hd : ¬ (A.length : Int) = (B.length : Int) := by omega
    have e0 : decide (A = B) = false := decide_eq_false (fun e => hl (by rw [e]))
    rw [e0]
    go_enter Try.func17, Try.ntmps17
    go_wp2_with fail
    go_ret
    exact ⟨rfl, Below.refl _ _⟩

/-- a sum by halves, as a value -/
def hv (a : Nat) : Value := .agg #[.int .i64 (a / 4611686018427387904 : Nat), .int .i64 (a % 4611686018427387904 : Nat)]
theorem mask62 {x : Int} (h0 : 0 ≤ x) (h1 : x < 9223372036854775808) : bits .and .i64 x 4611686018427387903 = x % 4611686018427387904 :=
  bits_mask .i64 63 (by decide) (fun n h0 h1 => by rw [IntKind.wrap_i64]; omega) 62 (by decide) x h0 h1

set_option maxRecDepth 100000 in
set_option maxHeartbeats 1000000 in
theorem hplus0 (h l n m k : Nat) (hh : h < 4294967296) (hl : l < 4611686018427387904) (hn : n ≤ 4611686018427387904) (hm : n % 4611686018427387904 = m) (hk : (l + m) % 4611686018427387904 = k) (w : World) :
    Calls Try.prog 9 #[.agg #[.int .i64 h, .int .i64 l], .int .i64 n] w fun e w' => e = .returned (.agg #[.int .i64 ((h : Int) + (n : Int) / 4611686018427387904 + ((l : Int) + (m : Int)) / 4611686018427387904), .int .i64 k]) ∧ Below w.heap.size w w' := by
  have b1 : bits .and .i64 (n : Int) 4611686018427387903 = m := by rw [mask62 (by omega) (by omega)]; omega
  have b2 : bits .and .i64 ((l : Int) + m) 4611686018427387903 = k := by rw [mask62 (by omega) (by omega)]; omega
  have hm2 : m < 4611686018427387904 := by omega
  clear hm hk
  go_enter Try.func9, Try.ntmps9
  go_wp2_with fail
  refine bodyPost_ret (results_cell_row rfl _ _ (w.heap.size + 1) 39 #[.int .i64 ((h : Int) + (n : Int) / 4611686018427387904 + ((l : Int) + (m : Int)) / 4611686018427387904), .int .i64 k] (0, 0) _ rfl ?_ Try.underlying39 rfl (by kernel_rfl)) rfl ?_
  · have := heap_alloc_new (w.alloc (Obj.cells #[Value.int IntKind.i64 ((h : Int) + (n : Int) / 4611686018427387904), Value.int IntKind.i64 ((l : Int) + (m : Int))] 39)) (Obj.cells #[Value.int IntKind.i64 ((h : Int) + (n : Int) / 4611686018427387904 + ((l : Int) + (m : Int)) / 4611686018427387904), Value.int IntKind.i64 k] 39)
    simpa using this
  · exact ⟨rfl, bstep (balloc _ _) (balloc _ _)⟩
theorem hplus_any (a n : Nat) (ha : a < 19807040628566084398385987584) (hn : n ≤ 4611686018427387904) (w : World) :
    Calls Try.prog 9 #[hv a, .int .i64 n] w fun e w' => e = .returned (hv (a + n)) ∧ Below w.heap.size w w' := by
  refine (hplus0 (a / 4611686018427387904) (a % 4611686018427387904) n (n % 4611686018427387904) ((a + n) % 4611686018427387904) (by omega) (by omega) hn rfl (by omega) w).mono ?_
  rintro e w1 ⟨rfl, hb⟩
  refine ⟨?_, hb⟩
  unfold hv
  congr 6
  omega
set_option maxRecDepth 100000 in
set_option maxHeartbeats 1000000 in
theorem capped_any (a : Nat) (ha : a < 19807040628566084398385987584) (w : World) :
    Calls Try.prog 11 #[hv a] w fun e w' => e = .returned (.int .i64 (cap a)) ∧ Below w.heap.size w w' := by
  obtain ⟨z, hz⟩ : ∃ z, cap a = z := ⟨_, rfl⟩
  unfold hv
  obtain ⟨h, hh⟩ : ∃ h, a / 4611686018427387904 = h := ⟨_, rfl⟩
  obtain ⟨l, hl⟩ : ∃ l, a % 4611686018427387904 = l := ⟨_, rfl⟩
  have hl2 : l < 4611686018427387904 := by omega
  have hh2 : h < 4294967296 := by omega
  have HE : Hid (a = h * 4611686018427387904 + l) := by show _ = _; omega
  have HZ : Hid (cap a = z) := hz
  rw [hz, hh, hl]
  clear hh hl hz ha
  by_cases h1 : 1 < h
  · go_enter Try.func11, Try.ntmps11
    go_wp2_with fail
    go_ret
    refine ⟨?_, balloc _ _⟩
    rw [← HZ.out]
    unfold cap
    rw [if_neg (by have := HE.out; omega)]; rfl
  · by_cases h0 : h = 0
    · have HH : Hid (h = 0) := h0
      subst h0
      go_enter Try.func11, Try.ntmps11
      go_wp2_with fail
      go_ret
      refine ⟨?_, balloc _ _⟩
      rw [← HZ.out]
      unfold cap
      rw [if_pos (by have := HE.out; omega)]
      have e : (a : Int) = l := by have := HE.out; omega
      rw [e]
      first | rfl | simp
    · obtain rfl : h = 1 := by omega
      go_enter Try.func11, Try.ntmps11
      go_wp2_with fail
      go_ret
      refine ⟨?_, balloc _ _⟩
      rw [← HZ.out]
      unfold cap
      rw [if_pos (by have := HE.out; omega)]
      have e : (a : Int) = 4611686018427387904 + l := by have := HE.out; omega
      rw [e]
      first | rfl | simp
end Go.Proofs.Ytceoelclnnfhhad
