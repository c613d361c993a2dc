/-
  A text in hexadecimal digits; the words of a line.
-/
import Derived.Test.YtgibjnfaagnbfadGreatDoorBytes
import Derived.Deep.OwnRows
import Derived.Laws.BitsAllLaws
namespace Go.Proofs.YtgibjnfaagnbfadGreatDoor
open Go.RowKit

theorem src_two_d (w : World) (x y : UInt8) (m n : Int) (hm : m = (x.toNat : Int)) (hn : n = (y.toNat : Int)) : Src Tryz.prog 1 45 (.slice (some ⟨w.heap.size, 0, none⟩) 2 2) [x, y].length (bc [x, y]) (w.alloc (.cells #[.int .u8 m, .int .u8 n] 5)).drew := by
  subst hm hn
  exact Src.ofSlice _ und45 ⟨w.heap.size, 0, none⟩ 2 2 (bc [x, y]) (by simp [bc]) (fun j u hu => by exact (World.news_of_block (heap_alloc_new w _) j u hu)) (bc_one _)
theorem u5 : Tryz.prog.underlying 5 = some (.int .u8) := by kernel_rfl
theorem shr_run (W : World) (x : Nat) : (binOp .shr 5 (.int .u8 (x : Nat)) (.int .u64 4)).run Tryz.prog W = .ok (.int .u8 (x / 16 : Nat)) W := by
  simp [go_sem]
theorem and_bits (x : Nat) (h : x < 256) : bits .and .u8 (x : Int) 15 = ((x % 16 : Nat) : Int) := by
  have := u8_and_nat x 15 h (by omega)
  have e : x &&& 15 = x % 16 := Nat.and_two_pow_sub_one_eq_mod x 4
  rw [e] at this
  simpa using this
theorem idx_run (W : World) (t : List UInt8) (k : Nat) (h : k < t.length) : (Instr.index 9 (.string (bs t)) (.int .i64 (k : Nat))).run Tryz.prog W = .ok (.int .u8 ((t[k]'h).toNat : Nat)) W := by
  rw [run_index_string W 9 _ _ _ u9]
  have hz : (bs t).size = t.length := rfl
  rw [dif_pos ⟨by omega, by omega⟩]
  rfl
theorem dig_run (W : World) (n : Nat) (h : n < 16) : (Instr.index 9 (.string ⟨#[48, 49, 50, 51, 52, 53, 54, 55, 56, 57, 97, 98, 99, 100, 101, 102]⟩) (.int .u8 (n : Nat))).run Tryz.prog W = .ok (.int .u8 ((hx n).toNat : Nat)) W := by
  rw [run_index_string W 9 _ _ _ u9]
  have hz : (ByteArray.mk #[48, 49, 50, 51, 52, 53, 54, 55, 56, 57, 97, 98, 99, 100, 101, 102]).size = 16 := rfl
  rw [dif_pos ⟨by omega, by omega⟩]
  congr 2
  have : ∀ n : Fin 16, ((#[48, 49, 50, 51, 52, 53, 54, 55, 56, 57, 97, 98, 99, 100, 101, 102] : Array UInt8)[n.1]'(by have := n.2; exact this)).toNat = (hx n.1).toNat := by decide
  have h2 := this ⟨n, h⟩
  simp only at h2
  rw [← h2]; rfl
set_option maxRecDepth 100000 in
set_option maxHeartbeats 4000000 in
theorem hex_any (t : List UInt8) (w : World) (ht : t.length ≤ 4194304) : Calls Tryz.prog 39 #[.string (bs t)] w fun e w' => e = .returned (.string (bs (hexs t))) ∧ Below w.heap.size w w' := by
  obtain ⟨i0, hi, hz0, hz1, hz2⟩ := info_parts info5
  obtain ⟨n, hn⟩ : ∃ n, t.length = n := ⟨_, rfl⟩
  rw [hn] at ht
  obtain ⟨w1, hmk, hown0, hg0⟩ := run_make_own (P := Tryz.prog) (w := w) w.heap.size 45 5 i0 (.int .u8 0) 1 und45 hi hz0 hz1 .i64 .i64 (2 * n) (by rw [hz2]; omega) (by unfold maxLen; omega) (Nat.le_refl _)
  have ec : ((2 * n : Nat) : Int) = 2 * (n : Int) := by omega
  rw [ec] at hmk
  have HO : Hid (OwnB w.heap.size w1 (.slice (some ⟨w.heap.size, 0, none⟩) 0 (2 * n)) []) := hown0
  have HB1 : Hid (Below w.heap.size w w1) := (Below.refl _ _).grown hg0 (Nat.le_refl _) (by simp)
  have hz : (bs t).size = n := hn
  have HN : Hid (t.length = n) := hn
  clear hown0 hg0 hi hz0 hz1 hz2 hn ec
  go_enter Tryz.func39, Tryz.ntmps39
  go_wp2_with fail
  go_loopw [3, 11] (fun o i wr => ∃ k : Nat, k ≤ n ∧ i = .int .i64 k ∧ OwnB w.heap.size wr o (hexs (t.take k)) ∧ Below w.heap.size w wr) (fun _ i _ => n - (intOf i).toNat)
  case atStart => exact ⟨0, by omega, rfl, by simpa [hexs] using HO.out, HB1.out⟩
  case round =>
    obtain ⟨k, hk, rfl, ho, hb⟩ := hrel
    have HO2 : Hid (OwnB w.heap.size wr u3 (hexs (t.take k))) := ho
    have HB2 : Hid (Below w.heap.size w wr) := hb
    have hsz := hb.size
    have hhl : (hexs (t.take k)).length ≤ 8388608 := by rw [hexs_length]; simp; omega
    clear ho hb hmk
    by_cases hlt : k < n
    · have k1 : (0 : Int) ≤ (k : Int) := by omega
      have k2 : (k : Int) < (n : Int) := by omega
      have hkt : k < t.length := by have := HN.out; omega
      obtain ⟨X, hX⟩ : ∃ X, (t[k]'hkt).toNat = X := ⟨_, rfl⟩
      have hX256 : X < 256 := by rw [← hX]; exact (t[k]'hkt).toNat_lt
      have q1 : ∀ W : World, (Instr.index 9 (.string (bs t)) (.int .i64 (k : Nat))).run Tryz.prog W = .ok (.int .u8 (X : Nat)) W := fun W => by rw [idx_run W t k hkt, hX]
      obtain ⟨H, hH⟩ : ∃ H, X / 16 = H := ⟨_, rfl⟩
      obtain ⟨L, hL⟩ : ∃ L, X % 16 = L := ⟨_, rfl⟩
      have q2 : (X : Int) / 16 = (H : Int) := by rw [← hH]; omega
      have q3 : bits .and .u8 (X : Int) 15 = (L : Int) := by rw [and_bits X hX256, hL]
      obtain ⟨A, hA⟩ : ∃ A, (hx H).toNat = A := ⟨_, rfl⟩
      obtain ⟨B, hB⟩ : ∃ B, (hx L).toNat = B := ⟨_, rfl⟩
      have q4 : ∀ W : World, (Instr.index 9 (.string ⟨#[48, 49, 50, 51, 52, 53, 54, 55, 56, 57, 97, 98, 99, 100, 101, 102]⟩) (.int .u8 (H : Nat))).run Tryz.prog W = .ok (.int .u8 (A : Nat)) W := fun W => by rw [dig_run W H (by omega), hA]
      have q5 : ∀ W : World, (Instr.index 9 (.string ⟨#[48, 49, 50, 51, 52, 53, 54, 55, 56, 57, 97, 98, 99, 100, 101, 102]⟩) (.int .u8 (L : Nat))).run Tryz.prog W = .ok (.int .u8 (B : Nat)) W := fun W => by rw [dig_run W L (by omega), hB]
      have HE : Hid (hexs (t.take (k + 1)) = hexs (t.take k) ++ [hx H, hx L]) := by
        have e : t.take (k + 1) = t.take k ++ [t[k]'hkt] := by rw [List.take_add_one, List.getElem?_eq_getElem hkt]; rfl
        show hexs (t.take (k + 1)) = _
        rw [e, hexs_app, hexs, hexs, hX, hH, hL]
      have HAB : Hid ((A : Int) = ((hx H).toNat : Int) ∧ (B : Int) = ((hx L).toNat : Int)) := ⟨by rw [hA], by rw [hB]⟩
      clear hX hH hL hA hB
      go_wp2_with fail
      go_region_held3 (fun _ => True) (trivial) (first | (refine step_app_bytes rfl (.tmp 14) (.tmp 25) rfl w.heap.size (hexs (t.take k)) [hx H, hx L] u3 _ rfl rfl (HO2.out.later (balloc _ _).drew) (src_two_d wr (hx H) (hx L) _ _ HAB.out.1 HAB.out.2) (by show (hexs (List.take k t)).length + 2 ≤ 8796093022208; omega) (by show w.heap.size ≤ _; simp; omega) ?_; intro v5 w5 ho5 hg5))
      all_goals
        have HB5 : Hid (Below w.heap.size w w5) := (bstep HB2.out (balloc _ _).drew).grown hg5 (by simp; omega) (fun j hj => (HO2.out.lt hj).1)
        have HO5 : Hid (OwnB w.heap.size w5 v5 (hexs (t.take (k + 1)))) := by rw [HE.out]; exact ho5
        clear hg5 ho5 q1 q2 q3 q4 q5
        go_wp2_with fail
        go_roundw
      all_goals first | exact ⟨k + 1, by omega, by go_num, HO5.out, HB5.out⟩ | (simp [intOf]; omega)
    · obtain rfl : k = n := by omega
      have q := conv_ys HO2.out.ys
      go_wp2_with fail
      go_ret
      refine ⟨?_, HB2.out⟩
      rw [List.take_of_length_le (by have := HN.out; omega)]
      rfl
end Go.Proofs.YtgibjnfaagnbfadGreatDoor
