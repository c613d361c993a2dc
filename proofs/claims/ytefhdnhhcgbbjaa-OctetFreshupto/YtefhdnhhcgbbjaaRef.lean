import Derived.Test.YtefhdnhhcgbbjaaText
namespace Go.Proofs.Ytefhdnhhcgbbjaa
open Go.RowKit

set_option maxHeartbeats 400000 in
theorem rend_any {w : World} {g d : Nat} {l : List UInt8} (h : RD w g d l) :
    Calls Try.prog 27 #[.pointer (some ⟨g, 0, none⟩)] w fun e w' => e = .returned (.int .i64 (if l = [] then 0 else 12)) ∧ w' = w := by
  obtain ⟨off, cap, hc, hf, hlc, hgs, hds, hne, hb, hcell⟩ := h
  clear hcell hf hgs hds hne
  by_cases h0 : l = []
  · subst h0
    go_enter Try.func27, Try.ntmps27
    go_wp2_with fail
    go_ret
    exact ⟨rfl, rfl⟩
  · have e0 : 0 < l.length := List.length_pos_iff.2 h0
    go_enter Try.func27, Try.ntmps27
    go_wp2_with fail
    go_ret
    exact ⟨rfl, rfl⟩

theorem rpeek_step (a : Nat) (b : UInt8) (ha : a < 72057594037927936) : IntKind.u64.wrap (IntKind.u64.wrap ((a : Int) * 256) + IntKind.u64.wrap (b.toNat : Int)) = ((b.toNat + 256 * a : Nat) : Int) := by
  have hb := b.toNat_lt
  rw [wrap_u64_id ((a : Int) * 256) (by omega) (by omega), wrap_u64_id (b.toNat : Int) (by omega) (by omega), wrap_u64_id _ (by omega) (by omega)]
  omega

set_option maxHeartbeats 400000 in
theorem rpeek_ok {w : World} {g d : Nat} {l : List UInt8} (h : RD w g d l) (z : Int) (n : Nat) (hz : z = (n : Int)) (hn : n ≤ 8) (hl : n ≤ l.length) :
    Calls Try.prog 40 #[.pointer (some ⟨g, 0, none⟩), .int .i64 z] w fun e w' => e = .returned (.tuple #[.int .u64 (num (l.take n) : Nat), .bool true]) ∧ w' = w := by
  subst hz
  obtain ⟨off, cap, hc, hf, hlc, hgs, hds, hne, hb, hcell⟩ := h
  have HC : Hid (∀ i u, (bc l)[i]? = some u → w.cell? ⟨d, off + i, none⟩ = some u) := hcell
  clear hcell hf hgs hds hne
  go_enter Try.func40, Try.ntmps40
  go_wp2_with fail
  go_loop [6, 7] (fun v i => ∃ k : Nat, k ≤ n ∧ i = .int .i64 ((k : Int) - 1) ∧ v = .int .u64 (num ((l.take n).drop k) : Nat)) (fun _ i => (intOf i + 1).toNat)
  case atStart => exact ⟨n, Nat.le_refl _, rfl, by simp [num]⟩
  case round =>
    obtain ⟨k, hk, rfl, rfl⟩ := hrel
    rcases k with _ | k
    · go_wp2_with fail
      go_ret2
      exact ⟨rfl, rfl⟩
    · have hkl : k < l.length := by omega
      have hcell := HC.out k (.int .u8 (l[k].toNat : Nat)) (by simp [bc_get, hkl])
      have HN : Hid (num ((l.take n).drop k) = l[k].toNat + 256 * num ((l.take n).drop (k + 1))) := drop_num l n k (by omega) hl
      go_wp2_with fail
      go_round
      case rel => exact ⟨k, by omega, by go_num, by rw [rpeek_step _ _ (num_lt8 _ 7 (by simp; omega) (by omega)), HN.out]⟩
      case measure => simp only [intOf]; omega

set_option maxHeartbeats 400000 in
theorem rpeek_no {w : World} {g d : Nat} {l : List UInt8} (h : RD w g d l) (z : Int) (n : Nat) (hz : z = (n : Int)) (hl : l.length < n) :
    Calls Try.prog 40 #[.pointer (some ⟨g, 0, none⟩), .int .i64 z] w fun e w' => e = .returned (.tuple #[.int .u64 0, .bool false]) ∧ w' = w := by
  subst hz
  obtain ⟨off, cap, hc, hf, hlc, hgs, hds, hne, hb, hcell⟩ := h
  clear hcell hf hgs hds hne
  go_enter Try.func40, Try.ntmps40
  go_wp2_with fail
  go_ret2
  exact ⟨rfl, rfl⟩

set_option maxHeartbeats 400000 in
theorem rnumber1 {w : World} {g d : Nat} {l : List UInt8} (h : RD w g d l) (hl : 1 ≤ l.length) :
    Calls Try.prog 37 #[.pointer (some ⟨g, 0, none⟩), .int .i64 1] w fun e w' => e = .returned (.tuple #[.int .u64 (num (l.take 1) : Nat), .int .i64 0]) ∧ RD w' g d (l.drop 1) ∧ w.grownBy w' (some g) := by
  have H : Hid (RD w g d l) := h
  obtain ⟨off, cap, hc, hf, hlc, hgs, hds, hne, hb, hcell⟩ := h
  clear hcell hgs hds hne
  obtain ⟨so, hso, hsl⟩ := slice_from d off l.length cap 1 hl hlc
  have HSO : Hid (1 < l.length → so = off + 1) := hso
  have hsl' := hsl 1 rfl
  clear hso hsl
  go_enter Try.func37, Try.ntmps37
  go_wp2_with fail
  refine (rpeek_ok H.out _ 1 rfl (by omega) hl).mono ?_
  rintro e w1 ⟨rfl, rfl⟩
  go_wp2_with fail
  go_ret2
  exact ⟨rfl, H.out.take hc 1 hl so HSO.out⟩

set_option maxHeartbeats 400000 in
theorem rnumberNo1 {w : World} {g d : Nat} {l : List UInt8} (h : RD w g d l) (hl : l.length < 1) :
    Calls Try.prog 37 #[.pointer (some ⟨g, 0, none⟩), .int .i64 1] w fun e w' => e = .returned (.tuple #[.int .u64 0, .int .i64 11]) ∧ w' = w := by
  have H : Hid (RD w g d l) := h
  clear h
  go_enter Try.func37, Try.ntmps37
  go_wp2_with fail
  refine (rpeek_no H.out _ 1 rfl hl).mono ?_
  rintro e w1 ⟨rfl, rfl⟩
  go_wp2_with fail
  go_ret2
  exact ⟨rfl, rfl⟩

set_option maxHeartbeats 400000 in
theorem rnumber2 {w : World} {g d : Nat} {l : List UInt8} (h : RD w g d l) (hl : 2 ≤ l.length) :
    Calls Try.prog 37 #[.pointer (some ⟨g, 0, none⟩), .int .i64 2] w fun e w' => e = .returned (.tuple #[.int .u64 (num (l.take 2) : Nat), .int .i64 0]) ∧ RD w' g d (l.drop 2) ∧ w.grownBy w' (some g) := by
  have H : Hid (RD w g d l) := h
  obtain ⟨off, cap, hc, hf, hlc, hgs, hds, hne, hb, hcell⟩ := h
  clear hcell hgs hds hne
  obtain ⟨so, hso, hsl⟩ := slice_from d off l.length cap 2 hl hlc
  have HSO : Hid (2 < l.length → so = off + 2) := hso
  have hsl' := hsl 2 rfl
  clear hso hsl
  go_enter Try.func37, Try.ntmps37
  go_wp2_with fail
  refine (rpeek_ok H.out _ 2 rfl (by omega) hl).mono ?_
  rintro e w1 ⟨rfl, rfl⟩
  go_wp2_with fail
  go_ret2
  exact ⟨rfl, H.out.take hc 2 hl so HSO.out⟩

set_option maxHeartbeats 400000 in
theorem rnumberNo2 {w : World} {g d : Nat} {l : List UInt8} (h : RD w g d l) (hl : l.length < 2) :
    Calls Try.prog 37 #[.pointer (some ⟨g, 0, none⟩), .int .i64 2] w fun e w' => e = .returned (.tuple #[.int .u64 0, .int .i64 11]) ∧ w' = w := by
  have H : Hid (RD w g d l) := h
  clear h
  go_enter Try.func37, Try.ntmps37
  go_wp2_with fail
  refine (rpeek_no H.out _ 2 rfl hl).mono ?_
  rintro e w1 ⟨rfl, rfl⟩
  go_wp2_with fail
  go_ret2
  exact ⟨rfl, rfl⟩

set_option maxHeartbeats 400000 in
theorem rnumber4 {w : World} {g d : Nat} {l : List UInt8} (h : RD w g d l) (hl : 4 ≤ l.length) :
    Calls Try.prog 37 #[.pointer (some ⟨g, 0, none⟩), .int .i64 4] w fun e w' => e = .returned (.tuple #[.int .u64 (num (l.take 4) : Nat), .int .i64 0]) ∧ RD w' g d (l.drop 4) ∧ w.grownBy w' (some g) := by
  have H : Hid (RD w g d l) := h
  obtain ⟨off, cap, hc, hf, hlc, hgs, hds, hne, hb, hcell⟩ := h
  clear hcell hgs hds hne
  obtain ⟨so, hso, hsl⟩ := slice_from d off l.length cap 4 hl hlc
  have HSO : Hid (4 < l.length → so = off + 4) := hso
  have hsl' := hsl 4 rfl
  clear hso hsl
  go_enter Try.func37, Try.ntmps37
  go_wp2_with fail
  refine (rpeek_ok H.out _ 4 rfl (by omega) hl).mono ?_
  rintro e w1 ⟨rfl, rfl⟩
  go_wp2_with fail
  go_ret2
  exact ⟨rfl, H.out.take hc 4 hl so HSO.out⟩

set_option maxHeartbeats 400000 in
theorem rnumberNo4 {w : World} {g d : Nat} {l : List UInt8} (h : RD w g d l) (hl : l.length < 4) :
    Calls Try.prog 37 #[.pointer (some ⟨g, 0, none⟩), .int .i64 4] w fun e w' => e = .returned (.tuple #[.int .u64 0, .int .i64 11]) ∧ w' = w := by
  have H : Hid (RD w g d l) := h
  clear h
  go_enter Try.func37, Try.ntmps37
  go_wp2_with fail
  refine (rpeek_no H.out _ 4 rfl hl).mono ?_
  rintro e w1 ⟨rfl, rfl⟩
  go_wp2_with fail
  go_ret2
  exact ⟨rfl, rfl⟩

set_option maxHeartbeats 400000 in
theorem rnumber8 {w : World} {g d : Nat} {l : List UInt8} (h : RD w g d l) (hl : 8 ≤ l.length) :
    Calls Try.prog 37 #[.pointer (some ⟨g, 0, none⟩), .int .i64 8] w fun e w' => e = .returned (.tuple #[.int .u64 (num (l.take 8) : Nat), .int .i64 0]) ∧ RD w' g d (l.drop 8) ∧ w.grownBy w' (some g) := by
  have H : Hid (RD w g d l) := h
  obtain ⟨off, cap, hc, hf, hlc, hgs, hds, hne, hb, hcell⟩ := h
  clear hcell hgs hds hne
  obtain ⟨so, hso, hsl⟩ := slice_from d off l.length cap 8 hl hlc
  have HSO : Hid (8 < l.length → so = off + 8) := hso
  have hsl' := hsl 8 rfl
  clear hso hsl
  go_enter Try.func37, Try.ntmps37
  go_wp2_with fail
  refine (rpeek_ok H.out _ 8 rfl (by omega) hl).mono ?_
  rintro e w1 ⟨rfl, rfl⟩
  go_wp2_with fail
  go_ret2
  exact ⟨rfl, H.out.take hc 8 hl so HSO.out⟩

set_option maxHeartbeats 400000 in
theorem rnumberNo8 {w : World} {g d : Nat} {l : List UInt8} (h : RD w g d l) (hl : l.length < 8) :
    Calls Try.prog 37 #[.pointer (some ⟨g, 0, none⟩), .int .i64 8] w fun e w' => e = .returned (.tuple #[.int .u64 0, .int .i64 11]) ∧ w' = w := by
  have H : Hid (RD w g d l) := h
  clear h
  go_enter Try.func37, Try.ntmps37
  go_wp2_with fail
  refine (rpeek_no H.out _ 8 rfl hl).mono ?_
  rintro e w1 ⟨rfl, rfl⟩
  go_wp2_with fail
  go_ret2
  exact ⟨rfl, rfl⟩

set_option maxHeartbeats 400000 in
theorem rnumberBad {w : World} (p : Value) (z : Int) (hz : ¬ (z = 1 ∨ z = 2 ∨ z = 4 ∨ z = 8)) :
    Calls Try.prog 37 #[p, .int .i64 z] w fun e w' => e = .returned (.tuple #[.int .u64 0, .int .i64 12]) ∧ w' = w := by
  have e1 : (z != 1) = true := by rw [bne_iff_ne]; omega
  have e2 : (z != 2) = true := by rw [bne_iff_ne]; omega
  have e4 : (z != 4) = true := by rw [bne_iff_ne]; omega
  have e8 : (z != 8) = true := by rw [bne_iff_ne]; omega
  clear hz
  go_enter Try.func37, Try.ntmps37
  go_wp2_with fail
  go_ret2
  exact ⟨rfl, rfl⟩

theorem rnumber_any {w : World} {g d : Nat} {l : List UInt8} (h : RD w g d l) (z : Int) :
    Calls Try.prog 37 #[.pointer (some ⟨g, 0, none⟩), .int .i64 z] w fun e w' => e = .returned (.tuple #[.int .u64 (numberS z l).1, .int .i64 (numberS z l).2.1]) ∧ RD w' g d (numberS z l).2.2 ∧ w.grownBy w' (some g) := by
  by_cases hz : z = 1 ∨ z = 2 ∨ z = 4 ∨ z = 8
  · by_cases hl : z.toNat ≤ l.length
    · have hS : numberS z l = (num (l.take z.toNat), 0, l.drop z.toNat) := by unfold numberS; rw [if_pos hz, if_pos hl]
      rw [hS]
      rcases hz with rfl | rfl | rfl | rfl
      · exact rnumber1 h hl
      · exact rnumber2 h hl
      · exact rnumber4 h hl
      · exact rnumber8 h hl
    · have hS : numberS z l = (0, 11, l) := by unfold numberS; rw [if_pos hz, if_neg hl]
      rw [hS]
      have fin : ∀ (e : Ending) (w' : World), (e = .returned (.tuple #[.int .u64 0, .int .i64 11]) ∧ w' = w) → (e = .returned (.tuple #[.int .u64 ((0 : Nat) : Int), .int .i64 11]) ∧ RD w' g d l ∧ w.grownBy w' (some g)) := by
        rintro e w' ⟨rfl, rfl⟩
        exact ⟨rfl, h, grownBy_refl _ _⟩
      rcases hz with rfl | rfl | rfl | rfl
      · exact (rnumberNo1 h (by simpa using hl)).mono fin
      · exact (rnumberNo2 h (by simpa using hl)).mono fin
      · exact (rnumberNo4 h (by simpa using hl)).mono fin
      · exact (rnumberNo8 h (by simpa using hl)).mono fin
  · have hS : numberS z l = (0, 12, l) := by unfold numberS; rw [if_neg hz]
    rw [hS]
    refine (rnumberBad _ z hz).mono ?_
    rintro e w' ⟨rfl, rfl⟩
    exact ⟨rfl, h, grownBy_refl _ _⟩

set_option maxHeartbeats 400000 in
theorem rint_any {w : World} {g d : Nat} {l : List UInt8} (h : RD w g d l) :
    Calls Try.prog 38 #[.pointer (some ⟨g, 0, none⟩)] w fun e w' => e = .returned (.tuple #[.int .i64 (intS l).1, .int .i64 (intS l).2.1]) ∧ RD w' g d (intS l).2.2 ∧ w.grownBy w' (some g) := by
  have H : Hid (RD w g d l) := h
  obtain ⟨off, cap, hc, hf, hlc, hgs, hds, hne, hb, hcell⟩ := h
  clear hcell hgs hds hne
  by_cases hl : l.length < 8
  · have hS : intS l = (0, 11, l) := by unfold intS; rw [if_pos hl]
    rw [hS]
    clear hS
    go_enter Try.func38, Try.ntmps38
    go_wp2_with fail
    refine (rpeek_no H.out _ 8 rfl hl).mono ?_
    rintro e w1 ⟨rfl, rfl⟩
    go_wp2_with fail
    go_ret2
    exact ⟨rfl, H.out, grownBy_refl _ _⟩
  · have hl8 : 8 ≤ l.length := by omega
    obtain ⟨so, hso, hsl⟩ := slice_from d off l.length cap 8 hl8 hlc
    have HSO : Hid (8 < l.length → so = off + 8) := hso
    have hsl' := hsl 8 rfl
    clear hso hsl
    by_cases hx : 9223372036854775807 < num (l.take 8)
    · have hS : intS l = (0, 12, l) := by unfold intS; rw [if_neg hl, if_pos hx]
      rw [hS]
      clear hS
      go_enter Try.func38, Try.ntmps38
      go_wp2_with fail
      refine (rpeek_ok H.out _ 8 rfl (by omega) hl8).mono ?_
      rintro e w1 ⟨rfl, rfl⟩
      generalize num (l.take 8) = x at *
      have e0 : decide ((9223372036854775808 : Int) ≤ (x : Int)) = true := by simp; omega
      go_wp2_with fail
      go_ret2
      exact ⟨rfl, H.out, grownBy_refl _ _⟩
    · have hS : intS l = (num (l.take 8), 0, l.drop 8) := by unfold intS; rw [if_neg hl, if_neg hx]
      rw [hS]
      clear hS
      obtain ⟨x, hxe⟩ : ∃ x, num (l.take 8) = x := ⟨_, rfl⟩
      rw [hxe] at hx ⊢
      have HX : Hid (num (l.take 8) = x) := hxe
      clear hxe
      go_enter Try.func38, Try.ntmps38
      go_wp2_with fail
      refine (rpeek_ok H.out _ 8 rfl (by omega) hl8).mono ?_
      rintro e w1 ⟨rfl, rfl⟩
      rw [HX.out]
      have e0 : decide ((9223372036854775808 : Int) ≤ (x : Int)) = false := by simp; omega
      go_wp2_with fail
      go_ret2
      exact ⟨rfl, H.out.take hc 8 hl8 so HSO.out⟩

set_option maxHeartbeats 400000 in
theorem rtext_short {w : World} {g d : Nat} {l : List UInt8} (h : RD w g d l) (m : Int) (hl : l.length < 4) :
    Calls Try.prog 39 #[.pointer (some ⟨g, 0, none⟩), .int .i64 m] w fun e w' => e = .returned (.tuple #[.string ⟨#[]⟩, .int .i64 11]) ∧ w' = w := by
  have H : Hid (RD w g d l) := h
  clear h
  go_enter Try.func39, Try.ntmps39
  go_wp2_with fail
  refine (rpeek_no H.out _ 4 rfl hl).mono ?_
  rintro e w1 ⟨rfl, rfl⟩
  go_wp2_with fail
  go_ret2
  exact ⟨rfl, rfl⟩

set_option maxHeartbeats 400000 in
theorem rtext_above {w : World} {g d : Nat} {l : List UInt8} (h : RD w g d l) (m : Int) (hl : 4 ≤ l.length) (hm : m < num (l.take 4)) :
    Calls Try.prog 39 #[.pointer (some ⟨g, 0, none⟩), .int .i64 m] w fun e w' => e = .returned (.tuple #[.string ⟨#[]⟩, .int .i64 12]) ∧ w' = w := by
  have H : Hid (RD w g d l) := h
  clear h
  have h4 := num4 l
  go_enter Try.func39, Try.ntmps39
  go_wp2_with fail
  refine (rpeek_ok H.out _ 4 rfl (by omega) hl).mono ?_
  rintro e w1 ⟨rfl, rfl⟩
  generalize num (l.take 4) = x at *
  go_wp2_with fail
  go_ret2
  exact ⟨rfl, rfl⟩

set_option maxHeartbeats 400000 in
theorem rtext_long {w : World} {g d : Nat} {l : List UInt8} (h : RD w g d l) (m : Int) (hl : 4 ≤ l.length) (hm : (num (l.take 4) : Int) ≤ m) (hn : l.length - 4 < num (l.take 4)) :
    Calls Try.prog 39 #[.pointer (some ⟨g, 0, none⟩), .int .i64 m] w fun e w' => e = .returned (.tuple #[.string ⟨#[]⟩, .int .i64 11]) ∧ w' = w := by
  have H : Hid (RD w g d l) := h
  obtain ⟨off, cap, hc, hf, hlc, hgs, hds, hne, hb, hcell⟩ := h
  clear hcell hgs hds hne
  have h4 := num4 l
  go_enter Try.func39, Try.ntmps39
  go_wp2_with fail
  refine (rpeek_ok H.out _ 4 rfl (by omega) hl).mono ?_
  rintro e w1 ⟨rfl, rfl⟩
  generalize num (l.take 4) = x at *
  go_wp2_with fail
  go_ret2
  exact ⟨rfl, rfl⟩

theorem slice_mid (d off len cap n : Nat) (h2 : 4 + n ≤ cap) :
    ∃ so, (0 < n → so = off + 4) ∧ ∀ (z : Int), z = 4 + (n : Int) → ∀ u : World, (Instr.slice 27 (.slice (some ⟨d, off, none⟩) len cap) (some (.int .i64 4)) (some (.int .i64 z)) none).run Try.prog u = .ok (.slice (some ⟨d, so, none⟩) n (cap - 4)) u := by
  obtain ⟨i0, hi, hz0, hz1, hz2⟩ := info_parts info5
  refine ⟨if cap = 4 then off else off + 4, fun h => by rw [if_neg (by omega)], fun z hz u => ?_⟩
  subst hz
  rw [run_slice_lh (P := Try.prog) u 27 (some ⟨d, off, none⟩) len cap (by rw [elem27]; exact und27) .i64 .i64 4 (4 + n) (by omega) (by omega) (by omega)]
  have hsz : (sizeOf 5).run Try.prog u = .ok 1 u := by simp [sizeOf, typeInfo, hi, hz1]
  rw [elem27, hsz]
  have e1 : ((4 : Int) + (n : Int)).toNat = 4 + n := by omega
  have e2 : (4 : Int).toNat = 4 := rfl
  simp only [Result.andThen_ok, sliced, e1, e2, Nat.mul_one, Option.map_some, add_lit, Nat.add_sub_cancel_left]
  by_cases e : cap = 4 <;> simp [e]

set_option maxHeartbeats 400000 in
theorem rtext_ok {w : World} {g d : Nat} {l : List UInt8} (h : RD w g d l) (m : Int) (hl : 4 ≤ l.length) (hm : (num (l.take 4) : Int) ≤ m) (hn : num (l.take 4) ≤ l.length - 4) :
    Calls Try.prog 39 #[.pointer (some ⟨g, 0, none⟩), .int .i64 m] w fun e w' => e = .returned (.tuple #[.string ⟨((l.drop 4).take (num (l.take 4))).toArray⟩, .int .i64 0]) ∧ RD w' g d (l.drop (4 + num (l.take 4))) ∧ w.grownBy w' (some g) := by
  have H : Hid (RD w g d l) := h
  obtain ⟨off, cap, hc, hf, hlc, hgs, hds, hne, hb, hcell⟩ := h
  have HC : Hid (∀ i u, (bc l)[i]? = some u → w.cell? ⟨d, off + i, none⟩ = some u) := hcell
  clear hcell hgs
  have h4 := num4 l
  obtain ⟨x, hxe⟩ : ∃ x, num (l.take 4) = x := ⟨_, rfl⟩
  rw [hxe] at h4 hn hm ⊢
  have HX : Hid (num (l.take 4) = x) := hxe
  clear hxe
  obtain ⟨so, hso, hsl⟩ := slice_mid d off l.length cap x (by omega)
  have HSO : Hid (0 < x → so = off + 4) := hso
  have hsl' := hsl (4 + x) rfl
  clear hso hsl
  obtain ⟨so2, hso2, hsl2⟩ := slice_from d off l.length cap (4 + x) (by omega) hlc
  have HSO2 : Hid (4 + x < l.length → so2 = off + (4 + x)) := hso2
  have hsl2' := hsl2 (4 + (x : Int)) (by omega)
  clear hso2 hsl2
  have hconv : (convert 27 9 (.slice (some ⟨d, so, none⟩) x (cap - 4))).run Try.prog w = .ok (.string ⟨((l.drop 4).take x).toArray⟩) w := by
    refine conv_bs (.inr ⟨d, so, cap - 4, by simp; omega, by simp; omega, hds, fun i u hu => ?_⟩)
    have hi : i < x := by
      have := (List.getElem?_eq_some_iff.1 hu).1
      simp [bc_length] at this
      omega
    rw [HSO.out (by omega), Nat.add_assoc]
    refine HC.out (4 + i) u ?_
    rw [← hu, bc_get, bc_get, List.getElem?_take_of_lt hi, List.getElem?_drop]
  have HT : Hid (RD (w.setCell ⟨g, 0, none⟩ (.slice (some ⟨d, so2, none⟩) (l.length - (4 + x)) (cap - (4 + x)))) g d (l.drop (4 + x)) ∧ w.grownBy (w.setCell ⟨g, 0, none⟩ (.slice (some ⟨d, so2, none⟩) (l.length - (4 + x)) (cap - (4 + x)))) (some g)) :=
    H.out.take hc (4 + x) (by omega) so2 HSO2.out
  clear hds hne
  go_enter Try.func39, Try.ntmps39
  go_wp2_with fail
  refine (rpeek_ok H.out _ 4 rfl (by omega) hl).mono ?_
  rintro e w1 ⟨rfl, rfl⟩
  rw [HX.out]
  go_wp2_with fail
  go_ret2
  exact ⟨rfl, HT.out⟩

theorem rtext_any' {w : World} {g d : Nat} {l : List UInt8} (h : RD w g d l) (m : Int) :
    Calls Try.prog 39 #[.pointer (some ⟨g, 0, none⟩), .int .i64 m] w fun e w' => e = .returned (.tuple #[.string ⟨(textS m l).1.toArray⟩, .int .i64 (textS m l).2.1]) ∧ RD w' g d (textS m l).2.2 ∧ w.grownBy w' (some g) := by
  by_cases hl : l.length < 4
  · have hS : textS m l = ([], 11, l) := by unfold textS; rw [if_pos hl]
    rw [hS]
    refine (rtext_short h m hl).mono ?_
    rintro e w' ⟨rfl, rfl⟩
    exact ⟨rfl, h, grownBy_refl _ _⟩
  · by_cases hm : m < num (l.take 4)
    · have hS : textS m l = ([], 12, l) := by unfold textS; rw [if_neg hl, if_pos hm]
      rw [hS]
      refine (rtext_above h m (by omega) hm).mono ?_
      rintro e w' ⟨rfl, rfl⟩
      exact ⟨rfl, h, grownBy_refl _ _⟩
    · by_cases hn : l.length - 4 < num (l.take 4)
      · have hS : textS m l = ([], 11, l) := by unfold textS; rw [if_neg hl, if_neg hm, if_pos hn]
        rw [hS]
        refine (rtext_long h m (by omega) (by omega) hn).mono ?_
        rintro e w' ⟨rfl, rfl⟩
        exact ⟨rfl, h, grownBy_refl _ _⟩
      · have hS : textS m l = ((l.drop 4).take (num (l.take 4)), 0, l.drop (4 + num (l.take 4))) := by unfold textS; rw [if_neg hl, if_neg hm, if_neg hn]
        rw [hS]
        exact rtext_ok h m (by omega) (by omega) (by omega)

end Go.Proofs.Ytefhdnhhcgbbjaa
