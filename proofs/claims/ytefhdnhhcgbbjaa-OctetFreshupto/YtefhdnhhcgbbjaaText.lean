import Derived.Test.YtefhdnhhcgbbjaaRead
namespace Go.Proofs.Ytefhdnhhcgbbjaa
open Go.RowKit

/-- Int, by definition -/
def intS (l : List UInt8) : Nat × Int × List UInt8 :=
  if l.length < 8 then (0, 11, l) else if 9223372036854775807 < num (l.take 8) then (0, 12, l) else (num (l.take 8), 0, l.drop 8)
/-- Text, by definition -/
def textS (m : Int) (l : List UInt8) : List UInt8 × Int × List UInt8 :=
  if l.length < 4 then ([], 11, l) else if m < num (l.take 4) then ([], 12, l) else if l.length - 4 < num (l.take 4) then ([], 11, l) else ((l.drop 4).take (num (l.take 4)), 0, l.drop (4 + num (l.take 4)))

set_option maxHeartbeats 400000 in
theorem int_any {w : World} {g d : Nat} {l : List UInt8} (h : RD w g d l) :
    Calls Try.prog 31 #[.pointer (some ⟨g, 0, none⟩)] w fun e w' => e = .returned (.tuple #[.int .i64 (intS l).1, .int .i64 (intS l).2.1]) ∧ RD w' g d (intS l).2.2 ∧ w.grownBy w' (some g) := by
  have H : Hid (RD w g d l) := h
  obtain ⟨off, cap, hc, hf, hlc, hgs, hds, hne, hb, hcell⟩ := h
  clear hcell hgs hds hne
  by_cases hl : l.length < 8
  · have hS : intS l = (0, 11, l) := by unfold intS; rw [if_pos hl]
    rw [hS]
    clear hS
    go_enter Try.func31, Try.ntmps31
    go_wp2_with fail
    refine (peek_no H.out _ 8 rfl hl).mono ?_
    rintro e w1 ⟨rfl, rfl⟩
    go_wp2_with fail
    go_ret2
    exact ⟨rfl, H.out, grownBy_refl _ _⟩
  · have hl8 : 8 ≤ l.length := by omega
    obtain ⟨so, hso, hsl⟩ := slice_from d off l.length cap 8 hl8 hlc
    have HSO : Hid (8 < l.length → so = off + 8) := hso
    have hsl' := hsl 8 rfl
    clear hso hsl
    by_cases hx : 9223372036854775807 < num (l.take 8)
    · have hS : intS l = (0, 12, l) := by unfold intS; rw [if_neg hl, if_pos hx]
      rw [hS]
      clear hS
      go_enter Try.func31, Try.ntmps31
      go_wp2_with fail
      refine (peek_at H.out _ 8 rfl (by omega) hl8).mono ?_
      rintro e w1 ⟨rfl, rfl⟩
      generalize num (l.take 8) = x at *
      have e0 : decide ((9223372036854775807 : Int) < (x : Int)) = true := by simp; omega
      go_wp2_with fail
      go_ret2
      exact ⟨rfl, H.out, grownBy_refl _ _⟩
    · have hS : intS l = (num (l.take 8), 0, l.drop 8) := by unfold intS; rw [if_neg hl, if_neg hx]
      rw [hS]
      clear hS
      obtain ⟨x, hxe⟩ : ∃ x, num (l.take 8) = x := ⟨_, rfl⟩
      rw [hxe] at hx ⊢
      have HX : Hid (num (l.take 8) = x) := hxe
      clear hxe
      go_enter Try.func31, Try.ntmps31
      go_wp2_with fail
      refine (peek_at H.out _ 8 rfl (by omega) hl8).mono ?_
      rintro e w1 ⟨rfl, rfl⟩
      rw [HX.out]
      have e0 : decide ((9223372036854775807 : Int) < (x : Int)) = false := by simp; omega
      go_wp2_with fail
      go_ret2
      exact ⟨rfl, H.out.take hc 8 hl8 so HSO.out⟩

theorem num4 (l : List UInt8) : num (l.take 4) < 4294967296 := by
  have h1 := num_lt (l.take 4)
  have h2 : 256 ^ (l.take 4).length ≤ 256 ^ 4 := Nat.pow_le_pow_right (by omega) (by simp; omega)
  omega

set_option maxHeartbeats 400000 in
theorem text_short {w : World} {g d : Nat} {l : List UInt8} (h : RD w g d l) (m : Int) (hl : l.length < 4) :
    Calls Try.prog 12 #[.pointer (some ⟨g, 0, none⟩), .int .i64 m] w fun e w' => e = .returned (.tuple #[.string ⟨#[]⟩, .int .i64 11]) ∧ w' = w := by
  have H : Hid (RD w g d l) := h
  clear h
  go_enter Try.func12, Try.ntmps12
  go_wp2_with fail
  refine (peek_no H.out _ 4 rfl hl).mono ?_
  rintro e w1 ⟨rfl, rfl⟩
  go_wp2_with fail
  go_ret2
  exact ⟨rfl, rfl⟩

set_option maxHeartbeats 400000 in
theorem text_above {w : World} {g d : Nat} {l : List UInt8} (h : RD w g d l) (m : Int) (hl : 4 ≤ l.length) (hm : m < num (l.take 4)) :
    Calls Try.prog 12 #[.pointer (some ⟨g, 0, none⟩), .int .i64 m] w fun e w' => e = .returned (.tuple #[.string ⟨#[]⟩, .int .i64 12]) ∧ w' = w := by
  have H : Hid (RD w g d l) := h
  clear h
  have h4 := num4 l
  go_enter Try.func12, Try.ntmps12
  go_wp2_with fail
  refine (peek_at H.out _ 4 rfl (by omega) hl).mono ?_
  rintro e w1 ⟨rfl, rfl⟩
  generalize num (l.take 4) = x at *
  go_wp2_with fail
  go_ret2
  exact ⟨rfl, rfl⟩

theorem slice_to (d off len cap n : Nat) (h2 : n ≤ cap) :
    ∀ (z : Int), z = (n : Int) → ∀ u : World, (Instr.slice 27 (.slice (some ⟨d, off, none⟩) len cap) none (some (.int .i64 z)) none).run Try.prog u = .ok (.slice (some ⟨d, off, none⟩) n cap) u := by
  obtain ⟨i0, hi, hz0, hz1, hz2⟩ := info_parts info5
  intro z hz u
  subst hz
  rw [run_slice_h (P := Try.prog) u 27 (some ⟨d, off, none⟩) len cap (by rw [elem27]; exact und27) .i64 n (by omega) (by omega)]
  have hsz : (sizeOf 5).run Try.prog u = .ok 1 u := by simp [sizeOf, typeInfo, hi, hz1]
  rw [elem27, hsz]
  simp [sliced, add_lit]

set_option maxHeartbeats 400000 in
theorem text_long {w : World} {g d : Nat} {l : List UInt8} (h : RD w g d l) (m : Int) (hl : 4 ≤ l.length) (hm : (num (l.take 4) : Int) ≤ m) (hn : l.length - 4 < num (l.take 4)) :
    Calls Try.prog 12 #[.pointer (some ⟨g, 0, none⟩), .int .i64 m] w fun e w' => e = .returned (.tuple #[.string ⟨#[]⟩, .int .i64 11]) ∧ w' = w := by
  have H : Hid (RD w g d l) := h
  obtain ⟨off, cap, hc, hf, hlc, hgs, hds, hne, hb, hcell⟩ := h
  clear hcell hgs hds hne
  have h4 := num4 l
  obtain ⟨so, hso, hsl⟩ := slice_from d off l.length cap 4 hl hlc
  have hsl' := hsl 4 rfl
  clear hso hsl
  go_enter Try.func12, Try.ntmps12
  go_wp2_with fail
  refine (peek_at H.out _ 4 rfl (by omega) hl).mono ?_
  rintro e w1 ⟨rfl, rfl⟩
  generalize num (l.take 4) = x at *
  go_wp2_with fail
  go_ret2
  exact ⟨rfl, rfl⟩

set_option maxHeartbeats 400000 in
theorem text_ok {w : World} {g d : Nat} {l : List UInt8} (h : RD w g d l) (m : Int) (hl : 4 ≤ l.length) (hm : (num (l.take 4) : Int) ≤ m) (hn : num (l.take 4) ≤ l.length - 4) :
    Calls Try.prog 12 #[.pointer (some ⟨g, 0, none⟩), .int .i64 m] w fun e w' => e = .returned (.tuple #[.string ⟨((l.drop 4).take (num (l.take 4))).toArray⟩, .int .i64 0]) ∧ RD w' g d (l.drop (4 + num (l.take 4))) ∧ w.grownBy w' (some g) := by
  have H : Hid (RD w g d l) := h
  obtain ⟨off, cap, hc, hf, hlc, hgs, hds, hne, hb, hcell⟩ := h
  have HC : Hid (∀ i u, (bc l)[i]? = some u → w.cell? ⟨d, off + i, none⟩ = some u) := hcell
  clear hcell hgs
  have h4 := num4 l
  obtain ⟨so, hso, hsl⟩ := slice_from d off l.length cap 4 hl hlc
  have HSO : Hid (4 < l.length → so = off + 4) := hso
  have hsl' := hsl 4 rfl
  clear hso hsl
  obtain ⟨x, hxe⟩ : ∃ x, num (l.take 4) = x := ⟨_, rfl⟩
  rw [hxe] at h4 hn hm ⊢
  have HX : Hid (num (l.take 4) = x) := hxe
  clear hxe
  go_enter Try.func12, Try.ntmps12
  go_wp2_with fail
  refine (peek_at H.out _ 4 rfl (by omega) hl).mono ?_
  rintro e w1 ⟨rfl, rfl⟩
  rw [HX.out]
  obtain ⟨so2, hso2, hsl2⟩ := slice_from d so (l.length - 4) (cap - 4) x hn (by omega)
  have HSO2 : Hid (x < l.length - 4 → so2 = so + x) := hso2
  have hsl2' := hsl2 x rfl
  have hst := slice_to d so (l.length - 4) (cap - 4) x (by omega) x rfl
  clear hso2 hsl2
  have HT : Hid (RD (w1.setCell ⟨g, 0, none⟩ (.slice (some ⟨d, so2, none⟩) (l.length - (4 + x)) (cap - (4 + x)))) g d (l.drop (4 + x)) ∧ w1.grownBy (w1.setCell ⟨g, 0, none⟩ (.slice (some ⟨d, so2, none⟩) (l.length - (4 + x)) (cap - (4 + x)))) (some g)) :=
    H.out.take hc (4 + x) (by omega) so2 (fun h => by rw [HSO2.out (by omega), HSO.out (by omega)]; omega)
  have hconv : (convert 27 9 (.slice (some ⟨d, so, none⟩) x (cap - 4))).run Try.prog (w1.setCell ⟨g, 0, none⟩ (.slice (some ⟨d, so2, none⟩) (l.length - 4 - x) (cap - 4 - x))) = .ok (.string ⟨((l.drop 4).take x).toArray⟩) (w1.setCell ⟨g, 0, none⟩ (.slice (some ⟨d, so2, none⟩) (l.length - 4 - x) (cap - 4 - x))) := by
    refine conv_bs (.inr ⟨d, so, cap - 4, by simp; omega, by simp; omega, by simpa [World.setCell] using hds, fun i u hu => ?_⟩)
    rw [World.cell?_of_block (w := w1) (Below.heap_setCell _ _ _ _ hne)]
    have hi : i < x := by
      have := (List.getElem?_eq_some_iff.1 hu).1
      simp [bc_length] at this
      omega
    rw [HSO.out (by omega), Nat.add_assoc]
    refine HC.out (4 + i) u ?_
    rw [← hu, bc_get, bc_get, List.getElem?_take_of_lt hi, List.getElem?_drop]
  clear hds hne
  go_wp2_with fail
  go_ret2
  refine ⟨rfl, ?_⟩
  rw [Nat.sub_sub, Nat.sub_sub]
  exact HT.out

theorem text_any' {w : World} {g d : Nat} {l : List UInt8} (h : RD w g d l) (m : Int) :
    Calls Try.prog 12 #[.pointer (some ⟨g, 0, none⟩), .int .i64 m] w fun e w' => e = .returned (.tuple #[.string ⟨(textS m l).1.toArray⟩, .int .i64 (textS m l).2.1]) ∧ RD w' g d (textS m l).2.2 ∧ w.grownBy w' (some g) := by
  by_cases hl : l.length < 4
  · have hS : textS m l = ([], 11, l) := by unfold textS; rw [if_pos hl]
    rw [hS]
    refine (text_short h m hl).mono ?_
    rintro e w' ⟨rfl, rfl⟩
    exact ⟨rfl, h, grownBy_refl _ _⟩
  · by_cases hm : m < num (l.take 4)
    · have hS : textS m l = ([], 12, l) := by unfold textS; rw [if_neg hl, if_pos hm]
      rw [hS]
      refine (text_above h m (by omega) hm).mono ?_
      rintro e w' ⟨rfl, rfl⟩
      exact ⟨rfl, h, grownBy_refl _ _⟩
    · by_cases hn : l.length - 4 < num (l.take 4)
      · have hS : textS m l = ([], 11, l) := by unfold textS; rw [if_neg hl, if_neg hm, if_pos hn]
        rw [hS]
        refine (text_long h m (by omega) (by omega) hn).mono ?_
        rintro e w' ⟨rfl, rfl⟩
        exact ⟨rfl, h, grownBy_refl _ _⟩
      · have hS : textS m l = ((l.drop 4).take (num (l.take 4)), 0, l.drop (4 + num (l.take 4))) := by unfold textS; rw [if_neg hl, if_neg hm, if_neg hn]
        rw [hS]
        exact text_ok h m (by omega) (by omega) (by omega)

end Go.Proofs.Ytefhdnhhcgbbjaa
