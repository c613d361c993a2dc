/-
  The library's cuts: at a colon; a prefix, a suffix.
-/
import Derived.Test.YtoldcbfmkibkdaaLab
import Derived.Test.YtoldcbfmkibkdaaRows2
namespace Go.Proofs.Ytoldcbfmkibkdaa
open Go.RowKit

set_option maxHeartbeats 1000000 in
set_option maxRecDepth 100000 in
theorem c_indexByte_any (l : List UInt8) (w : World) :
    Calls Try.prog 55 #[.string (bs l), .int .u8 58] w fun e w' => e = .returned (.int .i64 (Lib.indexByte l 58)) ∧ w' = w := by
  go_enter Try.func55, Try.ntmps55
  go_wp2
  rw [run_callFunc_extern Try.func63 (by kernel_rfl) (by kernel_rfl) (by kernel_rfl) (e := Extern.BytealgIndexByte.indexByte) (by kernel_rfl), Lib.run_indexByteString]
  simp only [Result.andThen]
  rw [Oper.upon_value]
  go_wp2
  go_ret
  exact ⟨rfl, rfl⟩

set_option maxHeartbeats 2000000 in
set_option maxRecDepth 100000 in
theorem c_index_any (l : List UInt8) (w : World) :
    Calls Try.prog 51 #[.string (bs l), .string (bs [58])] w fun e w' => e = .returned (.int .i64 (Lib.indexByte l 58)) ∧ w' = w := by
  have hz : (bs [58]).size = 1 := rfl
  by_cases hl : l = [58]
  · subst hl
    have he : ((bs [58]).toList == (bs [58]).toList) = true := by simp
    go_enter Try.func51, Try.ntmps51
    go_wp2_with fail
    go_ret
    exact ⟨rfl, rfl⟩
  · have he : ((bs [58]).toList == (bs l).toList) = false := by rw [bs_toList, bs_toList, beq_eq_false_iff_ne]; exact fun e => hl e.symm
    go_enter Try.func51, Try.ntmps51
    go_wp2_with fail
    refine (c_indexByte_any _ _).mono ?_
    rintro e w1 ⟨rfl, rfl⟩
    go_wp2_with fail
    go_ret
    exact ⟨rfl, rfl⟩

theorem c_extract_hd (l : List UInt8) : (bs l).extract 0 (chd l).length = bs (chd l) := by
  rw [bs_extract]; congr 1; simp [← c_hd_take l]
theorem c_extract_tl (l : List UInt8) (h : csl l = true) : (bs l).extract ((chd l).length + 1) (bs l).size = bs (ctl l) := by
  rw [bs_extract, ← c_tl_drop l h]; congr 1
  rw [bs_size]; have := c_hd_len l h; exact List.take_of_length_le (by omega)

set_option maxHeartbeats 2000000 in
set_option maxRecDepth 100000 in
theorem c_cut0_any (l : List UInt8) (w : World) (hm : l.length ≤ 9223372036854775807) :
    Calls Try.prog 37 #[.string (bs l), .string (bs [58])] w fun e w' => e = .returned (.tuple #[.string (bs (chd l)), .string (bs (ctl l)), .bool (csl l)]) ∧ ∃ n, w' = w.drewN n := by
  have hz : (bs [58]).size = 1 := rfl
  have hx := c_indexByte_eq l
  cases h : csl l
  · rw [h] at hx
    simp only [Bool.false_eq_true, if_false] at hx
    rw [c_hd_all l h, c_tl_none l h]
    go_enter Try.func37, Try.ntmps37
    go_wp2_with fail
    refine (c_index_any _ _).mono ?_
    rintro e w1 ⟨rfl, rfl⟩
    rw [hx]
    go_wp2_with fail
    go_ret3
    exact ⟨rfl, 0, rfl⟩
  · rw [h] at hx
    simp only [if_true] at hx
    have hlen := c_hd_len l h
    have hsz : (bs l).size = l.length := rfl
    obtain ⟨n, hn⟩ : ∃ n, (chd l).length = n := ⟨_, rfl⟩
    have e1 := c_extract_hd l
    have e2 := c_extract_tl l h
    rw [hn] at e1 e2 hx hlen
    rw [hsz] at e2
    have E1 : Hid ((bs l).extract 0 n = bs (chd l)) := e1
    have E2 : Hid ((bs l).extract (n + 1) l.length = bs (ctl l)) := e2
    clear e1 e2
    have c1 : (0 : Int) ≤ ↑n := by omega
    have c2 : (n : Int) ≤ (l.length : Int) := by omega
    have c3 : (0 : Int) ≤ ↑n + 1 := by omega
    have c4 : (n : Int) + 1 ≤ (l.length : Int) := by omega
    go_enter Try.func37, Try.ntmps37
    go_wp2_with fail
    refine (c_index_any _ _).mono ?_
    rintro e w1 ⟨rfl, rfl⟩
    rw [hx]
    go_wp2_with fail
    go_region
    go_wp2_with fail
    go_ret3
    refine ⟨?_, 1, rfl⟩
    rw [← E1.out, ← E2.out]; rfl

set_option maxHeartbeats 1000000 in
theorem c_cut_any (l : List UInt8) (w : World) (hm : l.length ≤ 9223372036854775807) :
    Calls Try.prog 22 #[.string (bs l), .string (bs [58])] w fun e w' => e = .returned (.tuple #[.string (bs (chd l)), .string (bs (ctl l)), .bool (csl l)]) ∧ ∃ n, w' = w.drewN n := by
  have HM : Hid (l.length ≤ 9223372036854775807) := hm
  clear hm
  go_enter Try.func22, Try.ntmps22
  go_wp2_with fail
  refine (c_cut0_any _ _ HM.out).mono ?_
  rintro e w1 ⟨rfl, n, rfl⟩
  go_wp2_with fail
  go_ret3
  exact ⟨rfl, n, rfl⟩


theorem take_eq_iff (p l : List UInt8) : (l.take p.length = p ∧ p.length ≤ l.length) ↔ p.isPrefixOf l = true := by
  rw [List.isPrefixOf_iff_prefix, List.prefix_iff_eq_take]
  constructor
  · rintro ⟨h, _⟩; exact h.symm
  · intro h; exact ⟨h.symm, by have := congrArg List.length h; simp at this; omega⟩
theorem beq_bs (a b : List UInt8) : ((bs a).toList == (bs b).toList) = decide (a = b) := by
  rw [bs_toList, bs_toList]
  by_cases h : a = b
  · simp [h]
  · simp [h]

set_option maxHeartbeats 1000000 in
theorem hasPrefix_any (l p : List UInt8) (w : World) (_hl : l.length ≤ 9223372036854775807) (hp : p.length ≤ 9223372036854775807) :
    Calls Try.prog 50 #[.string (bs l), .string (bs p)] w fun e w' => e = .returned (.bool (p.isPrefixOf l)) ∧ w' = w := by
  have z1 : (bs l).size = l.length := rfl
  have z2 : (bs p).size = p.length := rfl
  by_cases h : p.length ≤ l.length
  · have c1 : (p.length : Int) ≤ (l.length : Int) := by omega
    have c2 : (0 : Int) ≤ (p.length : Int) := by omega
    have HE : Hid ((bs l).extract 0 p.length = bs (l.take p.length)) := extract_to l p.length
    have e0 : p.isPrefixOf l = decide (l.take p.length = p) := by
      by_cases h2 : l.take p.length = p
      · rw [(take_eq_iff p l).1 ⟨h2, h⟩]; simp [h2]
      · have : ¬ (p.isPrefixOf l = true) := fun h3 => h2 ((take_eq_iff p l).2 h3).1
        simp only [Bool.not_eq_true] at this
        rw [this]; simp [h2]
    rw [e0]
    have HB : Hid ((((bs l).extract 0 p.length).toList == (bs p).toList) = decide (l.take p.length = p)) := by
      show (_ == _) = _
      rw [HE.out]; exact beq_bs _ _
    clear e0
    go_enter Try.func50, Try.ntmps50
    go_wp2_with fail
    go_ret
    refine ⟨?_, rfl⟩
    rw [← HB.out]; rfl
  · have e0 : p.isPrefixOf l = false := by
      cases hh : p.isPrefixOf l
      · rfl
      · exact absurd ((take_eq_iff p l).2 hh).2 h
    rw [e0]
    have c1 : ¬ ((p.length : Int) ≤ (l.length : Int)) := by omega
    go_enter Try.func50, Try.ntmps50
    go_wp2_with fail
    go_ret
    exact ⟨rfl, rfl⟩

set_option maxHeartbeats 1000000 in
theorem cutPrefix0_any (l p : List UInt8) (w : World) (hl : l.length ≤ 9223372036854775807) (hp : p.length ≤ 9223372036854775807) :
    Calls Try.prog 36 #[.string (bs l), .string (bs p)] w fun e w' => e = .returned (.tuple #[.string (bs (if p.isPrefixOf l then l.drop p.length else l)), .bool (p.isPrefixOf l)]) ∧ w' = w := by
  have HP : Hid (∀ w : World, Calls Try.prog 50 #[.string (bs l), .string (bs p)] w fun e w' => e = .returned (.bool (p.isPrefixOf l)) ∧ w' = w) := fun w => hasPrefix_any l p w hl hp
  have z1 : (bs l).size = l.length := rfl
  have z2 : (bs p).size = p.length := rfl
  cases h : p.isPrefixOf l
  · rw [h] at HP
    simp only [Bool.false_eq_true, if_false]
    go_enter Try.func36, Try.ntmps36
    go_wp2_with fail
    refine (HP.out _).mono ?_
    rintro e w1 ⟨rfl, rfl⟩
    go_wp2_with fail
    go_ret2
    exact ⟨rfl, rfl⟩
  · rw [h] at HP
    have hle := ((take_eq_iff p l).2 h).2
    have c1 : (p.length : Int) ≤ (l.length : Int) := by omega
    have c2 : (0 : Int) ≤ (p.length : Int) := by omega
    have HE : Hid ((bs l).extract p.length l.length = bs (l.drop p.length)) := extract_from l p.length
    simp only [if_true]
    go_enter Try.func36, Try.ntmps36
    go_wp2_with fail
    refine (HP.out _).mono ?_
    rintro e w1 ⟨rfl, rfl⟩
    go_wp2_with fail
    go_ret2
    refine ⟨?_, rfl⟩
    rw [← HE.out]; rfl
set_option maxHeartbeats 1000000 in
theorem cutPrefix_any (l p : List UInt8) (w : World) (hl : l.length ≤ 9223372036854775807) (hp : p.length ≤ 9223372036854775807) :
    Calls Try.prog 21 #[.string (bs l), .string (bs p)] w fun e w' => e = .returned (.tuple #[.string (bs (if p.isPrefixOf l then l.drop p.length else l)), .bool (p.isPrefixOf l)]) ∧ w' = w := by
  have HP : Hid (∀ w : World, Calls Try.prog 36 #[.string (bs l), .string (bs p)] w fun e w' => e = .returned (.tuple #[.string (bs (if p.isPrefixOf l then l.drop p.length else l)), .bool (p.isPrefixOf l)]) ∧ w' = w) := fun w => cutPrefix0_any l p w hl hp
  generalize (if p.isPrefixOf l then l.drop p.length else l) = r at *
  generalize p.isPrefixOf l = b at *
  go_enter Try.func21, Try.ntmps21
  go_wp2_with fail
  refine (HP.out _).mono ?_
  rintro e w1 ⟨rfl, rfl⟩
  go_wp2_with fail
  go_ret2
  exact ⟨rfl, rfl⟩

set_option maxHeartbeats 1000000 in
theorem hasSuffix_any (l p : List UInt8) (w : World) (hl : l.length ≤ 9223372036854775807) (hp : p.length ≤ 9223372036854775807) :
    Calls Try.prog 65 #[.string (bs l), .string (bs p)] w fun e w' => e = .returned (.bool (p.isSuffixOf l)) ∧ w' = w := by
  have z1 : (bs l).size = l.length := rfl
  have z2 : (bs p).size = p.length := rfl
  by_cases h : p.length ≤ l.length
  · obtain ⟨n, hn⟩ : ∃ n, n = l.length - p.length := ⟨_, rfl⟩
    have c0 : (l.length : Int) - (p.length : Int) = (n : Int) := by omega
    have c1 : (p.length : Int) ≤ (l.length : Int) := by omega
    have c2 : (0 : Int) ≤ (n : Int) := by omega
    have c3 : (n : Int) ≤ (l.length : Int) := by omega
    have HE : Hid ((bs l).extract n l.length = bs (l.drop n)) := extract_from l n
    have e0 : p.isSuffixOf l = decide (l.drop n = p) := by
      subst hn
      by_cases h2 : l.drop (l.length - p.length) = p
      · rw [(suffix_iff p l).2 ⟨h, h2⟩]; simp [h2]
      · have : ¬ (p.isSuffixOf l = true) := fun h3 => h2 ((suffix_iff p l).1 h3).2
        simp only [Bool.not_eq_true] at this
        rw [this]; simp [h2]
    rw [e0]
    have HB : Hid ((((bs l).extract n l.length).toList == (bs p).toList) = decide (l.drop n = p)) := by
      show (_ == _) = _
      rw [HE.out]; exact beq_bs _ _
    clear e0 hn
    go_enter Try.func65, Try.ntmps65
    go_wp2_with fail
    go_ret
    refine ⟨?_, rfl⟩
    rw [← HB.out]; rfl
  · have e0 : p.isSuffixOf l = false := by
      cases hh : p.isSuffixOf l
      · rfl
      · exact absurd ((suffix_iff p l).1 hh).1 h
    rw [e0]
    have c1 : ¬ ((p.length : Int) ≤ (l.length : Int)) := by omega
    go_enter Try.func65, Try.ntmps65
    go_wp2_with fail
    go_ret
    exact ⟨rfl, rfl⟩

set_option maxHeartbeats 1000000 in
theorem cutSuffix0_any (l p : List UInt8) (w : World) (hl : l.length ≤ 9223372036854775807) (hp : p.length ≤ 9223372036854775807) :
    Calls Try.prog 62 #[.string (bs l), .string (bs p)] w fun e w' => e = .returned (.tuple #[.string (bs (if p.isSuffixOf l then l.take (l.length - p.length) else l)), .bool (p.isSuffixOf l)]) ∧ w' = w := by
  have HP : Hid (∀ w : World, Calls Try.prog 65 #[.string (bs l), .string (bs p)] w fun e w' => e = .returned (.bool (p.isSuffixOf l)) ∧ w' = w) := fun w => hasSuffix_any l p w hl hp
  have z1 : (bs l).size = l.length := rfl
  have z2 : (bs p).size = p.length := rfl
  cases h : p.isSuffixOf l
  · rw [h] at HP
    simp only [Bool.false_eq_true, if_false]
    go_enter Try.func62, Try.ntmps62
    go_wp2_with fail
    refine (HP.out _).mono ?_
    rintro e w1 ⟨rfl, rfl⟩
    go_wp2_with fail
    go_ret2
    exact ⟨rfl, rfl⟩
  · rw [h] at HP
    have hle := ((suffix_iff p l).1 h).1
    obtain ⟨n, hn⟩ : ∃ n, n = l.length - p.length := ⟨_, rfl⟩
    have c0 : (l.length : Int) - (p.length : Int) = (n : Int) := by omega
    have c2 : (0 : Int) ≤ (n : Int) := by omega
    have c3 : (n : Int) ≤ (l.length : Int) := by omega
    rw [← hn]
    have HE : Hid ((bs l).extract 0 n = bs (l.take n)) := extract_to l n
    clear hn
    simp only [if_true]
    go_enter Try.func62, Try.ntmps62
    go_wp2_with fail
    refine (HP.out _).mono ?_
    rintro e w1 ⟨rfl, rfl⟩
    go_wp2_with fail
    go_ret2
    refine ⟨?_, rfl⟩
    rw [← HE.out]; rfl
set_option maxHeartbeats 1000000 in
theorem cutSuffix_any (l p : List UInt8) (w : World) (hl : l.length ≤ 9223372036854775807) (hp : p.length ≤ 9223372036854775807) :
    Calls Try.prog 54 #[.string (bs l), .string (bs p)] w fun e w' => e = .returned (.tuple #[.string (bs (if p.isSuffixOf l then l.take (l.length - p.length) else l)), .bool (p.isSuffixOf l)]) ∧ w' = w := by
  have HP : Hid (∀ w : World, Calls Try.prog 62 #[.string (bs l), .string (bs p)] w fun e w' => e = .returned (.tuple #[.string (bs (if p.isSuffixOf l then l.take (l.length - p.length) else l)), .bool (p.isSuffixOf l)]) ∧ w' = w) := fun w => cutSuffix0_any l p w hl hp
  generalize (if p.isSuffixOf l then l.take (l.length - p.length) else l) = r at *
  generalize p.isSuffixOf l = b at *
  go_enter Try.func54, Try.ntmps54
  go_wp2_with fail
  refine (HP.out _).mono ?_
  rintro e w1 ⟨rfl, rfl⟩
  go_wp2_with fail
  go_ret2
  exact ⟨rfl, rfl⟩
end Go.Proofs.Ytoldcbfmkibkdaa
