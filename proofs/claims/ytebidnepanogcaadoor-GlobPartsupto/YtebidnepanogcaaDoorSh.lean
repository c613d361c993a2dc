/-
  The library's share: strings.Index, Contains, Replace at a star; path.Dir.
-/
import Derived.Test.YtebidnepanogcaaDoorGp
import Derived.Test.YtebidnepanogcaaDoorJoin
import Derived.Test.YtebidnepanogcaaDoorShelf
namespace Go.Proofs.YtebidnepanogcaaDoor
open Go.RowKit Go.Lib

/-- what the library's variables hold -/
structure Ev (w : World) : Prop where
  max : ∃ m, w.cell? ⟨0, 0, none⟩ = some (.int .i64 m)
  big : 3 ≤ w.heap.size
theorem Ev.below {w w' : World} {B : Nat} (h : Ev w) (hb : Below B w w') (hB : 3 ≤ B) : Ev w' := by
  obtain ⟨m, hm⟩ := h.max
  exact ⟨⟨m, (hb.cell (p := ⟨0, 0, none⟩) (by show 0 < B; omega)).trans hm⟩, Nat.le_trans h.big hb.size⟩
theorem Ev.later {w w' : World} (h : Ev w) (hb : Below w.heap.size w w') : Ev w' := h.below hb h.big
theorem Ev.only {S : List Nat} {w w' : World} (h : Ev w) (hb : Only S w w') (hS : ∀ k ∈ S, 3 ≤ k) : Ev w' := h.below (hb.below h.big hS) (Nat.le_refl _)

set_option maxHeartbeats 1000000 in
set_option maxRecDepth 100000 in
theorem indexByte0_any (l : List UInt8) (c : UInt8) (w : World) :
    Calls Tryd.prog 63 #[.string (bs l), .int .u8 c.toNat] w fun e w' => e = .returned (.int .i64 (Lib.indexByte l c)) ∧ w' = w := by
  have hc : ((c.toNat : Int)).toNat.toUInt8 = c := by simp
  go_enter Tryd.func63, Tryd.ntmps63
  go_wp2
  rw [run_callFunc_extern Tryd.func73 (by kernel_rfl) (by kernel_rfl) (by kernel_rfl) (e := Extern.BytealgIndexByte.indexByte) (by kernel_rfl), Lib.run_indexByteString, hc]
  simp only [Result.andThen]
  rw [Oper.upon_value]
  go_wp2
  go_ret
  exact ⟨rfl, rfl⟩
theorem replace_rep1 (l : List UInt8) : Lib.replace l [42] [97] 1 = rep1 l := by
  unfold Lib.replace
  rw [if_neg (by decide)]
  unfold Lib.replaceNum
  rw [Lib.count_one]
  rcases cut_split 42 l.length l (Nat.le_refl _) with h | ⟨a, b, rfl, h⟩
  · rw [List.count_eq_zero.2 h, if_pos (by right; decide), rep1_none l h]; rfl
  · have e : (a ++ 42 :: b).count 42 = b.count 42 + 1 := by simp [List.count_append, List.count_eq_zero.2 h]
    rw [if_neg (by rw [e]; omega), rep1_some a b h]
    show Lib.replaceK [42] [97] (0 + 1) _ = _
    rw [Lib.replaceK_hit _ _ _ _ a.length (by rw [Lib.index_one, ib_app 42 a b h])]
    rw [Lib.replaceK]
    simp
theorem replace_any (l : List UInt8) {w : World} (h : Ev w) (hl : l.length ≤ 1000000000) :
    Calls Tryd.prog 47 #[.string (bs l), .string (bs [42]), .string (bs [97]), .int .i64 1] w fun e w' => e = .returned (.string (bs (rep1 l))) ∧ Below w.heap.size w w' := by
  obtain ⟨m, hm⟩ := h.max
  have hz : (bs l).size = l.length := rfl
  have hcnt : Lib.countB (bs l) (bs [42]) * (bs [97]).size ≤ 2000000000 := by
    have : (bs [97]).size = 1 := rfl
    rw [this, Nat.mul_one]
    have := Lib.count_le l [42]
    show Lib.count l [42] ≤ _
    omega
  have hS := Any.strings_Replace Tryd.lays154 Tryd.Builder_Extra_154 (bs l) (bs [42]) (bs [97]) 1 m w (by omega) hm (by show 1 ≤ 1; omega) (by omega)
  change Calls Tryd.prog 47 _ _ _ at hS
  refine hS.mono ?_
  rintro e w' ⟨rfl, hb⟩
  refine ⟨?_, hb⟩
  show Ending.returned (.string (bs (Lib.replace l [42] [97] 1))) = _
  rw [replace_rep1]
set_option maxHeartbeats 2000000 in
set_option maxRecDepth 100000 in
theorem star_index (l : List UInt8) (w : World) :
    Calls Tryd.prog 54 #[.string (bs l), .string (bs [42])] w fun e w' => e = .returned (.int .i64 (Lib.indexByte l 42)) ∧ w' = w := by
  have hz : (bs [42]).size = 1 := rfl
  have HI : Hid (∀ w : World, Calls Tryd.prog 63 #[.string (bs l), .int .u8 42] w fun e w' => e = .returned (.int .i64 (Lib.indexByte l 42)) ∧ w' = w) := fun w => indexByte0_any l 42 w
  by_cases hl : l = [42]
  · subst hl
    have he : ((bs [42]).toList == (bs [42]).toList) = true := by simp
    go_enter Tryd.func54, Tryd.ntmps54
    go_wp2_with fail
    go_ret
    exact ⟨rfl, rfl⟩
  · have he : ((bs [42]).toList == (bs l).toList) = false := by rw [bs_toList, bs_toList, beq_eq_false_iff_ne]; exact fun e => hl e.symm
    go_enter Tryd.func54, Tryd.ntmps54
    go_wp2_with fail
    refine (HI.out _).mono ?_
    rintro e w1 ⟨rfl, rfl⟩
    go_wp2_with fail
    go_ret
    exact ⟨rfl, rfl⟩
theorem star_any (l : List UInt8) (w : World) :
    Calls Tryd.prog 28 #[.string (bs l), .string (bs [42])] w fun e w' => e = .returned (.bool (l.contains 42)) ∧ w' = w := by
  have HI : Hid (∀ w : World, Calls Tryd.prog 54 #[.string (bs l), .string (bs [42])] w fun e w' => e = .returned (.int .i64 (Lib.indexByte l 42)) ∧ w' = w) := fun w => star_index l w
  rw [← ib_contains]
  generalize Lib.indexByte l 42 = n at *
  have HJ : Hid (∀ w : World, Calls Tryd.prog 42 #[.string (bs l), .string (bs [42])] w fun e w' => e = .returned (.int .i64 n) ∧ w' = w) := fun w => by
    go_enter Tryd.func42, Tryd.ntmps42
    go_wp2_with fail
    refine (HI.out _).mono ?_
    rintro e w1 ⟨rfl, rfl⟩
    go_wp2_with fail
    go_ret
    exact ⟨rfl, rfl⟩
  go_enter Tryd.func28, Tryd.ntmps28
  go_wp2_with fail
  refine (HJ.out _).mono ?_
  rintro e w1 ⟨rfl, rfl⟩
  go_wp2_with fail
  go_ret
  exact ⟨rfl, rfl⟩
theorem index_star (l : List UInt8) (w : World) :
    Calls Tryd.prog 42 #[.string (bs l), .string (bs [42])] w fun e w' => e = .returned (.int .i64 (Lib.indexByte l 42)) ∧ w' = w := by
  have HI : Hid (∀ w : World, Calls Tryd.prog 54 #[.string (bs l), .string (bs [42])] w fun e w' => e = .returned (.int .i64 (Lib.indexByte l 42)) ∧ w' = w) := fun w => star_index l w
  go_enter Tryd.func42, Tryd.ntmps42
  go_wp2_with fail
  refine (HI.out _).mono ?_
  rintro e w1 ⟨rfl, rfl⟩
  go_wp2_with fail
  go_ret
  exact ⟨rfl, rfl⟩
set_option maxHeartbeats 1000000 in
theorem dir_any (l : List UInt8) (w : World) (hl : l.length ≤ 9223372036854775807) :
    Calls Tryd.prog 25 #[.string (bs l)] w fun e w' => e = .returned (.string (bs (dir l))) ∧ w' = w := by
  have HL : Hid (l.length ≤ 9223372036854775807) := hl
  clear hl
  have hz : (bs l).size = l.length := rfl
  have h2 := lst_lt l
  by_cases h : lst l < 0
  · have hd0 : dir l = [] := by simp [dir, h]
    rw [hd0]
    go_enter Tryd.func25, Tryd.ntmps25
    go_wp2_with fail
    refine (last_any _ _ HL.out).mono ?_
    rintro e w1 ⟨rfl, rfl⟩
    go_wp2_with fail
    go_ret
    exact ⟨rfl, rfl⟩
  · obtain ⟨n, hn⟩ : ∃ n : Nat, lst l = n := ⟨(lst l).toNat, by omega⟩
    have hd0 : dir l = l.take n := by unfold dir; rw [if_neg h, hn]; rfl
    rw [hd0]
    have HE : Hid ((bs l).extract 0 n = bs (l.take n)) := extract_to l n
    rw [hn] at h h2
    go_enter Tryd.func25, Tryd.ntmps25
    go_wp2_with fail
    refine (last_any _ _ HL.out).mono ?_
    rintro e w1 ⟨rfl, rfl⟩
    rw [hn]
    have h3 : n < l.length := by omega
    go_wp2_with fail
    go_ret
    exact ⟨by rw [← HE.out]; rfl, rfl⟩end Go.Proofs.YtebidnepanogcaaDoor
