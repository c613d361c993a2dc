import Derived.Test.YtfdcfcalbongeaaGreatRows
import Derived.Test.YtfdcfcalbongeaaGreatPure
import Derived.WalkKit
import Derived.WalkSpells
import Derived.WalkLawsBesides
import Derived.Lib.Bytealg
import Derived.Lib.Walk
import Derived.Deep.QuietTactic
import Derived.BigQuiet
import Derived.Deep.RegionWith
namespace Go.Proofs.YtfdcfcalbongeaaGreat
open Go.RowKit

/-- a text of these bytes -/
def bs (l : List UInt8) : ByteArray := ⟨l.toArray⟩
theorem bs_data (l : List UInt8) : (bs l).data.toList = l := rfl
theorem bs_size (l : List UInt8) : (bs l).size = l.length := rfl
theorem bs_of (s : ByteArray) : bs s.data.toList = s := rfl
theorem bs_toList (l : List UInt8) : (bs l).toList = l := by rw [Lib.toList_data]; rfl
theorem bs_inj {a b : List UInt8} : bs a = bs b ↔ a = b := ⟨fun h => by have := congrArg (fun s => s.data.toList) h; exact this, fun h => by rw [h]⟩
theorem bs_extract (l : List UInt8) (a b : Nat) : (bs l).extract a b = bs ((l.drop a).take (b - a)) := Lib.extract_eq (bs l) a b

set_option maxHeartbeats 1000000 in
set_option maxRecDepth 100000 in
theorem compareString (a b : List UInt8) (w : World) :
    Calls Tryz.prog 86 #[.string (bs a), .string (bs b)] w fun e w' => e = .returned (.int .i64 (Lib.compareBytes a b)) ∧ w' = w := by
  go_enter Tryz.func86, Tryz.ntmps86
  go_wp2
  rw [run_callFunc_extern Tryz.func94 (by kernel_rfl) (by kernel_rfl) (by kernel_rfl) (e := Extern.BytealgCompare.compare) (by kernel_rfl), Lib.run_compareString]
  simp only [Result.andThen]
  rw [Oper.upon_value]
  go_wp2
  go_ret
  exact ⟨rfl, rfl⟩

set_option maxRecDepth 100000 in
set_option maxHeartbeats 1000000 in
theorem compare_any (a b : List UInt8) (w : World) :
    Calls Tryz.prog 71 #[.string (bs a), .string (bs b)] w fun e w' => e = .returned (.int .i64 (Lib.compareBytes a b)) ∧ w' = w := by
  go_enter Tryz.func71, Tryz.ntmps71
  go_wp2_with fail
  refine (compareString _ _ _).mono ?_
  rintro e w1 ⟨rfl, rfl⟩
  go_wp2_with fail
  go_ret
  exact ⟨rfl, rfl⟩

set_option maxHeartbeats 1000000 in
set_option maxRecDepth 100000 in
theorem indexByte_any (l : List UInt8) (w : World) :
    Calls Tryz.prog 99 #[.string (bs l), .int .u8 47] w fun e w' => e = .returned (.int .i64 (Lib.indexByte l 47)) ∧ w' = w := by
  go_enter Tryz.func99, Tryz.ntmps99
  go_wp2
  rw [run_callFunc_extern Tryz.func103 (by kernel_rfl) (by kernel_rfl) (by kernel_rfl) (e := Extern.BytealgIndexByte.indexByte) (by kernel_rfl), Lib.run_indexByteString]
  simp only [Result.andThen]
  rw [Oper.upon_value]
  go_wp2
  go_ret
  exact ⟨rfl, rfl⟩

set_option maxHeartbeats 2000000 in
set_option maxRecDepth 100000 in
theorem index_any (l : List UInt8) (w : World) :
    Calls Tryz.prog 98 #[.string (bs l), .string (bs [47])] w fun e w' => e = .returned (.int .i64 (Lib.indexByte l 47)) ∧ w' = w := by
  have hz : (bs [47]).size = 1 := rfl
  by_cases hl : l = [47]
  · subst hl
    have he : ((bs [47]).toList == (bs [47]).toList) = true := by simp
    go_enter Tryz.func98, Tryz.ntmps98
    go_wp2_with fail
    go_ret
    exact ⟨rfl, rfl⟩
  · have he : ((bs [47]).toList == (bs l).toList) = false := by rw [bs_toList, bs_toList, beq_eq_false_iff_ne]; exact fun e => hl e.symm
    go_enter Tryz.func98, Tryz.ntmps98
    go_wp2_with fail
    refine (indexByte_any _ _).mono ?_
    rintro e w1 ⟨rfl, rfl⟩
    go_wp2_with fail
    go_ret
    exact ⟨rfl, rfl⟩

theorem extract_hd (l : List UInt8) : (bs l).extract 0 (hd l).length = bs (hd l) := by
  rw [bs_extract]; congr 1; simp [← hd_take l]
theorem extract_tl (l : List UInt8) (h : sl l = true) : (bs l).extract ((hd l).length + 1) (bs l).size = bs (tl l) := by
  rw [bs_extract, ← tl_drop l h]; congr 1
  rw [bs_size]; have := hd_len l h; exact List.take_of_length_le (by omega)

set_option maxHeartbeats 2000000 in
set_option maxRecDepth 100000 in
theorem cut0_any (l : List UInt8) (w : World) (hm : l.length ≤ 9223372036854775807) :
    Calls Tryz.prog 93 #[.string (bs l), .string (bs [47])] w fun e w' => e = .returned (.tuple #[.string (bs (hd l)), .string (bs (tl l)), .bool (sl l)]) ∧ ∃ n, w' = w.drewN n := by
  have hz : (bs [47]).size = 1 := rfl
  have hx := indexByte_eq l
  cases h : sl l
  · rw [h] at hx
    simp only [Bool.false_eq_true, if_false] at hx
    rw [hd_all l h, tl_none l h]
    go_enter Tryz.func93, Tryz.ntmps93
    go_wp2_with fail
    refine (index_any _ _).mono ?_
    rintro e w1 ⟨rfl, rfl⟩
    rw [hx]
    go_wp2_with fail
    go_ret3
    exact ⟨rfl, 0, rfl⟩
  · rw [h] at hx
    simp only [if_true] at hx
    have hlen := hd_len l h
    have hsz : (bs l).size = l.length := rfl
    obtain ⟨n, hn⟩ : ∃ n, (hd l).length = n := ⟨_, rfl⟩
    have e1 := extract_hd l
    have e2 := extract_tl l h
    rw [hn] at e1 e2 hx hlen
    rw [hsz] at e2
    have E1 : Hid ((bs l).extract 0 n = bs (hd l)) := e1
    have E2 : Hid ((bs l).extract (n + 1) l.length = bs (tl l)) := e2
    clear e1 e2
    have c1 : (0 : Int) ≤ ↑n := by omega
    have c2 : (n : Int) ≤ (l.length : Int) := by omega
    have c3 : (0 : Int) ≤ ↑n + 1 := by omega
    have c4 : (n : Int) + 1 ≤ (l.length : Int) := by omega
    go_enter Tryz.func93, Tryz.ntmps93
    go_wp2_with fail
    refine (index_any _ _).mono ?_
    rintro e w1 ⟨rfl, rfl⟩
    rw [hx]
    go_wp2_with fail
    go_region
    go_wp2_with fail
    go_ret3
    refine ⟨?_, 1, rfl⟩
    rw [← E1.out, ← E2.out]; rfl

set_option maxRecDepth 100000 in
set_option maxHeartbeats 1000000 in
theorem cut_any (l : List UInt8) (w : World) (hm : l.length ≤ 9223372036854775807) :
    Calls Tryz.prog 85 #[.string (bs l), .string (bs [47])] w fun e w' => e = .returned (.tuple #[.string (bs (hd l)), .string (bs (tl l)), .bool (sl l)]) ∧ ∃ n, w' = w.drewN n := by
  have HM : Hid (l.length ≤ 9223372036854775807) := hm
  clear hm
  go_enter Tryz.func85, Tryz.ntmps85
  go_wp2_with fail
  refine (cut0_any _ _ HM.out).mono ?_
  rintro e w1 ⟨rfl, n, rfl⟩
  go_wp2_with fail
  go_ret3
  exact ⟨rfl, n, rfl⟩

theorem bs_get (l : List UInt8) (i : Nat) (h : i < (bs l).size) (h' : i < l.length) : (bs l)[i]'h = l[i]'h' := rfl

set_option maxHeartbeats 1000000 in
set_option maxRecDepth 100000 in
theorem lastB_any (l : List UInt8) (w : World) (hm : l.length ≤ 9223372036854775807) :
    Calls Tryz.prog 78 #[.string (bs l), .int .u8 47] w fun e w' => e = .returned (.int .i64 (lst l)) ∧ w' = w := by
  have hz : (bs l).size = l.length := rfl
  go_enter Tryz.func78, Tryz.ntmps78
  go_wp2_with fail
  go_loop [5] (fun i => ∃ k : Nat, k ≤ l.length ∧ i = .int .i64 ((k : Int) - 1) ∧ ∀ j : Nat, k ≤ j → l[j]? ≠ some 47) (fun i => (intOf i + 1).toNat)
  case atStart => exact ⟨l.length, Nat.le_refl _, rfl, fun j hj => by rw [List.getElem?_eq_none hj]; simp⟩
  case round =>
    obtain ⟨k, hk, rfl, hno⟩ := hrel
    have HN : Hid (∀ j : Nat, k ≤ j → l[j]? ≠ some 47) := hno
    clear hno
    rcases k with _ | k
    · go_wp2_with fail
      go_ret
      exact ⟨by rw [lst_miss l (fun j => HN.out j (Nat.zero_le _))]; rfl, rfl⟩
    · have hkl : k < l.length := by omega
      by_cases hc : l[k]'hkl = 47
      · have hkz : k < (bs l).size := hkl
        have e1 : (((bs l)[k].toNat : Int) == 47) = true := by rw [bs_get _ _ _ hkl, hc]; rfl
        go_wp2_with fail
        go_ret
        exact ⟨by rw [lst_hit l k (by rw [List.getElem?_eq_getElem hkl, hc]) (fun j hj => HN.out j hj)]; rfl, rfl⟩
      · have hkz : k < (bs l).size := hkl
        have e1 : (((bs l)[k].toNat : Int) == 47) = false := by
          rw [bs_get _ _ _ hkl, beq_eq_false_iff_ne]; intro e; apply hc; apply UInt8.toNat_inj.1; exact Int.ofNat.inj e
        go_wp2_with fail
        go_round
        case rel =>
          refine ⟨k, by omega, rfl, fun j hj => ?_⟩
          by_cases hjk : j = k
          · subst hjk; rw [List.getElem?_eq_getElem hkl]; simpa using hc
          · exact HN.out j (by omega)
        case measure => simp only [intOf]; omega

set_option maxHeartbeats 1000000 in
set_option maxRecDepth 100000 in
theorem last_any (l : List UInt8) (w : World) (hm : l.length ≤ 9223372036854775807) :
    Calls Tryz.prog 58 #[.string (bs l), .string (bs [47])] w fun e w' => e = .returned (.int .i64 (lst l)) ∧ w' = w := by
  have hz : (bs [47]).size = 1 := rfl
  have HM : Hid (l.length ≤ 9223372036854775807) := hm
  clear hm
  go_enter Tryz.func58, Tryz.ntmps58
  go_wp2_with fail
  refine (lastB_any _ _ HM.out).mono ?_
  rintro e w1 ⟨rfl, rfl⟩
  go_wp2_with fail
  go_ret
  exact ⟨rfl, rfl⟩

set_option maxHeartbeats 1000000 in
set_option maxRecDepth 100000 in
theorem count_any (l : List UInt8) (w : World) :
    Calls Tryz.prog 88 #[.string (bs l), .string (bs [47])] w fun e w' => e = .returned (.int .i64 (l.count 47 : Nat)) ∧ w' = w := by
  go_enter Tryz.func88, Tryz.ntmps88
  go_wp2
  rw [run_callFunc_extern Tryz.func96 (by kernel_rfl) (by kernel_rfl) (by kernel_rfl) (e := Extern.BytealgCount.count) (by kernel_rfl), Lib.run_countString]
  simp only [Result.andThen]
  rw [Oper.upon_value]
  go_wp2
  go_ret
  exact ⟨rfl, rfl⟩

end Go.Proofs.YtfdcfcalbongeaaGreat
