/-
  See words: whom a text names.
  Who sees.
  DERIVED: THE SHELF's CONTRACTS AT THIS DUMP, IN PLAIN WORDS (tools/lay-plain.mjs out of 'TryzSmall.lean', which tools/lay-shelf.mjs wrote): THE SAME DECLARATIONS UNDER THE SAME NAMES: 'import', 'namespace', 'open', 'def', 'theorem' AND NOTHING ELSE: no command of the shelf's: FOR A HAND-IN. Each laying: the table of numbers ('.._ren') and one theorem, a field a fact of the dump's own or the kernel's comparison; each contract: ONE APPLICATION.
-/
import Derived.Test.YtemoplpfndnklaaGreatDoorJCmp
import Derived.Shelf.Strings.Builder1
import Derived.Shelf.Strings.OnBuilder
import Derived.Shelf.Strings.Replace
import Derived.Test.YtemoplpfndnklaaGreatDoorProg
namespace Go.Proofs.YtemoplpfndnklaaGreatDoor
open Go.RowKit

def Kd.val : Kd → Value
  | .nobody => .nilIface
  | .all => .iface 186 (.agg #[])
  | .one p => .iface 188 (.string (bs p))
  | .tree p => .iface 187 (.string (bs p))
theorem c_pub : (ByteArray.mk #[112, 117, 98, 108, 105, 99]).toList = pub := ByteArray.toList_mk pub
theorem c_adots : (ByteArray.mk #[47, 47, 46, 46, 46]).toList = adots := ByteArray.toList_mk adots
theorem c_sdots : (ByteArray.mk #[47, 47, 47, 46, 46, 46]).toList = 47 :: 47 :: dots := ByteArray.toList_mk (47 :: 47 :: dots)

set_option maxHeartbeats 1000000 in
theorem kind_any (s : List UInt8) (w : World) (hs : s.length ≤ 1125899906842624) : Calls Tryz.prog 138 #[.string (bs s)] w fun e w' => e = .returned (kin s).val ∧ w' = w := by
  have HP : Hid (∀ w : World, Calls Tryz.prog 126 #[.string (bs s), .string (bs [47, 47])] w fun e w' => e = .returned (.tuple #[.string (bs (if [47, 47].isPrefixOf s then s.drop 2 else s)), .bool ([47, 47].isPrefixOf s)]) ∧ w' = w) := fun w => cutPrefix_any s [47, 47] w (by omega) (by simp)
  have e0 := bs_toList s
  have e1 := c_pub
  have e2 := c_adots
  have e3 := c_sdots
  unfold kin
  by_cases h1 : s = pub
  · have h1' : (s == pub) = true := by simpa using h1
    rw [if_pos h1]
    clear h1
    go_enter Tryz.func138, Tryz.ntmps138
    go_wp2_with fail
    go_ret
    exact ⟨rfl, rfl⟩
  have h1' : (s == pub) = false := by simpa using h1
  rw [if_neg h1]
  clear h1
  by_cases h2 : s = adots
  · have h2' : (s == adots) = true := by simpa using h2
    rw [if_pos h2]
    clear h2
    go_enter Tryz.func138, Tryz.ntmps138
    go_wp2_with fail
    go_ret
    exact ⟨rfl, rfl⟩
  have h2' : (s == adots) = false := by simpa using h2
  rw [if_neg h2]
  clear h2
  by_cases h3 : s = 47 :: 47 :: dots
  · have h3' : (s == 47 :: 47 :: dots) = true := by simpa using h3
    rw [if_pos h3]
    clear h3
    go_enter Tryz.func138, Tryz.ntmps138
    go_wp2_with fail
    go_ret
    exact ⟨rfl, rfl⟩
  have h3' : (s == 47 :: 47 :: dots) = false := by simpa using h3
  rw [if_neg h3]
  clear h3
  cases hp : List.isPrefixOf [47, 47] s
  · rw [hp] at HP
    simp only [Bool.false_eq_true, if_false] at HP ⊢
    clear hs
    go_enter Tryz.func138, Tryz.ntmps138
    go_wp2_with fail
    refine (HP.out _).mono ?_
    rintro e w1 ⟨rfl, rfl⟩
    go_wp2_with fail
    go_ret
    exact ⟨rfl, rfl⟩
  rw [hp] at HP
  simp only [if_true] at HP ⊢
  obtain ⟨r, hr⟩ : ∃ r, s.drop 2 = r := ⟨_, rfl⟩
  have hrl : r.length ≤ 1125899906842624 := by rw [← hr]; simp; omega
  rw [hr] at HP ⊢
  have HS : Hid (∀ w : World, Calls Tryz.prog 143 #[.string (bs r), .string (bs dots)] w fun e w' => e = .returned (.tuple #[.string (bs (if dots.isSuffixOf r then r.take (r.length - 4) else r)), .bool (dots.isSuffixOf r)]) ∧ w' = w) := fun w => cutSuffix_any r dots w (by omega) (by simp [dots])
  clear hs hrl hr hp
  cases hq : List.isSuffixOf dots r
  · rw [hq] at HS
    simp only [Bool.false_eq_true, if_false] at HS ⊢
    clear hq
    go_enter Tryz.func138, Tryz.ntmps138
    go_wp2_with fail
    refine (HP.out _).mono ?_
    rintro e w1 ⟨rfl, rfl⟩
    go_wp2_with fail
    refine (HS.out _).mono ?_
    rintro e w1 ⟨rfl, rfl⟩
    go_wp2_with fail
    go_ret
    exact ⟨rfl, rfl⟩
  · rw [hq] at HS
    simp only [if_true] at HS ⊢
    clear hq
    generalize r.take (r.length - 4) = t at *
    go_enter Tryz.func138, Tryz.ntmps138
    go_wp2_with fail
    refine (HP.out _).mono ?_
    rintro e w1 ⟨rfl, rfl⟩
    go_wp2_with fail
    refine (HS.out _).mono ?_
    rintro e w1 ⟨rfl, rfl⟩
    go_wp2_with fail
    go_ret
    exact ⟨rfl, rfl⟩

set_option maxHeartbeats 1000000 in
theorem top65_any (w : World) : Calls Tryz.prog 180 #[.agg #[]] w fun e w' => e = .returned (.string (bs [])) ∧ Below w.heap.size w w' := by
  go_enter Tryz.func180, Tryz.ntmps180
  go_wp2_with fail
  go_ret
  exact ⟨rfl, balloc _ _⟩
theorem top66_any (p : List UInt8) (w : World) : Calls Tryz.prog 182 #[.string (bs p)] w fun e w' => e = .returned (.string (bs p)) ∧ w' = w := by
  go_enter Tryz.func182, Tryz.ntmps182
  go_wp2_with fail
  go_ret
  exact ⟨rfl, rfl⟩
theorem top67_any (p : List UInt8) (w : World) : Calls Tryz.prog 181 #[.string (bs p)] w fun e w' => e = .returned (.string (bs p)) ∧ w' = w := by
  go_enter Tryz.func181, Tryz.ntmps181
  go_wp2_with fail
  go_ret
  exact ⟨rfl, rfl⟩

theorem nn65 (w : World) : (binOp .eql 177 (.iface 186 (.agg #[])) .nilIface).run Tryz.prog w = .ok (.bool false) w := by kernel_rfl
theorem nn66 (w : World) (v : ByteArray) : (binOp .eql 177 (.iface 188 (.string v)) .nilIface).run Tryz.prog w = .ok (.bool false) w := by kernel_rfl
theorem nn67 (w : World) (v : ByteArray) : (binOp .eql 177 (.iface 187 (.string v)) .nilIface).run Tryz.prog w = .ok (.bool false) w := by kernel_rfl
theorem nq65 (w : World) : (binOp .neq 177 (.iface 186 (.agg #[])) .nilIface).run Tryz.prog w = .ok (.bool true) w := by kernel_rfl
theorem nq66 (w : World) (v : ByteArray) : (binOp .neq 177 (.iface 188 (.string v)) .nilIface).run Tryz.prog w = .ok (.bool true) w := by kernel_rfl
theorem nq67 (w : World) (v : ByteArray) : (binOp .neq 177 (.iface 187 (.string v)) .nilIface).run Tryz.prog w = .ok (.bool true) w := by kernel_rfl

theorem meth186 (v : Value) (w : World) : (Go.method 177 186 v "copse/label.top").run Tryz.prog w = .ok (180, v) w := by kernel_rfl
theorem meth187 (v : Value) (w : World) : (Go.method 177 187 v "copse/label.top").run Tryz.prog w = .ok (181, v) w := by kernel_rfl
theorem meth188 (v : Value) (w : World) : (Go.method 177 188 v "copse/label.top").run Tryz.prog w = .ok (182, v) w := by kernel_rfl
set_option maxRecDepth 20000 in
set_option maxHeartbeats 4000000 in
theorem read_any (s : List UInt8) (w : World) (hs : s.length ≤ 1125899906842624) : Calls Tryz.prog 129 #[.string (bs s)] w fun e w' => e = .returned (rdk s).val ∧ Below w.heap.size w w' := by
  have HK : Hid (∀ w : World, Calls Tryz.prog 138 #[.string (bs s)] w fun e w' => e = .returned (kin s).val ∧ w' = w) := fun w => kind_any s w hs
  have hk : (kin s).top.length ≤ s.length := by
    unfold kin
    split
    · simp [Kd.top]
    split
    · simp [Kd.top]
    split
    · simp [Kd.top]
    split
    · split
      · simp [Kd.top]; omega
      · simp [Kd.top]
    · simp [Kd.top]
  have HV : Hid (∀ w : World, Calls Tryz.prog 19 #[.string (bs (kin s).top)] w fun e w' => e = .returned (.bool (okP (kin s).top)) ∧ Below w.heap.size w w') := fun w => valid_any _ w (by omega)
  unfold rdk
  generalize kin s = k at *
  clear hk hs
  have m65 := nn65
  have m66 := nn66
  have m67 := nn67
  have me1 := meth186
  have me2 := meth187
  have me3 := meth188
  cases k with
  | nobody =>
    simp only [Kd.val, Kd.top, okP_nil, if_true] at *
    go_enter Tryz.func129, Tryz.ntmps129
    go_wp2_with fail
    refine (HK.out _).mono ?_
    rintro e w1 ⟨rfl, rfl⟩
    go_wp2_with fail
    go_ret
    exact ⟨rfl, Below.refl _ _⟩
  | all =>
    simp only [Kd.val, Kd.top, okP_nil, if_true] at *
    go_enter Tryz.func129, Tryz.ntmps129
    go_wp2_with fail
    refine (HK.out _).mono ?_
    rintro e w1 ⟨rfl, rfl⟩
    go_wp2_with fail
    refine (top65_any _).mono ?_
    rintro e w2 ⟨rfl, hb2⟩
    have HB2 : Hid (Below w1.heap.size w1 w2) := hb2
    clear hb2
    go_wp2_with fail
    refine (HV.out _).mono ?_
    rintro e w3 ⟨rfl, hb3⟩
    have HB3 : Hid (Below w1.heap.size w1 w3) := bstep HB2.out hb3
    clear hb3
    go_wp2_with fail
    go_ret
    exact ⟨rfl, HB3.out⟩
  | one p =>
    by_cases hp : okP (Kd.one p).top = true
    rotate_left
    · rw [if_neg hp]
      have hp' : okP (Kd.one p).top = false := by simpa using hp
      rw [hp'] at HV
      clear hp hp'
      simp only [Kd.val, Kd.top] at *
      go_enter Tryz.func129, Tryz.ntmps129
      go_wp2_with fail
      refine (HK.out _).mono ?_
      rintro e w1 ⟨rfl, rfl⟩
      go_wp2_with fail
      refine (top66_any _ _).mono ?_
      rintro e w2 ⟨rfl, rfl⟩
      go_wp2_with fail
      refine (HV.out _).mono ?_
      rintro e w3 ⟨rfl, hb3⟩
      have HB3 : Hid (Below w2.heap.size w2 w3) := hb3
      clear hb3
      go_wp2_with fail
      go_ret
      exact ⟨rfl, HB3.out⟩
    · rw [if_pos hp]
      rw [hp] at HV
      clear hp
      simp only [Kd.val, Kd.top] at *
      go_enter Tryz.func129, Tryz.ntmps129
      go_wp2_with fail
      refine (HK.out _).mono ?_
      rintro e w1 ⟨rfl, rfl⟩
      go_wp2_with fail
      refine (top66_any _ _).mono ?_
      rintro e w2 ⟨rfl, rfl⟩
      go_wp2_with fail
      refine (HV.out _).mono ?_
      rintro e w3 ⟨rfl, hb3⟩
      have HB3 : Hid (Below w2.heap.size w2 w3) := hb3
      clear hb3
      go_wp2_with fail
      go_ret
      exact ⟨rfl, HB3.out⟩
  | tree p =>
    by_cases hp : okP (Kd.tree p).top = true
    rotate_left
    · rw [if_neg hp]
      have hp' : okP (Kd.tree p).top = false := by simpa using hp
      rw [hp'] at HV
      clear hp hp'
      simp only [Kd.val, Kd.top] at *
      go_enter Tryz.func129, Tryz.ntmps129
      go_wp2_with fail
      refine (HK.out _).mono ?_
      rintro e w1 ⟨rfl, rfl⟩
      go_wp2_with fail
      refine (top67_any _ _).mono ?_
      rintro e w2 ⟨rfl, rfl⟩
      go_wp2_with fail
      refine (HV.out _).mono ?_
      rintro e w3 ⟨rfl, hb3⟩
      have HB3 : Hid (Below w2.heap.size w2 w3) := hb3
      clear hb3
      go_wp2_with fail
      go_ret
      exact ⟨rfl, HB3.out⟩
    · rw [if_pos hp]
      rw [hp] at HV
      clear hp
      simp only [Kd.val, Kd.top] at *
      go_enter Tryz.func129, Tryz.ntmps129
      go_wp2_with fail
      refine (HK.out _).mono ?_
      rintro e w1 ⟨rfl, rfl⟩
      go_wp2_with fail
      refine (top67_any _ _).mono ?_
      rintro e w2 ⟨rfl, rfl⟩
      go_wp2_with fail
      refine (HV.out _).mono ?_
      rintro e w3 ⟨rfl, hb3⟩
      have HB3 : Hid (Below w2.heap.size w2 w3) := hb3
      clear hb3
      go_wp2_with fail
      go_ret
      exact ⟨rfl, HB3.out⟩
end Go.Proofs.YtemoplpfndnklaaGreatDoor

namespace Go.Proofs.YtemoplpfndnklaaGreatDoor
open Go.RowKit


theorem beq_dec (a b : List UInt8) : (a == b) = decide (a = b) := by by_cases h : a = b <;> simp [h]
theorem kin_top (s : List UInt8) : (kin s).top.length ≤ s.length := by
  unfold kin
  split
  · simp [Kd.top]
  split
  · simp [Kd.top]
  split
  · simp [Kd.top]
  split
  · split
    · simp [Kd.top]; omega
    · simp [Kd.top]
  · simp [Kd.top]
theorem rdk_top (s : List UInt8) : (rdk s).top.length ≤ s.length := by
  unfold rdk
  split
  · exact kin_top s
  · simp [Kd.top]

set_option maxHeartbeats 1000000 in
theorem seer_any (s : List UInt8) (w : World) (hs : s.length ≤ 1125899906842624) : Calls Tryz.prog 111 #[.string (bs s)] w fun e w' => e = .returned (.bool (ser s)) ∧ Below w.heap.size w w' := by
  have HK : Hid (∀ w : World, Calls Tryz.prog 129 #[.string (bs s)] w fun e w' => e = .returned (rdk s).val ∧ Below w.heap.size w w') := fun w => read_any s w hs
  unfold ser
  generalize rdk s = k at *
  clear hs
  have m65 := nq65
  have m66 := nq66
  have m67 := nq67
  cases k with
  | nobody =>
    simp only [Kd.val, decide_true, Bool.not_true] at *
    go_enter Tryz.func111, Tryz.ntmps111
    go_wp2_with fail
    refine (HK.out _).mono ?_
    rintro e w1 ⟨rfl, hb1⟩
    have HB : Hid (Below w.heap.size w w1) := hb1
    clear hb1
    go_wp2_with fail
    go_ret
    exact ⟨rfl, HB.out⟩
  | all =>
    have hd : (!decide (Kd.all = Kd.nobody)) = true := by simp
    rw [hd]
    simp only [Kd.val] at *
    go_enter Tryz.func111, Tryz.ntmps111
    go_wp2_with fail
    refine (HK.out _).mono ?_
    rintro e w1 ⟨rfl, hb1⟩
    have HB : Hid (Below w.heap.size w w1) := hb1
    clear hb1
    go_wp2_with fail
    go_ret
    exact ⟨rfl, HB.out⟩
  | one p =>
    have hd : (!decide (Kd.one p = Kd.nobody)) = true := by simp
    rw [hd]
    simp only [Kd.val] at *
    go_enter Tryz.func111, Tryz.ntmps111
    go_wp2_with fail
    refine (HK.out _).mono ?_
    rintro e w1 ⟨rfl, hb1⟩
    have HB : Hid (Below w.heap.size w w1) := hb1
    clear hb1
    go_wp2_with fail
    go_ret
    exact ⟨rfl, HB.out⟩
  | tree p =>
    have hd : (!decide (Kd.tree p = Kd.nobody)) = true := by simp
    rw [hd]
    simp only [Kd.val] at *
    go_enter Tryz.func111, Tryz.ntmps111
    go_wp2_with fail
    refine (HK.out _).mono ?_
    rintro e w1 ⟨rfl, hb1⟩
    have HB : Hid (Below w.heap.size w w1) := hb1
    clear hb1
    go_wp2_with fail
    go_ret
    exact ⟨rfl, HB.out⟩

end Go.Proofs.YtemoplpfndnklaaGreatDoor

namespace Go.Proofs
open Go.Shelf
def Tryz.lays169_ren : Go.Shelf.Ren := ⟨fun | 169 => 45 | n => n, fun | 70 => 86 | 9 => 9 | 0 => 0 | 72 => 89 | 37 => 87 | 127 => 131 | 3 => 3 | 5 => 5 | n => n, fun | n => n⟩
theorem Tryz.lays169 : Go.Proofs.Lays.n169 Tryz.prog Tryz.lays169_ren := {
  mixed := by kernel_rfl
  f169 := Tryz.func45.trans (congrArg some (by kernel_rfl))
  t0 := Tryz.underlying0
  a0 := Tryz.isAgg0
  z0 := Tryz.sizeOf0
  v0 := Tryz.zeroValue0
  t3 := Tryz.underlying3
  a3 := Tryz.isAgg3
  z3 := Tryz.sizeOf3
  v3 := Tryz.zeroValue3
  t9 := Tryz.underlying9
  a9 := Tryz.isAgg9
  z9 := Tryz.sizeOf9
  v9 := Tryz.zeroValue9
  t37 := Tryz.underlying87
  a37 := Tryz.isAgg87
  z37 := Tryz.sizeOf87
  v37 := Tryz.zeroValue87
  t70 := Tryz.underlying86
  a70 := Tryz.isAgg86
  z70 := Tryz.sizeOf86
  v70 := Tryz.zeroValue86
  t72 := Tryz.underlying89
  a72 := Tryz.isAgg89
  z72 := Tryz.sizeOf89
  v72 := Tryz.zeroValue89
  t127 := Tryz.underlying131
  a127 := Tryz.isAgg131
  z127 := Tryz.sizeOf131
  v127 := Tryz.zeroValue131 }
theorem Tryz.Builder_Extra_169 : Builder.Extra Tryz.prog Tryz.lays169_ren := {
  sizeBuilder := by kernel_rfl
  liesBuilder := by kernel_rfl
  t5 := Tryz.underlying5
  a5 := Tryz.isAgg5
  z5 := Tryz.sizeOf5
  v5 := Tryz.zeroValue5
  infoByte := by kernel_rfl
  cellsByte := by kernel_rfl
  sizeByte := by kernel_rfl
  neB5 := by decide }
def Tryz.lays156_ren : Go.Shelf.Ren := ⟨fun | 156 => 73 | 165 => 99 | 166 => 42 | 169 => 45 | 240 => 72 | 241 => 112 | 276 => 98 | 277 => 130 | n => n, fun | 31 => 33 | 9 => 9 | 3 => 3 | 4 => 4 | 0 => 0 | 20 => 20 | 72 => 89 | 76 => 90 | 70 => 86 | 37 => 87 | 75 => 53 | 127 => 131 | 164 => 109 | 5 => 5 | 80 => 70 | n => n, fun | n => n⟩
theorem Tryz.lays156 : Go.Proofs.Lays.n156 Tryz.prog Tryz.lays156_ren := {
  mixed := by kernel_rfl
  f156 := Tryz.func73.trans (congrArg some (by kernel_rfl))
  f165 := Tryz.func99.trans (congrArg some (by kernel_rfl))
  f166 := Tryz.func42.trans (congrArg some (by kernel_rfl))
  f169 := Tryz.func45.trans (congrArg some (by kernel_rfl))
  f240 := Tryz.func72.trans (congrArg some (by kernel_rfl))
  f241 := Tryz.func112.trans (congrArg some (by kernel_rfl))
  f276 := Tryz.func98.trans (congrArg some (by kernel_rfl))
  f277 := Tryz.func130.trans (congrArg some (by kernel_rfl))
  t0 := Tryz.underlying0
  a0 := Tryz.isAgg0
  z0 := Tryz.sizeOf0
  v0 := Tryz.zeroValue0
  t3 := Tryz.underlying3
  a3 := Tryz.isAgg3
  z3 := Tryz.sizeOf3
  v3 := Tryz.zeroValue3
  t4 := Tryz.underlying4
  a4 := Tryz.isAgg4
  z4 := Tryz.sizeOf4
  v4 := Tryz.zeroValue4
  t9 := Tryz.underlying9
  a9 := Tryz.isAgg9
  z9 := Tryz.sizeOf9
  v9 := Tryz.zeroValue9
  t20 := Tryz.underlying20
  a20 := Tryz.isAgg20
  z20 := Tryz.sizeOf20
  v20 := Tryz.zeroValue20
  t31 := Tryz.underlying33
  a31 := Tryz.isAgg33
  z31 := Tryz.sizeOf33
  v31 := Tryz.zeroValue33
  t37 := Tryz.underlying87
  a37 := Tryz.isAgg87
  z37 := Tryz.sizeOf87
  v37 := Tryz.zeroValue87
  t70 := Tryz.underlying86
  a70 := Tryz.isAgg86
  z70 := Tryz.sizeOf86
  v70 := Tryz.zeroValue86
  t72 := Tryz.underlying89
  a72 := Tryz.isAgg89
  z72 := Tryz.sizeOf89
  v72 := Tryz.zeroValue89
  t75 := Tryz.underlying53
  a75 := Tryz.isAgg53
  z75 := Tryz.sizeOf53
  v75 := Tryz.zeroValue53
  t76 := Tryz.underlying90
  a76 := Tryz.isAgg90
  z76 := Tryz.sizeOf90
  v76 := Tryz.zeroValue90
  t127 := Tryz.underlying131
  a127 := Tryz.isAgg131
  z127 := Tryz.sizeOf131
  v127 := Tryz.zeroValue131
  t164 := Tryz.underlying109
  a164 := Tryz.isAgg109
  z164 := Tryz.sizeOf109
  v164 := Tryz.zeroValue109 }
theorem Tryz.Builder_Extra_156 : Builder.Extra Tryz.prog Tryz.lays156_ren := {
  sizeBuilder := by kernel_rfl
  liesBuilder := by kernel_rfl
  t5 := Tryz.underlying5
  a5 := Tryz.isAgg5
  z5 := Tryz.sizeOf5
  v5 := Tryz.zeroValue5
  infoByte := by kernel_rfl
  cellsByte := by kernel_rfl
  sizeByte := by kernel_rfl
  neB5 := by decide }
def Tryz.lays154_ren : Go.Shelf.Ren := ⟨fun | 154 => 124 | 138 => 58 | 165 => 99 | 143 => 80 | 166 => 42 | 197 => 135 | 169 => 45 | 195 => 78 | 218 => 79 | 240 => 72 | 241 => 112 | 219 => 103 | 260 => 141 | 276 => 98 | 277 => 130 | 217 => 104 | 225 => 117 | 224 => 118 | 267 => 119 | 266 => 120 | 314 => 133 | n => n, fun | 9 => 9 | 3 => 3 | 4 => 4 | 72 => 89 | 0 => 0 | 76 => 90 | 105 => 183 | 21 => 21 | 5 => 5 | 70 => 86 | 20 => 20 | 37 => 87 | 75 => 53 | 127 => 131 | 164 => 109 | 46 => 169 | 119 => 189 | 139 => 192 | 138 => 191 | 146 => 181 | 51 => 180 | 80 => 70 | n => n, fun | 1 => 1 | 3 => 2 | 4 => 3 | n => n⟩
theorem Tryz.lays154 : Go.Proofs.Lays.n154 Tryz.prog Tryz.lays154_ren := {
  mixed := by kernel_rfl
  f138 := Tryz.func58.trans (congrArg some (by kernel_rfl))
  f143 := Tryz.func80.trans (congrArg some (by kernel_rfl))
  f154 := Tryz.func124.trans (congrArg some (by kernel_rfl))
  f165 := Tryz.func99.trans (congrArg some (by kernel_rfl))
  f166 := Tryz.func42.trans (congrArg some (by kernel_rfl))
  f169 := Tryz.func45.trans (congrArg some (by kernel_rfl))
  f195 := Tryz.func78.trans (congrArg some (by kernel_rfl))
  f197 := Tryz.func135.trans (congrArg some (by kernel_rfl))
  f217 := Tryz.func104.trans (congrArg some (by kernel_rfl))
  f218 := Tryz.func79.trans (congrArg some (by kernel_rfl))
  f219 := Tryz.func103.trans (congrArg some (by kernel_rfl))
  f224 := Tryz.func118.trans (congrArg some (by kernel_rfl))
  f225 := Tryz.func117.trans (congrArg some (by kernel_rfl))
  f240 := Tryz.func72.trans (congrArg some (by kernel_rfl))
  f241 := Tryz.func112.trans (congrArg some (by kernel_rfl))
  f260 := Tryz.func141.trans (congrArg some (by kernel_rfl))
  f266 := Tryz.func120.trans (congrArg some (by kernel_rfl))
  f267 := Tryz.func119.trans (congrArg some (by kernel_rfl))
  f276 := Tryz.func98.trans (congrArg some (by kernel_rfl))
  f277 := Tryz.func130.trans (congrArg some (by kernel_rfl))
  f314 := Tryz.func133.trans (congrArg some (by kernel_rfl))
  t0 := Tryz.underlying0
  a0 := Tryz.isAgg0
  z0 := Tryz.sizeOf0
  v0 := Tryz.zeroValue0
  t3 := Tryz.underlying3
  a3 := Tryz.isAgg3
  z3 := Tryz.sizeOf3
  v3 := Tryz.zeroValue3
  t4 := Tryz.underlying4
  a4 := Tryz.isAgg4
  z4 := Tryz.sizeOf4
  v4 := Tryz.zeroValue4
  t5 := Tryz.underlying5
  a5 := Tryz.isAgg5
  z5 := Tryz.sizeOf5
  v5 := Tryz.zeroValue5
  t9 := Tryz.underlying9
  a9 := Tryz.isAgg9
  z9 := Tryz.sizeOf9
  v9 := Tryz.zeroValue9
  t20 := Tryz.underlying20
  a20 := Tryz.isAgg20
  z20 := Tryz.sizeOf20
  v20 := Tryz.zeroValue20
  t21 := Tryz.underlying21
  a21 := Tryz.isAgg21
  z21 := Tryz.sizeOf21
  v21 := Tryz.zeroValue21
  t37 := Tryz.underlying87
  a37 := Tryz.isAgg87
  z37 := Tryz.sizeOf87
  v37 := Tryz.zeroValue87
  t46 := Tryz.underlying169
  a46 := Tryz.isAgg169
  z46 := Tryz.sizeOf169
  v46 := Tryz.zeroValue169
  t51 := Tryz.underlying180
  a51 := Tryz.isAgg180
  z51 := Tryz.sizeOf180
  v51 := Tryz.zeroValue180
  t70 := Tryz.underlying86
  a70 := Tryz.isAgg86
  z70 := Tryz.sizeOf86
  v70 := Tryz.zeroValue86
  t72 := Tryz.underlying89
  a72 := Tryz.isAgg89
  z72 := Tryz.sizeOf89
  v72 := Tryz.zeroValue89
  t75 := Tryz.underlying53
  a75 := Tryz.isAgg53
  z75 := Tryz.sizeOf53
  v75 := Tryz.zeroValue53
  t76 := Tryz.underlying90
  a76 := Tryz.isAgg90
  z76 := Tryz.sizeOf90
  v76 := Tryz.zeroValue90
  t105 := Tryz.underlying183
  a105 := Tryz.isAgg183
  z105 := Tryz.sizeOf183
  v105 := Tryz.zeroValue183
  t119 := Tryz.underlying189
  a119 := Tryz.isAgg189
  z119 := Tryz.sizeOf189
  t127 := Tryz.underlying131
  a127 := Tryz.isAgg131
  z127 := Tryz.sizeOf131
  v127 := Tryz.zeroValue131
  t138 := Tryz.underlying191
  a138 := Tryz.isAgg191
  z138 := Tryz.sizeOf191
  v138 := Tryz.zeroValue191
  t139 := Tryz.underlying192
  a139 := Tryz.isAgg192
  z139 := Tryz.sizeOf192
  v139 := Tryz.zeroValue192
  t146 := Tryz.underlying181
  a146 := Tryz.isAgg181
  z146 := Tryz.sizeOf181
  v146 := Tryz.zeroValue181
  t164 := Tryz.underlying109
  a164 := Tryz.isAgg109
  z164 := Tryz.sizeOf109
  v164 := Tryz.zeroValue109
  g1 := by kernel_rfl
  g3 := by kernel_rfl
  g4 := by kernel_rfl }
theorem Tryz.Builder_Extra_154 : Builder.Extra Tryz.prog Tryz.lays154_ren := {
  sizeBuilder := by kernel_rfl
  liesBuilder := by kernel_rfl
  t5 := Tryz.underlying5
  a5 := Tryz.isAgg5
  z5 := Tryz.sizeOf5
  v5 := Tryz.zeroValue5
  infoByte := by kernel_rfl
  cellsByte := by kernel_rfl
  sizeByte := by kernel_rfl
  neB5 := by decide }
end Go.Proofs
