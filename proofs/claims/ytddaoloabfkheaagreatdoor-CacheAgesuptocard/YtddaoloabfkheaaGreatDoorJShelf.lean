/-
  See words: whom a text names.
  Who sees.
  DERIVED: THE SHELF's CONTRACTS AT THIS DUMP, IN PLAIN WORDS (tools/lay-plain.mjs out of 'TryzSmall.lean', which tools/lay-shelf.mjs wrote): THE SAME DECLARATIONS UNDER THE SAME NAMES: 'import', 'namespace', 'open', 'def', 'theorem' AND NOTHING ELSE: no command of the shelf's: FOR A HAND-IN. Each laying: the table of numbers ('.._ren') and one theorem, a field a fact of the dump's own or the kernel's comparison; each contract: ONE APPLICATION.
-/
import Derived.Test.YtddaoloabfkheaaGreatDoorPkg
import Derived.Shelf.Strings.Builder1
import Derived.Shelf.Strings.OnBuilder
import Derived.Shelf.Strings.Replace
import Derived.Test.YtddaoloabfkheaaGreatDoorProg
namespace Go.Proofs.YtddaoloabfkheaaGreatDoor
open Go.RowKit

def Kd.val : Kd → Value
  | .nobody => .nilIface
  | .all => .iface 243 (.agg #[])
  | .one p => .iface 245 (.string (bs p))
  | .tree p => .iface 244 (.string (bs p))
theorem c_pub : (ByteArray.mk #[112, 117, 98, 108, 105, 99]).toList = pub := ByteArray.toList_mk pub
theorem c_adots : (ByteArray.mk #[47, 47, 46, 46, 46]).toList = adots := ByteArray.toList_mk adots
theorem c_sdots : (ByteArray.mk #[47, 47, 47, 46, 46, 46]).toList = 47 :: 47 :: dots := ByteArray.toList_mk (47 :: 47 :: dots)

set_option maxRecDepth 100000 in
set_option maxHeartbeats 1000000 in
theorem kind_any (s : List UInt8) (w : World) (hs : s.length ≤ 1125899906842624) : Calls Tryz.prog 178 #[.string (bs s)] w fun e w' => e = .returned (kin s).val ∧ w' = w := by
  have HP : Hid (∀ w : World, Calls Tryz.prog 168 #[.string (bs s), .string (bs [47, 47])] w fun e w' => e = .returned (.tuple #[.string (bs (if [47, 47].isPrefixOf s then s.drop 2 else s)), .bool ([47, 47].isPrefixOf s)]) ∧ w' = w) := fun w => cutPrefix_any s [47, 47] w (by omega) (by simp)
  have e0 := bs_toList s
  have e1 := c_pub
  have e2 := c_adots
  have e3 := c_sdots
  unfold kin
  by_cases h1 : s = pub
  · have h1' : (s == pub) = true := by simpa using h1
    rw [if_pos h1]
    clear h1
    go_enter Tryz.func178, Tryz.ntmps178
    go_wp2_with fail
    go_ret
    exact ⟨rfl, rfl⟩
  have h1' : (s == pub) = false := by simpa using h1
  rw [if_neg h1]
  clear h1
  by_cases h2 : s = adots
  · have h2' : (s == adots) = true := by simpa using h2
    rw [if_pos h2]
    clear h2
    go_enter Tryz.func178, Tryz.ntmps178
    go_wp2_with fail
    go_ret
    exact ⟨rfl, rfl⟩
  have h2' : (s == adots) = false := by simpa using h2
  rw [if_neg h2]
  clear h2
  by_cases h3 : s = 47 :: 47 :: dots
  · have h3' : (s == 47 :: 47 :: dots) = true := by simpa using h3
    rw [if_pos h3]
    clear h3
    go_enter Tryz.func178, Tryz.ntmps178
    go_wp2_with fail
    go_ret
    exact ⟨rfl, rfl⟩
  have h3' : (s == 47 :: 47 :: dots) = false := by simpa using h3
  rw [if_neg h3]
  clear h3
  cases hp : List.isPrefixOf [47, 47] s
  · rw [hp] at HP
    simp only [Bool.false_eq_true, if_false] at HP ⊢
    clear hs
    go_enter Tryz.func178, Tryz.ntmps178
    go_wp2_with fail
    refine (HP.out _).mono ?_
    rintro e w1 ⟨rfl, rfl⟩
    go_wp2_with fail
    go_ret
    exact ⟨rfl, rfl⟩
  rw [hp] at HP
  simp only [if_true] at HP ⊢
  obtain ⟨r, hr⟩ : ∃ r, s.drop 2 = r := ⟨_, rfl⟩
  have hrl : r.length ≤ 1125899906842624 := by rw [← hr]; simp; omega
  rw [hr] at HP ⊢
  have HS : Hid (∀ w : World, Calls Tryz.prog 183 #[.string (bs r), .string (bs dots)] w fun e w' => e = .returned (.tuple #[.string (bs (if dots.isSuffixOf r then r.take (r.length - 4) else r)), .bool (dots.isSuffixOf r)]) ∧ w' = w) := fun w => cutSuffix_any r dots w (by omega) (by simp [dots])
  clear hs hrl hr hp
  cases hq : List.isSuffixOf dots r
  · rw [hq] at HS
    simp only [Bool.false_eq_true, if_false] at HS ⊢
    clear hq
    go_enter Tryz.func178, Tryz.ntmps178
    go_wp2_with fail
    refine (HP.out _).mono ?_
    rintro e w1 ⟨rfl, rfl⟩
    go_wp2_with fail
    refine (HS.out _).mono ?_
    rintro e w1 ⟨rfl, rfl⟩
    go_wp2_with fail
    go_ret
    exact ⟨rfl, rfl⟩
  · rw [hq] at HS
    simp only [if_true] at HS ⊢
    clear hq
    generalize r.take (r.length - 4) = t at *
    go_enter Tryz.func178, Tryz.ntmps178
    go_wp2_with fail
    refine (HP.out _).mono ?_
    rintro e w1 ⟨rfl, rfl⟩
    go_wp2_with fail
    refine (HS.out _).mono ?_
    rintro e w1 ⟨rfl, rfl⟩
    go_wp2_with fail
    go_ret
    exact ⟨rfl, rfl⟩

set_option maxRecDepth 100000 in
set_option maxHeartbeats 1000000 in
theorem top65_any (w : World) : Calls Tryz.prog 221 #[.agg #[]] w fun e w' => e = .returned (.string (bs [])) ∧ Below w.heap.size w w' := by
  go_enter Tryz.func221, Tryz.ntmps221
  go_wp2_with fail
  go_ret
  exact ⟨rfl, balloc _ _⟩
set_option maxRecDepth 100000 in
theorem top66_any (p : List UInt8) (w : World) : Calls Tryz.prog 223 #[.string (bs p)] w fun e w' => e = .returned (.string (bs p)) ∧ w' = w := by
  go_enter Tryz.func223, Tryz.ntmps223
  go_wp2_with fail
  go_ret
  exact ⟨rfl, rfl⟩
set_option maxRecDepth 100000 in
theorem top67_any (p : List UInt8) (w : World) : Calls Tryz.prog 222 #[.string (bs p)] w fun e w' => e = .returned (.string (bs p)) ∧ w' = w := by
  go_enter Tryz.func222, Tryz.ntmps222
  go_wp2_with fail
  go_ret
  exact ⟨rfl, rfl⟩

theorem nn65 (w : World) : (binOp .eql 232 (.iface 243 (.agg #[])) .nilIface).run Tryz.prog w = .ok (.bool false) w := by kernel_rfl
theorem nn66 (w : World) (v : ByteArray) : (binOp .eql 232 (.iface 245 (.string v)) .nilIface).run Tryz.prog w = .ok (.bool false) w := by kernel_rfl
theorem nn67 (w : World) (v : ByteArray) : (binOp .eql 232 (.iface 244 (.string v)) .nilIface).run Tryz.prog w = .ok (.bool false) w := by kernel_rfl
theorem nq65 (w : World) : (binOp .neq 232 (.iface 243 (.agg #[])) .nilIface).run Tryz.prog w = .ok (.bool true) w := by kernel_rfl
theorem nq66 (w : World) (v : ByteArray) : (binOp .neq 232 (.iface 245 (.string v)) .nilIface).run Tryz.prog w = .ok (.bool true) w := by kernel_rfl
theorem nq67 (w : World) (v : ByteArray) : (binOp .neq 232 (.iface 244 (.string v)) .nilIface).run Tryz.prog w = .ok (.bool true) w := by kernel_rfl

theorem meth186 (v : Value) (w : World) : (Go.method 378 243 v "copse/label.top").run Tryz.prog w = .ok (221, v) w := by kernel_rfl
theorem meth187 (v : Value) (w : World) : (Go.method 378 244 v "copse/label.top").run Tryz.prog w = .ok (222, v) w := by kernel_rfl
theorem meth188 (v : Value) (w : World) : (Go.method 378 245 v "copse/label.top").run Tryz.prog w = .ok (223, v) w := by kernel_rfl
set_option maxRecDepth 20000 in
set_option maxHeartbeats 4000000 in
theorem read_any (s : List UInt8) (w : World) (hs : s.length ≤ 1125899906842624) : Calls Tryz.prog 171 #[.string (bs s)] w fun e w' => e = .returned (rdk s).val ∧ Below w.heap.size w w' := by
  have HK : Hid (∀ w : World, Calls Tryz.prog 178 #[.string (bs s)] w fun e w' => e = .returned (kin s).val ∧ w' = w) := fun w => kind_any s w hs
  have hk : (kin s).top.length ≤ s.length := by
    unfold kin
    split
    · simp [Kd.top]
    split
    · simp [Kd.top]
    split
    · simp [Kd.top]
    split
    · split
      · simp [Kd.top]; omega
      · simp [Kd.top]
    · simp [Kd.top]
  have HV : Hid (∀ w : World, Calls Tryz.prog 22 #[.string (bs (kin s).top)] w fun e w' => e = .returned (.bool (okP (kin s).top)) ∧ Below w.heap.size w w') := fun w => valid_any _ w (by omega)
  unfold rdk
  generalize kin s = k at *
  clear hk hs
  have m65 := nn65
  have m66 := nn66
  have m67 := nn67
  have me1 := meth186
  have me2 := meth187
  have me3 := meth188
  cases k with
  | nobody =>
    simp only [Kd.val, Kd.top, okP_nil, if_true] at *
    go_enter Tryz.func171, Tryz.ntmps171
    go_wp2_with fail
    refine (HK.out _).mono ?_
    rintro e w1 ⟨rfl, rfl⟩
    go_wp2_with fail
    go_ret
    exact ⟨rfl, Below.refl _ _⟩
  | all =>
    simp only [Kd.val, Kd.top, okP_nil, if_true] at *
    go_enter Tryz.func171, Tryz.ntmps171
    go_wp2_with fail
    refine (HK.out _).mono ?_
    rintro e w1 ⟨rfl, rfl⟩
    go_wp2_with fail
    refine (top65_any _).mono ?_
    rintro e w2 ⟨rfl, hb2⟩
    have HB2 : Hid (Below w1.heap.size w1 w2) := hb2
    clear hb2
    go_wp2_with fail
    refine (HV.out _).mono ?_
    rintro e w3 ⟨rfl, hb3⟩
    have HB3 : Hid (Below w1.heap.size w1 w3) := bstep HB2.out hb3
    clear hb3
    go_wp2_with fail
    go_ret
    exact ⟨rfl, HB3.out⟩
  | one p =>
    by_cases hp : okP (Kd.one p).top = true
    rotate_left
    · rw [if_neg hp]
      have hp' : okP (Kd.one p).top = false := by simpa using hp
      rw [hp'] at HV
      clear hp hp'
      simp only [Kd.val, Kd.top] at *
      go_enter Tryz.func171, Tryz.ntmps171
      go_wp2_with fail
      refine (HK.out _).mono ?_
      rintro e w1 ⟨rfl, rfl⟩
      go_wp2_with fail
      refine (top66_any _ _).mono ?_
      rintro e w2 ⟨rfl, rfl⟩
      go_wp2_with fail
      refine (HV.out _).mono ?_
      rintro e w3 ⟨rfl, hb3⟩
      have HB3 : Hid (Below w2.heap.size w2 w3) := hb3
      clear hb3
      go_wp2_with fail
      go_ret
      exact ⟨rfl, HB3.out⟩
    · rw [if_pos hp]
      rw [hp] at HV
      clear hp
      simp only [Kd.val, Kd.top] at *
      go_enter Tryz.func171, Tryz.ntmps171
      go_wp2_with fail
      refine (HK.out _).mono ?_
      rintro e w1 ⟨rfl, rfl⟩
      go_wp2_with fail
      refine (top66_any _ _).mono ?_
      rintro e w2 ⟨rfl, rfl⟩
      go_wp2_with fail
      refine (HV.out _).mono ?_
      rintro e w3 ⟨rfl, hb3⟩
      have HB3 : Hid (Below w2.heap.size w2 w3) := hb3
      clear hb3
      go_wp2_with fail
      go_ret
      exact ⟨rfl, HB3.out⟩
  | tree p =>
    by_cases hp : okP (Kd.tree p).top = true
    rotate_left
    · rw [if_neg hp]
      have hp' : okP (Kd.tree p).top = false := by simpa using hp
      rw [hp'] at HV
      clear hp hp'
      simp only [Kd.val, Kd.top] at *
      go_enter Tryz.func171, Tryz.ntmps171
      go_wp2_with fail
      refine (HK.out _).mono ?_
      rintro e w1 ⟨rfl, rfl⟩
      go_wp2_with fail
      refine (top67_any _ _).mono ?_
      rintro e w2 ⟨rfl, rfl⟩
      go_wp2_with fail
      refine (HV.out _).mono ?_
      rintro e w3 ⟨rfl, hb3⟩
      have HB3 : Hid (Below w2.heap.size w2 w3) := hb3
      clear hb3
      go_wp2_with fail
      go_ret
      exact ⟨rfl, HB3.out⟩
    · rw [if_pos hp]
      rw [hp] at HV
      clear hp
      simp only [Kd.val, Kd.top] at *
      go_enter Tryz.func171, Tryz.ntmps171
      go_wp2_with fail
      refine (HK.out _).mono ?_
      rintro e w1 ⟨rfl, rfl⟩
      go_wp2_with fail
      refine (top67_any _ _).mono ?_
      rintro e w2 ⟨rfl, rfl⟩
      go_wp2_with fail
      refine (HV.out _).mono ?_
      rintro e w3 ⟨rfl, hb3⟩
      have HB3 : Hid (Below w2.heap.size w2 w3) := hb3
      clear hb3
      go_wp2_with fail
      go_ret
      exact ⟨rfl, HB3.out⟩
end Go.Proofs.YtddaoloabfkheaaGreatDoor

namespace Go.Proofs.YtddaoloabfkheaaGreatDoor
open Go.RowKit


set_option maxRecDepth 100000 in
set_option maxHeartbeats 1000000 in
theorem seer_any (s : List UInt8) (w : World) (hs : s.length ≤ 1125899906842624) : Calls Tryz.prog 163 #[.string (bs s)] w fun e w' => e = .returned (.bool (ser s)) ∧ Below w.heap.size w w' := by
  have HK : Hid (∀ w : World, Calls Tryz.prog 171 #[.string (bs s)] w fun e w' => e = .returned (rdk s).val ∧ Below w.heap.size w w') := fun w => read_any s w hs
  unfold ser
  generalize rdk s = k at *
  clear hs
  have m65 := nq65
  have m66 := nq66
  have m67 := nq67
  cases k with
  | nobody =>
    simp only [Kd.val, decide_true, Bool.not_true] at *
    go_enter Tryz.func163, Tryz.ntmps163
    go_wp2_with fail
    refine (HK.out _).mono ?_
    rintro e w1 ⟨rfl, hb1⟩
    have HB : Hid (Below w.heap.size w w1) := hb1
    clear hb1
    go_wp2_with fail
    go_ret
    exact ⟨rfl, HB.out⟩
  | all =>
    have hd : (!decide (Kd.all = Kd.nobody)) = true := by simp
    rw [hd]
    simp only [Kd.val] at *
    go_enter Tryz.func163, Tryz.ntmps163
    go_wp2_with fail
    refine (HK.out _).mono ?_
    rintro e w1 ⟨rfl, hb1⟩
    have HB : Hid (Below w.heap.size w w1) := hb1
    clear hb1
    go_wp2_with fail
    go_ret
    exact ⟨rfl, HB.out⟩
  | one p =>
    have hd : (!decide (Kd.one p = Kd.nobody)) = true := by simp
    rw [hd]
    simp only [Kd.val] at *
    go_enter Tryz.func163, Tryz.ntmps163
    go_wp2_with fail
    refine (HK.out _).mono ?_
    rintro e w1 ⟨rfl, hb1⟩
    have HB : Hid (Below w.heap.size w w1) := hb1
    clear hb1
    go_wp2_with fail
    go_ret
    exact ⟨rfl, HB.out⟩
  | tree p =>
    have hd : (!decide (Kd.tree p = Kd.nobody)) = true := by simp
    rw [hd]
    simp only [Kd.val] at *
    go_enter Tryz.func163, Tryz.ntmps163
    go_wp2_with fail
    refine (HK.out _).mono ?_
    rintro e w1 ⟨rfl, hb1⟩
    have HB : Hid (Below w.heap.size w w1) := hb1
    clear hb1
    go_wp2_with fail
    go_ret
    exact ⟨rfl, HB.out⟩

end Go.Proofs.YtddaoloabfkheaaGreatDoor

namespace Go.Proofs
open Go.Shelf
def Tryz.lays169_ren : Go.Shelf.Ren := ⟨fun | 169 => 175 | n => n, fun | 70 => 234 | 9 => 9 | 0 => 0 | 72 => 236 | 37 => 41 | 127 => 241 | 3 => 3 | 5 => 5 | n => n, fun | n => n⟩
set_option maxRecDepth 100000 in
theorem Tryz.lays169 : Go.Proofs.Lays.n169 Tryz.prog Tryz.lays169_ren := {
  mixed := by kernel_rfl
  f169 := Tryz.func175.trans (congrArg some (by kernel_rfl))
  t0 := Tryz.underlying0
  a0 := Tryz.isAgg0
  z0 := Tryz.sizeOf0
  v0 := Tryz.zeroValue0
  t3 := Tryz.underlying3
  a3 := Tryz.isAgg3
  z3 := Tryz.sizeOf3
  v3 := Tryz.zeroValue3
  t9 := Tryz.underlying9
  a9 := Tryz.isAgg9
  z9 := Tryz.sizeOf9
  v9 := Tryz.zeroValue9
  t37 := Tryz.underlying41
  a37 := Tryz.isAgg41
  z37 := Tryz.sizeOf41
  v37 := Tryz.zeroValue41
  t70 := Tryz.underlying234
  a70 := Tryz.isAgg234
  z70 := Tryz.sizeOf234
  v70 := Tryz.zeroValue234
  t72 := Tryz.underlying236
  a72 := Tryz.isAgg236
  z72 := Tryz.sizeOf236
  v72 := Tryz.zeroValue236
  t127 := Tryz.underlying241
  a127 := Tryz.isAgg241
  z127 := Tryz.sizeOf241
  v127 := Tryz.zeroValue241 }
theorem Tryz.Builder_Extra_169 : Builder.Extra Tryz.prog Tryz.lays169_ren := {
  sizeBuilder := by kernel_rfl
  liesBuilder := by kernel_rfl
  t5 := Tryz.underlying5
  a5 := Tryz.isAgg5
  z5 := Tryz.sizeOf5
  v5 := Tryz.zeroValue5
  infoByte := by kernel_rfl
  cellsByte := by kernel_rfl
  sizeByte := by kernel_rfl
  neB5 := by decide }
def Tryz.lays156_ren : Go.Shelf.Ren := ⟨fun | 156 => 86 | 165 => 172 | 166 => 173 | 169 => 175 | 240 => 179 | 241 => 180 | 276 => 184 | 277 => 185 | n => n, fun | 31 => 63 | 9 => 9 | 3 => 3 | 4 => 4 | 0 => 0 | 20 => 20 | 72 => 236 | 76 => 237 | 70 => 234 | 37 => 41 | 75 => 145 | 127 => 241 | 164 => 174 | 5 => 5 | 80 => 99 | n => n, fun | n => n⟩
theorem Tryz.Builder_Extra_156 : Builder.Extra Tryz.prog Tryz.lays156_ren := {
  sizeBuilder := by kernel_rfl
  liesBuilder := by kernel_rfl
  t5 := Tryz.underlying5
  a5 := Tryz.isAgg5
  z5 := Tryz.sizeOf5
  v5 := Tryz.zeroValue5
  infoByte := by kernel_rfl
  cellsByte := by kernel_rfl
  sizeByte := by kernel_rfl
  neB5 := by decide }
def Tryz.lays154_ren : Go.Shelf.Ren := ⟨fun | 154 => 166 | 138 => 88 | 165 => 172 | 143 => 107 | 166 => 173 | 197 => 174 | 169 => 175 | 195 => 105 | 218 => 106 | 240 => 179 | 241 => 180 | 219 => 120 | 260 => 181 | 276 => 184 | 277 => 185 | 217 => 135 | 225 => 136 | 224 => 137 | 267 => 138 | 266 => 155 | 314 => 156 | n => n, fun | 9 => 9 | 3 => 3 | 4 => 4 | 72 => 236 | 0 => 0 | 76 => 237 | 105 => 239 | 21 => 21 | 5 => 5 | 70 => 234 | 20 => 20 | 37 => 41 | 75 => 145 | 127 => 241 | 164 => 174 | 46 => 152 | 119 => 248 | 139 => 251 | 138 => 250 | 146 => 158 | 51 => 123 | 80 => 99 | n => n, fun | 1 => 0 | 3 => 2 | 4 => 3 | n => n⟩
set_option maxRecDepth 100000 in
theorem Tryz.lays154 : Go.Proofs.Lays.n154 Tryz.prog Tryz.lays154_ren := {
  mixed := by kernel_rfl
  f138 := Tryz.func88.trans (congrArg some (by kernel_rfl))
  f143 := Tryz.func107.trans (congrArg some (by kernel_rfl))
  f154 := Tryz.func166.trans (congrArg some (by kernel_rfl))
  f165 := Tryz.func172.trans (congrArg some (by kernel_rfl))
  f166 := Tryz.func173.trans (congrArg some (by kernel_rfl))
  f169 := Tryz.func175.trans (congrArg some (by kernel_rfl))
  f195 := Tryz.func105.trans (congrArg some (by kernel_rfl))
  f197 := Tryz.func174.trans (congrArg some (by kernel_rfl))
  f217 := Tryz.func135.trans (congrArg some (by kernel_rfl))
  f218 := Tryz.func106.trans (congrArg some (by kernel_rfl))
  f219 := Tryz.func120.trans (congrArg some (by kernel_rfl))
  f224 := Tryz.func137.trans (congrArg some (by kernel_rfl))
  f225 := Tryz.func136.trans (congrArg some (by kernel_rfl))
  f240 := Tryz.func179.trans (congrArg some (by kernel_rfl))
  f241 := Tryz.func180.trans (congrArg some (by kernel_rfl))
  f260 := Tryz.func181.trans (congrArg some (by kernel_rfl))
  f266 := Tryz.func155.trans (congrArg some (by kernel_rfl))
  f267 := Tryz.func138.trans (congrArg some (by kernel_rfl))
  f276 := Tryz.func184.trans (congrArg some (by kernel_rfl))
  f277 := Tryz.func185.trans (congrArg some (by kernel_rfl))
  f314 := Tryz.func156.trans (congrArg some (by kernel_rfl))
  t0 := Tryz.underlying0
  a0 := Tryz.isAgg0
  z0 := Tryz.sizeOf0
  v0 := Tryz.zeroValue0
  t3 := Tryz.underlying3
  a3 := Tryz.isAgg3
  z3 := Tryz.sizeOf3
  v3 := Tryz.zeroValue3
  t4 := Tryz.underlying4
  a4 := Tryz.isAgg4
  z4 := Tryz.sizeOf4
  v4 := Tryz.zeroValue4
  t5 := Tryz.underlying5
  a5 := Tryz.isAgg5
  z5 := Tryz.sizeOf5
  v5 := Tryz.zeroValue5
  t9 := Tryz.underlying9
  a9 := Tryz.isAgg9
  z9 := Tryz.sizeOf9
  v9 := Tryz.zeroValue9
  t20 := Tryz.underlying20
  a20 := Tryz.isAgg20
  z20 := Tryz.sizeOf20
  v20 := Tryz.zeroValue20
  t21 := Tryz.underlying21
  a21 := Tryz.isAgg21
  z21 := Tryz.sizeOf21
  v21 := Tryz.zeroValue21
  t37 := Tryz.underlying41
  a37 := Tryz.isAgg41
  z37 := Tryz.sizeOf41
  v37 := Tryz.zeroValue41
  t46 := Tryz.underlying152
  a46 := Tryz.isAgg152
  z46 := Tryz.sizeOf152
  v46 := Tryz.zeroValue152
  t51 := Tryz.underlying123
  a51 := Tryz.isAgg123
  z51 := Tryz.sizeOf123
  v51 := Tryz.zeroValue123
  t70 := Tryz.underlying234
  a70 := Tryz.isAgg234
  z70 := Tryz.sizeOf234
  v70 := Tryz.zeroValue234
  t72 := Tryz.underlying236
  a72 := Tryz.isAgg236
  z72 := Tryz.sizeOf236
  v72 := Tryz.zeroValue236
  t75 := Tryz.underlying145
  a75 := Tryz.isAgg145
  z75 := Tryz.sizeOf145
  v75 := Tryz.zeroValue145
  t76 := Tryz.underlying237
  a76 := Tryz.isAgg237
  z76 := Tryz.sizeOf237
  v76 := Tryz.zeroValue237
  t105 := Tryz.underlying239
  a105 := Tryz.isAgg239
  z105 := Tryz.sizeOf239
  v105 := Tryz.zeroValue239
  t119 := Tryz.underlying248
  a119 := Tryz.isAgg248
  z119 := Tryz.sizeOf248
  t127 := Tryz.underlying241
  a127 := Tryz.isAgg241
  z127 := Tryz.sizeOf241
  v127 := Tryz.zeroValue241
  t138 := Tryz.underlying250
  a138 := Tryz.isAgg250
  z138 := Tryz.sizeOf250
  v138 := Tryz.zeroValue250
  t139 := Tryz.underlying251
  a139 := Tryz.isAgg251
  z139 := Tryz.sizeOf251
  v139 := Tryz.zeroValue251
  t146 := Tryz.underlying158
  a146 := Tryz.isAgg158
  z146 := Tryz.sizeOf158
  v146 := Tryz.zeroValue158
  t164 := Tryz.underlying174
  a164 := Tryz.isAgg174
  z164 := Tryz.sizeOf174
  v164 := Tryz.zeroValue174
  g1 := by kernel_rfl
  g3 := by kernel_rfl
  g4 := by kernel_rfl }
theorem Tryz.Builder_Extra_154 : Builder.Extra Tryz.prog Tryz.lays154_ren := {
  sizeBuilder := by kernel_rfl
  liesBuilder := by kernel_rfl
  t5 := Tryz.underlying5
  a5 := Tryz.isAgg5
  z5 := Tryz.sizeOf5
  v5 := Tryz.zeroValue5
  infoByte := by kernel_rfl
  cellsByte := by kernel_rfl
  sizeByte := by kernel_rfl
  neB5 := by decide }
end Go.Proofs
