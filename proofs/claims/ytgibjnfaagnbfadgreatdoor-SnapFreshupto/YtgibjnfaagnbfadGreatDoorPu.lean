/-
  Two hexadecimal digits, by the library.
-/
import Derived.Test.YtgibjnfaagnbfadGreatDoorEnv
import Derived.Shelf.Strconv.ToError
import Derived.Lib.ConvBytes
import Derived.Laws.Closers25
import Derived.Laws.Closers25b
import Derived.Laws.Strings3
namespace Go.Proofs.YtgibjnfaagnbfadGreatDoor
open Go.RowKit

def px (acc : Nat) : List UInt8 → Option Nat
  | [] => some acc
  | c :: r => match hv c with | some d => px (acc * 16 + d) r | none => none
theorem px_pair (x y : UInt8) : px 0 [x, y] = pair x y := by
  simp only [px, pair]
  cases hv x <;> cases hv y <;> simp [Nat.mul_comm]
theorem hv_lt {c : UInt8} {d : Nat} (h : hv c = some d) : d < 16 := by
  unfold hv at h
  have := c.toNat_lt
  split at h
  · injection h; omega
  · split at h
    · injection h; omega
    · split at h
      · injection h; omega
      · cases h
/-- with the bit of small letters set -/
def lw (c : UInt8) : Nat := c.toNat ||| 32
set_option maxRecDepth 100000 in
theorem hv_lw : ∀ n : Fin 256, hv (UInt8.ofNat n.1) = if 48 ≤ n.1 ∧ n.1 ≤ 57 then some (n.1 - 48) else if 97 ≤ n.1 ||| 32 ∧ n.1 ||| 32 ≤ 102 then some ((n.1 ||| 32) - 87) else none := by decide
theorem hv_lw' (c : UInt8) : hv c = if 48 ≤ c.toNat ∧ c.toNat ≤ 57 then some (c.toNat - 48) else if 97 ≤ lw c ∧ lw c ≤ 102 then some (lw c - 87) else none := by
  have := hv_lw ⟨c.toNat, c.toNat_lt⟩
  simp only [UInt8.ofNat_toNat] at this
  exact this
set_option maxRecDepth 100000 in
theorem lw_lt : ∀ n : Fin 256, (n.1 ||| 32) < 256 := by decide
set_option maxRecDepth 100000 in
theorem lw_bits (c : UInt8) : bits .or .u8 (c.toNat : Int) 32 = (lw c : Int) := by
  have : ∀ n : Fin 256, bits .or .u8 (n.1 : Int) 32 = ((n.1 ||| 32 : Nat) : Int) := by decide
  exact this ⟨c.toNat, c.toNat_lt⟩

theorem lower_any (c : Int) (w : World) : Calls Tryz.prog 109 #[.int .u8 c] w fun e w' => e = .returned (.int .u8 (bits .or .u8 c 32)) ∧ w' = w := by
  go_enter Tryz.func109, Tryz.ntmps109
  go_wp2_with fail
  go_ret
  exact ⟨rfl, rfl⟩
def puV (o : Option Nat) : Value := match o with | some n => .tuple #[.int .u64 n, .nilIface] | none => .tuple #[.int .u64 0, .iface 104 (.int .i64 2)]
theorem u39 : Tryz.prog.underlying 45 = some (.slice 5) := by kernel_rfl

set_option maxRecDepth 100000 in
set_option maxHeartbeats 16000000 in
theorem pu16_any (x y : UInt8) (w : World) : Calls Tryz.prog 88 #[.string (bs [x, y]), .int .i64 16, .int .i64 8] w fun e w' => e = .returned (puV (pair x y)) ∧ Below w.heap.size w w' := by
  rw [← px_pair]
  have hz : (bs [x, y]).size = 2 := rfl
  have hem : (bs [x, y]).toList.isEmpty = false := by rw [bs_toList]; rfl
  have hcv := Lib.run_convert_string_bytes (P := Tryz.prog) w 9 45 5 (bs [x, y]) (u := .string) u9 u39 u5
  have hB : ∀ j, (hj : j < 2) → (Lib.bytesWorld w 5 (bs [x, y])).cell? ⟨w.heap.size, j, none⟩ = some (.int .u8 (([x, y][j]'hj).toNat : Nat)) := fun j hj => by
    have := Lib.bytesWorld_cell w 5 (bs [x, y]) j hj
    rw [this]
    congr 3
    simp [bs, hj]
  have HB : Hid (Below w.heap.size w (Lib.bytesWorld w 5 (bs [x, y]))) := Lib.bytesWorld_below _ _ _
  obtain ⟨W1, hW1⟩ : ∃ W1, W1 = Lib.bytesWorld w 5 (bs [x, y]) := ⟨_, rfl⟩
  rw [← hW1] at hcv hB HB
  clear hW1
  obtain ⟨L, hL⟩ : ∃ L, L = [x, y] := ⟨_, rfl⟩
  have hLn : L.length = 2 := by rw [hL]; rfl
  have HBL : Hid (∀ j, (hj : j < L.length) → W1.cell? ⟨w.heap.size, j, none⟩ = some (.int .u8 ((L[j]'hj).toNat : Nat))) := by
    subst hL; exact hB
  rw [← hL]
  rw [← hL] at hz hem hcv
  clear hB hL
  obtain ⟨R, hR⟩ : ∃ R, px 0 L = R := ⟨_, rfl⟩
  rw [hR]
  have HR : Hid (px 0 L = R) := hR
  have HLn : Hid (L.length = 2) := hLn
  clear hR hLn
  go_enter Tryz.func88, Tryz.ntmps88
  go_wp2_with fail
  go_loop [12, 13, 101] (fun vu vn vi => ∃ (k acc : Nat) (a : Int), vu = .bool false ∧ vn = .int .u64 a ∧ vi = .int .i64 k ∧ k ≤ 2 ∧ Hid (a = (acc : Int) ∧ acc < 16 ^ k ∧ px acc (L.drop k) = R)) (fun _ _ vi => 2 - (intOf vi).toNat)
  case atStart => exact ⟨0, 0, 0, rfl, rfl, rfl, by omega, rfl, by omega, HR.out⟩
  case round =>
    obtain ⟨k, acc, a, rfl, rfl, rfl, hk, hh⟩ := hrel
    by_cases hkn : k < 2
    · have hkl : k < L.length := by have := HLn.out; omega
      have hc := HBL.out k hkl
      have hk1 : acc < 16 := by
        have := hh.out.2.1
        have : k = 0 ∨ k = 1 := by omega
        rcases this with rfl | rfl <;> simp at * <;> omega
      have HP : Hid (px acc (L.drop k) = match hv (L[k]'hkl) with | some d => px (acc * 16 + d) (L.drop (k + 1)) | none => none) := by
        show px acc (L.drop k) = _
        rw [List.drop_eq_getElem_cons hkl, px]
      obtain ⟨c, hcc⟩ : ∃ c, L[k]'hkl = c := ⟨_, rfl⟩
      rw [hcc] at hc HP
      clear hcc
      have HV : Hid (hv c = if 48 ≤ c.toNat ∧ c.toNat ≤ 57 then some (c.toNat - 48) else if 97 ≤ lw c ∧ lw c ≤ 102 then some (lw c - 87) else none) := hv_lw' c
      have hlb := lw_bits c
      have hl256 : lw c < 256 := lw_lt ⟨c.toNat, c.toNat_lt⟩
      have a0 : 0 ≤ a := by have := hh.out.1; omega
      have a1 : a < 16 := by have := hh.out.1; omega
      have HA : Hid (a = (acc : Int)) := hh.out.1
      have HK : Hid (acc < 16 ^ k ∧ px acc (L.drop k) = R) := hh.out.2
      have H95 : Hid (c.toNat = 95 → lw c = 127) := by
        intro h
        unfold lw; rw [h]; rfl
      obtain ⟨C, hC⟩ : ∃ C, c.toNat = C := ⟨_, rfl⟩
      obtain ⟨D, hD⟩ : ∃ D, lw c = D := ⟨_, rfl⟩
      have hC256 : C < 256 := by rw [← hC]; exact c.toNat_lt
      rw [hC] at hc hlb HV H95
      rw [hD] at hlb hl256 HV H95
      clear hh hC hD hk1
      have k1 : (0 : Int) ≤ (k : Int) := by omega
      have k2 : (k : Int) < 2 := by omega
      by_cases hd : 48 ≤ C ∧ C ≤ 57
      · obtain ⟨hd0, hd1⟩ := hd
        have hvv : Hid (hv c = some (C - 48)) := by have := HV.out; rw [if_pos ⟨hd0, hd1⟩] at this; exact this
        have i0 : (48 : Int) ≤ (C : Int) := by omega
        have i1 : (C : Int) ≤ 57 := by omega
        have j1 : IntKind.u8.wrap ((C : Int) - 48) = (C : Int) - 48 := by rw [IntKind.wrap_u8]; omega
        have j2 : IntKind.u64.wrap (a * 16) = a * 16 := by rw [IntKind.wrap_u64]; omega
        have j3 : IntKind.u64.wrap (a * 16 + ((C : Int) - 48)) = a * 16 + ((C : Int) - 48) := by rw [IntKind.wrap_u64]; omega
        clear HV hlb hl256
        go_wp2_with fail
        go_roundw
        case rel =>
          refine ⟨k + 1, acc * 16 + (C - 48), a * 16 + ((C : Int) - 48), rfl, rfl, by go_num, by omega, ?_, ?_, ?_⟩
          · have := HA.out; omega
          · have := HK.out.1; rw [Nat.pow_succ]; omega
          · have h1 := HP.out; rw [hvv.out] at h1; rw [HK.out.2] at h1; exact h1.symm
        case measure => simp [intOf]; omega
      · have HV2 : Hid (hv c = if 97 ≤ D ∧ D ≤ 102 then some (D - 87) else none) := by have := HV.out; rw [if_neg hd] at this; exact this
        have HLow : Hid (∀ W : World, Calls Tryz.prog 109 #[.int .u8 (C : Int)] W fun e w' => e = .returned (.int .u8 (D : Int)) ∧ w' = W) := fun W => by rw [← hlb]; exact lower_any _ W
        have hd1 : (decide ((48 : Int) ≤ (C : Int)) && decide ((C : Int) ≤ 57)) = false := by
          rw [Bool.and_eq_false_iff]
          by_cases h48 : 48 ≤ C
          · exact .inr (by simp; omega)
          · exact .inl (by simp; omega)
        clear HV hlb
        by_cases hC95 : C = 95
        · have hD127 := H95.out hC95
          subst hC95
          subst hD127
          have hvv : Hid (hv c = none) := by have := HV2.out; rw [if_neg (by omega)] at this; exact this
          have HL2 : Hid (∀ W : World, Calls Tryz.prog 109 #[.int .u8 95] W fun e w' => e = .returned (.int .u8 127) ∧ w' = W) := HLow.out
          go_wp2_with (go_at_call 109; refine (HL2.out _).mono ?_; rintro e w2 ⟨rfl, rfl⟩)
          go_ret2
          refine ⟨?_, HB.out⟩
          have h1 := HP.out
          rw [hvv.out] at h1
          have h2 := HK.out.2
          rw [h1] at h2
          rw [← h2]; rfl
        have h95 : ((C : Int) == 95) = false := by simp; omega
        have h95' : ¬ (C : Int) = 95 := by omega
        by_cases hD : 97 ≤ D ∧ D ≤ 122
        · have i0 : (97 : Int) ≤ (D : Int) := by omega
          have i1 : (D : Int) ≤ 122 := by omega
          have j1 : IntKind.u8.wrap ((D : Int) - 97) = (D : Int) - 97 := by rw [IntKind.wrap_u8]; omega
          have j4 : IntKind.u8.wrap ((D : Int) - 97 + 10) = (D : Int) - 87 := by rw [IntKind.wrap_u8]; omega
          by_cases hD2 : D ≤ 102
          · have hvv : Hid (hv c = some (D - 87)) := by have := HV2.out; rw [if_pos ⟨hD.1, hD2⟩] at this; exact this
            have i3 : (D : Int) - 87 < 16 := by omega
            have j3 : IntKind.u64.wrap (a * 16 + ((D : Int) - 87)) = a * 16 + ((D : Int) - 87) := by rw [IntKind.wrap_u64]; omega
            have j2 : IntKind.u64.wrap (a * 16) = a * 16 := by rw [IntKind.wrap_u64]; omega
            by_cases h48 : (48 : Int) ≤ (C : Int)
            · have h57 : (57 : Int) < (C : Int) := by omega
              go_wp2_with (go_at_call 109; refine (HLow.out _).mono ?_; rintro e w2 ⟨rfl, rfl⟩)
              go_roundw
              case rel =>
                refine ⟨k + 1, acc * 16 + (D - 87), a * 16 + ((D : Int) - 87), rfl, rfl, by go_num, by omega, ?_, ?_, ?_⟩
                · have := HA.out; omega
                · have := HK.out.1; rw [Nat.pow_succ]; omega
                · have h1 := HP.out; rw [hvv.out] at h1; rw [HK.out.2] at h1; exact h1.symm
              case measure => simp [intOf]; omega
            · go_wp2_with (go_at_call 109; refine (HLow.out _).mono ?_; rintro e w2 ⟨rfl, rfl⟩)
              go_roundw
              case rel =>
                refine ⟨k + 1, acc * 16 + (D - 87), a * 16 + ((D : Int) - 87), rfl, rfl, by go_num, by omega, ?_, ?_, ?_⟩
                · have := HA.out; omega
                · have := HK.out.1; rw [Nat.pow_succ]; omega
                · have h1 := HP.out; rw [hvv.out] at h1; rw [HK.out.2] at h1; exact h1.symm
              case measure => simp [intOf]; omega
          · have hvv : Hid (hv c = none) := by have := HV2.out; rw [if_neg (by omega)] at this; exact this
            have i3 : (16 : Int) ≤ (D : Int) - 87 := by omega
            by_cases h48 : (48 : Int) ≤ (C : Int)
            · have h57 : (57 : Int) < (C : Int) := by omega
              go_wp2_with (go_at_call 109; refine (HLow.out _).mono ?_; rintro e w2 ⟨rfl, rfl⟩)
              go_ret2
              refine ⟨?_, HB.out⟩
              have h1 := HP.out
              rw [hvv.out] at h1
              have h2 := HK.out.2
              rw [h1] at h2
              rw [← h2]; rfl
            · go_wp2_with (go_at_call 109; refine (HLow.out _).mono ?_; rintro e w2 ⟨rfl, rfl⟩)
              go_ret2
              refine ⟨?_, HB.out⟩
              have h1 := HP.out
              rw [hvv.out] at h1
              have h2 := HK.out.2
              rw [h1] at h2
              rw [← h2]; rfl
        · have hvv : Hid (hv c = none) := by have := HV2.out; rw [if_neg (by omega)] at this; exact this
          by_cases h97 : (97 : Int) ≤ (D : Int)
          · have h122 : (122 : Int) < (D : Int) := by omega
            by_cases h48 : (48 : Int) ≤ (C : Int)
            · have h57 : (57 : Int) < (C : Int) := by omega
              go_wp2_with (go_at_call 109; refine (HLow.out _).mono ?_; rintro e w2 ⟨rfl, rfl⟩)
              go_ret2
              refine ⟨?_, HB.out⟩
              have h1 := HP.out
              rw [hvv.out] at h1
              have h2 := HK.out.2
              rw [h1] at h2
              rw [← h2]; rfl
            · go_wp2_with (go_at_call 109; refine (HLow.out _).mono ?_; rintro e w2 ⟨rfl, rfl⟩)
              go_ret2
              refine ⟨?_, HB.out⟩
              have h1 := HP.out
              rw [hvv.out] at h1
              have h2 := HK.out.2
              rw [h1] at h2
              rw [← h2]; rfl
          · by_cases h48 : (48 : Int) ≤ (C : Int)
            · have h57 : (57 : Int) < (C : Int) := by omega
              go_wp2_with (go_at_call 109; refine (HLow.out _).mono ?_; rintro e w2 ⟨rfl, rfl⟩)
              go_ret2
              refine ⟨?_, HB.out⟩
              have h1 := HP.out
              rw [hvv.out] at h1
              have h2 := HK.out.2
              rw [h1] at h2
              rw [← h2]; rfl
            · go_wp2_with (go_at_call 109; refine (HLow.out _).mono ?_; rintro e w2 ⟨rfl, rfl⟩)
              go_ret2
              refine ⟨?_, HB.out⟩
              have h1 := HP.out
              rw [hvv.out] at h1
              have h2 := HK.out.2
              rw [h1] at h2
              rw [← h2]; rfl
    · obtain rfl : k = 2 := by omega
      have HE : Hid (R = some acc) := by
        have h1 := hh.out.2.2
        rw [List.drop_eq_nil_of_le (by have := HLn.out; omega)] at h1
        exact h1.symm
      have HA : Hid (a = (acc : Int)) := hh.out.1
      clear hh
      go_wp2_with fail
      go_ret2
      refine ⟨?_, HB.out⟩
      rw [HE.out, HA.out]; rfl

set_option maxHeartbeats 2000000 in
theorem parse16_any (x y : UInt8) (w : World) (E : Env w) : Calls Tryz.prog 71 #[.string (bs [x, y]), .int .i64 16, .int .i64 8] w fun e w' =>
    ∃ n ev, e = .returned (.tuple #[.int .u64 n, ev]) ∧ Below w.heap.size w w' ∧ ((∃ m : Nat, pair x y = some m ∧ n = (m : Int) ∧ ev = .nilIface) ∨ (pair x y = none ∧ ∃ t p, ev = .iface t p)) := by
  have HE : Hid (Env w) := E
  have HP : Hid (Calls Tryz.prog 88 #[.string (bs [x, y]), .int .i64 16, .int .i64 8] w fun e w' => e = .returned (puV (pair x y)) ∧ Below w.heap.size w w') := pu16_any x y w
  obtain ⟨T, hT⟩ : ∃ T, [x, y] = T := ⟨_, rfl⟩
  have hTl : T.length = 2 := by rw [← hT]; rfl
  rw [hT] at HP ⊢
  clear E hT
  cases hp : pair x y with
  | some m =>
    rw [hp] at HP
    have HP2 : Hid (Calls Tryz.prog 88 #[.string (bs T), .int .i64 16, .int .i64 8] w fun e w' => e = .returned (.tuple #[.int .u64 (m : Int), .nilIface]) ∧ Below w.heap.size w w') := HP.out
    go_enter Tryz.func71, Tryz.ntmps71
    go_wp2_with fail
    refine HP2.out.mono ?_
    rintro e w1 ⟨rfl, hb1⟩
    have HB1 : Hid (Below w.heap.size w w1) := hb1
    clear hb1
    go_wp2_with fail
    go_ret2
    exact ⟨_, _, rfl, HB1.out, .inl ⟨m, rfl, rfl, rfl⟩⟩
  | none =>
    rw [hp] at HP
    have HP2 : Hid (Calls Tryz.prog 88 #[.string (bs T), .int .i64 16, .int .i64 8] w fun e w' => e = .returned (.tuple #[.int .u64 0, .iface 104 (.int .i64 2)]) ∧ Below w.heap.size w w') := HP.out
    go_enter Tryz.func71, Tryz.ntmps71
    go_wp2_with fail
    refine HP2.out.mono ?_
    rintro e w1 ⟨rfl, hb1⟩
    have HB1 : Hid (Below w.heap.size w w1) := hb1
    clear hb1
    have HT : Hid (Calls Tryz.prog 73 #[.string ⟨#[80, 97, 114, 115, 101, 85, 105, 110, 116]⟩, .string (bs T), .int .i64 16, .int .i64 8, .iface 104 (.int .i64 2)] w1 fun e w' => ∃ t p, e = .returned (.iface t p) ∧ Below w1.heap.size w1 w') := by
      obtain ⟨tp, p, hv⟩ := (HE.out.later HB1.out).syn
      have hz : (bs T).size = T.length := rfl
      have hS := Any.strconv_toError_syntax (ρ := Tryz.atoiL_ren) { Tryz.atoiL with } ⟨#[80, 97, 114, 115, 101, 85, 105, 110, 116]⟩ (bs T) 16 8 (.iface tp p) w1 (by omega) (by
        have h0 := World.var?_cell gSyn hv 0
        have h1 : w1.cell? ⟨1, 0, none⟩ = some (.iface tp p) := by simpa using h0
        exact h1) (Or.inr ⟨tp, p, rfl⟩)
      change Calls Tryz.prog 73 _ _ _ at hS
      refine hS.mono ?_
      rintro e w' ⟨N, rfl, _, _, hb⟩
      exact ⟨_, _, rfl, hb⟩
    go_wp2_with fail
    refine HT.out.mono ?_
    rintro e w2 ⟨t, p, rfl, hb2⟩
    have HB2 : Hid (Below w.heap.size w w2) := bstep HB1.out hb2
    clear hb2
    go_wp2_with fail
    go_ret2
    exact ⟨_, _, rfl, HB2.out, .inr ⟨by simp, t, p, rfl⟩⟩
end Go.Proofs.YtgibjnfaagnbfadGreatDoor
