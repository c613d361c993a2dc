/-
  The package: a line without its end.
-/
import Derived.Test.YtgibjnfaagnbfadGreatDoorPu
namespace Go.Proofs.YtgibjnfaagnbfadGreatDoor
open Go.RowKit

theorem chop_nil : chop [] = [] := by decide
theorem chop_other (r : List UInt8) (x : UInt8) (h : x ≠ 10) : chop (r ++ [x]) = r ++ [x] := by
  unfold chop Lib.trimSuffix Lib.hasSuffix
  have : ([10] : List UInt8).isSuffixOf (r ++ [x]) = false := by
    rw [Bool.eq_false_iff]
    intro he
    rw [List.isSuffixOf_iff_suffix] at he
    obtain ⟨t, ht⟩ := he
    have := congrArg List.getLast? ht
    simp at this
    exact h this.symm
  rw [this]; rfl

set_option maxRecDepth 100000 in
set_option maxHeartbeats 2000000 in
theorem suf_any (l : List UInt8) (w : World) (hl : l.length ≤ 4194304) : Calls Tryz.prog 77 #[.string (bs l), .string (bs [10])] w fun e w' => e = .returned (.bool (l.getLast? == some 10)) ∧ w' = w := by
  rcases List.eq_nil_or_concat l with rfl | ⟨r, x, rfl⟩
  · have hz : (bs []).size = 0 := rfl
    have hz1 : (bs [10]).size = 1 := rfl
    go_enter Tryz.func77, Tryz.ntmps77
    go_wp2_with fail
    go_ret
    exact ⟨rfl, rfl⟩
  · rw [List.concat_eq_append] at hl ⊢
    obtain ⟨m, hm⟩ : ∃ m, r.length = m := ⟨_, rfl⟩
    have hz : (bs (r ++ [x])).size = m + 1 := by rw [bs_size]; simp [hm]
    have hz1 : (bs [10]).size = 1 := rfl
    have hm2 : m ≤ 4194304 := by simp at hl; omega
    have he : (bs (r ++ [x])).extract m (m + 1) = bs [x] := by
      rw [bs_extract]; congr 1; subst hm; simp
    have hr : ((r ++ [x]).getLast? == some 10) = (x == 10) := by simp
    rw [hr]
    have ht : (bs [x]).toList = [x] := bs_toList [x]
    have ht2 : (bs [10]).toList = [10] := bs_toList [10]
    have hxx : (([x] : List UInt8) == [10]) = (x == 10) := by simp
    generalize bs (r ++ [x]) = S at *
    generalize (x == 10) = q at *
    clear hl hm hr
    go_enter Tryz.func77, Tryz.ntmps77
    go_wp2_with fail
    go_ret
    exact ⟨rfl, rfl⟩

set_option maxRecDepth 100000 in
set_option maxHeartbeats 2000000 in
theorem trim0_any (l : List UInt8) (w : World) (hl : l.length ≤ 4194304) : Calls Tryz.prog 52 #[.string (bs l), .string (bs [10])] w fun e w' => e = .returned (.string (bs (chop l))) ∧ w' = w := by
  have HS : Hid (Calls Tryz.prog 77 #[.string (bs l), .string (bs [10])] w fun e w' => e = .returned (.bool (l.getLast? == some 10)) ∧ w' = w) := suf_any l w hl
  rcases List.eq_nil_or_concat l with rfl | ⟨r, x, rfl⟩
  · have hc := chop_nil
    rw [hc]
    have HS2 : Hid (Calls Tryz.prog 77 #[.string (bs []), .string (bs [10])] w fun e w' => e = .returned (.bool false) ∧ w' = w) := HS.out
    go_enter Tryz.func52, Tryz.ntmps52
    go_wp2_with fail
    refine HS2.out.mono ?_
    rintro e w1 ⟨rfl, rfl⟩
    go_wp2_with fail
    go_ret
    exact ⟨rfl, rfl⟩
  · rw [List.concat_eq_append] at hl HS ⊢
    have hr : ((r ++ [x]).getLast? == some 10) = (x == 10) := by simp
    rw [hr] at HS
    by_cases hx : x = 10
    · subst hx
      rw [chop_end]
      obtain ⟨m, hm⟩ : ∃ m, r.length = m := ⟨_, rfl⟩
      have hz : (bs (r ++ [10])).size = m + 1 := by rw [bs_size]; simp [hm]
      have hz1 : (bs [10]).size = 1 := rfl
      have hm2 : m ≤ 4194304 := by simp at hl; omega
      have he : (bs (r ++ [10])).extract 0 m = bs r := by
        rw [bs_extract]; congr 1; subst hm; simp
      have HS2 : Hid (Calls Tryz.prog 77 #[.string (bs (r ++ [10])), .string (bs [10])] w fun e w' => e = .returned (.bool true) ∧ w' = w) := HS.out
      generalize bs (r ++ [10]) = S at *
      clear hl hm hr HS
      go_enter Tryz.func52, Tryz.ntmps52
      go_wp2_with fail
      refine HS2.out.mono ?_
      rintro e w1 ⟨rfl, rfl⟩
      go_wp2_with fail
      go_ret
      exact ⟨rfl, rfl⟩
    · rw [chop_other r x hx]
      have hx2 : (x == 10) = false := by simpa using hx
      rw [hx2] at HS
      generalize bs (r ++ [x]) = S at *
      clear hl hr hx hx2
      go_enter Tryz.func52, Tryz.ntmps52
      go_wp2_with fail
      refine HS.out.mono ?_
      rintro e w1 ⟨rfl, rfl⟩
      go_wp2_with fail
      go_ret
      exact ⟨rfl, rfl⟩
theorem trim_any (l : List UInt8) (w : World) (hl : l.length ≤ 4194304) : Calls Tryz.prog 30 #[.string (bs l), .string (bs [10])] w fun e w' => e = .returned (.string (bs (chop l))) ∧ w' = w := by
  have HS : Hid (Calls Tryz.prog 52 #[.string (bs l), .string (bs [10])] w fun e w' => e = .returned (.string (bs (chop l))) ∧ w' = w) := trim0_any l w hl
  clear hl
  go_enter Tryz.func30, Tryz.ntmps30
  go_wp2_with fail
  refine HS.out.mono ?_
  rintro e w1 ⟨rfl, rfl⟩
  go_wp2_with fail
  go_ret
  exact ⟨rfl, rfl⟩

/-! ### hexadecimal digits, read -/
theorem unhex_even : ∀ (l t : List UInt8), unhex l = some t → l.length = 2 * t.length
  | [], t, h => by simp [unhex] at h; subst h; rfl
  | [_], t, h => by simp [unhex] at h
  | a :: b :: r, t, h => by
    rw [unhex] at h
    cases hp : pair a b with
    | none => rw [hp] at h; simp at h
    | some n =>
      cases hu : unhex r with
      | none => rw [hp, hu] at h; simp at h
      | some u =>
        rw [hp, hu] at h
        simp at h
        have := unhex_even r u hu
        rw [← h]; simp; omega
theorem unhex_odd {l : List UInt8} (h : l.length % 2 ≠ 0) : unhex l = none := by
  cases hu : unhex l with
  | none => rfl
  | some t => have := unhex_even l t hu; omega
def szOf (v : Value) : Nat := match v with | .string b => b.size | _ => 0
/-- what a text gives behind what is read already -/
def uh (t d : List UInt8) : Option (List UInt8) := match unhex d with | some r => some (t ++ r) | none => none
theorem uh_nil (t : List UInt8) : uh t [] = some t := by simp [uh, unhex]
theorem uh_step (t : List UInt8) (a b : UInt8) (r : List UInt8) : uh t (a :: b :: r) = match pair a b with | some n => uh (t ++ [UInt8.ofNat n]) r | none => none := by
  unfold uh
  rw [unhex]
  cases pair a b <;> cases unhex r <;> simp
theorem pair_lt {a b : UInt8} {n : Nat} (h : pair a b = some n) : n < 256 := by
  unfold pair at h
  cases ha : hv a with
  | none => rw [ha] at h; simp at h
  | some x =>
    cases hb : hv b with
    | none => rw [ha, hb] at h; simp at h
    | some y => rw [ha, hb] at h; simp at h; have := hv_lt ha; have := hv_lt hb; omega

set_option maxRecDepth 100000 in
set_option maxHeartbeats 4000000 in
theorem unhex_any (D : List UInt8) (w : World) (hD : D.length ≤ 4194304) (E : Env w) :
    Calls Tryz.prog 48 #[.string (bs D)] w fun e w' => e = .returned (.tuple #[.string (bs ((unhex D).getD [])), .bool (unhex D).isSome]) ∧ Below w.heap.size w w' := by
  have HE : Hid (Env w) := E
  clear E
  have hz : (bs D).size = D.length := rfl
  by_cases hodd : D.length % 2 = 0
  · obtain ⟨h, hh⟩ : ∃ h, D.length = 2 * h := ⟨D.length / 2, by omega⟩
    obtain ⟨i0, hi, hz0, hz1, hz2⟩ := info_parts info5
    obtain ⟨w1, hmk, hown0, hg0⟩ := run_make_own (P := Tryz.prog) (w := w) w.heap.size 45 5 i0 (.int .u8 0) 1 und45 hi hz0 hz1 .i64 .i64 h (by rw [hz2]; omega) (by unfold maxLen; omega) (Nat.le_refl _)
    have HO : Hid (OwnB w.heap.size w1 (.slice (some ⟨w.heap.size, 0, none⟩) 0 h) []) := hown0
    have HB1 : Hid (Below w.heap.size w w1) := (Below.refl _ _).grown hg0 (Nat.le_refl _) (by simp)
    obtain ⟨n, hn⟩ : ∃ n, D.length = n := ⟨_, rfl⟩
    rw [hn] at hz hD hh
    have q1 : (n : Int).tmod 2 = 0 := by rw [Int.tmod_eq_emod]; split <;> omega
    have q2 : (n : Int).tdiv 2 = (h : Int) := by
      have e : (n : Int) = 2 * (h : Int) := by omega
      rw [e]; exact Int.mul_tdiv_cancel_left _ (by decide)
    obtain ⟨U, hU⟩ : ∃ U, unhex D = U := ⟨_, rfl⟩
    have hU2 : uh [] D = U := by rw [← hU]; unfold uh; cases unhex D <;> simp
    have HU : Hid (uh [] D = U) := hU2
    clear hU2
    rw [hU]
    have HN : Hid (D.length = n) := hn
    clear hown0 hg0 hi hz0 hz1 hz2 hU hn hodd
    have he := isE D
    obtain ⟨A, hA⟩ : ∃ A, Value.tuple #[.string (bs (U.getD [])), .bool U.isSome] = A := ⟨_, rfl⟩
    rw [hA]
    have HA : Hid (Value.tuple #[.string (bs (U.getD [])), .bool U.isSome] = A) := hA
    clear hA
    go_enter Tryz.func48, Tryz.ntmps48
    go_wp2_with fail
    go_loopw [0, 4] (fun s o wr => ∃ (d t : List UInt8), s = .string (bs d) ∧ OwnB w.heap.size wr o t ∧ Below w.heap.size w wr ∧ uh t d = U ∧ d.length + 2 * t.length = n) (fun s _ _ => szOf s)
    case atStart => exact ⟨D, [], rfl, HO.out, HB1.out, HU.out, by have := HN.out; simp; omega⟩
    case round =>
      obtain ⟨d, t, rfl, ho, hb, hu, hl⟩ := hrel
      have HO2 : Hid (OwnB w.heap.size wr u4 t) := ho
      have HB2 : Hid (Below w.heap.size w wr) := hb
      have hsz := hb.size
      have HU2 : Hid (uh t d = U) := hu
      have HL : Hid (d.length + 2 * t.length = n) := hl
      have htl : t.length ≤ 4194304 := by omega
      have ed := isE d
      clear ho hb hu hl hmk
      match d, HU2, HL, ed with
      | [], HU2, HL, ed =>
        have ed' : (bs []).toList.isEmpty = true := ed
        clear ed
        have q := conv_ys HO2.out.ys
        go_wp2_with fail
        go_ret2
        refine ⟨?_, HB2.out⟩
        have h1 := HU2.out
        rw [uh_nil] at h1
        rw [← HA.out, ← h1]; rfl
      | [x], HU2, HL, ed => exact absurd HL.out (by simp; omega)
      | x :: y :: r, HU2, HL, ed =>
        have ed' : (bs (x :: y :: r)).toList.isEmpty = false := ed
        clear ed
        obtain ⟨k, hk⟩ : ∃ k, r.length = k := ⟨_, rfl⟩
        have z1 : (bs (x :: y :: r)).size = k + 2 := by rw [bs_size]; simp [hk]
        have hk2 : k ≤ 4194304 := by have := HL.out; simp at this; omega
        have e1 : (bs (x :: y :: r)).extract 0 2 = bs [x, y] := by rw [bs_extract]; rfl
        have e2 : (bs (x :: y :: r)).extract 2 (k + 2) = bs r := by
          rw [bs_extract]; congr 1; subst hk; simp
        have HS : Hid (∀ v : Value, szOf (.string (bs r)) < szOf (.string (bs (x :: y :: r)))) := fun _ => by
          show (bs r).size < (bs (x :: y :: r)).size
          rw [bs_size, bs_size]; simp; omega
        have HN2 : Hid (r.length + 2 * (t.length + 1) = n) := by have := HL.out; simp at this; show r.length + 2 * (t.length + 1) = n; omega
        have HUS : Hid ((match pair x y with | some m => uh (t ++ [UInt8.ofNat m]) r | none => none) = U) := by
          have h1 := HU2.out; rw [uh_step] at h1; exact h1
        generalize bs (x :: y :: r) = S at *
        clear hk
        go_wp2_with fail
        refine (parse16_any x y wr (HE.out.later HB2.out)).mono ?_
        rintro e w2 ⟨m, ev, rfl, hb2, hcase⟩
        have HB3 : Hid (Below wr.heap.size wr w2) := hb2
        have hsz2 := hb2.size
        clear hb2
        rcases hcase with ⟨m', hp, rfl, rfl⟩ | ⟨hp, t', p', rfl⟩
        · have hm := pair_lt hp
          rw [hp] at HUS
          clear hp
          have qm : IntKind.u8.wrap ((m' : Nat) : Int) = (m' : Int) := by rw [IntKind.wrap_u8]; omega
          have qb : Hid ((m' : Int) = ((UInt8.ofNat m').toNat : Int)) := by
            show (m' : Int) = ((UInt8.ofNat m').toNat : Int)
            simp; omega
          go_wp2_with (at_builtin; refine app_byte (base := w.heap.size) (l := t) (UInt8.ofNat m') (HO2.out.later HB3.out) qb.out (by omega) (by omega) rfl _ _ rfl rfl rfl ?_; intro v5 w5 ho5 hb5 _ _ _)
          go_roundw
          case rel =>
            exact ⟨r, t ++ [UInt8.ofNat m'], rfl, ho5, below_trans (bstep HB2.out HB3.out) hb5, HUS.out, by have := HN2.out; simp; omega⟩
          case measure => exact HS.out (.bool true)
        · rw [hp] at HUS
          clear hp
          go_wp2_with fail
          go_ret2
          refine ⟨?_, bstep HB2.out HB3.out⟩
          rw [← HA.out, ← HUS.out]; rfl
  · rw [unhex_odd hodd]
    obtain ⟨n, hn⟩ : ∃ n, D.length = n := ⟨_, rfl⟩
    rw [hn] at hz hD hodd
    have q1 : (n : Int).tmod 2 = 1 := by rw [Int.tmod_eq_emod]; split <;> omega
    clear hn hodd
    go_enter Tryz.func48, Tryz.ntmps48
    go_wp2_with fail
    go_ret2
    exact ⟨rfl, Below.refl _ _⟩
end Go.Proofs.YtgibjnfaagnbfadGreatDoor
