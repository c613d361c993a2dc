/-
  The document's globs and sources.
-/
import Derived.Test.YtddaoloabfkheaaGreatDoorJWord
import Derived.Test.YtddaoloabfkheaaGreatDoorJPrt
namespace Go.Proofs.YtddaoloabfkheaaGreatDoor
open Go.RowKit

def gB (c : UInt8) : Bool := c == 42 || okB c
theorem all_step {l : List UInt8} {k : Nat} (hk : k < l.length) (f : UInt8 → Bool) : (l.take (k + 1)).all f = ((l.take k).all f && f l[k]) := by
  rw [List.take_succ_eq_append_getElem hk, List.all_append]; simp
theorem count_step {l : List UInt8} {k : Nat} (hk : k < l.length) : (l.take (k + 1)).count 42 = (l.take k).count 42 + (if l[k] = 42 then 1 else 0) := by
  rw [List.take_succ_eq_append_getElem hk, List.count_append]
  by_cases h : l[k] = 42 <;> simp [h]
theorem all_false_of {l : List UInt8} {k : Nat} (hk : k < l.length) (f : UInt8 → Bool) (h : f l[k] = false) : l.all f = false := by
  rw [Bool.eq_false_iff]; intro ha
  have := List.all_eq_true.1 ha l[k] (List.getElem_mem hk)
  rw [h] at this; cases this
set_option maxRecDepth 100000 in
set_option maxHeartbeats 8000000 in
theorem rglob_any (p s : List UInt8) (w : World) (hp : p.length ≤ 2000000) (hs : s.length ≤ 2000000) :
    Calls Tryz.prog 132 #[.string (bs p), .string (bs s)] w fun e w' => e = .returned (.bool (rGlb p s)) ∧ Below w.heap.size w w' := by
  have HB : Hid (Calls Tryz.prog 83 #[.string (bs s)] w fun e w' => e = .returned (.string (bs (base s))) ∧ w' = w) := rbase_any s w (by omega)
  have HD : Hid (Calls Tryz.prog 48 #[.string (bs s)] w fun e w' => e = .returned (.string (bs (dir s))) ∧ w' = w) := rdir_any s w (by omega)
  have hbl : (base s).length ≤ s.length := by unfold base; simp
  have hdl : (dir s).length ≤ s.length := by
    unfold dir; split
    · simp
    · simp; omega
  obtain ⟨D, hD⟩ : ∃ D, (if base s = s then [] else dir s) = D := ⟨_, rfl⟩
  have hDl : D.length ≤ 2000000 := by
    rw [← hD]; split
    · simp
    · omega
  have HV : Hid (∀ W : World, Calls Tryz.prog 39 #[.string (bs D)] W fun e w' => e = .returned (.bool (okP D)) ∧ Below W.heap.size W w') := fun W => rvalid_any D W (by omega)
  have hwl : (whl p s).length ≤ 5000000 := by
    unfold whl; split
    · omega
    · simp; omega
  have HSp : Hid (∀ W : World, Calls Tryz.prog 74 #[.string (bs (whl p s))] W fun e w' => ∃ v, e = .returned v ∧ Own W.heap.size w' v (pcs (whl p s)) ∧ Below W.heap.size W w') := fun W => rsplit_any (whl p s) W (by omega)
  have HBy : Hid (∀ (c : UInt8) (W : World), Calls Tryz.prog 100 #[.int .u8 c.toNat] W fun e w' => e = .returned (.bool (okB c)) ∧ w' = W) := fun c W => rbyte_any c W
  obtain ⟨R, hR⟩ : ∃ R, rGlb p s = R := ⟨_, rfl⟩
  rw [hR]
  have HR : Hid (((decide (base s = s) || !decide (dir s = [])) && (base s).all gB && decide ((base s).count 42 = 1) && decide ((base s).length ≤ 32) && okP D && decide ((whl p s).length ≤ 120) && decide ((pcs (whl p s)).length ≤ 12)) = R) := by
    show _ = R
    rw [← hR, ← hD]; rfl
  have HWH : Hid (bs (whl p s) = if p = [] then bs s else bs p ++ ByteArray.mk #[47] ++ bs s) := by
    show bs (whl p s) = _
    unfold whl
    by_cases h0 : p = []
    · rw [if_pos h0, if_pos h0]
    · rw [if_neg h0, if_neg h0]
      show _ = bs p ++ bs [47] ++ bs s
      rw [bs_app, bs_app]; simp
  have z1 : (bs p).size = p.length := rfl
  have z2 : (bs s).size = s.length := rfl
  have e1 := bs_toList s
  have e2 := bs_toList (base s)
  have e3 := bs_toList (dir s)
  have e4 := isE (dir s)
  have e5 := isE p
  have z3 : (bs (base s)).size = (base s).length := rfl
  have z4 : (bs (whl p s)).size = (whl p s).length := rfl
  clear hR
  generalize hb : base s = b at *
  generalize hd : dir s = d at *
  obtain ⟨Wh, hWh⟩ : ∃ Wh, whl p s = Wh := ⟨_, rfl⟩
  rw [hWh] at HSp HR HWH z4 hwl
  clear hWh hb hd
  by_cases hbs : b = s
  rotate_left
  · have g1 : (b == s) = false := by simpa using hbs
    rw [if_neg hbs] at hD
    subst hD
    by_cases hde : d = []
    · obtain rfl : R = false := by rw [← HR.out, decide_eq_false hbs, decide_eq_true hde]; simp
      have i0 : d.isEmpty = true := by rw [hde]; rfl
      rw [i0] at e4
      clear HR hbs
      have HDE : Hid (d = []) := hde
      clear hde
      go_enter Tryz.func132, Tryz.ntmps132
      go_wp2_with fail
      refine HB.out.mono ?_
      rintro e w1 ⟨rfl, hw1⟩
      obtain rfl : w = w1 := hw1.symm
      go_wp2_with fail
      refine HD.out.mono ?_
      rintro e w2 ⟨rfl, hw2⟩
      obtain rfl : w = w2 := hw2.symm
      go_wp2_with fail
      go_ret
      exact ⟨rfl, Below.refl _ _⟩
    · have HR2 : Hid ((b.all gB && decide (b.count 42 = 1) && decide (b.length ≤ 32) && okP d && decide (Wh.length ≤ 120) && decide ((pcs Wh).length ≤ 12)) = R) := by
        show _ = R
        rw [← HR.out, decide_eq_false hbs, decide_eq_false hde]; simp
      have i0 : d.isEmpty = false := by cases d; exact absurd rfl hde; rfl
      rw [i0] at e4
      clear HR hbs hde
      go_enter Tryz.func132, Tryz.ntmps132
      go_wp2_with fail
      refine HB.out.mono ?_
      rintro e w1 ⟨rfl, hw1⟩
      obtain rfl : w = w1 := hw1.symm
      go_wp2_with fail
      refine HD.out.mono ?_
      rintro e w2 ⟨rfl, hw2⟩
      obtain rfl : w = w2 := hw2.symm
      clear HB HD
      go_wp2_with fail
      go_loop [7, 8] (fun c i => ∃ k : Nat, k ≤ b.length ∧ i = .int .i64 k ∧ c = .int .i64 ((b.take k).count 42 : Nat) ∧ (b.take k).all gB = true) (fun _ i => b.length - (intOf i).toNat)
      case atStart => exact ⟨0, Nat.zero_le _, rfl, rfl, rfl⟩
      case round =>
        obtain ⟨k, hk, rfl, rfl, hall⟩ := hrel
        have HA : Hid ((b.take k).all gB = true) := hall
        clear hall
        have hcl : (b.take k).count 42 ≤ k := Nat.le_trans List.count_le_length (by simp; omega)
        by_cases hlt : k < b.length
        · have i1 : (0 : Int) ≤ (k : Int) := by omega
          have i2 : (k : Int) < (b.length : Int) := by omega
          have hkz : k < (bs b).size := hlt
          have hbk : (bs b)[k]'hkz = b[k] := bs_get _ _ _ hlt
          have HS1 : Hid ((b.take (k + 1)).all gB = ((b.take k).all gB && gB b[k])) := all_step hlt gB
          have HC1 : Hid ((b.take (k + 1)).count 42 = (b.take k).count 42 + (if b[k] = 42 then 1 else 0)) := count_step hlt
          by_cases h42 : b[k] = 42
          · have q1 : ((((bs b)[k]'hkz).toNat : Int) == 42) = true := by rw [hbk, h42]; rfl
            have HS2 : Hid ((b.take (k + 1)).all gB = true) := by
              show _ = true
              rw [HS1.out, HA.out, h42]; rfl
            have HC2 : Hid ((b.take (k + 1)).count 42 = (b.take k).count 42 + 1) := by
              show _ = _
              rw [HC1.out, if_pos h42]
            clear h42 hbk HS1 HC1
            generalize (b.take k).count 42 = n0 at *
            go_wp2_with fail
            go_round
            case rel => exact ⟨k + 1, hlt, rfl, by rw [HC2.out]; rfl, HS2.out⟩
            case measure => simp only [intOf]; omega
          · have q1 : ((((bs b)[k]'hkz).toNat : Int) == 42) = false := by
              rw [hbk, beq_eq_false_iff_ne]; intro e; apply h42; apply UInt8.toNat_inj.1; exact Int.ofNat.inj e
            have HBk : Hid (∀ W : World, Calls Tryz.prog 100 #[.int .u8 ((bs b)[k]'hkz).toNat] W fun e w' => e = .returned (.bool (okB b[k])) ∧ w' = W) := fun W => by rw [hbk]; exact HBy.out b[k] W
            have hg : gB b[k] = okB b[k] := by simp [gB, h42]
            have HC2 : Hid ((b.take (k + 1)).count 42 = (b.take k).count 42) := by
              show _ = _
              rw [HC1.out, if_neg h42]; rfl
            cases ho : okB b[k]
            · obtain rfl : R = false := by
                rw [← HR2.out, all_false_of hlt gB (hg.trans ho)]; simp
              rw [ho] at HBk
              clear h42 hbk HS1 HC1 hg ho HR2
              generalize (b.take k).count 42 = n0 at *
              go_wp2_with fail
              refine (HBk.out _).mono ?_
              rintro e w3 ⟨rfl, rfl⟩
              go_wp2_with fail
              go_ret
              exact ⟨rfl, Below.refl _ _⟩
            · have HS2 : Hid ((b.take (k + 1)).all gB = true) := by
                show _ = true
                rw [HS1.out, HA.out, hg, ho]; rfl
              rw [ho] at HBk
              clear h42 hbk HS1 HC1 hg ho
              generalize (b.take k).count 42 = n0 at *
              go_wp2_with fail
              refine (HBk.out _).mono ?_
              rintro e w3 ⟨rfl, hw3⟩
              obtain rfl : w = w3 := hw3.symm
              go_wp2_with fail
              go_round
              case rel => exact ⟨k + 1, hlt, rfl, by rw [HC2.out], HS2.out⟩
              case measure => simp only [intOf]; omega
        · obtain rfl : k = b.length := by omega
          have HR3 : Hid ((decide (b.count 42 = 1) && decide (b.length ≤ 32) && okP d && decide (Wh.length ≤ 120) && decide ((pcs Wh).length ≤ 12)) = R) := by
            show _ = R
            have ha := HA.out
            rw [List.take_length] at ha
            rw [← HR2.out, ha]; simp
          have hct : (b.take b.length).count 42 = b.count 42 := by rw [List.take_length]
          rw [hct] at hcl ⊢
          clear HA HR2 hct HBy
          generalize b.count 42 = nc at *
          by_cases hp0 : p = []
          · have i5 : p.isEmpty = true := by rw [hp0]; rfl
            rw [i5] at e5
            have HW2 : Hid (bs s = bs Wh) := by show bs s = bs Wh; rw [HWH.out, if_pos hp0]
            clear hp0 HWH
            by_cases hc1 : nc = 1
            rotate_left
            · obtain rfl : R = false := by rw [← HR3.out, decide_eq_false hc1]; simp
              have q1 : (((nc : Nat) : Int) != 1) = true := by simp; omega
              have q2 : (((nc : Nat) : Int) == 1) = false := by simp; omega
              have q3 : (nc == 1) = false := by simpa using hc1
              clear hc1 HR3
              go_wp2_with fail
              go_ret
              exact ⟨rfl, Below.refl _ _⟩
            subst hc1
            by_cases hl32 : b.length ≤ 32
            rotate_left
            · obtain rfl : R = false := by rw [← HR3.out, decide_eq_false hl32]; simp
              have q1 : (32 : Int) < (b.length : Int) := by omega
              clear hl32 HR3
              go_wp2_with fail
              go_ret
              exact ⟨rfl, Below.refl _ _⟩
            have q1 : ¬ (32 : Int) < (b.length : Int) := by omega
            cases hoD : okP d
            · obtain rfl : R = false := by rw [← HR3.out, hoD]; simp
              rw [hoD] at HV
              clear hoD HR3
              go_wp2_with fail
              refine (HV.out _).mono ?_
              rintro e w4 ⟨rfl, hb4⟩
              have B4 : Hid (Below w.heap.size w w4) := hb4
              clear hb4
              go_wp2_with fail
              go_ret
              exact ⟨rfl, B4.out⟩
            rw [hoD] at HV
            have HR4 : Hid ((decide (Wh.length ≤ 120) && decide ((pcs Wh).length ≤ 12)) = R) := by
              show _ = R
              rw [← HR3.out, hoD, decide_eq_true hl32]; simp
            clear hoD HR3 hl32
            by_cases hw120 : Wh.length ≤ 120
            rotate_left
            · obtain rfl : R = false := by rw [← HR4.out, decide_eq_false hw120]; simp
              have q2 : ¬ ((Wh.length : Int) ≤ 120) := by omega
              have q3 : ((bs Wh).size : Int) = (Wh.length : Int) := rfl
              clear hw120 HR4
              go_wp2_with fail
              refine (HV.out _).mono ?_
              rintro e w4 ⟨rfl, hb4⟩
              have B4 : Hid (Below w.heap.size w w4) := hb4
              clear hb4
              rw [HW2.out]
              go_wp2_with fail
              go_ret
              exact ⟨rfl, B4.out⟩
            have q2 : (Wh.length : Int) ≤ 120 := by omega
            obtain ⟨np, hnp⟩ : ∃ np, (pcs Wh).length = np := ⟨_, rfl⟩
            have HNP : Hid ((pcs Wh).length = np ∧ decide (np ≤ 12) = R) := ⟨hnp, by rw [← HR4.out, decide_eq_true hw120, hnp]; simp⟩
            clear hnp HR4 hw120
            go_wp2_with fail
            refine (HV.out _).mono ?_
            rintro e w4 ⟨rfl, hb4⟩
            have B4 : Hid (Below w.heap.size w w4) := hb4
            clear hb4
            rw [HW2.out]
            go_wp2_with fail
            refine (HSp.out _).mono ?_
            rintro e w5 ⟨u, rfl, hu, hb5⟩
            obtain ⟨au, cu, hfu⟩ := hu.frm
            rw [HNP.out.1] at hfu
            subst hfu
            have B5 : Hid (Below w.heap.size w w5) := bstep B4.out hb5
            clear hb5 hu
            go_wp2_with fail
            go_ret
            exact ⟨by rw [← HNP.out.2]; simp; omega, B5.out⟩
          · have i5 : p.isEmpty = false := by cases p; exact absurd rfl hp0; rfl
            rw [i5] at e5
            have HW2 : Hid (bs p ++ ByteArray.mk #[47] ++ bs s = bs Wh) := by show _ = bs Wh; rw [HWH.out, if_neg hp0]
            clear hp0 HWH
            by_cases hc1 : nc = 1
            rotate_left
            · obtain rfl : R = false := by rw [← HR3.out, decide_eq_false hc1]; simp
              have q1 : (((nc : Nat) : Int) != 1) = true := by simp; omega
              have q2 : (((nc : Nat) : Int) == 1) = false := by simp; omega
              have q3 : (nc == 1) = false := by simpa using hc1
              clear hc1 HR3
              go_wp2_with fail
              go_ret
              exact ⟨rfl, Below.refl _ _⟩
            subst hc1
            by_cases hl32 : b.length ≤ 32
            rotate_left
            · obtain rfl : R = false := by rw [← HR3.out, decide_eq_false hl32]; simp
              have q1 : (32 : Int) < (b.length : Int) := by omega
              clear hl32 HR3
              go_wp2_with fail
              go_ret
              exact ⟨rfl, Below.refl _ _⟩
            have q1 : ¬ (32 : Int) < (b.length : Int) := by omega
            cases hoD : okP d
            · obtain rfl : R = false := by rw [← HR3.out, hoD]; simp
              rw [hoD] at HV
              clear hoD HR3
              go_wp2_with fail
              refine (HV.out _).mono ?_
              rintro e w4 ⟨rfl, hb4⟩
              have B4 : Hid (Below w.heap.size w w4) := hb4
              clear hb4
              go_wp2_with fail
              go_ret
              exact ⟨rfl, B4.out⟩
            rw [hoD] at HV
            have HR4 : Hid ((decide (Wh.length ≤ 120) && decide ((pcs Wh).length ≤ 12)) = R) := by
              show _ = R
              rw [← HR3.out, hoD, decide_eq_true hl32]; simp
            clear hoD HR3 hl32
            by_cases hw120 : Wh.length ≤ 120
            rotate_left
            · obtain rfl : R = false := by rw [← HR4.out, decide_eq_false hw120]; simp
              have q2 : ¬ ((Wh.length : Int) ≤ 120) := by omega
              have q3 : ((bs Wh).size : Int) = (Wh.length : Int) := rfl
              clear hw120 HR4
              go_wp2_with fail
              refine (HV.out _).mono ?_
              rintro e w4 ⟨rfl, hb4⟩
              have B4 : Hid (Below w.heap.size w w4) := hb4
              clear hb4
              rw [HW2.out]
              go_wp2_with fail
              go_ret
              exact ⟨rfl, B4.out⟩
            have q2 : (Wh.length : Int) ≤ 120 := by omega
            obtain ⟨np, hnp⟩ : ∃ np, (pcs Wh).length = np := ⟨_, rfl⟩
            have HNP : Hid ((pcs Wh).length = np ∧ decide (np ≤ 12) = R) := ⟨hnp, by rw [← HR4.out, decide_eq_true hw120, hnp]; simp⟩
            clear hnp HR4 hw120
            go_wp2_with fail
            refine (HV.out _).mono ?_
            rintro e w4 ⟨rfl, hb4⟩
            have B4 : Hid (Below w.heap.size w w4) := hb4
            clear hb4
            rw [HW2.out]
            go_wp2_with fail
            refine (HSp.out _).mono ?_
            rintro e w5 ⟨u, rfl, hu, hb5⟩
            obtain ⟨au, cu, hfu⟩ := hu.frm
            rw [HNP.out.1] at hfu
            subst hfu
            have B5 : Hid (Below w.heap.size w w5) := bstep B4.out hb5
            clear hb5 hu
            go_wp2_with fail
            go_ret
            exact ⟨by rw [← HNP.out.2]; simp; omega, B5.out⟩
  · subst hbs
    rw [if_pos rfl] at hD
    subst hD
    have g1 : (b == b) = true := by simp
    have HR2 : Hid ((b.all gB && decide (b.count 42 = 1) && decide (b.length ≤ 32) && okP [] && decide (Wh.length ≤ 120) && decide ((pcs Wh).length ≤ 12)) = R) := by
      show _ = R
      rw [← HR.out, decide_eq_true rfl]; simp
    clear HR
    go_enter Tryz.func132, Tryz.ntmps132
    go_wp2_with fail
    refine HB.out.mono ?_
    rintro e w1 ⟨rfl, hw1⟩
    obtain rfl : w = w1 := hw1.symm
    go_wp2_with fail
    refine HD.out.mono ?_
    rintro e w2 ⟨rfl, hw2⟩
    obtain rfl : w = w2 := hw2.symm
    clear HB HD
    go_wp2_with fail
    go_loop [7, 8] (fun c i => ∃ k : Nat, k ≤ b.length ∧ i = .int .i64 k ∧ c = .int .i64 ((b.take k).count 42 : Nat) ∧ (b.take k).all gB = true) (fun _ i => b.length - (intOf i).toNat)
    case atStart => exact ⟨0, Nat.zero_le _, rfl, rfl, rfl⟩
    case round =>
      obtain ⟨k, hk, rfl, rfl, hall⟩ := hrel
      have HA : Hid ((b.take k).all gB = true) := hall
      clear hall
      have hcl : (b.take k).count 42 ≤ k := Nat.le_trans List.count_le_length (by simp; omega)
      by_cases hlt : k < b.length
      · have i1 : (0 : Int) ≤ (k : Int) := by omega
        have i2 : (k : Int) < (b.length : Int) := by omega
        have hkz : k < (bs b).size := hlt
        have hbk : (bs b)[k]'hkz = b[k] := bs_get _ _ _ hlt
        have HS1 : Hid ((b.take (k + 1)).all gB = ((b.take k).all gB && gB b[k])) := all_step hlt gB
        have HC1 : Hid ((b.take (k + 1)).count 42 = (b.take k).count 42 + (if b[k] = 42 then 1 else 0)) := count_step hlt
        by_cases h42 : b[k] = 42
        · have q1 : ((((bs b)[k]'hkz).toNat : Int) == 42) = true := by rw [hbk, h42]; rfl
          have HS2 : Hid ((b.take (k + 1)).all gB = true) := by
            show _ = true
            rw [HS1.out, HA.out, h42]; rfl
          have HC2 : Hid ((b.take (k + 1)).count 42 = (b.take k).count 42 + 1) := by
            show _ = _
            rw [HC1.out, if_pos h42]
          clear h42 hbk HS1 HC1
          generalize (b.take k).count 42 = n0 at *
          go_wp2_with fail
          go_round
          case rel => exact ⟨k + 1, hlt, rfl, by rw [HC2.out]; rfl, HS2.out⟩
          case measure => simp only [intOf]; omega
        · have q1 : ((((bs b)[k]'hkz).toNat : Int) == 42) = false := by
            rw [hbk, beq_eq_false_iff_ne]; intro e; apply h42; apply UInt8.toNat_inj.1; exact Int.ofNat.inj e
          have HBk : Hid (∀ W : World, Calls Tryz.prog 100 #[.int .u8 ((bs b)[k]'hkz).toNat] W fun e w' => e = .returned (.bool (okB b[k])) ∧ w' = W) := fun W => by rw [hbk]; exact HBy.out b[k] W
          have hg : gB b[k] = okB b[k] := by simp [gB, h42]
          have HC2 : Hid ((b.take (k + 1)).count 42 = (b.take k).count 42) := by
            show _ = _
            rw [HC1.out, if_neg h42]; rfl
          cases ho : okB b[k]
          · obtain rfl : R = false := by
              rw [← HR2.out, all_false_of hlt gB (hg.trans ho)]; simp
            rw [ho] at HBk
            clear h42 hbk HS1 HC1 hg ho HR2
            generalize (b.take k).count 42 = n0 at *
            go_wp2_with fail
            refine (HBk.out _).mono ?_
            rintro e w3 ⟨rfl, rfl⟩
            go_wp2_with fail
            go_ret
            exact ⟨rfl, Below.refl _ _⟩
          · have HS2 : Hid ((b.take (k + 1)).all gB = true) := by
              show _ = true
              rw [HS1.out, HA.out, hg, ho]; rfl
            rw [ho] at HBk
            clear h42 hbk HS1 HC1 hg ho
            generalize (b.take k).count 42 = n0 at *
            go_wp2_with fail
            refine (HBk.out _).mono ?_
            rintro e w3 ⟨rfl, hw3⟩
            obtain rfl : w = w3 := hw3.symm
            go_wp2_with fail
            go_round
            case rel => exact ⟨k + 1, hlt, rfl, by rw [HC2.out], HS2.out⟩
            case measure => simp only [intOf]; omega
      · obtain rfl : k = b.length := by omega
        have HR3 : Hid ((decide (b.count 42 = 1) && decide (b.length ≤ 32) && okP [] && decide (Wh.length ≤ 120) && decide ((pcs Wh).length ≤ 12)) = R) := by
          show _ = R
          have ha := HA.out
          rw [List.take_length] at ha
          rw [← HR2.out, ha]; simp
        have hct : (b.take b.length).count 42 = b.count 42 := by rw [List.take_length]
        rw [hct] at hcl ⊢
        clear HA HR2 hct HBy
        generalize b.count 42 = nc at *
        by_cases hp0 : p = []
        · have i5 : p.isEmpty = true := by rw [hp0]; rfl
          rw [i5] at e5
          have HW2 : Hid (bs b = bs Wh) := by show bs b = bs Wh; rw [HWH.out, if_pos hp0]
          clear hp0 HWH
          by_cases hc1 : nc = 1
          rotate_left
          · obtain rfl : R = false := by rw [← HR3.out, decide_eq_false hc1]; simp
            have q1 : (((nc : Nat) : Int) != 1) = true := by simp; omega
            have q2 : (((nc : Nat) : Int) == 1) = false := by simp; omega
            have q3 : (nc == 1) = false := by simpa using hc1
            clear hc1 HR3
            go_wp2_with fail
            go_ret
            exact ⟨rfl, Below.refl _ _⟩
          subst hc1
          by_cases hl32 : b.length ≤ 32
          rotate_left
          · obtain rfl : R = false := by rw [← HR3.out, decide_eq_false hl32]; simp
            have q1 : (32 : Int) < (b.length : Int) := by omega
            clear hl32 HR3
            go_wp2_with fail
            go_ret
            exact ⟨rfl, Below.refl _ _⟩
          have q1 : ¬ (32 : Int) < (b.length : Int) := by omega
          cases hoD : okP []
          · obtain rfl : R = false := by rw [← HR3.out, hoD]; simp
            rw [hoD] at HV
            clear hoD HR3
            go_wp2_with fail
            refine (HV.out _).mono ?_
            rintro e w4 ⟨rfl, hb4⟩
            have B4 : Hid (Below w.heap.size w w4) := hb4
            clear hb4
            go_wp2_with fail
            go_ret
            exact ⟨rfl, B4.out⟩
          rw [hoD] at HV
          have HR4 : Hid ((decide (Wh.length ≤ 120) && decide ((pcs Wh).length ≤ 12)) = R) := by
            show _ = R
            rw [← HR3.out, hoD, decide_eq_true hl32]; simp
          clear hoD HR3 hl32
          by_cases hw120 : Wh.length ≤ 120
          rotate_left
          · obtain rfl : R = false := by rw [← HR4.out, decide_eq_false hw120]; simp
            have q2 : ¬ ((Wh.length : Int) ≤ 120) := by omega
            have q3 : ((bs Wh).size : Int) = (Wh.length : Int) := rfl
            clear hw120 HR4
            go_wp2_with fail
            refine (HV.out _).mono ?_
            rintro e w4 ⟨rfl, hb4⟩
            have B4 : Hid (Below w.heap.size w w4) := hb4
            clear hb4
            rw [HW2.out]
            go_wp2_with fail
            go_ret
            exact ⟨rfl, B4.out⟩
          have q2 : (Wh.length : Int) ≤ 120 := by omega
          obtain ⟨np, hnp⟩ : ∃ np, (pcs Wh).length = np := ⟨_, rfl⟩
          have HNP : Hid ((pcs Wh).length = np ∧ decide (np ≤ 12) = R) := ⟨hnp, by rw [← HR4.out, decide_eq_true hw120, hnp]; simp⟩
          clear hnp HR4 hw120
          go_wp2_with fail
          refine (HV.out _).mono ?_
          rintro e w4 ⟨rfl, hb4⟩
          have B4 : Hid (Below w.heap.size w w4) := hb4
          clear hb4
          rw [HW2.out]
          go_wp2_with fail
          refine (HSp.out _).mono ?_
          rintro e w5 ⟨u, rfl, hu, hb5⟩
          obtain ⟨au, cu, hfu⟩ := hu.frm
          rw [HNP.out.1] at hfu
          subst hfu
          have B5 : Hid (Below w.heap.size w w5) := bstep B4.out hb5
          clear hb5 hu
          go_wp2_with fail
          go_ret
          exact ⟨by rw [← HNP.out.2]; simp; omega, B5.out⟩
        · have i5 : p.isEmpty = false := by cases p; exact absurd rfl hp0; rfl
          rw [i5] at e5
          have HW2 : Hid (bs p ++ ByteArray.mk #[47] ++ bs b = bs Wh) := by show _ = bs Wh; rw [HWH.out, if_neg hp0]
          clear hp0 HWH
          by_cases hc1 : nc = 1
          rotate_left
          · obtain rfl : R = false := by rw [← HR3.out, decide_eq_false hc1]; simp
            have q1 : (((nc : Nat) : Int) != 1) = true := by simp; omega
            have q2 : (((nc : Nat) : Int) == 1) = false := by simp; omega
            have q3 : (nc == 1) = false := by simpa using hc1
            clear hc1 HR3
            go_wp2_with fail
            go_ret
            exact ⟨rfl, Below.refl _ _⟩
          subst hc1
          by_cases hl32 : b.length ≤ 32
          rotate_left
          · obtain rfl : R = false := by rw [← HR3.out, decide_eq_false hl32]; simp
            have q1 : (32 : Int) < (b.length : Int) := by omega
            clear hl32 HR3
            go_wp2_with fail
            go_ret
            exact ⟨rfl, Below.refl _ _⟩
          have q1 : ¬ (32 : Int) < (b.length : Int) := by omega
          cases hoD : okP []
          · obtain rfl : R = false := by rw [← HR3.out, hoD]; simp
            rw [hoD] at HV
            clear hoD HR3
            go_wp2_with fail
            refine (HV.out _).mono ?_
            rintro e w4 ⟨rfl, hb4⟩
            have B4 : Hid (Below w.heap.size w w4) := hb4
            clear hb4
            go_wp2_with fail
            go_ret
            exact ⟨rfl, B4.out⟩
          rw [hoD] at HV
          have HR4 : Hid ((decide (Wh.length ≤ 120) && decide ((pcs Wh).length ≤ 12)) = R) := by
            show _ = R
            rw [← HR3.out, hoD, decide_eq_true hl32]; simp
          clear hoD HR3 hl32
          by_cases hw120 : Wh.length ≤ 120
          rotate_left
          · obtain rfl : R = false := by rw [← HR4.out, decide_eq_false hw120]; simp
            have q2 : ¬ ((Wh.length : Int) ≤ 120) := by omega
            have q3 : ((bs Wh).size : Int) = (Wh.length : Int) := rfl
            clear hw120 HR4
            go_wp2_with fail
            refine (HV.out _).mono ?_
            rintro e w4 ⟨rfl, hb4⟩
            have B4 : Hid (Below w.heap.size w w4) := hb4
            clear hb4
            rw [HW2.out]
            go_wp2_with fail
            go_ret
            exact ⟨rfl, B4.out⟩
          have q2 : (Wh.length : Int) ≤ 120 := by omega
          obtain ⟨np, hnp⟩ : ∃ np, (pcs Wh).length = np := ⟨_, rfl⟩
          have HNP : Hid ((pcs Wh).length = np ∧ decide (np ≤ 12) = R) := ⟨hnp, by rw [← HR4.out, decide_eq_true hw120, hnp]; simp⟩
          clear hnp HR4 hw120
          go_wp2_with fail
          refine (HV.out _).mono ?_
          rintro e w4 ⟨rfl, hb4⟩
          have B4 : Hid (Below w.heap.size w w4) := hb4
          clear hb4
          rw [HW2.out]
          go_wp2_with fail
          refine (HSp.out _).mono ?_
          rintro e w5 ⟨u, rfl, hu, hb5⟩
          obtain ⟨au, cu, hfu⟩ := hu.frm
          rw [HNP.out.1] at hfu
          subst hfu
          have B5 : Hid (Below w.heap.size w w5) := bstep B4.out hb5
          clear hb5 hu
          go_wp2_with fail
          go_ret
          exact ⟨by rw [← HNP.out.2]; simp; omega, B5.out⟩
end Go.Proofs.YtddaoloabfkheaaGreatDoor
