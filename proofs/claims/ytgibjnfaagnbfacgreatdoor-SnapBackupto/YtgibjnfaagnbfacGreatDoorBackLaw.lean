/-
  The law over texts that come back.
-/
import Derived.Test.YtgibjnfaagnbfacGreatDoorBackPure
import Derived.Test.YtgibjnfaagnbfacGreatDoorGlue
namespace Go.Proofs.YtgibjnfaagnbfacGreatDoor
open Go.RowKit

theorem dir_le (p : List UInt8) : (dir p).length ≤ p.length := by
  cases p with
  | nil => exact Nat.le_of_eq (by decide)
  | cons a r => exact Nat.le_of_lt (dir_lt (by simp))

set_option maxRecDepth 100000 in
set_option maxHeartbeats 8000000 in
theorem back_law {w : World} {v : Value} {l : List Fl} (h : FS w v l) (sm : FSm l) (tt : tot l ≤ 1048576) (E : Env w) (z x : Int) (hx0 : 0 ≤ x) (hx1 : x ≤ 255) :
    Calls Tryz.prog 4 #[v, .int .i64 z, .int .u8 x] w fun e w' => e = .returned (.bool true) ∧ Below w.heap.size w w' := by
  have H : Hid (FS w v l ∧ FSm l ∧ Env w ∧ tot l ≤ 1048576) := ⟨h, sm, E, tt⟩
  obtain ⟨a, c, rfl, _⟩ := h.form
  rename_i q1
  have hlen : l.length ≤ 4194304 := sm.len
  clear h sm tt E q1
  obtain ⟨n, hn⟩ : ∃ n, l.length = n := ⟨_, rfl⟩
  have H' : Hid (FS w (.slice a l.length c) l) := H.out.1
  rw [hn] at H hlen ⊢
  have HN : Hid (l.length = n) := hn
  clear hn
  go_enter Tryz.func4, Tryz.ntmps4
  go_wp2_with fail
  refine (head_any w H.out.2.2.1).mono ?_
  rintro e w1 ⟨rfl, hb1⟩
  have HB1 : Hid (Below w.heap.size w w1) := hb1
  clear hb1
  go_wp2_with fail
  refine (print_any (H.out.1.later HB1.out) H.out.2.1 (H.out.2.2.1.later HB1.out)).mono ?_
  rintro e w2 ⟨rfl, hb⟩
  have HB2 : Hid (Below w.heap.size w w2) := bstep HB1.out hb
  clear hb HB1
  by_cases hv : validE l = 0
  · rw [if_pos hv, hv]
    have HS : Hid (stand l = true) := (validE_zero l).1 hv
    have HV : Hid (validE l = 0) := hv
    clear hv
    obtain ⟨s, hs⟩ : ∃ s, prt l = s := ⟨_, rfl⟩
    rw [hs]
    have HP : Hid (prt l = s ∧ s.length ≤ 4194304) := ⟨hs, by rw [← hs]; exact prt_small HS.out H.out.2.2.2⟩
    have he : (((n : Int) == 0) == s.isEmpty) = true := by
      have h1 := prt_nil l
      rw [hs] at h1
      rw [beq_iff_eq, Bool.eq_iff_iff]
      simp only [beq_iff_eq, List.isEmpty_iff]
      rw [h1, ← List.length_eq_zero_iff, HN.out]
      omega
    have ee := isE s
    clear hs
    go_wp2_with fail
    refine (read_any s HP.out.2 _ (H.out.2.2.1.later HB2.out)).mono ?_
    rintro e w3 ⟨v3, rfl, ho, hb⟩
    have hrd : rd s = some l := by rw [← HP.out.1]; exact rd_prt HS.out
    rw [hrd] at ho ⊢
    have HB3 : Hid (Below w.heap.size w w3 ∧ FS w3 v3 l) := ⟨bstep HB2.out hb, ho.fs⟩
    simp only [Option.isSome_some, if_true]
    clear hb ho hrd HB2
    go_wp2_with fail
    refine (same_any HB3.out.2 (H.out.1.later HB3.out.1) H.out.2.1).mono ?_
    rintro e w4 ⟨rfl, hb⟩
    rw [leq_self]
    have HB4 : Hid (Below w.heap.size w w4) := bstep HB3.out.1 hb
    clear hb HB3
    go_wp2_with fail
    refine (valid2_any (H.out.1.later HB4.out) H.out.2.1).mono ?_
    rintro e w5 ⟨rfl, hb⟩
    rw [HV.out]
    have HB5 : Hid (Below w.heap.size w w5) := bstep HB4.out hb
    clear hb HB4
    go_wp2_with fail
    clear he
    have q1 := neq_run
    have q2 := guard_run
    go_loopw [11] (fun i wr => ∃ k : Nat, k ≤ n ∧ i = .int .i64 k ∧ Below w.heap.size w wr) (fun i _ => n - (intOf i).toNat)
    case atStart => exact ⟨0, by omega, rfl, HB5.out⟩
    case round =>
      rename World => w6
      obtain ⟨k, hk, rfl, hb⟩ := hrel
      have HB6 : Hid (Below w.heap.size w w6) := hb
      clear hb
      by_cases hlt : k < n
      · have hkl : k < l.length := by have := HN.out; omega
        obtain ⟨b, off, ea, hbw, d0, d1, d2, d3⟩ := FS.at H'.out HB6.out hkl
        subst ea
        have HPw : Hid (l.Pairwise (fun a b => fol a.path b.path = true)) := ((stand_iff l).1 HS.out).2.2
        have HF : Hid (fnd l (l[k]'hkl).path = some (l[k]'hkl)) := fnd_each l HPw.out _ (List.getElem_mem _)
        have HM : Hid (l[k]'hkl ∈ l) := List.getElem_mem _
        have hpl : (l[k]'hkl).path.length ≤ 4194304 := (H.out.2.1.at hkl).path
        obtain ⟨f, hf⟩ : ∃ f, l[k] = f := ⟨_, rfl⟩
        rw [hf] at d0 d1 d2 d3 HF HM hpl
        clear hf
        obtain ⟨p, t, bl, sz⟩ := f
        simp only at d0 d1 d2 d3 hpl
        have k1 : (0 : Int) ≤ (k : Int) := by omega
        have k2 : (k : Int) < (n : Int) := by omega
        go_wp2_with fail
        refine (find_any p (H.out.1.later HB6.out) H.out.2.1).mono ?_
        rintro e w7 ⟨rfl, hb⟩
        rw [show fnd l p = some ⟨p, t, bl, sz⟩ from HF.out]
        simp only [fopt, Fl.val, Option.isSome_some]
        have HB7 : Hid (Below w6.heap.size w6 w7) := hb
        have hbr : b < w6.heap.size := Nat.lt_of_lt_of_le hbw HB6.out.size
        have g0 := (hb.cell (p := ⟨b, off + k * 4, none⟩) hbr).trans d0
        have g1 := (hb.cell (p := ⟨b, off + k * 4 + 1, none⟩) hbr).trans d1
        have g2 := (hb.cell (p := ⟨b, off + k * 4 + 2, none⟩) hbr).trans d2
        have g3 := (hb.cell (p := ⟨b, off + k * 4 + 3, none⟩) hbr).trans d3
        have hbr7 : b < w7.heap.size := Nat.lt_of_lt_of_le hbr hb.size
        clear hb d0 d1 d2 d3
        go_wp2_with fail
        obtain ⟨g, hg⟩ : ∃ g, w7.heap.size = g := ⟨_, rfl⟩
        obtain ⟨w8, hw8⟩ : ∃ w8, w7.alloc (.cells #[.string (bs p), .string (bs t), .int .i64 bl, .int .i64 sz] 35) = w8 := ⟨_, rfl⟩
        have FBn : Hid (FB w8 g ⟨p, t, bl, sz⟩) := by rw [← hw8, ← hg]; exact FB.new w7 ⟨p, t, bl, sz⟩ 35
        have HB8 : Hid (Below w7.heap.size w7 w8) := by rw [← hw8]; exact balloc _ _
        have HB68 : Hid (Below w.heap.size w w8) := bstep HB6.out (bstep HB7.out HB8.out)
        rw [hw8, hg]
        clear hw8 hg
        obtain ⟨c0, c1, c2, c3, hlt1⟩ := FBn.out
        simp only at c0 c1 c2 c3
        have y0 : ∀ X : GW w8, X.it.cell? ⟨g, 0, none⟩ = some (.string (bs p)) := fun X => X.cell hlt1 c0
        have y1 : ∀ X : GW w8, X.it.cell? ⟨g, 1, none⟩ = some (.string (bs t)) := fun X => X.cell hlt1 c1
        have y2 : ∀ X : GW w8, X.it.cell? ⟨g, 2, none⟩ = some (.int .i64 bl) := fun X => X.cell hlt1 c2
        have y3 : ∀ X : GW w8, X.it.cell? ⟨g, 3, none⟩ = some (.int .i64 sz) := fun X => X.cell hlt1 c3
        have hbr8 : b < w8.heap.size := Nat.lt_of_lt_of_le hbr7 HB8.out.size
        have hx : ∀ (o : Nat) (v : Value), w7.cell? ⟨b, o, none⟩ = some v → ∀ X : GW w8, X.it.cell? ⟨b, o, none⟩ = some v := fun o v hv X => X.cell (p := ⟨b, o, none⟩) hbr8 ((HB8.out.cell (p := ⟨b, o, none⟩) hbr7).trans hv)
        have x0 := hx _ _ g0
        have x1 := hx _ _ g1
        have x2 := hx _ _ g2
        have x3 := hx _ _ g3
        have xne := gw_ne w8
        clear c0 c1 c2 c3 FBn hx g0 g1 g2 g3
        refine wp_region_grow (by kernel_rfl) (by kernel_rfl) ?_
        repeat (go_big_quiet_step (fail))
        refine wpQuiet_nil ?_
        rintro w9 ⟨⟨w9, bx⟩, rfl⟩
        have HB9 : Hid (Below w.heap.size w w9) := bstep HB68.out bx
        have d0 : w9.cell? ⟨b, off + k * 4, none⟩ = some (.string (bs p)) := x0 ⟨w9, bx⟩
        clear bx y0 y1 y2 y3 x0 x1 x2 x3
        rw [feq_self]
        simp only [Bool.not_true]
        go_wp2_with fail
        refine (rdir_any p _ (by omega)).mono ?_
        rintro e w10 ⟨rfl, rfl⟩
        go_wp2_with fail
        go_loopw [14] (fun o wr => ∃ d : List UInt8, o = .string (bs d) ∧ Below w.heap.size w wr ∧ (d ≠ [] → abvV d p = true) ∧ d.length ≤ p.length) (fun o _ => match o with | .string y => y.size | _ => 0)
        case atStart => exact ⟨dir p, rfl, HB9.out, fun h => abv_dir h, dir_le p⟩
        case round =>
          rename World => w11
          obtain ⟨d, rfl, hb, hab, hdl⟩ := hrel
          have HB11 : Hid (Below w.heap.size w w11) := hb
          have ed := isE d
          clear hb
          cases hde : d.isEmpty
          · rw [hde] at ed
            have hdn : d ≠ [] := by intro e; rw [e] at hde; cases hde
            have HFn : Hid (fnd l d = none) := fnd_above HPw.out HM.out (hab hdn)
            have HAb : Hid (dir d ≠ [] → abvV (dir d) p = true) := fun h => abv_trans (abv_dir h) (hab hdn)
            have HLt : Hid ((dir d).length < d.length) := dir_lt hdn
            clear hab hdn
            go_wp2_with fail
            refine (find_any d (H.out.1.later HB11.out) H.out.2.1).mono ?_
            rintro e w12 ⟨rfl, hb⟩
            rw [HFn.out]
            simp only [fopt, Fl.val, Option.isSome_none, zf]
            have HB12 : Hid (Below w.heap.size w w12) := bstep HB11.out hb
            clear hb
            go_wp2_with fail
            refine (rdir_any d _ (by omega)).mono ?_
            rintro e w13 ⟨rfl, rfl⟩
            go_wp2_with fail
            go_roundw
            case rel => exact ⟨dir d, rfl, bstep HB12.out (balloc _ _), HAb.out, by have := HLt.out; omega⟩
            case measure => exact HLt.out
          · rw [hde] at ed
            clear hab hdl
            go_wp2_with fail
            go_roundw
            case rel => exact ⟨k + 1, by omega, by go_num, HB11.out⟩
            case measure => simp [intOf]; omega
      · obtain rfl : k = n := by omega
        clear q1 q2
        cases hse : s.isEmpty
        · rw [hse] at ee
          have hsn : 0 < s.length := by cases s with | nil => cases hse | cons => simp
          have hsl : s.length ≤ 4194304 := HP.out.2
          have hzs : (bs s).size = s.length := rfl
          obtain ⟨m, hm⟩ : ∃ m, s.length = m := ⟨_, rfl⟩
          have HM : Hid (s.length = m) := hm
          rw [hm] at hsn hsl hzs
          clear hm
          obtain ⟨r, hr⟩ : ∃ r, Int.tmod z (m : Int) = r := ⟨_, rfl⟩
          have hr1 : r < (m : Int) := by rw [← hr]; exact Int.tmod_lt_of_pos z (by omega)
          have hr0 : -(m : Int) < r := by rw [← hr]; exact Int.lt_tmod_of_pos z (by omega)
          have hw : IntKind.i64.wrap r = r := by rw [IntKind.wrap_i64]; omega
          have hm0 : ((m : Int) == 0) = false := by rw [beq_eq_false_iff_ne]; omega
          have hm0' : ¬ (m : Int) = 0 := by omega
          obtain ⟨A, hA, hAr⟩ : ∃ A : Nat, A < m ∧ ((r < 0 ∧ IntKind.i64.wrap (r + (m : Int)) = (A : Int)) ∨ (¬ r < 0 ∧ r = (A : Int))) := by
            by_cases h0 : r < 0
            · exact ⟨(r + m).toNat, by omega, .inl ⟨h0, by rw [IntKind.wrap_i64]; omega⟩⟩
            · exact ⟨r.toNat, by omega, .inr ⟨h0, by omega⟩⟩
          rcases hAr with ⟨h0, h1⟩ | ⟨h0, rfl⟩
          all_goals
            go_wp2_with fail
            clear hr hr1 hr0 hw hm0 hm0' h0
            try clear h1
            go_loopw [17] (fun i wr => ∃ k : Nat, k ≤ 2 ∧ i = .int .i64 k ∧ Below w.heap.size w wr) (fun i _ => 2 - (intOf i).toNat)
            case atStart => exact ⟨0, by omega, rfl, HB6.out⟩
            case round =>
              rename World => w7
              obtain ⟨j, hj, rfl, hb⟩ := hrel
              have HB7 : Hid (Below w.heap.size w w7) := hb
              clear hb
              by_cases hj2 : j < 2
              · have a0 : (0 : Int) ≤ (A : Int) := by omega
                have a1 : (A : Int) ≤ (m : Int) := by omega
                have a2 : IntKind.i64.wrap ((A : Int) + 1) = ((A + 1 : Nat) : Int) := by rw [IntKind.wrap_i64]; omega
                have a3 : (0 : Int) ≤ ((A + 1 : Nat) : Int) := by omega
                have a4 : ((A + 1 : Nat) : Int) ≤ (m : Int) := by omega
                have hj3 : (j : Int) < 2 := by omega
                obtain ⟨xb, rfl⟩ := byte_of hx0 hx1
                obtain ⟨s1, e1⟩ : ∃ s1, s.take A = s1 := ⟨_, rfl⟩
                obtain ⟨s2, e2⟩ : ∃ s2, s.drop (A + 1) = s2 := ⟨_, rfl⟩
                have t0 : (bs s).extract 0 A = bs s1 := by rw [bs_head, e1]
                have t1 : (bs s).extract (A + 1) m = bs s2 := by rw [bs_tail _ _ _ (by have := HM.out; omega), e2]
                have hl1 : s1.length ≤ 4194304 := by rw [← e1]; simp; omega
                have hl2 : s2.length ≤ 4194304 := by rw [← e2]; simp; have := HM.out; omega
                have HL12 : Hid (s1.length + 1 + s2.length = m) := by
                  show _ = _
                  rw [← e1, ← e2]; have := HM.out; simp; omega
                have c1 : (convert 39 9 (.slice (some ⟨w7.heap.size, 0, none⟩) 1 1)).run Tryz.prog (w7.alloc (.cells #[.int .u8 (xb.toNat : Int)] 5)) = .ok (.string (bs [xb])) (w7.alloc (.cells #[.int .u8 (xb.toNat : Int)] 5)) := conv_ys (ys_one w7 xb _ rfl)
                have c2 : (convert 39 9 (.slice (some ⟨w7.heap.size, 0, none⟩) 1 1)).run Tryz.prog (w7.alloc (.cells #[.int .u8 (xb.toNat : Int)] 5)).drew = .ok (.string (bs [xb])) (w7.alloc (.cells #[.int .u8 (xb.toNat : Int)] 5)).drew := conv_ys (ys_one w7 xb _ rfl)
                have n1 : (bs s1).size = s1.length := rfl
                have n2 : (bs s2).size = s2.length := rfl
                have n3 : (bs [xb]).size = 1 := rfl
                have n4 : (bs s1 ++ bs [xb]).size = s1.length + 1 := by rw [bs_app]; show (s1 ++ [xb]).length = _; simp
                go_wp2_with fail
                go_region
                obtain ⟨T, hT⟩ : ∃ T, s1 ++ [xb] ++ s2 = T := ⟨_, rfl⟩
                rw [bs_app, bs_app, hT]
                have HTl : Hid (T.length ≤ 4194304) := by
                  show _ ≤ _
                  have := HL12.out
                  rw [← hT]; simp; omega
                obtain ⟨w8, hw8⟩ : ∃ w8, (w7.alloc (Obj.cells #[Value.int IntKind.u8 (xb.toNat : Int)] 5)).drew = w8 := ⟨_, rfl⟩
                have HB8 : Hid (Below w.heap.size w w8) := by rw [← hw8]; exact bstep HB7.out (balloc _ _).drew
                rw [hw8]
                clear hw8 hT c1 c2
                have hcase : j = 0 ∨ j = 1 := by omega
                rcases hcase with rfl | rfl
                · go_wp2_with fail
                  refine (read_any T HTl.out _ (H.out.2.2.1.later HB8.out)).mono ?_
                  rintro e w9 ⟨v9, rfl, ho, hb⟩
                  have HB9 : Hid (Below w.heap.size w w9) := bstep HB8.out hb
                  obtain ⟨a9, c9, e9⟩ := ho.form
                  subst e9
                  have HO9 : Hid (OwnF w8.heap.size w9 (.slice a9 ((rd T).getD []).length c9) ((rd T).getD [])) := ho
                  clear hb ho
                  obtain ⟨R, hR⟩ : ∃ R, rd T = R := ⟨_, rfl⟩
                  have HR : Hid (rd T = R) := hR
                  rw [hR] at HO9 ⊢
                  clear hR
                  cases R with
                  | none =>
                    simp only [Option.getD_none, Option.isSome_none, List.length_nil, Bool.false_eq_true, if_false]
                    go_wp2_with fail
                    go_roundw
                    case rel => exact ⟨0 + 1, by omega, by go_num, HB9.out⟩
                    case measure => simp [intOf]
                  | some M =>
                    have HMs : Hid (stand M = true ∧ prt M = T) := rd_some HR.out
                    have HFm : Hid (FSm M) := fsm_of HMs.out.1 (by rw [HMs.out.2]; exact HTl.out)
                    have HVM : Hid (validE M = 0) := (validE_zero M).2 HMs.out.1
                    have HSa : Hid (leq M l = (T == s)) := by
                      have := back_same HS.out HR.out
                      rwa [HP.out.1] at this
                    simp only [Option.getD_some, Option.isSome_some, if_true] at HO9 ⊢
                    generalize M.length = n9 at HO9 ⊢
                    go_wp2_with fail
                    refine (print_any HO9.out.fs HFm.out (H.out.2.2.1.later HB9.out)).mono ?_
                    rintro e w10 ⟨rfl, hb⟩
                    rw [if_pos HVM.out, HVM.out, HMs.out.2]
                    have HB10 : Hid (Below w.heap.size w w10 ∧ FS w10 (.slice a9 n9 c9) M) := ⟨bstep HB9.out hb, HO9.out.fs.later hb⟩
                    clear hb
                    have eT := bs_toList T
                    have es := bs_toList s
                    have hTT : (T == T) = true := by simp
                    go_wp2_with fail
                    refine (same_any HB10.out.2 (H.out.1.later HB10.out.1) HFm.out).mono ?_
                    rintro e w11 ⟨rfl, hb⟩
                    rw [HSa.out]
                    have HB11 : Hid (Below w.heap.size w w11) := bstep HB10.out.1 hb
                    clear hb hTT
                    have hqq : ((T == s) == (T == s)) = true := by simp
                    go_wp2_with fail
                    go_roundw
                    case rel => exact ⟨0 + 1, by omega, by go_num, HB11.out⟩
                    case measure => simp [intOf]
                · go_wp2_with fail
                  go_region
                  clear HTl
                  obtain ⟨T, hT⟩ : ∃ T, s1 ++ s2 = T := ⟨_, rfl⟩
                  rw [bs_app, hT]
                  have HTl : Hid (T.length ≤ 4194304) := by
                    show _ ≤ _
                    have := HL12.out
                    rw [← hT]; simp; omega
                  have HB8' : Hid (Below w.heap.size w w8.drew) := HB8.out.drew
                  clear HB8
                  generalize w8.drew = w8 at HB8' ⊢
                  have HB8 : Hid (Below w.heap.size w w8) := HB8'.out
                  clear hT HB8'
                  go_wp2_with fail
                  refine (read_any T HTl.out _ (H.out.2.2.1.later HB8.out)).mono ?_
                  rintro e w9 ⟨v9, rfl, ho, hb⟩
                  have HB9 : Hid (Below w.heap.size w w9) := bstep HB8.out hb
                  obtain ⟨a9, c9, e9⟩ := ho.form
                  subst e9
                  have HO9 : Hid (OwnF w8.heap.size w9 (.slice a9 ((rd T).getD []).length c9) ((rd T).getD [])) := ho
                  clear hb ho
                  obtain ⟨R, hR⟩ : ∃ R, rd T = R := ⟨_, rfl⟩
                  have HR : Hid (rd T = R) := hR
                  rw [hR] at HO9 ⊢
                  clear hR
                  cases R with
                  | none =>
                    simp only [Option.getD_none, Option.isSome_none, List.length_nil, Bool.false_eq_true, if_false]
                    go_wp2_with fail
                    go_roundw
                    case rel => exact ⟨1 + 1, by omega, by go_num, HB9.out⟩
                    case measure => simp [intOf]
                  | some M =>
                    have HMs : Hid (stand M = true ∧ prt M = T) := rd_some HR.out
                    have HFm : Hid (FSm M) := fsm_of HMs.out.1 (by rw [HMs.out.2]; exact HTl.out)
                    have HVM : Hid (validE M = 0) := (validE_zero M).2 HMs.out.1
                    have HSa : Hid (leq M l = (T == s)) := by
                      have := back_same HS.out HR.out
                      rwa [HP.out.1] at this
                    simp only [Option.getD_some, Option.isSome_some, if_true] at HO9 ⊢
                    generalize M.length = n9 at HO9 ⊢
                    go_wp2_with fail
                    refine (print_any HO9.out.fs HFm.out (H.out.2.2.1.later HB9.out)).mono ?_
                    rintro e w10 ⟨rfl, hb⟩
                    rw [if_pos HVM.out, HVM.out, HMs.out.2]
                    have HB10 : Hid (Below w.heap.size w w10 ∧ FS w10 (.slice a9 n9 c9) M) := ⟨bstep HB9.out hb, HO9.out.fs.later hb⟩
                    clear hb
                    have eT := bs_toList T
                    have es := bs_toList s
                    have hTT : (T == T) = true := by simp
                    go_wp2_with fail
                    refine (same_any HB10.out.2 (H.out.1.later HB10.out.1) HFm.out).mono ?_
                    rintro e w11 ⟨rfl, hb⟩
                    rw [HSa.out]
                    have HB11 : Hid (Below w.heap.size w w11) := bstep HB10.out.1 hb
                    clear hb hTT
                    have hqq : ((T == s) == (T == s)) = true := by simp
                    go_wp2_with fail
                    go_roundw
                    case rel => exact ⟨1 + 1, by omega, by go_num, HB11.out⟩
                    case measure => simp [intOf]
              · obtain rfl : j = 2 := by omega
                go_wp2_with fail
                go_ret
                exact ⟨rfl, HB7.out⟩
        · rw [hse] at ee
          go_wp2_with fail
          go_ret
          exact ⟨rfl, HB6.out⟩
  · rw [if_neg hv]
    have hd : (validE l == 0) = false := by simpa using hv
    have HV : Hid (∀ w' : World, Below w.heap.size w w' → Calls Tryz.prog 10 #[.slice a n c] w' fun e w'' => e = .returned (.int .i64 (validE l)) ∧ Below w'.heap.size w' w'') := fun w' hb => valid2_any (H.out.1.later hb) H.out.2.1
    generalize validE l = V at *
    have ee : (bs []).toList.isEmpty = true := by rw [isE]; rfl
    go_wp2_with fail
    refine (HV.out _ HB2.out).mono ?_
    rintro e w3 ⟨rfl, hb⟩
    have HB3 : Hid (Below w.heap.size w w3) := bstep HB2.out hb
    clear hb
    have hVV : (V == V) = true := by simp
    go_wp2_with fail
    go_ret
    exact ⟨rfl, HB3.out⟩
end Go.Proofs.YtgibjnfaagnbfacGreatDoor
