/-
  PlanClean: from its first loop on; the law, from the contracts.
-/
import Derived.Test.YtfdcfcalbongeaaQe
namespace Go.Proofs.Ytfdcfcalbongeaa
open Go.RowKit
attribute [local go_sem] Oper.semAt_some

theorem ownF_emptyC (w : World) (base : Nat) (hb : base ≤ w.heap.size) : OwnF base (w.alloc (.cells #[] 32)) (.slice (some ⟨w.heap.size, 0, none⟩) 0 0) [] :=
  ⟨by simp [fc], .inr ⟨w.heap.size, 0, #[], rfl, hb, heap_alloc_new w _, by simp, by unfold maxLen; omega, by simp, by simp [fc]⟩⟩
set_option maxRecDepth 100000 in
set_option maxHeartbeats 16000000 in
theorem pc5 {lv2 lv3 lv4 lv5 lv6 lv8 lv10 lv11 lv12 lv13 lv14 lv15 lv16 lv17 lv18 lv19 lv20 lv21 lv22 lv23 lv24 lv25 lv26 lv27 lv28 lv29 lv30 lv31 lv32 lv33 lv34 lv35 lv36 lv37 lv38 lv39 lv40 lv41 lv42 lv43 lv44 lv45 lv46 lv47 lv48 lv49 lv50 lv51 lv52 lv53 lv54 lv55 lv56 lv57 lv58 lv59 lv60 lv61 lv62 lv63 lv64 lv65 lv66 lv67 lv68 lv69 lv70 lv71 lv72 lv73 lv74 lv75 lv76 lv77 lv78 lv79 lv80 lv81 lv82 lv83 lv84 lv85 lv86 lv87 lv88 lv89 lv90 lv91 lv92 lv93 lv94 lv95 lv96 lv97 lv98 lv99 lv100 lv101 lv102 lv103 lv104 lv105 lv106 lv107 lv108 lv109 lv110 lv111 lv112 lv113 lv114 lv115 lv116 lv117 lv118 lv119 lv120 lv121 lv122 lv123 lv124 lv125 lv126 lv127 lv128 lv129 lv130 lv131 lv132 lv133 lv134 lv135 lv136 lv137 lv138 lv139 lv140 lv141 lv142 lv143 lv144 lv145 lv146 lv147 lv148 lv149 lv150 lv151 lv152 lv153 lv154 lv155 lv156 lv157 lv158 lv159 lv160 lv161 lv162 lv163 lv164 lv165 lv166 lv167 lv168 lv169 lv170 lv171 lv172 lv173 lv174 lv175 lv176 lv177 lv178 lv179 lv180 lv181 lv182 lv183 lv184 lv185 lv186 lv187 lv188 lv189 lv190 lv191 lv192 lv193 lv194 lv195 lv196 lv197 lv198 lv199 lv200 lv201 lv202 lv203 lv204 lv205 lv206 lv207 lv208 lv209 lv210 lv211 lv212 lv213 lv214 lv215 lv216 lv217 : Value} {w W : World} {fa oa sa da : Option Addr} {fn fcp no oc sn scp dn dcp : Nat} {files old : List Fl} {S : List Sp} {D : List (List UInt8)} (HF : Hid (FS W (.slice fa fn fcp) files ∧ FS W (.slice oa no oc) old ∧ files.length = fn ∧ old.length = no)) (hfn : fn ≤ 1500000) (hon : no ≤ 1500000) (HP : Hid ((∀ f ∈ files, f.path.length ≤ 1500000) ∧ ∀ f ∈ old, f.path.length ≤ 1500000)) (HS : Hid (PS W (.slice sa sn scp) S ∧ S.length = sn ∧ ∀ s ∈ S, s.p.length ≤ 1000000000)) (hsn : sn ≤ 1000000000) (HN : Hid (SS W (.slice da dn dcp) D ∧ D.length = dn ∧ ∀ p ∈ D, p.length ≤ 1000000000)) (hdn : dn ≤ 1000000000) (HB : Hid (Below w.heap.size w W)) (HD : Hid (∀ f ∈ files ++ old, chg files old f.path = true → stn S f.path = decide (f.path ∈ D))) (HU : Hid (Up D ∧ ∀ p ∈ D, chg files old p = true)) :
    Code.wp Try.prog (suff 5 (Try.f3.body.getD .skip)) (bodyPost Try.prog Try.f3 (Good w)) ⟨#[.slice fa fn fcp, .slice oa no oc, lv2, lv3, lv4, lv5, lv6, .slice sa sn scp, lv8, .slice da dn dcp, lv10, lv11, lv12, lv13, lv14, lv15, lv16, lv17, lv18, lv19, lv20, lv21, lv22, lv23, lv24, lv25, lv26, lv27, lv28, lv29, lv30, lv31, lv32, lv33, lv34, lv35, lv36, lv37, lv38, lv39, lv40, lv41, lv42, lv43, lv44, lv45, lv46, lv47, lv48, lv49, lv50, lv51, lv52, lv53, lv54, lv55, lv56, lv57, lv58, lv59, lv60, lv61, lv62, lv63, lv64, lv65, lv66, lv67, lv68, lv69, lv70, lv71, lv72, lv73, lv74, lv75, lv76, lv77, lv78, lv79, lv80, lv81, lv82, lv83, lv84, lv85, lv86, lv87, lv88, lv89, lv90, lv91, lv92, lv93, lv94, lv95, lv96, lv97, lv98, lv99, lv100, lv101, lv102, lv103, lv104, lv105, lv106, lv107, lv108, lv109, lv110, lv111, lv112, lv113, lv114, lv115, lv116, lv117, lv118, lv119, lv120, lv121, lv122, lv123, lv124, lv125, lv126, lv127, lv128, lv129, lv130, lv131, lv132, lv133, lv134, lv135, lv136, lv137, lv138, lv139, lv140, lv141, lv142, lv143, lv144, lv145, lv146, lv147, lv148, lv149, lv150, lv151, lv152, lv153, lv154, lv155, lv156, lv157, lv158, lv159, lv160, lv161, lv162, lv163, lv164, lv165, lv166, lv167, lv168, lv169, lv170, lv171, lv172, lv173, lv174, lv175, lv176, lv177, lv178, lv179, lv180, lv181, lv182, lv183, lv184, lv185, lv186, lv187, lv188, lv189, lv190, lv191, lv192, lv193, lv194, lv195, lv196, lv197, lv198, lv199, lv200, lv201, lv202, lv203, lv204, lv205, lv206, lv207, lv208, lv209, lv210, lv211, lv212, lv213, lv214, lv215, lv216, lv217], []⟩ W := by
  conv => arg 2; whnf
  refine wp_seq_k fun KK hKK => ?_
  have HK_ : Hid _ := hKK
  clear hKK
  go_wp2_with fail
  go_loopw [11] (fun i wr => ∃ k : Nat, k ≤ dn ∧ i = .int .i64 k ∧ Below W.heap.size W wr) (fun i _ => dn - (intOf i).toNat)
  case atStart => exact ⟨0, by omega, rfl, Below.refl _ _⟩
  case round =>
    obtain ⟨k, hk, rfl, hbw⟩ := hrel
    have OW : Hid (Below W.heap.size W wr) := hbw
    clear hbw
    by_cases hlt : k < dn
    · have hkl : k < D.length := by have := HN.out.2.1; omega
      obtain ⟨a', c', e', hcl⟩ := HN.out.1.form
      obtain ⟨b, off, ea, hbb, d0⟩ := hcl k hkl
      obtain rfl : da = a' := by injection e'
      have HCL : Hid (∀ i (hi : i < D.length), W.cell? ⟨b, off + i, none⟩ = some (.string (bs D[i]))) := fun i hi => by
        obtain ⟨b', off', ea', _, d'⟩ := hcl i hi
        rw [ea] at ea'
        injection ea' with ea'
        injection ea' with e1 e2 _
        subst e1
        subst e2
        exact d'
      subst ea
      have hmem : D[k] ∈ D := List.getElem_mem _
      have HPL : Hid (D[k].length ≤ 1000000000 ∧ chg files old D[k] = true) := ⟨HN.out.2.2 _ hmem, HU.out.2 _ hmem⟩
      clear hmem e' hcl
      have HPV : Hid (∀ j, j + 1 = k → ∃ q c, W.cell? ⟨b, off + j, none⟩ = some (.string (bs q)) ∧ cmpP (pcs q) (pcs D[k]) = c ∧ c < 0 ∧ q.length ≤ 1000000000) := fun j hj => by
        have hjl : j < D.length := by omega
        exact ⟨D[j], _, HCL.out j hjl, rfl, up_get HU.out.1 (by omega) hkl, HN.out.2.2 _ (List.getElem_mem _)⟩
      obtain ⟨p, hp⟩ : ∃ p, D[k] = p := ⟨_, rfl⟩
      rw [hp] at d0 HPL HPV
      clear hp HCL
      have HD0 : Hid (W.cell? ⟨b, off + k, none⟩ = some (.string (bs p))) := d0
      have d0 := (OW.out.cell (p := ⟨b, off + k, none⟩) hbb).trans d0
      have k1 : (0 : Int) ≤ (k : Int) := by omega
      have k2 : (k : Int) < (dn : Int) := by omega
      have hch := chg_eq files old p
      rw [HPL.out.2] at hch
      have F1 : Hid (∀ V, Below W.heap.size W V → Calls Try.prog 9 #[.slice fa fn fcp, .string (bs p)] V fun e w' => e = .returned (.tuple #[(fopt (fnd files p)).val, .bool (fnd files p).isSome]) ∧ Below V.heap.size V w') := fun V h => lfind_any p (HF.out.1.later h) (by have := HF.out.2.2.1; omega)
      have F2 : Hid (∀ V, Below W.heap.size W V → Calls Try.prog 9 #[.slice oa no oc, .string (bs p)] V fun e w' => e = .returned (.tuple #[(fopt (fnd old p)).val, .bool (fnd old p).isSome]) ∧ Below V.heap.size V w') := fun V h => lfind_any p (HF.out.2.1.later h) (by have := HF.out.2.2.2; omega)
      obtain ⟨f1, hf1⟩ : ∃ x, fopt (fnd files p) = x := ⟨_, rfl⟩
      obtain ⟨f2, hf2⟩ : ∃ x, fopt (fnd old p) = x := ⟨_, rfl⟩
      obtain ⟨b1, hb1⟩ : ∃ x, (fnd files p).isSome = x := ⟨_, rfl⟩
      obtain ⟨b2, hb2⟩ : ∃ x, (fnd old p).isSome = x := ⟨_, rfl⟩
      rw [hf1, hb1] at F1
      rw [hf2, hb2] at F2
      rw [hf1, hf2, hb1, hb2] at hch
      clear hf1 hf2 hb1 hb2
      obtain ⟨p1, t1, l1, s1⟩ := f1
      obtain ⟨p2, t2, l2, s2⟩ := f2
      obtain ⟨x, hx⟩ : ∃ x, feq ⟨p1, t1, l1, s1⟩ ⟨p2, t2, l2, s2⟩ = x := ⟨_, rfl⟩
      rw [hx] at hch
      have q1 : ∀ V, (binOp .eql 32 (.agg #[.string (bs p1), .string (bs t1), .int .i64 l1, .int .i64 s1]) (.agg #[.string (bs p2), .string (bs t2), .int .i64 l2, .int .i64 s2])).run Try.prog V = .ok (.bool x) V := fun V => by rw [feql_run, hx]
      have q2 := fguard_run
      have HCH : Hid (true = ((b1 != b2) || !x)) := hch
      have CE : Hid (∀ V, Below W.heap.size W V → V.cell? ⟨b, off + k, none⟩ = some (.string (bs p))) := fun V h => (h.cell (p := ⟨b, off + k, none⟩) hbb).trans HD0.out
      clear hch hx
      go_wp2_with fail
      refine (F1.out _ OW.out).mono ?_
      rintro e w1 ⟨rfl, hb1⟩
      simp only [Fl.val]
      obtain ⟨wa, hwa⟩ : ∃ x, w1.alloc (.cells #[.string (bs p1), .string (bs t1), .int .i64 l1, .int .i64 s1] 32) = x := ⟨_, rfl⟩
      obtain ⟨ga, hga⟩ : ∃ x, w1.heap.size = x := ⟨_, rfl⟩
      have RA : RBf wa ga ⟨p1, t1, l1, s1⟩ := by rw [← hwa, ← hga]; exact RBf.new w1 ⟨p1, t1, l1, s1⟩
      have OA : Hid (Below W.heap.size W wa) := bstep (bstep OW.out hb1) (hwa ▸ balloc _ _)
      have HRA : Hid (RBf wa ga ⟨p1, t1, l1, s1⟩) := RA
      have xa := CE.out wa OA.out
      clear hb1 RA d0
      go_wp2_with fail
      clear hwa hga
      refine (F2.out _ OA.out).mono ?_
      rintro e w2 ⟨rfl, hb2⟩
      simp only [Fl.val]
      obtain ⟨wb, hwb⟩ : ∃ x, w2.alloc (.cells #[.string (bs p2), .string (bs t2), .int .i64 l2, .int .i64 s2] 32) = x := ⟨_, rfl⟩
      obtain ⟨gb, hgb⟩ : ∃ x, w2.heap.size = x := ⟨_, rfl⟩
      have RB : RBf wb gb ⟨p2, t2, l2, s2⟩ := by rw [← hwb, ← hgb]; exact RBf.new w2 ⟨p2, t2, l2, s2⟩
      have bab : Below wa.heap.size wa wb := bstep hb2 (hwb ▸ balloc _ _)
      have OB : Hid (Below W.heap.size W wb) := bstep OA.out bab
      have RA := HRA.out.later bab
      obtain ⟨m0, m1, m2, m3, -, -, -, -⟩ := RA.cells
      obtain ⟨r0, r1, r2, r3, -, -, -, -⟩ := RB.cells
      have la := RA.lt
      have lb := RB.lt
      have m0g : ∀ Y : GW wb, Y.it.cell? ⟨ga, 0, none⟩ = some (.string (bs p1)) := fun Y => Y.cell la m0
      have m1g : ∀ Y : GW wb, Y.it.cell? ⟨ga, 1, none⟩ = some (.string (bs t1)) := fun Y => Y.cell la m1
      have m2g : ∀ Y : GW wb, Y.it.cell? ⟨ga, 2, none⟩ = some (.int .i64 l1) := fun Y => Y.cell la m2
      have m3g : ∀ Y : GW wb, Y.it.cell? ⟨ga, 3, none⟩ = some (.int .i64 s1) := fun Y => Y.cell la m3
      have r0g : ∀ Y : GW wb, Y.it.cell? ⟨gb, 0, none⟩ = some (.string (bs p2)) := fun Y => Y.cell lb r0
      have r1g : ∀ Y : GW wb, Y.it.cell? ⟨gb, 1, none⟩ = some (.string (bs t2)) := fun Y => Y.cell lb r1
      have r2g : ∀ Y : GW wb, Y.it.cell? ⟨gb, 2, none⟩ = some (.int .i64 l2) := fun Y => Y.cell lb r2
      have r3g : ∀ Y : GW wb, Y.it.cell? ⟨gb, 3, none⟩ = some (.int .i64 s2) := fun Y => Y.cell lb r3
      have bz : b < wb.heap.size := Nat.lt_of_lt_of_le hbb OB.out.size
      have xbg : ∀ Y : GW wb, Y.it.cell? ⟨b, off + k, none⟩ = some (.string (bs p)) := fun Y => Y.cell bz (CE.out wb OB.out)
      have yne := gw_ne wb
      clear hb2 xa RA RB bab m0 m1 m2 m3 r0 r1 r2 r3
      by_cases hk0 : k = 0
      · subst hk0
        clear hlt HPV la lb bz
        by_cases hb12 : b1 = b2
        · subst hb12
          obtain rfl : x = false := bools2 HCH.out
          have tt : (b1 == b1) = true := by cases b1 <;> rfl
          go_wp2_with fail
          refine wp_region_grow (by kernel_rfl) (by kernel_rfl) ?_
          repeat (go_big_quiet_step (fail))
          refine wpQuiet_nil ?_
          rintro w6 ⟨⟨w6, bx⟩, rfl⟩
          have B6 : Hid (Below W.heap.size W w6) := bstep OB.out bx
          clear bx
          go_wp2_with fail
          go_roundw
          case rel => exact ⟨0 + 1, by omega, by go_num, B6.out⟩
          case measure => simp [intOf]; omega
        · have tt : (b1 == b2) = false := by simpa using hb12
          clear hb12
          go_wp2_with fail
          refine wp_region_grow (by kernel_rfl) (by kernel_rfl) ?_
          repeat (go_big_quiet_step (fail))
          refine wpQuiet_nil ?_
          rintro w6 ⟨⟨w6, bx⟩, rfl⟩
          have B6 : Hid (Below W.heap.size W w6) := bstep OB.out bx
          clear bx
          go_wp2_with fail
          go_roundw
          case rel => exact ⟨0 + 1, by omega, by go_num, B6.out⟩
          case measure => simp [intOf]; omega
      · obtain ⟨j, hj⟩ : ∃ j, j + 1 = k := ⟨k - 1, by omega⟩
        obtain ⟨q, c, hq0, hcc, hc0, hql⟩ := HPV.out j hj
        have HCM : Hid (∀ Y : GW wb, Calls Try.prog 10 #[.string (bs q), .string (bs p)] Y.it fun e w' => e = .returned (.int .i64 c) ∧ ∃ X : GW wb, w' = X.it) := fun Y => (rcmp_any q p Y.it hql HPL.out.1).mono fun _ w' ⟨he, hl⟩ => ⟨by rw [← hcc]; exact he, ⟨w', bstep Y.below hl⟩, rfl⟩
        have xjg : ∀ Y : GW wb, Y.it.cell? ⟨b, off + j, none⟩ = some (.string (bs q)) := fun Y => Y.cell bz ((OB.out.cell (p := ⟨b, off + j, none⟩) hbb).trans hq0)
        have hwr : IntKind.i64.wrap ((k : Int) - 1) = (j : Int) := by rw [IntKind.wrap_i64]; omega
        have j1 : (0 : Int) ≤ (j : Int) := by omega
        have j2 : (j : Int) < (dn : Int) := by omega
        have j3 : (0 : Int) < (k : Int) := by omega
        have j4 : 0 < k := by omega
        have c2 : decide ((0 : Int) ≤ c) = false := decide_eq_false (by omega)
        have c3 : decide (c < (0 : Int)) = true := decide_eq_true hc0
        clear hq0 hcc hql hj HPV la lb bz hk0 hc0
        by_cases hb12 : b1 = b2
        · subst hb12
          obtain rfl : x = false := bools2 HCH.out
          have tt : (b1 == b1) = true := by cases b1 <;> rfl
          go_wp2_with fail
          refine wp_region_grow (by kernel_rfl) (by kernel_rfl) ?_
          repeat (go_big_quiet_step (with_reducible exact HCM.out _))
          refine wpQuiet_nil ?_
          rintro w6 ⟨⟨w6, bx⟩, rfl⟩
          have B6 : Hid (Below W.heap.size W w6) := bstep OB.out bx
          clear bx
          go_wp2_with fail
          go_roundw
          case rel => exact ⟨k + 1, by omega, by go_num, B6.out⟩
          case measure => simp [intOf]; omega
        · have tt : (b1 == b2) = false := by simpa using hb12
          clear hb12
          go_wp2_with fail
          refine wp_region_grow (by kernel_rfl) (by kernel_rfl) ?_
          repeat (go_big_quiet_step (with_reducible exact HCM.out _))
          refine wpQuiet_nil ?_
          rintro w6 ⟨⟨w6, bx⟩, rfl⟩
          have B6 : Hid (Below W.heap.size W w6) := bstep OB.out bx
          clear bx
          go_wp2_with fail
          go_roundw
          case rel => exact ⟨k + 1, by omega, by go_num, B6.out⟩
          case measure => simp [intOf]; omega
    · go_wp2_with fail
      refine HK_.out _ _ ?_
      clear HK_
      refine wp_seq_k fun KK hKK => ?_
      have HK_ : Hid _ := hKK
      clear hKK
      have HW : Hid (FS wr (.slice fa fn fcp) files ∧ FS wr (.slice oa no oc) old) := ⟨HF.out.1.later OW.out, HF.out.2.1.later OW.out⟩
      have e1 : files.length ≤ 1500000 := by have := HF.out.2.2.1; omega
      have e2 : old.length ≤ 1500000 := by have := HF.out.2.2.2; omega
      go_wp2_with (first | (at_builtin; refine app_files (base := wr.heap.size) (l := []) (k := files) (ownF_emptyC wr _ (Nat.le_refl _)) (HW.out.1.later (balloc _ _)).src (by simp <;> omega) (by simp <;> omega) rfl (.tmp 113) (.tmp 114) rfl rfl rfl ?_; intro v2 w2 ho2 hg2 hv2; have B2 : Hid (Below wr.heap.size wr w2 ∧ OwnF wr.heap.size w2 v2 files) := ⟨(balloc _ _).grown hg2 (by simp <;> omega) (fun j hj => by simp [Value.ownBlock] at hj; omega), (by simpa using ho2)⟩; have hz2 := B2.out.1.size; clear ho2 hg2 hv2) | (at_builtin; refine app_files (base := wr.heap.size) (l := files) (k := old) B2.out.2 (HW.out.2.later B2.out.1).src (by omega) (by omega) rfl (.tmp 115) (.tmp 116) rfl rfl rfl ?_; intro v3 w3 ho3 hg3 hv3; have B3 : Hid (Below wr.heap.size wr w3 ∧ OwnF wr.heap.size w3 v3 (files ++ old)) := ⟨B2.out.1.grown hg3 (by omega) (fun j hj => (B2.out.2.lt hj).1), ho3⟩; have hz3 := B3.out.1.size; clear ho3 hg3 hv3))
      refine HK_.out _ _ ?_
      clear HK_
      obtain ⟨aa, acp, hv3⟩ := B3.out.2.form
      subst hv3
      have BW : Below W.heap.size W w3 := bstep OW.out B3.out.1
      exact pc13 ⟨HF.out.1.later BW, HF.out.2.1.later BW, by omega, by omega⟩ ⟨B3.out.2.fs, rfl, fun f hf => by
        rcases List.mem_append.1 hf with h | h
        · have := HP.out.1 f h; omega
        · have := HP.out.2 f h; omega⟩ (by rw [List.length_append]; omega) ⟨HS.out.1.later BW, HS.out.2⟩ hsn ⟨HN.out.1.later BW, HN.out.2.1⟩ hdn (bstep HB.out BW) HD
set_option maxRecDepth 100000 in
set_option maxHeartbeats 4000000 in
theorem pclean_law (C : PcP) {w : World} {vf vo vn : Value} {files old now : List Fl} (hf : FS w vf files) (ho : FS w vo old) (hn : FS w vn now) (sf : Fsz files) (so : Fsz old) (sn : Fsz now) :
    Calls Try.prog 3 #[vf, vo, vn] w fun e w' => e = .returned (.bool true) ∧ Below w.heap.size w w' := by
  have M1 : Hid (Calls Try.prog 6 #[vo, vn] w fun e w' => ∃ v, e = .returned (.tuple #[v, .int .i64 (mkE old now)]) ∧ OwS w.heap.size w' v (if mkE old now = 0 then mkS old now else []) ∧ Below w.heap.size w w') := C.mak ho hn so sn
  have M2 : Hid (∀ W, Below w.heap.size w W → Calls Try.prog 7 #[vf, vo, vn] W fun e w' => ∃ v, e = .returned (.tuple #[v, .int .i64 (mkE old now)]) ∧ OwT W.heap.size w' v (if mkE old now = 0 then drt files old now else []) ∧ Below W.heap.size W w') := fun W h => C.dty (hf.later h) (ho.later h) (hn.later h) sf so sn
  have HF0 : Hid (FS w vf files ∧ FS w vo old) := ⟨hf, ho⟩
  obtain ⟨fa, fcp, hvf, _⟩ := hf.form
  obtain ⟨oa, oc, hvo, _⟩ := ho.form
  obtain ⟨fn, hfn⟩ : ∃ x, files.length = x := ⟨_, rfl⟩
  obtain ⟨no, hno⟩ : ∃ x, old.length = x := ⟨_, rfl⟩
  rw [hfn] at hvf
  rw [hno] at hvo
  subst hvf
  subst hvo
  have HF : Hid (FS w (.slice fa fn fcp) files ∧ FS w (.slice oa no oc) old ∧ files.length = fn ∧ old.length = no) := ⟨HF0.out.1, HF0.out.2, hfn, hno⟩
  have HP : Hid ((∀ f ∈ files, f.path.length ≤ 1500000) ∧ ∀ f ∈ old, f.path.length ≤ 1500000) := ⟨sf.pl, so.pl⟩
  have HPL : Hid (∀ s ∈ mkS old now, s.p.length ≤ 1000000000) := mkS_pl so.pl sn.pl
  have n1 : fn ≤ 1500000 := by rw [← hfn]; exact sf.len
  have n2 : no ≤ 1500000 := by rw [← hno]; exact so.len
  rename_i hx1 hx2
  clear hf ho hn sf so sn HF0 hx1 hx2 hfn hno
  by_cases h0 : mkE old now = 0
  · have HL : Hid ((mkS old now).length ≤ 1000000) := mkS_small h0
    rw [if_pos h0, h0] at M1 M2
    have HDF : Hid (∀ f ∈ files ++ old, chg files old f.path = true → stn (mkS old now) f.path = decide (f.path ∈ drt files old now)) := fun f hf hc => by
      have h1 := mem_drt (files := files) (old := old) (now := now) (p := f.path)
      have h2 : f.path ∈ files.map Fl.path ++ old.map Fl.path := by rw [← List.map_append]; exact List.mem_map_of_mem hf
      cases hs : stn (mkS old now) f.path with
      | true => exact (decide_eq_true (h1.2 ⟨h2, hc, hs⟩)).symm
      | false =>
        refine (decide_eq_false fun h => ?_).symm
        have := (h1.1 h).2.2
        rw [hs] at this
        cases this
    have HUF : Hid (Up (drt files old now) ∧ ∀ p ∈ drt files old now, chg files old p = true) := ⟨up_drt _ _ _, fun p hp => (mem_drt.1 hp).2.1⟩
    have HDL : Hid ((drt files old now).length ≤ 3000000 ∧ ∀ p ∈ drt files old now, p.length ≤ 1000000000) := by
      refine ⟨?_, fun p hp => ?_⟩
      · have h1 := List.length_filter_le (fun p => chg files old p && stn (mkS old now) p) (norm (files.map Fl.path ++ old.map Fl.path))
        have h2 := norm_len (files.map Fl.path ++ old.map Fl.path)
        rw [List.length_append, List.length_map, List.length_map] at h2
        have h3 := HF.out.2.2
        unfold drt
        omega
      · have h1 := (mem_drt.1 hp).1
        rcases List.mem_append.1 h1 with h | h
        · obtain ⟨f, hf, rfl⟩ := List.mem_map.1 h; have := HP.out.1 f hf; omega
        · obtain ⟨f, hf, rfl⟩ := List.mem_map.1 h; have := HP.out.2 f hf; omega
    generalize mkS old now = S at M1 HL HPL HDF
    generalize drt files old now = D at M2 HDF HUF HDL
    clear h0
    go_enter Try.func3, Try.ntmps3
    conv => arg 2; whnf
    refine wp_seq_k fun KK hKK => ?_
    have HK_ : Hid _ := hKK
    clear hKK
    go_wp2_with fail
    refine HK_.out _ _ ?_
    clear HK_
    refine wp_seq_k fun KK hKK => ?_
    have HK_ : Hid _ := hKK
    clear hKK
    go_wp2_with fail
    refine M1.out.mono ?_
    rintro e w1 ⟨v1, rfl, hs1, hb1⟩
    have B1 : Hid (Below w.heap.size w w1 ∧ OwS w.heap.size w1 v1 S) := ⟨hb1, hs1⟩
    clear hs1 hb1
    go_wp2_with fail
    refine HK_.out _ _ ?_
    clear HK_
    refine wp_seq_k fun KK hKK => ?_
    have HK_ : Hid _ := hKK
    clear hKK
    go_wp2_with fail
    refine (M2.out _ B1.out.1).mono ?_
    rintro e w2 ⟨v2, rfl, hs2, hb2⟩
    have B2 : Hid (Below w.heap.size w w2 ∧ PS w2 v1 S ∧ SS w2 v2 D) := ⟨bstep B1.out.1 hb2, (B1.out.2.later hb2).ps, hs2.ss⟩
    obtain ⟨da, dcp, hv2⟩ := hs2.len
    obtain ⟨sa, scp, hv1⟩ := B1.out.2.len
    subst hv1
    subst hv2
    clear hs2 hb2 B1
    go_wp2_with fail
    refine HK_.out _ _ ?_
    clear HK_
    refine wp_seq_k fun KK hKK => ?_
    have HK_ : Hid _ := hKK
    clear hKK
    go_wp2_with fail
    refine (known_any C _).mono ?_
    rintro e w3 ⟨rfl, hb3⟩
    have B3 : Hid (Below w.heap.size w w3 ∧ Below w2.heap.size w2 w3) := ⟨bstep B2.out.1 hb3, hb3⟩
    clear hb3
    go_wp2_with fail
    refine HK_.out _ _ ?_
    clear HK_
    exact pc5 ⟨HF.out.1.later B3.out.1, HF.out.2.1.later B3.out.1, HF.out.2.2⟩ n1 n2 HP ⟨B2.out.2.1.later B3.out.2, rfl, HPL.out⟩ (by have := HL.out; omega) ⟨B2.out.2.2.later B3.out.2, rfl, HDL.out.2⟩ (by have := HDL.out.1; omega) B3.out.1 HDF HUF
  · rw [if_neg h0] at M1 M2
    obtain ⟨m, hm⟩ : ∃ m, mkE old now = m := ⟨_, rfl⟩
    rw [hm] at M1 M2 h0
    clear hm HPL
    have hm0 : (m == 0) = false := by simpa using h0
    go_enter Try.func3, Try.ntmps3
    go_wp2_with fail
    refine M1.out.mono ?_
    rintro e w1 ⟨v1, rfl, hs1, hb1⟩
    have B1 : Hid (Below w.heap.size w w1) := hb1
    clear hs1 hb1
    go_wp2_with fail
    refine (M2.out _ B1.out).mono ?_
    rintro e w2 ⟨v2, rfl, hs2, hb2⟩
    have B2 : Hid (Below w.heap.size w w2) := bstep B1.out hb2
    obtain ⟨da, dcp, hv2⟩ := hs2.len
    subst hv2
    clear hs2 hb2
    go_wp2_with fail
    refine (known_any C _).mono ?_
    rintro e w3 ⟨rfl, hb3⟩
    have B3 : Hid (Below w.heap.size w w3) := bstep B2.out hb3
    clear hb3
    go_wp2_with fail
    refine (known_any C _).mono ?_
    rintro e w4 ⟨rfl, hb4⟩
    have B4 : Hid (Below w.heap.size w w4) := bstep B3.out hb4
    clear hb4
    go_wp2_with fail
    go_ret
    exact ⟨rfl, B4.out⟩
end Go.Proofs.Ytfdcfcalbongeaa
