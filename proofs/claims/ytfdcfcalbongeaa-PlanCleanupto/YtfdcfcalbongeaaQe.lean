/-
  PlanClean: its last loop.
-/
import Derived.Test.YtfdcfcalbongeaaQd
namespace Go.Proofs.Ytfdcfcalbongeaa
open Go.RowKit
attribute [local go_sem] Oper.semAt_some

theorem stn_take (S : List Sp) (p : List UInt8) (k : Nat) (hk : k < S.length) : stn (S.take (k + 1)) p = (stn (S.take k) p || stn1 S[k] p) := by
  unfold stn
  rw [List.take_succ_eq_append_getElem hk, List.any_append]
  simp
theorem bools1 {b c x : Bool} (h : false = ((b != c) || !x)) : b = c ∧ x = true := by
  revert h; cases b <;> cases c <;> cases x <;> decide
theorem bools2 {b x : Bool} (h : true = ((b != b) || !x)) : x = false := by
  revert h; cases b <;> cases x <;> decide
theorem mem_takeD (D : List (List UInt8)) (p : List UInt8) (k : Nat) (hk : k < D.length) : decide (p ∈ D.take (k + 1)) = (decide (p ∈ D.take k) || D[k] == p) := by
  have h : p ∈ D.take (k + 1) ↔ p ∈ D.take k ∨ p = D[k] := by rw [List.take_succ_eq_append_getElem hk, List.mem_append, List.mem_singleton]
  by_cases h2 : D[k] = p
  · rw [decide_eq_true (h.2 (.inr h2.symm)), h2]; simp
  · have h3 : p ∈ D.take (k + 1) ↔ p ∈ D.take k := h.trans ⟨fun a => a.resolve_right fun e => h2 e.symm, .inl⟩
    simp only [h3]
    have : (D[k] == p) = false := by simpa using h2
    rw [this, Bool.or_false]
set_option maxRecDepth 100000 in
set_option maxHeartbeats 16000000 in
theorem pc13 {lv2 lv3 lv4 lv5 lv6 lv8 lv10 lv11 lv12 lv13 lv14 lv15 lv17 lv18 lv19 lv20 lv21 lv22 lv23 lv24 lv25 lv26 lv27 lv28 lv29 lv30 lv31 lv32 lv33 lv34 lv35 lv36 lv37 lv38 lv39 lv40 lv41 lv42 lv43 lv44 lv45 lv46 lv47 lv48 lv49 lv50 lv51 lv52 lv53 lv54 lv55 lv56 lv57 lv58 lv59 lv60 lv61 lv62 lv63 lv64 lv65 lv66 lv67 lv68 lv69 lv70 lv71 lv72 lv73 lv74 lv75 lv76 lv77 lv78 lv79 lv80 lv81 lv82 lv83 lv84 lv85 lv86 lv87 lv88 lv89 lv90 lv91 lv92 lv93 lv94 lv95 lv96 lv97 lv98 lv99 lv100 lv101 lv102 lv103 lv104 lv105 lv106 lv107 lv108 lv109 lv110 lv111 lv112 lv113 lv114 lv115 lv116 lv117 lv118 lv119 lv120 lv121 lv122 lv123 lv124 lv125 lv126 lv127 lv128 lv129 lv130 lv131 lv132 lv133 lv134 lv135 lv136 lv137 lv138 lv139 lv140 lv141 lv142 lv143 lv144 lv145 lv146 lv147 lv148 lv149 lv150 lv151 lv152 lv153 lv154 lv155 lv156 lv157 lv158 lv159 lv160 lv161 lv162 lv163 lv164 lv165 lv166 lv167 lv168 lv169 lv170 lv171 lv172 lv173 lv174 lv175 lv176 lv177 lv178 lv179 lv180 lv181 lv182 lv183 lv184 lv185 lv186 lv187 lv188 lv189 lv190 lv191 lv192 lv193 lv194 lv195 lv196 lv197 lv198 lv199 lv200 lv201 lv202 lv203 lv204 lv205 lv206 lv207 lv208 lv209 lv210 lv211 lv212 lv213 lv214 lv215 lv216 lv217 : Value} {w W : World} {fa oa sa da aa : Option Addr} {fn fcp no oc sn scp dn dcp an acp : Nat} {files old A : List Fl} {S : List Sp} {D : List (List UInt8)} (HF : Hid (FS W (.slice fa fn fcp) files ∧ FS W (.slice oa no oc) old ∧ files.length ≤ 1000000000 ∧ old.length ≤ 1000000000)) (HA : Hid (FS W (.slice aa an acp) A ∧ A.length = an ∧ ∀ f ∈ A, f.path.length ≤ 1000000000)) (han : an ≤ 4000000) (HS : Hid (PS W (.slice sa sn scp) S ∧ S.length = sn ∧ ∀ s ∈ S, s.p.length ≤ 1000000000)) (hsn : sn ≤ 1000000000) (HN : Hid (SS W (.slice da dn dcp) D ∧ D.length = dn)) (hdn : dn ≤ 1000000000) (HB : Hid (Below w.heap.size w W)) (HD : Hid (∀ f ∈ A, chg files old f.path = true → stn S f.path = decide (f.path ∈ D))) :
    Code.wp Try.prog (suff 13 (Try.f3.body.getD .skip)) (bodyPost Try.prog Try.f3 (Good w)) ⟨#[.slice fa fn fcp, .slice oa no oc, lv2, lv3, lv4, lv5, lv6, .slice sa sn scp, lv8, .slice da dn dcp, lv10, lv11, lv12, lv13, lv14, lv15, .slice aa an acp, lv17, lv18, lv19, lv20, lv21, lv22, lv23, lv24, lv25, lv26, lv27, lv28, lv29, lv30, lv31, lv32, lv33, lv34, lv35, lv36, lv37, lv38, lv39, lv40, lv41, lv42, lv43, lv44, lv45, lv46, lv47, lv48, lv49, lv50, lv51, lv52, lv53, lv54, lv55, lv56, lv57, lv58, lv59, lv60, lv61, lv62, lv63, lv64, lv65, lv66, lv67, lv68, lv69, lv70, lv71, lv72, lv73, lv74, lv75, lv76, lv77, lv78, lv79, lv80, lv81, lv82, lv83, lv84, lv85, lv86, lv87, lv88, lv89, lv90, lv91, lv92, lv93, lv94, lv95, lv96, lv97, lv98, lv99, lv100, lv101, lv102, lv103, lv104, lv105, lv106, lv107, lv108, lv109, lv110, lv111, lv112, lv113, lv114, lv115, lv116, lv117, lv118, lv119, lv120, lv121, lv122, lv123, lv124, lv125, lv126, lv127, lv128, lv129, lv130, lv131, lv132, lv133, lv134, lv135, lv136, lv137, lv138, lv139, lv140, lv141, lv142, lv143, lv144, lv145, lv146, lv147, lv148, lv149, lv150, lv151, lv152, lv153, lv154, lv155, lv156, lv157, lv158, lv159, lv160, lv161, lv162, lv163, lv164, lv165, lv166, lv167, lv168, lv169, lv170, lv171, lv172, lv173, lv174, lv175, lv176, lv177, lv178, lv179, lv180, lv181, lv182, lv183, lv184, lv185, lv186, lv187, lv188, lv189, lv190, lv191, lv192, lv193, lv194, lv195, lv196, lv197, lv198, lv199, lv200, lv201, lv202, lv203, lv204, lv205, lv206, lv207, lv208, lv209, lv210, lv211, lv212, lv213, lv214, lv215, lv216, lv217], []⟩ W := by
  conv => arg 2; whnf
  refine wp_seq_k fun KK hKK => ?_
  have HK_ : Hid _ := hKK
  clear hKK
  go_wp2_with fail
  go_loopw [17] (fun i wr => ∃ k : Nat, k ≤ an ∧ i = .int .i64 k ∧ Below W.heap.size W wr) (fun i _ => an - (intOf i).toNat)
  case atStart => exact ⟨0, by omega, rfl, Below.refl _ _⟩
  case round =>
    obtain ⟨k, hk, rfl, hbw⟩ := hrel
    have OW : Hid (Below W.heap.size W wr) := hbw
    clear hbw
    by_cases hlt : k < an
    · have hkl : k < A.length := by have := HA.out.2.1; omega
      obtain ⟨b, off, ea, hbb, d0, -, -, -⟩ := FS.at (c := acp) (by have := HA.out.1; rw [← HA.out.2.1] at this; exact this) OW.out hkl
      subst ea
      have hmem : A[k] ∈ A := List.getElem_mem _
      have HPL : Hid (A[k].path.length ≤ 1000000000) := HA.out.2.2 _ hmem
      have HSD0 : Hid (chg files old A[k].path = true → stn S A[k].path = decide (A[k].path ∈ D)) := HD.out _ hmem
      clear hmem
      obtain ⟨p, hp⟩ : ∃ p, A[k].path = p := ⟨_, rfl⟩
      rw [hp] at d0 HPL HSD0
      clear hp
      have k1 : (0 : Int) ≤ (k : Int) := by omega
      have k2 : (k : Int) < (an : Int) := by omega
      have tp := bs_toList p
      have hch := chg_eq files old p
      have F1 : Hid (∀ V, Below W.heap.size W V → Calls Try.prog 9 #[.slice fa fn fcp, .string (bs p)] V fun e w' => e = .returned (.tuple #[(fopt (fnd files p)).val, .bool (fnd files p).isSome]) ∧ Below V.heap.size V w') := fun V h => lfind_any p (HF.out.1.later h) HF.out.2.2.1
      have F2 : Hid (∀ V, Below W.heap.size W V → Calls Try.prog 9 #[.slice oa no oc, .string (bs p)] V fun e w' => e = .returned (.tuple #[(fopt (fnd old p)).val, .bool (fnd old p).isSome]) ∧ Below V.heap.size V w') := fun V h => lfind_any p (HF.out.2.1.later h) HF.out.2.2.2
      obtain ⟨f1, hf1⟩ : ∃ x, fopt (fnd files p) = x := ⟨_, rfl⟩
      obtain ⟨f2, hf2⟩ : ∃ x, fopt (fnd old p) = x := ⟨_, rfl⟩
      obtain ⟨b1, hb1⟩ : ∃ x, (fnd files p).isSome = x := ⟨_, rfl⟩
      obtain ⟨b2, hb2⟩ : ∃ x, (fnd old p).isSome = x := ⟨_, rfl⟩
      rw [hf1, hb1] at F1
      rw [hf2, hb2] at F2
      rw [hf1, hf2, hb1, hb2] at hch
      clear hf1 hf2 hb1 hb2
      obtain ⟨p1, t1, l1, s1⟩ := f1
      obtain ⟨p2, t2, l2, s2⟩ := f2
      obtain ⟨x, hx⟩ : ∃ x, feq ⟨p1, t1, l1, s1⟩ ⟨p2, t2, l2, s2⟩ = x := ⟨_, rfl⟩
      rw [hx] at hch
      have q1 : ∀ V, (binOp .eql 32 (.agg #[.string (bs p1), .string (bs t1), .int .i64 l1, .int .i64 s1]) (.agg #[.string (bs p2), .string (bs t2), .int .i64 l2, .int .i64 s2])).run Try.prog V = .ok (.bool x) V := fun V => by rw [feql_run, hx]
      have q2 := fguard_run
      have HCH : Hid (chg files old p = ((b1 != b2) || !x)) := hch
      clear hch hx
      go_wp2_with fail
      refine (F1.out _ OW.out).mono ?_
      rintro e w1 ⟨rfl, hb1⟩
      simp only [Fl.val]
      obtain ⟨wa, hwa⟩ : ∃ x, w1.alloc (.cells #[.string (bs p1), .string (bs t1), .int .i64 l1, .int .i64 s1] 32) = x := ⟨_, rfl⟩
      obtain ⟨ga, hga⟩ : ∃ x, w1.heap.size = x := ⟨_, rfl⟩
      have RA : RBf wa ga ⟨p1, t1, l1, s1⟩ := by rw [← hwa, ← hga]; exact RBf.new w1 ⟨p1, t1, l1, s1⟩
      have OA : Hid (Below W.heap.size W wa) := bstep (bstep OW.out hb1) (hwa ▸ balloc _ _)
      have HRA : Hid (RBf wa ga ⟨p1, t1, l1, s1⟩) := RA
      clear hb1 RA
      go_wp2_with fail
      clear hwa hga
      refine (F2.out _ OA.out).mono ?_
      rintro e w2 ⟨rfl, hb2⟩
      simp only [Fl.val]
      obtain ⟨wb, hwb⟩ : ∃ x, w2.alloc (.cells #[.string (bs p2), .string (bs t2), .int .i64 l2, .int .i64 s2] 32) = x := ⟨_, rfl⟩
      obtain ⟨gb, hgb⟩ : ∃ x, w2.heap.size = x := ⟨_, rfl⟩
      have RB : RBf wb gb ⟨p2, t2, l2, s2⟩ := by rw [← hwb, ← hgb]; exact RBf.new w2 ⟨p2, t2, l2, s2⟩
      have bab : Below wa.heap.size wa wb := bstep hb2 (hwb ▸ balloc _ _)
      have OB : Hid (Below W.heap.size W wb) := bstep OA.out bab
      have RA := HRA.out.later bab
      obtain ⟨m0, m1, m2, m3, -, -, -, -⟩ := RA.cells
      obtain ⟨r0, r1, r2, r3, -, -, -, -⟩ := RB.cells
      clear hb2 RA RB bab
      obtain ⟨z, hz⟩ : ∃ z, chg files old p = z := ⟨_, rfl⟩
      cases z with
      | false =>
        obtain ⟨rfl, rfl⟩ : b1 = b2 ∧ x = true := by
          have := HCH.out
          rw [hz] at this
          exact bools1 this
        clear hz HSD0 HCH
        have tt : (b1 == b1) = true := by cases b1 <;> rfl
        go_wp2_with fail
        go_roundw
        case rel => exact ⟨k + 1, by omega, by go_num, OB.out⟩
        case measure => simp [intOf]; omega
      | true =>
        have HSD : Hid (stn S p = decide (p ∈ D)) := HSD0.out hz
        have HCH2 := HCH.out
        rw [hz] at HCH2
        clear hz HSD0 HCH
        by_cases hb12 : b1 = b2
        · subst hb12
          obtain rfl : x = false := bools2 HCH2
          clear HCH2
          have tt : (b1 == b1) = true := by cases b1 <;> rfl
          go_wp2_with fail
          go_loopw [23, 24] (fun bb i wr => ∃ (k : Nat) (nb : Bool), k ≤ sn ∧ bb = .bool nb ∧ i = .int .i64 k ∧ stn (S.take k) p = nb ∧ Below W.heap.size W wr) (fun _ i _ => sn - (intOf i).toNat)
          case atStart => exact ⟨0, false, by omega, rfl, rfl, rfl, OB.out⟩
          case round =>
            obtain ⟨j, nb, hj, rfl, rfl, hnb, hbw⟩ := hrel
            have OW : Hid (Below W.heap.size W wr ∧ stn (S.take j) p = nb) := ⟨hbw, hnb⟩
            clear hnb hbw
            by_cases hjl : j < sn
            · have hkl : j < S.length := by have := HS.out.2.1; omega
              obtain ⟨b, off, ea, hbb, d0, d1, d2, d3, d4, d5⟩ := PS.at (c := scp) (by have := HS.out.1; rw [← HS.out.2.1] at this; exact this) OW.out.1 hkl
              subst ea
              have hql := HS.out.2.2 S[j] (List.getElem_mem _)
              have h2 := stn_take S p j hkl
              rw [OW.out.2] at h2
              generalize hf : S[j] = s at d0 d1 d2 d3 d4 d5 h2 hql
              obtain ⟨kd, q, ⟨fp, ft, fb, fs⟩⟩ := s
              simp only at d0 d1 d2 d3 d4 d5 hql
              have HT2 : Hid (stn (S.take (j + 1)) p = (nb || stn1 ⟨kd, q, ⟨fp, ft, fb, fs⟩⟩ p)) := h2
              clear hf h2
              have j1 : (0 : Int) ≤ (j : Int) := by omega
              have j2 : (j : Int) < (sn : Int) := by omega
              have tq := bs_toList q
              obtain ⟨x1, hx1⟩ : ∃ x, abv (pcs p) (pcs q) = x := ⟨_, rfl⟩
              obtain ⟨x2, hx2⟩ : ∃ x, abv (pcs q) (pcs p) = x := ⟨_, rfl⟩
              have A1 : Hid (∀ W, Calls Try.prog 11 #[.string (bs p), .string (bs q)] W fun e w' => e = .returned (.bool x1) ∧ Below W.heap.size W w') := fun W => by rw [← hx1]; exact rabove_any p q W HPL.out hql
              have A2 : Hid (∀ W, Calls Try.prog 11 #[.string (bs q), .string (bs p)] W fun e w' => e = .returned (.bool x2) ∧ Below W.heap.size W w') := fun W => by rw [← hx2]; exact rabove_any q p W hql HPL.out
              have HX : Hid (abvV p q = x1 ∧ abvV q p = x2) := ⟨(abvV_eq p q).trans hx1, (abvV_eq q p).trans hx2⟩
              clear hx1 hx2
              obtain ⟨wa, hwa⟩ : ∃ x, wr.alloc (.cells #[.int .i64 kd, .string (bs q), .string (bs fp), .string (bs ft), .int .i64 fb, .int .i64 fs] 37) = x := ⟨_, rfl⟩
              obtain ⟨ga, hga⟩ : ∃ x, wr.heap.size = x := ⟨_, rfl⟩
              have hblk : wa.heap[ga]? = some (.cells #[.int .i64 kd, .string (bs q), .string (bs fp), .string (bs ft), .int .i64 fb, .int .i64 fs] 37 (0, 0)) := by rw [← hwa, ← hga]; exact heap_alloc_new _ _
              have BA : Hid (Below W.heap.size W wa ∧ ga < wa.heap.size) := ⟨bstep OW.out.1 (hwa ▸ balloc _ _), (Array.getElem?_eq_some_iff.1 hblk).1⟩
              have CE : Hid (∀ V, Below wa.heap.size wa V → V.cell? ⟨ga, 0, none⟩ = some (.int .i64 kd) ∧ V.cell? ⟨ga, 1, none⟩ = some (.string (bs q))) := fun V h => by
                have e : V.heap[ga]? = wa.heap[ga]? := h.block ga BA.out.2
                rw [hblk] at e
                exact ⟨by simp [World.cell?, e], by simp [World.cell?, e]⟩
              obtain ⟨y0, y1⟩ := CE.out wa (Below.refl _ _)
              clear hblk
              have HA2 : Hid (Calls Try.prog 11 #[.string (bs q), .string (bs p)] wa fun e w' => e = .returned (.bool x2) ∧ Below wa.heap.size wa w') := A2.out wa
              go_wp2_with fail
              refine HA2.out.mono ?_
              rintro e w5 ⟨rfl, hbn⟩
              have Bw5 : Hid (Below wa.heap.size wa w5) := hbn
              clear hbn HA2 y0 y1
              obtain ⟨z0, z1⟩ := CE.out _ Bw5.out
              by_cases h1 : kd = 1
              · subst h1
                cases nb with
                | true =>
                  go_wp2_with fail
                  go_roundw
                  case rel => exact ⟨j + 1, true, by omega, rfl, by go_num, by rw [HT2.out]; simp, bstep BA.out.1 Bw5.out⟩
                  case measure => simp [intOf]; omega
                | false =>
                  by_cases hqp : q = p
                  · have hdq : (q == p) = true := by simpa using hqp
                    have HRT : Hid (stn1 ⟨1, q, ⟨fp, ft, fb, fs⟩⟩ p = true) := by
                      show _ = _
                      unfold stn1
                      simp [hqp]
                    clear hqp
                    go_wp2_with fail
                    go_roundw
                    case rel => exact ⟨j + 1, true, by omega, rfl, by go_num, by rw [HT2.out]; rw [HRT.out]; rfl, bstep BA.out.1 Bw5.out⟩
                    case measure => simp [intOf]; omega
                  · have hdq : (q == p) = false := by simpa using hqp
                    clear hqp
                    have HRT : Hid (stn1 ⟨1, q, ⟨fp, ft, fb, fs⟩⟩ p = (x1 || x2)) := by
                      show _ = _
                      unfold stn1
                      simp [HX.out.1, HX.out.2, hdq]
                    cases x2 with
                    | true =>
                      go_wp2_with fail
                      go_roundw
                      case rel => exact ⟨j + 1, true, by omega, rfl, by go_num, by rw [HT2.out]; rw [HRT.out]; simp, bstep BA.out.1 Bw5.out⟩
                      case measure => simp [intOf]; omega
                    | false =>
                      go_wp2_with fail
                      refine (A1.out _).mono ?_
                      rintro e w6 ⟨rfl, hbn⟩
                      have Bw6 : Hid (Below wa.heap.size wa w6) := bstep Bw5.out hbn
                      clear hbn
                      obtain ⟨u0, u1⟩ := CE.out _ Bw6.out
                      go_wp2_with fail
                      go_roundw
                      case rel => exact ⟨j + 1, x1, by omega, rfl, by go_num, by rw [HT2.out]; rw [HRT.out]; simp, bstep BA.out.1 Bw6.out⟩
                      case measure => simp [intOf]; omega
              · by_cases h4 : kd = 4
                · subst h4
                  cases nb with
                  | true =>
                    go_wp2_with fail
                    go_roundw
                    case rel => exact ⟨j + 1, true, by omega, rfl, by go_num, by rw [HT2.out]; simp, bstep BA.out.1 Bw5.out⟩
                    case measure => simp [intOf]; omega
                  | false =>
                    by_cases hqp : q = p
                    · have hdq : (q == p) = true := by simpa using hqp
                      have HRT : Hid (stn1 ⟨4, q, ⟨fp, ft, fb, fs⟩⟩ p = true) := by
                        show _ = _
                        unfold stn1
                        simp [hqp]
                      clear hqp
                      go_wp2_with fail
                      go_roundw
                      case rel => exact ⟨j + 1, true, by omega, rfl, by go_num, by rw [HT2.out]; rw [HRT.out]; rfl, bstep BA.out.1 Bw5.out⟩
                      case measure => simp [intOf]; omega
                    · have hdq : (q == p) = false := by simpa using hqp
                      clear hqp
                      have HRT : Hid (stn1 ⟨4, q, ⟨fp, ft, fb, fs⟩⟩ p = (x1 || x2)) := by
                        show _ = _
                        unfold stn1
                        simp [HX.out.1, HX.out.2, hdq]
                      cases x2 with
                      | true =>
                        go_wp2_with fail
                        go_roundw
                        case rel => exact ⟨j + 1, true, by omega, rfl, by go_num, by rw [HT2.out]; rw [HRT.out]; simp, bstep BA.out.1 Bw5.out⟩
                        case measure => simp [intOf]; omega
                      | false =>
                        go_wp2_with fail
                        refine (A1.out _).mono ?_
                        rintro e w6 ⟨rfl, hbn⟩
                        have Bw6 : Hid (Below wa.heap.size wa w6) := bstep Bw5.out hbn
                        clear hbn
                        obtain ⟨u0, u1⟩ := CE.out _ Bw6.out
                        go_wp2_with fail
                        go_roundw
                        case rel => exact ⟨j + 1, x1, by omega, rfl, by go_num, by rw [HT2.out]; rw [HRT.out]; simp, bstep BA.out.1 Bw6.out⟩
                        case measure => simp [intOf]; omega
                · have e1 : (kd == 1) = false := by simpa using h1
                  have e4 : (kd == 4) = false := by simpa using h4
                  by_cases h2 : kd = 2
                  · subst h2
                    cases nb with
                    | true =>
                      go_wp2_with fail
                      go_roundw
                      case rel => exact ⟨j + 1, true, by omega, rfl, by go_num, by rw [HT2.out]; simp, bstep BA.out.1 Bw5.out⟩
                      case measure => simp [intOf]; omega
                    | false =>
                      by_cases hqp : q = p
                      · have hdq : (q == p) = true := by simpa using hqp
                        have HRT : Hid (stn1 ⟨2, q, ⟨fp, ft, fb, fs⟩⟩ p = true) := by
                          show _ = _
                          unfold stn1
                          simp [hqp]
                        clear hqp
                        go_wp2_with fail
                        go_roundw
                        case rel => exact ⟨j + 1, true, by omega, rfl, by go_num, by rw [HT2.out]; rw [HRT.out]; rfl, bstep BA.out.1 Bw5.out⟩
                        case measure => simp [intOf]; omega
                      · have hdq : (q == p) = false := by simpa using hqp
                        clear hqp
                        have HRT : Hid (stn1 ⟨2, q, ⟨fp, ft, fb, fs⟩⟩ p = x2) := by
                          show _ = _
                          unfold stn1
                          simp [HX.out.2, hdq]
                        go_wp2_with fail
                        go_roundw
                        case rel => exact ⟨j + 1, x2, by omega, rfl, by go_num, by rw [HT2.out]; rw [HRT.out]; rfl, bstep BA.out.1 Bw5.out⟩
                        case measure => simp [intOf]; omega
                  · have e2 : (kd == 2) = false := by simpa using h2
                    have HRT : Hid (stn1 ⟨kd, q, ⟨fp, ft, fb, fs⟩⟩ p = false) := by
                      show _ = _
                      unfold stn1
                      simp [h1, h2, h4]
                    clear h1 h2 h4
                    go_wp2_with fail
                    go_roundw
                    case rel => exact ⟨j + 1, nb, by omega, rfl, by go_num, by rw [HT2.out]; rw [HRT.out]; simp, bstep BA.out.1 Bw5.out⟩
                    case measure => simp [intOf]; omega
            · obtain rfl : j = sn := by omega
              have HE : Hid (stn S p = nb ∧ Below W.heap.size W wr) := by
                have := OW.out.2
                rw [List.take_of_length_le (by have := HS.out.2.1; omega)] at this
                exact ⟨this, OW.out.1⟩
              clear OW
              go_wp2_with fail
              have OB2 : Hid (Below W.heap.size W wr) := HE.out.2
              have HZ : Hid (nb = decide (p ∈ D)) := by
                show _ = _
                rw [← HE.out.1]; exact HSD.out
              clear HE
              go_loopw [27, 28] (fun bb i wr => ∃ (k : Nat) (tb : Bool), k ≤ dn ∧ bb = .bool tb ∧ i = .int .i64 k ∧ decide (p ∈ D.take k) = tb ∧ Below W.heap.size W wr) (fun _ i _ => dn - (intOf i).toNat)
              case atStart => exact ⟨0, false, by omega, rfl, rfl, by simp, OB2.out⟩
              case round =>
                obtain ⟨m, tb, hm, rfl, rfl, htb, hbw⟩ := hrel
                have OW : Hid (Below W.heap.size W wr ∧ decide (p ∈ D.take m) = tb) := ⟨hbw, htb⟩
                clear htb hbw
                by_cases hml : m < dn
                · have hkl : m < D.length := by have := HN.out.2; omega
                  obtain ⟨a', c', e', hcl⟩ := HN.out.1.form
                  obtain ⟨b, off, ea, hbb, d0⟩ := hcl m hkl
                  obtain rfl : da = a' := by injection e'
                  subst ea
                  have h2 := mem_takeD D p m hkl
                  rw [OW.out.2] at h2
                  have d0 := (OW.out.1.cell (p := ⟨b, off + m, none⟩) hbb).trans d0
                  generalize hf : D[m] = q at d0 h2
                  have HT2 : Hid (decide (p ∈ D.take (m + 1)) = (tb || q == p)) := h2
                  have tq := bs_toList q
                  have j1 : (0 : Int) ≤ (m : Int) := by omega
                  have j2 : (m : Int) < (dn : Int) := by omega
                  clear hf h2 e' hcl
                  obtain ⟨z, hz⟩ : ∃ z, (q == p) = z := ⟨_, rfl⟩
                  rw [hz] at HT2
                  cases tb with
                  | true =>
                    go_wp2_with fail
                    go_roundw
                    case rel => exact ⟨m + 1, true, by omega, rfl, by go_num, by rw [HT2.out]; rfl, OW.out.1⟩
                    case measure => simp [intOf]; omega
                  | false =>
                    go_wp2_with fail
                    go_roundw
                    case rel => exact ⟨m + 1, z, by omega, rfl, by go_num, by rw [HT2.out]; rfl, OW.out.1⟩
                    case measure => simp [intOf]; omega
                · obtain rfl : m = dn := by omega
                  have HE : Hid (tb = nb ∧ Below W.heap.size W wr) := by
                    have := OW.out.2
                    rw [List.take_of_length_le (by have := HN.out.2; omega)] at this
                    exact ⟨by rw [← this, HZ.out], OW.out.1⟩
                  obtain ⟨rfl, OE⟩ : tb = nb ∧ Hid (Below W.heap.size W wr) := HE.out
                  clear HE OW
                  have tt : (tb != tb) = false := by cases tb <;> rfl
                  go_wp2_with fail
                  go_roundw
                  case rel => exact ⟨k + 1, by omega, by go_num, OE.out⟩
                  case measure => simp [intOf]; omega
        · have tt : (b1 == b2) = false := by simpa using hb12
          clear HCH2 hb12
          go_wp2_with fail
          go_loopw [23, 24] (fun bb i wr => ∃ (k : Nat) (nb : Bool), k ≤ sn ∧ bb = .bool nb ∧ i = .int .i64 k ∧ stn (S.take k) p = nb ∧ Below W.heap.size W wr) (fun _ i _ => sn - (intOf i).toNat)
          case atStart => exact ⟨0, false, by omega, rfl, rfl, rfl, OB.out⟩
          case round =>
            obtain ⟨j, nb, hj, rfl, rfl, hnb, hbw⟩ := hrel
            have OW : Hid (Below W.heap.size W wr ∧ stn (S.take j) p = nb) := ⟨hbw, hnb⟩
            clear hnb hbw
            by_cases hjl : j < sn
            · have hkl : j < S.length := by have := HS.out.2.1; omega
              obtain ⟨b, off, ea, hbb, d0, d1, d2, d3, d4, d5⟩ := PS.at (c := scp) (by have := HS.out.1; rw [← HS.out.2.1] at this; exact this) OW.out.1 hkl
              subst ea
              have hql := HS.out.2.2 S[j] (List.getElem_mem _)
              have h2 := stn_take S p j hkl
              rw [OW.out.2] at h2
              generalize hf : S[j] = s at d0 d1 d2 d3 d4 d5 h2 hql
              obtain ⟨kd, q, ⟨fp, ft, fb, fs⟩⟩ := s
              simp only at d0 d1 d2 d3 d4 d5 hql
              have HT2 : Hid (stn (S.take (j + 1)) p = (nb || stn1 ⟨kd, q, ⟨fp, ft, fb, fs⟩⟩ p)) := h2
              clear hf h2
              have j1 : (0 : Int) ≤ (j : Int) := by omega
              have j2 : (j : Int) < (sn : Int) := by omega
              have tq := bs_toList q
              obtain ⟨x1, hx1⟩ : ∃ x, abv (pcs p) (pcs q) = x := ⟨_, rfl⟩
              obtain ⟨x2, hx2⟩ : ∃ x, abv (pcs q) (pcs p) = x := ⟨_, rfl⟩
              have A1 : Hid (∀ W, Calls Try.prog 11 #[.string (bs p), .string (bs q)] W fun e w' => e = .returned (.bool x1) ∧ Below W.heap.size W w') := fun W => by rw [← hx1]; exact rabove_any p q W HPL.out hql
              have A2 : Hid (∀ W, Calls Try.prog 11 #[.string (bs q), .string (bs p)] W fun e w' => e = .returned (.bool x2) ∧ Below W.heap.size W w') := fun W => by rw [← hx2]; exact rabove_any q p W hql HPL.out
              have HX : Hid (abvV p q = x1 ∧ abvV q p = x2) := ⟨(abvV_eq p q).trans hx1, (abvV_eq q p).trans hx2⟩
              clear hx1 hx2
              obtain ⟨wa, hwa⟩ : ∃ x, wr.alloc (.cells #[.int .i64 kd, .string (bs q), .string (bs fp), .string (bs ft), .int .i64 fb, .int .i64 fs] 37) = x := ⟨_, rfl⟩
              obtain ⟨ga, hga⟩ : ∃ x, wr.heap.size = x := ⟨_, rfl⟩
              have hblk : wa.heap[ga]? = some (.cells #[.int .i64 kd, .string (bs q), .string (bs fp), .string (bs ft), .int .i64 fb, .int .i64 fs] 37 (0, 0)) := by rw [← hwa, ← hga]; exact heap_alloc_new _ _
              have BA : Hid (Below W.heap.size W wa ∧ ga < wa.heap.size) := ⟨bstep OW.out.1 (hwa ▸ balloc _ _), (Array.getElem?_eq_some_iff.1 hblk).1⟩
              have CE : Hid (∀ V, Below wa.heap.size wa V → V.cell? ⟨ga, 0, none⟩ = some (.int .i64 kd) ∧ V.cell? ⟨ga, 1, none⟩ = some (.string (bs q))) := fun V h => by
                have e : V.heap[ga]? = wa.heap[ga]? := h.block ga BA.out.2
                rw [hblk] at e
                exact ⟨by simp [World.cell?, e], by simp [World.cell?, e]⟩
              obtain ⟨y0, y1⟩ := CE.out wa (Below.refl _ _)
              clear hblk
              have HA2 : Hid (Calls Try.prog 11 #[.string (bs q), .string (bs p)] wa fun e w' => e = .returned (.bool x2) ∧ Below wa.heap.size wa w') := A2.out wa
              go_wp2_with fail
              refine HA2.out.mono ?_
              rintro e w5 ⟨rfl, hbn⟩
              have Bw5 : Hid (Below wa.heap.size wa w5) := hbn
              clear hbn HA2 y0 y1
              obtain ⟨z0, z1⟩ := CE.out _ Bw5.out
              by_cases h1 : kd = 1
              · subst h1
                cases nb with
                | true =>
                  go_wp2_with fail
                  go_roundw
                  case rel => exact ⟨j + 1, true, by omega, rfl, by go_num, by rw [HT2.out]; simp, bstep BA.out.1 Bw5.out⟩
                  case measure => simp [intOf]; omega
                | false =>
                  by_cases hqp : q = p
                  · have hdq : (q == p) = true := by simpa using hqp
                    have HRT : Hid (stn1 ⟨1, q, ⟨fp, ft, fb, fs⟩⟩ p = true) := by
                      show _ = _
                      unfold stn1
                      simp [hqp]
                    clear hqp
                    go_wp2_with fail
                    go_roundw
                    case rel => exact ⟨j + 1, true, by omega, rfl, by go_num, by rw [HT2.out]; rw [HRT.out]; rfl, bstep BA.out.1 Bw5.out⟩
                    case measure => simp [intOf]; omega
                  · have hdq : (q == p) = false := by simpa using hqp
                    clear hqp
                    have HRT : Hid (stn1 ⟨1, q, ⟨fp, ft, fb, fs⟩⟩ p = (x1 || x2)) := by
                      show _ = _
                      unfold stn1
                      simp [HX.out.1, HX.out.2, hdq]
                    cases x2 with
                    | true =>
                      go_wp2_with fail
                      go_roundw
                      case rel => exact ⟨j + 1, true, by omega, rfl, by go_num, by rw [HT2.out]; rw [HRT.out]; simp, bstep BA.out.1 Bw5.out⟩
                      case measure => simp [intOf]; omega
                    | false =>
                      go_wp2_with fail
                      refine (A1.out _).mono ?_
                      rintro e w6 ⟨rfl, hbn⟩
                      have Bw6 : Hid (Below wa.heap.size wa w6) := bstep Bw5.out hbn
                      clear hbn
                      obtain ⟨u0, u1⟩ := CE.out _ Bw6.out
                      go_wp2_with fail
                      go_roundw
                      case rel => exact ⟨j + 1, x1, by omega, rfl, by go_num, by rw [HT2.out]; rw [HRT.out]; simp, bstep BA.out.1 Bw6.out⟩
                      case measure => simp [intOf]; omega
              · by_cases h4 : kd = 4
                · subst h4
                  cases nb with
                  | true =>
                    go_wp2_with fail
                    go_roundw
                    case rel => exact ⟨j + 1, true, by omega, rfl, by go_num, by rw [HT2.out]; simp, bstep BA.out.1 Bw5.out⟩
                    case measure => simp [intOf]; omega
                  | false =>
                    by_cases hqp : q = p
                    · have hdq : (q == p) = true := by simpa using hqp
                      have HRT : Hid (stn1 ⟨4, q, ⟨fp, ft, fb, fs⟩⟩ p = true) := by
                        show _ = _
                        unfold stn1
                        simp [hqp]
                      clear hqp
                      go_wp2_with fail
                      go_roundw
                      case rel => exact ⟨j + 1, true, by omega, rfl, by go_num, by rw [HT2.out]; rw [HRT.out]; rfl, bstep BA.out.1 Bw5.out⟩
                      case measure => simp [intOf]; omega
                    · have hdq : (q == p) = false := by simpa using hqp
                      clear hqp
                      have HRT : Hid (stn1 ⟨4, q, ⟨fp, ft, fb, fs⟩⟩ p = (x1 || x2)) := by
                        show _ = _
                        unfold stn1
                        simp [HX.out.1, HX.out.2, hdq]
                      cases x2 with
                      | true =>
                        go_wp2_with fail
                        go_roundw
                        case rel => exact ⟨j + 1, true, by omega, rfl, by go_num, by rw [HT2.out]; rw [HRT.out]; simp, bstep BA.out.1 Bw5.out⟩
                        case measure => simp [intOf]; omega
                      | false =>
                        go_wp2_with fail
                        refine (A1.out _).mono ?_
                        rintro e w6 ⟨rfl, hbn⟩
                        have Bw6 : Hid (Below wa.heap.size wa w6) := bstep Bw5.out hbn
                        clear hbn
                        obtain ⟨u0, u1⟩ := CE.out _ Bw6.out
                        go_wp2_with fail
                        go_roundw
                        case rel => exact ⟨j + 1, x1, by omega, rfl, by go_num, by rw [HT2.out]; rw [HRT.out]; simp, bstep BA.out.1 Bw6.out⟩
                        case measure => simp [intOf]; omega
                · have e1 : (kd == 1) = false := by simpa using h1
                  have e4 : (kd == 4) = false := by simpa using h4
                  by_cases h2 : kd = 2
                  · subst h2
                    cases nb with
                    | true =>
                      go_wp2_with fail
                      go_roundw
                      case rel => exact ⟨j + 1, true, by omega, rfl, by go_num, by rw [HT2.out]; simp, bstep BA.out.1 Bw5.out⟩
                      case measure => simp [intOf]; omega
                    | false =>
                      by_cases hqp : q = p
                      · have hdq : (q == p) = true := by simpa using hqp
                        have HRT : Hid (stn1 ⟨2, q, ⟨fp, ft, fb, fs⟩⟩ p = true) := by
                          show _ = _
                          unfold stn1
                          simp [hqp]
                        clear hqp
                        go_wp2_with fail
                        go_roundw
                        case rel => exact ⟨j + 1, true, by omega, rfl, by go_num, by rw [HT2.out]; rw [HRT.out]; rfl, bstep BA.out.1 Bw5.out⟩
                        case measure => simp [intOf]; omega
                      · have hdq : (q == p) = false := by simpa using hqp
                        clear hqp
                        have HRT : Hid (stn1 ⟨2, q, ⟨fp, ft, fb, fs⟩⟩ p = x2) := by
                          show _ = _
                          unfold stn1
                          simp [HX.out.2, hdq]
                        go_wp2_with fail
                        go_roundw
                        case rel => exact ⟨j + 1, x2, by omega, rfl, by go_num, by rw [HT2.out]; rw [HRT.out]; rfl, bstep BA.out.1 Bw5.out⟩
                        case measure => simp [intOf]; omega
                  · have e2 : (kd == 2) = false := by simpa using h2
                    have HRT : Hid (stn1 ⟨kd, q, ⟨fp, ft, fb, fs⟩⟩ p = false) := by
                      show _ = _
                      unfold stn1
                      simp [h1, h2, h4]
                    clear h1 h2 h4
                    go_wp2_with fail
                    go_roundw
                    case rel => exact ⟨j + 1, nb, by omega, rfl, by go_num, by rw [HT2.out]; rw [HRT.out]; simp, bstep BA.out.1 Bw5.out⟩
                    case measure => simp [intOf]; omega
            · obtain rfl : j = sn := by omega
              have HE : Hid (stn S p = nb ∧ Below W.heap.size W wr) := by
                have := OW.out.2
                rw [List.take_of_length_le (by have := HS.out.2.1; omega)] at this
                exact ⟨this, OW.out.1⟩
              clear OW
              go_wp2_with fail
              have OB2 : Hid (Below W.heap.size W wr) := HE.out.2
              have HZ : Hid (nb = decide (p ∈ D)) := by
                show _ = _
                rw [← HE.out.1]; exact HSD.out
              clear HE
              go_loopw [27, 28] (fun bb i wr => ∃ (k : Nat) (tb : Bool), k ≤ dn ∧ bb = .bool tb ∧ i = .int .i64 k ∧ decide (p ∈ D.take k) = tb ∧ Below W.heap.size W wr) (fun _ i _ => dn - (intOf i).toNat)
              case atStart => exact ⟨0, false, by omega, rfl, rfl, by simp, OB2.out⟩
              case round =>
                obtain ⟨m, tb, hm, rfl, rfl, htb, hbw⟩ := hrel
                have OW : Hid (Below W.heap.size W wr ∧ decide (p ∈ D.take m) = tb) := ⟨hbw, htb⟩
                clear htb hbw
                by_cases hml : m < dn
                · have hkl : m < D.length := by have := HN.out.2; omega
                  obtain ⟨a', c', e', hcl⟩ := HN.out.1.form
                  obtain ⟨b, off, ea, hbb, d0⟩ := hcl m hkl
                  obtain rfl : da = a' := by injection e'
                  subst ea
                  have h2 := mem_takeD D p m hkl
                  rw [OW.out.2] at h2
                  have d0 := (OW.out.1.cell (p := ⟨b, off + m, none⟩) hbb).trans d0
                  generalize hf : D[m] = q at d0 h2
                  have HT2 : Hid (decide (p ∈ D.take (m + 1)) = (tb || q == p)) := h2
                  have tq := bs_toList q
                  have j1 : (0 : Int) ≤ (m : Int) := by omega
                  have j2 : (m : Int) < (dn : Int) := by omega
                  clear hf h2 e' hcl
                  obtain ⟨z, hz⟩ : ∃ z, (q == p) = z := ⟨_, rfl⟩
                  rw [hz] at HT2
                  cases tb with
                  | true =>
                    go_wp2_with fail
                    go_roundw
                    case rel => exact ⟨m + 1, true, by omega, rfl, by go_num, by rw [HT2.out]; rfl, OW.out.1⟩
                    case measure => simp [intOf]; omega
                  | false =>
                    go_wp2_with fail
                    go_roundw
                    case rel => exact ⟨m + 1, z, by omega, rfl, by go_num, by rw [HT2.out]; rfl, OW.out.1⟩
                    case measure => simp [intOf]; omega
                · obtain rfl : m = dn := by omega
                  have HE : Hid (tb = nb ∧ Below W.heap.size W wr) := by
                    have := OW.out.2
                    rw [List.take_of_length_le (by have := HN.out.2; omega)] at this
                    exact ⟨by rw [← this, HZ.out], OW.out.1⟩
                  obtain ⟨rfl, OE⟩ : tb = nb ∧ Hid (Below W.heap.size W wr) := HE.out
                  clear HE OW
                  have tt : (tb != tb) = false := by cases tb <;> rfl
                  go_wp2_with fail
                  go_roundw
                  case rel => exact ⟨k + 1, by omega, by go_num, OE.out⟩
                  case measure => simp [intOf]; omega
    · go_wp2_with fail
      refine HK_.out _ _ ?_
      clear HK_
      go_wp2_with fail
      go_ret
      exact ⟨rfl, bstep HB.out OW.out⟩
end Go.Proofs.Ytfdcfcalbongeaa
