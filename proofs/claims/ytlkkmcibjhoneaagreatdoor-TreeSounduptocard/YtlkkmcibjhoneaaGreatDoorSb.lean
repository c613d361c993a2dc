/-
  The law TreeSound: Mkdir of any text.
-/
import Derived.Test.YtlkkmcibjhoneaaGreatDoorSa
namespace Go.Proofs.YtlkkmcibjhoneaaGreatDoor
open Go.RowKit
attribute [local go_sem] Oper.semAt_some

set_option maxRecDepth 100000 in
set_option maxHeartbeats 16000000 in
theorem sn21 {TA : World → (Nat → Prop) → Nat → TT → Prop} (C : TcP TA) {w W : World} {t NF fcp ND dcp : Nat} {fa da : Option Addr} {T : TT} {p : List UInt8} {lv0 lv1 lv3 lv4 lv5 lv6 lv8 lv11 lv12 lv13 lv14 lv15 lv16 lv17 lv18 lv19 lv20 lv21 lv22 lv23 lv24 lv25 lv26 lv27 lv28 lv29 lv30 lv31 lv32 lv33 lv34 lv35 lv36 lv37 lv38 lv39 lv40 lv41 lv42 lv43 lv44 lv45 lv46 lv47 lv48 lv49 lv50 lv51 lv52 lv53 lv54 lv55 lv56 lv57 lv58 lv59 lv60 lv61 lv62 lv63 lv64 lv65 lv66 lv67 lv68 lv69 lv70 lv71 lv72 lv73 lv74 lv75 lv76 lv77 lv78 lv79 lv80 lv81 lv82 lv83 lv84 lv85 lv86 lv87 lv88 lv89 lv90 lv91 lv92 lv93 lv94 lv95 lv96 lv97 lv98 lv99 lv100 lv101 lv102 lv103 lv104 lv105 lv106 lv107 lv108 lv109 lv110 lv111 lv112 lv113 lv114 lv115 lv116 lv117 lv118 lv119 lv120 lv121 lv122 lv123 lv124 lv125 lv126 lv127 lv128 lv129 lv130 lv131 lv132 lv133 lv134 lv135 lv136 lv137 lv138 lv139 lv140 lv141 lv142 lv143 lv144 lv145 lv146 lv147 lv148 lv149 lv150 lv151 lv152 lv153 lv154 lv155 lv156 lv157 lv158 lv159 lv160 lv161 lv162 lv163 lv164 lv165 lv166 lv167 lv168 lv169 lv170 lv171 lv172 lv173 lv174 lv175 lv176 lv177 lv178 lv179 lv180 lv181 lv182 lv183 lv184 lv185 lv186 lv187 lv188 lv189 lv190 lv191 lv192 lv193 lv194 lv195 lv196 lv197 lv198 lv199 lv200 lv201 : Value}
    (X : Hid (SX TA w W t T (.slice fa NF fcp) T.fs (.slice da ND dcp) T.ds)) (hz : Hid (TSz 3900000 T)) (hok : Hid (TOk T)) (h0 : T.sp = 0) (hND : T.ds.length = ND) (hp : p.length ≤ 4000000) :
    Code.wp Tryz.prog (suff 21 (Tryz.f5.body.getD .skip)) (bodyPost Tryz.prog Tryz.f5 (fun e w' => e = .returned (.bool true) ∧ Below w.heap.size w w')) ⟨#[lv0, lv1, .string (bs p), lv3, lv4, lv5, lv6, .pointer (some ⟨t, 0, none⟩), lv8, .slice fa NF fcp, .slice da ND dcp, lv11, lv12, lv13, lv14, lv15, lv16, lv17, lv18, lv19, lv20, lv21, lv22, lv23, lv24, lv25, lv26, lv27, lv28, lv29, lv30, lv31, lv32, lv33, lv34, lv35, lv36, lv37, lv38, lv39, lv40, lv41, lv42, lv43, lv44, lv45, lv46, lv47, lv48, lv49, lv50, lv51, lv52, lv53, lv54, lv55, lv56, lv57, lv58, lv59, lv60, lv61, lv62, lv63, lv64, lv65, lv66, lv67, lv68, lv69, lv70, lv71, lv72, lv73, lv74, lv75, lv76, lv77, lv78, lv79, lv80, lv81, lv82, lv83, lv84, lv85, lv86, lv87, lv88, lv89, lv90, lv91, lv92, lv93, lv94, lv95, lv96, lv97, lv98, lv99, lv100, lv101, lv102, lv103, lv104, lv105, lv106, lv107, lv108, lv109, lv110, lv111, lv112, lv113, lv114, lv115, lv116, lv117, lv118, lv119, lv120, lv121, lv122, lv123, lv124, lv125, lv126, lv127, lv128, lv129, lv130, lv131, lv132, lv133, lv134, lv135, lv136, lv137, lv138, lv139, lv140, lv141, lv142, lv143, lv144, lv145, lv146, lv147, lv148, lv149, lv150, lv151, lv152, lv153, lv154, lv155, lv156, lv157, lv158, lv159, lv160, lv161, lv162, lv163, lv164, lv165, lv166, lv167, lv168, lv169, lv170, lv171, lv172, lv173, lv174, lv175, lv176, lv177, lv178, lv179, lv180, lv181, lv182, lv183, lv184, lv185, lv186, lv187, lv188, lv189, lv190, lv191, lv192, lv193, lv194, lv195, lv196, lv197, lv198, lv199, lv200, lv201], []⟩ W := by
  conv => arg 2; whnf
  refine wp_seq_k fun KK hKK => ?_
  have HK_ : Hid _ := hKK
  clear hKK
  have hq : Hid (FQ T.fs) := ⟨Nat.le_trans hz.out.nf (by omega), hz.out.ef, fun f hf => Nat.le_trans (okP_len (fileE_path (hok.out.fe f hf)).2).1 (by decide)⟩
  by_cases hb : mkB T p = true
  · have M1 : Hid (T.mk' p = (({ T.up 1 with ds := ins p T.ds }), 0)) := (mk_rm hok.out h0 hb).1
    have HM : Hid (mkB T p = true) := hb
    have HB : Hid (((okP p = true ∧ hasF T.fs p = false) ∧ hasD T.ds p = false) ∧ hasD T.ds (dir p) = true) := by
      unfold mkB at hb
      simp only [Bool.and_eq_true, Bool.not_eq_true'] at hb
      exact hb
    clear hb
    go_wp2_with fail
    refine (SX.step X.out (Q := fun e _ => e = .returned (.int .i64 0)) (R := ({ T.up 1 with ds := ins p T.ds })) (fun F h => (C.mkd h (hz.out.mono (by omega)) p hp).mono (fun e w' h => by rw [M1.out] at h; exact h))).mono ?_
    rintro e w1 ⟨rfl, X1'⟩
    have X1 : Hid (SX TA w w1 t ({ T.up 1 with ds := ins p T.ds }) (.slice fa NF fcp) T.fs (.slice da ND dcp) T.ds) := X1'
    clear X1' X M1
    go_wp2_with fail
    refine HK_.out _ _ ?_
    clear HK_
    refine wp_seq_k fun KK hKK => ?_
    have HK_ : Hid _ := hKK
    clear hKK
    go_wp2_with fail
    refine (find_any p X1.out.fs hq.out).mono ?_
    rintro e w2 ⟨rfl, hb2⟩
    rw [fnd_has]
    have X2 : Hid (SX TA w w2 t ({ T.up 1 with ds := ins p T.ds }) (.slice fa NF fcp) T.fs (.slice da ND dcp) T.ds) := X1.out.later C hb2
    clear X1 hb2
    generalize fopt (fnd T.fs p) = ff
    obtain ⟨q1, q2, q3, q4⟩ := ff
    rw [show Fl.val ⟨q1, q2, q3, q4⟩ = .agg #[.string (bs q1), .string (bs q2), .int .i64 q3, .int .i64 q4] from rfl]
    obtain ⟨bf, hbf⟩ : ∃ b, hasF T.fs p = b := ⟨_, rfl⟩
    have HBF : Hid (hasF T.fs p = bf) := hbf
    rw [hbf]
    clear hbf
    go_wp2_with fail
    refine HK_.out _ _ ?_
    clear HK_
    obtain ⟨w3, hw3⟩ : ∃ w3, w2.alloc (.cells #[.string (bs q1), .string (bs q2), .int .i64 q3, .int .i64 q4] 31) = w3 := ⟨_, rfl⟩
    have X3 : Hid (SX TA w w3 t ({ T.up 1 with ds := ins p T.ds }) (.slice fa NF fcp) T.fs (.slice da ND dcp) T.ds) := hw3 ▸ X2.out.later C (balloc _ _)
    rw [hw3]
    clear X2 hw3
    refine wp_seq_k fun KK hKK => ?_
    have HK_ : Hid _ := hKK
    clear hKK
    go_wp2_with (go_at_call 9; refine (num_any _ _).mono ?_; rintro e wq ⟨rfl, rfl⟩)
    refine (valid_any p _ (by omega)).mono ?_
    rintro e w4 ⟨rfl, hb4⟩
    have X4 : Hid (SX TA w w4 t ({ T.up 1 with ds := ins p T.ds }) (.slice fa NF fcp) T.fs (.slice da ND dcp) T.ds) := X3.out.later C hb4
    clear X3 hb4
    obtain ⟨⟨⟨h1, h2⟩, h3⟩, h4⟩ := HB.out
    rw [h1]
    go_wp2_with fail
    refine (in_any p X4.out.ss (Nat.le_trans hz.out.nd (by omega))).mono ?_
    rintro e wq ⟨rfl, rfl⟩
    rw [h3]
    obtain rfl : bf = false := by rw [← HBF.out]; exact h2
    clear h1 h2 h3 HBF
    go_wp2_with fail
    refine (dir_any p _ (by omega)).mono ?_
    rintro e wq ⟨rfl, rfl⟩
    go_wp2_with fail
    refine (in_any (dir p) X4.out.ss (Nat.le_trans hz.out.nd (by omega))).mono ?_
    rintro e wq ⟨rfl, rfl⟩
    rw [h4]
    clear h4
    go_wp2_with fail
    refine HK_.out _ _ ?_
    clear HK_
    exact sn25a C X4 hz hok h0 HM hND hp
  · have hb' : mkB T p = false := by simpa using hb
    have M1 : Hid (T.mk' p = (T.up 1, 16)) := mk_no h0 hb'
    have HN : Hid (mkB T p = false) := hb'
    clear hb hb'
    go_wp2_with fail
    refine (SX.step X.out (Q := fun e _ => e = .returned (.int .i64 16)) (R := (T.up 1)) (fun F h => (C.mkd h (hz.out.mono (by omega)) p hp).mono (fun e w' h => by rw [M1.out] at h; exact h))).mono ?_
    rintro e w1 ⟨rfl, X1'⟩
    have X1 : Hid (SX TA w w1 t (T.up 1) (.slice fa NF fcp) T.fs (.slice da ND dcp) T.ds) := X1'
    clear X1' X M1
    go_wp2_with fail
    refine HK_.out _ _ ?_
    clear HK_
    refine wp_seq_k fun KK hKK => ?_
    have HK_ : Hid _ := hKK
    clear hKK
    go_wp2_with fail
    refine (find_any p X1.out.fs hq.out).mono ?_
    rintro e w2 ⟨rfl, hb2⟩
    rw [fnd_has]
    have X2 : Hid (SX TA w w2 t (T.up 1) (.slice fa NF fcp) T.fs (.slice da ND dcp) T.ds) := X1.out.later C hb2
    clear X1 hb2
    generalize fopt (fnd T.fs p) = ff
    obtain ⟨q1, q2, q3, q4⟩ := ff
    rw [show Fl.val ⟨q1, q2, q3, q4⟩ = .agg #[.string (bs q1), .string (bs q2), .int .i64 q3, .int .i64 q4] from rfl]
    obtain ⟨bf, hbf⟩ : ∃ b, hasF T.fs p = b := ⟨_, rfl⟩
    have HBF : Hid (hasF T.fs p = bf) := hbf
    rw [hbf]
    clear hbf
    go_wp2_with fail
    refine HK_.out _ _ ?_
    clear HK_
    obtain ⟨w3, hw3⟩ : ∃ w3, w2.alloc (.cells #[.string (bs q1), .string (bs q2), .int .i64 q3, .int .i64 q4] 31) = w3 := ⟨_, rfl⟩
    have X3 : Hid (SX TA w w3 t (T.up 1) (.slice fa NF fcp) T.fs (.slice da ND dcp) T.ds) := hw3 ▸ X2.out.later C (balloc _ _)
    rw [hw3]
    clear X2 hw3
    refine wp_seq_k fun KK hKK => ?_
    have HK_ : Hid _ := hKK
    clear hKK
    go_wp2_with (go_at_call 9; refine (num_any _ _).mono ?_; rintro e wq ⟨rfl, rfl⟩)
    refine (valid_any p _ (by omega)).mono ?_
    rintro e w4 ⟨rfl, hb4⟩
    have X4 : Hid (SX TA w w4 t (T.up 1) (.slice fa NF fcp) T.fs (.slice da ND dcp) T.ds) := X3.out.later C hb4
    clear X3 hb4
    rcases hb1 : okP p with _ | _
    · go_wp2_with fail
      refine HK_.out _ _ ?_
      clear HK_
      exact sn25b (p := p) C X4 hz
    · go_wp2_with fail
      refine (in_any p X4.out.ss (Nat.le_trans hz.out.nd (by omega))).mono ?_
      rintro e wq ⟨rfl, rfl⟩
      rcases hb3 : hasD T.ds p with _ | _
      · cases bf with
        | true =>
          go_wp2_with fail
          refine HK_.out _ _ ?_
          clear HK_
          exact sn25b (p := p) C X4 hz
        | false =>
          go_wp2_with fail
          refine (dir_any p _ (by omega)).mono ?_
          rintro e wq ⟨rfl, rfl⟩
          go_wp2_with fail
          refine (in_any (dir p) X4.out.ss (Nat.le_trans hz.out.nd (by omega))).mono ?_
          rintro e wq ⟨rfl, rfl⟩
          have hb4 : hasD T.ds (dir p) = false := by
            cases e : hasD T.ds (dir p) with
            | false => rfl
            | true =>
              have := HN.out
              unfold mkB at this
              rw [hb1, hb3, HBF.out, e] at this
              exact absurd this (by decide)
          rw [hb4]
          go_wp2_with fail
          refine HK_.out _ _ ?_
          clear HK_
          exact sn25b (p := p) C X4 hz
      · go_wp2_with fail
        refine HK_.out _ _ ?_
        clear HK_
        exact sn25b (p := p) C X4 hz
end Go.Proofs.YtlkkmcibjhoneaaGreatDoor
