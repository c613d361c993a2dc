/-
  The law TreeSound: its end.
-/
import Derived.Test.YtlkkmcibjhoneaaGreatDoorTn
import Derived.OrdersHeld
import Derived.Deep.Cut
namespace Go.Proofs.YtlkkmcibjhoneaaGreatDoor
open Go.RowKit
attribute [local go_sem] Oper.semAt_some

theorem fok_p {p : List UInt8} (hp : p.length ≤ 4000000) : Fok ⟨p, [], 0, 1⟩ :=
  ⟨(by show p.length ≤ 1000000000; omega), (by show ([] : List UInt8).length ≤ 1000000000; simp), (by show (-9223372036854775808 : Int) ≤ 0; decide), (by show (0 : Int) ≤ 9223372036854775807; decide), (by show (-9223372036854775808 : Int) ≤ 1; decide), (by show (1 : Int) ≤ 9223372036854775807; decide)⟩
set_option maxRecDepth 100000 in
set_option maxHeartbeats 16000000 in
theorem sn27 {TA : World → (Nat → Prop) → Nat → TT → Prop} (C : TcP TA) {w W : World} {t NF fcp ND dcp : Nat} {fa da : Option Addr} {T : TT} {R : TT} {lv0 lv1 lv2 lv3 lv4 lv5 lv6 lv8 lv11 lv12 lv13 lv14 lv15 lv16 lv17 lv18 lv19 lv20 lv21 lv22 lv23 lv24 lv25 lv26 lv27 lv28 lv29 lv30 lv31 lv32 lv33 lv34 lv35 lv36 lv37 lv38 lv39 lv40 lv41 lv42 lv43 lv44 lv45 lv46 lv47 lv48 lv49 lv50 lv51 lv52 lv53 lv54 lv55 lv56 lv57 lv58 lv59 lv60 lv61 lv62 lv63 lv64 lv65 lv66 lv67 lv68 lv69 lv70 lv71 lv72 lv73 lv74 lv75 lv76 lv77 lv78 lv79 lv80 lv81 lv82 lv83 lv84 lv85 lv86 lv87 lv88 lv89 lv90 lv91 lv92 lv93 lv94 lv95 lv96 lv97 lv98 lv99 lv100 lv101 lv102 lv103 lv104 lv105 lv106 lv107 lv108 lv109 lv110 lv111 lv112 lv113 lv114 lv115 lv116 lv117 lv118 lv119 lv120 lv121 lv122 lv123 lv124 lv125 lv126 lv127 lv128 lv129 lv130 lv131 lv132 lv133 lv134 lv135 lv136 lv137 lv138 lv139 lv140 lv141 lv142 lv143 lv144 lv145 lv146 lv147 lv148 lv149 lv150 lv151 lv152 lv153 lv154 lv155 lv156 lv157 lv158 lv159 lv160 lv161 lv162 lv163 lv164 lv165 lv166 lv167 lv168 lv169 lv170 lv171 lv172 lv173 lv174 lv175 lv176 lv177 lv178 lv179 lv180 lv181 lv182 lv183 lv184 lv185 lv186 lv187 lv188 lv189 lv190 lv191 lv192 lv193 lv194 lv195 lv196 lv197 lv198 lv199 lv200 lv201 : Value}
    (X : Hid (SX TA w W t R (.slice fa NF fcp) T.fs (.slice da ND dcp) T.ds)) (hz : Hid (TSz 4000000 R)) (hR : Hid (R.fs = T.fs ∧ R.ds = T.ds)) (hl : Hid (T.fs.length ≤ 4000000 ∧ T.ds.length ≤ 4000000)) :
    Code.wp Tryz.prog (suff 27 (Tryz.f5.body.getD .skip)) (bodyPost Tryz.prog Tryz.f5 (fun e w' => e = .returned (.bool true) ∧ Below w.heap.size w w')) ⟨#[lv0, lv1, lv2, lv3, lv4, lv5, lv6, .pointer (some ⟨t, 0, none⟩), lv8, .slice fa NF fcp, .slice da ND dcp, lv11, lv12, lv13, lv14, lv15, lv16, lv17, lv18, lv19, lv20, lv21, lv22, lv23, lv24, lv25, lv26, lv27, lv28, lv29, lv30, lv31, lv32, lv33, lv34, lv35, lv36, lv37, lv38, lv39, lv40, lv41, lv42, lv43, lv44, lv45, lv46, lv47, lv48, lv49, lv50, lv51, lv52, lv53, lv54, lv55, lv56, lv57, lv58, lv59, lv60, lv61, lv62, lv63, lv64, lv65, lv66, lv67, lv68, lv69, lv70, lv71, lv72, lv73, lv74, lv75, lv76, lv77, lv78, lv79, lv80, lv81, lv82, lv83, lv84, lv85, lv86, lv87, lv88, lv89, lv90, lv91, lv92, lv93, lv94, lv95, lv96, lv97, lv98, lv99, lv100, lv101, lv102, lv103, lv104, lv105, lv106, lv107, lv108, lv109, lv110, lv111, lv112, lv113, lv114, lv115, lv116, lv117, lv118, lv119, lv120, lv121, lv122, lv123, lv124, lv125, lv126, lv127, lv128, lv129, lv130, lv131, lv132, lv133, lv134, lv135, lv136, lv137, lv138, lv139, lv140, lv141, lv142, lv143, lv144, lv145, lv146, lv147, lv148, lv149, lv150, lv151, lv152, lv153, lv154, lv155, lv156, lv157, lv158, lv159, lv160, lv161, lv162, lv163, lv164, lv165, lv166, lv167, lv168, lv169, lv170, lv171, lv172, lv173, lv174, lv175, lv176, lv177, lv178, lv179, lv180, lv181, lv182, lv183, lv184, lv185, lv186, lv187, lv188, lv189, lv190, lv191, lv192, lv193, lv194, lv195, lv196, lv197, lv198, lv199, lv200, lv201], []⟩ W := by
  conv => arg 2; whnf
  go_wp2_with fail
  refine (Tb.files C X.out.tb hz.out).mono ?_
  rintro e w1 ⟨v1, rfl, ho, hb⟩
  have X1 : Hid (SX TA w w1 t R (.slice fa NF fcp) T.fs (.slice da ND dcp) T.ds) := X.out.later C hb
  have H1 : Hid (FS w1 v1 T.fs) := by have := ho.fs; rwa [hR.out.1] at this
  clear ho hb X
  go_wp2_with fail
  refine (files_any H1.out X1.out.fs (Nat.le_trans hl.out.1 (by omega))).mono ?_
  rintro e w2 ⟨rfl, hb⟩
  rw [(leq_iff T.fs T.fs).2 rfl]
  have X2 : Hid (SX TA w w2 t R (.slice fa NF fcp) T.fs (.slice da ND dcp) T.ds) := X1.out.later C hb
  clear hb X1 H1
  go_wp2_with fail
  refine (Tb.dirs C X2.out.tb hz.out).mono ?_
  rintro e w3 ⟨v3, rfl, ho, hb⟩
  have X3 : Hid (SX TA w w3 t R (.slice fa NF fcp) T.fs (.slice da ND dcp) T.ds) := X2.out.later C hb
  have H3 : Hid (SS w3 v3 T.ds) := by have := ho.ss; rwa [hR.out.2] at this
  clear ho hb X2
  go_wp2_with fail
  refine (same_any H3.out X3.out.ss (Nat.le_trans hl.out.2 (by omega))).mono ?_
  rintro e w4 ⟨rfl, nq, hb⟩
  rw [decide_eq_true (rfl : T.ds = T.ds)]
  have B4 : Hid (Below w.heap.size w w4) := by subst hb; exact bstep X3.out.bel (bd _ _)
  clear hb X3 H3
  go_wp2_with fail
  go_ret
  exact ⟨rfl, B4.out⟩
set_option maxRecDepth 100000 in
set_option maxHeartbeats 16000000 in
theorem sn25a {TA : World → (Nat → Prop) → Nat → TT → Prop} (C : TcP TA) {w W : World} {t NF fcp ND dcp : Nat} {fa da : Option Addr} {T : TT} {p : List UInt8} {lv0 lv1 lv3 lv4 lv5 lv6 lv8 lv11 lv12 lv14 lv15 lv16 lv17 lv18 lv19 lv20 lv21 lv22 lv23 lv24 lv25 lv26 lv27 lv28 lv29 lv30 lv31 lv32 lv33 lv34 lv35 lv36 lv37 lv38 lv39 lv40 lv41 lv42 lv43 lv44 lv45 lv46 lv47 lv48 lv49 lv50 lv51 lv52 lv53 lv54 lv55 lv56 lv57 lv58 lv59 lv60 lv61 lv62 lv63 lv64 lv65 lv66 lv67 lv68 lv69 lv70 lv71 lv72 lv73 lv74 lv75 lv76 lv77 lv78 lv79 lv80 lv81 lv82 lv83 lv84 lv85 lv86 lv87 lv88 lv89 lv90 lv91 lv92 lv93 lv94 lv95 lv96 lv97 lv98 lv99 lv100 lv101 lv102 lv103 lv104 lv105 lv106 lv107 lv108 lv109 lv110 lv111 lv112 lv113 lv114 lv115 lv116 lv117 lv118 lv119 lv120 lv121 lv122 lv123 lv124 lv125 lv126 lv127 lv128 lv129 lv130 lv131 lv132 lv133 lv134 lv135 lv136 lv137 lv138 lv139 lv140 lv141 lv142 lv143 lv144 lv145 lv146 lv147 lv148 lv149 lv150 lv151 lv152 lv153 lv154 lv155 lv156 lv157 lv158 lv159 lv160 lv161 lv162 lv163 lv164 lv165 lv166 lv167 lv168 lv169 lv170 lv171 lv172 lv173 lv174 lv175 lv176 lv177 lv178 lv179 lv180 lv181 lv182 lv183 lv184 lv185 lv186 lv187 lv188 lv189 lv190 lv191 lv192 lv193 lv194 lv195 lv196 lv197 lv198 lv199 lv200 lv201 : Value}
    (X : Hid (SX TA w W t ({ T.up 1 with ds := ins p T.ds }) (.slice fa NF fcp) T.fs (.slice da ND dcp) T.ds)) (hz : Hid (TSz 3900000 T)) (hok : Hid (TOk T)) (h0 : T.sp = 0) (hb : Hid (mkB T p = true)) (hND : T.ds.length = ND) (hp : p.length ≤ 4000000) :
    Code.wp Tryz.prog (suff 25 (Tryz.f5.body.getD .skip)) (bodyPost Tryz.prog Tryz.f5 (fun e w' => e = .returned (.bool true) ∧ Below w.heap.size w w')) ⟨#[lv0, lv1, .string (bs p), lv3, lv4, lv5, lv6, .pointer (some ⟨t, 0, none⟩), lv8, .slice fa NF fcp, .slice da ND dcp, lv11, lv12, .int .i64 0, lv14, lv15, lv16, lv17, lv18, lv19, lv20, lv21, lv22, lv23, lv24, lv25, lv26, lv27, lv28, lv29, lv30, lv31, lv32, lv33, lv34, lv35, lv36, lv37, lv38, lv39, lv40, lv41, lv42, lv43, lv44, lv45, lv46, lv47, lv48, lv49, lv50, lv51, lv52, lv53, lv54, lv55, lv56, lv57, lv58, lv59, lv60, lv61, lv62, lv63, lv64, lv65, lv66, lv67, lv68, lv69, lv70, lv71, lv72, lv73, lv74, lv75, lv76, lv77, lv78, lv79, lv80, lv81, lv82, lv83, lv84, lv85, lv86, lv87, lv88, lv89, lv90, lv91, lv92, lv93, lv94, lv95, lv96, lv97, lv98, lv99, lv100, lv101, lv102, lv103, lv104, lv105, lv106, lv107, lv108, lv109, lv110, lv111, lv112, lv113, lv114, lv115, lv116, lv117, lv118, lv119, lv120, lv121, lv122, lv123, lv124, lv125, lv126, lv127, lv128, lv129, lv130, lv131, lv132, lv133, lv134, lv135, lv136, lv137, lv138, lv139, lv140, lv141, lv142, lv143, lv144, lv145, lv146, lv147, lv148, lv149, lv150, lv151, lv152, lv153, lv154, lv155, lv156, lv157, lv158, lv159, lv160, lv161, lv162, lv163, lv164, lv165, lv166, lv167, lv168, lv169, lv170, lv171, lv172, lv173, lv174, lv175, lv176, lv177, lv178, lv179, lv180, lv181, lv182, lv183, lv184, lv185, lv186, lv187, lv188, lv189, lv190, lv191, lv192, lv193, lv194, lv195, lv196, lv197, lv198, lv199, lv200, lv201], []⟩ W := by
  conv => arg 2; whnf
  refine wp_seq_k fun KK hKK => ?_
  have HK_ : Hid _ := hKK
  clear hKK
  obtain ⟨m1, m2, m3, m4⟩ := mk_rm hok.out h0 hb.out
  go_wp2_with (go_at_call 9; refine (num_any _ _).mono ?_; rintro e wq ⟨rfl, rfl⟩)
  refine (Tb.dirs C X.out.tb (hz.out.ins (k := 1) m2 (by omega))).mono ?_
  rintro e w1 ⟨v1, rfl, ho, hb1⟩
  have X1 : Hid (SX TA w w1 t ({ T.up 1 with ds := ins p T.ds }) (.slice fa NF fcp) T.fs (.slice da ND dcp) T.ds) := X.out.later C hb1
  obtain ⟨a1, c1, rfl⟩ := ho.len
  rw [show ({ T.up 1 with ds := ins p T.ds } : TT).ds.length = ND + 1 from by show (ins p T.ds).length = _; rw [m2, hND]]
  clear ho hb1 X
  have hnd : ND ≤ 4000000 := by rw [← hND]; exact Nat.le_trans hz.out.nd (by omega)
  have M3 : Hid (({ T.up 1 with ds := ins p T.ds } : TT).wr ⟨p, [], 0, 1⟩ = ({ T.up 2 with ds := ins p T.ds }, if fileE ⟨p, [], 0, 1⟩ = 0 then 16 else fileE ⟨p, [], 0, 1⟩)) := m3 ⟨p, [], 0, 1⟩ rfl
  have M4 : Hid (({ T.up 2 with ds := ins p T.ds } : TT).rm p = (T.up 3, 0)) := m4
  have M2 : Hid ((ins p T.ds).length = T.ds.length + 1) := m2
  obtain ⟨cd, hcd⟩ : ∃ cd : Int, (if fileE ⟨p, [], 0, 1⟩ = 0 then 16 else fileE ⟨p, [], 0, 1⟩) = cd := ⟨_, rfl⟩
  have hcd0 : cd ≠ 0 := by rw [← hcd]; split <;> omega
  have hcd1 : (cd == 0) = false := by simpa using hcd0
  have HCD : Hid ((if fileE ⟨p, [], 0, 1⟩ = 0 then 16 else fileE ⟨p, [], 0, 1⟩) = cd) := hcd
  clear m1 m2 m3 m4 hcd
  go_wp2_with fail
  refine (SX.step X1.out (Q := fun e _ => e = .returned (.int .i64 cd)) (R := { T.up 2 with ds := ins p T.ds }) (fun F h => (C.wri h (hz.out.ins (k := 1) M2.out (by omega)) ⟨p, [], 0, 1⟩ (fok_p hp)).mono (fun e w' h => by rw [M3.out] at h; rw [HCD.out] at h; exact h))).mono ?_
  rintro e w2 ⟨rfl, X2'⟩
  have X2 : Hid (SX TA w w2 t ({ T.up 2 with ds := ins p T.ds }) (.slice fa NF fcp) T.fs (.slice da ND dcp) T.ds) := X2'
  clear X2' X1 HCD M3
  go_wp2_with (go_at_call 9; refine (num_any _ _).mono ?_; rintro e wq ⟨rfl, rfl⟩)
  refine (SX.step X2.out (Q := fun e _ => e = .returned (.int .i64 0)) (R := T.up 3) (fun F h => (C.rmd h (hz.out.ins (k := 2) M2.out (by omega)) p (by omega)).mono (fun e w' h => by rw [M4.out] at h; exact h))).mono ?_
  rintro e w3 ⟨rfl, X3'⟩
  have X3 : Hid (SX TA w w3 t (T.up 3) (.slice fa NF fcp) T.fs (.slice da ND dcp) T.ds) := X3'
  clear X3' X2 M4 M2
  go_wp2_with (go_at_call 9; refine (num_any _ _).mono ?_; rintro e wq ⟨rfl, rfl⟩)
  refine HK_.out _ _ ?_
  clear HK_
  exact sn27 C X3 (hz.out.up (by omega)) ⟨rfl, rfl⟩ ⟨Nat.le_trans hz.out.nf (by omega), Nat.le_trans hz.out.nd (by omega)⟩
set_option maxRecDepth 100000 in
set_option maxHeartbeats 16000000 in
theorem sn25b {TA : World → (Nat → Prop) → Nat → TT → Prop} (C : TcP TA) {w W : World} {t NF fcp ND dcp : Nat} {fa da : Option Addr} {T : TT} {p : List UInt8} {lv0 lv1 lv3 lv4 lv5 lv6 lv8 lv11 lv12 lv14 lv15 lv16 lv17 lv18 lv19 lv20 lv21 lv22 lv23 lv24 lv25 lv26 lv27 lv28 lv29 lv30 lv31 lv32 lv33 lv34 lv35 lv36 lv37 lv38 lv39 lv40 lv41 lv42 lv43 lv44 lv45 lv46 lv47 lv48 lv49 lv50 lv51 lv52 lv53 lv54 lv55 lv56 lv57 lv58 lv59 lv60 lv61 lv62 lv63 lv64 lv65 lv66 lv67 lv68 lv69 lv70 lv71 lv72 lv73 lv74 lv75 lv76 lv77 lv78 lv79 lv80 lv81 lv82 lv83 lv84 lv85 lv86 lv87 lv88 lv89 lv90 lv91 lv92 lv93 lv94 lv95 lv96 lv97 lv98 lv99 lv100 lv101 lv102 lv103 lv104 lv105 lv106 lv107 lv108 lv109 lv110 lv111 lv112 lv113 lv114 lv115 lv116 lv117 lv118 lv119 lv120 lv121 lv122 lv123 lv124 lv125 lv126 lv127 lv128 lv129 lv130 lv131 lv132 lv133 lv134 lv135 lv136 lv137 lv138 lv139 lv140 lv141 lv142 lv143 lv144 lv145 lv146 lv147 lv148 lv149 lv150 lv151 lv152 lv153 lv154 lv155 lv156 lv157 lv158 lv159 lv160 lv161 lv162 lv163 lv164 lv165 lv166 lv167 lv168 lv169 lv170 lv171 lv172 lv173 lv174 lv175 lv176 lv177 lv178 lv179 lv180 lv181 lv182 lv183 lv184 lv185 lv186 lv187 lv188 lv189 lv190 lv191 lv192 lv193 lv194 lv195 lv196 lv197 lv198 lv199 lv200 lv201 : Value}
    (X : Hid (SX TA w W t (T.up 1) (.slice fa NF fcp) T.fs (.slice da ND dcp) T.ds)) (hz : Hid (TSz 3900000 T)) :
    Code.wp Tryz.prog (suff 25 (Tryz.f5.body.getD .skip)) (bodyPost Tryz.prog Tryz.f5 (fun e w' => e = .returned (.bool true) ∧ Below w.heap.size w w')) ⟨#[lv0, lv1, .string (bs p), lv3, lv4, lv5, lv6, .pointer (some ⟨t, 0, none⟩), lv8, .slice fa NF fcp, .slice da ND dcp, lv11, lv12, .int .i64 16, lv14, lv15, lv16, lv17, lv18, lv19, lv20, lv21, lv22, lv23, lv24, lv25, lv26, lv27, lv28, lv29, lv30, lv31, lv32, lv33, lv34, lv35, lv36, lv37, lv38, lv39, lv40, lv41, lv42, lv43, lv44, lv45, lv46, lv47, lv48, lv49, lv50, lv51, lv52, lv53, lv54, lv55, lv56, lv57, lv58, lv59, lv60, lv61, lv62, lv63, lv64, lv65, lv66, lv67, lv68, lv69, lv70, lv71, lv72, lv73, lv74, lv75, lv76, lv77, lv78, lv79, lv80, lv81, lv82, lv83, lv84, lv85, lv86, lv87, lv88, lv89, lv90, lv91, lv92, lv93, lv94, lv95, lv96, lv97, lv98, lv99, lv100, lv101, lv102, lv103, lv104, lv105, lv106, lv107, lv108, lv109, lv110, lv111, lv112, lv113, lv114, lv115, lv116, lv117, lv118, lv119, lv120, lv121, lv122, lv123, lv124, lv125, lv126, lv127, lv128, lv129, lv130, lv131, lv132, lv133, lv134, lv135, lv136, lv137, lv138, lv139, lv140, lv141, lv142, lv143, lv144, lv145, lv146, lv147, lv148, lv149, lv150, lv151, lv152, lv153, lv154, lv155, lv156, lv157, lv158, lv159, lv160, lv161, lv162, lv163, lv164, lv165, lv166, lv167, lv168, lv169, lv170, lv171, lv172, lv173, lv174, lv175, lv176, lv177, lv178, lv179, lv180, lv181, lv182, lv183, lv184, lv185, lv186, lv187, lv188, lv189, lv190, lv191, lv192, lv193, lv194, lv195, lv196, lv197, lv198, lv199, lv200, lv201], []⟩ W := by
  conv => arg 2; whnf
  refine wp_seq_k fun KK hKK => ?_
  have HK_ : Hid _ := hKK
  clear hKK
  go_wp2_with (go_at_call 9; refine (num_any _ _).mono ?_; rintro e wq ⟨rfl, rfl⟩)
  refine HK_.out _ _ ?_
  clear HK_
  exact sn27 C X (hz.out.up (by omega)) ⟨rfl, rfl⟩ ⟨Nat.le_trans hz.out.nf (by omega), Nat.le_trans hz.out.nd (by omega)⟩
end Go.Proofs.YtlkkmcibjhoneaaGreatDoor
