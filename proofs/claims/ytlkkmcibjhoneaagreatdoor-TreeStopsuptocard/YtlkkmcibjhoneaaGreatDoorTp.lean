/-
  The law TreeStops: its end.
-/
import Derived.Test.YtlkkmcibjhoneaaGreatDoorJTo
import Derived.Test.YtlkkmcibjhoneaaGreatDoorJLent
import Derived.Test.YtlkkmcibjhoneaaGreatDoorMark
namespace Go.Proofs.YtlkkmcibjhoneaaGreatDoor
open Go.RowKit

/-- what is there behind the crash -/
structure X3 (TA : World → (Nat → Prop) → Nat → TT → Prop) (P : Nat → Prop) (w W : World) (t : Nat) (TX : TT) (d : Nat) (kp : Int) (u : Nat) (TU : TT) (v : Value) (Z : List Opp) : Prop where
  td : T2 TA w.heap.size w W t TX d (TX.cr kp)
  u : Tb TA w.heap.size w W u TU
  os : OS P W v Z
theorem X3.later {TA : World → (Nat → Prop) → Nat → TT → Prop} (C : TcP TA) {P : Nat → Prop} {w W W' : World} {t d u : Nat} {TX TU : TT} {kp : Int} {v : Value} {Z : List Opp} (h : X3 TA P w W t TX d kp u TU v Z) (hb : Below W.heap.size W W') : X3 TA P w W' t TX d kp u TU v Z :=
  ⟨h.td.later C hb, h.u.later C hb, h.os.later hb⟩
theorem cl_free {T : TT} (h : T.sp = 0) : T.cl.2 = 0 := by
  unfold TT.cl TT.step TT.cnt
  rw [if_pos h]
  rfl
theorem cl_down {T : TT} (h : T.sp = 1) : T.cl.2 = 15 := by
  unfold TT.cl TT.step
  rw [cnt_down h]
  rfl
theorem rst_tmod (kp : Int) (L : Nat) : ((rst kp L : Nat) : Int) = if kp.tmod ((L : Int) + 1) < 0 then kp.tmod ((L : Int) + 1) + ((L : Int) + 1) else kp.tmod ((L : Int) + 1) := by
  have h0 := Int.emod_nonneg kp (show ((L : Int) + 1) ≠ 0 by omega)
  have e := Int.mul_tdiv_add_tmod kp ((L : Int) + 1)
  have h1 := Int.tmod_lt_of_pos kp (show 0 < (L : Int) + 1 by omega)
  have h2 : -((L : Int) + 1) < kp.tmod ((L : Int) + 1) := by
    have := Int.tmod_lt_of_pos (-kp) (show 0 < (L : Int) + 1 by omega)
    rw [Int.neg_tmod] at this
    omega
  unfold rst
  rw [Int.toNat_of_nonneg h0]
  generalize kp.tmod ((L : Int) + 1) = r at e h1 h2 ⊢
  have e2 : kp % ((L : Int) + 1) = r % ((L : Int) + 1) := by
    rw [← e, Int.add_comm, Int.add_mul_emod_self_left]
  rw [e2]
  split
  · rw [← Int.add_emod_right, Int.emod_eq_of_lt (by omega) (by omega)]
  · exact Int.emod_eq_of_lt (by omega) h1
theorem rst_walk {kp : Int} {ob : List UInt8} {R : Nat} (hL : ob.length ≤ 4000000) (hR : rst kp ob.length = R) :
    R ≤ ob.length ∧ (¬ wrap64 (((bs ob).size : Int) + 1) = 0) ∧ ∃ r, kp.tmod (wrap64 (((bs ob).size : Int) + 1)) = r ∧ ((r < 0 ∧ wrap64 (wrap64 (r + ((bs ob).size : Int)) + 1) = (R : Int)) ∨ (¬ r < 0 ∧ r = (R : Int))) := by
  have hrt := rst_tmod kp ob.length
  have hrl := rst_le kp ob.length
  rw [hR] at hrt hrl
  rw [bs_size]
  generalize ob.length = L at *
  rw [IntWalk.wrap64_in ((L : Int) + 1) (by omega)]
  refine ⟨hrl, by omega, _, rfl, ?_⟩
  generalize kp.tmod ((L : Int) + 1) = r at *
  by_cases h : r < 0
  · rw [if_pos h] at hrt
    refine .inl ⟨h, ?_⟩
    rw [IntWalk.wrap64_in (r + (L : Int)) (by omega), IntWalk.wrap64_in _ (by omega)]
    omega
  · rw [if_neg h] at hrt
    exact .inr ⟨h, by omega⟩
set_option maxRecDepth 100000 in
set_option maxHeartbeats 16000000 in
theorem p24 {TA : World → (Nat → Prop) → Nat → TT → Prop} (C : TcP TA) {P : Nat → Prop} {w W : World} {t d u M m sc_ : Nat} {TX TU : TT} {kp : Int} {sa : Option Addr} {Z : List Opp} {lv0 lv1 lv2 lv4 lv5 lv6 lv7 lv8 lv10 lv12 lv14 lv17 lv18 lv19 lv20 lv21 lv22 lv23 lv24 lv25 lv26 lv27 lv28 lv29 lv30 lv31 lv32 lv33 lv34 lv35 lv36 lv37 lv38 lv39 lv40 lv41 lv42 lv43 lv44 lv45 lv46 lv47 lv48 lv49 lv50 lv51 lv52 lv53 lv54 lv55 lv56 lv57 lv58 lv59 lv60 lv61 lv62 lv63 lv64 lv65 lv66 lv67 lv68 lv69 lv70 lv71 lv72 lv73 lv74 lv75 lv76 lv77 lv78 lv79 lv80 lv81 lv82 lv83 lv84 lv85 lv86 lv87 lv88 lv89 lv90 lv91 lv92 lv93 lv94 lv95 lv96 lv97 lv98 lv99 lv100 lv101 lv102 lv103 lv104 lv105 lv106 lv107 lv108 lv109 lv110 lv111 lv112 lv113 lv114 lv115 lv116 lv117 lv118 lv119 lv120 lv121 lv122 lv123 lv124 lv125 lv126 lv127 lv128 lv129 lv130 lv131 lv132 lv133 lv134 lv135 lv136 lv137 lv138 lv139 lv140 lv141 lv142 lv143 lv144 lv145 lv146 lv147 lv148 lv149 lv150 lv151 lv152 lv153 lv154 lv155 lv156 lv157 lv158 lv159 lv160 lv161 lv162 lv163 lv164 lv165 lv166 lv167 lv168 lv169 lv170 lv171 lv172 lv173 lv174 lv175 lv176 lv177 lv178 lv179 lv180 lv181 lv182 lv183 lv184 lv185 lv186 lv187 lv188 lv189 lv190 lv191 lv192 lv193 lv194 lv195 lv196 lv197 lv198 lv199 lv200 lv201 lv202 lv203 lv204 lv205 lv206 lv207 lv208 : Value}
    (X : Hid (X3 TA P w W t TX d kp u TU (.slice sa M sc_) Z)) (hz : Hid (TSz 4000000 TX ∧ TSz 4000000 (TX.cr kp) ∧ TSz 4000000 TU)) (hM : Z.length = M) (hm : m ≤ M) (hMl : M ≤ 4000000)
    (PJ : Hid (TX.jl = TU.jl ∧ (m = M → TX.tn = []) ∧ ∀ h : m < Z.length, TX.tn = trn (Z[m]'h) ∧ TX.sp = 1 ∧ TX.dn = true)) (hZo : Hid (∀ o ∈ Z, Ook o)) :
    Code.wp Tryz.prog (suff 24 (Tryz.f3.body.getD .skip)) (bodyPost Tryz.prog Tryz.f3 (fun e w' => e = .returned (.bool true) ∧ Below w.heap.size w w')) ⟨#[lv0, lv1, lv2, .int .i64 kp, lv4, lv5, lv6, lv7, lv8, .pointer (some ⟨t, 0, none⟩), lv10, .pointer (some ⟨u, 0, none⟩), lv12, .slice sa M sc_, lv14, .int .i64 m, .pointer (some ⟨d, 0, none⟩), lv17, lv18, lv19, lv20, lv21, lv22, lv23, lv24, lv25, lv26, lv27, lv28, lv29, lv30, lv31, lv32, lv33, lv34, lv35, lv36, lv37, lv38, lv39, lv40, lv41, lv42, lv43, lv44, lv45, lv46, lv47, lv48, lv49, lv50, lv51, lv52, lv53, lv54, lv55, lv56, lv57, lv58, lv59, lv60, lv61, lv62, lv63, lv64, lv65, lv66, lv67, lv68, lv69, lv70, lv71, lv72, lv73, lv74, lv75, lv76, lv77, lv78, lv79, lv80, lv81, lv82, lv83, lv84, lv85, lv86, lv87, lv88, lv89, lv90, lv91, lv92, lv93, lv94, lv95, lv96, lv97, lv98, lv99, lv100, lv101, lv102, lv103, lv104, lv105, lv106, lv107, lv108, lv109, lv110, lv111, lv112, lv113, lv114, lv115, lv116, lv117, lv118, lv119, lv120, lv121, lv122, lv123, lv124, lv125, lv126, lv127, lv128, lv129, lv130, lv131, lv132, lv133, lv134, lv135, lv136, lv137, lv138, lv139, lv140, lv141, lv142, lv143, lv144, lv145, lv146, lv147, lv148, lv149, lv150, lv151, lv152, lv153, lv154, lv155, lv156, lv157, lv158, lv159, lv160, lv161, lv162, lv163, lv164, lv165, lv166, lv167, lv168, lv169, lv170, lv171, lv172, lv173, lv174, lv175, lv176, lv177, lv178, lv179, lv180, lv181, lv182, lv183, lv184, lv185, lv186, lv187, lv188, lv189, lv190, lv191, lv192, lv193, lv194, lv195, lv196, lv197, lv198, lv199, lv200, lv201, lv202, lv203, lv204, lv205, lv206, lv207, lv208], []⟩ W := by
  conv => arg 2; whnf
  have q1 : ((bs TU.jl).toList == (bs TU.jl).toList) = true := by simp
  by_cases hmM : m = M
  · subst hmM
    have hJ : (TX.cr kp).jl = TU.jl := by
      show TX.jl ++ TX.tn.take _ = _
      rw [PJ.out.2.1 rfl, PJ.out.1]
      simp
    go_wp2_with fail
    refine (Tb.jou C X.out.td.snd hz.out.2.1).mono ?_
    rintro e w1 ⟨v1, rfl, ho1, hb1⟩
    have hcv1 : (convert 32 9 v1).run Tryz.prog w1 = .ok (.string (bs (TU.jl))) w1 := by rw [← hJ]; exact conv_bs ho1.bs
    have X1 : Hid (X3 TA P w w1 t TX d kp u TU (.slice sa m sc_) Z) := X.out.later C hb1
    clear ho1 hb1 X
    go_wp2_with fail
    refine (Tb.jou C X1.out.u hz.out.2.2).mono ?_
    rintro e w2 ⟨v2, rfl, ho2, hb2⟩
    have hcv2 : (convert 32 9 v2).run Tryz.prog w2 = .ok (.string (bs TU.jl)) w2 := conv_bs ho2.bs
    have X2 : Hid (X3 TA P w w2 t TX d kp u TU (.slice sa m sc_) Z) := X1.out.later C hb2
    clear ho2 hb2 X1 hcv1
    go_wp2_with fail
    refine (T2.step C X2.out.td.swap (Q := fun e _ => e = .returned (.int .i64 (TX.cr kp).cl.2)) (fun F h _ => C.clr h hz.out.2.1)).mono ?_
    rintro e w3 ⟨rfl, h3⟩
    rw [cl_free (show (TX.cr kp).sp = 0 from rfl)]
    obtain ⟨_, _, hbl, _⟩ := h3.fst
    have B3 : Hid (Below w.heap.size w w3) := hbl
    clear h3 hbl X2
    go_wp2_with (go_at_call 9; refine (num_any _ _).mono ?_; rintro e wq ⟨rfl, rfl⟩)
    go_ret
    exact ⟨rfl, B3.out⟩
  · have hlt : m < M := by omega
    have hlz : m < Z.length := by omega
    obtain ⟨o, hoe⟩ : ∃ o, Z[m]'hlz = o := ⟨_, rfl⟩
    obtain ⟨tn1, tn2, tn3⟩ := PJ.out.2.2 hlz
    rw [hoe] at tn1
    have hoo : Ook o := hoe ▸ hZo.out _ (List.getElem_mem hlz)
    by_cases h5 : o.kind = 5
    · have hJ : (TX.cr kp).jl = TU.jl ++ o.b.take (rst kp o.b.length) := by
        show TX.jl ++ TX.tn.take _ = _
        have : trn o = o.b := by unfold trn; rw [if_pos h5]
        rw [tn1, PJ.out.1, this]
      go_wp2_with fail
      refine (Tb.jou C X.out.td.snd hz.out.2.1).mono ?_
      rintro e w1 ⟨v1, rfl, ho1, hb1⟩
      have hcv1 : (convert 32 9 v1).run Tryz.prog w1 = .ok (.string (bs (TU.jl ++ o.b.take (rst kp o.b.length)))) w1 := by rw [← hJ]; exact conv_bs ho1.bs
      have X1 : Hid (X3 TA P w w1 t TX d kp u TU (.slice sa M sc_) Z) := X.out.later C hb1
      clear ho1 hb1 X
      go_wp2_with fail
      refine (Tb.jou C X1.out.u hz.out.2.2).mono ?_
      rintro e w2 ⟨v2, rfl, ho2, hb2⟩
      have hcv2 : (convert 32 9 v2).run Tryz.prog w2 = .ok (.string (bs TU.jl)) w2 := conv_bs ho2.bs
      have X2 : Hid (X3 TA P w w2 t TX d kp u TU (.slice sa M sc_) Z) := X1.out.later C hb2
      clear ho2 hb2 X1 hcv1
      obtain ⟨a', c', e', hcell⟩ := X2.out.os.form
      rw [hM] at e'
      injection e' with e1 _ e3
      subst e1
      subst e3
      obtain ⟨g, off, uv, ha, hg, hc, hu⟩ := hcell m (by omega)
      subst ha
      rw [hoe] at hc
      have c0 := hc.c0
      have c6 := hc.c6
      clear hcell
      obtain ⟨ua, um, uc, rfl⟩ : ∃ a m c, uv = .slice a m c := by
        rcases hc.bs with ⟨⟨a, c, rfl⟩, _⟩ | ⟨b, of, cap, rfl, _⟩
        · exact ⟨_, _, _, rfl⟩
        · exact ⟨_, _, _, rfl⟩
      have hcv3 : (convert 32 9 (.slice ua um uc)).run Tryz.prog w2 = .ok (.string (bs o.b)) w2 := conv_bs hc.bs
      have hlb := hoo.b
      obtain ⟨kd, op, of, ob, on⟩ := o
      dsimp only at c0 c6 h5 hcv3 hlb
      subst h5
      clear hc hu hoe hoo tn1
      have hjl := hz.out.2.2.nj
      obtain ⟨R, hR⟩ : ∃ R, rst kp ob.length = R := ⟨_, rfl⟩
      obtain ⟨hRl, hnz, r, hr', hcs⟩ := rst_walk hlb hR
      rw [hR] at hJ ⊢
      have hE : bs TU.jl ++ (bs ob).extract 0 R = bs (TU.jl ++ ob.take R) := by rw [extract_to, bs_add]
      have q2 : ((bs (TU.jl ++ ob.take R)).toList == (bs (TU.jl ++ ob.take R)).toList) = true := by simp
      have z1 : (R : Int) ≤ ((bs ob).size : Int) := by rw [bs_size]; omega
      have z2 : R ≤ (bs ob).size := by rw [bs_size]; omega
      have z0 : (0 : Int) ≤ (R : Int) := by omega
      have zs : ¬ 9223372036854775807 < (bs TU.jl).size + ((bs ob).extract 0 R).size := by
        rw [extract_to, bs_size, bs_size, List.length_take]
        omega
      rcases hcs with ⟨hneg, h2⟩ | ⟨hneg, h2⟩
      · clear hlb hjl hR hRl
        go_wp2_with fail
        refine (T2.step C X2.out.td (Q := fun e _ => e = .returned (.int .i64 TX.cl.2)) (fun F h _ => C.clr h hz.out.1)).mono ?_
        rintro e w3 ⟨rfl, h3⟩
        rw [cl_down tn2]
        have D3 : Hid (T2 TA w.heap.size w w3 t TX.cl.1 d (TX.cr kp)) := h3
        clear h3 X2
        go_wp2_with (go_at_call 9; refine (num_any _ _).mono ?_; rintro e wq ⟨rfl, rfl⟩)
        refine (T2.step C D3.out.swap (Q := fun e _ => e = .returned (.int .i64 (TX.cr kp).cl.2)) (fun F h _ => C.clr h hz.out.2.1)).mono ?_
        rintro e w4 ⟨rfl, h4⟩
        rw [cl_free (show (TX.cr kp).sp = 0 from rfl)]
        obtain ⟨_, _, hbl, _⟩ := h4.fst
        have B3 : Hid (Below w.heap.size w w4) := hbl
        clear h4 hbl D3
        go_wp2_with (go_at_call 9; refine (num_any _ _).mono ?_; rintro e wq ⟨rfl, rfl⟩)
        go_ret
        exact ⟨rfl, B3.out⟩
      · subst h2
        clear hlb hjl hR hRl
        go_wp2_with fail
        refine (T2.step C X2.out.td (Q := fun e _ => e = .returned (.int .i64 TX.cl.2)) (fun F h _ => C.clr h hz.out.1)).mono ?_
        rintro e w3 ⟨rfl, h3⟩
        rw [cl_down tn2]
        have D3 : Hid (T2 TA w.heap.size w w3 t TX.cl.1 d (TX.cr kp)) := h3
        clear h3 X2
        go_wp2_with (go_at_call 9; refine (num_any _ _).mono ?_; rintro e wq ⟨rfl, rfl⟩)
        refine (T2.step C D3.out.swap (Q := fun e _ => e = .returned (.int .i64 (TX.cr kp).cl.2)) (fun F h _ => C.clr h hz.out.2.1)).mono ?_
        rintro e w4 ⟨rfl, h4⟩
        rw [cl_free (show (TX.cr kp).sp = 0 from rfl)]
        obtain ⟨_, _, hbl, _⟩ := h4.fst
        have B3 : Hid (Below w.heap.size w w4) := hbl
        clear h4 hbl D3
        go_wp2_with (go_at_call 9; refine (num_any _ _).mono ?_; rintro e wq ⟨rfl, rfl⟩)
        go_ret
        exact ⟨rfl, B3.out⟩
    · have hJ : (TX.cr kp).jl = TU.jl := by
        show TX.jl ++ TX.tn.take _ = _
        rw [tn1, PJ.out.1]
        unfold trn
        rw [if_neg h5]
        simp
      go_wp2_with fail
      refine (Tb.jou C X.out.td.snd hz.out.2.1).mono ?_
      rintro e w1 ⟨v1, rfl, ho1, hb1⟩
      have hcv1 : (convert 32 9 v1).run Tryz.prog w1 = .ok (.string (bs (TU.jl))) w1 := by rw [← hJ]; exact conv_bs ho1.bs
      have X1 : Hid (X3 TA P w w1 t TX d kp u TU (.slice sa M sc_) Z) := X.out.later C hb1
      clear ho1 hb1 X
      go_wp2_with fail
      refine (Tb.jou C X1.out.u hz.out.2.2).mono ?_
      rintro e w2 ⟨v2, rfl, ho2, hb2⟩
      have hcv2 : (convert 32 9 v2).run Tryz.prog w2 = .ok (.string (bs TU.jl)) w2 := conv_bs ho2.bs
      have X2 : Hid (X3 TA P w w2 t TX d kp u TU (.slice sa M sc_) Z) := X1.out.later C hb2
      clear ho2 hb2 X1 hcv1
      obtain ⟨a', c', e', hcell⟩ := X2.out.os.form
      rw [hM] at e'
      injection e' with e1 _ e3
      subst e1
      subst e3
      obtain ⟨g, off, uv, ha, hg, hc, hu⟩ := hcell m (by omega)
      subst ha
      rw [hoe] at hc
      have c0 := hc.c0
      have c6 := hc.c6
      clear hcell
      have hb0 := hoo.k0
      have hb1 := hoo.k1
      obtain ⟨kd, op, of, ob, on⟩ := o
      dsimp only at c0 c6 hb0 hb1 h5
      have h5' : kd ≠ 5 := h5
      have h5d : decide (kd = 5) = false := decide_eq_false h5
      have h5b : (kd == 5) = false := by simpa using h5
      have h5c : (kd != 5) = true := by simpa using h5
      clear hc hu hoe hoo tn1
      go_wp2_with fail
      refine (T2.step C X2.out.td.swap (Q := fun e _ => e = .returned (.int .i64 (TX.cr kp).cl.2)) (fun F h _ => C.clr h hz.out.2.1)).mono ?_
      rintro e w3 ⟨rfl, h3⟩
      rw [cl_free (show (TX.cr kp).sp = 0 from rfl)]
      obtain ⟨_, _, hbl, _⟩ := h3.fst
      have B3 : Hid (Below w.heap.size w w3) := hbl
      clear h3 hbl X2
      go_wp2_with (go_at_call 9; refine (num_any _ _).mono ?_; rintro e wq ⟨rfl, rfl⟩)
      go_ret
      exact ⟨rfl, B3.out⟩
end Go.Proofs.YtlkkmcibjhoneaaGreatDoor
