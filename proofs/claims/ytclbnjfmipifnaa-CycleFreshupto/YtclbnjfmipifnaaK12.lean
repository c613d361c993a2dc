/-
  The law of new memory: all that was answered, behind one row.
-/
import Derived.Test.YtclbnjfmipifnaaK13
namespace Go.Proofs.Ytclbnjfmipifnaa
open Go.RowKit Go.Maps

theorem app_Sa {w : World} {base : Nat} {v x : Value} {l k : List Value} (hown : w.ownsRow base 32 1 v l.length l) (hs : Src Try.prog 1 28 x k.length k w) (hb : l.length + k.length ≤ 1000000) (hbase : base ≤ w.heap.size)
    {ops : Array Oper} {rest : List Oper} {o : Oper} {a : Act} {Q : Exit → Act → World → Prop} (hgd : o.guard = none) (s y : Operand)
    (ho : o.op = .call { callee := .builtin .append, args := #[s, y], argTypes := #[28, 28] }) (hv : a.eval s = v) (hx : a.eval y = x)
    (h : ∀ v' w', w'.ownsRow base 32 1 v' (l ++ k).length (l ++ k) → w.grownBy w' v.ownBlock → wpList Try.prog ops Q rest (a.put o.dst v') w') :
    wpList Try.prog ops Q (o :: rest) a w := by
  obtain ⟨i0, hi, hz0, hz1, hz2⟩ := info_parts info_S2
  refine wpList_append_src w hgd s y 28 28 ho base 32 i0 _ 1 24 und_S2 hi hz0 hz1 hz2 rfl v l.length l hv hown x k.length k hx hs (by simp only [maxLen]; omega) (by omega) hbase ?_
  intro v' w' h1 h2 h3
  exact h v' w' (by rw [List.length_append]; exact h1) h2
theorem src_row {w : World} {base : Nat} {v : Value} {V : List Value} (h : w.ownsRow base 32 1 v V.length V) (h1 : ∀ u ∈ V, u.oneCell' = true) : Src Try.prog 1 28 v V.length V w := by
  rcases h.2 with ⟨e, h0⟩ | ⟨g, cap, cur, e, hr⟩
  · have e0 : V = [] := List.eq_nil_of_length_eq_zero h0
    subst e e0
    exact Src.ofNil w und_S2 0
  · subst e
    exact Src.ofSlice _ und_S2 ⟨g, 0, none⟩ V.length cap V (by simp) (fun j u hu => World.ownsRow.cells h (g := g) rfl j u hu) h1
theorem grow_step {W w w' : World} {v : Value} {l : List Value} {n : Nat} (hb : Below W.heap.size W w) (ho : w.ownsRow W.heap.size 32 1 v n l) (g : w.grownBy w' v.ownBlock) : Below W.heap.size W w' := hb.grown g hb.size (fun k hk => (World.ownsRow.lt ho k hk).1)
/-- what was answered: two lists of lists, and a list -/
structure AX (W1 W : World) (va vb vc : Value) (Va Vb : List Value) (P : List (List Lb)) (fl : List Lb) : Prop where
  bel : Below W1.heap.size W1 W
  ra : W.ownsRow W1.heap.size 32 1 va Va.length Va
  rb : W.ownsRow W1.heap.size 32 1 vb Vb.length Vb
  oa : OwnAll W1.heap.size W (Va ++ Vb ++ [vc]) (P ++ P ++ [fl])
  la : Va.length = P.length
  lb : Vb.length = P.length
  pl : P.length ≤ 120
  ll : ∀ p ∈ P ++ P ++ [fl], p.length ≤ 1000000
section
variable {W1 W W' : World} {va vb vc : Value} {Va Vb : List Value} {P : List (List Lb)} {fl : List Lb}
theorem AX.one (h : AX W1 W va vb vc Va Vb P fl) : ∀ u ∈ Va ++ Vb ++ [vc], u.oneCell' = true := fun u hu => by
  obtain ⟨j, hj, e⟩ := List.getElem_of_mem hu
  obtain ⟨l, _, ho⟩ := h.oa.at (List.getElem?_eq_some_iff.2 ⟨hj, e⟩)
  obtain ⟨a, c, e2⟩ := ho.form
  subst e2
  rfl
theorem AX.tl (h : AX W1 W va vb vc Va Vb P fl) : (Va ++ Vb ++ [vc]).length = (P ++ P ++ [fl]).length ∧ 0 < (P ++ P ++ [fl]).length ∧ (P ++ P ++ [fl]).length ≤ 250 := by
  have h1 := h.la
  have h2 := h.lb
  have h3 := h.pl
  simp only [List.length_append, List.length_singleton]
  omega
theorem AX.al (h : AX W1 W va vb vc Va Vb P fl) {ag c : Nat} (hb : Below W.heap.size W W') (ho : W'.ownsRow W.heap.size 32 1 (.slice (some ⟨ag, 0, none⟩) (Va ++ Vb ++ [vc]).length c) (Va ++ Vb ++ [vc]).length (Va ++ Vb ++ [vc])) :
    AL (P ++ P ++ [fl]).length W1 W' ag (vV (Va ++ Vb ++ [vc])) (nP (P ++ P ++ [fl])) (cP (P ++ P ++ [fl])) (dV (Va ++ Vb ++ [vc])) := by
  have hl := h.tl.1
  have hag : W.heap.size ≤ ag := (World.ownsRow.lt ho ag rfl).1
  refine ⟨bstep h.bel hb, fun j hj => row_cells ho ?_, fun j ⟨vi, h1, h2⟩ => ?_, Nat.le_trans h.bel.size hag, fun j hj => ?_, fun j hj => ?_⟩
  · have hj2 : j < (Va ++ Vb ++ [vc]).length := by omega
    rw [List.getElem?_eq_getElem hj2, vV_at (List.getElem?_eq_getElem hj2)]
  · have := (h.oa.lt h1 h2).2
    omega
  · unfold cP nP
    rw [lc_length]
  · unfold nP
    simp only [List.getD, List.getElem?_eq_getElem hj, Option.getD_some]
    exact h.ll _ (List.getElem_mem hj)
theorem AX.qm (h : AX W1 W va vb vc Va Vb P fl) (hb : Below W.heap.size W W') : QM (P ++ P ++ [fl]).length W1 W' W' (vV (Va ++ Vb ++ [vc])) (nP (P ++ P ++ [fl])) (cP (P ++ P ++ [fl])) (dV (Va ++ Vb ++ [vc])) (dV (Va ++ Vb ++ [vc])) :=
  (h.oa.later hb).qn (Nat.le_trans h.bel.size hb.size)
end

set_option maxRecDepth 100000 in
set_option maxHeartbeats 16000000 in
theorem f12 {w W1 : World} {g d wn wc : Nat} {wa : Option Addr} {Wv : List Value} {P : List (List Lb)} {N : List Lb} {E : List Ee} {mm : Int} {W : World} {xa ya za : Option Addr} {xn xc yn yc zn zc : Nat} {Va Vb : List Value} {fl : List Lb} {lv0 lv2 lv3 lv4 lv6 lv11 lv12 lv13 lv14 lv15 lv16 lv17 lv18 lv19 lv20 lv21 lv22 lv23 lv24 lv25 lv26 lv27 lv28 lv29 lv30 lv31 lv32 lv33 lv34 lv35 lv36 lv37 lv38 lv39 lv40 lv41 lv42 lv43 lv44 lv45 lv46 lv47 lv48 lv49 lv50 lv51 lv52 lv53 lv54 lv55 lv56 lv57 lv58 lv59 lv60 lv61 lv62 lv63 lv64 lv65 lv66 lv67 lv68 lv69 lv70 lv71 lv72 lv73 lv74 lv75 lv76 lv77 lv78 lv79 lv80 lv81 lv82 lv83 lv84 lv85 lv86 lv87 lv88 lv89 lv90 lv91 lv92 lv93 lv94 lv95 lv96 lv97 lv98 lv99 lv100 lv101 lv102 lv103 lv104 lv105 lv106 lv107 lv108 lv109 lv110 lv111 lv112 lv113 lv114 lv115 lv116 lv117 lv118 lv119 lv120 lv121 lv122 lv123 lv124 lv125 lv126 lv127 lv128 lv129 lv130 lv131 lv132 lv133 lv134 lv135 lv136 lv137 lv138 lv139 lv140 lv141 lv142 lv143 lv144 lv145 lv146 lv147 lv148 lv149 lv150 lv151 lv152 lv153 lv154 lv155 lv156 lv157 lv158 lv159 lv160 lv161 lv162 lv163 lv164 lv165 lv166 lv167 lv168 lv169 lv170 lv171 lv172 lv173 lv174 lv175 lv176 lv177 lv178 lv179 lv180 lv181 lv182 lv183 lv184 lv185 lv186 lv187 lv188 lv189 lv190 lv191 lv192 lv193 lv194 lv195 lv196 lv197 lv198 lv199 lv200 lv201 lv202 lv203 lv204 lv205 lv206 lv207 lv208 lv209 lv210 lv211 lv212 lv213 lv214 lv215 lv216 lv217 lv218 lv219 lv220 lv221 lv222 lv223 lv224 lv225 lv226 lv227 lv228 lv229 lv230 lv231 lv232 lv233 lv234 lv235 lv236 lv237 lv238 lv239 lv240 lv241 lv242 lv243 lv244 lv245 lv246 lv247 lv248 lv249 lv250 lv251 lv252 lv253 lv254 lv255 lv256 lv257 lv258 lv259 lv260 lv261 lv262 lv263 lv264 lv265 lv266 lv267 lv268 lv269 lv270 lv271 lv272 lv273 lv274 lv275 lv276 lv277 lv278 lv279 lv280 lv281 lv282 lv283 : Value} (X : Hid (FX w W1 g d wa wn wc Wv P N E)) (A : Hid (AX W1 W (.slice xa xn xc) (.slice ya yn yc) (.slice za zn zc) Va Vb P fl)) :
    Code.wp Try.prog (suff 12 (Try.f5.body.getD .skip)) (bodyPost Try.prog Try.f5 (GoodE w)) ⟨#[lv0, .int .i64 mm, lv2, lv3, lv4, .pointer (some ⟨g, 0, none⟩), lv6, .slice wa wn wc, .slice xa xn xc, .slice ya yn yc, .slice za zn zc, lv11, lv12, lv13, lv14, lv15, lv16, lv17, lv18, lv19, lv20, lv21, lv22, lv23, lv24, lv25, lv26, lv27, lv28, lv29, lv30, lv31, lv32, lv33, lv34, lv35, lv36, lv37, lv38, lv39, lv40, lv41, lv42, lv43, lv44, lv45, lv46, lv47, lv48, lv49, lv50, lv51, lv52, lv53, lv54, lv55, lv56, lv57, lv58, lv59, lv60, lv61, lv62, lv63, lv64, lv65, lv66, lv67, lv68, lv69, lv70, lv71, lv72, lv73, lv74, lv75, lv76, lv77, lv78, lv79, lv80, lv81, lv82, lv83, lv84, lv85, lv86, lv87, lv88, lv89, lv90, lv91, lv92, lv93, lv94, lv95, lv96, lv97, lv98, lv99, lv100, lv101, lv102, lv103, lv104, lv105, lv106, lv107, lv108, lv109, lv110, lv111, lv112, lv113, lv114, lv115, lv116, lv117, lv118, lv119, lv120, lv121, lv122, lv123, lv124, lv125, lv126, lv127, lv128, lv129, lv130, lv131, lv132, lv133, lv134, lv135, lv136, lv137, lv138, lv139, lv140, lv141, lv142, lv143, lv144, lv145, lv146, lv147, lv148, lv149, lv150, lv151, lv152, lv153, lv154, lv155, lv156, lv157, lv158, lv159, lv160, lv161, lv162, lv163, lv164, lv165, lv166, lv167, lv168, lv169, lv170, lv171, lv172, lv173, lv174, lv175, lv176, lv177, lv178, lv179, lv180, lv181, lv182, lv183, lv184, lv185, lv186, lv187, lv188, lv189, lv190, lv191, lv192, lv193, lv194, lv195, lv196, lv197, lv198, lv199, lv200, lv201, lv202, lv203, lv204, lv205, lv206, lv207, lv208, lv209, lv210, lv211, lv212, lv213, lv214, lv215, lv216, lv217, lv218, lv219, lv220, lv221, lv222, lv223, lv224, lv225, lv226, lv227, lv228, lv229, lv230, lv231, lv232, lv233, lv234, lv235, lv236, lv237, lv238, lv239, lv240, lv241, lv242, lv243, lv244, lv245, lv246, lv247, lv248, lv249, lv250, lv251, lv252, lv253, lv254, lv255, lv256, lv257, lv258, lv259, lv260, lv261, lv262, lv263, lv264, lv265, lv266, lv267, lv268, lv269, lv270, lv271, lv272, lv273, lv274, lv275, lv276, lv277, lv278, lv279, lv280, lv281, lv282, lv283], []⟩ W := by
  conv => arg 2; whnf
  have HV : Hid ((∀ u ∈ Va, u.oneCell' = true) ∧ (∀ u ∈ Vb, u.oneCell' = true) ∧ Va.length ≤ 120 ∧ Vb.length ≤ 120) :=
    ⟨fun u hu => A.out.one u (by simp [hu]), fun u hu => A.out.one u (by simp [hu]), by have := A.out.la; have := A.out.pl; omega, by have := A.out.lb; have := A.out.pl; omega⟩
  refine wp_seq_k fun K hK => ?_
  have HK : Hid _ := hK
  clear hK
  go_wp2_with (first | (at_builtin; refine app_Sa (base := W.heap.size) (l := []) (k := Va) (own_lit W [] 0 rfl (by omega)) (src_row (row_later A.out.ra (balloc W _)) HV.out.1) (by have := HV.out.2.2.1; simp; omega) (by simp) rfl (.tmp 73) (.tmp 74) rfl rfl rfl ?_; intro v1 w1 h1 g1; obtain ⟨a1, c1, e1⟩ := row_form h1; obtain ⟨n1, hn1⟩ : ∃ n1, ([] ++ Va).length = n1 := ⟨_, rfl⟩; rw [hn1] at e1; subst e1; clear hn1; have H1 : Hid (w1.ownsRow W.heap.size 32 1 (.slice a1 n1 c1) ([] ++ Va).length ([] ++ Va) ∧ Below W.heap.size W w1) := ⟨h1, grow_step (balloc W _) (own_lit W [] 0 rfl (by omega)) g1⟩; clear h1 g1) | (at_builtin; refine app_Sa (base := W.heap.size) (l := [] ++ Va) (k := Vb) H1.out.1 (src_row (row_later A.out.rb H1.out.2) HV.out.2.1) (by have := HV.out.2.2; simp; omega) H1.out.2.size rfl (.tmp 75) (.tmp 76) rfl rfl rfl ?_; intro v2 w2 h2 g2; obtain ⟨a2, c2, e2⟩ := row_form h2; obtain ⟨n2, hn2⟩ : ∃ n2, ([] ++ Va ++ Vb).length = n2 := ⟨_, rfl⟩; rw [hn2] at e2; subst e2; clear hn2; have H2 : Hid (w2.ownsRow W.heap.size 32 1 (.slice a2 n2 c2) ([] ++ Va ++ Vb).length ([] ++ Va ++ Vb) ∧ Below W.heap.size W w2) := ⟨h2, grow_step H1.out.2 H1.out.1 g2⟩; clear h2 g2) | (at_builtin; refine app_Sa (base := W.heap.size) (l := [] ++ Va ++ Vb) (k := [.slice za zn zc]) (row_later H2.out.1 (balloc _ _)) (src_S2 w2 za zn zc) (by have := HV.out.2.2; simp; omega) (Nat.le_trans H2.out.2.size (balloc _ _).size) rfl (.tmp 77) (.tmp 79) rfl rfl rfl ?_; intro v3 w3 h3 g3; obtain ⟨a3, c3, e3⟩ := row_form h3; obtain ⟨n3, hn3⟩ : ∃ n3, ([] ++ Va ++ Vb ++ [Value.slice za zn zc]).length = n3 := ⟨_, rfl⟩; rw [hn3] at e3; subst e3; have HN3 := hid_of hn3; clear hn3; have H3 : Hid (w3.ownsRow W.heap.size 32 1 (.slice a3 n3 c3) ([] ++ Va ++ Vb ++ [Value.slice za zn zc]).length ([] ++ Va ++ Vb ++ [Value.slice za zn zc]) ∧ Below W.heap.size W w3) := ⟨h3, grow_step (bstep H2.out.2 (balloc _ _)) (row_later H2.out.1 (balloc _ _)) g3⟩; clear h3 g3))
  go_wp2_with fail
  refine HK.out _ _ ?_
  clear HK K
  have hl := A.out.tl
  obtain ⟨ag, ac, hve, _, _, _⟩ := row_place H3.out.1 (by simp; omega)
  injection hve with e1 e2 e3
  subst e1 e3
  have h3 := H3.out.1
  rw [e2] at h3 ⊢
  simp only [List.nil_append] at h3 ⊢
  have HAL := hid_of (A.out.al H3.out.2 h3)
  have HQM := hid_of (A.out.qm H3.out.2)
  rw [hl.1]
  exact f13 hl.2.1 hl.2.2 X HAL HQM
end Go.Proofs.Ytclbnjfmipifnaa
