/-
  The look at fresh memory: the start.
-/
import Derived.Test.YtgibjnfaagnbfadGreatDoorF13
import Derived.Test.YtgibjnfaagnbfadGreatDoorOpen
namespace Go.Proofs.YtgibjnfaagnbfadGreatDoor
open Go.RowKit

set_option maxRecDepth 100000 in
set_option maxHeartbeats 8000000 in
theorem f0 {lv2 lv3 lv4 lv5 lv6 lv7 lv8 lv9 lv10 lv11 lv12 lv13 lv14 lv15 lv16 lv17 lv18 lv19 lv20 lv21 lv22 lv23 lv24 lv25 lv26 lv27 lv28 lv29 lv30 lv31 lv32 lv33 lv34 lv35 lv36 lv37 lv38 lv39 lv40 lv41 lv42 lv43 lv44 lv45 lv46 lv47 lv48 lv49 lv50 lv51 lv52 lv53 lv54 lv55 lv56 lv57 lv58 lv59 lv60 lv61 lv62 lv63 lv64 lv65 lv66 lv67 lv68 lv69 lv70 lv71 lv72 lv73 lv74 lv75 lv76 lv77 lv78 lv79 lv80 lv81 lv82 lv83 lv84 lv85 lv86 lv87 lv88 lv89 lv90 lv91 lv92 lv93 lv94 lv95 lv96 lv97 lv98 lv99 lv100 lv101 lv102 lv103 lv104 lv105 lv106 lv107 lv108 lv109 lv110 lv111 lv112 lv113 lv114 lv115 lv116 lv117 lv118 lv119 lv120 lv121 lv122 lv123 lv124 lv125 lv126 lv127 lv128 lv129 lv130 lv131 lv132 lv133 lv134 lv135 lv136 lv137 lv138 lv139 lv140 lv141 lv142 lv143 lv144 lv145 lv146 lv147 lv148 lv149 lv150 lv151 lv152 lv153 lv154 lv155 lv156 lv157 lv158 lv159 lv160 lv161 lv162 lv163 lv164 lv165 lv166 lv167 lv168 lv169 lv170 lv171 lv172 lv173 lv174 lv175 lv176 lv177 lv178 lv179 lv180 lv181 lv182 lv183 lv184 lv185 lv186 lv187 lv188 lv189 lv190 lv191 lv192 lv193 lv194 lv195 lv196 lv197 lv198 lv199 lv200 lv201 lv202 lv203 lv204 lv205 lv206 lv207 lv208 lv209 lv210 lv211 lv212 lv213 lv214 lv215 lv216 lv217 lv218 lv219 lv220 lv221 lv222 lv223 lv224 lv225 lv226 lv227 lv228 lv229 lv230 lv231 lv232 lv233 lv234 lv235 lv236 lv237 lv238 lv239 lv240 lv241 lv242 lv243 lv244 lv245 lv246 lv247 lv248 lv249 lv250 lv251 lv252 lv253 lv254 lv255 lv256 lv257 lv258 lv259 lv260 lv261 lv262 lv263 lv264 lv265 lv266 lv267 lv268 lv269 lv270 lv271 lv272 lv273 lv274 : Value} {w : World} {n m : Nat} {al ap : Option Addr} {cl cp : Nat} {L : List Fl} {PS : List (List UInt8)} (H : Hid (FS w (.slice al n cl) L ∧ SS w (.slice ap m cp) PS ∧ FSm L ∧ Sm PS ∧ Env w)) {P : List UInt8} {V C : Int} {R : List Fl} (RM : Hid (FSm R)) (KP : Hid (∀ (W : World) (va : Value), Below w.heap.size w W → FS W va L → Calls Tryz.prog 5 #[va] W fun e w' => e = .returned (.tuple #[.string (bs P), .int .i64 V]) ∧ Below W.heap.size W w')) (KQ : Hid (∀ (W : World) (va : Value), FS W va L → Calls Tryz.prog 6 #[va] W fun e w' => e = .returned (.tuple #[.string (bs P), .int .i64 V]) ∧ Below W.heap.size W w')) (KS : Hid (∀ W : World, Calls Tryz.prog 8 #[.string (bs P)] W fun e w' => ∃ v, e = .returned (.tuple #[v, .int .i64 C]) ∧ OwnF W.heap.size w' v R ∧ Below W.heap.size W w')) (KR : Hid (∀ W : World, Env W → Calls Tryz.prog 12 #[.string (bs P)] W fun e w' => ∃ v, e = .returned (.tuple #[v, .int .i64 C]) ∧ OwnF W.heap.size w' v R ∧ Below W.heap.size W w')) (HN : Hid (L.length = n ∧ PS.length = m)) (hnl : n ≤ 4194304) (hml : m ≤ 4194304) :
    Code.wp Tryz.prog (suff 0 (Tryz.f3.body.getD .skip)) (bodyPost Tryz.prog Tryz.f3 (Good w)) ⟨(.slice al n cl :: .slice ap m cp :: lv2 :: lv3 :: lv4 :: lv5 :: lv6 :: lv7 :: lv8 :: lv9 :: lv10 :: lv11 :: lv12 :: lv13 :: lv14 :: lv15 :: lv16 :: lv17 :: lv18 :: lv19 :: lv20 :: lv21 :: lv22 :: lv23 :: lv24 :: lv25 :: lv26 :: lv27 :: lv28 :: lv29 :: lv30 :: lv31 :: lv32 :: lv33 :: lv34 :: lv35 :: lv36 :: lv37 :: lv38 :: lv39 :: lv40 :: lv41 :: lv42 :: lv43 :: lv44 :: lv45 :: lv46 :: lv47 :: lv48 :: lv49 :: lv50 :: lv51 :: lv52 :: lv53 :: lv54 :: lv55 :: lv56 :: lv57 :: lv58 :: lv59 :: lv60 :: lv61 :: lv62 :: lv63 :: lv64 :: lv65 :: lv66 :: lv67 :: lv68 :: lv69 :: lv70 :: lv71 :: lv72 :: lv73 :: lv74 :: lv75 :: lv76 :: lv77 :: lv78 :: lv79 :: lv80 :: lv81 :: lv82 :: lv83 :: lv84 :: lv85 :: lv86 :: lv87 :: lv88 :: lv89 :: lv90 :: lv91 :: lv92 :: lv93 :: lv94 :: lv95 :: lv96 :: lv97 :: lv98 :: lv99 :: lv100 :: lv101 :: lv102 :: lv103 :: lv104 :: lv105 :: lv106 :: lv107 :: lv108 :: lv109 :: lv110 :: lv111 :: lv112 :: lv113 :: lv114 :: lv115 :: lv116 :: lv117 :: lv118 :: lv119 :: lv120 :: lv121 :: lv122 :: lv123 :: lv124 :: lv125 :: lv126 :: lv127 :: lv128 :: lv129 :: lv130 :: lv131 :: lv132 :: lv133 :: lv134 :: lv135 :: lv136 :: lv137 :: lv138 :: lv139 :: lv140 :: lv141 :: lv142 :: lv143 :: lv144 :: lv145 :: lv146 :: lv147 :: lv148 :: lv149 :: lv150 :: lv151 :: lv152 :: lv153 :: lv154 :: lv155 :: lv156 :: lv157 :: lv158 :: lv159 :: lv160 :: lv161 :: lv162 :: lv163 :: lv164 :: lv165 :: lv166 :: lv167 :: lv168 :: lv169 :: lv170 :: lv171 :: lv172 :: lv173 :: lv174 :: lv175 :: lv176 :: lv177 :: lv178 :: lv179 :: lv180 :: lv181 :: lv182 :: lv183 :: lv184 :: lv185 :: lv186 :: lv187 :: lv188 :: lv189 :: lv190 :: lv191 :: lv192 :: lv193 :: lv194 :: lv195 :: lv196 :: lv197 :: lv198 :: lv199 :: lv200 :: lv201 :: lv202 :: lv203 :: lv204 :: lv205 :: lv206 :: lv207 :: lv208 :: lv209 :: lv210 :: lv211 :: lv212 :: lv213 :: lv214 :: lv215 :: lv216 :: lv217 :: lv218 :: lv219 :: lv220 :: lv221 :: lv222 :: lv223 :: lv224 :: lv225 :: lv226 :: lv227 :: lv228 :: lv229 :: lv230 :: lv231 :: lv232 :: lv233 :: lv234 :: lv235 :: lv236 :: lv237 :: lv238 :: lv239 :: lv240 :: lv241 :: lv242 :: lv243 :: lv244 :: lv245 :: lv246 :: lv247 :: lv248 :: lv249 :: lv250 :: lv251 :: lv252 :: lv253 :: lv254 :: lv255 :: lv256 :: lv257 :: lv258 :: lv259 :: lv260 :: lv261 :: lv262 :: lv263 :: lv264 :: lv265 :: lv266 :: lv267 :: lv268 :: lv269 :: lv270 :: lv271 :: lv272 :: lv273 :: lv274 :: []).toArray, []⟩ w := by
  conv => arg 2; whnf

  refine wp_seq_k fun K hK => ?_
  have HK : Hid _ := hK
  clear hK

  go_wp2_with fail

  refine HK.out _ _ ?_
  clear HK
  conv => arg 2; whnf

  refine wp_seq_k fun K hK => ?_
  have HK : Hid _ := hK
  clear hK

  go_wp2_with fail
  refine (head_any w H.out.2.2.2.2).mono ?_
  rintro e w1 ⟨rfl, hb⟩
  have B1 : Hid (Below w.heap.size w w1) := hb
  have hz1 := hb.size
  clear hb
  go_wp2_with fail

  refine HK.out _ _ ?_
  clear HK
  conv => arg 2; whnf

  refine wp_seq_k fun K hK => ?_
  have HK : Hid _ := hK
  clear hK

  have hLn : L.length ≤ 4194304 := H.out.2.2.1.len
  go_wp2_with (first | (at_builtin; refine app_files (base := w.heap.size) (l := []) (k := L) (ownF_empty w1 _ hz1) (H.out.1.later (bstep B1.out (balloc _ _))).src (by simp; omega) (by simp; omega) rfl (.tmp 30) (.tmp 31) rfl rfl rfl ?_; intro v2 w2 ho2 hg2 hv2; have B2 : Hid (Below w.heap.size w w2 ∧ OwnF w.heap.size w2 v2 L) := ⟨(bstep B1.out (balloc _ _)).grown hg2 (by simp; omega) (fun j hj => by simp [Value.ownBlock] at hj; omega), (by simpa using ho2)⟩; have hz2 := B2.out.1.size; clear ho2 hg2 hv2) | (at_builtin; refine app_files (base := w.heap.size) (l := L) (k := [fm1, fm2]) (B2.out.2.later (balloc _ _)) (fs_new w2 [fm1, fm2] 26).src (by simp; omega) (by simp; omega) rfl (.tmp 32) (.tmp 35) rfl rfl rfl ?_; intro v3 w3 ho3 hg3 hv3; have B3 : Hid (Below w.heap.size w w3 ∧ OwnF w.heap.size w3 v3 (L ++ [fm1, fm2])) := ⟨(bstep B2.out.1 (balloc _ _)).grown hg3 (by simp; omega) (fun j hj => (B2.out.2.lt hj).1), ho3⟩; have hz3 := B3.out.1.size; clear ho3 hg3 hv3))

  refine HK.out _ _ ?_
  clear HK
  conv => arg 2; whnf

  obtain ⟨gm, cm, em⟩ : ∃ gm cm, v3 = .slice (some ⟨gm, 0, none⟩) (n + 2) cm := by
    rcases B3.out.2.form' with ⟨_, h0⟩ | ⟨g, c, e, _⟩
    · simp at h0
    · exact ⟨g, c, by rw [e]; simp [HN.out.1]⟩
  subst em

  refine wp_seq_k fun K hK => ?_
  have HK : Hid _ := hK
  clear hK

  have hPn : PS.length ≤ 4194304 := Nat.le_trans H.out.2.2.2.1.len (by omega)
  go_wp2_with (first | (at_builtin; refine app_strs (base := w.heap.size) (l := []) (k := PS) (own_empty w3 _ hz3) ((H.out.2.1.later (bstep B3.out.1 (balloc _ _))).src und23) (by simp; omega) (by simp; omega) rfl (.tmp 37) (.tmp 38) rfl rfl rfl ?_; intro v4 w4 ho4 hg4 hv4; have B4 : Hid (Below w.heap.size w w4 ∧ Own w.heap.size w4 v4 PS ∧ OwnF w.heap.size w4 (.slice (some ⟨gm, 0, none⟩) (n + 2) cm) (L ++ [fm1, fm2]) ∧ (∀ k, v4.ownBlock = some k → w3.heap.size ≤ k)) := ⟨(bstep B3.out.1 (balloc _ _)).grown hg4 (by simp; omega) (fun j hj => by simp [Value.ownBlock] at hj; omega), (by simpa using ho4), (B3.out.2.later (balloc _ _)).only (only_grown hg4) (fun k hk e => by have := (B3.out.2.lt hk).2; simp [Value.ownBlock] at e; omega), (fun k hk => by rcases hv4 with e | e <;> (rw [e] at hk; simp [Value.ownBlock] at hk; omega))⟩; have hz4 := B4.out.1.size; clear ho4 hg4 hv4) | (at_builtin; refine app_strs (base := w.heap.size) (l := PS) (k := [[110, 49], [110, 50]]) (B4.out.2.1.later (balloc _ _)) ((ss_lit w4 [[110, 49], [110, 50]] 2 rfl).src und23) (by simp; omega) (by simp; omega) rfl (.tmp 39) (.tmp 40) rfl rfl rfl ?_; intro v5 w5 ho5 hg5 hv5; have B5 : Hid (Below w.heap.size w w5 ∧ Own w.heap.size w5 v5 (PS ++ [[110, 49], [110, 50]]) ∧ OwnF w.heap.size w5 (.slice (some ⟨gm, 0, none⟩) (n + 2) cm) (L ++ [fm1, fm2])) := ⟨(bstep B4.out.1 (balloc _ _)).grown hg5 (by simp; omega) (fun j hj => (B4.out.2.1.lt hj).1), ho5, (B4.out.2.2.1.later (balloc _ _)).only (only_grown hg5) (fun k hk e => by have h1 := B4.out.2.2.2 k (mem_bl.1 e); have h2 := (B3.out.2.lt hk).2; omega)⟩; clear ho5 hg5 hv5))

  refine HK.out _ _ ?_
  clear HK
  conv => arg 2; whnf

  obtain ⟨gn, cn, en⟩ : ∃ gn cn, v5 = .slice (some ⟨gn, 0, none⟩) (m + 2) cn := by
    rcases B5.out.2.1.2 with ⟨_, h0⟩ | ⟨g, c, _, e, _⟩
    · simp at h0
    · exact ⟨g, c, by rw [e]; simp [HN.out.2]⟩
  subst en
  have U5 : Hid (FU w w5 gm cm gn cn n m L PS) := ⟨B5.out.1, B5.out.2.2, B5.out.2.1, HN.out.1, HN.out.2⟩
  have hcm := (own_capF U5.out.mine).2
  have hcn := (own_cap U5.out.names).2
  clear B1 B2 B3 B4 B5 hz1 hz2 hz3 hz4 hLn hPn

  refine wp_seq_k fun K hK => ?_
  have HK : Hid _ := hK
  clear hK

  have i0 : (0 : Int) ≤ (n : Int) := by omega
  have i1 : (n : Int) ≤ (cm : Int) := by omega
  have j0 : (0 : Int) ≤ (m : Int) := by omega
  have j1 : (m : Int) ≤ (cn : Int) := by omega
  have hcm0 : ¬ cm = 0 := by omega
  have hcn0 : ¬ cn = 0 := by omega
  have xne := gw_ne w5
  go_wp2_with fail
  refine wp_region_grow (by kernel_rfl) (by kernel_rfl) ?_
  repeat (go_big_quiet_step (fail))
  refine wpQuiet_nil ?_
  rintro w6 ⟨⟨w6, bx⟩, rfl⟩
  have U6 : Hid (FU w w6 gm cm gn cn n m L PS) := U5.out.later bx
  clear bx xne U5

  refine HK.out _ _ ?_
  clear HK
  conv => arg 2; whnf

  refine wp_seq_k fun K hK => ?_
  have HK : Hid _ := hK
  clear hK

  go_wp2_with fail
  refine (KP.out w6 _ U6.out.below U6.out.a).mono ?_
  rintro e w7 ⟨rfl, hb⟩
  have U7 : Hid (FU w w7 gm cm gn cn n m L PS) := U6.out.later hb
  clear hb U6
  go_wp2_with fail

  refine HK.out _ _ ?_
  clear HK
  conv => arg 2; whnf

  refine wp_seq_k fun K hK => ?_
  have HK : Hid _ := hK
  clear hK

  go_wp2_with fail
  refine (KQ.out w7 _ (H.out.1.later U7.out.below)).mono ?_
  rintro e w8 ⟨rfl, hb⟩
  have U8 : Hid (FU w w8 gm cm gn cn n m L PS) := U7.out.later hb
  clear hb U7
  go_wp2_with fail

  refine HK.out _ _ ?_
  clear HK
  conv => arg 2; whnf

  refine wp_seq_k fun K hK => ?_
  have HK : Hid _ := hK
  clear hK

  have eP := bs_toList P
  have hPP : (P == P) = true := by simp
  have hVV : (V == V) = true := by simp
  go_wp2_with fail
  clear eP hPP hVV

  refine HK.out _ _ ?_
  clear HK
  conv => arg 2; whnf

  refine wp_seq_k fun K hK => ?_
  have HK : Hid _ := hK
  clear hK

  go_wp2_with fail
  refine (kkeep_any (H.out.1.later U8.out.below) (H.out.2.1.later U8.out.below) H.out.2.2.1 H.out.2.2.2.1).mono ?_
  rintro e w9 ⟨vk, rfl, ho, hb⟩
  obtain ⟨ak, ck, ek⟩ := ho.form
  obtain ⟨nk, hnk⟩ : ∃ nk, (keep L PS).length = nk := ⟨_, rfl⟩
  rw [hnk] at ek
  subst ek
  have U9 : Hid (FU w w9 gm cm gn cn n m L PS ∧ OwnF w.heap.size w9 (.slice ak nk ck) (keep L PS)) := ⟨U8.out.later hb, ho.mono U8.out.below.size⟩
  clear hb ho U8 hnk
  go_wp2_with fail

  refine HK.out _ _ ?_
  clear HK
  conv => arg 2; whnf

  refine wp_seq_k fun K hK => ?_
  have HK : Hid _ := hK
  clear hK

  go_wp2_with fail
  refine (KS.out w9).mono ?_
  rintro e w10 ⟨vr, rfl, ho, hb⟩
  obtain ⟨ar, cr, er⟩ := ho.form
  obtain ⟨nr, hnr⟩ : ∃ nr, R.length = nr := ⟨_, rfl⟩
  rw [hnr] at er
  subst er
  have U10 : Hid (FU w w10 gm cm gn cn n m L PS ∧ OwnF w.heap.size w10 (.slice ak nk ck) (keep L PS) ∧ FS w10 (.slice ar nr cr) R) := ⟨U9.out.1.later hb, U9.out.2.later hb, ho.fs⟩
  clear hb ho U9 hnr
  go_wp2_with fail

  refine HK.out _ _ ?_
  clear HK
  conv => arg 2; whnf

  refine wp_seq_k fun K hK => ?_
  have HK : Hid _ := hK
  clear hK

  go_wp2_with fail

  refine HK.out _ _ ?_
  exact f13 (B := w10.heap.size) (U10.out.1.whole H.out.1 H.out.2.1 U10.out.2.1) ⟨H.out.2.2.1, H.out.2.2.2.1⟩ hnl hml rfl H.out.2.2.2.2 KR ⟨U10.out.2.2, RM.out⟩

theorem rd_fsm (s : List UInt8) (hs : s.length ≤ 4194304) : FSm ((rd s).getD []) := by
  cases h : rd s with
  | none => exact ⟨by simp, fun f hf => by simp at hf⟩
  | some M =>
    have := rd_some h
    show FSm M
    exact fsm_of this.1 (by rw [this.2]; exact hs)

set_option maxRecDepth 100000 in
set_option maxHeartbeats 4000000 in
theorem fresh_law {w : World} {vl vp : Value} {L : List Fl} {PS : List (List UInt8)} (h1 : FS w vl L) (h2 : SS w vp PS) (sm : FSm L) (tt : tot L ≤ 1048576) (sp : Sm PS) (E : Env w) :
    Calls Tryz.prog 3 #[vl, vp] w (Good w) := by
  obtain ⟨P, hP⟩ : ∃ P, (if validE L = 0 then prt L else []) = P := ⟨_, rfl⟩
  obtain ⟨V, hV⟩ : ∃ V, validE L = V := ⟨_, rfl⟩
  obtain ⟨C, hC⟩ : ∃ C : Int, (if (rd P).isSome then 0 else 18) = C := ⟨_, rfl⟩
  obtain ⟨R, hR⟩ : ∃ R, (rd P).getD [] = R := ⟨_, rfl⟩
  have hPl : P.length ≤ 4194304 := by
    rw [← hP]
    split
    · rename_i hv
      exact prt_small ((validE_zero L).1 hv) tt
    · simp
  have RM : Hid (FSm R) := by rw [← hR]; exact rd_fsm P hPl
  have KP : Hid (∀ (W : World) (va : Value), Below w.heap.size w W → FS W va L → Calls Tryz.prog 5 #[va] W fun e w' => e = .returned (.tuple #[.string (bs P), .int .i64 V]) ∧ Below W.heap.size W w') := fun W va hb hf => by
    rw [← hP, ← hV]; exact print_any hf sm (E.later hb)
  have KQ : Hid (∀ (W : World) (va : Value), FS W va L → Calls Tryz.prog 6 #[va] W fun e w' => e = .returned (.tuple #[.string (bs P), .int .i64 V]) ∧ Below W.heap.size W w') := fun W va hf => by
    rw [← hP, ← hV]; exact kprint_any hf sm
  have KS : Hid (∀ W : World, Calls Tryz.prog 8 #[.string (bs P)] W fun e w' => ∃ v, e = .returned (.tuple #[v, .int .i64 C]) ∧ OwnF W.heap.size w' v R ∧ Below W.heap.size W w') := fun W => by
    rw [← hC, ← hR]; exact kread_any P hPl W
  have KR : Hid (∀ W : World, Env W → Calls Tryz.prog 12 #[.string (bs P)] W fun e w' => ∃ v, e = .returned (.tuple #[v, .int .i64 C]) ∧ OwnF W.heap.size w' v R ∧ Below W.heap.size W w') := fun W EW => by
    rw [← hC, ← hR]; exact read_any P hPl W EW
  obtain ⟨al, cl, el, _⟩ := h1.form
  obtain ⟨ap, cp, ep, _⟩ := h2.form
  rename_i q1 q2
  clear q1 q2
  obtain ⟨n, hn⟩ : ∃ n, L.length = n := ⟨_, rfl⟩
  obtain ⟨m, hm⟩ : ∃ m, PS.length = m := ⟨_, rfl⟩
  rw [hn] at el
  rw [hm] at ep
  subst el
  subst ep
  have hnl : n ≤ 4194304 := by have := sm.len; omega
  have hml : m ≤ 4194304 := by have := sp.len; omega
  go_enter Tryz.func3, Tryz.ntmps3
  exact f0 ⟨h1, h2, sm, sp, E⟩ RM KP KQ KS KR ⟨hn, hm⟩ hnl hml
theorem fresh_say {w : World} {vl vp : Value} {L : List Fl} {PS : List (List UInt8)} (h1 : FS w vl L) (h2 : SS w vp PS) (sm : FSm L) (tt : tot L ≤ 1048576) (sp : Sm PS) (E : Env w) :
    Calls Tryz.prog 3 #[vl, vp] w fun e w' => e = .returned (.bool true) ∧ Below w.heap.size w w' := fresh_law h1 h2 sm tt sp E
end Go.Proofs.YtgibjnfaagnbfadGreatDoor
