/-
  The look at fresh memory: the start.
-/
import Derived.Test.YtceoelclnnfhhadGreatFreshB
namespace Go.Proofs.YtceoelclnnfhhadGreat
open Go.RowKit

set_option maxRecDepth 100000 in
set_option maxHeartbeats 8000000 in
theorem f0 {lv2 lv3 lv4 lv5 lv6 lv7 lv8 lv9 lv10 lv11 lv12 lv13 lv14 lv15 lv16 lv17 lv18 lv19 lv20 lv21 lv22 lv23 lv24 lv25 lv26 lv27 lv28 lv29 lv30 lv31 lv32 lv33 lv34 lv35 lv36 lv37 lv38 lv39 lv40 lv41 lv42 lv43 lv44 lv45 lv46 lv47 lv48 lv49 lv50 lv51 lv52 lv53 lv54 lv55 lv56 lv57 lv58 lv59 lv60 lv61 lv62 lv63 lv64 lv65 lv66 lv67 lv68 lv69 lv70 lv71 lv72 lv73 lv74 lv75 lv76 lv77 lv78 lv79 lv80 lv81 lv82 lv83 lv84 lv85 lv86 lv87 lv88 lv89 lv90 lv91 lv92 lv93 lv94 lv95 lv96 lv97 lv98 lv99 lv100 lv101 lv102 lv103 lv104 lv105 lv106 lv107 lv108 lv109 lv110 lv111 lv112 lv113 lv114 lv115 lv116 lv117 lv118 lv119 lv120 lv121 lv122 lv123 lv124 lv125 lv126 lv127 lv128 lv129 lv130 lv131 lv132 lv133 lv134 lv135 lv136 lv137 lv138 lv139 lv140 lv141 lv142 lv143 lv144 lv145 lv146 lv147 lv148 lv149 lv150 lv151 lv152 lv153 lv154 lv155 lv156 lv157 lv158 lv159 lv160 lv161 lv162 lv163 lv164 lv165 lv166 lv167 lv168 lv169 lv170 lv171 lv172 lv173 lv174 lv175 lv176 lv177 lv178 lv179 lv180 lv181 lv182 lv183 lv184 lv185 lv186 lv187 lv188 lv189 lv190 lv191 lv192 lv193 lv194 lv195 lv196 lv197 lv198 lv199 lv200 lv201 lv202 lv203 lv204 lv205 lv206 lv207 lv208 lv209 lv210 lv211 lv212 lv213 lv214 lv215 lv216 lv217 lv218 lv219 lv220 lv221 lv222 lv223 lv224 lv225 lv226 lv227 lv228 lv229 : Value} {w : World} {n c0 : Nat} {a0 : Option Addr} {L : List Fl} {d : List UInt8} (H : Hid (FS w (.slice a0 n c0) L ∧ FSm L ∧ L.length = n ∧ d.length ≤ 4194304)) (HVL : Hid (validE L = 0)) (hnl : n ≤ 4194304) :
    Code.wp Tryz.prog (suff 0 (Tryz.f3.body.getD .skip)) (bodyPost Tryz.prog Tryz.f3 (GoodE w)) ⟨(.slice a0 n c0 :: .string (bs d) :: lv2 :: lv3 :: lv4 :: lv5 :: lv6 :: lv7 :: lv8 :: lv9 :: lv10 :: lv11 :: lv12 :: lv13 :: lv14 :: lv15 :: lv16 :: lv17 :: lv18 :: lv19 :: lv20 :: lv21 :: lv22 :: lv23 :: lv24 :: lv25 :: lv26 :: lv27 :: lv28 :: lv29 :: lv30 :: lv31 :: lv32 :: lv33 :: lv34 :: lv35 :: lv36 :: lv37 :: lv38 :: lv39 :: lv40 :: lv41 :: lv42 :: lv43 :: lv44 :: lv45 :: lv46 :: lv47 :: lv48 :: lv49 :: lv50 :: lv51 :: lv52 :: lv53 :: lv54 :: lv55 :: lv56 :: lv57 :: lv58 :: lv59 :: lv60 :: lv61 :: lv62 :: lv63 :: lv64 :: lv65 :: lv66 :: lv67 :: lv68 :: lv69 :: lv70 :: lv71 :: lv72 :: lv73 :: lv74 :: lv75 :: lv76 :: lv77 :: lv78 :: lv79 :: lv80 :: lv81 :: lv82 :: lv83 :: lv84 :: lv85 :: lv86 :: lv87 :: lv88 :: lv89 :: lv90 :: lv91 :: lv92 :: lv93 :: lv94 :: lv95 :: lv96 :: lv97 :: lv98 :: lv99 :: lv100 :: lv101 :: lv102 :: lv103 :: lv104 :: lv105 :: lv106 :: lv107 :: lv108 :: lv109 :: lv110 :: lv111 :: lv112 :: lv113 :: lv114 :: lv115 :: lv116 :: lv117 :: lv118 :: lv119 :: lv120 :: lv121 :: lv122 :: lv123 :: lv124 :: lv125 :: lv126 :: lv127 :: lv128 :: lv129 :: lv130 :: lv131 :: lv132 :: lv133 :: lv134 :: lv135 :: lv136 :: lv137 :: lv138 :: lv139 :: lv140 :: lv141 :: lv142 :: lv143 :: lv144 :: lv145 :: lv146 :: lv147 :: lv148 :: lv149 :: lv150 :: lv151 :: lv152 :: lv153 :: lv154 :: lv155 :: lv156 :: lv157 :: lv158 :: lv159 :: lv160 :: lv161 :: lv162 :: lv163 :: lv164 :: lv165 :: lv166 :: lv167 :: lv168 :: lv169 :: lv170 :: lv171 :: lv172 :: lv173 :: lv174 :: lv175 :: lv176 :: lv177 :: lv178 :: lv179 :: lv180 :: lv181 :: lv182 :: lv183 :: lv184 :: lv185 :: lv186 :: lv187 :: lv188 :: lv189 :: lv190 :: lv191 :: lv192 :: lv193 :: lv194 :: lv195 :: lv196 :: lv197 :: lv198 :: lv199 :: lv200 :: lv201 :: lv202 :: lv203 :: lv204 :: lv205 :: lv206 :: lv207 :: lv208 :: lv209 :: lv210 :: lv211 :: lv212 :: lv213 :: lv214 :: lv215 :: lv216 :: lv217 :: lv218 :: lv219 :: lv220 :: lv221 :: lv222 :: lv223 :: lv224 :: lv225 :: lv226 :: lv227 :: lv228 :: lv229 :: []).toArray, []⟩ w := by
  conv => arg 2; whnf

  refine wp_seq_k fun K hK => ?_
  have HK : Hid _ := hK
  clear hK

  go_wp2_with fail

  refine HK.out _ _ ?_
  clear HK
  conv => arg 2; whnf

  refine wp_seq_k fun K hK => ?_
  have HK : Hid _ := hK
  clear hK

  have hLn : L.length ≤ 4194304 := H.out.2.1.len
  go_wp2_with (first | (at_builtin; refine app_files (base := w.heap.size) (l := []) (k := L) (ownF_empty w _ (Nat.le_refl _)) (H.out.1.later (balloc _ _)).src (by simp <;> omega) (by simp <;> omega) rfl (.tmp 21) (.tmp 22) rfl rfl rfl ?_; intro v2 w2 ho2 hg2 hv2; have B2 : Hid (Below w.heap.size w w2 ∧ OwnF w.heap.size w2 v2 L) := ⟨(balloc _ _).grown hg2 (by simp <;> omega) (fun j hj => by simp [Value.ownBlock] at hj; omega), (by simpa using ho2)⟩; have hz2 := B2.out.1.size; clear ho2 hg2 hv2) | (at_builtin; refine app_files (base := w.heap.size) (l := L) (k := [fo, ft]) (B2.out.2.later (balloc _ _)) (fs_new w2 [fo, ft] 24).src (by simp <;> omega) (by simp <;> omega) rfl (.tmp 23) (.tmp 26) rfl rfl rfl ?_; intro v3 w3 ho3 hg3 hv3; have B3 : Hid (Below w.heap.size w w3 ∧ OwnF w.heap.size w3 v3 (L ++ [fo, ft])) := ⟨(bstep B2.out.1 (balloc _ _)).grown hg3 (by simp <;> omega) (fun j hj => (B2.out.2.lt hj).1), ho3⟩; have hz3 := B3.out.1.size; clear ho3 hg3 hv3))

  refine HK.out _ _ ?_
  clear HK
  conv => arg 2; whnf

  obtain ⟨gm, cm, em⟩ : ∃ gm cm, v3 = .slice (some ⟨gm, 0, none⟩) (n + 2) cm := by
    rcases own_formF B3.out.2 with ⟨_, h0⟩ | ⟨g, c, e, _⟩
    · simp at h0
    · exact ⟨g, c, by rw [e]; simp [H.out.2.2.1]⟩
  subst em
  have U3 : Hid (FU w w3 gm cm n L (L ++ [fo, ft])) := ⟨B3.out.1, B3.out.2, by simp [H.out.2.2.1], H.out.2.2.1⟩
  have hcm := (own_capF U3.out.mine).2
  have hgm := (U3.out.mine.lt (k := gm) rfl).2
  clear B2 B3 hz2 hz3 hLn
  have i0 : (0 : Int) ≤ (n : Int) := by omega
  have i1 : (n : Int) ≤ (cm : Int) := by omega
  have hcm0 : ¬ cm = 0 := by omega

  refine wp_seq_k fun K hK => ?_
  have HK : Hid _ := hK
  clear hK

  go_wp2_with fail
  refine (new_good U3.out.a H.out.2.1 HVL.out).mono ?_
  rintro e w4 ⟨t, rfl, ht, hb⟩
  have U4 : Hid (FU w w4 gm cm n L (L ++ [fo, ft]) ∧ TR w4 (fun i => w3.heap.size ≤ i ∧ i < w4.heap.size) t L 12000) := ⟨U3.out.later hb, ht⟩
  have hz4 := hb.size
  clear hb ht
  go_wp2_with fail

  refine HK.out _ _ ?_
  clear HK
  conv => arg 2; whnf

  refine wp_seq_k fun K hK => ?_
  have HK : Hid _ := hK
  clear hK

  go_wp2_with fail
  refine (new_good U4.out.1.a H.out.2.1 HVL.out).mono ?_
  rintro e w5 ⟨u, rfl, ht, hb⟩
  have U5 : Hid (FU w w5 gm cm n L (L ++ [fo, ft]) ∧ TG w w5 gm t u L) := by
    have hz := U3.out.below.size
    refine ⟨U4.out.1.later hb, _, _, U4.out.2.later hb, ht, fun i hi => ?_, fun i hi => ?_, fun i hi => ?_⟩ <;> omega
  clear hb ht
  go_wp2_with fail

  refine HK.out _ _ ?_
  clear HK
  conv => arg 2; whnf

  refine wp_seq_k fun K hK => ?_
  have HK : Hid _ := hK
  clear hK

  have q1 := eqT
  go_wp2_with fail
  refine (known_any w5).mono ?_
  rintro e w6 ⟨rfl, hb⟩
  have U6 : Hid (FU w w6 gm cm n L (L ++ [fo, ft]) ∧ TG w w6 gm t u L) := ⟨U5.out.1.later hb, U5.out.2.later hb⟩
  clear hb
  go_wp2_with fail

  refine HK.out _ _ ?_
  clear HK
  conv => arg 2; whnf

  refine wp_seq_k fun K hK => ?_
  have HK : Hid _ := hK
  clear hK

  obtain ⟨c1, c2⟩ := U6.out.1.marks
  clear i1

  have i1 : (n : Int) < (n : Int) + 2 := by omega
  have i2 : IntKind.i64.wrap ((n : Int) + 1) = (n : Int) + 1 := by rw [IntKind.wrap_i64]; omega
  have i3 : (0 : Int) ≤ (n : Int) + 1 := by omega
  have i4 : (n : Int) + 1 < (n : Int) + 2 := by omega

  go_wp2_with fail
  clear c1 c2
  refine HK.out _ _ ?_
  exact f8 (TrP := fun W => TG w W gm t u L) (fun a b h1 h2 => h1.only h2) (by
    intro _ _ _ _ _ _ _ _ _ _ _ _ _ _ _ _ _ _ _ _ _ _ _ _ _ _ _ _ _ _ _ _ _ _ _ _ _ _ _ _ _ _ _ _ _ _ _ _ _ _ _ _ _ _ _ _ _ _ _ _ _ _ _ _ _ _ _ _ _ _ _ _ _ _ _ _ _ _ _ _ _ _ _ _ _ _ _ _ _ _ _ _ _ _ _ _ _ _ _ _ _ _ _ _ _ _ _ _ _ _ _ _ _ _ _ _ _ _ _ _ _ _ _ _ _ _ _ _ _ _ _ _ _ _ _ _ _ _ _ _ _ _ _ _ _ _ _ _ _ _ _ _ _ _ _ _ _ _ _ _ _ _ _ _ _ _ _ _ _ _ _ _ _ _ _ _ _ _ _ _ _ _ _ _ _ _ _ _ _ _ _ _ _ _ _ _ _ _ _ _ _ _ _ _ _ _ _ _ _ _ _ _ _ _ _ _ _ _ _ _ _ _ _ _ _ _ w9 h1 h2
    exact f14 ⟨h2.tu, h1, H.out.1⟩ ⟨H.out.2.1, HVL.out, H.out.2.2.1, H.out.2.2.2⟩ hnl) ⟨U6.out.1, U6.out.2, H.out.1⟩ hnl

set_option maxRecDepth 100000 in
set_option maxHeartbeats 8000000 in
theorem f0n {lv2 lv3 lv4 lv5 lv6 lv7 lv8 lv9 lv10 lv11 lv12 lv13 lv14 lv15 lv16 lv17 lv18 lv19 lv20 lv21 lv22 lv23 lv24 lv25 lv26 lv27 lv28 lv29 lv30 lv31 lv32 lv33 lv34 lv35 lv36 lv37 lv38 lv39 lv40 lv41 lv42 lv43 lv44 lv45 lv46 lv47 lv48 lv49 lv50 lv51 lv52 lv53 lv54 lv55 lv56 lv57 lv58 lv59 lv60 lv61 lv62 lv63 lv64 lv65 lv66 lv67 lv68 lv69 lv70 lv71 lv72 lv73 lv74 lv75 lv76 lv77 lv78 lv79 lv80 lv81 lv82 lv83 lv84 lv85 lv86 lv87 lv88 lv89 lv90 lv91 lv92 lv93 lv94 lv95 lv96 lv97 lv98 lv99 lv100 lv101 lv102 lv103 lv104 lv105 lv106 lv107 lv108 lv109 lv110 lv111 lv112 lv113 lv114 lv115 lv116 lv117 lv118 lv119 lv120 lv121 lv122 lv123 lv124 lv125 lv126 lv127 lv128 lv129 lv130 lv131 lv132 lv133 lv134 lv135 lv136 lv137 lv138 lv139 lv140 lv141 lv142 lv143 lv144 lv145 lv146 lv147 lv148 lv149 lv150 lv151 lv152 lv153 lv154 lv155 lv156 lv157 lv158 lv159 lv160 lv161 lv162 lv163 lv164 lv165 lv166 lv167 lv168 lv169 lv170 lv171 lv172 lv173 lv174 lv175 lv176 lv177 lv178 lv179 lv180 lv181 lv182 lv183 lv184 lv185 lv186 lv187 lv188 lv189 lv190 lv191 lv192 lv193 lv194 lv195 lv196 lv197 lv198 lv199 lv200 lv201 lv202 lv203 lv204 lv205 lv206 lv207 lv208 lv209 lv210 lv211 lv212 lv213 lv214 lv215 lv216 lv217 lv218 lv219 lv220 lv221 lv222 lv223 lv224 lv225 lv226 lv227 lv228 lv229 : Value} {w : World} {n c0 : Nat} {a0 : Option Addr} {L : List Fl} {d : List UInt8} (H : Hid (FS w (.slice a0 n c0) L ∧ FSm L ∧ L.length = n ∧ d.length ≤ 4194304)) {E : Int} (HVL : Hid (validE L ≠ 0 ∧ validE L = E)) (hnl : n ≤ 4194304) :
    Code.wp Tryz.prog (suff 0 (Tryz.f3.body.getD .skip)) (bodyPost Tryz.prog Tryz.f3 (GoodE w)) ⟨(.slice a0 n c0 :: .string (bs d) :: lv2 :: lv3 :: lv4 :: lv5 :: lv6 :: lv7 :: lv8 :: lv9 :: lv10 :: lv11 :: lv12 :: lv13 :: lv14 :: lv15 :: lv16 :: lv17 :: lv18 :: lv19 :: lv20 :: lv21 :: lv22 :: lv23 :: lv24 :: lv25 :: lv26 :: lv27 :: lv28 :: lv29 :: lv30 :: lv31 :: lv32 :: lv33 :: lv34 :: lv35 :: lv36 :: lv37 :: lv38 :: lv39 :: lv40 :: lv41 :: lv42 :: lv43 :: lv44 :: lv45 :: lv46 :: lv47 :: lv48 :: lv49 :: lv50 :: lv51 :: lv52 :: lv53 :: lv54 :: lv55 :: lv56 :: lv57 :: lv58 :: lv59 :: lv60 :: lv61 :: lv62 :: lv63 :: lv64 :: lv65 :: lv66 :: lv67 :: lv68 :: lv69 :: lv70 :: lv71 :: lv72 :: lv73 :: lv74 :: lv75 :: lv76 :: lv77 :: lv78 :: lv79 :: lv80 :: lv81 :: lv82 :: lv83 :: lv84 :: lv85 :: lv86 :: lv87 :: lv88 :: lv89 :: lv90 :: lv91 :: lv92 :: lv93 :: lv94 :: lv95 :: lv96 :: lv97 :: lv98 :: lv99 :: lv100 :: lv101 :: lv102 :: lv103 :: lv104 :: lv105 :: lv106 :: lv107 :: lv108 :: lv109 :: lv110 :: lv111 :: lv112 :: lv113 :: lv114 :: lv115 :: lv116 :: lv117 :: lv118 :: lv119 :: lv120 :: lv121 :: lv122 :: lv123 :: lv124 :: lv125 :: lv126 :: lv127 :: lv128 :: lv129 :: lv130 :: lv131 :: lv132 :: lv133 :: lv134 :: lv135 :: lv136 :: lv137 :: lv138 :: lv139 :: lv140 :: lv141 :: lv142 :: lv143 :: lv144 :: lv145 :: lv146 :: lv147 :: lv148 :: lv149 :: lv150 :: lv151 :: lv152 :: lv153 :: lv154 :: lv155 :: lv156 :: lv157 :: lv158 :: lv159 :: lv160 :: lv161 :: lv162 :: lv163 :: lv164 :: lv165 :: lv166 :: lv167 :: lv168 :: lv169 :: lv170 :: lv171 :: lv172 :: lv173 :: lv174 :: lv175 :: lv176 :: lv177 :: lv178 :: lv179 :: lv180 :: lv181 :: lv182 :: lv183 :: lv184 :: lv185 :: lv186 :: lv187 :: lv188 :: lv189 :: lv190 :: lv191 :: lv192 :: lv193 :: lv194 :: lv195 :: lv196 :: lv197 :: lv198 :: lv199 :: lv200 :: lv201 :: lv202 :: lv203 :: lv204 :: lv205 :: lv206 :: lv207 :: lv208 :: lv209 :: lv210 :: lv211 :: lv212 :: lv213 :: lv214 :: lv215 :: lv216 :: lv217 :: lv218 :: lv219 :: lv220 :: lv221 :: lv222 :: lv223 :: lv224 :: lv225 :: lv226 :: lv227 :: lv228 :: lv229 :: []).toArray, []⟩ w := by
  conv => arg 2; whnf

  refine wp_seq_k fun K hK => ?_
  have HK : Hid _ := hK
  clear hK

  go_wp2_with fail

  refine HK.out _ _ ?_
  clear HK
  conv => arg 2; whnf

  refine wp_seq_k fun K hK => ?_
  have HK : Hid _ := hK
  clear hK

  have hLn : L.length ≤ 4194304 := H.out.2.1.len
  go_wp2_with (first | (at_builtin; refine app_files (base := w.heap.size) (l := []) (k := L) (ownF_empty w _ (Nat.le_refl _)) (H.out.1.later (balloc _ _)).src (by simp <;> omega) (by simp <;> omega) rfl (.tmp 21) (.tmp 22) rfl rfl rfl ?_; intro v2 w2 ho2 hg2 hv2; have B2 : Hid (Below w.heap.size w w2 ∧ OwnF w.heap.size w2 v2 L) := ⟨(balloc _ _).grown hg2 (by simp <;> omega) (fun j hj => by simp [Value.ownBlock] at hj; omega), (by simpa using ho2)⟩; have hz2 := B2.out.1.size; clear ho2 hg2 hv2) | (at_builtin; refine app_files (base := w.heap.size) (l := L) (k := [fo, ft]) (B2.out.2.later (balloc _ _)) (fs_new w2 [fo, ft] 24).src (by simp <;> omega) (by simp <;> omega) rfl (.tmp 23) (.tmp 26) rfl rfl rfl ?_; intro v3 w3 ho3 hg3 hv3; have B3 : Hid (Below w.heap.size w w3 ∧ OwnF w.heap.size w3 v3 (L ++ [fo, ft])) := ⟨(bstep B2.out.1 (balloc _ _)).grown hg3 (by simp <;> omega) (fun j hj => (B2.out.2.lt hj).1), ho3⟩; have hz3 := B3.out.1.size; clear ho3 hg3 hv3))

  refine HK.out _ _ ?_
  clear HK
  conv => arg 2; whnf

  obtain ⟨gm, cm, em⟩ : ∃ gm cm, v3 = .slice (some ⟨gm, 0, none⟩) (n + 2) cm := by
    rcases own_formF B3.out.2 with ⟨_, h0⟩ | ⟨g, c, e, _⟩
    · simp at h0
    · exact ⟨g, c, by rw [e]; simp [H.out.2.2.1]⟩
  subst em
  have U3 : Hid (FU w w3 gm cm n L (L ++ [fo, ft])) := ⟨B3.out.1, B3.out.2, by simp [H.out.2.2.1], H.out.2.2.1⟩
  have hcm := (own_capF U3.out.mine).2
  have hgm := (U3.out.mine.lt (k := gm) rfl).2
  clear B2 B3 hz2 hz3 hLn
  have i0 : (0 : Int) ≤ (n : Int) := by omega
  have i1 : (n : Int) ≤ (cm : Int) := by omega
  have hcm0 : ¬ cm = 0 := by omega

  refine wp_seq_k fun K hK => ?_
  have HK : Hid _ := hK
  clear hK

  have KN : Hid (∀ W va, FS W va L → Calls Tryz.prog 5 #[va] W fun e w' => e = .returned (.tuple #[.pointer none, .int .i64 E]) ∧ Below W.heap.size W w') := by
    intro W va hW
    have := new_bad hW H.out.2.1 HVL.out.1
    rw [HVL.out.2] at this
    exact this
  have hEb : (E != 0) = true := by
    have h1 := HVL.out.1
    rw [HVL.out.2] at h1
    simpa using h1
  have hEE : (E != E) = false := by simp
  go_wp2_with fail
  refine (KN.out _ _ U3.out.a).mono ?_
  rintro e w4 ⟨rfl, hb⟩
  have U4 : Hid (FU w w4 gm cm n L (L ++ [fo, ft])) := U3.out.later hb
  clear hb
  go_wp2_with fail

  refine HK.out _ _ ?_
  clear HK
  conv => arg 2; whnf

  refine wp_seq_k fun K hK => ?_
  have HK : Hid _ := hK
  clear hK

  go_wp2_with fail
  refine (KN.out _ _ U4.out.a).mono ?_
  rintro e w5 ⟨rfl, hb⟩
  have U5 : Hid (FU w w5 gm cm n L (L ++ [fo, ft])) := U4.out.later hb
  clear hb
  go_wp2_with fail

  refine HK.out _ _ ?_
  clear HK
  conv => arg 2; whnf

  refine wp_seq_k fun K hK => ?_
  have HK : Hid _ := hK
  clear hK

  have q1 := eqT
  go_wp2_with fail
  refine (known_any w5).mono ?_
  rintro e w6 ⟨rfl, hb⟩
  have U6 : Hid (FU w w6 gm cm n L (L ++ [fo, ft])) := U5.out.later hb
  clear hb
  go_wp2_with fail

  refine HK.out _ _ ?_
  clear HK
  conv => arg 2; whnf

  refine wp_seq_k fun K hK => ?_
  have HK : Hid _ := hK
  clear hK

  obtain ⟨c1, c2⟩ := U6.out.marks
  clear i1

  have i1 : (n : Int) < (n : Int) + 2 := by omega
  have i2 : IntKind.i64.wrap ((n : Int) + 1) = (n : Int) + 1 := by rw [IntKind.wrap_i64]; omega
  have i3 : (0 : Int) ≤ (n : Int) + 1 := by omega
  have i4 : (n : Int) + 1 < (n : Int) + 2 := by omega

  go_wp2_with fail
  clear c1 c2
  refine HK.out _ _ ?_
  exact f8 (TrP := fun _ => True) (fun a b h1 h2 => h1) (by
    intro _ _ _ _ _ _ _ _ _ _ _ _ _ _ _ _ _ _ _ _ _ _ _ _ _ _ _ _ _ _ _ _ _ _ _ _ _ _ _ _ _ _ _ _ _ _ _ _ _ _ _ _ _ _ _ _ _ _ _ _ _ _ _ _ _ _ _ _ _ _ _ _ _ _ _ _ _ _ _ _ _ _ _ _ _ _ _ _ _ _ _ _ _ _ _ _ _ _ _ _ _ _ _ _ _ _ _ _ _ _ _ _ _ _ _ _ _ _ _ _ _ _ _ _ _ _ _ _ _ _ _ _ _ _ _ _ _ _ _ _ _ _ _ _ _ _ _ _ _ _ _ _ _ _ _ _ _ _ _ _ _ _ _ _ _ _ _ _ _ _ _ _ _ _ _ _ _ _ _ _ _ _ _ _ _ _ _ _ _ _ _ _ _ _ _ _ _ _ _ _ _ _ _ _ _ _ _ _ _ _ _ _ _ _ _ _ _ _ _ _ _ _ _ _ _ _ w9 h1 h2
    exact f14n h1) ⟨U6.out, trivial, H.out.1⟩ hnl

set_option maxRecDepth 100000 in
set_option maxHeartbeats 4000000 in
theorem fresh_law {w : World} {va : Value} {L : List Fl} {d : List UInt8} (h : FS w va L) (sm : FSm L) (hd : d.length ≤ 4194304) :
    Calls Tryz.prog 3 #[va, .string (bs d)] w (GoodE w) := by
  obtain ⟨a0, c0, el, _⟩ := h.form
  rename_i q1
  clear q1
  obtain ⟨n, hn⟩ : ∃ n, L.length = n := ⟨_, rfl⟩
  rw [hn] at el
  subst el
  have hnl : n ≤ 4194304 := by have := sm.len; omega
  by_cases hv : validE L = 0
  · have HVL : Hid (validE L = 0) := hv
    have H : Hid (FS w (.slice a0 n c0) L ∧ FSm L ∧ L.length = n ∧ d.length ≤ 4194304) := ⟨h, sm, hn, hd⟩
    clear hv h sm hn hd
    go_enter Tryz.func3, Tryz.ntmps3
    exact f0 H HVL hnl
  · have HVL : Hid (validE L ≠ 0 ∧ validE L = validE L) := ⟨hv, rfl⟩
    have H : Hid (FS w (.slice a0 n c0) L ∧ FSm L ∧ L.length = n ∧ d.length ≤ 4194304) := ⟨h, sm, hn, hd⟩
    clear hv h sm hn hd
    go_enter Tryz.func3, Tryz.ntmps3
    exact f0n H HVL hnl
theorem fresh_say {w : World} {va : Value} {L : List Fl} {d : List UInt8} (h : FS w va L) (sm : FSm L) (hd : d.length ≤ 4194304) :
    Calls Tryz.prog 3 #[va, .string (bs d)] w fun e w' => e = .returned (.bool true) ∧ Below w.heap.size w w' := fresh_law h sm hd
end Go.Proofs.YtceoelclnnfhhadGreat
