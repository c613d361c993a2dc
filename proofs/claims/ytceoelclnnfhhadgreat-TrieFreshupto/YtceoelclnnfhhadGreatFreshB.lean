/-
  The look at fresh memory: from the loop that writes over what was handed in, to the end.
-/
import Derived.Test.YtceoelclnnfhhadGreatFreshA
namespace Go.Proofs.YtceoelclnnfhhadGreat
open Go.RowKit

theorem inS_none {d x : List UInt8} {k : Bool} : ¬ inS [] k d x := by
  rintro ⟨m, y, h1, _⟩
  rcases part_of (L := []) (q := pcs d ++ [m]) (by rw [h1]; rfl) with h | ⟨f, hf, _⟩
  · simp at h
  · simp at hf

set_option maxRecDepth 100000 in
set_option maxHeartbeats 8000000 in
theorem f32 {lv2 lv3 lv4 lv5 lv7 lv9 lv10 lv12 lv15 lv16 lv17 lv18 lv19 lv20 lv21 lv22 lv23 lv24 lv25 lv26 lv27 lv28 lv29 lv30 lv31 lv32 lv33 lv34 lv35 lv36 lv37 lv38 lv39 lv40 lv41 lv42 lv43 lv44 lv45 lv46 lv47 lv48 lv49 lv50 lv51 lv52 lv53 lv54 lv55 lv56 lv57 lv58 lv59 lv60 lv61 lv62 lv63 lv64 lv65 lv66 lv67 lv68 lv69 lv70 lv71 lv72 lv73 lv74 lv75 lv76 lv77 lv78 lv79 lv80 lv81 lv82 lv83 lv84 lv85 lv86 lv87 lv88 lv89 lv90 lv91 lv92 lv93 lv94 lv95 lv96 lv97 lv98 lv99 lv100 lv101 lv102 lv103 lv104 lv105 lv106 lv107 lv108 lv109 lv110 lv111 lv112 lv113 lv114 lv115 lv116 lv117 lv118 lv119 lv120 lv121 lv122 lv123 lv124 lv125 lv126 lv127 lv128 lv129 lv130 lv131 lv132 lv133 lv134 lv135 lv136 lv137 lv138 lv139 lv140 lv141 lv142 lv143 lv144 lv145 lv146 lv147 lv148 lv149 lv150 lv151 lv152 lv153 lv154 lv155 lv156 lv157 lv158 lv159 lv160 lv161 lv162 lv163 lv164 lv165 lv166 lv167 lv168 lv169 lv170 lv171 lv172 lv173 lv174 lv175 lv176 lv177 lv178 lv179 lv180 lv181 lv182 lv183 lv184 lv185 lv186 lv187 lv188 lv189 lv190 lv191 lv192 lv193 lv194 lv195 lv196 lv197 lv198 lv199 lv200 lv201 lv202 lv203 lv204 lv205 lv206 lv207 lv208 lv209 lv210 lv211 lv212 lv213 lv214 lv215 lv216 lv217 lv218 lv219 lv220 lv221 lv222 lv223 lv224 lv225 lv226 lv227 lv228 lv229 : Value} {w wc : World} {t u r n c0 nf cf nd cd : Nat} {a0 af ad : Option Addr} {L : List Fl} {d : List UInt8} (X : Hid (FZ w wc t u r [] L (.slice a0 n c0) (.slice af nf cf) (.slice ad nd cd) d)) (SM : Hid (FSm L ∧ validE L = 0 ∧ L.length = n ∧ d.length ≤ 4194304)) :
    Code.wp Tryz.prog (suff 32 (Tryz.f3.body.getD .skip)) (bodyPost Tryz.prog Tryz.f3 (GoodE w)) ⟨(.slice a0 n c0 :: .string (bs d) :: lv2 :: lv3 :: lv4 :: lv5 :: .pointer (some ⟨t, 0, none⟩) :: lv7 :: .pointer (some ⟨u, 0, none⟩) :: lv9 :: lv10 :: .pointer (some ⟨r, 0, none⟩) :: lv12 :: .slice af nf cf :: .slice ad nd cd :: lv15 :: lv16 :: lv17 :: lv18 :: lv19 :: lv20 :: lv21 :: lv22 :: lv23 :: lv24 :: lv25 :: lv26 :: lv27 :: lv28 :: lv29 :: lv30 :: lv31 :: lv32 :: lv33 :: lv34 :: lv35 :: lv36 :: lv37 :: lv38 :: lv39 :: lv40 :: lv41 :: lv42 :: lv43 :: lv44 :: lv45 :: lv46 :: lv47 :: lv48 :: lv49 :: lv50 :: lv51 :: lv52 :: lv53 :: lv54 :: lv55 :: lv56 :: lv57 :: lv58 :: lv59 :: lv60 :: lv61 :: lv62 :: lv63 :: lv64 :: lv65 :: lv66 :: lv67 :: lv68 :: lv69 :: lv70 :: lv71 :: lv72 :: lv73 :: lv74 :: lv75 :: lv76 :: lv77 :: lv78 :: lv79 :: lv80 :: lv81 :: lv82 :: lv83 :: lv84 :: lv85 :: lv86 :: lv87 :: lv88 :: lv89 :: lv90 :: lv91 :: lv92 :: lv93 :: lv94 :: lv95 :: lv96 :: lv97 :: lv98 :: lv99 :: lv100 :: lv101 :: lv102 :: lv103 :: lv104 :: lv105 :: lv106 :: lv107 :: lv108 :: lv109 :: lv110 :: lv111 :: lv112 :: lv113 :: lv114 :: lv115 :: lv116 :: lv117 :: lv118 :: lv119 :: lv120 :: lv121 :: lv122 :: lv123 :: lv124 :: lv125 :: lv126 :: lv127 :: lv128 :: lv129 :: lv130 :: lv131 :: lv132 :: lv133 :: lv134 :: lv135 :: lv136 :: lv137 :: lv138 :: lv139 :: lv140 :: lv141 :: lv142 :: lv143 :: lv144 :: lv145 :: lv146 :: lv147 :: lv148 :: lv149 :: lv150 :: lv151 :: lv152 :: lv153 :: lv154 :: lv155 :: lv156 :: lv157 :: lv158 :: lv159 :: lv160 :: lv161 :: lv162 :: lv163 :: lv164 :: lv165 :: lv166 :: lv167 :: lv168 :: lv169 :: lv170 :: lv171 :: lv172 :: lv173 :: lv174 :: lv175 :: lv176 :: lv177 :: lv178 :: lv179 :: lv180 :: lv181 :: lv182 :: lv183 :: lv184 :: lv185 :: lv186 :: lv187 :: lv188 :: lv189 :: lv190 :: lv191 :: lv192 :: lv193 :: lv194 :: lv195 :: lv196 :: lv197 :: lv198 :: lv199 :: lv200 :: lv201 :: lv202 :: lv203 :: lv204 :: lv205 :: lv206 :: lv207 :: lv208 :: lv209 :: lv210 :: lv211 :: lv212 :: lv213 :: lv214 :: lv215 :: lv216 :: lv217 :: lv218 :: lv219 :: lv220 :: lv221 :: lv222 :: lv223 :: lv224 :: lv225 :: lv226 :: lv227 :: lv228 :: lv229 :: []).toArray, []⟩ wc := by
  conv => arg 2; whnf
  have hb0 : bs [] = ⟨#[]⟩ := rfl
  have KC : Hid (∀ W, FZ w W t u r [] L (.slice a0 n c0) (.slice af nf cf) (.slice ad nd cd) d → Calls Tryz.prog 15 #[.pointer (some ⟨t, 0, none⟩), .string ⟨#[]⟩] W fun e w' => e = .returned (.int .i64 0) ∧ Below W.heap.size W w') := by
    intro W hW
    obtain ⟨F, G, h1, _⟩ := hW.tu.trees
    refine (tcount_any h1 [] (by simp)).mono ?_
    rintro e w' ⟨rfl, hb⟩
    have e0 : countS [] [] = 0 := by rw [countS_eq h1.good]; simp [cnt]
    rw [e0]
    exact ⟨rfl, hb⟩
  have KD : Hid (∀ W, FZ w W t u r [] L (.slice a0 n c0) (.slice af nf cf) (.slice ad nd cd) d → Calls Tryz.prog 11 #[.pointer (some ⟨t, 0, none⟩), .string ⟨#[]⟩] W fun e w' => ∃ a c, e = .returned (.slice a 0 c) ∧ Below W.heap.size W w') := by
    intro W hW
    obtain ⟨F, G, h1, _⟩ := hW.tu.trees
    refine (tdirs_any h1 [] (by simp)).mono ?_
    rintro e w' ⟨v, X, rfl, k1, _, k3, _, _, k4⟩
    have e0 : X = [] := by
      apply List.eq_nil_iff_forall_not_mem.2
      intro x hx
      exact inS_none ((k3 x).1 hx)
    subst e0
    obtain ⟨a, c, e⟩ := k1.len
    exact ⟨a, c, by rw [e]; rfl, k4⟩
  have KU : Hid (∀ W, FZ w W t u r [] L (.slice a0 n c0) (.slice af nf cf) (.slice ad nd cd) d → Calls Tryz.prog 15 #[.pointer (some ⟨u, 0, none⟩), .string ⟨#[]⟩] W fun e w' => e = .returned (.int .i64 n) ∧ Below W.heap.size W w') := by
    intro W hW
    obtain ⟨F, G, _, h1, _⟩ := hW.tu.trees
    refine (tcount_any h1 [] (by simp)).mono ?_
    rintro e w' ⟨rfl, hb⟩
    have e0 : countS L [] = n := by rw [countS_eq h1.good]; exact (cnt_root h1.good).trans SM.out.2.2.1
    rw [e0]
    exact ⟨rfl, hb⟩
  clear hb0
  go_wp2_with fail
  refine (KC.out _ X.out).mono ?_
  rintro e w1 ⟨rfl, hb⟩
  have X1 : Hid (FZ w w1 t u r [] L (.slice a0 n c0) (.slice af nf cf) (.slice ad nd cd) d) := X.out.later hb
  clear hb
  go_wp2_with fail
  refine (KD.out _ X1.out).mono ?_
  rintro e w2 ⟨a2, c2, rfl, hb⟩
  have X2 : Hid (FZ w w2 t u r [] L (.slice a0 n c0) (.slice af nf cf) (.slice ad nd cd) d) := X1.out.later hb
  clear hb
  go_wp2_with fail
  refine (KU.out _ X2.out).mono ?_
  rintro e w3 ⟨rfl, hb⟩
  have X3 : Hid (FZ w w3 t u r [] L (.slice a0 n c0) (.slice af nf cf) (.slice ad nd cd) d) := X2.out.later hb
  have hnn : ((n : Int) == (n : Int)) = true := by simp
  clear hb
  go_wp2_with fail
  refine (X3.out.ufiles d SM.out.2.2.2).mono ?_
  rintro e w4 ⟨v4, rfl, ho, hb⟩
  have X4 : Hid (FZ w w4 t u r [] L (.slice a0 n c0) (.slice af nf cf) (.slice ad nd cd) d ∧ SS w4 v4 (rfiles L d)) := ⟨X3.out.later hb, ho.bs⟩
  clear hb ho
  go_wp2_with fail
  refine (same_true (X4.out.1.len d).1 X4.out.2 X4.out.1.files.bs).mono ?_
  rintro e w5 ⟨rfl, hb⟩
  have X5 : Hid (FZ w w5 t u r [] L (.slice a0 n c0) (.slice af nf cf) (.slice ad nd cd) d) := X4.out.1.later hb
  clear hb
  go_wp2_with fail
  refine (kvalid_any (X5.out.fs.later X5.out.below) SM.out.1).mono ?_
  rintro e w6 ⟨rfl, hb⟩
  have X6 : Hid (FZ w w6 t u r [] L (.slice a0 n c0) (.slice af nf cf) (.slice ad nd cd) d) := X5.out.later hb
  rw [SM.out.2.1]
  clear hb
  go_wp2_with fail
  go_ret
  exact ⟨rfl, X6.out.below⟩

set_option maxRecDepth 100000 in
set_option maxHeartbeats 8000000 in
theorem f28 {lv2 lv3 lv4 lv5 lv7 lv9 lv10 lv12 lv15 lv16 lv17 lv18 lv19 lv20 lv21 lv22 lv23 lv24 lv25 lv26 lv27 lv28 lv29 lv30 lv31 lv32 lv33 lv34 lv35 lv36 lv37 lv38 lv39 lv40 lv41 lv42 lv43 lv44 lv45 lv46 lv47 lv48 lv49 lv50 lv51 lv52 lv53 lv54 lv55 lv56 lv57 lv58 lv59 lv60 lv61 lv62 lv63 lv64 lv65 lv66 lv67 lv68 lv69 lv70 lv71 lv72 lv73 lv74 lv75 lv76 lv77 lv78 lv79 lv80 lv81 lv82 lv83 lv84 lv85 lv86 lv87 lv88 lv89 lv90 lv91 lv92 lv93 lv94 lv95 lv96 lv97 lv98 lv99 lv100 lv101 lv102 lv103 lv104 lv105 lv106 lv107 lv108 lv109 lv110 lv111 lv112 lv113 lv114 lv115 lv116 lv117 lv118 lv119 lv120 lv121 lv122 lv123 lv124 lv125 lv126 lv127 lv128 lv129 lv130 lv131 lv132 lv133 lv134 lv135 lv136 lv137 lv138 lv139 lv140 lv141 lv142 lv143 lv144 lv145 lv146 lv147 lv148 lv149 lv150 lv151 lv152 lv153 lv154 lv155 lv156 lv157 lv158 lv159 lv160 lv161 lv162 lv163 lv164 lv165 lv166 lv167 lv168 lv169 lv170 lv171 lv172 lv173 lv174 lv175 lv176 lv177 lv178 lv179 lv180 lv181 lv182 lv183 lv184 lv185 lv186 lv187 lv188 lv189 lv190 lv191 lv192 lv193 lv194 lv195 lv196 lv197 lv198 lv199 lv200 lv201 lv202 lv203 lv204 lv205 lv206 lv207 lv208 lv209 lv210 lv211 lv212 lv213 lv214 lv215 lv216 lv217 lv218 lv219 lv220 lv221 lv222 lv223 lv224 lv225 lv226 lv227 lv228 lv229 : Value} {w wc : World} {t u r n c0 nf cf nd cd : Nat} {a0 af ad : Option Addr} {L : List Fl} {d : List UInt8} (X : Hid (FZ w wc t u r L L (.slice a0 n c0) (.slice af nf cf) (.slice ad nd cd) d)) (SM : Hid (FSm L ∧ validE L = 0 ∧ L.length = n ∧ d.length ≤ 4194304)) (hnl : n ≤ 4194304) :
    Code.wp Tryz.prog (suff 28 (Tryz.f3.body.getD .skip)) (bodyPost Tryz.prog Tryz.f3 (GoodE w)) ⟨(.slice a0 n c0 :: .string (bs d) :: lv2 :: lv3 :: lv4 :: lv5 :: .pointer (some ⟨t, 0, none⟩) :: lv7 :: .pointer (some ⟨u, 0, none⟩) :: lv9 :: lv10 :: .pointer (some ⟨r, 0, none⟩) :: lv12 :: .slice af nf cf :: .slice ad nd cd :: lv15 :: lv16 :: lv17 :: lv18 :: lv19 :: lv20 :: lv21 :: lv22 :: lv23 :: lv24 :: lv25 :: lv26 :: lv27 :: lv28 :: lv29 :: lv30 :: lv31 :: lv32 :: lv33 :: lv34 :: lv35 :: lv36 :: lv37 :: lv38 :: lv39 :: lv40 :: lv41 :: lv42 :: lv43 :: lv44 :: lv45 :: lv46 :: lv47 :: lv48 :: lv49 :: lv50 :: lv51 :: lv52 :: lv53 :: lv54 :: lv55 :: lv56 :: lv57 :: lv58 :: lv59 :: lv60 :: lv61 :: lv62 :: lv63 :: lv64 :: lv65 :: lv66 :: lv67 :: lv68 :: lv69 :: lv70 :: lv71 :: lv72 :: lv73 :: lv74 :: lv75 :: lv76 :: lv77 :: lv78 :: lv79 :: lv80 :: lv81 :: lv82 :: lv83 :: lv84 :: lv85 :: lv86 :: lv87 :: lv88 :: lv89 :: lv90 :: lv91 :: lv92 :: lv93 :: lv94 :: lv95 :: lv96 :: lv97 :: lv98 :: lv99 :: lv100 :: lv101 :: lv102 :: lv103 :: lv104 :: lv105 :: lv106 :: lv107 :: lv108 :: lv109 :: lv110 :: lv111 :: lv112 :: lv113 :: lv114 :: lv115 :: lv116 :: lv117 :: lv118 :: lv119 :: lv120 :: lv121 :: lv122 :: lv123 :: lv124 :: lv125 :: lv126 :: lv127 :: lv128 :: lv129 :: lv130 :: lv131 :: lv132 :: lv133 :: lv134 :: lv135 :: lv136 :: lv137 :: lv138 :: lv139 :: lv140 :: lv141 :: lv142 :: lv143 :: lv144 :: lv145 :: lv146 :: lv147 :: lv148 :: lv149 :: lv150 :: lv151 :: lv152 :: lv153 :: lv154 :: lv155 :: lv156 :: lv157 :: lv158 :: lv159 :: lv160 :: lv161 :: lv162 :: lv163 :: lv164 :: lv165 :: lv166 :: lv167 :: lv168 :: lv169 :: lv170 :: lv171 :: lv172 :: lv173 :: lv174 :: lv175 :: lv176 :: lv177 :: lv178 :: lv179 :: lv180 :: lv181 :: lv182 :: lv183 :: lv184 :: lv185 :: lv186 :: lv187 :: lv188 :: lv189 :: lv190 :: lv191 :: lv192 :: lv193 :: lv194 :: lv195 :: lv196 :: lv197 :: lv198 :: lv199 :: lv200 :: lv201 :: lv202 :: lv203 :: lv204 :: lv205 :: lv206 :: lv207 :: lv208 :: lv209 :: lv210 :: lv211 :: lv212 :: lv213 :: lv214 :: lv215 :: lv216 :: lv217 :: lv218 :: lv219 :: lv220 :: lv221 :: lv222 :: lv223 :: lv224 :: lv225 :: lv226 :: lv227 :: lv228 :: lv229 :: []).toArray, []⟩ wc := by
  conv => arg 2; whnf

  refine wp_seq_k fun K hK => ?_
  have HK : Hid _ := hK
  clear hK

  go_wp2_with fail
  go_loopw [20] (fun i wr => ∃ (k : Nat) (T : List Fl), k ≤ n ∧ i = .int .i64 k ∧ FZ w wr t u r T L (.slice a0 n c0) (.slice af nf cf) (.slice ad nd cd) d ∧ (∀ f ∈ T, f ∈ L) ∧ ∀ j (hj : j < L.length), j < k → ∀ f ∈ T, f.path ≠ L[j].path) (fun i _ => n - (intOf i).toNat)
  case atStart => exact ⟨0, L, by omega, rfl, X.out, fun f hf => hf, fun j hj h => by omega⟩
  case round =>
    rename World => w1
    obtain ⟨k, T, hk, rfl, hz, hsub, hgone⟩ := hrel
    have Z : Hid (FZ w w1 t u r T L (.slice a0 n c0) (.slice af nf cf) (.slice ad nd cd) d ∧ (∀ f ∈ T, f ∈ L) ∧ ∀ j (hj : j < L.length), j < k → ∀ f ∈ T, f.path ≠ L[j].path) := ⟨hz, hsub, hgone⟩
    clear hz hsub hgone
    by_cases hlt : k < n
    · have hkl : k < L.length := by have := SM.out.2.2.1; omega
      have hfs : FS w (.slice a0 L.length c0) L := by rw [SM.out.2.2.1]; exact Z.out.1.fs
      obtain ⟨b, off, ea, hbl, d0, _, _, _⟩ := FS.at hfs Z.out.1.below hkl
      subst ea
      obtain ⟨p, hp⟩ : ∃ p, L[k].path = p := ⟨_, rfl⟩
      have hpl : p.length ≤ 4194304 := by rw [← hp]; exact (SM.out.1.at hkl).path
      have HP : Hid (L[k].path = p) := hp
      rw [hp] at d0
      have k1 : (0 : Int) ≤ (k : Int) := by omega
      have k2 : (k : Int) < (n : Int) := by omega
      clear hfs hp
      go_wp2_with fail
      refine (Z.out.1.drop Z.out.2.1 p hpl).mono ?_
      rintro e w2 ⟨x, rfl, hz⟩
      have Z2 : Hid (∃ T, FZ w w2 t u r T L (.slice (some ⟨b, off, none⟩) n c0) (.slice af nf cf) (.slice ad nd cd) d ∧ (∀ f ∈ T, f ∈ L) ∧ ∀ j (hj : j < L.length), j < k + 1 → ∀ f ∈ T, f.path ≠ L[j].path) := by
        refine ⟨_, hz, fun f hf => Z.out.2.1 f (List.mem_filter.1 hf).1, fun j hj hjk f hf => ?_⟩
        obtain ⟨hf1, hf2⟩ := List.mem_filter.1 hf
        by_cases hjk2 : j = k
        · subst hjk2
          rw [HP.out]
          simpa using hf2
        · exact Z.out.2.2 j hj (by omega) f hf1
      clear hz d0
      go_wp2_with fail
      go_roundw
      case rel =>
        obtain ⟨T2, h1, h2, h3⟩ := Z2.out
        exact ⟨k + 1, T2, by omega, by go_num, h1, h2, h3⟩
      case measure => simp [intOf]; omega
    · obtain rfl : n = k := by omega
      have hT : T = [] := by
        apply List.eq_nil_iff_forall_not_mem.2
        intro f hf
        obtain ⟨j, hj, e⟩ := List.getElem_of_mem (Z.out.2.1 f hf)
        have := SM.out.2.2.1
        exact Z.out.2.2 j hj (by omega) f hf (by rw [e])
      have Z2 : Hid (FZ w w1 t u r [] L (.slice a0 n c0) (.slice af nf cf) (.slice ad nd cd) d) := by have := Z.out.1; rw [hT] at this; exact this
      clear hT
      go_wp2_with fail
      refine HK.out _ _ ?_
      exact f32 Z2 SM

set_option maxRecDepth 100000 in
set_option maxHeartbeats 8000000 in
theorem f26 {lv2 lv3 lv4 lv5 lv7 lv9 lv10 lv12 lv15 lv16 lv17 lv18 lv19 lv20 lv21 lv22 lv23 lv24 lv25 lv26 lv27 lv28 lv29 lv30 lv31 lv32 lv33 lv34 lv35 lv36 lv37 lv38 lv39 lv40 lv41 lv42 lv43 lv44 lv45 lv46 lv47 lv48 lv49 lv50 lv51 lv52 lv53 lv54 lv55 lv56 lv57 lv58 lv59 lv60 lv61 lv62 lv63 lv64 lv65 lv66 lv67 lv68 lv69 lv70 lv71 lv72 lv73 lv74 lv75 lv76 lv77 lv78 lv79 lv80 lv81 lv82 lv83 lv84 lv85 lv86 lv87 lv88 lv89 lv90 lv91 lv92 lv93 lv94 lv95 lv96 lv97 lv98 lv99 lv100 lv101 lv102 lv103 lv104 lv105 lv106 lv107 lv108 lv109 lv110 lv111 lv112 lv113 lv114 lv115 lv116 lv117 lv118 lv119 lv120 lv121 lv122 lv123 lv124 lv125 lv126 lv127 lv128 lv129 lv130 lv131 lv132 lv133 lv134 lv135 lv136 lv137 lv138 lv139 lv140 lv141 lv142 lv143 lv144 lv145 lv146 lv147 lv148 lv149 lv150 lv151 lv152 lv153 lv154 lv155 lv156 lv157 lv158 lv159 lv160 lv161 lv162 lv163 lv164 lv165 lv166 lv167 lv168 lv169 lv170 lv171 lv172 lv173 lv174 lv175 lv176 lv177 lv178 lv179 lv180 lv181 lv182 lv183 lv184 lv185 lv186 lv187 lv188 lv189 lv190 lv191 lv192 lv193 lv194 lv195 lv196 lv197 lv198 lv199 lv200 lv201 lv202 lv203 lv204 lv205 lv206 lv207 lv208 lv209 lv210 lv211 lv212 lv213 lv214 lv215 lv216 lv217 lv218 lv219 lv220 lv221 lv222 lv223 lv224 lv225 lv226 lv227 lv228 lv229 : Value} {w wc : World} {t u r n c0 nf cf nd cd : Nat} {a0 af ad : Option Addr} {L : List Fl} {d : List UInt8} (X : Hid (FZ w wc t u r L L (.slice a0 n c0) (.slice af nf cf) (.slice ad nd cd) d)) (SM : Hid (FSm L ∧ validE L = 0 ∧ L.length = n ∧ d.length ≤ 4194304)) (hnl : n ≤ 4194304) :
    Code.wp Tryz.prog (suff 26 (Tryz.f3.body.getD .skip)) (bodyPost Tryz.prog Tryz.f3 (GoodE w)) ⟨(.slice a0 n c0 :: .string (bs d) :: lv2 :: lv3 :: lv4 :: lv5 :: .pointer (some ⟨t, 0, none⟩) :: lv7 :: .pointer (some ⟨u, 0, none⟩) :: lv9 :: lv10 :: .pointer (some ⟨r, 0, none⟩) :: lv12 :: .slice af nf cf :: .slice ad nd cd :: lv15 :: lv16 :: lv17 :: lv18 :: lv19 :: lv20 :: lv21 :: lv22 :: lv23 :: lv24 :: lv25 :: lv26 :: lv27 :: lv28 :: lv29 :: lv30 :: lv31 :: lv32 :: lv33 :: lv34 :: lv35 :: lv36 :: lv37 :: lv38 :: lv39 :: lv40 :: lv41 :: lv42 :: lv43 :: lv44 :: lv45 :: lv46 :: lv47 :: lv48 :: lv49 :: lv50 :: lv51 :: lv52 :: lv53 :: lv54 :: lv55 :: lv56 :: lv57 :: lv58 :: lv59 :: lv60 :: lv61 :: lv62 :: lv63 :: lv64 :: lv65 :: lv66 :: lv67 :: lv68 :: lv69 :: lv70 :: lv71 :: lv72 :: lv73 :: lv74 :: lv75 :: lv76 :: lv77 :: lv78 :: lv79 :: lv80 :: lv81 :: lv82 :: lv83 :: lv84 :: lv85 :: lv86 :: lv87 :: lv88 :: lv89 :: lv90 :: lv91 :: lv92 :: lv93 :: lv94 :: lv95 :: lv96 :: lv97 :: lv98 :: lv99 :: lv100 :: lv101 :: lv102 :: lv103 :: lv104 :: lv105 :: lv106 :: lv107 :: lv108 :: lv109 :: lv110 :: lv111 :: lv112 :: lv113 :: lv114 :: lv115 :: lv116 :: lv117 :: lv118 :: lv119 :: lv120 :: lv121 :: lv122 :: lv123 :: lv124 :: lv125 :: lv126 :: lv127 :: lv128 :: lv129 :: lv130 :: lv131 :: lv132 :: lv133 :: lv134 :: lv135 :: lv136 :: lv137 :: lv138 :: lv139 :: lv140 :: lv141 :: lv142 :: lv143 :: lv144 :: lv145 :: lv146 :: lv147 :: lv148 :: lv149 :: lv150 :: lv151 :: lv152 :: lv153 :: lv154 :: lv155 :: lv156 :: lv157 :: lv158 :: lv159 :: lv160 :: lv161 :: lv162 :: lv163 :: lv164 :: lv165 :: lv166 :: lv167 :: lv168 :: lv169 :: lv170 :: lv171 :: lv172 :: lv173 :: lv174 :: lv175 :: lv176 :: lv177 :: lv178 :: lv179 :: lv180 :: lv181 :: lv182 :: lv183 :: lv184 :: lv185 :: lv186 :: lv187 :: lv188 :: lv189 :: lv190 :: lv191 :: lv192 :: lv193 :: lv194 :: lv195 :: lv196 :: lv197 :: lv198 :: lv199 :: lv200 :: lv201 :: lv202 :: lv203 :: lv204 :: lv205 :: lv206 :: lv207 :: lv208 :: lv209 :: lv210 :: lv211 :: lv212 :: lv213 :: lv214 :: lv215 :: lv216 :: lv217 :: lv218 :: lv219 :: lv220 :: lv221 :: lv222 :: lv223 :: lv224 :: lv225 :: lv226 :: lv227 :: lv228 :: lv229 :: []).toArray, []⟩ wc := by
  conv => arg 2; whnf

  refine wp_seq_k fun K hK => ?_
  have HK : Hid _ := hK
  clear hK

  have KA : Hid (∀ W, FZ w W t u r L L (.slice a0 n c0) (.slice af nf cf) (.slice ad nd cd) d → Calls Tryz.prog 10 #[.pointer (some ⟨t, 0, none⟩), .string ⟨#[]⟩] W fun e w' => ∃ v, e = .returned v ∧ Own W.heap.size w' v (rfiles L []) ∧ Below W.heap.size W w') := fun W hW => hW.tfiles [] (by simp)
  have KB : Hid (∀ W, FZ w W t u r L L (.slice a0 n c0) (.slice af nf cf) (.slice ad nd cd) d → Calls Tryz.prog 8 #[.pointer (some ⟨r, 0, none⟩), .string ⟨#[]⟩] W fun e w' => ∃ v, e = .returned v ∧ Own W.heap.size w' v (rfiles L []) ∧ Below W.heap.size W w') := fun W hW => rfilesT_any hW.rt [] (by simp)
  go_wp2_with fail
  refine (X.out.tfiles d SM.out.2.2.2).mono ?_
  rintro e w1 ⟨v1, rfl, ho, hb⟩
  have X1 : Hid (FZ w w1 t u r L L (.slice a0 n c0) (.slice af nf cf) (.slice ad nd cd) d ∧ SS w1 v1 (rfiles L d)) := ⟨X.out.later hb, ho.bs⟩
  clear hb ho
  go_wp2_with fail
  refine (same_true (X1.out.1.len d).1 X1.out.2 X1.out.1.files.bs).mono ?_
  rintro e w2 ⟨rfl, hb⟩
  have X2 : Hid (FZ w w2 t u r L L (.slice a0 n c0) (.slice af nf cf) (.slice ad nd cd) d) := X1.out.1.later hb
  clear hb
  go_wp2_with fail
  refine (X2.out.tdirs d SM.out.2.2.2).mono ?_
  rintro e w3 ⟨v3, rfl, ho, hb⟩
  have X3 : Hid (FZ w w3 t u r L L (.slice a0 n c0) (.slice af nf cf) (.slice ad nd cd) d ∧ SS w3 v3 (rdirs (pcs d) L [])) := ⟨X2.out.later hb, ho.bs⟩
  clear hb ho
  go_wp2_with fail
  refine (same_true (X3.out.1.len d).2 X3.out.2 X3.out.1.dirs.bs).mono ?_
  rintro e w4 ⟨rfl, hb⟩
  have X4 : Hid (FZ w w4 t u r L L (.slice a0 n c0) (.slice af nf cf) (.slice ad nd cd) d) := X3.out.1.later hb
  clear hb
  go_wp2_with fail
  refine (KA.out _ X4.out).mono ?_
  rintro e w5 ⟨v5, rfl, ho, hb⟩
  have X5 : Hid (FZ w w5 t u r L L (.slice a0 n c0) (.slice af nf cf) (.slice ad nd cd) d ∧ SS w5 v5 (rfiles L [])) := ⟨X4.out.later hb, ho.bs⟩
  clear hb ho
  go_wp2_with fail
  refine (KB.out _ X5.out.1).mono ?_
  rintro e w6 ⟨v6, rfl, ho, hb⟩
  have X6 : Hid (FZ w w6 t u r L L (.slice a0 n c0) (.slice af nf cf) (.slice ad nd cd) d ∧ SS w6 v5 (rfiles L []) ∧ SS w6 v6 (rfiles L [])) := ⟨X5.out.1.later hb, X5.out.2.later hb, ho.bs⟩
  clear hb ho
  go_wp2_with fail
  refine (same_true (X6.out.1.len []).1 X6.out.2.1 X6.out.2.2).mono ?_
  rintro e w7 ⟨rfl, hb⟩
  have X7 : Hid (FZ w w7 t u r L L (.slice a0 n c0) (.slice af nf cf) (.slice ad nd cd) d) := X6.out.1.later hb
  clear hb
  go_wp2_with fail
  refine HK.out _ _ ?_
  exact f28 X7 SM hnl

/-- k lists, each newer than the one ahead of it -/
structure LK (B : Nat) (wc : World) (k : Nat) (V : Nat → Value) (LL : Nat → List (List UInt8)) : Prop where
  it : ∃ b : Nat → Nat, b 0 = B ∧ b k ≤ wc.heap.size ∧ (∀ i, i < k → b i ≤ b (i + 1)) ∧ (∀ i, i < k → Own (b i) wc (V i) (LL i)) ∧ ∀ i, i < k → ∀ g, (V i).ownBlock = some g → g < b (i + 1)
theorem LK.zero (wc : World) (V : Nat → Value) (LL : Nat → List (List UInt8)) : LK wc.heap.size wc 0 V LL := ⟨fun _ => wc.heap.size, rfl, Nat.le_refl _, fun i hi => by omega, fun i hi => by omega, fun i hi => by omega⟩
theorem LK.later {B k : Nat} {wc wd : World} {V : Nat → Value} {LL : Nat → List (List UInt8)} (h : LK B wc k V LL) (hb : Below wc.heap.size wc wd) : LK B wd k V LL := by
  obtain ⟨b, h0, h1, h2, h3, h4⟩ := h.it
  exact ⟨b, h0, Nat.le_trans h1 hb.size, h2, fun i hi => (h3 i hi).later hb, h4⟩
theorem LK.next {B k : Nat} {wc wd : World} {V : Nat → Value} {LL : Nat → List (List UInt8)} (h : LK B wc k V LL) (hb : Below wc.heap.size wc wd) {v : Value} {l : List (List UInt8)} (ho : Own wc.heap.size wd v l) :
    LK B wd (k + 1) (fun i => if i = k then v else V i) (fun i => if i = k then l else LL i) := by
  obtain ⟨b, h0, h1, h2, h3, h4⟩ := h.it
  have hz := hb.size
  refine ⟨fun i => if i ≤ k then b i else wd.heap.size, by simp only [Nat.zero_le, if_true]; exact h0, by simp only; rw [if_neg (by omega)]; exact Nat.le_refl _, fun i hi => ?_, fun i hi => ?_, fun i hi g hg => ?_⟩
  · simp only
    rw [if_pos (by omega)]
    by_cases e : i + 1 ≤ k
    · rw [if_pos e]; exact h2 i (by omega)
    · rw [if_neg e]
      have : i = k := by omega
      subst this
      omega
  · simp only
    rw [if_pos (by omega)]
    by_cases e : i = k
    · subst e; rw [if_pos rfl, if_pos rfl]; exact ho.mono h1
    · rw [if_neg e, if_neg e]; exact (h3 i (by omega)).later hb
  · have hg2 : (if i = k then v else V i).ownBlock = some g := hg
    simp only
    by_cases e : i = k
    · subst e; rw [if_pos rfl] at hg2; rw [if_neg (by omega)]; exact (ho.lt hg2).2
    · rw [if_neg e] at hg2; rw [if_pos (by omega)]; exact h4 i (by omega) g hg2
theorem mono5 {b : Nat → Nat} (h : ∀ i, i < 5 → b i ≤ b (i + 1)) : ∀ {i j : Nat}, i ≤ j → j ≤ 5 → b i ≤ b j := by
  intro i j hij hj
  induction j with
  | zero => obtain rfl : i = 0 := by omega
            exact Nat.le_refl _
  | succ j ih =>
    by_cases e : i = j + 1
    · subst e; exact Nat.le_refl _
    · exact Nat.le_trans (ih (by omega) (by omega)) (h j (by omega))
theorem LK.q5 {B : Nat} {wc : World} {V : Nat → Value} {LL : Nat → List (List UInt8)} (h : LK B wc 5 V LL) :
    ∃ D, Q5 B (wc.alloc (.cells #[V 0, V 1, V 2, V 3, V 4] 33)) (wc.alloc (.cells #[V 0, V 1, V 2, V 3, V 4] 33)) wc.heap.size V LL D := by
  obtain ⟨b, h0, h1, h2, h3, h4⟩ := h.it
  have hm := @mono5 b h2
  have hb := balloc wc (.cells #[V 0, V 1, V 2, V 3, V 4] 33)
  have hz : (wc.alloc (.cells #[V 0, V 1, V 2, V 3, V 4] 33)).heap.size = wc.heap.size + 1 := by simp
  refine ⟨fun i g => i < 5 ∧ b i ≤ g ∧ g < b (i + 1), fun i hi => ?_, fun i hi => ((h3 i hi).later hb).mono (by have := hm (i := 0) (j := i) (by omega) (by omega); omega), fun i hi g hg => ⟨hi, ((h3 i hi).lt hg).1, h4 i hi g hg⟩, ?_, ?_, by omega, ?_, Below.refl _ _⟩
  · have : i = 0 ∨ i = 1 ∨ i = 2 ∨ i = 3 ∨ i = 4 := by omega
    rcases this with rfl | rfl | rfl | rfl | rfl <;> simp
  · rintro i j g ⟨hi, a1, a2⟩ ⟨hj, b1, b2⟩
    rcases Nat.lt_trichotomy i j with e | e | e
    · have := hm (i := i + 1) (j := j) (by omega) (by omega); omega
    · exact e
    · have := hm (i := j + 1) (j := i) (by omega) (by omega); omega
  · rintro i g ⟨hi, a1, a2⟩
    have e1 := hm (i := 0) (j := i) (by omega) (by omega)
    have e2 := hm (i := i + 1) (j := 5) (by omega) (by omega)
    omega
  · have e1 := hm (i := 0) (j := 5) (by omega) (by omega)
    omega

set_option maxRecDepth 100000 in
set_option maxHeartbeats 8000000 in
theorem f24 {lv2 lv3 lv4 lv5 lv7 lv9 lv10 lv12 lv20 lv21 lv22 lv23 lv24 lv25 lv26 lv27 lv28 lv29 lv30 lv31 lv32 lv33 lv34 lv35 lv36 lv37 lv38 lv39 lv40 lv41 lv42 lv43 lv44 lv45 lv46 lv47 lv48 lv49 lv50 lv51 lv52 lv53 lv54 lv55 lv56 lv57 lv58 lv59 lv60 lv61 lv62 lv63 lv64 lv65 lv66 lv67 lv68 lv69 lv70 lv71 lv72 lv73 lv74 lv75 lv76 lv77 lv78 lv79 lv80 lv81 lv82 lv83 lv84 lv85 lv86 lv87 lv88 lv89 lv90 lv91 lv92 lv93 lv94 lv95 lv96 lv97 lv98 lv99 lv100 lv101 lv102 lv103 lv104 lv105 lv106 lv107 lv108 lv109 lv110 lv111 lv112 lv113 lv114 lv115 lv116 lv117 lv118 lv119 lv120 lv121 lv122 lv123 lv124 lv125 lv126 lv127 lv128 lv129 lv130 lv131 lv132 lv133 lv134 lv135 lv136 lv137 lv138 lv139 lv140 lv141 lv142 lv143 lv144 lv145 lv146 lv147 lv148 lv149 lv150 lv151 lv152 lv153 lv154 lv155 lv156 lv157 lv158 lv159 lv160 lv161 lv162 lv163 lv164 lv165 lv166 lv167 lv168 lv169 lv170 lv171 lv172 lv173 lv174 lv175 lv176 lv177 lv178 lv179 lv180 lv181 lv182 lv183 lv184 lv185 lv186 lv187 lv188 lv189 lv190 lv191 lv192 lv193 lv194 lv195 lv196 lv197 lv198 lv199 lv200 lv201 lv202 lv203 lv204 lv205 lv206 lv207 lv208 lv209 lv210 lv211 lv212 lv213 lv214 lv215 lv216 lv217 lv218 lv219 lv220 lv221 lv222 lv223 lv224 lv225 lv226 lv227 lv228 lv229 : Value} {w wc : World} {t u r n c0 nf cf nd cd : Nat} {a0 af ad : Option Addr} {L : List Fl} {d : List UInt8} {p0 p1 p2 p3 p4 : Option Addr} {m0 q0 m1 q1 m2 q2 m3 q3 m4 q4 : Nat} {w8 : World} {V : Nat → Value} {LL : Nat → List (List UInt8)} (X : Hid (FZ w w8 t u r L L (.slice a0 n c0) (.slice af nf cf) (.slice ad nd cd) d)) (Y0 : Hid (Below w8.heap.size w8 wc ∧ LK w8.heap.size wc 5 V LL)) (HV : Hid (V 0 = .slice p0 m0 q0 ∧ V 1 = .slice p1 m1 q1 ∧ V 2 = .slice p2 m2 q2 ∧ V 3 = .slice p3 m3 q3 ∧ V 4 = .slice p4 m4 q4)) (HL : Hid (LL 0 = rfiles L d ∧ LL 1 = rfiles L d ∧ LL 2 = rdirs (pcs d) L [] ∧ LL 3 = rdirs (pcs d) L [] ∧ LL 4 = rfiles L [])) (SM : Hid (FSm L ∧ validE L = 0 ∧ L.length = n ∧ d.length ≤ 4194304)) (hnl : n ≤ 4194304) :
    Code.wp Tryz.prog (suff 24 (Tryz.f3.body.getD .skip)) (bodyPost Tryz.prog Tryz.f3 (GoodE w)) ⟨(.slice a0 n c0 :: .string (bs d) :: lv2 :: lv3 :: lv4 :: lv5 :: .pointer (some ⟨t, 0, none⟩) :: lv7 :: .pointer (some ⟨u, 0, none⟩) :: lv9 :: lv10 :: .pointer (some ⟨r, 0, none⟩) :: lv12 :: .slice af nf cf :: .slice ad nd cd :: .slice p0 m0 q0 :: .slice p1 m1 q1 :: .slice p2 m2 q2 :: .slice p3 m3 q3 :: .slice p4 m4 q4 :: lv20 :: lv21 :: lv22 :: lv23 :: lv24 :: lv25 :: lv26 :: lv27 :: lv28 :: lv29 :: lv30 :: lv31 :: lv32 :: lv33 :: lv34 :: lv35 :: lv36 :: lv37 :: lv38 :: lv39 :: lv40 :: lv41 :: lv42 :: lv43 :: lv44 :: lv45 :: lv46 :: lv47 :: lv48 :: lv49 :: lv50 :: lv51 :: lv52 :: lv53 :: lv54 :: lv55 :: lv56 :: lv57 :: lv58 :: lv59 :: lv60 :: lv61 :: lv62 :: lv63 :: lv64 :: lv65 :: lv66 :: lv67 :: lv68 :: lv69 :: lv70 :: lv71 :: lv72 :: lv73 :: lv74 :: lv75 :: lv76 :: lv77 :: lv78 :: lv79 :: lv80 :: lv81 :: lv82 :: lv83 :: lv84 :: lv85 :: lv86 :: lv87 :: lv88 :: lv89 :: lv90 :: lv91 :: lv92 :: lv93 :: lv94 :: lv95 :: lv96 :: lv97 :: lv98 :: lv99 :: lv100 :: lv101 :: lv102 :: lv103 :: lv104 :: lv105 :: lv106 :: lv107 :: lv108 :: lv109 :: lv110 :: lv111 :: lv112 :: lv113 :: lv114 :: lv115 :: lv116 :: lv117 :: lv118 :: lv119 :: lv120 :: lv121 :: lv122 :: lv123 :: lv124 :: lv125 :: lv126 :: lv127 :: lv128 :: lv129 :: lv130 :: lv131 :: lv132 :: lv133 :: lv134 :: lv135 :: lv136 :: lv137 :: lv138 :: lv139 :: lv140 :: lv141 :: lv142 :: lv143 :: lv144 :: lv145 :: lv146 :: lv147 :: lv148 :: lv149 :: lv150 :: lv151 :: lv152 :: lv153 :: lv154 :: lv155 :: lv156 :: lv157 :: lv158 :: lv159 :: lv160 :: lv161 :: lv162 :: lv163 :: lv164 :: lv165 :: lv166 :: lv167 :: lv168 :: lv169 :: lv170 :: lv171 :: lv172 :: lv173 :: lv174 :: lv175 :: lv176 :: lv177 :: lv178 :: lv179 :: lv180 :: lv181 :: lv182 :: lv183 :: lv184 :: lv185 :: lv186 :: lv187 :: lv188 :: lv189 :: lv190 :: lv191 :: lv192 :: lv193 :: lv194 :: lv195 :: lv196 :: lv197 :: lv198 :: lv199 :: lv200 :: lv201 :: lv202 :: lv203 :: lv204 :: lv205 :: lv206 :: lv207 :: lv208 :: lv209 :: lv210 :: lv211 :: lv212 :: lv213 :: lv214 :: lv215 :: lv216 :: lv217 :: lv218 :: lv219 :: lv220 :: lv221 :: lv222 :: lv223 :: lv224 :: lv225 :: lv226 :: lv227 :: lv228 :: lv229 :: []).toArray, []⟩ wc := by
  conv => arg 2; whnf

  refine wp_seq_k fun K hK => ?_
  have HK : Hid _ := hK
  clear hK
  have ss0 : Hid (∀ W, LK w8.heap.size W 5 V LL → SS W (.slice p0 m0 q0) (rfiles L d)) := by
    intro W hW
    obtain ⟨b, _, _, _, h3, _⟩ := hW.it
    have := (h3 0 (by omega)).bs
    rw [HV.out.1, HL.out.1] at this
    exact this
  have ss1 : Hid (∀ W, LK w8.heap.size W 5 V LL → SS W (.slice p1 m1 q1) (rfiles L d)) := by
    intro W hW
    obtain ⟨b, _, _, _, h3, _⟩ := hW.it
    have := (h3 1 (by omega)).bs
    rw [HV.out.2.1, HL.out.2.1] at this
    exact this
  have ss2 : Hid (∀ W, LK w8.heap.size W 5 V LL → SS W (.slice p2 m2 q2) (rdirs (pcs d) L [])) := by
    intro W hW
    obtain ⟨b, _, _, _, h3, _⟩ := hW.it
    have := (h3 2 (by omega)).bs
    rw [HV.out.2.2.1, HL.out.2.2.1] at this
    exact this
  have ss3 : Hid (∀ W, LK w8.heap.size W 5 V LL → SS W (.slice p3 m3 q3) (rdirs (pcs d) L [])) := by
    intro W hW
    obtain ⟨b, _, _, _, h3, _⟩ := hW.it
    have := (h3 3 (by omega)).bs
    rw [HV.out.2.2.2.1, HL.out.2.2.2.1] at this
    exact this
  have ss4 : Hid (∀ W, LK w8.heap.size W 5 V LL → SS W (.slice p4 m4 q4) (rfiles L [])) := by
    intro W hW
    obtain ⟨b, _, _, _, h3, _⟩ := hW.it
    have := (h3 4 (by omega)).bs
    rw [HV.out.2.2.2.2, HL.out.2.2.2.2] at this
    exact this

  have KB : Hid (∀ W, FZ w W t u r L L (.slice a0 n c0) (.slice af nf cf) (.slice ad nd cd) d → Calls Tryz.prog 8 #[.pointer (some ⟨r, 0, none⟩), .string ⟨#[]⟩] W fun e w' => ∃ v, e = .returned v ∧ Own W.heap.size w' v (rfiles L []) ∧ Below W.heap.size W w') := fun W hW => rfilesT_any hW.rt [] (by simp)
  have HN : Hid (∀ i, i < 5 → (LL i).length ≤ 100000000) := by
    intro i hi
    have h1 := X.out.len d
    have h2 := X.out.len []
    have : i = 0 ∨ i = 1 ∨ i = 2 ∨ i = 3 ∨ i = 4 := by omega
    rcases this with rfl | rfl | rfl | rfl | rfl
    · rw [HL.out.1]; omega
    · rw [HL.out.2.1]; omega
    · rw [HL.out.2.2.1]; omega
    · rw [HL.out.2.2.2.1]; omega
    · rw [HL.out.2.2.2.2]; omega
  go_wp2_with fail

  refine (same_true (X.out.len d).1 (ss0.out _ Y0.out.2) (X.out.later Y0.out.1).files.bs).mono ?_
  rintro e w1 ⟨rfl, hb⟩
  have Y1 : Hid (Below w8.heap.size w8 w1 ∧ LK w8.heap.size w1 5 V LL) := ⟨bstep Y0.out.1 hb, Y0.out.2.later hb⟩
  clear hb
  go_wp2_with fail

  refine (same_true (X.out.len d).1 (ss1.out _ Y1.out.2) (X.out.later Y1.out.1).files.bs).mono ?_
  rintro e w2 ⟨rfl, hb⟩
  have Y2 : Hid (Below w8.heap.size w8 w2 ∧ LK w8.heap.size w2 5 V LL) := ⟨bstep Y1.out.1 hb, Y1.out.2.later hb⟩
  clear hb
  go_wp2_with fail

  refine (same_true (X.out.len d).2 (ss2.out _ Y2.out.2) (X.out.later Y2.out.1).dirs.bs).mono ?_
  rintro e w3 ⟨rfl, hb⟩
  have Y3 : Hid (Below w8.heap.size w8 w3 ∧ LK w8.heap.size w3 5 V LL) := ⟨bstep Y2.out.1 hb, Y2.out.2.later hb⟩
  clear hb
  go_wp2_with fail

  refine (same_true (X.out.len d).2 (ss3.out _ Y3.out.2) (X.out.later Y3.out.1).dirs.bs).mono ?_
  rintro e w4 ⟨rfl, hb⟩
  have Y4 : Hid (Below w8.heap.size w8 w4 ∧ LK w8.heap.size w4 5 V LL) := ⟨bstep Y3.out.1 hb, Y3.out.2.later hb⟩
  clear hb
  go_wp2_with fail

  refine (KB.out _ (X.out.later Y4.out.1)).mono ?_
  rintro e w5 ⟨v5, rfl, ho, hb⟩
  have Y5 : Hid (Below w8.heap.size w8 w5 ∧ LK w8.heap.size w5 5 V LL ∧ SS w5 v5 (rfiles L [])) := ⟨bstep Y4.out.1 hb, Y4.out.2.later hb, ho.bs⟩
  clear hb ho
  go_wp2_with fail
  refine (same_true (X.out.len []).1 (ss4.out _ Y5.out.2.1) Y5.out.2.2).mono ?_
  rintro e w6 ⟨rfl, hb⟩
  have Y6 : Hid (Below w8.heap.size w8 w6 ∧ LK w8.heap.size w6 5 V LL) := ⟨bstep Y5.out.1 hb, Y5.out.2.1.later hb⟩
  clear hb
  have KM : Hid (Calls Tryz.prog 13 #[.slice (some ⟨w6.heap.size, 0, none⟩) 5 5] (w6.alloc (.cells #[.slice p0 m0 q0, .slice p1 m1 q1, .slice p2 m2 q2, .slice p3 m3 q3, .slice p4 m4 q4] 33)) fun e w' => e = .returned (.bool true) ∧ Below w8.heap.size w8 w') := by
    obtain ⟨D, hD⟩ := Y6.out.2.q5
    rw [HV.out.1, HV.out.2.1, HV.out.2.2.1, HV.out.2.2.2.1, HV.out.2.2.2.2] at hD
    refine (marked_any hD HN).mono ?_
    rintro e w' ⟨rfl, hb⟩
    exact ⟨rfl, below_trans (bstep Y6.out.1 (balloc _ _)) hb⟩
  go_wp2_with fail
  refine KM.out.mono ?_
  rintro e w7 ⟨rfl, hb⟩
  have X7 : Hid (FZ w w7 t u r L L (.slice a0 n c0) (.slice af nf cf) (.slice ad nd cd) d) := X.out.later hb
  clear hb KM
  go_wp2_with fail
  refine HK.out _ _ ?_
  exact f26 X7 SM hnl

set_option maxRecDepth 100000 in
set_option maxHeartbeats 8000000 in
theorem f16 {lv2 lv3 lv4 lv5 lv7 lv9 lv10 lv11 lv12 lv13 lv14 lv15 lv16 lv17 lv18 lv19 lv20 lv21 lv22 lv23 lv24 lv25 lv26 lv27 lv28 lv29 lv30 lv31 lv32 lv33 lv34 lv35 lv36 lv37 lv38 lv39 lv40 lv41 lv42 lv43 lv44 lv45 lv46 lv47 lv48 lv49 lv50 lv51 lv52 lv53 lv54 lv55 lv56 lv57 lv58 lv59 lv60 lv61 lv62 lv63 lv64 lv65 lv66 lv67 lv68 lv69 lv70 lv71 lv72 lv73 lv74 lv75 lv76 lv77 lv78 lv79 lv80 lv81 lv82 lv83 lv84 lv85 lv86 lv87 lv88 lv89 lv90 lv91 lv92 lv93 lv94 lv95 lv96 lv97 lv98 lv99 lv100 lv101 lv102 lv103 lv104 lv105 lv106 lv107 lv108 lv109 lv110 lv111 lv112 lv113 lv114 lv115 lv116 lv117 lv118 lv119 lv120 lv121 lv122 lv123 lv124 lv125 lv126 lv127 lv128 lv129 lv130 lv131 lv132 lv133 lv134 lv135 lv136 lv137 lv138 lv139 lv140 lv141 lv142 lv143 lv144 lv145 lv146 lv147 lv148 lv149 lv150 lv151 lv152 lv153 lv154 lv155 lv156 lv157 lv158 lv159 lv160 lv161 lv162 lv163 lv164 lv165 lv166 lv167 lv168 lv169 lv170 lv171 lv172 lv173 lv174 lv175 lv176 lv177 lv178 lv179 lv180 lv181 lv182 lv183 lv184 lv185 lv186 lv187 lv188 lv189 lv190 lv191 lv192 lv193 lv194 lv195 lv196 lv197 lv198 lv199 lv200 lv201 lv202 lv203 lv204 lv205 lv206 lv207 lv208 lv209 lv210 lv211 lv212 lv213 lv214 lv215 lv216 lv217 lv218 lv219 lv220 lv221 lv222 lv223 lv224 lv225 lv226 lv227 lv228 lv229 : Value} {w wc : World} {t u n c0 : Nat} {a0 : Option Addr} {L : List Fl} {d : List UInt8} (X : Hid (TU w wc t u L L ∧ Below w.heap.size w wc ∧ FS w (.slice a0 n c0) L)) (SM : Hid (FSm L ∧ validE L = 0 ∧ L.length = n ∧ d.length ≤ 4194304)) (hnl : n ≤ 4194304) :
    Code.wp Tryz.prog (suff 16 (Tryz.f3.body.getD .skip)) (bodyPost Tryz.prog Tryz.f3 (GoodE w)) ⟨(.slice a0 n c0 :: .string (bs d) :: lv2 :: lv3 :: lv4 :: lv5 :: .pointer (some ⟨t, 0, none⟩) :: lv7 :: .pointer (some ⟨u, 0, none⟩) :: lv9 :: lv10 :: lv11 :: lv12 :: lv13 :: lv14 :: lv15 :: lv16 :: lv17 :: lv18 :: lv19 :: lv20 :: lv21 :: lv22 :: lv23 :: lv24 :: lv25 :: lv26 :: lv27 :: lv28 :: lv29 :: lv30 :: lv31 :: lv32 :: lv33 :: lv34 :: lv35 :: lv36 :: lv37 :: lv38 :: lv39 :: lv40 :: lv41 :: lv42 :: lv43 :: lv44 :: lv45 :: lv46 :: lv47 :: lv48 :: lv49 :: lv50 :: lv51 :: lv52 :: lv53 :: lv54 :: lv55 :: lv56 :: lv57 :: lv58 :: lv59 :: lv60 :: lv61 :: lv62 :: lv63 :: lv64 :: lv65 :: lv66 :: lv67 :: lv68 :: lv69 :: lv70 :: lv71 :: lv72 :: lv73 :: lv74 :: lv75 :: lv76 :: lv77 :: lv78 :: lv79 :: lv80 :: lv81 :: lv82 :: lv83 :: lv84 :: lv85 :: lv86 :: lv87 :: lv88 :: lv89 :: lv90 :: lv91 :: lv92 :: lv93 :: lv94 :: lv95 :: lv96 :: lv97 :: lv98 :: lv99 :: lv100 :: lv101 :: lv102 :: lv103 :: lv104 :: lv105 :: lv106 :: lv107 :: lv108 :: lv109 :: lv110 :: lv111 :: lv112 :: lv113 :: lv114 :: lv115 :: lv116 :: lv117 :: lv118 :: lv119 :: lv120 :: lv121 :: lv122 :: lv123 :: lv124 :: lv125 :: lv126 :: lv127 :: lv128 :: lv129 :: lv130 :: lv131 :: lv132 :: lv133 :: lv134 :: lv135 :: lv136 :: lv137 :: lv138 :: lv139 :: lv140 :: lv141 :: lv142 :: lv143 :: lv144 :: lv145 :: lv146 :: lv147 :: lv148 :: lv149 :: lv150 :: lv151 :: lv152 :: lv153 :: lv154 :: lv155 :: lv156 :: lv157 :: lv158 :: lv159 :: lv160 :: lv161 :: lv162 :: lv163 :: lv164 :: lv165 :: lv166 :: lv167 :: lv168 :: lv169 :: lv170 :: lv171 :: lv172 :: lv173 :: lv174 :: lv175 :: lv176 :: lv177 :: lv178 :: lv179 :: lv180 :: lv181 :: lv182 :: lv183 :: lv184 :: lv185 :: lv186 :: lv187 :: lv188 :: lv189 :: lv190 :: lv191 :: lv192 :: lv193 :: lv194 :: lv195 :: lv196 :: lv197 :: lv198 :: lv199 :: lv200 :: lv201 :: lv202 :: lv203 :: lv204 :: lv205 :: lv206 :: lv207 :: lv208 :: lv209 :: lv210 :: lv211 :: lv212 :: lv213 :: lv214 :: lv215 :: lv216 :: lv217 :: lv218 :: lv219 :: lv220 :: lv221 :: lv222 :: lv223 :: lv224 :: lv225 :: lv226 :: lv227 :: lv228 :: lv229 :: []).toArray, []⟩ wc := by
  conv => arg 2; whnf

  refine wp_seq_k fun K hK => ?_
  have HK : Hid _ := hK
  clear hK

  have KR : Hid (∀ W, Below w.heap.size w W → Calls Tryz.prog 7 #[.slice a0 n c0] W fun e w' => ∃ r, e = .returned (.tuple #[.pointer (some ⟨r, 0, none⟩), .int .i64 0]) ∧ RT w' W.heap.size r L ∧ Below W.heap.size W w') := by
    intro W hW
    refine (rnewT_any (X.out.2.2.later hW) SM.out.1).mono ?_
    rintro e w' ⟨h1, h2⟩
    rw [if_pos SM.out.2.1] at h1
    obtain ⟨r, h3, h4⟩ := h1
    exact ⟨r, h3, h4, h2⟩
  go_wp2_with fail
  refine (KR.out _ X.out.2.1).mono ?_
  rintro e w6 ⟨r, rfl, hr, hb⟩
  have X6 : Hid (TU w w6 t u L L ∧ Below w.heap.size w w6 ∧ RT w6 w.heap.size r L) := ⟨X.out.1.later hb, bstep X.out.2.1 hb, hr.mono X.out.2.1.size⟩
  clear hb hr KR
  go_wp2_with fail

  refine HK.out _ _ ?_
  clear HK
  conv => arg 2; whnf

  refine wp_seq_k fun K hK => ?_
  have HK : Hid _ := hK
  clear hK

  go_wp2_with fail
  refine (rfilesT_any X6.out.2.2 d SM.out.2.2.2).mono ?_
  rintro e w7 ⟨vf, rfl, ho, hb⟩
  obtain ⟨af, cf, ev⟩ := ho.len
  obtain ⟨nf, hm⟩ : ∃ m, (rfiles L d).length = m := ⟨_, rfl⟩
  rw [hm] at ev
  subst ev
  have X7 : Hid (TU w w7 t u L L ∧ Below w.heap.size w w7 ∧ RT w7 w.heap.size r L ∧ Own w.heap.size w7 (.slice af nf cf) (rfiles L d)) := ⟨X6.out.1.later hb, bstep X6.out.2.1 hb, X6.out.2.2.later hb, ho.mono X6.out.2.1.size⟩
  clear hb ho hm
  go_wp2_with fail

  refine HK.out _ _ ?_
  clear HK
  conv => arg 2; whnf

  refine wp_seq_k fun K hK => ?_
  have HK : Hid _ := hK
  clear hK

  go_wp2_with fail
  refine (rdirsT_any X7.out.2.2.1 d SM.out.2.2.2).mono ?_
  rintro e w8 ⟨vd, rfl, ho, hb⟩
  obtain ⟨ad, cd, ev⟩ := ho.len
  obtain ⟨nd, hm⟩ : ∃ m, (rdirs (pcs d) L []).length = m := ⟨_, rfl⟩
  rw [hm] at ev
  subst ev
  have X8 : Hid (FZ w w8 t u r L L (.slice a0 n c0) (.slice af nf cf) (.slice ad nd cd) d) := ⟨X7.out.1.later hb, X7.out.2.2.1.later hb, bstep X7.out.2.1 hb, X.out.2.2, X7.out.2.2.2.later hb, ho.mono X7.out.2.1.size⟩
  clear hb ho hm
  have KA : Hid (∀ W, FZ w W t u r L L (.slice a0 n c0) (.slice af nf cf) (.slice ad nd cd) d → Calls Tryz.prog 10 #[.pointer (some ⟨t, 0, none⟩), .string ⟨#[]⟩] W fun e w' => ∃ v, e = .returned v ∧ Own W.heap.size w' v (rfiles L []) ∧ Below W.heap.size W w') := fun W hW => hW.tfiles [] (by simp)
  have Y0 : Hid (Below w8.heap.size w8 w8 ∧ ∃ V LL, LK w8.heap.size w8 0 V LL ∧ True) := ⟨Below.refl _ _, fun _ => .bool true, fun _ => [], LK.zero _ _ _, trivial⟩
  go_wp2_with fail

  refine HK.out _ _ ?_
  clear HK
  conv => arg 2; whnf

  refine wp_seq_k fun K hK => ?_
  have HK : Hid _ := hK
  clear hK

  go_wp2_with fail
  refine ((X8.out.later Y0.out.1).tfiles d SM.out.2.2.2).mono ?_
  rintro e w21 ⟨v0, rfl, ho, hb⟩
  obtain ⟨p0, q0, ev⟩ := ho.len
  obtain ⟨m0, hm⟩ : ∃ m, (rfiles L d).length = m := ⟨_, rfl⟩
  rw [hm] at ev
  subst ev
  have Y1 : Hid (Below w8.heap.size w8 w21 ∧ ∃ V LL, LK w8.heap.size w21 1 V LL ∧ V 0 = .slice p0 m0 q0 ∧ LL 0 = rfiles L d) := by
    obtain ⟨hb0, V, LL, hl, hv⟩ := Y0.out
    exact ⟨bstep hb0 hb, _, _, hl.next hb ho, ⟨rfl, rfl⟩⟩
  clear hb ho hm
  go_wp2_with fail

  refine HK.out _ _ ?_
  clear HK
  conv => arg 2; whnf

  refine wp_seq_k fun K hK => ?_
  have HK : Hid _ := hK
  clear hK

  go_wp2_with fail
  refine ((X8.out.later Y1.out.1).tfiles d SM.out.2.2.2).mono ?_
  rintro e w22 ⟨v1, rfl, ho, hb⟩
  obtain ⟨p1, q1, ev⟩ := ho.len
  obtain ⟨m1, hm⟩ : ∃ m, (rfiles L d).length = m := ⟨_, rfl⟩
  rw [hm] at ev
  subst ev
  have Y2 : Hid (Below w8.heap.size w8 w22 ∧ ∃ V LL, LK w8.heap.size w22 2 V LL ∧ V 0 = .slice p0 m0 q0 ∧ V 1 = .slice p1 m1 q1 ∧ LL 0 = rfiles L d ∧ LL 1 = rfiles L d) := by
    obtain ⟨hb0, V, LL, hl, hv⟩ := Y1.out
    exact ⟨bstep hb0 hb, _, _, hl.next hb ho, ⟨by show (if 0 = 1 then _ else V 0) = _; rw [if_neg (by omega)]; exact hv.1, rfl, by show (if 0 = 1 then _ else LL 0) = _; rw [if_neg (by omega)]; exact hv.2, rfl⟩⟩
  clear hb ho hm
  go_wp2_with fail

  refine HK.out _ _ ?_
  clear HK
  conv => arg 2; whnf

  refine wp_seq_k fun K hK => ?_
  have HK : Hid _ := hK
  clear hK

  go_wp2_with fail
  refine ((X8.out.later Y2.out.1).tdirs d SM.out.2.2.2).mono ?_
  rintro e w23 ⟨v2, rfl, ho, hb⟩
  obtain ⟨p2, q2, ev⟩ := ho.len
  obtain ⟨m2, hm⟩ : ∃ m, (rdirs (pcs d) L []).length = m := ⟨_, rfl⟩
  rw [hm] at ev
  subst ev
  have Y3 : Hid (Below w8.heap.size w8 w23 ∧ ∃ V LL, LK w8.heap.size w23 3 V LL ∧ V 0 = .slice p0 m0 q0 ∧ V 1 = .slice p1 m1 q1 ∧ V 2 = .slice p2 m2 q2 ∧ LL 0 = rfiles L d ∧ LL 1 = rfiles L d ∧ LL 2 = rdirs (pcs d) L []) := by
    obtain ⟨hb0, V, LL, hl, hv⟩ := Y2.out
    exact ⟨bstep hb0 hb, _, _, hl.next hb ho, ⟨by show (if 0 = 2 then _ else V 0) = _; rw [if_neg (by omega)]; exact hv.1, by show (if 1 = 2 then _ else V 1) = _; rw [if_neg (by omega)]; exact hv.2.1, rfl, by show (if 0 = 2 then _ else LL 0) = _; rw [if_neg (by omega)]; exact hv.2.2.1, by show (if 1 = 2 then _ else LL 1) = _; rw [if_neg (by omega)]; exact hv.2.2.2, rfl⟩⟩
  clear hb ho hm
  go_wp2_with fail

  refine HK.out _ _ ?_
  clear HK
  conv => arg 2; whnf

  refine wp_seq_k fun K hK => ?_
  have HK : Hid _ := hK
  clear hK

  go_wp2_with fail
  refine ((X8.out.later Y3.out.1).tdirs d SM.out.2.2.2).mono ?_
  rintro e w24 ⟨v3, rfl, ho, hb⟩
  obtain ⟨p3, q3, ev⟩ := ho.len
  obtain ⟨m3, hm⟩ : ∃ m, (rdirs (pcs d) L []).length = m := ⟨_, rfl⟩
  rw [hm] at ev
  subst ev
  have Y4 : Hid (Below w8.heap.size w8 w24 ∧ ∃ V LL, LK w8.heap.size w24 4 V LL ∧ V 0 = .slice p0 m0 q0 ∧ V 1 = .slice p1 m1 q1 ∧ V 2 = .slice p2 m2 q2 ∧ V 3 = .slice p3 m3 q3 ∧ LL 0 = rfiles L d ∧ LL 1 = rfiles L d ∧ LL 2 = rdirs (pcs d) L [] ∧ LL 3 = rdirs (pcs d) L []) := by
    obtain ⟨hb0, V, LL, hl, hv⟩ := Y3.out
    exact ⟨bstep hb0 hb, _, _, hl.next hb ho, ⟨by show (if 0 = 3 then _ else V 0) = _; rw [if_neg (by omega)]; exact hv.1, by show (if 1 = 3 then _ else V 1) = _; rw [if_neg (by omega)]; exact hv.2.1, by show (if 2 = 3 then _ else V 2) = _; rw [if_neg (by omega)]; exact hv.2.2.1, rfl, by show (if 0 = 3 then _ else LL 0) = _; rw [if_neg (by omega)]; exact hv.2.2.2.1, by show (if 1 = 3 then _ else LL 1) = _; rw [if_neg (by omega)]; exact hv.2.2.2.2.1, by show (if 2 = 3 then _ else LL 2) = _; rw [if_neg (by omega)]; exact hv.2.2.2.2.2, rfl⟩⟩
  clear hb ho hm
  go_wp2_with fail

  refine HK.out _ _ ?_
  clear HK
  conv => arg 2; whnf

  refine wp_seq_k fun K hK => ?_
  have HK : Hid _ := hK
  clear hK

  go_wp2_with fail
  refine (KA.out _ (X8.out.later Y4.out.1)).mono ?_
  rintro e w25 ⟨v4, rfl, ho, hb⟩
  obtain ⟨p4, q4, ev⟩ := ho.len
  obtain ⟨m4, hm⟩ : ∃ m, (rfiles L []).length = m := ⟨_, rfl⟩
  rw [hm] at ev
  subst ev
  have Y5 : Hid (Below w8.heap.size w8 w25 ∧ ∃ V LL, LK w8.heap.size w25 5 V LL ∧ V 0 = .slice p0 m0 q0 ∧ V 1 = .slice p1 m1 q1 ∧ V 2 = .slice p2 m2 q2 ∧ V 3 = .slice p3 m3 q3 ∧ V 4 = .slice p4 m4 q4 ∧ LL 0 = rfiles L d ∧ LL 1 = rfiles L d ∧ LL 2 = rdirs (pcs d) L [] ∧ LL 3 = rdirs (pcs d) L [] ∧ LL 4 = rfiles L []) := by
    obtain ⟨hb0, V, LL, hl, hv⟩ := Y4.out
    exact ⟨bstep hb0 hb, _, _, hl.next hb ho, ⟨by show (if 0 = 4 then _ else V 0) = _; rw [if_neg (by omega)]; exact hv.1, by show (if 1 = 4 then _ else V 1) = _; rw [if_neg (by omega)]; exact hv.2.1, by show (if 2 = 4 then _ else V 2) = _; rw [if_neg (by omega)]; exact hv.2.2.1, by show (if 3 = 4 then _ else V 3) = _; rw [if_neg (by omega)]; exact hv.2.2.2.1, rfl, by show (if 0 = 4 then _ else LL 0) = _; rw [if_neg (by omega)]; exact hv.2.2.2.2.1, by show (if 1 = 4 then _ else LL 1) = _; rw [if_neg (by omega)]; exact hv.2.2.2.2.2.1, by show (if 2 = 4 then _ else LL 2) = _; rw [if_neg (by omega)]; exact hv.2.2.2.2.2.2.1, by show (if 3 = 4 then _ else LL 3) = _; rw [if_neg (by omega)]; exact hv.2.2.2.2.2.2.2, rfl⟩⟩
  clear hb ho hm
  go_wp2_with fail

  refine HK.out _ _ ?_

  obtain ⟨V, LL, hl, hv⟩ := Y5.out.2
  exact f24 X8 ⟨Y5.out.1, hl⟩ ⟨hv.1, hv.2.1, hv.2.2.1, hv.2.2.2.1, hv.2.2.2.2.1⟩ ⟨hv.2.2.2.2.2.1, hv.2.2.2.2.2.2.1, hv.2.2.2.2.2.2.2.1, hv.2.2.2.2.2.2.2.2.1, hv.2.2.2.2.2.2.2.2.2⟩ SM hnl

set_option maxRecDepth 100000 in
set_option maxHeartbeats 8000000 in
theorem f14 {lv2 lv3 lv4 lv5 lv7 lv9 lv10 lv11 lv12 lv13 lv14 lv15 lv16 lv17 lv18 lv19 lv20 lv21 lv22 lv23 lv24 lv25 lv26 lv27 lv28 lv29 lv30 lv31 lv32 lv33 lv34 lv35 lv36 lv37 lv38 lv39 lv40 lv41 lv42 lv43 lv44 lv45 lv46 lv47 lv48 lv49 lv50 lv51 lv52 lv53 lv54 lv55 lv56 lv57 lv58 lv59 lv60 lv61 lv62 lv63 lv64 lv65 lv66 lv67 lv68 lv69 lv70 lv71 lv72 lv73 lv74 lv75 lv76 lv77 lv78 lv79 lv80 lv81 lv82 lv83 lv84 lv85 lv86 lv87 lv88 lv89 lv90 lv91 lv92 lv93 lv94 lv95 lv96 lv97 lv98 lv99 lv100 lv101 lv102 lv103 lv104 lv105 lv106 lv107 lv108 lv109 lv110 lv111 lv112 lv113 lv114 lv115 lv116 lv117 lv118 lv119 lv120 lv121 lv122 lv123 lv124 lv125 lv126 lv127 lv128 lv129 lv130 lv131 lv132 lv133 lv134 lv135 lv136 lv137 lv138 lv139 lv140 lv141 lv142 lv143 lv144 lv145 lv146 lv147 lv148 lv149 lv150 lv151 lv152 lv153 lv154 lv155 lv156 lv157 lv158 lv159 lv160 lv161 lv162 lv163 lv164 lv165 lv166 lv167 lv168 lv169 lv170 lv171 lv172 lv173 lv174 lv175 lv176 lv177 lv178 lv179 lv180 lv181 lv182 lv183 lv184 lv185 lv186 lv187 lv188 lv189 lv190 lv191 lv192 lv193 lv194 lv195 lv196 lv197 lv198 lv199 lv200 lv201 lv202 lv203 lv204 lv205 lv206 lv207 lv208 lv209 lv210 lv211 lv212 lv213 lv214 lv215 lv216 lv217 lv218 lv219 lv220 lv221 lv222 lv223 lv224 lv225 lv226 lv227 lv228 lv229 : Value} {w wc : World} {t u n c0 : Nat} {a0 : Option Addr} {L : List Fl} {d : List UInt8} (X : Hid (TU w wc t u L L ∧ Below w.heap.size w wc ∧ FS w (.slice a0 n c0) L)) (SM : Hid (FSm L ∧ validE L = 0 ∧ L.length = n ∧ d.length ≤ 4194304)) (hnl : n ≤ 4194304) :
    Code.wp Tryz.prog (suff 14 (Tryz.f3.body.getD .skip)) (bodyPost Tryz.prog Tryz.f3 (GoodE w)) ⟨(.slice a0 n c0 :: .string (bs d) :: lv2 :: lv3 :: lv4 :: lv5 :: .pointer (some ⟨t, 0, none⟩) :: lv7 :: .pointer (some ⟨u, 0, none⟩) :: lv9 :: lv10 :: lv11 :: lv12 :: lv13 :: lv14 :: lv15 :: lv16 :: lv17 :: lv18 :: lv19 :: lv20 :: lv21 :: lv22 :: lv23 :: lv24 :: lv25 :: lv26 :: lv27 :: lv28 :: lv29 :: lv30 :: lv31 :: lv32 :: lv33 :: lv34 :: lv35 :: lv36 :: lv37 :: lv38 :: lv39 :: lv40 :: lv41 :: lv42 :: lv43 :: lv44 :: lv45 :: lv46 :: lv47 :: lv48 :: lv49 :: lv50 :: lv51 :: lv52 :: lv53 :: lv54 :: lv55 :: lv56 :: lv57 :: lv58 :: lv59 :: lv60 :: lv61 :: lv62 :: lv63 :: lv64 :: lv65 :: lv66 :: lv67 :: lv68 :: lv69 :: lv70 :: lv71 :: lv72 :: lv73 :: lv74 :: lv75 :: lv76 :: lv77 :: lv78 :: lv79 :: lv80 :: lv81 :: lv82 :: lv83 :: lv84 :: lv85 :: lv86 :: lv87 :: lv88 :: lv89 :: lv90 :: lv91 :: lv92 :: lv93 :: lv94 :: lv95 :: lv96 :: lv97 :: lv98 :: lv99 :: lv100 :: lv101 :: lv102 :: lv103 :: lv104 :: lv105 :: lv106 :: lv107 :: lv108 :: lv109 :: lv110 :: lv111 :: lv112 :: lv113 :: lv114 :: lv115 :: lv116 :: lv117 :: lv118 :: lv119 :: lv120 :: lv121 :: lv122 :: lv123 :: lv124 :: lv125 :: lv126 :: lv127 :: lv128 :: lv129 :: lv130 :: lv131 :: lv132 :: lv133 :: lv134 :: lv135 :: lv136 :: lv137 :: lv138 :: lv139 :: lv140 :: lv141 :: lv142 :: lv143 :: lv144 :: lv145 :: lv146 :: lv147 :: lv148 :: lv149 :: lv150 :: lv151 :: lv152 :: lv153 :: lv154 :: lv155 :: lv156 :: lv157 :: lv158 :: lv159 :: lv160 :: lv161 :: lv162 :: lv163 :: lv164 :: lv165 :: lv166 :: lv167 :: lv168 :: lv169 :: lv170 :: lv171 :: lv172 :: lv173 :: lv174 :: lv175 :: lv176 :: lv177 :: lv178 :: lv179 :: lv180 :: lv181 :: lv182 :: lv183 :: lv184 :: lv185 :: lv186 :: lv187 :: lv188 :: lv189 :: lv190 :: lv191 :: lv192 :: lv193 :: lv194 :: lv195 :: lv196 :: lv197 :: lv198 :: lv199 :: lv200 :: lv201 :: lv202 :: lv203 :: lv204 :: lv205 :: lv206 :: lv207 :: lv208 :: lv209 :: lv210 :: lv211 :: lv212 :: lv213 :: lv214 :: lv215 :: lv216 :: lv217 :: lv218 :: lv219 :: lv220 :: lv221 :: lv222 :: lv223 :: lv224 :: lv225 :: lv226 :: lv227 :: lv228 :: lv229 :: []).toArray, []⟩ wc := by
  conv => arg 2; whnf

  refine wp_seq_k fun K hK => ?_
  have HK : Hid _ := hK
  clear hK

  have q1 := eqT
  go_wp2_with fail
  refine HK.out _ _ ?_
  exact f16 X SM hnl

set_option maxRecDepth 100000 in
set_option maxHeartbeats 8000000 in
theorem f14n {lv2 lv3 lv4 lv5 lv7 lv9 lv10 lv11 lv12 lv13 lv14 lv15 lv16 lv17 lv18 lv19 lv20 lv21 lv22 lv23 lv24 lv25 lv26 lv27 lv28 lv29 lv30 lv31 lv32 lv33 lv34 lv35 lv36 lv37 lv38 lv39 lv40 lv41 lv42 lv43 lv44 lv45 lv46 lv47 lv48 lv49 lv50 lv51 lv52 lv53 lv54 lv55 lv56 lv57 lv58 lv59 lv60 lv61 lv62 lv63 lv64 lv65 lv66 lv67 lv68 lv69 lv70 lv71 lv72 lv73 lv74 lv75 lv76 lv77 lv78 lv79 lv80 lv81 lv82 lv83 lv84 lv85 lv86 lv87 lv88 lv89 lv90 lv91 lv92 lv93 lv94 lv95 lv96 lv97 lv98 lv99 lv100 lv101 lv102 lv103 lv104 lv105 lv106 lv107 lv108 lv109 lv110 lv111 lv112 lv113 lv114 lv115 lv116 lv117 lv118 lv119 lv120 lv121 lv122 lv123 lv124 lv125 lv126 lv127 lv128 lv129 lv130 lv131 lv132 lv133 lv134 lv135 lv136 lv137 lv138 lv139 lv140 lv141 lv142 lv143 lv144 lv145 lv146 lv147 lv148 lv149 lv150 lv151 lv152 lv153 lv154 lv155 lv156 lv157 lv158 lv159 lv160 lv161 lv162 lv163 lv164 lv165 lv166 lv167 lv168 lv169 lv170 lv171 lv172 lv173 lv174 lv175 lv176 lv177 lv178 lv179 lv180 lv181 lv182 lv183 lv184 lv185 lv186 lv187 lv188 lv189 lv190 lv191 lv192 lv193 lv194 lv195 lv196 lv197 lv198 lv199 lv200 lv201 lv202 lv203 lv204 lv205 lv206 lv207 lv208 lv209 lv210 lv211 lv212 lv213 lv214 lv215 lv216 lv217 lv218 lv219 lv220 lv221 lv222 lv223 lv224 lv225 lv226 lv227 lv228 lv229 : Value} {w wc : World} {n c0 : Nat} {a0 : Option Addr} {d : List UInt8} (X : Hid (Below w.heap.size w wc)) :
    Code.wp Tryz.prog (suff 14 (Tryz.f3.body.getD .skip)) (bodyPost Tryz.prog Tryz.f3 (GoodE w)) ⟨(.slice a0 n c0 :: .string (bs d) :: lv2 :: lv3 :: lv4 :: lv5 :: .pointer none :: lv7 :: .pointer none :: lv9 :: lv10 :: lv11 :: lv12 :: lv13 :: lv14 :: lv15 :: lv16 :: lv17 :: lv18 :: lv19 :: lv20 :: lv21 :: lv22 :: lv23 :: lv24 :: lv25 :: lv26 :: lv27 :: lv28 :: lv29 :: lv30 :: lv31 :: lv32 :: lv33 :: lv34 :: lv35 :: lv36 :: lv37 :: lv38 :: lv39 :: lv40 :: lv41 :: lv42 :: lv43 :: lv44 :: lv45 :: lv46 :: lv47 :: lv48 :: lv49 :: lv50 :: lv51 :: lv52 :: lv53 :: lv54 :: lv55 :: lv56 :: lv57 :: lv58 :: lv59 :: lv60 :: lv61 :: lv62 :: lv63 :: lv64 :: lv65 :: lv66 :: lv67 :: lv68 :: lv69 :: lv70 :: lv71 :: lv72 :: lv73 :: lv74 :: lv75 :: lv76 :: lv77 :: lv78 :: lv79 :: lv80 :: lv81 :: lv82 :: lv83 :: lv84 :: lv85 :: lv86 :: lv87 :: lv88 :: lv89 :: lv90 :: lv91 :: lv92 :: lv93 :: lv94 :: lv95 :: lv96 :: lv97 :: lv98 :: lv99 :: lv100 :: lv101 :: lv102 :: lv103 :: lv104 :: lv105 :: lv106 :: lv107 :: lv108 :: lv109 :: lv110 :: lv111 :: lv112 :: lv113 :: lv114 :: lv115 :: lv116 :: lv117 :: lv118 :: lv119 :: lv120 :: lv121 :: lv122 :: lv123 :: lv124 :: lv125 :: lv126 :: lv127 :: lv128 :: lv129 :: lv130 :: lv131 :: lv132 :: lv133 :: lv134 :: lv135 :: lv136 :: lv137 :: lv138 :: lv139 :: lv140 :: lv141 :: lv142 :: lv143 :: lv144 :: lv145 :: lv146 :: lv147 :: lv148 :: lv149 :: lv150 :: lv151 :: lv152 :: lv153 :: lv154 :: lv155 :: lv156 :: lv157 :: lv158 :: lv159 :: lv160 :: lv161 :: lv162 :: lv163 :: lv164 :: lv165 :: lv166 :: lv167 :: lv168 :: lv169 :: lv170 :: lv171 :: lv172 :: lv173 :: lv174 :: lv175 :: lv176 :: lv177 :: lv178 :: lv179 :: lv180 :: lv181 :: lv182 :: lv183 :: lv184 :: lv185 :: lv186 :: lv187 :: lv188 :: lv189 :: lv190 :: lv191 :: lv192 :: lv193 :: lv194 :: lv195 :: lv196 :: lv197 :: lv198 :: lv199 :: lv200 :: lv201 :: lv202 :: lv203 :: lv204 :: lv205 :: lv206 :: lv207 :: lv208 :: lv209 :: lv210 :: lv211 :: lv212 :: lv213 :: lv214 :: lv215 :: lv216 :: lv217 :: lv218 :: lv219 :: lv220 :: lv221 :: lv222 :: lv223 :: lv224 :: lv225 :: lv226 :: lv227 :: lv228 :: lv229 :: []).toArray, []⟩ wc := by
  conv => arg 2; whnf
  have q1 := eqT
  go_wp2_with fail
  go_ret
  exact ⟨rfl, X.out⟩

set_option maxRecDepth 100000 in
set_option maxHeartbeats 8000000 in
theorem f8 {lv2 lv3 lv4 lv7 lv9 lv10 lv11 lv12 lv13 lv14 lv15 lv16 lv17 lv18 lv19 lv20 lv21 lv22 lv23 lv24 lv25 lv26 lv27 lv28 lv29 lv30 lv31 lv32 lv33 lv34 lv35 lv36 lv37 lv38 lv39 lv40 lv41 lv42 lv43 lv44 lv45 lv46 lv47 lv48 lv49 lv50 lv51 lv52 lv53 lv54 lv55 lv56 lv57 lv58 lv59 lv60 lv61 lv62 lv63 lv64 lv65 lv66 lv67 lv68 lv69 lv70 lv71 lv72 lv73 lv74 lv75 lv76 lv77 lv78 lv79 lv80 lv81 lv82 lv83 lv84 lv85 lv86 lv87 lv88 lv89 lv90 lv91 lv92 lv93 lv94 lv95 lv96 lv97 lv98 lv99 lv100 lv101 lv102 lv103 lv104 lv105 lv106 lv107 lv108 lv109 lv110 lv111 lv112 lv113 lv114 lv115 lv116 lv117 lv118 lv119 lv120 lv121 lv122 lv123 lv124 lv125 lv126 lv127 lv128 lv129 lv130 lv131 lv132 lv133 lv134 lv135 lv136 lv137 lv138 lv139 lv140 lv141 lv142 lv143 lv144 lv145 lv146 lv147 lv148 lv149 lv150 lv151 lv152 lv153 lv154 lv155 lv156 lv157 lv158 lv159 lv160 lv161 lv162 lv163 lv164 lv165 lv166 lv167 lv168 lv169 lv170 lv171 lv172 lv173 lv174 lv175 lv176 lv177 lv178 lv179 lv180 lv181 lv182 lv183 lv184 lv185 lv186 lv187 lv188 lv189 lv190 lv191 lv192 lv193 lv194 lv195 lv196 lv197 lv198 lv199 lv200 lv201 lv202 lv203 lv204 lv205 lv206 lv207 lv208 lv209 lv210 lv211 lv212 lv213 lv214 lv215 lv216 lv217 lv218 lv219 lv220 lv221 lv222 lv223 lv224 lv225 lv226 lv227 lv228 lv229 : Value} {w wc : World} {gm cm n c0 : Nat} {a0 tp up : Option Addr} {L : List Fl} {d : List UInt8} {TrP : World → Prop} (HT : Hid (∀ a b, TrP a → Only [gm] a b → TrP b)) (HC : Hid (∀ (lv2 lv3 lv4 lv5 lv7 lv9 lv10 lv11 lv12 lv13 lv14 lv15 lv16 lv17 lv18 lv19 lv20 lv21 lv22 lv23 lv24 lv25 lv26 lv27 lv28 lv29 lv30 lv31 lv32 lv33 lv34 lv35 lv36 lv37 lv38 lv39 lv40 lv41 lv42 lv43 lv44 lv45 lv46 lv47 lv48 lv49 lv50 lv51 lv52 lv53 lv54 lv55 lv56 lv57 lv58 lv59 lv60 lv61 lv62 lv63 lv64 lv65 lv66 lv67 lv68 lv69 lv70 lv71 lv72 lv73 lv74 lv75 lv76 lv77 lv78 lv79 lv80 lv81 lv82 lv83 lv84 lv85 lv86 lv87 lv88 lv89 lv90 lv91 lv92 lv93 lv94 lv95 lv96 lv97 lv98 lv99 lv100 lv101 lv102 lv103 lv104 lv105 lv106 lv107 lv108 lv109 lv110 lv111 lv112 lv113 lv114 lv115 lv116 lv117 lv118 lv119 lv120 lv121 lv122 lv123 lv124 lv125 lv126 lv127 lv128 lv129 lv130 lv131 lv132 lv133 lv134 lv135 lv136 lv137 lv138 lv139 lv140 lv141 lv142 lv143 lv144 lv145 lv146 lv147 lv148 lv149 lv150 lv151 lv152 lv153 lv154 lv155 lv156 lv157 lv158 lv159 lv160 lv161 lv162 lv163 lv164 lv165 lv166 lv167 lv168 lv169 lv170 lv171 lv172 lv173 lv174 lv175 lv176 lv177 lv178 lv179 lv180 lv181 lv182 lv183 lv184 lv185 lv186 lv187 lv188 lv189 lv190 lv191 lv192 lv193 lv194 lv195 lv196 lv197 lv198 lv199 lv200 lv201 lv202 lv203 lv204 lv205 lv206 lv207 lv208 lv209 lv210 lv211 lv212 lv213 lv214 lv215 lv216 lv217 lv218 lv219 lv220 lv221 lv222 lv223 lv224 lv225 lv226 lv227 lv228 lv229 : Value) (w9 : World), Below w.heap.size w w9 → TrP w9 → Code.wp Tryz.prog (suff 14 (Tryz.f3.body.getD .skip)) (bodyPost Tryz.prog Tryz.f3 (GoodE w)) ⟨(.slice a0 n c0 :: .string (bs d) :: lv2 :: lv3 :: lv4 :: lv5 :: .pointer tp :: lv7 :: .pointer up :: lv9 :: lv10 :: lv11 :: lv12 :: lv13 :: lv14 :: lv15 :: lv16 :: lv17 :: lv18 :: lv19 :: lv20 :: lv21 :: lv22 :: lv23 :: lv24 :: lv25 :: lv26 :: lv27 :: lv28 :: lv29 :: lv30 :: lv31 :: lv32 :: lv33 :: lv34 :: lv35 :: lv36 :: lv37 :: lv38 :: lv39 :: lv40 :: lv41 :: lv42 :: lv43 :: lv44 :: lv45 :: lv46 :: lv47 :: lv48 :: lv49 :: lv50 :: lv51 :: lv52 :: lv53 :: lv54 :: lv55 :: lv56 :: lv57 :: lv58 :: lv59 :: lv60 :: lv61 :: lv62 :: lv63 :: lv64 :: lv65 :: lv66 :: lv67 :: lv68 :: lv69 :: lv70 :: lv71 :: lv72 :: lv73 :: lv74 :: lv75 :: lv76 :: lv77 :: lv78 :: lv79 :: lv80 :: lv81 :: lv82 :: lv83 :: lv84 :: lv85 :: lv86 :: lv87 :: lv88 :: lv89 :: lv90 :: lv91 :: lv92 :: lv93 :: lv94 :: lv95 :: lv96 :: lv97 :: lv98 :: lv99 :: lv100 :: lv101 :: lv102 :: lv103 :: lv104 :: lv105 :: lv106 :: lv107 :: lv108 :: lv109 :: lv110 :: lv111 :: lv112 :: lv113 :: lv114 :: lv115 :: lv116 :: lv117 :: lv118 :: lv119 :: lv120 :: lv121 :: lv122 :: lv123 :: lv124 :: lv125 :: lv126 :: lv127 :: lv128 :: lv129 :: lv130 :: lv131 :: lv132 :: lv133 :: lv134 :: lv135 :: lv136 :: lv137 :: lv138 :: lv139 :: lv140 :: lv141 :: lv142 :: lv143 :: lv144 :: lv145 :: lv146 :: lv147 :: lv148 :: lv149 :: lv150 :: lv151 :: lv152 :: lv153 :: lv154 :: lv155 :: lv156 :: lv157 :: lv158 :: lv159 :: lv160 :: lv161 :: lv162 :: lv163 :: lv164 :: lv165 :: lv166 :: lv167 :: lv168 :: lv169 :: lv170 :: lv171 :: lv172 :: lv173 :: lv174 :: lv175 :: lv176 :: lv177 :: lv178 :: lv179 :: lv180 :: lv181 :: lv182 :: lv183 :: lv184 :: lv185 :: lv186 :: lv187 :: lv188 :: lv189 :: lv190 :: lv191 :: lv192 :: lv193 :: lv194 :: lv195 :: lv196 :: lv197 :: lv198 :: lv199 :: lv200 :: lv201 :: lv202 :: lv203 :: lv204 :: lv205 :: lv206 :: lv207 :: lv208 :: lv209 :: lv210 :: lv211 :: lv212 :: lv213 :: lv214 :: lv215 :: lv216 :: lv217 :: lv218 :: lv219 :: lv220 :: lv221 :: lv222 :: lv223 :: lv224 :: lv225 :: lv226 :: lv227 :: lv228 :: lv229 :: []).toArray, []⟩ w9)) (X : Hid (FU w wc gm cm n L (L ++ [fo, ft]) ∧ TrP wc ∧ FS w (.slice a0 n c0) L)) (hnl : n ≤ 4194304) :
    Code.wp Tryz.prog (suff 8 (Tryz.f3.body.getD .skip)) (bodyPost Tryz.prog Tryz.f3 (GoodE w)) ⟨(.slice a0 n c0 :: .string (bs d) :: lv2 :: lv3 :: lv4 :: .slice (some ⟨gm, 0, none⟩) (n + 2) cm :: .pointer tp :: lv7 :: .pointer up :: lv9 :: lv10 :: lv11 :: lv12 :: lv13 :: lv14 :: lv15 :: lv16 :: lv17 :: lv18 :: lv19 :: lv20 :: lv21 :: lv22 :: lv23 :: lv24 :: lv25 :: lv26 :: lv27 :: lv28 :: lv29 :: lv30 :: lv31 :: lv32 :: lv33 :: lv34 :: lv35 :: lv36 :: lv37 :: lv38 :: lv39 :: lv40 :: lv41 :: lv42 :: lv43 :: lv44 :: lv45 :: lv46 :: lv47 :: lv48 :: lv49 :: lv50 :: lv51 :: lv52 :: lv53 :: lv54 :: lv55 :: lv56 :: lv57 :: lv58 :: lv59 :: lv60 :: lv61 :: lv62 :: lv63 :: lv64 :: lv65 :: lv66 :: lv67 :: lv68 :: lv69 :: lv70 :: lv71 :: lv72 :: lv73 :: lv74 :: lv75 :: lv76 :: lv77 :: lv78 :: lv79 :: lv80 :: lv81 :: lv82 :: lv83 :: lv84 :: lv85 :: lv86 :: lv87 :: lv88 :: lv89 :: lv90 :: lv91 :: lv92 :: lv93 :: lv94 :: lv95 :: lv96 :: lv97 :: lv98 :: lv99 :: lv100 :: lv101 :: lv102 :: lv103 :: lv104 :: lv105 :: lv106 :: lv107 :: lv108 :: lv109 :: lv110 :: lv111 :: lv112 :: lv113 :: lv114 :: lv115 :: lv116 :: lv117 :: lv118 :: lv119 :: lv120 :: lv121 :: lv122 :: lv123 :: lv124 :: lv125 :: lv126 :: lv127 :: lv128 :: lv129 :: lv130 :: lv131 :: lv132 :: lv133 :: lv134 :: lv135 :: lv136 :: lv137 :: lv138 :: lv139 :: lv140 :: lv141 :: lv142 :: lv143 :: lv144 :: lv145 :: lv146 :: lv147 :: lv148 :: lv149 :: lv150 :: lv151 :: lv152 :: lv153 :: lv154 :: lv155 :: lv156 :: lv157 :: lv158 :: lv159 :: lv160 :: lv161 :: lv162 :: lv163 :: lv164 :: lv165 :: lv166 :: lv167 :: lv168 :: lv169 :: lv170 :: lv171 :: lv172 :: lv173 :: lv174 :: lv175 :: lv176 :: lv177 :: lv178 :: lv179 :: lv180 :: lv181 :: lv182 :: lv183 :: lv184 :: lv185 :: lv186 :: lv187 :: lv188 :: lv189 :: lv190 :: lv191 :: lv192 :: lv193 :: lv194 :: lv195 :: lv196 :: lv197 :: lv198 :: lv199 :: lv200 :: lv201 :: lv202 :: lv203 :: lv204 :: lv205 :: lv206 :: lv207 :: lv208 :: lv209 :: lv210 :: lv211 :: lv212 :: lv213 :: lv214 :: lv215 :: lv216 :: lv217 :: lv218 :: lv219 :: lv220 :: lv221 :: lv222 :: lv223 :: lv224 :: lv225 :: lv226 :: lv227 :: lv228 :: lv229 :: []).toArray, []⟩ wc := by
  conv => arg 2; whnf

  refine wp_seq_k fun K hK => ?_
  have HK : Hid _ := hK
  clear hK

  go_wp2_with fail
  go_loopw [10] (fun i wr => ∃ (k : Nat) (X : List Fl), k ≤ n ∧ i = .int .i64 k ∧ FU w wr gm cm n L X ∧ (∀ j, k ≤ j → j < n → X[j]? = L[j]?) ∧ TrP wr) (fun i _ => n - (intOf i).toNat)
  case atStart => exact ⟨0, L ++ [fo, ft], by omega, rfl, X.out.1, fun j _ hj => by rw [List.getElem?_append_left (by have := X.out.1.hn; omega)], X.out.2.1⟩
  case round =>
    rename World => w1
    obtain ⟨k, M, hk, rfl, hfu, hM, htr⟩ := hrel
    have Z : Hid (FU w w1 gm cm n L M ∧ (∀ j, k ≤ j → j < n → M[j]? = L[j]?) ∧ TrP w1) := ⟨hfu, hM, htr⟩
    by_cases hlt : k < n
    · have hkl : k < L.length := by have := hfu.hn; omega
      have hkm : k < M.length := by have := hfu.len; omega
      have e0 : M[k] = L[k] := by
        have := hM k (Nat.le_refl _) hlt
        rw [List.getElem?_eq_getElem hkm, List.getElem?_eq_getElem hkl] at this
        injection this
      have hfs : FS w (.slice a0 L.length c0) L := by rw [hfu.hn]; exact X.out.2.2
      obtain ⟨b, off, ea, hbl, d0, d1, d2, d3⟩ := FS.at hfs hfu.below hkl
      subst ea
      obtain ⟨⟨z0, z1, z2, z3⟩, ⟨y0, y1, y2, y3⟩, _, hgl⟩ := own_cellF hfu.mine k hkm
      rw [e0] at z0 z1 z2 z3
      obtain ⟨⟨p, tx, bb, s⟩, hf⟩ : ∃ f, L[k] = f := ⟨_, rfl⟩
      rw [hf] at z0 z1 z2 z3 d0 d1 d2 d3
      simp only at z0 z1 z2 z3 d0 d1 d2 d3
      have hbw : b < w1.heap.size := Nat.lt_of_lt_of_le hbl hfu.below.size
      have x0 : ∀ Y : GW w1, Y.it.cell? ⟨gm, k * 4, none⟩ = some (.string (bs p)) := fun Y => Y.cell hgl z0
      have x1 : ∀ Y : GW w1, Y.it.cell? ⟨gm, k * 4 + 1, none⟩ = some (.string (bs tx)) := fun Y => Y.cell hgl z1
      have x2 : ∀ Y : GW w1, Y.it.cell? ⟨gm, k * 4 + 2, none⟩ = some (.int .i64 bb) := fun Y => Y.cell hgl z2
      have x3 : ∀ Y : GW w1, Y.it.cell? ⟨gm, k * 4 + 3, none⟩ = some (.int .i64 s) := fun Y => Y.cell hgl z3
      have x4 : ∀ Y : GW w1, Y.it.cell? ⟨b, off + k * 4, none⟩ = some (.string (bs p)) := fun Y => Y.cell hbw d0
      have x5 : ∀ Y : GW w1, Y.it.cell? ⟨b, off + k * 4 + 1, none⟩ = some (.string (bs tx)) := fun Y => Y.cell hbw d1
      have x6 : ∀ Y : GW w1, Y.it.cell? ⟨b, off + k * 4 + 2, none⟩ = some (.int .i64 bb) := fun Y => Y.cell hbw d2
      have x7 : ∀ Y : GW w1, Y.it.cell? ⟨b, off + k * 4 + 3, none⟩ = some (.int .i64 s) := fun Y => Y.cell hbw d3
      have xne := gw_ne w1
      have q1 : ∀ W : World, (binOp .neq 24 (.agg #[.string (bs p), .string (bs tx), .int .i64 bb, .int .i64 s]) (.agg #[.string (bs p), .string (bs tx), .int .i64 bb, .int .i64 s])).run Tryz.prog W = .ok (.bool false) W := fun W => by
        rw [neq_run]
        simp [feq]
      have q2 := guard_run
      have k1 : (0 : Int) ≤ (k : Int) := by omega
      have k2 : (k : Int) < (n : Int) := by omega
      have k3 : (k : Int) < (n : Int) + 2 := by omega
      clear hfu hM htr hfs e0 hf z0 z1 z2 z3 y0 y1 y2 y3 d0 d1 d2 d3
      go_wp2_with fail
      refine wp_region_grow (by kernel_rfl) (by kernel_rfl) ?_
      repeat (go_big_quiet_step (fail))
      refine wpQuiet_nil ?_
      rintro w2 ⟨⟨w2, bx⟩, rfl⟩
      have hfu := Z.out.1.later bx
      have hM := Z.out.2.1
      have htr := HT.out _ _ Z.out.2.2 (Only.of_below bx [gm])
      obtain ⟨⟨z0, z1, z2, z3⟩, ⟨y0, y1, y2, y3⟩, _, hgl2⟩ := own_cellF hfu.mine k hkm
      obtain ⟨f9, hf9⟩ : ∃ f, M[k] = f := ⟨_, rfl⟩
      rw [hf9] at z0 z1 z2 z3
      have HSZ : Hid (FU w ((((w2.setCell ⟨gm, k * 4, none⟩ (.string ⟨#[116, 104, 114, 101, 101]⟩)).setCell ⟨gm, k * 4 + 1, none⟩ (.string ⟨#[]⟩)).setCell ⟨gm, k * 4 + 2, none⟩ (.int .i64 0)).setCell ⟨gm, k * 4 + 3, none⟩ (.int .i64 0)) gm cm n L (M.set k f3) ∧ (∀ j, k + 1 ≤ j → j < n → (M.set k f3)[j]? = L[j]?) ∧ TrP ((((w2.setCell ⟨gm, k * 4, none⟩ (.string ⟨#[116, 104, 114, 101, 101]⟩)).setCell ⟨gm, k * 4 + 1, none⟩ (.string ⟨#[]⟩)).setCell ⟨gm, k * 4 + 2, none⟩ (.int .i64 0)).setCell ⟨gm, k * 4 + 3, none⟩ (.int .i64 0))) := by
        have hon : Only [gm] w2 ((((w2.setCell ⟨gm, k * 4, none⟩ (.string ⟨#[116, 104, 114, 101, 101]⟩)).setCell ⟨gm, k * 4 + 1, none⟩ (.string ⟨#[]⟩)).setCell ⟨gm, k * 4 + 2, none⟩ (.int .i64 0)).setCell ⟨gm, k * 4 + 3, none⟩ (.int .i64 0)) := (((Only.set _ _ _ _).trans (Only.set _ _ _ _)).trans (Only.set _ _ _ _)).trans (Only.set _ _ _ _)
        refine ⟨⟨below_trans hfu.below (hon.below hfu.below.size (fun x hx => by simp at hx; subst hx; exact (hfu.mine.lt (k := x) rfl).1)), own_setF hfu.mine k f3, by rw [List.length_set]; exact hfu.len, hfu.hn⟩, fun j hj hjn => ?_, HT.out _ _ htr hon⟩
        rw [List.getElem?_set_ne (by omega)]
        exact hM j (by omega) hjn
      clear hfu hM htr hf9 bx x0 x1 x2 x3 x4 x5 x6 x7 xne q1 q2
      go_wp2_with fail
      go_roundw
      case rel => exact ⟨k + 1, _, by omega, by go_num, HSZ.out⟩
      case measure => simp [intOf]; omega
    · obtain rfl : n = k := by omega
      clear hfu hM htr
      go_wp2_with fail
      refine HK.out _ _ ?_
      exact HC.out _ _ _ _ _ _ _ _ _ _ _ _ _ _ _ _ _ _ _ _ _ _ _ _ _ _ _ _ _ _ _ _ _ _ _ _ _ _ _ _ _ _ _ _ _ _ _ _ _ _ _ _ _ _ _ _ _ _ _ _ _ _ _ _ _ _ _ _ _ _ _ _ _ _ _ _ _ _ _ _ _ _ _ _ _ _ _ _ _ _ _ _ _ _ _ _ _ _ _ _ _ _ _ _ _ _ _ _ _ _ _ _ _ _ _ _ _ _ _ _ _ _ _ _ _ _ _ _ _ _ _ _ _ _ _ _ _ _ _ _ _ _ _ _ _ _ _ _ _ _ _ _ _ _ _ _ _ _ _ _ _ _ _ _ _ _ _ _ _ _ _ _ _ _ _ _ _ _ _ _ _ _ _ _ _ _ _ _ _ _ _ _ _ _ _ _ _ _ _ _ _ _ _ _ _ _ _ _ _ _ _ _ _ _ _ _ _ _ _ _ _ _ _ _ _ _ w1 Z.out.1.below Z.out.2.2

end Go.Proofs.YtceoelclnnfhhadGreat
