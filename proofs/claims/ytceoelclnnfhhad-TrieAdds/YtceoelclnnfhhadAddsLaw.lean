/-
  The law of sums.
-/
import Derived.Test.YtceoelclnnfhhadAddsF
namespace Go.Proofs.Ytceoelclnnfhhad
open Go.RowKit

theorem ownF_empty (w : World) (base : Nat) (hb : base ≤ w.heap.size) : OwnF base (w.alloc (.cells #[] 30)) (.slice (some ⟨w.heap.size, 0, none⟩) 0 0) [] :=
  ⟨by simp [fc], .inr ⟨w.heap.size, 0, #[], rfl, hb, heap_alloc_new w _, by simp, by unfold maxLen; omega, by simp, by simp [fc]⟩⟩

set_option maxRecDepth 100000 in
set_option maxHeartbeats 8000000 in
theorem a0 {lv3 lv4 lv5 lv6 lv7 lv8 lv9 lv10 lv11 lv12 lv13 lv14 lv15 lv16 lv17 lv18 lv19 lv20 lv21 lv22 lv23 lv24 lv25 lv26 lv27 lv28 lv29 lv30 lv31 lv32 lv33 lv34 lv35 lv36 lv37 lv38 lv39 lv40 lv41 lv42 lv43 lv44 lv45 lv46 lv47 lv48 lv49 lv50 lv51 lv52 lv53 lv54 lv55 lv56 lv57 lv58 lv59 lv60 lv61 lv62 lv63 lv64 lv65 lv66 lv67 lv68 lv69 lv70 lv71 lv72 lv73 lv74 lv75 lv76 lv77 lv78 lv79 lv80 lv81 lv82 lv83 lv84 lv85 lv86 lv87 lv88 lv89 lv90 lv91 lv92 lv93 lv94 lv95 lv96 lv97 lv98 lv99 lv100 lv101 lv102 lv103 lv104 lv105 lv106 lv107 lv108 lv109 lv110 lv111 lv112 lv113 lv114 lv115 lv116 lv117 lv118 lv119 lv120 lv121 lv122 lv123 lv124 lv125 lv126 lv127 lv128 lv129 lv130 lv131 lv132 lv133 lv134 lv135 lv136 lv137 lv138 lv139 lv140 lv141 lv142 lv143 lv144 lv145 lv146 lv147 lv148 lv149 lv150 lv151 lv152 lv153 lv154 lv155 lv156 lv157 lv158 lv159 lv160 lv161 lv162 lv163 lv164 lv165 lv166 lv167 lv168 lv169 lv170 lv171 lv172 lv173 lv174 lv175 lv176 lv177 lv178 lv179 lv180 lv181 lv182 lv183 lv184 lv185 lv186 lv187 lv188 lv189 lv190 lv191 lv192 lv193 lv194 lv195 lv196 lv197 lv198 lv199 lv200 lv201 lv202 lv203 lv204 lv205 lv206 lv207 lv208 lv209 lv210 lv211 lv212 lv213 lv214 lv215 lv216 lv217 lv218 lv219 lv220 lv221 lv222 lv223 lv224 lv225 lv226 lv227 lv228 lv229 lv230 lv231 lv232 lv233 lv234 lv235 lv236 lv237 lv238 lv239 lv240 lv241 lv242 lv243 lv244 lv245 lv246 lv247 lv248 lv249 lv250 lv251 lv252 lv253 lv254 lv255 lv256 lv257 lv258 lv259 lv260 lv261 lv262 : Value} {w wc : World} {n0 c0 ns sc1 : Nat} {a0 sa : Option Addr} {L : List Fl} {S : List Stp} {d : List UInt8} (hw : w = wc) (X : Hid (FS w (.slice a0 n0 c0) L ∧ FSm L ∧ L.length = n0 ∧ d.length ≤ 140737488355328 ∧ TS6 w (.slice sa ns sc1) S ∧ S.length = ns ∧ SSm S)) :
    Code.wp Try.prog (suff 0 (Try.f3.body.getD .skip)) (bodyPost Try.prog Try.f3 (GoodE w)) ⟨(.slice a0 n0 c0 :: .slice sa ns sc1 :: .string (bs d) :: lv3 :: lv4 :: lv5 :: lv6 :: lv7 :: lv8 :: lv9 :: lv10 :: lv11 :: lv12 :: lv13 :: lv14 :: lv15 :: lv16 :: lv17 :: lv18 :: lv19 :: lv20 :: lv21 :: lv22 :: lv23 :: lv24 :: lv25 :: lv26 :: lv27 :: lv28 :: lv29 :: lv30 :: lv31 :: lv32 :: lv33 :: lv34 :: lv35 :: lv36 :: lv37 :: lv38 :: lv39 :: lv40 :: lv41 :: lv42 :: lv43 :: lv44 :: lv45 :: lv46 :: lv47 :: lv48 :: lv49 :: lv50 :: lv51 :: lv52 :: lv53 :: lv54 :: lv55 :: lv56 :: lv57 :: lv58 :: lv59 :: lv60 :: lv61 :: lv62 :: lv63 :: lv64 :: lv65 :: lv66 :: lv67 :: lv68 :: lv69 :: lv70 :: lv71 :: lv72 :: lv73 :: lv74 :: lv75 :: lv76 :: lv77 :: lv78 :: lv79 :: lv80 :: lv81 :: lv82 :: lv83 :: lv84 :: lv85 :: lv86 :: lv87 :: lv88 :: lv89 :: lv90 :: lv91 :: lv92 :: lv93 :: lv94 :: lv95 :: lv96 :: lv97 :: lv98 :: lv99 :: lv100 :: lv101 :: lv102 :: lv103 :: lv104 :: lv105 :: lv106 :: lv107 :: lv108 :: lv109 :: lv110 :: lv111 :: lv112 :: lv113 :: lv114 :: lv115 :: lv116 :: lv117 :: lv118 :: lv119 :: lv120 :: lv121 :: lv122 :: lv123 :: lv124 :: lv125 :: lv126 :: lv127 :: lv128 :: lv129 :: lv130 :: lv131 :: lv132 :: lv133 :: lv134 :: lv135 :: lv136 :: lv137 :: lv138 :: lv139 :: lv140 :: lv141 :: lv142 :: lv143 :: lv144 :: lv145 :: lv146 :: lv147 :: lv148 :: lv149 :: lv150 :: lv151 :: lv152 :: lv153 :: lv154 :: lv155 :: lv156 :: lv157 :: lv158 :: lv159 :: lv160 :: lv161 :: lv162 :: lv163 :: lv164 :: lv165 :: lv166 :: lv167 :: lv168 :: lv169 :: lv170 :: lv171 :: lv172 :: lv173 :: lv174 :: lv175 :: lv176 :: lv177 :: lv178 :: lv179 :: lv180 :: lv181 :: lv182 :: lv183 :: lv184 :: lv185 :: lv186 :: lv187 :: lv188 :: lv189 :: lv190 :: lv191 :: lv192 :: lv193 :: lv194 :: lv195 :: lv196 :: lv197 :: lv198 :: lv199 :: lv200 :: lv201 :: lv202 :: lv203 :: lv204 :: lv205 :: lv206 :: lv207 :: lv208 :: lv209 :: lv210 :: lv211 :: lv212 :: lv213 :: lv214 :: lv215 :: lv216 :: lv217 :: lv218 :: lv219 :: lv220 :: lv221 :: lv222 :: lv223 :: lv224 :: lv225 :: lv226 :: lv227 :: lv228 :: lv229 :: lv230 :: lv231 :: lv232 :: lv233 :: lv234 :: lv235 :: lv236 :: lv237 :: lv238 :: lv239 :: lv240 :: lv241 :: lv242 :: lv243 :: lv244 :: lv245 :: lv246 :: lv247 :: lv248 :: lv249 :: lv250 :: lv251 :: lv252 :: lv253 :: lv254 :: lv255 :: lv256 :: lv257 :: lv258 :: lv259 :: lv260 :: lv261 :: lv262 :: []).toArray, []⟩ wc := by
  subst hw
  conv => arg 2; whnf
  have q1 := eqT
  have hns : ns ≤ 140737488355328 := by have h1 := X.out.2.2.2.2.2.2.len; have h2 := X.out.2.2.2.2.2.1; omega

  refine wp_seq_k fun K hK => ?_
  have HK : Hid _ := hK
  clear hK

  go_wp2_with fail

  refine HK.out _ _ ?_
  clear HK
  conv => arg 2; whnf

  refine wp_seq_k fun K hK => ?_
  have HK : Hid _ := hK
  clear hK

  by_cases hv : validE L = 0
  · go_wp2_with fail
    refine (new_good X.out.1 X.out.2.1 hv).mono ?_
    rintro e w1 ⟨t, rfl, htr, hb⟩
    have H1 : Hid (TR w1 (fun i => w.heap.size ≤ i ∧ i < w1.heap.size) t L 12000 ∧ Below w.heap.size w w1) := ⟨htr, hb⟩
    clear htr hb hv
    go_wp2_with fail
    refine HK.out _ _ ?_
    clear HK
    conv => arg 2; whnf

    refine wp_seq_k fun K hK => ?_
    have HK : Hid _ := hK
    clear hK

    go_wp2_with fail
    refine (known_any w1).mono ?_
    rintro e w2 ⟨rfl, hb⟩
    have H2 : Hid (TR w2 (fun i => w.heap.size ≤ i ∧ i < w1.heap.size) t L 12000 ∧ Below w.heap.size w w2 ∧ w1.heap.size ≤ w2.heap.size) := ⟨H1.out.1.later hb, bstep H1.out.2 hb, hb.size⟩
    clear hb
    go_wp2_with fail
    refine HK.out _ _ ?_
    clear HK
    conv => arg 2; whnf

    refine wp_seq_k fun K hK => ?_
    have HK : Hid _ := hK
    clear hK

    go_wp2_with fail
    refine HK.out _ _ ?_
    clear HK
    conv => arg 2; whnf

    refine wp_seq_k fun K hK => ?_
    have HK : Hid _ := hK
    clear hK

    have hl0 : L.length ≤ 4194304 := Nat.le_trans H1.out.1.good.len (by omega)
    have H3 : Hid (OwnF w2.heap.size (w2.alloc (.cells #[] 30)) (.slice (some ⟨w2.heap.size, 0, none⟩) 0 0) [] ∧ Src Try.prog 4 22 (.slice a0 n0 c0) L.length (fc L) (w2.alloc (.cells #[] 30)) ∧ w2.heap.size ≤ (w2.alloc (.cells #[] 30)).heap.size) := ⟨ownF_empty w2 _ (Nat.le_refl _), (X.out.1.later (bstep H2.out.2.1 (balloc _ _))).src, by simp⟩
    go_wp2_with (first | (at_builtin; refine app_files (base := w2.heap.size) (l := []) (k := L) H3.out.1 H3.out.2.1 (by simp; omega) H3.out.2.2 rfl (.tmp 44) (.tmp 45) rfl rfl rfl ?_; intro v3 w3 ho3 hg3 hv3))
    have H4 : Hid (AS w w3 t 12000 L v3 L) := by
      have hb3 : Below w2.heap.size w2 w3 := (balloc _ _).grown hg3 H3.out.2.2 (fun j hj => (H3.out.1.lt hj).1)
      have ho : OwnF w2.heap.size w3 v3 L := by simpa using ho3
      have hs := H2.out.2.1.size
      refine ⟨⟨_, H2.out.1.later hb3, fun i hi => hi.1, fun k hk hi => ?_⟩, ho.mono hs, bstep H2.out.2.1 hb3, X.out.2.1.each, X.out.2.1.each⟩
      have h1 := (ho.lt hk).1
      have h2 := hi.2
      have h3 := H2.out.2.2
      omega
    obtain ⟨a3, c3, e3⟩ := H4.out.own.form
    subst e3
    rw [X.out.2.2.1] at H4 ⊢
    clear ho3 hg3 hv3
    refine HK.out _ _ ?_
    clear HK
    conv => arg 2; whnf

    have HZ : Hid (AS w w3 t 12000 L (.slice a3 n0 c3) L ∧ L.length = n0 ∧ d.length ≤ 140737488355328 ∧ TS6 w (.slice sa ns sc1) S ∧ S.length = ns ∧ SSm S) := ⟨H4.out, X.out.2.2.1, X.out.2.2.2.1, X.out.2.2.2.2.1, X.out.2.2.2.2.2.1, X.out.2.2.2.2.2.2⟩
    exact a7 HZ hns
  · have HV : Hid (validE L ≠ 0) := hv
    obtain ⟨E, hE⟩ : ∃ E, validE L = E := ⟨_, rfl⟩
    have hEb : (E != 0) = true := by rw [← hE]; simpa using hv
    have HN : Hid (∀ W, w = W → Calls Try.prog 4 #[.slice a0 n0 c0] W fun e w' => e = .returned (.tuple #[.pointer none, .int .i64 E]) ∧ Below W.heap.size W w') := by
      rintro W rfl
      have := new_bad X.out.1 X.out.2.1 hv
      rw [hE] at this
      exact this
    clear hv hE
    go_wp2_with fail
    refine (HN.out _ rfl).mono ?_
    rintro e w1 ⟨rfl, hb⟩
    have H1 : Hid (Below w.heap.size w w1) := hb
    clear hb
    go_wp2_with fail
    refine HK.out _ _ ?_
    clear HK
    conv => arg 2; whnf

    refine wp_seq_k fun K hK => ?_
    have HK : Hid _ := hK
    clear hK

    go_wp2_with fail
    refine (known_any w1).mono ?_
    rintro e w2 ⟨rfl, hb⟩
    have H2 : Hid (Below w.heap.size w w2) := bstep H1.out hb
    clear hb
    go_wp2_with fail
    refine HK.out _ _ ?_
    clear HK
    conv => arg 2; whnf

    go_wp2_with fail
    go_ret
    exact ⟨rfl, H2.out⟩

set_option maxRecDepth 100000 in
set_option maxHeartbeats 4000000 in
theorem adds_law {w : World} {va vs : Value} {L : List Fl} {S : List Stp} {d : List UInt8} (h : FS w va L) (sm : FSm L) (hs : TS6 w vs S) (ss : SSm S) (hd : d.length ≤ 140737488355328) :
    Calls Try.prog 3 #[va, vs, .string (bs d)] w (GoodE w) := by
  obtain ⟨x0, c0, rfl, _⟩ := h.form
  obtain ⟨sa, sc1, rfl⟩ := hs.form
  have X : Hid (FS w (.slice x0 L.length c0) L ∧ FSm L ∧ L.length = L.length ∧ d.length ≤ 140737488355328 ∧ TS6 w (.slice sa S.length sc1) S ∧ S.length = S.length ∧ SSm S) := ⟨h, sm, rfl, hd, hs, rfl, ss⟩
  clear h sm hs ss hd
  go_enter Try.func3, Try.ntmps3
  exact a0 rfl X
end Go.Proofs.Ytceoelclnnfhhad
