/-
  The law CacheTrusts: from its beginning.
  The law CacheTrusts: its beginning.
  Keys that grow old: plain lists; the law's numbered.
-/
import Derived.Test.YtddaoloabfkheaaGreatDoorTe
namespace Go.Proofs.YtddaoloabfkheaaGreatDoor
open Go.RowKit
attribute [local go_sem] Oper.semAt_some

set_option maxRecDepth 100000 in
set_option maxHeartbeats 16000000 in
theorem t12 {CA : World → (Nat → Prop) → Nat → List Lb → Prop} (C : CcP CA) {w W : World} {c gb N cb q n m cv : Nat} {av : Option Addr} {K : List Lb} {L : List Stp} {by_ : UInt8} {lv1 lv3 lv4 lv5 lv6 lv8 lv11 lv12 lv13 lv14 lv15 lv16 lv17 lv18 lv19 lv20 lv21 lv22 lv23 lv24 lv25 lv26 lv27 lv28 lv29 lv30 lv31 lv32 lv33 lv34 lv35 lv36 lv37 lv38 lv39 lv40 lv41 lv42 lv43 lv44 lv45 lv46 lv47 lv48 lv49 lv50 lv51 lv52 lv53 lv54 lv55 lv56 lv57 lv58 lv59 lv60 lv61 lv62 lv63 lv64 lv65 lv66 lv67 lv68 lv69 lv70 lv71 lv72 lv73 lv74 lv75 lv76 lv77 lv78 lv79 lv80 lv81 lv82 lv83 lv84 lv85 lv86 lv87 lv88 lv89 lv90 lv91 lv92 lv93 lv94 lv95 lv96 lv97 lv98 lv99 lv100 lv101 lv102 lv103 lv104 lv105 lv106 lv107 lv108 lv109 lv110 lv111 lv112 lv113 lv114 lv115 lv116 lv117 lv118 lv119 lv120 lv121 lv122 lv123 lv124 lv125 lv126 lv127 lv128 lv129 lv130 lv131 lv132 lv133 lv134 lv135 lv136 lv137 lv138 lv139 lv140 lv141 lv142 lv143 lv144 lv145 lv146 lv147 lv148 lv149 lv150 lv151 lv152 lv153 lv154 lv155 lv156 lv157 lv158 lv159 lv160 lv161 lv162 lv163 lv164 lv165 lv166 lv167 lv168 lv169 lv170 lv171 lv172 lv173 lv174 lv175 lv176 lv177 lv178 lv179 lv180 lv181 lv182 lv183 lv184 lv185 lv186 lv187 lv188 lv189 lv190 lv191 lv192 lv193 lv194 lv195 lv196 lv197 lv198 lv199 lv200 lv201 lv202 lv203 lv204 lv205 lv206 lv207 lv208 lv209 lv210 lv211 lv212 lv213 lv214 lv215 lv216 lv217 lv218 lv219 lv220 lv221 lv222 lv223 lv224 lv225 lv226 lv227 lv228 lv229 lv230 lv231 lv232 lv233 lv234 lv235 : Value} (HT : Hid (TS4 w (.slice av n cv) L ∧ ∀ s ∈ L, s.p.length ≤ 1000000000 ∧ s.t.length ≤ 1000000000)) (HN : Hid (L.length = n)) (hnl : n ≤ 100000000) (hm : min n 30 = m) (HKl : Hid (∀ k, (hk : k < L.length) → k < m → rgt L[k].p = true → L[k].t.length ≤ 4096 → (⟨L[k].p, L[k].t⟩ : Lb) ∈ K)) (X : Hid (TU CA w W c gb N cb K)) (hq0 : q ≤ N) :
    Code.wp Tryz.prog (suff 12 (Tryz.f4.body.getD .skip)) (bodyPost Tryz.prog Tryz.f4 (Good w)) ⟨#[.slice av n cv, lv1, .int .u8 (by_.toNat : Int), lv3, lv4, lv5, lv6, .pointer (some ⟨c, 0, none⟩), lv8, .slice (some ⟨gb, 0, none⟩) N cb, .int .i64 (q : Int), lv11, lv12, lv13, lv14, lv15, lv16, lv17, lv18, lv19, lv20, lv21, lv22, lv23, lv24, lv25, lv26, lv27, lv28, lv29, lv30, lv31, lv32, lv33, lv34, lv35, lv36, lv37, lv38, lv39, lv40, lv41, lv42, lv43, lv44, lv45, lv46, lv47, lv48, lv49, lv50, lv51, lv52, lv53, lv54, lv55, lv56, lv57, lv58, lv59, lv60, lv61, lv62, lv63, lv64, lv65, lv66, lv67, lv68, lv69, lv70, lv71, lv72, lv73, lv74, lv75, lv76, lv77, lv78, lv79, lv80, lv81, lv82, lv83, lv84, lv85, lv86, lv87, lv88, lv89, lv90, lv91, lv92, lv93, lv94, lv95, lv96, lv97, lv98, lv99, lv100, lv101, lv102, lv103, lv104, lv105, lv106, lv107, lv108, lv109, lv110, lv111, lv112, lv113, lv114, lv115, lv116, lv117, lv118, lv119, lv120, lv121, lv122, lv123, lv124, lv125, lv126, lv127, lv128, lv129, lv130, lv131, lv132, lv133, lv134, lv135, lv136, lv137, lv138, lv139, lv140, lv141, lv142, lv143, lv144, lv145, lv146, lv147, lv148, lv149, lv150, lv151, lv152, lv153, lv154, lv155, lv156, lv157, lv158, lv159, lv160, lv161, lv162, lv163, lv164, lv165, lv166, lv167, lv168, lv169, lv170, lv171, lv172, lv173, lv174, lv175, lv176, lv177, lv178, lv179, lv180, lv181, lv182, lv183, lv184, lv185, lv186, lv187, lv188, lv189, lv190, lv191, lv192, lv193, lv194, lv195, lv196, lv197, lv198, lv199, lv200, lv201, lv202, lv203, lv204, lv205, lv206, lv207, lv208, lv209, lv210, lv211, lv212, lv213, lv214, lv215, lv216, lv217, lv218, lv219, lv220, lv221, lv222, lv223, lv224, lv225, lv226, lv227, lv228, lv229, lv230, lv231, lv232, lv233, lv234, lv235], []⟩ W := by
  conv => arg 2; whnf
  obtain ⟨b, hb⟩ : ∃ b, savB K = b := ⟨_, rfl⟩
  have hN := X.out.nl
  have hcap : N ≤ cb := by
    obtain ⟨a, c', e, h⟩ := X.out.b.bs.len
    injection e with _ _ e
    rw [X.out.len, ← e] at h
    exact h
  have hsl := slice_to gb 0 N cb q (by omega) (q : Int) rfl
  have HBS : Hid (BS W (.slice (some ⟨gb, 0, none⟩) q cb) ((savB K).take q)) := by
    have := X.out.b.bs.sub X.out.len.symm 0 q (by rw [X.out.len]; omega) cb (by omega)
    show BS W _ _
    simpa using this
  clear hb
  refine wp_seq_k fun K9 hK => ?_
  have HK : Hid _ := hK
  clear hK
  by_cases hq : q < N
  · have q1 : (q : Int) < (N : Int) := by omega
    go_wp2_with fail
    refine (TQ.load C HBS.out X.out.ev (by rw [List.length_take, X.out.len]; omega)).mono ?_
    rintro e w3 ⟨hb3, ⟨K3, g3, ok3, e3, _⟩ | ⟨_, rfl⟩⟩
    · exact absurd e3 (fun e => cut_none X.out.ok ok3 (by rw [X.out.len]; exact hq) e)
    have O3 : Hid (Below W.heap.size W w3) := hb3
    clear hb3
    go_wp2_with fail
    refine HK.out _ _ ?_
    exact t16 C HT HN hnl hm HKl (X.out.later C O3.out) hq0
  · have q1 : ¬ (q : Int) < (N : Int) := by omega
    go_wp2_with fail
    refine HK.out _ _ ?_
    exact t16 C HT HN hnl hm HKl X hq0
set_option maxRecDepth 100000 in
set_option maxHeartbeats 16000000 in
theorem t8 {CA : World → (Nat → Prop) → Nat → List Lb → Prop} (C : CcP CA) {w W : World} {c n m cv : Nat} {av : Option Addr} {K : List Lb} {L : List Stp} {by_ : UInt8} {cut : Int} {lv3 lv4 lv5 lv6 lv8 lv9 lv10 lv11 lv12 lv13 lv14 lv15 lv16 lv17 lv18 lv19 lv20 lv21 lv22 lv23 lv24 lv25 lv26 lv27 lv28 lv29 lv30 lv31 lv32 lv33 lv34 lv35 lv36 lv37 lv38 lv39 lv40 lv41 lv42 lv43 lv44 lv45 lv46 lv47 lv48 lv49 lv50 lv51 lv52 lv53 lv54 lv55 lv56 lv57 lv58 lv59 lv60 lv61 lv62 lv63 lv64 lv65 lv66 lv67 lv68 lv69 lv70 lv71 lv72 lv73 lv74 lv75 lv76 lv77 lv78 lv79 lv80 lv81 lv82 lv83 lv84 lv85 lv86 lv87 lv88 lv89 lv90 lv91 lv92 lv93 lv94 lv95 lv96 lv97 lv98 lv99 lv100 lv101 lv102 lv103 lv104 lv105 lv106 lv107 lv108 lv109 lv110 lv111 lv112 lv113 lv114 lv115 lv116 lv117 lv118 lv119 lv120 lv121 lv122 lv123 lv124 lv125 lv126 lv127 lv128 lv129 lv130 lv131 lv132 lv133 lv134 lv135 lv136 lv137 lv138 lv139 lv140 lv141 lv142 lv143 lv144 lv145 lv146 lv147 lv148 lv149 lv150 lv151 lv152 lv153 lv154 lv155 lv156 lv157 lv158 lv159 lv160 lv161 lv162 lv163 lv164 lv165 lv166 lv167 lv168 lv169 lv170 lv171 lv172 lv173 lv174 lv175 lv176 lv177 lv178 lv179 lv180 lv181 lv182 lv183 lv184 lv185 lv186 lv187 lv188 lv189 lv190 lv191 lv192 lv193 lv194 lv195 lv196 lv197 lv198 lv199 lv200 lv201 lv202 lv203 lv204 lv205 lv206 lv207 lv208 lv209 lv210 lv211 lv212 lv213 lv214 lv215 lv216 lv217 lv218 lv219 lv220 lv221 lv222 lv223 lv224 lv225 lv226 lv227 lv228 lv229 lv230 lv231 lv232 lv233 lv234 lv235 : Value} (HT : Hid (TS4 w (.slice av n cv) L ∧ ∀ s ∈ L, s.p.length ≤ 1000000000 ∧ s.t.length ≤ 1000000000)) (HN : Hid (L.length = n)) (hnl : n ≤ 100000000) (hm : min n 30 = m) (HKl : Hid (∀ k, (hk : k < L.length) → k < m → rgt L[k].p = true → L[k].t.length ≤ 4096 → (⟨L[k].p, L[k].t⟩ : Lb) ∈ K)) (X : Hid (TQ CA w.heap.size W c K ∧ Below w.heap.size w W ∧ Ev W ∧ 4 ≤ w.heap.size)) :
    Code.wp Tryz.prog (suff 8 (Tryz.f4.body.getD .skip)) (bodyPost Tryz.prog Tryz.f4 (Good w)) ⟨#[.slice av n cv, .int .i64 cut, .int .u8 (by_.toNat : Int), lv3, lv4, lv5, lv6, .pointer (some ⟨c, 0, none⟩), lv8, lv9, lv10, lv11, lv12, lv13, lv14, lv15, lv16, lv17, lv18, lv19, lv20, lv21, lv22, lv23, lv24, lv25, lv26, lv27, lv28, lv29, lv30, lv31, lv32, lv33, lv34, lv35, lv36, lv37, lv38, lv39, lv40, lv41, lv42, lv43, lv44, lv45, lv46, lv47, lv48, lv49, lv50, lv51, lv52, lv53, lv54, lv55, lv56, lv57, lv58, lv59, lv60, lv61, lv62, lv63, lv64, lv65, lv66, lv67, lv68, lv69, lv70, lv71, lv72, lv73, lv74, lv75, lv76, lv77, lv78, lv79, lv80, lv81, lv82, lv83, lv84, lv85, lv86, lv87, lv88, lv89, lv90, lv91, lv92, lv93, lv94, lv95, lv96, lv97, lv98, lv99, lv100, lv101, lv102, lv103, lv104, lv105, lv106, lv107, lv108, lv109, lv110, lv111, lv112, lv113, lv114, lv115, lv116, lv117, lv118, lv119, lv120, lv121, lv122, lv123, lv124, lv125, lv126, lv127, lv128, lv129, lv130, lv131, lv132, lv133, lv134, lv135, lv136, lv137, lv138, lv139, lv140, lv141, lv142, lv143, lv144, lv145, lv146, lv147, lv148, lv149, lv150, lv151, lv152, lv153, lv154, lv155, lv156, lv157, lv158, lv159, lv160, lv161, lv162, lv163, lv164, lv165, lv166, lv167, lv168, lv169, lv170, lv171, lv172, lv173, lv174, lv175, lv176, lv177, lv178, lv179, lv180, lv181, lv182, lv183, lv184, lv185, lv186, lv187, lv188, lv189, lv190, lv191, lv192, lv193, lv194, lv195, lv196, lv197, lv198, lv199, lv200, lv201, lv202, lv203, lv204, lv205, lv206, lv207, lv208, lv209, lv210, lv211, lv212, lv213, lv214, lv215, lv216, lv217, lv218, lv219, lv220, lv221, lv222, lv223, lv224, lv225, lv226, lv227, lv228, lv229, lv230, lv231, lv232, lv233, lv234, lv235], []⟩ W := by
  conv => arg 2; whnf
  refine wp_seq_k fun K9 hK => ?_
  have HK : Hid _ := hK
  clear hK
  go_wp2_with fail
  refine (X.out.1.save C X.out.2.2.1).mono ?_
  rintro e w1 ⟨v1, rfl, ho1, hb1⟩
  have hl21 : 21 ≤ (savB K).length := by rw [savB_hd, List.length_append, hdP_len]; omega
  obtain ⟨N, hN⟩ : ∃ N, (savB K).length = N := ⟨_, rfl⟩
  obtain ⟨gb, cb, rfl⟩ : ∃ gb cb, v1 = .slice (some ⟨gb, 0, none⟩) N cb := by
    rcases ho1.2 with ⟨_, h0⟩ | ⟨g, cap, cur, e, _⟩
    · omega
    · exact ⟨g, cap, by rw [e, hN]⟩
  have hok := X.out.1.ok C
  have XU : Hid (TU CA w w1 c gb N cb K) := by
    obtain ⟨F, h1, h2⟩ := X.out.1
    have hg := World.ownsRow.lt ho1 gb rfl
    exact ⟨bstep X.out.2.1 hb1, X.out.2.2.1.later hb1, ⟨F, C.later h1 hb1, fun k hk => ⟨h2 k hk, Nat.lt_of_lt_of_le (C.lt h1 k hk) hg.1⟩⟩, ho1.mono X.out.2.1.size, hok, hN, X.out.2.2.2⟩
  have hNl := XU.out.nl
  clear ho1 hb1 hok hN hl21
  go_wp2_with fail
  refine HK.out _ _ ?_
  clear HK K9
  refine wp_seq_k fun K9 hK => ?_
  have HK : Hid _ := hK
  clear hK
  have hrm : -(N : Int) ≤ Int.tmod cut ((N : Int) + 1) ∧ Int.tmod cut ((N : Int) + 1) ≤ (N : Int) := by
    have h1 := Int.tmod_lt_of_pos cut (show (0 : Int) < (N : Int) + 1 by omega)
    have h2 := Int.lt_tmod_of_pos cut (show (0 : Int) < (N : Int) + 1 by omega)
    omega
  obtain ⟨z, hz⟩ : ∃ z, Int.tmod cut ((N : Int) + 1) = z := ⟨_, rfl⟩
  rw [hz] at hrm
  have w1' : IntKind.i64.wrap ((N : Int) + 1) = (N : Int) + 1 := wrap_small _ (by omega) (by omega)
  have w2' : ((N : Int) + 1 == 0) = false := by rw [beq_eq_false_iff_ne]; omega
  go_wp2_with fail
  refine HK.out _ _ ?_
  clear HK K9
  refine wp_seq_k fun K9 hK => ?_
  have HK : Hid _ := hK
  clear hK
  by_cases hz0 : z < 0
  · go_wp2_with fail
    refine HK.out _ _ ?_
    obtain ⟨q, hq⟩ : ∃ q : Nat, z + N + 1 = (q : Int) := ⟨(z + N + 1).toNat, by omega⟩
    rw [hq]
    exact t12 C HT HN hnl hm HKl XU (by omega)
  · go_wp2_with fail
    refine HK.out _ _ ?_
    obtain ⟨q, rfl⟩ : ∃ q : Nat, z = (q : Int) := ⟨z.toNat, by omega⟩
    exact t12 C HT HN hnl hm HKl XU (by omega)
end Go.Proofs.YtddaoloabfkheaaGreatDoor

namespace Go.Proofs.YtddaoloabfkheaaGreatDoor
open Go.RowKit
attribute [local go_sem] Oper.semAt_some

set_option maxRecDepth 100000 in
set_option maxHeartbeats 16000000 in
theorem ctrusts_law {CA : World → (Nat → Prop) → Nat → List Lb → Prop} (C : CcP CA) {w : World} {v : Value} {L : List Stp} (E : Ev w) (h : TS4 w v L) (hs : SSm L) (cut : Int) (by_ : UInt8) :
    Calls Tryz.prog 4 #[v, .int .i64 cut, .int .u8 by_.toNat] w (Good w) := by
  have H : Hid (TS4 w v L ∧ (∀ s ∈ L, s.p.length ≤ 1000000000 ∧ s.t.length ≤ 1000000000) ∧ Ev w) := ⟨h, hs.each, E⟩
  obtain ⟨av, cv, hvv⟩ := h.form
  obtain ⟨n, hn⟩ : ∃ n, L.length = n := ⟨_, rfl⟩
  have hnl : n ≤ 100000000 := hn ▸ hs.len
  rw [hn] at hvv
  subst hvv
  have HN : Hid (L.length = n) := hn
  clear h hs hn E
  obtain ⟨m, hm⟩ : ∃ m, min n 30 = m := ⟨_, rfl⟩
  have hmn : m ≤ n := by omega
  have hm3 : m ≤ 30 := by omega
  go_enter Tryz.func4, Tryz.ntmps4
  refine wp_seq_k fun K9 hK => ?_
  have HK : Hid _ := hK
  clear hK
  go_wp2_with fail
  refine HK.out _ _ ?_
  clear HK K9
  refine wp_seq_k fun K9 hK => ?_
  have HK : Hid _ := hK
  clear hK
  go_wp2_with fail
  refine (TQ.new C (Nat.le_refl _)).mono ?_
  rintro e w1 ⟨c, rfl, hc1', hb1⟩
  have H1 : Hid (TQ CA w.heap.size w1 c [] ∧ Below w.heap.size w w1 ∧ Ev w1) := ⟨hc1', hb1, H.out.2.2.later hb1⟩
  clear hc1' hb1
  go_wp2_with fail
  refine HK.out _ _ ?_
  clear HK K9
  refine wp_seq_k fun K9 hK => ?_
  have HK : Hid _ := hK
  clear hK
  go_wp2_with fail
  refine (known19 C H1.out.2.2).mono ?_
  rintro e w2 ⟨rfl, hb2⟩
  have H2 : Hid (TQ CA w.heap.size w2 c [] ∧ Below w.heap.size w w2) := ⟨H1.out.1.later C hb2, bstep H1.out.2.1 hb2⟩
  clear hb2 H1
  go_wp2_with fail
  refine HK.out _ _ ?_
  clear HK K9
  refine wp_seq_k fun K9 hK => ?_
  have HK : Hid _ := hK
  clear hK
  go_wp2_with fail
  go_loopw [8] (fun s8 wr => ∃ (k : Nat), s8 = .int .i64 k ∧ k ≤ m ∧ TQ CA w.heap.size wr c (ptK (L.take k)) ∧ Below w.heap.size w wr) (fun s8 _ => m - (intOf s8).toNat)
  case atStart => exact ⟨0, rfl, by omega, H2.out.1, H2.out.2⟩
  case round =>
    obtain ⟨k, rfl, hk, hP, hb⟩ := hrel
    have HX : Hid (TQ CA w.heap.size wr c (ptK (L.take k)) ∧ Below w.heap.size w wr ∧ Ev wr) := ⟨hP, hb, H.out.2.2.later hb⟩
    by_cases hlt : k < m
    · have hkl : k < L.length := by rw [HN.out]; omega
      obtain ⟨b, off, ea, hbw, _, _, d2, d3⟩ := TS4.at H.out.1 hb hkl
      subst ea
      obtain ⟨s, hse⟩ : ∃ s, L[k] = s := ⟨_, rfl⟩
      have hsz := H.out.2.1 s (hse ▸ List.getElem_mem hkl)
      rw [hse] at d2 d3
      have HPu : Hid (∀ W, Below wr.heap.size wr W → Calls Tryz.prog 10 #[.pointer (some ⟨c, 0, none⟩), .string (bs s.p), .string (bs s.t)] W fun e w' => e = .returned (.int .i64 (pcod s.p s.t)) ∧ TQ CA w.heap.size w' c (ptK (L.take (k + 1))) ∧ Below w.heap.size W w') := fun W hW => by
        have := (HX.out.1.later C hW).put C (HX.out.2.2.later hW) (Nat.le_trans HX.out.2.1.size hW.size) s.p s.t hsz.1 hsz.2
        rw [List.take_succ_eq_append_getElem hkl, ptK_snoc, hse]
        exact this
      obtain ⟨sc, kd, p, t⟩ := s
      simp only at d2 d3 HPu
      clear hP hb hse hsz
      have k1 : (k : Int) < (n : Int) := by omega
      have k2 : (k : Int) < 30 := by omega
      have HCc : Hid (∀ W, Below w.heap.size wr W → W.cell? ⟨b, off + k * 4 + 2, none⟩ = some (.string (bs p)) ∧ W.cell? ⟨b, off + k * 4 + 3, none⟩ = some (.string (bs t))) := fun W hW => ⟨(hW.cell (p := ⟨b, off + k * 4 + 2, none⟩) hbw).trans d2, (hW.cell (p := ⟨b, off + k * 4 + 3, none⟩) hbw).trans d3⟩
      go_wp2_with fail
      go_region_held3 (fun w' => w'.cell? ⟨b, off + k * 4 + 2, none⟩ = some (.string (bs p)) ∧ w'.cell? ⟨b, off + k * 4 + 3, none⟩ = some (.string (bs t))) (first | (with_reducible exact ⟨d2, d3⟩) | (with_reducible exact KA.out) | go_keep) (first
        | (go_at_call 10; (with_reducible refine (HPu.out _ (Below.refl _ _).drew).mono ?_); rintro e w5 ⟨rfl, hp5, hb5⟩; have O5 : Hid (TQ CA w.heap.size w5 c (ptK (L.take (k + 1))) ∧ Below w.heap.size wr w5) := ⟨hp5, (Below.refl _ _).drew.trans hb5⟩; have KA : Hid (w5.cell? ⟨b, off + k * 4 + 2, none⟩ = some (.string (bs p)) ∧ w5.cell? ⟨b, off + k * 4 + 3, none⟩ = some (.string (bs t))) := HCc.out w5 O5.out.2; clear hp5 hb5))
      go_wp2_with fail
      go_roundw
      case rel => exact ⟨k + 1, by go_num, by omega, O5.out.1, HX.out.2.1.trans O5.out.2⟩
      case measure => simp [intOf]; omega
    · obtain rfl : m = k := by omega
      clear hP hb hk hlt
      obtain ⟨K, hK⟩ : ∃ K, ptK (L.take m) = K := ⟨_, rfl⟩
      rw [hK] at HX
      have HKl : Hid (K.length ≤ 30 ∧ ∀ k, (hk : k < L.length) → k < m → rgt L[k].p = true → L[k].t.length ≤ 4096 → (⟨L[k].p, L[k].t⟩ : Lb) ∈ K) := by
        have := ptK_take L m (by rw [HN.out]; exact hmn) (by omega)
        rw [hK] at this
        refine ⟨by omega, fun k hk hkm hr ht => this.2 L[k] ?_ hr ht⟩
        rw [List.mem_iff_getElem]
        exact ⟨k, by rw [List.length_take]; omega, by simp⟩
      clear hK
      by_cases k1 : (m : Int) < (n : Int)
      · have k2 : ¬ (m : Int) < 30 := by omega
        go_wp2_with fail
        refine HK.out _ _ ?_
        exact t8 C ⟨H.out.1, H.out.2.1⟩ HN hnl hm HKl.out.2 ⟨HX.out.1, HX.out.2.1, HX.out.2.2, H.out.2.2.big⟩
      · go_wp2_with fail
        refine HK.out _ _ ?_
        exact t8 C ⟨H.out.1, H.out.2.1⟩ HN hnl hm HKl.out.2 ⟨HX.out.1, HX.out.2.1, HX.out.2.2, H.out.2.2.big⟩
end Go.Proofs.YtddaoloabfkheaaGreatDoor

namespace Go.Proofs.YtddaoloabfkheaaGreatDoor
open Go.RowKit

/-- the last 512 -/
def lst5 (X : List Lb) : List Lb := X.drop (X.length - 512)
theorem lst5_len (X : List Lb) : (lst5 X).length = min X.length 512 := by unfold lst5; rw [List.length_drop]; omega
theorem lst5_few {X : List Lb} (h : X.length ≤ 512) : lst5 X = X := by
  unfold lst5
  rw [show X.length - 512 = 0 by omega, List.drop_zero]
theorem lst5_put {X : List Lb} {x : Lb} (hx : x ∉ X) : putK (lst5 X) x = lst5 (X ++ [x]) := by
  have hn : x ∉ lst5 X := fun h => hx (List.mem_of_mem_drop h)
  unfold putK
  rw [List.erase_of_not_mem hn, lst5_len]
  unfold lst5
  rw [List.length_append, List.length_singleton]
  split
  · rw [List.drop_drop, List.drop_append_of_le_length (by omega)]
    refine congrArg (fun l => l ++ [x]) (congrArg (fun d => X.drop d) ?_)
    omega
  · rw [List.drop_append_of_le_length (by omega)]
    refine congrArg (fun l => l ++ [x]) (congrArg (fun d => X.drop d) ?_)
    omega
theorem mem_drop_iff {X : List Lb} (hn : X.Nodup) {i d : Nat} (hi : i < X.length) : X[i] ∈ X.drop d ↔ d ≤ i := by
  constructor
  · intro h
    obtain ⟨j, hj, e⟩ := List.mem_iff_getElem.1 h
    rw [List.getElem_drop] at e
    have := (List.getElem_inj hn).1 e
    omega
  · intro h
    rw [List.mem_iff_getElem]
    exact ⟨i - d, by rw [List.length_drop]; omega, by rw [List.getElem_drop]; congr 1; omega⟩
/-- keys that are put one behind the other -/
theorem lst5_more {K : List Lb} (P : Nat → Lb) (_hK : K.length ≤ 512) (hP : ∀ i j, i < j → P i ≠ P j ∨ 1000 < j) (hn : ∀ i, P i ∉ K) {q : Nat} (hq : q < 900) : putK (lst5 (K ++ (List.range q).map P)) (P q) = lst5 (K ++ (List.range (q + 1)).map P) := by
  rw [List.range_succ, List.map_append, ← List.append_assoc, List.map_cons, List.map_nil]
  refine lst5_put (fun h => ?_)
  rcases List.mem_append.1 h with h | h
  · exact hn q h
  · obtain ⟨i, hi, e⟩ := List.mem_map.1 h
    rcases hP i q (List.mem_range.1 hi) with h | h
    · exact h e
    · omega

/-! ### texts with a number -/
def nbr (i : Nat) : List UInt8 := [116, 97, 114, 103, 101, 116, 32, 116] ++ [UInt8.ofNat (97 + i % 26), UInt8.ofNat (97 + i / 26 % 26), UInt8.ofNat (97 + i / 676 % 26)] ++ [123, 125]
theorem nbr_len (i : Nat) : (nbr i).length = 13 := rfl
theorem u8_inj {a b : Nat} (ha : a < 256) (hb : b < 256) (h : UInt8.ofNat a = UInt8.ofNat b) : a = b := by
  have := congrArg UInt8.toNat h
  rwa [UInt8.toNat_ofNat_of_lt' ha, UInt8.toNat_ofNat_of_lt' hb] at this
theorem nbr_inj {i j : Nat} (hi : i < 17576) (hj : j < 17576) (h : nbr i = nbr j) : i = j := by
  unfold nbr at h
  simp only [List.cons_append, List.nil_append, List.cons.injEq, true_and, and_true] at h
  obtain ⟨h1, h2, h3⟩ := h
  have h1 := u8_inj (by omega) (by omega) h1
  have h2 := u8_inj (by omega) (by omega) h2
  have h3 := u8_inj (by omega) (by omega) h3
  omega
def tP : List UInt8 := [84, 65, 82, 71, 69, 84, 83]
theorem tP_rgt : rgt tP = true := by decide +kernel
theorem xP_rgt : rgt xP = true := by decide +kernel
def tK (i : Nat) : Lb := ⟨tP, nbr i⟩
def pK (i : Nat) : Lb := ⟨xP, nbr i⟩
theorem tK_put (K : List Lb) (i : Nat) : pcod tP (nbr i) = 0 ∧ putA K tP (nbr i) = putK K (tK i) := putA_ok tP_rgt (by rw [nbr_len]; omega)
theorem pK_put (K : List Lb) (i : Nat) : pcod xP (nbr i) = 0 ∧ putA K xP (nbr i) = putK K (pK i) := putA_ok xP_rgt (by rw [nbr_len]; omega)
theorem tK_ne {i j : Nat} (h : i < j) : tK i ≠ tK j ∨ 1000 < j := by
  by_cases hj : 1000 < j
  · exact .inr hj
  · left
    intro e
    injection e with _ e
    have := nbr_inj (by omega) (by omega) e
    omega
theorem pK_ne {i j : Nat} (h : i < j) : pK i ≠ pK j ∨ 1000 < j := by
  by_cases hj : 1000 < j
  · exact .inr hj
  · left
    intro e
    injection e with _ e
    have := nbr_inj (by omega) (by omega) e
    omega
theorem tp_ne (i j : Nat) : tK i ≠ pK j := by
  intro e
  injection e with e _
  exact absurd e (by decide)
/-- behind i Puts -/
def ag1 (i : Nat) : List Lb := lst5 ((List.range i).map tK)
theorem ag1_succ {i : Nat} (h : i < 900) : putK (ag1 i) (tK i) = ag1 (i + 1) := by
  have := lst5_more (K := []) tK (by simp) (fun i j h => tK_ne h) (by simp) h
  simpa [ag1] using this
theorem ag1_len (i : Nat) : (ag1 i).length = min i 512 := by unfold ag1; rw [lst5_len]; simp
theorem nodup_tK {n : Nat} (h : n ≤ 900) : ((List.range n).map tK).Nodup := by
  rw [List.nodup_iff_pairwise_ne, List.pairwise_map]
  refine List.Pairwise.imp_of_mem ?_ (List.pairwise_lt_range (n := n))
  intro a b ha hb hab
  have := List.mem_range.1 hb
  rcases tK_ne hab with h | h
  · exact h
  · omega
theorem ag1_mem {n k : Nat} (hn : n ≤ 900) (hk : k < n) : tK k ∈ ag1 n ↔ n - 512 ≤ k := by
  have h := mem_drop_iff (nodup_tK hn) (i := k) (d := n - 512) (by simpa using hk)
  rw [List.getElem_map, List.getElem_range] at h
  unfold ag1 lst5
  rw [List.length_map, List.length_range]
  exact h
/-- the key k once more -/
def ag2 (n k : Nat) : List Lb := putK (ag1 n) (tK k)
theorem ag2_eq (n k : Nat) (hn : n ≤ 900) (hk : k < n) : ∃ A, ag2 n k = A ++ [tK k] ∧ A.length + 1 = min n 512 ∧ (A ++ [tK k]).Nodup ∧ ∀ x ∈ A, ∃ i, x = tK i := by
  have hl := ag1_len n
  have hnd : (ag1 n).Nodup := (nodup_tK hn).sublist (List.drop_sublist _ _)
  have hmem : ∀ x ∈ ag1 n, ∃ i, x = tK i := fun x hx => by
    obtain ⟨i, _, e⟩ := List.mem_map.1 (List.mem_of_mem_drop hx)
    exact ⟨i, e.symm⟩
  have hne : tK k ∉ (ag1 n).erase (tK k) := fun h => by rw [hnd.mem_erase_iff] at h; exact h.1 rfl
  have hend : ((ag1 n).erase (tK k)).Nodup := hnd.erase _
  unfold ag2 putK
  by_cases hin : tK k ∈ ag1 n
  · have hel := List.length_erase_of_mem hin
    rw [if_neg (by omega)]
    refine ⟨_, rfl, by omega, ?_, fun x hx => hmem x (List.mem_of_mem_erase hx)⟩
    rw [List.nodup_append]
    refine ⟨hend, by simp, fun a ha b hb e => hne ?_⟩
    have e2 : b = tK k := by simpa using hb
    rw [e.trans e2] at ha; exact ha
  · have hge : 512 ≤ n := by
      rcases Nat.lt_or_ge n 512 with h | h
      · exact absurd ((ag1_mem hn hk).2 (by omega)) hin
      · exact h
    rw [List.erase_of_not_mem hin, if_pos (by omega)]
    refine ⟨_, rfl, by rw [List.length_drop]; omega, ?_, fun x hx => hmem x (List.mem_of_mem_drop hx)⟩
    rw [List.nodup_append]
    refine ⟨hnd.sublist (List.drop_sublist _ _), by simp, fun a ha b hb e => hin ?_⟩
    have e2 : b = tK k := by simpa using hb
    rw [e.trans e2] at ha; exact List.mem_of_mem_drop ha
/-- and i others behind it -/
def ag3 (n k i : Nat) : List Lb := lst5 (ag2 n k ++ (List.range i).map pK)
theorem ag3_zero (n k : Nat) (hn : n ≤ 900) (hk : k < n) : ag3 n k 0 = ag2 n k := by
  obtain ⟨A, e, h1, _⟩ := ag2_eq n k hn hk
  have hl : (ag2 n k).length ≤ 512 := by rw [e, List.length_append, List.length_singleton]; omega
  unfold ag3
  rw [List.range_zero, List.map_nil, List.append_nil, lst5_few hl]
theorem ag3_succ {n k i : Nat} (hn : n ≤ 900) (hk : k < n) (h : i < 900) : putK (ag3 n k i) (pK i) = ag3 n k (i + 1) := by
  obtain ⟨A, e, h1, _, h3⟩ := ag2_eq n k hn hk
  refine lst5_more pK (by rw [e, List.length_append, List.length_singleton]; omega) (fun i j h => pK_ne h) (fun j hj => ?_) h
  rw [e] at hj
  rcases List.mem_append.1 hj with hj | hj
  · obtain ⟨i, e⟩ := h3 _ hj
    exact tp_ne i j e.symm
  · have e2 : pK j = tK k := by simpa using hj
    exact tp_ne k j e2.symm
theorem ag3_end {n k q : Nat} (hn : n ≤ 900) (h5 : 500 ≤ n) (hk : k < n) (hq : 400 ≤ q) (hq2 : q < 900) : (ag3 n k q).length = 512 ∧ (tK k ∈ ag3 n k q ↔ q ≤ 511) ∧ (pK 0 ∈ ag3 n k q ↔ q ≤ 512) := by
  obtain ⟨A, e, h1, h2, h3⟩ := ag2_eq n k hn hk
  have hX : (A ++ [tK k] ++ (List.range q).map pK).Nodup := by
    rw [List.nodup_append]
    refine ⟨h2, ?_, ?_⟩
    · rw [List.nodup_iff_pairwise_ne, List.pairwise_map]
      refine List.Pairwise.imp_of_mem ?_ (List.pairwise_lt_range (n := q))
      intro a b ha hb hab
      have := List.mem_range.1 hb
      rcases pK_ne hab with h | h
      · exact h
      · omega
    · intro a ha b hb e3
      obtain ⟨j, _, ej⟩ := List.mem_map.1 hb
      rcases List.mem_append.1 ha with ha | ha
      · obtain ⟨i, ei⟩ := h3 _ ha
        exact tp_ne i j (by rw [← ei, ej, e3])
      · have e4 : a = tK k := by simpa using ha
        exact tp_ne k j (by rw [← e4, ej, e3])
  have hlen : (A ++ [tK k] ++ (List.range q).map pK).length = A.length + 1 + q := by simp; omega
  unfold ag3
  rw [e]
  refine ⟨by rw [lst5_len, hlen]; omega, ?_, ?_⟩
  · have hi : A.length < (A ++ [tK k] ++ (List.range q).map pK).length := by rw [hlen]; omega
    have h := mem_drop_iff hX (d := A.length + 1 + q - 512) hi
    have eg : (A ++ [tK k] ++ (List.range q).map pK)[A.length] = tK k := by
      rw [List.getElem_append_left (by simp), List.getElem_append_right (by omega)]; simp
    rw [eg] at h
    unfold lst5
    rw [hlen, h]
    omega
  · have hi : A.length + 1 < (A ++ [tK k] ++ (List.range q).map pK).length := by rw [hlen]; omega
    have h := mem_drop_iff hX (d := A.length + 1 + q - 512) hi
    have eg : (A ++ [tK k] ++ (List.range q).map pK)[A.length + 1] = pK 0 := by
      rw [List.getElem_append_right (by simp)]; simp
    rw [eg] at h
    unfold lst5
    rw [hlen, h]
    omega
end Go.Proofs.YtddaoloabfkheaaGreatDoor
