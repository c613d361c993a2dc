/-
  The law CacheTrusts: what is told of each key.
  The law CacheTrusts: a byte turned.
-/
import Derived.Test.YtddaoloabfkheaaGreatDoorJTb
import Derived.Laws.Closers25b
namespace Go.Proofs.YtddaoloabfkheaaGreatDoor
open Go.RowKit
attribute [local go_sem] Oper.semAt_some

set_option maxRecDepth 100000 in
set_option maxHeartbeats 16000000 in
theorem t24 {CA : World → (Nat → Prop) → Nat → List Lb → Prop} (C : CcP CA) {w W : World} {c g n9 c9 n m cv : Nat} {av a9 : Option Addr} {K K' : List Lb} {L : List Stp} {lv1 lv2 lv3 lv4 lv5 lv6 lv8 lv10 lv11 lv12 lv13 lv14 lv15 lv16 lv18 lv19 lv20 lv21 lv22 lv23 lv24 lv25 lv26 lv27 lv28 lv29 lv30 lv31 lv32 lv33 lv34 lv35 lv36 lv37 lv38 lv39 lv40 lv41 lv42 lv43 lv44 lv45 lv46 lv47 lv48 lv49 lv50 lv51 lv52 lv53 lv54 lv55 lv56 lv57 lv58 lv59 lv60 lv61 lv62 lv63 lv64 lv65 lv66 lv67 lv68 lv69 lv70 lv71 lv72 lv73 lv74 lv75 lv76 lv77 lv78 lv79 lv80 lv81 lv82 lv83 lv84 lv85 lv86 lv87 lv88 lv89 lv90 lv91 lv92 lv93 lv94 lv95 lv96 lv97 lv98 lv99 lv100 lv101 lv102 lv103 lv104 lv105 lv106 lv107 lv108 lv109 lv110 lv111 lv112 lv113 lv114 lv115 lv116 lv117 lv118 lv119 lv120 lv121 lv122 lv123 lv124 lv125 lv126 lv127 lv128 lv129 lv130 lv131 lv132 lv133 lv134 lv135 lv136 lv137 lv138 lv139 lv140 lv141 lv142 lv143 lv144 lv145 lv146 lv147 lv148 lv149 lv150 lv151 lv152 lv153 lv154 lv155 lv156 lv157 lv158 lv159 lv160 lv161 lv162 lv163 lv164 lv165 lv166 lv167 lv168 lv169 lv170 lv171 lv172 lv173 lv174 lv175 lv176 lv177 lv178 lv179 lv180 lv181 lv182 lv183 lv184 lv185 lv186 lv187 lv188 lv189 lv190 lv191 lv192 lv193 lv194 lv195 lv196 lv197 lv198 lv199 lv200 lv201 lv202 lv203 lv204 lv205 lv206 lv207 lv208 lv209 lv210 lv211 lv212 lv213 lv214 lv215 lv216 lv217 lv218 lv219 lv220 lv221 lv222 lv223 lv224 lv225 lv226 lv227 lv228 lv229 lv230 lv231 lv232 lv233 lv234 lv235 : Value} (X : Hid (TX CA w W c g a9 n9 c9 K K')) (HT : Hid (TS4 w (.slice av n cv) L ∧ ∀ s ∈ L, s.p.length ≤ 1000000000 ∧ s.t.length ≤ 1000000000)) (HN : Hid (L.length = n)) (hnl : n ≤ 100000000) (hm : min n 30 = m) (HM : Hid (∀ k, (hk : k < L.length) → k < m → (⟨L[k].p, L[k].t⟩ : Lb) ∈ K' → (⟨L[k].p, L[k].t⟩ : Lb) ∈ K)) :
    Code.wp Tryz.prog (suff 24 (Tryz.f4.body.getD .skip)) (bodyPost Tryz.prog Tryz.f4 (Good w)) ⟨#[.slice av n cv, lv1, lv2, lv3, lv4, lv5, lv6, .pointer (some ⟨c, 0, none⟩), lv8, .slice a9 n9 c9, lv10, lv11, lv12, lv13, lv14, lv15, lv16, .pointer (some ⟨g, 0, none⟩), lv18, lv19, lv20, lv21, lv22, lv23, lv24, lv25, lv26, lv27, lv28, lv29, lv30, lv31, lv32, lv33, lv34, lv35, lv36, lv37, lv38, lv39, lv40, lv41, lv42, lv43, lv44, lv45, lv46, lv47, lv48, lv49, lv50, lv51, lv52, lv53, lv54, lv55, lv56, lv57, lv58, lv59, lv60, lv61, lv62, lv63, lv64, lv65, lv66, lv67, lv68, lv69, lv70, lv71, lv72, lv73, lv74, lv75, lv76, lv77, lv78, lv79, lv80, lv81, lv82, lv83, lv84, lv85, lv86, lv87, lv88, lv89, lv90, lv91, lv92, lv93, lv94, lv95, lv96, lv97, lv98, lv99, lv100, lv101, lv102, lv103, lv104, lv105, lv106, lv107, lv108, lv109, lv110, lv111, lv112, lv113, lv114, lv115, lv116, lv117, lv118, lv119, lv120, lv121, lv122, lv123, lv124, lv125, lv126, lv127, lv128, lv129, lv130, lv131, lv132, lv133, lv134, lv135, lv136, lv137, lv138, lv139, lv140, lv141, lv142, lv143, lv144, lv145, lv146, lv147, lv148, lv149, lv150, lv151, lv152, lv153, lv154, lv155, lv156, lv157, lv158, lv159, lv160, lv161, lv162, lv163, lv164, lv165, lv166, lv167, lv168, lv169, lv170, lv171, lv172, lv173, lv174, lv175, lv176, lv177, lv178, lv179, lv180, lv181, lv182, lv183, lv184, lv185, lv186, lv187, lv188, lv189, lv190, lv191, lv192, lv193, lv194, lv195, lv196, lv197, lv198, lv199, lv200, lv201, lv202, lv203, lv204, lv205, lv206, lv207, lv208, lv209, lv210, lv211, lv212, lv213, lv214, lv215, lv216, lv217, lv218, lv219, lv220, lv221, lv222, lv223, lv224, lv225, lv226, lv227, lv228, lv229, lv230, lv231, lv232, lv233, lv234, lv235], []⟩ W := by
  conv => arg 2; whnf
  refine wp_seq_k fun K9 hK => ?_
  have HK : Hid _ := hK
  clear hK
  go_wp2_with fail
  go_loopw [19] (fun s19 wr => ∃ (k : Nat), s19 = .int .i64 k ∧ k ≤ m ∧ Below W.heap.size W wr) (fun s19 _ => m - (intOf s19).toNat)
  case atStart => exact ⟨0, rfl, by omega, Below.refl _ _⟩
  case round =>
    obtain ⟨k, rfl, hk, hb⟩ := hrel
    have HX : Hid (TX CA w wr c g a9 n9 c9 K K' ∧ Below W.heap.size W wr) := ⟨X.out.later C hb, hb⟩
    clear hb
    by_cases hlt : k < m
    · have hkl : k < L.length := by rw [HN.out]; omega
      obtain ⟨b, off, ea, hbw, _, _, d2, d3⟩ := TS4.at HT.out.1 HX.out.1.bel hkl
      subst ea
      obtain ⟨s, hse⟩ : ∃ s, L[k] = s := ⟨_, rfl⟩
      have hsz := HT.out.2 s (hse ▸ List.getElem_mem hkl)
      have HMe := HM.out k hkl hlt
      rw [hse] at d2 d3 HMe
      obtain ⟨sc, kd, p, t⟩ := s
      simp only at d2 d3 HMe hsz
      have HMe : Hid ((⟨p, t⟩ : Lb) ∈ K' → (⟨p, t⟩ : Lb) ∈ K) := HMe
      have HGg : Hid (∀ Z, Below wr.heap.size wr Z → Calls Tryz.prog 13 #[.pointer (some ⟨g, 0, none⟩), .string (bs p), .string (bs t)] Z (LsG Z (gtK K' p t))) := fun Z hZ => (HX.out.1.later C hZ).tg.get C (HX.out.1.later C hZ).ev p t hsz.1 hsz.2
      have HGc : Hid (∀ Z, Below wr.heap.size wr Z → Calls Tryz.prog 13 #[.pointer (some ⟨c, 0, none⟩), .string (bs p), .string (bs t)] Z (LsG Z (gtK K p t))) := fun Z hZ => (HX.out.1.later C hZ).tc.get C (HX.out.1.later C hZ).ev p t hsz.1 hsz.2
      have HSm : Hid (GSm (prsM (dir p) t).1) := prsM_sm _ _
      have HCc : Hid (∀ Z, Below wr.heap.size wr Z → Z.cell? ⟨b, off + k * 4 + 2, none⟩ = some (.string (bs p)) ∧ Z.cell? ⟨b, off + k * 4 + 3, none⟩ = some (.string (bs t))) := fun Z hZ => ⟨(hZ.cell (p := ⟨b, off + k * 4 + 2, none⟩) (Nat.lt_of_lt_of_le hbw HX.out.1.bel.size)).trans d2, (hZ.cell (p := ⟨b, off + k * 4 + 3, none⟩) (Nat.lt_of_lt_of_le hbw HX.out.1.bel.size)).trans d3⟩
      clear hse hsz
      have k1 : (k : Int) < (n : Int) := by omega
      have k2 : (k : Int) < 30 := by omega
      by_cases hin : (⟨p, t⟩ : Lb) ∈ K'
      · have e1 : gtK K' p t = ((prsM (dir p) t).1, (prsM (dir p) t).2, true) := by unfold gtK; rw [if_pos hin]
        have e2 : gtK K p t = ((prsM (dir p) t).1, (prsM (dir p) t).2, true) := by unfold gtK; rw [if_pos (HMe.out hin)]
        rw [e1] at HGg
        rw [e2] at HGc
        clear e1 e2 hin
        generalize prsM (dir p) t = R at *
        obtain ⟨A, z⟩ := R
        simp only at HSm
        go_wp2_with fail
        go_region_held3 (fun w' => w'.cell? ⟨b, off + k * 4 + 2, none⟩ = some (.string (bs p)) ∧ w'.cell? ⟨b, off + k * 4 + 3, none⟩ = some (.string (bs t))) (first | (with_reducible exact ⟨d2, d3⟩) | (with_reducible exact Kw1.out) | go_keep) (first
          | (go_at_call 13; (with_reducible refine (HGg.out _ (Below.refl _ _).drew).mono ?_); rintro e w1 ⟨v1, rfl, ho, hb⟩; have Ow1 : Hid (GR w1 v1 A ∧ Below wr.heap.size wr w1) := ⟨ho.read, bstep ((Below.refl _ _).drew) hb⟩; have Kw1 : Hid (w1.cell? ⟨b, off + k * 4 + 2, none⟩ = some (.string (bs p)) ∧ w1.cell? ⟨b, off + k * 4 + 3, none⟩ = some (.string (bs t))) := HCc.out w1 Ow1.out.2; clear ho hb))
        obtain ⟨y2, y3⟩ := Kw1.out
        clear d2 d3 Kw1
        go_wp2_with fail
        go_region_held3 (fun w' => w'.cell? ⟨b, off + k * 4 + 2, none⟩ = some (.string (bs p)) ∧ w'.cell? ⟨b, off + k * 4 + 3, none⟩ = some (.string (bs t))) (first | (with_reducible exact ⟨y2, y3⟩) | (with_reducible exact Kw2.out) | go_keep) (first
          | (go_at_call 13; (with_reducible refine (HGc.out _ (bstep Ow1.out.2 (Below.refl _ _).drew)).mono ?_); rintro e w2 ⟨v2, rfl, ho, hb⟩; have Ow2 : Hid (GR w2 v2 A ∧ Below wr.heap.size wr w2) := ⟨ho.read, bstep (bstep Ow1.out.2 (Below.refl _ _).drew) hb⟩; have Ov1 : Hid (GR w2 v1 A) := Ow1.out.1.later (bstep (Below.refl _ _).drew hb); have Kw2 : Hid (w2.cell? ⟨b, off + k * 4 + 2, none⟩ = some (.string (bs p)) ∧ w2.cell? ⟨b, off + k * 4 + 3, none⟩ = some (.string (bs t))) := HCc.out w2 Ow2.out.2; clear ho hb))
        clear Kw2 y2 y3
        go_wp2_with fail
        refine (same_any Ov1.out Ow2.out.1 HSm.out HSm.out).mono ?_
        rintro e w3 ⟨rfl, nd, rfl⟩
        rw [decide_eq_true (rfl : A = A)]
        go_wp2_with fail
        go_roundw
        case rel => exact ⟨k + 1, by go_num, by omega, bstep HX.out.2 (bstep Ow2.out.2 (bd _ _))⟩
        case measure => simp [intOf]; omega
      · have e1 : gtK K' p t = ([], 0, false) := by unfold gtK; rw [if_neg hin]
        rw [e1] at HGg
        generalize gtK K p t = R at *
        obtain ⟨A, z, was⟩ := R
        clear e1 hin HMe
        go_wp2_with fail
        go_region_held3 (fun w' => w'.cell? ⟨b, off + k * 4 + 2, none⟩ = some (.string (bs p)) ∧ w'.cell? ⟨b, off + k * 4 + 3, none⟩ = some (.string (bs t))) (first | (with_reducible exact ⟨d2, d3⟩) | (with_reducible exact Kw1.out) | go_keep) (first
          | (go_at_call 13; (with_reducible refine (HGg.out _ (Below.refl _ _).drew).mono ?_); rintro e w1 ⟨v1, rfl, ho, hb⟩; have Ow1 : Hid (GR w1 v1 [] ∧ Below wr.heap.size wr w1) := ⟨ho.read, bstep ((Below.refl _ _).drew) hb⟩; have Kw1 : Hid (w1.cell? ⟨b, off + k * 4 + 2, none⟩ = some (.string (bs p)) ∧ w1.cell? ⟨b, off + k * 4 + 3, none⟩ = some (.string (bs t))) := HCc.out w1 Ow1.out.2; clear ho hb))
        obtain ⟨y2, y3⟩ := Kw1.out
        clear d2 d3 Kw1
        go_wp2_with fail
        go_region_held3 (fun w' => w'.cell? ⟨b, off + k * 4 + 2, none⟩ = some (.string (bs p)) ∧ w'.cell? ⟨b, off + k * 4 + 3, none⟩ = some (.string (bs t))) (first | (with_reducible exact ⟨y2, y3⟩) | (with_reducible exact Kw2.out) | go_keep) (first
          | (go_at_call 13; (with_reducible refine (HGc.out _ (bstep Ow1.out.2 (Below.refl _ _).drew)).mono ?_); rintro e w2 ⟨v2, rfl, ho, hb⟩; have Ow2 : Hid (GR w2 v2 A ∧ Below wr.heap.size wr w2) := ⟨ho.read, bstep (bstep Ow1.out.2 (Below.refl _ _).drew) hb⟩; have Kw2 : Hid (w2.cell? ⟨b, off + k * 4 + 2, none⟩ = some (.string (bs p)) ∧ w2.cell? ⟨b, off + k * 4 + 3, none⟩ = some (.string (bs t))) := HCc.out w2 Ow2.out.2; clear ho hb))
        clear Kw2 y2 y3
        go_wp2_with fail
        go_roundw
        case rel => exact ⟨k + 1, by go_num, by omega, bstep HX.out.2 Ow2.out.2⟩
        case measure => simp [intOf]; omega
    · obtain rfl : m = k := by omega
      clear hk hlt
      by_cases k1 : (m : Int) < (n : Int)
      · have k2 : ¬ (m : Int) < 30 := by omega
        go_wp2_with fail
        refine HK.out _ _ ?_
        exact t31 C HX.out.1
      · go_wp2_with fail
        refine HK.out _ _ ?_
        exact t31 C HX.out.1
end Go.Proofs.YtddaoloabfkheaaGreatDoor

namespace Go.Proofs.YtddaoloabfkheaaGreatDoor
open Go.RowKit
attribute [local go_sem] Oper.semAt_some

theorem OwnB.set {base : Nat} {w : World} {g n c : Nat} {b : List UInt8} (h : OwnB base w (.slice (some ⟨g, 0, none⟩) n c) b) (i : Nat) (hi : i < b.length) (y : UInt8) :
    OwnB base (w.setCell ⟨g, i, none⟩ (.int .u8 y.toNat)) (.slice (some ⟨g, 0, none⟩) n c) (b.set i y) ∧ w.cell? ⟨g, i, none⟩ = some (.int .u8 b[i].toNat) ∧ w.frozen? ⟨g, i, none⟩ = false := by
  have hc := World.ownsRow.cells h (g := g) rfl i (.int .u8 b[i].toNat) (by rw [bc_get, List.getElem?_eq_getElem hi]; rfl)
  rw [add_lit, Nat.zero_add] at hc
  rcases h with ⟨h0, ⟨e, _⟩ | ⟨g', cap, cur, e, hb, hg, hn, hm, hs, ht⟩⟩
  · cases e
  · obtain ⟨e1, _, e2, e3⟩ := slice_inj e
    subst e1 e2 e3
    have hl : (b.set i y).length = b.length := List.length_set
    refine ⟨⟨by rw [bc_length, Nat.mul_one], .inr ⟨g', cap, _, by rw [hl], hb, heap_setCell w g' i _ hg, by rw [hl]; exact hn, hm, by rw [Array.size_setIfInBounds]; exact hs, ?_⟩⟩, hc, by simp [World.frozen?, hg]⟩
    rw [Array.toList_setIfInBounds, List.take_set, hl, ht]
    simp only [bc, List.map_set]
theorem savB_le2 {K : List Lb} (h : OKK K) : (savB K).length ≤ 3400000000 := by
  have := h.flat
  rw [savB_hd, List.length_append, hdP_len]
  omega
theorem u8_of (z : Int) (h1 : 0 ≤ z) (h2 : z ≤ 255) : ∃ y : UInt8, z = (y.toNat : Int) := ⟨UInt8.ofNat z.toNat, by rw [UInt8.toNat_ofNat_of_lt' (by show z.toNat < 256; omega)]; omega⟩
/-- the cache, and its bytes in a block of their own -/
structure TU (CA : World → (Nat → Prop) → Nat → List Lb → Prop) (w W : World) (c gb N cb : Nat) (K : List Lb) : Prop where
  bel : Below w.heap.size w W
  ev : Ev W
  tc : ∃ F, CA W F c K ∧ ∀ k, F k → w.heap.size ≤ k ∧ k < gb
  b : OwnB w.heap.size W (.slice (some ⟨gb, 0, none⟩) N cb) (savB K)
  ok : OKK K
  len : (savB K).length = N
  big : 4 ≤ w.heap.size
theorem TU.later {CA : World → (Nat → Prop) → Nat → List Lb → Prop} (C : CcP CA) {w W W' : World} {c gb N cb : Nat} {K : List Lb} (h : TU CA w W c gb N cb K) (hb : Below W.heap.size W W') : TU CA w W' c gb N cb K := by
  obtain ⟨F, h1, h2⟩ := h.tc
  exact ⟨bstep h.bel hb, h.ev.later hb, ⟨F, C.later h1 hb, h2⟩, h.b.later hb, h.ok, h.len, h.big⟩
theorem TU.nl {CA : World → (Nat → Prop) → Nat → List Lb → Prop} {w W : World} {c gb N cb : Nat} {K : List Lb} (h : TU CA w W c gb N cb K) : N ≤ 3400000000 := by rw [← h.len]; exact savB_le2 h.ok
theorem TU.gb {CA : World → (Nat → Prop) → Nat → List Lb → Prop} {w W : World} {c gb N cb : Nat} {K : List Lb} (h : TU CA w W c gb N cb K) : w.heap.size ≤ gb ∧ gb < W.heap.size := World.ownsRow.lt h.b gb rfl
/-- with a byte turned -/
theorem TU.turn {CA : World → (Nat → Prop) → Nat → List Lb → Prop} (C : CcP CA) {w W : World} {c gb N cb q : Nat} {K : List Lb} (h : TU CA w W c gb N cb K) (hq : q < N) (y : UInt8) :
    BS (W.setCell ⟨gb, q, none⟩ (.int .u8 y.toNat)) (.slice (some ⟨gb, 0, none⟩) N cb) ((savB K).set q y) ∧ Below w.heap.size w (W.setCell ⟨gb, q, none⟩ (.int .u8 y.toNat)) ∧ Ev (W.setCell ⟨gb, q, none⟩ (.int .u8 y.toNat)) ∧ TQ CA w.heap.size (W.setCell ⟨gb, q, none⟩ (.int .u8 y.toNat)) c K := by
  obtain ⟨F, h1, h2⟩ := h.tc
  have hgb := h.gb
  have hse := Only.set W gb q (.int .u8 y.toNat)
  have hbel : Below w.heap.size W (W.setCell ⟨gb, q, none⟩ (.int .u8 y.toNat)) := hse.below h.bel.size (fun k hk => by have e : k = gb := (by simpa using hk); omega)
  refine ⟨(h.b.set q (by rw [h.len]; exact hq) y).1.bs, h.bel.trans hbel, h.ev.only hse (fun k hk => by have e : k = gb := (by simpa using hk); have := h.big; omega), ⟨F, C.stay h1 hse.size (fun k hk => hse.block k (C.lt h1 k hk) (fun e => ?_)), fun k hk => (h2 k hk).1⟩⟩
  have e : k = gb := by simpa using e
  have := (h2 k hk).2
  omega
set_option maxRecDepth 100000 in
set_option maxHeartbeats 16000000 in
theorem t20 {CA : World → (Nat → Prop) → Nat → List Lb → Prop} (C : CcP CA) {w W : World} {c gb N cb q n m cv : Nat} {av : Option Addr} {K : List Lb} {L : List Stp} {by_ : UInt8} {lv1 lv3 lv4 lv5 lv6 lv8 lv11 lv12 lv13 lv14 lv15 lv16 lv17 lv18 lv19 lv20 lv21 lv22 lv23 lv24 lv25 lv26 lv27 lv28 lv29 lv30 lv31 lv32 lv33 lv34 lv35 lv36 lv37 lv38 lv39 lv40 lv41 lv42 lv43 lv44 lv45 lv46 lv47 lv48 lv49 lv50 lv51 lv52 lv53 lv54 lv55 lv56 lv57 lv58 lv59 lv60 lv61 lv62 lv63 lv64 lv65 lv66 lv67 lv68 lv69 lv70 lv71 lv72 lv73 lv74 lv75 lv76 lv77 lv78 lv79 lv80 lv81 lv82 lv83 lv84 lv85 lv86 lv87 lv88 lv89 lv90 lv91 lv92 lv93 lv94 lv95 lv96 lv97 lv98 lv99 lv100 lv101 lv102 lv103 lv104 lv105 lv106 lv107 lv108 lv109 lv110 lv111 lv112 lv113 lv114 lv115 lv116 lv117 lv118 lv119 lv120 lv121 lv122 lv123 lv124 lv125 lv126 lv127 lv128 lv129 lv130 lv131 lv132 lv133 lv134 lv135 lv136 lv137 lv138 lv139 lv140 lv141 lv142 lv143 lv144 lv145 lv146 lv147 lv148 lv149 lv150 lv151 lv152 lv153 lv154 lv155 lv156 lv157 lv158 lv159 lv160 lv161 lv162 lv163 lv164 lv165 lv166 lv167 lv168 lv169 lv170 lv171 lv172 lv173 lv174 lv175 lv176 lv177 lv178 lv179 lv180 lv181 lv182 lv183 lv184 lv185 lv186 lv187 lv188 lv189 lv190 lv191 lv192 lv193 lv194 lv195 lv196 lv197 lv198 lv199 lv200 lv201 lv202 lv203 lv204 lv205 lv206 lv207 lv208 lv209 lv210 lv211 lv212 lv213 lv214 lv215 lv216 lv217 lv218 lv219 lv220 lv221 lv222 lv223 lv224 lv225 lv226 lv227 lv228 lv229 lv230 lv231 lv232 lv233 lv234 lv235 : Value} (HT : Hid (TS4 w (.slice av n cv) L ∧ ∀ s ∈ L, s.p.length ≤ 1000000000 ∧ s.t.length ≤ 1000000000)) (HN : Hid (L.length = n)) (hnl : n ≤ 100000000) (hm : min n 30 = m) (HKl : Hid (∀ k, (hk : k < L.length) → k < m → rgt L[k].p = true → L[k].t.length ≤ 4096 → (⟨L[k].p, L[k].t⟩ : Lb) ∈ K)) (X : Hid (TU CA w W c gb N cb K)) (hq : q < N) :
    Code.wp Tryz.prog (suff 20 (Tryz.f4.body.getD .skip)) (bodyPost Tryz.prog Tryz.f4 (Good w)) ⟨#[.slice av n cv, lv1, .int .u8 (by_.toNat : Int), lv3, lv4, lv5, lv6, .pointer (some ⟨c, 0, none⟩), lv8, .slice (some ⟨gb, 0, none⟩) N cb, .int .i64 (q : Int), lv11, lv12, lv13, lv14, lv15, lv16, lv17, lv18, lv19, lv20, lv21, lv22, lv23, lv24, lv25, lv26, lv27, lv28, lv29, lv30, lv31, lv32, lv33, lv34, lv35, lv36, lv37, lv38, lv39, lv40, lv41, lv42, lv43, lv44, lv45, lv46, lv47, lv48, lv49, lv50, lv51, lv52, lv53, lv54, lv55, lv56, lv57, lv58, lv59, lv60, lv61, lv62, lv63, lv64, lv65, lv66, lv67, lv68, lv69, lv70, lv71, lv72, lv73, lv74, lv75, lv76, lv77, lv78, lv79, lv80, lv81, lv82, lv83, lv84, lv85, lv86, lv87, lv88, lv89, lv90, lv91, lv92, lv93, lv94, lv95, lv96, lv97, lv98, lv99, lv100, lv101, lv102, lv103, lv104, lv105, lv106, lv107, lv108, lv109, lv110, lv111, lv112, lv113, lv114, lv115, lv116, lv117, lv118, lv119, lv120, lv121, lv122, lv123, lv124, lv125, lv126, lv127, lv128, lv129, lv130, lv131, lv132, lv133, lv134, lv135, lv136, lv137, lv138, lv139, lv140, lv141, lv142, lv143, lv144, lv145, lv146, lv147, lv148, lv149, lv150, lv151, lv152, lv153, lv154, lv155, lv156, lv157, lv158, lv159, lv160, lv161, lv162, lv163, lv164, lv165, lv166, lv167, lv168, lv169, lv170, lv171, lv172, lv173, lv174, lv175, lv176, lv177, lv178, lv179, lv180, lv181, lv182, lv183, lv184, lv185, lv186, lv187, lv188, lv189, lv190, lv191, lv192, lv193, lv194, lv195, lv196, lv197, lv198, lv199, lv200, lv201, lv202, lv203, lv204, lv205, lv206, lv207, lv208, lv209, lv210, lv211, lv212, lv213, lv214, lv215, lv216, lv217, lv218, lv219, lv220, lv221, lv222, lv223, lv224, lv225, lv226, lv227, lv228, lv229, lv230, lv231, lv232, lv233, lv234, lv235], []⟩ W := by
  conv => arg 2; whnf
  obtain ⟨y, hy⟩ := u8_of (bits .xor .u8 ((savB K)[q]'(by rw [X.out.len]; exact hq)).toNat by_.toNat) (bits_lo_u8 _ _ _) (bits_hi_u8 _ _ _)
  obtain ⟨_, hc, hf⟩ := X.out.b.set q (by rw [X.out.len]; exact hq) y
  revert hy hc
  generalize ((savB K)[q]'(by rw [X.out.len]; exact hq)).toNat = a0
  intro hy hc
  have HTn : Hid (∀ Z, W.setCell ⟨gb, q, none⟩ (.int .u8 y.toNat) = Z → BS Z (.slice (some ⟨gb, 0, none⟩) N cb) ((savB K).set q y) ∧ Below w.heap.size w Z ∧ Ev Z ∧ TQ CA w.heap.size Z c K) := fun Z hZ => by rw [← hZ]; exact X.out.turn C hq y
  have hN := X.out.nl
  have HLn : Hid (((savB K).set q y).length ≤ 4000000000) := by show _ ≤ _; rw [List.length_set]; exact savB_le X.out.ok
  have HTu : Hid (∀ K', OKK K' → savB K' = (savB K).set q y → K'.length = K.length) := fun K' ok e => turned_len X.out.ok ok e
  obtain ⟨Z, hZ⟩ : ∃ Z, W.setCell ⟨gb, q, none⟩ (.int .u8 y.toNat) = Z := ⟨_, rfl⟩
  have HZ := HTn.out Z hZ
  have HZ : Hid (BS Z (.slice (some ⟨gb, 0, none⟩) N cb) ((savB K).set q y) ∧ Below w.heap.size w Z ∧ Ev Z ∧ TQ CA w.heap.size Z c K) := HZ
  clear HTn
  generalize (savB K).set q y = b' at *
  have q1 : (q : Int) < (N : Int) := by omega
  refine wp_seq_k fun K9 hK => ?_
  have HK : Hid _ := hK
  clear hK
  go_wp2_with fail
  refine HK.out _ _ ?_
  clear HK K9
  refine wp_seq_k fun K9 hK => ?_
  have HK : Hid _ := hK
  clear hK
  go_wp2_with fail
  refine (TQ.load C HZ.out.1 HZ.out.2.2.1 HLn.out).mono ?_
  rintro e w3 ⟨hb3, ⟨K3, g3, ok3, e3, rfl, hc3⟩ | ⟨hno, rfl⟩⟩
  · obtain ⟨F3, hF1, hF2⟩ := hc3
    have X3 : Hid (TX CA w w3 c g3 (some ⟨gb, 0, none⟩) N cb K K3) := ⟨bstep HZ.out.2.1 hb3, HZ.out.2.2.1.later hb3, HZ.out.2.2.2.later C hb3, ⟨F3, hF1, fun k hk => Nat.le_trans HZ.out.2.1.size (hF2 k hk)⟩, by rw [e3]; exact HZ.out.1.later hb3, HTu.out K3 ok3 e3⟩
    have HM : Hid (∀ k, (hk : k < L.length) → k < m → (⟨L[k].p, L[k].t⟩ : Lb) ∈ K3 → (⟨L[k].p, L[k].t⟩ : Lb) ∈ K) := fun k hk hkm hin => HKl.out k hk hkm (ok3.rt _ hin) (ok3.tx _ hin)
    clear hb3 hF1 hF2 ok3 e3 HZ hZ HTu HLn
    go_wp2_with fail
    refine HK.out _ _ ?_
    clear HK K9
    refine wp_seq_k fun K9 hK => ?_
    have HK : Hid _ := hK
    clear hK
    go_wp2_with fail
    refine HK.out _ _ ?_
    clear HK K9
    exact t24 C X3.out HT HN hnl hm HM
  · have H3 : Hid (Below w.heap.size w w3) := bstep HZ.out.2.1 hb3
    clear hb3 hno
    go_wp2_with fail
    refine HK.out _ _ ?_
    clear HK K9
    refine wp_seq_k fun K9 hK => ?_
    have HK : Hid _ := hK
    clear hK
    go_wp2_with fail
    go_ret
    exact ⟨rfl, H3.out⟩
end Go.Proofs.YtddaoloabfkheaaGreatDoor
