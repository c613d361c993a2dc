import Derived.Test.YtkbefggjfggdgaaGreatLists
namespace Go.Proofs.YtkbefggjfggdgaaGreat
open Go.RowKit

theorem SS.tail {w : World} {a : Option Addr} {c n : Nat} {x : List UInt8} {A : List (List UInt8)} (h : SS w (.slice a n c) (x :: A)) :
    ∃ b off, a = some ⟨b, off, none⟩ ∧ b < w.heap.size ∧ n = A.length + 1 ∧ n ≤ c ∧ w.cell? ⟨b, off, none⟩ = some (.string (bs x)) ∧ SS w (.slice (some ⟨b, off, none⟩) 1 c) [x] ∧ SS w (.slice (some ⟨b, off + 1, none⟩) (n - 1) (c - 1)) A := by
  rcases h with ⟨_, h0⟩ | ⟨b, off, cap, e, hc, hlt, hcell⟩
  · cases h0
  · injection e with e1 e2 e3
    subst e1
    subst e3
    have hn : n = A.length + 1 := by simpa using e2
    have hc' : n ≤ c := by simp at hc; omega
    have h0 := hcell 0 (.string (bs x)) (by simp [sc])
    refine ⟨b, off, rfl, hlt, hn, hc', h0, .inr ⟨b, off, c, rfl, by simp; omega, hlt, fun i u hu => ?_⟩, .inr ⟨b, off + 1, c - 1, by rw [hn]; rfl, by omega, hlt, fun i u hu => ?_⟩⟩
    · cases i with
      | zero => simp [sc] at hu; subst hu; exact h0
      | succ i => simp [sc] at hu
    · have := hcell (i + 1) u (by simpa [sc] using hu)
      rw [show off + 1 + i = off + (i + 1) by omega]; exact this

theorem SS.zero {w : World} {p : Option Addr} {n c : Nat} {A : List (List UInt8)} (h : SS w (.slice p n c) A) (hc : n ≤ c) (h0 : c = 0) (p' : Option Addr) (c' : Nat) : SS w (.slice p' n c') A := by
  have hn : n = 0 := by omega
  subst hn
  refine .inl ⟨⟨_, _, rfl⟩, ?_⟩
  obtain ⟨a, c2, e, _⟩ := h.form
  injection e with _ e2 _
  exact List.eq_nil_of_length_eq_zero e2.symm
theorem bdrw {B : Nat} {w w1 : World} (h : Below B w w1) : Below B w w1.drew := ⟨h.os, h.tape, h.output, h.size, h.block⟩

theorem SS.len {w : World} {v : Value} {L : List (List UInt8)} (h : SS w v L) : ∃ a c, v = .slice a L.length c := by
  obtain ⟨a, c, e, _⟩ := h.form
  exact ⟨a, c, e⟩
theorem SS.len' {w : World} {v : Value} {L : List (List UInt8)} (h : SS w v L) : ∃ a c n, n = L.length ∧ v = .slice a n c := by
  obtain ⟨a, c, e, _⟩ := h.form
  exact ⟨a, c, _, rfl, e⟩
theorem SS.own {w : World} {v : Value} {L : List (List UInt8)} (h : SS w v L) {B : Nat} (hB : w.heap.size ≤ B) : ∀ k, v.ownBlock = some k → k < B ∨ L = [] := by
  intro k hk
  rcases h with ⟨⟨a, c, rfl⟩, h0⟩ | ⟨b, off, cap, rfl, hc, hlt, hcell⟩
  · exact .inr h0
  · simp [Value.ownBlock] at hk; subst hk; exact .inl (by omega)
theorem SS.kept {w w' : World} {v : Value} {l : List (List UInt8)} {B : Nat} (h : SS w v l) (hB : w.heap.size ≤ B) (hb : Below B w w') : SS w' v l := by
  rcases h with h | ⟨b, off, cap, rfl, hc, hlt, hcell⟩
  · exact .inl h
  · refine .inr ⟨b, off, cap, rfl, hc, Nat.lt_of_lt_of_le hlt hb.size, fun i u hu => ?_⟩
    rw [hb.cell (p := ⟨b, off + i, none⟩) (by show b < B; omega)]; exact hcell i u hu

set_option maxHeartbeats 4000000 in
set_option maxRecDepth 100000 in
theorem merge_any {w : World} {va vb : Value} {A B : List (List UInt8)} (f m s : Bool) (h1 : SS w va A) (h2 : SS w vb B) (ua : Up A) (ub : Up B) (sa : Sm A) (sb : Sm B) :
    Calls Tryz.prog 76 #[va, vb, .func (.func 48) #[] #[], .agg #[.bool f, .bool m, .bool s]] w fun e w' => ∃ v', e = .returned v' ∧ Own w.heap.size w' v' (pick f m s A B) ∧ Below w.heap.size w w' := by
  obtain ⟨R, hR⟩ : ∃ R, pick f m s A B = R := ⟨_, rfl⟩
  rw [hR]
  have HR : Hid (pick f m s A B = R) := hR
  clear hR
  have H1 : Hid (SS w va A ∧ Up A ∧ Sm A) := ⟨h1, ua, sa⟩
  have H2 : Hid (SS w vb B ∧ Up B ∧ Sm B) := ⟨h2, ub, sb⟩
  clear h1 h2 ua ub sa sb
  obtain ⟨G, hG⟩ : ∃ G, w.heap.size = G := ⟨_, rfl⟩
  have hga : w.heap.size ≤ G := by omega
  have hgb : G ≤ w.heap.size := by omega
  obtain ⟨wb, hwb⟩ : ∃ wb, w.alloc (.cells #[.bool f, .bool m, .bool s] 64) = wb := ⟨_, rfl⟩
  have HB0 : Hid (wb.heap.size = G + 1 ∧ Below G w wb ∧ wb.cell? ⟨G, 0, none⟩ = some (.bool f) ∧ wb.cell? ⟨G, 1, none⟩ = some (.bool m) ∧ wb.cell? ⟨G, 2, none⟩ = some (.bool s)) := by
    rw [← hwb, ← hG]
    exact ⟨by simp, balloc _ _, by simp, by simp, by simp⟩
  go_enter Tryz.func76, Tryz.ntmps76
  go_wp2_with fail
  clear hwb
  go_loopg [0, 1, 9] (A.length + B.length) (fun g xa xb xo wr => ∃ (A' B' O : List (List UInt8)), SS w xa A' ∧ SS w xb B' ∧ Up A' ∧ Up B' ∧ Sm A' ∧ Sm B' ∧ Own (G + 1) wr xo O ∧ Below (G + 1) wb wr ∧ O ++ pick f m s A' B' = R ∧ O.length + A'.length + B'.length ≤ 8000000 ∧ A'.length + B'.length ≤ g)
  case atStart => exact ⟨A, B, [], H1.out.1, H2.out.1, H1.out.2.1, H2.out.2.1, H1.out.2.2, H2.out.2.2, Own.nil _ _, Below.refl _ _, HR.out, by have := H1.out.2.2.len; have := H2.out.2.2.len; simp; omega, Nat.le_refl _⟩
  case round =>
    obtain ⟨A', B', O, hx, hy, ua, ub, sa, sb, ho, hbw, hp, hlen, hg⟩ := hrel
    have hwr : G + 1 ≤ wr.heap.size := by have := hbw.size; have := HB0.out.1; omega
    have c0 : wr.cell? ⟨G, 0, none⟩ = some (.bool f) := by rw [hbw.cell (p := ⟨G, 0, none⟩) (by simp)]; exact HB0.out.2.2.1
    have c1 : wr.cell? ⟨G, 1, none⟩ = some (.bool m) := by rw [hbw.cell (p := ⟨G, 1, none⟩) (by simp)]; exact HB0.out.2.2.2.1
    have c2 : wr.cell? ⟨G, 2, none⟩ = some (.bool s) := by rw [hbw.cell (p := ⟨G, 2, none⟩) (by simp)]; exact HB0.out.2.2.2.2
    have hwwr : Below G w wr := below_trans HB0.out.2.1 (below_mono hbw (by omega))
    have HO : Hid (Own (G + 1) wr u9 O) := ho
    have HW : Hid (Below (G + 1) wb wr) := hbw
    have HWW : Hid (Below G w wr) := hwwr
    have HP : Hid (O ++ pick f m s A' B' = R) := hp
    have HX : Hid (SS w u0 A' ∧ Up A' ∧ Sm A') := ⟨hx, ua, sa⟩
    have HY : Hid (SS w u1 B' ∧ Up B' ∧ Sm B') := ⟨hy, ub, sb⟩
    have HL : Hid (O.length + A'.length + B'.length ≤ 8000000) := hlen
    have HG : Hid (A'.length + B'.length ≤ gk) := hg
    have HE : Hid (A' = [] ∨ B' = [] → (O ++ if f then A' else []) ++ (if s then B' else []) = R) := fun he => by
      rw [← HP.out, List.append_assoc]
      congr 1
      rcases he with rfl | rfl
      · rw [nil_pick f m s HY.out.2.1]; simp
      · rw [pick_nil f m s HX.out.2.1]; simp
    clear ho hbw hwwr hp ua ub sa sb hlen hg
    obtain ⟨a, ca, na, hna, rfl⟩ := hx.len'
    obtain ⟨b, cb, nb, hnb, rfl⟩ := hy.len'
    clear hx hy
    by_cases he : A' = [] ∨ B' = []
    · have hlz : 0 < na → ¬ 0 < nb := by
        rcases he with rfl | rfl
        · simp at hna; omega
        · simp at hnb; omega
      have HE2 : Hid ((O ++ if f = true then A' else []) ++ (if s = true then B' else []) = R) := HE.out he
      have HN : Hid (na = A'.length ∧ nb = B'.length) := ⟨hna, hnb⟩
      clear he hna hnb
      by_cases h0 : 0 < na
      · have h00 : ¬ 0 < nb := hlz h0
        clear hlz
        go_wp2_with fail
        refine (take_any f HO.out (HX.out.1.kept hga HWW.out) (by have := HL.out; omega) hwr).mono ?_
        rintro e w1 ⟨v1, rfl, ho1, hb1⟩
        have HO1 : Hid (Own (G + 1) w1 v1 (O ++ if f = true then A' else [])) := ho1
        have HB1 : Hid (Below G w w1) := below_trans HWW.out (below_mono hb1 (by omega))
        have c3 : w1.cell? ⟨G, 2, none⟩ = some (.bool s) := by rw [hb1.cell (p := ⟨G, 2, none⟩) (by simp)]; exact c2
        have hw1 : G + 1 ≤ w1.heap.size := by have := hb1.size; omega
        have hl1 : (O ++ if f = true then A' else []).length + B'.length ≤ 8000000 := by
          have := HL.out
          rw [List.length_append]
          cases f
          · simp; omega
          · simp; omega
        have HL1 : Hid ((O ++ if f = true then A' else []).length + B'.length ≤ 8000000) := hl1
        clear hl1
        clear ho1 hb1
        go_wp2_with fail
        refine (take_any s HO1.out (HY.out.1.kept hga HB1.out) HL1.out hw1).mono ?_
        rintro e w2 ⟨v2, rfl, ho2, hb2⟩
        have HO2 : Hid (Own (G + 1) w2 v2 ((O ++ if f = true then A' else []) ++ if s = true then B' else [])) := ho2
        have HB2 : Hid (Below G w w2) := below_trans HB1.out (below_mono hb2 (by omega))
        clear ho2 hb2
        go_wp2_with fail
        go_ret
        refine ⟨v2, rfl, ?_, below_mono HB2.out hga⟩
        have h := HO2.out
        rw [HE2.out] at h
        exact h.mono (by omega)
      · clear hlz
        go_wp2_with fail
        refine (take_any f HO.out (HX.out.1.kept hga HWW.out) (by have := HL.out; omega) hwr).mono ?_
        rintro e w1 ⟨v1, rfl, ho1, hb1⟩
        have HO1 : Hid (Own (G + 1) w1 v1 (O ++ if f = true then A' else [])) := ho1
        have HB1 : Hid (Below G w w1) := below_trans HWW.out (below_mono hb1 (by omega))
        have c3 : w1.cell? ⟨G, 2, none⟩ = some (.bool s) := by rw [hb1.cell (p := ⟨G, 2, none⟩) (by simp)]; exact c2
        have hw1 : G + 1 ≤ w1.heap.size := by have := hb1.size; omega
        have hl1 : (O ++ if f = true then A' else []).length + B'.length ≤ 8000000 := by
          have := HL.out
          rw [List.length_append]
          cases f
          · simp; omega
          · simp; omega
        have HL1 : Hid ((O ++ if f = true then A' else []).length + B'.length ≤ 8000000) := hl1
        clear hl1
        clear ho1 hb1
        go_wp2_with fail
        refine (take_any s HO1.out (HY.out.1.kept hga HB1.out) HL1.out hw1).mono ?_
        rintro e w2 ⟨v2, rfl, ho2, hb2⟩
        have HO2 : Hid (Own (G + 1) w2 v2 ((O ++ if f = true then A' else []) ++ if s = true then B' else [])) := ho2
        have HB2 : Hid (Below G w w2) := below_trans HB1.out (below_mono hb2 (by omega))
        clear ho2 hb2
        go_wp2_with fail
        go_ret
        refine ⟨v2, rfl, ?_, below_mono HB2.out hga⟩
        have h := HO2.out
        rw [HE2.out] at h
        exact h.mono (by omega)
    · obtain ⟨x, A2, rfl⟩ : ∃ x A2, A' = x :: A2 := by
        cases A' with
        | nil => exact absurd (Or.inl rfl) he
        | cons x A2 => exact ⟨x, A2, rfl⟩
      obtain ⟨y, B2, rfl⟩ : ∃ x A2, B' = x :: A2 := by
        cases B' with
        | nil => exact absurd (Or.inr rfl) he
        | cons x A2 => exact ⟨x, A2, rfl⟩
      clear he HE hna hnb
      obtain ⟨ga, oa, rfl, lga, na2, kca, cxa, sxa, txa⟩ := HX.out.1.tail
      obtain ⟨gb, ob, rfl, lgb, nb2, kcb, cxb, sxb, txb⟩ := HY.out.1.tail
      have hna : 1 ≤ na := by omega
      have hnb : 1 ≤ nb := by omega
      have ka1 : (1 : Int) ≤ (ca : Int) := by omega
      have kb1 : (1 : Int) ≤ (cb : Int) := by omega
      have HN : Hid (na = A2.length + 1 ∧ nb = B2.length + 1) := ⟨na2, nb2⟩
      have SX : Hid (SS w (.slice (some ⟨ga, oa, none⟩) 1 ca) [x] ∧ SS w (.slice (some ⟨ga, oa + 1, none⟩) (na - 1) (ca - 1)) A2) := ⟨sxa, txa⟩
      have SY : Hid (SS w (.slice (some ⟨gb, ob, none⟩) 1 cb) [y] ∧ SS w (.slice (some ⟨gb, ob + 1, none⟩) (nb - 1) (cb - 1)) B2) := ⟨sxb, txb⟩
      have cA : wr.cell? ⟨ga, oa, none⟩ = some (.string (bs x)) := by rw [HWW.out.cell (p := ⟨ga, oa, none⟩) (by show ga < G; omega)]; exact cxa
      have cB : wr.cell? ⟨gb, ob, none⟩ = some (.string (bs y)) := by rw [HWW.out.cell (p := ⟨gb, ob, none⟩) (by show gb < G; omega)]; exact cxb
      clear cxa cxb sxa txa sxb txb na2 nb2
      have lga2 : ga < wr.heap.size := by omega
      have lgb2 : gb < wr.heap.size := by omega
      obtain ⟨o, hoo⟩ : ∃ o, cf x y = o := ⟨_, rfl⟩
      have HC : Hid (∀ W : World, Calls Tryz.prog 48 #[.string (bs x), .string (bs y)] W fun e w' => e = .returned (.int .i64 o) ∧ Laid W w') := fun W => by
        rw [← hoo]
        exact cmp_any x y W (by have := HX.out.2.2.each x (by simp); omega) (by have := HY.out.2.2.each y (by simp); omega)
      have HOO : Hid (cf x y = o) := hoo
      clear hoo
      go_wp2_with fail
      go_region_held3 (fun w' => w'.cell? ⟨ga, oa, none⟩ = some (.string (bs x)) ∧ w'.cell? ⟨gb, ob, none⟩ = some (.string (bs y))) (first | go_keep | (exact ⟨(by rw [hb8.cell (p := ⟨ga, oa, none⟩) lga2]; exact cA), (by rw [hb8.cell (p := ⟨gb, ob, none⟩) lgb2]; exact cB)⟩)) (first | (go_at_call 48; refine (HC.out _).mono ?_; rintro e w' ⟨rfl, hl9⟩; have hb8 : Below wr.heap.size wr w' := bstep (Below.refl _ _).drew hl9.below))
      obtain ⟨wx, hwx⟩ : ∃ wx, wx = w' := ⟨_, rfl⟩
      subst hwx
      have HO8 : Hid (Own (G + 1) wx u9 O) := HO.out.later hb8
      have HWW8 : Hid (Below G w wx) := below_trans HWW.out (below_mono hb8 (by omega))
      have HW8 : Hid (Below (G + 1) wb wx) := below_trans HW.out (below_mono hb8 hwr)
      have hwx : G + 1 ≤ wx.heap.size := by have := hb8.size; omega
      have d0 : wx.cell? ⟨G, 0, none⟩ = some (.bool f) := by rw [hb8.cell (p := ⟨G, 0, none⟩) hwr]; exact c0
      have d1 : wx.cell? ⟨G, 1, none⟩ = some (.bool m) := by rw [hb8.cell (p := ⟨G, 1, none⟩) hwr]; exact c1
      have d2 : wx.cell? ⟨G, 2, none⟩ = some (.bool s) := by rw [hb8.cell (p := ⟨G, 2, none⟩) hwr]; exact c2
      have SX8 : Hid (SS wx (.slice (some ⟨ga, oa, none⟩) 1 ca) [x]) := SX.out.1.kept hga HWW8.out
      have SY8 : Hid (SS wx (.slice (some ⟨gb, ob, none⟩) 1 cb) [y]) := SY.out.1.kept hga HWW8.out
      have hl8 : O.length + 1 ≤ 8000000 := by have := HL.out; simp at this; omega
      have HL8 : Hid (O.length + 1 ≤ 8000000) := hl8
      have smA : Sm A2 := ⟨by have := HX.out.2.2.len; simp at this; omega, fun z hz => HX.out.2.2.each z (by simp [hz])⟩
      have smB : Sm B2 := ⟨by have := HY.out.2.2.len; simp at this; omega, fun z hz => HY.out.2.2.each z (by simp [hz])⟩
      have HSA : Hid (Sm A2 ∧ Up A2) := ⟨smA, (List.pairwise_cons.1 HX.out.2.1).2⟩
      have HSB : Hid (Sm B2 ∧ Up B2) := ⟨smB, (List.pairwise_cons.1 HY.out.2.1).2⟩
      clear hb8 hl9 cA cB c0 c1 c2 hl8 smA smB
      have c0 := d0
      have c1 := d1
      have c2 := d2
      clear d0 d1 d2
      by_cases o1 : o < 0
      · have hp := HP.out
        rw [pick_lt f m s HX.out.2.1 HY.out.2.1 (by rw [HOO.out]; exact o1), ← List.append_assoc] at hp
        have HP8 : Hid ((O ++ if f = true then [x] else []) ++ pick f m s A2 (y :: B2) = R) := hp
        have hgx : A2.length + (y :: B2).length < gk := by have := HG.out; simp at this ⊢; omega
        have HGX : Hid (A2.length + (y :: B2).length < gk) := hgx
        have hlx : (O ++ if f = true then [x] else []).length + A2.length + (y :: B2).length ≤ 8000000 := by
          have := HL.out
          cases f <;> simp at this ⊢ <;> omega
        have HLX : Hid ((O ++ if f = true then [x] else []).length + A2.length + (y :: B2).length ≤ 8000000) := hlx
        clear hp hgx hlx
        go_wp2_with fail
        go_region_held3 (fun w' => w'.cell? ⟨G, 0, none⟩ = some (.bool f)) (first | go_keep | (exact (by rw [hb7.cell (p := ⟨G, 0, none⟩) (by simp)]; exact c0))) (first | (go_at_call 90; refine (take_any f (HO8.out.later (Below.refl _ _).drew) (SX8.out.later (Below.refl _ _).drew) HL8.out (by show G + 1 ≤ wx.heap.size; omega)).mono ?_; rintro e w' ⟨v9, rfl, ho9, hb9⟩; have hb7 : Below (G + 1) wx w' := below_trans (Below.refl _ _).drew hb9))
        have HO9 : Hid (Own (G + 1) w' v9 (O ++ if f = true then [x] else [])) := ho9
        have HB9 : Hid (Below (G + 1) wb w') := below_trans HW8.out hb7
        clear ho9 hb9 hb7
        go_wp2_with fail
        all_goals (go_roundg (A2.length + (y :: B2).length))
        all_goals first | exact HGX.out | exact ⟨A2, y :: B2, _, SX.out.2, HY.out.1, HSA.out.2, HY.out.2.1, HSA.out.1, HY.out.2.2, HO9.out, HB9.out, HP8.out, HLX.out, Nat.le_refl _⟩ | exact ⟨A2, y :: B2, _, SX.out.2.zero (by omega) (by omega) _ _, HY.out.1, HSA.out.2, HY.out.2.1, HSA.out.1, HY.out.2.2, HO9.out, HB9.out, HP8.out, HLX.out, Nat.le_refl _⟩
      · by_cases o2 : 0 < o
        · have hp := HP.out
          rw [pick_gt f m s HX.out.2.1 HY.out.2.1 (by rw [HOO.out]; exact o2), ← List.append_assoc] at hp
          have HP8 : Hid ((O ++ if s = true then [y] else []) ++ pick f m s (x :: A2) B2 = R) := hp
          have hgx : (x :: A2).length + B2.length < gk := by have := HG.out; simp at this ⊢; omega
          have HGX : Hid ((x :: A2).length + B2.length < gk) := hgx
          have hlx : (O ++ if s = true then [y] else []).length + (x :: A2).length + B2.length ≤ 8000000 := by
            have := HL.out
            cases s <;> simp at this ⊢ <;> omega
          have HLX : Hid ((O ++ if s = true then [y] else []).length + (x :: A2).length + B2.length ≤ 8000000) := hlx
          clear hp hgx hlx
          go_wp2_with fail
          go_region_held3 (fun w' => w'.cell? ⟨G, 2, none⟩ = some (.bool s)) (first | go_keep | (exact (by rw [hb7.cell (p := ⟨G, 2, none⟩) (by simp)]; exact c2))) (first | (go_at_call 90; refine (take_any s (HO8.out.later (Below.refl _ _).drew) (SY8.out.later (Below.refl _ _).drew) HL8.out (by show G + 1 ≤ wx.heap.size; omega)).mono ?_; rintro e w' ⟨v9, rfl, ho9, hb9⟩; have hb7 : Below (G + 1) wx w' := below_trans (Below.refl _ _).drew hb9))
          have HO9 : Hid (Own (G + 1) w' v9 (O ++ if s = true then [y] else [])) := ho9
          have HB9 : Hid (Below (G + 1) wb w') := below_trans HW8.out hb7
          clear ho9 hb9 hb7
          go_wp2_with fail
          all_goals (go_roundg ((x :: A2).length + B2.length))
          all_goals first | exact HGX.out | exact ⟨x :: A2, B2, _, HX.out.1, SY.out.2, HX.out.2.1, HSB.out.2, HX.out.2.2, HSB.out.1, HO9.out, HB9.out, HP8.out, HLX.out, Nat.le_refl _⟩ | exact ⟨x :: A2, B2, _, HX.out.1, SY.out.2.zero (by omega) (by omega) _ _, HX.out.2.1, HSB.out.2, HX.out.2.2, HSB.out.1, HO9.out, HB9.out, HP8.out, HLX.out, Nat.le_refl _⟩
        · have o3 : o = 0 := by omega
          have exy : x = y := cf_zero.1 (HOO.out.trans o3)
          have hp := HP.out
          rw [exy] at hp
          rw [pick_eq f m s (exy ▸ HX.out.2.1) HY.out.2.1, ← exy, ← List.append_assoc] at hp
          have HP8 : Hid ((O ++ if m = true then [x] else []) ++ pick f m s A2 B2 = R) := hp
          have hgx : A2.length + B2.length < gk := by have := HG.out; simp at this ⊢; omega
          have HGX : Hid (A2.length + B2.length < gk) := hgx
          have hlx : (O ++ if m = true then [x] else []).length + A2.length + B2.length ≤ 8000000 := by
            have := HL.out
            cases m <;> simp at this ⊢ <;> omega
          have HLX : Hid ((O ++ if m = true then [x] else []).length + A2.length + B2.length ≤ 8000000) := hlx
          clear hp hgx hlx exy
          go_wp2_with fail
          go_region_held3 (fun w' => w'.cell? ⟨G, 1, none⟩ = some (.bool m)) (first | go_keep | (exact (by rw [hb7.cell (p := ⟨G, 1, none⟩) (by simp)]; exact c1))) (first | (go_at_call 90; refine (take_any m (HO8.out.later (Below.refl _ _).drew) (SX8.out.later (Below.refl _ _).drew) HL8.out (by show G + 1 ≤ wx.heap.size; omega)).mono ?_; rintro e w' ⟨v9, rfl, ho9, hb9⟩; have hb7 : Below (G + 1) wx w' := below_trans (Below.refl _ _).drew hb9))
          have HO9 : Hid (Own (G + 1) w' v9 (O ++ if m = true then [x] else [])) := ho9
          have HB9 : Hid (Below (G + 1) wb w') := below_trans HW8.out hb7
          clear ho9 hb9 hb7
          go_wp2_with fail
          go_region
          all_goals go_wp2_with fail
          all_goals (go_roundg (A2.length + B2.length))
          all_goals first | exact HGX.out | exact ⟨A2, B2, _, SX.out.2, SY.out.2, HSA.out.2, HSB.out.2, HSA.out.1, HSB.out.1, HO9.out, bdrw HB9.out, HP8.out, HLX.out, Nat.le_refl _⟩ | exact ⟨A2, B2, _, SX.out.2.zero (by omega) (by omega) _ _, SY.out.2, HSA.out.2, HSB.out.2, HSA.out.1, HSB.out.1, HO9.out, bdrw HB9.out, HP8.out, HLX.out, Nat.le_refl _⟩ | exact ⟨A2, B2, _, SX.out.2, SY.out.2.zero (by omega) (by omega) _ _, HSA.out.2, HSB.out.2, HSA.out.1, HSB.out.1, HO9.out, bdrw HB9.out, HP8.out, HLX.out, Nat.le_refl _⟩ | exact ⟨A2, B2, _, SX.out.2.zero (by omega) (by omega) _ _, SY.out.2.zero (by omega) (by omega) _ _, HSA.out.2, HSB.out.2, HSA.out.1, HSB.out.1, HO9.out, bdrw HB9.out, HP8.out, HLX.out, Nat.le_refl _⟩ | exact ⟨A2, B2, _, SX.out.2, SY.out.2, HSA.out.2, HSB.out.2, HSA.out.1, HSB.out.1, HO9.out, HB9.out, HP8.out, HLX.out, Nat.le_refl _⟩ | exact ⟨A2, B2, _, SX.out.2.zero (by omega) (by omega) _ _, SY.out.2, HSA.out.2, HSB.out.2, HSA.out.1, HSB.out.1, HO9.out, HB9.out, HP8.out, HLX.out, Nat.le_refl _⟩ | exact ⟨A2, B2, _, SX.out.2, SY.out.2.zero (by omega) (by omega) _ _, HSA.out.2, HSB.out.2, HSA.out.1, HSB.out.1, HO9.out, HB9.out, HP8.out, HLX.out, Nat.le_refl _⟩ | exact ⟨A2, B2, _, SX.out.2.zero (by omega) (by omega) _ _, SY.out.2.zero (by omega) (by omega) _ _, HSA.out.2, HSB.out.2, HSA.out.1, HSB.out.1, HO9.out, HB9.out, HP8.out, HLX.out, Nat.le_refl _⟩
end Go.Proofs.YtkbefggjfggdgaaGreat
