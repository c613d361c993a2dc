/-
  The document's Parse.
-/
import Derived.Test.YtddaoloabfkheaaGreatDoorRtgt
namespace Go.Proofs.YtddaoloabfkheaaGreatDoor
open Go.RowKit

theorem set_below {B : Nat} {w w' : World} {G : Nat} (hb : Below B w w') (hG : B ≤ G) (o : Nat) (x : Value) : Below B w (w'.setCell ⟨G, o, none⟩ x) := hb.setCell (p := ⟨G, o, none⟩) hG _
set_option maxRecDepth 100000 in
set_option maxHeartbeats 16000000 in
theorem rpars_any {w : World} (p s : List UInt8) (hp : p.length ≤ 1000000000) (hs : s.length ≤ 1000000000) :
    Calls Tryz.prog 17 #[.string (bs p), .string (bs s)] w (LsP w (prsM p s)) := by
  have hz : (bs s).size = s.length := rfl
  have HV : Hid (∀ W : World, Calls Tryz.prog 39 #[.string (bs p)] W fun e w' => e = .returned (.bool (okP p)) ∧ Below W.heap.size W w') := fun W => rvalid_any p W hp
  obtain ⟨R, hR⟩ : ∃ R, prsM p s = R := ⟨_, rfl⟩
  rw [hR]
  unfold prsM at hR
  cases hok : okP p
  · rw [hok] at HV
    obtain rfl : ([], 0) = R := by rw [← hR, hok]; rfl
    clear hok hR
    go_enter Tryz.func17, Tryz.ntmps17
    go_wp2_with fail
    refine (HV.out _).mono ?_
    rintro e w1 ⟨rfl, hb⟩
    have HB : Hid (Below w.heap.size w w1) := hb
    clear hb
    go_wp2_with fail
    go_ret2
    exact ⟨_, rfl, GOwn.nil _ _, HB.out⟩
  rw [hok, if_pos rfl] at hR
  have HPk : Hid (okP p = true) := hok
  rw [hok] at HV
  clear hok
  by_cases hlen : s.length ≤ 4096
  rotate_left
  · rw [if_neg hlen] at hR
    subst hR
    have i1 : (4096 : Int) < (s.length : Int) := by omega
    go_enter Tryz.func17, Tryz.ntmps17
    go_wp2_with fail
    refine (HV.out _).mono ?_
    rintro e w1 ⟨rfl, hb⟩
    have HB : Hid (Below w.heap.size w w1) := hb
    clear hb
    go_wp2_with fail
    go_ret2
    exact ⟨_, rfl, GOwn.nil _ _, HB.out⟩
  rw [if_pos hlen] at hR
  have HTk : Hid (∀ W : World, Calls Tryz.prog 40 #[.string (bs s)] W fun e w' => ∃ v, e = .returned (.tuple #[v, .int .i64 (toks s).2]) ∧ OwnT 132 W.heap.size w' v (toks s).1 ∧ Below W.heap.size W w') := fun W => rtokens_any s W (by omega)
  have HT : Hid (∀ k ∈ (toks s).1, TkOk k) := toks_ok hlen
  have hnum := toks_num s
  have HR : Hid (go p (endE s) (toks s).2 (.top []) (toks s).1 = R) := hR
  have HE2 : Hid (endE s = if 0 ≤ (toks s).2 then (toks s).2 else (s.length : Int)) := rfl
  have HEE : Hid (0 ≤ endE s) := endE_nonneg s
  obtain ⟨EE, hEE⟩ : ∃ EE, endE s = EE := ⟨_, rfl⟩
  rw [hEE] at HR HE2 HEE
  obtain ⟨TT, hTT⟩ : ∃ TT, toks s = TT := ⟨_, rfl⟩
  rw [hTT] at HTk HT hnum HR HE2
  obtain ⟨L, S⟩ := TT
  simp only at HTk HT hnum HR HE2
  obtain ⟨m1, m2, m3⟩ := hnum
  have HFp : Hid (∀ j, 0 ≤ fp L j EE) := fun j => fp_nonneg HEE.out HT.out
  have i1 : ¬ (4096 : Int) < (s.length : Int) := by omega
  clear hR hEE hTT
  go_enter Tryz.func17, Tryz.ntmps17
  go_wp2_with fail
  refine (HV.out _).mono ?_
  rintro e w0 ⟨rfl, hb0⟩
  have B0 : Hid (Below w.heap.size w w0) := hb0
  have hs0 := hb0.size
  clear hb0
  go_wp2_with fail
  refine (HTk.out _).mono ?_
  rintro e w1 ⟨v0, rfl, hOT, hb1⟩
  have B1 : Hid (Below w.heap.size w w1) := bstep B0.out hb1
  have hs1 := hb1.size
  obtain ⟨av0, cv0, hv0⟩ := hOT.form
  have HO1 : Hid (OwnT 132 w0.heap.size w1 v0 L) := hOT
  obtain ⟨nL, hnL⟩ : ∃ nL, L.length = nL := ⟨_, rfl⟩
  have HLn : Hid (L.length = nL) := hnL
  rw [hnL] at hv0
  subst hv0
  clear hOT hb1 hnL
  obtain ⟨g, hgg⟩ : ∃ g, w1.heap.size = g := ⟨_, rfl⟩
  obtain ⟨w2, hw2⟩ : ∃ w2, w1.alloc (.cells #[.string (bs p), .slice av0 nL cv0, .int .i64 0, .int .i64 (-1), .int .i64 EE] 98) = w2 := ⟨_, rfl⟩
  have hbz : Below w1.heap.size w1 w2 := by rw [← hw2]; exact balloc _ _
  have X2 : Hid (RX w2 g p EE L 0 (-1)) := by
    refine ⟨av0, cv0, ?_, ?_, fun _ b hb => ?_⟩
    · rw [← hw2, ← hgg, HLn.out]; exact heap_alloc_new _ _
    · rw [HLn.out]; exact (HO1.out.later hbz).ts
    · rw [HLn.out] at hb; have := (HO1.out.lt hb).2; omega
  have HW2 : Hid (w1.alloc (.cells #[.string (bs p), .slice av0 nL cv0, .int .i64 0, .int .i64 (-1), .int .i64 EE] 98) = w2 ∧ w1.heap.size = g) := ⟨hw2, hgg⟩
  have hsz : g + 1 = w2.heap.size := by rw [← hw2, ← hgg]; simp
  have B2 : Hid (Below w.heap.size w w2) := bstep B1.out hbz
  have hgw : w.heap.size ≤ g := by omega
  have HB2 : Hid (∀ W, Only [g] w2 W → Below w.heap.size w W) := fun W hW => below_trans B2.out (hW.below (by omega) (by simp; omega))
  have hs2 : g + 1 ≤ w2.heap.size := by omega
  clear hw2 hbz hgg B0 B1 HO1
  by_cases hS : 0 ≤ S
  · have hEq : EE = S := by have := HE2.out; rw [if_pos hS] at this; exact this
    subst hEq
    have dS : decide (0 ≤ EE) = true := by simpa using hS
    go_wp2_with fail
    rw [HW2.out.1, HW2.out.2]
    go_loopw [9, 10] (fun v vn wr => (∃ (a : List Tv) (ts : List Tg) (j : Nat), OwnG (g + 1) wr v a ∧ TsOwn (g + 1) wr a ts ∧ Aps v a ∧ Own (g + 1) wr vn (ts.map Tg.name) ∧ (∀ u ∈ v :: a.flatMap Tv.vals, Ap vn u) ∧ RX wr g p EE L j (-1) ∧ j ≤ L.length ∧ Only [g] w2 wr ∧ go p EE EE (.top ts) (L.drop j) = R ∧ ts.length ≤ 64) ∨ (∃ z j, 0 ≤ z ∧ RX wr g p EE L j z ∧ R = ([], z) ∧ Only [g] w2 wr)) (fun v _ _ => 66 - slen v)
    case atStart => exact .inl ⟨[], [], 0, OwnG.nil _ _, trivial, Aps.nil, Own.nil _ _, fun u _ k hk => (by cases hk), X2.out, Nat.zero_le _, Only.refl _ _, HR.out, by simp⟩
    case round =>
      clear X2 HR
      rcases hrel with ⟨a, ts, j, hOG, hTs, hAp, hOn, hAn, hxr, hjl, hor, hRr, h64⟩ | ⟨z, j, hz, hxr, hRz, hor⟩
      rotate_left
      · obtain ⟨ax, cx, c1, c2, c3, c4, _, _, _, _, _⟩ := hxr.cells
        obtain ⟨wb, hwb⟩ : ∃ wb, wr = wb := ⟨_, rfl⟩
        subst hwb
        have FE : Hid (∀ n, RX (wr.drewN n) g p EE L j z ∧ R = ([], z) ∧ Below w.heap.size w (wr.drewN n)) := fun n => ⟨hxr.drew n, hRz, bstep (HB2.out _ hor) (bd _ n)⟩
        have q1 : decide (z < 0) = false := by simp; omega
        have q2 : ¬ z < 0 := by omega
        have q3 : decide (0 ≤ z) = true := by simp; omega
        clear hxr hRz hor
        go_wp2_with fail
        go_quiet (fail)
        go_wp2_with fail
        go_quiet (fail)
        go_wp2_with fail
        go_ret2
        rw [(FE.out 0).2.1]
        exact ⟨_, rfl, GOwn.nil _ _, bstep (FE.out _).2.2 (bd _ _)⟩
      have G4 : Hid (OwnG (g + 1) wr u9 a ∧ TsOwn (g + 1) wr a ts ∧ Aps u9 a) := ⟨hOG, hTs, hAp⟩
      have N4 : Hid (Own (g + 1) wr u10 (ts.map Tg.name) ∧ (∀ u ∈ u9 :: a.flatMap Tv.vals, Ap u10 u)) := ⟨hOn, hAn⟩
      have X4 : Hid (RX wr g p EE L j (-1) ∧ Only [g] w2 wr) := ⟨hxr, hor⟩
      have R4 : Hid (go p EE EE (.top ts) (L.drop j) = R) := hRr
      have hsr : w2.heap.size ≤ wr.heap.size := hor.size
      have BW : Hid (Below w.heap.size w wr) := HB2.out _ hor
      obtain ⟨au, cu, hu⟩ := hOG.form
      obtain ⟨na, hna⟩ : ∃ na, a.length = na := ⟨_, rfl⟩
      have HNA : Hid (a.length = na ∧ ts.length = na) := ⟨hna, by rw [← hTs.len, hna]⟩
      have hna64 : na ≤ 64 := by have := HNA.out.2; omega
      rw [hna] at hu
      subst hu
      obtain ⟨an, cn, hun⟩ := hOn.frm
      obtain ⟨nn, hnn⟩ : ∃ nn, (ts.map Tg.name).length = nn := ⟨_, rfl⟩
      have HNN : Hid ((ts.map Tg.name).length = nn) := hnn
      rw [hnn] at hun
      subst hun
      obtain ⟨ax, cx, c1, c2, c3, c4, _, _, _, _, _⟩ := hxr.cells
      rw [HLn.out] at c1
      have i0 : (j : Int) ≤ 5000 := by have := HLn.out; omega
      clear hOG hTs hAp hOn hAn hxr hor hRr hna hnn
      by_cases hj : j < L.length
      rotate_left
      · have hRE : Hid ((if 0 ≤ EE then ([], EE) else (ts, -1)) = R) := by
          show _ = R
          rw [← R4.out, List.drop_eq_nil_of_le (by omega)]; rfl
        have d1 : decide ((j : Int) < (nL : Int)) = false := by have := HLn.out; simp; omega
        have d2 : decide (j < nL) = false := by have := HLn.out; simp; omega
        have d3 : ¬ (j : Int) < (nL : Int) := by have := HLn.out; omega
        have hRS : Hid (R = ([], EE)) := by show R = _; rw [← hRE.out, if_pos (by omega)]
        have FE : Hid (∀ n m, Below w.heap.size w (((wr.drewN n).setCell ⟨g, 3, none⟩ (.int .i64 EE)).drewN m)) := fun n m => bstep (set_below (bstep BW.out (bd _ n)) (by omega) _ _) (bd _ m)
        have f3 := fun n => (X4.out.1.drew n).cells
        have s3 := fun n => ((X4.out.1.drew n).set.2.1 EE).cells
        obtain ⟨_, _, _, _, _, _, _, f33, _, _, _⟩ := X4.out.1.cells
        have q3 : decide (0 ≤ EE) = true := by simpa using hS
        have q4 : decide (EE < 0) = false := by simp; omega
        have q5 : ¬ EE < 0 := by omega
        clear f3 s3
        go_wp2_with fail
        go_quiet (fail)
        go_wp2_with fail
        go_quiet (fail)
        go_wp2_with fail
        go_ret2
        rw [hRS.out]
        exact ⟨_, rfl, GOwn.nil _ _, FE.out _ _⟩
      have d1 : decide ((j : Int) < (nL : Int)) = true := by have := HLn.out; simp; omega
      have d2 : decide (j < nL) = true := by have := HLn.out; simp; omega
      have d3 : (j : Int) < (nL : Int) := by have := HLn.out; omega
      obtain ⟨y, hy⟩ : ∃ y, wo L j = y := ⟨_, rfl⟩
      have HY : Hid (wo L j = y) := hy
      have HWo : Hid (∀ W, RX W g p EE L j (-1) → Calls Tryz.prog 41 #[.pointer (some ⟨g, 0, none⟩)] W fun e w' => e = .returned (.string (bs y)) ∧ ∃ n, w' = W.drewN n) := fun W hW => by rw [← hy]; exact rword_any hW
      have e1 := bs_toList y
      have e2 := c_target
      clear hy
      go_wp2_with fail
      go_quiet (fail)
      go_wp2_with fail
      refine (HWo.out _ (X4.out.1.drew _)).mono ?_
      rintro e w5' ⟨rfl, n5, rfl⟩
      obtain ⟨w5, hw5⟩ : ∃ w5, (wr.drewN nq).drewN n5 = w5 := ⟨_, rfl⟩
      rw [hw5]
      have hb5 : Below wr.heap.size wr w5 := by rw [← hw5]; exact bstep (bd _ _) (bd _ _)
      have hs5 : wr.heap.size ≤ w5.heap.size := hb5.size
      have X5 : Hid (RX w5 g p EE L j (-1) ∧ Only [g] w2 w5 ∧ Below w.heap.size w w5) := ⟨X4.out.1.later hb5, X4.out.2.trans (Only.of_below hb5 _), bstep BW.out hb5⟩
      have G5 : Hid (OwnG (g + 1) w5 (.slice au na cu) a ∧ TsOwn (g + 1) w5 a ts ∧ Own (g + 1) w5 (.slice an nn cn) (ts.map Tg.name)) := ⟨G4.out.1.later hb5, G4.out.2.1.later hb5, N4.out.1.later hb5⟩
      clear hw5 hb5 HWo c1 c2 c3 c4 d1 d2 d3
      have BAD : Hid ((y ≠ wTarget ∨ na = 64) → R = ([], fp L j EE)) := fun hb => by
        have hno : ¬ (L[j].kind = 1 ∧ L[j].text = wTarget ∧ ts.length < 64) := fun h => by
          have h1 := wo_text hj h.1
          rw [HY.out] at h1
          rcases hb with hb | hb
          · exact hb (h1.trans h.2.1)
          · have := HNA.out.2; omega
        have hst : stp p (.top ts) L[j] = none := by simp only [stp, if_neg hno]
        rw [← R4.out, List.drop_eq_getElem_cons hj]
        simp only [go, hst, fp, dif_pos hj]
      have FLT : Hid (R = ([], fp L j EE) → Calls Tryz.prog 42 #[.pointer (some ⟨g, 0, none⟩)] w5 fun e w' => e = .returned (.tuple #[]) ∧ ∃ z, 0 ≤ z ∧ RX w' g p EE L j z ∧ R = ([], z) ∧ Below w.heap.size w w') := fun hz => (rfault_any X5.out.1).mono fun e w' ⟨k1, k2, k3⟩ => ⟨k1, _, HFp.out j, k2, hz, below_trans (HB2.out _ (X5.out.2.1.trans k3)) (Below.refl _ _)⟩
      by_cases hyt : y = wTarget
      rotate_left
      · have q1 : (y == wTarget) = false := by simpa using hyt
        have RZ : Hid (R = ([], fp L j EE)) := BAD.out (.inl hyt)
        clear hyt
        go_wp2_with fail
        refine (FLT.out RZ.out).mono ?_
        rintro e WE ⟨rfl, zE, hzE, k1, k2, k3⟩
        have FE : Hid (RX WE g p EE L j zE ∧ R = ([], zE) ∧ Below w.heap.size w WE) := ⟨k1, k2, k3⟩
        clear k1 k2 k3
        obtain ⟨_, _, _, _, e3, _, _, e6, _, _, _⟩ := FE.out.1.cells
        have qE1 : decide (zE < 0) = false := by simp; omega
        have qE2 : ¬ zE < 0 := by omega
        have qE3 : decide (0 ≤ zE) = true := by simp; omega
        go_wp2_with fail
        go_quiet (fail)
        go_wp2_with fail
        go_ret2
        rw [FE.out.2.1]
        exact ⟨_, rfl, GOwn.nil _ _, bstep FE.out.2.2 (bd _ _)⟩
      have q1 : (y == wTarget) = true := by rw [hyt]; decide
      by_cases hn64 : na = 64
      · have RZ : Hid (R = ([], fp L j EE)) := BAD.out (.inr hn64)
        subst hn64
        clear hyt
        go_wp2_with fail
        refine (FLT.out RZ.out).mono ?_
        rintro e WE ⟨rfl, zE, hzE, k1, k2, k3⟩
        have FE : Hid (RX WE g p EE L j zE ∧ R = ([], zE) ∧ Below w.heap.size w WE) := ⟨k1, k2, k3⟩
        clear k1 k2 k3
        obtain ⟨_, _, _, _, e3, _, _, e6, _, _, _⟩ := FE.out.1.cells
        have qE1 : decide (zE < 0) = false := by simp; omega
        have qE2 : ¬ zE < 0 := by omega
        have qE3 : decide (0 ≤ zE) = true := by simp; omega
        go_wp2_with fail
        go_quiet (fail)
        go_wp2_with fail
        go_ret2
        rw [FE.out.2.1]
        exact ⟨_, rfl, GOwn.nil _ _, bstep FE.out.2.2 (bd _ _)⟩
      have i1 : ¬ (na : Int) = 64 := by omega
      have i2 : ((na : Int) == 64) = false := by simp; omega
      have hik : L[j].kind = 1 ∧ L[j].text = y := by
        have h1 := HY.out
        unfold wo at h1
        rw [dif_pos hj] at h1
        by_cases hk : L[j].kind = 1
        · rw [if_pos hk] at h1; exact ⟨hk, h1⟩
        · rw [if_neg hk, hyt] at h1; simp [wTarget] at h1
      have R1 : Hid (go p EE EE (.nm ts) (L.drop (j + 1)) = R) := by
        show go _ _ _ _ _ = R
        rw [← R4.out, go_st hj (st' := .nm ts) (by
          simp only [stp]
          rw [hik.2, if_pos ⟨hik.1, hyt, by have := HNA.out.2; omega⟩])]
      clear hik hyt BAD FLT HY
      obtain ⟨_, _, _, c2, c3, c4, f2, _, _, _, _⟩ := X5.out.1.cells
      obtain ⟨w6, hw6⟩ : ∃ w6, w5.setCell ⟨g, 2, none⟩ (.int .i64 ((j : Int) + 1)) = w6 := ⟨_, rfl⟩
      have ho6 : Only [g] w5 w6 := by rw [← hw6]; exact Only.set _ _ _ _
      have X6 : Hid (RX w6 g p EE L (j + 1) (-1) ∧ Only [g] w2 w6) := ⟨by rw [← hw6]; exact rset_i X5.out.1, X5.out.2.1.trans ho6⟩
      have hgm : ∀ (v : Value), (∀ k, v.ownBlock = some k → g + 1 ≤ k) → ∀ k, v.ownBlock = some k → k ∉ [g] := fun v hv k hk hm => by have := hv k hk; simp only [List.mem_singleton] at hm; omega
      have G6 : Hid (OwnG (g + 1) w6 (.slice au na cu) a ∧ TsOwn (g + 1) w6 a ts ∧ Own (g + 1) w6 (.slice an nn cn) (ts.map Tg.name)) := ⟨G5.out.1.only ho6 (hgm _ fun k hk => (G5.out.1.lt hk).1), G5.out.2.1.only ho6 fun t ht u hu => hgm u fun k hk => (G5.out.2.1.lt t ht u hu k hk).1, G5.out.2.2.only ho6 (hgm _ fun k hk => (G5.out.2.2.lt hk).1)⟩
      have hs6 : wr.heap.size ≤ w6.heap.size := Nat.le_trans hs5 ho6.size
      have HW6 : Hid (w5.setCell ⟨g, 2, none⟩ (.int .i64 ((j : Int) + 1)) = w6) := hw6
      have HCt : Hid (Calls Tryz.prog 43 #[.pointer (some ⟨g, 0, none⟩), .slice an nn cn] w6 (LsRT w6 g p EE EE L (j + 1) ts R)) :=
        rtarget_any X6.out.1 (own_ss G6.out.2.2) h64 (fun k hk => by have := (G6.out.2.2.lt hk).1; omega) HT.out (by have := HLn.out; omega) HEE.out HPk.out (by omega) R1.out
      clear hw6 ho6 G5 X5 R1
      go_wp2_with fail
      rw [HW6.out]
      refine HCt.out.mono ?_
      rintro e w7 ⟨tv, rfl, ho7, hres⟩
      have hs7 : w6.heap.size ≤ w7.heap.size := ho7.size
      have G7 : Hid (OwnG (g + 1) w7 (.slice au na cu) a ∧ TsOwn (g + 1) w7 a ts ∧ Own (g + 1) w7 (.slice an nn cn) (ts.map Tg.name)) := ⟨G6.out.1.only ho7 (hgm _ fun k hk => (G6.out.1.lt hk).1), G6.out.2.1.only ho7 fun t ht u hu => hgm u fun k hk => (G6.out.2.1.lt t ht u hu k hk).1, G6.out.2.2.only ho7 (hgm _ fun k hk => (G6.out.2.2.lt hk).1)⟩
      have X7 : Hid (Only [g] w2 w7 ∧ ((∃ t j', TOwn w6.heap.size w7 tv t ∧ RX w7 g p EE L j' (-1) ∧ j' ≤ L.length ∧ go p EE EE (.top (ts ++ [t])) (L.drop j') = R ∧ tv.name = t.name) ∨ (∃ z j', 0 ≤ z ∧ RX w7 g p EE L j' z ∧ R = ([], z)))) := ⟨X6.out.2.trans ho7, by
        rcases hres with ⟨t, j', k1, k2, k3, k4, k5⟩ | ⟨z, j', k1, k2, k3⟩
        · exact .inl ⟨t, j', k1, k2, k4, k5, k1.name⟩
        · exact .inr ⟨z, j', k1, k2, k3⟩⟩
      unfold Tv.val
      obtain ⟨wa, hwa⟩ : ∃ wa, w7.alloc (.cells #[.string (bs tv.name), .slice tv.sa tv.sn tv.sc, .slice tv.da tv.dn tv.dc, .slice tv.ea tv.en tv.ec] 66) = wa := ⟨_, rfl⟩
      have hba : Below w7.heap.size w7 wa := by rw [← hwa]; exact balloc _ _
      have hszA : wa.heap.size = w7.heap.size + 1 := by rw [← hwa]; simp
      have TBa : Hid (TB wa w7.heap.size tv) := by show TB wa w7.heap.size tv; rw [← hwa]; exact TB.new w7 tv
      have Ga : Hid (OwnG (g + 1) wa (.slice au na cu) a ∧ TsOwn (g + 1) wa a ts ∧ Own (g + 1) wa (.slice an nn cn) (ts.map Tg.name)) := ⟨G7.out.1.later hba, G7.out.2.1.later hba, G7.out.2.2.later hba⟩
      have Xa : Hid (Only [g] w2 wa ∧ ((∃ t j', TOwn w6.heap.size wa tv t ∧ RX wa g p EE L j' (-1) ∧ j' ≤ L.length ∧ go p EE EE (.top (ts ++ [t])) (L.drop j') = R ∧ tv.name = t.name) ∨ (∃ z j', 0 ≤ z ∧ RX wa g p EE L j' z ∧ R = ([], z)))) := ⟨X7.out.1.trans (Only.of_below hba _), by
        rcases X7.out.2 with ⟨t, j', k1, k2, k4, k5, k6⟩ | ⟨z, j', k1, k2, k3⟩
        · exact .inl ⟨t, j', k1.only (Only.of_below hba []) (by simp), k2.later hba, k4, k5, k6⟩
        · exact .inr ⟨z, j', k1, k2.later hba, k3⟩⟩
      have HWa : Hid (w7.alloc (.cells #[.string (bs tv.name), .slice tv.sa tv.sn tv.sc, .slice tv.da tv.dn tv.dc, .slice tv.ea tv.en tv.ec] 66) = wa) := hwa
      have hszB : (w7.alloc (.cells #[.string (bs tv.name), .slice tv.sa tv.sn tv.sc, .slice tv.da tv.dn tv.dc, .slice tv.ea tv.en tv.ec] 66)).heap.size = w7.heap.size + 1 := by simp
      have G7a : Hid (OwnG (g + 1) (w7.alloc (.cells #[.string (bs tv.name), .slice tv.sa tv.sn tv.sc, .slice tv.da tv.dn tv.dc, .slice tv.ea tv.en tv.ec] 66)) (.slice au na cu) a) := by rw [hwa]; exact Ga.out.1
      have hgsz : g + 1 ≤ (w7.alloc (.cells #[.string (bs tv.name), .slice tv.sa tv.sn tv.sc, .slice tv.da tv.dn tv.dc, .slice tv.ea tv.en tv.ec] 66)).heap.size := by rw [hszB]; omega
      clear hres ho7 hwa hba hgm HCt
      go_wp2_with (first
        | (at_builtin; refine app_G tv G7a.out (by have := HNA.out; omega) hgsz rfl (.tmp 72) (.tmp 74) rfl rfl (by rw [hszB]; rfl) ?_; intro v9 w9 hO9 hB9 hN9 hs9 hw9; rw [HWa.out] at hB9 hN9 hw9; have O9 : Hid (OwnG (g + 1) w9 v9 (a ++ [tv])) := hO9; have K9 : Hid (Below (g + 1) wa w9 ∧ Only (Value.slice au na cu).ownBlock.toList wa w9 ∧ (v9.ownBlock = (Value.slice au na cu).ownBlock ∨ ∃ k, v9.ownBlock = some k ∧ wa.heap.size ≤ k)) := ⟨hB9, hN9, hw9⟩; have n0 := (TBa.out.only hN9 (by intro hm; rw [Option.mem_toList] at hm; have := (Ga.out.1.lt hm).2; have h2 := (G7.out.1.lt hm).2; omega)).cells.1; have Nn9 : Hid (Own (g + 1) w9 (.slice an nn cn) (ts.map Tg.name)) := Ga.out.2.2.only hN9 (fun k hk hm => by rw [Option.mem_toList] at hm; exact N4.out.2 _ (List.mem_cons_self ..) k hk hm); clear hO9 hB9 hN9 hw9)
        | (at_builtin; refine app_S tv.name Nn9.out (by have := HNN.out; have := HNA.out.2; simp at *; omega) hs9 rfl (.tmp 76) (.tmp 79) rfl rfl rfl ?_; intro v10 w10 hO10 hB10 hN10 hs10 hw10; have O10 : Hid (Own (g + 1) w10 v10 (ts.map Tg.name ++ [tv.name]) ∧ Below (g + 1) w9 w10 ∧ Only (Value.slice an nn cn).ownBlock.toList w9 w10 ∧ (v10.ownBlock = (Value.slice an nn cn).ownBlock ∨ ∃ k, v10.ownBlock = some k ∧ w9.heap.size ≤ k)) := ⟨hO10, hB10, hN10, hw10⟩; clear hO10 hB10 hN10 hw10))
      obtain ⟨a9, c9, hv9⟩ := O9.out.form
      have HL9 : Hid ((a ++ [tv]).length = na + 1) := by show (a ++ [tv]).length = na + 1; rw [List.length_append, HNA.out.1]; rfl
      rw [HL9.out] at hv9
      subst hv9
      have Only9 : Hid (Only [g] w2 w10) := only_below (only_below Xa.out.1 K9.out.1 (by omega)) O10.out.2.1 (by omega)
      have hs9a : wa.heap.size ≤ w9.heap.size := K9.out.1.size
      have FINR : Hid ((∃ (a' : List Tv) (ts' : List Tg) (j' : Nat), OwnG (g + 1) w10 (.slice a9 (na + 1) c9) a' ∧ TsOwn (g + 1) w10 a' ts' ∧ Aps (.slice a9 (na + 1) c9) a' ∧ Own (g + 1) w10 v10 (ts'.map Tg.name) ∧ (∀ u ∈ (.slice a9 (na + 1) c9) :: a'.flatMap Tv.vals, Ap v10 u) ∧ RX w10 g p EE L j' (-1) ∧ j' ≤ L.length ∧ Only [g] w2 w10 ∧ go p EE EE (.top ts') (L.drop j') = R ∧ ts'.length ≤ 64) ∨ (∃ z j, 0 ≤ z ∧ RX w10 g p EE L j z ∧ R = ([], z) ∧ Only [g] w2 w10)) := by
        rcases Xa.out.2 with ⟨t, j', k1, k2, k4, k5, k6⟩ | ⟨z, j', k1, k2, k3⟩
        · have hap : ∀ u ∈ a.flatMap Tv.vals, Ap (.slice au na cu) u := (List.pairwise_cons.1 G4.out.2.2).1
          have A9 : Aps (.slice a9 (na + 1) c9) (a ++ [tv]) := G4.out.2.2.snoc (n := wr.heap.size) (m := wa.heap.size) (fun x hx u hu k hk => (G4.out.2.1.lt x hx u hu k hk).2) (fun k hk => (G4.out.1.lt hk).2) (fun u hu k hk => ⟨by have := (k1.lt u hu k hk).1; omega, (k1.lt u hu k hk).2⟩) k1.pair K9.out.2.2 (by omega)
          have T9 : TsOwn (g + 1) w9 (a ++ [tv]) (ts ++ [t]) := by
            refine TsOwn.snoc ((k1.mono (by omega)).only K9.out.2.1 fun u hu k hk hm => ?_) (Ga.out.2.1.only K9.out.2.1 fun x hx u hu k hk hm => ?_)
            · rw [Option.mem_toList] at hm
              have h1 := (k1.lt u hu k hk).1
              have h2 := (G4.out.1.lt hm).2
              omega
            · rw [Option.mem_toList] at hm
              exact hap u (List.mem_flatMap.2 ⟨x, hx, hu⟩) k hm hk
          have apn : ∀ u ∈ (.slice a9 (na + 1) c9) :: (a ++ [tv]).flatMap Tv.vals, Ap (.slice an nn cn) u := fun u hu k hk he => by
            have hkb := (N4.out.1.lt hk).2
            rcases List.mem_cons.1 hu with rfl | hu
            · rcases K9.out.2.2 with h1 | ⟨k', h1, h2⟩
              · rw [h1] at he; exact N4.out.2 _ (List.mem_cons_self ..) k hk he
              · rw [h1] at he; injection he with he; omega
            · rw [List.flatMap_append, List.mem_append] at hu
              rcases hu with hu | hu
              · exact N4.out.2 u (List.mem_cons_of_mem _ hu) k hk he
              · simp only [List.flatMap_cons, List.flatMap_nil, List.append_nil] at hu
                have := (k1.lt u hu k he).1; omega
          have hall : ∀ u ∈ (.slice a9 (na + 1) c9) :: (a ++ [tv]).flatMap Tv.vals, ∀ k, u.ownBlock = some k → k < w9.heap.size := fun u hu k hk => by
            rcases List.mem_cons.1 hu with rfl | hu
            · exact (O9.out.lt hk).2
            · obtain ⟨x, hx, hux⟩ := mem_vals hu
              exact (T9.lt x hx u hux k hk).2
          refine .inl ⟨a ++ [tv], ts ++ [t], j', O9.out.only O10.out.2.2.1 fun k hk hm => ?_, T9.only O10.out.2.2.1 fun x hx u hu k hk hm => ?_, A9, ?_, fun u hu k hk he => ?_, (k2.below K9.out.1 (by omega)).below O10.out.2.1 (by omega), k4, Only9.out, k5, ?_⟩
          · rw [Option.mem_toList] at hm
            exact apn _ (List.mem_cons_self ..) k hm hk
          · rw [Option.mem_toList] at hm
            exact apn u (List.mem_cons_of_mem _ (List.mem_flatMap.2 ⟨x, hx, hu⟩)) k hm hk
          · have := O10.out.1
            rw [List.map_append]; rw [k6] at this; exact this
          · rcases O10.out.2.2.2 with h1 | ⟨k', h1, h2⟩
            · rw [h1] at hk; exact apn u hu k hk he
            · rw [h1] at hk; injection hk with hk
              have := hall u hu k he; omega
          · rw [List.length_append]; have := HNA.out.2; simp; omega
        · exact .inr ⟨z, j', k1, (k2.below K9.out.1 (by omega)).below O10.out.2.1 (by omega), k3, Only9.out⟩
      clear O9 K9 O10 Xa Ga G7 G6 X6 X7 TBa
      go_wp2_with fail
      go_roundw
      case rel => exact FINR.out
      case measure => (simp [slen]; omega)
  · have hEq : EE = (s.length : Int) := by have := HE2.out; rw [if_neg hS] at this; exact this
    subst hEq
    have dS : decide (0 ≤ S) = false := by simpa using hS
    go_wp2_with fail
    rw [HW2.out.1, HW2.out.2]
    go_loopw [9, 10] (fun v vn wr => (∃ (a : List Tv) (ts : List Tg) (j : Nat), OwnG (g + 1) wr v a ∧ TsOwn (g + 1) wr a ts ∧ Aps v a ∧ Own (g + 1) wr vn (ts.map Tg.name) ∧ (∀ u ∈ v :: a.flatMap Tv.vals, Ap vn u) ∧ RX wr g p (s.length : Int) L j (-1) ∧ j ≤ L.length ∧ Only [g] w2 wr ∧ go p (s.length : Int) S (.top ts) (L.drop j) = R ∧ ts.length ≤ 64) ∨ (∃ z j, 0 ≤ z ∧ RX wr g p (s.length : Int) L j z ∧ R = ([], z) ∧ Only [g] w2 wr)) (fun v _ _ => 66 - slen v)
    case atStart => exact .inl ⟨[], [], 0, OwnG.nil _ _, trivial, Aps.nil, Own.nil _ _, fun u _ k hk => (by cases hk), X2.out, Nat.zero_le _, Only.refl _ _, HR.out, by simp⟩
    case round =>
      clear X2 HR
      rcases hrel with ⟨a, ts, j, hOG, hTs, hAp, hOn, hAn, hxr, hjl, hor, hRr, h64⟩ | ⟨z, j, hz, hxr, hRz, hor⟩
      rotate_left
      · obtain ⟨ax, cx, c1, c2, c3, c4, _, _, _, _, _⟩ := hxr.cells
        obtain ⟨wb, hwb⟩ : ∃ wb, wr = wb := ⟨_, rfl⟩
        subst hwb
        have FE : Hid (∀ n, RX (wr.drewN n) g p (s.length : Int) L j z ∧ R = ([], z) ∧ Below w.heap.size w (wr.drewN n)) := fun n => ⟨hxr.drew n, hRz, bstep (HB2.out _ hor) (bd _ n)⟩
        have q1 : decide (z < 0) = false := by simp; omega
        have q2 : ¬ z < 0 := by omega
        have q3 : decide (0 ≤ z) = true := by simp; omega
        clear hxr hRz hor
        go_wp2_with fail
        go_quiet (fail)
        go_wp2_with fail
        go_quiet (fail)
        go_wp2_with fail
        go_ret2
        rw [(FE.out 0).2.1]
        exact ⟨_, rfl, GOwn.nil _ _, bstep (FE.out _).2.2 (bd _ _)⟩
      have G4 : Hid (OwnG (g + 1) wr u9 a ∧ TsOwn (g + 1) wr a ts ∧ Aps u9 a) := ⟨hOG, hTs, hAp⟩
      have N4 : Hid (Own (g + 1) wr u10 (ts.map Tg.name) ∧ (∀ u ∈ u9 :: a.flatMap Tv.vals, Ap u10 u)) := ⟨hOn, hAn⟩
      have X4 : Hid (RX wr g p (s.length : Int) L j (-1) ∧ Only [g] w2 wr) := ⟨hxr, hor⟩
      have R4 : Hid (go p (s.length : Int) S (.top ts) (L.drop j) = R) := hRr
      have hsr : w2.heap.size ≤ wr.heap.size := hor.size
      have BW : Hid (Below w.heap.size w wr) := HB2.out _ hor
      obtain ⟨au, cu, hu⟩ := hOG.form
      obtain ⟨na, hna⟩ : ∃ na, a.length = na := ⟨_, rfl⟩
      have HNA : Hid (a.length = na ∧ ts.length = na) := ⟨hna, by rw [← hTs.len, hna]⟩
      have hna64 : na ≤ 64 := by have := HNA.out.2; omega
      rw [hna] at hu
      subst hu
      obtain ⟨an, cn, hun⟩ := hOn.frm
      obtain ⟨nn, hnn⟩ : ∃ nn, (ts.map Tg.name).length = nn := ⟨_, rfl⟩
      have HNN : Hid ((ts.map Tg.name).length = nn) := hnn
      rw [hnn] at hun
      subst hun
      obtain ⟨ax, cx, c1, c2, c3, c4, _, _, _, _, _⟩ := hxr.cells
      rw [HLn.out] at c1
      have i0 : (j : Int) ≤ 5000 := by have := HLn.out; omega
      clear hOG hTs hAp hOn hAn hxr hor hRr hna hnn
      by_cases hj : j < L.length
      rotate_left
      · have hRE : Hid ((if 0 ≤ S then ([], S) else (ts, -1)) = R) := by
          show _ = R
          rw [← R4.out, List.drop_eq_nil_of_le (by omega)]; rfl
        have d1 : decide ((j : Int) < (nL : Int)) = false := by have := HLn.out; simp; omega
        have d2 : decide (j < nL) = false := by have := HLn.out; simp; omega
        have d3 : ¬ (j : Int) < (nL : Int) := by have := HLn.out; omega
        have hRS : Hid (R = (ts, -1)) := by show R = _; rw [← hRE.out, if_neg (by omega)]
        have q3 : decide (0 ≤ S) = false := by simpa using hS
        have FE : Hid (∀ n, GOwn w.heap.size (wr.drewN n) (.slice au na cu) ts ∧ Below w.heap.size w (wr.drewN n)) := fun n => ⟨⟨a, (G4.out.1.later (bd _ n)).mono (by omega), (G4.out.2.1.later (bd _ n)).mono (by omega), G4.out.2.2⟩, bstep BW.out (bd _ n)⟩
        go_wp2_with fail
        go_quiet (fail)
        go_wp2_with fail
        go_ret2
        rw [hRS.out]
        exact ⟨_, rfl, (FE.out _).1, (FE.out _).2⟩
      have d1 : decide ((j : Int) < (nL : Int)) = true := by have := HLn.out; simp; omega
      have d2 : decide (j < nL) = true := by have := HLn.out; simp; omega
      have d3 : (j : Int) < (nL : Int) := by have := HLn.out; omega
      obtain ⟨y, hy⟩ : ∃ y, wo L j = y := ⟨_, rfl⟩
      have HY : Hid (wo L j = y) := hy
      have HWo : Hid (∀ W, RX W g p (s.length : Int) L j (-1) → Calls Tryz.prog 41 #[.pointer (some ⟨g, 0, none⟩)] W fun e w' => e = .returned (.string (bs y)) ∧ ∃ n, w' = W.drewN n) := fun W hW => by rw [← hy]; exact rword_any hW
      have e1 := bs_toList y
      have e2 := c_target
      clear hy
      go_wp2_with fail
      go_quiet (fail)
      go_wp2_with fail
      refine (HWo.out _ (X4.out.1.drew _)).mono ?_
      rintro e w5' ⟨rfl, n5, rfl⟩
      obtain ⟨w5, hw5⟩ : ∃ w5, (wr.drewN nq).drewN n5 = w5 := ⟨_, rfl⟩
      rw [hw5]
      have hb5 : Below wr.heap.size wr w5 := by rw [← hw5]; exact bstep (bd _ _) (bd _ _)
      have hs5 : wr.heap.size ≤ w5.heap.size := hb5.size
      have X5 : Hid (RX w5 g p (s.length : Int) L j (-1) ∧ Only [g] w2 w5 ∧ Below w.heap.size w w5) := ⟨X4.out.1.later hb5, X4.out.2.trans (Only.of_below hb5 _), bstep BW.out hb5⟩
      have G5 : Hid (OwnG (g + 1) w5 (.slice au na cu) a ∧ TsOwn (g + 1) w5 a ts ∧ Own (g + 1) w5 (.slice an nn cn) (ts.map Tg.name)) := ⟨G4.out.1.later hb5, G4.out.2.1.later hb5, N4.out.1.later hb5⟩
      clear hw5 hb5 HWo c1 c2 c3 c4 d1 d2 d3
      have BAD : Hid ((y ≠ wTarget ∨ na = 64) → R = ([], fp L j (s.length : Int))) := fun hb => by
        have hno : ¬ (L[j].kind = 1 ∧ L[j].text = wTarget ∧ ts.length < 64) := fun h => by
          have h1 := wo_text hj h.1
          rw [HY.out] at h1
          rcases hb with hb | hb
          · exact hb (h1.trans h.2.1)
          · have := HNA.out.2; omega
        have hst : stp p (.top ts) L[j] = none := by simp only [stp, if_neg hno]
        rw [← R4.out, List.drop_eq_getElem_cons hj]
        simp only [go, hst, fp, dif_pos hj]
      have FLT : Hid (R = ([], fp L j (s.length : Int)) → Calls Tryz.prog 42 #[.pointer (some ⟨g, 0, none⟩)] w5 fun e w' => e = .returned (.tuple #[]) ∧ ∃ z, 0 ≤ z ∧ RX w' g p (s.length : Int) L j z ∧ R = ([], z) ∧ Below w.heap.size w w') := fun hz => (rfault_any X5.out.1).mono fun e w' ⟨k1, k2, k3⟩ => ⟨k1, _, HFp.out j, k2, hz, below_trans (HB2.out _ (X5.out.2.1.trans k3)) (Below.refl _ _)⟩
      by_cases hyt : y = wTarget
      rotate_left
      · have q1 : (y == wTarget) = false := by simpa using hyt
        have RZ : Hid (R = ([], fp L j (s.length : Int))) := BAD.out (.inl hyt)
        clear hyt
        go_wp2_with fail
        refine (FLT.out RZ.out).mono ?_
        rintro e WE ⟨rfl, zE, hzE, k1, k2, k3⟩
        have FE : Hid (RX WE g p (s.length : Int) L j zE ∧ R = ([], zE) ∧ Below w.heap.size w WE) := ⟨k1, k2, k3⟩
        clear k1 k2 k3
        obtain ⟨_, _, _, _, e3, _, _, e6, _, _, _⟩ := FE.out.1.cells
        have qE1 : decide (zE < 0) = false := by simp; omega
        have qE2 : ¬ zE < 0 := by omega
        have qE3 : decide (0 ≤ zE) = true := by simp; omega
        go_wp2_with fail
        go_quiet (fail)
        go_wp2_with fail
        go_ret2
        rw [FE.out.2.1]
        exact ⟨_, rfl, GOwn.nil _ _, bstep FE.out.2.2 (bd _ _)⟩
      have q1 : (y == wTarget) = true := by rw [hyt]; decide
      by_cases hn64 : na = 64
      · have RZ : Hid (R = ([], fp L j (s.length : Int))) := BAD.out (.inr hn64)
        subst hn64
        clear hyt
        go_wp2_with fail
        refine (FLT.out RZ.out).mono ?_
        rintro e WE ⟨rfl, zE, hzE, k1, k2, k3⟩
        have FE : Hid (RX WE g p (s.length : Int) L j zE ∧ R = ([], zE) ∧ Below w.heap.size w WE) := ⟨k1, k2, k3⟩
        clear k1 k2 k3
        obtain ⟨_, _, _, _, e3, _, _, e6, _, _, _⟩ := FE.out.1.cells
        have qE1 : decide (zE < 0) = false := by simp; omega
        have qE2 : ¬ zE < 0 := by omega
        have qE3 : decide (0 ≤ zE) = true := by simp; omega
        go_wp2_with fail
        go_quiet (fail)
        go_wp2_with fail
        go_ret2
        rw [FE.out.2.1]
        exact ⟨_, rfl, GOwn.nil _ _, bstep FE.out.2.2 (bd _ _)⟩
      have i1 : ¬ (na : Int) = 64 := by omega
      have i2 : ((na : Int) == 64) = false := by simp; omega
      have hik : L[j].kind = 1 ∧ L[j].text = y := by
        have h1 := HY.out
        unfold wo at h1
        rw [dif_pos hj] at h1
        by_cases hk : L[j].kind = 1
        · rw [if_pos hk] at h1; exact ⟨hk, h1⟩
        · rw [if_neg hk, hyt] at h1; simp [wTarget] at h1
      have R1 : Hid (go p (s.length : Int) S (.nm ts) (L.drop (j + 1)) = R) := by
        show go _ _ _ _ _ = R
        rw [← R4.out, go_st hj (st' := .nm ts) (by
          simp only [stp]
          rw [hik.2, if_pos ⟨hik.1, hyt, by have := HNA.out.2; omega⟩])]
      clear hik hyt BAD FLT HY
      obtain ⟨_, _, _, c2, c3, c4, f2, _, _, _, _⟩ := X5.out.1.cells
      obtain ⟨w6, hw6⟩ : ∃ w6, w5.setCell ⟨g, 2, none⟩ (.int .i64 ((j : Int) + 1)) = w6 := ⟨_, rfl⟩
      have ho6 : Only [g] w5 w6 := by rw [← hw6]; exact Only.set _ _ _ _
      have X6 : Hid (RX w6 g p (s.length : Int) L (j + 1) (-1) ∧ Only [g] w2 w6) := ⟨by rw [← hw6]; exact rset_i X5.out.1, X5.out.2.1.trans ho6⟩
      have hgm : ∀ (v : Value), (∀ k, v.ownBlock = some k → g + 1 ≤ k) → ∀ k, v.ownBlock = some k → k ∉ [g] := fun v hv k hk hm => by have := hv k hk; simp only [List.mem_singleton] at hm; omega
      have G6 : Hid (OwnG (g + 1) w6 (.slice au na cu) a ∧ TsOwn (g + 1) w6 a ts ∧ Own (g + 1) w6 (.slice an nn cn) (ts.map Tg.name)) := ⟨G5.out.1.only ho6 (hgm _ fun k hk => (G5.out.1.lt hk).1), G5.out.2.1.only ho6 fun t ht u hu => hgm u fun k hk => (G5.out.2.1.lt t ht u hu k hk).1, G5.out.2.2.only ho6 (hgm _ fun k hk => (G5.out.2.2.lt hk).1)⟩
      have hs6 : wr.heap.size ≤ w6.heap.size := Nat.le_trans hs5 ho6.size
      have HW6 : Hid (w5.setCell ⟨g, 2, none⟩ (.int .i64 ((j : Int) + 1)) = w6) := hw6
      have HCt : Hid (Calls Tryz.prog 43 #[.pointer (some ⟨g, 0, none⟩), .slice an nn cn] w6 (LsRT w6 g p (s.length : Int) S L (j + 1) ts R)) :=
        rtarget_any X6.out.1 (own_ss G6.out.2.2) h64 (fun k hk => by have := (G6.out.2.2.lt hk).1; omega) HT.out (by have := HLn.out; omega) HEE.out HPk.out (by omega) R1.out
      clear hw6 ho6 G5 X5 R1
      go_wp2_with fail
      rw [HW6.out]
      refine HCt.out.mono ?_
      rintro e w7 ⟨tv, rfl, ho7, hres⟩
      have hs7 : w6.heap.size ≤ w7.heap.size := ho7.size
      have G7 : Hid (OwnG (g + 1) w7 (.slice au na cu) a ∧ TsOwn (g + 1) w7 a ts ∧ Own (g + 1) w7 (.slice an nn cn) (ts.map Tg.name)) := ⟨G6.out.1.only ho7 (hgm _ fun k hk => (G6.out.1.lt hk).1), G6.out.2.1.only ho7 fun t ht u hu => hgm u fun k hk => (G6.out.2.1.lt t ht u hu k hk).1, G6.out.2.2.only ho7 (hgm _ fun k hk => (G6.out.2.2.lt hk).1)⟩
      have X7 : Hid (Only [g] w2 w7 ∧ ((∃ t j', TOwn w6.heap.size w7 tv t ∧ RX w7 g p (s.length : Int) L j' (-1) ∧ j' ≤ L.length ∧ go p (s.length : Int) S (.top (ts ++ [t])) (L.drop j') = R ∧ tv.name = t.name) ∨ (∃ z j', 0 ≤ z ∧ RX w7 g p (s.length : Int) L j' z ∧ R = ([], z)))) := ⟨X6.out.2.trans ho7, by
        rcases hres with ⟨t, j', k1, k2, k3, k4, k5⟩ | ⟨z, j', k1, k2, k3⟩
        · exact .inl ⟨t, j', k1, k2, k4, k5, k1.name⟩
        · exact .inr ⟨z, j', k1, k2, k3⟩⟩
      unfold Tv.val
      obtain ⟨wa, hwa⟩ : ∃ wa, w7.alloc (.cells #[.string (bs tv.name), .slice tv.sa tv.sn tv.sc, .slice tv.da tv.dn tv.dc, .slice tv.ea tv.en tv.ec] 66) = wa := ⟨_, rfl⟩
      have hba : Below w7.heap.size w7 wa := by rw [← hwa]; exact balloc _ _
      have hszA : wa.heap.size = w7.heap.size + 1 := by rw [← hwa]; simp
      have TBa : Hid (TB wa w7.heap.size tv) := by show TB wa w7.heap.size tv; rw [← hwa]; exact TB.new w7 tv
      have Ga : Hid (OwnG (g + 1) wa (.slice au na cu) a ∧ TsOwn (g + 1) wa a ts ∧ Own (g + 1) wa (.slice an nn cn) (ts.map Tg.name)) := ⟨G7.out.1.later hba, G7.out.2.1.later hba, G7.out.2.2.later hba⟩
      have Xa : Hid (Only [g] w2 wa ∧ ((∃ t j', TOwn w6.heap.size wa tv t ∧ RX wa g p (s.length : Int) L j' (-1) ∧ j' ≤ L.length ∧ go p (s.length : Int) S (.top (ts ++ [t])) (L.drop j') = R ∧ tv.name = t.name) ∨ (∃ z j', 0 ≤ z ∧ RX wa g p (s.length : Int) L j' z ∧ R = ([], z)))) := ⟨X7.out.1.trans (Only.of_below hba _), by
        rcases X7.out.2 with ⟨t, j', k1, k2, k4, k5, k6⟩ | ⟨z, j', k1, k2, k3⟩
        · exact .inl ⟨t, j', k1.only (Only.of_below hba []) (by simp), k2.later hba, k4, k5, k6⟩
        · exact .inr ⟨z, j', k1, k2.later hba, k3⟩⟩
      have HWa : Hid (w7.alloc (.cells #[.string (bs tv.name), .slice tv.sa tv.sn tv.sc, .slice tv.da tv.dn tv.dc, .slice tv.ea tv.en tv.ec] 66) = wa) := hwa
      have hszB : (w7.alloc (.cells #[.string (bs tv.name), .slice tv.sa tv.sn tv.sc, .slice tv.da tv.dn tv.dc, .slice tv.ea tv.en tv.ec] 66)).heap.size = w7.heap.size + 1 := by simp
      have G7a : Hid (OwnG (g + 1) (w7.alloc (.cells #[.string (bs tv.name), .slice tv.sa tv.sn tv.sc, .slice tv.da tv.dn tv.dc, .slice tv.ea tv.en tv.ec] 66)) (.slice au na cu) a) := by rw [hwa]; exact Ga.out.1
      have hgsz : g + 1 ≤ (w7.alloc (.cells #[.string (bs tv.name), .slice tv.sa tv.sn tv.sc, .slice tv.da tv.dn tv.dc, .slice tv.ea tv.en tv.ec] 66)).heap.size := by rw [hszB]; omega
      clear hres ho7 hwa hba hgm HCt
      go_wp2_with (first
        | (at_builtin; refine app_G tv G7a.out (by have := HNA.out; omega) hgsz rfl (.tmp 72) (.tmp 74) rfl rfl (by rw [hszB]; rfl) ?_; intro v9 w9 hO9 hB9 hN9 hs9 hw9; rw [HWa.out] at hB9 hN9 hw9; have O9 : Hid (OwnG (g + 1) w9 v9 (a ++ [tv])) := hO9; have K9 : Hid (Below (g + 1) wa w9 ∧ Only (Value.slice au na cu).ownBlock.toList wa w9 ∧ (v9.ownBlock = (Value.slice au na cu).ownBlock ∨ ∃ k, v9.ownBlock = some k ∧ wa.heap.size ≤ k)) := ⟨hB9, hN9, hw9⟩; have n0 := (TBa.out.only hN9 (by intro hm; rw [Option.mem_toList] at hm; have := (Ga.out.1.lt hm).2; have h2 := (G7.out.1.lt hm).2; omega)).cells.1; have Nn9 : Hid (Own (g + 1) w9 (.slice an nn cn) (ts.map Tg.name)) := Ga.out.2.2.only hN9 (fun k hk hm => by rw [Option.mem_toList] at hm; exact N4.out.2 _ (List.mem_cons_self ..) k hk hm); clear hO9 hB9 hN9 hw9)
        | (at_builtin; refine app_S tv.name Nn9.out (by have := HNN.out; have := HNA.out.2; simp at *; omega) hs9 rfl (.tmp 76) (.tmp 79) rfl rfl rfl ?_; intro v10 w10 hO10 hB10 hN10 hs10 hw10; have O10 : Hid (Own (g + 1) w10 v10 (ts.map Tg.name ++ [tv.name]) ∧ Below (g + 1) w9 w10 ∧ Only (Value.slice an nn cn).ownBlock.toList w9 w10 ∧ (v10.ownBlock = (Value.slice an nn cn).ownBlock ∨ ∃ k, v10.ownBlock = some k ∧ w9.heap.size ≤ k)) := ⟨hO10, hB10, hN10, hw10⟩; clear hO10 hB10 hN10 hw10))
      obtain ⟨a9, c9, hv9⟩ := O9.out.form
      have HL9 : Hid ((a ++ [tv]).length = na + 1) := by show (a ++ [tv]).length = na + 1; rw [List.length_append, HNA.out.1]; rfl
      rw [HL9.out] at hv9
      subst hv9
      have Only9 : Hid (Only [g] w2 w10) := only_below (only_below Xa.out.1 K9.out.1 (by omega)) O10.out.2.1 (by omega)
      have hs9a : wa.heap.size ≤ w9.heap.size := K9.out.1.size
      have FINR : Hid ((∃ (a' : List Tv) (ts' : List Tg) (j' : Nat), OwnG (g + 1) w10 (.slice a9 (na + 1) c9) a' ∧ TsOwn (g + 1) w10 a' ts' ∧ Aps (.slice a9 (na + 1) c9) a' ∧ Own (g + 1) w10 v10 (ts'.map Tg.name) ∧ (∀ u ∈ (.slice a9 (na + 1) c9) :: a'.flatMap Tv.vals, Ap v10 u) ∧ RX w10 g p (s.length : Int) L j' (-1) ∧ j' ≤ L.length ∧ Only [g] w2 w10 ∧ go p (s.length : Int) S (.top ts') (L.drop j') = R ∧ ts'.length ≤ 64) ∨ (∃ z j, 0 ≤ z ∧ RX w10 g p (s.length : Int) L j z ∧ R = ([], z) ∧ Only [g] w2 w10)) := by
        rcases Xa.out.2 with ⟨t, j', k1, k2, k4, k5, k6⟩ | ⟨z, j', k1, k2, k3⟩
        · have hap : ∀ u ∈ a.flatMap Tv.vals, Ap (.slice au na cu) u := (List.pairwise_cons.1 G4.out.2.2).1
          have A9 : Aps (.slice a9 (na + 1) c9) (a ++ [tv]) := G4.out.2.2.snoc (n := wr.heap.size) (m := wa.heap.size) (fun x hx u hu k hk => (G4.out.2.1.lt x hx u hu k hk).2) (fun k hk => (G4.out.1.lt hk).2) (fun u hu k hk => ⟨by have := (k1.lt u hu k hk).1; omega, (k1.lt u hu k hk).2⟩) k1.pair K9.out.2.2 (by omega)
          have T9 : TsOwn (g + 1) w9 (a ++ [tv]) (ts ++ [t]) := by
            refine TsOwn.snoc ((k1.mono (by omega)).only K9.out.2.1 fun u hu k hk hm => ?_) (Ga.out.2.1.only K9.out.2.1 fun x hx u hu k hk hm => ?_)
            · rw [Option.mem_toList] at hm
              have h1 := (k1.lt u hu k hk).1
              have h2 := (G4.out.1.lt hm).2
              omega
            · rw [Option.mem_toList] at hm
              exact hap u (List.mem_flatMap.2 ⟨x, hx, hu⟩) k hm hk
          have apn : ∀ u ∈ (.slice a9 (na + 1) c9) :: (a ++ [tv]).flatMap Tv.vals, Ap (.slice an nn cn) u := fun u hu k hk he => by
            have hkb := (N4.out.1.lt hk).2
            rcases List.mem_cons.1 hu with rfl | hu
            · rcases K9.out.2.2 with h1 | ⟨k', h1, h2⟩
              · rw [h1] at he; exact N4.out.2 _ (List.mem_cons_self ..) k hk he
              · rw [h1] at he; injection he with he; omega
            · rw [List.flatMap_append, List.mem_append] at hu
              rcases hu with hu | hu
              · exact N4.out.2 u (List.mem_cons_of_mem _ hu) k hk he
              · simp only [List.flatMap_cons, List.flatMap_nil, List.append_nil] at hu
                have := (k1.lt u hu k he).1; omega
          have hall : ∀ u ∈ (.slice a9 (na + 1) c9) :: (a ++ [tv]).flatMap Tv.vals, ∀ k, u.ownBlock = some k → k < w9.heap.size := fun u hu k hk => by
            rcases List.mem_cons.1 hu with rfl | hu
            · exact (O9.out.lt hk).2
            · obtain ⟨x, hx, hux⟩ := mem_vals hu
              exact (T9.lt x hx u hux k hk).2
          refine .inl ⟨a ++ [tv], ts ++ [t], j', O9.out.only O10.out.2.2.1 fun k hk hm => ?_, T9.only O10.out.2.2.1 fun x hx u hu k hk hm => ?_, A9, ?_, fun u hu k hk he => ?_, (k2.below K9.out.1 (by omega)).below O10.out.2.1 (by omega), k4, Only9.out, k5, ?_⟩
          · rw [Option.mem_toList] at hm
            exact apn _ (List.mem_cons_self ..) k hm hk
          · rw [Option.mem_toList] at hm
            exact apn u (List.mem_cons_of_mem _ (List.mem_flatMap.2 ⟨x, hx, hu⟩)) k hm hk
          · have := O10.out.1
            rw [List.map_append]; rw [k6] at this; exact this
          · rcases O10.out.2.2.2 with h1 | ⟨k', h1, h2⟩
            · rw [h1] at hk; exact apn u hu k hk he
            · rw [h1] at hk; injection hk with hk
              have := hall u hu k he; omega
          · rw [List.length_append]; have := HNA.out.2; simp; omega
        · exact .inr ⟨z, j', k1, (k2.below K9.out.1 (by omega)).below O10.out.2.1 (by omega), k3, Only9.out⟩
      clear O9 K9 O10 Xa Ga G7 G6 X6 X7 TBa
      go_wp2_with fail
      go_roundw
      case rel => exact FINR.out
      case measure => (simp [slen]; omega)
end Go.Proofs.YtddaoloabfkheaaGreatDoor
