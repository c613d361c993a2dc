/-
  The document's target.
-/
import Derived.Test.YtddaoloabfkheaaGreatDoorJFJ
namespace Go.Proofs.YtddaoloabfkheaaGreatDoor
open Go.RowKit

/-- what the document's target leaves -/
def LsRT (w : World) (g : Nat) (p : List UInt8) (E S : Int) (L : List Tk) (i : Nat) (l : List Tg) (R : List Tg × Int) (e : Ending) (w' : World) : Prop :=
  ∃ tv : Tv, e = .returned tv.val ∧ Only [g] w w' ∧ ((∃ t j, TOwn w.heap.size w' tv t ∧ RX w' g p E L j (-1) ∧ i < j ∧ j ≤ L.length ∧ go p E S (.top (l ++ [t])) (L.drop j) = R) ∨ (∃ z j, 0 ≤ z ∧ RX w' g p E L j z ∧ R = ([], z)))
/-- a target handed back -/
theorem rt_fin {w wd : World} {g G i : Nat} {p : List UInt8} {E S : Int} {L : List Tk} {l : List Tg} {R : List Tg × Int} {tv : Tv} (hG : w.heap.size = G) (Od : Only [g] w wd) (hgG : g < G)
    (h : (∃ t j, TOwn (G + 1) wd tv t ∧ RX wd g p E L j (-1) ∧ i < j ∧ j ≤ L.length ∧ go p E S (.top (l ++ [t])) (L.drop j) = R) ∨ (∃ z j, 0 ≤ z ∧ RX wd g p E L j z ∧ R = ([], z))) :
    LsRT w g p E S L i l R (.returned (.agg #[.string (bs tv.name), .slice tv.sa tv.sn tv.sc, .slice tv.da tv.dn tv.dc, .slice tv.ea tv.en tv.ec])) ((((wd.setCell ⟨G, 0, none⟩ (.string (bs tv.name))).setCell ⟨G, 1, none⟩ (.slice tv.sa tv.sn tv.sc)).setCell ⟨G, 2, none⟩ (.slice tv.da tv.dn tv.dc)).setCell ⟨G, 3, none⟩ (.slice tv.ea tv.en tv.ec)) := by
  have hbe := bset4 (Below.refl G wd) (Nat.le_refl G) (.string (bs tv.name)) (.slice tv.sa tv.sn tv.sc) (.slice tv.da tv.dn tv.dc) (.slice tv.ea tv.en tv.ec)
  have hoe : Only [G] wd ((((wd.setCell ⟨G, 0, none⟩ (.string (bs tv.name))).setCell ⟨G, 1, none⟩ (.slice tv.sa tv.sn tv.sc)).setCell ⟨G, 2, none⟩ (.slice tv.da tv.dn tv.dc)).setCell ⟨G, 3, none⟩ (.slice tv.ea tv.en tv.ec)) :=
    (((Only.set _ _ _ _).trans (Only.set _ _ _ _)).trans (Only.set _ _ _ _)).trans (Only.set _ _ _ _)
  refine ⟨tv, rfl, only_below Od hbe (by omega), ?_⟩
  rcases h with ⟨t, j, h1, h2, h3, h4, h5⟩ | ⟨z, j, h1, h2, h3⟩
  · refine .inl ⟨t, j, (h1.only hoe fun u hu q hq hm => ?_).mono (by omega), h2.below hbe hgG, h3, h4, h5⟩
    have := (h1.lt u hu q hq).1
    simp only [List.mem_singleton] at hm; omega
  · exact .inr ⟨z, j, h1, h2.below hbe hgG, h3⟩
theorem has_map (l : List Tg) (n : List UInt8) : (l.map Tg.name).contains n = hasN l n := by
  unfold hasN
  rw [Bool.eq_iff_iff]
  simp only [List.contains_iff_mem, List.mem_map, List.any_eq_true, beq_iff_eq]
set_option maxRecDepth 100000 in
set_option maxHeartbeats 32000000 in
theorem rtarget_any {w : World} {g i : Nat} {p : List UInt8} {E S : Int} {L : List Tk} {l : List Tg} {R : List Tg × Int} {vn : Value} (hx : RX w g p E L i (-1)) (hn : SS w vn (l.map Tg.name)) (hl : l.length ≤ 64) (hnb : ∀ k, vn.ownBlock = some k → k ≠ g) (hT : ∀ k ∈ L, TkOk k) (hL : L.length ≤ 5000) (hE : 0 ≤ E) (hp : okP p = true) (_hi : i ≤ L.length) (hR : go p E S (.nm l) (L.drop i) = R) :
    Calls Tryz.prog 43 #[.pointer (some ⟨g, 0, none⟩), vn] w (LsRT w g p E S L i l R) := by
  have hgl := hx.lt
  have HT : Hid (∀ k ∈ L, TkOk k) := hT
  have HX : Hid (RX w g p E L i (-1) ∧ SS w vn (l.map Tg.name)) := ⟨hx, hn⟩
  have HR : Hid (go p E S (.nm l) (L.drop i) = R) := hR
  have HF : Hid (okP p = true ∧ 0 ≤ E) := ⟨hp, hE⟩
  have HFp : Hid (∀ j, 0 ≤ fp L j E) := fun j => fp_nonneg hE hT
  obtain ⟨an, cn, hvn, _⟩ := hn.form
  obtain ⟨nn, hnn⟩ : ∃ nn, (l.map Tg.name).length = nn := ⟨_, rfl⟩
  rw [hnn] at hvn
  subst hvn
  have HNN : Hid ((l.map Tg.name).length = nn) := hnn
  obtain ⟨G, hG⟩ : ∃ G, w.heap.size = G := ⟨_, rfl⟩
  obtain ⟨w0, hw0⟩ : ∃ w0, w.alloc (.cells #[.string (bs []), .slice none 0 0, .slice none 0 0, .slice none 0 0] 66) = w0 := ⟨_, rfl⟩
  have hb0 : Below w.heap.size w w0 := by rw [← hw0]; exact balloc _ _
  have hs0 : G + 1 = w0.heap.size := by rw [← hw0, ← hG]; simp
  have TG0 : Hid (TB w0 G zv) := by show TB w0 G zv; rw [← hw0, ← hG]; exact TB.new w zv
  have HW0 : Hid (w.alloc (.cells #[.string (bs []), .slice none 0 0, .slice none 0 0, .slice none 0 0] 66) = w0 ∧ w.heap.size = G) := ⟨hw0, hG⟩
  have X0 : Hid (RX w0 g p E L i (-1) ∧ Only [g] w w0 ∧ SS w0 (.slice an nn cn) (l.map Tg.name)) := ⟨hx.later hb0, Only.of_below hb0 _, hn.later hb0⟩
  have HGW : Hid (w.heap.size = G) := hG
  have hgG : g < G := by omega
  have b1 : (⟨#[]⟩ : ByteArray) = bs [] := rfl
  have HBD : Hid (∀ (W : World) (z : Int) (j : Nat), 0 ≤ z → RX W g p E L j z → ∀ q : Int, Calls Tryz.prog 80 #[.pointer (some ⟨g, 0, none⟩), .int .i64 q] W fun e w' => e = .returned (.tuple #[]) ∧ RX w' g p E L j z ∧ Only [g] W w') := fun W z j hz hW q => rtake_bad hW hz
  clear hx hT hR hp hE hn hnn hw0 hb0 hG
  go_enter Tryz.func43, Tryz.ntmps43
  go_wp2_with fail
  rw [HW0.out.1, HW0.out.2]
  refine (rword_any X0.out.1).mono ?_
  rintro e w1 ⟨rfl, n1, rfl⟩
  obtain ⟨x, hxw⟩ : ∃ x, wo L i = x := ⟨_, rfl⟩
  rw [hxw]
  have HXW : Hid (wo L i = x) := hxw
  have hxl : x.length ≤ 4096 := by
    rw [← hxw]; unfold wo
    by_cases hj : i < L.length
    · rw [dif_pos hj]; split
      · exact (HT.out _ (List.getElem_mem hj)).len
      · simp
    · rw [dif_neg hj]; simp
  clear hxw
  obtain ⟨gT, hgT⟩ : ∃ gT, (w0.drewN n1).heap.size = gT := ⟨_, rfl⟩
  obtain ⟨wc, hwc⟩ : ∃ wc, (w0.drewN n1).alloc (.cells #[.string (bs x), .slice none 0 0, .slice none 0 0, .slice none 0 0] 66) = wc := ⟨_, rfl⟩
  have hbc : Below w0.heap.size w0 wc := by rw [← hwc]; exact bstep (bd _ n1) (balloc _ _)
  have hgT2 : w0.heap.size = gT := hgT
  have hsc : gT + 1 = wc.heap.size := by rw [← hwc, ← hgT]; simp
  have Xc : Hid (RX wc g p E L i (-1) ∧ Only [g] w wc ∧ SS wc (.slice an nn cn) (l.map Tg.name) ∧ TB wc G zv) := ⟨X0.out.1.later hbc, X0.out.2.1.trans (Only.of_below hbc _), X0.out.2.2.later hbc, TG0.out.later hbc⟩
  have TBc : Hid (TB wc gT ⟨x, none, 0, 0, none, 0, 0, none, 0, 0⟩) := by
    show TB wc gT ⟨x, none, 0, 0, none, 0, 0, none, 0, 0⟩
    rw [← hwc, ← hgT]; exact TB.new (w0.drewN n1) ⟨x, none, 0, 0, none, 0, 0, none, 0, 0⟩
  have HWc : Hid ((w0.drewN n1).alloc (.cells #[.string (bs x), .slice none 0 0, .slice none 0 0, .slice none 0 0] 66) = wc ∧ (w0.drewN n1).heap.size = gT) := ⟨hwc, hgT⟩
  have hgTG : G < gT := by omega
  have HCm : Hid (∀ W : World, Calls Tryz.prog 75 #[.string (bs x)] W fun e w' => e = .returned (.bool (okC x)) ∧ w' = W) := fun W => rcomponent_any x W (by omega)
  have HHas : Hid (Calls Tryz.prog 79 #[.slice an nn cn, .string (bs x)] wc fun e w' => e = .returned (.bool (hasN l x)) ∧ w' = wc) := by
    have := has_any Xc.out.2.2.1 x (by rw [HNN.out]; have := HNN.out; simp at this; omega)
    rw [has_map] at this
    exact this
  obtain ⟨aq, cq, d1, d2, d3, d4, g2, g3, g4, _, _⟩ := Xc.out.1.cells
  obtain ⟨y0, y1, y2, y3, _, _, _⟩ := TBc.out.cells
  simp only at y0 y1 y2 y3
  have FAULT : Hid (∀ (W : World), RX W g p E L i (-1) → Only [g] w W → TB W G zv → TB W gT ⟨x, none, 0, 0, none, 0, 0, none, 0, 0⟩ → R = ([], fp L i E) → Calls Tryz.prog 42 #[.pointer (some ⟨g, 0, none⟩)] W fun e w' => e = .returned (.tuple #[]) ∧ TB w' G zv ∧ TB w' gT ⟨x, none, 0, 0, none, 0, 0, none, 0, 0⟩ ∧ Only [g] w w' ∧ ((∃ t j, TOwn (G + 1) w' ⟨x, none, 0, 0, none, 0, 0, none, 0, 0⟩ t ∧ RX w' g p E L j (-1) ∧ i < j ∧ j ≤ L.length ∧ go p E S (.top (l ++ [t])) (L.drop j) = R) ∨ (∃ z j, 0 ≤ z ∧ RX w' g p E L j z ∧ R = ([], z)))) := fun W h1 h2 h3 h4 h5 => (rfault_any h1).mono fun e w' ⟨k1, k2, k3⟩ => ⟨k1, h3.only k3 (by simp; omega), h4.only k3 (by simp; omega), h2.trans k3, .inr ⟨_, i, HFp.out i, k2, h5⟩⟩
  have hz1 : decide ((0 : Int) ≤ -1) = false := by decide
  have d3e : ((w0.drewN n1).alloc (.cells #[.string (bs x), .slice none 0 0, .slice none 0 0, .slice none 0 0] 66)).cell? ⟨g, 3, none⟩ = some (.int .i64 (-1)) := by rw [hwc]; exact d3
  have y0e : ((w0.drewN n1).alloc (.cells #[.string (bs x), .slice none 0 0, .slice none 0 0, .slice none 0 0] 66)).cell? ⟨gT, 0, none⟩ = some (.string (bs x)) := by rw [hwc]; exact y0
  obtain ⟨tv, htv⟩ : ∃ tv : Tv, (⟨x, none, 0, 0, none, 0, 0, none, 0, 0⟩ : Tv) = tv := ⟨_, rfl⟩
  cases hcm : okC x
  · have RZ : Hid (R = ([], fp L i E)) := by
      show R = _
      rw [← HR.out, go_fp rfl (fun hj => by
        have hno : ¬ (L[i].kind = 1 ∧ okC L[i].text = true ∧ hasN l L[i].text = false) := fun h => by
          have h1 := wo_text hj h.1
          rw [HXW.out] at h1
          rw [h1] at hcm; rw [h.2.1] at hcm; cases hcm
        simp only [stp, if_neg hno])]
    rw [hcm] at HCm
    rw [htv] at FAULT TBc
    clear hcm hwc hbc hgT
    go_wp2_with fail
    rw [HWc.out.1]
    refine (HCm.out _).mono ?_
    rintro e wd ⟨rfl, hw⟩
    obtain rfl : wc = wd := hw.symm
    go_wp2_with fail
    refine (FAULT.out _ Xc.out.1 Xc.out.2.1 Xc.out.2.2.2 TBc.out RZ.out).mono ?_
    rintro e WD ⟨rfl, k1, k2, k3, k4⟩
    have FN : Hid (TB WD G zv ∧ TB WD gT tv ∧ Only [g] w WD ∧ ((∃ t j, TOwn (G + 1) WD tv t ∧ RX WD g p E L j (-1) ∧ i < j ∧ j ≤ L.length ∧ go p E S (.top (l ++ [t])) (L.drop j) = R) ∨ (∃ z j, 0 ≤ z ∧ RX WD g p E L j z ∧ R = ([], z)))) := ⟨k1, k2, k3, k4⟩
    clear k1 k2 k3 k4 d1 d2 d3 d4 g2 g3 g4 y0 y1 y2 y3 FAULT htv
    obtain ⟨c0, c1, c2, c3, _, _, _⟩ := FN.out.2.1.cells
    obtain ⟨z0, z1, z2, z3, f1, f2, f3⟩ := FN.out.1.cells
    have f0 := FN.out.1.cells2
    simp only [zv] at z0 z1 z2 z3
    go_wp2_with fail
    refine bodyPost_ret (results_cell_row rfl _ _ G 66 #[.string (bs tv.name), .slice tv.sa tv.sn tv.sc, .slice tv.da tv.dn tv.dc, .slice tv.ea tv.en tv.ec] (0, 0) _ rfl (FN.out.1.set tv).blk Tryz.underlying66 rfl (by kernel_rfl)) rfl ?_
    exact rt_fin HGW.out FN.out.2.2.1 hgG FN.out.2.2.2
  rw [hcm] at HCm
  cases hhn : hasN l x
  rotate_left
  · have RZ : Hid (R = ([], fp L i E)) := by
      show R = _
      rw [← HR.out, go_fp rfl (fun hj => by
        have hno : ¬ (L[i].kind = 1 ∧ okC L[i].text = true ∧ hasN l L[i].text = false) := fun h => by
          have h1 := wo_text hj h.1
          rw [HXW.out] at h1
          rw [h1] at hhn; rw [h.2.2] at hhn; cases hhn
        simp only [stp, if_neg hno])]
    rw [hhn] at HHas
    rw [htv] at FAULT TBc
    clear hcm hhn hwc hbc hgT
    have y0c := y0
    go_wp2_with fail
    rw [HWc.out.1]
    refine (HCm.out _).mono ?_
    rintro e wd ⟨rfl, hw⟩
    obtain rfl : wc = wd := hw.symm
    go_wp2_with fail
    refine HHas.out.mono ?_
    rintro e wd ⟨rfl, hw⟩
    obtain rfl : wc = wd := hw.symm
    go_wp2_with fail
    refine (FAULT.out _ Xc.out.1 Xc.out.2.1 Xc.out.2.2.2 TBc.out RZ.out).mono ?_
    rintro e WD ⟨rfl, k1, k2, k3, k4⟩
    have FN : Hid (TB WD G zv ∧ TB WD gT tv ∧ Only [g] w WD ∧ ((∃ t j, TOwn (G + 1) WD tv t ∧ RX WD g p E L j (-1) ∧ i < j ∧ j ≤ L.length ∧ go p E S (.top (l ++ [t])) (L.drop j) = R) ∨ (∃ z j, 0 ≤ z ∧ RX WD g p E L j z ∧ R = ([], z)))) := ⟨k1, k2, k3, k4⟩
    clear k1 k2 k3 k4 d1 d2 d3 d4 g2 g3 g4 y0 y1 y2 y3 FAULT htv y0c
    obtain ⟨c0, c1, c2, c3, _, _, _⟩ := FN.out.2.1.cells
    obtain ⟨z0, z1, z2, z3, f1, f2, f3⟩ := FN.out.1.cells
    have f0 := FN.out.1.cells2
    simp only [zv] at z0 z1 z2 z3
    go_wp2_with fail
    refine bodyPost_ret (results_cell_row rfl _ _ G 66 #[.string (bs tv.name), .slice tv.sa tv.sn tv.sc, .slice tv.da tv.dn tv.dc, .slice tv.ea tv.en tv.ec] (0, 0) _ rfl (FN.out.1.set tv).blk Tryz.underlying66 rfl (by kernel_rfl)) rfl ?_
    exact rt_fin HGW.out FN.out.2.2.1 hgG FN.out.2.2.2
  have hxne : x ≠ [] := by rintro rfl; simp [okC] at hcm
  have hil : i < L.length := by
    by_cases hj : i < L.length
    · exact hj
    · exfalso; apply hxne; rw [← HXW.out]; unfold wo; rw [dif_neg hj]
  have hik : L[i].kind = 1 ∧ L[i].text = x := by
    have h1 := HXW.out
    unfold wo at h1
    rw [dif_pos hil] at h1
    by_cases hk : L[i].kind = 1
    · rw [if_pos hk] at h1; exact ⟨hk, h1⟩
    · rw [if_neg hk] at h1; exact absurd h1.symm hxne
  have R1 : Hid (go p E S (.op l x) (L.drop (i + 1)) = R) := by
    show go _ _ _ _ _ = R
    rw [← HR.out, go_st hil (st' := .op l x) (by
      simp only [stp]
      rw [hik.2, if_pos ⟨hik.1, hcm, hhn⟩])]
  rw [hhn] at HHas
  have X1 : Hid (RX (wc.setCell ⟨g, 2, none⟩ (.int .i64 ((i : Int) + 1))) g p E L (i + 1) (-1)) := rset_i Xc.out.1
  have F1 : Hid (FJ wc g gT (.slice none 0 0) [] ⟨x, none, 0, 0, none, 0, 0, none, 0, 0⟩ ⟨x, [], [], []⟩ wc) :=
    ⟨Own.nil _ _, TBc.out, ⟨rfl, Own.nil _ _, OwnL.nil _ _, Own.nil _ _, fun k hk => by simp [Tv.s, Value.ownBlock] at hk, fun k hk => by simp [Tv.s, Value.ownBlock] at hk, fun k hk => by simp [Tv.d, Value.ownBlock] at hk⟩, Only.refl _ _, fun u hu k hk => by simp [Value.ownBlock] at hk⟩
  have hgc : g < wc.heap.size := by omega
  obtain ⟨wd, hwd⟩ : ∃ wd, wc.setCell ⟨g, 2, none⟩ (.int .i64 ((i : Int) + 1)) = wd := ⟨_, rfl⟩
  have F2 : Hid (FJ wc g gT (.slice none 0 0) [] ⟨x, none, 0, 0, none, 0, 0, none, 0, 0⟩ ⟨x, [], [], []⟩ wd) := by
    rw [← hwd]; exact F1.out.tok (Only.set _ _ _ _) hgc (by omega)
  rw [hwd] at X1
  have HWd : Hid (wc.setCell ⟨g, 2, none⟩ (.int .i64 ((i : Int) + 1)) = wd) := hwd
  have i3 : (i : Int) ≤ 5000 := by omega
  have HIL : Hid (i < L.length ∧ wc.heap.size = gT + 1) := ⟨hil, by omega⟩
  clear hcm hhn hwc hbc hgT hik hxne hil FAULT F1 HR hwd htv
  go_wp2_with fail
  rw [HWc.out.1]
  refine (HCm.out _).mono ?_
  rintro e w4 ⟨rfl, hw⟩
  obtain rfl : wc = w4 := hw.symm
  go_wp2_with fail
  refine HHas.out.mono ?_
  rintro e w4 ⟨rfl, hw⟩
  obtain rfl : wc = w4 := hw.symm
  go_wp2_with fail
  rw [HWd.out]
  refine (rtake_any (q := 2) X1.out (by omega)).mono ?_
  rintro e w5 ⟨rfl, hx5, ho5⟩
  have F5 : Hid (FJ wc g gT (.slice none 0 0) [] ⟨x, none, 0, 0, none, 0, 0, none, 0, 0⟩ ⟨x, [], [], []⟩ w5) := F2.out.tok ho5 hgc (by omega)
  have X5 : Hid ((RX w5 g p E L (i + 1 + 1) (-1) ∧ i + 1 < L.length ∧ go p E S (.fl l ⟨x, [], [], []⟩ []) (L.drop (i + 1 + 1)) = R) ∨ (0 ≤ fp L (i + 1) E ∧ RX w5 g p E L (i + 1) (fp L (i + 1) E) ∧ R = ([], fp L (i + 1) E))) := by
    rcases hx5 with ⟨hn, hx⟩ | ⟨hn, hx⟩
    · obtain ⟨hj, hk⟩ := nx_true hn
      refine .inl ⟨hx, hj, ?_⟩
      rw [← R1.out, go_st hj (st' := .fl l ⟨x, [], [], []⟩ []) (by simp only [stp, if_pos hk])]
    · refine .inr ⟨HFp.out _, hx, ?_⟩
      rw [← R1.out, go_fp rfl (fun hj => by simp only [stp, if_neg (nx_false hn hj)])]
  have HOw : Hid (∀ W : World, Only [g, gT] wc W → Only [g] w W ∧ TB W G zv) := fun W hW => ⟨only_new ((Xc.out.2.1.mono (by simp)).trans hW) (by have := HGW.out; omega), Xc.out.2.2.2.only hW (by simp; omega)⟩
  clear hx5 ho5 R1 X1 F2 HWd HHas HCm d1 d2 d3 d4 d3e y0e g2 g3 g4 y0 y1 y2 y3 TBc
  go_wp2_with fail
  go_loopw [6] (fun v wr => (∃ H tv t j, FJ wc g gT v H tv t wr ∧ RX wr g p E L j (-1) ∧ i < j ∧ j ≤ L.length ∧ go p E S (.fl l t H) (L.drop j) = R ∧ Hd H t ∧ (∀ y ∈ t.deps, okL y = true) ∧ (H.contains wDeps = false → tv.d.ownBlock = none)) ∨ (∃ H tv z j, Own wc.heap.size wr v H ∧ TB wr gT tv ∧ 0 ≤ z ∧ RX wr g p E L j z ∧ R = ([], z) ∧ Only [g, gT] wc wr)) (fun v _ => 5 - slen v)
  case atStart =>
    rcases X5.out with ⟨h1, h2, h3⟩ | ⟨h1, h2, h3⟩
    · exact .inl ⟨[], _, _, _, F5.out, h1, by omega, by omega, h3, ⟨rfl, fun _ => rfl, fun _ => rfl, fun _ => rfl⟩, by simp, fun _ => rfl⟩
    · exact .inr ⟨[], _, _, _, Own.nil _ _, F5.out.b, h1, h2, h3, F5.out.only⟩
  case round =>
    clear X5 F5
    rcases hrel with ⟨H, tv, t, j, hF, hxr, hij, hjl, hRr, hHd, hdo, hdn⟩ | ⟨H, tv, z, j, hOv, hTB, hz, hxr, hRz, hor⟩
    rotate_left
    · obtain ⟨a, c, c1, c2, c3, c4, _, _, _, _, _⟩ := hxr.cells
      have q1 : decide (z < 0) = false := by simp; omega
      have q2 : ¬ z < 0 := by omega
      have FN : Hid (TB wr G zv ∧ TB wr gT tv ∧ Only [g] w wr ∧ ((∃ t j, TOwn (G + 1) wr tv t ∧ RX wr g p E L j (-1) ∧ i < j ∧ j ≤ L.length ∧ go p E S (.top (l ++ [t])) (L.drop j) = R) ∨ (∃ z j, 0 ≤ z ∧ RX wr g p E L j z ∧ R = ([], z)))) := ⟨(HOw.out _ hor).2, hTB, (HOw.out _ hor).1, .inr ⟨z, j, hz, hxr, hRz⟩⟩
      clear hOv hTB hz hxr hRz hor
      obtain ⟨c0, c1, c2, c3, _, _, _⟩ := FN.out.2.1.cells
      obtain ⟨z0, z1, z2, z3, f1, f2, f3⟩ := FN.out.1.cells
      have f0 := FN.out.1.cells2
      simp only [zv] at z0 z1 z2 z3
      go_wp2_with fail
      refine bodyPost_ret (results_cell_row rfl _ _ G 66 #[.string (bs tv.name), .slice tv.sa tv.sn tv.sc, .slice tv.da tv.dn tv.dc, .slice tv.ea tv.en tv.ec] (0, 0) _ rfl (FN.out.1.set tv).blk Tryz.underlying66 rfl (by kernel_rfl)) rfl ?_
      exact rt_fin HGW.out FN.out.2.2.1 hgG FN.out.2.2.2
    have F6 : Hid (FJ wc g gT u6 H tv t wr) := hF
    have HDN : Hid (H.contains wDeps = false → tv.d.ownBlock = none) := hdn
    clear hdn
    have X6 : Hid (RX wr g p E L j (-1) ∧ go p E S (.fl l t H) (L.drop j) = R ∧ Hd H t ∧ (∀ y ∈ t.deps, okL y = true)) := ⟨hxr, hRr, hHd, hdo⟩
    obtain ⟨a, c, c1, c2, c3, c4, _, _, _, _, _⟩ := hxr.cells
    have hsr : wc.heap.size ≤ wr.heap.size := hF.only.size
    clear hF hxr hRr hHd hdo
    go_wp2_with fail
    refine (rnext_any (q := 3) X6.out.1).mono ?_
    rintro e w6 ⟨rfl, n6, rfl⟩
    have X7 : Hid (RX (wr.drewN n6) g p E L j (-1) ∧ FJ wc g gT u6 H tv t (wr.drewN n6)) := ⟨X6.out.1.drew n6, F6.out.later (bd _ n6)⟩
    obtain ⟨w7, hw7⟩ : ∃ w7, wr.drewN n6 = w7 := ⟨_, rfl⟩
    rw [hw7] at X7
    rw [hw7]
    clear c1 c2 c3 c4 hw7 F6
    obtain ⟨a', c', c1, c2, c3, c4, f2, f3, f4, _, _⟩ := X7.out.1.cells
    have hs7 : wc.heap.size ≤ w7.heap.size := X7.out.2.only.size
    cases h3 : nx L j 3
    rotate_left
    · obtain ⟨hj, hk⟩ := nx_true h3
      have FN : Hid (TB (w7.setCell ⟨g, 2, none⟩ (.int .i64 ((j : Int) + 1))) G zv ∧ TB (w7.setCell ⟨g, 2, none⟩ (.int .i64 ((j : Int) + 1))) gT tv ∧ Only [g] w (w7.setCell ⟨g, 2, none⟩ (.int .i64 ((j : Int) + 1))) ∧ ((∃ t j', TOwn (G + 1) (w7.setCell ⟨g, 2, none⟩ (.int .i64 ((j : Int) + 1))) tv t ∧ RX (w7.setCell ⟨g, 2, none⟩ (.int .i64 ((j : Int) + 1))) g p E L j' (-1) ∧ i < j' ∧ j' ≤ L.length ∧ go p E S (.top (l ++ [t])) (L.drop j') = R) ∨ (∃ z j', 0 ≤ z ∧ RX (w7.setCell ⟨g, 2, none⟩ (.int .i64 ((j : Int) + 1))) g p E L j' z ∧ R = ([], z)))) := by
        have hF := X7.out.2.tok (Only.set w7 g 2 (.int .i64 ((j : Int) + 1))) hgc (by omega)
        refine ⟨(HOw.out _ hF.only).2, hF.b, (HOw.out _ hF.only).1, .inl ⟨t, j + 1, hF.o.mono (by omega), rset_i X7.out.1, by omega, by omega, ?_⟩⟩
        rw [← X6.out.2.1, go_st hj (st' := .top (l ++ [t])) (by simp only [stp, if_pos hk])]
      have gne : gT ≠ g := by omega
      have Gne : G ≠ g := by omega
      have jle : (j : Int) ≤ 5000 := by omega
      obtain ⟨x0, x1, x2, x3, _, _, _⟩ := X7.out.2.b.cells
      obtain ⟨z0, z1, z2, z3, v1, v2, v3⟩ := (HOw.out _ X7.out.2.only).2.cells
      have v0 := (HOw.out _ X7.out.2.only).2.cells2
      have gGn : gT ≠ G := by omega
      simp only [zv] at z0 z1 z2 z3
      clear h3 hk X6
      go_wp2_with fail
      refine bodyPost_ret (results_cell_row rfl _ _ G 66 #[.string (bs tv.name), .slice tv.sa tv.sn tv.sc, .slice tv.da tv.dn tv.dc, .slice tv.ea tv.en tv.ec] (0, 0) _ rfl (FN.out.1.set tv).blk Tryz.underlying66 rfl (by kernel_rfl)) rfl ?_
      exact rt_fin HGW.out FN.out.2.2.1 hgG FN.out.2.2.2
    obtain ⟨y, hy⟩ : ∃ y, wo L j = y := ⟨_, rfl⟩
    have HY : Hid (wo L j = y ∧ nx L j 3 = false) := ⟨hy, h3⟩
    have HWo : Hid (Calls Tryz.prog 41 #[.pointer (some ⟨g, 0, none⟩)] w7 fun e w' => e = .returned (.string (bs y)) ∧ ∃ n, w' = w7.drewN n) := by rw [← hy]; exact rword_any X7.out.1
    obtain ⟨av, cv, hv⟩ := X7.out.2.h.frm
    obtain ⟨nH, hnH⟩ : ∃ nH, H.length = nH := ⟨_, rfl⟩
    have HNH : Hid (H.length = nH) := hnH
    rw [hnH] at hv
    subst hv
    have hnH3 : nH ≤ 3 := by rw [← hnH, X6.out.2.2.1.len]; exact cnt_le H
    have HHs : Hid (∀ n, Calls Tryz.prog 79 #[.slice av nH cv, .string (bs y)] (w7.drewN n) fun e w' => e = .returned (.bool (H.contains y)) ∧ w' = w7.drewN n) := fun n => has_any (own_ss (X7.out.2.h.later (bd _ n))) y (by rw [hnH]; omega)
    have e1 := bs_toList y
    have e2 := c_srcs
    have e3 := c_deps
    have e4 := c_see
    clear hy h3 hnH c1 c2 c3 c4 f2 f3 f4
    go_wp2_with fail
    refine HWo.out.mono ?_
    rintro e w8' ⟨rfl, n8, rfl⟩
    have X8 : Hid (RX (w7.drewN n8) g p E L j (-1) ∧ FJ wc g gT (.slice av nH cv) H tv t (w7.drewN n8)) := ⟨X7.out.1.drew n8, X7.out.2.later (bd _ n8)⟩
    have HHs8 : Hid (Calls Tryz.prog 79 #[.slice av nH cv, .string (bs y)] (w7.drewN n8) fun e w' => e = .returned (.bool (H.contains y)) ∧ w' = w7.drewN n8) := HHs.out n8
    obtain ⟨w8, hw8⟩ : ∃ w8, w7.drewN n8 = w8 := ⟨_, rfl⟩
    rw [hw8] at X8 HHs8
    rw [hw8]
    clear hw8 HHs HWo X7
    have hs8 : wc.heap.size ≤ w8.heap.size := X8.out.2.only.size
    obtain ⟨Cn, hCn⟩ : ∃ Cn, H.contains y = Cn := ⟨_, rfl⟩
    have HCn : Hid (H.contains y = Cn) := hCn
    rw [hCn] at HHs8
    clear hCn
    have BAD : Hid ((isF y = false ∨ Cn = true) → R = ([], fp L j E)) := fun hb => by
      rw [← X6.out.2.1]
      exact go_fp rfl (fun hj => by
        have hno : ¬ (L[j].kind = 1 ∧ H.contains L[j].text = false ∧ isF L[j].text = true) := fun h => by
          have h1 := wo_text hj h.1
          rw [HY.out.1] at h1
          rcases hb with hb | hb
          · rw [h1, h.2.2] at hb; cases hb
          · have := HCn.out; rw [h1, h.2.1, hb] at this; cases this
        simp only [stp, if_neg (nx_false HY.out.2 hj), if_neg hno])
    have FLT : Hid (R = ([], fp L j E) → Calls Tryz.prog 42 #[.pointer (some ⟨g, 0, none⟩)] w8 fun e w' => e = .returned (.tuple #[]) ∧ (TB w' G zv ∧ TB w' gT tv ∧ Only [g] w w' ∧ ((∃ t j, TOwn (G + 1) w' tv t ∧ RX w' g p E L j (-1) ∧ i < j ∧ j ≤ L.length ∧ go p E S (.top (l ++ [t])) (L.drop j) = R) ∨ (∃ z j, 0 ≤ z ∧ RX w' g p E L j z ∧ R = ([], z))))) := fun hz => (rfault_any X8.out.1).mono fun e w' ⟨k1, k2, k3⟩ => by
      have hF := X8.out.2.tok k3 hgc (by omega)
      exact ⟨k1, (HOw.out _ hF.only).2, hF.b, (HOw.out _ hF.only).1, .inr ⟨_, j, HFp.out j, k2, hz⟩⟩
    cases hiF : isF y
    · have q1 : (y == wSrcs) = false ∧ (y == wDeps) = false ∧ (y == wSee) = false := by unfold isF at hiF; simpa [Bool.or_eq_false_iff, and_assoc] using hiF
      obtain ⟨q1, q2, q3⟩ := q1
      have RZ : Hid (R = ([], fp L j E)) := BAD.out (.inl hiF)
      clear hiF
      go_wp2_with fail
      refine (FLT.out RZ.out).mono ?_
      rintro e WD ⟨rfl, k⟩
      have FN : Hid (TB WD G zv ∧ TB WD gT tv ∧ Only [g] w WD ∧ ((∃ t j, TOwn (G + 1) WD tv t ∧ RX WD g p E L j (-1) ∧ i < j ∧ j ≤ L.length ∧ go p E S (.top (l ++ [t])) (L.drop j) = R) ∨ (∃ z j, 0 ≤ z ∧ RX WD g p E L j z ∧ R = ([], z)))) := k
      clear k
      obtain ⟨c0, c1, c2, c3, _, _, _⟩ := FN.out.2.1.cells
      obtain ⟨z0, z1, z2, z3, f1, f2, f3⟩ := FN.out.1.cells
      have f0 := FN.out.1.cells2
      simp only [zv] at z0 z1 z2 z3
      go_wp2_with fail
      refine bodyPost_ret (results_cell_row rfl _ _ G 66 #[.string (bs tv.name), .slice tv.sa tv.sn tv.sc, .slice tv.da tv.dn tv.dc, .slice tv.ea tv.en tv.ec] (0, 0) _ rfl (FN.out.1.set tv).blk Tryz.underlying66 rfl (by kernel_rfl)) rfl ?_
      exact rt_fin HGW.out FN.out.2.2.1 hgG FN.out.2.2.2
    have HIF : Hid (isF y = true) := hiF
    have hy3 : y = wSrcs ∨ y = wDeps ∨ y = wSee := by unfold isF at hiF; simpa [Bool.or_eq_true, or_assoc] using hiF
    cases Cn
    rotate_left
    · have RZ : Hid (R = ([], fp L j E)) := BAD.out (.inr rfl)
      clear hiF
      rcases hy3 with h | h | h
      · have q1 : (y == wSrcs) = true := by rw [h]; decide
        clear h
        go_wp2_with fail
        refine HHs8.out.mono ?_
        rintro e w8' ⟨rfl, hw⟩
        obtain rfl : w8 = w8' := hw.symm
        go_wp2_with fail
        refine (FLT.out RZ.out).mono ?_
        rintro e WD ⟨rfl, k⟩
        have FN : Hid (TB WD G zv ∧ TB WD gT tv ∧ Only [g] w WD ∧ ((∃ t j, TOwn (G + 1) WD tv t ∧ RX WD g p E L j (-1) ∧ i < j ∧ j ≤ L.length ∧ go p E S (.top (l ++ [t])) (L.drop j) = R) ∨ (∃ z j, 0 ≤ z ∧ RX WD g p E L j z ∧ R = ([], z)))) := k
        clear k
        obtain ⟨c0, c1, c2, c3, _, _, _⟩ := FN.out.2.1.cells
        obtain ⟨z0, z1, z2, z3, f1, f2, f3⟩ := FN.out.1.cells
        have f0 := FN.out.1.cells2
        simp only [zv] at z0 z1 z2 z3
        go_wp2_with fail
        refine bodyPost_ret (results_cell_row rfl _ _ G 66 #[.string (bs tv.name), .slice tv.sa tv.sn tv.sc, .slice tv.da tv.dn tv.dc, .slice tv.ea tv.en tv.ec] (0, 0) _ rfl (FN.out.1.set tv).blk Tryz.underlying66 rfl (by kernel_rfl)) rfl ?_
        exact rt_fin HGW.out FN.out.2.2.1 hgG FN.out.2.2.2
      · have q1 : (y == wSrcs) = false := by rw [h]; decide
        have q2 : (y == wDeps) = true := by rw [h]; decide
        clear h
        go_wp2_with fail
        refine HHs8.out.mono ?_
        rintro e w8' ⟨rfl, hw⟩
        obtain rfl : w8 = w8' := hw.symm
        go_wp2_with fail
        refine (FLT.out RZ.out).mono ?_
        rintro e WD ⟨rfl, k⟩
        have FN : Hid (TB WD G zv ∧ TB WD gT tv ∧ Only [g] w WD ∧ ((∃ t j, TOwn (G + 1) WD tv t ∧ RX WD g p E L j (-1) ∧ i < j ∧ j ≤ L.length ∧ go p E S (.top (l ++ [t])) (L.drop j) = R) ∨ (∃ z j, 0 ≤ z ∧ RX WD g p E L j z ∧ R = ([], z)))) := k
        clear k
        obtain ⟨c0, c1, c2, c3, _, _, _⟩ := FN.out.2.1.cells
        obtain ⟨z0, z1, z2, z3, f1, f2, f3⟩ := FN.out.1.cells
        have f0 := FN.out.1.cells2
        simp only [zv] at z0 z1 z2 z3
        go_wp2_with fail
        refine bodyPost_ret (results_cell_row rfl _ _ G 66 #[.string (bs tv.name), .slice tv.sa tv.sn tv.sc, .slice tv.da tv.dn tv.dc, .slice tv.ea tv.en tv.ec] (0, 0) _ rfl (FN.out.1.set tv).blk Tryz.underlying66 rfl (by kernel_rfl)) rfl ?_
        exact rt_fin HGW.out FN.out.2.2.1 hgG FN.out.2.2.2
      · have q1 : (y == wSrcs) = false := by rw [h]; decide
        have q2 : (y == wDeps) = false := by rw [h]; decide
        have q3 : (y == wSee) = true := by rw [h]; decide
        clear h
        go_wp2_with fail
        refine HHs8.out.mono ?_
        rintro e w8' ⟨rfl, hw⟩
        obtain rfl : w8 = w8' := hw.symm
        go_wp2_with fail
        refine (FLT.out RZ.out).mono ?_
        rintro e WD ⟨rfl, k⟩
        have FN : Hid (TB WD G zv ∧ TB WD gT tv ∧ Only [g] w WD ∧ ((∃ t j, TOwn (G + 1) WD tv t ∧ RX WD g p E L j (-1) ∧ i < j ∧ j ≤ L.length ∧ go p E S (.top (l ++ [t])) (L.drop j) = R) ∨ (∃ z j, 0 ≤ z ∧ RX WD g p E L j z ∧ R = ([], z)))) := k
        clear k
        obtain ⟨c0, c1, c2, c3, _, _, _⟩ := FN.out.2.1.cells
        obtain ⟨z0, z1, z2, z3, f1, f2, f3⟩ := FN.out.1.cells
        have f0 := FN.out.1.cells2
        simp only [zv] at z0 z1 z2 z3
        go_wp2_with fail
        refine bodyPost_ret (results_cell_row rfl _ _ G 66 #[.string (bs tv.name), .slice tv.sa tv.sn tv.sc, .slice tv.da tv.dn tv.dc, .slice tv.ea tv.en tv.ec] (0, 0) _ rfl (FN.out.1.set tv).blk Tryz.underlying66 rfl (by kernel_rfl)) rfl ?_
        exact rt_fin HGW.out FN.out.2.2.1 hgG FN.out.2.2.2
    have hne : y ≠ [] := by rcases hy3 with h | h | h <;> rw [h] <;> decide
    have hjL : j < L.length := by
      by_cases hj : j < L.length
      · exact hj
      · exfalso; apply hne; rw [← HY.out.1]; unfold wo; rw [dif_neg hj]
    have hjk : L[j].kind = 1 ∧ L[j].text = y := by
      have h1 := HY.out.1
      unfold wo at h1
      rw [dif_pos hjL] at h1
      by_cases hk : L[j].kind = 1
      · rw [if_pos hk] at h1; exact ⟨hk, h1⟩
      · rw [if_neg hk] at h1; exact absurd h1.symm hne
    have R8 : Hid (go p E S (.eq l t (H ++ [y]) y) (L.drop (j + 1)) = R) := by
      show go _ _ _ _ _ = R
      rw [← X6.out.2.1, go_st hjL (st' := .eq l t (H ++ [y]) y) (by
        simp only [stp]
        rw [hjk.2, if_neg (by rw [hjk.1]; decide), if_pos ⟨hjk.1, HCn.out, hiF⟩])]
    have HX6 : Hid (Hd H t ∧ (∀ z ∈ t.deps, okL z = true) ∧ H.contains y = false) := ⟨X6.out.2.2.1, X6.out.2.2.2, HCn.out⟩
    clear hne hjk BAD FLT X6 HCn hiF
    rcases hy3 with h | h | h
    · have q1 : (y == wSrcs) = true := by rw [h]; decide
      have HWd2 : Hid (y = wSrcs) := h
      clear h
      go_wp2_with fail
      refine HHs8.out.mono ?_
      rintro e w8' ⟨rfl, hw⟩
      obtain rfl : w8 = w8' := hw.symm
      go_wp2_with (first
        | (at_builtin; refine app_S y X8.out.2.h (by have := HNH.out; omega) (by omega) rfl (.tmp 74) (.tmp 76) rfl rfl rfl ?_; intro v9 w9 hO9 hB9 hN9 hs9 hw9; have F9 : Hid (FJ wc g gT v9 (H ++ [y]) tv t w9) := X8.out.2.had hO9 hB9 hN9 hw9 hgc (by omega); have X9 : Hid (RX w9 g p E L j (-1)) := X8.out.1.below hB9 hgc; obtain ⟨a, c, c1, c2, c3, c4, f2, f3, f4, _, _⟩ := X9.out.cells; clear hO9 hB9 hN9 hw9))
      have Xy : Hid (RX (w9.setCell ⟨g, 2, none⟩ (.int .i64 ((j : Int) + 1))) g p E L (j + 1) (-1) ∧ FJ wc g gT v9 (H ++ [y]) tv t (w9.setCell ⟨g, 2, none⟩ (.int .i64 ((j : Int) + 1)))) := ⟨rset_i X9.out, F9.out.tok (Only.set _ _ _ _) hgc (by omega)⟩
      obtain ⟨wy, hwy⟩ : ∃ wy, w9.setCell ⟨g, 2, none⟩ (.int .i64 ((j : Int) + 1)) = wy := ⟨_, rfl⟩
      rw [hwy] at Xy
      rw [hwy]
      clear hwy c1 c2 c3 c4 f2 f3 f4 F9 X9
      have hw := HWd2.out
      subst hw
      have HLs : Hid (Calls Tryz.prog 81 #[.pointer (some ⟨g, 0, none⟩), .string (bs wSrcs)] wy (LsR wy g p E S L (j + 1) l t (H ++ [wSrcs]) wSrcs R)) := rlist54_any Xy.out.1 HT.out hL HF.out.2 HF.out.1 (by decide) (by have := HX6.out.1.s HX6.out.2.2; unfold ftx; rw [if_pos rfl]; exact this) HX6.out.2.1 (by omega) R8.out
      obtain ⟨ah, ch, hvh⟩ := Xy.out.2.h.frm
      have HLn : Hid ((H ++ [wSrcs]).length = nH + 1) := by show (H ++ [wSrcs]).length = nH + 1; rw [List.length_append, HNH.out]; rfl
      rw [HLn.out] at hvh
      subst hvh
      refine HLs.out.mono ?_
      rintro e w10 ⟨v, rfl, ho10, hres⟩
      have hA : ∃ A, Own wy.heap.size w10 v A ∧ ((∃ j2, RX w10 g p E L j2 (-1) ∧ i < j2 ∧ j2 ≤ L.length ∧ go p E S (.fl l { t with srcs := A } (H ++ [wSrcs])) (L.drop j2) = R) ∨ (∃ z j2, 0 ≤ z ∧ RX w10 g p E L j2 z ∧ R = ([], z))) := by
        rcases hres with ⟨u, j2, k1, k2, k3, k4, k5, k6, k7, k8⟩ | ⟨z, j2, k1, k2, k3, k4⟩
        · have e : ftx wSrcs u = u.srcs := if_pos rfl
          have eu : u = { t with srcs := u.srcs } := by
            have h1 := k6.name
            have h2 := k6.d (by decide); have h3 := k6.e (by decide); cases u; cases t; simp only at h1 h2 h3; subst h1 h2 h3; rfl
          refine ⟨u.srcs, by rw [e] at k1; exact k1, .inl ⟨j2, k2, by omega, k4, ?_⟩⟩
          rw [← eu]; exact k5
        · exact ⟨[], k2, .inr ⟨z, j2, k1, k3, k4⟩⟩
      obtain ⟨A, hA, hcase⟩ := hA
      obtain ⟨a9, c9, hv9⟩ := hA.frm
      obtain ⟨n9, hn9⟩ : ∃ n9, A.length = n9 := ⟨_, rfl⟩
      rw [hn9] at hv9
      subst hv9
      have F10 : Hid (FJ wc g gT (.slice ah (nH + 1) ch) (H ++ [wSrcs]) { tv with sa := a9, sn := n9, sc := c9 } { t with srcs := A } (w10.setCell ⟨gT, 1, none⟩ (.slice a9 n9 c9))) := Xy.out.2.setS ho10 (by omega) (by omega) hA
      have hbT : Below gT w10 (w10.setCell ⟨gT, 1, none⟩ (.slice a9 n9 c9)) := (Below.refl _ _).setCell (p := ⟨gT, 1, none⟩) (Nat.le_refl _) _
      have C10 : Hid ((∃ j2, RX (w10.setCell ⟨gT, 1, none⟩ (.slice a9 n9 c9)) g p E L j2 (-1) ∧ i < j2 ∧ j2 ≤ L.length ∧ go p E S (.fl l { t with srcs := A } (H ++ [wSrcs])) (L.drop j2) = R) ∨ (∃ z j2, 0 ≤ z ∧ RX (w10.setCell ⟨gT, 1, none⟩ (.slice a9 n9 c9)) g p E L j2 z ∧ R = ([], z))) := by
        rcases hcase with ⟨j2, k1, k2, k3, k4⟩ | ⟨z, j2, k1, k2, k3⟩
        · exact .inl ⟨j2, k1.below hbT (by omega), k2, k3, k4⟩
        · exact .inr ⟨z, j2, k1, k2.below hbT (by omega), k3⟩
      have HH10 : Hid (Hd (H ++ [wSrcs]) { t with srcs := A }) := HX6.out.1.addS HX6.out.2.2 A
      obtain ⟨_, _, _, _, f1, f2, f3⟩ := (Xy.out.2.b.only ho10 (by simp; omega)).cells
      obtain ⟨_, cz1, cz2, cz3, _, _, _⟩ := (Xy.out.2.b.only ho10 (by simp; omega)).cells
      clear hA hcase hn9 ho10 hbT HLs Xy X8
      go_wp2_with fail
      go_roundw
      case rel =>
        rcases C10.out with ⟨j2, k1, k2, k3, k4⟩ | ⟨z, j2, k1, k2, k3⟩
        · exact .inl ⟨_, _, _, j2, F10.out, k1, k2, k3, k4, HH10.out, HX6.out.2.1, fun hc => HDN.out (by rw [has_app, Bool.or_eq_false_iff] at hc; exact hc.1)⟩
        · exact .inr ⟨_, _, z, j2, F10.out.h, F10.out.b, k1, k2, k3, F10.out.only⟩
      case measure => (have := HNH.out; simp [slen]; omega)
    · have q1 : (y == wSrcs) = false := by rw [h]; decide
      have q2 : (y == wDeps) = true := by rw [h]; decide
      have q3 : (y == wSee) = false := by rw [h]; decide
      have HWd2 : Hid (y = wDeps) := h
      clear h
      go_wp2_with fail
      refine HHs8.out.mono ?_
      rintro e w8' ⟨rfl, hw⟩
      obtain rfl : w8 = w8' := hw.symm
      go_wp2_with (first
        | (at_builtin; refine app_S y X8.out.2.h (by have := HNH.out; omega) (by omega) rfl (.tmp 74) (.tmp 76) rfl rfl rfl ?_; intro v9 w9 hO9 hB9 hN9 hs9 hw9; have F9 : Hid (FJ wc g gT v9 (H ++ [y]) tv t w9) := X8.out.2.had hO9 hB9 hN9 hw9 hgc (by omega); have X9 : Hid (RX w9 g p E L j (-1)) := X8.out.1.below hB9 hgc; obtain ⟨a, c, c1, c2, c3, c4, f2, f3, f4, _, _⟩ := X9.out.cells; clear hO9 hB9 hN9 hw9))
      have Xy : Hid (RX (w9.setCell ⟨g, 2, none⟩ (.int .i64 ((j : Int) + 1))) g p E L (j + 1) (-1) ∧ FJ wc g gT v9 (H ++ [y]) tv t (w9.setCell ⟨g, 2, none⟩ (.int .i64 ((j : Int) + 1)))) := ⟨rset_i X9.out, F9.out.tok (Only.set _ _ _ _) hgc (by omega)⟩
      obtain ⟨wy, hwy⟩ : ∃ wy, w9.setCell ⟨g, 2, none⟩ (.int .i64 ((j : Int) + 1)) = wy := ⟨_, rfl⟩
      rw [hwy] at Xy
      rw [hwy]
      clear hwy c1 c2 c3 c4 f2 f3 f4 F9 X9
      have hw := HWd2.out
      subst hw
      have HLs : Hid (Calls Tryz.prog 81 #[.pointer (some ⟨g, 0, none⟩), .string (bs wDeps)] wy (LsR wy g p E S L (j + 1) l t (H ++ [wDeps]) wDeps R)) := rlist54_any Xy.out.1 HT.out hL HF.out.2 HF.out.1 (by decide) (by have := HX6.out.1.d HX6.out.2.2; unfold ftx; rw [if_neg (by decide), if_neg (by decide), this]; rfl) HX6.out.2.1 (by omega) R8.out
      obtain ⟨ah, ch, hvh⟩ := Xy.out.2.h.frm
      have HLn : Hid ((H ++ [wDeps]).length = nH + 1) := by show (H ++ [wDeps]).length = nH + 1; rw [List.length_append, HNH.out]; rfl
      rw [HLn.out] at hvh
      subst hvh
      refine HLs.out.mono ?_
      rintro e w10 ⟨v, rfl, ho10, hres⟩
      have hA : ∃ D : List Lb, Own wy.heap.size w10 v (D.map prt) ∧ (∀ y ∈ D, okL y = true) ∧ D.length ≤ 64 ∧ ((∃ j2, RX w10 g p E L j2 (-1) ∧ i < j2 ∧ j2 ≤ L.length ∧ go p E S (.fl l { t with deps := D } (H ++ [wDeps])) (L.drop j2) = R) ∨ (∃ z j2, 0 ≤ z ∧ RX w10 g p E L j2 z ∧ R = ([], z))) := by
        rcases hres with ⟨u, j2, k1, k2, k3, k4, k5, k6, k7, k8⟩ | ⟨z, j2, k1, k2, k3, k4⟩
        · have e : ftx wDeps u = u.deps.map prt := by unfold ftx; rw [if_neg (by decide), if_neg (by decide)]
          have eu : u = { t with deps := u.deps } := by
            have h1 := k6.name
            have h2 := k6.s (by decide); have h3 := k6.e (by decide); cases u; cases t; simp only at h1 h2 h3; subst h1 h2 h3; rfl
          rw [e] at k1 k8
          refine ⟨u.deps, k1, k7, by simpa using k8, .inl ⟨j2, k2, by omega, k4, ?_⟩⟩
          rw [← eu]; exact k5
        · exact ⟨[], k2, by simp, by simp, .inr ⟨z, j2, k1, k3, k4⟩⟩
      obtain ⟨D, hA, hDo, hD64, hcase⟩ := hA
      have ht0 : t = { t with deps := D.take 0 } := by have := HX6.out.1.d HX6.out.2.2; cases t; simp only at this; subst this; rfl
      have F10 : Hid (FJ wc g gT (.slice ah (nH + 1) ch) (H ++ [wDeps]) tv { t with deps := D.take 0 } w10) := by
        rw [← ht0]; exact Xy.out.2.tok ho10 hgc (by omega)
      have hd0 : tv.d.ownBlock = none := HDN.out HX6.out.2.2
      have C10 : Hid ((∃ j2, RX w10 g p E L j2 (-1) ∧ i < j2 ∧ j2 ≤ L.length ∧ go p E S (.fl l { t with deps := D } (H ++ [wDeps])) (L.drop j2) = R) ∨ (∃ z j2, 0 ≤ z ∧ RX w10 g p E L j2 z ∧ R = ([], z))) := hcase
      have HA : Hid (Own wy.heap.size w10 v (D.map prt) ∧ (∀ y ∈ D, okL y = true)) := ⟨hA, hDo⟩
      obtain ⟨a9, c9, hv9⟩ := hA.frm
      obtain ⟨nd, hnd⟩ : ∃ nd, D.length = nd := ⟨_, rfl⟩
      rw [List.length_map, hnd] at hv9
      subst hv9
      have HND : Hid (D.length = nd) := hnd
      rw [hnd] at hD64
      clear hA hDo hcase hnd ho10 HLs ht0
      obtain ⟨wo', hwo⟩ : ∃ wo', wo' = wr := ⟨_, rfl⟩
      subst hwo
      go_wp2_with fail
      go_loopw [9] (fun i2 wr => ∃ m tv2, m ≤ nd ∧ i2 = .int .i64 m ∧ FJ wc g gT (.slice ah (nH + 1) ch) (H ++ [wDeps]) tv2 { t with deps := D.take m } wr ∧ Own wy.heap.size wr (.slice a9 nd c9) (D.map prt) ∧ (∀ k, tv2.d.ownBlock = some k → w10.heap.size ≤ k) ∧ ((∃ j2, RX wr g p E L j2 (-1) ∧ i < j2 ∧ j2 ≤ L.length ∧ go p E S (.fl l { t with deps := D } (H ++ [wDeps])) (L.drop j2) = R) ∨ (∃ z j2, 0 ≤ z ∧ RX wr g p E L j2 z ∧ R = ([], z))) ∧ w10.heap.size ≤ wr.heap.size) (fun i2 _ => nd - (intOf i2).toNat)
      case atStart => exact ⟨0, tv, Nat.zero_le _, rfl, F10.out, HA.out.1, fun k hk => (by rw [hd0] at hk; cases hk), C10.out, Nat.le_refl _⟩
      case round =>
        obtain ⟨m, tv2, hm, rfl, hF, hOv, hdb, hC, hs10⟩ := hrel
        have FM : Hid (FJ wc g gT (.slice ah (nH + 1) ch) (H ++ [wDeps]) tv2 { t with deps := D.take m } wr) := hF
        have OM : Hid (Own wy.heap.size wr (.slice a9 nd c9) (D.map prt) ∧ (∀ k, tv2.d.ownBlock = some k → w10.heap.size ≤ k)) := ⟨hOv, hdb⟩
        have CM : Hid ((∃ j2, RX wr g p E L j2 (-1) ∧ i < j2 ∧ j2 ≤ L.length ∧ go p E S (.fl l { t with deps := D } (H ++ [wDeps])) (L.drop j2) = R) ∨ (∃ z j2, 0 ≤ z ∧ RX wr g p E L j2 z ∧ R = ([], z))) := hC
        have hsm : wc.heap.size ≤ wr.heap.size := hF.only.size
        clear hF hOv hdb hC
        by_cases hlt : m < nd
        rotate_left
        · obtain rfl : m = nd := by omega
          have eT : D.take m = D := by rw [← HND.out, List.take_length]
          have FM2 : Hid (FJ wc g gT (.slice ah (nH + 1) ch) (H ++ [wDeps]) tv2 { t with deps := D } wr) := by have := FM.out; rw [eT] at this; exact this
          have HH10 : Hid (Hd (H ++ [wDeps]) { t with deps := D }) := HX6.out.1.addD HX6.out.2.2 D
          clear eT FM
          go_wp2_with fail
          go_roundw
          case rel =>
            rcases CM.out with ⟨j2, k1, k2, k3, k4⟩ | ⟨z, j2, k1, k2, k3⟩
            · exact .inl ⟨_, _, _, j2, FM2.out, k1, k2, k3, k4, HH10.out, HA.out.2, fun hc => (by rw [has_app] at hc; simp at hc)⟩
            · exact .inr ⟨_, _, z, j2, FM2.out.h, FM2.out.b, k1, k2, k3, FM2.out.only⟩
          case measure => (have := HNH.out; simp [slen]; omega)
        have hmD : m < D.length := by have := HND.out; omega
        have hmP : m < (D.map prt).length := by simpa using hmD
        obtain ⟨aS, cS, hvS, hcS⟩ := (own_ss OM.out.1).form
        obtain ⟨bS, oS, haS, _, hcm⟩ := hcS m hmP
        injection hvS with hvS hv2 hv3
        clear hv2 hv3
        subst hvS
        subst haS
        rw [List.getElem_map] at hcm
        have hok := HA.out.2 _ (List.getElem_mem hmD)
        have HPs : Hid (∀ W : World, Calls Tryz.prog 82 #[.string (bs (prt D[m]))] W fun e w' => e = .returned (.tuple #[.agg #[.string (bs D[m].pkg), .string (bs D[m].name)], .int .i64 0]) ∧ Below W.heap.size W w') := fun W => by
          have h1 := rparse_any (prt D[m]) W (by have := okL_len hok; omega)
          rw [prs_good hok] at h1
          exact h1
        have HTk : Hid (D.take (m + 1) = D.take m ++ [D[m]]) := List.take_succ_eq_append_getElem hmD
        have i5 : (0 : Int) ≤ (m : Int) := by omega
        have i6 : (m : Int) < (nd : Int) := by omega
        generalize D[m] = dm at *
        clear hcS hok
        go_wp2_with fail
        refine (HPs.out _).mono ?_
        rintro e w12 ⟨rfl, hb12⟩
        have hba : Below wr.heap.size wr (w12.alloc (.cells #[.string (bs dm.pkg), .string (bs dm.name)] 92)) := bstep hb12 (balloc _ _)
        have FA : Hid (FJ wc g gT (.slice ah (nH + 1) ch) (H ++ [wDeps]) tv2 { t with deps := D.take m } (w12.alloc (.cells #[.string (bs dm.pkg), .string (bs dm.name)] 92))) := FM.out.later hba
        have OA : Hid (Own wy.heap.size (w12.alloc (.cells #[.string (bs dm.pkg), .string (bs dm.name)] 92)) (.slice (some ⟨bS, oS, none⟩) nd c9) (D.map prt)) := OM.out.1.later hba
        have CA : Hid ((∃ j2, RX (w12.alloc (.cells #[.string (bs dm.pkg), .string (bs dm.name)] 92)) g p E L j2 (-1) ∧ i < j2 ∧ j2 ≤ L.length ∧ go p E S (.fl l { t with deps := D } (H ++ [wDeps])) (L.drop j2) = R) ∨ (∃ z j2, 0 ≤ z ∧ RX (w12.alloc (.cells #[.string (bs dm.pkg), .string (bs dm.name)] 92)) g p E L j2 z ∧ R = ([], z))) := by
          rcases CM.out with ⟨j2, k1, k2, k3, k4⟩ | ⟨z, j2, k1, k2, k3⟩
          · exact .inl ⟨j2, k1.later hba, k2, k3, k4⟩
          · exact .inr ⟨z, j2, k1, k2.later hba, k3⟩
        obtain ⟨wa, hwa⟩ : ∃ wa, w12.alloc (.cells #[.string (bs dm.pkg), .string (bs dm.name)] 92) = wa := ⟨_, rfl⟩
        have hsz : w10.heap.size ≤ wa.heap.size := by rw [← hwa]; have := hba.size; simp at this ⊢; omega
        have l0e : (w12.alloc (.cells #[.string (bs dm.pkg), .string (bs dm.name)] 92)).cell? ⟨gT, 2, none⟩ = some (.slice tv2.da tv2.dn tv2.dc) := FA.out.b.cells.2.2.1
        have hswc : wc.heap.size ≤ (w12.alloc (.cells #[.string (bs dm.pkg), .string (bs dm.name)] 92)).heap.size := FA.out.only.size
        have hs12 := hb12.size
        clear hb12 hba hwa CM FM
        have OD : Hid (OwnL wc.heap.size (w12.alloc (.cells #[.string (bs dm.pkg), .string (bs dm.name)] 92)) (.slice tv2.da tv2.dn tv2.dc) (D.take m)) := FA.out.o.d
        have hDt : (D.take m).length + 1 ≤ 100000000 := by simp; omega
        have hgTc : gT < wc.heap.size := by omega
        have hvS : ∀ k, (Value.slice (some ⟨bS, oS, none⟩) nd c9).ownBlock = some k → k ∉ (Value.slice tv2.da tv2.dn tv2.dc).ownBlock.toList := fun k hk hm => by
          rw [Option.mem_toList] at hm
          have h1 := OM.out.2 k hm
          have h2 := (HA.out.1.lt hk).2
          omega
        have HvS : Hid (∀ k, (Value.slice (some ⟨bS, oS, none⟩) nd c9).ownBlock = some k → k ∉ (Value.slice tv2.da tv2.dn tv2.dc).ownBlock.toList) := hvS
        have hsz2 : w10.heap.size ≤ (w12.alloc (.cells #[.string (bs dm.pkg), .string (bs dm.name)] 92)).heap.size := by have := hs12; simp; omega
        have hszA : (w12.alloc (.cells #[.string (bs dm.pkg), .string (bs dm.name)] 92)).heap.size = w12.heap.size + 1 := by simp
        clear hvS hsz
        go_wp2_with (first
          | (at_builtin; go_loud (refine app_L dm OD.out hDt hswc rfl (.tmp 104) (.tmp 106) rfl rfl (by rw [hszA]; rfl) ?_; intro v5 w5' hO5 hB5 hN5 hs5 hw5; obtain ⟨a5, c5, hv5⟩ := hO5.form; obtain ⟨n5, hn5⟩ : ∃ n5, (D.take m ++ [dm]).length = n5 := ⟨_, rfl⟩; rw [hn5] at hv5; subst hv5; have FB : Hid (FJ wc g gT (.slice ah (nH + 1) ch) (H ++ [wDeps]) { tv2 with da := a5, dn := n5, dc := c5 } { t with deps := D.take m ++ [dm] } (w5'.setCell ⟨gT, 2, none⟩ (.slice a5 n5 c5))) := FA.out.addD hgTc hO5 hB5 hN5 hw5; obtain ⟨_, _, cz2, _, _, fz2, _⟩ := (FA.out.b.below hB5 hgTc).cells; have KB : Hid (Below wc.heap.size (w12.alloc (.cells #[.string (bs dm.pkg), .string (bs dm.name)] 92)) w5' ∧ Only (Value.slice tv2.da tv2.dn tv2.dc).ownBlock.toList (w12.alloc (.cells #[.string (bs dm.pkg), .string (bs dm.name)] 92)) w5' ∧ ((Value.slice a5 n5 c5).ownBlock = (Value.slice tv2.da tv2.dn tv2.dc).ownBlock ∨ ∃ k, (Value.slice a5 n5 c5).ownBlock = some k ∧ (w12.alloc (.cells #[.string (bs dm.pkg), .string (bs dm.name)] 92)).heap.size ≤ k)) := ⟨hB5, hN5, hw5⟩; clear hO5 hB5 hN5 hw5 hn5)))
        have hbT : Below gT w5' (w5'.setCell ⟨gT, 2, none⟩ (.slice a5 n5 c5)) := (Below.refl _ _).setCell (p := ⟨gT, 2, none⟩) (Nat.le_refl _) _
        have hs13 : w10.heap.size ≤ w5'.heap.size := Nat.le_trans hsz2 KB.out.1.size
        have hs14 : w5'.heap.size ≤ (w5'.setCell ⟨gT, 2, none⟩ (.slice a5 n5 c5)).heap.size := hbT.size
        have OB : Hid (Own wy.heap.size (w5'.setCell ⟨gT, 2, none⟩ (.slice a5 n5 c5)) (.slice (some ⟨bS, oS, none⟩) nd c9) (D.map prt)) := (OA.out.only KB.out.2.1 HvS.out).only (Only.set _ _ _ _) (fun b hb hm => by have h1 := (HA.out.1.lt hb).1; have h2 := Xy.out.2.only.size; simp only [List.mem_singleton] at hm; omega)
        have CB : Hid ((∃ j2, RX (w5'.setCell ⟨gT, 2, none⟩ (.slice a5 n5 c5)) g p E L j2 (-1) ∧ i < j2 ∧ j2 ≤ L.length ∧ go p E S (.fl l { t with deps := D } (H ++ [wDeps])) (L.drop j2) = R) ∨ (∃ z j2, 0 ≤ z ∧ RX (w5'.setCell ⟨gT, 2, none⟩ (.slice a5 n5 c5)) g p E L j2 z ∧ R = ([], z))) := by
          rcases CA.out with ⟨j2, k1, k2, k3, k4⟩ | ⟨z, j2, k1, k2, k3⟩
          · exact .inl ⟨j2, (k1.below KB.out.1 hgc).below hbT (by omega), k2, k3, k4⟩
          · exact .inr ⟨z, j2, k1, (k2.below KB.out.1 hgc).below hbT (by omega), k3⟩
        have DB : Hid (∀ k, (Tv.d { tv2 with da := a5, dn := n5, dc := c5 }).ownBlock = some k → w10.heap.size ≤ k) := fun k hk => by
          rcases KB.out.2.2 with h1 | ⟨k', h1, h2⟩
          · exact OM.out.2 k (h1 ▸ hk)
          · have h3 : (Value.slice a5 n5 c5).ownBlock = some k := hk
            rw [h1] at h3; injection h3 with h3; omega
        clear hbT
        go_wp2_with fail
        go_roundw
        case rel => exact ⟨m + 1, _, hlt, rfl, by rw [HTk.out]; exact FB.out, OB.out, DB.out, CB.out, by omega⟩
        case measure => simp only [intOf]; omega
    · have q1 : (y == wSrcs) = false := by rw [h]; decide
      have q2 : (y == wDeps) = false := by rw [h]; decide
      have q3 : (y == wSee) = true := by rw [h]; decide
      have HWd2 : Hid (y = wSee) := h
      clear h
      go_wp2_with fail
      refine HHs8.out.mono ?_
      rintro e w8' ⟨rfl, hw⟩
      obtain rfl : w8 = w8' := hw.symm
      go_wp2_with (first
        | (at_builtin; refine app_S y X8.out.2.h (by have := HNH.out; omega) (by omega) rfl (.tmp 74) (.tmp 76) rfl rfl rfl ?_; intro v9 w9 hO9 hB9 hN9 hs9 hw9; have F9 : Hid (FJ wc g gT v9 (H ++ [y]) tv t w9) := X8.out.2.had hO9 hB9 hN9 hw9 hgc (by omega); have X9 : Hid (RX w9 g p E L j (-1)) := X8.out.1.below hB9 hgc; obtain ⟨a, c, c1, c2, c3, c4, f2, f3, f4, _, _⟩ := X9.out.cells; clear hO9 hB9 hN9 hw9))
      have Xy : Hid (RX (w9.setCell ⟨g, 2, none⟩ (.int .i64 ((j : Int) + 1))) g p E L (j + 1) (-1) ∧ FJ wc g gT v9 (H ++ [y]) tv t (w9.setCell ⟨g, 2, none⟩ (.int .i64 ((j : Int) + 1)))) := ⟨rset_i X9.out, F9.out.tok (Only.set _ _ _ _) hgc (by omega)⟩
      obtain ⟨wy, hwy⟩ : ∃ wy, w9.setCell ⟨g, 2, none⟩ (.int .i64 ((j : Int) + 1)) = wy := ⟨_, rfl⟩
      rw [hwy] at Xy
      rw [hwy]
      clear hwy c1 c2 c3 c4 f2 f3 f4 F9 X9
      have hw := HWd2.out
      subst hw
      have HLs : Hid (Calls Tryz.prog 81 #[.pointer (some ⟨g, 0, none⟩), .string (bs wSee)] wy (LsR wy g p E S L (j + 1) l t (H ++ [wSee]) wSee R)) := rlist54_any Xy.out.1 HT.out hL HF.out.2 HF.out.1 (by decide) (by have := HX6.out.1.e HX6.out.2.2; unfold ftx; rw [if_neg (by decide), if_pos rfl]; exact this) HX6.out.2.1 (by omega) R8.out
      obtain ⟨ah, ch, hvh⟩ := Xy.out.2.h.frm
      have HLn : Hid ((H ++ [wSee]).length = nH + 1) := by show (H ++ [wSee]).length = nH + 1; rw [List.length_append, HNH.out]; rfl
      rw [HLn.out] at hvh
      subst hvh
      refine HLs.out.mono ?_
      rintro e w10 ⟨v, rfl, ho10, hres⟩
      have hA : ∃ A, Own wy.heap.size w10 v A ∧ ((∃ j2, RX w10 g p E L j2 (-1) ∧ i < j2 ∧ j2 ≤ L.length ∧ go p E S (.fl l { t with see := A } (H ++ [wSee])) (L.drop j2) = R) ∨ (∃ z j2, 0 ≤ z ∧ RX w10 g p E L j2 z ∧ R = ([], z))) := by
        rcases hres with ⟨u, j2, k1, k2, k3, k4, k5, k6, k7, k8⟩ | ⟨z, j2, k1, k2, k3, k4⟩
        · have e : ftx wSee u = u.see := by unfold ftx; rw [if_neg (by decide), if_pos rfl]
          have eu : u = { t with see := u.see } := by
            have h1 := k6.name
            have h2 := k6.d (by decide); have h3 := k6.s (by decide); cases u; cases t; simp only at h1 h2 h3; subst h1 h2 h3; rfl
          refine ⟨u.see, by rw [e] at k1; exact k1, .inl ⟨j2, k2, by omega, k4, ?_⟩⟩
          rw [← eu]; exact k5
        · exact ⟨[], k2, .inr ⟨z, j2, k1, k3, k4⟩⟩
      obtain ⟨A, hA, hcase⟩ := hA
      obtain ⟨a9, c9, hv9⟩ := hA.frm
      obtain ⟨n9, hn9⟩ : ∃ n9, A.length = n9 := ⟨_, rfl⟩
      rw [hn9] at hv9
      subst hv9
      have F10 : Hid (FJ wc g gT (.slice ah (nH + 1) ch) (H ++ [wSee]) { tv with ea := a9, en := n9, ec := c9 } { t with see := A } (w10.setCell ⟨gT, 3, none⟩ (.slice a9 n9 c9))) := Xy.out.2.setE ho10 (by omega) (by omega) hA
      have hbT : Below gT w10 (w10.setCell ⟨gT, 3, none⟩ (.slice a9 n9 c9)) := (Below.refl _ _).setCell (p := ⟨gT, 3, none⟩) (Nat.le_refl _) _
      have C10 : Hid ((∃ j2, RX (w10.setCell ⟨gT, 3, none⟩ (.slice a9 n9 c9)) g p E L j2 (-1) ∧ i < j2 ∧ j2 ≤ L.length ∧ go p E S (.fl l { t with see := A } (H ++ [wSee])) (L.drop j2) = R) ∨ (∃ z j2, 0 ≤ z ∧ RX (w10.setCell ⟨gT, 3, none⟩ (.slice a9 n9 c9)) g p E L j2 z ∧ R = ([], z))) := by
        rcases hcase with ⟨j2, k1, k2, k3, k4⟩ | ⟨z, j2, k1, k2, k3⟩
        · exact .inl ⟨j2, k1.below hbT (by omega), k2, k3, k4⟩
        · exact .inr ⟨z, j2, k1, k2.below hbT (by omega), k3⟩
      have HH10 : Hid (Hd (H ++ [wSee]) { t with see := A }) := HX6.out.1.addE HX6.out.2.2 A
      obtain ⟨_, _, _, _, f1, f2, f3⟩ := (Xy.out.2.b.only ho10 (by simp; omega)).cells
      obtain ⟨_, cz1, cz2, cz3, _, _, _⟩ := (Xy.out.2.b.only ho10 (by simp; omega)).cells
      clear hA hcase hn9 ho10 hbT HLs Xy X8
      go_wp2_with fail
      go_roundw
      case rel =>
        rcases C10.out with ⟨j2, k1, k2, k3, k4⟩ | ⟨z, j2, k1, k2, k3⟩
        · exact .inl ⟨_, _, _, j2, F10.out, k1, k2, k3, k4, HH10.out, HX6.out.2.1, fun hc => HDN.out (by rw [has_app, Bool.or_eq_false_iff] at hc; exact hc.1)⟩
        · exact .inr ⟨_, _, z, j2, F10.out.h, F10.out.b, k1, k2, k3, F10.out.only⟩
      case measure => (have := HNH.out; simp [slen]; omega)
end Go.Proofs.YtddaoloabfkheaaGreatDoor
