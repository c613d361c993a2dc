/-
  The law's told: all that is told is as the document says.
-/
import Derived.Test.YtlkkmcibjhoneaaGreatDoorDh
import Derived.Test.YtlkkmcibjhoneaaGreatDoorJGa
import Derived.OrdersHeld
import Derived.Deep.Cut
namespace Go.Proofs.YtlkkmcibjhoneaaGreatDoor
open Go.RowKit
attribute [local go_sem] Oper.semAt_some

/-- what was answered, in memory behind W0, of these lengths -/
structure LQ (W0 wr : World) (vf : Value) (nf : Nat) (vd : Value) (nd : Nat) (vj : Value) (nj : Nat) : Prop where
  b : Below W0.heap.size W0 wr
  f : ∃ l, l.length = nf ∧ OwnF W0.heap.size wr vf l
  d : ∃ l, l.length = nd ∧ Oww W0.heap.size wr vd l
  j : ∃ l, l.length = nj ∧ OwnB W0.heap.size wr vj l
theorem mem1 {k g : Nat} (h : k ∈ [g]) : k = g := by simpa using h
theorem LQ.setf {W0 wr wr' : World} {vf vd vj : Value} {nf nd nj g : Nat} {l : List Fl} (h : LQ W0 wr vf nf vd nd vj nj) (hg : vf.ownBlock = some g) (ho : Only [g] wr wr') (hl : l.length = nf) (hv : OwnF W0.heap.size wr' vf l) : LQ W0 wr' vf nf vd nd vj nj := by
  obtain ⟨lf, f1, f2⟩ := h.f
  obtain ⟨ld, d1, d2⟩ := h.d
  obtain ⟨lj, j1, j2⟩ := h.j
  have hz := h.b.size
  have hge := (f2.lt hg).1
  exact ⟨h.b.trans (ho.below hz (by simpa using hge)), ⟨l, hl, hv⟩, ⟨ld, d1, d2.only ho (fun k hk hm => by rw [mem1 hm] at hk; exact ss_ne2w f2 d2 _ hg hk)⟩, ⟨lj, j1, j2.only ho (fun k hk hm => by rw [mem1 hm] at hk; exact fb_ne f2 j2 _ hg hk)⟩⟩
theorem LQ.setd {W0 wr wr' : World} {vf vd vj : Value} {nf nd nj g : Nat} {l : List (List UInt8)} (h : LQ W0 wr vf nf vd nd vj nj) (hg : vd.ownBlock = some g) (ho : Only [g] wr wr') (hl : l.length = nd) (hv : Oww W0.heap.size wr' vd l) : LQ W0 wr' vf nf vd nd vj nj := by
  obtain ⟨lf, f1, f2⟩ := h.f
  obtain ⟨ld, d1, d2⟩ := h.d
  obtain ⟨lj, j1, j2⟩ := h.j
  have hz := h.b.size
  have hge := (d2.lt hg).1
  exact ⟨h.b.trans (ho.below hz (by simpa using hge)), ⟨lf, f1, f2.only ho (fun k hk hm => by rw [mem1 hm] at hk; exact ss_ne2w f2 d2 _ hk hg)⟩, ⟨l, hl, hv⟩, ⟨lj, j1, j2.only ho (fun k hk hm => by rw [mem1 hm] at hk; exact bs_ne2w j2 d2 _ hk hg)⟩⟩
theorem LQ.setj {W0 wr wr' : World} {vf vd vj : Value} {nf nd nj g : Nat} {l : List UInt8} (h : LQ W0 wr vf nf vd nd vj nj) (hg : vj.ownBlock = some g) (ho : Only [g] wr wr') (hl : l.length = nj) (hv : OwnB W0.heap.size wr' vj l) : LQ W0 wr' vf nf vd nd vj nj := by
  obtain ⟨lf, f1, f2⟩ := h.f
  obtain ⟨ld, d1, d2⟩ := h.d
  obtain ⟨lj, j1, j2⟩ := h.j
  have hz := h.b.size
  have hge := (j2.lt hg).1
  exact ⟨h.b.trans (ho.below hz (by simpa using hge)), ⟨lf, f1, f2.only ho (fun k hk hm => by rw [mem1 hm] at hk; exact fb_ne f2 j2 _ hk hg)⟩, ⟨ld, d1, d2.only ho (fun k hk hm => by rw [mem1 hm] at hk; exact bs_ne2w j2 d2 _ hg hk)⟩, ⟨l, hl, hv⟩⟩
set_option maxRecDepth 100000 in
set_option maxHeartbeats 16000000 in
theorem told13 {W wr : World} {NF fc_ ND dc NJ jc : Nat} {fa da ja : Option Addr} {lv0 lv1 lv2 lv3 lv4 lv9 lv10 lv11 lv12 lv13 lv14 lv15 lv16 lv17 lv18 lv19 lv20 lv21 lv22 lv23 lv24 lv25 lv26 lv27 lv28 lv29 lv30 lv31 lv32 lv33 lv34 lv35 lv36 lv37 lv38 lv39 lv40 lv41 lv42 lv43 lv44 lv45 lv46 lv47 lv48 lv49 lv50 lv51 lv52 lv53 lv54 lv55 lv56 lv57 lv58 lv59 lv60 lv61 lv62 lv63 lv64 lv65 lv66 lv67 lv68 lv69 lv70 lv71 lv72 lv73 lv74 lv75 lv76 lv77 lv78 lv79 : Value}
    (X : Hid (LQ W wr (.slice fa NF fc_) NF (.slice da ND dc) ND (.slice ja NJ jc) NJ)) (hb : NF ≤ 8000000 ∧ ND ≤ 8000000 ∧ NJ ≤ 8000000) :
    Code.wp Tryz.prog (suff 13 (Tryz.f36.body.getD .skip)) (bodyPost Tryz.prog Tryz.f36 (fun e w' => e = .returned (.bool true) ∧ Below W.heap.size W w')) ⟨#[lv0, lv1, lv2, lv3, lv4, .slice fa NF fc_, .slice da ND dc, .slice ja NJ jc, .bool true, lv9, lv10, lv11, lv12, lv13, lv14, lv15, lv16, lv17, lv18, lv19, lv20, lv21, lv22, lv23, lv24, lv25, lv26, lv27, lv28, lv29, lv30, lv31, lv32, lv33, lv34, lv35, lv36, lv37, lv38, lv39, lv40, lv41, lv42, lv43, lv44, lv45, lv46, lv47, lv48, lv49, lv50, lv51, lv52, lv53, lv54, lv55, lv56, lv57, lv58, lv59, lv60, lv61, lv62, lv63, lv64, lv65, lv66, lv67, lv68, lv69, lv70, lv71, lv72, lv73, lv74, lv75, lv76, lv77, lv78, lv79], []⟩ wr := by
  conv => arg 2; whnf
  have hb' := hb
  obtain ⟨b1, b2, b3⟩ := hb
  refine wp_seq_k fun KK hKK => ?_
  have HK_ : Hid _ := hKK
  clear hKK
  go_wp2_with fail
  go_loopw [11] (fun i wr => ∃ k : Nat, k ≤ NJ ∧ i = .int .i64 k ∧ LQ W wr (.slice fa NF fc_) NF (.slice da ND dc) ND (.slice ja NJ jc) NJ) (fun i _ => NJ - (intOf i).toNat)
  case atStart => exact ⟨0, by omega, rfl, X.out⟩
  case round =>
    obtain ⟨k, hk, rfl, hx⟩ := hrel
    have Hx : Hid (LQ W wr (.slice fa NF fc_) NF (.slice da ND dc) ND (.slice ja NJ jc) NJ) := hx
    clear hx
    by_cases hlt : k < NJ
    · obtain ⟨l, l1, l2⟩ := Hx.out.j
      rcases l2.form' with ⟨_, h0⟩ | ⟨g, c', e, _⟩
      · rw [h0] at l1; simp at l1; omega
      obtain rfl : ja = some ⟨g, 0, none⟩ := by injection e
      have hkl : k < l.length := by omega
      obtain ⟨c0, f0⟩ := ownB_cell l2 k hkl
      have HS : Hid (OwnB W.heap.size (wr.setCell ⟨g, k, none⟩ (.int .u8 221)) (.slice (some ⟨g, 0, none⟩) NJ jc) (l.set k 221)) := ownB_set l2 k 221
      have i1 : (0 : Int) ≤ (k : Int) := by omega
      have i2 : (k : Int) < (NJ : Int) := by omega
      clear l2 e
      go_wp2_with fail
      go_roundw
      case rel => exact ⟨k + 1, by omega, by go_num, Hx.out.setj rfl (Only.set _ _ _ _) (by rw [List.length_set]; exact l1) HS.out⟩
      case measure => simp [intOf]; omega
    · obtain rfl : NJ = k := by omega
      go_wp2_with fail
      refine HK_.out _ _ ?_
      go_wp2_with fail
      go_ret
      exact ⟨rfl, Hx.out.b⟩
set_option maxRecDepth 100000 in
set_option maxHeartbeats 16000000 in
theorem told9 {W wr : World} {NF fc_ ND dc NJ jc : Nat} {fa da ja : Option Addr} {lv0 lv1 lv2 lv3 lv4 lv9 lv10 lv11 lv12 lv13 lv14 lv15 lv16 lv17 lv18 lv19 lv20 lv21 lv22 lv23 lv24 lv25 lv26 lv27 lv28 lv29 lv30 lv31 lv32 lv33 lv34 lv35 lv36 lv37 lv38 lv39 lv40 lv41 lv42 lv43 lv44 lv45 lv46 lv47 lv48 lv49 lv50 lv51 lv52 lv53 lv54 lv55 lv56 lv57 lv58 lv59 lv60 lv61 lv62 lv63 lv64 lv65 lv66 lv67 lv68 lv69 lv70 lv71 lv72 lv73 lv74 lv75 lv76 lv77 lv78 lv79 : Value}
    (X : Hid (LQ W wr (.slice fa NF fc_) NF (.slice da ND dc) ND (.slice ja NJ jc) NJ)) (hb : NF ≤ 8000000 ∧ ND ≤ 8000000 ∧ NJ ≤ 8000000) :
    Code.wp Tryz.prog (suff 9 (Tryz.f36.body.getD .skip)) (bodyPost Tryz.prog Tryz.f36 (fun e w' => e = .returned (.bool true) ∧ Below W.heap.size W w')) ⟨#[lv0, lv1, lv2, lv3, lv4, .slice fa NF fc_, .slice da ND dc, .slice ja NJ jc, .bool true, lv9, lv10, lv11, lv12, lv13, lv14, lv15, lv16, lv17, lv18, lv19, lv20, lv21, lv22, lv23, lv24, lv25, lv26, lv27, lv28, lv29, lv30, lv31, lv32, lv33, lv34, lv35, lv36, lv37, lv38, lv39, lv40, lv41, lv42, lv43, lv44, lv45, lv46, lv47, lv48, lv49, lv50, lv51, lv52, lv53, lv54, lv55, lv56, lv57, lv58, lv59, lv60, lv61, lv62, lv63, lv64, lv65, lv66, lv67, lv68, lv69, lv70, lv71, lv72, lv73, lv74, lv75, lv76, lv77, lv78, lv79], []⟩ wr := by
  conv => arg 2; whnf
  have hb' := hb
  obtain ⟨b1, b2, b3⟩ := hb
  refine wp_seq_k fun KK hKK => ?_
  have HK_ : Hid _ := hKK
  clear hKK
  go_wp2_with fail
  go_loopw [10] (fun i wr => ∃ k : Nat, k ≤ ND ∧ i = .int .i64 k ∧ LQ W wr (.slice fa NF fc_) NF (.slice da ND dc) ND (.slice ja NJ jc) NJ) (fun i _ => ND - (intOf i).toNat)
  case atStart => exact ⟨0, by omega, rfl, X.out⟩
  case round =>
    obtain ⟨k, hk, rfl, hx⟩ := hrel
    have Hx : Hid (LQ W wr (.slice fa NF fc_) NF (.slice da ND dc) ND (.slice ja NJ jc) NJ) := hx
    clear hx
    by_cases hlt : k < ND
    · obtain ⟨l, l1, l2⟩ := Hx.out.d
      rcases l2.form with ⟨_, h0⟩ | ⟨g, off, c', e, _⟩
      · rw [h0] at l1; simp at l1; omega
      obtain rfl : da = some ⟨g, off, none⟩ := by injection e
      have hkl : k < l.length := by omega
      obtain ⟨c0, f0, -, -⟩ := ww_cell l2 k hkl
      have HS : Hid (Oww W.heap.size (wr.setCell ⟨g, off + k, none⟩ (.string (bs [37]))) (.slice (some ⟨g, off, none⟩) ND dc) (l.set k [37])) := ww_set l2 k hkl [37]
      have i1 : (0 : Int) ≤ (k : Int) := by omega
      have i2 : (k : Int) < (ND : Int) := by omega
      clear l2 e
      go_wp2_with fail
      go_roundw
      case rel => exact ⟨k + 1, by omega, by go_num, Hx.out.setd rfl (Only.set _ _ _ _) (by rw [List.length_set]; exact l1) HS.out⟩
      case measure => simp [intOf]; omega
    · obtain rfl : ND = k := by omega
      go_wp2_with fail
      refine HK_.out _ _ ?_
      exact told13 Hx hb'
set_option maxRecDepth 100000 in
set_option maxHeartbeats 16000000 in
theorem told5 {W wr : World} {NF fc_ ND dc NJ jc : Nat} {fa da ja : Option Addr} {lv0 lv1 lv2 lv3 lv4 lv9 lv10 lv11 lv12 lv13 lv14 lv15 lv16 lv17 lv18 lv19 lv20 lv21 lv22 lv23 lv24 lv25 lv26 lv27 lv28 lv29 lv30 lv31 lv32 lv33 lv34 lv35 lv36 lv37 lv38 lv39 lv40 lv41 lv42 lv43 lv44 lv45 lv46 lv47 lv48 lv49 lv50 lv51 lv52 lv53 lv54 lv55 lv56 lv57 lv58 lv59 lv60 lv61 lv62 lv63 lv64 lv65 lv66 lv67 lv68 lv69 lv70 lv71 lv72 lv73 lv74 lv75 lv76 lv77 lv78 lv79 : Value}
    (X : Hid (LQ W wr (.slice fa NF fc_) NF (.slice da ND dc) ND (.slice ja NJ jc) NJ)) (hb : NF ≤ 8000000 ∧ ND ≤ 8000000 ∧ NJ ≤ 8000000) :
    Code.wp Tryz.prog (suff 5 (Tryz.f36.body.getD .skip)) (bodyPost Tryz.prog Tryz.f36 (fun e w' => e = .returned (.bool true) ∧ Below W.heap.size W w')) ⟨#[lv0, lv1, lv2, lv3, lv4, .slice fa NF fc_, .slice da ND dc, .slice ja NJ jc, .bool true, lv9, lv10, lv11, lv12, lv13, lv14, lv15, lv16, lv17, lv18, lv19, lv20, lv21, lv22, lv23, lv24, lv25, lv26, lv27, lv28, lv29, lv30, lv31, lv32, lv33, lv34, lv35, lv36, lv37, lv38, lv39, lv40, lv41, lv42, lv43, lv44, lv45, lv46, lv47, lv48, lv49, lv50, lv51, lv52, lv53, lv54, lv55, lv56, lv57, lv58, lv59, lv60, lv61, lv62, lv63, lv64, lv65, lv66, lv67, lv68, lv69, lv70, lv71, lv72, lv73, lv74, lv75, lv76, lv77, lv78, lv79], []⟩ wr := by
  conv => arg 2; whnf
  have hb' := hb
  obtain ⟨b1, b2, b3⟩ := hb
  refine wp_seq_k fun KK hKK => ?_
  have HK_ : Hid _ := hKK
  clear hKK
  go_wp2_with fail
  go_loopw [9] (fun i wr => ∃ k : Nat, k ≤ NF ∧ i = .int .i64 k ∧ LQ W wr (.slice fa NF fc_) NF (.slice da ND dc) ND (.slice ja NJ jc) NJ) (fun i _ => NF - (intOf i).toNat)
  case atStart => exact ⟨0, by omega, rfl, X.out⟩
  case round =>
    obtain ⟨k, hk, rfl, hx⟩ := hrel
    have Hx : Hid (LQ W wr (.slice fa NF fc_) NF (.slice da ND dc) ND (.slice ja NJ jc) NJ) := hx
    clear hx
    by_cases hlt : k < NF
    · obtain ⟨l, l1, l2⟩ := Hx.out.f
      rcases l2.form' with ⟨_, h0⟩ | ⟨g, c', e, _⟩
      · rw [h0] at l1; simp at l1; omega
      obtain rfl : fa = some ⟨g, 0, none⟩ := by injection e
      have hkl : k < l.length := by omega
      obtain ⟨⟨c0, c1, c2, c3⟩, ⟨f0, f1, f2, f3⟩, -, -⟩ := own_cellF l2 k hkl
      have HS : Hid (OwnF W.heap.size ((((wr.setCell ⟨g, k * 4, none⟩ (.string (bs [37]))).setCell ⟨g, k * 4 + 1, none⟩ (.string (bs []))).setCell ⟨g, k * 4 + 2, none⟩ (.int .i64 0)).setCell ⟨g, k * 4 + 3, none⟩ (.int .i64 0)) (.slice (some ⟨g, 0, none⟩) NF fc_) (l.set k (mkP 37))) := own_setF l2 k (mkP 37)
      have i1 : (0 : Int) ≤ (k : Int) := by omega
      have i2 : (k : Int) < (NF : Int) := by omega
      clear l2 e
      go_wp2_with fail
      go_roundw
      case rel => exact ⟨k + 1, by omega, by go_num, Hx.out.setf rfl ((((Only.set _ _ _ _).trans (Only.set _ _ _ _)).trans (Only.set _ _ _ _)).trans (Only.set _ _ _ _)) (by rw [List.length_set]; exact l1) HS.out⟩
      case measure => simp [intOf]; omega
    · obtain rfl : NF = k := by omega
      go_wp2_with fail
      refine HK_.out _ _ ?_
      exact told9 Hx hb'
set_option maxRecDepth 100000 in
set_option maxHeartbeats 16000000 in
theorem told_any {TA : World → (Nat → Prop) → Nat → TT → Prop} (C : TcP TA) {W : World} {F G : Nat → Prop} {c d : Nat} {T : TT} (ht : TA W F c T) (hr : RT W G d T) (hz : TSz 4000000 T) :
    Calls Tryz.prog 36 #[.pointer (some ⟨c, 0, none⟩), .pointer (some ⟨d, 0, none⟩)] W fun e w' => e = .returned (.bool true) ∧ Below W.heap.size W w' := by
  obtain ⟨xf, xd, xj, xt, h1, h2, h3, h4, h5⟩ := hr
  obtain ⟨c0, c1, c2, c3, -⟩ := h1.cell
  have HT : Hid (TA W F c T ∧ OwnF 0 W xf T.fs ∧ Own 0 W xd T.ds ∧ OwnB 0 W xj T.jl) := ⟨ht, h4.f.1, h4.d.1, h4.j.1⟩
  have hlt := h1.lt
  have HS : Hid (∀ W', Below W.heap.size W W' → W'.cell? ⟨d, 0, none⟩ = some xf ∧ W'.cell? ⟨d, 1, none⟩ = some xd ∧ W'.cell? ⟨d, 2, none⟩ = some xj ∧ W'.cell? ⟨d, 3, none⟩ = some (.int .i64 T.st)) := fun W' hb => ⟨(hb.cell (p := ⟨d, 0, none⟩) hlt).trans c0, (hb.cell (p := ⟨d, 1, none⟩) hlt).trans c1, (hb.cell (p := ⟨d, 2, none⟩) hlt).trans c2, (hb.cell (p := ⟨d, 3, none⟩) hlt).trans c3⟩
  clear h1 h2 h3 h4 h5 c0 c1 c2 c3 ht hlt
  go_enter Tryz.func36, Tryz.ntmps36
  go_wp2_with fail
  refine (C.fil HT.out.1 hz).mono ?_
  rintro e w1 ⟨vf, rfl, of, hb1⟩
  have B1 : Hid (Below W.heap.size W w1) := hb1
  have OF : Hid (OwnF W.heap.size w1 vf T.fs) := of
  clear of hb1
  go_wp2_with fail
  refine (C.drs (C.later HT.out.1 B1.out) hz).mono ?_
  rintro e w2 ⟨vd, rfl, od, hb2⟩
  have B2 : Hid (Below W.heap.size W w2) := bstep B1.out hb2
  have OF2 : Hid (OwnF W.heap.size w2 vf T.fs ∧ Oww W.heap.size w2 vd T.ds) := ⟨OF.out.later hb2, od.mono B1.out.size⟩
  clear od hb2 OF
  go_wp2_with fail
  refine (C.jou (C.later HT.out.1 B2.out) hz).mono ?_
  rintro e w3 ⟨vj, rfl, oj, hb3⟩
  have B3 : Hid (Below W.heap.size W w3) := bstep B2.out hb3
  obtain ⟨NF, hNF⟩ : ∃ n, T.fs.length = n := ⟨_, rfl⟩
  obtain ⟨ND, hND⟩ : ∃ n, T.ds.length = n := ⟨_, rfl⟩
  obtain ⟨NJ, hNJ⟩ : ∃ n, T.jl.length = n := ⟨_, rfl⟩
  have HN : Hid (T.fs.length = NF ∧ T.ds.length = ND ∧ T.jl.length = NJ) := ⟨hNF, hND, hNJ⟩
  obtain ⟨fa, fc_, e⟩ := OF2.out.1.form
  subst e
  obtain ⟨da, dc, e⟩ := OF2.out.2.len
  subst e
  obtain ⟨ja, jc, e⟩ := oj.len
  subst e
  have hb : NF ≤ 8000000 ∧ ND ≤ 8000000 ∧ NJ ≤ 8000000 := ⟨by rw [← hNF]; exact Nat.le_trans hz.nf (by omega), by rw [← hND]; exact Nat.le_trans hz.nd (by omega), by rw [← hNJ]; exact Nat.le_trans hz.nj (by omega)⟩
  have H3 : Hid (OwnF W.heap.size w3 (.slice fa T.fs.length fc_) T.fs ∧ Oww W.heap.size w3 (.slice da T.ds.length dc) T.ds ∧ OwnB W.heap.size w3 (.slice ja T.jl.length jc) T.jl) := ⟨OF2.out.1.later hb3, OF2.out.2.later hb3, oj.mono B2.out.size⟩
  rw [hNF, hND, hNJ] at H3
  rw [hNF, hND, hNJ]
  have q1 : ((bs T.jl).toList == (bs T.jl).toList) = true := by simp
  have q2 : ((T.st : Int) == (T.st : Int)) = true := by simp
  have hfl : Hid (T.fs.length ≤ 1000000000) := Nat.le_trans hz.nf (by omega)
  have hdl : Hid (T.ds.length ≤ 9223372036854775807) := Nat.le_trans hz.nd (by omega)
  clear oj hb3 OF2 hNF hND hNJ
  go_wp2_with fail
  rename_i hKK
  have HK2 : Hid _ := hKK
  clear hKK
  refine wp_region_noPanic ?_
  have B3d : Hid (Below W.heap.size W w3.drew) := bstep B3.out (Below.refl _ _).drew
  have H3d : Hid (OwnF W.heap.size w3.drew (.slice fa NF fc_) T.fs ∧ Oww W.heap.size w3.drew (.slice da ND dc) T.ds ∧ OwnB W.heap.size w3.drew (.slice ja NJ jc) T.jl) := ⟨H3.out.1.later (Below.refl _ _).drew, H3.out.2.1.later (Below.refl _ _).drew, H3.out.2.2.later (Below.refl _ _).drew⟩
  refine wp_region_held_drew (S := fun W' => W'.cell? ⟨d, 0, none⟩ = some xf ∧ W'.cell? ⟨d, 1, none⟩ = some xd ∧ W'.cell? ⟨d, 2, none⟩ = some xj ∧ W'.cell? ⟨d, 3, none⟩ = some (.int .i64 T.st)) (by kernel_rfl) (HS.out _ B3d.out) (fun hHeld => ?_)
  refine wpAnyH_take (i := 0) (oi := { dst := some 18, op := _, type := _, pos := _, after := _, guard := _ }) (v := ?vx1) rfl (by kernel_rfl) (by kernel_rfl) (by kernel_rfl) (fun _ _ _ h => h) (Or.inl ⟨by rfl, ?hyx1⟩) (by assumption) ?restx1
  case hyx1 => (intro w hSw; (try dsimp only at hSw); go_simp; try with_reducible rfl)
  try simp only [Act.put, List.setIfInBounds_toArray, List.set_cons_zero, List.set_cons_succ]
  refine wpAnyH_take (i := 1) (oi := { dst := some 19, op := _, type := _, pos := _, after := _, guard := _ }) (v := ?vx2) rfl (by kernel_rfl) (by kernel_rfl) (by kernel_rfl) (fun _ _ _ h => h) (Or.inl ⟨by rfl, ?hyx2⟩) (by assumption) ?restx2
  case hyx2 => (intro w hSw; (try dsimp only at hSw); go_simp; try with_reducible rfl)
  try simp only [Act.put, List.setIfInBounds_toArray, List.set_cons_zero, List.set_cons_succ]
  refine wpAnyH_take (i := 2) (oi := { dst := some 20, op := _, type := _, pos := _, after := _, guard := _ }) (v := ?vx3) rfl (by kernel_rfl) (by kernel_rfl) (by kernel_rfl) (fun _ _ _ h => h) (Or.inl ⟨by rfl, ?hyx3⟩) (by assumption) ?restx3
  case hyx3 => (intro w hSw; (try dsimp only at hSw); go_simp; try with_reducible rfl)
  try simp only [Act.put, List.setIfInBounds_toArray, List.set_cons_zero, List.set_cons_succ]
  refine wpAnyH_take (i := 3) (oi := { dst := some 21, op := _, type := _, pos := _, after := _, guard := _ }) (v := ?vx4) rfl (by kernel_rfl) (by kernel_rfl) (by kernel_rfl) (fun _ _ _ h => h) (Or.inl ⟨by rfl, ?hyx4⟩) (by assumption) ?restx4
  case hyx4 => (intro w hSw; (try dsimp only at hSw); go_simp; try with_reducible rfl)
  try simp only [Act.put, List.setIfInBounds_toArray, List.set_cons_zero, List.set_cons_succ]
  refine wpAnyH_take (i := 4) (oi := { dst := some 22, op := _, type := _, pos := _, after := _, guard := _ }) (v := ?vx5) rfl (by kernel_rfl) (by kernel_rfl) (by kernel_rfl) (fun _ _ _ h => h) (Or.inl ⟨by rfl, ?hyx5⟩) (by assumption) ?restx5
  case hyx5 => (intro w hSw; (try dsimp only at hSw); go_simp; try with_reducible rfl)
  try simp only [Act.put, List.setIfInBounds_toArray, List.set_cons_zero, List.set_cons_succ]
  refine wpAnyH_ready (rs := [5]) (by kernel_rfl) (by simp) ?_
  refine AllReadyH.cons (o := { dst := some 23, op := _, type := _, pos := _, after := _, guard := _ }) rfl (fun K hK => ?_) AllReadyH.nil
  go_simp
  (with_reducible refine (files_any H3d.out.1.fs (HT.out.2.1.fs.later B3d.out) hfl.out).mono ?_)
  rintro e w5 ⟨rfl, hb5⟩
  rw [(leq_iff T.fs T.fs).2 rfl]
  have B5 : Hid (Below W.heap.size W w5) := bstep B3d.out hb5
  have H5 : Hid (OwnF W.heap.size w5 (.slice fa NF fc_) T.fs ∧ Oww W.heap.size w5 (.slice da ND dc) T.ds ∧ OwnB W.heap.size w5 (.slice ja NJ jc) T.jl) := ⟨H3d.out.1.later hb5, H3d.out.2.1.later hb5, H3d.out.2.2.later hb5⟩
  clear hb5
  refine hK.out _ _ (HS.out w5 B5.out) (fun hHeld => ?_)
  clear hK K
  try simp only [List.setIfInBounds_toArray, List.set_cons_zero, List.set_cons_succ]
  refine wpAnyH_take (i := 6) (oi := { dst := some 24, op := _, type := _, pos := _, after := _, guard := _ }) (v := ?vx6) rfl (by kernel_rfl) (by kernel_rfl) (by kernel_rfl) (fun _ _ _ h => h) (Or.inl ⟨by rfl, ?hyx6⟩) (by assumption) ?restx6
  case hyx6 => (intro w hSw; (try dsimp only at hSw); go_simp; try with_reducible rfl)
  try simp only [Act.put, List.setIfInBounds_toArray, List.set_cons_zero, List.set_cons_succ]
  refine wpAnyH_take (i := 7) (oi := { dst := some 25, op := _, type := _, pos := _, after := _, guard := _ }) (v := ?vx7) rfl (by kernel_rfl) (by kernel_rfl) (by kernel_rfl) (fun _ _ _ h => h) (Or.inl ⟨by rfl, ?hyx7⟩) (by assumption) ?restx7
  case hyx7 => (intro w hSw; (try dsimp only at hSw); go_simp; try with_reducible rfl)
  try simp only [Act.put, List.setIfInBounds_toArray, List.set_cons_zero, List.set_cons_succ]
  refine wpAnyH_take (i := 8) (oi := { dst := some 26, op := _, type := _, pos := _, after := _, guard := _ }) (v := ?vx8) rfl (by kernel_rfl) (by kernel_rfl) (by kernel_rfl) (fun _ _ _ h => h) (Or.inl ⟨by rfl, ?hyx8⟩) (by assumption) ?restx8
  case hyx8 => (intro w hSw; (try dsimp only at hSw); go_simp; try with_reducible rfl)
  try simp only [Act.put, List.setIfInBounds_toArray, List.set_cons_zero, List.set_cons_succ]
  refine wpAnyH_take (i := 9) (oi := { dst := some 27, op := _, type := _, pos := _, after := _, guard := _ }) (v := ?vx9) rfl (by kernel_rfl) (by kernel_rfl) (by kernel_rfl) (fun _ _ _ h => h) (Or.inl ⟨by rfl, ?hyx9⟩) (by assumption) ?restx9
  case hyx9 => (intro w hSw; (try dsimp only at hSw); go_simp; try with_reducible rfl)
  try simp only [Act.put, List.setIfInBounds_toArray, List.set_cons_zero, List.set_cons_succ]
  refine wpAnyH_take (i := 10) (oi := { dst := some 28, op := _, type := _, pos := _, after := _, guard := _ }) (v := ?vx10) rfl (by kernel_rfl) (by kernel_rfl) (by kernel_rfl) (fun _ _ _ h => h) (Or.inl ⟨by rfl, ?hyx10⟩) (by assumption) ?restx10
  case hyx10 => (intro w hSw; (try dsimp only at hSw); go_simp; try with_reducible rfl)
  try simp only [Act.put, List.setIfInBounds_toArray, List.set_cons_zero, List.set_cons_succ]
  refine wpAnyH_take (i := 11) (oi := { dst := some 29, op := _, type := _, pos := _, after := _, guard := _ }) (v := ?vx11) rfl (by kernel_rfl) (by kernel_rfl) (by kernel_rfl) (fun _ _ _ h => h) (Or.inl ⟨by rfl, ?hyx11⟩) (by assumption) ?restx11
  case hyx11 => (intro w hSw; (try dsimp only at hSw); go_simp; try with_reducible rfl)
  try simp only [Act.put, List.setIfInBounds_toArray, List.set_cons_zero, List.set_cons_succ]
  refine wpAnyH_ready (rs := [12]) (by kernel_rfl) (by simp) ?_
  refine AllReadyH.cons (o := { dst := some 30, op := _, type := _, pos := _, after := _, guard := _ }) rfl (fun K hK => ?_) AllReadyH.nil
  go_simp
  (with_reducible refine (same_any H5.out.2.1.ss (HT.out.2.2.1.ss.later B5.out) hdl.out).mono ?_)
  rintro e w6 ⟨rfl, nq, hb6⟩
  rw [decide_eq_true (rfl : T.ds = T.ds)]
  have hb6' : Below w5.heap.size w5 w6 := by subst hb6; exact bd _ _
  have B6 : Hid (Below W.heap.size W w6) := bstep B5.out hb6'
  have H6 : Hid (OwnF W.heap.size w6 (.slice fa NF fc_) T.fs ∧ Oww W.heap.size w6 (.slice da ND dc) T.ds ∧ OwnB W.heap.size w6 (.slice ja NJ jc) T.jl) := ⟨H5.out.1.later hb6', H5.out.2.1.later hb6', H5.out.2.2.later hb6'⟩
  clear hb6 hb6'
  refine hK.out _ _ (HS.out w6 B6.out) (fun hHeld => ?_)
  clear hK K
  try simp only [List.setIfInBounds_toArray, List.set_cons_zero, List.set_cons_succ]
  refine wpAnyH_take (i := 13) (oi := { dst := some 31, op := _, type := _, pos := _, after := _, guard := _ }) (v := ?vx12) rfl (by kernel_rfl) (by kernel_rfl) (by kernel_rfl) (fun _ _ _ h => h) (Or.inl ⟨by rfl, ?hyx12⟩) (by assumption) ?restx12
  case hyx12 => (intro w hSw; (try dsimp only at hSw); go_simp; try with_reducible rfl)
  try simp only [Act.put, List.setIfInBounds_toArray, List.set_cons_zero, List.set_cons_succ]
  refine wpAnyH_take (i := 14) (oi := { dst := some 32, op := _, type := _, pos := _, after := _, guard := _ }) (v := ?vx13) rfl (by kernel_rfl) (by kernel_rfl) (by kernel_rfl) (fun _ _ _ h => h) (Or.inl ⟨by rfl, ?hyx13⟩) (by assumption) ?restx13
  case hyx13 => (intro w hSw; (try dsimp only at hSw); go_simp; try with_reducible rfl)
  try simp only [Act.put, List.setIfInBounds_toArray, List.set_cons_zero, List.set_cons_succ]
  refine wpAnyH_take (i := 15) (oi := { dst := some 33, op := _, type := _, pos := _, after := _, guard := _ }) (v := ?vx14) rfl (by kernel_rfl) (by kernel_rfl) (by kernel_rfl) (fun _ _ _ h => h) (Or.inl ⟨by rfl, ?hyx14⟩) (by assumption) ?restx14
  case hyx14 => (intro w hSw; (try dsimp only at hSw); go_simp; try with_reducible rfl)
  try simp only [Act.put, List.setIfInBounds_toArray, List.set_cons_zero, List.set_cons_succ]
  refine wpAnyH_take (i := 17) (oi := { dst := some 35, op := _, type := _, pos := _, after := _, guard := _ }) (v := ?vx15) rfl (by kernel_rfl) (by kernel_rfl) (by kernel_rfl) (fun _ _ _ h => h) (Or.inl ⟨by rfl, ?hyx15⟩) (by assumption) ?restx15
  case hyx15 => (intro w hSw; (try dsimp only at hSw); go_simp; try with_reducible rfl)
  try simp only [Act.put, List.setIfInBounds_toArray, List.set_cons_zero, List.set_cons_succ]
  refine wpAnyH_take (i := 18) (oi := { dst := some 36, op := _, type := _, pos := _, after := _, guard := _ }) (v := ?vx16) rfl (by kernel_rfl) (by kernel_rfl) (by kernel_rfl) (fun _ _ _ h => h) (Or.inl ⟨by rfl, ?hyx16⟩) (by assumption) ?restx16
  case hyx16 => (intro w hSw; (try dsimp only at hSw); go_simp; try with_reducible rfl)
  try simp only [Act.put, List.setIfInBounds_toArray, List.set_cons_zero, List.set_cons_succ]
  refine wpAnyH_take (i := 19) (oi := { dst := some 37, op := _, type := _, pos := _, after := _, guard := _ }) (v := ?vx17) rfl (by kernel_rfl) (by kernel_rfl) (by kernel_rfl) (fun _ _ _ h => h) (Or.inl ⟨by rfl, ?hyx17⟩) (by assumption) ?restx17
  case hyx17 => (intro w hSw; (try dsimp only at hSw); go_simp; try with_reducible rfl)
  try simp only [Act.put, List.setIfInBounds_toArray, List.set_cons_zero, List.set_cons_succ]
  refine wpAnyH_take (i := 20) (oi := { dst := some 38, op := _, type := _, pos := _, after := _, guard := _ }) (v := ?vx18) rfl (by kernel_rfl) (by kernel_rfl) (by kernel_rfl) (fun _ _ _ h => h) (Or.inl ⟨by rfl, ?hyx18⟩) (by assumption) ?restx18
  case hyx18 => (intro w hSw; (try dsimp only at hSw); go_simp; try with_reducible rfl)
  try simp only [Act.put, List.setIfInBounds_toArray, List.set_cons_zero, List.set_cons_succ]
  refine wpAnyH_ready (rs := [16, 21]) (by kernel_rfl) (by simp) ?_
  refine AllReadyH.cons (o := { dst := some 34, op := _, type := _, pos := _, after := _, guard := _ }) rfl (fun K hK => ?_) (AllReadyH.cons (o := { dst := some 39, op := _, type := _, pos := _, after := _, guard := _ }) rfl (fun K hK => ?_) AllReadyH.nil)
  · go_simp
    rw [show (convert 32 9 (.slice ja NJ jc)).run Tryz.prog w6 = .ok (.string (bs T.jl)) w6 from conv_bs (H6.out.2.2.bs)]
    go_simp
    refine hK.out _ _ (HS.out w6 B6.out) (fun hHeld => ?_)
    clear hK K
    try simp only [List.setIfInBounds_toArray, List.set_cons_zero, List.set_cons_succ]
    refine wpAnyH_ready (rs := [21]) (by kernel_rfl) (by simp) ?_
    refine AllReadyH.cons (o := { dst := some 39, op := _, type := _, pos := _, after := _, guard := _ }) rfl (fun K hK => ?_) AllReadyH.nil
    go_simp
    rw [show (convert 32 9 xj).run Tryz.prog w6 = .ok (.string (bs T.jl)) w6 from conv_bs (HT.out.2.2.2.bs.later B6.out)]
    go_simp
    refine hK.out _ _ (HS.out w6 B6.out) (fun hHeld => ?_)
    clear hK K
    try simp only [List.setIfInBounds_toArray, List.set_cons_zero, List.set_cons_succ]
    refine wpAnyH_take (i := 22) (oi := { dst := some 40, op := _, type := _, pos := _, after := _, guard := _ }) (v := ?vx19) rfl (by kernel_rfl) (by kernel_rfl) (by kernel_rfl) (fun _ _ _ h => h) (Or.inl ⟨by rfl, ?hyx19⟩) (by assumption) ?restx19
    case hyx19 => (intro w hSw; (try dsimp only at hSw); go_simp; try with_reducible rfl)
    try simp only [Act.put, List.setIfInBounds_toArray, List.set_cons_zero, List.set_cons_succ]
    refine wpAnyH_take (i := 23) (oi := { dst := some 41, op := _, type := _, pos := _, after := _, guard := _ }) (v := ?vx20) rfl (by kernel_rfl) (by kernel_rfl) (by kernel_rfl) (fun _ _ _ h => h) (Or.inl ⟨by rfl, ?hyx20⟩) (by assumption) ?restx20
    case hyx20 => (intro w hSw; (try dsimp only at hSw); go_simp; try with_reducible rfl)
    try simp only [Act.put, List.setIfInBounds_toArray, List.set_cons_zero, List.set_cons_succ]
    refine wpAnyH_take (i := 24) (oi := { dst := some 42, op := _, type := _, pos := _, after := _, guard := _ }) (v := ?vx21) rfl (by kernel_rfl) (by kernel_rfl) (by kernel_rfl) (fun _ _ _ h => h) (Or.inl ⟨by rfl, ?hyx21⟩) (by assumption) ?restx21
    case hyx21 => (intro w hSw; (try dsimp only at hSw); go_simp; try with_reducible rfl)
    try simp only [Act.put, List.setIfInBounds_toArray, List.set_cons_zero, List.set_cons_succ]
    refine wpAnyH_take (i := 25) (oi := { dst := some 43, op := _, type := _, pos := _, after := _, guard := _ }) (v := ?vx22) rfl (by kernel_rfl) (by kernel_rfl) (by kernel_rfl) (fun _ _ _ h => h) (Or.inl ⟨by rfl, ?hyx22⟩) (by assumption) ?restx22
    case hyx22 => (intro w hSw; (try dsimp only at hSw); go_simp; try with_reducible rfl)
    try simp only [Act.put, List.setIfInBounds_toArray, List.set_cons_zero, List.set_cons_succ]
    refine wpAnyH_take (i := 27) (oi := { dst := some 45, op := _, type := _, pos := _, after := _, guard := _ }) (v := ?vx23) rfl (by kernel_rfl) (by kernel_rfl) (by kernel_rfl) (fun _ _ _ h => h) (Or.inl ⟨by rfl, ?hyx23⟩) (by assumption) ?restx23
    case hyx23 => (intro w hSw; (try dsimp only at hSw); go_simp; try with_reducible rfl)
    try simp only [Act.put, List.setIfInBounds_toArray, List.set_cons_zero, List.set_cons_succ]
    refine wpAnyH_take (i := 28) (oi := { dst := some 46, op := _, type := _, pos := _, after := _, guard := _ }) (v := ?vx24) rfl (by kernel_rfl) (by kernel_rfl) (by kernel_rfl) (fun _ _ _ h => h) (Or.inl ⟨by rfl, ?hyx24⟩) (by assumption) ?restx24
    case hyx24 => (intro w hSw; (try dsimp only at hSw); go_simp; try with_reducible rfl)
    try simp only [Act.put, List.setIfInBounds_toArray, List.set_cons_zero, List.set_cons_succ]
    refine wpAnyH_take (i := 29) (oi := { dst := some 47, op := _, type := _, pos := _, after := _, guard := _ }) (v := ?vx25) rfl (by kernel_rfl) (by kernel_rfl) (by kernel_rfl) (fun _ _ _ h => h) (Or.inl ⟨by rfl, ?hyx25⟩) (by assumption) ?restx25
    case hyx25 => (intro w hSw; (try dsimp only at hSw); go_simp; try with_reducible rfl)
    try simp only [Act.put, List.setIfInBounds_toArray, List.set_cons_zero, List.set_cons_succ]
    refine wpAnyH_take (i := 30) (oi := { dst := some 48, op := _, type := _, pos := _, after := _, guard := _ }) (v := ?vx26) rfl (by kernel_rfl) (by kernel_rfl) (by kernel_rfl) (fun _ _ _ h => h) (Or.inl ⟨by rfl, ?hyx26⟩) (by assumption) ?restx26
    case hyx26 => (intro w hSw; (try dsimp only at hSw); go_simp; try with_reducible rfl)
    try simp only [Act.put, List.setIfInBounds_toArray, List.set_cons_zero, List.set_cons_succ]
    refine wpAnyH_ready (rs := [26]) (by kernel_rfl) (by simp) ?_
    refine AllReadyH.cons (o := { dst := some 44, op := _, type := _, pos := _, after := _, guard := _ }) rfl (fun K hK => ?_) AllReadyH.nil
    go_simp
    (with_reducible refine (C.sts (C.later HT.out.1 B6.out) hz).mono ?_)
    rintro e w7 ⟨rfl, hb7⟩
    have B7 : Hid (Below W.heap.size W w7) := bstep B6.out hb7
    have H7 : Hid (OwnF W.heap.size w7 (.slice fa NF fc_) T.fs ∧ Oww W.heap.size w7 (.slice da ND dc) T.ds ∧ OwnB W.heap.size w7 (.slice ja NJ jc) T.jl) := ⟨H6.out.1.later hb7, H6.out.2.1.later hb7, H6.out.2.2.later hb7⟩
    clear hb7
    refine hK.out _ _ (HS.out w7 B7.out) (fun hHeld => ?_)
    clear hK K
    try simp only [List.setIfInBounds_toArray, List.set_cons_zero, List.set_cons_succ]
    refine wpAnyH_take (i := 31) (oi := { dst := some 49, op := _, type := _, pos := _, after := _, guard := _ }) (v := ?vx27) rfl (by kernel_rfl) (by kernel_rfl) (by kernel_rfl) (fun _ _ _ h => h) (Or.inl ⟨by rfl, ?hyx27⟩) (by assumption) ?restx27
    case hyx27 => (intro w hSw; (try dsimp only at hSw); go_simp; try with_reducible rfl)
    try simp only [Act.put, List.setIfInBounds_toArray, List.set_cons_zero, List.set_cons_succ]
    refine wpAnyH_take (i := 32) (oi := { dst := some 50, op := _, type := _, pos := _, after := _, guard := _ }) (v := ?vx28) rfl (by kernel_rfl) (by kernel_rfl) (by kernel_rfl) (fun _ _ _ h => h) (Or.inl ⟨by rfl, ?hyx28⟩) (by assumption) ?restx28
    case hyx28 => (intro w hSw; (try dsimp only at hSw); go_simp; try with_reducible rfl)
    try simp only [Act.put, List.setIfInBounds_toArray, List.set_cons_zero, List.set_cons_succ]
    refine wpAnyH_take (i := 33) (oi := { dst := some 8, op := _, type := _, pos := _, after := _, guard := _ }) (v := ?vx29) rfl (by kernel_rfl) (by kernel_rfl) (by kernel_rfl) (fun _ _ _ h => h) (Or.inl ⟨by rfl, ?hyx29⟩) (by assumption) ?restx29
    case hyx29 => (intro w hSw; (try dsimp only at hSw); go_simp; try with_reducible rfl)
    try simp only [Act.put, List.setIfInBounds_toArray, List.set_cons_zero, List.set_cons_succ]
    refine wpAnyH_done (by kernel_rfl) ?_ _
    refine NoPanic.normal ?_
    clear hHeld
    refine HK2.out _ _ ?_
    clear HK2
    exact told5 ⟨B7.out, ⟨_, HN.out.1, H7.out.1⟩, ⟨_, HN.out.2.1, H7.out.2.1⟩, ⟨_, HN.out.2.2, H7.out.2.2⟩⟩ hb
  · go_simp
    rw [show (convert 32 9 xj).run Tryz.prog w6 = .ok (.string (bs T.jl)) w6 from conv_bs (HT.out.2.2.2.bs.later B6.out)]
    go_simp
    refine hK.out _ _ (HS.out w6 B6.out) (fun hHeld => ?_)
    clear hK K
    try simp only [List.setIfInBounds_toArray, List.set_cons_zero, List.set_cons_succ]
    refine wpAnyH_ready (rs := [16]) (by kernel_rfl) (by simp) ?_
    refine AllReadyH.cons (o := { dst := some 34, op := _, type := _, pos := _, after := _, guard := _ }) rfl (fun K hK => ?_) AllReadyH.nil
    go_simp
    rw [show (convert 32 9 (.slice ja NJ jc)).run Tryz.prog w6 = .ok (.string (bs T.jl)) w6 from conv_bs (H6.out.2.2.bs)]
    go_simp
    refine hK.out _ _ (HS.out w6 B6.out) (fun hHeld => ?_)
    clear hK K
    try simp only [List.setIfInBounds_toArray, List.set_cons_zero, List.set_cons_succ]
    refine wpAnyH_take (i := 22) (oi := { dst := some 40, op := _, type := _, pos := _, after := _, guard := _ }) (v := ?vx30) rfl (by kernel_rfl) (by kernel_rfl) (by kernel_rfl) (fun _ _ _ h => h) (Or.inl ⟨by rfl, ?hyx30⟩) (by assumption) ?restx30
    case hyx30 => (intro w hSw; (try dsimp only at hSw); go_simp; try with_reducible rfl)
    try simp only [Act.put, List.setIfInBounds_toArray, List.set_cons_zero, List.set_cons_succ]
    refine wpAnyH_take (i := 23) (oi := { dst := some 41, op := _, type := _, pos := _, after := _, guard := _ }) (v := ?vx31) rfl (by kernel_rfl) (by kernel_rfl) (by kernel_rfl) (fun _ _ _ h => h) (Or.inl ⟨by rfl, ?hyx31⟩) (by assumption) ?restx31
    case hyx31 => (intro w hSw; (try dsimp only at hSw); go_simp; try with_reducible rfl)
    try simp only [Act.put, List.setIfInBounds_toArray, List.set_cons_zero, List.set_cons_succ]
    refine wpAnyH_take (i := 24) (oi := { dst := some 42, op := _, type := _, pos := _, after := _, guard := _ }) (v := ?vx32) rfl (by kernel_rfl) (by kernel_rfl) (by kernel_rfl) (fun _ _ _ h => h) (Or.inl ⟨by rfl, ?hyx32⟩) (by assumption) ?restx32
    case hyx32 => (intro w hSw; (try dsimp only at hSw); go_simp; try with_reducible rfl)
    try simp only [Act.put, List.setIfInBounds_toArray, List.set_cons_zero, List.set_cons_succ]
    refine wpAnyH_take (i := 25) (oi := { dst := some 43, op := _, type := _, pos := _, after := _, guard := _ }) (v := ?vx33) rfl (by kernel_rfl) (by kernel_rfl) (by kernel_rfl) (fun _ _ _ h => h) (Or.inl ⟨by rfl, ?hyx33⟩) (by assumption) ?restx33
    case hyx33 => (intro w hSw; (try dsimp only at hSw); go_simp; try with_reducible rfl)
    try simp only [Act.put, List.setIfInBounds_toArray, List.set_cons_zero, List.set_cons_succ]
    refine wpAnyH_take (i := 27) (oi := { dst := some 45, op := _, type := _, pos := _, after := _, guard := _ }) (v := ?vx34) rfl (by kernel_rfl) (by kernel_rfl) (by kernel_rfl) (fun _ _ _ h => h) (Or.inl ⟨by rfl, ?hyx34⟩) (by assumption) ?restx34
    case hyx34 => (intro w hSw; (try dsimp only at hSw); go_simp; try with_reducible rfl)
    try simp only [Act.put, List.setIfInBounds_toArray, List.set_cons_zero, List.set_cons_succ]
    refine wpAnyH_take (i := 28) (oi := { dst := some 46, op := _, type := _, pos := _, after := _, guard := _ }) (v := ?vx35) rfl (by kernel_rfl) (by kernel_rfl) (by kernel_rfl) (fun _ _ _ h => h) (Or.inl ⟨by rfl, ?hyx35⟩) (by assumption) ?restx35
    case hyx35 => (intro w hSw; (try dsimp only at hSw); go_simp; try with_reducible rfl)
    try simp only [Act.put, List.setIfInBounds_toArray, List.set_cons_zero, List.set_cons_succ]
    refine wpAnyH_take (i := 29) (oi := { dst := some 47, op := _, type := _, pos := _, after := _, guard := _ }) (v := ?vx36) rfl (by kernel_rfl) (by kernel_rfl) (by kernel_rfl) (fun _ _ _ h => h) (Or.inl ⟨by rfl, ?hyx36⟩) (by assumption) ?restx36
    case hyx36 => (intro w hSw; (try dsimp only at hSw); go_simp; try with_reducible rfl)
    try simp only [Act.put, List.setIfInBounds_toArray, List.set_cons_zero, List.set_cons_succ]
    refine wpAnyH_take (i := 30) (oi := { dst := some 48, op := _, type := _, pos := _, after := _, guard := _ }) (v := ?vx37) rfl (by kernel_rfl) (by kernel_rfl) (by kernel_rfl) (fun _ _ _ h => h) (Or.inl ⟨by rfl, ?hyx37⟩) (by assumption) ?restx37
    case hyx37 => (intro w hSw; (try dsimp only at hSw); go_simp; try with_reducible rfl)
    try simp only [Act.put, List.setIfInBounds_toArray, List.set_cons_zero, List.set_cons_succ]
    refine wpAnyH_ready (rs := [26]) (by kernel_rfl) (by simp) ?_
    refine AllReadyH.cons (o := { dst := some 44, op := _, type := _, pos := _, after := _, guard := _ }) rfl (fun K hK => ?_) AllReadyH.nil
    go_simp
    (with_reducible refine (C.sts (C.later HT.out.1 B6.out) hz).mono ?_)
    rintro e w7 ⟨rfl, hb7⟩
    have B7 : Hid (Below W.heap.size W w7) := bstep B6.out hb7
    have H7 : Hid (OwnF W.heap.size w7 (.slice fa NF fc_) T.fs ∧ Oww W.heap.size w7 (.slice da ND dc) T.ds ∧ OwnB W.heap.size w7 (.slice ja NJ jc) T.jl) := ⟨H6.out.1.later hb7, H6.out.2.1.later hb7, H6.out.2.2.later hb7⟩
    clear hb7
    refine hK.out _ _ (HS.out w7 B7.out) (fun hHeld => ?_)
    clear hK K
    try simp only [List.setIfInBounds_toArray, List.set_cons_zero, List.set_cons_succ]
    refine wpAnyH_take (i := 31) (oi := { dst := some 49, op := _, type := _, pos := _, after := _, guard := _ }) (v := ?vx38) rfl (by kernel_rfl) (by kernel_rfl) (by kernel_rfl) (fun _ _ _ h => h) (Or.inl ⟨by rfl, ?hyx38⟩) (by assumption) ?restx38
    case hyx38 => (intro w hSw; (try dsimp only at hSw); go_simp; try with_reducible rfl)
    try simp only [Act.put, List.setIfInBounds_toArray, List.set_cons_zero, List.set_cons_succ]
    refine wpAnyH_take (i := 32) (oi := { dst := some 50, op := _, type := _, pos := _, after := _, guard := _ }) (v := ?vx39) rfl (by kernel_rfl) (by kernel_rfl) (by kernel_rfl) (fun _ _ _ h => h) (Or.inl ⟨by rfl, ?hyx39⟩) (by assumption) ?restx39
    case hyx39 => (intro w hSw; (try dsimp only at hSw); go_simp; try with_reducible rfl)
    try simp only [Act.put, List.setIfInBounds_toArray, List.set_cons_zero, List.set_cons_succ]
    refine wpAnyH_take (i := 33) (oi := { dst := some 8, op := _, type := _, pos := _, after := _, guard := _ }) (v := ?vx40) rfl (by kernel_rfl) (by kernel_rfl) (by kernel_rfl) (fun _ _ _ h => h) (Or.inl ⟨by rfl, ?hyx40⟩) (by assumption) ?restx40
    case hyx40 => (intro w hSw; (try dsimp only at hSw); go_simp; try with_reducible rfl)
    try simp only [Act.put, List.setIfInBounds_toArray, List.set_cons_zero, List.set_cons_succ]
    refine wpAnyH_done (by kernel_rfl) ?_ _
    refine NoPanic.normal ?_
    clear hHeld
    refine HK2.out _ _ ?_
    clear HK2
    exact told5 ⟨B7.out, ⟨_, HN.out.1, H7.out.1⟩, ⟨_, HN.out.2.1, H7.out.2.1⟩, ⟨_, HN.out.2.2, H7.out.2.2⟩⟩ hb
end Go.Proofs.YtlkkmcibjhoneaaGreatDoor
