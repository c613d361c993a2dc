/-
  The law TreeFresh: of the contracts.
-/
import Derived.Test.YtlkkmcibjhoneaaGreatDoorGd
import Derived.OrdersHeld
import Derived.Deep.Cut
namespace Go.Proofs.YtlkkmcibjhoneaaGreatDoor
open Go.RowKit
attribute [local go_sem] Oper.semAt_some

theorem lent_take (L : List (List UInt8)) : (lentL L).take L.length = L := by unfold lentL; simp
theorem ap_new (l : List Fl) (b : List UInt8) : ((newT l).ap b).1 = { (newT l).up 1 with jl := b } := by
  unfold TT.ap TT.step
  rw [cnt_free rfl]
  rfl
theorem Tb.bel' {TA : World → (Nat → Prop) → Nat → TT → Prop} {B c : Nat} {w w1 : World} {T : TT} (h : Tb TA B w w1 c T) : Below B w w1 := by
  obtain ⟨_, _, h, _⟩ := h
  exact h
theorem fr_ready {TA : World → (Nat → Prop) → Nat → TT → Prop} (C : TcP TA) {w w0 w1 w2 w3 w4 w5 w6 : World} {t NF xc NB jc ND dc gw : Nat} {xa ja da : Option Addr} {T : TT} {b : List UInt8} {vl vy vk : Value}
    (hB4 : 4 ≤ w.heap.size) (h : Tb TA w.heap.size w w0 t T) (_ : FS w vl T.fs) (hl : T.fs.length = NF ∧ T.ds.length = ND ∧ b.length = NB ∧ T.jl = b)
    (ox : OwnF w0.heap.size w1 (.slice xa NF xc) T.fs) (oy : OwnF w1.heap.size w2 vy T.fs) (oj : OwnB w2.heap.size w3 (.slice ja NB jc) T.jl) (ok : OwnB w3.heap.size w4 vk T.jl) (od : Oww w4.heap.size w5 (.slice da ND dc) T.ds)
    (hg : w5.heap.size = gw) (ow : Own gw w6 (.slice (some ⟨gw, 0, none⟩) (ND + 30) (ND + 30)) (lentL T.ds))
    (b1 : Below w0.heap.size w0 w1) (b2 : Below w1.heap.size w1 w2) (b3 : Below w2.heap.size w2 w3) (b4 : Below w3.heap.size w3 w4) (b5 : Below w4.heap.size w4 w5) (b6 : Below w5.heap.size w5 w6) (hb : Below w.heap.size w w6) :
    FrX TA (fun k => k < w6.heap.size ∧ (Value.slice xa NF xc).ownBlock ≠ some k ∧ (Value.slice ja NB jc).ownBlock ≠ some k ∧ (Value.slice da ND dc).ownBlock ≠ some k) w w6 t T b vy vk (.slice (some ⟨gw, 0, none⟩) ND (ND + 30)) ∧ AnX (fun k => k < w6.heap.size ∧ (Value.slice xa NF xc).ownBlock ≠ some k ∧ (Value.slice ja NB jc).ownBlock ≠ some k ∧ (Value.slice da ND dc).ownBlock ≠ some k) w6 T b (.slice xa NF xc) (.slice ja NB jc) (.slice da ND dc) := by
  obtain ⟨F, h1, h2, h3, h4⟩ := h
  obtain ⟨l1, l2, l3, l4⟩ := hl
  rw [l4] at oj ok
  have z1 := b1.size
  have z2 := b2.size
  have z3 := b3.size
  have z4 := b4.size
  have z5 := b5.size
  have z6 := b6.size
  have e56 := b6
  have e46 := bstep b5 e56
  have e36 := bstep b4 e46
  have e26 := bstep b3 e36
  have e16 := bstep b2 e26
  have e06 := bstep b1 e16
  have kx : ∀ k, (Value.slice xa NF xc).ownBlock = some k → w0.heap.size ≤ k ∧ k < w1.heap.size := fun k hk => ox.lt hk
  have ky : ∀ k, vy.ownBlock = some k → w1.heap.size ≤ k ∧ k < w2.heap.size := fun k hk => oy.lt hk
  have kj : ∀ k, (Value.slice ja NB jc).ownBlock = some k → w2.heap.size ≤ k ∧ k < w3.heap.size := fun k hk => oj.lt hk
  have kk : ∀ k, vk.ownBlock = some k → w3.heap.size ≤ k ∧ k < w4.heap.size := fun k hk => ok.lt hk
  have kd : ∀ k, (Value.slice da ND dc).ownBlock = some k → w4.heap.size ≤ k ∧ k < w5.heap.size := fun k hk => od.lt hk
  have kw := ow.lt (k := gw) rfl
  have nx : ∀ k, (k < w0.heap.size ∨ w1.heap.size ≤ k) → (Value.slice xa NF xc).ownBlock ≠ some k := fun k hk e => by have := kx k e; omega
  have nj : ∀ k, (k < w2.heap.size ∨ w3.heap.size ≤ k) → (Value.slice ja NB jc).ownBlock ≠ some k := fun k hk e => by have := kj k e; omega
  have nd : ∀ k, (k < w4.heap.size ∨ w5.heap.size ≤ k) → (Value.slice da ND dc).ownBlock ≠ some k := fun k hk e => by have := kd k e; omega
  refine ⟨⟨hb, fun k hk => ⟨?_, nx k (by omega), nj k (by omega), nd k (by omega)⟩, fun k hk => hk.1, ⟨F, C.later h1 e06, fun k hk => ⟨⟨?_, nx k (.inl (C.lt h1 k hk)), nj k ?_, nd k ?_⟩, h4 k hk⟩⟩,
    ⟨oy.fs.later e26, fun k hk => ⟨?_, nx k ?_, nj k ?_, nd k ?_⟩⟩, ⟨ok.bs.later e46, fun k hk => ⟨?_, nx k ?_, nj k ?_, nd k ?_⟩⟩, ⟨?_, fun k hk => ?_⟩, hB4⟩,
    ⟨⟨_, ?_, ox.later e16, fun k hk h => h.2.1 hk⟩, ⟨_, ?_, oj.later e36, fun k hk h => h.2.2.1 hk⟩, ⟨_, ?_, od.later e56, fun k hk => ⟨fun h => h.2.2.2 hk, ?_⟩⟩⟩⟩
  · omega
  · have := C.lt h1 k hk; omega
  · have := C.lt h1 k hk; omega
  · have := C.lt h1 k hk; omega
  · have := ky k hk; omega
  · have := ky k hk; omega
  · have := ky k hk; omega
  · have := ky k hk; omega
  · have := kk k hk; omega
  · have := kk k hk; omega
  · have := kk k hk; omega
  · have := kk k hk; omega
  · have := ss_of_own ow (n := ND) (c' := ND + 30) (by rw [lentL_length]; omega) (by omega)
    rw [← l2] at this
    rw [lent_take] at this
    rwa [l2] at this
  · have e : gw = k := by simpa [Value.ownBlock] using hk
    subst e
    exact ⟨kw.2, nx _ (by omega), nj _ (by omega), nd _ (by omega)⟩
  · omega
  · omega
  · omega
  · have := kd k hk; omega
set_option maxRecDepth 100000 in
set_option maxHeartbeats 16000000 in
theorem fr5 {TA : World → (Nat → Prop) → Nat → TT → Prop} (C : TcP TA) {w : World} {t NF lc NB cb ND : Nat} {la ba : Option Addr} {T : TT} {b : List UInt8} {w0 : World} {lv2 lv3 lv4 lv6 lv7 lv8 lv9 lv10 lv11 lv12 lv13 lv14 lv15 lv16 lv17 lv18 lv19 lv20 lv21 lv22 lv23 lv24 lv25 lv26 lv27 lv28 lv29 lv30 lv31 lv32 lv33 lv34 lv35 lv36 lv37 lv38 lv39 lv40 lv41 lv42 lv43 lv44 lv45 lv46 lv47 lv48 lv49 lv50 lv51 lv52 lv53 lv54 lv55 lv56 lv57 lv58 lv59 lv60 lv61 lv62 lv63 lv64 lv65 lv66 lv67 lv68 lv69 lv70 lv71 lv72 lv73 lv74 lv75 lv76 lv77 lv78 lv79 lv80 lv81 lv82 lv83 lv84 lv85 lv86 lv87 lv88 lv89 lv90 lv91 lv92 lv93 lv94 lv95 lv96 lv97 lv98 lv99 lv100 lv101 lv102 lv103 lv104 lv105 lv106 lv107 lv108 lv109 lv110 lv111 lv112 lv113 lv114 lv115 lv116 lv117 lv118 lv119 lv120 lv121 lv122 lv123 lv124 lv125 lv126 lv127 lv128 lv129 lv130 lv131 lv132 lv133 lv134 lv135 lv136 lv137 lv138 lv139 lv140 lv141 lv142 lv143 lv144 lv145 lv146 lv147 lv148 lv149 lv150 lv151 lv152 lv153 lv154 lv155 lv156 lv157 lv158 lv159 lv160 lv161 lv162 lv163 lv164 lv165 : Value}
    (hB4 : Hid (4 ≤ w.heap.size)) (T0 : Hid (Tb TA w.heap.size w w0 t T)) (H0 : Hid (FS w (.slice la NF lc) T.fs ∧ BS w (.slice ba NB cb) b)) (hz : Hid (TSz 4000000 T)) (hl : Hid (T.fs.length = NF ∧ T.ds.length = ND ∧ b.length = NB ∧ T.jl = b)) (hb : NF ≤ 4000000 ∧ NB ≤ 4000000 ∧ ND ≤ 4000000) (hSm : Hid (Sm T.ds)) :
    Code.wp Tryz.prog (suff 5 (Tryz.f4.body.getD .skip)) (bodyPost Tryz.prog Tryz.f4 (fun e w' => e = .returned (.bool true) ∧ Below w.heap.size w w')) ⟨#[.slice la NF lc, .slice ba NB cb, lv2, lv3, lv4, .pointer (some ⟨t, 0, none⟩), lv6, lv7, lv8, lv9, lv10, lv11, lv12, lv13, lv14, lv15, lv16, lv17, lv18, lv19, lv20, lv21, lv22, lv23, lv24, lv25, lv26, lv27, lv28, lv29, lv30, lv31, lv32, lv33, lv34, lv35, lv36, lv37, lv38, lv39, lv40, lv41, lv42, lv43, lv44, lv45, lv46, lv47, lv48, lv49, lv50, lv51, lv52, lv53, lv54, lv55, lv56, lv57, lv58, lv59, lv60, lv61, lv62, lv63, lv64, lv65, lv66, lv67, lv68, lv69, lv70, lv71, lv72, lv73, lv74, lv75, lv76, lv77, lv78, lv79, lv80, lv81, lv82, lv83, lv84, lv85, lv86, lv87, lv88, lv89, lv90, lv91, lv92, lv93, lv94, lv95, lv96, lv97, lv98, lv99, lv100, lv101, lv102, lv103, lv104, lv105, lv106, lv107, lv108, lv109, lv110, lv111, lv112, lv113, lv114, lv115, lv116, lv117, lv118, lv119, lv120, lv121, lv122, lv123, lv124, lv125, lv126, lv127, lv128, lv129, lv130, lv131, lv132, lv133, lv134, lv135, lv136, lv137, lv138, lv139, lv140, lv141, lv142, lv143, lv144, lv145, lv146, lv147, lv148, lv149, lv150, lv151, lv152, lv153, lv154, lv155, lv156, lv157, lv158, lv159, lv160, lv161, lv162, lv163, lv164, lv165], []⟩ w0 := by
  conv => arg 2; whnf
  obtain ⟨b1, b2, b3⟩ := hb
  refine wp_seq_k fun KK hKK => ?_
  have HK_ : Hid _ := hKK
  clear hKK
  go_wp2_with fail
  refine (Tb.files C (T0.out) hz.out).mono ?_
  rintro e w1 ⟨vx, rfl, ho, hbx⟩
  have T1 : Hid (Tb TA w.heap.size w w1 t T) := T0.out.later C hbx
  have Ovx : Hid (OwnF w0.heap.size w1 vx T.fs) := ho
  have B1 : Hid (Below w0.heap.size w0 w1) := hbx
  clear ho hbx
  go_wp2_with fail
  refine HK_.out _ _ ?_
  clear HK_
  refine wp_seq_k fun KK hKK => ?_
  have HK_ : Hid _ := hKK
  clear hKK
  go_wp2_with fail
  refine (Tb.files C (T1.out) hz.out).mono ?_
  rintro e w2 ⟨vy, rfl, ho, hbx⟩
  have T2 : Hid (Tb TA w.heap.size w w2 t T) := T1.out.later C hbx
  have Ovy : Hid (OwnF w1.heap.size w2 vy T.fs) := ho
  have B2 : Hid (Below w1.heap.size w1 w2) := hbx
  clear ho hbx
  go_wp2_with fail
  refine HK_.out _ _ ?_
  clear HK_
  refine wp_seq_k fun KK hKK => ?_
  have HK_ : Hid _ := hKK
  clear hKK
  go_wp2_with fail
  refine (Tb.jou C (T2.out) hz.out).mono ?_
  rintro e w3 ⟨vj, rfl, ho, hbx⟩
  have T3 : Hid (Tb TA w.heap.size w w3 t T) := T2.out.later C hbx
  have Ovj : Hid (OwnB w2.heap.size w3 vj T.jl) := ho
  have B3 : Hid (Below w2.heap.size w2 w3) := hbx
  clear ho hbx
  go_wp2_with fail
  refine HK_.out _ _ ?_
  clear HK_
  refine wp_seq_k fun KK hKK => ?_
  have HK_ : Hid _ := hKK
  clear hKK
  go_wp2_with fail
  refine (Tb.jou C (T3.out) hz.out).mono ?_
  rintro e w4 ⟨vk, rfl, ho, hbx⟩
  have T4 : Hid (Tb TA w.heap.size w w4 t T) := T3.out.later C hbx
  have Ovk : Hid (OwnB w3.heap.size w4 vk T.jl) := ho
  have B4 : Hid (Below w3.heap.size w3 w4) := hbx
  clear ho hbx
  go_wp2_with fail
  refine HK_.out _ _ ?_
  clear HK_
  refine wp_seq_k fun KK hKK => ?_
  have HK_ : Hid _ := hKK
  clear hKK
  go_wp2_with fail
  refine (Tb.dirs C (T4.out) hz.out).mono ?_
  rintro e w5 ⟨vd, rfl, ho, hbx⟩
  have T5 : Hid (Tb TA w.heap.size w w5 t T) := T4.out.later C hbx
  have Ovd : Hid (Oww w4.heap.size w5 vd T.ds) := ho
  have B5 : Hid (Below w4.heap.size w4 w5) := hbx
  clear ho hbx
  go_wp2_with fail
  refine HK_.out _ _ ?_
  clear HK_
  refine wp_seq_k fun KK hKK => ?_
  have HK_ : Hid _ := hKK
  clear hKK
  go_wp2_with fail
  refine (lent_any Ovd.out.ss hSm.out).mono ?_
  rintro e w6 ⟨rfl, ho, hbx⟩
  have T6 : Hid (Tb TA w.heap.size w w6 t T) := T5.out.later C hbx
  rw [hl.out.2.1] at ho ⊢
  have Ow : Hid (Own w5.heap.size w6 (.slice (some ⟨w5.heap.size, 0, none⟩) (ND + 30) (ND + 30)) (lentL T.ds)) := ho
  have B6 : Hid (Below w5.heap.size w5 w6) := hbx
  clear ho hbx
  obtain ⟨gw, hgw⟩ : ∃ gw, w5.heap.size = gw := ⟨_, rfl⟩
  have HG : Hid (w5.heap.size = gw) := hgw
  rw [hgw] at Ow ⊢
  clear hgw
  go_wp2_with fail
  refine HK_.out _ _ ?_
  clear HK_
  obtain ⟨xa, xc, hvx⟩ := Ovx.out.form
  rw [hl.out.1] at hvx
  obtain ⟨ja, jc, hvj⟩ : ∃ a c, vj = .slice a NB c := by
    rcases Ovj.out.form' with ⟨e, e'⟩ | ⟨g, c, e, _⟩
    · exact ⟨none, 0, by rw [e, ← hl.out.2.2.1, ← hl.out.2.2.2, e']; rfl⟩
    · rw [hl.out.2.2.2, hl.out.2.2.1] at e
      exact ⟨_, c, e⟩
  obtain ⟨da, dc, hvd⟩ := Ovd.out.len
  rw [hl.out.2.1] at hvd
  subst hvx
  subst hvj
  subst hvd
  have hX := fr_ready C hB4.out T0.out H0.out.1 hl.out Ovx.out Ovy.out Ovj.out Ovk.out Ovd.out HG.out Ow.out B1.out B2.out B3.out B4.out B5.out B6.out T6.out.bel'
  exact fr11 C (show Hid _ from hX.1) (show Hid _ from hX.2) H0 hz hl ⟨b1, b2, b3⟩
set_option maxRecDepth 100000 in
set_option maxHeartbeats 16000000 in
theorem tfresh_law {TA : World → (Nat → Prop) → Nat → TT → Prop} (C : TcP TA) {w : World} (E : Ev w) {vl vb : Value} {l : List Fl} {b : List UInt8} (hl : FS w vl l) (hm : FSm l) (hv : BS w vb b) (hvb : b ≠ [] → ∀ k, vb.ownBlock = some k → k < w.heap.size) (hb : b.length ≤ 2000000) :
    Calls Tryz.prog 4 #[vl, vb] w fun e w' => e = .returned (.bool true) ∧ Below w.heap.size w w' := by
  obtain ⟨la, lc, e1, -⟩ := hl.form
  obtain ⟨ba, cb, e2⟩ : ∃ a c, vb = .slice a b.length c := by
    rcases hv with ⟨⟨a, c, rfl⟩, rfl⟩ | ⟨g, off, c, rfl, _⟩
    · exact ⟨a, c, rfl⟩
    · exact ⟨_, c, rfl⟩
  subst e1
  subst e2
  obtain ⟨NF, hNF⟩ : ∃ NF, l.length = NF := ⟨_, rfl⟩
  obtain ⟨NB, hNB⟩ : ∃ NB, b.length = NB := ⟨_, rfl⟩
  rw [hNF] at hl ⊢
  rw [hNB] at hv hb hvb ⊢
  have H0 : Hid (FS w (.slice la NF lc) l ∧ BS w (.slice ba NB cb) b) := ⟨hl, hv⟩
  have HEV : Hid (Ev w) := E
  clear hl hv E
  go_enter Tryz.func4, Tryz.ntmps4
  conv => arg 2; whnf
  refine wp_seq_k fun KK hKK => ?_
  have HK_ : Hid _ := hKK
  clear hKK
  go_wp2_with fail
  refine HK_.out _ _ ?_
  clear HK_
  refine wp_seq_k fun KK hKK => ?_
  have HK_ : Hid _ := hKK
  clear hKK
  go_wp2_with fail
  refine (C.new H0.out.1 hm HEV.out).mono ?_
  rintro e w1 ⟨hb1, ⟨hv0, t, rfl, hc1⟩ | ⟨hno, rfl⟩⟩
  case inr =>
    have B1 : Hid (Below w.heap.size w w1) := hb1
    clear hb1
    obtain ⟨ec, hec⟩ : ∃ ec, validE l = ec := ⟨_, rfl⟩
    rw [hec] at hno ⊢
    have hno1 : (ec == 0) = false := by simpa using hno
    have hno2 : (ec != 0) = true := by simpa using hno
    clear hec
    go_wp2_with fail
    refine HK_.out _ _ ?_
    clear HK_
    refine wp_seq_k fun KK hKK => ?_
    have HK_ : Hid _ := hKK
    clear hKK
    go_wp2_with fail
    refine (alive_any C w1 (HEV.out.later B1.out)).mono ?_
    rintro e w2 ⟨rfl, hb2⟩
    have B2 : Hid (Below w.heap.size w w2) := bstep B1.out hb2
    clear hb2
    go_wp2_with (go_at_call 9; refine (num_any _ _).mono ?_; rintro e wq ⟨rfl, rfl⟩)
    refine (alive_any C _ (HEV.out.later B2.out)).mono ?_
    rintro e w3 ⟨rfl, hb3⟩
    have B3 : Hid (Below w.heap.size w w3) := bstep B2.out hb3
    clear hb3
    go_wp2_with fail
    go_ret
    exact ⟨rfl, B3.out⟩
  have T1 : Hid (Tb TA w.heap.size w w1 t (newT l)) := ⟨_, hc1, hb1, hb1.size, fun k hk => hk.1⟩
  clear hc1 hb1
  go_wp2_with fail
  refine HK_.out _ _ ?_
  clear HK_
  refine wp_seq_k fun KK hKK => ?_
  have HK_ : Hid _ := hKK
  clear hKK
  go_wp2_with fail
  refine (alive_any C w1 (T1.out.ev C)).mono ?_
  rintro e w2 ⟨rfl, hb2⟩
  have T2' : Hid (Tb TA w.heap.size w w2 t (newT l)) := T1.out.later C hb2
  clear hb2 T1
  go_wp2_with (go_at_call 9; refine (num_any _ _).mono ?_; rintro e wq ⟨rfl, rfl⟩)
  refine HK_.out _ _ ?_
  clear HK_
  refine wp_seq_k fun KK hKK => ?_
  have HK_ : Hid _ := hKK
  clear hKK
  have hz1 : TSz 70000 (newT l) := TSz.new hv0 hm
  obtain ⟨T, hT⟩ : ∃ T, ((newT l).ap b).1 = T := ⟨_, rfl⟩
  have eT := ap_new l b
  rw [hT] at eT
  have ef : T.fs = l := by rw [eT]; rfl
  have ed : T.ds = nds l := by rw [eT]; rfl
  have ej : T.jl = b := by rw [eT]
  have hzT : Hid (TSz 4000000 T) := by
    rw [eT]
    exact ⟨Nat.le_trans hz1.nf (by omega), Nat.le_trans hz1.nd (by omega), (show b.length ≤ 4000000 by omega), Nat.le_trans hz1.nt (by omega), (show (newT l).st + 1 ≤ 4000000 by have := hz1.ns; omega), hz1.ef, hz1.s1⟩
  have hSm : Hid (Sm T.ds) := ⟨by have := hzT.out.nd; omega, fun p hp => by
    have := (TOk.new hv0).de p (by rw [ed] at hp; exact hp)
    exact Nat.le_trans (okP_len this.2).1 (by decide)⟩
  have HAP : Hid (Calls Tryz.prog 20 #[.pointer (some ⟨t, 0, none⟩), .slice ba NB cb] wq fun e w' => e = .returned (.int .i64 ((newT l).ap b).2) ∧ Tb TA w.heap.size w w' t T) := by
    obtain ⟨F, h1, h2, h3, h4⟩ := T2'.out
    refine (C.app h1 (hz1.mono (by omega)) (H0.out.2.later h2) (fun hb0 k hk hf => ?_) (by omega)).mono ?_
    · have := hvb hb0 k hk
      have := h4 k hf
      omega
    · rintro e w' ⟨rfl, hc, hon⟩
      rw [hT] at hc
      exact ⟨rfl, Tb.step h4 h2 h3 hc hon⟩
  clear hz1 T2' hT eT
  go_wp2_with fail
  refine HAP.out.mono ?_
  rintro e w3 ⟨rfl, t3⟩
  have T3 : Hid (Tb TA w.heap.size w w3 t T) := t3
  clear t3 HAP
  go_wp2_with fail
  refine HK_.out _ _ ?_
  have hL : Hid (T.fs.length = NF ∧ T.ds.length = T.ds.length ∧ b.length = NB ∧ T.jl = b) := ⟨by rw [ef]; exact hNF, rfl, hNB, ej⟩
  have H0' : Hid (FS w (.slice la NF lc) T.fs ∧ BS w (.slice ba NB cb) b) := by rw [ef]; exact H0.out
  have hnf := hzT.out.nf
  have hnd := hzT.out.nd
  rw [ef, hNF] at hnf
  exact fr5 C HEV.out.big T3 H0' hzT hL ⟨hnf, by omega, hnd⟩ hSm
end Go.Proofs.YtlkkmcibjhoneaaGreatDoor
