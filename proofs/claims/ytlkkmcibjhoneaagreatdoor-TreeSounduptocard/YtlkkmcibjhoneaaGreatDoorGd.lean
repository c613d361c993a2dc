/-
  The law TreeFresh: the lists that were told are apart.
-/
import Derived.Test.YtlkkmcibjhoneaaGreatDoorGc
import Derived.OrdersHeld
import Derived.Deep.Cut
namespace Go.Proofs.YtlkkmcibjhoneaaGreatDoor
open Go.RowKit
attribute [local go_sem] Oper.semAt_some

/-- what was answered, and may be written over -/
structure AnX (G : Nat → Prop) (W : World) (T : TT) (b : List UInt8) (vx vj vd : Value) : Prop where
  x : ∃ B, B ≤ W.heap.size ∧ OwnF B W vx T.fs ∧ ∀ k, vx.ownBlock = some k → ¬ G k
  j : ∃ B, B ≤ W.heap.size ∧ OwnB B W vj b ∧ ∀ k, vj.ownBlock = some k → ¬ G k
  d : ∃ B, B ≤ W.heap.size ∧ Oww B W vd T.ds ∧ ∀ k, vd.ownBlock = some k → ¬ G k ∧ k < W.heap.size
theorem ap_end {TA : World → (Nat → Prop) → Nat → TT → Prop} (C : TcP TA) {G : Nat → Prop} {w W : World} {t NF NB ND gw : Nat} {T : TT} {b : List UInt8} {vy vk : Value} {vx vj vd d2 : Value} {Wz : World} {ga gu : Nat} (X : FrX TA G w W t T b vy vk (.slice (some ⟨gw, 0, none⟩) ND (ND + 30))) (A : AnX G W T b vx vj vd) (hl : T.fs.length = NF ∧ T.ds.length = ND ∧ b.length = NB) (hn : ND ≤ 4000000)
    (hb : Below W.heap.size W Wz) (hd : Oww W.heap.size Wz d2 T.ds) (ha0 : W.heap.size ≤ ga) (ha1 : ga < Wz.heap.size) (c0 : Wz.cell? ⟨ga, 0, none⟩ = some vd) (c1 : Wz.cell? ⟨ga, 1, none⟩ = some d2) (hne : d2.ownBlock ≠ some ga)
    (hu1 : gu < Wz.heap.size) (u0 : Wz.cell? ⟨gu, 0, none⟩ = some (.slice (some ⟨gw, 0, none⟩) ND (ND + 30))) (u1 : Wz.cell? ⟨gu, 1, none⟩ = some (.slice (some ⟨gw, 0, none⟩) ND (ND + 30))) :
    Calls Tryz.prog 22 #[.slice (some ⟨ga, 0, none⟩) 2 2, .slice (some ⟨gu, 0, none⟩) 2 2] Wz fun e w' => e = .returned (.bool true) ∧ FrX TA G w w' t T b vy vk (.slice (some ⟨gw, 0, none⟩) ND (ND + 30)) ∧ XR G w' (vx) (NF) ∧ JR G w' (vj) (NB) := by
  obtain ⟨⟨B1, x1, x2, x3⟩, ⟨B2, j1, j2, j3⟩, ⟨B, d1, d2', d3⟩⟩ := A
  have hz := hb.size
  have hX := X.later C hb
  obtain ⟨V, hV⟩ : ∃ V : Nat → Value, V = fun i => if i = 0 then vd else d2 := ⟨_, rfl⟩
  have v0 : V 0 = vd := by rw [hV]; rfl
  have v1 : V 1 = d2 := by rw [hV]; rfl
  have hc : ∀ P : Nat → Prop, P 0 → P 1 → ∀ i, i < 2 → P i := fun P h0 h1 i hi => by
    rcases (show i = 0 ∨ i = 1 by omega) with rfl | rfl
    · exact h0
    · exact h1
  have D : Duo Wz ga V := ⟨hc _ (by rw [v0]; exact c0) (by rw [v1]; exact c1), ha1, hc _ (by rw [v0]; intro e; have := (d3 ga e).2; omega) (by rw [v1]; exact hne),
    hc _ (by rw [v0]; exact fun g hg => Nat.lt_of_lt_of_le (d3 g hg).2 hz) (by rw [v1]; exact fun g hg => (hd.lt hg).2), fun i j hi hj hij => by
      rcases (show i = 0 ∧ j = 1 ∨ i = 1 ∧ j = 0 by omega) with ⟨rfl, rfl⟩ | ⟨rfl, rfl⟩
      · rw [v0, v1]; intro g hg e; have := (d3 g hg).2; have := (hd.lt e).1; omega
      · rw [v0, v1]; intro g hg e; have := (d3 g e).2; have := (hd.lt hg).1; omega⟩
  have O : ∀ i, i < 2 → Oww B Wz (V i) T.ds := hc _ (by rw [v0]; exact d2'.later hb) (by rw [v1]; exact hd.mono d1)
  refine (apart_any (U := fun _ => .slice (some ⟨gw, 0, none⟩) ND (ND + 30)) (n := ND) D O hu1 (show Hid _ from hc _ ⟨u0, hX.ws.1⟩ ⟨u1, hX.ws.1⟩) (show Hid _ from hl.2.1) hn (Nat.le_trans d1 hz)).mono ?_
  rintro e w' ⟨rfl, hf⟩
  have hon := hf.only
  rw [v0, v1] at hon
  refine ⟨rfl, hX.only C (OnlyP.of_only hon (fun k hk hg => ?_)), ⟨B1, _, hl.1, Nat.le_trans x1 (Nat.le_trans hz hon.size), (x2.later hb).only hon (fun k hk hm => ?_), x3⟩, B2, _, hl.2.2, Nat.le_trans j1 (Nat.le_trans hz hon.size), (j2.later hb).only hon (fun k hk hm => ?_), j3⟩
  · rcases List.mem_append.1 hk with h | h
    · exact (d3 k (mem_bl.1 h)).1 hg
    · have := (hd.lt (mem_bl.1 h)).1
      have := X.lt k hg
      omega
  · rcases List.mem_append.1 hm with h | h
    · exact ss_ne2w (x2.later hb) (d2'.later hb) k hk (mem_bl.1 h)
    · exact ss_ne2w (x2.later hb) hd k hk (mem_bl.1 h)
  · rcases List.mem_append.1 hm with h | h
    · exact bs_ne2w (j2.later hb) (d2'.later hb) k hk (mem_bl.1 h)
    · exact bs_ne2w (j2.later hb) hd k hk (mem_bl.1 h)
theorem two_alloc (w : World) (a b : Array Value) (k : TypeId) {Wz : World} (h : (w.alloc (.cells a k)).alloc (.cells b k) = Wz) : Below w.heap.size w Wz ∧ Wz.heap.size = w.heap.size + 2 ∧ (∀ i, Wz.cell? ⟨w.heap.size, i, none⟩ = a[i]?) ∧ ∀ i, Wz.cell? ⟨w.heap.size + 1, i, none⟩ = b[i]? := by
  subst h
  have e1 : (w.alloc (.cells a k)).heap.size = w.heap.size + 1 := by simp
  have g1 : (w.alloc (.cells a k)).heap[w.heap.size]? = some (.cells a k (0, 0)) := heap_alloc_new w _
  have g2 : ((w.alloc (.cells a k)).alloc (.cells b k)).heap[w.heap.size + 1]? = some (.cells b k (0, 0)) := by
    have := heap_alloc_new (w.alloc (.cells a k)) (.cells b k)
    rwa [e1] at this
  have g3 : ((w.alloc (.cells a k)).alloc (.cells b k)).heap[w.heap.size]? = some (.cells a k (0, 0)) := by
    rw [(balloc (w.alloc (.cells a k)) (.cells b k)).block w.heap.size (by omega)]
    exact g1
  refine ⟨bstep (balloc _ _) (balloc _ _), by simp, fun i => ?_, fun i => ?_⟩
  · unfold World.cell?; dsimp only; rw [g3]; simp
  · unfold World.cell?; dsimp only; rw [g2]; simp
set_option maxRecDepth 100000 in
set_option maxHeartbeats 16000000 in
theorem fr11 {TA : World → (Nat → Prop) → Nat → TT → Prop} (C : TcP TA) {G : Nat → Prop} {w W : World} {t NF lc NB cb ND dc gw : Nat} {la ba da : Option Addr} {T : TT} {b : List UInt8} {vy vk : Value} {xa ja : Option Addr} {xc jc : Nat} {lv2 lv3 lv4 lv6 lv13 lv14 lv15 lv16 lv17 lv18 lv19 lv20 lv21 lv22 lv23 lv24 lv25 lv26 lv27 lv28 lv29 lv30 lv31 lv32 lv33 lv34 lv35 lv36 lv37 lv38 lv39 lv40 lv41 lv42 lv43 lv44 lv45 lv46 lv47 lv48 lv49 lv50 lv51 lv52 lv53 lv54 lv55 lv56 lv57 lv58 lv59 lv60 lv61 lv62 lv63 lv64 lv65 lv66 lv67 lv68 lv69 lv70 lv71 lv72 lv73 lv74 lv75 lv76 lv77 lv78 lv79 lv80 lv81 lv82 lv83 lv84 lv85 lv86 lv87 lv88 lv89 lv90 lv91 lv92 lv93 lv94 lv95 lv96 lv97 lv98 lv99 lv100 lv101 lv102 lv103 lv104 lv105 lv106 lv107 lv108 lv109 lv110 lv111 lv112 lv113 lv114 lv115 lv116 lv117 lv118 lv119 lv120 lv121 lv122 lv123 lv124 lv125 lv126 lv127 lv128 lv129 lv130 lv131 lv132 lv133 lv134 lv135 lv136 lv137 lv138 lv139 lv140 lv141 lv142 lv143 lv144 lv145 lv146 lv147 lv148 lv149 lv150 lv151 lv152 lv153 lv154 lv155 lv156 lv157 lv158 lv159 lv160 lv161 lv162 lv163 lv164 lv165 : Value}
    (X : Hid (FrX TA G w W t T b vy vk (.slice (some ⟨gw, 0, none⟩) ND (ND + 30)))) (A : Hid (AnX G W T b (.slice xa NF xc) (.slice ja NB jc) (.slice da ND dc))) (H0 : Hid (FS w (.slice la NF lc) T.fs ∧ BS w (.slice ba NB cb) b)) (hz : Hid (TSz 4000000 T)) (hl : Hid (T.fs.length = NF ∧ T.ds.length = ND ∧ b.length = NB ∧ T.jl = b)) (hb : NF ≤ 4000000 ∧ NB ≤ 4000000 ∧ ND ≤ 4000000) :
    Code.wp Tryz.prog (suff 11 (Tryz.f4.body.getD .skip)) (bodyPost Tryz.prog Tryz.f4 (fun e w' => e = .returned (.bool true) ∧ Below w.heap.size w w')) ⟨#[.slice la NF lc, .slice ba NB cb, lv2, lv3, lv4, .pointer (some ⟨t, 0, none⟩), lv6, .slice xa NF xc, vy, .slice ja NB jc, vk, .slice da ND dc, .slice (some ⟨gw, 0, none⟩) (ND + 30) (ND + 30), lv13, lv14, lv15, lv16, lv17, lv18, lv19, lv20, lv21, lv22, lv23, lv24, lv25, lv26, lv27, lv28, lv29, lv30, lv31, lv32, lv33, lv34, lv35, lv36, lv37, lv38, lv39, lv40, lv41, lv42, lv43, lv44, lv45, lv46, lv47, lv48, lv49, lv50, lv51, lv52, lv53, lv54, lv55, lv56, lv57, lv58, lv59, lv60, lv61, lv62, lv63, lv64, lv65, lv66, lv67, lv68, lv69, lv70, lv71, lv72, lv73, lv74, lv75, lv76, lv77, lv78, lv79, lv80, lv81, lv82, lv83, lv84, lv85, lv86, lv87, lv88, lv89, lv90, lv91, lv92, lv93, lv94, lv95, lv96, lv97, lv98, lv99, lv100, lv101, lv102, lv103, lv104, lv105, lv106, lv107, lv108, lv109, lv110, lv111, lv112, lv113, lv114, lv115, lv116, lv117, lv118, lv119, lv120, lv121, lv122, lv123, lv124, lv125, lv126, lv127, lv128, lv129, lv130, lv131, lv132, lv133, lv134, lv135, lv136, lv137, lv138, lv139, lv140, lv141, lv142, lv143, lv144, lv145, lv146, lv147, lv148, lv149, lv150, lv151, lv152, lv153, lv154, lv155, lv156, lv157, lv158, lv159, lv160, lv161, lv162, lv163, lv164, lv165], []⟩ W := by
  conv => arg 2; whnf
  have hfl : Hid (T.fs.length ≤ 1000000000) := show T.fs.length ≤ 1000000000 by rw [hl.out.1]; omega
  have hdl : Hid (T.ds.length ≤ 9223372036854775807) := show T.ds.length ≤ 9223372036854775807 by rw [hl.out.2.1]; omega
  have q1 : ((bs b).toList == (bs b).toList) = true := by simp
  obtain ⟨b1, b2, b3⟩ := hb
  have e3 : (ND : Int) ≤ (ND : Int) + 30 := by omega
  refine wp_seq_k fun KK hKK => ?_
  have HKK : Hid _ := hKK
  clear hKK
  refine wp_seq_k fun K2 hK2 => ?_
  have HK2 : Hid _ := hK2
  clear hK2
  refine wp_region_noPanic ?_
  refine wp_region_held_drew (S := fun _ => True) (by kernel_rfl) trivial (fun hHeld => ?_)
  have O0 : Hid (Below W.heap.size W W.drew) := (Below.refl _ _).drew
  have AX : Hid (∃ B, B ≤ W.heap.size ∧ OwnF B W (.slice xa NF xc) T.fs) := by obtain ⟨B, h1, h2, _⟩ := A.out.x; exact ⟨B, h1, h2⟩
  have hFx : Hid (∀ W', Below W.heap.size W W' → FS W' (.slice xa NF xc) T.fs) := fun W' h => by obtain ⟨B, _, h2⟩ := AX.out; exact h2.fs.later h
  have hFy : Hid (∀ W', Below W.heap.size W W' → FS W' vy T.fs) := fun W' h => X.out.ys.1.later h
  have hFl : Hid (∀ W', Below W.heap.size W W' → FS W' (.slice la NF lc) T.fs) := fun W' h => H0.out.1.later (bstep X.out.bel h)
  have hBj : Hid (∀ W', Below W.heap.size W W' → BS W' (.slice ja NB jc) b) := fun W' h => by obtain ⟨B, _, h2, _⟩ := A.out.j; exact h2.bs.later h
  have hBb : Hid (∀ W', Below W.heap.size W W' → BS W' (.slice ba NB cb) b) := fun W' h => H0.out.2.later (bstep X.out.bel h)
  have hTd : Hid (∀ W', Below W.heap.size W W' → Calls Tryz.prog 17 #[.pointer (some ⟨t, 0, none⟩)] W' fun e w' => ∃ v, e = .returned v ∧ Oww W'.heap.size w' v T.ds ∧ Below W'.heap.size W' w') := fun W' h => Tb.dirs C (X.out.tb.later C h) hz.out
  have hAp : Hid (∀ (Wz : World) (d2 : Value) (ga gu : Nat), Below W.heap.size W Wz → Oww W.heap.size Wz d2 T.ds → W.heap.size ≤ ga → ga < Wz.heap.size → Wz.cell? ⟨ga, 0, none⟩ = some (.slice da ND dc) → Wz.cell? ⟨ga, 1, none⟩ = some d2 → d2.ownBlock ≠ some ga → gu < Wz.heap.size → Wz.cell? ⟨gu, 0, none⟩ = some (.slice (some ⟨gw, 0, none⟩) ND (ND + 30)) → Wz.cell? ⟨gu, 1, none⟩ = some (.slice (some ⟨gw, 0, none⟩) ND (ND + 30)) →
      Calls Tryz.prog 22 #[.slice (some ⟨ga, 0, none⟩) 2 2, .slice (some ⟨gu, 0, none⟩) 2 2] Wz fun e w' => e = .returned (.bool true) ∧ FrX TA G w w' t T b vy vk (.slice (some ⟨gw, 0, none⟩) ND (ND + 30)) ∧ XR G w' (.slice xa NF xc) (NF) ∧ JR G w' (.slice ja NB jc) (NB)) := fun Wz d2 ga gu h1 h2 h3 h4 h5 h6 h7 h8 h9 h10 => ap_end C X.out A.out ⟨hl.out.1, hl.out.2.1, hl.out.2.2.1⟩ b3 h1 h2 h3 h4 h5 h6 h7 h8 h9 h10
  clear AX
  refine wpAnyH_take (i := 0) (oi := { dst := some 48, op := _, type := _, pos := _, after := _, guard := _ }) (v := ?vx1) rfl (by kernel_rfl) (by kernel_rfl) (by kernel_rfl) (fun _ _ _ h => h) (Or.inl ⟨by rfl, ?hyx1⟩) (by assumption) ?restx1
  case hyx1 => (intro w hSw; (try dsimp only at hSw); go_simp; try with_reducible rfl)
  try simp only [Act.put, List.setIfInBounds_toArray, List.set_cons_zero, List.set_cons_succ]
  refine wpAnyH_take (i := 1) (oi := { dst := some 49, op := _, type := _, pos := _, after := _, guard := _ }) (v := ?vx2) rfl (by kernel_rfl) (by kernel_rfl) (by kernel_rfl) (fun _ _ _ h => h) (Or.inl ⟨by rfl, ?hyx2⟩) (by assumption) ?restx2
  case hyx2 => (intro w hSw; (try dsimp only at hSw); go_simp; try with_reducible rfl)
  try simp only [Act.put, List.setIfInBounds_toArray, List.set_cons_zero, List.set_cons_succ]
  refine wpAnyH_ready (rs := [2]) (by kernel_rfl) (by simp) ?_
  refine AllReadyH.cons (o := { dst := some 50, op := _, type := _, pos := _, after := _, guard := _ }) rfl (fun K hK => ?_) AllReadyH.nil
  go_simp
  (with_reducible refine (files_any (hFx.out _ O0.out) (hFl.out _ O0.out) hfl.out).mono ?_)
  rintro e w1 ⟨rfl, hbx⟩
  rw [(leq_iff T.fs T.fs).2 rfl]
  have O1 : Hid (Below W.heap.size W w1) := bstep O0.out hbx
  clear hbx
  refine hK.out _ _ trivial (fun hHeld => ?_)
  clear hK K
  try simp only [List.setIfInBounds_toArray, List.set_cons_zero, List.set_cons_succ]
  refine wpAnyH_take (i := 3) (oi := { dst := some 51, op := _, type := _, pos := _, after := _, guard := _ }) (v := ?vx3) rfl (by kernel_rfl) (by kernel_rfl) (by kernel_rfl) (fun _ _ _ h => h) (Or.inl ⟨by rfl, ?hyx3⟩) (by assumption) ?restx3
  case hyx3 => (intro w hSw; (try dsimp only at hSw); go_simp; try with_reducible rfl)
  try simp only [Act.put, List.setIfInBounds_toArray, List.set_cons_zero, List.set_cons_succ]
  refine wpAnyH_take (i := 4) (oi := { dst := some 52, op := _, type := _, pos := _, after := _, guard := _ }) (v := ?vx4) rfl (by kernel_rfl) (by kernel_rfl) (by kernel_rfl) (fun _ _ _ h => h) (Or.inl ⟨by rfl, ?hyx4⟩) (by assumption) ?restx4
  case hyx4 => (intro w hSw; (try dsimp only at hSw); go_simp; try with_reducible rfl)
  try simp only [Act.put, List.setIfInBounds_toArray, List.set_cons_zero, List.set_cons_succ]
  refine wpAnyH_take (i := 5) (oi := { dst := some 53, op := _, type := _, pos := _, after := _, guard := _ }) (v := ?vx5) rfl (by kernel_rfl) (by kernel_rfl) (by kernel_rfl) (fun _ _ _ h => h) (Or.inl ⟨by rfl, ?hyx5⟩) (by assumption) ?restx5
  case hyx5 => (intro w hSw; (try dsimp only at hSw); go_simp; try with_reducible rfl)
  try simp only [Act.put, List.setIfInBounds_toArray, List.set_cons_zero, List.set_cons_succ]
  refine wpAnyH_take (i := 6) (oi := { dst := some 54, op := _, type := _, pos := _, after := _, guard := _ }) (v := ?vx6) rfl (by kernel_rfl) (by kernel_rfl) (by kernel_rfl) (fun _ _ _ h => h) (Or.inl ⟨by rfl, ?hyx6⟩) (by assumption) ?restx6
  case hyx6 => (intro w hSw; (try dsimp only at hSw); go_simp; try with_reducible rfl)
  try simp only [Act.put, List.setIfInBounds_toArray, List.set_cons_zero, List.set_cons_succ]
  refine wpAnyH_ready (rs := [7]) (by kernel_rfl) (by simp) ?_
  refine AllReadyH.cons (o := { dst := some 55, op := _, type := _, pos := _, after := _, guard := _ }) rfl (fun K hK => ?_) AllReadyH.nil
  go_simp
  (with_reducible refine (files_any (hFy.out _ O1.out) (hFl.out _ O1.out) hfl.out).mono ?_)
  rintro e w2 ⟨rfl, hbx⟩
  rw [(leq_iff T.fs T.fs).2 rfl]
  have O2 : Hid (Below W.heap.size W w2) := bstep O1.out hbx
  clear hbx
  refine hK.out _ _ trivial (fun hHeld => ?_)
  clear hK K
  try simp only [List.setIfInBounds_toArray, List.set_cons_zero, List.set_cons_succ]
  refine wpAnyH_take (i := 8) (oi := { dst := some 56, op := _, type := _, pos := _, after := _, guard := _ }) (v := ?vx7) rfl (by kernel_rfl) (by kernel_rfl) (by kernel_rfl) (fun _ _ _ h => h) (Or.inl ⟨by rfl, ?hyx7⟩) (by assumption) ?restx7
  case hyx7 => (intro w hSw; (try dsimp only at hSw); go_simp; try with_reducible rfl)
  try simp only [Act.put, List.setIfInBounds_toArray, List.set_cons_zero, List.set_cons_succ]
  refine wpAnyH_take (i := 9) (oi := { dst := some 57, op := _, type := _, pos := _, after := _, guard := _ }) (v := ?vx8) rfl (by kernel_rfl) (by kernel_rfl) (by kernel_rfl) (fun _ _ _ h => h) (Or.inl ⟨by rfl, ?hyx8⟩) (by assumption) ?restx8
  case hyx8 => (intro w hSw; (try dsimp only at hSw); go_simp; try with_reducible rfl)
  try simp only [Act.put, List.setIfInBounds_toArray, List.set_cons_zero, List.set_cons_succ]
  refine wpAnyH_take (i := 10) (oi := { dst := some 58, op := _, type := _, pos := _, after := _, guard := _ }) (v := ?vx9) rfl (by kernel_rfl) (by kernel_rfl) (by kernel_rfl) (fun _ _ _ h => h) (Or.inl ⟨by rfl, ?hyx9⟩) (by assumption) ?restx9
  case hyx9 => (intro w hSw; (try dsimp only at hSw); go_simp; try with_reducible rfl)
  try simp only [Act.put, List.setIfInBounds_toArray, List.set_cons_zero, List.set_cons_succ]
  refine wpAnyH_take (i := 11) (oi := { dst := some 59, op := _, type := _, pos := _, after := _, guard := _ }) (v := ?vx10) rfl (by kernel_rfl) (by kernel_rfl) (by kernel_rfl) (fun _ _ _ h => h) (Or.inl ⟨by rfl, ?hyx10⟩) (by assumption) ?restx10
  case hyx10 => (intro w hSw; (try dsimp only at hSw); go_simp; try with_reducible rfl)
  try simp only [Act.put, List.setIfInBounds_toArray, List.set_cons_zero, List.set_cons_succ]
  refine wpAnyH_take (i := 13) (oi := { dst := some 61, op := _, type := _, pos := _, after := _, guard := _ }) (v := ?vx11) rfl (by kernel_rfl) (by kernel_rfl) (by kernel_rfl) (fun _ _ _ h => h) (Or.inl ⟨by rfl, ?hyx11⟩) (by assumption) ?restx11
  case hyx11 => (intro w hSw; (try dsimp only at hSw); go_simp; try with_reducible rfl)
  try simp only [Act.put, List.setIfInBounds_toArray, List.set_cons_zero, List.set_cons_succ]
  refine wpAnyH_ready (rs := [12, 14]) (by kernel_rfl) (by simp) ?_
  refine AllReadyH.cons (o := { dst := some 60, op := _, type := _, pos := _, after := _, guard := _ }) rfl (fun K hK => ?_) (AllReadyH.cons (o := { dst := some 62, op := _, type := _, pos := _, after := _, guard := _ }) rfl (fun K hK => ?_) AllReadyH.nil)
  · go_simp
    rw [show (convert 32 9 (.slice ja NB jc)).run Tryz.prog _ = .ok (.string (bs b)) _ from conv_bs (hBj.out _ O2.out)]
    go_simp
    refine hK.out _ _ trivial (fun hHeld => ?_)
    clear hK K
    try simp only [List.setIfInBounds_toArray, List.set_cons_zero, List.set_cons_succ]
    refine wpAnyH_ready (rs := [14]) (by kernel_rfl) (by simp) ?_
    refine AllReadyH.cons (o := { dst := some 62, op := _, type := _, pos := _, after := _, guard := _ }) rfl (fun K hK => ?_) AllReadyH.nil
    go_simp
    rw [show (convert 32 9 (.slice ba NB cb)).run Tryz.prog _ = .ok (.string (bs b)) _ from conv_bs (hBb.out _ O2.out)]
    go_simp
    refine hK.out _ _ trivial (fun hHeld => ?_)
    clear hK K
    try simp only [List.setIfInBounds_toArray, List.set_cons_zero, List.set_cons_succ]
    refine wpAnyH_take (i := 15) (oi := { dst := some 63, op := _, type := _, pos := _, after := _, guard := _ }) (v := ?vx18) rfl (by kernel_rfl) (by kernel_rfl) (by kernel_rfl) (fun _ _ _ h => h) (Or.inl ⟨by rfl, ?hyx18⟩) (by assumption) ?restx18
    case hyx18 => (intro w hSw; (try dsimp only at hSw); go_simp; try with_reducible rfl)
    try simp only [Act.put, List.setIfInBounds_toArray, List.set_cons_zero, List.set_cons_succ]
    refine wpAnyH_take (i := 16) (oi := { dst := some 64, op := _, type := _, pos := _, after := _, guard := _ }) (v := ?vx19) rfl (by kernel_rfl) (by kernel_rfl) (by kernel_rfl) (fun _ _ _ h => h) (Or.inl ⟨by rfl, ?hyx19⟩) (by assumption) ?restx19
    case hyx19 => (intro w hSw; (try dsimp only at hSw); go_simp; try with_reducible rfl)
    try simp only [Act.put, List.setIfInBounds_toArray, List.set_cons_zero, List.set_cons_succ]
    refine wpAnyH_take (i := 17) (oi := { dst := some 65, op := _, type := _, pos := _, after := _, guard := _ }) (v := ?vx20) rfl (by kernel_rfl) (by kernel_rfl) (by kernel_rfl) (fun _ _ _ h => h) (Or.inl ⟨by rfl, ?hyx20⟩) (by assumption) ?restx20
    case hyx20 => (intro w hSw; (try dsimp only at hSw); go_simp; try with_reducible rfl)
    try simp only [Act.put, List.setIfInBounds_toArray, List.set_cons_zero, List.set_cons_succ]
    refine wpAnyH_take (i := 18) (oi := { dst := some 66, op := _, type := _, pos := _, after := _, guard := _ }) (v := ?vx21) rfl (by kernel_rfl) (by kernel_rfl) (by kernel_rfl) (fun _ _ _ h => h) (Or.inl ⟨by rfl, ?hyx21⟩) (by assumption) ?restx21
    case hyx21 => (intro w hSw; (try dsimp only at hSw); go_simp; try with_reducible rfl)
    try simp only [Act.put, List.setIfInBounds_toArray, List.set_cons_zero, List.set_cons_succ]
    refine wpAnyH_take (i := 19) (oi := { dst := some 67, op := _, type := _, pos := _, after := _, guard := _ }) (v := ?vx22) rfl (by kernel_rfl) (by kernel_rfl) (by kernel_rfl) (fun _ _ _ h => h) (Or.inl ⟨by rfl, ?hyx22⟩) (by assumption) ?restx22
    case hyx22 => (intro w hSw; (try dsimp only at hSw); go_simp; try with_reducible rfl)
    try simp only [Act.put, List.setIfInBounds_toArray, List.set_cons_zero, List.set_cons_succ]
    refine wpAnyH_take (i := 22) (oi := { dst := some 70, op := _, type := _, pos := _, after := _, guard := _ }) (v := ?vx23) rfl (by kernel_rfl) (by kernel_rfl) (by kernel_rfl) (fun _ _ _ h => h) (Or.inl ⟨by rfl, ?hyx23⟩) (by assumption) ?restx23
    case hyx23 => (intro w hSw; (try dsimp only at hSw); go_simp; try with_reducible rfl)
    try simp only [Act.put, List.setIfInBounds_toArray, List.set_cons_zero, List.set_cons_succ]
    refine wpAnyH_take (i := 23) (oi := { dst := some 71, op := _, type := _, pos := _, after := _, guard := _ }) (v := ?vx24) rfl (by kernel_rfl) (by kernel_rfl) (by kernel_rfl) (fun _ _ _ h => h) (Or.inl ⟨by rfl, ?hyx24⟩) (by assumption) ?restx24
    case hyx24 => (intro w hSw; (try dsimp only at hSw); go_simp; try with_reducible rfl)
    try simp only [Act.put, List.setIfInBounds_toArray, List.set_cons_zero, List.set_cons_succ]
    refine wpAnyH_take (i := 24) (oi := { dst := some 72, op := _, type := _, pos := _, after := _, guard := _ }) (v := ?vx25) rfl (by kernel_rfl) (by kernel_rfl) (by kernel_rfl) (fun _ _ _ h => h) (Or.inl ⟨by rfl, ?hyx25⟩) (by assumption) ?restx25
    case hyx25 => (intro w hSw; (try dsimp only at hSw); go_simp; try with_reducible rfl)
    try simp only [Act.put, List.setIfInBounds_toArray, List.set_cons_zero, List.set_cons_succ]
    refine wpAnyH_take (i := 25) (oi := { dst := some 73, op := _, type := _, pos := _, after := _, guard := _ }) (v := ?vx26) rfl (by kernel_rfl) (by kernel_rfl) (by kernel_rfl) (fun _ _ _ h => h) (Or.inl ⟨by rfl, ?hyx26⟩) (by assumption) ?restx26
    case hyx26 => (intro w hSw; (try dsimp only at hSw); go_simp; try with_reducible rfl)
    try simp only [Act.put, List.setIfInBounds_toArray, List.set_cons_zero, List.set_cons_succ]
    refine wpAnyH_take (i := 26) (oi := { dst := some 74, op := _, type := _, pos := _, after := _, guard := _ }) (v := ?vx27) rfl (by kernel_rfl) (by kernel_rfl) (by kernel_rfl) (fun _ _ _ h => h) (Or.inl ⟨by rfl, ?hyx27⟩) (by assumption) ?restx27
    case hyx27 => (intro w hSw; (try dsimp only at hSw); go_simp; try with_reducible rfl)
    try simp only [Act.put, List.setIfInBounds_toArray, List.set_cons_zero, List.set_cons_succ]
    refine wpAnyH_take (i := 27) (oi := { dst := some 75, op := _, type := _, pos := _, after := _, guard := _ }) (v := ?vx28) rfl (by kernel_rfl) (by kernel_rfl) (by kernel_rfl) (fun _ _ _ h => h) (Or.inl ⟨by rfl, ?hyx28⟩) (by assumption) ?restx28
    case hyx28 => (intro w hSw; (try dsimp only at hSw); go_simp; try with_reducible rfl)
    try simp only [Act.put, List.setIfInBounds_toArray, List.set_cons_zero, List.set_cons_succ]
    refine wpAnyH_take (i := 28) (oi := { dst := some 76, op := _, type := _, pos := _, after := _, guard := _ }) (v := ?vx29) rfl (by kernel_rfl) (by kernel_rfl) (by kernel_rfl) (fun _ _ _ h => h) (Or.inl ⟨by rfl, ?hyx29⟩) (by assumption) ?restx29
    case hyx29 => (intro w hSw; (try dsimp only at hSw); go_simp; try with_reducible rfl)
    try simp only [Act.put, List.setIfInBounds_toArray, List.set_cons_zero, List.set_cons_succ]
    refine wpAnyH_take (i := 29) (oi := { dst := some 77, op := _, type := _, pos := _, after := _, guard := _ }) (v := ?vx30) rfl (by kernel_rfl) (by kernel_rfl) (by kernel_rfl) (fun _ _ _ h => h) (Or.inl ⟨by rfl, ?hyx30⟩) (by assumption) ?restx30
    case hyx30 => (intro w hSw; (try dsimp only at hSw); go_simp; try with_reducible rfl)
    try simp only [Act.put, List.setIfInBounds_toArray, List.set_cons_zero, List.set_cons_succ]
    refine wpAnyH_ready (rs := [20, 30]) (by kernel_rfl) (by simp) ?_
    refine AllReadyH.cons (o := { dst := some 68, op := _, type := _, pos := _, after := _, guard := _ }) rfl (fun K hK => ?_) (AllReadyH.cons (o := { dst := some 78, op := _, type := _, pos := _, after := _, guard := _ }) rfl (fun K hK => ?_) AllReadyH.nil)
    · go_simp
      (with_reducible refine (hTd.out _ O2.out).mono ?_)
      rintro e w5 ⟨d2, rfl, ho, hbx⟩
      obtain ⟨a2, c2, hd2⟩ := ho.len
      rw [hl.out.2.1] at hd2
      subst hd2
      have O5 : Hid (Below W.heap.size W w5) := bstep O2.out hbx
      have HD : Hid (Oww W.heap.size w5 (.slice a2 ND c2) T.ds) := ho.mono O2.out.size
      have hdb : Hid (∀ k, (Value.slice a2 ND c2).ownBlock = some k → k < w5.heap.size) := fun k hk => (ho.lt hk).2
      clear hbx ho
      refine hK.out _ _ trivial (fun hHeld => ?_)
      clear hK K
      try simp only [List.setIfInBounds_toArray, List.set_cons_zero, List.set_cons_succ]
      refine wpAnyH_ready (rs := [21, 30]) (by kernel_rfl) (by simp) ?_
      refine AllReadyH.cons (o := { dst := some 69, op := _, type := _, pos := _, after := _, guard := _ }) rfl (fun K hK => ?_) (AllReadyH.cons (o := { dst := some 78, op := _, type := _, pos := _, after := _, guard := _ }) rfl (fun K hK => ?_) AllReadyH.nil)
      · go_simp
        refine hK.out _ _ trivial (fun hHeld => ?_)
        clear hK K
        try simp only [List.setIfInBounds_toArray, List.set_cons_zero, List.set_cons_succ]
        refine wpAnyH_ready (rs := [30]) (by kernel_rfl) (by simp) ?_
        refine AllReadyH.cons (o := { dst := some 78, op := _, type := _, pos := _, after := _, guard := _ }) rfl (fun K hK => ?_) AllReadyH.nil
        go_simp
        refine hK.out _ _ trivial (fun hHeld => ?_)
        clear hK K
        try simp only [List.setIfInBounds_toArray, List.set_cons_zero, List.set_cons_succ]
        refine wpAnyH_ready (rs := [31]) (by kernel_rfl) (by simp) ?_
        refine AllReadyH.cons (o := { dst := some 79, op := _, type := _, pos := _, after := _, guard := _ }) rfl (fun K hK => ?_) AllReadyH.nil
        go_simp
        have hA := two_alloc w5 #[.slice da ND dc, .slice a2 ND c2] #[.slice (some ⟨gw, 0, none⟩) ND (ND + 30), .slice (some ⟨gw, 0, none⟩) ND (ND + 30)] 42 rfl
        obtain ⟨A1, A2, A3, A4⟩ := hA
        have f0 := A3 0
        have f1 := A3 1
        have g0 := A4 0
        have g1 := A4 1
        have bA := bstep O5.out A1
        have oA := HD.out.later A1
        have zA := O5.out.size
        change _ = some (Value.slice da ND dc) at f0
        change _ = some (Value.slice a2 ND c2) at f1
        change _ = some (Value.slice (some ⟨gw, 0, none⟩) ND (ND + 30)) at g0
        change _ = some (Value.slice (some ⟨gw, 0, none⟩) ND (ND + 30)) at g1
        have n1 : (Value.slice a2 ND c2).ownBlock ≠ some w5.heap.size := fun e => absurd (hdb.out _ e) (Nat.lt_irrefl _)
        have l1 : w5.heap.size < ((w5.alloc (.cells #[.slice da ND dc, .slice a2 ND c2] 42)).alloc (.cells #[.slice (some ⟨gw, 0, none⟩) ND (ND + 30), .slice (some ⟨gw, 0, none⟩) ND (ND + 30)] 42)).heap.size := by rw [A2]; omega
        have l2 : w5.heap.size + 1 < ((w5.alloc (.cells #[.slice da ND dc, .slice a2 ND c2] 42)).alloc (.cells #[.slice (some ⟨gw, 0, none⟩) ND (ND + 30), .slice (some ⟨gw, 0, none⟩) ND (ND + 30)] 42)).heap.size := by rw [A2]; omega
        clear A1 A2 A3 A4

        (with_reducible refine (hAp.out _ _ _ _ bA oA zA l1 f0 f1 n1 l2 g0 g1).mono ?_)
        rintro e w9 ⟨rfl, x9⟩
        have X9 : Hid (FrX TA G w w9 t T b vy vk (.slice (some ⟨gw, 0, none⟩) ND (ND + 30)) ∧ XR G w9 (.slice xa NF xc) (NF) ∧ JR G w9 (.slice ja NB jc) (NB)) := x9
        clear x9
        refine hK.out _ _ trivial (fun hHeld => ?_)
        clear hK K
        try simp only [List.setIfInBounds_toArray, List.set_cons_zero, List.set_cons_succ]
        refine wpAnyH_take (i := 32) (oi := { dst := some 80, op := _, type := _, pos := _, after := _, guard := _ }) (v := ?vx12) rfl (by kernel_rfl) (by kernel_rfl) (by kernel_rfl) (fun _ _ _ h => h) (Or.inl ⟨by rfl, ?hyx12⟩) (by assumption) ?restx12
        case hyx12 => (intro w hSw; (try dsimp only at hSw); go_simp; try with_reducible rfl)
        try simp only [Act.put, List.setIfInBounds_toArray, List.set_cons_zero, List.set_cons_succ]
        refine wpAnyH_take (i := 33) (oi := { dst := some 81, op := _, type := _, pos := _, after := _, guard := _ }) (v := ?vx13) rfl (by kernel_rfl) (by kernel_rfl) (by kernel_rfl) (fun _ _ _ h => h) (Or.inl ⟨by rfl, ?hyx13⟩) (by assumption) ?restx13
        case hyx13 => (intro w hSw; (try dsimp only at hSw); go_simp; try with_reducible rfl)
        try simp only [Act.put, List.setIfInBounds_toArray, List.set_cons_zero, List.set_cons_succ]
        refine wpAnyH_done (by kernel_rfl) ?_ _
        refine NoPanic.normal ?_
        clear hHeld
        refine HK2.out _ _ ?_
        clear HK2
        go_wp2_with fail
        refine HKK.out _ _ ?_
        exact fr13 C X9 H0 hz hl ⟨b1, b2, b3⟩
      · go_simp
        refine hK.out _ _ trivial (fun hHeld => ?_)
        clear hK K
        try simp only [List.setIfInBounds_toArray, List.set_cons_zero, List.set_cons_succ]
        refine wpAnyH_ready (rs := [21]) (by kernel_rfl) (by simp) ?_
        refine AllReadyH.cons (o := { dst := some 69, op := _, type := _, pos := _, after := _, guard := _ }) rfl (fun K hK => ?_) AllReadyH.nil
        go_simp
        refine hK.out _ _ trivial (fun hHeld => ?_)
        clear hK K
        try simp only [List.setIfInBounds_toArray, List.set_cons_zero, List.set_cons_succ]
        refine wpAnyH_ready (rs := [31]) (by kernel_rfl) (by simp) ?_
        refine AllReadyH.cons (o := { dst := some 79, op := _, type := _, pos := _, after := _, guard := _ }) rfl (fun K hK => ?_) AllReadyH.nil
        go_simp
        have hA := two_alloc w5 #[.slice (some ⟨gw, 0, none⟩) ND (ND + 30), .slice (some ⟨gw, 0, none⟩) ND (ND + 30)] #[.slice da ND dc, .slice a2 ND c2] 42 rfl
        obtain ⟨A1, A2, A3, A4⟩ := hA
        have f0 := A3 0
        have f1 := A3 1
        have g0 := A4 0
        have g1 := A4 1
        have bA := bstep O5.out A1
        have oA := HD.out.later A1
        have zA := O5.out.size
        change _ = some (Value.slice (some ⟨gw, 0, none⟩) ND (ND + 30)) at f0
        change _ = some (Value.slice (some ⟨gw, 0, none⟩) ND (ND + 30)) at f1
        change _ = some (Value.slice da ND dc) at g0
        change _ = some (Value.slice a2 ND c2) at g1
        have n1 : (Value.slice a2 ND c2).ownBlock ≠ some (w5.heap.size + 1) := fun e => by have := hdb.out _ e; omega
        have l1 : w5.heap.size < ((w5.alloc (.cells #[.slice (some ⟨gw, 0, none⟩) ND (ND + 30), .slice (some ⟨gw, 0, none⟩) ND (ND + 30)] 42)).alloc (.cells #[.slice da ND dc, .slice a2 ND c2] 42)).heap.size := by rw [A2]; omega
        have l2 : w5.heap.size + 1 < ((w5.alloc (.cells #[.slice (some ⟨gw, 0, none⟩) ND (ND + 30), .slice (some ⟨gw, 0, none⟩) ND (ND + 30)] 42)).alloc (.cells #[.slice da ND dc, .slice a2 ND c2] 42)).heap.size := by rw [A2]; omega
        have z2 : W.heap.size ≤ w5.heap.size + 1 := by omega
        clear A1 A2 A3 A4

        (with_reducible refine (hAp.out _ _ _ _ bA oA z2 l2 g0 g1 n1 l1 f0 f1).mono ?_)
        rintro e w9 ⟨rfl, x9⟩
        have X9 : Hid (FrX TA G w w9 t T b vy vk (.slice (some ⟨gw, 0, none⟩) ND (ND + 30)) ∧ XR G w9 (.slice xa NF xc) (NF) ∧ JR G w9 (.slice ja NB jc) (NB)) := x9
        clear x9
        refine hK.out _ _ trivial (fun hHeld => ?_)
        clear hK K
        try simp only [List.setIfInBounds_toArray, List.set_cons_zero, List.set_cons_succ]
        refine wpAnyH_take (i := 32) (oi := { dst := some 80, op := _, type := _, pos := _, after := _, guard := _ }) (v := ?vx14) rfl (by kernel_rfl) (by kernel_rfl) (by kernel_rfl) (fun _ _ _ h => h) (Or.inl ⟨by rfl, ?hyx14⟩) (by assumption) ?restx14
        case hyx14 => (intro w hSw; (try dsimp only at hSw); go_simp; try with_reducible rfl)
        try simp only [Act.put, List.setIfInBounds_toArray, List.set_cons_zero, List.set_cons_succ]
        refine wpAnyH_take (i := 33) (oi := { dst := some 81, op := _, type := _, pos := _, after := _, guard := _ }) (v := ?vx15) rfl (by kernel_rfl) (by kernel_rfl) (by kernel_rfl) (fun _ _ _ h => h) (Or.inl ⟨by rfl, ?hyx15⟩) (by assumption) ?restx15
        case hyx15 => (intro w hSw; (try dsimp only at hSw); go_simp; try with_reducible rfl)
        try simp only [Act.put, List.setIfInBounds_toArray, List.set_cons_zero, List.set_cons_succ]
        refine wpAnyH_done (by kernel_rfl) ?_ _
        refine NoPanic.normal ?_
        clear hHeld
        refine HK2.out _ _ ?_
        clear HK2
        go_wp2_with fail
        refine HKK.out _ _ ?_
        exact fr13 C X9 H0 hz hl ⟨b1, b2, b3⟩
    · go_simp
      have O4 : Hid (Below W.heap.size W (w2.alloc (.cells #[.slice (some ⟨gw, 0, none⟩) ND (ND + 30), .slice (some ⟨gw, 0, none⟩) ND (ND + 30)] 42))) := bstep O2.out (balloc _ _)
      refine hK.out _ _ trivial (fun hHeld => ?_)
      clear hK K
      try simp only [List.setIfInBounds_toArray, List.set_cons_zero, List.set_cons_succ]
      refine wpAnyH_ready (rs := [20]) (by kernel_rfl) (by simp) ?_
      refine AllReadyH.cons (o := { dst := some 68, op := _, type := _, pos := _, after := _, guard := _ }) rfl (fun K hK => ?_) AllReadyH.nil
      go_simp
      (with_reducible refine (hTd.out _ O4.out).mono ?_)
      rintro e w5 ⟨d2, rfl, ho, hbx⟩
      obtain ⟨a2, c2, hd2⟩ := ho.len
      rw [hl.out.2.1] at hd2
      subst hd2
      have O5 : Hid (Below W.heap.size W w5) := bstep O4.out hbx
      have HD : Hid (Oww W.heap.size w5 (.slice a2 ND c2) T.ds) := ho.mono O4.out.size
      have hdb : Hid (∀ k, (Value.slice a2 ND c2).ownBlock = some k → k < w5.heap.size) := fun k hk => (ho.lt hk).2
      have HU : Hid (w5.cell? ⟨w2.heap.size, 0, none⟩ = some (.slice (some ⟨gw, 0, none⟩) ND (ND + 30)) ∧ w5.cell? ⟨w2.heap.size, 1, none⟩ = some (.slice (some ⟨gw, 0, none⟩) ND (ND + 30)) ∧ w2.heap.size < w5.heap.size) := by
        have hn5 : (w2.alloc (.cells #[.slice (some ⟨gw, 0, none⟩) ND (ND + 30), .slice (some ⟨gw, 0, none⟩) ND (ND + 30)] 42)).heap[w2.heap.size]? = some (.cells #[.slice (some ⟨gw, 0, none⟩) ND (ND + 30), .slice (some ⟨gw, 0, none⟩) ND (ND + 30)] 42 (0, 0)) := heap_alloc_new _ _
        have hlt : w2.heap.size < (w2.alloc (.cells #[.slice (some ⟨gw, 0, none⟩) ND (ND + 30), .slice (some ⟨gw, 0, none⟩) ND (ND + 30)] 42)).heap.size := by simp
        refine ⟨?_, ?_, Nat.lt_of_lt_of_le hlt hbx.size⟩
        · rw [hbx.cell (p := ⟨w2.heap.size, 0, none⟩) hlt]; unfold World.cell?; dsimp only; rw [hn5]; simp
        · rw [hbx.cell (p := ⟨w2.heap.size, 1, none⟩) hlt]; unfold World.cell?; dsimp only; rw [hn5]; simp
      clear hbx ho
      refine hK.out _ _ trivial (fun hHeld => ?_)
      clear hK K
      try simp only [List.setIfInBounds_toArray, List.set_cons_zero, List.set_cons_succ]
      refine wpAnyH_ready (rs := [21]) (by kernel_rfl) (by simp) ?_
      refine AllReadyH.cons (o := { dst := some 69, op := _, type := _, pos := _, after := _, guard := _ }) rfl (fun K hK => ?_) AllReadyH.nil
      go_simp
      refine hK.out _ _ trivial (fun hHeld => ?_)
      clear hK K
      try simp only [List.setIfInBounds_toArray, List.set_cons_zero, List.set_cons_succ]
      refine wpAnyH_ready (rs := [31]) (by kernel_rfl) (by simp) ?_
      refine AllReadyH.cons (o := { dst := some 79, op := _, type := _, pos := _, after := _, guard := _ }) rfl (fun K hK => ?_) AllReadyH.nil
      go_simp
      have A1 := balloc w5 (.cells #[.slice da ND dc, .slice a2 ND c2] 42)
      have hn5 : (w5.alloc (.cells #[.slice da ND dc, .slice a2 ND c2] 42)).heap[w5.heap.size]? = some (.cells #[.slice da ND dc, .slice a2 ND c2] 42 (0, 0)) := heap_alloc_new _ _
      have f0 : (w5.alloc (.cells #[.slice da ND dc, .slice a2 ND c2] 42)).cell? ⟨w5.heap.size, 0, none⟩ = some (.slice da ND dc) := by unfold World.cell?; dsimp only; rw [hn5]; simp
      have f1 : (w5.alloc (.cells #[.slice da ND dc, .slice a2 ND c2] 42)).cell? ⟨w5.heap.size, 1, none⟩ = some (.slice a2 ND c2) := by unfold World.cell?; dsimp only; rw [hn5]; simp
      have g0 : (w5.alloc (.cells #[.slice da ND dc, .slice a2 ND c2] 42)).cell? ⟨w2.heap.size, 0, none⟩ = some (.slice (some ⟨gw, 0, none⟩) ND (ND + 30)) := by rw [A1.cell (p := ⟨w2.heap.size, 0, none⟩) HU.out.2.2]; exact HU.out.1
      have g1 : (w5.alloc (.cells #[.slice da ND dc, .slice a2 ND c2] 42)).cell? ⟨w2.heap.size, 1, none⟩ = some (.slice (some ⟨gw, 0, none⟩) ND (ND + 30)) := by rw [A1.cell (p := ⟨w2.heap.size, 1, none⟩) HU.out.2.2]; exact HU.out.2.1
      have bA := bstep O5.out A1
      have oA := HD.out.later A1
      have zA := O5.out.size
      have n1 : (Value.slice a2 ND c2).ownBlock ≠ some w5.heap.size := fun e => absurd (hdb.out _ e) (Nat.lt_irrefl _)
      have l1 : w5.heap.size < (w5.alloc (.cells #[.slice da ND dc, .slice a2 ND c2] 42)).heap.size := by simp
      have l2 : w2.heap.size < (w5.alloc (.cells #[.slice da ND dc, .slice a2 ND c2] 42)).heap.size := Nat.lt_of_lt_of_le HU.out.2.2 A1.size
      clear A1 hn5

      (with_reducible refine (hAp.out _ _ _ _ bA oA zA l1 f0 f1 n1 l2 g0 g1).mono ?_)
      rintro e w9 ⟨rfl, x9⟩
      have X9 : Hid (FrX TA G w w9 t T b vy vk (.slice (some ⟨gw, 0, none⟩) ND (ND + 30)) ∧ XR G w9 (.slice xa NF xc) (NF) ∧ JR G w9 (.slice ja NB jc) (NB)) := x9
      clear x9
      refine hK.out _ _ trivial (fun hHeld => ?_)
      clear hK K
      try simp only [List.setIfInBounds_toArray, List.set_cons_zero, List.set_cons_succ]
      refine wpAnyH_take (i := 32) (oi := { dst := some 80, op := _, type := _, pos := _, after := _, guard := _ }) (v := ?vx16) rfl (by kernel_rfl) (by kernel_rfl) (by kernel_rfl) (fun _ _ _ h => h) (Or.inl ⟨by rfl, ?hyx16⟩) (by assumption) ?restx16
      case hyx16 => (intro w hSw; (try dsimp only at hSw); go_simp; try with_reducible rfl)
      try simp only [Act.put, List.setIfInBounds_toArray, List.set_cons_zero, List.set_cons_succ]
      refine wpAnyH_take (i := 33) (oi := { dst := some 81, op := _, type := _, pos := _, after := _, guard := _ }) (v := ?vx17) rfl (by kernel_rfl) (by kernel_rfl) (by kernel_rfl) (fun _ _ _ h => h) (Or.inl ⟨by rfl, ?hyx17⟩) (by assumption) ?restx17
      case hyx17 => (intro w hSw; (try dsimp only at hSw); go_simp; try with_reducible rfl)
      try simp only [Act.put, List.setIfInBounds_toArray, List.set_cons_zero, List.set_cons_succ]
      refine wpAnyH_done (by kernel_rfl) ?_ _
      refine NoPanic.normal ?_
      clear hHeld
      refine HK2.out _ _ ?_
      clear HK2
      go_wp2_with fail
      refine HKK.out _ _ ?_
      exact fr13 C X9 H0 hz hl ⟨b1, b2, b3⟩
  · go_simp
    rw [show (convert 32 9 (.slice ba NB cb)).run Tryz.prog _ = .ok (.string (bs b)) _ from conv_bs (hBb.out _ O2.out)]
    go_simp
    refine hK.out _ _ trivial (fun hHeld => ?_)
    clear hK K
    try simp only [List.setIfInBounds_toArray, List.set_cons_zero, List.set_cons_succ]
    refine wpAnyH_ready (rs := [12]) (by kernel_rfl) (by simp) ?_
    refine AllReadyH.cons (o := { dst := some 60, op := _, type := _, pos := _, after := _, guard := _ }) rfl (fun K hK => ?_) AllReadyH.nil
    go_simp
    rw [show (convert 32 9 (.slice ja NB jc)).run Tryz.prog _ = .ok (.string (bs b)) _ from conv_bs (hBj.out _ O2.out)]
    go_simp
    refine hK.out _ _ trivial (fun hHeld => ?_)
    clear hK K
    try simp only [List.setIfInBounds_toArray, List.set_cons_zero, List.set_cons_succ]
    refine wpAnyH_take (i := 15) (oi := { dst := some 63, op := _, type := _, pos := _, after := _, guard := _ }) (v := ?vx37) rfl (by kernel_rfl) (by kernel_rfl) (by kernel_rfl) (fun _ _ _ h => h) (Or.inl ⟨by rfl, ?hyx37⟩) (by assumption) ?restx37
    case hyx37 => (intro w hSw; (try dsimp only at hSw); go_simp; try with_reducible rfl)
    try simp only [Act.put, List.setIfInBounds_toArray, List.set_cons_zero, List.set_cons_succ]
    refine wpAnyH_take (i := 16) (oi := { dst := some 64, op := _, type := _, pos := _, after := _, guard := _ }) (v := ?vx38) rfl (by kernel_rfl) (by kernel_rfl) (by kernel_rfl) (fun _ _ _ h => h) (Or.inl ⟨by rfl, ?hyx38⟩) (by assumption) ?restx38
    case hyx38 => (intro w hSw; (try dsimp only at hSw); go_simp; try with_reducible rfl)
    try simp only [Act.put, List.setIfInBounds_toArray, List.set_cons_zero, List.set_cons_succ]
    refine wpAnyH_take (i := 17) (oi := { dst := some 65, op := _, type := _, pos := _, after := _, guard := _ }) (v := ?vx39) rfl (by kernel_rfl) (by kernel_rfl) (by kernel_rfl) (fun _ _ _ h => h) (Or.inl ⟨by rfl, ?hyx39⟩) (by assumption) ?restx39
    case hyx39 => (intro w hSw; (try dsimp only at hSw); go_simp; try with_reducible rfl)
    try simp only [Act.put, List.setIfInBounds_toArray, List.set_cons_zero, List.set_cons_succ]
    refine wpAnyH_take (i := 18) (oi := { dst := some 66, op := _, type := _, pos := _, after := _, guard := _ }) (v := ?vx40) rfl (by kernel_rfl) (by kernel_rfl) (by kernel_rfl) (fun _ _ _ h => h) (Or.inl ⟨by rfl, ?hyx40⟩) (by assumption) ?restx40
    case hyx40 => (intro w hSw; (try dsimp only at hSw); go_simp; try with_reducible rfl)
    try simp only [Act.put, List.setIfInBounds_toArray, List.set_cons_zero, List.set_cons_succ]
    refine wpAnyH_take (i := 19) (oi := { dst := some 67, op := _, type := _, pos := _, after := _, guard := _ }) (v := ?vx41) rfl (by kernel_rfl) (by kernel_rfl) (by kernel_rfl) (fun _ _ _ h => h) (Or.inl ⟨by rfl, ?hyx41⟩) (by assumption) ?restx41
    case hyx41 => (intro w hSw; (try dsimp only at hSw); go_simp; try with_reducible rfl)
    try simp only [Act.put, List.setIfInBounds_toArray, List.set_cons_zero, List.set_cons_succ]
    refine wpAnyH_take (i := 22) (oi := { dst := some 70, op := _, type := _, pos := _, after := _, guard := _ }) (v := ?vx42) rfl (by kernel_rfl) (by kernel_rfl) (by kernel_rfl) (fun _ _ _ h => h) (Or.inl ⟨by rfl, ?hyx42⟩) (by assumption) ?restx42
    case hyx42 => (intro w hSw; (try dsimp only at hSw); go_simp; try with_reducible rfl)
    try simp only [Act.put, List.setIfInBounds_toArray, List.set_cons_zero, List.set_cons_succ]
    refine wpAnyH_take (i := 23) (oi := { dst := some 71, op := _, type := _, pos := _, after := _, guard := _ }) (v := ?vx43) rfl (by kernel_rfl) (by kernel_rfl) (by kernel_rfl) (fun _ _ _ h => h) (Or.inl ⟨by rfl, ?hyx43⟩) (by assumption) ?restx43
    case hyx43 => (intro w hSw; (try dsimp only at hSw); go_simp; try with_reducible rfl)
    try simp only [Act.put, List.setIfInBounds_toArray, List.set_cons_zero, List.set_cons_succ]
    refine wpAnyH_take (i := 24) (oi := { dst := some 72, op := _, type := _, pos := _, after := _, guard := _ }) (v := ?vx44) rfl (by kernel_rfl) (by kernel_rfl) (by kernel_rfl) (fun _ _ _ h => h) (Or.inl ⟨by rfl, ?hyx44⟩) (by assumption) ?restx44
    case hyx44 => (intro w hSw; (try dsimp only at hSw); go_simp; try with_reducible rfl)
    try simp only [Act.put, List.setIfInBounds_toArray, List.set_cons_zero, List.set_cons_succ]
    refine wpAnyH_take (i := 25) (oi := { dst := some 73, op := _, type := _, pos := _, after := _, guard := _ }) (v := ?vx45) rfl (by kernel_rfl) (by kernel_rfl) (by kernel_rfl) (fun _ _ _ h => h) (Or.inl ⟨by rfl, ?hyx45⟩) (by assumption) ?restx45
    case hyx45 => (intro w hSw; (try dsimp only at hSw); go_simp; try with_reducible rfl)
    try simp only [Act.put, List.setIfInBounds_toArray, List.set_cons_zero, List.set_cons_succ]
    refine wpAnyH_take (i := 26) (oi := { dst := some 74, op := _, type := _, pos := _, after := _, guard := _ }) (v := ?vx46) rfl (by kernel_rfl) (by kernel_rfl) (by kernel_rfl) (fun _ _ _ h => h) (Or.inl ⟨by rfl, ?hyx46⟩) (by assumption) ?restx46
    case hyx46 => (intro w hSw; (try dsimp only at hSw); go_simp; try with_reducible rfl)
    try simp only [Act.put, List.setIfInBounds_toArray, List.set_cons_zero, List.set_cons_succ]
    refine wpAnyH_take (i := 27) (oi := { dst := some 75, op := _, type := _, pos := _, after := _, guard := _ }) (v := ?vx47) rfl (by kernel_rfl) (by kernel_rfl) (by kernel_rfl) (fun _ _ _ h => h) (Or.inl ⟨by rfl, ?hyx47⟩) (by assumption) ?restx47
    case hyx47 => (intro w hSw; (try dsimp only at hSw); go_simp; try with_reducible rfl)
    try simp only [Act.put, List.setIfInBounds_toArray, List.set_cons_zero, List.set_cons_succ]
    refine wpAnyH_take (i := 28) (oi := { dst := some 76, op := _, type := _, pos := _, after := _, guard := _ }) (v := ?vx48) rfl (by kernel_rfl) (by kernel_rfl) (by kernel_rfl) (fun _ _ _ h => h) (Or.inl ⟨by rfl, ?hyx48⟩) (by assumption) ?restx48
    case hyx48 => (intro w hSw; (try dsimp only at hSw); go_simp; try with_reducible rfl)
    try simp only [Act.put, List.setIfInBounds_toArray, List.set_cons_zero, List.set_cons_succ]
    refine wpAnyH_take (i := 29) (oi := { dst := some 77, op := _, type := _, pos := _, after := _, guard := _ }) (v := ?vx49) rfl (by kernel_rfl) (by kernel_rfl) (by kernel_rfl) (fun _ _ _ h => h) (Or.inl ⟨by rfl, ?hyx49⟩) (by assumption) ?restx49
    case hyx49 => (intro w hSw; (try dsimp only at hSw); go_simp; try with_reducible rfl)
    try simp only [Act.put, List.setIfInBounds_toArray, List.set_cons_zero, List.set_cons_succ]
    refine wpAnyH_ready (rs := [20, 30]) (by kernel_rfl) (by simp) ?_
    refine AllReadyH.cons (o := { dst := some 68, op := _, type := _, pos := _, after := _, guard := _ }) rfl (fun K hK => ?_) (AllReadyH.cons (o := { dst := some 78, op := _, type := _, pos := _, after := _, guard := _ }) rfl (fun K hK => ?_) AllReadyH.nil)
    · go_simp
      (with_reducible refine (hTd.out _ O2.out).mono ?_)
      rintro e w5 ⟨d2, rfl, ho, hbx⟩
      obtain ⟨a2, c2, hd2⟩ := ho.len
      rw [hl.out.2.1] at hd2
      subst hd2
      have O5 : Hid (Below W.heap.size W w5) := bstep O2.out hbx
      have HD : Hid (Oww W.heap.size w5 (.slice a2 ND c2) T.ds) := ho.mono O2.out.size
      have hdb : Hid (∀ k, (Value.slice a2 ND c2).ownBlock = some k → k < w5.heap.size) := fun k hk => (ho.lt hk).2
      clear hbx ho
      refine hK.out _ _ trivial (fun hHeld => ?_)
      clear hK K
      try simp only [List.setIfInBounds_toArray, List.set_cons_zero, List.set_cons_succ]
      refine wpAnyH_ready (rs := [21, 30]) (by kernel_rfl) (by simp) ?_
      refine AllReadyH.cons (o := { dst := some 69, op := _, type := _, pos := _, after := _, guard := _ }) rfl (fun K hK => ?_) (AllReadyH.cons (o := { dst := some 78, op := _, type := _, pos := _, after := _, guard := _ }) rfl (fun K hK => ?_) AllReadyH.nil)
      · go_simp
        refine hK.out _ _ trivial (fun hHeld => ?_)
        clear hK K
        try simp only [List.setIfInBounds_toArray, List.set_cons_zero, List.set_cons_succ]
        refine wpAnyH_ready (rs := [30]) (by kernel_rfl) (by simp) ?_
        refine AllReadyH.cons (o := { dst := some 78, op := _, type := _, pos := _, after := _, guard := _ }) rfl (fun K hK => ?_) AllReadyH.nil
        go_simp
        refine hK.out _ _ trivial (fun hHeld => ?_)
        clear hK K
        try simp only [List.setIfInBounds_toArray, List.set_cons_zero, List.set_cons_succ]
        refine wpAnyH_ready (rs := [31]) (by kernel_rfl) (by simp) ?_
        refine AllReadyH.cons (o := { dst := some 79, op := _, type := _, pos := _, after := _, guard := _ }) rfl (fun K hK => ?_) AllReadyH.nil
        go_simp
        have hA := two_alloc w5 #[.slice da ND dc, .slice a2 ND c2] #[.slice (some ⟨gw, 0, none⟩) ND (ND + 30), .slice (some ⟨gw, 0, none⟩) ND (ND + 30)] 42 rfl
        obtain ⟨A1, A2, A3, A4⟩ := hA
        have f0 := A3 0
        have f1 := A3 1
        have g0 := A4 0
        have g1 := A4 1
        have bA := bstep O5.out A1
        have oA := HD.out.later A1
        have zA := O5.out.size
        change _ = some (Value.slice da ND dc) at f0
        change _ = some (Value.slice a2 ND c2) at f1
        change _ = some (Value.slice (some ⟨gw, 0, none⟩) ND (ND + 30)) at g0
        change _ = some (Value.slice (some ⟨gw, 0, none⟩) ND (ND + 30)) at g1
        have n1 : (Value.slice a2 ND c2).ownBlock ≠ some w5.heap.size := fun e => absurd (hdb.out _ e) (Nat.lt_irrefl _)
        have l1 : w5.heap.size < ((w5.alloc (.cells #[.slice da ND dc, .slice a2 ND c2] 42)).alloc (.cells #[.slice (some ⟨gw, 0, none⟩) ND (ND + 30), .slice (some ⟨gw, 0, none⟩) ND (ND + 30)] 42)).heap.size := by rw [A2]; omega
        have l2 : w5.heap.size + 1 < ((w5.alloc (.cells #[.slice da ND dc, .slice a2 ND c2] 42)).alloc (.cells #[.slice (some ⟨gw, 0, none⟩) ND (ND + 30), .slice (some ⟨gw, 0, none⟩) ND (ND + 30)] 42)).heap.size := by rw [A2]; omega
        clear A1 A2 A3 A4

        (with_reducible refine (hAp.out _ _ _ _ bA oA zA l1 f0 f1 n1 l2 g0 g1).mono ?_)
        rintro e w9 ⟨rfl, x9⟩
        have X9 : Hid (FrX TA G w w9 t T b vy vk (.slice (some ⟨gw, 0, none⟩) ND (ND + 30)) ∧ XR G w9 (.slice xa NF xc) (NF) ∧ JR G w9 (.slice ja NB jc) (NB)) := x9
        clear x9
        refine hK.out _ _ trivial (fun hHeld => ?_)
        clear hK K
        try simp only [List.setIfInBounds_toArray, List.set_cons_zero, List.set_cons_succ]
        refine wpAnyH_take (i := 32) (oi := { dst := some 80, op := _, type := _, pos := _, after := _, guard := _ }) (v := ?vx31) rfl (by kernel_rfl) (by kernel_rfl) (by kernel_rfl) (fun _ _ _ h => h) (Or.inl ⟨by rfl, ?hyx31⟩) (by assumption) ?restx31
        case hyx31 => (intro w hSw; (try dsimp only at hSw); go_simp; try with_reducible rfl)
        try simp only [Act.put, List.setIfInBounds_toArray, List.set_cons_zero, List.set_cons_succ]
        refine wpAnyH_take (i := 33) (oi := { dst := some 81, op := _, type := _, pos := _, after := _, guard := _ }) (v := ?vx32) rfl (by kernel_rfl) (by kernel_rfl) (by kernel_rfl) (fun _ _ _ h => h) (Or.inl ⟨by rfl, ?hyx32⟩) (by assumption) ?restx32
        case hyx32 => (intro w hSw; (try dsimp only at hSw); go_simp; try with_reducible rfl)
        try simp only [Act.put, List.setIfInBounds_toArray, List.set_cons_zero, List.set_cons_succ]
        refine wpAnyH_done (by kernel_rfl) ?_ _
        refine NoPanic.normal ?_
        clear hHeld
        refine HK2.out _ _ ?_
        clear HK2
        go_wp2_with fail
        refine HKK.out _ _ ?_
        exact fr13 C X9 H0 hz hl ⟨b1, b2, b3⟩
      · go_simp
        refine hK.out _ _ trivial (fun hHeld => ?_)
        clear hK K
        try simp only [List.setIfInBounds_toArray, List.set_cons_zero, List.set_cons_succ]
        refine wpAnyH_ready (rs := [21]) (by kernel_rfl) (by simp) ?_
        refine AllReadyH.cons (o := { dst := some 69, op := _, type := _, pos := _, after := _, guard := _ }) rfl (fun K hK => ?_) AllReadyH.nil
        go_simp
        refine hK.out _ _ trivial (fun hHeld => ?_)
        clear hK K
        try simp only [List.setIfInBounds_toArray, List.set_cons_zero, List.set_cons_succ]
        refine wpAnyH_ready (rs := [31]) (by kernel_rfl) (by simp) ?_
        refine AllReadyH.cons (o := { dst := some 79, op := _, type := _, pos := _, after := _, guard := _ }) rfl (fun K hK => ?_) AllReadyH.nil
        go_simp
        have hA := two_alloc w5 #[.slice (some ⟨gw, 0, none⟩) ND (ND + 30), .slice (some ⟨gw, 0, none⟩) ND (ND + 30)] #[.slice da ND dc, .slice a2 ND c2] 42 rfl
        obtain ⟨A1, A2, A3, A4⟩ := hA
        have f0 := A3 0
        have f1 := A3 1
        have g0 := A4 0
        have g1 := A4 1
        have bA := bstep O5.out A1
        have oA := HD.out.later A1
        have zA := O5.out.size
        change _ = some (Value.slice (some ⟨gw, 0, none⟩) ND (ND + 30)) at f0
        change _ = some (Value.slice (some ⟨gw, 0, none⟩) ND (ND + 30)) at f1
        change _ = some (Value.slice da ND dc) at g0
        change _ = some (Value.slice a2 ND c2) at g1
        have n1 : (Value.slice a2 ND c2).ownBlock ≠ some (w5.heap.size + 1) := fun e => by have := hdb.out _ e; omega
        have l1 : w5.heap.size < ((w5.alloc (.cells #[.slice (some ⟨gw, 0, none⟩) ND (ND + 30), .slice (some ⟨gw, 0, none⟩) ND (ND + 30)] 42)).alloc (.cells #[.slice da ND dc, .slice a2 ND c2] 42)).heap.size := by rw [A2]; omega
        have l2 : w5.heap.size + 1 < ((w5.alloc (.cells #[.slice (some ⟨gw, 0, none⟩) ND (ND + 30), .slice (some ⟨gw, 0, none⟩) ND (ND + 30)] 42)).alloc (.cells #[.slice da ND dc, .slice a2 ND c2] 42)).heap.size := by rw [A2]; omega
        have z2 : W.heap.size ≤ w5.heap.size + 1 := by omega
        clear A1 A2 A3 A4

        (with_reducible refine (hAp.out _ _ _ _ bA oA z2 l2 g0 g1 n1 l1 f0 f1).mono ?_)
        rintro e w9 ⟨rfl, x9⟩
        have X9 : Hid (FrX TA G w w9 t T b vy vk (.slice (some ⟨gw, 0, none⟩) ND (ND + 30)) ∧ XR G w9 (.slice xa NF xc) (NF) ∧ JR G w9 (.slice ja NB jc) (NB)) := x9
        clear x9
        refine hK.out _ _ trivial (fun hHeld => ?_)
        clear hK K
        try simp only [List.setIfInBounds_toArray, List.set_cons_zero, List.set_cons_succ]
        refine wpAnyH_take (i := 32) (oi := { dst := some 80, op := _, type := _, pos := _, after := _, guard := _ }) (v := ?vx33) rfl (by kernel_rfl) (by kernel_rfl) (by kernel_rfl) (fun _ _ _ h => h) (Or.inl ⟨by rfl, ?hyx33⟩) (by assumption) ?restx33
        case hyx33 => (intro w hSw; (try dsimp only at hSw); go_simp; try with_reducible rfl)
        try simp only [Act.put, List.setIfInBounds_toArray, List.set_cons_zero, List.set_cons_succ]
        refine wpAnyH_take (i := 33) (oi := { dst := some 81, op := _, type := _, pos := _, after := _, guard := _ }) (v := ?vx34) rfl (by kernel_rfl) (by kernel_rfl) (by kernel_rfl) (fun _ _ _ h => h) (Or.inl ⟨by rfl, ?hyx34⟩) (by assumption) ?restx34
        case hyx34 => (intro w hSw; (try dsimp only at hSw); go_simp; try with_reducible rfl)
        try simp only [Act.put, List.setIfInBounds_toArray, List.set_cons_zero, List.set_cons_succ]
        refine wpAnyH_done (by kernel_rfl) ?_ _
        refine NoPanic.normal ?_
        clear hHeld
        refine HK2.out _ _ ?_
        clear HK2
        go_wp2_with fail
        refine HKK.out _ _ ?_
        exact fr13 C X9 H0 hz hl ⟨b1, b2, b3⟩
    · go_simp
      have O4 : Hid (Below W.heap.size W (w2.alloc (.cells #[.slice (some ⟨gw, 0, none⟩) ND (ND + 30), .slice (some ⟨gw, 0, none⟩) ND (ND + 30)] 42))) := bstep O2.out (balloc _ _)
      refine hK.out _ _ trivial (fun hHeld => ?_)
      clear hK K
      try simp only [List.setIfInBounds_toArray, List.set_cons_zero, List.set_cons_succ]
      refine wpAnyH_ready (rs := [20]) (by kernel_rfl) (by simp) ?_
      refine AllReadyH.cons (o := { dst := some 68, op := _, type := _, pos := _, after := _, guard := _ }) rfl (fun K hK => ?_) AllReadyH.nil
      go_simp
      (with_reducible refine (hTd.out _ O4.out).mono ?_)
      rintro e w5 ⟨d2, rfl, ho, hbx⟩
      obtain ⟨a2, c2, hd2⟩ := ho.len
      rw [hl.out.2.1] at hd2
      subst hd2
      have O5 : Hid (Below W.heap.size W w5) := bstep O4.out hbx
      have HD : Hid (Oww W.heap.size w5 (.slice a2 ND c2) T.ds) := ho.mono O4.out.size
      have hdb : Hid (∀ k, (Value.slice a2 ND c2).ownBlock = some k → k < w5.heap.size) := fun k hk => (ho.lt hk).2
      have HU : Hid (w5.cell? ⟨w2.heap.size, 0, none⟩ = some (.slice (some ⟨gw, 0, none⟩) ND (ND + 30)) ∧ w5.cell? ⟨w2.heap.size, 1, none⟩ = some (.slice (some ⟨gw, 0, none⟩) ND (ND + 30)) ∧ w2.heap.size < w5.heap.size) := by
        have hn5 : (w2.alloc (.cells #[.slice (some ⟨gw, 0, none⟩) ND (ND + 30), .slice (some ⟨gw, 0, none⟩) ND (ND + 30)] 42)).heap[w2.heap.size]? = some (.cells #[.slice (some ⟨gw, 0, none⟩) ND (ND + 30), .slice (some ⟨gw, 0, none⟩) ND (ND + 30)] 42 (0, 0)) := heap_alloc_new _ _
        have hlt : w2.heap.size < (w2.alloc (.cells #[.slice (some ⟨gw, 0, none⟩) ND (ND + 30), .slice (some ⟨gw, 0, none⟩) ND (ND + 30)] 42)).heap.size := by simp
        refine ⟨?_, ?_, Nat.lt_of_lt_of_le hlt hbx.size⟩
        · rw [hbx.cell (p := ⟨w2.heap.size, 0, none⟩) hlt]; unfold World.cell?; dsimp only; rw [hn5]; simp
        · rw [hbx.cell (p := ⟨w2.heap.size, 1, none⟩) hlt]; unfold World.cell?; dsimp only; rw [hn5]; simp
      clear hbx ho
      refine hK.out _ _ trivial (fun hHeld => ?_)
      clear hK K
      try simp only [List.setIfInBounds_toArray, List.set_cons_zero, List.set_cons_succ]
      refine wpAnyH_ready (rs := [21]) (by kernel_rfl) (by simp) ?_
      refine AllReadyH.cons (o := { dst := some 69, op := _, type := _, pos := _, after := _, guard := _ }) rfl (fun K hK => ?_) AllReadyH.nil
      go_simp
      refine hK.out _ _ trivial (fun hHeld => ?_)
      clear hK K
      try simp only [List.setIfInBounds_toArray, List.set_cons_zero, List.set_cons_succ]
      refine wpAnyH_ready (rs := [31]) (by kernel_rfl) (by simp) ?_
      refine AllReadyH.cons (o := { dst := some 79, op := _, type := _, pos := _, after := _, guard := _ }) rfl (fun K hK => ?_) AllReadyH.nil
      go_simp
      have A1 := balloc w5 (.cells #[.slice da ND dc, .slice a2 ND c2] 42)
      have hn5 : (w5.alloc (.cells #[.slice da ND dc, .slice a2 ND c2] 42)).heap[w5.heap.size]? = some (.cells #[.slice da ND dc, .slice a2 ND c2] 42 (0, 0)) := heap_alloc_new _ _
      have f0 : (w5.alloc (.cells #[.slice da ND dc, .slice a2 ND c2] 42)).cell? ⟨w5.heap.size, 0, none⟩ = some (.slice da ND dc) := by unfold World.cell?; dsimp only; rw [hn5]; simp
      have f1 : (w5.alloc (.cells #[.slice da ND dc, .slice a2 ND c2] 42)).cell? ⟨w5.heap.size, 1, none⟩ = some (.slice a2 ND c2) := by unfold World.cell?; dsimp only; rw [hn5]; simp
      have g0 : (w5.alloc (.cells #[.slice da ND dc, .slice a2 ND c2] 42)).cell? ⟨w2.heap.size, 0, none⟩ = some (.slice (some ⟨gw, 0, none⟩) ND (ND + 30)) := by rw [A1.cell (p := ⟨w2.heap.size, 0, none⟩) HU.out.2.2]; exact HU.out.1
      have g1 : (w5.alloc (.cells #[.slice da ND dc, .slice a2 ND c2] 42)).cell? ⟨w2.heap.size, 1, none⟩ = some (.slice (some ⟨gw, 0, none⟩) ND (ND + 30)) := by rw [A1.cell (p := ⟨w2.heap.size, 1, none⟩) HU.out.2.2]; exact HU.out.2.1
      have bA := bstep O5.out A1
      have oA := HD.out.later A1
      have zA := O5.out.size
      have n1 : (Value.slice a2 ND c2).ownBlock ≠ some w5.heap.size := fun e => absurd (hdb.out _ e) (Nat.lt_irrefl _)
      have l1 : w5.heap.size < (w5.alloc (.cells #[.slice da ND dc, .slice a2 ND c2] 42)).heap.size := by simp
      have l2 : w2.heap.size < (w5.alloc (.cells #[.slice da ND dc, .slice a2 ND c2] 42)).heap.size := Nat.lt_of_lt_of_le HU.out.2.2 A1.size
      clear A1 hn5

      (with_reducible refine (hAp.out _ _ _ _ bA oA zA l1 f0 f1 n1 l2 g0 g1).mono ?_)
      rintro e w9 ⟨rfl, x9⟩
      have X9 : Hid (FrX TA G w w9 t T b vy vk (.slice (some ⟨gw, 0, none⟩) ND (ND + 30)) ∧ XR G w9 (.slice xa NF xc) (NF) ∧ JR G w9 (.slice ja NB jc) (NB)) := x9
      clear x9
      refine hK.out _ _ trivial (fun hHeld => ?_)
      clear hK K
      try simp only [List.setIfInBounds_toArray, List.set_cons_zero, List.set_cons_succ]
      refine wpAnyH_take (i := 32) (oi := { dst := some 80, op := _, type := _, pos := _, after := _, guard := _ }) (v := ?vx35) rfl (by kernel_rfl) (by kernel_rfl) (by kernel_rfl) (fun _ _ _ h => h) (Or.inl ⟨by rfl, ?hyx35⟩) (by assumption) ?restx35
      case hyx35 => (intro w hSw; (try dsimp only at hSw); go_simp; try with_reducible rfl)
      try simp only [Act.put, List.setIfInBounds_toArray, List.set_cons_zero, List.set_cons_succ]
      refine wpAnyH_take (i := 33) (oi := { dst := some 81, op := _, type := _, pos := _, after := _, guard := _ }) (v := ?vx36) rfl (by kernel_rfl) (by kernel_rfl) (by kernel_rfl) (fun _ _ _ h => h) (Or.inl ⟨by rfl, ?hyx36⟩) (by assumption) ?restx36
      case hyx36 => (intro w hSw; (try dsimp only at hSw); go_simp; try with_reducible rfl)
      try simp only [Act.put, List.setIfInBounds_toArray, List.set_cons_zero, List.set_cons_succ]
      refine wpAnyH_done (by kernel_rfl) ?_ _
      refine NoPanic.normal ?_
      clear hHeld
      refine HK2.out _ _ ?_
      clear HK2
      go_wp2_with fail
      refine HKK.out _ _ ?_
      exact fr13 C X9 H0 hz hl ⟨b1, b2, b3⟩
end Go.Proofs.YtlkkmcibjhoneaaGreatDoor
