/-
  The law CacheTrusts.
-/
import Derived.Test.YtddaoloabfkheaaGreatDoorJTd
namespace Go.Proofs.YtddaoloabfkheaaGreatDoor
open Go.RowKit
attribute [local go_sem] Oper.semAt_some

theorem _root_.Go.Src.cast {P : Program} {size : Nat} {tx : TypeId} {v : Value} {a b : List UInt8} {w : World} (h : Src P size tx v a.length (bc a) w) (e : a = b) : Src P size tx v b.length (bc b) w := e ▸ h
set_option maxRecDepth 100000 in
theorem own_zeroB (w : World) : OwnB w.heap.size (w.alloc (.cells #[] 5)) (.slice (some ⟨w.heap.size, 0, none⟩) 0 0) [] :=
  ⟨rfl, .inr ⟨w.heap.size, 0, #[], rfl, Nat.le_refl _, heap_alloc_new w _, Nat.le_refl _, by decide, rfl, rfl⟩⟩
set_option maxRecDepth 100000 in
set_option maxHeartbeats 16000000 in
theorem t16 {CA : World → (Nat → Prop) → Nat → List Lb → Prop} (C : CcP CA) {w W : World} {c gb N cb q n m cv : Nat} {av : Option Addr} {K : List Lb} {L : List Stp} {by_ : UInt8} {lv1 lv3 lv4 lv5 lv6 lv8 lv11 lv12 lv13 lv14 lv15 lv16 lv17 lv18 lv19 lv20 lv21 lv22 lv23 lv24 lv25 lv26 lv27 lv28 lv29 lv30 lv31 lv32 lv33 lv34 lv35 lv36 lv37 lv38 lv39 lv40 lv41 lv42 lv43 lv44 lv45 lv46 lv47 lv48 lv49 lv50 lv51 lv52 lv53 lv54 lv55 lv56 lv57 lv58 lv59 lv60 lv61 lv62 lv63 lv64 lv65 lv66 lv67 lv68 lv69 lv70 lv71 lv72 lv73 lv74 lv75 lv76 lv77 lv78 lv79 lv80 lv81 lv82 lv83 lv84 lv85 lv86 lv87 lv88 lv89 lv90 lv91 lv92 lv93 lv94 lv95 lv96 lv97 lv98 lv99 lv100 lv101 lv102 lv103 lv104 lv105 lv106 lv107 lv108 lv109 lv110 lv111 lv112 lv113 lv114 lv115 lv116 lv117 lv118 lv119 lv120 lv121 lv122 lv123 lv124 lv125 lv126 lv127 lv128 lv129 lv130 lv131 lv132 lv133 lv134 lv135 lv136 lv137 lv138 lv139 lv140 lv141 lv142 lv143 lv144 lv145 lv146 lv147 lv148 lv149 lv150 lv151 lv152 lv153 lv154 lv155 lv156 lv157 lv158 lv159 lv160 lv161 lv162 lv163 lv164 lv165 lv166 lv167 lv168 lv169 lv170 lv171 lv172 lv173 lv174 lv175 lv176 lv177 lv178 lv179 lv180 lv181 lv182 lv183 lv184 lv185 lv186 lv187 lv188 lv189 lv190 lv191 lv192 lv193 lv194 lv195 lv196 lv197 lv198 lv199 lv200 lv201 lv202 lv203 lv204 lv205 lv206 lv207 lv208 lv209 lv210 lv211 lv212 lv213 lv214 lv215 lv216 lv217 lv218 lv219 lv220 lv221 lv222 lv223 lv224 lv225 lv226 lv227 lv228 lv229 lv230 lv231 lv232 lv233 lv234 lv235 : Value} (HT : Hid (TS4 w (.slice av n cv) L ∧ ∀ s ∈ L, s.p.length ≤ 1000000000 ∧ s.t.length ≤ 1000000000)) (HN : Hid (L.length = n)) (hnl : n ≤ 100000000) (hm : min n 30 = m) (HKl : Hid (∀ k, (hk : k < L.length) → k < m → rgt L[k].p = true → L[k].t.length ≤ 4096 → (⟨L[k].p, L[k].t⟩ : Lb) ∈ K)) (X : Hid (TU CA w W c gb N cb K)) (hq0 : q ≤ N) :
    Code.wp Tryz.prog (suff 16 (Tryz.f4.body.getD .skip)) (bodyPost Tryz.prog Tryz.f4 (Good w)) ⟨#[.slice av n cv, lv1, .int .u8 (by_.toNat : Int), lv3, lv4, lv5, lv6, .pointer (some ⟨c, 0, none⟩), lv8, .slice (some ⟨gb, 0, none⟩) N cb, .int .i64 (q : Int), lv11, lv12, lv13, lv14, lv15, lv16, lv17, lv18, lv19, lv20, lv21, lv22, lv23, lv24, lv25, lv26, lv27, lv28, lv29, lv30, lv31, lv32, lv33, lv34, lv35, lv36, lv37, lv38, lv39, lv40, lv41, lv42, lv43, lv44, lv45, lv46, lv47, lv48, lv49, lv50, lv51, lv52, lv53, lv54, lv55, lv56, lv57, lv58, lv59, lv60, lv61, lv62, lv63, lv64, lv65, lv66, lv67, lv68, lv69, lv70, lv71, lv72, lv73, lv74, lv75, lv76, lv77, lv78, lv79, lv80, lv81, lv82, lv83, lv84, lv85, lv86, lv87, lv88, lv89, lv90, lv91, lv92, lv93, lv94, lv95, lv96, lv97, lv98, lv99, lv100, lv101, lv102, lv103, lv104, lv105, lv106, lv107, lv108, lv109, lv110, lv111, lv112, lv113, lv114, lv115, lv116, lv117, lv118, lv119, lv120, lv121, lv122, lv123, lv124, lv125, lv126, lv127, lv128, lv129, lv130, lv131, lv132, lv133, lv134, lv135, lv136, lv137, lv138, lv139, lv140, lv141, lv142, lv143, lv144, lv145, lv146, lv147, lv148, lv149, lv150, lv151, lv152, lv153, lv154, lv155, lv156, lv157, lv158, lv159, lv160, lv161, lv162, lv163, lv164, lv165, lv166, lv167, lv168, lv169, lv170, lv171, lv172, lv173, lv174, lv175, lv176, lv177, lv178, lv179, lv180, lv181, lv182, lv183, lv184, lv185, lv186, lv187, lv188, lv189, lv190, lv191, lv192, lv193, lv194, lv195, lv196, lv197, lv198, lv199, lv200, lv201, lv202, lv203, lv204, lv205, lv206, lv207, lv208, lv209, lv210, lv211, lv212, lv213, lv214, lv215, lv216, lv217, lv218, lv219, lv220, lv221, lv222, lv223, lv224, lv225, lv226, lv227, lv228, lv229, lv230, lv231, lv232, lv233, lv234, lv235], []⟩ W := by
  conv => arg 2; whnf
  obtain ⟨b, hb⟩ : ∃ b, savB K = b := ⟨_, rfl⟩
  have hN := X.out.nl
  have HB : Hid (savB K = b ∧ b.length = N) := ⟨hb, by rw [← hb]; exact X.out.len⟩
  have HV : Hid (∀ Z, Below W.heap.size W Z → (convert 41 9 (.slice (some ⟨gb, 0, none⟩) N cb)).run Tryz.prog Z = .ok (.string (bs b)) Z) := fun Z hZ => by rw [← hb]; exact conv_bs (X.out.later C hZ).b.bs
  clear hb
  refine wp_seq_k fun K9 hK => ?_
  have HK : Hid _ := hK
  clear hK
  go_wp2_with (at_builtin; first
    | (refine app_bytes (base := W.heap.size) (l := []) (k := b) (tx := 41) (own_zeroB W) (((X.out.later C (balloc _ _)).b.bs.src und41).cast HB.out.1) (by have := HB.out.2; simp; omega) (by simp) rfl (.tmp 83) (.tmp 84) rfl rfl rfl ?_; intro v1 w1 ho1 hg1 hl1; have O1 : Hid (OwnB W.heap.size w1 v1 b ∧ Below W.heap.size W w1) := ⟨ho1, ((Below.refl _ _).alloc (Nat.le_refl _) _).grown hg1 (by simp) (fun j e => by simp only [Value.ownBlock, Option.some.injEq] at e; omega)⟩; clear ho1 hg1 hl1)
    | (refine app_oneB (base := W.heap.size) (l := b) by_ O1.out.1 rfl (by have := HB.out.2; omega) O1.out.2.size rfl (.tmp 85) (.tmp 87) rfl rfl rfl ?_; intro v2 w2 ho2 hb2 _ _ _; have O2 : Hid (OwnB W.heap.size w2 v2 (b ++ [by_]) ∧ Below W.heap.size W w2) := ⟨ho2, O1.out.2.trans hb2⟩; clear ho2 hb2))
  refine (TQ.load C O2.out.1.bs (X.out.ev.later O2.out.2) (by have := HB.out.2; simp; omega)).mono ?_
  rintro e w3 ⟨hb3, ⟨K3, g3, ok3, e3, _⟩ | ⟨_, rfl⟩⟩
  · exact absurd e3 (fun e => more_none X.out.ok ok3 (e.trans (by rw [HB.out.1])))
  have O3 : Hid (Below W.heap.size W w3) := bstep O2.out.2 hb3
  clear hb3 O1 O2
  go_wp2_with fail
  refine HK.out _ _ ?_
  clear HK K9
  refine wp_seq_k fun K9 hK => ?_
  have HK : Hid _ := hK
  clear hK
  go_wp2_with fail
  refine (TQ.load C ((X.out.later C O3.out).b.bs) (X.out.ev.later O3.out) (savB_le X.out.ok)).mono ?_
  rintro e w4 ⟨hb4, ⟨K4, g4, ok4, e4, rfl, hc4⟩ | ⟨hno, _⟩⟩
  case inr => exact absurd rfl (fun e => hno _ X.out.ok e)
  obtain rfl : K4 = K := savB_inj ok4 X.out.ok e4
  have O4 : Hid (Below W.heap.size W w4 ∧ TQ CA w3.heap.size w4 g4 K4) := ⟨bstep O3.out hb4, hc4⟩
  clear hb4 hc4 ok4 e4
  have HSdA : Hid (∀ Z, Below w4.heap.size w4 Z → Calls Tryz.prog 14 #[.pointer (some ⟨g4, 0, none⟩)] Z fun e w' => ∃ v', e = .returned v' ∧ OwnB Z.heap.size w' v' b ∧ Below Z.heap.size Z w') := fun Z hZ => by rw [← HB.out.1]; exact (O4.out.2.later C hZ).save C (X.out.ev.later (bstep O4.out.1 hZ))
  have q1 : ((bs b).toList == (bs b).toList) = true := by simp
  go_wp2_with fail
  refine HK.out _ _ ?_
  clear HK K9
  refine wp_seq_k fun K9 hK => ?_
  have HK : Hid _ := hK
  clear hK
  by_cases hq : q < N
  · have q2 : ((q : Int) == (N : Int)) = false := by rw [beq_eq_false_iff_ne]; omega
    go_wp2_with fail
    refine wp_region_noPanic ?_
    refine wp_region_held_drew (S := fun W' => (convert 41 9 (.slice (some ⟨gb, 0, none⟩) N cb)).run Tryz.prog W' = .ok (.string (bs b)) W') (by kernel_rfl) (by exact HV.out _ (bstep O4.out.1 (bd1 _))) (fun hHeld => ?_)
    refine wpAnyH_take (i := 0) (oi := { dst := some 97, op := _, type := _, pos := _, after := _, guard := _ }) (v := ?vx1) rfl (by kernel_rfl) (by kernel_rfl) (by kernel_rfl) (fun _ _ _ h => h) (Or.inl ⟨by rfl, ?hyx1⟩) (by assumption) ?restx1
    case hyx1 => (intro w hSw; (try dsimp only at hSw); go_simp; try with_reducible rfl)
    try simp only [Act.put, List.setIfInBounds_toArray, List.set_cons_zero, List.set_cons_succ]
    refine wpAnyH_take (i := 1) (oi := { dst := some 98, op := _, type := _, pos := _, after := _, guard := _ }) (v := ?vx2) rfl (by kernel_rfl) (by kernel_rfl) (by kernel_rfl) (fun _ _ _ h => h) (Or.inl ⟨by rfl, ?hyx2⟩) (by assumption) ?restx2
    case hyx2 => (intro w hSw; (try dsimp only at hSw); go_simp; try with_reducible rfl)
    try simp only [Act.put, List.setIfInBounds_toArray, List.set_cons_zero, List.set_cons_succ]
    refine wpAnyH_take (i := 2) (oi := { dst := some 99, op := _, type := _, pos := _, after := _, guard := _ }) (v := ?vx3) rfl (by kernel_rfl) (by kernel_rfl) (by kernel_rfl) (fun _ _ _ h => h) (Or.inl ⟨by rfl, ?hyx3⟩) (by assumption) ?restx3
    case hyx3 => (intro w hSw; (try dsimp only at hSw); go_simp; try with_reducible rfl)
    try simp only [Act.put, List.setIfInBounds_toArray, List.set_cons_zero, List.set_cons_succ]
    refine wpAnyH_take (i := 3) (oi := { dst := some 100, op := _, type := _, pos := _, after := _, guard := _ }) (v := ?vx4) rfl (by kernel_rfl) (by kernel_rfl) (by kernel_rfl) (fun _ _ _ h => h) (Or.inl ⟨by rfl, ?hyx4⟩) (by assumption) ?restx4
    case hyx4 => (intro w hSw; (try dsimp only at hSw); go_simp; try with_reducible rfl)
    try simp only [Act.put, List.setIfInBounds_toArray, List.set_cons_zero, List.set_cons_succ]
    refine wpAnyH_take (i := 4) (oi := { dst := some 101, op := _, type := _, pos := _, after := _, guard := _ }) (v := ?vx5) rfl (by kernel_rfl) (by kernel_rfl) (by kernel_rfl) (fun _ _ _ h => h) (Or.inl ⟨by rfl, ?hyx5⟩) (by assumption) ?restx5
    case hyx5 => (intro w hSw; (try dsimp only at hSw); go_simp; try with_reducible rfl)
    try simp only [Act.put, List.setIfInBounds_toArray, List.set_cons_zero, List.set_cons_succ]
    refine wpAnyH_take (i := 5) (oi := { dst := some 102, op := _, type := _, pos := _, after := _, guard := _ }) (v := ?vx6) rfl (by kernel_rfl) (by kernel_rfl) (by kernel_rfl) (fun _ _ _ h => h) (Or.inl ⟨by rfl, ?hyx6⟩) (by assumption) ?restx6
    case hyx6 => (intro w hSw; (try dsimp only at hSw); go_simp; try with_reducible rfl)
    try simp only [Act.put, List.setIfInBounds_toArray, List.set_cons_zero, List.set_cons_succ]
    refine wpAnyH_take (i := 6) (oi := { dst := some 103, op := _, type := _, pos := _, after := _, guard := _ }) (v := ?vx7) rfl (by kernel_rfl) (by kernel_rfl) (by kernel_rfl) (fun _ _ _ h => h) (Or.inl ⟨by rfl, ?hyx7⟩) (by assumption) ?restx7
    case hyx7 => (intro w hSw; (try dsimp only at hSw); go_simp; try with_reducible rfl)
    try simp only [Act.put, List.setIfInBounds_toArray, List.set_cons_zero, List.set_cons_succ]
    refine wpAnyH_take (i := 7) (oi := { dst := some 104, op := _, type := _, pos := _, after := _, guard := _ }) (v := ?vx8) rfl (by kernel_rfl) (by kernel_rfl) (by kernel_rfl) (fun _ _ _ h => h) (Or.inl ⟨by rfl, ?hyx8⟩) (by assumption) ?restx8
    case hyx8 => (intro w hSw; (try dsimp only at hSw); go_simp; try with_reducible rfl)
    try simp only [Act.put, List.setIfInBounds_toArray, List.set_cons_zero, List.set_cons_succ]
    refine wpAnyH_take (i := 8) (oi := { dst := some 105, op := _, type := _, pos := _, after := _, guard := _ }) (v := ?vx9) rfl (by kernel_rfl) (by kernel_rfl) (by kernel_rfl) (fun _ _ _ h => h) (Or.inl ⟨by rfl, ?hyx9⟩) (by assumption) ?restx9
    case hyx9 => (intro w hSw; (try dsimp only at hSw); go_simp; try with_reducible rfl)
    try simp only [Act.put, List.setIfInBounds_toArray, List.set_cons_zero, List.set_cons_succ]
    refine wpAnyH_take (i := 9) (oi := { dst := some 106, op := _, type := _, pos := _, after := _, guard := _ }) (v := ?vx10) rfl (by kernel_rfl) (by kernel_rfl) (by kernel_rfl) (fun _ _ _ h => h) (Or.inl ⟨by rfl, ?hyx10⟩) (by assumption) ?restx10
    case hyx10 => (intro w hSw; (try dsimp only at hSw); go_simp; try with_reducible rfl)
    try simp only [Act.put, List.setIfInBounds_toArray, List.set_cons_zero, List.set_cons_succ]
    refine wpAnyH_take (i := 10) (oi := { dst := some 107, op := _, type := _, pos := _, after := _, guard := _ }) (v := ?vx11) rfl (by kernel_rfl) (by kernel_rfl) (by kernel_rfl) (fun _ _ _ h => h) (Or.inl ⟨by rfl, ?hyx11⟩) (by assumption) ?restx11
    case hyx11 => (intro w hSw; (try dsimp only at hSw); go_simp; try with_reducible rfl)
    try simp only [Act.put, List.setIfInBounds_toArray, List.set_cons_zero, List.set_cons_succ]
    refine wpAnyH_take (i := 11) (oi := { dst := some 108, op := _, type := _, pos := _, after := _, guard := _ }) (v := ?vx12) rfl (by kernel_rfl) (by kernel_rfl) (by kernel_rfl) (fun _ _ _ h => h) (Or.inl ⟨by rfl, ?hyx12⟩) (by assumption) ?restx12
    case hyx12 => (intro w hSw; (try dsimp only at hSw); go_simp; try with_reducible rfl)
    try simp only [Act.put, List.setIfInBounds_toArray, List.set_cons_zero, List.set_cons_succ]
    refine wpAnyH_take (i := 14) (oi := { dst := some 111, op := _, type := _, pos := _, after := _, guard := _ }) (v := ?vx13) rfl (by kernel_rfl) (by kernel_rfl) (by kernel_rfl) (fun _ _ _ h => h) (Or.inl ⟨by rfl, ?hyx13⟩) (by assumption) ?restx13
    case hyx13 => (intro w hSw; (try dsimp only at hSw); go_simp; try with_reducible rfl)
    try simp only [Act.put, List.setIfInBounds_toArray, List.set_cons_zero, List.set_cons_succ]
    refine wpAnyH_take (i := 15) (oi := { dst := some 112, op := _, type := _, pos := _, after := _, guard := _ }) (v := ?vx14) rfl (by kernel_rfl) (by kernel_rfl) (by kernel_rfl) (fun _ _ _ h => h) (Or.inl ⟨by rfl, ?hyx14⟩) (by assumption) ?restx14
    case hyx14 => (intro w hSw; (try dsimp only at hSw); go_simp; try with_reducible rfl)
    try simp only [Act.put, List.setIfInBounds_toArray, List.set_cons_zero, List.set_cons_succ]
    refine wpAnyH_ready (rs := [12]) (by kernel_rfl) (by simp) ?_
    refine AllReadyH.cons (o := { dst := some 109, op := _, type := _, pos := _, after := _, guard := _ }) rfl (fun K9 hK => ?_) AllReadyH.nil
    go_simp
    with_reducible refine (HSdA.out _ (bd1 _)).mono ?_
    rintro e zA ⟨vA, rfl, ho, hb⟩
    have BA : Hid (Below W.heap.size W zA) := bstep O4.out.1 (bstep (bd1 _) hb)
    have BAA : Hid (Below w4.heap.size w4 zA) := bstep (bd1 _) hb
    have hvA : (convert 41 9 vA).run Tryz.prog zA = .ok (.string (bs b)) zA := conv_bs ho.bs
    clear hb ho
    refine hK.out _ _ (HV.out zA BA.out) (fun hHeld => ?_)
    clear hK K9
    try simp only [List.setIfInBounds_toArray, List.set_cons_zero, List.set_cons_succ]
    refine wpAnyH_ready (rs := [13]) (by kernel_rfl) (by simp) ?_
    refine AllReadyH.cons (o := { dst := some 110, op := _, type := _, pos := _, after := _, guard := _ }) rfl (fun K9 hK => ?_) AllReadyH.nil
    go_simp
    refine hK.out _ _ (HV.out zA BA.out) (fun hHeld => ?_)
    clear hK K9
    try simp only [List.setIfInBounds_toArray, List.set_cons_zero, List.set_cons_succ]
    refine wpAnyH_take (i := 16) (oi := { dst := some 113, op := _, type := _, pos := _, after := _, guard := _ }) (v := ?vx15) rfl (by kernel_rfl) (by kernel_rfl) (by kernel_rfl) (fun _ _ _ h => h) (Or.inl ⟨by rfl, ?hyx15⟩) (by assumption) ?restx15
    case hyx15 => (intro w hSw; (try dsimp only at hSw); go_simp; try with_reducible rfl)
    try simp only [Act.put, List.setIfInBounds_toArray, List.set_cons_zero, List.set_cons_succ]
    refine wpAnyH_take (i := 17) (oi := { dst := some 114, op := _, type := _, pos := _, after := _, guard := _ }) (v := ?vx16) rfl (by kernel_rfl) (by kernel_rfl) (by kernel_rfl) (fun _ _ _ h => h) (Or.inl ⟨by rfl, ?hyx16⟩) (by assumption) ?restx16
    case hyx16 => (intro w hSw; (try dsimp only at hSw); go_simp; try with_reducible rfl)
    try simp only [Act.put, List.setIfInBounds_toArray, List.set_cons_zero, List.set_cons_succ]
    refine wpAnyH_take (i := 18) (oi := { dst := some 115, op := _, type := _, pos := _, after := _, guard := _ }) (v := ?vx17) rfl (by kernel_rfl) (by kernel_rfl) (by kernel_rfl) (fun _ _ _ h => h) (Or.inl ⟨by rfl, ?hyx17⟩) (by assumption) ?restx17
    case hyx17 => (intro w hSw; (try dsimp only at hSw); go_simp; try with_reducible rfl)
    try simp only [Act.put, List.setIfInBounds_toArray, List.set_cons_zero, List.set_cons_succ]
    refine wpAnyH_take (i := 19) (oi := { dst := some 116, op := _, type := _, pos := _, after := _, guard := _ }) (v := ?vx18) rfl (by kernel_rfl) (by kernel_rfl) (by kernel_rfl) (fun _ _ _ h => h) (Or.inl ⟨by rfl, ?hyx18⟩) (by assumption) ?restx18
    case hyx18 => (intro w hSw; (try dsimp only at hSw); go_simp; try with_reducible rfl)
    try simp only [Act.put, List.setIfInBounds_toArray, List.set_cons_zero, List.set_cons_succ]
    refine wpAnyH_take (i := 20) (oi := { dst := some 117, op := _, type := _, pos := _, after := _, guard := _ }) (v := ?vx19) rfl (by kernel_rfl) (by kernel_rfl) (by kernel_rfl) (fun _ _ _ h => h) (Or.inl ⟨by rfl, ?hyx19⟩) (by assumption) ?restx19
    case hyx19 => (intro w hSw; (try dsimp only at hSw); go_simp; try with_reducible rfl)
    try simp only [Act.put, List.setIfInBounds_toArray, List.set_cons_zero, List.set_cons_succ]
    refine wpAnyH_take (i := 21) (oi := { dst := some 118, op := _, type := _, pos := _, after := _, guard := _ }) (v := ?vx20) rfl (by kernel_rfl) (by kernel_rfl) (by kernel_rfl) (fun _ _ _ h => h) (Or.inl ⟨by rfl, ?hyx20⟩) (by assumption) ?restx20
    case hyx20 => (intro w hSw; (try dsimp only at hSw); go_simp; try with_reducible rfl)
    try simp only [Act.put, List.setIfInBounds_toArray, List.set_cons_zero, List.set_cons_succ]
    refine wpAnyH_take (i := 22) (oi := { dst := some 119, op := _, type := _, pos := _, after := _, guard := _ }) (v := ?vx21) rfl (by kernel_rfl) (by kernel_rfl) (by kernel_rfl) (fun _ _ _ h => h) (Or.inl ⟨by rfl, ?hyx21⟩) (by assumption) ?restx21
    case hyx21 => (intro w hSw; (try dsimp only at hSw); go_simp; try with_reducible rfl)
    try simp only [Act.put, List.setIfInBounds_toArray, List.set_cons_zero, List.set_cons_succ]
    refine wpAnyH_take (i := 23) (oi := { dst := some 120, op := _, type := _, pos := _, after := _, guard := _ }) (v := ?vx22) rfl (by kernel_rfl) (by kernel_rfl) (by kernel_rfl) (fun _ _ _ h => h) (Or.inl ⟨by rfl, ?hyx22⟩) (by assumption) ?restx22
    case hyx22 => (intro w hSw; (try dsimp only at hSw); go_simp; try with_reducible rfl)
    try simp only [Act.put, List.setIfInBounds_toArray, List.set_cons_zero, List.set_cons_succ]
    refine wpAnyH_done (by kernel_rfl) ?_ _
    refine NoPanic.normal ?_
    clear hHeld
    go_wp2_with fail
    refine HK.out _ _ ?_
    exact t20 C HT HN hnl hm HKl (X.out.later C BA.out) hq
  · obtain rfl : N = q := by omega
    have q2 : ((N : Int) == (N : Int)) = true := by simp
    go_wp2_with fail
    refine wp_region_noPanic ?_
    refine wp_region_held_drew (S := fun W' => (convert 41 9 (.slice (some ⟨gb, 0, none⟩) N cb)).run Tryz.prog W' = .ok (.string (bs b)) W') (by kernel_rfl) (by exact HV.out _ (bstep O4.out.1 (bd1 _))) (fun hHeld => ?_)
    refine wpAnyH_take (i := 0) (oi := { dst := some 97, op := _, type := _, pos := _, after := _, guard := _ }) (v := ?vx23) rfl (by kernel_rfl) (by kernel_rfl) (by kernel_rfl) (fun _ _ _ h => h) (Or.inl ⟨by rfl, ?hyx23⟩) (by assumption) ?restx23
    case hyx23 => (intro w hSw; (try dsimp only at hSw); go_simp; try with_reducible rfl)
    try simp only [Act.put, List.setIfInBounds_toArray, List.set_cons_zero, List.set_cons_succ]
    refine wpAnyH_take (i := 1) (oi := { dst := some 98, op := _, type := _, pos := _, after := _, guard := _ }) (v := ?vx24) rfl (by kernel_rfl) (by kernel_rfl) (by kernel_rfl) (fun _ _ _ h => h) (Or.inl ⟨by rfl, ?hyx24⟩) (by assumption) ?restx24
    case hyx24 => (intro w hSw; (try dsimp only at hSw); go_simp; try with_reducible rfl)
    try simp only [Act.put, List.setIfInBounds_toArray, List.set_cons_zero, List.set_cons_succ]
    refine wpAnyH_take (i := 2) (oi := { dst := some 99, op := _, type := _, pos := _, after := _, guard := _ }) (v := ?vx25) rfl (by kernel_rfl) (by kernel_rfl) (by kernel_rfl) (fun _ _ _ h => h) (Or.inl ⟨by rfl, ?hyx25⟩) (by assumption) ?restx25
    case hyx25 => (intro w hSw; (try dsimp only at hSw); go_simp; try with_reducible rfl)
    try simp only [Act.put, List.setIfInBounds_toArray, List.set_cons_zero, List.set_cons_succ]
    refine wpAnyH_take (i := 3) (oi := { dst := some 100, op := _, type := _, pos := _, after := _, guard := _ }) (v := ?vx26) rfl (by kernel_rfl) (by kernel_rfl) (by kernel_rfl) (fun _ _ _ h => h) (Or.inl ⟨by rfl, ?hyx26⟩) (by assumption) ?restx26
    case hyx26 => (intro w hSw; (try dsimp only at hSw); go_simp; try with_reducible rfl)
    try simp only [Act.put, List.setIfInBounds_toArray, List.set_cons_zero, List.set_cons_succ]
    refine wpAnyH_take (i := 4) (oi := { dst := some 101, op := _, type := _, pos := _, after := _, guard := _ }) (v := ?vx27) rfl (by kernel_rfl) (by kernel_rfl) (by kernel_rfl) (fun _ _ _ h => h) (Or.inl ⟨by rfl, ?hyx27⟩) (by assumption) ?restx27
    case hyx27 => (intro w hSw; (try dsimp only at hSw); go_simp; try with_reducible rfl)
    try simp only [Act.put, List.setIfInBounds_toArray, List.set_cons_zero, List.set_cons_succ]
    refine wpAnyH_take (i := 5) (oi := { dst := some 102, op := _, type := _, pos := _, after := _, guard := _ }) (v := ?vx28) rfl (by kernel_rfl) (by kernel_rfl) (by kernel_rfl) (fun _ _ _ h => h) (Or.inl ⟨by rfl, ?hyx28⟩) (by assumption) ?restx28
    case hyx28 => (intro w hSw; (try dsimp only at hSw); go_simp; try with_reducible rfl)
    try simp only [Act.put, List.setIfInBounds_toArray, List.set_cons_zero, List.set_cons_succ]
    refine wpAnyH_take (i := 6) (oi := { dst := some 103, op := _, type := _, pos := _, after := _, guard := _ }) (v := ?vx29) rfl (by kernel_rfl) (by kernel_rfl) (by kernel_rfl) (fun _ _ _ h => h) (Or.inl ⟨by rfl, ?hyx29⟩) (by assumption) ?restx29
    case hyx29 => (intro w hSw; (try dsimp only at hSw); go_simp; try with_reducible rfl)
    try simp only [Act.put, List.setIfInBounds_toArray, List.set_cons_zero, List.set_cons_succ]
    refine wpAnyH_take (i := 7) (oi := { dst := some 104, op := _, type := _, pos := _, after := _, guard := _ }) (v := ?vx30) rfl (by kernel_rfl) (by kernel_rfl) (by kernel_rfl) (fun _ _ _ h => h) (Or.inl ⟨by rfl, ?hyx30⟩) (by assumption) ?restx30
    case hyx30 => (intro w hSw; (try dsimp only at hSw); go_simp; try with_reducible rfl)
    try simp only [Act.put, List.setIfInBounds_toArray, List.set_cons_zero, List.set_cons_succ]
    refine wpAnyH_take (i := 8) (oi := { dst := some 105, op := _, type := _, pos := _, after := _, guard := _ }) (v := ?vx31) rfl (by kernel_rfl) (by kernel_rfl) (by kernel_rfl) (fun _ _ _ h => h) (Or.inl ⟨by rfl, ?hyx31⟩) (by assumption) ?restx31
    case hyx31 => (intro w hSw; (try dsimp only at hSw); go_simp; try with_reducible rfl)
    try simp only [Act.put, List.setIfInBounds_toArray, List.set_cons_zero, List.set_cons_succ]
    refine wpAnyH_take (i := 9) (oi := { dst := some 106, op := _, type := _, pos := _, after := _, guard := _ }) (v := ?vx32) rfl (by kernel_rfl) (by kernel_rfl) (by kernel_rfl) (fun _ _ _ h => h) (Or.inl ⟨by rfl, ?hyx32⟩) (by assumption) ?restx32
    case hyx32 => (intro w hSw; (try dsimp only at hSw); go_simp; try with_reducible rfl)
    try simp only [Act.put, List.setIfInBounds_toArray, List.set_cons_zero, List.set_cons_succ]
    refine wpAnyH_take (i := 10) (oi := { dst := some 107, op := _, type := _, pos := _, after := _, guard := _ }) (v := ?vx33) rfl (by kernel_rfl) (by kernel_rfl) (by kernel_rfl) (fun _ _ _ h => h) (Or.inl ⟨by rfl, ?hyx33⟩) (by assumption) ?restx33
    case hyx33 => (intro w hSw; (try dsimp only at hSw); go_simp; try with_reducible rfl)
    try simp only [Act.put, List.setIfInBounds_toArray, List.set_cons_zero, List.set_cons_succ]
    refine wpAnyH_take (i := 11) (oi := { dst := some 108, op := _, type := _, pos := _, after := _, guard := _ }) (v := ?vx34) rfl (by kernel_rfl) (by kernel_rfl) (by kernel_rfl) (fun _ _ _ h => h) (Or.inl ⟨by rfl, ?hyx34⟩) (by assumption) ?restx34
    case hyx34 => (intro w hSw; (try dsimp only at hSw); go_simp; try with_reducible rfl)
    try simp only [Act.put, List.setIfInBounds_toArray, List.set_cons_zero, List.set_cons_succ]
    refine wpAnyH_take (i := 14) (oi := { dst := some 111, op := _, type := _, pos := _, after := _, guard := _ }) (v := ?vx35) rfl (by kernel_rfl) (by kernel_rfl) (by kernel_rfl) (fun _ _ _ h => h) (Or.inl ⟨by rfl, ?hyx35⟩) (by assumption) ?restx35
    case hyx35 => (intro w hSw; (try dsimp only at hSw); go_simp; try with_reducible rfl)
    try simp only [Act.put, List.setIfInBounds_toArray, List.set_cons_zero, List.set_cons_succ]
    refine wpAnyH_take (i := 15) (oi := { dst := some 112, op := _, type := _, pos := _, after := _, guard := _ }) (v := ?vx36) rfl (by kernel_rfl) (by kernel_rfl) (by kernel_rfl) (fun _ _ _ h => h) (Or.inl ⟨by rfl, ?hyx36⟩) (by assumption) ?restx36
    case hyx36 => (intro w hSw; (try dsimp only at hSw); go_simp; try with_reducible rfl)
    try simp only [Act.put, List.setIfInBounds_toArray, List.set_cons_zero, List.set_cons_succ]
    refine wpAnyH_ready (rs := [12]) (by kernel_rfl) (by simp) ?_
    refine AllReadyH.cons (o := { dst := some 109, op := _, type := _, pos := _, after := _, guard := _ }) rfl (fun K9 hK => ?_) AllReadyH.nil
    go_simp
    with_reducible refine (HSdA.out _ (bd1 _)).mono ?_
    rintro e zA ⟨vA, rfl, ho, hb⟩
    have BA : Hid (Below W.heap.size W zA) := bstep O4.out.1 (bstep (bd1 _) hb)
    have BAA : Hid (Below w4.heap.size w4 zA) := bstep (bd1 _) hb
    have hvA : (convert 41 9 vA).run Tryz.prog zA = .ok (.string (bs b)) zA := conv_bs ho.bs
    clear hb ho
    refine hK.out _ _ (HV.out zA BA.out) (fun hHeld => ?_)
    clear hK K9
    try simp only [List.setIfInBounds_toArray, List.set_cons_zero, List.set_cons_succ]
    refine wpAnyH_ready (rs := [13]) (by kernel_rfl) (by simp) ?_
    refine AllReadyH.cons (o := { dst := some 110, op := _, type := _, pos := _, after := _, guard := _ }) rfl (fun K9 hK => ?_) AllReadyH.nil
    go_simp
    refine hK.out _ _ (HV.out zA BA.out) (fun hHeld => ?_)
    clear hK K9
    try simp only [List.setIfInBounds_toArray, List.set_cons_zero, List.set_cons_succ]
    refine wpAnyH_take (i := 16) (oi := { dst := some 113, op := _, type := _, pos := _, after := _, guard := _ }) (v := ?vx37) rfl (by kernel_rfl) (by kernel_rfl) (by kernel_rfl) (fun _ _ _ h => h) (Or.inl ⟨by rfl, ?hyx37⟩) (by assumption) ?restx37
    case hyx37 => (intro w hSw; (try dsimp only at hSw); go_simp; try with_reducible rfl)
    try simp only [Act.put, List.setIfInBounds_toArray, List.set_cons_zero, List.set_cons_succ]
    refine wpAnyH_take (i := 17) (oi := { dst := some 114, op := _, type := _, pos := _, after := _, guard := _ }) (v := ?vx38) rfl (by kernel_rfl) (by kernel_rfl) (by kernel_rfl) (fun _ _ _ h => h) (Or.inl ⟨by rfl, ?hyx38⟩) (by assumption) ?restx38
    case hyx38 => (intro w hSw; (try dsimp only at hSw); go_simp; try with_reducible rfl)
    try simp only [Act.put, List.setIfInBounds_toArray, List.set_cons_zero, List.set_cons_succ]
    refine wpAnyH_take (i := 18) (oi := { dst := some 115, op := _, type := _, pos := _, after := _, guard := _ }) (v := ?vx39) rfl (by kernel_rfl) (by kernel_rfl) (by kernel_rfl) (fun _ _ _ h => h) (Or.inl ⟨by rfl, ?hyx39⟩) (by assumption) ?restx39
    case hyx39 => (intro w hSw; (try dsimp only at hSw); go_simp; try with_reducible rfl)
    try simp only [Act.put, List.setIfInBounds_toArray, List.set_cons_zero, List.set_cons_succ]
    refine wpAnyH_take (i := 19) (oi := { dst := some 116, op := _, type := _, pos := _, after := _, guard := _ }) (v := ?vx40) rfl (by kernel_rfl) (by kernel_rfl) (by kernel_rfl) (fun _ _ _ h => h) (Or.inl ⟨by rfl, ?hyx40⟩) (by assumption) ?restx40
    case hyx40 => (intro w hSw; (try dsimp only at hSw); go_simp; try with_reducible rfl)
    try simp only [Act.put, List.setIfInBounds_toArray, List.set_cons_zero, List.set_cons_succ]
    refine wpAnyH_take (i := 20) (oi := { dst := some 117, op := _, type := _, pos := _, after := _, guard := _ }) (v := ?vx41) rfl (by kernel_rfl) (by kernel_rfl) (by kernel_rfl) (fun _ _ _ h => h) (Or.inl ⟨by rfl, ?hyx41⟩) (by assumption) ?restx41
    case hyx41 => (intro w hSw; (try dsimp only at hSw); go_simp; try with_reducible rfl)
    try simp only [Act.put, List.setIfInBounds_toArray, List.set_cons_zero, List.set_cons_succ]
    refine wpAnyH_take (i := 21) (oi := { dst := some 118, op := _, type := _, pos := _, after := _, guard := _ }) (v := ?vx42) rfl (by kernel_rfl) (by kernel_rfl) (by kernel_rfl) (fun _ _ _ h => h) (Or.inl ⟨by rfl, ?hyx42⟩) (by assumption) ?restx42
    case hyx42 => (intro w hSw; (try dsimp only at hSw); go_simp; try with_reducible rfl)
    try simp only [Act.put, List.setIfInBounds_toArray, List.set_cons_zero, List.set_cons_succ]
    refine wpAnyH_take (i := 22) (oi := { dst := some 119, op := _, type := _, pos := _, after := _, guard := _ }) (v := ?vx43) rfl (by kernel_rfl) (by kernel_rfl) (by kernel_rfl) (fun _ _ _ h => h) (Or.inl ⟨by rfl, ?hyx43⟩) (by assumption) ?restx43
    case hyx43 => (intro w hSw; (try dsimp only at hSw); go_simp; try with_reducible rfl)
    try simp only [Act.put, List.setIfInBounds_toArray, List.set_cons_zero, List.set_cons_succ]
    refine wpAnyH_take (i := 23) (oi := { dst := some 120, op := _, type := _, pos := _, after := _, guard := _ }) (v := ?vx44) rfl (by kernel_rfl) (by kernel_rfl) (by kernel_rfl) (fun _ _ _ h => h) (Or.inl ⟨by rfl, ?hyx44⟩) (by assumption) ?restx44
    case hyx44 => (intro w hSw; (try dsimp only at hSw); go_simp; try with_reducible rfl)
    try simp only [Act.put, List.setIfInBounds_toArray, List.set_cons_zero, List.set_cons_succ]
    refine wpAnyH_done (by kernel_rfl) ?_ _
    refine NoPanic.normal ?_
    clear hHeld
    have HSdB : Hid (∀ Z, Below zA.heap.size zA Z → Calls Tryz.prog 14 #[.pointer (some ⟨g4, 0, none⟩)] Z fun e w' => ∃ v', e = .returned v' ∧ OwnB Z.heap.size w' v' b ∧ Below Z.heap.size Z w') := fun Z hZ => by
      have hz : Below w4.heap.size w4 zA := BAA.out
      exact HSdA.out Z (bstep hz hZ)
    go_wp2_with fail
    refine wp_region_noPanic ?_
    refine wp_region_held_drew (S := fun W' => (convert 41 9 (.slice (some ⟨gb, 0, none⟩) N cb)).run Tryz.prog W' = .ok (.string (bs b)) W') (by kernel_rfl) (by exact HV.out _ (bstep BA.out (bd1 _))) (fun hHeld => ?_)
    refine wpAnyH_take (i := 0) (oi := { dst := some 121, op := _, type := _, pos := _, after := _, guard := _ }) (v := ?vx45) rfl (by kernel_rfl) (by kernel_rfl) (by kernel_rfl) (fun _ _ _ h => h) (Or.inl ⟨by rfl, ?hyx45⟩) (by assumption) ?restx45
    case hyx45 => (intro w hSw; (try dsimp only at hSw); go_simp; try with_reducible rfl)
    try simp only [Act.put, List.setIfInBounds_toArray, List.set_cons_zero, List.set_cons_succ]
    refine wpAnyH_take (i := 1) (oi := { dst := some 122, op := _, type := _, pos := _, after := _, guard := _ }) (v := ?vx46) rfl (by kernel_rfl) (by kernel_rfl) (by kernel_rfl) (fun _ _ _ h => h) (Or.inl ⟨by rfl, ?hyx46⟩) (by assumption) ?restx46
    case hyx46 => (intro w hSw; (try dsimp only at hSw); go_simp; try with_reducible rfl)
    try simp only [Act.put, List.setIfInBounds_toArray, List.set_cons_zero, List.set_cons_succ]
    refine wpAnyH_take (i := 2) (oi := { dst := some 123, op := _, type := _, pos := _, after := _, guard := _ }) (v := ?vx47) rfl (by kernel_rfl) (by kernel_rfl) (by kernel_rfl) (fun _ _ _ h => h) (Or.inl ⟨by rfl, ?hyx47⟩) (by assumption) ?restx47
    case hyx47 => (intro w hSw; (try dsimp only at hSw); go_simp; try with_reducible rfl)
    try simp only [Act.put, List.setIfInBounds_toArray, List.set_cons_zero, List.set_cons_succ]
    refine wpAnyH_take (i := 3) (oi := { dst := some 124, op := _, type := _, pos := _, after := _, guard := _ }) (v := ?vx48) rfl (by kernel_rfl) (by kernel_rfl) (by kernel_rfl) (fun _ _ _ h => h) (Or.inl ⟨by rfl, ?hyx48⟩) (by assumption) ?restx48
    case hyx48 => (intro w hSw; (try dsimp only at hSw); go_simp; try with_reducible rfl)
    try simp only [Act.put, List.setIfInBounds_toArray, List.set_cons_zero, List.set_cons_succ]
    refine wpAnyH_take (i := 4) (oi := { dst := some 125, op := _, type := _, pos := _, after := _, guard := _ }) (v := ?vx49) rfl (by kernel_rfl) (by kernel_rfl) (by kernel_rfl) (fun _ _ _ h => h) (Or.inl ⟨by rfl, ?hyx49⟩) (by assumption) ?restx49
    case hyx49 => (intro w hSw; (try dsimp only at hSw); go_simp; try with_reducible rfl)
    try simp only [Act.put, List.setIfInBounds_toArray, List.set_cons_zero, List.set_cons_succ]
    refine wpAnyH_take (i := 5) (oi := { dst := some 126, op := _, type := _, pos := _, after := _, guard := _ }) (v := ?vx50) rfl (by kernel_rfl) (by kernel_rfl) (by kernel_rfl) (fun _ _ _ h => h) (Or.inl ⟨by rfl, ?hyx50⟩) (by assumption) ?restx50
    case hyx50 => (intro w hSw; (try dsimp only at hSw); go_simp; try with_reducible rfl)
    try simp only [Act.put, List.setIfInBounds_toArray, List.set_cons_zero, List.set_cons_succ]
    refine wpAnyH_take (i := 6) (oi := { dst := some 127, op := _, type := _, pos := _, after := _, guard := _ }) (v := ?vx51) rfl (by kernel_rfl) (by kernel_rfl) (by kernel_rfl) (fun _ _ _ h => h) (Or.inl ⟨by rfl, ?hyx51⟩) (by assumption) ?restx51
    case hyx51 => (intro w hSw; (try dsimp only at hSw); go_simp; try with_reducible rfl)
    try simp only [Act.put, List.setIfInBounds_toArray, List.set_cons_zero, List.set_cons_succ]
    refine wpAnyH_take (i := 7) (oi := { dst := some 128, op := _, type := _, pos := _, after := _, guard := _ }) (v := ?vx52) rfl (by kernel_rfl) (by kernel_rfl) (by kernel_rfl) (fun _ _ _ h => h) (Or.inl ⟨by rfl, ?hyx52⟩) (by assumption) ?restx52
    case hyx52 => (intro w hSw; (try dsimp only at hSw); go_simp; try with_reducible rfl)
    try simp only [Act.put, List.setIfInBounds_toArray, List.set_cons_zero, List.set_cons_succ]
    refine wpAnyH_take (i := 8) (oi := { dst := some 129, op := _, type := _, pos := _, after := _, guard := _ }) (v := ?vx53) rfl (by kernel_rfl) (by kernel_rfl) (by kernel_rfl) (fun _ _ _ h => h) (Or.inl ⟨by rfl, ?hyx53⟩) (by assumption) ?restx53
    case hyx53 => (intro w hSw; (try dsimp only at hSw); go_simp; try with_reducible rfl)
    try simp only [Act.put, List.setIfInBounds_toArray, List.set_cons_zero, List.set_cons_succ]
    refine wpAnyH_take (i := 9) (oi := { dst := some 130, op := _, type := _, pos := _, after := _, guard := _ }) (v := ?vx54) rfl (by kernel_rfl) (by kernel_rfl) (by kernel_rfl) (fun _ _ _ h => h) (Or.inl ⟨by rfl, ?hyx54⟩) (by assumption) ?restx54
    case hyx54 => (intro w hSw; (try dsimp only at hSw); go_simp; try with_reducible rfl)
    try simp only [Act.put, List.setIfInBounds_toArray, List.set_cons_zero, List.set_cons_succ]
    refine wpAnyH_take (i := 10) (oi := { dst := some 131, op := _, type := _, pos := _, after := _, guard := _ }) (v := ?vx55) rfl (by kernel_rfl) (by kernel_rfl) (by kernel_rfl) (fun _ _ _ h => h) (Or.inl ⟨by rfl, ?hyx55⟩) (by assumption) ?restx55
    case hyx55 => (intro w hSw; (try dsimp only at hSw); go_simp; try with_reducible rfl)
    try simp only [Act.put, List.setIfInBounds_toArray, List.set_cons_zero, List.set_cons_succ]
    refine wpAnyH_take (i := 11) (oi := { dst := some 132, op := _, type := _, pos := _, after := _, guard := _ }) (v := ?vx56) rfl (by kernel_rfl) (by kernel_rfl) (by kernel_rfl) (fun _ _ _ h => h) (Or.inl ⟨by rfl, ?hyx56⟩) (by assumption) ?restx56
    case hyx56 => (intro w hSw; (try dsimp only at hSw); go_simp; try with_reducible rfl)
    try simp only [Act.put, List.setIfInBounds_toArray, List.set_cons_zero, List.set_cons_succ]
    refine wpAnyH_take (i := 14) (oi := { dst := some 135, op := _, type := _, pos := _, after := _, guard := _ }) (v := ?vx57) rfl (by kernel_rfl) (by kernel_rfl) (by kernel_rfl) (fun _ _ _ h => h) (Or.inl ⟨by rfl, ?hyx57⟩) (by assumption) ?restx57
    case hyx57 => (intro w hSw; (try dsimp only at hSw); go_simp; try with_reducible rfl)
    try simp only [Act.put, List.setIfInBounds_toArray, List.set_cons_zero, List.set_cons_succ]
    refine wpAnyH_take (i := 15) (oi := { dst := some 136, op := _, type := _, pos := _, after := _, guard := _ }) (v := ?vx58) rfl (by kernel_rfl) (by kernel_rfl) (by kernel_rfl) (fun _ _ _ h => h) (Or.inl ⟨by rfl, ?hyx58⟩) (by assumption) ?restx58
    case hyx58 => (intro w hSw; (try dsimp only at hSw); go_simp; try with_reducible rfl)
    try simp only [Act.put, List.setIfInBounds_toArray, List.set_cons_zero, List.set_cons_succ]
    refine wpAnyH_ready (rs := [12]) (by kernel_rfl) (by simp) ?_
    refine AllReadyH.cons (o := { dst := some 133, op := _, type := _, pos := _, after := _, guard := _ }) rfl (fun K9 hK => ?_) AllReadyH.nil
    go_simp
    with_reducible refine (HSdB.out _ (bd1 _)).mono ?_
    rintro e zB ⟨vB, rfl, ho, hb⟩
    have BB : Hid (Below W.heap.size W zB) := bstep BA.out (bstep (bd1 _) hb)
    have hvB : (convert 41 9 vB).run Tryz.prog zB = .ok (.string (bs b)) zB := conv_bs ho.bs
    clear hb ho
    refine hK.out _ _ (HV.out zB BB.out) (fun hHeld => ?_)
    clear hK K9
    try simp only [List.setIfInBounds_toArray, List.set_cons_zero, List.set_cons_succ]
    refine wpAnyH_ready (rs := [13]) (by kernel_rfl) (by simp) ?_
    refine AllReadyH.cons (o := { dst := some 134, op := _, type := _, pos := _, after := _, guard := _ }) rfl (fun K9 hK => ?_) AllReadyH.nil
    go_simp
    refine hK.out _ _ (HV.out zB BB.out) (fun hHeld => ?_)
    clear hK K9
    try simp only [List.setIfInBounds_toArray, List.set_cons_zero, List.set_cons_succ]
    refine wpAnyH_take (i := 16) (oi := { dst := some 137, op := _, type := _, pos := _, after := _, guard := _ }) (v := ?vx59) rfl (by kernel_rfl) (by kernel_rfl) (by kernel_rfl) (fun _ _ _ h => h) (Or.inl ⟨by rfl, ?hyx59⟩) (by assumption) ?restx59
    case hyx59 => (intro w hSw; (try dsimp only at hSw); go_simp; try with_reducible rfl)
    try simp only [Act.put, List.setIfInBounds_toArray, List.set_cons_zero, List.set_cons_succ]
    refine wpAnyH_take (i := 17) (oi := { dst := some 138, op := _, type := _, pos := _, after := _, guard := _ }) (v := ?vx60) rfl (by kernel_rfl) (by kernel_rfl) (by kernel_rfl) (fun _ _ _ h => h) (Or.inl ⟨by rfl, ?hyx60⟩) (by assumption) ?restx60
    case hyx60 => (intro w hSw; (try dsimp only at hSw); go_simp; try with_reducible rfl)
    try simp only [Act.put, List.setIfInBounds_toArray, List.set_cons_zero, List.set_cons_succ]
    refine wpAnyH_take (i := 18) (oi := { dst := some 6, op := _, type := _, pos := _, after := _, guard := _ }) (v := ?vx61) rfl (by kernel_rfl) (by kernel_rfl) (by kernel_rfl) (fun _ _ _ h => h) (Or.inl ⟨by rfl, ?hyx61⟩) (by assumption) ?restx61
    case hyx61 => (intro w hSw; (try dsimp only at hSw); go_simp; try with_reducible rfl)
    try simp only [Act.put, List.setIfInBounds_toArray, List.set_cons_zero, List.set_cons_succ]
    refine wpAnyH_done (by kernel_rfl) ?_ _
    refine NoPanic.normal ?_
    clear hHeld
    go_wp2_with fail
    go_ret
    exact ⟨rfl, bstep X.out.bel BB.out⟩
end Go.Proofs.YtddaoloabfkheaaGreatDoor
