/-
  The landed tree: Crash.
-/
import Derived.Test.YtlkkmcibjhoneaaGreatDoorJOj
import Derived.OrdersHeld
import Derived.Deep.Cut
namespace Go.Proofs.YtlkkmcibjhoneaaGreatDoor
open Go.RowKit Go.Maps
attribute [local go_sem] Oper.semAt_some

theorem cloneF {w W : World} {b cnt : Nat} {F : List UInt8 → Option Fl} (h : MP cF w b F cnt) (hb : Below w.heap.size w W) :
    Calls Tryz.prog 42 #[.map (some b)] W fun e w' => ∃ m, e = .returned (.map (some m)) ∧ W.heap.size ≤ m ∧ MP cF w' m F cnt ∧ Below W.heap.size W w' := by
  obtain ⟨es, ck, e⟩ := (h.later hb).isMap
  refine (mclone42 e).mono ?_
  rintro e' w' ⟨rfl, rfl⟩
  exact ⟨_, rfl, Nat.le_refl _, (h.later hb).clone ((heap_alloc_new W _).trans e.symm), balloc _ _⟩
theorem cloneD {w W : World} {b cnt : Nat} {F : List UInt8 → Option Int} (h : MP cI w b F cnt) (hb : Below w.heap.size w W) :
    Calls Tryz.prog 43 #[.map (some b)] W fun e w' => ∃ m, e = .returned (.map (some m)) ∧ W.heap.size ≤ m ∧ MP cI w' m F cnt ∧ Below W.heap.size W w' := by
  obtain ⟨es, ck, e⟩ := (h.later hb).isMap
  refine (mclone43 e).mono ?_
  rintro e' w' ⟨rfl, rfl⟩
  exact ⟨_, rfl, Nat.le_refl _, (h.later hb).clone ((heap_alloc_new W _).trans e.symm), balloc _ _⟩
/-- what Crash gives -/
theorem cr_end {w W : World} {c mf md m1 m2 : Nat} {vj vt v : Value} {lf n : Int} {T : TT} (h : LX w c mf md vj vt lf T) (hb : Below w.heap.size w W) (hf : MP cF W m1 (fF T.fs) T.fs.length) (hd : MP cI W m2 (dF T.fs T.ds) (T.ds.length + 1)) (h1 : w.heap.size ≤ m1) (h2 : w.heap.size ≤ m2) (hne : m1 ≠ m2) (hv : OwnB w.heap.size W v (T.jl ++ T.tn.take (rst n T.tn.length))) (hok : TOk (T.cr n)) :
    LT (W.alloc (.cells #[.map (some m1), .map (some m2), v, .int .i64 0, .int .i64 0, .bool false, .slice none 0 0] 73)) (fun k => w.heap.size ≤ k ∧ k < (W.alloc (.cells #[.map (some m1), .map (some m2), v, .int .i64 0, .int .i64 0, .bool false, .slice none 0 0] 73)).heap.size) W.heap.size (T.cr n) ∧ Below w.heap.size w (W.alloc (.cells #[.map (some m1), .map (some m2), v, .int .i64 0, .int .i64 0, .bool false, .slice none 0 0] 73)) := by
  have hB := balloc W (.cells #[.map (some m1), .map (some m2), v, .int .i64 0, .int .i64 0, .bool false, .slice none 0 0] 73)
  have hbig := h.ev.big
  have hsz := hb.size
  have hz : (W.alloc (.cells #[.map (some m1), .map (some m2), v, .int .i64 0, .int .i64 0, .bool false, .slice none 0 0] 73)).heap.size = W.heap.size + 1 := by simp
  have hbb : Below w.heap.size w (W.alloc (.cells #[.map (some m1), .map (some m2), v, .int .i64 0, .int .i64 0, .bool false, .slice none 0 0] 73)) := below_trans hb (below_mono hB hsz)
  refine ⟨⟨m1, m2, v, .slice none 0 0, 0, ⟨heap_alloc_new _ _, hf.later hB, hd.later hB, ((hv.mono (Nat.zero_le _))).later hB, OwnB.nil _ _, ⟨by decide, by decide, (fun e => (by cases e)), (fun _ => Or.inl ⟨by decide, rfl⟩)⟩, ⟨by omega, by omega, by omega, fun k hk => by have := (hv.lt hk).1; omega⟩, hne, fun k _ e => (by cases e), hok, h.ev.later hbb⟩, ?_, fun k hk => hk.2⟩, hbb⟩
  rintro k (rfl | rfl | rfl | hk | hk)
  · exact ⟨hsz, by omega⟩
  · exact ⟨h1, by have := hf.lt; omega⟩
  · exact ⟨h2, by have := hd.lt; omega⟩
  · have := hv.lt hk; exact ⟨this.1, by omega⟩
  · cases hk
set_option maxRecDepth 100000 in
set_option maxHeartbeats 16000000 in
theorem crash_any {w : World} {F : Nat → Prop} {c : Nat} {T : TT} (h : LT w F c T) (hz : TSz 4000000 T) (n : Int) :
    Calls Tryz.prog 13 #[.pointer (some ⟨c, 0, none⟩), .int .i64 n] w fun e w' => ∃ c', e = .returned (.pointer (some ⟨c', 0, none⟩)) ∧ LT w' (fun k => w.heap.size ≤ k ∧ k < w'.heap.size) c' (T.cr n) ∧ Below w.heap.size w w' := by
  obtain ⟨mf, md, vj, vt, lf, h, hF, hl⟩ := h
  obtain ⟨c0, c1, c2, c3, c4, c5, c6⟩ := h.cells
  have hcl := h.clt
  obtain ⟨ta, tc, hvt⟩ := h.ton.len
  obtain ⟨NT, hNT⟩ : ∃ k, T.tn.length = k := ⟨_, rfl⟩
  rw [hNT] at hvt
  subst hvt
  obtain ⟨ja, jc, hvj⟩ := h.jo.len
  obtain ⟨NJ, hNJ⟩ : ∃ k, T.jl.length = k := ⟨_, rfl⟩
  rw [hNJ] at hvj
  subst hvj
  have hNT4 : NT ≤ 4000000 := by have := hz.nt; omega
  obtain ⟨R, hR⟩ : ∃ R, rst n NT = R := ⟨_, rfl⟩
  have hRN : R ≤ NT := by rw [← hR]; exact rst_le _ _
  have hcap : NT ≤ tc := by
    rcases h.ton.bs with ⟨⟨a, c', e⟩, e2⟩ | ⟨b, off, cap, e, hc, _⟩
    · rw [e2] at hNT; simp at hNT; omega
    · injection e with e1 e2 e3
      subst e3
      omega
  have hRt : R ≤ tc := by omega
  have HL : Hid (LX w c mf md (.slice ja NJ jc) (.slice ta NT tc) lf T) := h
  have hwr : IntKind.i64.wrap ((NT : Int) + 1) = (NT : Int) + 1 := by rw [IntKind.wrap_i64]; omega
  have HR : Hid (∀ W, Calls Tryz.prog 41 #[.int .i64 n, .int .i64 (IntKind.i64.wrap ((NT : Int) + 1))] W fun e w' => e = .returned (.int .i64 (R : Int)) ∧ w' = W) := fun W => by rw [hwr]; exact rest_any n NT R hNT4 hR W
  clear hwr
  have HB : Hid (BS w (.slice ta R tc) (T.tn.take R) ∧ (T.tn.take R).length = R) := ⟨h.ton.bs.take R (by omega), by rw [List.length_take]; omega⟩
  have HN : Hid (T.tn.length = NT ∧ T.jl.length = NJ ∧ NJ ≤ 4000000 ∧ rst n T.tn.length = R) := ⟨hNT, hNJ, by have := hz.nj; omega, by rw [hNT]; exact hR⟩
  have HE : Hid (∀ W, Below w.heap.size w W → W.cell? ⟨c, 0, none⟩ = some (.map (some mf)) ∧ W.cell? ⟨c, 1, none⟩ = some (.map (some md)) ∧ W.cell? ⟨c, 2, none⟩ = some (.slice ja NJ jc) ∧ W.cell? ⟨c, 6, none⟩ = some (.slice ta NT tc)) := fun W hb => ⟨(hb.cell (p := ⟨c, 0, none⟩) hcl).trans c0, (hb.cell (p := ⟨c, 1, none⟩) hcl).trans c1, (hb.cell (p := ⟨c, 2, none⟩) hcl).trans c2, (hb.cell (p := ⟨c, 6, none⟩) hcl).trans c6⟩
  clear h hF hl c0 c1 c2 c3 c4 c5 c6 hz hNT hNJ hR
  go_enter Tryz.func13, Tryz.ntmps13
  conv => arg 2; whnf
  refine wp_seq_k fun KK hKK => ?_
  have HK_ : Hid _ := hKK
  clear hKK
  go_wp2_with fail
  refine HK_.out _ _ ?_
  clear HK_
  refine wp_seq_k fun KK hKK => ?_
  have HK_ : Hid _ := hKK
  clear hKK
  go_wp2_with fail
  refine wp_region_noPanic ?_
  refine wp_region_held_drew (S := fun W' => W'.cell? ⟨c, 0, none⟩ = some (.map (some mf)) ∧ W'.cell? ⟨c, 1, none⟩ = some (.map (some md)) ∧ W'.cell? ⟨c, 2, none⟩ = some (.slice ja NJ jc) ∧ W'.cell? ⟨c, 6, none⟩ = some (.slice ta NT tc)) (by kernel_rfl) (HE.out _ (Below.refl _ _).drew) (fun hHeld => ?_)
  refine wpAnyH_take (i := 0) (oi := { dst := some 6, op := _, type := _, pos := _, after := _, guard := _ }) (v := ?vx1) rfl (by kernel_rfl) (by kernel_rfl) (by kernel_rfl) (fun _ _ _ h => h) (Or.inl ⟨by rfl, ?hyx1⟩) (by assumption) ?restx1
  case hyx1 => (intro w hSw; (try dsimp only at hSw); (try obtain ⟨hS1, hS2, hS3, hS4⟩ := hSw); go_simp; try with_reducible rfl)
  try simp only [Act.put, List.setIfInBounds_toArray, List.set_cons_zero, List.set_cons_succ]
  refine wpAnyH_take (i := 1) (oi := { dst := some 7, op := _, type := _, pos := _, after := _, guard := _ }) (v := ?vx2) rfl (by kernel_rfl) (by kernel_rfl) (by kernel_rfl) (fun _ _ _ h => h) (Or.inl ⟨by rfl, ?hyx2⟩) (by assumption) ?restx2
  case hyx2 => (intro w hSw; (try dsimp only at hSw); (try obtain ⟨hS1, hS2, hS3, hS4⟩ := hSw); go_simp; try with_reducible rfl)
  try simp only [Act.put, List.setIfInBounds_toArray, List.set_cons_zero, List.set_cons_succ]
  refine wpAnyH_take (i := 2) (oi := { dst := some 8, op := _, type := _, pos := _, after := _, guard := _ }) (v := ?vx3) rfl (by kernel_rfl) (by kernel_rfl) (by kernel_rfl) (fun _ _ _ h => h) (Or.inl ⟨by rfl, ?hyx3⟩) (by assumption) ?restx3
  case hyx3 => (intro w hSw; (try dsimp only at hSw); (try obtain ⟨hS1, hS2, hS3, hS4⟩ := hSw); go_simp; try with_reducible rfl)
  try simp only [Act.put, List.setIfInBounds_toArray, List.set_cons_zero, List.set_cons_succ]
  refine wpAnyH_take (i := 3) (oi := { dst := some 9, op := _, type := _, pos := _, after := _, guard := _ }) (v := ?vx4) rfl (by kernel_rfl) (by kernel_rfl) (by kernel_rfl) (fun _ _ _ h => h) (Or.inl ⟨by rfl, ?hyx4⟩) (by assumption) ?restx4
  case hyx4 => (intro w hSw; (try dsimp only at hSw); (try obtain ⟨hS1, hS2, hS3, hS4⟩ := hSw); go_simp; try with_reducible rfl)
  try simp only [Act.put, List.setIfInBounds_toArray, List.set_cons_zero, List.set_cons_succ]
  refine wpAnyH_take (i := 4) (oi := { dst := some 10, op := _, type := _, pos := _, after := _, guard := _ }) (v := ?vx5) rfl (by kernel_rfl) (by kernel_rfl) (by kernel_rfl) (fun _ _ _ h => h) (Or.inl ⟨by rfl, ?hyx5⟩) (by assumption) ?restx5
  case hyx5 => (intro w hSw; (try dsimp only at hSw); (try obtain ⟨hS1, hS2, hS3, hS4⟩ := hSw); go_simp; try with_reducible rfl)
  try simp only [Act.put, List.setIfInBounds_toArray, List.set_cons_zero, List.set_cons_succ]
  refine wpAnyH_take (i := 5) (oi := { dst := some 11, op := _, type := _, pos := _, after := _, guard := _ }) (v := ?vx6) rfl (by kernel_rfl) (by kernel_rfl) (by kernel_rfl) (fun _ _ _ h => h) (Or.inl ⟨by rfl, ?hyx6⟩) (by assumption) ?restx6
  case hyx6 => (intro w hSw; (try dsimp only at hSw); (try obtain ⟨hS1, hS2, hS3, hS4⟩ := hSw); go_simp; try with_reducible rfl)
  try simp only [Act.put, List.setIfInBounds_toArray, List.set_cons_zero, List.set_cons_succ]
  refine wpAnyH_take (i := 6) (oi := { dst := some 12, op := _, type := _, pos := _, after := _, guard := _ }) (v := ?vx7) rfl (by kernel_rfl) (by kernel_rfl) (by kernel_rfl) (fun _ _ _ h => h) (Or.inl ⟨by rfl, ?hyx7⟩) (by assumption) ?restx7
  case hyx7 => (intro w hSw; (try dsimp only at hSw); (try obtain ⟨hS1, hS2, hS3, hS4⟩ := hSw); go_simp; try with_reducible rfl)
  try simp only [Act.put, List.setIfInBounds_toArray, List.set_cons_zero, List.set_cons_succ]
  refine wpAnyH_take (i := 7) (oi := { dst := some 13, op := _, type := _, pos := _, after := _, guard := _ }) (v := ?vx8) rfl (by kernel_rfl) (by kernel_rfl) (by kernel_rfl) (fun _ _ _ h => h) (Or.inl ⟨by rfl, ?hyx8⟩) (by assumption) ?restx8
  case hyx8 => (intro w hSw; (try dsimp only at hSw); (try obtain ⟨hS1, hS2, hS3, hS4⟩ := hSw); go_simp; try with_reducible rfl)
  try simp only [Act.put, List.setIfInBounds_toArray, List.set_cons_zero, List.set_cons_succ]
  refine wpAnyH_take (i := 8) (oi := { dst := some 14, op := _, type := _, pos := _, after := _, guard := _ }) (v := ?vx9) rfl (by kernel_rfl) (by kernel_rfl) (by kernel_rfl) (fun _ _ _ h => h) (Or.inl ⟨by rfl, ?hyx9⟩) (by assumption) ?restx9
  case hyx9 => (intro w hSw; (try dsimp only at hSw); (try obtain ⟨hS1, hS2, hS3, hS4⟩ := hSw); go_simp; try with_reducible rfl)
  try simp only [Act.put, List.setIfInBounds_toArray, List.set_cons_zero, List.set_cons_succ]
  refine wpAnyH_take (i := 9) (oi := { dst := some 15, op := _, type := _, pos := _, after := _, guard := _ }) (v := ?vx10) rfl (by kernel_rfl) (by kernel_rfl) (by kernel_rfl) (fun _ _ _ h => h) (Or.inl ⟨by rfl, ?hyx10⟩) (by assumption) ?restx10
  case hyx10 => (intro w hSw; (try dsimp only at hSw); (try obtain ⟨hS1, hS2, hS3, hS4⟩ := hSw); go_simp; try with_reducible rfl)
  try simp only [Act.put, List.setIfInBounds_toArray, List.set_cons_zero, List.set_cons_succ]
  refine wpAnyH_take (i := 10) (oi := { dst := some 16, op := _, type := _, pos := _, after := _, guard := _ }) (v := ?vx11) rfl (by kernel_rfl) (by kernel_rfl) (by kernel_rfl) (fun _ _ _ h => h) (Or.inl ⟨by rfl, ?hyx11⟩) (by assumption) ?restx11
  case hyx11 => (intro w hSw; (try dsimp only at hSw); (try obtain ⟨hS1, hS2, hS3, hS4⟩ := hSw); go_simp; try with_reducible rfl)
  try simp only [Act.put, List.setIfInBounds_toArray, List.set_cons_zero, List.set_cons_succ]
  refine wpAnyH_ready (rs := [11]) (by kernel_rfl) (by simp) ?_
  refine AllReadyH.cons (o := { dst := some 17, op := _, type := _, pos := _, after := _, guard := _ }) rfl (fun K hK => ?_) AllReadyH.nil
  go_simp
  (with_reducible refine (HR.out _).mono ?_)
  rintro e w1 ⟨rfl, rfl⟩
  refine hK.out _ _ (HE.out _ (Below.refl _ _).drew) (fun hHeld => ?_)
  clear hK K
  try simp only [List.setIfInBounds_toArray, List.set_cons_zero, List.set_cons_succ]
  refine wpAnyH_take (i := 12) (oi := { dst := some 18, op := _, type := _, pos := _, after := _, guard := _ }) (v := ?vx12) rfl (by kernel_rfl) (by kernel_rfl) (by kernel_rfl) (fun _ _ _ h => h) (Or.inl ⟨by rfl, ?hyx12⟩) (by assumption) ?restx12
  case hyx12 => (intro w hSw; (try dsimp only at hSw); (try obtain ⟨hS1, hS2, hS3, hS4⟩ := hSw); go_simp; try with_reducible rfl)
  try simp only [Act.put, List.setIfInBounds_toArray, List.set_cons_zero, List.set_cons_succ]
  refine wpAnyH_take (i := 13) (oi := { dst := some 5, op := _, type := _, pos := _, after := _, guard := _ }) (v := ?vx13) rfl (by kernel_rfl) (by kernel_rfl) (by kernel_rfl) (fun _ _ _ h => h) (Or.inl ⟨by rfl, ?hyx13⟩) (by assumption) ?restx13
  case hyx13 => (intro w hSw; (try dsimp only at hSw); (try obtain ⟨hS1, hS2, hS3, hS4⟩ := hSw); go_simp; try with_reducible rfl)
  try simp only [Act.put, List.setIfInBounds_toArray, List.set_cons_zero, List.set_cons_succ]
  refine wpAnyH_done (by kernel_rfl) ?_ _
  refine NoPanic.normal ?_
  clear hHeld
  refine HK_.out _ _ ?_
  clear HK_
  refine wp_seq_k fun KK hKK => ?_
  have HK_ : Hid _ := hKK
  clear hKK
  go_wp2_with fail
  refine wp_region_noPanic ?_
  refine wp_region_held_drew (S := fun W' => W'.cell? ⟨c, 0, none⟩ = some (.map (some mf)) ∧ W'.cell? ⟨c, 1, none⟩ = some (.map (some md)) ∧ W'.cell? ⟨c, 2, none⟩ = some (.slice ja NJ jc) ∧ W'.cell? ⟨c, 6, none⟩ = some (.slice ta NT tc)) (by kernel_rfl) (HE.out _ (Below.refl _ _).drew.drew) (fun hHeld => ?_)
  obtain ⟨w5, hw5⟩ : ∃ x, w.drew.drew = x := ⟨_, rfl⟩
  rw [hw5] at hHeld ⊢
  have Ow5 : Hid (Below w.heap.size w w5) := hw5 ▸ (Below.refl _ _).drew.drew
  clear hw5
  refine wpAnyH_take (i := 0) (oi := { dst := some 19, op := _, type := _, pos := _, after := _, guard := _ }) (v := ?vx14) rfl (by kernel_rfl) (by kernel_rfl) (by kernel_rfl) (fun _ _ _ h => h) (Or.inl ⟨by rfl, ?hyx14⟩) (by assumption) ?restx14
  case hyx14 => (intro w hSw; (try dsimp only at hSw); (try obtain ⟨hS1, hS2, hS3, hS4⟩ := hSw); go_simp; try with_reducible rfl)
  try simp only [Act.put, List.setIfInBounds_toArray, List.set_cons_zero, List.set_cons_succ]
  refine wpAnyH_take (i := 1) (oi := { dst := some 20, op := _, type := _, pos := _, after := _, guard := _ }) (v := ?vx15) rfl (by kernel_rfl) (by kernel_rfl) (by kernel_rfl) (fun _ _ _ h => h) (Or.inl ⟨by rfl, ?hyx15⟩) (by assumption) ?restx15
  case hyx15 => (intro w hSw; (try dsimp only at hSw); (try obtain ⟨hS1, hS2, hS3, hS4⟩ := hSw); go_simp; try with_reducible rfl)
  try simp only [Act.put, List.setIfInBounds_toArray, List.set_cons_zero, List.set_cons_succ]
  refine wpAnyH_take (i := 2) (oi := { dst := some 21, op := _, type := _, pos := _, after := _, guard := _ }) (v := ?vx16) rfl (by kernel_rfl) (by kernel_rfl) (by kernel_rfl) (fun _ _ _ h => h) (Or.inl ⟨by rfl, ?hyx16⟩) (by assumption) ?restx16
  case hyx16 => (intro w hSw; (try dsimp only at hSw); (try obtain ⟨hS1, hS2, hS3, hS4⟩ := hSw); go_simp; try with_reducible rfl)
  try simp only [Act.put, List.setIfInBounds_toArray, List.set_cons_zero, List.set_cons_succ]
  refine wpAnyH_take (i := 3) (oi := { dst := some 22, op := _, type := _, pos := _, after := _, guard := _ }) (v := ?vx17) rfl (by kernel_rfl) (by kernel_rfl) (by kernel_rfl) (fun _ _ _ h => h) (Or.inl ⟨by rfl, ?hyx17⟩) (by assumption) ?restx17
  case hyx17 => (intro w hSw; (try dsimp only at hSw); (try obtain ⟨hS1, hS2, hS3, hS4⟩ := hSw); go_simp; try with_reducible rfl)
  try simp only [Act.put, List.setIfInBounds_toArray, List.set_cons_zero, List.set_cons_succ]
  refine wpAnyH_take (i := 5) (oi := { dst := some 24, op := _, type := _, pos := _, after := _, guard := _ }) (v := ?vx18) rfl (by kernel_rfl) (by kernel_rfl) (by kernel_rfl) (fun _ _ _ h => h) (Or.inl ⟨by rfl, ?hyx18⟩) (by assumption) ?restx18
  case hyx18 => (intro w hSw; (try dsimp only at hSw); (try obtain ⟨hS1, hS2, hS3, hS4⟩ := hSw); go_simp; try with_reducible rfl)
  try simp only [Act.put, List.setIfInBounds_toArray, List.set_cons_zero, List.set_cons_succ]
  refine wpAnyH_take (i := 6) (oi := { dst := some 25, op := _, type := _, pos := _, after := _, guard := _ }) (v := ?vx19) rfl (by kernel_rfl) (by kernel_rfl) (by kernel_rfl) (fun _ _ _ h => h) (Or.inl ⟨by rfl, ?hyx19⟩) (by assumption) ?restx19
  case hyx19 => (intro w hSw; (try dsimp only at hSw); (try obtain ⟨hS1, hS2, hS3, hS4⟩ := hSw); go_simp; try with_reducible rfl)
  try simp only [Act.put, List.setIfInBounds_toArray, List.set_cons_zero, List.set_cons_succ]
  refine wpAnyH_take (i := 7) (oi := { dst := some 26, op := _, type := _, pos := _, after := _, guard := _ }) (v := ?vx20) rfl (by kernel_rfl) (by kernel_rfl) (by kernel_rfl) (fun _ _ _ h => h) (Or.inl ⟨by rfl, ?hyx20⟩) (by assumption) ?restx20
  case hyx20 => (intro w hSw; (try dsimp only at hSw); (try obtain ⟨hS1, hS2, hS3, hS4⟩ := hSw); go_simp; try with_reducible rfl)
  try simp only [Act.put, List.setIfInBounds_toArray, List.set_cons_zero, List.set_cons_succ]
  refine wpAnyH_take (i := 8) (oi := { dst := some 27, op := _, type := _, pos := _, after := _, guard := _ }) (v := ?vx21) rfl (by kernel_rfl) (by kernel_rfl) (by kernel_rfl) (fun _ _ _ h => h) (Or.inl ⟨by rfl, ?hyx21⟩) (by assumption) ?restx21
  case hyx21 => (intro w hSw; (try dsimp only at hSw); (try obtain ⟨hS1, hS2, hS3, hS4⟩ := hSw); go_simp; try with_reducible rfl)
  try simp only [Act.put, List.setIfInBounds_toArray, List.set_cons_zero, List.set_cons_succ]
  refine wpAnyH_take (i := 10) (oi := { dst := some 29, op := _, type := _, pos := _, after := _, guard := _ }) (v := ?vx22) rfl (by kernel_rfl) (by kernel_rfl) (by kernel_rfl) (fun _ _ _ h => h) (Or.inl ⟨by rfl, ?hyx22⟩) (by assumption) ?restx22
  case hyx22 => (intro w hSw; (try dsimp only at hSw); (try obtain ⟨hS1, hS2, hS3, hS4⟩ := hSw); go_simp; try with_reducible rfl)
  try simp only [Act.put, List.setIfInBounds_toArray, List.set_cons_zero, List.set_cons_succ]
  refine wpAnyH_take (i := 11) (oi := { dst := some 30, op := _, type := _, pos := _, after := _, guard := _ }) (v := ?vx23) rfl (by kernel_rfl) (by kernel_rfl) (by kernel_rfl) (fun _ _ _ h => h) (Or.inl ⟨by rfl, ?hyx23⟩) (by assumption) ?restx23
  case hyx23 => (intro w hSw; (try dsimp only at hSw); (try obtain ⟨hS1, hS2, hS3, hS4⟩ := hSw); go_simp; try with_reducible rfl)
  try simp only [Act.put, List.setIfInBounds_toArray, List.set_cons_zero, List.set_cons_succ]
  refine wpAnyH_take (i := 12) (oi := { dst := some 31, op := _, type := _, pos := _, after := _, guard := _ }) (v := ?vx24) rfl (by kernel_rfl) (by kernel_rfl) (by kernel_rfl) (fun _ _ _ h => h) (Or.inl ⟨by rfl, ?hyx24⟩) (by assumption) ?restx24
  case hyx24 => (intro w hSw; (try dsimp only at hSw); (try obtain ⟨hS1, hS2, hS3, hS4⟩ := hSw); go_simp; try with_reducible rfl)
  try simp only [Act.put, List.setIfInBounds_toArray, List.set_cons_zero, List.set_cons_succ]
  refine wpAnyH_take (i := 13) (oi := { dst := some 32, op := _, type := _, pos := _, after := _, guard := _ }) (v := ?vx25) rfl (by kernel_rfl) (by kernel_rfl) (by kernel_rfl) (fun _ _ _ h => h) (Or.inl ⟨by rfl, ?hyx25⟩) (by assumption) ?restx25
  case hyx25 => (intro w hSw; (try dsimp only at hSw); (try obtain ⟨hS1, hS2, hS3, hS4⟩ := hSw); go_simp; try with_reducible rfl)
  try simp only [Act.put, List.setIfInBounds_toArray, List.set_cons_zero, List.set_cons_succ]
  refine wpAnyH_take (i := 14) (oi := { dst := some 33, op := _, type := _, pos := _, after := _, guard := _ }) (v := ?vx26) rfl (by kernel_rfl) (by kernel_rfl) (by kernel_rfl) (fun _ _ _ h => h) (Or.inl ⟨by rfl, ?hyx26⟩) (by assumption) ?restx26
  case hyx26 => (intro w hSw; (try dsimp only at hSw); (try obtain ⟨hS1, hS2, hS3, hS4⟩ := hSw); go_simp; try with_reducible rfl)
  try simp only [Act.put, List.setIfInBounds_toArray, List.set_cons_zero, List.set_cons_succ]
  refine wpAnyH_ready (rs := [4, 15]) (by kernel_rfl) (by simp) ?_
  refine AllReadyH.cons (o := { dst := some 23, op := _, type := _, pos := _, after := _, guard := _ }) rfl (fun K hK => ?_) (AllReadyH.cons (o := { dst := some 34, op := _, type := _, pos := _, after := _, guard := _ }) rfl (fun K hK => ?_) AllReadyH.nil)
  · go_simp
    (with_reducible refine (cloneF HL.out.fl Ow5.out).mono ?_)
    rintro e w6 ⟨m1, rfl, hm, hMP, hbx⟩
    have Ow6 : Hid (Below w.heap.size w w6) := bstep Ow5.out hbx
    have GEm1 : Hid (w.heap.size ≤ m1 ∧ w5.heap.size ≤ m1) := ⟨Nat.le_trans Ow5.out.size hm, hm⟩
    have MF : Hid (MP cF w6 m1 (fF T.fs) T.fs.length) := hMP
    have BXw6 : Hid (Below w5.heap.size w5 w6) := hbx
    clear hm hMP hbx
    refine hK.out _ _ (HE.out _ Ow6.out) (fun hHeld => ?_)
    clear hK K
    try simp only [List.setIfInBounds_toArray, List.set_cons_zero, List.set_cons_succ]
    have HF1 : Hid (m1 < w6.heap.size) := MF.out.lt
    refine wpAnyH_ready (rs := [9, 15]) (by kernel_rfl) (by simp) ?_
    refine AllReadyH.cons (o := { dst := some 28, op := _, type := _, pos := _, after := _, guard := _ }) rfl (fun K hK => ?_) (AllReadyH.cons (o := { dst := some 34, op := _, type := _, pos := _, after := _, guard := _ }) rfl (fun K hK => ?_) AllReadyH.nil)
    · go_simp
      (with_reducible refine (cloneD HL.out.dr Ow6.out).mono ?_)
      rintro e w7 ⟨m2, rfl, hm, hMP, hbx⟩
      have Ow7 : Hid (Below w.heap.size w w7) := bstep Ow6.out hbx
      have GEm2 : Hid (w.heap.size ≤ m2 ∧ w6.heap.size ≤ m2) := ⟨Nat.le_trans Ow6.out.size hm, hm⟩
      have MD : Hid (MP cI w7 m2 (dF T.fs T.ds) (T.ds.length + 1)) := hMP
      have BXw7 : Hid (Below w6.heap.size w6 w7) := hbx
      clear hm hMP hbx
      have MF : Hid (MP cF w7 m1 (fF T.fs) T.fs.length) := MF.out.later BXw7.out
      refine hK.out _ _ (HE.out _ Ow7.out) (fun hHeld => ?_)
      clear hK K
      try simp only [List.setIfInBounds_toArray, List.set_cons_zero, List.set_cons_succ]
      refine wpAnyH_ready (rs := [15]) (by kernel_rfl) (by simp) ?_
      refine AllReadyH.cons (o := { dst := some 34, op := _, type := _, pos := _, after := _, guard := _ }) rfl (fun K hK => ?_) AllReadyH.nil
      go_simp
      obtain ⟨w9, hWn⟩ : ∃ x, World.alloc w7 (.cells #[.slice ja NJ jc, .slice ta R tc] 32) = x := ⟨_, rfl⟩
      obtain ⟨gb, hgb⟩ : ∃ x, w7.heap.size = x := ⟨_, rfl⟩
      rw [hWn, hgb]
      have BXw9 : Hid (Below w7.heap.size w7 w9) := hWn ▸ balloc _ _
      have Ow9 : Hid (Below w.heap.size w w9) := bstep Ow7.out BXw9.out
      have CB : Hid (gb < w9.heap.size ∧ w9.cell? ⟨gb, 0, none⟩ = some (.slice ja NJ jc) ∧ w9.cell? ⟨gb, 1, none⟩ = some (.slice ta R tc)) := by
        rw [← hWn, ← hgb]
        exact ⟨by simp, by simp, by simp⟩
      clear hWn hgb
      have MF : Hid (MP cF w9 m1 (fF T.fs) T.fs.length) := MF.out.later BXw9.out
      have MD : Hid (MP cI w9 m2 (dF T.fs T.ds) (T.ds.length + 1)) := MD.out.later BXw9.out
      refine hK.out _ _ (HE.out _ Ow9.out) (fun hHeld => ?_)
      clear hK K
      try simp only [List.setIfInBounds_toArray, List.set_cons_zero, List.set_cons_succ]
      refine wpAnyH_ready (rs := [16]) (by kernel_rfl) (by simp) ?_
      refine AllReadyH.cons (o := { dst := some 35, op := _, type := _, pos := _, after := _, guard := _ }) rfl (fun K hK => ?_) AllReadyH.nil
      go_simp
      (with_reducible refine (concat_any CB.out.1 CB.out.2.1 CB.out.2.2 (HL.out.jo.bs.later Ow9.out) (HB.out.1.later Ow9.out) (by have := HN.out.2; omega) (by have := HB.out.2; omega)).mono ?_)
      rintro e w8 ⟨v8, rfl, ho8, hb8⟩
      obtain ⟨a8, d8, hv8⟩ := ho8.len
      obtain ⟨n8, hn8⟩ : ∃ x, (T.jl ++ T.tn.take R).length = x := ⟨_, rfl⟩
      rw [hn8] at hv8
      subst hv8
      have O8 : Hid (Below w.heap.size w w8) := bstep Ow9.out hb8
      have X8 : Hid (LT (w8.alloc (.cells #[.map (some m1), .map (some m2), (.slice a8 n8 d8), .int .i64 0, .int .i64 0, .bool false, .slice none 0 0] 73)) (fun k => w.heap.size ≤ k ∧ k < (w8.alloc (.cells #[.map (some m1), .map (some m2), (.slice a8 n8 d8), .int .i64 0, .int .i64 0, .bool false, .slice none 0 0] 73)).heap.size) w8.heap.size (T.cr n) ∧ Below w.heap.size w (w8.alloc (.cells #[.map (some m1), .map (some m2), (.slice a8 n8 d8), .int .i64 0, .int .i64 0, .bool false, .slice none 0 0] 73))) :=
        cr_end HL.out O8.out (MF.out.later hb8) (MD.out.later hb8) GEm1.out.1 GEm2.out.1 (fun e => by have := GEm2.out.2; have := HF1.out; omega) (by have := ho8.mono Ow9.out.size; rw [← HN.out.2.2.2] at this; exact this) (HL.out.ok.cr n)
      have H8 : Hid (∀ W, Below w8.heap.size w8 W → Below w.heap.size w W) := fun W h => bstep O8.out h
      clear ho8 hb8 hn8
      refine hK.out _ _ (HE.out _ O8.out) (fun hHeld => ?_)
      clear hK K
      try simp only [List.setIfInBounds_toArray, List.set_cons_zero, List.set_cons_succ]
      refine wpAnyH_take (i := 17) (oi := { dst := some 36, op := _, type := _, pos := _, after := _, guard := _ }) (v := ?vx27) rfl (by kernel_rfl) (by kernel_rfl) (by kernel_rfl) (fun _ _ _ h => h) (Or.inl ⟨by rfl, ?hyx27⟩) (by assumption) ?restx27
      case hyx27 => (intro w hSw; (try dsimp only at hSw); (try obtain ⟨hS1, hS2, hS3, hS4⟩ := hSw); go_simp; try with_reducible rfl)
      try simp only [Act.put, List.setIfInBounds_toArray, List.set_cons_zero, List.set_cons_succ]
      refine wpAnyH_ready (rs := [18]) (by kernel_rfl) (by simp) ?_
      refine AllReadyH.cons (o := { dst := some 37, op := _, type := _, pos := _, after := _, guard := _ }) rfl (fun K hK => ?_) AllReadyH.nil
      go_simp
      refine hK.out _ _ (HE.out _ (H8.out _ (balloc _ _))) (fun hHeld => ?_)
      clear hK K
      try simp only [List.setIfInBounds_toArray, List.set_cons_zero, List.set_cons_succ]
      refine wpAnyH_take (i := 19) (oi := { dst := some 4, op := _, type := _, pos := _, after := _, guard := _ }) (v := ?vx28) rfl (by kernel_rfl) (by kernel_rfl) (by kernel_rfl) (fun _ _ _ h => h) (Or.inl ⟨by rfl, ?hyx28⟩) (by assumption) ?restx28
      case hyx28 => (intro w hSw; (try dsimp only at hSw); (try obtain ⟨hS1, hS2, hS3, hS4⟩ := hSw); go_simp; try with_reducible rfl)
      try simp only [Act.put, List.setIfInBounds_toArray, List.set_cons_zero, List.set_cons_succ]
      refine wpAnyH_done (by kernel_rfl) ?_ _
      refine NoPanic.normal ?_
      clear hHeld
      refine HK_.out _ _ ?_
      clear HK_
      go_wp2_with fail
      go_ret
      exact ⟨_, rfl, X8.out.1, X8.out.2⟩
    · go_simp
      obtain ⟨w7, hWn⟩ : ∃ x, World.alloc w6 (.cells #[.slice ja NJ jc, .slice ta R tc] 32) = x := ⟨_, rfl⟩
      obtain ⟨gb, hgb⟩ : ∃ x, w6.heap.size = x := ⟨_, rfl⟩
      rw [hWn, hgb]
      have BXw7 : Hid (Below w6.heap.size w6 w7) := hWn ▸ balloc _ _
      have Ow7 : Hid (Below w.heap.size w w7) := bstep Ow6.out BXw7.out
      have CB : Hid (gb < w7.heap.size ∧ w7.cell? ⟨gb, 0, none⟩ = some (.slice ja NJ jc) ∧ w7.cell? ⟨gb, 1, none⟩ = some (.slice ta R tc)) := by
        rw [← hWn, ← hgb]
        exact ⟨by simp, by simp, by simp⟩
      clear hWn hgb
      have MF : Hid (MP cF w7 m1 (fF T.fs) T.fs.length) := MF.out.later BXw7.out
      refine hK.out _ _ (HE.out _ Ow7.out) (fun hHeld => ?_)
      clear hK K
      try simp only [List.setIfInBounds_toArray, List.set_cons_zero, List.set_cons_succ]
      refine wpAnyH_ready (rs := [9]) (by kernel_rfl) (by simp) ?_
      refine AllReadyH.cons (o := { dst := some 28, op := _, type := _, pos := _, after := _, guard := _ }) rfl (fun K hK => ?_) AllReadyH.nil
      go_simp
      (with_reducible refine (cloneD HL.out.dr Ow7.out).mono ?_)
      rintro e w9 ⟨m2, rfl, hm, hMP, hbx⟩
      have Ow9 : Hid (Below w.heap.size w w9) := bstep Ow7.out hbx
      have GEm2 : Hid (w.heap.size ≤ m2 ∧ w7.heap.size ≤ m2) := ⟨Nat.le_trans Ow7.out.size hm, hm⟩
      have MD : Hid (MP cI w9 m2 (dF T.fs T.ds) (T.ds.length + 1)) := hMP
      have BXw9 : Hid (Below w7.heap.size w7 w9) := hbx
      clear hm hMP hbx
      have MF : Hid (MP cF w9 m1 (fF T.fs) T.fs.length) := MF.out.later BXw9.out
      have CB : Hid (gb < w9.heap.size ∧ w9.cell? ⟨gb, 0, none⟩ = some (.slice ja NJ jc) ∧ w9.cell? ⟨gb, 1, none⟩ = some (.slice ta R tc)) := ⟨Nat.lt_of_lt_of_le CB.out.1 BXw9.out.size, (BXw9.out.cell (p := ⟨gb, 0, none⟩) CB.out.1).trans CB.out.2.1, (BXw9.out.cell (p := ⟨gb, 1, none⟩) CB.out.1).trans CB.out.2.2⟩
      refine hK.out _ _ (HE.out _ Ow9.out) (fun hHeld => ?_)
      clear hK K
      try simp only [List.setIfInBounds_toArray, List.set_cons_zero, List.set_cons_succ]
      refine wpAnyH_ready (rs := [16]) (by kernel_rfl) (by simp) ?_
      refine AllReadyH.cons (o := { dst := some 35, op := _, type := _, pos := _, after := _, guard := _ }) rfl (fun K hK => ?_) AllReadyH.nil
      go_simp
      (with_reducible refine (concat_any CB.out.1 CB.out.2.1 CB.out.2.2 (HL.out.jo.bs.later Ow9.out) (HB.out.1.later Ow9.out) (by have := HN.out.2; omega) (by have := HB.out.2; omega)).mono ?_)
      rintro e w8 ⟨v8, rfl, ho8, hb8⟩
      obtain ⟨a8, d8, hv8⟩ := ho8.len
      obtain ⟨n8, hn8⟩ : ∃ x, (T.jl ++ T.tn.take R).length = x := ⟨_, rfl⟩
      rw [hn8] at hv8
      subst hv8
      have O8 : Hid (Below w.heap.size w w8) := bstep Ow9.out hb8
      have X8 : Hid (LT (w8.alloc (.cells #[.map (some m1), .map (some m2), (.slice a8 n8 d8), .int .i64 0, .int .i64 0, .bool false, .slice none 0 0] 73)) (fun k => w.heap.size ≤ k ∧ k < (w8.alloc (.cells #[.map (some m1), .map (some m2), (.slice a8 n8 d8), .int .i64 0, .int .i64 0, .bool false, .slice none 0 0] 73)).heap.size) w8.heap.size (T.cr n) ∧ Below w.heap.size w (w8.alloc (.cells #[.map (some m1), .map (some m2), (.slice a8 n8 d8), .int .i64 0, .int .i64 0, .bool false, .slice none 0 0] 73))) :=
        cr_end HL.out O8.out (MF.out.later hb8) (MD.out.later hb8) GEm1.out.1 GEm2.out.1 (fun e => by have := GEm2.out.2; have := BXw7.out.size; have := HF1.out; omega) (by have := ho8.mono Ow9.out.size; rw [← HN.out.2.2.2] at this; exact this) (HL.out.ok.cr n)
      have H8 : Hid (∀ W, Below w8.heap.size w8 W → Below w.heap.size w W) := fun W h => bstep O8.out h
      clear ho8 hb8 hn8
      refine hK.out _ _ (HE.out _ O8.out) (fun hHeld => ?_)
      clear hK K
      try simp only [List.setIfInBounds_toArray, List.set_cons_zero, List.set_cons_succ]
      refine wpAnyH_take (i := 17) (oi := { dst := some 36, op := _, type := _, pos := _, after := _, guard := _ }) (v := ?vx29) rfl (by kernel_rfl) (by kernel_rfl) (by kernel_rfl) (fun _ _ _ h => h) (Or.inl ⟨by rfl, ?hyx29⟩) (by assumption) ?restx29
      case hyx29 => (intro w hSw; (try dsimp only at hSw); (try obtain ⟨hS1, hS2, hS3, hS4⟩ := hSw); go_simp; try with_reducible rfl)
      try simp only [Act.put, List.setIfInBounds_toArray, List.set_cons_zero, List.set_cons_succ]
      refine wpAnyH_ready (rs := [18]) (by kernel_rfl) (by simp) ?_
      refine AllReadyH.cons (o := { dst := some 37, op := _, type := _, pos := _, after := _, guard := _ }) rfl (fun K hK => ?_) AllReadyH.nil
      go_simp
      refine hK.out _ _ (HE.out _ (H8.out _ (balloc _ _))) (fun hHeld => ?_)
      clear hK K
      try simp only [List.setIfInBounds_toArray, List.set_cons_zero, List.set_cons_succ]
      refine wpAnyH_take (i := 19) (oi := { dst := some 4, op := _, type := _, pos := _, after := _, guard := _ }) (v := ?vx30) rfl (by kernel_rfl) (by kernel_rfl) (by kernel_rfl) (fun _ _ _ h => h) (Or.inl ⟨by rfl, ?hyx30⟩) (by assumption) ?restx30
      case hyx30 => (intro w hSw; (try dsimp only at hSw); (try obtain ⟨hS1, hS2, hS3, hS4⟩ := hSw); go_simp; try with_reducible rfl)
      try simp only [Act.put, List.setIfInBounds_toArray, List.set_cons_zero, List.set_cons_succ]
      refine wpAnyH_done (by kernel_rfl) ?_ _
      refine NoPanic.normal ?_
      clear hHeld
      refine HK_.out _ _ ?_
      clear HK_
      go_wp2_with fail
      go_ret
      exact ⟨_, rfl, X8.out.1, X8.out.2⟩
  · go_simp
    obtain ⟨w6, hWn⟩ : ∃ x, World.alloc w5 (.cells #[.slice ja NJ jc, .slice ta R tc] 32) = x := ⟨_, rfl⟩
    obtain ⟨gb, hgb⟩ : ∃ x, w5.heap.size = x := ⟨_, rfl⟩
    rw [hWn, hgb]
    have BXw6 : Hid (Below w5.heap.size w5 w6) := hWn ▸ balloc _ _
    have Ow6 : Hid (Below w.heap.size w w6) := bstep Ow5.out BXw6.out
    have CB : Hid (gb < w6.heap.size ∧ w6.cell? ⟨gb, 0, none⟩ = some (.slice ja NJ jc) ∧ w6.cell? ⟨gb, 1, none⟩ = some (.slice ta R tc)) := by
      rw [← hWn, ← hgb]
      exact ⟨by simp, by simp, by simp⟩
    clear hWn hgb
    refine hK.out _ _ (HE.out _ Ow6.out) (fun hHeld => ?_)
    clear hK K
    try simp only [List.setIfInBounds_toArray, List.set_cons_zero, List.set_cons_succ]
    refine wpAnyH_ready (rs := [4]) (by kernel_rfl) (by simp) ?_
    refine AllReadyH.cons (o := { dst := some 23, op := _, type := _, pos := _, after := _, guard := _ }) rfl (fun K hK => ?_) AllReadyH.nil
    go_simp
    (with_reducible refine (cloneF HL.out.fl Ow6.out).mono ?_)
    rintro e w7 ⟨m1, rfl, hm, hMP, hbx⟩
    have Ow7 : Hid (Below w.heap.size w w7) := bstep Ow6.out hbx
    have GEm1 : Hid (w.heap.size ≤ m1 ∧ w6.heap.size ≤ m1) := ⟨Nat.le_trans Ow6.out.size hm, hm⟩
    have MF : Hid (MP cF w7 m1 (fF T.fs) T.fs.length) := hMP
    have BXw7 : Hid (Below w6.heap.size w6 w7) := hbx
    clear hm hMP hbx
    have CB : Hid (gb < w7.heap.size ∧ w7.cell? ⟨gb, 0, none⟩ = some (.slice ja NJ jc) ∧ w7.cell? ⟨gb, 1, none⟩ = some (.slice ta R tc)) := ⟨Nat.lt_of_lt_of_le CB.out.1 BXw7.out.size, (BXw7.out.cell (p := ⟨gb, 0, none⟩) CB.out.1).trans CB.out.2.1, (BXw7.out.cell (p := ⟨gb, 1, none⟩) CB.out.1).trans CB.out.2.2⟩
    refine hK.out _ _ (HE.out _ Ow7.out) (fun hHeld => ?_)
    clear hK K
    try simp only [List.setIfInBounds_toArray, List.set_cons_zero, List.set_cons_succ]
    have HF1 : Hid (m1 < w7.heap.size) := MF.out.lt
    refine wpAnyH_ready (rs := [9]) (by kernel_rfl) (by simp) ?_
    refine AllReadyH.cons (o := { dst := some 28, op := _, type := _, pos := _, after := _, guard := _ }) rfl (fun K hK => ?_) AllReadyH.nil
    go_simp
    (with_reducible refine (cloneD HL.out.dr Ow7.out).mono ?_)
    rintro e w9 ⟨m2, rfl, hm, hMP, hbx⟩
    have Ow9 : Hid (Below w.heap.size w w9) := bstep Ow7.out hbx
    have GEm2 : Hid (w.heap.size ≤ m2 ∧ w7.heap.size ≤ m2) := ⟨Nat.le_trans Ow7.out.size hm, hm⟩
    have MD : Hid (MP cI w9 m2 (dF T.fs T.ds) (T.ds.length + 1)) := hMP
    have BXw9 : Hid (Below w7.heap.size w7 w9) := hbx
    clear hm hMP hbx
    have MF : Hid (MP cF w9 m1 (fF T.fs) T.fs.length) := MF.out.later BXw9.out
    have CB : Hid (gb < w9.heap.size ∧ w9.cell? ⟨gb, 0, none⟩ = some (.slice ja NJ jc) ∧ w9.cell? ⟨gb, 1, none⟩ = some (.slice ta R tc)) := ⟨Nat.lt_of_lt_of_le CB.out.1 BXw9.out.size, (BXw9.out.cell (p := ⟨gb, 0, none⟩) CB.out.1).trans CB.out.2.1, (BXw9.out.cell (p := ⟨gb, 1, none⟩) CB.out.1).trans CB.out.2.2⟩
    refine hK.out _ _ (HE.out _ Ow9.out) (fun hHeld => ?_)
    clear hK K
    try simp only [List.setIfInBounds_toArray, List.set_cons_zero, List.set_cons_succ]
    refine wpAnyH_ready (rs := [16]) (by kernel_rfl) (by simp) ?_
    refine AllReadyH.cons (o := { dst := some 35, op := _, type := _, pos := _, after := _, guard := _ }) rfl (fun K hK => ?_) AllReadyH.nil
    go_simp
    (with_reducible refine (concat_any CB.out.1 CB.out.2.1 CB.out.2.2 (HL.out.jo.bs.later Ow9.out) (HB.out.1.later Ow9.out) (by have := HN.out.2; omega) (by have := HB.out.2; omega)).mono ?_)
    rintro e w8 ⟨v8, rfl, ho8, hb8⟩
    obtain ⟨a8, d8, hv8⟩ := ho8.len
    obtain ⟨n8, hn8⟩ : ∃ x, (T.jl ++ T.tn.take R).length = x := ⟨_, rfl⟩
    rw [hn8] at hv8
    subst hv8
    have O8 : Hid (Below w.heap.size w w8) := bstep Ow9.out hb8
    have X8 : Hid (LT (w8.alloc (.cells #[.map (some m1), .map (some m2), (.slice a8 n8 d8), .int .i64 0, .int .i64 0, .bool false, .slice none 0 0] 73)) (fun k => w.heap.size ≤ k ∧ k < (w8.alloc (.cells #[.map (some m1), .map (some m2), (.slice a8 n8 d8), .int .i64 0, .int .i64 0, .bool false, .slice none 0 0] 73)).heap.size) w8.heap.size (T.cr n) ∧ Below w.heap.size w (w8.alloc (.cells #[.map (some m1), .map (some m2), (.slice a8 n8 d8), .int .i64 0, .int .i64 0, .bool false, .slice none 0 0] 73))) :=
      cr_end HL.out O8.out (MF.out.later hb8) (MD.out.later hb8) GEm1.out.1 GEm2.out.1 (fun e => by have := GEm2.out.2; have := HF1.out; omega) (by have := ho8.mono Ow9.out.size; rw [← HN.out.2.2.2] at this; exact this) (HL.out.ok.cr n)
    have H8 : Hid (∀ W, Below w8.heap.size w8 W → Below w.heap.size w W) := fun W h => bstep O8.out h
    clear ho8 hb8 hn8
    refine hK.out _ _ (HE.out _ O8.out) (fun hHeld => ?_)
    clear hK K
    try simp only [List.setIfInBounds_toArray, List.set_cons_zero, List.set_cons_succ]
    refine wpAnyH_take (i := 17) (oi := { dst := some 36, op := _, type := _, pos := _, after := _, guard := _ }) (v := ?vx31) rfl (by kernel_rfl) (by kernel_rfl) (by kernel_rfl) (fun _ _ _ h => h) (Or.inl ⟨by rfl, ?hyx31⟩) (by assumption) ?restx31
    case hyx31 => (intro w hSw; (try dsimp only at hSw); (try obtain ⟨hS1, hS2, hS3, hS4⟩ := hSw); go_simp; try with_reducible rfl)
    try simp only [Act.put, List.setIfInBounds_toArray, List.set_cons_zero, List.set_cons_succ]
    refine wpAnyH_ready (rs := [18]) (by kernel_rfl) (by simp) ?_
    refine AllReadyH.cons (o := { dst := some 37, op := _, type := _, pos := _, after := _, guard := _ }) rfl (fun K hK => ?_) AllReadyH.nil
    go_simp
    refine hK.out _ _ (HE.out _ (H8.out _ (balloc _ _))) (fun hHeld => ?_)
    clear hK K
    try simp only [List.setIfInBounds_toArray, List.set_cons_zero, List.set_cons_succ]
    refine wpAnyH_take (i := 19) (oi := { dst := some 4, op := _, type := _, pos := _, after := _, guard := _ }) (v := ?vx32) rfl (by kernel_rfl) (by kernel_rfl) (by kernel_rfl) (fun _ _ _ h => h) (Or.inl ⟨by rfl, ?hyx32⟩) (by assumption) ?restx32
    case hyx32 => (intro w hSw; (try dsimp only at hSw); (try obtain ⟨hS1, hS2, hS3, hS4⟩ := hSw); go_simp; try with_reducible rfl)
    try simp only [Act.put, List.setIfInBounds_toArray, List.set_cons_zero, List.set_cons_succ]
    refine wpAnyH_done (by kernel_rfl) ?_ _
    refine NoPanic.normal ?_
    clear hHeld
    refine HK_.out _ _ ?_
    clear HK_
    go_wp2_with fail
    go_ret
    exact ⟨_, rfl, X8.out.1, X8.out.2⟩
end Go.Proofs.YtlkkmcibjhoneaaGreatDoor
