/-
  The law's does: a step on both.
-/
import Derived.Test.YtlkkmcibjhoneaaGreatDoorEa
import Derived.OrdersHeld
import Derived.Deep.Cut
namespace Go.Proofs.YtlkkmcibjhoneaaGreatDoor
open Go.RowKit
attribute [local go_sem] Oper.semAt_some

/-- a tree of the program's and one of the document's, apart from each other and from P -/
def B2 (TA : World → (Nat → Prop) → Nat → TT → Prop) (P : Nat → Prop) (B : Nat) (w W : World) (c : Nat) (T : TT) (d : Nat) (U : TT) : Prop :=
  ∃ F G, TA W F c T ∧ RT W G d U ∧ Below B w W ∧ B ≤ W.heap.size ∧ (∀ k, F k → B ≤ k) ∧ (∀ k, G k → B ≤ k) ∧ (∀ k, F k → ¬ G k) ∧ 4 ≤ B ∧ ∀ k, P k → ¬ F k ∧ ¬ G k ∧ k < W.heap.size
section
variable {TA : World → (Nat → Prop) → Nat → TT → Prop} {P P' : Nat → Prop} {B c d : Nat} {w W W' : World} {T U R : TT}
theorem B2.later (C : TcP TA) (h : B2 TA P B w W c T d U) (hb : Below W.heap.size W W') (hP : ∀ k, P' k → P k ∨ (W.heap.size ≤ k ∧ k < W'.heap.size)) : B2 TA P' B w W' c T d U := by
  obtain ⟨F, G, h1, h2, h3, h4, h5, h6, h7, hB4, h8⟩ := h
  refine ⟨F, G, C.later h1 hb, h2.later hb, h3.trans (below_mono hb h4), Nat.le_trans h4 hb.size, h5, h6, h7, hB4, fun k hk => ?_⟩
  rcases hP k hk with h | h
  · exact ⟨(h8 k h).1, (h8 k h).2.1, Nat.lt_of_lt_of_le (h8 k h).2.2 hb.size⟩
  · exact ⟨fun hf => by have := C.lt h1 k hf; omega, fun hg => by have := h2.lt k hg; omega, h.2⟩
theorem B2.lat (C : TcP TA) (h : B2 TA P B w W c T d U) (hb : Below W.heap.size W W') : B2 TA P B w W' c T d U := h.later C hb (fun _ h => .inl h)
theorem B2.less (h : B2 TA P B w W c T d U) (hP : ∀ k, P' k → P k) : B2 TA P' B w W c T d U := by
  obtain ⟨F, G, h1, h2, h3, h4, h5, h6, h7, hB4, h8⟩ := h
  exact ⟨F, G, h1, h2, h3, h4, h5, h6, h7, hB4, fun k hk => h8 k (hP k hk)⟩
theorem B2.ev (C : TcP TA) (h : B2 TA P B w W c T d U) : Ev W := by
  obtain ⟨F, G, h1, _⟩ := h
  exact C.ev h1
theorem B2.bel (h : B2 TA P B w W c T d U) : Below B w W := by
  obtain ⟨F, G, h1, h2, h3, _⟩ := h
  exact h3
/-- a block of P alone is written -/
theorem B2.write (C : TcP TA) (h : B2 TA P B w W c T d U) {g : Nat} (hg : P g) (hB : B ≤ g) (ho : Only [g] W W') : B2 TA P B w W' c T d U := by
  obtain ⟨F, G, h1, h2, h3, h4, h5, h6, h7, hB4, h8⟩ := h
  refine ⟨F, G, C.stay h1 ho.size (fun k hk => ho.block k (C.lt h1 k hk) (fun hm => (h8 g hg).1 (mem1 hm ▸ hk))) ((C.ev h1).below (ho.below h4 (by simpa using hB)) hB4), h2.stay ho.size (fun k hk => ho.block k (h2.lt k hk) (fun hm => (h8 g hg).2.1 (mem1 hm ▸ hk))), h3.trans (ho.below h4 (by simpa using hB)), Nat.le_trans h4 ho.size, h5, h6, h7, hB4, fun k hk => ⟨(h8 k hk).1, (h8 k hk).2.1, Nat.lt_of_lt_of_le (h8 k hk).2.2 ho.size⟩⟩
theorem B2.stT (h : B2 TA P B w W c T d U) {Q : Ending → World → Prop} {f : FuncId} {args : Array Value}
    (hs : ∀ F, TA W F c T → (∀ k, P k → ¬ F k) → Calls Tryz.prog f args W fun e w' => Q e w' ∧ TA w' (nwF F W w') c R ∧ OnlyP F W w') :
    Calls Tryz.prog f args W fun e w' => Q e w' ∧ B2 TA P B w w' c R d U ∧ ∀ k, P k → w'.heap[k]? = W.heap[k]? := by
  obtain ⟨F, G, h1, h2, h3, h4, h5, h6, h7, hB4, h8⟩ := h
  refine (hs F h1 (fun k hk => (h8 k hk).1)).mono fun e w2 ⟨hq, hc, ho⟩ => ⟨hq, ⟨_, G, hc, h2.stay ho.size (fun k hk => ho.block k (h2.lt k hk) (fun hf => h7 k hf hk)), h3.trans (ho.below h4 h5), Nat.le_trans h4 ho.size, ?_, h6, ?_, hB4, ?_⟩, fun k hk => ho.block k (h8 k hk).2.2 (h8 k hk).1⟩
  · rintro k (hk | hk)
    · exact h5 k hk
    · exact Nat.le_trans h4 hk.1
  · rintro k (hk | hk) hg
    · exact h7 k hk hg
    · have := h2.lt k hg
      have := hk.1
      omega
  · refine fun k hk => ⟨?_, (h8 k hk).2.1, Nat.lt_of_lt_of_le (h8 k hk).2.2 ho.size⟩
    rintro (hf | hf)
    · exact (h8 k hk).1 hf
    · have := (h8 k hk).2.2
      have := hf.1
      omega
theorem B2.stR (C : TcP TA) (h : B2 TA P B w W c T d U) {Q : Ending → World → Prop} {f : FuncId} {args : Array Value}
    (hs : ∀ G, RT W G d U → (∀ k, P k → ¬ G k) → Calls Tryz.prog f args W fun e w' => Q e w' ∧ RT w' (nwF G W w') d R ∧ OnlyP G W w') :
    Calls Tryz.prog f args W fun e w' => Q e w' ∧ B2 TA P B w w' c T d R ∧ ∀ k, P k → w'.heap[k]? = W.heap[k]? := by
  obtain ⟨F, G, h1, h2, h3, h4, h5, h6, h7, hB4, h8⟩ := h
  refine (hs G h2 (fun k hk => (h8 k hk).2.1)).mono fun e w2 ⟨hq, hc, ho⟩ => ⟨hq, ⟨F, _, C.only h1 ho (fun k hk hg => h7 k hk hg) ((C.ev h1).below (ho.below h4 h6) hB4), hc, h3.trans (ho.below h4 h6), Nat.le_trans h4 ho.size, h5, ?_, ?_, hB4, ?_⟩, fun k hk => ho.block k (h8 k hk).2.2 (h8 k hk).2.1⟩
  · rintro k (hk | hk)
    · exact h6 k hk
    · exact Nat.le_trans h4 hk.1
  · rintro k hf (hk | hk)
    · exact h7 k hf hk
    · have := C.lt h1 k hf
      have := hk.1
      omega
  · refine fun k hk => ⟨(h8 k hk).1, ?_, Nat.lt_of_lt_of_le (h8 k hk).2.2 ho.size⟩
    rintro (hf | hf)
    · exact (h8 k hk).2.1 hf
    · have := (h8 k hk).2.2
      have := hf.1
      omega
theorem B2.told (C : TcP TA) (h : B2 TA P B w W c T d T) (hz : TSz 4000000 T) : Calls Tryz.prog 36 #[.pointer (some ⟨c, 0, none⟩), .pointer (some ⟨d, 0, none⟩)] W fun e w' => e = .returned (.bool true) ∧ Below W.heap.size W w' := by
  obtain ⟨F, G, h1, h2, _⟩ := h
  exact told_any C h1 h2 hz
end
/-- what a step does, a stop too -/
def opD (o : Opp) (T : TT) : TT := if o.kind = 7 then T.stop o.n else (opR o T).1

set_option maxRecDepth 100000 in
set_option maxHeartbeats 16000000 in
theorem does1 {TA : World → (Nat → Prop) → Nat → TT → Prop} (C : TcP TA) {P : Nat → Prop} {B : Nat} {w W : World} {c d : Nat} {T : TT} (h : B2 TA P B w W c T d T) (hz : TSz 3999999 T) (ho : TOk T) {nn bl sz : Int} {p q tx : List UInt8} {ua : Option Addr} {un uc : Nat} (hp : p.length ≤ 4000000) :
    Calls Tryz.prog 35 #[.pointer (some ⟨c, 0, none⟩), .pointer (some ⟨d, 0, none⟩), .agg #[.int .i64 1, .string (bs p), .string (bs q), .string (bs tx), .int .i64 bl, .int .i64 sz, .slice ua un uc, .int .i64 nn]] W fun e w' => e = .returned (.bool true) ∧ B2 TA P B w w' c (T.mk' p).1 d (T.mk' p).1 := by
  have H : Hid (B2 TA P B w W c T d T) := h
  have HZ : Hid (TSz 3999999 T ∧ TOk T) := ⟨hz, ho⟩
  clear h hz ho
  obtain ⟨R, hR⟩ : ∃ R, T.mk' p = R := ⟨_, rfl⟩
  have HR : Hid (T.mk' p = R) := hR
  rw [hR]
  clear hR
  go_enter Tryz.func35, Tryz.ntmps35
  go_wp2_with fail
  have HST : Hid (∀ F W', TA W' F c T → Calls Tryz.prog 28 #[.pointer (some ⟨c, 0, none⟩), .string (bs p)] W' fun e w' => e = .returned (.int .i64 R.2) ∧ TA w' (nwF F W' w') c R.1 ∧ OnlyP F W' w') := fun F W' h => (C.mkd h (HZ.out.1.mono (by omega)) p hp).mono (fun e w' h => by rw [HR.out] at h; exact h)
  have HSR : Hid (∀ G W', RT W' G d T → Calls Tryz.prog 67 #[.pointer (some ⟨d, 0, none⟩), .string (bs p)] W' fun e w' => e = .returned (.int .i64 R.2) ∧ RT w' (nwF G W' w') d R.1 ∧ OnlyP G W' w') := fun G W' h => (rmkdir_any h HZ.out.1 HZ.out.2 p hp).mono (fun e w' h => by rw [HR.out] at h; exact h)
  obtain ⟨g5, hg5⟩ : ∃ g5, W.heap.size = g5 := ⟨_, rfl⟩
  obtain ⟨w0, hw0⟩ : ∃ w0, W.alloc (.cells #[.int .i64 1, .string (bs p), .string (bs q), .string (bs tx), .int .i64 bl, .int .i64 sz, .slice ua un uc, .int .i64 nn] 34) = w0 := ⟨_, rfl⟩
  have hbk : w0.heap[g5]? = some (.cells #[.int .i64 1, .string (bs p), .string (bs q), .string (bs tx), .int .i64 bl, .int .i64 sz, .slice ua un uc, .int .i64 nn] 34 (0, 0)) := by rw [← hw0, ← hg5]; exact heap_alloc_new _ _
  have hb0 : Below W.heap.size W w0 := hw0 ▸ balloc _ _
  have X0 : Hid (B2 TA (fun k => P k ∨ k = g5) B w w0 c T d T) := H.out.later C hb0 (by
    rintro k (h | h)
    · exact .inl h
    · exact .inr ⟨by omega, by have := (Array.getElem?_eq_some_iff.1 hbk).1; omega⟩)
  have HBK : Hid (w0.heap[g5]? = some (.cells #[.int .i64 1, .string (bs p), .string (bs q), .string (bs tx), .int .i64 bl, .int .i64 sz, .slice ua un uc, .int .i64 nn] 34 (0, 0))) := hbk
  have HS : Hid (∀ W' : World, W'.heap[g5]? = some (.cells #[.int .i64 1, .string (bs p), .string (bs q), .string (bs tx), .int .i64 bl, .int .i64 sz, .slice ua un uc, .int .i64 nn] 34 (0, 0)) → W'.cell? ⟨g5, 1, none⟩ = some (.string (bs p))) := fun W' h => by simp [World.cell?, h]
  have k0 : w0.cell? ⟨g5, 0, none⟩ = some (.int .i64 1) := by simp [World.cell?, hbk]
  rw [hw0, hg5]
  clear hb0 hw0 hbk H
  go_wp2_with fail
  clear k0
  refine wp_region_noPanic ?_
  have Xd : Hid (B2 TA (fun k => P k ∨ k = g5) B w w0.drew c T d T) := X0.out.lat C (Below.refl _ _).drew
  have HBd : Hid (w0.drew.heap[g5]? = some (.cells #[.int .i64 1, .string (bs p), .string (bs q), .string (bs tx), .int .i64 bl, .int .i64 sz, .slice ua un uc, .int .i64 nn] 34 (0, 0))) := HBK.out
  refine wp_region_held_drew (S := fun W' => W'.cell? ⟨g5, 1, none⟩ = some (.string (bs p))) (by kernel_rfl) (HS.out _ HBd.out) (fun hHeld => ?_)
  refine wpAnyH_take (i := 0) (oi := { dst := some 15, op := _, type := _, pos := _, after := _, guard := _ }) (v := ?vx1) rfl (by kernel_rfl) (by kernel_rfl) (by kernel_rfl) (fun _ _ _ h => h) (Or.inl ⟨by rfl, ?hyx1⟩) (by assumption) ?restx1
  case hyx1 => (intro w hSw; (try dsimp only at hSw); go_simp; try with_reducible rfl)
  try simp only [Act.put, List.setIfInBounds_toArray, List.set_cons_zero, List.set_cons_succ]
  refine wpAnyH_take (i := 1) (oi := { dst := some 16, op := _, type := _, pos := _, after := _, guard := _ }) (v := ?vx2) rfl (by kernel_rfl) (by kernel_rfl) (by kernel_rfl) (fun _ _ _ h => h) (Or.inl ⟨by rfl, ?hyx2⟩) (by assumption) ?restx2
  case hyx2 => (intro w hSw; (try dsimp only at hSw); go_simp; try with_reducible rfl)
  try simp only [Act.put, List.setIfInBounds_toArray, List.set_cons_zero, List.set_cons_succ]
  refine wpAnyH_take (i := 2) (oi := { dst := some 17, op := _, type := _, pos := _, after := _, guard := _ }) (v := ?vx3) rfl (by kernel_rfl) (by kernel_rfl) (by kernel_rfl) (fun _ _ _ h => h) (Or.inl ⟨by rfl, ?hyx3⟩) (by assumption) ?restx3
  case hyx3 => (intro w hSw; (try dsimp only at hSw); go_simp; try with_reducible rfl)
  try simp only [Act.put, List.setIfInBounds_toArray, List.set_cons_zero, List.set_cons_succ]
  refine wpAnyH_take (i := 5) (oi := { dst := some 20, op := _, type := _, pos := _, after := _, guard := _ }) (v := ?vx4) rfl (by kernel_rfl) (by kernel_rfl) (by kernel_rfl) (fun _ _ _ h => h) (Or.inl ⟨by rfl, ?hyx4⟩) (by assumption) ?restx4
  case hyx4 => (intro w hSw; (try dsimp only at hSw); go_simp; try with_reducible rfl)
  try simp only [Act.put, List.setIfInBounds_toArray, List.set_cons_zero, List.set_cons_succ]
  refine wpAnyH_take (i := 6) (oi := { dst := some 21, op := _, type := _, pos := _, after := _, guard := _ }) (v := ?vx5) rfl (by kernel_rfl) (by kernel_rfl) (by kernel_rfl) (fun _ _ _ h => h) (Or.inl ⟨by rfl, ?hyx5⟩) (by assumption) ?restx5
  case hyx5 => (intro w hSw; (try dsimp only at hSw); go_simp; try with_reducible rfl)
  try simp only [Act.put, List.setIfInBounds_toArray, List.set_cons_zero, List.set_cons_succ]
  refine wpAnyH_take (i := 7) (oi := { dst := some 22, op := _, type := _, pos := _, after := _, guard := _ }) (v := ?vx6) rfl (by kernel_rfl) (by kernel_rfl) (by kernel_rfl) (fun _ _ _ h => h) (Or.inl ⟨by rfl, ?hyx6⟩) (by assumption) ?restx6
  case hyx6 => (intro w hSw; (try dsimp only at hSw); go_simp; try with_reducible rfl)
  try simp only [Act.put, List.setIfInBounds_toArray, List.set_cons_zero, List.set_cons_succ]
  refine wpAnyH_ready (rs := [3]) (by kernel_rfl) (by simp) ?_
  refine AllReadyH.cons (o := { dst := some 18, op := _, type := _, pos := _, after := _, guard := _ }) rfl (fun K hK => ?_) AllReadyH.nil
  go_simp
  (with_reducible refine (Xd.out.stT (Q := fun e _ => e = .returned (.int .i64 R.2)) (R := R.1) (fun F h _ => HST.out F _ h)).mono ?_)
  rintro e w1 ⟨rfl, x1, hp1⟩
  have X1 : Hid (B2 TA (fun k => P k ∨ k = g5) B w w1 c R.1 d T) := x1
  have HB1 : Hid (w1.heap[g5]? = some (.cells #[.int .i64 1, .string (bs p), .string (bs q), .string (bs tx), .int .i64 bl, .int .i64 sz, .slice ua un uc, .int .i64 nn] 34 (0, 0))) := (hp1 g5 (.inr rfl)).trans HBd.out
  clear x1 hp1
  refine hK.out _ _ (HS.out _ HB1.out) (fun hHeld => ?_)
  clear hK K
  try simp only [List.setIfInBounds_toArray, List.set_cons_zero, List.set_cons_succ]
  refine wpAnyH_ready (rs := [4]) (by kernel_rfl) (by simp) ?_
  refine AllReadyH.cons (o := { dst := some 19, op := _, type := _, pos := _, after := _, guard := _ }) rfl (fun K hK => ?_) AllReadyH.nil
  go_simp
  (with_reducible refine (num_any _ _).mono ?_)
  rintro e wx ⟨rfl, rfl⟩
  refine hK.out _ _ (HS.out _ HB1.out) (fun hHeld => ?_)
  clear hK K
  try simp only [List.setIfInBounds_toArray, List.set_cons_zero, List.set_cons_succ]
  refine wpAnyH_ready (rs := [8]) (by kernel_rfl) (by simp) ?_
  refine AllReadyH.cons (o := { dst := some 23, op := _, type := _, pos := _, after := _, guard := _ }) rfl (fun K hK => ?_) AllReadyH.nil
  go_simp
  (with_reducible refine (X1.out.stR C (Q := fun e _ => e = .returned (.int .i64 R.2)) (R := R.1) (fun G h _ => HSR.out G _ h)).mono ?_)
  rintro e w2 ⟨rfl, x2, hp2⟩
  have X2 : Hid (B2 TA (fun k => P k ∨ k = g5) B w w2 c R.1 d R.1) := x2
  have HB2 : Hid (w2.heap[g5]? = some (.cells #[.int .i64 1, .string (bs p), .string (bs q), .string (bs tx), .int .i64 bl, .int .i64 sz, .slice ua un uc, .int .i64 nn] 34 (0, 0))) := (hp2 g5 (.inr rfl)).trans HB1.out
  have hRR : (R.2 == R.2) = true := by simp
  clear x2 hp2
  refine hK.out _ _ (HS.out _ HB2.out) (fun hHeld => ?_)
  clear hK K
  try simp only [List.setIfInBounds_toArray, List.set_cons_zero, List.set_cons_succ]
  refine wpAnyH_take (i := 9) (oi := { dst := some 24, op := _, type := _, pos := _, after := _, guard := _ }) (v := ?vx7) rfl (by kernel_rfl) (by kernel_rfl) (by kernel_rfl) (fun _ _ _ h => h) (Or.inl ⟨by rfl, ?hyx7⟩) (by assumption) ?restx7
  case hyx7 => (intro w hSw; (try dsimp only at hSw); go_simp; try with_reducible rfl)
  try simp only [Act.put, List.setIfInBounds_toArray, List.set_cons_zero, List.set_cons_succ]
  refine wpAnyH_take (i := 10) (oi := { dst := some 6, op := _, type := _, pos := _, after := _, guard := _ }) (v := ?vx8) rfl (by kernel_rfl) (by kernel_rfl) (by kernel_rfl) (fun _ _ _ h => h) (Or.inl ⟨by rfl, ?hyx8⟩) (by assumption) ?restx8
  case hyx8 => (intro w hSw; (try dsimp only at hSw); go_simp; try with_reducible rfl)
  try simp only [Act.put, List.setIfInBounds_toArray, List.set_cons_zero, List.set_cons_succ]
  refine wpAnyH_done (by kernel_rfl) ?_ _
  refine NoPanic.normal ?_
  clear hHeld
  go_wp2_with fail
  go_ret
  exact ⟨rfl, X2.out.less (fun k h => .inl h)⟩

set_option maxRecDepth 100000 in
set_option maxHeartbeats 16000000 in
theorem does2 {TA : World → (Nat → Prop) → Nat → TT → Prop} (C : TcP TA) {P : Nat → Prop} {B : Nat} {w W : World} {c d : Nat} {T : TT} (h : B2 TA P B w W c T d T) (hz : TSz 3999999 T) (ho : TOk T) {nn bl sz : Int} {p q tx : List UInt8} {ua : Option Addr} {un uc : Nat} (hf : Fok ⟨q, tx, bl, sz⟩) (hfp : q.length ≤ 100000000) :
    Calls Tryz.prog 35 #[.pointer (some ⟨c, 0, none⟩), .pointer (some ⟨d, 0, none⟩), .agg #[.int .i64 2, .string (bs p), .string (bs q), .string (bs tx), .int .i64 bl, .int .i64 sz, .slice ua un uc, .int .i64 nn]] W fun e w' => e = .returned (.bool true) ∧ B2 TA P B w w' c (T.wr ⟨q, tx, bl, sz⟩).1 d (T.wr ⟨q, tx, bl, sz⟩).1 := by
  have H : Hid (B2 TA P B w W c T d T) := h
  have HZ : Hid (TSz 3999999 T ∧ TOk T) := ⟨hz, ho⟩
  clear h hz ho
  obtain ⟨R, hR⟩ : ∃ R, T.wr ⟨q, tx, bl, sz⟩ = R := ⟨_, rfl⟩
  have HR : Hid (T.wr ⟨q, tx, bl, sz⟩ = R) := hR
  rw [hR]
  clear hR
  go_enter Tryz.func35, Tryz.ntmps35
  go_wp2_with fail
  have HST : Hid (∀ F W', TA W' F c T → Calls Tryz.prog 32 #[.pointer (some ⟨c, 0, none⟩), .agg #[.string (bs q), .string (bs tx), .int .i64 bl, .int .i64 sz]] W' fun e w' => e = .returned (.int .i64 R.2) ∧ TA w' (nwF F W' w') c R.1 ∧ OnlyP F W' w') := fun F W' h => (C.wri h (HZ.out.1.mono (by omega)) ⟨q, tx, bl, sz⟩ hf).mono (fun e w' h => by rw [HR.out] at h; exact h)
  have HSR : Hid (∀ G W', RT W' G d T → Calls Tryz.prog 68 #[.pointer (some ⟨d, 0, none⟩), .agg #[.string (bs q), .string (bs tx), .int .i64 bl, .int .i64 sz]] W' fun e w' => e = .returned (.int .i64 R.2) ∧ RT w' (nwF G W' w') d R.1 ∧ OnlyP G W' w') := fun G W' h => (rwrite_any h HZ.out.1 HZ.out.2 ⟨q, tx, bl, sz⟩ hf hfp).mono (fun e w' h => by rw [HR.out] at h; exact h)
  obtain ⟨g5, hg5⟩ : ∃ g5, W.heap.size = g5 := ⟨_, rfl⟩
  obtain ⟨w0, hw0⟩ : ∃ w0, W.alloc (.cells #[.int .i64 2, .string (bs p), .string (bs q), .string (bs tx), .int .i64 bl, .int .i64 sz, .slice ua un uc, .int .i64 nn] 34) = w0 := ⟨_, rfl⟩
  have hbk : w0.heap[g5]? = some (.cells #[.int .i64 2, .string (bs p), .string (bs q), .string (bs tx), .int .i64 bl, .int .i64 sz, .slice ua un uc, .int .i64 nn] 34 (0, 0)) := by rw [← hw0, ← hg5]; exact heap_alloc_new _ _
  have hb0 : Below W.heap.size W w0 := hw0 ▸ balloc _ _
  have X0 : Hid (B2 TA (fun k => P k ∨ k = g5) B w w0 c T d T) := H.out.later C hb0 (by
    rintro k (h | h)
    · exact .inl h
    · exact .inr ⟨by omega, by have := (Array.getElem?_eq_some_iff.1 hbk).1; omega⟩)
  have HBK : Hid (w0.heap[g5]? = some (.cells #[.int .i64 2, .string (bs p), .string (bs q), .string (bs tx), .int .i64 bl, .int .i64 sz, .slice ua un uc, .int .i64 nn] 34 (0, 0))) := hbk
  have HS : Hid (∀ W' : World, W'.heap[g5]? = some (.cells #[.int .i64 2, .string (bs p), .string (bs q), .string (bs tx), .int .i64 bl, .int .i64 sz, .slice ua un uc, .int .i64 nn] 34 (0, 0)) → W'.cell? ⟨g5, 2, none⟩ = some (.string (bs q)) ∧ W'.cell? ⟨g5, 3, none⟩ = some (.string (bs tx)) ∧ W'.cell? ⟨g5, 4, none⟩ = some (.int .i64 bl) ∧ W'.cell? ⟨g5, 5, none⟩ = some (.int .i64 sz)) := fun W' h => ⟨by simp [World.cell?, h], by simp [World.cell?, h], by simp [World.cell?, h], by simp [World.cell?, h]⟩
  have k0 : w0.cell? ⟨g5, 0, none⟩ = some (.int .i64 2) := by simp [World.cell?, hbk]
  rw [hw0, hg5]
  clear hb0 hw0 hbk H
  go_wp2_with fail
  clear k0
  refine wp_region_noPanic ?_
  have Xd : Hid (B2 TA (fun k => P k ∨ k = g5) B w w0.drew c T d T) := X0.out.lat C (Below.refl _ _).drew
  have HBd : Hid (w0.drew.heap[g5]? = some (.cells #[.int .i64 2, .string (bs p), .string (bs q), .string (bs tx), .int .i64 bl, .int .i64 sz, .slice ua un uc, .int .i64 nn] 34 (0, 0))) := HBK.out
  refine wp_region_held_drew (S := fun W' => W'.cell? ⟨g5, 2, none⟩ = some (.string (bs q)) ∧ W'.cell? ⟨g5, 3, none⟩ = some (.string (bs tx)) ∧ W'.cell? ⟨g5, 4, none⟩ = some (.int .i64 bl) ∧ W'.cell? ⟨g5, 5, none⟩ = some (.int .i64 sz)) (by kernel_rfl) (HS.out _ HBd.out) (fun hHeld => ?_)
  refine wpAnyH_take (i := 0) (oi := { dst := some 27, op := _, type := _, pos := _, after := _, guard := _ }) (v := ?vx9) rfl (by kernel_rfl) (by kernel_rfl) (by kernel_rfl) (fun _ _ _ h => h) (Or.inl ⟨by rfl, ?hyx9⟩) (by assumption) ?restx9
  case hyx9 => (intro w hSw; (try dsimp only at hSw); go_simp; try with_reducible rfl)
  try simp only [Act.put, List.setIfInBounds_toArray, List.set_cons_zero, List.set_cons_succ]
  refine wpAnyH_take (i := 1) (oi := { dst := some 28, op := _, type := _, pos := _, after := _, guard := _ }) (v := ?vx10) rfl (by kernel_rfl) (by kernel_rfl) (by kernel_rfl) (fun _ _ _ h => h) (Or.inl ⟨by rfl, ?hyx10⟩) (by assumption) ?restx10
  case hyx10 => (intro w hSw; (try dsimp only at hSw); go_simp; try with_reducible rfl)
  try simp only [Act.put, List.setIfInBounds_toArray, List.set_cons_zero, List.set_cons_succ]
  refine wpAnyH_take (i := 2) (oi := { dst := some 29, op := _, type := _, pos := _, after := _, guard := _ }) (v := ?vx11) rfl (by kernel_rfl) (by kernel_rfl) (by kernel_rfl) (fun _ _ _ h => h) (Or.inl ⟨by rfl, ?hyx11⟩) (by assumption) ?restx11
  case hyx11 => (intro w hSw; (try dsimp only at hSw); go_simp; try with_reducible rfl)
  try simp only [Act.put, List.setIfInBounds_toArray, List.set_cons_zero, List.set_cons_succ]
  refine wpAnyH_take (i := 5) (oi := { dst := some 32, op := _, type := _, pos := _, after := _, guard := _ }) (v := ?vx12) rfl (by kernel_rfl) (by kernel_rfl) (by kernel_rfl) (fun _ _ _ h => h) (Or.inl ⟨by rfl, ?hyx12⟩) (by assumption) ?restx12
  case hyx12 => (intro w hSw; (try dsimp only at hSw); go_simp; try with_reducible rfl)
  try simp only [Act.put, List.setIfInBounds_toArray, List.set_cons_zero, List.set_cons_succ]
  refine wpAnyH_take (i := 6) (oi := { dst := some 33, op := _, type := _, pos := _, after := _, guard := _ }) (v := ?vx13) rfl (by kernel_rfl) (by kernel_rfl) (by kernel_rfl) (fun _ _ _ h => h) (Or.inl ⟨by rfl, ?hyx13⟩) (by assumption) ?restx13
  case hyx13 => (intro w hSw; (try dsimp only at hSw); go_simp; try with_reducible rfl)
  try simp only [Act.put, List.setIfInBounds_toArray, List.set_cons_zero, List.set_cons_succ]
  refine wpAnyH_take (i := 7) (oi := { dst := some 34, op := _, type := _, pos := _, after := _, guard := _ }) (v := ?vx14) rfl (by kernel_rfl) (by kernel_rfl) (by kernel_rfl) (fun _ _ _ h => h) (Or.inl ⟨by rfl, ?hyx14⟩) (by assumption) ?restx14
  case hyx14 => (intro w hSw; (try dsimp only at hSw); go_simp; try with_reducible rfl)
  try simp only [Act.put, List.setIfInBounds_toArray, List.set_cons_zero, List.set_cons_succ]
  refine wpAnyH_ready (rs := [3]) (by kernel_rfl) (by simp) ?_
  refine AllReadyH.cons (o := { dst := some 30, op := _, type := _, pos := _, after := _, guard := _ }) rfl (fun K hK => ?_) AllReadyH.nil
  go_simp
  (with_reducible refine (Xd.out.stT (Q := fun e _ => e = .returned (.int .i64 R.2)) (R := R.1) (fun F h _ => HST.out F _ h)).mono ?_)
  rintro e w1 ⟨rfl, x1, hp1⟩
  have X1 : Hid (B2 TA (fun k => P k ∨ k = g5) B w w1 c R.1 d T) := x1
  have HB1 : Hid (w1.heap[g5]? = some (.cells #[.int .i64 2, .string (bs p), .string (bs q), .string (bs tx), .int .i64 bl, .int .i64 sz, .slice ua un uc, .int .i64 nn] 34 (0, 0))) := (hp1 g5 (.inr rfl)).trans HBd.out
  clear x1 hp1
  refine hK.out _ _ (HS.out _ HB1.out) (fun hHeld => ?_)
  clear hK K
  try simp only [List.setIfInBounds_toArray, List.set_cons_zero, List.set_cons_succ]
  refine wpAnyH_ready (rs := [4]) (by kernel_rfl) (by simp) ?_
  refine AllReadyH.cons (o := { dst := some 31, op := _, type := _, pos := _, after := _, guard := _ }) rfl (fun K hK => ?_) AllReadyH.nil
  go_simp
  (with_reducible refine (num_any _ _).mono ?_)
  rintro e wx ⟨rfl, rfl⟩
  refine hK.out _ _ (HS.out _ HB1.out) (fun hHeld => ?_)
  clear hK K
  try simp only [List.setIfInBounds_toArray, List.set_cons_zero, List.set_cons_succ]
  refine wpAnyH_ready (rs := [8]) (by kernel_rfl) (by simp) ?_
  refine AllReadyH.cons (o := { dst := some 35, op := _, type := _, pos := _, after := _, guard := _ }) rfl (fun K hK => ?_) AllReadyH.nil
  go_simp
  (with_reducible refine (X1.out.stR C (Q := fun e _ => e = .returned (.int .i64 R.2)) (R := R.1) (fun G h _ => HSR.out G _ h)).mono ?_)
  rintro e w2 ⟨rfl, x2, hp2⟩
  have X2 : Hid (B2 TA (fun k => P k ∨ k = g5) B w w2 c R.1 d R.1) := x2
  have HB2 : Hid (w2.heap[g5]? = some (.cells #[.int .i64 2, .string (bs p), .string (bs q), .string (bs tx), .int .i64 bl, .int .i64 sz, .slice ua un uc, .int .i64 nn] 34 (0, 0))) := (hp2 g5 (.inr rfl)).trans HB1.out
  have hRR : (R.2 == R.2) = true := by simp
  clear x2 hp2
  refine hK.out _ _ (HS.out _ HB2.out) (fun hHeld => ?_)
  clear hK K
  try simp only [List.setIfInBounds_toArray, List.set_cons_zero, List.set_cons_succ]
  refine wpAnyH_take (i := 9) (oi := { dst := some 36, op := _, type := _, pos := _, after := _, guard := _ }) (v := ?vx15) rfl (by kernel_rfl) (by kernel_rfl) (by kernel_rfl) (fun _ _ _ h => h) (Or.inl ⟨by rfl, ?hyx15⟩) (by assumption) ?restx15
  case hyx15 => (intro w hSw; (try dsimp only at hSw); go_simp; try with_reducible rfl)
  try simp only [Act.put, List.setIfInBounds_toArray, List.set_cons_zero, List.set_cons_succ]
  refine wpAnyH_take (i := 10) (oi := { dst := some 6, op := _, type := _, pos := _, after := _, guard := _ }) (v := ?vx16) rfl (by kernel_rfl) (by kernel_rfl) (by kernel_rfl) (fun _ _ _ h => h) (Or.inl ⟨by rfl, ?hyx16⟩) (by assumption) ?restx16
  case hyx16 => (intro w hSw; (try dsimp only at hSw); go_simp; try with_reducible rfl)
  try simp only [Act.put, List.setIfInBounds_toArray, List.set_cons_zero, List.set_cons_succ]
  refine wpAnyH_done (by kernel_rfl) ?_ _
  refine NoPanic.normal ?_
  clear hHeld
  go_wp2_with fail
  go_ret
  exact ⟨rfl, X2.out.less (fun k h => .inl h)⟩

set_option maxRecDepth 100000 in
set_option maxHeartbeats 16000000 in
theorem does3 {TA : World → (Nat → Prop) → Nat → TT → Prop} (C : TcP TA) {P : Nat → Prop} {B : Nat} {w W : World} {c d : Nat} {T : TT} (h : B2 TA P B w W c T d T) (hz : TSz 3999999 T) (ho : TOk T) {nn bl sz : Int} {p q tx : List UInt8} {ua : Option Addr} {un uc : Nat} (hp : p.length ≤ 4000000) :
    Calls Tryz.prog 35 #[.pointer (some ⟨c, 0, none⟩), .pointer (some ⟨d, 0, none⟩), .agg #[.int .i64 3, .string (bs p), .string (bs q), .string (bs tx), .int .i64 bl, .int .i64 sz, .slice ua un uc, .int .i64 nn]] W fun e w' => e = .returned (.bool true) ∧ B2 TA P B w w' c (T.dl p).1 d (T.dl p).1 := by
  have H : Hid (B2 TA P B w W c T d T) := h
  have HZ : Hid (TSz 3999999 T ∧ TOk T) := ⟨hz, ho⟩
  clear h hz ho
  obtain ⟨R, hR⟩ : ∃ R, T.dl p = R := ⟨_, rfl⟩
  have HR : Hid (T.dl p = R) := hR
  rw [hR]
  clear hR
  go_enter Tryz.func35, Tryz.ntmps35
  go_wp2_with fail
  have HST : Hid (∀ F W', TA W' F c T → Calls Tryz.prog 29 #[.pointer (some ⟨c, 0, none⟩), .string (bs p)] W' fun e w' => e = .returned (.int .i64 R.2) ∧ TA w' (nwF F W' w') c R.1 ∧ OnlyP F W' w') := fun F W' h => (C.del h (HZ.out.1.mono (by omega)) p hp).mono (fun e w' h => by rw [HR.out] at h; exact h)
  have HSR : Hid (∀ G W', RT W' G d T → Calls Tryz.prog 69 #[.pointer (some ⟨d, 0, none⟩), .string (bs p)] W' fun e w' => e = .returned (.int .i64 R.2) ∧ RT w' (nwF G W' w') d R.1 ∧ OnlyP G W' w') := fun G W' h => (rdelete_any h HZ.out.1 HZ.out.2 p).mono (fun e w' h => by rw [HR.out] at h; exact h)
  obtain ⟨g5, hg5⟩ : ∃ g5, W.heap.size = g5 := ⟨_, rfl⟩
  obtain ⟨w0, hw0⟩ : ∃ w0, W.alloc (.cells #[.int .i64 3, .string (bs p), .string (bs q), .string (bs tx), .int .i64 bl, .int .i64 sz, .slice ua un uc, .int .i64 nn] 34) = w0 := ⟨_, rfl⟩
  have hbk : w0.heap[g5]? = some (.cells #[.int .i64 3, .string (bs p), .string (bs q), .string (bs tx), .int .i64 bl, .int .i64 sz, .slice ua un uc, .int .i64 nn] 34 (0, 0)) := by rw [← hw0, ← hg5]; exact heap_alloc_new _ _
  have hb0 : Below W.heap.size W w0 := hw0 ▸ balloc _ _
  have X0 : Hid (B2 TA (fun k => P k ∨ k = g5) B w w0 c T d T) := H.out.later C hb0 (by
    rintro k (h | h)
    · exact .inl h
    · exact .inr ⟨by omega, by have := (Array.getElem?_eq_some_iff.1 hbk).1; omega⟩)
  have HBK : Hid (w0.heap[g5]? = some (.cells #[.int .i64 3, .string (bs p), .string (bs q), .string (bs tx), .int .i64 bl, .int .i64 sz, .slice ua un uc, .int .i64 nn] 34 (0, 0))) := hbk
  have HS : Hid (∀ W' : World, W'.heap[g5]? = some (.cells #[.int .i64 3, .string (bs p), .string (bs q), .string (bs tx), .int .i64 bl, .int .i64 sz, .slice ua un uc, .int .i64 nn] 34 (0, 0)) → W'.cell? ⟨g5, 1, none⟩ = some (.string (bs p))) := fun W' h => by simp [World.cell?, h]
  have k0 : w0.cell? ⟨g5, 0, none⟩ = some (.int .i64 3) := by simp [World.cell?, hbk]
  rw [hw0, hg5]
  clear hb0 hw0 hbk H
  go_wp2_with fail
  clear k0
  refine wp_region_noPanic ?_
  have Xd : Hid (B2 TA (fun k => P k ∨ k = g5) B w w0.drew c T d T) := X0.out.lat C (Below.refl _ _).drew
  have HBd : Hid (w0.drew.heap[g5]? = some (.cells #[.int .i64 3, .string (bs p), .string (bs q), .string (bs tx), .int .i64 bl, .int .i64 sz, .slice ua un uc, .int .i64 nn] 34 (0, 0))) := HBK.out
  refine wp_region_held_drew (S := fun W' => W'.cell? ⟨g5, 1, none⟩ = some (.string (bs p))) (by kernel_rfl) (HS.out _ HBd.out) (fun hHeld => ?_)
  refine wpAnyH_take (i := 0) (oi := { dst := some 39, op := _, type := _, pos := _, after := _, guard := _ }) (v := ?vx17) rfl (by kernel_rfl) (by kernel_rfl) (by kernel_rfl) (fun _ _ _ h => h) (Or.inl ⟨by rfl, ?hyx17⟩) (by assumption) ?restx17
  case hyx17 => (intro w hSw; (try dsimp only at hSw); go_simp; try with_reducible rfl)
  try simp only [Act.put, List.setIfInBounds_toArray, List.set_cons_zero, List.set_cons_succ]
  refine wpAnyH_take (i := 1) (oi := { dst := some 40, op := _, type := _, pos := _, after := _, guard := _ }) (v := ?vx18) rfl (by kernel_rfl) (by kernel_rfl) (by kernel_rfl) (fun _ _ _ h => h) (Or.inl ⟨by rfl, ?hyx18⟩) (by assumption) ?restx18
  case hyx18 => (intro w hSw; (try dsimp only at hSw); go_simp; try with_reducible rfl)
  try simp only [Act.put, List.setIfInBounds_toArray, List.set_cons_zero, List.set_cons_succ]
  refine wpAnyH_take (i := 2) (oi := { dst := some 41, op := _, type := _, pos := _, after := _, guard := _ }) (v := ?vx19) rfl (by kernel_rfl) (by kernel_rfl) (by kernel_rfl) (fun _ _ _ h => h) (Or.inl ⟨by rfl, ?hyx19⟩) (by assumption) ?restx19
  case hyx19 => (intro w hSw; (try dsimp only at hSw); go_simp; try with_reducible rfl)
  try simp only [Act.put, List.setIfInBounds_toArray, List.set_cons_zero, List.set_cons_succ]
  refine wpAnyH_take (i := 5) (oi := { dst := some 44, op := _, type := _, pos := _, after := _, guard := _ }) (v := ?vx20) rfl (by kernel_rfl) (by kernel_rfl) (by kernel_rfl) (fun _ _ _ h => h) (Or.inl ⟨by rfl, ?hyx20⟩) (by assumption) ?restx20
  case hyx20 => (intro w hSw; (try dsimp only at hSw); go_simp; try with_reducible rfl)
  try simp only [Act.put, List.setIfInBounds_toArray, List.set_cons_zero, List.set_cons_succ]
  refine wpAnyH_take (i := 6) (oi := { dst := some 45, op := _, type := _, pos := _, after := _, guard := _ }) (v := ?vx21) rfl (by kernel_rfl) (by kernel_rfl) (by kernel_rfl) (fun _ _ _ h => h) (Or.inl ⟨by rfl, ?hyx21⟩) (by assumption) ?restx21
  case hyx21 => (intro w hSw; (try dsimp only at hSw); go_simp; try with_reducible rfl)
  try simp only [Act.put, List.setIfInBounds_toArray, List.set_cons_zero, List.set_cons_succ]
  refine wpAnyH_take (i := 7) (oi := { dst := some 46, op := _, type := _, pos := _, after := _, guard := _ }) (v := ?vx22) rfl (by kernel_rfl) (by kernel_rfl) (by kernel_rfl) (fun _ _ _ h => h) (Or.inl ⟨by rfl, ?hyx22⟩) (by assumption) ?restx22
  case hyx22 => (intro w hSw; (try dsimp only at hSw); go_simp; try with_reducible rfl)
  try simp only [Act.put, List.setIfInBounds_toArray, List.set_cons_zero, List.set_cons_succ]
  refine wpAnyH_ready (rs := [3]) (by kernel_rfl) (by simp) ?_
  refine AllReadyH.cons (o := { dst := some 42, op := _, type := _, pos := _, after := _, guard := _ }) rfl (fun K hK => ?_) AllReadyH.nil
  go_simp
  (with_reducible refine (Xd.out.stT (Q := fun e _ => e = .returned (.int .i64 R.2)) (R := R.1) (fun F h _ => HST.out F _ h)).mono ?_)
  rintro e w1 ⟨rfl, x1, hp1⟩
  have X1 : Hid (B2 TA (fun k => P k ∨ k = g5) B w w1 c R.1 d T) := x1
  have HB1 : Hid (w1.heap[g5]? = some (.cells #[.int .i64 3, .string (bs p), .string (bs q), .string (bs tx), .int .i64 bl, .int .i64 sz, .slice ua un uc, .int .i64 nn] 34 (0, 0))) := (hp1 g5 (.inr rfl)).trans HBd.out
  clear x1 hp1
  refine hK.out _ _ (HS.out _ HB1.out) (fun hHeld => ?_)
  clear hK K
  try simp only [List.setIfInBounds_toArray, List.set_cons_zero, List.set_cons_succ]
  refine wpAnyH_ready (rs := [4]) (by kernel_rfl) (by simp) ?_
  refine AllReadyH.cons (o := { dst := some 43, op := _, type := _, pos := _, after := _, guard := _ }) rfl (fun K hK => ?_) AllReadyH.nil
  go_simp
  (with_reducible refine (num_any _ _).mono ?_)
  rintro e wx ⟨rfl, rfl⟩
  refine hK.out _ _ (HS.out _ HB1.out) (fun hHeld => ?_)
  clear hK K
  try simp only [List.setIfInBounds_toArray, List.set_cons_zero, List.set_cons_succ]
  refine wpAnyH_ready (rs := [8]) (by kernel_rfl) (by simp) ?_
  refine AllReadyH.cons (o := { dst := some 47, op := _, type := _, pos := _, after := _, guard := _ }) rfl (fun K hK => ?_) AllReadyH.nil
  go_simp
  (with_reducible refine (X1.out.stR C (Q := fun e _ => e = .returned (.int .i64 R.2)) (R := R.1) (fun G h _ => HSR.out G _ h)).mono ?_)
  rintro e w2 ⟨rfl, x2, hp2⟩
  have X2 : Hid (B2 TA (fun k => P k ∨ k = g5) B w w2 c R.1 d R.1) := x2
  have HB2 : Hid (w2.heap[g5]? = some (.cells #[.int .i64 3, .string (bs p), .string (bs q), .string (bs tx), .int .i64 bl, .int .i64 sz, .slice ua un uc, .int .i64 nn] 34 (0, 0))) := (hp2 g5 (.inr rfl)).trans HB1.out
  have hRR : (R.2 == R.2) = true := by simp
  clear x2 hp2
  refine hK.out _ _ (HS.out _ HB2.out) (fun hHeld => ?_)
  clear hK K
  try simp only [List.setIfInBounds_toArray, List.set_cons_zero, List.set_cons_succ]
  refine wpAnyH_take (i := 9) (oi := { dst := some 48, op := _, type := _, pos := _, after := _, guard := _ }) (v := ?vx23) rfl (by kernel_rfl) (by kernel_rfl) (by kernel_rfl) (fun _ _ _ h => h) (Or.inl ⟨by rfl, ?hyx23⟩) (by assumption) ?restx23
  case hyx23 => (intro w hSw; (try dsimp only at hSw); go_simp; try with_reducible rfl)
  try simp only [Act.put, List.setIfInBounds_toArray, List.set_cons_zero, List.set_cons_succ]
  refine wpAnyH_take (i := 10) (oi := { dst := some 6, op := _, type := _, pos := _, after := _, guard := _ }) (v := ?vx24) rfl (by kernel_rfl) (by kernel_rfl) (by kernel_rfl) (fun _ _ _ h => h) (Or.inl ⟨by rfl, ?hyx24⟩) (by assumption) ?restx24
  case hyx24 => (intro w hSw; (try dsimp only at hSw); go_simp; try with_reducible rfl)
  try simp only [Act.put, List.setIfInBounds_toArray, List.set_cons_zero, List.set_cons_succ]
  refine wpAnyH_done (by kernel_rfl) ?_ _
  refine NoPanic.normal ?_
  clear hHeld
  go_wp2_with fail
  go_ret
  exact ⟨rfl, X2.out.less (fun k h => .inl h)⟩

set_option maxRecDepth 100000 in
set_option maxHeartbeats 16000000 in
theorem does4 {TA : World → (Nat → Prop) → Nat → TT → Prop} (C : TcP TA) {P : Nat → Prop} {B : Nat} {w W : World} {c d : Nat} {T : TT} (h : B2 TA P B w W c T d T) (hz : TSz 3999999 T) (ho : TOk T) {nn bl sz : Int} {p q tx : List UInt8} {ua : Option Addr} {un uc : Nat} (hp : p.length ≤ 4000000) :
    Calls Tryz.prog 35 #[.pointer (some ⟨c, 0, none⟩), .pointer (some ⟨d, 0, none⟩), .agg #[.int .i64 4, .string (bs p), .string (bs q), .string (bs tx), .int .i64 bl, .int .i64 sz, .slice ua un uc, .int .i64 nn]] W fun e w' => e = .returned (.bool true) ∧ B2 TA P B w w' c (T.rm p).1 d (T.rm p).1 := by
  have H : Hid (B2 TA P B w W c T d T) := h
  have HZ : Hid (TSz 3999999 T ∧ TOk T) := ⟨hz, ho⟩
  clear h hz ho
  obtain ⟨R, hR⟩ : ∃ R, T.rm p = R := ⟨_, rfl⟩
  have HR : Hid (T.rm p = R) := hR
  rw [hR]
  clear hR
  go_enter Tryz.func35, Tryz.ntmps35
  go_wp2_with fail
  have HST : Hid (∀ F W', TA W' F c T → Calls Tryz.prog 33 #[.pointer (some ⟨c, 0, none⟩), .string (bs p)] W' fun e w' => e = .returned (.int .i64 R.2) ∧ TA w' (nwF F W' w') c R.1 ∧ OnlyP F W' w') := fun F W' h => (C.rmd h (HZ.out.1.mono (by omega)) p hp).mono (fun e w' h => by rw [HR.out] at h; exact h)
  have HSR : Hid (∀ G W', RT W' G d T → Calls Tryz.prog 70 #[.pointer (some ⟨d, 0, none⟩), .string (bs p)] W' fun e w' => e = .returned (.int .i64 R.2) ∧ RT w' (nwF G W' w') d R.1 ∧ OnlyP G W' w') := fun G W' h => (rrmdir_any h HZ.out.1 HZ.out.2 p hp).mono (fun e w' h => by rw [HR.out] at h; exact h)
  obtain ⟨g5, hg5⟩ : ∃ g5, W.heap.size = g5 := ⟨_, rfl⟩
  obtain ⟨w0, hw0⟩ : ∃ w0, W.alloc (.cells #[.int .i64 4, .string (bs p), .string (bs q), .string (bs tx), .int .i64 bl, .int .i64 sz, .slice ua un uc, .int .i64 nn] 34) = w0 := ⟨_, rfl⟩
  have hbk : w0.heap[g5]? = some (.cells #[.int .i64 4, .string (bs p), .string (bs q), .string (bs tx), .int .i64 bl, .int .i64 sz, .slice ua un uc, .int .i64 nn] 34 (0, 0)) := by rw [← hw0, ← hg5]; exact heap_alloc_new _ _
  have hb0 : Below W.heap.size W w0 := hw0 ▸ balloc _ _
  have X0 : Hid (B2 TA (fun k => P k ∨ k = g5) B w w0 c T d T) := H.out.later C hb0 (by
    rintro k (h | h)
    · exact .inl h
    · exact .inr ⟨by omega, by have := (Array.getElem?_eq_some_iff.1 hbk).1; omega⟩)
  have HBK : Hid (w0.heap[g5]? = some (.cells #[.int .i64 4, .string (bs p), .string (bs q), .string (bs tx), .int .i64 bl, .int .i64 sz, .slice ua un uc, .int .i64 nn] 34 (0, 0))) := hbk
  have HS : Hid (∀ W' : World, W'.heap[g5]? = some (.cells #[.int .i64 4, .string (bs p), .string (bs q), .string (bs tx), .int .i64 bl, .int .i64 sz, .slice ua un uc, .int .i64 nn] 34 (0, 0)) → W'.cell? ⟨g5, 1, none⟩ = some (.string (bs p))) := fun W' h => by simp [World.cell?, h]
  have k0 : w0.cell? ⟨g5, 0, none⟩ = some (.int .i64 4) := by simp [World.cell?, hbk]
  rw [hw0, hg5]
  clear hb0 hw0 hbk H
  go_wp2_with fail
  clear k0
  refine wp_region_noPanic ?_
  have Xd : Hid (B2 TA (fun k => P k ∨ k = g5) B w w0.drew c T d T) := X0.out.lat C (Below.refl _ _).drew
  have HBd : Hid (w0.drew.heap[g5]? = some (.cells #[.int .i64 4, .string (bs p), .string (bs q), .string (bs tx), .int .i64 bl, .int .i64 sz, .slice ua un uc, .int .i64 nn] 34 (0, 0))) := HBK.out
  refine wp_region_held_drew (S := fun W' => W'.cell? ⟨g5, 1, none⟩ = some (.string (bs p))) (by kernel_rfl) (HS.out _ HBd.out) (fun hHeld => ?_)
  refine wpAnyH_take (i := 0) (oi := { dst := some 51, op := _, type := _, pos := _, after := _, guard := _ }) (v := ?vx25) rfl (by kernel_rfl) (by kernel_rfl) (by kernel_rfl) (fun _ _ _ h => h) (Or.inl ⟨by rfl, ?hyx25⟩) (by assumption) ?restx25
  case hyx25 => (intro w hSw; (try dsimp only at hSw); go_simp; try with_reducible rfl)
  try simp only [Act.put, List.setIfInBounds_toArray, List.set_cons_zero, List.set_cons_succ]
  refine wpAnyH_take (i := 1) (oi := { dst := some 52, op := _, type := _, pos := _, after := _, guard := _ }) (v := ?vx26) rfl (by kernel_rfl) (by kernel_rfl) (by kernel_rfl) (fun _ _ _ h => h) (Or.inl ⟨by rfl, ?hyx26⟩) (by assumption) ?restx26
  case hyx26 => (intro w hSw; (try dsimp only at hSw); go_simp; try with_reducible rfl)
  try simp only [Act.put, List.setIfInBounds_toArray, List.set_cons_zero, List.set_cons_succ]
  refine wpAnyH_take (i := 2) (oi := { dst := some 53, op := _, type := _, pos := _, after := _, guard := _ }) (v := ?vx27) rfl (by kernel_rfl) (by kernel_rfl) (by kernel_rfl) (fun _ _ _ h => h) (Or.inl ⟨by rfl, ?hyx27⟩) (by assumption) ?restx27
  case hyx27 => (intro w hSw; (try dsimp only at hSw); go_simp; try with_reducible rfl)
  try simp only [Act.put, List.setIfInBounds_toArray, List.set_cons_zero, List.set_cons_succ]
  refine wpAnyH_take (i := 5) (oi := { dst := some 56, op := _, type := _, pos := _, after := _, guard := _ }) (v := ?vx28) rfl (by kernel_rfl) (by kernel_rfl) (by kernel_rfl) (fun _ _ _ h => h) (Or.inl ⟨by rfl, ?hyx28⟩) (by assumption) ?restx28
  case hyx28 => (intro w hSw; (try dsimp only at hSw); go_simp; try with_reducible rfl)
  try simp only [Act.put, List.setIfInBounds_toArray, List.set_cons_zero, List.set_cons_succ]
  refine wpAnyH_take (i := 6) (oi := { dst := some 57, op := _, type := _, pos := _, after := _, guard := _ }) (v := ?vx29) rfl (by kernel_rfl) (by kernel_rfl) (by kernel_rfl) (fun _ _ _ h => h) (Or.inl ⟨by rfl, ?hyx29⟩) (by assumption) ?restx29
  case hyx29 => (intro w hSw; (try dsimp only at hSw); go_simp; try with_reducible rfl)
  try simp only [Act.put, List.setIfInBounds_toArray, List.set_cons_zero, List.set_cons_succ]
  refine wpAnyH_take (i := 7) (oi := { dst := some 58, op := _, type := _, pos := _, after := _, guard := _ }) (v := ?vx30) rfl (by kernel_rfl) (by kernel_rfl) (by kernel_rfl) (fun _ _ _ h => h) (Or.inl ⟨by rfl, ?hyx30⟩) (by assumption) ?restx30
  case hyx30 => (intro w hSw; (try dsimp only at hSw); go_simp; try with_reducible rfl)
  try simp only [Act.put, List.setIfInBounds_toArray, List.set_cons_zero, List.set_cons_succ]
  refine wpAnyH_ready (rs := [3]) (by kernel_rfl) (by simp) ?_
  refine AllReadyH.cons (o := { dst := some 54, op := _, type := _, pos := _, after := _, guard := _ }) rfl (fun K hK => ?_) AllReadyH.nil
  go_simp
  (with_reducible refine (Xd.out.stT (Q := fun e _ => e = .returned (.int .i64 R.2)) (R := R.1) (fun F h _ => HST.out F _ h)).mono ?_)
  rintro e w1 ⟨rfl, x1, hp1⟩
  have X1 : Hid (B2 TA (fun k => P k ∨ k = g5) B w w1 c R.1 d T) := x1
  have HB1 : Hid (w1.heap[g5]? = some (.cells #[.int .i64 4, .string (bs p), .string (bs q), .string (bs tx), .int .i64 bl, .int .i64 sz, .slice ua un uc, .int .i64 nn] 34 (0, 0))) := (hp1 g5 (.inr rfl)).trans HBd.out
  clear x1 hp1
  refine hK.out _ _ (HS.out _ HB1.out) (fun hHeld => ?_)
  clear hK K
  try simp only [List.setIfInBounds_toArray, List.set_cons_zero, List.set_cons_succ]
  refine wpAnyH_ready (rs := [4]) (by kernel_rfl) (by simp) ?_
  refine AllReadyH.cons (o := { dst := some 55, op := _, type := _, pos := _, after := _, guard := _ }) rfl (fun K hK => ?_) AllReadyH.nil
  go_simp
  (with_reducible refine (num_any _ _).mono ?_)
  rintro e wx ⟨rfl, rfl⟩
  refine hK.out _ _ (HS.out _ HB1.out) (fun hHeld => ?_)
  clear hK K
  try simp only [List.setIfInBounds_toArray, List.set_cons_zero, List.set_cons_succ]
  refine wpAnyH_ready (rs := [8]) (by kernel_rfl) (by simp) ?_
  refine AllReadyH.cons (o := { dst := some 59, op := _, type := _, pos := _, after := _, guard := _ }) rfl (fun K hK => ?_) AllReadyH.nil
  go_simp
  (with_reducible refine (X1.out.stR C (Q := fun e _ => e = .returned (.int .i64 R.2)) (R := R.1) (fun G h _ => HSR.out G _ h)).mono ?_)
  rintro e w2 ⟨rfl, x2, hp2⟩
  have X2 : Hid (B2 TA (fun k => P k ∨ k = g5) B w w2 c R.1 d R.1) := x2
  have HB2 : Hid (w2.heap[g5]? = some (.cells #[.int .i64 4, .string (bs p), .string (bs q), .string (bs tx), .int .i64 bl, .int .i64 sz, .slice ua un uc, .int .i64 nn] 34 (0, 0))) := (hp2 g5 (.inr rfl)).trans HB1.out
  have hRR : (R.2 == R.2) = true := by simp
  clear x2 hp2
  refine hK.out _ _ (HS.out _ HB2.out) (fun hHeld => ?_)
  clear hK K
  try simp only [List.setIfInBounds_toArray, List.set_cons_zero, List.set_cons_succ]
  refine wpAnyH_take (i := 9) (oi := { dst := some 60, op := _, type := _, pos := _, after := _, guard := _ }) (v := ?vx31) rfl (by kernel_rfl) (by kernel_rfl) (by kernel_rfl) (fun _ _ _ h => h) (Or.inl ⟨by rfl, ?hyx31⟩) (by assumption) ?restx31
  case hyx31 => (intro w hSw; (try dsimp only at hSw); go_simp; try with_reducible rfl)
  try simp only [Act.put, List.setIfInBounds_toArray, List.set_cons_zero, List.set_cons_succ]
  refine wpAnyH_take (i := 10) (oi := { dst := some 6, op := _, type := _, pos := _, after := _, guard := _ }) (v := ?vx32) rfl (by kernel_rfl) (by kernel_rfl) (by kernel_rfl) (fun _ _ _ h => h) (Or.inl ⟨by rfl, ?hyx32⟩) (by assumption) ?restx32
  case hyx32 => (intro w hSw; (try dsimp only at hSw); go_simp; try with_reducible rfl)
  try simp only [Act.put, List.setIfInBounds_toArray, List.set_cons_zero, List.set_cons_succ]
  refine wpAnyH_done (by kernel_rfl) ?_ _
  refine NoPanic.normal ?_
  clear hHeld
  go_wp2_with fail
  go_ret
  exact ⟨rfl, X2.out.less (fun k h => .inl h)⟩

set_option maxRecDepth 100000 in
set_option maxHeartbeats 16000000 in
theorem does6 {TA : World → (Nat → Prop) → Nat → TT → Prop} (C : TcP TA) {P : Nat → Prop} {B : Nat} {w W : World} {c d : Nat} {T : TT} (h : B2 TA P B w W c T d T) (hz : TSz 3999999 T) (ho : TOk T) {nn bl sz : Int} {p q tx : List UInt8} {ua : Option Addr} {un uc : Nat}  :
    Calls Tryz.prog 35 #[.pointer (some ⟨c, 0, none⟩), .pointer (some ⟨d, 0, none⟩), .agg #[.int .i64 6, .string (bs p), .string (bs q), .string (bs tx), .int .i64 bl, .int .i64 sz, .slice ua un uc, .int .i64 nn]] W fun e w' => e = .returned (.bool true) ∧ B2 TA P B w w' c T.cl.1 d T.cl.1 := by
  have H : Hid (B2 TA P B w W c T d T) := h
  have HZ : Hid (TSz 3999999 T ∧ TOk T) := ⟨hz, ho⟩
  clear h hz ho
  obtain ⟨R, hR⟩ : ∃ R, T.cl = R := ⟨_, rfl⟩
  have HR : Hid (T.cl = R) := hR
  rw [hR]
  clear hR
  go_enter Tryz.func35, Tryz.ntmps35
  go_wp2_with fail
  obtain ⟨g5, hg5⟩ : ∃ g5, W.heap.size = g5 := ⟨_, rfl⟩
  obtain ⟨w0, hw0⟩ : ∃ w0, W.alloc (.cells #[.int .i64 6, .string (bs p), .string (bs q), .string (bs tx), .int .i64 bl, .int .i64 sz, .slice ua un uc, .int .i64 nn] 34) = w0 := ⟨_, rfl⟩
  have hbk : w0.heap[g5]? = some (.cells #[.int .i64 6, .string (bs p), .string (bs q), .string (bs tx), .int .i64 bl, .int .i64 sz, .slice ua un uc, .int .i64 nn] 34 (0, 0)) := by rw [← hw0, ← hg5]; exact heap_alloc_new _ _
  have hb0 : Below W.heap.size W w0 := hw0 ▸ balloc _ _
  have X0 : Hid (B2 TA (fun k => P k ∨ k = g5) B w w0 c T d T) := H.out.later C hb0 (by
    rintro k (h | h)
    · exact .inl h
    · exact .inr ⟨by omega, by have := (Array.getElem?_eq_some_iff.1 hbk).1; omega⟩)
  have HBK : Hid (w0.heap[g5]? = some (.cells #[.int .i64 6, .string (bs p), .string (bs q), .string (bs tx), .int .i64 bl, .int .i64 sz, .slice ua un uc, .int .i64 nn] 34 (0, 0))) := hbk
  have k0 : w0.cell? ⟨g5, 0, none⟩ = some (.int .i64 6) := by simp [World.cell?, hbk]
  rw [hw0, hg5]
  clear hb0 hw0 hbk H HBK
  go_wp2_with fail
  refine (X0.out.stT (Q := fun e _ => e = .returned (.int .i64 R.2)) (R := R.1) (fun F h _ => (C.clr h (HZ.out.1.mono (by omega))).mono (fun e w' h => by rw [HR.out] at h; exact h))).mono ?_
  rintro e w1 ⟨rfl, x1, hp1⟩
  have X1 : Hid (B2 TA (fun k => P k ∨ k = g5) B w w1 c R.1 d T) := x1
  clear x1 hp1
  go_wp2_with (go_at_call 9; refine (num_any _ _).mono ?_; rintro e wq ⟨rfl, rfl⟩)
  refine (X1.out.stR C (Q := fun e _ => e = .returned (.int .i64 R.2)) (R := R.1) (fun G h _ => (rclear_any h (HZ.out.1.mono (by omega)) HZ.out.2).mono (fun e w' h => by rw [HR.out] at h; exact h))).mono ?_
  rintro e w2 ⟨rfl, x2, hp2⟩
  have X2 : Hid (B2 TA (fun k => P k ∨ k = g5) B w w2 c R.1 d R.1) := x2
  have hRR : (R.2 == R.2) = true := by simp
  clear x2 hp2
  go_wp2_with fail
  go_ret
  exact ⟨rfl, X2.out.less (fun k h => .inl h)⟩

set_option maxRecDepth 100000 in
set_option maxHeartbeats 16000000 in
theorem does7 {TA : World → (Nat → Prop) → Nat → TT → Prop} (C : TcP TA) {P : Nat → Prop} {B : Nat} {w W : World} {c d : Nat} {T : TT} (h : B2 TA P B w W c T d T) (hz : TSz 3999999 T) (ho : TOk T) {nn bl sz : Int} {p q tx : List UInt8} {ua : Option Addr} {un uc : Nat} (hn0 : -9223372036854775808 ≤ nn) (hn1 : nn ≤ 9223372036854775807) :
    Calls Tryz.prog 35 #[.pointer (some ⟨c, 0, none⟩), .pointer (some ⟨d, 0, none⟩), .agg #[.int .i64 7, .string (bs p), .string (bs q), .string (bs tx), .int .i64 bl, .int .i64 sz, .slice ua un uc, .int .i64 nn]] W fun e w' => e = .returned (.bool true) ∧ B2 TA P B w w' c (T.stop nn) d (T.stop nn) := by
  have H : Hid (B2 TA P B w W c T d T) := h
  have HZ : Hid (TSz 3999999 T ∧ TOk T) := ⟨hz, ho⟩
  clear h hz ho
  skip
  go_enter Tryz.func35, Tryz.ntmps35
  go_wp2_with fail
  obtain ⟨g5, hg5⟩ : ∃ g5, W.heap.size = g5 := ⟨_, rfl⟩
  obtain ⟨w0, hw0⟩ : ∃ w0, W.alloc (.cells #[.int .i64 7, .string (bs p), .string (bs q), .string (bs tx), .int .i64 bl, .int .i64 sz, .slice ua un uc, .int .i64 nn] 34) = w0 := ⟨_, rfl⟩
  have hbk : w0.heap[g5]? = some (.cells #[.int .i64 7, .string (bs p), .string (bs q), .string (bs tx), .int .i64 bl, .int .i64 sz, .slice ua un uc, .int .i64 nn] 34 (0, 0)) := by rw [← hw0, ← hg5]; exact heap_alloc_new _ _
  have hb0 : Below W.heap.size W w0 := hw0 ▸ balloc _ _
  have X0 : Hid (B2 TA (fun k => P k ∨ k = g5) B w w0 c T d T) := H.out.later C hb0 (by
    rintro k (h | h)
    · exact .inl h
    · exact .inr ⟨by omega, by have := (Array.getElem?_eq_some_iff.1 hbk).1; omega⟩)
  have HBK : Hid (w0.heap[g5]? = some (.cells #[.int .i64 7, .string (bs p), .string (bs q), .string (bs tx), .int .i64 bl, .int .i64 sz, .slice ua un uc, .int .i64 nn] 34 (0, 0))) := hbk
  have k0 : w0.cell? ⟨g5, 0, none⟩ = some (.int .i64 7) := by simp [World.cell?, hbk]
  have k7 : w0.cell? ⟨g5, 7, none⟩ = some (.int .i64 nn) := by simp [World.cell?, hbk]
  rw [hw0, hg5]
  clear hb0 hw0 hbk H
  go_wp2_with fail
  refine (X0.out.stT (Q := fun e _ => e = .returned (.tuple #[])) (R := T.stop nn) (fun F h _ => C.stp h (HZ.out.1.mono (by omega)) nn hn0 hn1)).mono ?_
  rintro e w1 ⟨rfl, x1, hp1⟩
  have X1 : Hid (B2 TA (fun k => P k ∨ k = g5) B w w1 c (T.stop nn) d T) := x1
  have m7 : w1.cell? ⟨g5, 7, none⟩ = some (.int .i64 nn) := (cell_stay (hp1 g5 (.inr rfl)) 7).trans k7
  clear x1 hp1 k7 k0
  go_wp2_with fail
  refine (X1.out.stR C (Q := fun e _ => e = .returned (.tuple #[])) (R := T.stop nn) (fun G h _ => rhalts_any h nn)).mono ?_
  rintro e w2 ⟨rfl, x2, hp2⟩
  have X2 : Hid (B2 TA (fun k => P k ∨ k = g5) B w w2 c (T.stop nn) d (T.stop nn)) := x2
  clear x2 hp2
  go_wp2_with fail
  go_ret
  exact ⟨rfl, X2.out.less (fun k h => .inl h)⟩

set_option maxRecDepth 100000 in
set_option maxHeartbeats 16000000 in
theorem does0 {TA : World → (Nat → Prop) → Nat → TT → Prop} (C : TcP TA) {P : Nat → Prop} {B : Nat} {w W : World} {c d : Nat} {T : TT} (h : B2 TA P B w W c T d T) (hz : TSz 3999999 T) (ho : TOk T) {kd nn bl sz : Int} {p q tx : List UInt8} {ua : Option Addr} {un uc : Nat} (h1 : ¬ (1 ≤ kd ∧ kd ≤ 7)) :
    Calls Tryz.prog 35 #[.pointer (some ⟨c, 0, none⟩), .pointer (some ⟨d, 0, none⟩), .agg #[.int .i64 kd, .string (bs p), .string (bs q), .string (bs tx), .int .i64 bl, .int .i64 sz, .slice ua un uc, .int .i64 nn]] W fun e w' => e = .returned (.bool true) ∧ B2 TA P B w w' c T d T := by
  have H : Hid (B2 TA P B w W c T d T) := h
  have HZ : Hid (TSz 3999999 T ∧ TOk T) := ⟨hz, ho⟩
  clear h hz ho
  have e1 : (kd == 1) = false := by simp; omega
  have e2 : (kd == 2) = false := by simp; omega
  have e3 : (kd == 3) = false := by simp; omega
  have e4 : (kd == 4) = false := by simp; omega
  have e5 : (kd == 5) = false := by simp; omega
  have e6 : (kd == 6) = false := by simp; omega
  have e7 : (kd == 7) = false := by simp; omega
  go_enter Tryz.func35, Tryz.ntmps35
  go_wp2_with fail
  obtain ⟨g5, hg5⟩ : ∃ g5, W.heap.size = g5 := ⟨_, rfl⟩
  obtain ⟨w0, hw0⟩ : ∃ w0, W.alloc (.cells #[.int .i64 kd, .string (bs p), .string (bs q), .string (bs tx), .int .i64 bl, .int .i64 sz, .slice ua un uc, .int .i64 nn] 34) = w0 := ⟨_, rfl⟩
  have hbk : w0.heap[g5]? = some (.cells #[.int .i64 kd, .string (bs p), .string (bs q), .string (bs tx), .int .i64 bl, .int .i64 sz, .slice ua un uc, .int .i64 nn] 34 (0, 0)) := by rw [← hw0, ← hg5]; exact heap_alloc_new _ _
  have hb0 : Below W.heap.size W w0 := hw0 ▸ balloc _ _
  have X0 : Hid (B2 TA (fun k => P k ∨ k = g5) B w w0 c T d T) := H.out.later C hb0 (by
    rintro k (h | h)
    · exact .inl h
    · exact .inr ⟨by omega, by have := (Array.getElem?_eq_some_iff.1 hbk).1; omega⟩)
  have HBK : Hid (w0.heap[g5]? = some (.cells #[.int .i64 kd, .string (bs p), .string (bs q), .string (bs tx), .int .i64 bl, .int .i64 sz, .slice ua un uc, .int .i64 nn] 34 (0, 0))) := hbk
  have k0 : w0.cell? ⟨g5, 0, none⟩ = some (.int .i64 kd) := by simp [World.cell?, hbk]
  rw [hw0, hg5]
  clear hb0 hw0 hbk H
  go_wp2_with fail
  go_ret
  exact ⟨rfl, X0.out.less (fun k h => .inl h)⟩
end Go.Proofs.YtlkkmcibjhoneaaGreatDoor
