/-
  The document's tree: Crash.
-/
import Derived.Test.YtlkkmcibjhoneaaGreatDoorDf
import Derived.Test.YtlkkmcibjhoneaaGreatDoorTp
import Derived.OrdersHeld
import Derived.Deep.Cut
namespace Go.Proofs.YtlkkmcibjhoneaaGreatDoor
open Go.RowKit
attribute [local go_sem] Oper.semAt_some

theorem step_app_run {P : Program} {ops : Array Oper} {o : Oper} {a : Act} {w : World} {K : Act → World → Prop} {Q : Exit → Act → World → Prop} {E : Prop} (hg : o.guard = none) (d x : Operand) (dT sT : TypeId)
    (hop : o.op = .call { callee := .builtin .append, args := #[d, x], argTypes := #[dT, sT] }) (v u : Value) (hd : a.eval d = v) (hx : a.eval x = u) {v' : Value} {w' : World} (hr : (Builtin.append_ #[dT, sT] o.type #[v, u]).run P w = .ok v' w') (hK : K (a.put o.dst v') w') :
    if Region.wanted o (yielded ops a.tmps) = true then Oper.wp P o a w K Q else E := by
  have hw : Region.wanted o (yielded ops a.tmps) = true := by simp [Region.wanted, hg]
  rw [if_pos hw]
  unfold Oper.wp execOp
  simp only [hop, resolve, invoke, builtin, Sem.run_bind, Sem.run_pure, Result.andThen_ok, List.map_toArray, List.map_cons, List.map_nil, hd, hx, hr]
  exact hK
theorem arunF {w : World} {base : Nat} {v x : Value} {l k : List Fl} (hown : OwnF base w v l) (hs : FS w x k) (hb : l.length + k.length ≤ 100000000) (hbase : base ≤ w.heap.size) (ty : TypeId) :
    ∃ v' w', (Builtin.append_ #[22, 22] ty #[v, x]).run Tryz.prog w = .ok v' w' ∧ OwnF base w' v' (l ++ k) ∧ w.grownBy w' v.ownBlock := by
  obtain ⟨i0, hi, hz0, hz1, hz2⟩ := info_parts info31
  obtain ⟨v', w', hr, h2, h3, h4⟩ := run_append_src (P := Tryz.prog) w base 22 22 ty 31 i0 _ 4 48 und22 hi hz0 hz1 hz2 rfl v l.length (fc l) hown x k.length (fc k) hs.src (by simp only [maxLen]; omega) (by omega) hbase
  exact ⟨v', w', hr, by unfold OwnF; rw [fc_append, List.length_append]; exact h2, h3⟩
theorem arunD {w : World} {base : Nat} {v x : Value} {l k : List (List UInt8)} (hown : Own base w v l) (hs : SS w x k) (hb : l.length + k.length ≤ 100000000) (hbase : base ≤ w.heap.size) (ty : TypeId) :
    ∃ v' w', (Builtin.append_ #[42, 42] ty #[v, x]).run Tryz.prog w = .ok v' w' ∧ Own base w' v' (l ++ k) ∧ w.grownBy w' v.ownBlock := by
  obtain ⟨i0, hi, hz0, hz1, hz2⟩ := info_parts info9
  obtain ⟨v', w', hr, h2, h3, h4⟩ := run_append_src (P := Tryz.prog) w base 42 42 ty 9 i0 _ 1 16 und52 hi hz0 hz1 hz2 rfl v l.length (sc l) hown x k.length (sc k) (hs.src und52) (by simp only [maxLen]; omega) (by omega) hbase
  exact ⟨v', w', hr, by unfold Own; rw [sc_append, List.length_append]; exact h2, h3⟩
theorem arunB {w : World} {base : Nat} {v x : Value} {l k : List UInt8} (hown : OwnB base w v l) (hs : BS w x k) (hb : l.length + k.length ≤ 100000000) (hbase : base ≤ w.heap.size) (ty : TypeId) :
    ∃ v' w', (Builtin.append_ #[32, 32] ty #[v, x]).run Tryz.prog w = .ok v' w' ∧ OwnB base w' v' (l ++ k) ∧ w.grownBy w' v.ownBlock ∧ (v'.ownBlock = v.ownBlock ∨ v'.ownBlock = some w.heap.size) := by
  obtain ⟨i0, hi, hz0, hz1, hz2⟩ := info_parts info5
  obtain ⟨v', w', hr, h2, h3, h4⟩ := run_append_src (P := Tryz.prog) w base 32 32 ty 5 i0 _ 1 1 und32 hi hz0 hz1 hz2 rfl v l.length (bc l) hown x k.length (bc k) (hs.src und32) (by simp only [maxLen]; omega) (by omega) hbase
  exact ⟨v', w', hr, by unfold OwnB; rw [bc_append, List.length_append]; exact h2, h3, h4⟩
theorem BS.take {w : World} {a : Option Addr} {n c : Nat} {l : List UInt8} (h : BS w (.slice a n c) l) (k : Nat) (hk : k ≤ l.length) : BS w (.slice a k c) (l.take k) := by
  rcases h with ⟨⟨a', c', e⟩, rfl⟩ | ⟨b, off, cap, e, hc, hlt, hcell⟩
  · have : k = 0 := by simpa using hk
    subst this
    exact .inl ⟨⟨_, _, rfl⟩, rfl⟩
  · injection e with e1 e2 e3
    subst e1
    subst e3
    have hl : (l.take k).length = k := by rw [List.length_take]; omega
    refine .inr ⟨b, off, c, by rw [hl], by omega, hlt, fun i u hu => hcell i u ?_⟩
    rw [bc_get] at hu ⊢
    have hi : i < k := by
      by_cases hik : i < k
      · exact hik
      · rw [List.getElem?_eq_none (by rw [hl]; omega)] at hu
        cases hu
    rw [List.getElem?_take_of_lt hi] at hu
    exact hu
theorem rst_walk2 {kp : Int} {L R : Nat} (hL : L ≤ 4000000) (hR : rst kp L = R) :
    R ≤ L ∧ (¬ wrap64 ((L : Int) + 1) = 0) ∧ ∃ r, kp.tmod (wrap64 ((L : Int) + 1)) = r ∧ ((r < 0 ∧ wrap64 (wrap64 (r + (L : Int)) + 1) = (R : Int)) ∨ (¬ r < 0 ∧ r = (R : Int))) := by
  have := @rst_walk kp (List.replicate L 0) R (by simpa using hL) (by simpa using hR)
  rw [bs_size, List.length_replicate] at this
  exact this
theorem cell_set_ne (w : World) {d i j : Nat} (h : i ≠ j) (v : Value) : (w.setCell ⟨d, i, none⟩ v).cell? ⟨d, j, none⟩ = w.cell? ⟨d, j, none⟩ := by
  unfold World.cell? World.setCell
  simp only [Array.getElem?_modify, if_true]
  cases hb : w.heap[d]? with
  | none => rfl
  | some o =>
    cases o with
    | cells cs ty fr => simp [Array.getElem?_setIfInBounds_ne h]
    | _ => rfl
/-- what a new tree holds so far (m of its rows are laid), and the old one beside it -/
structure CX (w W : World) (F : Nat → Prop) (c d : Nat) (T S : TT) (m : Nat) : Prop where
  o : RT W F c T
  n : RT W (fun k => w.heap.size ≤ k ∧ k < W.heap.size) d S
  b : Below w.heap.size w W
  lt : ∀ k, F k → k < w.heap.size
  nl : ∀ i, m ≤ i → i < 3 → W.cell? ⟨d, i, none⟩ = some (.slice none 0 0)
theorem CX.later {w W W' : World} {F : Nat → Prop} {c d m : Nat} {T S : TT} (h : CX w W F c d T S m) (hb : Below W.heap.size W W') : CX w W' F c d T S m := by
  have hz := hb.size
  exact ⟨h.o.later hb, (h.n.later hb).wider (fun k hk => ⟨hk.1, by omega⟩) (fun k hk => hk.2), bstep h.b hb, h.lt, fun i h1 h2 => (hb.cell (p := ⟨d, i, none⟩) h.n.mem.2).trans (h.nl i h1 h2)⟩
theorem CX.ge {w W : World} {F : Nat → Prop} {c d m : Nat} {T S : TT} (h : CX w W F c d T S m) : w.heap.size ≤ d := h.n.mem.1
theorem CX.put0 {w W W' : World} {F : Nat → Prop} {c d m : Nat} {T S : TT} {v : Value} {l : List Fl} (h : CX w W F c d T S m) (hm : 1 ≤ m + 1) (hb : Below W.heap.size W W') (hv : OwnF W.heap.size W' v l) : CX w (W'.setCell ⟨d, 0, none⟩ v) F c d T { S with fs := l } (max m 1) := by
  have h' := h.later hb
  have hz : (W'.setCell ⟨d, 0, none⟩ v).heap.size = W'.heap.size := size_set _ _ _ _
  have hge := h.ge
  have hzW := h.b.size
  have hd : ∀ k, F k → k ≠ d := fun k hk e => by have := h.lt k hk; omega
  refine ⟨h'.o.stay (by rw [hz]; exact Nat.le_refl _) (fun k hk => set_other _ _ _ _ (hd k hk)), ?_, h'.b.setCell (p := ⟨d, 0, none⟩) hge _, h.lt, fun i h1 h2 => (cell_set_ne _ (by omega) _).trans (h'.nl i (by omega) h2)⟩
  have := h'.n.setF (F' := fun k => w.heap.size ≤ k ∧ k < W'.heap.size) (hv.mono (Nat.zero_le _)) (fun k hk => by have := hv.lt hk; omega) (fun _ h => h) (fun k h => h.2)
  rw [hz]; exact this
theorem CX.put1 {w W W' : World} {F : Nat → Prop} {c d m : Nat} {T S : TT} {v : Value} {l : List (List UInt8)} (h : CX w W F c d T S m) (hm : 2 ≤ m + 1) (hb : Below W.heap.size W W') (hv : Own W.heap.size W' v l) : CX w (W'.setCell ⟨d, 1, none⟩ v) F c d T { S with ds := l } (max m 2) := by
  have h' := h.later hb
  have hz : (W'.setCell ⟨d, 1, none⟩ v).heap.size = W'.heap.size := size_set _ _ _ _
  have hge := h.ge
  have hzW := h.b.size
  have hd : ∀ k, F k → k ≠ d := fun k hk e => by have := h.lt k hk; omega
  refine ⟨h'.o.stay (by rw [hz]; exact Nat.le_refl _) (fun k hk => set_other _ _ _ _ (hd k hk)), ?_, h'.b.setCell (p := ⟨d, 1, none⟩) hge _, h.lt, fun i h1 h2 => (cell_set_ne _ (by omega) _).trans (h'.nl i (by omega) h2)⟩
  have := h'.n.setD (F' := fun k => w.heap.size ≤ k ∧ k < W'.heap.size) (hv.mono (Nat.zero_le _)) (fun k hk => by have := hv.lt hk; omega) (fun _ h => h) (fun k h => h.2)
  rw [hz]; exact this
theorem CX.put2 {w W W' : World} {F : Nat → Prop} {c d m : Nat} {T S : TT} {v : Value} {l : List UInt8} (h : CX w W F c d T S m) (_ : 3 ≤ m + 1) (hb : Below W.heap.size W W') (hv : OwnB W.heap.size W' v l) : CX w (W'.setCell ⟨d, 2, none⟩ v) F c d T { S with jl := l } (max m 3) := by
  have h' := h.later hb
  have hz : (W'.setCell ⟨d, 2, none⟩ v).heap.size = W'.heap.size := size_set _ _ _ _
  have hge := h.ge
  have hzW := h.b.size
  have hd : ∀ k, F k → k ≠ d := fun k hk e => by have := h.lt k hk; omega
  refine ⟨h'.o.stay (by rw [hz]; exact Nat.le_refl _) (fun k hk => set_other _ _ _ _ (hd k hk)), ?_, h'.b.setCell (p := ⟨d, 2, none⟩) hge _, h.lt, fun i h1 h2 => (cell_set_ne _ (by omega) _).trans (h'.nl i (by omega) h2)⟩
  have := h'.n.setJ (F' := fun k => w.heap.size ≤ k ∧ k < W'.heap.size) (hv.mono (Nat.zero_le _)) (fun k hk => by have := hv.lt hk; omega) (fun _ h => h) (fun k h => h.2)
  rw [hz]; exact this
theorem RT.open6 {w : World} {F : Nat → Prop} {c : Nat} {T : TT} (h : RT w F c T) : ∃ vt, w.cell? ⟨c, 6, none⟩ = some vt ∧ OwnB 0 w vt T.tn := by
  obtain ⟨vf, vd, vj, vt, h1, h2, h3, h4, h5⟩ := h
  exact ⟨vt, h1.cell.2.2.2.2.2.2.1, h4.t.1⟩
theorem crash_end {w W W' : World} {F : Nat → Prop} {c d : Nat} {T : TT} {v vj : Value} {k : List UInt8} (h : CX w W F c d T ⟨T.fs, T.ds, T.jl, 0, 0, false, []⟩ 3) (hc : W.cell? ⟨d, 2, none⟩ = some vj)
    (hg : W.grownBy W' vj.ownBlock) (hv : OwnB 0 W' v (T.jl ++ k)) (hk : v.ownBlock = vj.ownBlock ∨ v.ownBlock = some W.heap.size) :
    RT (W'.setCell ⟨d, 2, none⟩ v) (fun k => w.heap.size ≤ k ∧ k < (W'.setCell ⟨d, 2, none⟩ v).heap.size) d ⟨T.fs, T.ds, T.jl ++ k, 0, 0, false, []⟩ ∧ Below w.heap.size w (W'.setCell ⟨d, 2, none⟩ v) := by
  obtain ⟨vf, vd, vj', vt, r1, r2, r3, r4, r5⟩ := h.n
  obtain rfl : vj' = vj := by
    have := r1.cell.2.2.1
    rw [hc] at this
    exact (Option.some.inj this).symm
  obtain rfl := r5 rfl
  have hz := hg.size
  have hge := h.ge
  have hzW := h.b.size
  have nc : vj'.ownBlock ≠ some d := row_ne r4.j.1 r1 (by decide)
  have nf : ∀ i, vf.ownBlock = some i → some i ≠ vj'.ownBlock := fun i hi e => fb_ne r4.f.1 r4.j.1 i hi e.symm
  have nd : ∀ i, vd.ownBlock = some i → some i ≠ vj'.ownBlock := fun i hi e => bs_ne2 r4.j.1 r4.d.1 i e.symm hi
  have q1 := r1.stay (w' := W') (hg.block d r1.lt (fun e => nc e.symm))
  have hs : (W'.setCell ⟨d, 2, none⟩ v).heap.size = W'.heap.size := size_set _ _ _ _
  have hF : ∀ i, (w.heap.size ≤ i ∧ i < W.heap.size) → w.heap.size ≤ i ∧ i < W'.heap.size := fun i hi => ⟨hi.1, by omega⟩
  have q2 : RR W' (fun k => w.heap.size ≤ k ∧ k < W'.heap.size) vf vd v (.slice none 0 0) T.fs T.ds (T.jl ++ k) [] :=
    ⟨⟨row_stay r4.f.1 fun i hi => hg.block i (r4.f.2 i hi).2 (nf i hi), fun i hi => hF i (r4.f.2 i hi)⟩, ⟨row_stay r4.d.1 fun i hi => hg.block i (r4.d.2 i hi).2 (nd i hi), fun i hi => hF i (r4.d.2 i hi)⟩,
     ⟨hv, fun i hi => by
        have hl := (hv.lt hi).2
        rcases hk with e | e
        · exact hF i (r4.j.2 i (e ▸ hi))
        · rw [e] at hi
          have := Option.some.inj hi
          omega⟩, ⟨OwnB.nil _ _, fun i hi => by cases hi⟩⟩
  have hb : Below w.heap.size w W' := h.b.grown hg hzW (fun i hi => (r4.j.2 i hi).1)
  rw [hs]
  exact ⟨⟨vf, vd, v, .slice none 0 0, q1.set2, ⟨hge, by have := r1.lt; omega⟩, fun i hi => by rw [hs]; exact hi.2, q2.set q1, fun _ => rfl⟩, hb.setCell (p := ⟨d, 2, none⟩) hge _⟩

set_option maxRecDepth 100000 in
set_option maxHeartbeats 16000000 in
theorem rcrash_any {w : World} {F : Nat → Prop} {c : Nat} {T : TT} (h : RT w F c T) (hz : TSz 4000000 T) (kp : Int) :
    Calls Tryz.prog 37 #[.pointer (some ⟨c, 0, none⟩), .int .i64 kp] w fun e w' => ∃ d, e = .returned (.pointer (some ⟨d, 0, none⟩)) ∧ RT w' (fun k => w.heap.size ≤ k ∧ k < w'.heap.size) d (T.cr kp) ∧ Below w.heap.size w w' := by
  have H : Hid (RT w F c T) := h
  clear h
  go_enter Tryz.func37, Tryz.ntmps37
  conv => arg 2; whnf
  refine wp_seq_k fun KK hKK => ?_
  have HK_ : Hid _ := hKK
  clear hKK
  go_wp2_with fail
  refine HK_.out _ _ ?_
  clear HK_
  refine wp_seq_k fun KK hKK => ?_
  have HK_ : Hid _ := hKK
  clear hKK
  go_wp2_with fail
  refine HK_.out _ _ ?_
  clear HK_
  obtain ⟨d, hd⟩ : ∃ d, w.heap.size = d := ⟨_, rfl⟩
  obtain ⟨w0, hw0⟩ : ∃ w0, w.alloc (.cells #[.slice none 0 0, .slice none 0 0, .slice none 0 0, .int .i64 0, .int .i64 0, .bool false, .slice none 0 0] 103) = w0 := ⟨_, rfl⟩
  have rc0 : RC w0 d (.slice none 0 0) (.slice none 0 0) (.slice none 0 0) 0 0 false (.slice none 0 0) := by rw [← hw0, ← hd]; exact heap_alloc_new _ _
  have hb0 : Below w.heap.size w w0 := hw0 ▸ balloc _ _
  have X0 : Hid (CX w w0 F c d T ⟨[], [], [], 0, 0, false, []⟩ 0) := ⟨H.out.later hb0, ⟨_, _, _, _, rc0, ⟨by omega, rc0.lt⟩, fun k hk => hk.2, ⟨⟨OwnF.nil _ _, fun k hk => by cases hk⟩, ⟨Own.nil _ _, fun k hk => by cases hk⟩, ⟨OwnB.nil _ _, fun k hk => by cases hk⟩, ⟨OwnB.nil _ _, fun k hk => by cases hk⟩⟩, fun _ => rfl⟩, hb0, H.out.lt, fun i _ h2 => by
    rcases (show i = 0 ∨ i = 1 ∨ i = 2 by omega) with rfl | rfl | rfl
    · exact rc0.cell.1
    · exact rc0.cell.2.1
    · exact rc0.cell.2.2.1⟩
  have HWD : Hid (w.heap.size = d) := hd
  rw [hw0, hd]
  clear rc0 hb0 hw0 hd
  refine wp_seq_k fun KK hKK => ?_
  have HK_ : Hid _ := hKK
  clear hKK
  have X0d : Hid (CX w w0.drew F c d T ⟨[], [], [], 0, 0, false, []⟩ 0) := X0.out.later (Below.refl _ _).drew
  obtain ⟨va, ca, of, ka, fa⟩ := X0d.out.o.open0
  obtain ⟨vb, cb, ob, kb, fb⟩ := X0d.out.n.open0
  have hvb : vb = .slice none 0 0 := by have := X0d.out.nl 0 (Nat.le_refl _) (by omega); rw [cb] at this; exact Option.some.inj this
  subst hvb
  obtain ⟨v', w1, hr, ho', hg'⟩ := arunF (base := w0.drew.heap.size) (OwnF.nil _ _) (of.fs) (l := []) (by simp; have := hz.nf; omega) (Nat.le_refl _) 22
  rw [List.nil_append] at ho'
  have hbg := grown_none hg'
  obtain ⟨a', c', hf'⟩ := ho'.form
  subst hf'
  have hcl : c < w0.drew.heap.size ∧ d < w0.drew.heap.size := ⟨X0d.out.o.lt c X0d.out.o.mem, X0d.out.n.mem.2⟩
  have cb' : w1.cell? ⟨d, 0, none⟩ = some (.slice none 0 0) := (hbg.cell (p := ⟨d, 0, none⟩) hcl.2).trans cb
  have fb' : w1.frozen? ⟨d, 0, none⟩ = false := frz_block (hbg.block d hcl.2) fb
  have HA : Hid (∀ W', Below w0.drew.heap.size w0.drew W' → W'.cell? ⟨c, 0, none⟩ = some va) := fun W' h => (h.cell (p := ⟨c, 0, none⟩) hcl.1).trans ca
  have X1 : Hid (CX w (w1.setCell ⟨d, 0, none⟩ (.slice a' T.fs.length c')) F c d T ⟨T.fs, [], [], 0, 0, false, []⟩ 1) := X0d.out.put0 (Nat.le_refl _) hbg ho'
  have HBG : Hid (Below w0.drew.heap.size w0.drew w1 ∧ c ≠ d) := ⟨hbg, fun e => by have := X0d.out.ge; have := X0d.out.lt c X0d.out.o.mem; omega⟩
  have HST : Hid ((w1.setCell ⟨d, 0, none⟩ (.slice a' T.fs.length c')).cell? ⟨c, 0, none⟩ = some va) := (cell_stay (set_other _ _ _ _ HBG.out.2) 0).trans (HA.out _ hbg)
  clear of ka fa ob kb hg' hbg ho' ca hcl
  go_wp2_with fail
  refine wp_region_noPanic ?_
  refine wp_region_held_drew (S := fun W' => W'.cell? ⟨c, 0, none⟩ = some va) (by kernel_rfl) (HA.out _ (Below.refl _ _)) (fun hHeld => ?_)
  refine wpAnyH_take (i := 0) (oi := { dst := some 9, op := _, type := _, pos := _, after := _, guard := _ }) (v := ?vx1) rfl (by kernel_rfl) (by kernel_rfl) (by kernel_rfl) (fun _ _ _ h => h) (Or.inl ⟨by rfl, ?hyx1⟩) (by assumption) ?restx1
  case hyx1 => (intro w hSw; (try dsimp only at hSw); go_simp; try with_reducible rfl)
  try simp only [Act.put, List.setIfInBounds_toArray, List.set_cons_zero, List.set_cons_succ]
  refine wpAnyH_take (i := 1) (oi := { dst := some 10, op := _, type := _, pos := _, after := _, guard := _ }) (v := ?vx2) rfl (by kernel_rfl) (by kernel_rfl) (by kernel_rfl) (fun _ _ _ h => h) (Or.inl ⟨by rfl, ?hyx2⟩) (by assumption) ?restx2
  case hyx2 => (intro w hSw; (try dsimp only at hSw); go_simp; try with_reducible rfl)
  try simp only [Act.put, List.setIfInBounds_toArray, List.set_cons_zero, List.set_cons_succ]
  refine wpAnyH_take (i := 2) (oi := { dst := some 11, op := _, type := _, pos := _, after := _, guard := _ }) (v := ?vx3) rfl (by kernel_rfl) (by kernel_rfl) (by kernel_rfl) (fun _ _ _ h => h) (Or.inl ⟨by rfl, ?hyx3⟩) (by assumption) ?restx3
  case hyx3 => (intro w hSw; (try dsimp only at hSw); go_simp; try with_reducible rfl)
  try simp only [Act.put, List.setIfInBounds_toArray, List.set_cons_zero, List.set_cons_succ]
  refine wpAnyH_take (i := 3) (oi := { dst := some 12, op := _, type := _, pos := _, after := _, guard := _ }) (v := ?vx4) rfl (by kernel_rfl) (by kernel_rfl) (by kernel_rfl) (fun _ _ _ h => h) (Or.inl ⟨by rfl, ?hyx4⟩) (by assumption) ?restx4
  case hyx4 => (intro w hSw; (try dsimp only at hSw); go_simp; try with_reducible rfl)
  try simp only [Act.put, List.setIfInBounds_toArray, List.set_cons_zero, List.set_cons_succ]
  refine wpAnyH_take (i := 5) (oi := { dst := some 14, op := _, type := _, pos := _, after := _, guard := _ }) (v := ?vx5) rfl (by kernel_rfl) (by kernel_rfl) (by kernel_rfl) (fun _ _ _ h => h) (Or.inl ⟨by rfl, ?hyx5⟩) (by assumption) ?restx5
  case hyx5 => (intro w hSw; (try dsimp only at hSw); go_simp; try with_reducible rfl)
  try simp only [Act.put, List.setIfInBounds_toArray, List.set_cons_zero, List.set_cons_succ]
  refine wpAnyH_take (i := 6) (oi := { dst := some 15, op := _, type := _, pos := _, after := _, guard := _ }) (v := ?vx6) rfl (by kernel_rfl) (by kernel_rfl) (by kernel_rfl) (fun _ _ _ h => h) (Or.inl ⟨by rfl, ?hyx6⟩) (by assumption) ?restx6
  case hyx6 => (intro w hSw; (try dsimp only at hSw); go_simp; try with_reducible rfl)
  try simp only [Act.put, List.setIfInBounds_toArray, List.set_cons_zero, List.set_cons_succ]
  refine wpAnyH_take (i := 7) (oi := { dst := some 16, op := _, type := _, pos := _, after := _, guard := _ }) (v := ?vx7) rfl (by kernel_rfl) (by kernel_rfl) (by kernel_rfl) (fun _ _ _ h => h) (Or.inl ⟨by rfl, ?hyx7⟩) (by assumption) ?restx7
  case hyx7 => (intro w hSw; (try dsimp only at hSw); go_simp; try with_reducible rfl)
  try simp only [Act.put, List.setIfInBounds_toArray, List.set_cons_zero, List.set_cons_succ]
  refine wpAnyH_take (i := 8) (oi := { dst := some 17, op := _, type := _, pos := _, after := _, guard := _ }) (v := ?vx8) rfl (by kernel_rfl) (by kernel_rfl) (by kernel_rfl) (fun _ _ _ h => h) (Or.inl ⟨by rfl, ?hyx8⟩) (by assumption) ?restx8
  case hyx8 => (intro w hSw; (try dsimp only at hSw); go_simp; try with_reducible rfl)
  try simp only [Act.put, List.setIfInBounds_toArray, List.set_cons_zero, List.set_cons_succ]
  refine wpAnyH_ready (rs := [4]) (by kernel_rfl) (by simp) ?_
  refine AllReadyH.cons (o := { dst := some 13, op := _, type := _, pos := _, after := _, guard := _ }) rfl (fun K hK => ?_) AllReadyH.nil
  go_simp
  refine hK.out _ _ (HA.out _ (Below.refl _ _)) (fun hHeld => ?_)
  clear hK K
  try simp only [List.setIfInBounds_toArray, List.set_cons_zero, List.set_cons_succ]
  refine wpAnyH_ready (rs := [9]) (by kernel_rfl) (by simp) ?_
  refine AllReadyH.cons (o := { dst := some 18, op := _, type := _, pos := _, after := _, guard := _ }) rfl (fun K hK => ?_) AllReadyH.nil
  refine step_app_run rfl (.tmp 13) (.tmp 17) _ _ rfl _ _ rfl rfl hr ?_
  refine hK.out _ _ (HA.out _ HBG.out.1) (fun hHeld => ?_)
  clear hK K
  try simp only [Act.put, List.setIfInBounds_toArray, List.set_cons_zero, List.set_cons_succ]
  refine wpAnyH_take (i := 10) (oi := { dst := some 19, op := _, type := _, pos := _, after := _, guard := _ }) (v := ?vx9) rfl (by kernel_rfl) (by kernel_rfl) (by kernel_rfl) (fun _ _ _ h => h) (Or.inl ⟨by rfl, ?hyx9⟩) (by assumption) ?restx9
  case hyx9 => (intro w hSw; (try dsimp only at hSw); go_simp; try with_reducible rfl)
  try simp only [Act.put, List.setIfInBounds_toArray, List.set_cons_zero, List.set_cons_succ]
  refine wpAnyH_take (i := 11) (oi := { dst := some 20, op := _, type := _, pos := _, after := _, guard := _ }) (v := ?vx10) rfl (by kernel_rfl) (by kernel_rfl) (by kernel_rfl) (fun _ _ _ h => h) (Or.inl ⟨by rfl, ?hyx10⟩) (by assumption) ?restx10
  case hyx10 => (intro w hSw; (try dsimp only at hSw); go_simp; try with_reducible rfl)
  try simp only [Act.put, List.setIfInBounds_toArray, List.set_cons_zero, List.set_cons_succ]
  refine wpAnyH_ready (rs := [12]) (by kernel_rfl) (by simp) ?_
  refine AllReadyH.cons (o := { dst := none, op := _, type := _, pos := _, after := _, guard := _ }) rfl (fun K hK => ?_) AllReadyH.nil
  go_simp
  refine hK.out _ _ HST.out (fun hHeld => ?_)
  clear hK K
  try simp only [List.setIfInBounds_toArray, List.set_cons_zero, List.set_cons_succ]
  refine wpAnyH_done (by kernel_rfl) ?_ _
  refine NoPanic.normal ?_
  clear hHeld hr cb' fb' HA HBG HST X0d cb fb X0
  refine HK_.out _ _ ?_
  clear HK_
  obtain ⟨w2, hw2⟩ : ∃ x, w1.setCell ⟨d, 0, none⟩ (.slice a' T.fs.length c') = x := ⟨_, rfl⟩
  rw [hw2] at X1 ⊢
  clear hw2
  refine wp_seq_k fun KK hKK => ?_
  have HK_ : Hid _ := hKK
  clear hKK
  have X1d : Hid (CX w w2.drew F c d T ⟨T.fs, [], [], 0, 0, false, []⟩ 1) := X1.out.later (Below.refl _ _).drew
  obtain ⟨va, ca, od, ka, fa⟩ := X1d.out.o.open1
  obtain ⟨vb, cb, ob, kb, fb⟩ := X1d.out.n.open1
  have hvb : vb = .slice none 0 0 := by have := X1d.out.nl 1 (Nat.le_refl _) (by omega); rw [cb] at this; exact Option.some.inj this
  subst hvb
  obtain ⟨v', w3, hr, ho', hg'⟩ := arunD (base := w2.drew.heap.size) (Own.nil _ _) (od.ss) (l := []) (by simp; have := hz.nd; omega) (Nat.le_refl _) 42
  rw [List.nil_append] at ho'
  have hbg := grown_none hg'
  obtain ⟨a', c', hf'⟩ := ho'.len
  subst hf'
  have hcl : c < w2.drew.heap.size ∧ d < w2.drew.heap.size := ⟨X1d.out.o.lt c X1d.out.o.mem, X1d.out.n.mem.2⟩
  have cb' : w3.cell? ⟨d, 1, none⟩ = some (.slice none 0 0) := (hbg.cell (p := ⟨d, 1, none⟩) hcl.2).trans cb
  have fb' : w3.frozen? ⟨d, 1, none⟩ = false := frz_block (hbg.block d hcl.2) fb
  have HA : Hid (∀ W', Below w2.drew.heap.size w2.drew W' → W'.cell? ⟨c, 1, none⟩ = some va) := fun W' h => (h.cell (p := ⟨c, 1, none⟩) hcl.1).trans ca
  have X2 : Hid (CX w (w3.setCell ⟨d, 1, none⟩ (.slice a' T.ds.length c')) F c d T ⟨T.fs, T.ds, [], 0, 0, false, []⟩ 2) := X1d.out.put1 (Nat.le_refl _) hbg ho'
  have HBG : Hid (Below w2.drew.heap.size w2.drew w3 ∧ c ≠ d) := ⟨hbg, fun e => by have := X1d.out.ge; have := X1d.out.lt c X1d.out.o.mem; omega⟩
  have HST : Hid ((w3.setCell ⟨d, 1, none⟩ (.slice a' T.ds.length c')).cell? ⟨c, 1, none⟩ = some va) := (cell_stay (set_other _ _ _ _ HBG.out.2) 1).trans (HA.out _ hbg)
  clear od ka fa ob kb hg' hbg ho' ca hcl
  go_wp2_with fail
  refine wp_region_noPanic ?_
  refine wp_region_held_drew (S := fun W' => W'.cell? ⟨c, 1, none⟩ = some va) (by kernel_rfl) (HA.out _ (Below.refl _ _)) (fun hHeld => ?_)
  refine wpAnyH_take (i := 0) (oi := { dst := some 21, op := _, type := _, pos := _, after := _, guard := _ }) (v := ?vx11) rfl (by kernel_rfl) (by kernel_rfl) (by kernel_rfl) (fun _ _ _ h => h) (Or.inl ⟨by rfl, ?hyx11⟩) (by assumption) ?restx11
  case hyx11 => (intro w hSw; (try dsimp only at hSw); go_simp; try with_reducible rfl)
  try simp only [Act.put, List.setIfInBounds_toArray, List.set_cons_zero, List.set_cons_succ]
  refine wpAnyH_take (i := 1) (oi := { dst := some 22, op := _, type := _, pos := _, after := _, guard := _ }) (v := ?vx12) rfl (by kernel_rfl) (by kernel_rfl) (by kernel_rfl) (fun _ _ _ h => h) (Or.inl ⟨by rfl, ?hyx12⟩) (by assumption) ?restx12
  case hyx12 => (intro w hSw; (try dsimp only at hSw); go_simp; try with_reducible rfl)
  try simp only [Act.put, List.setIfInBounds_toArray, List.set_cons_zero, List.set_cons_succ]
  refine wpAnyH_take (i := 2) (oi := { dst := some 23, op := _, type := _, pos := _, after := _, guard := _ }) (v := ?vx13) rfl (by kernel_rfl) (by kernel_rfl) (by kernel_rfl) (fun _ _ _ h => h) (Or.inl ⟨by rfl, ?hyx13⟩) (by assumption) ?restx13
  case hyx13 => (intro w hSw; (try dsimp only at hSw); go_simp; try with_reducible rfl)
  try simp only [Act.put, List.setIfInBounds_toArray, List.set_cons_zero, List.set_cons_succ]
  refine wpAnyH_take (i := 3) (oi := { dst := some 24, op := _, type := _, pos := _, after := _, guard := _ }) (v := ?vx14) rfl (by kernel_rfl) (by kernel_rfl) (by kernel_rfl) (fun _ _ _ h => h) (Or.inl ⟨by rfl, ?hyx14⟩) (by assumption) ?restx14
  case hyx14 => (intro w hSw; (try dsimp only at hSw); go_simp; try with_reducible rfl)
  try simp only [Act.put, List.setIfInBounds_toArray, List.set_cons_zero, List.set_cons_succ]
  refine wpAnyH_take (i := 5) (oi := { dst := some 26, op := _, type := _, pos := _, after := _, guard := _ }) (v := ?vx15) rfl (by kernel_rfl) (by kernel_rfl) (by kernel_rfl) (fun _ _ _ h => h) (Or.inl ⟨by rfl, ?hyx15⟩) (by assumption) ?restx15
  case hyx15 => (intro w hSw; (try dsimp only at hSw); go_simp; try with_reducible rfl)
  try simp only [Act.put, List.setIfInBounds_toArray, List.set_cons_zero, List.set_cons_succ]
  refine wpAnyH_take (i := 6) (oi := { dst := some 27, op := _, type := _, pos := _, after := _, guard := _ }) (v := ?vx16) rfl (by kernel_rfl) (by kernel_rfl) (by kernel_rfl) (fun _ _ _ h => h) (Or.inl ⟨by rfl, ?hyx16⟩) (by assumption) ?restx16
  case hyx16 => (intro w hSw; (try dsimp only at hSw); go_simp; try with_reducible rfl)
  try simp only [Act.put, List.setIfInBounds_toArray, List.set_cons_zero, List.set_cons_succ]
  refine wpAnyH_take (i := 7) (oi := { dst := some 28, op := _, type := _, pos := _, after := _, guard := _ }) (v := ?vx17) rfl (by kernel_rfl) (by kernel_rfl) (by kernel_rfl) (fun _ _ _ h => h) (Or.inl ⟨by rfl, ?hyx17⟩) (by assumption) ?restx17
  case hyx17 => (intro w hSw; (try dsimp only at hSw); go_simp; try with_reducible rfl)
  try simp only [Act.put, List.setIfInBounds_toArray, List.set_cons_zero, List.set_cons_succ]
  refine wpAnyH_take (i := 8) (oi := { dst := some 29, op := _, type := _, pos := _, after := _, guard := _ }) (v := ?vx18) rfl (by kernel_rfl) (by kernel_rfl) (by kernel_rfl) (fun _ _ _ h => h) (Or.inl ⟨by rfl, ?hyx18⟩) (by assumption) ?restx18
  case hyx18 => (intro w hSw; (try dsimp only at hSw); go_simp; try with_reducible rfl)
  try simp only [Act.put, List.setIfInBounds_toArray, List.set_cons_zero, List.set_cons_succ]
  refine wpAnyH_ready (rs := [4]) (by kernel_rfl) (by simp) ?_
  refine AllReadyH.cons (o := { dst := some 25, op := _, type := _, pos := _, after := _, guard := _ }) rfl (fun K hK => ?_) AllReadyH.nil
  go_simp
  refine hK.out _ _ (HA.out _ (Below.refl _ _)) (fun hHeld => ?_)
  clear hK K
  try simp only [List.setIfInBounds_toArray, List.set_cons_zero, List.set_cons_succ]
  refine wpAnyH_ready (rs := [9]) (by kernel_rfl) (by simp) ?_
  refine AllReadyH.cons (o := { dst := some 30, op := _, type := _, pos := _, after := _, guard := _ }) rfl (fun K hK => ?_) AllReadyH.nil
  refine step_app_run rfl (.tmp 25) (.tmp 29) _ _ rfl _ _ rfl rfl hr ?_
  refine hK.out _ _ (HA.out _ HBG.out.1) (fun hHeld => ?_)
  clear hK K
  try simp only [Act.put, List.setIfInBounds_toArray, List.set_cons_zero, List.set_cons_succ]
  refine wpAnyH_take (i := 10) (oi := { dst := some 31, op := _, type := _, pos := _, after := _, guard := _ }) (v := ?vx19) rfl (by kernel_rfl) (by kernel_rfl) (by kernel_rfl) (fun _ _ _ h => h) (Or.inl ⟨by rfl, ?hyx19⟩) (by assumption) ?restx19
  case hyx19 => (intro w hSw; (try dsimp only at hSw); go_simp; try with_reducible rfl)
  try simp only [Act.put, List.setIfInBounds_toArray, List.set_cons_zero, List.set_cons_succ]
  refine wpAnyH_take (i := 11) (oi := { dst := some 32, op := _, type := _, pos := _, after := _, guard := _ }) (v := ?vx20) rfl (by kernel_rfl) (by kernel_rfl) (by kernel_rfl) (fun _ _ _ h => h) (Or.inl ⟨by rfl, ?hyx20⟩) (by assumption) ?restx20
  case hyx20 => (intro w hSw; (try dsimp only at hSw); go_simp; try with_reducible rfl)
  try simp only [Act.put, List.setIfInBounds_toArray, List.set_cons_zero, List.set_cons_succ]
  refine wpAnyH_ready (rs := [12]) (by kernel_rfl) (by simp) ?_
  refine AllReadyH.cons (o := { dst := none, op := _, type := _, pos := _, after := _, guard := _ }) rfl (fun K hK => ?_) AllReadyH.nil
  go_simp
  refine hK.out _ _ HST.out (fun hHeld => ?_)
  clear hK K
  try simp only [List.setIfInBounds_toArray, List.set_cons_zero, List.set_cons_succ]
  refine wpAnyH_done (by kernel_rfl) ?_ _
  refine NoPanic.normal ?_
  clear hHeld hr cb' fb' HA HBG HST X1d cb fb X1
  refine HK_.out _ _ ?_
  clear HK_
  obtain ⟨w4, hw4⟩ : ∃ x, w3.setCell ⟨d, 1, none⟩ (.slice a' T.ds.length c') = x := ⟨_, rfl⟩
  rw [hw4] at X2 ⊢
  clear hw4
  refine wp_seq_k fun KK hKK => ?_
  have HK_ : Hid _ := hKK
  clear hKK
  have X2d : Hid (CX w w4.drew F c d T ⟨T.fs, T.ds, [], 0, 0, false, []⟩ 2) := X2.out.later (Below.refl _ _).drew
  obtain ⟨va, ca, oj, ka, fa⟩ := X2d.out.o.open2
  obtain ⟨vb, cb, ob, kb, fb⟩ := X2d.out.n.open2
  have hvb : vb = .slice none 0 0 := by have := X2d.out.nl 2 (Nat.le_refl _) (by omega); rw [cb] at this; exact Option.some.inj this
  subst hvb
  obtain ⟨v', w5, hr, ho', hg', -⟩ := arunB (base := w4.drew.heap.size) (OwnB.nil _ _) (oj.bs) (l := []) (by simp; have := hz.nj; omega) (Nat.le_refl _) 32
  rw [List.nil_append] at ho'
  have hbg := grown_none hg'
  obtain ⟨a', c', hf'⟩ := ho'.len
  subst hf'
  have hcl : c < w4.drew.heap.size ∧ d < w4.drew.heap.size := ⟨X2d.out.o.lt c X2d.out.o.mem, X2d.out.n.mem.2⟩
  have cb' : w5.cell? ⟨d, 2, none⟩ = some (.slice none 0 0) := (hbg.cell (p := ⟨d, 2, none⟩) hcl.2).trans cb
  have fb' : w5.frozen? ⟨d, 2, none⟩ = false := frz_block (hbg.block d hcl.2) fb
  have HA : Hid (∀ W', Below w4.drew.heap.size w4.drew W' → W'.cell? ⟨c, 2, none⟩ = some va) := fun W' h => (h.cell (p := ⟨c, 2, none⟩) hcl.1).trans ca
  have X3 : Hid (CX w (w5.setCell ⟨d, 2, none⟩ (.slice a' T.jl.length c')) F c d T ⟨T.fs, T.ds, T.jl, 0, 0, false, []⟩ 3) := X2d.out.put2 (Nat.le_refl _) hbg ho'
  have HBG : Hid (Below w4.drew.heap.size w4.drew w5 ∧ c ≠ d) := ⟨hbg, fun e => by have := X2d.out.ge; have := X2d.out.lt c X2d.out.o.mem; omega⟩
  have HST : Hid ((w5.setCell ⟨d, 2, none⟩ (.slice a' T.jl.length c')).cell? ⟨c, 2, none⟩ = some va) := (cell_stay (set_other _ _ _ _ HBG.out.2) 2).trans (HA.out _ hbg)
  clear oj ka fa ob kb hg' hbg ho' ca hcl
  go_wp2_with fail
  refine wp_region_noPanic ?_
  refine wp_region_held_drew (S := fun W' => W'.cell? ⟨c, 2, none⟩ = some va) (by kernel_rfl) (HA.out _ (Below.refl _ _)) (fun hHeld => ?_)
  refine wpAnyH_take (i := 0) (oi := { dst := some 33, op := _, type := _, pos := _, after := _, guard := _ }) (v := ?vx21) rfl (by kernel_rfl) (by kernel_rfl) (by kernel_rfl) (fun _ _ _ h => h) (Or.inl ⟨by rfl, ?hyx21⟩) (by assumption) ?restx21
  case hyx21 => (intro w hSw; (try dsimp only at hSw); go_simp; try with_reducible rfl)
  try simp only [Act.put, List.setIfInBounds_toArray, List.set_cons_zero, List.set_cons_succ]
  refine wpAnyH_take (i := 1) (oi := { dst := some 34, op := _, type := _, pos := _, after := _, guard := _ }) (v := ?vx22) rfl (by kernel_rfl) (by kernel_rfl) (by kernel_rfl) (fun _ _ _ h => h) (Or.inl ⟨by rfl, ?hyx22⟩) (by assumption) ?restx22
  case hyx22 => (intro w hSw; (try dsimp only at hSw); go_simp; try with_reducible rfl)
  try simp only [Act.put, List.setIfInBounds_toArray, List.set_cons_zero, List.set_cons_succ]
  refine wpAnyH_take (i := 2) (oi := { dst := some 35, op := _, type := _, pos := _, after := _, guard := _ }) (v := ?vx23) rfl (by kernel_rfl) (by kernel_rfl) (by kernel_rfl) (fun _ _ _ h => h) (Or.inl ⟨by rfl, ?hyx23⟩) (by assumption) ?restx23
  case hyx23 => (intro w hSw; (try dsimp only at hSw); go_simp; try with_reducible rfl)
  try simp only [Act.put, List.setIfInBounds_toArray, List.set_cons_zero, List.set_cons_succ]
  refine wpAnyH_take (i := 3) (oi := { dst := some 36, op := _, type := _, pos := _, after := _, guard := _ }) (v := ?vx24) rfl (by kernel_rfl) (by kernel_rfl) (by kernel_rfl) (fun _ _ _ h => h) (Or.inl ⟨by rfl, ?hyx24⟩) (by assumption) ?restx24
  case hyx24 => (intro w hSw; (try dsimp only at hSw); go_simp; try with_reducible rfl)
  try simp only [Act.put, List.setIfInBounds_toArray, List.set_cons_zero, List.set_cons_succ]
  refine wpAnyH_take (i := 5) (oi := { dst := some 38, op := _, type := _, pos := _, after := _, guard := _ }) (v := ?vx25) rfl (by kernel_rfl) (by kernel_rfl) (by kernel_rfl) (fun _ _ _ h => h) (Or.inl ⟨by rfl, ?hyx25⟩) (by assumption) ?restx25
  case hyx25 => (intro w hSw; (try dsimp only at hSw); go_simp; try with_reducible rfl)
  try simp only [Act.put, List.setIfInBounds_toArray, List.set_cons_zero, List.set_cons_succ]
  refine wpAnyH_take (i := 6) (oi := { dst := some 39, op := _, type := _, pos := _, after := _, guard := _ }) (v := ?vx26) rfl (by kernel_rfl) (by kernel_rfl) (by kernel_rfl) (fun _ _ _ h => h) (Or.inl ⟨by rfl, ?hyx26⟩) (by assumption) ?restx26
  case hyx26 => (intro w hSw; (try dsimp only at hSw); go_simp; try with_reducible rfl)
  try simp only [Act.put, List.setIfInBounds_toArray, List.set_cons_zero, List.set_cons_succ]
  refine wpAnyH_take (i := 7) (oi := { dst := some 40, op := _, type := _, pos := _, after := _, guard := _ }) (v := ?vx27) rfl (by kernel_rfl) (by kernel_rfl) (by kernel_rfl) (fun _ _ _ h => h) (Or.inl ⟨by rfl, ?hyx27⟩) (by assumption) ?restx27
  case hyx27 => (intro w hSw; (try dsimp only at hSw); go_simp; try with_reducible rfl)
  try simp only [Act.put, List.setIfInBounds_toArray, List.set_cons_zero, List.set_cons_succ]
  refine wpAnyH_take (i := 8) (oi := { dst := some 41, op := _, type := _, pos := _, after := _, guard := _ }) (v := ?vx28) rfl (by kernel_rfl) (by kernel_rfl) (by kernel_rfl) (fun _ _ _ h => h) (Or.inl ⟨by rfl, ?hyx28⟩) (by assumption) ?restx28
  case hyx28 => (intro w hSw; (try dsimp only at hSw); go_simp; try with_reducible rfl)
  try simp only [Act.put, List.setIfInBounds_toArray, List.set_cons_zero, List.set_cons_succ]
  refine wpAnyH_ready (rs := [4]) (by kernel_rfl) (by simp) ?_
  refine AllReadyH.cons (o := { dst := some 37, op := _, type := _, pos := _, after := _, guard := _ }) rfl (fun K hK => ?_) AllReadyH.nil
  go_simp
  refine hK.out _ _ (HA.out _ (Below.refl _ _)) (fun hHeld => ?_)
  clear hK K
  try simp only [List.setIfInBounds_toArray, List.set_cons_zero, List.set_cons_succ]
  refine wpAnyH_ready (rs := [9]) (by kernel_rfl) (by simp) ?_
  refine AllReadyH.cons (o := { dst := some 42, op := _, type := _, pos := _, after := _, guard := _ }) rfl (fun K hK => ?_) AllReadyH.nil
  refine step_app_run rfl (.tmp 37) (.tmp 41) _ _ rfl _ _ rfl rfl hr ?_
  refine hK.out _ _ (HA.out _ HBG.out.1) (fun hHeld => ?_)
  clear hK K
  try simp only [Act.put, List.setIfInBounds_toArray, List.set_cons_zero, List.set_cons_succ]
  refine wpAnyH_take (i := 10) (oi := { dst := some 43, op := _, type := _, pos := _, after := _, guard := _ }) (v := ?vx29) rfl (by kernel_rfl) (by kernel_rfl) (by kernel_rfl) (fun _ _ _ h => h) (Or.inl ⟨by rfl, ?hyx29⟩) (by assumption) ?restx29
  case hyx29 => (intro w hSw; (try dsimp only at hSw); go_simp; try with_reducible rfl)
  try simp only [Act.put, List.setIfInBounds_toArray, List.set_cons_zero, List.set_cons_succ]
  refine wpAnyH_take (i := 11) (oi := { dst := some 44, op := _, type := _, pos := _, after := _, guard := _ }) (v := ?vx30) rfl (by kernel_rfl) (by kernel_rfl) (by kernel_rfl) (fun _ _ _ h => h) (Or.inl ⟨by rfl, ?hyx30⟩) (by assumption) ?restx30
  case hyx30 => (intro w hSw; (try dsimp only at hSw); go_simp; try with_reducible rfl)
  try simp only [Act.put, List.setIfInBounds_toArray, List.set_cons_zero, List.set_cons_succ]
  refine wpAnyH_ready (rs := [12]) (by kernel_rfl) (by simp) ?_
  refine AllReadyH.cons (o := { dst := none, op := _, type := _, pos := _, after := _, guard := _ }) rfl (fun K hK => ?_) AllReadyH.nil
  go_simp
  refine hK.out _ _ HST.out (fun hHeld => ?_)
  clear hK K
  try simp only [List.setIfInBounds_toArray, List.set_cons_zero, List.set_cons_succ]
  refine wpAnyH_done (by kernel_rfl) ?_ _
  refine NoPanic.normal ?_
  clear hHeld hr cb' fb' HA HBG HST X2d cb fb X2
  refine HK_.out _ _ ?_
  clear HK_
  obtain ⟨w6, hw6⟩ : ∃ x, w5.setCell ⟨d, 2, none⟩ (.slice a' T.jl.length c') = x := ⟨_, rfl⟩
  rw [hw6] at X3 ⊢
  clear hw6
  obtain ⟨vt, c6, ot⟩ := X3.out.o.open6
  obtain ⟨ta, tc, hvt⟩ := ot.len
  subst hvt
  obtain ⟨L, hL⟩ : ∃ L, T.tn.length = L := ⟨_, rfl⟩
  obtain ⟨R, hR⟩ : ∃ R, rst kp T.tn.length = R := ⟨_, rfl⟩
  have hLb : L ≤ 4000000 := by rw [← hL]; exact hz.nt
  obtain ⟨hRl, hnz, rr, hr', hcs⟩ := rst_walk2 (kp := kp) (L := L) (R := R) hLb (by rw [← hL]; exact hR)
  have hr2 : kp.tmod ((L : Int) + 1) = rr := by rw [← hr', IntWalk.wrap64_in _ (by omega)]
  have hl0 : ¬ (L : Int) + 1 = 0 := by omega
  have HR : Hid (rst kp T.tn.length = R) := hR
  have hbt := ot.bs
  rw [hL] at hbt c6
  have hcap : L ≤ tc := by
    rcases ot.form' with ⟨e, e'⟩ | ⟨g, c', e, h1, _⟩
    · rw [e'] at hL; simp at hL; omega
    · injection e with _ _ e3
      omega
  have VT : Hid ((T.tn.take R).length = R ∧ ∀ W', Below w6.heap.size w6 W' → BS W' (.slice ta R tc) (T.tn.take R)) := ⟨by rw [List.length_take]; omega, fun W' h => (hbt.later h).take R (by omega)⟩
  have C6 : Hid (w6.cell? ⟨c, 6, none⟩ = some (.slice ta L tc)) := c6
  have z1 : (R : Int) ≤ (tc : Int) := by omega
  have z0 : (0 : Int) ≤ (R : Int) := by omega
  clear ot hbt hR hL
  rcases hcs with ⟨hneg, h2⟩ | ⟨hneg, h2⟩
  · refine wp_seq_k fun KK hKK => ?_
    have HK_ : Hid _ := hKK
    clear hKK
    go_wp2_with fail
    refine HK_.out _ _ ?_
    clear HK_
    refine wp_seq_k fun KK hKK => ?_
    have HK_ : Hid _ := hKK
    clear hKK
    go_wp2_with fail
    refine HK_.out _ _ ?_
    clear HK_
    try rw [h2]
    refine wp_seq_k fun KK hKK => ?_
    have HK_ : Hid _ := hKK
    clear hKK
    have X3d : Hid (CX w w6.drew F c d T ⟨T.fs, T.ds, T.jl, 0, 0, false, []⟩ 3) := X3.out.later (Below.refl _ _).drew
    obtain ⟨vj, cj, oj, kj, fj⟩ := X3d.out.n.open2
    obtain ⟨v', w7, hr, ho', hg', hk'⟩ := arunB (base := 0) oj (VT.out.2 _ (Below.refl _ _).drew) (by rw [VT.out.1]; show T.jl.length + R ≤ _; have := hz.nj; omega) (Nat.zero_le _) 32
    obtain ⟨a', c', hf'⟩ := ho'.len
    subst hf'
    have hcl : c < w6.drew.heap.size ∧ d < w6.drew.heap.size ∧ c ≠ d := ⟨X3d.out.o.lt c X3d.out.o.mem, X3d.out.n.mem.2, fun e => by have := X3d.out.ge; have := X3d.out.lt c X3d.out.o.mem; omega⟩
    have hvj : vj.ownBlock ≠ some d ∧ vj.ownBlock ≠ some c := by
      obtain ⟨_, _, vj', _, q1, _, _, q4, _⟩ := X3d.out.n
      have e := q1.cell.2.2.1
      rw [cj] at e
      obtain rfl := Option.some.inj e
      refine ⟨row_ne q4.j.1 q1 (by decide), fun e => ?_⟩
      have := (kj c e).1
      have := X3d.out.lt c X3d.out.o.mem
      omega
    have cj' : w7.cell? ⟨d, 2, none⟩ = some vj := (cell_stay (hg'.block d hcl.2.1 (fun e => hvj.1 e.symm)) 2).trans cj
    have fj' : w7.frozen? ⟨d, 2, none⟩ = false := frz_block (hg'.block d hcl.2.1 (fun e => hvj.1 e.symm)) fj
    have HS6 : Hid (w6.drew.cell? ⟨c, 6, none⟩ = some (.slice ta L tc) ∧ w7.cell? ⟨c, 6, none⟩ = some (.slice ta L tc) ∧ (w7.setCell ⟨d, 2, none⟩ (.slice a' (T.jl ++ T.tn.take R).length c')).cell? ⟨c, 6, none⟩ = some (.slice ta L tc)) := by
      have e0 : w6.drew.cell? ⟨c, 6, none⟩ = some (.slice ta L tc) := C6.out
      have e1 := (cell_stay (hg'.block c hcl.1 (fun e => hvj.2 e.symm)) 6).trans e0
      exact ⟨e0, e1, (cell_stay (set_other _ _ _ _ hcl.2.2) 6).trans e1⟩
    have XE : Hid (RT (w7.setCell ⟨d, 2, none⟩ (.slice a' (T.jl ++ T.tn.take R).length c')) (fun k => w.heap.size ≤ k ∧ k < (w7.setCell ⟨d, 2, none⟩ (.slice a' (T.jl ++ T.tn.take R).length c')).heap.size) d ⟨T.fs, T.ds, T.jl ++ T.tn.take R, 0, 0, false, []⟩ ∧ Below w.heap.size w (w7.setCell ⟨d, 2, none⟩ (.slice a' (T.jl ++ T.tn.take R).length c'))) := crash_end X3d.out cj hg' ho' hk'
    clear oj kj hg' hk' ho' hcl hvj X3 X3d
    generalize (T.jl ++ T.tn.take R).length = nn at *
    refine wp_region_noPanic ?_
    refine wp_region_held_drew (S := fun W' => W'.cell? ⟨c, 6, none⟩ = some (.slice ta L tc)) (by kernel_rfl) HS6.out.1 (fun hHeld => ?_)
    refine wpAnyH_take (i := 0) (oi := { dst := some 63, op := _, type := _, pos := _, after := _, guard := _ }) (v := ?vx31) rfl (by kernel_rfl) (by kernel_rfl) (by kernel_rfl) (fun _ _ _ h => h) (Or.inl ⟨by rfl, ?hyx31⟩) (by assumption) ?restx31
    case hyx31 => (intro w hSw; (try dsimp only at hSw); go_simp; try with_reducible rfl)
    try simp only [Act.put, List.setIfInBounds_toArray, List.set_cons_zero, List.set_cons_succ]
    refine wpAnyH_take (i := 1) (oi := { dst := some 64, op := _, type := _, pos := _, after := _, guard := _ }) (v := ?vx32) rfl (by kernel_rfl) (by kernel_rfl) (by kernel_rfl) (fun _ _ _ h => h) (Or.inl ⟨by rfl, ?hyx32⟩) (by assumption) ?restx32
    case hyx32 => (intro w hSw; (try dsimp only at hSw); go_simp; try with_reducible rfl)
    try simp only [Act.put, List.setIfInBounds_toArray, List.set_cons_zero, List.set_cons_succ]
    refine wpAnyH_take (i := 2) (oi := { dst := some 65, op := _, type := _, pos := _, after := _, guard := _ }) (v := ?vx33) rfl (by kernel_rfl) (by kernel_rfl) (by kernel_rfl) (fun _ _ _ h => h) (Or.inl ⟨by rfl, ?hyx33⟩) (by assumption) ?restx33
    case hyx33 => (intro w hSw; (try dsimp only at hSw); go_simp; try with_reducible rfl)
    try simp only [Act.put, List.setIfInBounds_toArray, List.set_cons_zero, List.set_cons_succ]
    refine wpAnyH_take (i := 3) (oi := { dst := some 66, op := _, type := _, pos := _, after := _, guard := _ }) (v := ?vx34) rfl (by kernel_rfl) (by kernel_rfl) (by kernel_rfl) (fun _ _ _ h => h) (Or.inl ⟨by rfl, ?hyx34⟩) (by assumption) ?restx34
    case hyx34 => (intro w hSw; (try dsimp only at hSw); go_simp; try with_reducible rfl)
    try simp only [Act.put, List.setIfInBounds_toArray, List.set_cons_zero, List.set_cons_succ]
    refine wpAnyH_take (i := 5) (oi := { dst := some 68, op := _, type := _, pos := _, after := _, guard := _ }) (v := ?vx35) rfl (by kernel_rfl) (by kernel_rfl) (by kernel_rfl) (fun _ _ _ h => h) (Or.inl ⟨by rfl, ?hyx35⟩) (by assumption) ?restx35
    case hyx35 => (intro w hSw; (try dsimp only at hSw); go_simp; try with_reducible rfl)
    try simp only [Act.put, List.setIfInBounds_toArray, List.set_cons_zero, List.set_cons_succ]
    refine wpAnyH_take (i := 6) (oi := { dst := some 69, op := _, type := _, pos := _, after := _, guard := _ }) (v := ?vx36) rfl (by kernel_rfl) (by kernel_rfl) (by kernel_rfl) (fun _ _ _ h => h) (Or.inl ⟨by rfl, ?hyx36⟩) (by assumption) ?restx36
    case hyx36 => (intro w hSw; (try dsimp only at hSw); go_simp; try with_reducible rfl)
    try simp only [Act.put, List.setIfInBounds_toArray, List.set_cons_zero, List.set_cons_succ]
    refine wpAnyH_take (i := 7) (oi := { dst := some 70, op := _, type := _, pos := _, after := _, guard := _ }) (v := ?vx37) rfl (by kernel_rfl) (by kernel_rfl) (by kernel_rfl) (fun _ _ _ h => h) (Or.inl ⟨by rfl, ?hyx37⟩) (by assumption) ?restx37
    case hyx37 => (intro w hSw; (try dsimp only at hSw); go_simp; try with_reducible rfl)
    try simp only [Act.put, List.setIfInBounds_toArray, List.set_cons_zero, List.set_cons_succ]
    refine wpAnyH_take (i := 8) (oi := { dst := some 71, op := _, type := _, pos := _, after := _, guard := _ }) (v := ?vx38) rfl (by kernel_rfl) (by kernel_rfl) (by kernel_rfl) (fun _ _ _ h => h) (Or.inl ⟨by rfl, ?hyx38⟩) (by assumption) ?restx38
    case hyx38 => (intro w hSw; (try dsimp only at hSw); go_simp; try with_reducible rfl)
    try simp only [Act.put, List.setIfInBounds_toArray, List.set_cons_zero, List.set_cons_succ]
    refine wpAnyH_take (i := 9) (oi := { dst := some 72, op := _, type := _, pos := _, after := _, guard := _ }) (v := ?vx39) rfl (by kernel_rfl) (by kernel_rfl) (by kernel_rfl) (fun _ _ _ h => h) (Or.inl ⟨by rfl, ?hyx39⟩) (by assumption) ?restx39
    case hyx39 => (intro w hSw; (try dsimp only at hSw); go_simp; try with_reducible rfl)
    try simp only [Act.put, List.setIfInBounds_toArray, List.set_cons_zero, List.set_cons_succ]
    refine wpAnyH_take (i := 10) (oi := { dst := some 73, op := _, type := _, pos := _, after := _, guard := _ }) (v := ?vx40) rfl (by kernel_rfl) (by kernel_rfl) (by kernel_rfl) (fun _ _ _ h => h) (Or.inl ⟨by rfl, ?hyx40⟩) (by assumption) ?restx40
    case hyx40 => (intro w hSw; (try dsimp only at hSw); go_simp; try with_reducible rfl)
    try simp only [Act.put, List.setIfInBounds_toArray, List.set_cons_zero, List.set_cons_succ]
    refine wpAnyH_ready (rs := [4]) (by kernel_rfl) (by simp) ?_
    refine AllReadyH.cons (o := { dst := some 67, op := _, type := _, pos := _, after := _, guard := _ }) rfl (fun K hK => ?_) AllReadyH.nil
    go_simp
    refine hK.out _ _ HS6.out.1 (fun hHeld => ?_)
    clear hK K
    try simp only [List.setIfInBounds_toArray, List.set_cons_zero, List.set_cons_succ]
    refine wpAnyH_ready (rs := [11]) (by kernel_rfl) (by simp) ?_
    refine AllReadyH.cons (o := { dst := some 74, op := _, type := _, pos := _, after := _, guard := _ }) rfl (fun K hK => ?_) AllReadyH.nil
    refine step_app_run rfl (.tmp 67) (.tmp 73) _ _ rfl _ _ rfl rfl hr ?_
    refine hK.out _ _ HS6.out.2.1 (fun hHeld => ?_)
    clear hK K
    try simp only [Act.put, List.setIfInBounds_toArray, List.set_cons_zero, List.set_cons_succ]
    refine wpAnyH_take (i := 12) (oi := { dst := some 75, op := _, type := _, pos := _, after := _, guard := _ }) (v := ?vx41) rfl (by kernel_rfl) (by kernel_rfl) (by kernel_rfl) (fun _ _ _ h => h) (Or.inl ⟨by rfl, ?hyx41⟩) (by assumption) ?restx41
    case hyx41 => (intro w hSw; (try dsimp only at hSw); go_simp; try with_reducible rfl)
    try simp only [Act.put, List.setIfInBounds_toArray, List.set_cons_zero, List.set_cons_succ]
    refine wpAnyH_take (i := 13) (oi := { dst := some 76, op := _, type := _, pos := _, after := _, guard := _ }) (v := ?vx42) rfl (by kernel_rfl) (by kernel_rfl) (by kernel_rfl) (fun _ _ _ h => h) (Or.inl ⟨by rfl, ?hyx42⟩) (by assumption) ?restx42
    case hyx42 => (intro w hSw; (try dsimp only at hSw); go_simp; try with_reducible rfl)
    try simp only [Act.put, List.setIfInBounds_toArray, List.set_cons_zero, List.set_cons_succ]
    refine wpAnyH_ready (rs := [14]) (by kernel_rfl) (by simp) ?_
    refine AllReadyH.cons (o := { dst := none, op := _, type := _, pos := _, after := _, guard := _ }) rfl (fun K hK => ?_) AllReadyH.nil
    go_simp
    refine hK.out _ _ HS6.out.2.2 (fun hHeld => ?_)
    clear hK K
    try simp only [List.setIfInBounds_toArray, List.set_cons_zero, List.set_cons_succ]
    refine wpAnyH_done (by kernel_rfl) ?_ _
    refine NoPanic.normal ?_
    clear hHeld
    refine HK_.out _ _ ?_
    clear HK_
    go_wp2_with fail
    go_ret
    refine ⟨d, rfl, ?_⟩
    have := XE.out
    rw [HWD.out] at this
    have e : T.cr kp = ⟨T.fs, T.ds, T.jl ++ T.tn.take R, 0, 0, false, []⟩ := by unfold TT.cr; rw [HR.out]
    rw [e]
    exact this
  · subst h2
    refine wp_seq_k fun KK hKK => ?_
    have HK_ : Hid _ := hKK
    clear hKK
    go_wp2_with fail
    refine HK_.out _ _ ?_
    clear HK_
    refine wp_seq_k fun KK hKK => ?_
    have HK_ : Hid _ := hKK
    clear hKK
    go_wp2_with fail
    refine HK_.out _ _ ?_
    clear HK_
    refine wp_seq_k fun KK hKK => ?_
    have HK_ : Hid _ := hKK
    clear hKK
    have X3d : Hid (CX w w6.drew F c d T ⟨T.fs, T.ds, T.jl, 0, 0, false, []⟩ 3) := X3.out.later (Below.refl _ _).drew
    obtain ⟨vj, cj, oj, kj, fj⟩ := X3d.out.n.open2
    obtain ⟨v', w7, hr, ho', hg', hk'⟩ := arunB (base := 0) oj (VT.out.2 _ (Below.refl _ _).drew) (by rw [VT.out.1]; show T.jl.length + R ≤ _; have := hz.nj; omega) (Nat.zero_le _) 32
    obtain ⟨a', c', hf'⟩ := ho'.len
    subst hf'
    have hcl : c < w6.drew.heap.size ∧ d < w6.drew.heap.size ∧ c ≠ d := ⟨X3d.out.o.lt c X3d.out.o.mem, X3d.out.n.mem.2, fun e => by have := X3d.out.ge; have := X3d.out.lt c X3d.out.o.mem; omega⟩
    have hvj : vj.ownBlock ≠ some d ∧ vj.ownBlock ≠ some c := by
      obtain ⟨_, _, vj', _, q1, _, _, q4, _⟩ := X3d.out.n
      have e := q1.cell.2.2.1
      rw [cj] at e
      obtain rfl := Option.some.inj e
      refine ⟨row_ne q4.j.1 q1 (by decide), fun e => ?_⟩
      have := (kj c e).1
      have := X3d.out.lt c X3d.out.o.mem
      omega
    have cj' : w7.cell? ⟨d, 2, none⟩ = some vj := (cell_stay (hg'.block d hcl.2.1 (fun e => hvj.1 e.symm)) 2).trans cj
    have fj' : w7.frozen? ⟨d, 2, none⟩ = false := frz_block (hg'.block d hcl.2.1 (fun e => hvj.1 e.symm)) fj
    have HS6 : Hid (w6.drew.cell? ⟨c, 6, none⟩ = some (.slice ta L tc) ∧ w7.cell? ⟨c, 6, none⟩ = some (.slice ta L tc) ∧ (w7.setCell ⟨d, 2, none⟩ (.slice a' (T.jl ++ T.tn.take R).length c')).cell? ⟨c, 6, none⟩ = some (.slice ta L tc)) := by
      have e0 : w6.drew.cell? ⟨c, 6, none⟩ = some (.slice ta L tc) := C6.out
      have e1 := (cell_stay (hg'.block c hcl.1 (fun e => hvj.2 e.symm)) 6).trans e0
      exact ⟨e0, e1, (cell_stay (set_other _ _ _ _ hcl.2.2) 6).trans e1⟩
    have XE : Hid (RT (w7.setCell ⟨d, 2, none⟩ (.slice a' (T.jl ++ T.tn.take R).length c')) (fun k => w.heap.size ≤ k ∧ k < (w7.setCell ⟨d, 2, none⟩ (.slice a' (T.jl ++ T.tn.take R).length c')).heap.size) d ⟨T.fs, T.ds, T.jl ++ T.tn.take R, 0, 0, false, []⟩ ∧ Below w.heap.size w (w7.setCell ⟨d, 2, none⟩ (.slice a' (T.jl ++ T.tn.take R).length c'))) := crash_end X3d.out cj hg' ho' hk'
    clear oj kj hg' hk' ho' hcl hvj X3 X3d
    generalize (T.jl ++ T.tn.take R).length = nn at *
    refine wp_region_noPanic ?_
    refine wp_region_held_drew (S := fun W' => W'.cell? ⟨c, 6, none⟩ = some (.slice ta L tc)) (by kernel_rfl) HS6.out.1 (fun hHeld => ?_)
    refine wpAnyH_take (i := 0) (oi := { dst := some 63, op := _, type := _, pos := _, after := _, guard := _ }) (v := ?vx43) rfl (by kernel_rfl) (by kernel_rfl) (by kernel_rfl) (fun _ _ _ h => h) (Or.inl ⟨by rfl, ?hyx43⟩) (by assumption) ?restx43
    case hyx43 => (intro w hSw; (try dsimp only at hSw); go_simp; try with_reducible rfl)
    try simp only [Act.put, List.setIfInBounds_toArray, List.set_cons_zero, List.set_cons_succ]
    refine wpAnyH_take (i := 1) (oi := { dst := some 64, op := _, type := _, pos := _, after := _, guard := _ }) (v := ?vx44) rfl (by kernel_rfl) (by kernel_rfl) (by kernel_rfl) (fun _ _ _ h => h) (Or.inl ⟨by rfl, ?hyx44⟩) (by assumption) ?restx44
    case hyx44 => (intro w hSw; (try dsimp only at hSw); go_simp; try with_reducible rfl)
    try simp only [Act.put, List.setIfInBounds_toArray, List.set_cons_zero, List.set_cons_succ]
    refine wpAnyH_take (i := 2) (oi := { dst := some 65, op := _, type := _, pos := _, after := _, guard := _ }) (v := ?vx45) rfl (by kernel_rfl) (by kernel_rfl) (by kernel_rfl) (fun _ _ _ h => h) (Or.inl ⟨by rfl, ?hyx45⟩) (by assumption) ?restx45
    case hyx45 => (intro w hSw; (try dsimp only at hSw); go_simp; try with_reducible rfl)
    try simp only [Act.put, List.setIfInBounds_toArray, List.set_cons_zero, List.set_cons_succ]
    refine wpAnyH_take (i := 3) (oi := { dst := some 66, op := _, type := _, pos := _, after := _, guard := _ }) (v := ?vx46) rfl (by kernel_rfl) (by kernel_rfl) (by kernel_rfl) (fun _ _ _ h => h) (Or.inl ⟨by rfl, ?hyx46⟩) (by assumption) ?restx46
    case hyx46 => (intro w hSw; (try dsimp only at hSw); go_simp; try with_reducible rfl)
    try simp only [Act.put, List.setIfInBounds_toArray, List.set_cons_zero, List.set_cons_succ]
    refine wpAnyH_take (i := 5) (oi := { dst := some 68, op := _, type := _, pos := _, after := _, guard := _ }) (v := ?vx47) rfl (by kernel_rfl) (by kernel_rfl) (by kernel_rfl) (fun _ _ _ h => h) (Or.inl ⟨by rfl, ?hyx47⟩) (by assumption) ?restx47
    case hyx47 => (intro w hSw; (try dsimp only at hSw); go_simp; try with_reducible rfl)
    try simp only [Act.put, List.setIfInBounds_toArray, List.set_cons_zero, List.set_cons_succ]
    refine wpAnyH_take (i := 6) (oi := { dst := some 69, op := _, type := _, pos := _, after := _, guard := _ }) (v := ?vx48) rfl (by kernel_rfl) (by kernel_rfl) (by kernel_rfl) (fun _ _ _ h => h) (Or.inl ⟨by rfl, ?hyx48⟩) (by assumption) ?restx48
    case hyx48 => (intro w hSw; (try dsimp only at hSw); go_simp; try with_reducible rfl)
    try simp only [Act.put, List.setIfInBounds_toArray, List.set_cons_zero, List.set_cons_succ]
    refine wpAnyH_take (i := 7) (oi := { dst := some 70, op := _, type := _, pos := _, after := _, guard := _ }) (v := ?vx49) rfl (by kernel_rfl) (by kernel_rfl) (by kernel_rfl) (fun _ _ _ h => h) (Or.inl ⟨by rfl, ?hyx49⟩) (by assumption) ?restx49
    case hyx49 => (intro w hSw; (try dsimp only at hSw); go_simp; try with_reducible rfl)
    try simp only [Act.put, List.setIfInBounds_toArray, List.set_cons_zero, List.set_cons_succ]
    refine wpAnyH_take (i := 8) (oi := { dst := some 71, op := _, type := _, pos := _, after := _, guard := _ }) (v := ?vx50) rfl (by kernel_rfl) (by kernel_rfl) (by kernel_rfl) (fun _ _ _ h => h) (Or.inl ⟨by rfl, ?hyx50⟩) (by assumption) ?restx50
    case hyx50 => (intro w hSw; (try dsimp only at hSw); go_simp; try with_reducible rfl)
    try simp only [Act.put, List.setIfInBounds_toArray, List.set_cons_zero, List.set_cons_succ]
    refine wpAnyH_take (i := 9) (oi := { dst := some 72, op := _, type := _, pos := _, after := _, guard := _ }) (v := ?vx51) rfl (by kernel_rfl) (by kernel_rfl) (by kernel_rfl) (fun _ _ _ h => h) (Or.inl ⟨by rfl, ?hyx51⟩) (by assumption) ?restx51
    case hyx51 => (intro w hSw; (try dsimp only at hSw); go_simp; try with_reducible rfl)
    try simp only [Act.put, List.setIfInBounds_toArray, List.set_cons_zero, List.set_cons_succ]
    refine wpAnyH_take (i := 10) (oi := { dst := some 73, op := _, type := _, pos := _, after := _, guard := _ }) (v := ?vx52) rfl (by kernel_rfl) (by kernel_rfl) (by kernel_rfl) (fun _ _ _ h => h) (Or.inl ⟨by rfl, ?hyx52⟩) (by assumption) ?restx52
    case hyx52 => (intro w hSw; (try dsimp only at hSw); go_simp; try with_reducible rfl)
    try simp only [Act.put, List.setIfInBounds_toArray, List.set_cons_zero, List.set_cons_succ]
    refine wpAnyH_ready (rs := [4]) (by kernel_rfl) (by simp) ?_
    refine AllReadyH.cons (o := { dst := some 67, op := _, type := _, pos := _, after := _, guard := _ }) rfl (fun K hK => ?_) AllReadyH.nil
    go_simp
    refine hK.out _ _ HS6.out.1 (fun hHeld => ?_)
    clear hK K
    try simp only [List.setIfInBounds_toArray, List.set_cons_zero, List.set_cons_succ]
    refine wpAnyH_ready (rs := [11]) (by kernel_rfl) (by simp) ?_
    refine AllReadyH.cons (o := { dst := some 74, op := _, type := _, pos := _, after := _, guard := _ }) rfl (fun K hK => ?_) AllReadyH.nil
    refine step_app_run rfl (.tmp 67) (.tmp 73) _ _ rfl _ _ rfl rfl hr ?_
    refine hK.out _ _ HS6.out.2.1 (fun hHeld => ?_)
    clear hK K
    try simp only [Act.put, List.setIfInBounds_toArray, List.set_cons_zero, List.set_cons_succ]
    refine wpAnyH_take (i := 12) (oi := { dst := some 75, op := _, type := _, pos := _, after := _, guard := _ }) (v := ?vx53) rfl (by kernel_rfl) (by kernel_rfl) (by kernel_rfl) (fun _ _ _ h => h) (Or.inl ⟨by rfl, ?hyx53⟩) (by assumption) ?restx53
    case hyx53 => (intro w hSw; (try dsimp only at hSw); go_simp; try with_reducible rfl)
    try simp only [Act.put, List.setIfInBounds_toArray, List.set_cons_zero, List.set_cons_succ]
    refine wpAnyH_take (i := 13) (oi := { dst := some 76, op := _, type := _, pos := _, after := _, guard := _ }) (v := ?vx54) rfl (by kernel_rfl) (by kernel_rfl) (by kernel_rfl) (fun _ _ _ h => h) (Or.inl ⟨by rfl, ?hyx54⟩) (by assumption) ?restx54
    case hyx54 => (intro w hSw; (try dsimp only at hSw); go_simp; try with_reducible rfl)
    try simp only [Act.put, List.setIfInBounds_toArray, List.set_cons_zero, List.set_cons_succ]
    refine wpAnyH_ready (rs := [14]) (by kernel_rfl) (by simp) ?_
    refine AllReadyH.cons (o := { dst := none, op := _, type := _, pos := _, after := _, guard := _ }) rfl (fun K hK => ?_) AllReadyH.nil
    go_simp
    refine hK.out _ _ HS6.out.2.2 (fun hHeld => ?_)
    clear hK K
    try simp only [List.setIfInBounds_toArray, List.set_cons_zero, List.set_cons_succ]
    refine wpAnyH_done (by kernel_rfl) ?_ _
    refine NoPanic.normal ?_
    clear hHeld
    refine HK_.out _ _ ?_
    clear HK_
    go_wp2_with fail
    go_ret
    refine ⟨d, rfl, ?_⟩
    have := XE.out
    rw [HWD.out] at this
    have e : T.cr kp = ⟨T.fs, T.ds, T.jl ++ T.tn.take R, 0, 0, false, []⟩ := by unfold TT.cr; rw [HR.out]
    rw [e]
    exact this
end Go.Proofs.YtlkkmcibjhoneaaGreatDoor
