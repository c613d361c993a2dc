/-
  The row of entries: one more, one made the youngest.
-/
import Derived.Test.YtddaoloabfkheaaGreatDoorJZe
namespace Go.Proofs.YtddaoloabfkheaaGreatDoor
open Go.RowKit

theorem src_E (w : World) (x : En) : Src Tryz.prog 4 29 (.slice (some ⟨w.heap.size, 0, none⟩) 1 1) [x].length (ec [x]) (w.alloc (.cells #[.string (bs x.p), .string (bs x.t), .slice x.a x.n x.c, .int .i64 x.z] 74)) := by
  refine Src.ofSlice _ undE ⟨w.heap.size, 0, none⟩ 1 1 (ec [x]) (by simp [ec_length]) ?_ (ec_one _)
  exact World.news_of_block (heap_alloc_new w _)
theorem src_Ed (w : World) (x : En) : Src Tryz.prog 4 29 (.slice (some ⟨w.heap.size, 0, none⟩) 1 1) [x].length (ec [x]) (w.alloc (.cells #[.string (bs x.p), .string (bs x.t), .slice x.a x.n x.c, .int .i64 x.z] 74)).drew := by
  refine Src.ofSlice _ undE ⟨w.heap.size, 0, none⟩ 1 1 (ec [x]) (by simp [ec_length]) ?_ (ec_one _)
  exact World.news_of_block (heap_alloc_new w _)
theorem step_app_E {ops : Array Oper} {o : Oper} {a : Act} {w : World} {K : Act → World → Prop} {Q : Exit → Act → World → Prop} {E : Prop} (hgd : o.guard = none) (s y : Operand)
    (ho : o.op = .call { callee := .builtin .append, args := #[s, y], argTypes := #[29, 29] }) (base : Nat) (l k : List En) (v x : Value) (hv : a.eval s = v) (hx : a.eval y = x)
    (hown : OwnE base w v l) (hs : Src Tryz.prog 4 29 x k.length (ec k) w) (hb : l.length + k.length ≤ 100000000) (hbase : base ≤ w.heap.size)
    (h : ∀ v' w', OwnE base w' v' (l ++ k) → w.grownBy w' v.ownBlock → (v'.ownBlock = v.ownBlock ∨ v'.ownBlock = some w.heap.size) → K (a.put o.dst v') w') :
    if Region.wanted o (yielded ops a.tmps) = true then Oper.wp Tryz.prog o a w K Q else E := by
  have hw : Region.wanted o (yielded ops a.tmps) = true := by simp [Region.wanted, hgd]
  rw [if_pos hw]
  obtain ⟨i0, hi, hz0, hz1, hz2⟩ := info_parts infoE
  obtain ⟨v', w', hr, h2, h3, h4⟩ := run_append_src (P := Tryz.prog) w base 29 29 o.type 74 i0 _ 4 64 undE hi hz0 hz1 hz2 rfl v l.length (ec l) hown x k.length (ec k) hs (by simp only [maxLen]; omega) (by omega) hbase
  unfold Oper.wp execOp
  simp only [ho, resolve, invoke, builtin, Sem.run_bind, Sem.run_pure, Result.andThen_ok, List.map_toArray, List.map_cons, List.map_nil, hv, hx, hr]
  exact h v' w' (by unfold OwnE; rw [ec_append, List.length_append]; exact h2) h3 h4
/-- a cache's blocks, while its row is being changed -/
structure PB (w : World) (T : Nat → Prop) (g : Nat) (v0 v : Value) (l : List En) : Prop where
  blk : w.heap[g]? = some (.cells #[v0] 33 (0, 0))
  row : OwnE 0 w v l
  tf : ∀ x ∈ l, TF w T x
  vg : v.ownBlock ≠ some g
  tg : ∀ k, T k → k ≠ g ∧ v.ownBlock ≠ some k
  tl : ∀ k, T k → k < w.heap.size
section
variable {w w' : World} {T : Nat → Prop} {g : Nat} {v v0 : Value} {l : List En}
theorem CB.pb (h : CB w T g v l) : PB w T g v v l := ⟨h.blk, h.row, h.tf, h.vg, h.tg, h.tl⟩
theorem PB.lt (h : PB w T g v0 v l) : g < w.heap.size := (Array.getElem?_eq_some_iff.1 h.blk).1
theorem PB.later (h : PB w T g v0 v l) (hb : Below w.heap.size w w') : PB w' T g v0 v l :=
  ⟨(hb.block g h.lt).trans h.blk, h.row.later hb, fun x hx => (h.tf x hx).stay hb.size (fun k hk => hb.block k (h.tl k hk)), h.vg, h.tg, fun k hk => Nat.lt_of_lt_of_le (h.tl k hk) hb.size⟩
theorem PB.cell (h : PB w T g v0 v l) : w.cell? ⟨g, 0, none⟩ = some v0 ∧ w.frozen? ⟨g, 0, none⟩ = false := by
  have hb := h.blk
  exact ⟨by simp [World.cell?, hb], by simp [World.frozen?, hb]⟩
/-- the row is another one, of the same block, with entries that were there -/
theorem PB.other {v1 : Value} {l1 : List En} (h : PB w T g v0 v l) (hr : OwnE 0 w' v1 l1) (hv : v1.ownBlock = v.ownBlock) (ho : Only v.ownBlock.toList w w') (hl : ∀ x ∈ l1, x ∈ l) : PB w' T g v0 v1 l1 := by
  have hn : ∀ k, v.ownBlock ≠ some k → k ∉ v.ownBlock.toList := by
    intro k hk hm
    cases e : v.ownBlock with
    | none => rw [e] at hm; simp at hm
    | some j => rw [e] at hm hk; simp at hm; exact hk (by rw [hm])
  refine ⟨(ho.block g h.lt (hn g h.vg)).trans h.blk, hr, fun x hx => (h.tf x (hl x hx)).stay ho.size (fun k hk => ho.block k (h.tl k hk) (hn k (h.tg k hk).2)), by rw [hv]; exact h.vg, fun k hk => ⟨(h.tg k hk).1, by rw [hv]; exact (h.tg k hk).2⟩, fun k hk => Nat.lt_of_lt_of_le (h.tl k hk) ho.size⟩
/-- the new head is laid -/
theorem PB.head (h : PB w T g v0 v l) : CB (w.setCell ⟨g, 0, none⟩ v) T g v l := by
  have hb : (w.setCell ⟨g, 0, none⟩ v).heap[g]? = some (.cells #[v] 33 (0, 0)) := by rw [heap_setCell _ _ _ _ h.blk]; simp
  have hz : w.heap.size ≤ (w.setCell ⟨g, 0, none⟩ v).heap.size := (Only.set w g 0 v).size
  refine ⟨hb, h.row.stay (fun k hk => hset_ne w (fun e => h.vg (by rw [← e]; exact hk)) _ _), fun x hx => (h.tf x hx).stay hz (fun k hk => hset_ne w (h.tg k hk).1 _ _), h.vg, h.tg, fun k hk => Nat.lt_of_lt_of_le (h.tl k hk) hz⟩
/-- what an append of one entry makes of it -/
theorem PB.more {v' : Value} {x : En} (h : PB w T g v0 v l) (hx : TF w T x) (ho : OwnE 0 w' v' (l ++ [x])) (hg : w.grownBy w' v.ownBlock) (hv : v'.ownBlock = v.ownBlock ∨ v'.ownBlock = some w.heap.size) :
    ∃ a n c, v' = .slice a n c ∧ w'.cell? ⟨g, 0, none⟩ = some v0 ∧ w'.frozen? ⟨g, 0, none⟩ = false ∧ Hid (CB (w'.setCell ⟨g, 0, none⟩ (.slice a n c)) T g (.slice a n c) (l ++ [x]) ∧ (v'.ownBlock = v.ownBlock ∨ v'.ownBlock = some w.heap.size) ∧ OnlyP (fun k => k = g ∨ v.ownBlock = some k) w (w'.setCell ⟨g, 0, none⟩ (.slice a n c))) := by
  obtain ⟨a, c, e⟩ := ho.form
  have hz : w.heap.size ≤ w'.heap.size := hg.size
  have hk : ∀ k, k < w.heap.size → v.ownBlock ≠ some k → w'.heap[k]? = w.heap[k]? := fun k h1 h2 => hg.block k h1 (fun e => h2 e.symm)
  have hp : PB w' T g v0 v' (l ++ [x]) := by
    refine ⟨(hk g h.lt h.vg).trans h.blk, ho, fun y hy => ?_, ?_, fun k ht => ⟨(h.tg k ht).1, ?_⟩, fun k ht => Nat.lt_of_lt_of_le (h.tl k ht) hz⟩
    · have hf : TF w T y := by
        rcases List.mem_append.1 hy with hy | hy
        · exact h.tf y hy
        · have : y = x := by simpa using hy
          subst this; exact hx
      exact hf.stay hz (fun k ht => hk k (h.tl k ht) (h.tg k ht).2)
    · rcases hv with hv | hv
      · rw [hv]; exact h.vg
      · rw [hv]; intro e; injection e with e; have := h.lt; omega
    · rcases hv with hv | hv
      · rw [hv]; exact (h.tg k ht).2
      · rw [hv]; intro e; injection e with e; have := h.tl k ht; omega
  obtain ⟨c0, f0⟩ := hp.cell
  subst e
  refine ⟨a, _, c, rfl, c0, f0, hp.head, hv, ?_⟩
  refine ⟨hg.os, hg.tape, hg.output, Nat.le_trans hz (Only.set _ _ _ _).size, fun k h1 h2 => ?_⟩
  have n1 : k ≠ g := fun e => h2 (.inl e)
  rw [hset_ne _ n1]
  exact hk k h1 (fun e => h2 (.inr e))
end
/-- what a change of the row leaves -/
def AdP (T : Nat → Prop) (g : Nat) (v : Value) (l : List En) (w : World) (e : Ending) (w' : World) : Prop :=
  e = .returned (.tuple #[]) ∧ ∃ v', CB w' T g v' l ∧ (v'.ownBlock = v.ownBlock ∨ ∃ k, v'.ownBlock = some k ∧ w.heap.size ≤ k) ∧ OnlyP (fun k => k = g ∨ v.ownBlock = some k) w w'
set_option maxRecDepth 100000 in
set_option maxHeartbeats 4000000 in
theorem addE_room {w : World} {T : Nat → Prop} {g : Nat} {v : Value} {l : List En} (h : CB w T g v l) {x : En} (hx : TF w T x) (hl : l.length < 512) : Calls Tryz.prog 26 #[.pointer (some ⟨g, 0, none⟩), x.val] w (AdP T g v (l ++ [x]) w) := by
  obtain ⟨p, t, xa, xn, xc, z⟩ := x
  simp only [En.val]
  obtain ⟨av, cv, hvv⟩ := h.row.form
  obtain ⟨n, hn⟩ : ∃ n, l.length = n := ⟨_, rfl⟩
  rw [hn] at hvv hl
  subst hvv
  obtain ⟨w0, hw0⟩ : ∃ w0, w.alloc (.cells #[.string (bs p), .string (bs t), .slice xa xn xc, .int .i64 z] 74) = w0 := ⟨_, rfl⟩
  have hb0 : Below w.heap.size w w0 := by rw [← hw0]; exact balloc _ _
  have x0 : w0.cell? ⟨w.heap.size, 0, none⟩ = some (.string (bs p)) := by rw [← hw0]; simp
  have x1 : w0.cell? ⟨w.heap.size, 1, none⟩ = some (.string (bs t)) := by rw [← hw0]; simp
  have x2 : w0.cell? ⟨w.heap.size, 2, none⟩ = some (.slice xa xn xc) := by rw [← hw0]; simp
  have x3 : w0.cell? ⟨w.heap.size, 3, none⟩ = some (.int .i64 z) := by rw [← hw0]; simp
  obtain ⟨c0, f0⟩ := (h.later hb0).cell
  have c1 : (w.alloc (.cells #[.string (bs p), .string (bs t), .slice xa xn xc, .int .i64 z] 74)).cell? ⟨g, 0, none⟩ = some (.slice av n cv) := by rw [hw0]; exact c0
  have HP : Hid (∀ W, Below w0.heap.size w0 W → PB W T g (.slice av n cv) (.slice av n cv) l ∧ TF W T ⟨p, t, xa, xn, xc, z⟩) := fun W hW => ⟨(h.later (bstep hb0 hW)).pb, hx.stay (bstep hb0 hW).size (fun k hk => (bstep hb0 hW).block k (h.tl k hk))⟩
  have r4 : ∀ ob, (w0.alloc ob).cell? ⟨g, 0, none⟩ = some (.slice av n cv) := fun ob => ((HP.out _ (balloc _ ob)).1.cell).1
  have HW : Hid (w.alloc (.cells #[.string (bs p), .string (bs t), .slice xa xn xc, .int .i64 z] 74) = w0) := hw0
  have HB : Hid (Below w.heap.size w w0) := hb0
  have HL : Hid (l.length + 1 ≤ 100000000) := by show _ ≤ _; omega
  have k1 : ((n : Int) == 512) = false := by simp; omega
  have k2 : ¬ ((n : Int) = 512) := by omega
  clear h hx hn hw0 hb0
  go_enter Tryz.func26, Tryz.ntmps26
  go_wp2_with fail
  rw [HW.out]
  clear c1
  go_region_law (first | (refine step_app_E rfl (.tmp 22) (.tmp 24) rfl 0 l [⟨p, t, xa, xn, xc, z⟩] (.slice av n cv) _ rfl rfl ((HP.out _ (bstep (balloc _ _) (Below.refl _ _).drew)).1.row) (src_Ed _ ⟨p, t, xa, xn, xc, z⟩) HL.out (Nat.zero_le _) ?_; intro v10 w10 ho10 hg10 hv10; obtain ⟨a10, n10, c10, rfl, z0, z1, HM10⟩ := (HP.out _ (bstep (balloc _ _) (Below.refl _ _).drew)).1.more (HP.out _ (bstep (balloc _ _) (Below.refl _ _).drew)).2 ho10 hg10 hv10; clear ho10 hg10 hv10))
  all_goals
    go_wp2_with fail
    go_end0
    refine ⟨rfl, _, HM10.out.1, ?_, ?_⟩
    · rcases HM10.out.2.1 with h | h
      · exact .inl h
      · exact .inr ⟨_, h, Nat.le_trans HB.out.size (bstep (balloc _ _) (Below.refl _ _).drew).size⟩
    · exact (OnlyP.of_below (bstep HB.out (bstep (balloc _ _) (Below.refl _ _).drew)) _).trans HM10.out.2.2 (fun k _ h => h)
theorem edel_at {w : World} {l : List En} {a : Option Addr} {n c : Nat} (h : OwnE 0 w (.slice a n c) l) (i : Nat) (hi : i < l.length) (hl : l.length ≤ 4000000) (y z : Int) (hy : y = (i : Int)) (hz : z = (i : Int) + 1) :
    Calls Tryz.prog 60 #[.slice a n c, .int .i64 y, .int .i64 z] w fun e w' => ∃ m c', e = .returned (.slice a m c') ∧ OwnE 0 w' (.slice a m c') (l.take i ++ l.drop (i + 1)) ∧ Only (Value.slice a n c).ownBlock.toList w w' := by
  subst hy hz
  obtain ⟨g, cap, rest, e, hr⟩ := RW.ofE h (fun e0 => by subst e0; simp at hi)
  injection e with e1 e2 e3
  subst e1 e2 e3
  refine (edel_any hr i (l.length - (i + 1)) (by omega) hl).mono ?_
  rintro e w' ⟨rfl, ⟨rest', hr'⟩, ho⟩
  have := hr'.ownE
  rw [show (l.take i ++ l.drop (i + 1)).length = i + (l.length - (i + 1)) by simp; omega] at this
  exact ⟨_, _, rfl, this, ho⟩
set_option maxRecDepth 100000 in
set_option maxHeartbeats 4000000 in
theorem addE_full {w : World} {T : Nat → Prop} {g : Nat} {v : Value} {l : List En} (h : CB w T g v l) {x : En} (hx : TF w T x) (hl : l.length = 512) : Calls Tryz.prog 26 #[.pointer (some ⟨g, 0, none⟩), x.val] w (AdP T g v (l.drop 1 ++ [x]) w) := by
  obtain ⟨p, t, xa, xn, xc, z⟩ := x
  simp only [En.val]
  obtain ⟨av, cv, hvv⟩ := h.row.form
  obtain ⟨n, hn⟩ : ∃ n, l.length = n := ⟨_, rfl⟩
  rw [hn] at hvv hl
  subst hvv
  obtain ⟨w0, hw0⟩ : ∃ w0, w.alloc (.cells #[.string (bs p), .string (bs t), .slice xa xn xc, .int .i64 z] 74) = w0 := ⟨_, rfl⟩
  have hb0 : Below w.heap.size w w0 := by rw [← hw0]; exact balloc _ _
  have hs0 : w.heap.size < w0.heap.size := by rw [← hw0]; simp
  have x0 : w0.cell? ⟨w.heap.size, 0, none⟩ = some (.string (bs p)) := by rw [← hw0]; simp
  have x1 : w0.cell? ⟨w.heap.size, 1, none⟩ = some (.string (bs t)) := by rw [← hw0]; simp
  have x2 : w0.cell? ⟨w.heap.size, 2, none⟩ = some (.slice xa xn xc) := by rw [← hw0]; simp
  have x3 : w0.cell? ⟨w.heap.size, 3, none⟩ = some (.int .i64 z) := by rw [← hw0]; simp
  have c1 : (w.alloc (.cells #[.string (bs p), .string (bs t), .slice xa xn xc, .int .i64 z] 74)).cell? ⟨g, 0, none⟩ = some (.slice av n cv) := by rw [hw0]; exact (h.later hb0).cell.1
  have HPB : Hid (PB w0 T g (.slice av n cv) (.slice av n cv) l ∧ TF w0 T ⟨p, t, xa, xn, xc, z⟩ ∧ w.heap.size < w0.heap.size) := ⟨(h.later hb0).pb, hx.stay hb0.size (fun k hk => hb0.block k (h.tl k hk)), hs0⟩
  have HBL : Hid (∀ k, k = g ∨ (Value.slice av n cv).ownBlock = some k → k < w.heap.size) := fun k hk => by
    rcases hk with rfl | hk
    · exact h.lt
    · exact (h.row.lt hk).2
  have HD : Hid (Calls Tryz.prog 60 #[.slice av n cv, .int .i64 0, .int .i64 1] w0 fun e w' => ∃ m c', e = .returned (.slice av m c') ∧ OwnE 0 w' (.slice av m c') (l.take 0 ++ l.drop (0 + 1)) ∧ Only (Value.slice av n cv).ownBlock.toList w0 w') := edel_at (h.later hb0).row 0 (by omega) (by omega) _ _ (by simp) (by simp)
  have HW : Hid (w.alloc (.cells #[.string (bs p), .string (bs t), .slice xa xn xc, .int .i64 z] 74) = w0) := hw0
  have HB : Hid (Below w.heap.size w w0) := hb0
  have HL : Hid ((l.drop 1).length + 1 ≤ 100000000) := by show _ ≤ _; simp; omega
  clear h hx hn hw0 hb0 hs0
  subst hl
  go_enter Tryz.func26, Tryz.ntmps26
  go_wp2_with fail
  rw [HW.out]
  refine HD.out.mono ?_
  rintro e w1 ⟨m1, c1', rfl, ho1, hy1⟩
  have HP1 : Hid (PB w1 T g (.slice av 512 cv) (.slice av m1 c1') (l.drop 1) ∧ TF w1 T ⟨p, t, xa, xn, xc, z⟩ ∧ OnlyP (fun k => k = g ∨ (Value.slice av 512 cv).ownBlock = some k) w0 w1) := by
    have hpb := HPB.out.1.other ho1 (by cases av <;> rfl) hy1 (fun y hy => by rw [List.take_zero, List.nil_append] at hy; exact List.mem_of_mem_drop hy)
    have hop : OnlyP (fun k => k = g ∨ (Value.slice av 512 cv).ownBlock = some k) w0 w1 := OnlyP.of_only hy1 (fun k hk _ => .inr (by
      cases e : (Value.slice av 512 cv).ownBlock with
      | none => rw [e] at hk; simp at hk
      | some j => rw [e] at hk; simp at hk; rw [hk]))
    rw [List.take_zero, List.nil_append] at hpb
    refine ⟨hpb, HPB.out.2.1.stay hy1.size (fun k hk => hop.block k (HPB.out.1.tl k hk) ?_), hop⟩
    rintro (rfl | e)
    · exact (HPB.out.1.tg k hk).1 rfl
    · exact (HPB.out.1.tg k hk).2 e
  clear ho1 hy1 c1
  obtain ⟨c2, f2⟩ := HP1.out.1.cell
  obtain ⟨w2, hw2⟩ : ∃ w2, w1.setCell ⟨g, 0, none⟩ (.slice av m1 c1') = w2 := ⟨_, rfl⟩
  have HO2 : Hid (OnlyP (fun k => k = g ∨ (Value.slice av 512 cv).ownBlock = some k) w0 w2) := by
    refine HP1.out.2.2.trans (OnlyP.of_only (F := fun k => k = g) (S := [g]) ?_ (fun k hk _ => by simpa using hk)) (fun i _ e => .inl e)
    rw [← hw2]; exact Only.set _ _ _ _
  have HE2 : Hid (∀ o, w2.cell? ⟨w.heap.size, o, none⟩ = w0.cell? ⟨w.heap.size, o, none⟩) := fun o => by
    have := HO2.out.block w.heap.size HPB.out.2.2 (fun e => by have := HBL.out _ e; omega)
    simp only [World.cell?, this]
  have HP2 : Hid (∀ W, Below w2.heap.size w2 W → PB W T g (.slice av m1 c1') (.slice av m1 c1') (l.drop 1) ∧ TF W T ⟨p, t, xa, xn, xc, z⟩) := by
    intro W hW
    have hcb := HP1.out.1.head
    rw [hw2] at hcb
    refine ⟨(hcb.later hW).pb, ?_⟩
    have h2 : TF w2 T ⟨p, t, xa, xn, xc, z⟩ := HPB.out.2.1.stay HO2.out.size (fun k hk => HO2.out.block k (HPB.out.1.tl k hk) (by
      rintro (rfl | e)
      · exact (HPB.out.1.tg k hk).1 rfl
      · exact (HPB.out.1.tg k hk).2 e))
    exact h2.stay hW.size (fun k hk => hW.block k (hcb.tl k hk))
  have y0 := (HE2.out 0).trans x0
  have y1 := (HE2.out 1).trans x1
  have y2 := (HE2.out 2).trans x2
  have y3 := (HE2.out 3).trans x3
  have g2 := (HP2.out w2 (Below.refl _ _)).1.cell.1
  have r4 : ∀ ob, (w2.alloc ob).cell? ⟨g, 0, none⟩ = some (.slice av m1 c1') := fun ob => ((HP2.out _ (balloc _ ob)).1.cell).1
  have HW2 : Hid (w1.setCell ⟨g, 0, none⟩ (.slice av m1 c1') = w2) := hw2
  clear x0 x1 x2 x3 hw2
  go_wp2_with fail
  rw [HW2.out]
  clear c2 f2
  go_region_law (first | (refine step_app_E rfl (.tmp 22) (.tmp 24) rfl 0 (l.drop 1) [⟨p, t, xa, xn, xc, z⟩] (.slice av m1 c1') _ rfl rfl ((HP2.out _ (bstep (balloc _ _) (Below.refl _ _).drew)).1.row) (src_Ed _ ⟨p, t, xa, xn, xc, z⟩) HL.out (Nat.zero_le _) ?_; intro v10 w10 ho10 hg10 hv10; obtain ⟨a10, n10, c10, rfl, z0, z1, HM10⟩ := (HP2.out _ (bstep (balloc _ _) (Below.refl _ _).drew)).1.more (HP2.out _ (bstep (balloc _ _) (Below.refl _ _).drew)).2 ho10 hg10 hv10; clear ho10 hg10 hv10))
  all_goals
    go_wp2_with fail
    go_end0
    have hz : w.heap.size ≤ w2.heap.size := Nat.le_trans HB.out.size HO2.out.size
    have hvv : (Value.slice av m1 c1').ownBlock = (Value.slice av 512 cv).ownBlock := by cases av <;> rfl
    refine ⟨rfl, _, HM10.out.1, ?_, ?_⟩
    · rcases HM10.out.2.1 with h | h
      · exact .inl (h.trans hvv)
      · exact .inr ⟨_, h, Nat.le_trans hz (bstep (balloc _ _) (Below.refl _ _).drew).size⟩
    · refine ((OnlyP.of_below HB.out _).trans HO2.out (fun k _ h => h)).trans (OnlyP.trans (F := fun k => k = g ∨ (Value.slice av 512 cv).ownBlock = some k) (OnlyP.of_below (bstep (balloc _ _) (Below.refl _ _).drew) _) HM10.out.2.2 (fun k _ h => ?_)) (fun k _ h => h)
      rw [hvv] at h; exact h

set_option maxRecDepth 100000 in
set_option maxHeartbeats 4000000 in
theorem renew_any {w : World} {T : Nat → Prop} {g : Nat} {v : Value} {l : List En} (h : CB w T g v l) (i : Nat) (hi : i < l.length) (hl : l.length ≤ 512) : Calls Tryz.prog 25 #[.pointer (some ⟨g, 0, none⟩), .int .i64 (i : Int)] w (AdP T g v (l.take i ++ l.drop (i + 1) ++ [l[i]]) w) := by
  obtain ⟨av, cv, hvv⟩ := h.row.form
  obtain ⟨n, hn⟩ : ∃ n, l.length = n := ⟨_, rfl⟩
  rw [hn] at hvv hl
  subst hvv
  have hin : i < n := by omega
  have HM : Hid (l[i] ∈ l) := List.getElem_mem hi
  obtain ⟨b, ea, hbw, d0, d1, d2, d3⟩ := h.row.at (Below.refl _ _) hi
  subst ea
  generalize l[i] = x at *
  obtain ⟨p, t, xa, xn, xc, z⟩ := x
  simp only at d0 d1 d2 d3
  obtain ⟨w0, hw0⟩ : ∃ w0, w.alloc (.cells #[.string (bs p), .string (bs t), .slice xa xn xc, .int .i64 z] 74) = w0 := ⟨_, rfl⟩
  have hb0 : Below w.heap.size w w0 := by rw [← hw0]; exact balloc _ _
  have hs0 : w.heap.size < w0.heap.size := by rw [← hw0]; simp
  have x0 : w0.cell? ⟨w.heap.size, 0, none⟩ = some (.string (bs p)) := by rw [← hw0]; simp
  have x1 : w0.cell? ⟨w.heap.size, 1, none⟩ = some (.string (bs t)) := by rw [← hw0]; simp
  have x2 : w0.cell? ⟨w.heap.size, 2, none⟩ = some (.slice xa xn xc) := by rw [← hw0]; simp
  have x3 : w0.cell? ⟨w.heap.size, 3, none⟩ = some (.int .i64 z) := by rw [← hw0]; simp
  have cg := h.cell.1
  have c0 := (h.later hb0).cell.1
  have HPB : Hid (∀ W, Below w0.heap.size w0 W → PB W T g (.slice (some ⟨b, 0, none⟩) n cv) (.slice (some ⟨b, 0, none⟩) n cv) l) := fun W hW => (h.later (bstep hb0 hW)).pb
  have HE0 : Hid (∀ W0 W, Below w0.heap.size w0 W0 → Only [b] W0 W → ∀ o, W.cell? ⟨w.heap.size, o, none⟩ = w0.cell? ⟨w.heap.size, o, none⟩) := fun W0 W h0 hW o => (only_cell (p := ⟨w.heap.size, o, none⟩) hW (Nat.lt_of_lt_of_le hs0 h0.size) (by simp; omega)).trans (h0.cell (p := ⟨w.heap.size, o, none⟩) hs0)
  have HD : Hid (∀ W, Below w0.heap.size w0 W → Calls Tryz.prog 60 #[.slice (some ⟨b, 0, none⟩) n cv, .int .i64 (i : Int), .int .i64 ((i : Int) + 1)] W fun e w' => ∃ m c', e = .returned (.slice (some ⟨b, 0, none⟩) m c') ∧ OwnE 0 w' (.slice (some ⟨b, 0, none⟩) m c') (l.take i ++ l.drop (i + 1)) ∧ Only (Value.slice (some ⟨b, 0, none⟩) n cv).ownBlock.toList W w') := fun W hW => edel_at (HPB.out W hW).row i hi (by omega) _ _ rfl rfl
  have HPO : Hid (∀ W0 w1 m c', Below w0.heap.size w0 W0 → OwnE 0 w1 (.slice (some ⟨b, 0, none⟩) m c') (l.take i ++ l.drop (i + 1)) → Only [b] W0 w1 → ∀ W, Below w1.heap.size w1 W → PB W T g (.slice (some ⟨b, 0, none⟩) n cv) (.slice (some ⟨b, 0, none⟩) m c') (l.take i ++ l.drop (i + 1)) ∧ TF W T ⟨p, t, xa, xn, xc, z⟩ ∧ OnlyP (fun k => k = g ∨ (Value.slice (some ⟨b, 0, none⟩) n cv).ownBlock = some k) w W ∧ w.heap.size ≤ W.heap.size) := by
    intro W0 w1 m c' h0 ho hy W hW
    have hp := (HPB.out W0 h0).other ho rfl hy (fun y hy => by
      rcases List.mem_append.1 hy with hy | hy
      · exact List.mem_of_mem_take hy
      · exact List.mem_of_mem_drop hy)
    have hop : OnlyP (fun k => k = g ∨ (Value.slice (some ⟨b, 0, none⟩) n cv).ownBlock = some k) W0 w1 := OnlyP.of_only hy (fun k hk _ => .inr (by simp at hk; rw [hk]; rfl))
    have hf : TF w1 T ⟨p, t, xa, xn, xc, z⟩ := ((HPB.out W0 h0).tf _ HM.out).stay hy.size (fun k hk => hop.block k ((HPB.out W0 h0).tl k hk) (by
      rintro (rfl | e)
      · exact ((HPB.out W0 h0).tg k hk).1 rfl
      · exact ((HPB.out W0 h0).tg k hk).2 e))
    have hbw1 := bstep hb0 h0
    refine ⟨hp.later hW, hf.stay hW.size (fun k hk => hW.block k (hp.tl k hk)), ?_, Nat.le_trans hbw1.size (Nat.le_trans hy.size hW.size)⟩
    exact ((OnlyP.of_below hbw1 _).trans hop (fun k _ h => h)).trans (OnlyP.of_below hW (fun _ => False)) (fun k _ h => h.elim)
  have HSX : Hid (∀ W1, Only [b] (w0.alloc (.cells #[.string (bs p), .string (bs t), .slice xa xn xc, .int .i64 z] 74)).drew W1 → Src Tryz.prog 4 29 (.slice (some ⟨w0.heap.size, 0, none⟩) 1 1) [(⟨p, t, xa, xn, xc, z⟩ : En)].length (ec [⟨p, t, xa, xn, xc, z⟩]) W1) := by
    intro W1 ho
    refine Src.ofSlice _ undE ⟨w0.heap.size, 0, none⟩ 1 1 (ec [⟨p, t, xa, xn, xc, z⟩]) (by simp [ec_length]) ?_ (ec_one _)
    exact World.news_of_block ((ho.block w0.heap.size (by show _ < (w0.alloc _).heap.size; simp) (by simp; omega)).trans (heap_alloc_new w0 _))
  have r4 : ∀ ob, (w0.alloc ob).cell? ⟨g, 0, none⟩ = some (.slice (some ⟨b, 0, none⟩) n cv) := fun ob => ((HPB.out _ (balloc _ ob)).cell).1
  have HW : Hid (w.alloc (.cells #[.string (bs p), .string (bs t), .slice xa xn xc, .int .i64 z] 74) = w0) := hw0
  have HB : Hid (Below w.heap.size w w0 ∧ b < w.heap.size) := ⟨hb0, hbw⟩
  have HL : Hid ((l.take i ++ l.drop (i + 1)).length + 1 ≤ 100000000) := by show _ ≤ _; simp; omega
  have i1 : (0 : Int) ≤ (i : Int) := by omega
  have i2 : (i : Int) < (n : Int) := by omega
  have i3 : IntKind.i64.wrap ((i : Int) + 1) = (i : Int) + 1 := by rw [IntKind.wrap_i64]; omega
  clear h hn hw0 hb0 hs0 hi hbw
  go_enter Tryz.func25, Tryz.ntmps25
  go_wp2_with fail
  rw [HW.out]
  clear cg d0 d1 d2 d3
  go_region_law (first
    | (go_simp; go_at_call 60; (with_reducible refine (HD.out _ (bstep (balloc _ _) (Below.refl _ _).drew)).mono ?_); rintro e w1 ⟨m1, c1', rfl, ho1, hy1⟩; have y0 := (HE0.out _ _ (bstep (balloc _ _) (Below.refl _ _).drew) hy1 0).trans x0; have y1 := (HE0.out _ _ (bstep (balloc _ _) (Below.refl _ _).drew) hy1 1).trans x1; have y2 := (HE0.out _ _ (bstep (balloc _ _) (Below.refl _ _).drew) hy1 2).trans x2; have y3 := (HE0.out _ _ (bstep (balloc _ _) (Below.refl _ _).drew) hy1 3).trans x3; have HQ := hid_of (HPO.out _ _ _ _ (bstep (balloc _ _) (Below.refl _ _).drew) ho1 hy1); have HSB := hid_of (HSX.out _ hy1); clear ho1 hy1)
    | (go_simp; go_at_call 60; (with_reducible refine (HD.out _ (Below.refl _ _).drew).mono ?_); rintro e w1 ⟨m1, c1', rfl, ho1, hy1⟩; have y0 := (HE0.out _ _ (Below.refl _ _).drew hy1 0).trans x0; have y1 := (HE0.out _ _ (Below.refl _ _).drew hy1 1).trans x1; have y2 := (HE0.out _ _ (Below.refl _ _).drew hy1 2).trans x2; have y3 := (HE0.out _ _ (Below.refl _ _).drew hy1 3).trans x3; have HQ := hid_of (HPO.out _ _ _ _ (Below.refl _ _).drew ho1 hy1); clear ho1 hy1)
    | (refine step_app_E rfl (.tmp 20) (.tmp 22) rfl 0 (l.take i ++ l.drop (i + 1)) [⟨p, t, xa, xn, xc, z⟩] (.slice (some ⟨b, 0, none⟩) m1 c1') _ rfl rfl ((HQ.out _ (Below.refl _ _)).1.row) HSB.out HL.out (Nat.zero_le _) ?_; intro v10 w10 ho10 hg10 hv10; have HO9 := hid_of (HQ.out w1 (Below.refl _ _)).2.2; obtain ⟨a10, n10, c10, rfl, z0, z1, HM10⟩ := (HQ.out _ (Below.refl _ _)).1.more (HQ.out _ (Below.refl _ _)).2.1 ho10 hg10 hv10; clear ho10 hg10 hv10)
    | (refine step_app_E rfl (.tmp 20) (.tmp 22) rfl 0 (l.take i ++ l.drop (i + 1)) [⟨p, t, xa, xn, xc, z⟩] (.slice (some ⟨b, 0, none⟩) m1 c1') _ rfl rfl ((HQ.out _ (balloc _ _)).1.row) (src_E _ ⟨p, t, xa, xn, xc, z⟩) HL.out (Nat.zero_le _) ?_; intro v10 w10 ho10 hg10 hv10; have HO9 := hid_of (HQ.out (w1.alloc (.cells #[.string (bs p), .string (bs t), .slice xa xn xc, .int .i64 z] 74)) (balloc _ _)).2.2; obtain ⟨a10, n10, c10, rfl, z0, z1, HM10⟩ := (HQ.out _ (balloc _ _)).1.more (HQ.out _ (balloc _ _)).2.1 ho10 hg10 hv10; clear ho10 hg10 hv10))
  all_goals
    go_wp2_with fail
    go_end0
    refine ⟨rfl, _, HM10.out.1, ?_, ?_⟩
    · rcases HM10.out.2.1 with h | h
      · exact .inl h
      · exact .inr ⟨_, h, HO9.out.2⟩
    · exact HO9.out.1.trans HM10.out.2.2 (fun k _ h => h)
end Go.Proofs.YtddaoloabfkheaaGreatDoor
