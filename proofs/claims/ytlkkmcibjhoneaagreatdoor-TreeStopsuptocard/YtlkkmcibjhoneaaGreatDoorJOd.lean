/-
  The files of a map, one by one, and gathered.
  Files gathered.
-/
import Derived.Test.YtlkkmcibjhoneaaGreatDoorJOb
namespace Go.Proofs.YtlkkmcibjhoneaaGreatDoor
open Go.RowKit Go.Maps
attribute [local go_sem] Oper.semAt_some

/-- a file in a block of its own -/
structure RF (w : World) (g : Nat) (f : Fl) : Prop where
  blk : w.heap[g]? = some (.cells #[.string (bs f.path), .string (bs f.text), .int .i64 f.blob, .int .i64 f.size] 31 (0, 0))
theorem RF.lt {w : World} {g : Nat} {f : Fl} (h : RF w g f) : g < w.heap.size := (Array.getElem?_eq_some_iff.1 h.blk).1
theorem RF.new (w : World) (f : Fl) : RF (w.alloc (.cells #[.string (bs f.path), .string (bs f.text), .int .i64 f.blob, .int .i64 f.size] 31)) w.heap.size f := ⟨heap_alloc_new _ _⟩
theorem RF.cells {w : World} {g : Nat} {f : Fl} (h : RF w g f) : w.cell? ⟨g, 0, none⟩ = some (.string (bs f.path)) ∧ w.cell? ⟨g, 1, none⟩ = some (.string (bs f.text)) ∧ w.cell? ⟨g, 2, none⟩ = some (.int .i64 f.blob) ∧ w.cell? ⟨g, 3, none⟩ = some (.int .i64 f.size) := by
  have hb := h.blk
  exact ⟨by simp [World.cell?, hb], by simp [World.cell?, hb], by simp [World.cell?, hb], by simp [World.cell?, hb]⟩
/-- what is given out: the files of the keys -/
def gvF (F : List UInt8 → Option Fl) (k : List UInt8) : Fl := (F k).getD ⟨[], [], 0, 0⟩
def GvS (F : List UInt8 → Option Fl) (ss : List Fl) : Prop := ∃ ks : List (List UInt8), ks.Nodup ∧ (∀ a, a ∈ ks ↔ Lk a ∧ (F a).isSome = true) ∧ ss = ks.map (gvF F)
set_option maxRecDepth 100000 in
set_option maxHeartbeats 4000000 in
theorem values_it {w : World} {b cnt : Nat} {F : List UInt8 → Option Fl} (h : MP cF w b F cnt) (Bm : Nat) (hBm : Bm < w.heap.size) (hm : w.cell? ⟨Bm, 0, none⟩ = some (.map (some b))) (n : Nat) (hn : 1 ≤ n) :
    SeqStopsK Fence.wide n Tryz.prog 78 #[.pointer (some ⟨Bm, 0, none⟩)] (fun x : Fl => #[x.val]) KeepsWalks (GvS F) (fun _ => True) cnt w := by
  intro l J Jx W hW hJ hJx hY h0
  have hmW := (hW.cell (p := ⟨Bm, 0, none⟩) hBm).trans hm
  obtain ⟨D, hown, hsz, hks, hF⟩ := h.later hW
  clear h hm hBm
  change CallsIn Fence.wide n Tryz.prog 78 #[.func (.yield l) #[] #[], .pointer (some ⟨Bm, 0, none⟩)] W _
  refine callsIn_of_wp Tryz.func78 rfl trivial ?_ rfl
  rw [Tryz.ntmps78, show (#[Value.func (.yield l) #[] #[], .pointer (some ⟨Bm, 0, none⟩)] ++ Array.replicate (15 - (#[Value.func (.yield l) #[] #[], .pointer (some ⟨Bm, 0, none⟩)] : Array Value).size) undef) = #[.func (.yield l) #[] #[], .pointer (some ⟨Bm, 0, none⟩), undef, undef, undef, undef, undef, undef, undef, undef, undef, undef, undef, undef, undef] from rfl]
  have HF : Hid ((∀ k : List UInt8, Lk k → Maps.has D (.string k) = (F k).isSome ∧ ∀ x, F k = some x → ∀ zd, D.atKey (.string k) zd = cF.d x) ∧ Ks D ∧ Maps.size D = cnt) := ⟨hF, hks, hsz⟩
  clear hF hks hsz
  gi_wp2_with (first
    | (gi_at_range; refine wpListIn_range_own _ rfl _ 70 rfl 9 31 lawM cF.und _ b cnt _ rfl hown ?_; intro w0 hrg0 hg0 hs0)
    | gi_in)
  gi_loopw [4] (fun _ wr => ∃ (left : Lit → Bool) (c : Nat) (ks : List (List UInt8)), wr.ranges Tryz.prog 9 cF.R b W.heap.size cnt D left c ∧ ks.length + c ≤ cnt ∧ Cl D left ks ∧ J (ks.map (gvF F)) wr)
    (fun _ wr => wr.rangeLeft b W.heap.size)
  case atStart =>
    exact ⟨_, _, [], hrg0, by rw [HF.out.2.2]; simp, Cl.start D, hJ [] W w0 none h0 hg0 (fun r e => by cases e)⟩
  case round =>
    obtain ⟨left, c, ks, hrg, hcs, hC, hJs⟩ := hrel
    gi_wp2_with (first
      | (gi_at_next; refine wpListIn_next_ranges _ rfl _ rfl 9 lawM cF.R (fun x : List UInt8 => Value.string (bs x)) (fun f : Fl => Value.agg #[.string (bs f.path), .string (bs f.text), .int .i64 f.blob, .int .i64 f.size]) (fun key kl hk => by obtain ⟨x, hx, _⟩ := keyInv hk; exact ⟨x, hx⟩) (fun v y hy => cF.inv v y hy) b W.heap.size cnt _ _ _ rfl hrg ?_ ?_)
      | gi_in)
    · intro hc0 hl0
      gi_wp2
      go_end0
      refine ⟨⟨_, rfl⟩, .inl ⟨_, ⟨ks, hC.nd, fun a => ?_, rfl⟩, hJs⟩⟩
      constructor
      · intro ha
        have hh := ((hC.iff a).1 ha).1
        have hu := HF.out.2.1 a hh
        exact ⟨hu, by rw [← (HF.out.1 a hu).1]; exact hh⟩
      · rintro ⟨hu, hs⟩
        exact (hC.iff a).2 ⟨by rw [(HF.out.1 a hu).1]; exact hs, hl0 _⟩
    · intro x f kl yd yp w2 cnt2 hkey hlk hv hat hrg2 hlt hg2 hs2 hen
      obtain ⟨x', ex, rfl⟩ := keyInv hkey
      obtain rfl : x = x' := by injection ex with ex; exact bs_inj.1 ex
      have hh := Maps.has_true_of_atKey hat
      have hu := HF.out.2.1 x hh
      have hfx : gvF F x = f := by
        have h1 := (HF.out.1 x hu).1
        rw [hh] at h1
        obtain ⟨f', hf'⟩ := Option.isSome_iff_exists.1 h1.symm
        have h2 := (HF.out.1 x hu).2 f' hf' yd
        rw [hat] at h2
        have h3 : cF.R (cF.enc f) = some (yd, yp) := hv
        rw [cF.hR] at h3
        have h4 : cF.d f = yd := by injection h3 with h3; injection h3
        unfold gvF
        rw [hf']
        exact (cF.inj f f' (h4.trans h2)).symm
      have HK : Hid (left (.string x) = true ∧ Maps.has D (.string x) = true ∧ gvF F x = f) := ⟨hlk, hh, hfx⟩
      clear hkey hlk hat hv ex hh hu hfx
      have hJ2 : J (ks.map (gvF F)) w2 := hJ _ wr w2 (some W.heap.size) hJs hg2 (fun r e => by cases e; exact ⟨Nat.le_refl _, hrg.iter_walk⟩)
      have hJ3 : J (ks.map (gvF F)) (w2.alloc (.cells #[.string (bs f.path), .string (bs f.text), .int .i64 f.blob, .int .i64 f.size] 31)) := hJ _ w2 _ none hJ2 (World.grownBy_alloc _ _ _) (fun r e => by cases e)
      have hrg3 := hrg2.alloc (.cells #[.string (bs f.path), .string (bs f.text), .int .i64 f.blob, .int .i64 f.size] 31)
      obtain ⟨fn, tmps, assign, body, hy, hR⟩ := hY _ f _ hJ3 (by rw [List.length_map]; omega)
      have hy2 : (Instr.yield l #[.agg #[.string (bs f.path), .string (bs f.text), .int .i64 f.blob, .int .i64 f.size]]).run Tryz.prog (w2.alloc (.cells #[.string (bs f.path), .string (bs f.text), .int .i64 f.blob, .int .i64 f.size] 31)) = .ok (.round l fn tmps assign body) (w2.alloc (.cells #[.string (bs f.path), .string (bs f.text), .int .i64 f.blob, .int .i64 f.size] 31)) := hy
      clear hy
      have HH : Hid ((w2.alloc (.cells #[.string (bs f.path), .string (bs f.text), .int .i64 f.blob, .int .i64 f.size] 31)).ranges Tryz.prog 9 cF.R b W.heap.size cnt D (fun z => left z && !z.sameKey (.string x)) cnt2 ∧ cnt2 < c ∧ wr.rangeLeft b W.heap.size = c ∧ Cl D left ks ∧ ks.length + c ≤ cnt) := ⟨hrg3, hlt, hrg.left_eq, hC, hcs⟩
      have HE : Hid (ks.map (gvF F) ++ [f] = (ks ++ [x]).map (gvF F)) := by
        show _ = _
        rw [List.map_append, List.map_cons, List.map_nil, HK.out.2.2]
      clear hs2 hrg2 hrg3 hg2 hrg hC hJ2 hJs hJ3 hlt hcs
      gi_wp2
      refine hR.mono ?_
      rintro e W3 (⟨rfl, hJ4, hk4⟩ | ⟨rfl, hJ4⟩)
      · have HR3 : Hid (W3.ranges Tryz.prog 9 cF.R b W.heap.size cnt D (fun z => left z && !z.sameKey (.string x)) cnt2) := HH.out.1.of_walks hk4
        clear hk4
        rw [HE.out] at hJ4
        gi_wp2
        go_roundw
        case rel => exact ⟨_, cnt2, ks ++ [x], HR3.out, by have := HH.out.2.1; have := HH.out.2.2.2.2; simp; omega, HH.out.2.2.2.1.step HK.out.1 HK.out.2.1, hJ4⟩
        case measure => rw [HR3.out.left_eq, HH.out.2.2.1]; exact HH.out.2.1
      · gi_wp2
        refine bodyPost_ret (results_none rfl _ _ _) rfl ?_
        exact ⟨⟨_, rfl⟩, .inr ⟨_, hJ4⟩⟩
set_option maxHeartbeats 1000000 in
theorem mvals_any (b : Nat) (w : World) : Calls Tryz.prog 46 #[.map (some b)] w fun e w' => e = .returned (.func (.func 78) #[] #[.pointer (some ⟨w.heap.size, 0, none⟩)]) ∧ w' = w.alloc (.cells #[.map (some b)] 70) := by
  go_enter Tryz.func46, Tryz.ntmps46
  go_wp2_with fail
  go_ret
  exact ⟨rfl, rfl⟩
end Go.Proofs.YtlkkmcibjhoneaaGreatDoor

namespace Go.Proofs.YtlkkmcibjhoneaaGreatDoor
open Go.RowKit Go.Maps
attribute [local go_sem] Oper.semAt_some

theorem OwnF.cellsB {base : Nat} {w : World} {v : Value} {l : List Fl} (h : OwnF base w v l) : ∀ (j : Nat) (o : Obj), v.ownBlock = some j → w.heap[j]? = some o → o.isCells = true := by
  intro j o hj ho
  rcases h.2 with ⟨rfl, _⟩ | ⟨g, cap, cur, rfl, _, hg, _⟩
  · cases hj
  · simp only [Value.ownBlock, Option.some.injEq] at hj
    subst hj
    rw [hg] at ho; cases ho; rfl
/-- what has been gathered: a row in its box -/
structure GbF (n₀ : Nat) (w : World) (B : Nat) (pre : List Fl) (W : World) : Prop where
  box : ∃ v, Boxed W B 22 v ∧ OwnF n₀ W v pre
  below : Below n₀ w W
theorem GbF.own {n₀ B m : Nat} {w : World} (hn : n₀ ≤ w.heap.size) (hB : n₀ ≤ m) : OwnFrom m (GbF n₀ w B) := by
  intro pre W W' row h hg hr
  obtain ⟨⟨v, hv, hrow⟩, hb⟩ := h
  refine ⟨⟨v, hv.kept hg (fun e => ?_), ?_⟩, hb.grown hg (Nat.le_trans hn hb.size) (fun j hj => Nat.le_trans hB (hr j hj).1)⟩
  · obtain ⟨_, o, ho, hc⟩ := hr B e.symm
    rw [show W.heap[B]? = _ from hv] at ho; cases ho; cases hc
  · refine OwnF.only hrow (S := row.toList) ⟨hg.os, hg.tape, hg.output, hg.size, fun j hj hn => hg.block j hj (by intro e; apply hn; rw [← e]; simp)⟩ ?_
    intro j hj hm
    have hm' : row = some j := by simpa using hm
    obtain ⟨_, o, ho, hc⟩ := hr j hm'
    rw [hrow.cellsB j o hj ho] at hc; cases hc

set_option maxRecDepth 100000 in
set_option maxHeartbeats 4000000 in
theorem appendF_in {gf : Nat} {lb : Array Value} (eg : ∀ args w, (callFunc gf args).run Tryz.prog w = .ok (.enter gf args) w) {S : List Fl → Prop} {N : Nat} (hN : N ≤ 100000000) (w : World) (n : Nat) (hn : 2 ≤ n)
    (hseq : SeqStopsK Fence.wide (n - 1) Tryz.prog gf lb (fun x : Fl => #[x.val]) KeepsWalks S (fun _ => True) N w) :
    CallsIn Fence.wide n Tryz.prog 102 #[.slice none 0 0, .func (.func gf) #[] lb] w fun e w' => ∃ (v : Value) (ss : List Fl), e = .returned v ∧ S ss ∧ OwnF w.heap.size w' v ss ∧ Below w.heap.size w w' := by
  refine callsIn_of_wp_marks Tryz.func102 rfl trivial ?_ rfl
  simp only [Tryz.ntmps102, List.size_toArray, List.length_cons, List.length_nil, Nat.reduceAdd, Nat.reduceSub, Array.replicate_succ, Array.replicate_zero, List.push_toArray, List.append_toArray, List.nil_append, List.cons_append]
  gi_wp2
  obtain ⟨W0, hW0⟩ : ∃ W0, w.alloc (.cells #[.slice none 0 0] 22) = W0 := ⟨_, rfl⟩
  have hs0 : W0.heap.size = w.heap.size + 1 := by rw [← hW0]; simp
  have hv0 : Boxed W0 w.heap.size 22 (.slice none 0 0) := by rw [← hW0]; exact Boxed.new w _ _
  have hb0 : Below w.heap.size w W0 := by rw [← hW0]; exact balloc w _
  rw [hW0]
  refine wpIn_rangeFunc_ownH (F := Fence.wide) rfl (by omega) (gf := gf) (lb := lb) rfl trivial eg hseq walksK_t (fun W l o o' hl h hc hw => walksK_b (w := W0) W l o o' hl h hc hw) hb0 (fun _ => rfl)
    (GbF w.heap.size w w.heap.size) (fun _ _ _ => False) (GbF.own (Nat.le_refl _) (by omega)) (fun _ s W W' row h _ _ => h) ⟨⟨_, hv0, OwnF.nil _ _⟩, hb0⟩
    (fun x a' W => ∃ Bx, w.heap.size < Bx ∧ RF W Bx x ∧ a' = { tmps := #[.slice none 0 0, .func (.func gf) #[] lb, .pointer (some ⟨w.heap.size, 0, none⟩), undef, .slice none 0 0, .pointer (some ⟨Bx, 0, none⟩), .func (.func gf) #[] lb, x.val, undef, undef, undef, undef, undef], defers := [] }) ?hAx ?assign ?body ?done ?stop
  case hAx =>
    rintro x a' _ W W' row ⟨Bx, h1, h2, h3⟩ hg hr
    refine ⟨Bx, h1, ⟨(hg.block Bx h2.lt ?_).trans h2.blk⟩, h3⟩
    intro e
    obtain ⟨_, o', ho', hc'⟩ := hr Bx e.symm
    rw [h2.blk] at ho'; cases ho'; cases hc'
  case assign =>
    rintro l pre ⟨p, t, b, s⟩ W K hI hK
    simp only [Fl.val] at hK ⊢
    gi_wp2
    have hsz := hI.below.size
    obtain ⟨⟨v, hv, hrow⟩, hb⟩ := hI
    refine hK _ _ ((KeepsOthers.alloc _ _).from _) (KeepsWalks.alloc _ _) ⟨⟨v, hv.alloc _, hrow.later (balloc _ _)⟩, hb.alloc hsz _⟩ ⟨W.heap.size, ?_, RF.new W ⟨p, t, b, s⟩, rfl⟩
    exact hv.lt
  case body =>
    rintro l pre ⟨p, t, b, s⟩ a' W hl ⟨r, hr⟩ hI ⟨Bx, hBx, hRB, rfl⟩ hlt
    obtain ⟨⟨v, hv, hrow⟩, hb⟩ := hI
    obtain ⟨c0, c1, c2, c3⟩ := hRB.cells
    simp only [Fl.val] at c0 c1 c2 c3 ⊢
    have hc := hv.cell
    obtain ⟨i0, hi, hz0, hz1, hz2⟩ := info_parts info31
    obtain ⟨k, hk⟩ : ∃ k, pre.length = k := ⟨_, rfl⟩
    obtain ⟨av, cv, hvv⟩ := hrow.form
    rw [hk] at hvv hlt
    subst hvv
    have hrow' : W.ownsRow w.heap.size 31 4 (.slice av k cv) k (fc pre) := by rw [← hk]; rw [← hk] at hrow; exact hrow
    have hsz := hb.size
    have hne := hv.not_row (e := 31) (by decide) hrow
    have HB : Hid (Below w.heap.size w W ∧ Boxed W w.heap.size 22 (.slice av k cv) ∧ pre.length = k ∧ OwnF w.heap.size W (.slice av k cv) pre ∧ some w.heap.size ≠ (Value.slice av k cv).ownBlock) := ⟨hb, hv, hk, hrow, hne⟩
    clear hne hr hk hrow hb hv hRB
    gi_wp2_with (first
      | (gi_at_builtin; refine wpListIn_append_own _ rfl _ _ 22 rfl w.heap.size 31 i0 (.agg #[.string ⟨#[]⟩, .string ⟨#[]⟩, .int .i64 0, .int .i64 0]) 4 48 und22 hi hz0 hz1 hz2 rfl (by decide) _ _ _ rfl (hrow'.alloc _) ⟨W.heap.size, 0, none⟩ 1 1 [.string (bs p), .string (bs t), .int .i64 b, .int .i64 s] rfl rfl (World.news_of_block (heap_alloc_new W _)) (by simp [Value.oneCell']) (by unfold maxLen; omega) (by omega) (by simp; omega) ?_; intro v' w6 hown' hg6 hnil6; obtain ⟨g', cap', rfl⟩ := ownsRow_succ hown'; have hbx : Boxed w6 w.heap.size 22 (.slice av k cv) := (HB.out.2.1.alloc _).kept hg6 HB.out.2.2.2.2; have hc6 := hbx.cell; have hf6 := hbx.frozen; go_frame)
      | gi_in)
    have hb6 : Below w.heap.size w w6 := (HB.out.1.alloc HB.out.1.size _).grown hg6 (by have := HB.out.1.size; simp; omega) (fun j e => (HB.out.2.2.2.1.lt e).1)
    have hown6 : OwnF w.heap.size w6 (.slice (some ⟨g', 0, none⟩) (k + 1) cap') (pre ++ [⟨p, t, b, s⟩]) := by
      unfold OwnF
      rw [fc_append, List.length_append, HB.out.2.2.1]
      exact hown'
    have hob : g' ≠ w.heap.size := by
      intro e
      exact hbx.not_row (e := 31) (by decide) hown6 (by rw [← e]; rfl)
    have hKO : KeepsOthers W w6 := (KeepsOthers.alloc W _).trans (KeepsOthers.of_grownBy hg6 (fun j o e ho => by
      have hj := (HB.out.2.2.2.1.lt e).2
      exact HB.out.2.2.2.1.cellsB j o e (by rw [← ho]; exact (heap_alloc_old _ _ hj).symm)))
    have hK2 := KeepsOthers.setCell w6 ⟨w.heap.size, 0, none⟩ (.slice (some ⟨g', 0, none⟩) (k + 1) cap')
    refine ⟨(hKO.trans hK2).from _, (hKO.trans hK2).walks, ⟨_, hbx.set _, ?_⟩, hb6.setCell (p := ⟨w.heap.size, 0, none⟩) (Nat.le_refl _) _⟩
    refine OwnF.only hown6 (Only.set w6 w.heap.size 0 _) ?_
    intro j hj hm
    simp only [Value.ownBlock, Option.some.injEq] at hj
    have : j = w.heap.size := by simpa using hm
    exact hob (hj.trans this)
  case done =>
    rintro D xs W hD hS hI hK
    obtain ⟨⟨v, hv, hrow⟩, hb⟩ := hI
    have hc := hv.cell
    gi_wp2
    refine ⟨by simp, .inl ⟨_, _, rfl, run_takeDeferred hK, ?_⟩⟩
    refine ⟨_, results_tmp rfl _ _ _, v, xs, rfl, hS, ?_, hb.trans (belowK_b (w := w) (Nat.le_refl _) W D _ _ (by omega) hK rfl rfl)⟩
    refine OwnF.only hrow (S := [D]) ⟨rfl, rfl, rfl, by simp, fun k hk hn => World.putObj_heap_other (by simpa using hn)⟩ ?_
    intro k hk hm
    have : k = D := by simpa using hm
    subst this
    have := hrow.cellsB k _ hk hK
    cases this
  case stop =>
    rintro D c pre W _ _ h
    exact h.elim

set_option maxHeartbeats 1000000 in
theorem collectF_in {gf : Nat} {lb : Array Value} (eg : ∀ args w, (callFunc gf args).run Tryz.prog w = .ok (.enter gf args) w) {S : List Fl → Prop} {N : Nat} (hN : N ≤ 100000000) (w : World) (n : Nat) (hn : 3 ≤ n)
    (hseq : SeqStopsK Fence.wide (n - 1 - 1) Tryz.prog gf lb (fun x : Fl => #[x.val]) KeepsWalks S (fun _ => True) N w) :
    CallsIn Fence.wide n Tryz.prog 76 #[.func (.func gf) #[] lb] w fun e w' => ∃ (v : Value) (ss : List Fl), e = .returned v ∧ S ss ∧ OwnF w.heap.size w' v ss ∧ Below w.heap.size w w' := by
  refine callsIn_of_wp Tryz.func76 rfl trivial ?_ rfl
  simp only [Tryz.ntmps76, List.size_toArray, List.length_cons, List.length_nil, Nat.reduceAdd, Nat.reduceSub, Array.replicate_succ, Array.replicate_zero, List.push_toArray, List.append_toArray, List.nil_append, List.cons_append]
  have e70 : ∀ args w, (callFunc 102 args).run Tryz.prog w = .ok (.enter 102 args) w := enters_of Tryz.func102 (by kernel_rfl) rfl
  have HA := hid_b (appendF_in eg hN w (n - 1) (by omega) hseq)
  clear hseq
  clear eg
  gi_wp2_with fail
  refine ⟨trivial, fun _ => by omega, HA.out.mono ?_⟩
  rintro e W ⟨v, ss, rfl, hS, hrow, hb⟩
  gi_wp2_with fail
  go_ret
  exact ⟨v, ss, rfl, hS, hrow, hb⟩

theorem collectF_any {b cnt : Nat} {F : List UInt8 → Option Fl} {w : World} (h : MP cF w b F cnt) (Bm : Nat) (hBm : Bm < w.heap.size) (hm : w.cell? ⟨Bm, 0, none⟩ = some (.map (some b))) (hN : cnt ≤ 100000000) :
    Calls Tryz.prog 76 #[.func (.func 78) #[] #[.pointer (some ⟨Bm, 0, none⟩)]] w fun e w' => ∃ (v : Value) (ss : List Fl), e = .returned v ∧ GvS F ss ∧ OwnF w.heap.size w' v ss ∧ Below w.heap.size w w' :=
  (callsIn_wide (n := 6)).1 (collectF_in (enters_of Tryz.func78 (by kernel_rfl) rfl) hN w 6 (by omega) (values_it h Bm hBm hm 4 (by omega)))
set_option maxHeartbeats 1000000 in
/-- byPath -/
theorem byPath_any (f g : Fl) (w : World) (hf : f.path.length ≤ 1000000000) (hg : g.path.length ≤ 1000000000) : Calls Tryz.prog 47 #[f.val, g.val] w fun e w' => e = .returned (.int .i64 (cf f.path g.path)) ∧ Laid w w' := by
  obtain ⟨p, t, b, s⟩ := f
  obtain ⟨p', t', b', s'⟩ := g
  have HC := hid_b (cmp_any p p' ((w.alloc (.cells #[.string (bs p), .string (bs t), .int .i64 b, .int .i64 s] 31)).alloc (.cells #[.string (bs p'), .string (bs t'), .int .i64 b', .int .i64 s'] 31)) (by have : p.length ≤ 1000000000 := hf; omega) (by have : p'.length ≤ 1000000000 := hg; omega))
  simp only [Fl.val]
  go_enter Tryz.func47, Tryz.ntmps47
  go_wp2_with fail
  refine HC.out.mono ?_
  rintro e w1 ⟨rfl, hl⟩
  go_wp2_with fail
  go_ret
  exact ⟨rfl, bstep (balloc _ _) (bstep (balloc _ _) hl.1), hl.2⟩
end Go.Proofs.YtlkkmcibjhoneaaGreatDoor
