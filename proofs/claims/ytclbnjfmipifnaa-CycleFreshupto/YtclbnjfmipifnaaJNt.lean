/-
  AppendSeq, Collect, SortedFunc, Nodes.
  Collect, SortedFunc, Nodes.
-/
import Derived.Test.YtclbnjfmipifnaaJKy
namespace Go.Proofs.Ytclbnjfmipifnaa
open Go.RowKit Go.Maps
attribute [local go_sem] Oper.semAt_some

theorem keepsO_grown {W W' : World} {row : Option Nat} (hg : W.grownBy W' row) (hrow : ∀ (j : Nat) (o : Obj), row = some j → W.heap[j]? = some o → o.isCells = true) : KeepsOthers W W' := KeepsOthers.of_grownBy hg hrow
theorem OwnL.cellsB {base : Nat} {w : World} {v : Value} {l : List Lb} (h : OwnL base w v l) : ∀ (j : Nat) (o : Obj), v.ownBlock = some j → w.heap[j]? = some o → o.isCells = true := by
  intro j o hj ho
  rcases OL.of h with ⟨rfl, _⟩ | ⟨g, cap, rest, rfl, hol⟩
  · cases hj
  · simp only [Value.ownBlock, Option.some.injEq] at hj
    subst hj
    rw [hol.blk] at ho; cases ho; rfl
/-- what has been gathered: a row in its box -/
structure Gb (n₀ : Nat) (w : World) (B : Nat) (pre : List Lb) (W : World) : Prop where
  box : ∃ v, Boxed W B 32 v ∧ OwnL n₀ W v pre
  below : Below n₀ w W
theorem Gb.own {n₀ B m : Nat} {w : World} (hn : n₀ ≤ w.heap.size) (hB : n₀ ≤ m) : OwnFrom m (Gb n₀ w B) := by
  intro pre W W' row h hg hr
  obtain ⟨⟨v, hv, hrow⟩, hb⟩ := h
  have hc : ∀ j o, W.heap[j]? = some o → o.isCells = true → some j ≠ row := by
    intro j o hj ho e
    obtain ⟨_, o', ho', hc'⟩ := hr j e.symm
    rw [hj] at ho'; cases ho'; rw [ho] at hc'; cases hc'
  refine ⟨⟨v, hv.kept hg (hc B _ hv rfl), ?_⟩, hb.grown hg (Nat.le_trans hn hb.size) (fun k hk => Nat.le_trans hB (hr k hk).1)⟩
  refine OwnL.only hrow (S := row.toList) ⟨hg.os, hg.tape, hg.output, hg.size, fun k hk hn => hg.block k hk (by intro e; apply hn; rw [← e]; simp)⟩ ?_
  intro k hk hm
  have hm' : row = some k := by simpa using hm
  have hlt := (hrow.lt hk).2
  exact hc k _ (Array.getElem?_eq_getElem hlt) (hrow.cellsB k _ hk (Array.getElem?_eq_getElem hlt)) hm'.symm

set_option maxRecDepth 100000 in
set_option maxHeartbeats 4000000 in
theorem appendSeq_in {gf : Nat} {lb : Array Value} (eg : ∀ args w, (callFunc gf args).run Try.prog w = .ok (.enter gf args) w) {S : List Lb → Prop} {N : Nat} (hN : N ≤ 1000000) (w : World) (n : Nat) (hn : 2 ≤ n)
    (hseq : SeqStopsK Fence.wide (n - 1) Try.prog gf lb (fun x : Lb => #[x.val]) KeepsWalks S (fun _ => True) N w) :
    CallsIn Fence.wide n Try.prog 58 #[.slice none 0 0, .func (.func gf) #[] lb] w fun e w' => ∃ (v : Value) (ss : List Lb), e = .returned v ∧ S ss ∧ OwnL w.heap.size w' v ss ∧ Below w.heap.size w w' := by
  refine callsIn_of_wp_marks Try.func58 rfl trivial ?_ rfl
  simp only [Try.ntmps58, List.size_toArray, List.length_cons, List.length_nil, Nat.reduceAdd, Nat.reduceSub, Array.replicate_succ, Array.replicate_zero, List.push_toArray, List.append_toArray, List.nil_append, List.cons_append]
  gi_wp2
  obtain ⟨W0, hW0⟩ : ∃ W0, w.alloc (.cells #[.slice none 0 0] 32) = W0 := ⟨_, rfl⟩
  have hs0 : W0.heap.size = w.heap.size + 1 := by rw [← hW0]; simp
  have hv0 : Boxed W0 w.heap.size 32 (.slice none 0 0) := by rw [← hW0]; exact Boxed.new w _ _
  have hb0 : Below w.heap.size w W0 := by rw [← hW0]; exact balloc w _
  rw [hW0]
  refine wpIn_rangeFunc_ownH (F := Fence.wide) rfl (by omega) (gf := gf) (lb := lb) rfl trivial eg hseq walksK_t (fun W l o o' hl h hc hw => walksK_b (w := W0) W l o o' hl h hc hw) hb0 (fun _ => rfl)
    (Gb w.heap.size w w.heap.size) (fun _ _ _ => False) (Gb.own (Nat.le_refl _) (by omega)) (fun _ s W W' row h _ _ => h) ⟨⟨_, hv0, OwnL.nil _ _⟩, hb0⟩
    (fun x a' W => ∃ Bx, w.heap.size < Bx ∧ RB W Bx x ∧ a' = { tmps := #[.slice none 0 0, .func (.func gf) #[] lb, .pointer (some ⟨w.heap.size, 0, none⟩), undef, .slice none 0 0, .pointer (some ⟨Bx, 0, none⟩), .func (.func gf) #[] lb, x.val, undef, undef, undef, undef, undef], defers := [] }) ?hAx ?assign ?body ?done ?stop
  case hAx =>
    rintro x a' _ W W' row ⟨Bx, h1, h2, h3⟩ hg hr
    refine ⟨Bx, h1, ⟨(hg.block Bx h2.lt ?_).trans h2.blk⟩, h3⟩
    intro e
    obtain ⟨_, o', ho', hc'⟩ := hr Bx e.symm
    rw [h2.blk] at ho'; cases ho'; cases hc'
  case assign =>
    rintro l pre ⟨p, m⟩ W K hI hK
    simp only [Lb.val] at hK ⊢
    gi_wp2
    have hsz := hI.below.size
    obtain ⟨⟨v, hv, hrow⟩, hb⟩ := hI
    refine hK _ _ ((KeepsOthers.alloc _ _).from _) (KeepsWalks.alloc _ _) ⟨⟨v, hv.alloc _, hrow.later (balloc _ _)⟩, hb.alloc hsz _⟩ ⟨W.heap.size, ?_, RB.new W ⟨p, m⟩, rfl⟩
    exact hv.lt
  case body =>
    rintro l pre ⟨p, m⟩ a' W hl ⟨r, hr⟩ hI ⟨Bx, hBx, hRB, rfl⟩ hlt
    obtain ⟨⟨v, hv, hrow⟩, hb⟩ := hI
    obtain ⟨c0, c1, _, _⟩ := hRB.cells
    simp only [Lb.val] at c0 c1 ⊢
    have hc := hv.cell
    obtain ⟨i0, hi, hz0, hz1, hz2⟩ := info_parts info_L
    obtain ⟨k, hk⟩ : ∃ k, pre.length = k := ⟨_, rfl⟩
    obtain ⟨av, cv, hvv⟩ := hrow.form
    rw [hk] at hvv hlt
    subst hvv
    have hrow' : W.ownsRow w.heap.size 35 2 (.slice av k cv) k (lc pre) := by rw [← hk]; rw [← hk] at hrow; exact hrow
    have hsz := hb.size
    have hne : ∀ (o : Obj) (j : Nat), W.heap[j]? = some o → (∀ cur, o ≠ .cells cur 35 (0, 0)) → (Value.slice av k cv).ownBlock ≠ some j := by
      intro o j hj hno e
      rcases OL.of hrow with ⟨e2, _⟩ | ⟨g, cap, rest, e2, hol⟩
      · rw [e2] at e; cases e
      · rw [e2] at e
        simp only [Value.ownBlock, Option.some.injEq] at e
        subst e
        rw [hol.blk] at hj; cases hj; exact hno _ rfl
    have HB : Hid (Below w.heap.size w W ∧ Boxed W w.heap.size 32 (.slice av k cv) ∧ W.heap[l]? = some (.loop r) ∧ pre.length = k ∧ OwnL w.heap.size W (.slice av k cv) pre ∧ ∀ (o : Obj) (j : Nat), W.heap[j]? = some o → (∀ cur, o ≠ .cells cur 35 (0, 0)) → (Value.slice av k cv).ownBlock ≠ some j) := ⟨hb, hv, hr, hk, hrow, hne⟩
    clear hne hr hk hrow hb hv hRB
    gi_wp2_with (first
      | (gi_at_builtin; refine wpListIn_append_own _ rfl _ _ 32 rfl w.heap.size 35 i0 (.agg #[.string ⟨#[]⟩, .string ⟨#[]⟩]) 2 32 und_L hi hz0 hz1 hz2 rfl (by decide) _ _ _ rfl (hrow'.alloc _) ⟨W.heap.size, 0, none⟩ 1 1 [.string (bs p), .string (bs m)] rfl rfl (World.news_of_block (heap_alloc_new W _)) (by simp [Value.oneCell']) (by unfold maxLen; omega) (by omega) (by simp; omega) ?_; intro v' w3 hown' hg3 hnil3; obtain ⟨g', cap', rfl⟩ := ownsRow_succ hown'; have hbx : Boxed w3 w.heap.size 32 (.slice av k cv) := (HB.out.2.1.alloc _).kept hg3 (fun e => HB.out.2.2.2.2.2 _ _ HB.out.2.1 (fun cur h => by cases h) e.symm); have hc3 := hbx.cell; have hf3 := hbx.frozen; go_frame)
      | gi_in)
    have hb3 : Below w.heap.size w w3 := (HB.out.1.alloc HB.out.1.size _).grown hg3 (by have := HB.out.1.size; simp; omega) (fun j e => (HB.out.2.2.2.2.1.lt e).1)
    have hown3 : OwnL w.heap.size w3 (.slice (some ⟨g', 0, none⟩) (k + 1) cap') (pre ++ [⟨p, m⟩]) := by
      unfold OwnL
      rw [lc_append, List.length_append, HB.out.2.2.2.1]
      exact hown'
    have hob : g' ≠ w.heap.size := by
      rintro rfl
      rcases OL.of hown3 with ⟨e2, _⟩ | ⟨g, cap, rest, e2, hol⟩
      · cases e2
      · injection e2 with e2 _ _
        injection e2 with e2
        injection e2 with e2 _ _
        have h9 := hol.blk
        rw [← e2, hbx] at h9
        injection h9 with h9
        injection h9 with _ h9 _
        exact absurd h9 (by decide)
    have hKO : KeepsOthers W w3 := (KeepsOthers.alloc W _).trans (KeepsOthers.of_grownBy hg3 (fun j o e ho => by
      have hj := (HB.out.2.2.2.2.1.lt e).2
      exact HB.out.2.2.2.2.1.cellsB j o e (by rw [← ho]; exact (heap_alloc_old _ _ hj).symm)))
    have hK2 := KeepsOthers.setCell w3 ⟨w.heap.size, 0, none⟩ (.slice (some ⟨g', 0, none⟩) (k + 1) cap')
    refine ⟨(hKO.trans hK2).from _, (hKO.trans hK2).walks, ⟨_, hbx.set _, ?_⟩, hb3.setCell (p := ⟨w.heap.size, 0, none⟩) (Nat.le_refl _) _⟩
    refine OwnL.only hown3 (Only.set w3 w.heap.size 0 _) ?_
    intro j hj hm
    simp only [Value.ownBlock, Option.some.injEq] at hj
    have : j = w.heap.size := by simpa using hm
    exact hob (hj.trans this)
  case done =>
    rintro D xs W hD hS hI hK
    obtain ⟨⟨v, hv, hrow⟩, hb⟩ := hI
    have hc := hv.cell
    gi_wp2
    refine ⟨by simp, .inl ⟨_, _, rfl, run_takeDeferred hK, ?_⟩⟩
    refine ⟨_, results_tmp rfl _ _ _, v, xs, rfl, hS, ?_, hb.trans (belowK_b (w := w) (Nat.le_refl _) W D _ _ (by omega) hK rfl rfl)⟩
    refine OwnL.only hrow (S := [D]) ⟨rfl, rfl, rfl, by simp, fun k hk hn => World.putObj_heap_other (by simpa using hn)⟩ ?_
    intro k hk hm
    have : k = D := by simpa using hm
    subst this
    have := hrow.cellsB k _ hk hK
    cases this
  case stop =>
    rintro D c pre W _ _ h
    exact h.elim

end Go.Proofs.Ytclbnjfmipifnaa

namespace Go.Proofs.Ytclbnjfmipifnaa
open Go.RowKit Go.Maps

set_option maxHeartbeats 1000000 in
theorem collect_in {gf : Nat} {lb : Array Value} (eg : ∀ args w, (callFunc gf args).run Try.prog w = .ok (.enter gf args) w) {S : List Lb → Prop} {N : Nat} (hN : N ≤ 1000000) (w : World) (n : Nat) (hn : 3 ≤ n)
    (hseq : SeqStopsK Fence.wide (n - 1 - 1) Try.prog gf lb (fun x : Lb => #[x.val]) KeepsWalks S (fun _ => True) N w) :
    CallsIn Fence.wide n Try.prog 45 #[.func (.func gf) #[] lb] w fun e w' => ∃ (v : Value) (ss : List Lb), e = .returned v ∧ S ss ∧ OwnL w.heap.size w' v ss ∧ Below w.heap.size w w' := by
  refine callsIn_of_wp Try.func45 rfl trivial ?_ rfl
  simp only [Try.ntmps45, List.size_toArray, List.length_cons, List.length_nil, Nat.reduceAdd, Nat.reduceSub, Array.replicate_succ, Array.replicate_zero, List.push_toArray, List.append_toArray, List.nil_append, List.cons_append]
  have e70 : ∀ args w, (callFunc 58 args).run Try.prog w = .ok (.enter 58 args) w := enters_of Try.func58 (by kernel_rfl) rfl
  have HA : Hid (CallsIn Fence.wide (n - 1) Try.prog 58 #[.slice none 0 0, .func (.func gf) #[] lb] w fun e w' => ∃ (v : Value) (ss : List Lb), e = .returned v ∧ S ss ∧ OwnL w.heap.size w' v ss ∧ Below w.heap.size w w') := appendSeq_in eg hN w (n - 1) (by omega) hseq
  clear hseq
  clear eg
  gi_wp2_with fail
  refine ⟨trivial, fun _ => by omega, HA.out.mono ?_⟩
  rintro e W ⟨v, ss, rfl, hS, hrow, hb⟩
  gi_wp2_with fail
  go_ret
  exact ⟨v, ss, rfl, hS, hrow, hb⟩

theorem collect_any {b cnt : Nat} {F : Lb → Option (Option (Nat × Nat × Nat))} {w : World} (h : MP cS w b F cnt) (Bm : Nat) (hBm : Bm < w.heap.size) (hm : w.cell? ⟨Bm, 0, none⟩ = some (.map (some b))) (hN : cnt ≤ 1000000) :
    Calls Try.prog 45 #[.func (.func 47) #[] #[.pointer (some ⟨Bm, 0, none⟩)]] w fun e w' => ∃ (v : Value) (ss : List Lb), e = .returned v ∧ (ss.Nodup ∧ ∀ a, a ∈ ss ↔ Lu a ∧ (F a).isSome = true) ∧ OwnL w.heap.size w' v ss ∧ Below w.heap.size w w' :=
  (callsIn_wide (n := 6)).1 (collect_in (enters_of Try.func47 (by kernel_rfl) rfl) hN w 6 (by omega) (keys_it h Bm hBm hm 4 (by omega)))

set_option maxHeartbeats 2000000 in
theorem sorted_any {b cnt : Nat} {F : Lb → Option (Option (Nat × Nat × Nat))} {w : World} (h : MP cS w b F cnt) (Bm : Nat) (hBm : Bm < w.heap.size) (hm : w.cell? ⟨Bm, 0, none⟩ = some (.map (some b))) (ns : List Lb) (hns : ns.Nodup) (hlu : ∀ a ∈ ns, Lu a) (hF : ∀ a, Lu a → ((F a).isSome = true ↔ a ∈ ns)) (hN : cnt ≤ 1000000) (hl : ns.length ≤ 1000000) :
    Calls Try.prog 35 #[.func (.func 47) #[] #[.pointer (some ⟨Bm, 0, none⟩)], .func (.func 37) #[] #[]] w fun e w' => ∃ (v : Value), e = .returned v ∧ OwnL w.heap.size w' v (rs ns) ∧ Below w.heap.size w w' := by
  have HC : Hid (Calls Try.prog 45 #[.func (.func 47) #[] #[.pointer (some ⟨Bm, 0, none⟩)]] w fun e w' => ∃ (v : Value) (ss : List Lb), e = .returned v ∧ (ss.Nodup ∧ ∀ a, a ∈ ss ↔ Lu a ∧ (F a).isSome = true) ∧ OwnL w.heap.size w' v ss ∧ Below w.heap.size w w') := collect_any h Bm hBm hm hN
  have HX : Hid (ns.Nodup ∧ (∀ a ∈ ns, Lu a) ∧ (∀ a, Lu a → ((F a).isSome = true ↔ a ∈ ns)) ∧ ns.length ≤ 1000000) := ⟨hns, hlu, hF, hl⟩
  clear h hBm hm hns hlu hF hN hl
  go_enter Try.func35, Try.ntmps35
  go_wp2_with fail
  refine HC.out.mono ?_
  rintro e w1 ⟨v, ss, rfl, ⟨hnd, hmem⟩, hrow, hb⟩
  have hm2 : ∀ a, a ∈ ss ↔ a ∈ ns := fun a => by
    rw [hmem a]
    exact ⟨fun ⟨h1, h2⟩ => (HX.out.2.2.1 a h1).1 h2, fun h1 => ⟨HX.out.2.1 a h1, (HX.out.2.2.1 a (HX.out.2.1 a h1)).2 h1⟩⟩
  have hlen : ss.length ≤ 1000000 := Nat.le_trans (Gs.nodup_sub ss ns hnd (fun x hx => (hm2 x).1 hx)) HX.out.2.2.2
  have HS : Hid (Calls Try.prog 46 #[v, .func (.func 37) #[] #[]] w1 fun e w' => e = .returned (.tuple #[]) ∧ OwnL w.heap.size w' v (rs ss) ∧ Below w.heap.size w1 w' ∧ Only (bl v) w1 w') := sort_any hrow hlen (fun x hx => HX.out.2.1 x ((hm2 x).1 hx)) hnd hb.size
  have HE : Hid (rs ss = rs ns ∧ Below w.heap.size w w1) := ⟨Gs.ris_eq stoL hm2, hb⟩
  clear hnd hmem hrow hb hm2 hlen HC
  go_wp2_with fail
  refine HS.out.mono ?_
  rintro e w2 ⟨rfl, hr2, hb2, _⟩
  rw [HE.out.1] at hr2
  go_wp2_with fail
  go_ret
  exact ⟨v, rfl, hr2, below_trans HE.out.2 hb2⟩

set_option maxHeartbeats 2000000 in
theorem nodes_any {w : World} {F : Nat → Prop} {g : Nat} {ns : List Lb} {out : Lb → List Lb} (h : GR w F g ns out) :
    Calls Try.prog 19 #[.pointer (some ⟨g, 0, none⟩)] w fun e w' => ∃ v, e = .returned v ∧ OwnL w.heap.size w' v (rs ns) ∧ Below w.heap.size w w' := by
  have hz := h.sz
  have hlu := h.lu
  have hnd := h.nd
  obtain ⟨⟨b, A, h1, h2, h3, h4, h5, h6⟩, own, lt, _⟩ := h
  have hc : w.cell? ⟨g, 0, none⟩ = some (.map (some b)) := by simp [World.cell?, h1]
  have HS : Hid (Calls Try.prog 35 #[.func (.func 47) #[] #[.pointer (some ⟨w.heap.size, 0, none⟩)], .func (.func 37) #[] #[]] (w.alloc (.cells #[.map (some b)] 61)) fun e w' => ∃ (v : Value), e = .returned v ∧ OwnL (w.alloc (.cells #[.map (some b)] 61)).heap.size w' v (rs ns) ∧ Below (w.alloc (.cells #[.map (some b)] 61)).heap.size (w.alloc (.cells #[.map (some b)] 61)) w') :=
    sorted_any (h2.later (balloc _ _)) w.heap.size (by simp) (by simp) ns hnd hlu (fun a _ => by by_cases hm : a ∈ ns <;> simp [hm]) hz hz
  have HK : Hid (Calls Try.prog 36 #[.map (some b)] w fun e w' => e = .returned (.func (.func 47) #[] #[.pointer (some ⟨w.heap.size, 0, none⟩)]) ∧ w' = w.alloc (.cells #[.map (some b)] 61)) := mkeys_any b w
  clear h1 h2 h3 h4 h5 h6 own lt hz hlu hnd
  go_enter Try.func19, Try.ntmps19
  go_wp2_with fail
  refine HK.out.mono ?_
  rintro e w1 ⟨rfl, rfl⟩
  go_wp2_with fail
  refine HS.out.mono ?_
  rintro e w2 ⟨v, rfl, hr, hb⟩
  go_wp2_with fail
  go_ret
  exact ⟨v, rfl, hr.mono (by simp), bstep (balloc _ _) hb⟩
end Go.Proofs.Ytclbnjfmipifnaa
