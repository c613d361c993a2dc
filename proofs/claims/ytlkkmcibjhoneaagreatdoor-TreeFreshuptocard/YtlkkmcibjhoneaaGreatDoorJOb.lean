/-
  The document's tree: Append, Mkdir, Rmdir.
  The landed tree: the journal; Stop, Steps.
  Texts gathered, and brought into their order: Dirs.
-/
import Derived.Test.YtlkkmcibjhoneaaGreatDoorJDb
import Derived.Test.YtlkkmcibjhoneaaGreatDoorGd
import Derived.Test.YtlkkmcibjhoneaaGreatDoorNd
import Derived.Test.YtlkkmcibjhoneaaGreatDoorJOa
import Derived.Test.YtlkkmcibjhoneaaGreatDoorJWw
namespace Go.Proofs.YtlkkmcibjhoneaaGreatDoor
open Go.RowKit

theorem BS.only' {F : Nat → Prop} {w w' : World} {v : Value} {l : List UInt8} (h : BS w v l) (ho : OnlyP F w w') (hn : l ≠ [] → ∀ k, v.ownBlock = some k → ¬ F k) : BS w' v l := by
  rcases h with h | ⟨b, off, cap, rfl, hc, hlt, hcell⟩
  · exact .inl h
  · exact .inr ⟨b, off, cap, rfl, hc, Nat.lt_of_lt_of_le hlt ho.size, fun i u hu => (cell_stay (ho.block b hlt (hn (by rintro rfl; simp [bc] at hu) b rfl)) _).trans (hcell i u hu)⟩
theorem cnt_keep (T : TT) (b : List UInt8) : (T.cnt b).1.jl = T.jl ∧ (T.cnt b).1.ds = T.ds ∧ (T.cnt b).1.fs = T.fs := by
  unfold TT.cnt
  split
  · exact ⟨rfl, rfl, rfl⟩
  · split
    · exact ⟨rfl, rfl, rfl⟩
    · split
      · exact ⟨rfl, rfl, rfl⟩
      · exact ⟨rfl, rfl, rfl⟩
theorem hold {P : Prop} (h : Hid P) : P := h.out
end Go.Proofs.YtlkkmcibjhoneaaGreatDoor

namespace Go.Proofs.YtlkkmcibjhoneaaGreatDoor
open Go.RowKit Go.Maps

theorem row_empty5 (w : World) : (w.alloc (.cells #[] 5)).ownsRow w.heap.size 5 1 (.slice (some ⟨w.heap.size, 0, none⟩) 0 0) 0 [] :=
  ⟨by simp, .inr ⟨w.heap.size, 0, #[], rfl, Nat.le_refl _, heap_alloc_new w _, Nat.le_refl _, by unfold maxLen; omega, by simp, by simp⟩⟩
set_option maxRecDepth 100000 in
set_option maxHeartbeats 1000000 in
theorem cloneB_any {w : World} {v : Value} {l : List UInt8} (h : BS w v l) (hl : l.length ≤ 100000000) :
    Calls Tryz.prog 50 #[v] w fun e w' => ∃ v', e = .returned v' ∧ OwnB w.heap.size w' v' l ∧ Below w.heap.size w w' := by
  have H : Hid (BS w v l ∧ l.length ≤ 100000000) := ⟨h, hl⟩
  have q : ∀ (w : World) (a : Option Addr) (n c n' c' : Nat), (binOp .eql 32 (.slice a n c) (.slice none n' c')).run Tryz.prog w = .ok (.bool a.isNone) w := fun w a n c n' c' => Lib.run_eql_slice_nil w _ _ a n c n' c' und32
  obtain ⟨a, c, hvv⟩ : ∃ a c, v = .slice a l.length c := by
    rcases h with ⟨⟨a, c, rfl⟩, rfl⟩ | ⟨g, off, c, rfl, _⟩
    · exact ⟨a, c, rfl⟩
    · exact ⟨_, c, rfl⟩
  cases a with
  | none =>
    obtain rfl : l = [] := by
      rcases h with ⟨_, e⟩ | ⟨g, off, c', e, _⟩
      · exact e
      · rw [e] at hvv; cases hvv
    subst hvv
    clear h hl H
    go_enter Tryz.func50, Tryz.ntmps50
    go_wp2_with fail
    go_ret
    exact ⟨_, rfl, OwnB.nil _ _, Below.refl _ _⟩
  | some a =>
    obtain ⟨n, hn⟩ : ∃ n, l.length = n := ⟨_, rfl⟩
    have HN : Hid (l.length = n) := hn
    rw [hn] at hvv
    subst hvv
    clear h hl hn
    go_enter Tryz.func50, Tryz.ntmps50
    go_wp2_with (first | (at_builtin; refine app_bytes (base := w.heap.size) (l := []) (k := l) (row_empty5 w) ((H.out.1.later (balloc _ _)).src und32) (by have := H.out.2; simp; omega) (by simp) rfl (.tmp 5) (.tmp 6) rfl rfl rfl ?_; intro v' w' h1 h2 h3))
    go_ret
    refine ⟨v', rfl, h1, ?_⟩
    exact ((Below.refl _ _).alloc (Nat.le_refl _) _).grown h2 (by simp) (fun k hk => by simp [Value.ownBlock] at hk; omega)
section
variable {w w' : World} {c mf md : Nat} {vj vt : Value} {lf : Int} {T : TT} {F : Nat → Prop}
theorem LT.stay (h : LT w F c T) (hs : w.heap.size ≤ w'.heap.size) (hk : ∀ k, F k → w'.heap[k]? = w.heap[k]?) (hev : Ev w') : LT w' F c T := by
  obtain ⟨mf, md, vj, vt, lf, h1, h2, h3⟩ := h
  exact ⟨mf, md, vj, vt, lf, h1.stay (fun k hb => hk k (h2 k hb)) hev, h2, fun k hk => Nat.lt_of_lt_of_le (h3 k hk) hs⟩
theorem LT.wider {F' : Nat → Prop} (h : LT w F c T) (hF : ∀ k, F k → F' k) (hl : ∀ k, F' k → k < w.heap.size) : LT w F' c T := by
  obtain ⟨mf, md, vj, vt, lf, h1, h2, h3⟩ := h
  exact ⟨mf, md, vj, vt, lf, h1, fun k hk => hF k (h2 k hk), hl⟩
end
set_option maxRecDepth 100000 in
set_option maxHeartbeats 4000000 in
theorem journal_any {w : World} {F : Nat → Prop} {c : Nat} {T : TT} (h : LT w F c T) (hz : TSz 4000000 T) :
    Calls Tryz.prog 18 #[.pointer (some ⟨c, 0, none⟩)] w fun e w' => ∃ v, e = .returned v ∧ OwnB w.heap.size w' v T.jl ∧ Below w.heap.size w w' := by
  obtain ⟨mf, md, vj, vt, lf, h, hF, hl⟩ := h
  obtain ⟨c0, c1, c2, -⟩ := h.cells
  have HC : Hid (Calls Tryz.prog 50 #[vj] w fun e w' => ∃ v', e = .returned v' ∧ OwnB w.heap.size w' v' T.jl ∧ Below w.heap.size w w') := cloneB_any h.jo.bs (by have := hz.nj; omega)
  clear h hF hl hz c0 c1
  go_enter Tryz.func18, Tryz.ntmps18
  go_wp2_with fail
  refine HC.out.mono ?_
  rintro e w1 ⟨v, rfl, h1, h2⟩
  go_wp2_with fail
  go_ret
  exact ⟨v, rfl, h1, h2⟩
set_option maxRecDepth 100000 in
set_option maxHeartbeats 4000000 in
theorem steps_any {w : World} {F : Nat → Prop} {c : Nat} {T : TT} (h : LT w F c T) :
    Calls Tryz.prog 12 #[.pointer (some ⟨c, 0, none⟩)] w fun e w' => e = .returned (.int .i64 T.st) ∧ Below w.heap.size w w' := by
  obtain ⟨mf, md, vj, vt, lf, h, hF, hl⟩ := h
  obtain ⟨c0, c1, c2, c3, -⟩ := h.cells
  clear h hF hl c0 c1 c2
  go_enter Tryz.func12, Tryz.ntmps12
  go_wp2_with fail
  go_ret
  exact ⟨rfl, Below.refl _ _⟩
set_option maxRecDepth 100000 in
set_option maxHeartbeats 4000000 in
theorem lstop_any {w : World} {F : Nat → Prop} {c : Nat} {T : TT} (h : LT w F c T) (n : Int) (h0 : -9223372036854775808 ≤ n) (h1 : n ≤ 9223372036854775807) :
    Calls Tryz.prog 10 #[.pointer (some ⟨c, 0, none⟩), .int .i64 n] w fun e w' => e = .returned (.tuple #[]) ∧ LT w' (nwF F w w') c (T.stop n) ∧ OnlyP F w w' := by
  obtain ⟨mf, md, vj, vt, lf, h, hF, hl⟩ := h
  obtain ⟨c0, c1, c2, c3, c4, c5, c6⟩ := h.cells
  have f4 := h.soft 4
  have HFL : Hid ((∀ k, LB c mf md vj vt k → F k) ∧ (∀ k, F k → k < w.heap.size)) := ⟨hF, hl⟩
  have H : Hid (LX w c mf md vj vt lf T) := h
  have HN : Hid (-9223372036854775808 ≤ n ∧ n ≤ 9223372036854775807) := ⟨h0, h1⟩
  obtain ⟨R, hR⟩ : ∃ R, T.stop n = R := ⟨_, rfl⟩
  rw [hR]
  have HR : Hid (T.stop n = R) := hR
  have L4 := h.lc.set4 (st' := n)
  have L4' : Hid (LC (w.setCell ⟨c, 4, none⟩ (.int .i64 n)) c (.map (some mf)) (.map (some md)) vj T.st n T.dn vt) := L4
  clear h hF hl h0 h1 hR c0 c1 c2 c3 c6 L4
  cases hd : T.dn with
  | true =>
    rw [hd] at c5
    go_enter Tryz.func10, Tryz.ntmps10
    go_wp2_with fail
    refine ⟨rfl, _, results_none rfl _ _ _, rfl, ?_⟩
    have e : R = T := by rw [← HR.out]; unfold TT.stop; rw [if_pos hd]
    rw [e]
    exact LX.fin HFL.out.1 HFL.out.2 H.out (Only.refl _ _)
  | false =>
    rw [hd] at c5
    go_enter Tryz.func10, Tryz.ntmps10
    go_wp2_with fail
    refine ⟨rfl, _, results_none rfl _ _ _, rfl, ?_⟩
    have hok := H.out.ok.stop n
    rw [← HR.out]
    unfold TT.stop at hok ⊢
    rw [if_neg (by simp [hd])] at hok ⊢
    refine LX.fin HFL.out.1 HFL.out.2 (H.out.put (lf' := n) (Only.set _ _ _ _) ?_ rfl rfl rfl rfl ⟨HN.out.1, HN.out.2, fun e => ?_, fun _ => ?_⟩ hok) (only_c (Only.set _ _ _ _))
    · have := L4'.out
      unfold LC at this
      rw [this]
    · exact absurd (hd.symm.trans e) (by decide)
    · show n < 1 ∧ (if 1 ≤ n then n else 0) = 0 ∨ 1 ≤ n ∧ (if 1 ≤ n then n else 0) = n
      by_cases h : 1 ≤ n
      · exact .inr ⟨h, if_pos h⟩
      · exact .inl ⟨by omega, if_neg h⟩
end Go.Proofs.YtlkkmcibjhoneaaGreatDoor

namespace Go.Proofs.YtlkkmcibjhoneaaGreatDoor
open Go.RowKit Go.Maps
attribute [local go_sem] Oper.semAt_some

theorem Own.cellsB {base : Nat} {w : World} {v : Value} {l : List (List UInt8)} (h : Own base w v l) : ∀ (j : Nat) (o : Obj), v.ownBlock = some j → w.heap[j]? = some o → o.isCells = true := by
  intro j o hj ho
  rcases h.2 with ⟨rfl, _⟩ | ⟨g, cap, cur, rfl, _, hg, _⟩
  · cases hj
  · simp only [Value.ownBlock, Option.some.injEq] at hj
    subst hj
    rw [hg] at ho; cases ho; rfl
theorem hid_b {p : Prop} (h : p) : Hid p := h
/-- what has been gathered: a row in its box -/
structure Gb (n₀ : Nat) (w : World) (B : Nat) (pre : List (List UInt8)) (W : World) : Prop where
  box : ∃ v, Boxed W B 42 v ∧ Own n₀ W v pre
  below : Below n₀ w W
theorem Gb.own {n₀ B m : Nat} {w : World} (hn : n₀ ≤ w.heap.size) (hB : n₀ ≤ m) : OwnFrom m (Gb n₀ w B) := by
  intro pre W W' row h hg hr
  obtain ⟨⟨v, hv, hrow⟩, hb⟩ := h
  refine ⟨⟨v, hv.kept hg (fun e => ?_), ?_⟩, hb.grown hg (Nat.le_trans hn hb.size) (fun j hj => Nat.le_trans hB (hr j hj).1)⟩
  · obtain ⟨_, o, ho, hc⟩ := hr B e.symm
    rw [show W.heap[B]? = _ from hv] at ho; cases ho; cases hc
  · refine Own.only hrow (S := row.toList) ⟨hg.os, hg.tape, hg.output, hg.size, fun j hj hn => hg.block j hj (by intro e; apply hn; rw [← e]; simp)⟩ ?_
    intro j hj hm
    have hm' : row = some j := by simpa using hm
    obtain ⟨_, o, ho, hc⟩ := hr j hm'
    rw [hrow.cellsB j o hj ho] at hc; cases hc

set_option maxRecDepth 100000 in
set_option maxHeartbeats 4000000 in
theorem appendS_in {gf : Nat} {lb : Array Value} (eg : ∀ args w, (callFunc gf args).run Tryz.prog w = .ok (.enter gf args) w) {S : List (List UInt8) → Prop} {N : Nat} (hN : N ≤ 100000000) (w : World) (n : Nat) (hn : 2 ≤ n)
    (hseq : SeqStopsK Fence.wide (n - 1) Tryz.prog gf lb (fun x : List UInt8 => #[.string (bs x)]) KeepsWalks S (fun _ => True) N w) :
    CallsIn Fence.wide n Tryz.prog 105 #[.slice none 0 0, .func (.func gf) #[] lb] w fun e w' => ∃ (v : Value) (ss : List (List UInt8)), e = .returned v ∧ S ss ∧ Own w.heap.size w' v ss ∧ Below w.heap.size w w' := by
  refine callsIn_of_wp_marks Tryz.func105 rfl trivial ?_ rfl
  simp only [Tryz.ntmps105, List.size_toArray, List.length_cons, List.length_nil, Nat.reduceAdd, Nat.reduceSub, Array.replicate_succ, Array.replicate_zero, List.push_toArray, List.append_toArray, List.nil_append, List.cons_append]
  gi_wp2
  obtain ⟨W0, hW0⟩ : ∃ W0, w.alloc (.cells #[.slice none 0 0] 42) = W0 := ⟨_, rfl⟩
  have hs0 : W0.heap.size = w.heap.size + 1 := by rw [← hW0]; simp
  have hv0 : Boxed W0 w.heap.size 42 (.slice none 0 0) := by rw [← hW0]; exact Boxed.new w _ _
  have hb0 : Below w.heap.size w W0 := by rw [← hW0]; exact balloc w _
  rw [hW0]
  refine wpIn_rangeFunc_ownG (F := Fence.wide) rfl (by omega) (gf := gf) (lb := lb) rfl trivial eg hseq walksK_t (fun W l o o' hl h hc hw => walksK_b (w := W0) W l o o' hl h hc hw) hb0 (fun _ => rfl)
    (Gb w.heap.size w w.heap.size) (fun _ _ _ => False) (Gb.own (Nat.le_refl _) (by omega)) (fun _ s W W' row h _ _ => h) ⟨⟨_, hv0, Own.nil _ _⟩, hb0⟩
    (fun x => { tmps := #[.slice none 0 0, .func (.func gf) #[] lb, .pointer (some ⟨w.heap.size, 0, none⟩), undef, .slice none 0 0, .string (bs x), .func (.func gf) #[] lb, .string (bs x), undef, undef, undef, undef, undef], defers := [] }) ?assign ?body ?done ?stop
  case assign =>
    intro rp x W K hK
    gi_wp2_with fail
    exact hK
  case body =>
    rintro rp pre x W hI hlt
    obtain ⟨⟨v, hv, hrow⟩, hb⟩ := hI
    have hc := hv.cell
    obtain ⟨i0, hi, hz0, hz1, hz2⟩ := info_parts info9
    obtain ⟨k, hk⟩ : ∃ k, pre.length = k := ⟨_, rfl⟩
    obtain ⟨av, cv, hvv⟩ := hrow.len
    rw [hk] at hvv hlt
    subst hvv
    have hrow' : W.ownsRow w.heap.size 9 1 (.slice av k cv) k (sc pre) := by rw [← hk]; rw [← hk] at hrow; exact hrow
    have hsz := hb.size
    have hne := hv.not_row (e := 9) (by decide) hrow
    have HB : Hid (Below w.heap.size w W ∧ Boxed W w.heap.size 42 (.slice av k cv) ∧ pre.length = k ∧ Own w.heap.size W (.slice av k cv) pre ∧ some w.heap.size ≠ (Value.slice av k cv).ownBlock) := ⟨hb, hv, hk, hrow, hne⟩
    clear hne hk hrow hb hv
    gi_wp2_with (first
      | (gi_at_builtin; refine wpListIn_append_own _ rfl _ _ 42 rfl w.heap.size 9 i0 (.string ByteArray.empty) 1 16 und52 hi hz0 hz1 hz2 rfl (by decide) _ _ _ rfl (hrow'.alloc _) ⟨W.heap.size, 0, none⟩ 1 1 [.string (bs x)] rfl rfl (World.news_of_block (heap_alloc_new W _)) (by simp [Value.oneCell']) (by unfold maxLen; omega) (by omega) (by simp; omega) ?_; intro v' w6 hown' hg6 hnil6; obtain ⟨g', cap', rfl⟩ := ownsRow_succ hown'; have hbx : Boxed w6 w.heap.size 42 (.slice av k cv) := (HB.out.2.1.alloc _).kept hg6 HB.out.2.2.2.2; have hc6 := hbx.cell; have hf6 := hbx.frozen; go_frame)
      | gi_in)
    have hb6 : Below w.heap.size w w6 := (HB.out.1.alloc HB.out.1.size _).grown hg6 (by have := HB.out.1.size; simp; omega) (fun j e => (HB.out.2.2.2.1.lt e).1)
    have hown6 : Own w.heap.size w6 (.slice (some ⟨g', 0, none⟩) (k + 1) cap') (pre ++ [x]) := by
      unfold Own
      rw [sc_append, List.length_append, HB.out.2.2.1]
      exact hown'
    have hob : g' ≠ w.heap.size := by
      intro e
      exact hbx.not_row (e := 9) (by decide) hown6 (by rw [← e]; rfl)
    have hKO : KeepsOthers W w6 := (KeepsOthers.alloc W _).trans (KeepsOthers.of_grownBy hg6 (fun j o e ho => by
      have hj := (HB.out.2.2.2.1.lt e).2
      exact HB.out.2.2.2.1.cellsB j o e (by rw [← ho]; exact (heap_alloc_old _ _ hj).symm)))
    have hK2 := KeepsOthers.setCell w6 ⟨w.heap.size, 0, none⟩ (.slice (some ⟨g', 0, none⟩) (k + 1) cap')
    refine ⟨(hKO.trans hK2).from _, (hKO.trans hK2).walks, ⟨_, hbx.set _, ?_⟩, hb6.setCell (p := ⟨w.heap.size, 0, none⟩) (Nat.le_refl _) _⟩
    refine Own.only hown6 (Only.set w6 w.heap.size 0 _) ?_
    intro j hj hm
    simp only [Value.ownBlock, Option.some.injEq] at hj
    have : j = w.heap.size := by simpa using hm
    exact hob (hj.trans this)
  case done =>
    rintro D xs W hD hS hI hK
    obtain ⟨⟨v, hv, hrow⟩, hb⟩ := hI
    have hc := hv.cell
    gi_wp2
    refine ⟨by simp, .inl ⟨_, _, rfl, run_takeDeferred hK, ?_⟩⟩
    refine ⟨_, results_tmp rfl _ _ _, v, xs, rfl, hS, ?_, hb.trans (belowK_b (w := w) (Nat.le_refl _) W D _ _ (by omega) hK rfl rfl)⟩
    refine Own.only hrow (S := [D]) ⟨rfl, rfl, rfl, by simp, fun k hk hn => World.putObj_heap_other (by simpa using hn)⟩ ?_
    intro k hk hm
    have : k = D := by simpa using hm
    subst this
    have := hrow.cellsB k _ hk hK
    cases this
  case stop =>
    rintro D c pre W _ _ h
    exact h.elim

set_option maxHeartbeats 1000000 in
theorem collectS_in {gf : Nat} {lb : Array Value} (eg : ∀ args w, (callFunc gf args).run Tryz.prog w = .ok (.enter gf args) w) {S : List (List UInt8) → Prop} {N : Nat} (hN : N ≤ 100000000) (w : World) (n : Nat) (hn : 3 ≤ n)
    (hseq : SeqStopsK Fence.wide (n - 1 - 1) Tryz.prog gf lb (fun x : List UInt8 => #[.string (bs x)]) KeepsWalks S (fun _ => True) N w) :
    CallsIn Fence.wide n Tryz.prog 79 #[.func (.func gf) #[] lb] w fun e w' => ∃ (v : Value) (ss : List (List UInt8)), e = .returned v ∧ S ss ∧ Own w.heap.size w' v ss ∧ Below w.heap.size w w' := by
  refine callsIn_of_wp Tryz.func79 rfl trivial ?_ rfl
  simp only [Tryz.ntmps79, List.size_toArray, List.length_cons, List.length_nil, Nat.reduceAdd, Nat.reduceSub, Array.replicate_succ, Array.replicate_zero, List.push_toArray, List.append_toArray, List.nil_append, List.cons_append]
  have e70 : ∀ args w, (callFunc 105 args).run Tryz.prog w = .ok (.enter 105 args) w := enters_of Tryz.func105 (by kernel_rfl) rfl
  have HA : Hid (CallsIn Fence.wide (n - 1) Tryz.prog 105 #[.slice none 0 0, .func (.func gf) #[] lb] w fun e w' => ∃ (v : Value) (ss : List (List UInt8)), e = .returned v ∧ S ss ∧ Own w.heap.size w' v ss ∧ Below w.heap.size w w') := appendS_in eg hN w (n - 1) (by omega) hseq
  clear hseq
  clear eg
  gi_wp2_with fail
  refine ⟨trivial, fun _ => by omega, HA.out.mono ?_⟩
  rintro e W ⟨v, ss, rfl, hS, hrow, hb⟩
  gi_wp2_with fail
  go_ret
  exact ⟨v, ss, rfl, hS, hrow, hb⟩

theorem collectS_any {b cnt : Nat} {F : List UInt8 → Option Int} {w : World} (h : MP cI w b F cnt) (Bm : Nat) (hBm : Bm < w.heap.size) (hm : w.cell? ⟨Bm, 0, none⟩ = some (.map (some b))) (hN : cnt ≤ 100000000) :
    Calls Tryz.prog 79 #[.func (.func 81) #[] #[.pointer (some ⟨Bm, 0, none⟩)]] w fun e w' => ∃ (v : Value) (ss : List (List UInt8)), e = .returned v ∧ (ss.Nodup ∧ ∀ a, a ∈ ss ↔ Lk a ∧ (F a).isSome = true) ∧ Own w.heap.size w' v ss ∧ Below w.heap.size w w' :=
  (callsIn_wide (n := 6)).1 (collectS_in (enters_of Tryz.func81 (by kernel_rfl) rfl) hN w 6 (by omega) (keys_it h Bm hBm hm 4 (by omega)))
/-- a list in order is the only one -/
theorem sort_eq {α : Type} (key : α → List UInt8) : ∀ {A B : List α}, A.Perm B → A.Pairwise (fun a b => cf (key a) (key b) ≤ 0) → B.Pairwise (fun a b => cf (key a) (key b) < 0) → A = B
  | [], B, h, _, _ => (List.nil_perm.1 h).symm
  | a :: A, [], h, _, _ => by simpa using h.length_eq
  | a :: A, b :: B, h, h1, h2 => by
    have hab : a = b := by
      rcases List.mem_cons.1 (h.mem_iff.1 (List.mem_cons_self)) with e | e
      · exact e
      · rcases List.mem_cons.1 (h.mem_iff.2 (List.mem_cons_self)) with e2 | e2
        · exact e2.symm
        · have k1 := (List.pairwise_cons.1 h1).1 b e2
          have k2 := (List.pairwise_cons.1 h2).1 a e
          have := cf_neg (key a) (key b)
          omega
    subst hab
    rw [sort_eq key ((List.perm_cons a).1 h) (List.pairwise_cons.1 h1).2 (List.pairwise_cons.1 h2).2]
set_option maxHeartbeats 2000000 in
theorem sortedS_any {b cnt : Nat} {F : List UInt8 → Option Int} {w : World} (h : MP cI w b F cnt) (Bm : Nat) (hBm : Bm < w.heap.size) (hm : w.cell? ⟨Bm, 0, none⟩ = some (.map (some b))) (ns : List (List UInt8)) (hns : ns.Pairwise (fun a b => cf a b < 0)) (hlu : ∀ a ∈ ns, a.length ≤ 1000000000) (hF : ∀ a, (F a).isSome = true ↔ a ∈ ns) (hN : cnt ≤ 100000000) (hl : ns.length ≤ 100000000) :
    Calls Tryz.prog 48 #[.func (.func 81) #[] #[.pointer (some ⟨Bm, 0, none⟩)], .func (.func 27) #[] #[]] w fun e w' => ∃ (v : Value), e = .returned v ∧ Own w.heap.size w' v ns ∧ Below w.heap.size w w' := by
  have HC := hid_b (collectS_any h Bm hBm hm hN)
  have HX : Hid (ns.Pairwise (fun a b => cf a b < 0) ∧ (∀ a ∈ ns, a.length ≤ 1000000000) ∧ (∀ a, (F a).isSome = true ↔ a ∈ ns) ∧ ns.length ≤ 100000000) := ⟨hns, hlu, hF, hl⟩
  clear h hBm hm hns hlu hF hN hl
  go_enter Tryz.func48, Tryz.ntmps48
  go_wp2_with fail
  refine HC.out.mono ?_
  rintro e w1 ⟨v, ss, rfl, ⟨hnd, hmem⟩, hrow, hb⟩
  have hm2 : ∀ a, a ∈ ss ↔ a ∈ ns := fun a => by
    rw [hmem a, HX.out.2.2.1 a]
    exact ⟨fun h => h.2, fun h => ⟨by have := HX.out.2.1 a h; unfold Lk; omega, h⟩⟩
  have hnn : ns.Nodup := HX.out.1.imp (fun {a b} h e => by rw [e, cf_self] at h; omega)
  have hp : ss.Perm ns := (List.perm_ext_iff_of_nodup hnd hnn).2 hm2
  have HS := hid_b (sort_any hrow (by rw [hp.length_eq]; exact HX.out.2.2.2) (fun x hx => HX.out.2.1 x ((hm2 x).1 hx)) hb.size)
  have HE : Hid (ss.Perm ns ∧ Below w.heap.size w w1) := ⟨hp, hb⟩
  clear hnd hmem hrow hb hm2 hp hnn HC
  go_wp2_with fail
  refine HS.out.mono ?_
  rintro e w2 ⟨rfl, ts, hts, hpw, hr2, hb2⟩
  obtain rfl : ts = ns := sort_eq id (hts.trans HE.out.1) hpw HX.out.1
  go_wp2_with fail
  go_ret
  exact ⟨v, rfl, hr2, below_trans HE.out.2 hb2⟩
theorem up0 {T : TT} (hok : TOk T) : ([] :: T.ds).Pairwise (fun a b => cf a b < 0) := by
  refine List.pairwise_cons.2 ⟨fun d hd => ?_, hok.du⟩
  have hne := (hok.de d hd).1
  unfold cf
  cases e : pcs d with
  | nil => exact absurd ((pcs_eq_nil d).1 e) hne
  | cons x d => rw [pcs_nil]; exact (by decide : (-1 : Int) < 0)
set_option maxRecDepth 100000 in
set_option maxHeartbeats 2000000 in
theorem dirs_any {w : World} {F : Nat → Prop} {c : Nat} {T : TT} (h : LT w F c T) (hz : TSz 4000000 T) : Calls Tryz.prog 17 #[.pointer (some ⟨c, 0, none⟩)] w fun e w' => ∃ v, e = .returned v ∧ Oww w.heap.size w' v T.ds ∧ Below w.heap.size w w' := by
  obtain ⟨mf, md, vj, vt, lf, h, hF, hl⟩ := h
  obtain ⟨c0, c1, -⟩ := h.cells
  have hnd := hz.nd
  have HS := hid_b (sortedS_any (h.dr.later (balloc w (.cells #[.map (some md)] 71))) w.heap.size (by simp) (by simp) ([] :: T.ds) (up0 h.ok) (fun a ha => by
    rcases List.mem_cons.1 ha with rfl | ha
    · simp
    · have := (okP_len (h.ok.de a ha).2).1; omega) (fun a => by rw [dF_has, hasD_iff, List.mem_cons]) (by omega) (by simp; omega))
  have HK := hid_b (mkeys_any md w)
  clear h hF hl hz c0 hnd
  go_enter Tryz.func17, Tryz.ntmps17
  go_wp2_with fail
  refine HK.out.mono ?_
  rintro e w1 ⟨rfl, rfl⟩
  go_wp2_with fail
  refine HS.out.mono ?_
  rintro e w2 ⟨v, rfl, hr, hb⟩
  rcases hr.form with ⟨_, h0⟩ | ⟨g, cp, rfl, hle, _, _⟩
  · cases h0
  obtain ⟨n, hn⟩ : ∃ n, T.ds.length = n := ⟨_, rfl⟩
  rw [List.length_cons, hn] at hr hle ⊢
  have HO : Hid (Oww w.heap.size w2 (.slice (some ⟨g, 1, none⟩) n (cp - 1)) T.ds ∧ Below w.heap.size w w2) := ⟨(hr.tail hn).mono (by simp), bstep (balloc _ _) hb⟩
  have HZ : Hid (cp = 1 → Oww w.heap.size w2 (.slice (some ⟨g, 0, none⟩) n 0) T.ds) := fun e => by
    obtain rfl : n = 0 := by omega
    obtain ⟨cur, h1, h2, h3, h4, h5, h6⟩ := Own.wwAt hr (by simp [hn])
    have h0 : T.ds = [] := List.eq_nil_of_length_eq_zero hn
    rw [h0]
    exact .inr ⟨g, 0, 0, cur, rfl, Nat.le_trans (by simp) h1, h2, Nat.le_refl _, by unfold maxLen; omega, by omega, fun i u hu => by simp [sc] at hu⟩
  clear hr hb HS HK hn
  go_wp2_with fail
  · rename_i e1
    go_ret
    exact ⟨_, rfl, HZ.out (by omega), HO.out.2⟩
  · go_ret
    exact ⟨_, rfl, HO.out.1, HO.out.2⟩
end Go.Proofs.YtlkkmcibjhoneaaGreatDoor
