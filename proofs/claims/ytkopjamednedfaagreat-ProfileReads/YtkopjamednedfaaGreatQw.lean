/-
  Cones as a text: Write.
-/
import Derived.Test.YtkopjamednedfaaGreatQu
import Derived.Test.YtkopjamednedfaaGreatJCn
namespace Go.Proofs.YtkopjamednedfaaGreat
open Go.RowKit
attribute [local go_sem] Oper.semAt_some

theorem loadv9 (w : World) (g : Nat) (v : Value) (h : w.heap[g]? = some (.cells #[v] 9 (0, 0))) : (loadVar 9 ⟨g, 0, none⟩).run Tryz.prog w = .ok v w := by
  simp [loadVar, isAgg, run_underlying Tryz.underlying9, World.cell?, h]
theorem loadv23 (w : World) (g : Nat) (v : Value) (h : w.heap[g]? = some (.cells #[v] 23 (0, 0))) : (loadVar 23 ⟨g, 0, none⟩).run Tryz.prog w = .ok v w := by
  simp [loadVar, isAgg, run_underlying Tryz.underlying23, World.cell?, h]
theorem results_cc {fn : Func} {p u : Tmp} {ty ty' : TypeId} (h : fn.results = #[.cell p ty, .cell u ty']) (tmps : Array Value) (P : Program) (w : World) :
    (results fn tmps).run P w =
      ((asAddr (tmps.getD p undef)).run P w).andThen fun a w₁ => ((loadVar ty a).run P w₁).andThen fun v w₂ => ((asAddr (tmps.getD u undef)).run P w₂).andThen fun b w₃ => ((loadVar ty' b).run P w₃).andThen fun x w₄ => .ok (.tuple #[v, x]) w₄ := by
  simp only [results, h]
  simp [Sem.run_bind, Result.andThen]
theorem res7 {tmps : Array Value} {W : World} {G : Nat} {v x : Value} (hp : tmps.getD 2 undef = .pointer (some ⟨G, 0, none⟩)) (hq : tmps.getD 3 undef = .pointer (some ⟨G + 1, 0, none⟩))
    (h0 : W.heap[G]? = some (.cells #[v] 9 (0, 0))) (h1 : W.heap[G + 1]? = some (.cells #[x] 23 (0, 0))) : (results Tryz.f7 tmps).run Tryz.prog W = .ok (.tuple #[v, x]) W := by
  have hres : Tryz.f7.results = #[.cell 2 9, .cell 3 23] := rfl
  rw [results_cc hres, hp, hq]
  simp only [asAddr, Sem.run_pure, Result.andThen_ok]
  rw [loadv9 _ _ _ h0, Result.andThen_ok, loadv23 _ _ _ h1, Result.andThen_ok]
theorem leave7 {R : Ending → World → Prop} {tmps : Array Value} {W : World} {G D : Nat} {v x : Value} {n : Nat} (hp : tmps.getD 2 undef = .pointer (some ⟨G, 0, none⟩)) (hq : tmps.getD 3 undef = .pointer (some ⟨G + 1, 0, none⟩))
    (h0 : W.heap[G]? = some (.cells #[v] 9 (0, 0))) (h1 : W.heap[G + 1]? = some (.cells #[x] 23 (0, 0))) (hK : W.heap[D]? = some (.deferred (some []))) (hD : G + 2 ≤ D)
    (hR : R (.returned (.tuple #[v, x])) (W.putObj D (.deferred none))) :
    bodyPostM Fence.wide n Tryz.prog Tryz.f7 R .ret { tmps := tmps, defers := [{ target := .collected D, args := #[] }] } W := by
  refine ⟨by simp, .inl ⟨_, _, rfl, run_takeDeferred hK, ?_⟩⟩
  exact ⟨_, res7 hp hq ((World.putObj_heap_other (by omega)).trans h0) ((World.putObj_heap_other (by omega)).trans h1), hR⟩
theorem leave7n {R : Ending → World → Prop} {tmps : Array Value} {W : World} {G : Nat} {v x : Value} {n : Nat} (hp : tmps.getD 2 undef = .pointer (some ⟨G, 0, none⟩)) (hq : tmps.getD 3 undef = .pointer (some ⟨G + 1, 0, none⟩))
    (h0 : W.heap[G]? = some (.cells #[v] 9 (0, 0))) (h1 : W.heap[G + 1]? = some (.cells #[x] 23 (0, 0)))
    (hR : R (.returned (.tuple #[v, x])) W) :
    bodyPostM Fence.wide n Tryz.prog Tryz.f7 R .ret { tmps := tmps, defers := [] } W := ⟨_, res7 hp hq h0 h1, hR⟩
theorem set2 {w2 : World} {G : Nat} {v0 x0 : Value} (v x : Value) (h0 : Boxed w2 G 9 v0) (h1 : Boxed w2 (G + 1) 23 x0) : Boxed ((w2.setCell ⟨G, 0, none⟩ v).setCell ⟨G + 1, 0, none⟩ x) G 9 v ∧ Boxed ((w2.setCell ⟨G, 0, none⟩ v).setCell ⟨G + 1, 0, none⟩ x) (G + 1) 23 x :=
  ⟨(Boxed.set v h0).other (by omega) x, Boxed.set x (h1.other (by omega) v)⟩
theorem below_set2 {B G : Nat} {w w2 : World} (v x : Value) (h : Below B w w2) (hG : B ≤ G) : Below B w ((w2.setCell ⟨G, 0, none⟩ v).setCell ⟨G + 1, 0, none⟩ x) :=
  (h.setCell (p := ⟨G, 0, none⟩) hG _).setCell (p := ⟨G + 1, 0, none⟩) (by show B ≤ G + 1; omega) _
theorem keeps_set2 {m G : Nat} {w w2 : World} (v x : Value) (h : KeepsFrom m w w2) : KeepsFrom m w ((w2.setCell ⟨G, 0, none⟩ v).setCell ⟨G + 1, 0, none⟩ x) :=
  h.trans (((KeepsOthers.setCell _ _ _).trans (KeepsOthers.setCell _ _ _)).from m)
theorem stringK {w : World} {B b : Nat} {l : List UInt8} (h : Lib.IsBuilderF 44 5 B b (Lib.byteCells l) w) (h0 : l ≠ []) :
    Calls Tryz.prog 21 #[.pointer (some ⟨b, 0, none⟩)] w fun e w' => e = .returned (.string (bs l)) ∧ Below B w w' ∧ Lib.OthersKept 5 (some b) w w' := by
  have hS := Any.Builder_String_k Tryz.lays169 Tryz.Builder_Extra_169 B b l w h h0
  change Calls Tryz.prog 21 _ _ _ at hS
  exact hS.mono fun e w' h => ⟨h.1, h.2.2.1, h.2.2.2⟩
theorem wrt_ne (k : List (List UInt8)) : wrt k ≠ [] := by
  unfold wrt lns wrL
  split <;> simp
theorem bldF_cells {B b : Nat} {l : List UInt8} {w : World} (h : Lib.IsBuilderF 44 5 B b (Lib.byteCells l) w) : ∃ p a c, w.cell? ⟨b, 0, none⟩ = some p ∧ w.cell? ⟨b, 1, none⟩ = some (.slice a l.length c) ∧ b < w.heap.size := by
  have one : ∀ p, Lib.BuilderAtF 44 5 B b p (Lib.byteCells l) w → ∃ p a c, w.cell? ⟨b, 0, none⟩ = some p ∧ w.cell? ⟨b, 1, none⟩ = some (.slice a l.length c) ∧ b < w.heap.size := by
    rintro p ⟨_, v, h2, h3, _⟩
    have hl : (Lib.byteCells l).length = l.length := Lib.byteCells_length l
    rw [hl] at h3
    have hlt := (Array.getElem?_eq_some_iff.1 h2).1
    rcases h3.2 with ⟨rfl, h0⟩ | ⟨g, cap, cur, fz, rfl, _⟩
    · exact ⟨p, none, 0, by simp [World.cell?, h2], by rw [h0]; simp [World.cell?, h2], hlt⟩
    · exact ⟨p, some ⟨g, 0, none⟩, cap, by simp [World.cell?, h2], by simp [World.cell?, h2], hlt⟩
  rcases h with h | h
  · exact one _ h
  · exact one _ h
theorem bldF_own {B b : Nat} {l : List Value} {w w' : World} {row : Option Nat} (h : Lib.IsBuilderF 44 5 B b l w) (hg : w.grownBy w' row) (hr : ∀ r, row = some r → ∃ o : Obj, w.heap[r]? = some o ∧ o.isCells = false) : Lib.IsBuilderF 44 5 B b l w' := by
  have kept : ∀ {k : Nat} {c : Array Value} {t : TypeId} {fz : Nat × Nat}, w.heap[k]? = some (.cells c t fz) → w'.heap[k]? = some (.cells c t fz) := fun hk =>
    (hg.block _ (Array.getElem?_eq_some_iff.1 hk).1 (fun e => by
      obtain ⟨o, ho, hc⟩ := hr _ e.symm
      rw [hk] at ho; cases ho; cases hc)).trans hk
  have one : ∀ p, Lib.BuilderAtF 44 5 B b p l w → Lib.BuilderAtF 44 5 B b p l w' := by
    rintro p ⟨h1, v, h2, h3, h4⟩
    refine ⟨h1, v, kept h2, ?_, h4⟩
    rcases h3 with ⟨h0, h | ⟨g, cap, cur, f, rfl, hbb, hg, hr⟩⟩
    · exact ⟨h0, .inl h⟩
    · exact ⟨h0, .inr ⟨g, cap, cur, f, rfl, hbb, kept hg, hr⟩⟩
  rcases h with h | h
  · exact .inl (one _ h)
  · exact .inr (one _ h)
/-- what stands between two rounds -/
structure Wi (w : World) (Bb : Nat) (pre : List (List UInt8)) (W : World) : Prop where
  r0 : Boxed W w.heap.size 9 (.string ⟨#[]⟩)
  r1 : Boxed W (w.heap.size + 1) 23 (.int .i64 0)
  bld : Lib.IsBuilderF 44 5 Bb Bb (Lib.byteCells pre.flatten) W
  below : Below w.heap.size w W
  len : pre.flatten.length ≤ 65536
/-- the text was too long -/
structure Wx (w : World) (k : List (List UInt8)) (W : World) : Prop where
  r0 : Boxed W w.heap.size 9 (.string ⟨#[]⟩)
  r1 : Boxed W (w.heap.size + 1) 23 (.int .i64 18)
  below : Below w.heap.size w W
  big : ¬ (wrt k).length ≤ 65536
theorem Wi.own {w : World} {Bb m : Nat} (hm : w.heap.size ≤ m) : OwnFrom m (Wi w Bb) := by
  intro s W W' row h hg hr
  have hr' : ∀ r, row = some r → ∃ o : Obj, W.heap[r]? = some o ∧ o.isCells = false := fun r e => (hr r e).2
  exact ⟨boxed_keptR h.r0 hg hr', boxed_keptR h.r1 hg hr', bldF_own h.bld hg hr', h.below.grown hg h.below.size (fun j hj => Nat.le_trans hm (hr j hj).1), h.len⟩
theorem Wx.own {w : World} {k : List (List UInt8)} {m : Nat} (hm : w.heap.size ≤ m) : OwnFrom m (fun (_ : Unit) => Wx w k) := by
  intro s W W' row h hg hr
  have hr' : ∀ r, row = some r → ∃ o : Obj, W.heap[r]? = some o ∧ o.isCells = false := fun r e => (hr r e).2
  exact ⟨boxed_keptR h.r0 hg hr', boxed_keptR h.r1 hg hr', h.below.grown hg h.below.size (fun j hj => Nat.le_trans hm (hr j hj).1), h.big⟩
theorem lnR_len {k : List (List UInt8)} (hk : coneE k = 0) : ∀ x ∈ (dsR k).flatMap lnR, x.length ≤ 200 := by
  intro x hx
  obtain ⟨⟨d, f⟩, hd, hx⟩ := List.mem_flatMap.1 hx
  have hdl : d.length ≤ 120 := by
    unfold dsR at hd
    rcases List.mem_cons.1 hd with e | hd
    · injection e with e _; rw [e]; simp
    · have hmem : d ∈ (dsB [] k).map Prod.fst := List.mem_map_of_mem (f := Prod.fst) hd
      by_cases hr : k = [[]]
      · subst hr
        have : dsB [] [[]] = [] := by decide
        rw [this] at hd; cases hd
      · rw [dsB_dsL hk hr] at hmem
        exact (okP_len (dsL_ok hk hmem).1).1
  have h1 : (shwL d).length ≤ 200 := by unfold shwL dl; split <;> simp; omega
  have h2 : (hidL d).length ≤ 200 := by unfold hidL nl; split <;> simp; omega
  have : x = shwL d ∨ x = hidL d := by
    unfold lnR at hx
    cases f
    · simpa using hx
    · left; simpa using hx
  rcases this with rfl | rfl
  · exact h1
  · exact h2
set_option maxRecDepth 100000 in
set_option maxHeartbeats 8000000 in
theorem write_any {w : World} {u : Value} {k : List (List UInt8)} (h : SS w u k) (sk : Sm k) (hl : k.length ≤ 8000000) :
    Calls Tryz.prog 7 #[u] w fun e w' => e = .returned (.tuple #[.string (bs (pwr k).1), .int .i64 (pwr k).2]) ∧ Below w.heap.size w w' := by
  have H : Hid (KS w.heap.size w u k ∧ Sm k ∧ k.length ≤ 8000000) := ⟨KS.of h, sk, hl⟩
  obtain ⟨ad, c, rfl⟩ := h.len2
  obtain ⟨n, hn⟩ : ∃ n, k.length = n := ⟨_, rfl⟩
  rw [hn] at H ⊢
  have HN : Hid (k.length = n) := hn
  clear h sk hl hn
  refine (callsIn_wide (n := 8)).1 ?_
  refine callsIn_of_wp_marks Tryz.func7 rfl trivial ?_ rfl
  simp only [Tryz.ntmps7, List.size_toArray, List.length_cons, List.length_nil, Nat.reduceAdd, Nat.reduceSub, Array.replicate_succ, Array.replicate_zero, List.push_toArray, List.append_toArray, List.nil_append, List.cons_append]
  obtain ⟨G, hG⟩ : ∃ G, w.heap.size = G := ⟨_, rfl⟩
  obtain ⟨w1, hw1⟩ : ∃ w1, ((w.alloc (.cells #[.string ⟨#[]⟩] 9)).alloc (.cells #[.int .i64 0] 23)) = w1 := ⟨_, rfl⟩
  have H1 : Hid ((w.alloc (.cells #[.string ⟨#[]⟩] 9)).alloc (.cells #[.int .i64 0] 23) = w1 ∧ w1.heap.size = G + 2 ∧ Below w.heap.size w w1 ∧ Boxed w1 G 9 (.string ⟨#[]⟩) ∧ Boxed w1 (G + 1) 23 (.int .i64 0)) := by
    subst hG
    have x1 : Boxed (w.alloc (.cells #[.string ⟨#[]⟩] 9)) w.heap.size 9 (.string ⟨#[]⟩) := Boxed.new _ _ _
    have x2 : Boxed ((w.alloc (.cells #[.string ⟨#[]⟩] 9)).alloc (.cells #[.int .i64 0] 23)) (w.alloc (.cells #[.string ⟨#[]⟩] 9)).heap.size 23 (.int .i64 0) := Boxed.new _ _ _
    rw [show (w.alloc (.cells #[.string ⟨#[]⟩] 9)).heap.size = w.heap.size + 1 by simp, hw1] at x2
    refine ⟨hw1, by rw [← hw1]; simp, by rw [← hw1]; exact bstep (balloc _ _) (balloc _ _), ?_, x2⟩
    rw [← hw1]
    exact x1.alloc _
  have HG : Hid (w.heap.size = G) := hG
  have HV := hid_of (cvalid_any (H.out.1.1.later H1.out.2.2.1) H.out.2.1)
  clear hw1
  gi_wp2_with fail
  rw [H1.out.1]
  refine ⟨trivial, (callsIn_wide.2 HV.out).mono ?_⟩
  rintro e w2 ⟨rfl, hb2⟩
  have H2 : Hid (Below G w w2 ∧ G + 2 ≤ w2.heap.size ∧ Boxed w2 G 9 (.string ⟨#[]⟩) ∧ Boxed w2 (G + 1) 23 (.int .i64 0)) := by
    have := hb2.size
    have := H1.out.2.1
    refine ⟨by rw [← hG]; exact bstep H1.out.2.2.1 hb2, by omega, (hb2.block _ H1.out.2.2.2.1.lt).trans H1.out.2.2.2.1, (hb2.block _ H1.out.2.2.2.2.lt).trans H1.out.2.2.2.2⟩
  clear hb2 HV H1 hG
  obtain ⟨z, hz⟩ : ∃ z, coneE k = z := ⟨_, rfl⟩
  rw [hz]
  by_cases hz0 : z = 0
  · subst hz0
    have HK : Hid (coneE k = 0) := hz
    have HP : Hid (pwr k = if (wrt k).length ≤ 65536 then (wrt k, 0) else ([], 18)) := by
      show _ = _
      unfold pwr
      rw [if_pos hz]
    clear hz
    obtain ⟨w3, hw3⟩ : ∃ w3, w2.alloc (.cells #[.pointer none, .slice none 0 0] 44) = w3 := ⟨_, rfl⟩
    obtain ⟨w4, hw4⟩ : ∃ w4, w3.alloc (.cells #[.slice ad n c] 22) = w4 := ⟨_, rfl⟩
    obtain ⟨Bb, hBb⟩ : ∃ Bb, w2.heap.size = Bb := ⟨_, rfl⟩
    have H4 : Hid (w2.alloc (.cells #[.pointer none, .slice none 0 0] 44) = w3 ∧ w3.alloc (.cells #[.slice ad n c] 22) = w4 ∧ w3.heap.size = Bb + 1 ∧ w4.heap.size = Bb + 2 ∧ Wi w Bb [] w4 ∧ w4.heap[Bb + 1]? = some (.cells #[.slice ad n c] 22) ∧ G + 2 ≤ Bb) := by
      subst hBb
      have e3 : w3.heap.size = w2.heap.size + 1 := by rw [← hw3]; simp
      have b3 : Below w2.heap.size w2 w3 := by rw [← hw3]; exact balloc _ _
      have b4 : Below w3.heap.size w3 w4 := by rw [← hw4]; exact balloc _ _
      have x4 : Boxed w4 w3.heap.size 22 (.slice ad n c) := by rw [← hw4]; exact Boxed.new _ _ _
      have b24 : Below w2.heap.size w2 w4 := bstep b3 b4
      refine ⟨hw3, hw4, e3, by rw [← hw4]; simp [e3], ⟨?_, ?_, ?_, ?_, by simp⟩, by rw [e3] at x4; exact x4, H2.out.2.1⟩
      · rw [HG.out]; exact (b24.block _ H2.out.2.2.1.lt).trans H2.out.2.2.1
      · rw [HG.out]; exact (b24.block _ H2.out.2.2.2.lt).trans H2.out.2.2.2
      · refine IsBuilderF_later ?_ b4
        rw [← hw3]
        exact Lib.IsBuilderF.of (Lib.fresh_isBuilder 44 5 w2)
      · have := H2.out.1
        rw [← HG.out] at this
        exact bstep this b24
    clear hw3 hw4 H2
    gi_wp2_with fail
    rw [H4.out.1]
    refine ⟨trivial, (callsIn_wide.2 (lines0_any ad n c w3)).mono ?_⟩
    rintro e w5 ⟨rfl, ew5⟩
    rw [H4.out.2.1] at ew5
    subst ew5
    rw [H4.out.2.2.1]
    clear hBb
    gi_wp2_with fail
    have hGs := HG.out
    refine range_own (gf := 36) (lb := #[.pointer (some ⟨Bb + 1, 0, none⟩)]) rfl (enters_of Tryz.func36 (by kernel_rfl) rfl) (encs := fun x : List UInt8 => #[.string (bs x)]) (fun _ => rfl)
      (lines_seq (Bl := Bb + 1) (n₀ := w.heap.size) (b := Bb) HK.out HN.out (by have := H.out.2.2; omega) H4.out.2.2.2.2.2.1 (H.out.1.below H4.out.2.2.2.2.1.below) H4.out.2.2.2.2.1.below.size (by have := H4.out.2.2.2.1; omega)) (Below.refl _ _)
      (Kz.round H4.out.2.2.2.2.1.below.size)
      (Wi w Bb) (Wx w k) (Wi.own H4.out.2.2.2.2.1.below.size) (Wx.own H4.out.2.2.2.2.1.below.size) H4.out.2.2.2.2.1
      (fun x => { tmps := #[.slice ad n c, undef, .pointer (some ⟨G, 0, none⟩), .pointer (some ⟨G + 1, 0, none⟩), .int .i64 0, .pointer (some ⟨Bb, 0, none⟩), .string (bs x), .slice ad n c, .int .i64 0, .int .i64 0, .bool false, undef, .slice ad n c, .func (.func 36) #[] #[.pointer (some ⟨Bb + 1, 0, none⟩)], .string (bs x), undef, undef, undef, undef, undef, undef, undef, undef], defers := [] }) ?assign ?body ?done ?stop
    case assign =>
      intro l x W K hK
      gi_wp2_with fail
      exact hK
    case body =>
      rintro l pre x W hl hI hx
      have HI : Hid (Wi w Bb pre W) := hI
      obtain ⟨rr, hrr⟩ := hx
      have hxl : x.length ≤ 200 := lnR_len HK.out x (by rw [hrr]; simp)
      have HX : Hid (wrt k = pre.flatten ++ (x ++ rr.flatten)) := by
        show _ = _
        rw [← wrt_lnR HK.out, hrr]
        simp
      have hpl := hI.len
      obtain ⟨p, a, cc, c0, c1, hbl⟩ := bldF_cells hI.bld
      obtain ⟨m, hm⟩ : ∃ m, pre.flatten.length = m := ⟨_, rfl⟩
      obtain ⟨q, hq⟩ : ∃ q, x.length = q := ⟨_, rfl⟩
      rw [hm] at hpl c1
      rw [hq] at hxl
      have z1 : (bs x).size = q := hq
      have HM : Hid (pre.flatten.length = m ∧ x.length = q) := ⟨hm, hq⟩
      have g0 := hI.r0.cell
      have g1 := hI.r1.cell
      have f0 := hI.r0.frozen
      have f1 := hI.r1.frozen
      rw [HG.out] at g0 g1 f0 f1
      have HLN := hid_of (lenB_any c1 c0)
      clear hI hrr hm hq c0 c1
      gi_wp2_with fail
      refine ⟨trivial, (CallsIn.inRound l (callsIn_wide.2 HLN.out)).mono ?_⟩
      rintro e W1 ⟨rfl, eW1⟩
      subst eW1
      clear HLN
      by_cases hbig : 65536 < m + q
      · have hb1 : (65536 : Int) < (m : Int) + (q : Int) := by omega
        gi_wp2_with fail
        obtain ⟨b0, b1⟩ := set2 (.string ⟨#[]⟩) (.int .i64 18) (by have := HI.out.r0; rw [HG.out] at this; exact this) (by have := HI.out.r1; rw [HG.out] at this; exact this)
        refine ⟨keeps_set2 _ _ (KeepsFrom.refl _ _), ⟨by rw [HG.out]; exact b0, by rw [HG.out]; exact b1, below_set2 _ _ HI.out.below (by rw [HG.out]; exact Nat.le_refl _), ?_⟩⟩
        rw [HX.out]
        have := HM.out
        simp only [List.length_append]
        omega
      · have hb1 : ¬ ((65536 : Int) < (m : Int) + (q : Int)) := by omega
        clear g0 g1 f0 f1
        have HWR := hid_of (writeK x HI.out.bld (by have := HM.out; omega) (by omega))
        gi_wp2_with fail
        refine ⟨trivial, (CallsIn.inRound l (callsIn_wide.2 HWR.out)).mono ?_⟩
        rintro e W2 ⟨v2, rfl, hi2, hb2, ho2⟩
        have H2 : Hid (Lib.IsBuilderF 44 5 Bb Bb (Lib.byteCells (pre.flatten ++ x)) W2 ∧ Below Bb W1 W2 ∧ Lib.OthersKept 5 (some Bb) W1 W2) := ⟨hi2, hb2, ho2⟩
        clear hi2 hb2 ho2 HWR
        gi_wp2_with fail
        have hkz : Kz w.heap.size Bb W1 W2 := ⟨below_mono H2.out.2.1 (by have := H4.out.2.2.2.2.2.2; have := HG.out; omega), H2.out.2.2⟩
        refine ⟨hkz.keeps (by have := H4.out.2.2.2.1; omega), hkz, ⟨?_, ?_, ?_, ?_, ?_⟩⟩
        · exact (H2.out.2.1.block _ (by have := H4.out.2.2.2.2.2.2; have := HG.out; omega)).trans HI.out.r0
        · exact (H2.out.2.1.block _ (by have := H4.out.2.2.2.2.2.2; have := HG.out; omega)).trans HI.out.r1
        · rw [List.flatten_append]; simpa using H2.out.1
        · exact HI.out.below.trans hkz.below
        · have := HM.out
          rw [List.flatten_append]
          simp
          simp at this
          omega
    case done =>
      intro D W hD hI hK
      have HI : Hid (Wi w Bb ((dsR k).flatMap lnR) W) := hI
      have hws := wrt_lnR HK.out
      have hbd := hI.bld
      rw [hws] at hbd
      have HST := hid_of (stringK hbd (wrt_ne k))
      have HLE : Hid ((wrt k).length ≤ 65536) := by have := hI.len; rw [hws] at this; exact this
      have HKD : Hid (W.heap[D]? = some (.deferred (some [])) ∧ Bb + 2 ≤ D) := ⟨hK, by have := H4.out.2.2.2.1; omega⟩
      clear hI hK hws hbd
      gi_wp2_with fail
      refine ⟨trivial, (callsIn_wide.2 HST.out).mono ?_⟩
      rintro e W2 ⟨rfl, hb2, ho2⟩
      have x0 : Boxed W2 G 9 (.string ⟨#[]⟩) := by
        have := HI.out.r0
        rw [HG.out] at this
        exact (hb2.block _ (by have := H4.out.2.2.2.2.2.2; omega)).trans this
      have x1 : Boxed W2 (G + 1) 23 (.int .i64 0) := by
        have := HI.out.r1
        rw [HG.out] at this
        exact (hb2.block _ (by have := H4.out.2.2.2.2.2.2; omega)).trans this
      have c0 := x0.cell
      have c1 := x1.cell
      have f0 := x0.frozen
      have f1 := x1.frozen
      have H2 : Hid (Boxed W2 G 9 (.string ⟨#[]⟩) ∧ Boxed W2 (G + 1) 23 (.int .i64 0) ∧ W2.heap[D]? = some (.deferred (some [])) ∧ Below w.heap.size w W2) := by
        refine ⟨x0, x1, ho2 D _ HKD.out.1 (by have := HKD.out.2; simp; omega) (fun c fz e => by cases e), HI.out.below.trans (below_mono hb2 (by have := H4.out.2.2.2.2.2.2; have := HG.out; omega))⟩
      clear hb2 ho2 x0 x1 HST
      gi_wp2_with fail
      obtain ⟨b0, b1⟩ := set2 (.string (bs (wrt k))) (.int .i64 0) H2.out.1 H2.out.2.1
      have hG2 : G + 2 ≤ D := by have := H4.out.2.2.2.2.2.2; have := HKD.out.2; omega
      refine leave7 (G := G) rfl rfl b0 b1 ?_ hG2 ?_
      · rw [Below.heap_setCell _ _ _ _ (by show D ≠ G + 1; omega), Below.heap_setCell _ _ _ _ (by show D ≠ G; omega)]; exact H2.out.2.2.1
      · refine ⟨by rw [HP.out, if_pos HLE.out], ?_⟩
        have hd3 : ((W2.setCell ⟨G, 0, none⟩ (.string (bs (wrt k)))).setCell ⟨G + 1, 0, none⟩ (.int .i64 0)).heap[D]? = some (.deferred (some [])) := by
          rw [Below.heap_setCell _ _ _ _ (by show D ≠ G + 1; omega), Below.heap_setCell _ _ _ _ (by show D ≠ G; omega)]; exact H2.out.2.2.1
        exact (below_set2 _ _ H2.out.2.2.2 (by rw [HG.out]; exact Nat.le_refl _)).trans (belowK_b (w := w) (Nat.le_refl _) _ D _ _ (by have := HG.out; omega) hd3 rfl rfl)
    case stop =>
      intro D W hD hI hK
      gi_wp2_with fail
      refine leave7 (G := G) rfl rfl (by have := hI.r0; rw [HG.out] at this; exact this) (by have := hI.r1; rw [HG.out] at this; exact this) hK (by have := H4.out.2.2.2.1; have := H4.out.2.2.2.2.2.2; omega) ?_
      refine ⟨by rw [HP.out, if_neg hI.big]; rfl, ?_⟩
      exact hI.below.trans (belowK_b (w := w) (Nat.le_refl _) W D _ _ (by have := H4.out.2.2.2.1; have := H4.out.2.2.2.2.2.2; omega) hK rfl rfl)
  · have HE : Hid (pwr k = ([], 13)) := by
      show _ = _
      unfold pwr
      rw [if_neg (by rw [hz]; exact hz0)]
    have hz13 : z = 13 := by
      rw [← hz]
      unfold coneE at hz ⊢
      split
      · rename_i h1
        rw [if_pos h1] at hz
        exact absurd hz.symm hz0
      · rfl
    subst hz13
    have c0 := H2.out.2.2.1.cell
    have c1 := H2.out.2.2.2.cell
    have f0 := H2.out.2.2.1.frozen
    have f1 := H2.out.2.2.2.frozen
    clear hz
    gi_wp2_with fail
    obtain ⟨b0, b1⟩ := set2 (.string ⟨#[]⟩) (.int .i64 13) H2.out.2.2.1 H2.out.2.2.2
    refine leave7n (G := G) rfl rfl b0 b1 ⟨by rw [HE.out]; rfl, ?_⟩
    have hGs := HG.out
    rw [hGs]
    exact below_set2 _ _ H2.out.1 (Nat.le_refl _)
end Go.Proofs.YtkopjamednedfaaGreat
