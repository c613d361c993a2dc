/-
  The package: a text read.
-/
import Derived.Test.YtgibjnfaagnbfadGreatDoorLines
import Derived.Test.YtgibjnfaagnbfadGreatDoorPrint
namespace Go.Proofs.YtgibjnfaagnbfadGreatDoor
open Go.RowKit Go.Shelf
attribute [local go_sem] Oper.semAt_some

theorem rdl_snoc : ∀ (a : List (List UInt8)) (x : List UInt8), rdl (a ++ [x]) = match rdl a, fileOf (cutAt 32 (chop x)) with | some l, some f => some (l ++ [f]) | _, _ => none
  | [], x => by
    simp only [List.nil_append, rdl]
    cases fileOf (cutAt 32 (chop x)) <;> rfl
  | y :: r, x => by
    rw [List.cons_append, rdl, rdl_snoc r x, rdl]
    cases fileOf (cutAt 32 (chop y)) <;> cases rdl r <;> cases fileOf (cutAt 32 (chop x)) <;> rfl
theorem rdl_none (a : List (List UInt8)) (x : List UInt8) (r : List (List UInt8)) (h : fileOf (cutAt 32 (chop x)) = none) : rdl (a ++ x :: r) = none := by
  induction a with
  | nil => simp [rdl, h]
  | cons y s ih => rw [List.cons_append, rdl, ih]; cases fileOf (cutAt 32 (chop y)) <;> rfl
theorem cut_mem_len (c : UInt8) : ∀ (l : List UInt8), ∀ p ∈ cutAt c l, p.length ≤ l.length
  | [], p, h => by simp [cutAt] at h; subst h; simp
  | x :: r, p, h => by
    have ih := cut_mem_len c r
    rw [cutAt] at h
    split at h
    · rcases List.mem_cons.1 h with rfl | h
      · simp
      · have := ih p h; simp; omega
    · cases hc : cutAt c r with
      | nil => exact absurd hc (cutAt_ne c r)
      | cons a t =>
        rw [hc] at h
        simp only at h
        rcases List.mem_cons.1 h with rfl | h
        · have := ih a (by rw [hc]; simp); simp; omega
        · have := ih p (by rw [hc]; simp [h]); simp; omega
theorem chop_len (l : List UInt8) : (chop l).length ≤ l.length := by
  unfold chop Lib.trimSuffix; split <;> simp
theorem unhex_len (l t : List UInt8) (h : unhex l = some t) : t.length ≤ l.length := by have := unhex_even l t h; omega
theorem fileOf_ok {W : List (List UInt8)} {f : Fl} (h : fileOf W = some f) (hW : ∀ p ∈ W, p.length ≤ 4194304) : Fok f := by
  match W, h, hW with
  | [k, p, q], h, hW =>
    simp only [fileOf] at h
    split at h
    · cases hu : unhex q with
      | none => rw [hu] at h; simp at h
      | some t =>
        rw [hu] at h
        simp at h
        subst h
        have h1 := hW p (by simp)
        have h2 := hW q (by simp)
        have h3 := unhex_len q t hu
        exact ⟨h1, by show t.length ≤ 4194304; omega, by simp, by simp, by simp only; omega, by simp only; omega⟩
    · cases h
  | [k, p, x, y], h, hW =>
    simp only [fileOf] at h
    split at h
    · cases hx : Lib.atoiAll x with
      | ok m =>
        cases hy : Lib.atoiAll y with
        | ok n =>
          rw [hx, hy] at h
          simp at h
          subst h
          have h1 := hW p (by simp)
          have h2 := Lib.atoiAll_bounds hx
          have h3 := Lib.atoiAll_bounds hy
          exact ⟨h1, by simp, h2.1, h2.2, h3.1, h3.2⟩
        | «syntax» => rw [hx, hy] at h; simp at h
        | range => rw [hx, hy] at h; simp at h
      | «syntax» => rw [hx] at h; simp at h
      | range => rw [hx] at h; simp at h
    · cases h
theorem lns_len : ∀ (s : List UInt8), (lns s).length ≤ s.length ∧ ∀ x ∈ lns s, x.length ≤ s.length
  | [] => by simp [lns]
  | x :: r => by
    obtain ⟨h1, h2⟩ := lns_len r
    rw [lns]
    split
    · refine ⟨by simp; omega, fun y hy => ?_⟩
      rcases List.mem_cons.1 hy with rfl | hy
      · simp
      · have := h2 y hy; simp; omega
    · cases hl : lns r with
      | nil => refine ⟨by simp, fun y hy => ?_⟩; simp at hy; subst hy; simp
      | cons a t =>
        rw [hl] at h1 h2
        simp only
        refine ⟨by simp at h1 ⊢; omega, fun y hy => ?_⟩
        rcases List.mem_cons.1 hy with rfl | hy
        · have := h2 a (by simp); simp; omega
        · have := h2 y (by simp [hy]); simp; omega

theorem fileOf_any {w : World} {v : Value} {W : List (List UInt8)} (h : SS w v W) (hW : ∀ p ∈ W, p.length ≤ 4194304) (E : Env w) :
    Calls Tryz.prog 28 #[v] w fun e w' => ∃ f ok, e = .returned (.tuple #[f.val, .bool ok]) ∧ Below w.heap.size w w' ∧ Told W f ok := by
  by_cases h3 : W.length = 3
  · match W, h3, h, hW with
    | [k, p, q], _, h, hW => exact fileOf_three h (hW q (by simp)) E
  · by_cases h4 : W.length = 4
    · match W, h4, h, hW with
      | [k, p, x, y], _, h, hW => exact fileOf_four h (hW x (by simp)) (hW y (by simp)) E
    · exact fileOf_len h h3 h4

theorem src_file2 (w : World) (o : Obj) (f : Fl) : Src Tryz.prog 4 22 (.slice (some ⟨w.heap.size + 1, 0, none⟩) 1 1) [f].length (fc [f]) ((w.alloc o).alloc (.cells #[.string (bs f.path), .string (bs f.text), .int .i64 f.blob, .int .i64 f.size] 26)) := by
  have := src_file (w.alloc o) f
  rwa [World.size_alloc] at this
/-- append of files, in a round -/
theorem app_files_in {F : Fence} {nF : Nat} {w : World} {base : Nat} {v x : Value} {l k : List Fl} (hown : OwnF base w v l) (hs : Src Tryz.prog 4 22 x k.length (fc k) w) (hb : l.length + k.length ≤ 100000000) (hbase : base ≤ w.heap.size)
    {ops : Array Oper} {rest : List Oper} {o : Oper} {a : Act} {Q : Exit → Act → World → Prop} (hgd : o.guard = none) (s y : Operand)
    (ho : o.op = .call { callee := .builtin .append, args := #[s, y], argTypes := #[22, 22] }) (hv : a.eval s = v) (hx : a.eval y = x)
    (h : ∀ v' w', OwnF base w' v' (l ++ k) → w.grownBy w' v.ownBlock → (v'.ownBlock = v.ownBlock ∨ v'.ownBlock = some w.heap.size) → wpListIn F nF Tryz.prog ops Q rest (a.put o.dst v') w') :
    wpListIn F nF Tryz.prog ops Q (o :: rest) a w := by
  obtain ⟨i0, hi, hz0, hz1, hz2⟩ := info_parts info26
  refine wpListIn_plain hgd fun K hK => ?_
  obtain ⟨v', w', hr, h2, h3, h4⟩ := run_append_src (P := Tryz.prog) w base 22 22 o.type 26 i0 _ 4 48 und22 hi hz0 hz1 hz2 rfl v l.length (fc l) hown x k.length (fc k) hs (by simp only [maxLen]; omega) (by omega) hbase
  unfold Oper.wpIn
  refine ⟨by simp [Oper.about, ho, resolve, Target.leads, Sem.run_pure], ?_⟩
  rw [Oper.semAt_plain F _ _ (by rw [ho]; intro c hc'; cases hc')]
  simp [execOp, ho, resolve, invoke, builtin, hv, hx, hr, Result.andThen]
  exact hK _ _ (h v' w' (by unfold OwnF; rw [fc_append, List.length_append]; exact h2) h3 h4)

/-- the boxes of what is given back -/
structure Bx (w : World) (G : Nat) (e : Int) (W : World) : Prop where
  r0 : W.heap[G]? = some (.cells #[.slice none 0 0] 22 (0, 0))
  r1 : W.heap[G + 1]? = some (.cells #[.int .i64 e] 27 (0, 0))
  bel : Below G w W
theorem blk_grown {A B : World} {b k : Nat} {o : Obj} (hg : A.grownBy B (some b)) (hk : k ≠ b) (h : A.heap[k]? = some o) : B.heap[k]? = some o :=
  (hg.block k (Array.getElem?_eq_some_iff.1 h).1 (fun e => by injection e with e; exact hk e)).trans h
theorem Bx.grown {w : World} {G : Nat} {e : Int} {A B : World} {b : Nat} (h : Bx w G e A) (hg : A.grownBy B (some b)) (hb : G + 2 ≤ b) : Bx w G e B :=
  ⟨blk_grown hg (by omega) h.r0, blk_grown hg (by omega) h.r1, h.bel.grown hg (by have := (Array.getElem?_eq_some_iff.1 h.r0).1; omega) (fun k hk => by injection hk with hk; omega)⟩
/-- between two lines -/
structure InR (w : World) (G : Nat) (pre : List (List UInt8)) (W : World) (v : Value) (l : List Fl) : Prop where
  bx : Bx w G 0 W
  box : W.heap[G + 2]? = some (.cells #[v] 22 (0, 0))
  own : OwnF (G + 4) W v l
  red : rdl pre = some l
  len : l.length = pre.length
  ok : ∀ f ∈ l, Fok f
  big : G + 4 ≤ W.heap.size
theorem InR.grown {w : World} {G : Nat} {pre : List (List UInt8)} {A B : World} {v : Value} {l : List Fl} {b : Nat} (h : InR w G pre A v l) (hg : A.grownBy B (some b)) (hb : G + 3 ≤ b) (hn : ∀ k, v.ownBlock = some k → k ≠ b) : InR w G pre B v l := by
  refine ⟨h.bx.grown hg (by omega), blk_grown hg (by omega) h.box, ?_, h.red, h.len, h.ok, Nat.le_trans h.big hg.size⟩
  rcases h.own with ⟨h0, h1 | ⟨g, cap, cur, rfl, hbb, hgg, hr⟩⟩
  · exact ⟨h0, .inl h1⟩
  · exact ⟨h0, .inr ⟨g, cap, cur, rfl, hbb, blk_grown hg (hn g rfl) hgg, hr⟩⟩
theorem own_cells {base : Nat} {A : World} {v : Value} {l : List Fl} (h : OwnF base A v l) {k : Nat} (hk : v.ownBlock = some k) : ∃ cs t fr, A.heap[k]? = some (.cells cs t fr) := by
  rcases h.2 with ⟨rfl, _⟩ | ⟨g, cap, cur, rfl, _, hg, _⟩
  · simp [Value.ownBlock] at hk
  · simp [Value.ownBlock] at hk; subst hk; exact ⟨_, _, _, hg⟩

/-- a round that goes on -/
theorem InR.next {w : World} {G : Nat} {pre : List (List UInt8)} {W w3 w5 : World} {v v5 : Value} {lf : List Fl} {f : Fl} {x : List UInt8} {o1 o2 : Obj} (hi : InR w G pre W v lf) (hb : Below W.heap.size W w3) (hg : ((w3.alloc o1).alloc o2).grownBy w5 v.ownBlock)
    (ho : OwnF (G + 4) w5 v5 (lf ++ [f])) (hf : fileOf (cutAt 32 (chop x)) = some f) (hok : Fok f) :
    Still (G + 4) W (w5.setCell ⟨G + 2, 0, none⟩ v5) ∧ (w5.setCell ⟨G + 2, 0, none⟩ v5).heap[G + 3]? = W.heap[G + 3]? ∧ ∃ v l, InR w G (pre ++ [x]) (w5.setCell ⟨G + 2, 0, none⟩ v5) v l := by
  have h4 := hi.big
  have hB : Below W.heap.size W ((w3.alloc o1).alloc o2) := (hb.alloc hb.size o1).alloc (by have := hb.size; simp; omega) o2
  have same5 : ∀ k, k < W.heap.size → (∀ j, v.ownBlock = some j → k ≠ j) → w5.heap[k]? = W.heap[k]? := fun k hk hn => by
    rw [hg.block k (Nat.lt_of_lt_of_le hk hB.size) (fun e => by
      cases ho2 : v.ownBlock with
      | none => rw [ho2] at e; cases e
      | some j => rw [ho2] at e; injection e with e; exact hn j ho2 e)]
    exact hB.block k hk
  have same : ∀ k, k < W.heap.size → k ≠ G + 2 → (∀ j, v.ownBlock = some j → k ≠ j) → (w5.setCell ⟨G + 2, 0, none⟩ v5).heap[k]? = W.heap[k]? := fun k hk h2 hn => by
    rw [Below.heap_setCell _ _ _ _ (by exact h2)]
    exact same5 k hk hn
  have hown : ∀ j, v.ownBlock = some j → G + 4 ≤ j := fun j hj => (hi.own.lt hj).1
  have hlow : ∀ k, k < G + 4 → ∀ j, v.ownBlock = some j → k ≠ j := fun k hk j hj => by have := hown j hj; omega
  refine ⟨fun k o hk hk2 hc => ?_, same (G + 3) (by omega) (by omega) (hlow _ (by omega)), v5, lf ++ [f], ?_⟩
  · rw [same k (Array.getElem?_eq_some_iff.1 hk2).1 (by omega) (fun j hj e => ?_)]
    · exact hk2
    · subst e
      obtain ⟨cs, t, fr, h9⟩ := own_cells hi.own hj
      rw [h9] at hk2
      injection hk2 with hk2
      subst hk2
      simp [Obj.isCells] at hc
  · have hsz : W.heap.size ≤ w5.heap.size := Nat.le_trans hB.size hg.size
    refine ⟨⟨(same G (by omega) (by omega) (hlow _ (by omega))).trans hi.bx.r0, (same (G + 1) (by omega) (by omega) (hlow _ (by omega))).trans hi.bx.r1, ?_⟩, ?_, ?_, ?_, by rw [List.length_append, List.length_append, hi.len]; rfl, ?_, by simp [World.setCell]; omega⟩
    · refine Below.setCell (p := ⟨G + 2, 0, none⟩) ?_ (by show G ≤ G + 2; omega) _
      exact (below_trans hi.bx.bel (below_mono hB (by omega))).grown hg (by have := hB.size; omega) (fun k hk => by have := hown k hk; omega)
    · rw [heap_setCell _ _ _ _ ((same5 (G + 2) (by omega) (hlow _ (by omega))).trans hi.box)]; rfl
    · refine ho.only (Only.set w5 (G + 2) 0 v5) (fun k hk => ?_)
      have := (ho.lt hk).1
      simp; omega
    · rw [rdl_snoc, hi.red, hf]
    · intro g hg2
      rcases List.mem_append.1 hg2 with h | h
      · exact hi.ok g h
      · obtain rfl : g = f := by simpa using h
        exact hok
/-- a line that tells of no file -/
theorem InR.bad {w : World} {G : Nat} {pre : List (List UInt8)} {W w3 : World} {v : Value} {lf : List Fl} {o1 : Obj} (hi : InR w G pre W v lf) (hb : Below W.heap.size W w3) :
    Still (G + 4) W (((w3.setCell ⟨G, 0, none⟩ (.slice none 0 0)).setCell ⟨G + 1, 0, none⟩ (.int .i64 18)).alloc o1) ∧ Bx w G 18 (((w3.setCell ⟨G, 0, none⟩ (.slice none 0 0)).setCell ⟨G + 1, 0, none⟩ (.int .i64 18)).alloc o1) := by
  have h4 := hi.big
  have hz := hb.size
  have e0 : ∀ k, k < W.heap.size → (((w3.setCell ⟨G, 0, none⟩ (.slice none 0 0)).setCell ⟨G + 1, 0, none⟩ (.int .i64 18)).alloc o1).heap[k]? = ((w3.setCell ⟨G, 0, none⟩ (.slice none 0 0)).setCell ⟨G + 1, 0, none⟩ (.int .i64 18)).heap[k]? := fun k hk => Below.heap_alloc _ _ _ (by simp [World.setCell]; omega)
  refine ⟨fun k o hk hk2 _ => ?_, ?_, ?_, ?_⟩
  · have hkl := (Array.getElem?_eq_some_iff.1 hk2).1
    rw [e0 k hkl, Below.heap_setCell _ _ _ _ (by show k ≠ G + 1; omega), Below.heap_setCell _ _ _ _ (by show k ≠ G; omega), hb.block k hkl]
    exact hk2
  · rw [e0 G (by omega), Below.heap_setCell _ _ _ _ (by show G ≠ G + 1; omega), heap_setCell _ _ _ _ ((hb.block G (by omega)).trans hi.bx.r0)]; rfl
  · rw [e0 (G + 1) (by omega), heap_setCell _ _ _ _ ((Below.heap_setCell _ _ _ _ (by show G + 1 ≠ G; omega)).trans ((hb.block (G + 1) (by omega)).trans hi.bx.r1))]; rfl
  · refine Below.alloc ?_ (by simp [World.setCell]; omega) _
    exact ((below_trans hi.bx.bel (below_mono hb (by omega))).setCell (p := ⟨G, 0, none⟩) (Nat.le_refl _) _).setCell (p := ⟨G + 1, 0, none⟩) (by show G ≤ G + 1; omega) _


theorem u22 : Tryz.prog.underlying 22 = some (.slice 26) := by kernel_rfl
theorem loadv22 (w : World) (g : Nat) (v : Value) (h : w.heap[g]? = some (.cells #[v] 22 (0, 0))) : (loadVar 22 ⟨g, 0, none⟩).run Tryz.prog w = .ok v w := by
  simp [loadVar, isAgg, run_underlying u22, World.cell?, h]
theorem loadv27 (w : World) (g : Nat) (v : Value) (h : w.heap[g]? = some (.cells #[v] 27 (0, 0))) : (loadVar 27 ⟨g, 0, none⟩).run Tryz.prog w = .ok v w := by
  simp [loadVar, isAgg, run_underlying Tryz.underlying27, World.cell?, h]
theorem results_cc {fn : Func} {p u : Tmp} {ty ty' : TypeId} (h : fn.results = #[.cell p ty, .cell u ty']) (tmps : Array Value) (P : Program) (w : World) :
    (results fn tmps).run P w =
      ((asAddr (tmps.getD p undef)).run P w).andThen fun a w₁ => ((loadVar ty a).run P w₁).andThen fun v w₂ => ((asAddr (tmps.getD u undef)).run P w₂).andThen fun b w₃ => ((loadVar ty' b).run P w₃).andThen fun x w₄ => .ok (.tuple #[v, x]) w₄ := by
  simp only [results, h]
  simp [Sem.run_bind, Result.andThen]
theorem leave12 {R : Ending → World → Prop} {tmps : Array Value} {W : World} {G D : Nat} {v x : Value} (hp : tmps.getD 2 undef = .pointer (some ⟨G, 0, none⟩)) (hq : tmps.getD 3 undef = .pointer (some ⟨G + 1, 0, none⟩))
    (h0 : W.heap[G]? = some (.cells #[v] 22 (0, 0))) (h1 : W.heap[G + 1]? = some (.cells #[x] 27 (0, 0))) (hK : W.heap[D]? = some (.deferred (some []))) (hD : G + 4 ≤ D)
    (hR : R (.returned (.tuple #[v, x])) (W.putObj D (.deferred none))) :
    bodyPostM Fence.wide 9 Tryz.prog Tryz.f12 R .ret { tmps := tmps, defers := [{ target := .collected D, args := #[] }] } W := by
  refine ⟨by simp, .inl ⟨_, _, rfl, run_takeDeferred hK, ?_⟩⟩
  have g0 : (W.putObj D (.deferred none)).heap[G]? = some (.cells #[v] 22 (0, 0)) := (World.putObj_heap_other (by omega)).trans h0
  have g1 : (W.putObj D (.deferred none)).heap[G + 1]? = some (.cells #[x] 27 (0, 0)) := (World.putObj_heap_other (by omega)).trans h1
  refine ⟨.tuple #[v, x], ?_, hR⟩
  have hres : Tryz.f12.results = #[.cell 2 22, .cell 3 27] := rfl
  rw [results_cc hres, hp, hq]
  simp only [asAddr, Sem.run_pure, Result.andThen_ok]
  rw [loadv22 _ _ _ g0, Result.andThen_ok, loadv27 _ _ _ g1, Result.andThen_ok]
theorem Only.put (W : World) (D : Nat) (o : Obj) : Only [D] W (W.putObj D o) :=
  ⟨rfl, rfl, rfl, by simp, fun k _ hn => World.putObj_heap_other (fun e => hn (by simp [e]))⟩
theorem InR.out {w : World} {G D : Nat} {pre : List (List UInt8)} {W w2 : World} {v v' x' : Value} {l l' : List Fl} {o : Obj} (hi : InR w G pre W v l) (hb : Below W.heap.size W w2) (hD : G + 4 ≤ D) (hK : W.heap[D]? = some (.deferred (some [])))
    (hown : OwnF (G + 4) w2 v' l') :
    OwnF G (((w2.setCell ⟨G, 0, none⟩ v').setCell ⟨G + 1, 0, none⟩ x').putObj D o) v' l' ∧ Below G w (((w2.setCell ⟨G, 0, none⟩ v').setCell ⟨G + 1, 0, none⟩ x').putObj D o) := by
  have hD2 : w2.heap[D]? = some (.deferred (some [])) := (hb.block D (Array.getElem?_eq_some_iff.1 hK).1).trans hK
  have hz := hb.size
  have h4 := hi.big
  refine ⟨?_, ?_⟩
  · refine OwnF.mono ?_ (Nat.le_add_right G 4)
    have hn : ∀ k, v'.ownBlock = some k → k ≠ D := fun k hk e => by
      subst e
      obtain ⟨cs, t, fr, h⟩ := own_cells hown hk
      rw [hD2] at h
      cases h
    refine OwnF.only (OwnF.only (OwnF.only hown (Only.set w2 G 0 v') (fun k hk => ?_)) (Only.set _ (G + 1) 0 x') (fun k hk => ?_)) (Only.put _ D o) (fun k hk => by simp; exact hn k hk)
    · have := (hown.lt hk).1
      simp; omega
    · have := (hown.lt hk).1
      simp; omega
  · refine Below.grown ?_ (grownBy_putObj' _ D o) (by simp [World.setCell]; omega) (fun k hk => by injection hk with hk; omega)
    exact ((below_trans hi.bx.bel (below_mono hb (by omega))).setCell (p := ⟨G, 0, none⟩) (Nat.le_refl _) _).setCell (p := ⟨G + 1, 0, none⟩) (by show G ≤ G + 1; omega) _
theorem out_cells {w2 : World} {G D : Nat} {v' x' : Value} (h0 : w2.heap[G]? = some (.cells #[.slice none 0 0] 22 (0, 0))) (h1 : w2.heap[G + 1]? = some (.cells #[.int .i64 0] 27 (0, 0))) (hK : w2.heap[D]? = some (.deferred (some []))) (hD : G + 4 ≤ D) :
    ((w2.setCell ⟨G, 0, none⟩ v').setCell ⟨G + 1, 0, none⟩ x').heap[G]? = some (.cells #[v'] 22 (0, 0)) ∧ ((w2.setCell ⟨G, 0, none⟩ v').setCell ⟨G + 1, 0, none⟩ x').heap[G + 1]? = some (.cells #[x'] 27 (0, 0)) ∧
    ((w2.setCell ⟨G, 0, none⟩ v').setCell ⟨G + 1, 0, none⟩ x').heap[D]? = some (.deferred (some [])) := by
  refine ⟨?_, ?_, ?_⟩
  · rw [Below.heap_setCell _ _ _ _ (by show G ≠ G + 1; omega), heap_setCell _ _ _ _ h0]; rfl
  · rw [heap_setCell _ _ _ _ ((Below.heap_setCell _ _ _ _ (by show G + 1 ≠ G; omega)).trans h1)]; rfl
  · rw [Below.heap_setCell _ _ _ _ (by show D ≠ G + 1; omega), Below.heap_setCell _ _ _ _ (by show D ≠ G; omega)]; exact hK

set_option maxRecDepth 100000 in
set_option maxHeartbeats 8000000 in
theorem read_any (s : List UInt8) (hs : s.length ≤ 4194304) (w : World) (E : Env w) :
    Calls Tryz.prog 12 #[.string (bs s)] w fun e w' => ∃ v, e = .returned (.tuple #[v, .int .i64 (if (rd s).isSome then 0 else 18)]) ∧ OwnF w.heap.size w' v ((rd s).getD []) ∧ Below w.heap.size w w' := by
  have HE : Hid (Env w) := E
  clear E
  obtain ⟨G, hG⟩ : ∃ G, w.heap.size = G := ⟨_, rfl⟩
  obtain ⟨r, hr⟩ : ∃ r, rd s = r := ⟨_, rfl⟩
  have HRd : Hid (rd s = r) := hr
  rw [hr]
  obtain ⟨A, hA⟩ : ∃ A : Int, (if r.isSome then 0 else 18) = A := ⟨_, rfl⟩
  have HA : Hid ((if r.isSome then (0 : Int) else 18) = A) := hA
  rw [hA]
  clear hr hA
  obtain ⟨w0, hw0⟩ : ∃ w0, ((w.alloc (.cells #[.slice none 0 0] 22)).alloc (.cells #[.int .i64 0] 27)).alloc (.cells #[.slice none 0 0] 22) = w0 := ⟨_, rfl⟩
  have F0 : Hid (w0.heap.size = G + 3 ∧ Bx w G 0 w0 ∧ w0.heap[G + 2]? = some (.cells #[.slice none 0 0] 22 (0, 0))) := by
    subst hw0 hG
    refine ⟨by simp, ⟨?_, ?_, ((balloc w _).alloc (by simp) _).alloc (by simp; omega) _⟩, ?_⟩
    · rw [Below.heap_alloc _ _ _ (by simp; omega), Below.heap_alloc _ _ _ (by simp)]; exact heap_alloc_new _ _
    · rw [Below.heap_alloc _ _ _ (by simp)]
      have := heap_alloc_new (w.alloc (.cells #[.slice none 0 0] 22)) (.cells #[.int .i64 0] 27)
      rwa [World.size_alloc] at this
    · have := heap_alloc_new ((w.alloc (.cells #[.slice none 0 0] 22)).alloc (.cells #[.int .i64 0] 27)) (.cells #[.slice none 0 0] 22)
      rwa [World.size_alloc, World.size_alloc] at this
  refine (callsIn_wide (n := 9)).1 ?_
  refine callsIn_of_wp_marks Tryz.func12 rfl trivial ?_ rfl
  simp only [Tryz.ntmps12, List.size_toArray, List.length_cons, List.length_nil, Nat.reduceAdd, Nat.reduceSub, Array.replicate_succ, Array.replicate_zero, List.push_toArray, List.append_toArray, List.nil_append, List.cons_append]
  gi_wp2_with fail
  clear hw0
  refine ⟨trivial, (callsIn_wide.2 (lines_any s _)).mono ?_⟩
  rintro e w1 ⟨rfl, hw1⟩
  rw [F0.out.1]
  have F1 : Hid (w1.heap.size = G + 4 ∧ InR w G [] w1 (.slice none 0 0) [] ∧ w1.heap[G + 3]? = some (.cells #[.string (bs s)] 9 (0, 0))) := by
    subst hw1
    have hz := F0.out.1
    refine ⟨by simp [hz], ⟨⟨?_, ?_, ?_⟩, ?_, OwnF.nil _ _, rfl, rfl, by simp, by simp [hz]⟩, ?_⟩
    · rw [Below.heap_alloc _ _ _ (by omega)]; exact F0.out.2.1.r0
    · rw [Below.heap_alloc _ _ _ (by omega)]; exact F0.out.2.1.r1
    · exact F0.out.2.1.bel.alloc (by omega) _
    · rw [Below.heap_alloc _ _ _ (by omega)]; exact F0.out.2.2
    · have := heap_alloc_new w0 (.cells #[.string (bs s)] 9)
      rwa [hz] at this
  clear hw1
  gi_wp2_with fail
  refine range_gives (n := 9) (gf := 46) rfl (enters_of Tryz.func46 (by kernel_rfl) rfl) (encs := fun x : List UInt8 => #[.string (bs x)]) (fun _ => rfl) (Bs := G + 3) (by rw [F1.out.1]; omega) (xs := lns s)
    (by rw [F1.out.2.2]; exact lines_gives s _ _ hs)
    (fun pre W => ∃ v l, InR w G pre W v l) (fun W => Bx w G 18 W ∧ r = none)
    (fun pre A B hi hg => by
      obtain ⟨v, l, hi⟩ := hi
      exact ⟨v, l, hi.grown hg (Nat.le_refl _) (fun k hk => by have := (hi.own.lt hk).1; omega)⟩)
    (fun A B hi hg => ⟨hi.1.grown hg (by omega), hi.2⟩)
    (fun pre A l o o' hi hl ho hc => by
      obtain ⟨v, l2, hi⟩ := hi
      rw [F1.out.1] at hl
      refine ⟨v, l2, hi.grown (grownBy_putObj' A l o') (by omega) (fun k hk e => ?_)⟩
      subst e
      obtain ⟨cs, t, fr, hk2⟩ := own_cells hi.own hk
      rw [hk2] at ho
      injection ho with ho
      subst ho
      simp [Obj.isCells] at hc)
    (fun A l o o' hi hl ho hc => by
      rw [F1.out.1] at hl
      exact ⟨hi.1.grown (grownBy_putObj' A l o') (by omega), hi.2⟩)
    ⟨_, _, F1.out.2.1⟩
    (fun x => { tmps := #[.string (bs s), undef, .pointer (some ⟨G, 0, none⟩), .pointer (some ⟨G + 1, 0, none⟩), .pointer (some ⟨G + 1 + 1, 0, none⟩), .string (bs x), undef, undef, undef, undef, .string (bs s), .func (.func 46) #[] #[.pointer (some ⟨G + 3, 0, none⟩)], .string (bs x), undef, undef, undef, undef, undef, undef, undef, undef, undef, undef, undef, undef, undef, undef, undef, undef, undef, undef, undef, undef, undef, undef, undef, undef, undef, undef], defers := [] })
    ?assign ?body ?done ?stop
  case assign =>
    intro l x W K hK
    gi_wp2_with fail
    exact hK
  case body =>
    rintro l pre x W hlW ⟨v, lf, hi⟩ ⟨rr, hxs⟩
    rw [F1.out.1] at hlW
    have HI : Hid (InR w G pre W v lf) := hi
    have h4 : G + 4 ≤ W.heap.size := hi.big
    have hxl : x.length ≤ 4194304 := by
      have := (lns_len s).2 x (by rw [hxs]; simp)
      omega
    have HXs : Hid (lns s = pre ++ x :: rr) := hxs
    have EW : Hid (Env W) := HE.out.below hi.bx.bel (by have := HE.out.big; omega)
    have hll : lf.length ≤ 4194304 := by
      have h1 := hi.len
      have h2 := (lns_len s).1
      rw [hxs] at h2
      simp at h2
      omega
    clear hi hxs
    gi_wp2_with fail
    refine ⟨trivial, (CallsIn.inRound l (callsIn_wide.2 (trim_any x W hxl))).mono ?_⟩
    rintro e w2 ⟨rfl, rfl⟩
    have hcl := chop_len x
    gi_wp2_with fail
    refine ⟨trivial, (CallsIn.inRound l (callsIn_wide.2 (split_any (chop x) (by omega) _ EW.out))).mono ?_⟩
    rintro e w3 ⟨v3, rfl, ho3, hb3⟩
    have O3 : Hid (Own w2.heap.size w3 v3 (cutAt 32 (chop x)) ∧ Below w2.heap.size w2 w3) := ⟨ho3, hb3⟩
    clear ho3 hb3
    gi_wp2_with fail
    refine ⟨trivial, (CallsIn.inRound l (callsIn_wide.2 (fileOf_any O3.out.1.bs (fun p hp => by have := cut_mem_len 32 (chop x) p hp; omega) (EW.out.later O3.out.2)))).mono ?_⟩
    rintro e w4 ⟨f, ok, rfl, hb4, ht⟩
    have HB4 : Hid (Below w2.heap.size w2 w4) := bstep O3.out.2 hb4
    have HT : Hid (Told (cutAt 32 (chop x)) f ok) := ht
    have HFo : Hid (fileOf (cutAt 32 (chop x)) = some f → Fok f) := fun h => fileOf_ok h (fun p hp => by have := cut_mem_len 32 (chop x) p hp; omega)
    have g0 : w4.heap[G]? = some (.cells #[.slice none 0 0] 22 (0, 0)) := (HB4.out.block G (by omega)).trans HI.out.bx.r0
    have g1 : w4.heap[G + 1]? = some (.cells #[.int .i64 0] 27 (0, 0)) := (HB4.out.block (G + 1) (by omega)).trans HI.out.bx.r1
    have g2 : w4.heap[G + 2]? = some (.cells #[v] 22 (0, 0)) := (HB4.out.block (G + 2) (by omega)).trans HI.out.box
    have hz4 := HB4.out.size
    have l0 : G < w4.heap.size := by omega
    have l1 : G + 1 < w4.heap.size := by omega
    have l2 : G + 1 + 1 < w4.heap.size := by omega
    have c0 : w4.cell? ⟨G, 0, none⟩ = some (.slice none 0 0) := by simp [World.cell?, g0]
    have c1 : w4.cell? ⟨G + 1, 0, none⟩ = some (.int .i64 0) := by simp [World.cell?, g1]
    have f0 : w4.frozen? ⟨G, 0, none⟩ = false := by simp [World.frozen?, g0]
    have f1 : w4.frozen? ⟨G + 1, 0, none⟩ = false := by simp [World.frozen?, g1]
    have O4 : Hid (OwnF (G + 4) w4 v lf) := HI.out.own.later HB4.out
    obtain ⟨av, cv, ev⟩ := HI.out.own.form
    subst ev
    obtain ⟨nl, hnl⟩ : ∃ nl, lf.length = nl := ⟨_, rfl⟩
    rw [hnl] at g2 HI O4
    have c2 : w4.cell? ⟨G + 1 + 1, 0, none⟩ = some (.slice av nl cv) := by
      show w4.cell? ⟨G + 2, 0, none⟩ = _
      simp [World.cell?, g2]
    have HG2 : Hid (w4.heap[G + 2]? = some (.cells #[.slice av nl cv] 22 (0, 0))) := g2
    clear hb4 ht g0 g1 g2 hnl
    obtain ⟨p, t, bl, sz⟩ := f
    simp only [Fl.val]
    cases ok
    · have HN : Hid (r = none) := by
        have h1 : fileOf (cutAt 32 (chop x)) = none := by
          rcases HT.out with ⟨h, _⟩ | ⟨_, h⟩
          · cases h
          · exact h
        have h2 := HRd.out
        unfold rd at h2
        rw [HXs.out, rdl_none pre x rr h1] at h2
        exact h2.symm
      gi_wp2_with fail
      rw [F1.out.1]
      obtain ⟨hs1, hb1⟩ := HI.out.bad HB4.out (o1 := .cells #[.string (bs p), .string (bs t), .int .i64 bl, .int .i64 sz] 26)
      exact ⟨hs1, hb1, HN.out⟩
    · have HFl : Hid (fileOf (cutAt 32 (chop x)) = some ⟨p, t, bl, sz⟩) := by
        rcases HT.out with ⟨_, h⟩ | ⟨h, _⟩
        · exact h
        · cases h
      gi_wp2_with (gi_at_builtin; refine app_files_in (base := G + 4) (l := lf) (k := [⟨p, t, bl, sz⟩]) (O4.out.later (bstep (balloc _ _) (balloc _ _))) (src_file2 w4 _ ⟨p, t, bl, sz⟩) (by simp; omega) (by simp; omega) rfl _ _ rfl rfl rfl ?_; intro v5 w5 ho5 hg5 _; obtain ⟨a5, c5, e5⟩ := ho5.form; subst e5; have g5 : w5.heap[G + 2]? = some (.cells #[.slice av nl cv] 22 (0, 0)) := (hg5.block (G + 2) (by simp; omega) (fun e => by have := (O4.out.lt e.symm).1; omega)).trans ((Below.heap_alloc _ _ _ (by simp; omega)).trans ((Below.heap_alloc _ _ _ (by omega)).trans HG2.out)); have c5' : w5.cell? ⟨G + 1 + 1, 0, none⟩ = some (.slice av nl cv) := (by show w5.cell? ⟨G + 2, 0, none⟩ = _; simp [World.cell?, g5]); have f5' : w5.frozen? ⟨G + 1 + 1, 0, none⟩ = false := (by show w5.frozen? ⟨G + 2, 0, none⟩ = _; simp [World.frozen?, g5]))
      rw [F1.out.1]
      have en : (lf ++ [(⟨p, t, bl, sz⟩ : Fl)]).length = lf.length + 1 := by simp
      rw [en] at ho5
      exact HI.out.next HB4.out hg5 ho5 HFl.out (HFo.out HFl.out)
  case done =>
    rintro D W hD ⟨v, l, hi⟩ hK
    rw [F1.out.1] at hD
    have HI : Hid (InR w G (lns s) W v l) := hi
    have h4 : G + 4 ≤ W.heap.size := hi.big
    have EW : Hid (Env W) := HE.out.below hi.bx.bel (by have := HE.out.big; omega)
    have hll : l.length ≤ 4194304 := by
      have h1 := hi.len
      have h2 := (lns_len s).1
      omega
    have HSm : Hid (FSm l) := ⟨hll, hi.ok⟩
    have HK : Hid (W.heap[D]? = some (.deferred (some []))) := hK
    obtain ⟨av, cv, ev⟩ := hi.own.form
    subst ev
    have c2 : W.cell? ⟨G + 1 + 1, 0, none⟩ = some (.slice av l.length cv) := by
      show W.cell? ⟨G + 2, 0, none⟩ = _
      simp [World.cell?, hi.box]
    clear hi hK
    gi_wp2_with fail
    refine ⟨trivial, (callsIn_wide.2 (print_any HI.out.own.fs HSm.out EW.out)).mono ?_⟩
    rintro e w2 ⟨rfl, hb2⟩
    have HB2 : Hid (Below W.heap.size W w2) := hb2
    have hz2 := hb2.size
    have g0 : w2.heap[G]? = some (.cells #[.slice none 0 0] 22 (0, 0)) := (hb2.block G (by omega)).trans HI.out.bx.r0
    have g1 : w2.heap[G + 1]? = some (.cells #[.int .i64 0] 27 (0, 0)) := (hb2.block (G + 1) (by omega)).trans HI.out.bx.r1
    have g2 : w2.heap[G + 2]? = some (.cells #[.slice av l.length cv] 22 (0, 0)) := (hb2.block (G + 2) (by omega)).trans HI.out.box
    have c0 : w2.cell? ⟨G, 0, none⟩ = some (.slice none 0 0) := by simp [World.cell?, g0]
    have c1 : w2.cell? ⟨G + 1, 0, none⟩ = some (.int .i64 0) := by simp [World.cell?, g1]
    have f0 : w2.frozen? ⟨G, 0, none⟩ = false := by simp [World.frozen?, g0]
    have f1 : w2.frozen? ⟨G + 1, 0, none⟩ = false := by simp [World.frozen?, g1]
    have d2 : w2.cell? ⟨G + 1 + 1, 0, none⟩ = some (.slice av l.length cv) := by
      show w2.cell? ⟨G + 2, 0, none⟩ = _
      simp [World.cell?, g2]
    have HGs : Hid (w2.heap[G]? = some (.cells #[.slice none 0 0] 22 (0, 0)) ∧ w2.heap[G + 1]? = some (.cells #[.int .i64 0] 27 (0, 0))) := ⟨g0, g1⟩
    clear hb2 g0 g1 g2 c2
    have es := bs_toList s
    by_cases hv : validE l = 0
    · rw [if_pos hv, hv]
      have ep := bs_toList (prt l)
      by_cases hps : prt l = s
      · have HR : Hid (r = some l) := by
          have h2 := HRd.out
          unfold rd at h2
          rw [HI.out.red] at h2
          simp only at h2
          rw [if_pos ⟨(validE_zero l).1 hv, hps⟩] at h2
          exact h2.symm
        have hd : (prt l == s) = true := by simpa using hps
        clear hps hv
        gi_wp2_with fail
        have hK2 := (HB2.out.block D (Array.getElem?_eq_some_iff.1 HK.out).1).trans HK.out
        obtain ⟨q0, q1, q2⟩ := out_cells HGs.out.1 HGs.out.2 hK2 hD (v' := .slice av l.length cv) (x' := .int .i64 0)
        refine leave12 rfl rfl q0 q1 q2 hD ⟨.slice av l.length cv, ?_, ?_⟩
        · have h1 := HA.out
          rw [HR.out] at h1
          rw [← h1]; rfl
        · rw [HR.out, hG]
          exact HI.out.out HB2.out hD HK.out (HI.out.own.later HB2.out)
      · have HR : Hid (r = none) := by
          have h2 := HRd.out
          unfold rd at h2
          rw [HI.out.red] at h2
          simp only at h2
          rw [if_neg (fun h => hps h.2)] at h2
          exact h2.symm
        have hd : (prt l == s) = false := by simpa using hps
        clear hps hv
        gi_wp2_with fail
        have hK2 := (HB2.out.block D (Array.getElem?_eq_some_iff.1 HK.out).1).trans HK.out
        obtain ⟨q0, q1, q2⟩ := out_cells HGs.out.1 HGs.out.2 hK2 hD (v' := .slice none 0 0) (x' := .int .i64 18)
        refine leave12 rfl rfl q0 q1 q2 hD ⟨.slice none 0 0, ?_, ?_⟩
        · have h1 := HA.out
          rw [HR.out] at h1
          rw [← h1]; rfl
        · rw [HR.out, hG]
          exact HI.out.out HB2.out hD HK.out (OwnF.nil _ _)
    · have HR : Hid (r = none) := by
        have h2 := HRd.out
        unfold rd at h2
        rw [HI.out.red] at h2
        simp only at h2
        rw [if_neg (fun h => hv ((validE_zero l).2 h.1))] at h2
        exact h2.symm
      rw [if_neg hv]
      have hd : (validE l != 0) = true := by simpa using hv
      generalize validE l = V at *
      clear hv
      gi_wp2_with fail
      have hK2 := (HB2.out.block D (Array.getElem?_eq_some_iff.1 HK.out).1).trans HK.out
      obtain ⟨q0, q1, q2⟩ := out_cells HGs.out.1 HGs.out.2 hK2 hD (v' := .slice none 0 0) (x' := .int .i64 18)
      refine leave12 rfl rfl q0 q1 q2 hD ⟨.slice none 0 0, ?_, ?_⟩
      · have h1 := HA.out
        rw [HR.out] at h1
        rw [← h1]; rfl
      · rw [HR.out, hG]
        exact HI.out.out HB2.out hD HK.out (OwnF.nil _ _)
  case stop =>
    rintro D W hD ⟨hb, hn⟩ hK
    rw [F1.out.1] at hD
    have HBx : Hid (Bx w G 18 W) := hb
    clear hb
    gi_wp2_with fail
    refine leave12 rfl rfl HBx.out.r0 HBx.out.r1 hK hD ⟨.slice none 0 0, ?_, ?_⟩
    · have h1 := HA.out
      rw [hn] at h1
      rw [← h1]; rfl
    · rw [hn, hG]
      refine ⟨OwnF.nil _ _, HBx.out.bel.grown (grownBy_putObj' _ D _) ?_ (fun k hk => by injection hk with hk; omega)⟩
      have := (Array.getElem?_eq_some_iff.1 HBx.out.r0).1
      omega
end Go.Proofs.YtgibjnfaagnbfadGreatDoor
