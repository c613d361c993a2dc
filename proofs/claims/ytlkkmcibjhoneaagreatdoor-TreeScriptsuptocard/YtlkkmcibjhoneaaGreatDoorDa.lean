/-
  The document's tree in memory; a step is counted; a file, a directory is looked for.
-/
import Derived.Test.YtlkkmcibjhoneaaGreatDoorJGa
import Derived.Test.YtlkkmcibjhoneaaGreatDoorJMark
namespace Go.Proofs.YtlkkmcibjhoneaaGreatDoor
open Go.RowKit

theorem row_ne {w : World} {base n : Nat} {ty ty' : TypeId} {v : Value} {len : Nat} {cs : List Value} (h : w.ownsRow base ty n v len cs) {c : Nat} {a : Array Value} {fr : Nat × Nat} (hc : w.heap[c]? = some (.cells a ty' fr)) (hne : ty ≠ ty') : v.ownBlock ≠ some c := by
  intro e
  rcases h.2 with ⟨rfl, _⟩ | ⟨g, cap, cur, rfl, _, hg, _⟩
  · simp [Value.ownBlock] at e
  · have : g = c := by simpa [Value.ownBlock] using e
    subst this
    rw [hg] at hc
    simp at hc
    exact hne hc.2.1
theorem row_stay {w w' : World} {base n : Nat} {ty : TypeId} {v : Value} {len : Nat} {cs : List Value} (h : w.ownsRow base ty n v len cs) (hs : ∀ k, v.ownBlock = some k → w'.heap[k]? = w.heap[k]?) : w'.ownsRow base ty n v len cs := by
  refine ⟨h.1, ?_⟩
  rcases h.2 with h0 | ⟨g, cap, cur, rfl, hb, hg, hr⟩
  · exact .inl h0
  · exact .inr ⟨g, cap, cur, rfl, hb, by rw [hs g rfl]; exact hg, hr⟩
/-- a tree's own block -/
def RC (w : World) (c : Nat) (vf vd vj : Value) (st sp : Int) (dn : Bool) (vt : Value) : Prop := w.heap[c]? = some (.cells #[vf, vd, vj, .int .i64 st, .int .i64 sp, .bool dn, vt] 103 (0, 0))
theorem RC.lt {w : World} {c : Nat} {vf vd vj vt : Value} {st sp : Int} {dn : Bool} (h : RC w c vf vd vj st sp dn vt) : c < w.heap.size := (Array.getElem?_eq_some_iff.1 h).1
theorem RC.cell {w : World} {c : Nat} {vf vd vj vt : Value} {st sp : Int} {dn : Bool} (h : RC w c vf vd vj st sp dn vt) :
    w.cell? ⟨c, 0, none⟩ = some vf ∧ w.cell? ⟨c, 1, none⟩ = some vd ∧ w.cell? ⟨c, 2, none⟩ = some vj ∧ w.cell? ⟨c, 3, none⟩ = some (.int .i64 st) ∧ w.cell? ⟨c, 4, none⟩ = some (.int .i64 sp) ∧ w.cell? ⟨c, 5, none⟩ = some (.bool dn) ∧ w.cell? ⟨c, 6, none⟩ = some vt ∧ ∀ i, w.frozen? ⟨c, i, none⟩ = false := by
  unfold RC at h
  exact ⟨by simp [World.cell?, h], by simp [World.cell?, h], by simp [World.cell?, h], by simp [World.cell?, h], by simp [World.cell?, h], by simp [World.cell?, h], by simp [World.cell?, h], fun i => by simp [World.frozen?, h]⟩
section
variable {w w' : World} {c : Nat} {vf vd vj vt u : Value} {st sp st' : Int} {dn dn' : Bool}
theorem RC.set0 (h : RC w c vf vd vj st sp dn vt) : RC (w.setCell ⟨c, 0, none⟩ u) c u vd vj st sp dn vt := by
  unfold RC at h ⊢
  rw [heap_setCell _ _ _ _ h]; simp
theorem RC.set1 (h : RC w c vf vd vj st sp dn vt) : RC (w.setCell ⟨c, 1, none⟩ u) c vf u vj st sp dn vt := by
  unfold RC at h ⊢
  rw [heap_setCell _ _ _ _ h]; simp
theorem RC.set2 (h : RC w c vf vd vj st sp dn vt) : RC (w.setCell ⟨c, 2, none⟩ u) c vf vd u st sp dn vt := by
  unfold RC at h ⊢
  rw [heap_setCell _ _ _ _ h]; simp
theorem RC.set3 (h : RC w c vf vd vj st sp dn vt) : RC (w.setCell ⟨c, 3, none⟩ (.int .i64 st')) c vf vd vj st' sp dn vt := by
  unfold RC at h ⊢
  rw [heap_setCell _ _ _ _ h]; simp
theorem RC.set4 (h : RC w c vf vd vj st sp dn vt) : RC (w.setCell ⟨c, 4, none⟩ (.int .i64 st')) c vf vd vj st st' dn vt := by
  unfold RC at h ⊢
  rw [heap_setCell _ _ _ _ h]; simp
theorem RC.set5 (h : RC w c vf vd vj st sp dn vt) : RC (w.setCell ⟨c, 5, none⟩ (.bool dn')) c vf vd vj st sp dn' vt := by
  unfold RC at h ⊢
  rw [heap_setCell _ _ _ _ h]; simp
theorem RC.set6 (h : RC w c vf vd vj st sp dn vt) : RC (w.setCell ⟨c, 6, none⟩ u) c vf vd vj st sp dn u := by
  unfold RC at h ⊢
  rw [heap_setCell _ _ _ _ h]; simp
theorem RC.stay (h : RC w c vf vd vj st sp dn vt) (e : w'.heap[c]? = w.heap[c]?) : RC w' c vf vd vj st sp dn vt := by
  unfold RC at h ⊢
  rw [e]; exact h
end
/-- the rows of a tree, in blocks of F -/
structure RR (w : World) (F : Nat → Prop) (vf vd vj vt : Value) (fs : List Fl) (ds : List (List UInt8)) (jl tn : List UInt8) : Prop where
  f : OwnF 0 w vf fs ∧ ∀ k, vf.ownBlock = some k → F k
  d : Own 0 w vd ds ∧ ∀ k, vd.ownBlock = some k → F k
  j : OwnB 0 w vj jl ∧ ∀ k, vj.ownBlock = some k → F k
  t : OwnB 0 w vt tn ∧ ∀ k, vt.ownBlock = some k → F k
/-- a tree of the document's -/
def RT (w : World) (F : Nat → Prop) (c : Nat) (T : TT) : Prop :=
  ∃ vf vd vj vt, RC w c vf vd vj T.st T.sp T.dn vt ∧ F c ∧ (∀ k, F k → k < w.heap.size) ∧ RR w F vf vd vj vt T.fs T.ds T.jl T.tn ∧ (T.dn = false → vt = .slice none 0 0)
theorem RR.stay {w w' : World} {F : Nat → Prop} {vf vd vj vt : Value} {fs : List Fl} {ds : List (List UInt8)} {jl tn : List UInt8} (h : RR w F vf vd vj vt fs ds jl tn) (hs : ∀ k, F k → (vf.ownBlock = some k ∨ vd.ownBlock = some k ∨ vj.ownBlock = some k ∨ vt.ownBlock = some k) → w'.heap[k]? = w.heap[k]?) : RR w' F vf vd vj vt fs ds jl tn :=
  ⟨⟨row_stay h.f.1 fun k hk => hs k (h.f.2 k hk) (.inl hk), h.f.2⟩, ⟨row_stay h.d.1 fun k hk => hs k (h.d.2 k hk) (.inr (.inl hk)), h.d.2⟩, ⟨row_stay h.j.1 fun k hk => hs k (h.j.2 k hk) (.inr (.inr (.inl hk))), h.j.2⟩, ⟨row_stay h.t.1 fun k hk => hs k (h.t.2 k hk) (.inr (.inr (.inr hk))), h.t.2⟩⟩
theorem RR.ne {w : World} {F : Nat → Prop} {vf vd vj vt : Value} {fs : List Fl} {ds : List (List UInt8)} {jl tn : List UInt8} (h : RR w F vf vd vj vt fs ds jl tn) {c : Nat} {a : Array Value} {fr : Nat × Nat} (hc : w.heap[c]? = some (.cells a 103 fr)) : ∀ k, (vf.ownBlock = some k ∨ vd.ownBlock = some k ∨ vj.ownBlock = some k ∨ vt.ownBlock = some k) → k ≠ c := by
  rintro k (hk | hk | hk | hk) rfl
  · exact row_ne h.f.1 hc (by decide) hk
  · exact row_ne h.d.1 hc (by decide) hk
  · exact row_ne h.j.1 hc (by decide) hk
  · exact row_ne h.t.1 hc (by decide) hk
theorem set_other (w : World) (c i : Nat) (v : Value) {k : Nat} (h : k ≠ c) : (w.setCell ⟨c, i, none⟩ v).heap[k]? = w.heap[k]? := by
  simp [World.setCell, Array.getElem?_modify, Ne.symm h]
theorem size_set (w : World) (c i : Nat) (v : Value) : (w.setCell ⟨c, i, none⟩ v).heap.size = w.heap.size := by simp [World.setCell]
/-- the rows stay when the tree's own block is written -/
theorem RR.set {w : World} {F : Nat → Prop} {vf vd vj vt : Value} {fs : List Fl} {ds : List (List UInt8)} {jl tn : List UInt8} (h : RR w F vf vd vj vt fs ds jl tn) {c i : Nat} {v : Value} {a : Array Value} {fr : Nat × Nat} (hc : w.heap[c]? = some (.cells a 103 fr)) : RR (w.setCell ⟨c, i, none⟩ v) F vf vd vj vt fs ds jl tn :=
  h.stay fun k _ hk => set_other w c i v (h.ne hc k hk)
theorem RR.mono {w : World} {F F' : Nat → Prop} {vf vd vj vt : Value} {fs : List Fl} {ds : List (List UInt8)} {jl tn : List UInt8} (h : RR w F vf vd vj vt fs ds jl tn) (hF : ∀ k, F k → F' k) : RR w F' vf vd vj vt fs ds jl tn :=
  ⟨⟨h.f.1, fun k hk => hF k (h.f.2 k hk)⟩, ⟨h.d.1, fun k hk => hF k (h.d.2 k hk)⟩, ⟨h.j.1, fun k hk => hF k (h.j.2 k hk)⟩, ⟨h.t.1, fun k hk => hF k (h.t.2 k hk)⟩⟩
theorem RR.later {w w' : World} {F : Nat → Prop} {vf vd vj vt : Value} {fs : List Fl} {ds : List (List UInt8)} {jl tn : List UInt8} (h : RR w F vf vd vj vt fs ds jl tn) (hF : ∀ k, F k → k < w.heap.size) (hb : Below w.heap.size w w') : RR w' F vf vd vj vt fs ds jl tn := h.stay fun k hk _ => hb.block k (hF k hk)
theorem RT.stay {w w' : World} {F : Nat → Prop} {c : Nat} {T : TT} (h : RT w F c T) (hz : w.heap.size ≤ w'.heap.size) (hs : ∀ k, F k → w'.heap[k]? = w.heap[k]?) : RT w' F c T := by
  obtain ⟨vf, vd, vj, vt, h1, h2, h3, h4, h5⟩ := h
  exact ⟨vf, vd, vj, vt, h1.stay (hs c h2), h2, fun k hk => Nat.lt_of_lt_of_le (h3 k hk) hz, h4.stay (fun k hk _ => hs k hk), h5⟩
theorem RT.wider {w : World} {F F' : Nat → Prop} {c : Nat} {T : TT} (h : RT w F c T) (hF : ∀ k, F k → F' k) (hl : ∀ k, F' k → k < w.heap.size) : RT w F' c T := by
  obtain ⟨vf, vd, vj, vt, h1, h2, h3, h4, h5⟩ := h
  exact ⟨vf, vd, vj, vt, h1, hF c h2, hl, h4.mono hF, h5⟩
theorem RT.lt {w : World} {F : Nat → Prop} {c : Nat} {T : TT} (h : RT w F c T) : ∀ k, F k → k < w.heap.size := by
  obtain ⟨_, _, _, _, _, _, h, _⟩ := h
  exact h
theorem RT.later {w w' : World} {F : Nat → Prop} {c : Nat} {T : TT} (h : RT w F c T) (hb : Below w.heap.size w w') : RT w' F c T := h.stay hb.size fun k hk => hb.block k (h.lt k hk)
theorem nw_self {F : Nat → Prop} {w w' : World} (hz : w'.heap.size = w.heap.size) : ∀ k, nwF F w w' k → F k := by
  rintro k (h | h)
  · exact h
  · omega
theorem OnlyP.set {F : Nat → Prop} (w : World) (c i : Nat) (v : Value) (h : F c) : OnlyP F w (w.setCell ⟨c, i, none⟩ v) :=
  ⟨rfl, rfl, rfl, by rw [size_set]; exact Nat.le_refl _, fun k _ hn => set_other w c i v (fun e => hn (e ▸ h))⟩

theorem OwnB.len {base : Nat} {w : World} {v : Value} {l : List UInt8} (h : OwnB base w v l) : ∃ a c, v = .slice a l.length c := by
  rcases h.form' with ⟨rfl, rfl⟩ | ⟨g, c, e, _⟩
  · exact ⟨_, _, rfl⟩
  · exact ⟨_, c, e⟩
theorem grown_none {w w' : World} (h : w.grownBy w' none) : Below w.heap.size w w' := ⟨h.os, h.tape, h.output, h.size, fun k hk => h.block k hk (by simp)⟩
set_option maxRecDepth 100000 in
set_option maxHeartbeats 4000000 in
theorem counted_any {w : World} {F : Nat → Prop} {c : Nat} {T : TT} (h : RT w F c T) (hz : TSz 4000000 T) (ho : TOk T) {v : Value} {b : List UInt8} (hv : BS w v b) (hvF : b ≠ [] → ∀ k, v.ownBlock = some k → ¬ F k) (hb : b.length ≤ 4000000) :
    Calls Tryz.prog 73 #[.pointer (some ⟨c, 0, none⟩), v] w fun e w' => e = .returned (.bool (T.cnt b).2) ∧ RT w' (nwF F w w') c (T.cnt b).1 ∧ OnlyP F w w' := by
  obtain ⟨vf, vd, vj, vt, h1, h2, h3, h4, h5⟩ := h
  obtain ⟨c0, c1, c2, c3, c4, c5, c6, fz⟩ := h1.cell
  have r1 := h1.set3 (st' := (T.st : Int) + 1)
  obtain ⟨-, -, -, d3, d4, d5, d6, fz1⟩ := r1.cell
  have hst := hz.ns
  have hs1 := hz.s1
  have hs0 := ho.sp0
  have hw : wrap64 ((T.st : Int) + 1) = (T.st : Int) + 1 := IntWalk.wrap64_in _ (by omega)
  have f3 := fz 3
  have R1 : Hid (RC (w.setCell ⟨c, 3, none⟩ (.int .i64 ((T.st : Int) + 1))) c vf vd vj ((T.st : Int) + 1) T.sp T.dn vt ∧ RR (w.setCell ⟨c, 3, none⟩ (.int .i64 ((T.st : Int) + 1))) F vf vd vj vt T.fs T.ds T.jl T.tn ∧ OnlyP F w (w.setCell ⟨c, 3, none⟩ (.int .i64 ((T.st : Int) + 1)))) := ⟨r1, h4.set h1, OnlyP.set _ _ _ _ h2⟩
  have H5 : Hid (T.dn = false → vt = .slice none 0 0) := h5
  have H3 : Hid (∀ k, F k → k < w.heap.size) := h3
  have HV : Hid (BS w v b) := hv
  clear h1 r1 c0 c1 c2 c4 c5 c6 fz h4 h5 h3 hv
  by_cases hs : T.sp = 0
  · have hcnt : T.cnt b = ({ T with st := T.st + 1 }, true) := by unfold TT.cnt; rw [if_pos hs]
    rw [hcnt]
    rw [hs] at d4
    clear hs hcnt
    go_enter Tryz.func73, Tryz.ntmps73
    go_wp2_with fail
    go_ret
    refine ⟨rfl, ⟨vf, vd, vj, vt, R1.out.1, .inl h2, fun k hk => ?_, R1.out.2.1.mono (fun k hk => Or.inl hk), H5.out⟩, R1.out.2.2⟩
    rw [size_set]
    exact H3.out k (nw_self (size_set _ _ _ _) k hk)
  · by_cases hs2 : 1 < T.sp
    · have hcnt : T.cnt b = ({ T with st := T.st + 1, sp := T.sp - 1 }, true) := by unfold TT.cnt; rw [if_neg hs, if_pos hs2]
      rw [hcnt]
      have hsd : (T.sp == 0) = false := by simpa using hs
      have hw2 : wrap64 (T.sp - 1) = T.sp - 1 := IntWalk.wrap64_in _ (by omega)
      have R2 : Hid (RC ((w.setCell ⟨c, 3, none⟩ (.int .i64 ((T.st : Int) + 1))).setCell ⟨c, 4, none⟩ (.int .i64 (T.sp - 1))) c vf vd vj ((T.st : Int) + 1) (T.sp - 1) T.dn vt ∧ RR ((w.setCell ⟨c, 3, none⟩ (.int .i64 ((T.st : Int) + 1))).setCell ⟨c, 4, none⟩ (.int .i64 (T.sp - 1))) F vf vd vj vt T.fs T.ds T.jl T.tn) := ⟨R1.out.1.set4, R1.out.2.1.set R1.out.1⟩
      have f4 := fz1 4
      clear hcnt
      go_enter Tryz.func73, Tryz.ntmps73
      go_wp2_with fail
      go_ret
      refine ⟨rfl, ⟨vf, vd, vj, vt, R2.out.1, .inl h2, fun k hk => ?_, R2.out.2.mono (fun k hk => Or.inl hk), H5.out⟩, R1.out.2.2.trans (OnlyP.set (F := F) _ _ _ _ h2) (fun _ _ h => h)⟩
      rw [size_set, size_set]
      exact H3.out k (nw_self (by rw [size_set, size_set]) k hk)
    · have h1 : T.sp = 1 := by omega
      by_cases hd : T.dn = true
      · have hcnt : T.cnt b = ({ T with st := T.st + 1 }, false) := by unfold TT.cnt; rw [if_neg hs, if_neg hs2, if_pos hd]
        rw [hcnt]
        rw [h1] at d4
        rw [hd] at d5
        clear hcnt hs hs2
        go_enter Tryz.func73, Tryz.ntmps73
        go_wp2_with fail
        go_ret
        refine ⟨rfl, ⟨vf, vd, vj, vt, R1.out.1, .inl h2, fun k hk => ?_, R1.out.2.1.mono (fun k hk => Or.inl hk), H5.out⟩, R1.out.2.2⟩
        rw [size_set]
        exact H3.out k (nw_self (size_set _ _ _ _) k hk)
      · have hd' : T.dn = false := by simpa using hd
        have hcnt : T.cnt b = ({ T with st := T.st + 1, dn := true, tn := b }, false) := by unfold TT.cnt; rw [if_neg hs, if_neg hs2, if_neg hd]
        rw [hcnt]
        rw [h1] at d4
        rw [hd'] at d5
        have hvt := H5.out hd'
        rw [hvt] at d6
        have R2 : Hid (RC ((w.setCell ⟨c, 3, none⟩ (.int .i64 ((T.st : Int) + 1))).setCell ⟨c, 5, none⟩ (.bool true)) c vf vd vj ((T.st : Int) + 1) T.sp true vt ∧ RR ((w.setCell ⟨c, 3, none⟩ (.int .i64 ((T.st : Int) + 1))).setCell ⟨c, 5, none⟩ (.bool true)) F vf vd vj vt T.fs T.ds T.jl T.tn ∧ OnlyP F w ((w.setCell ⟨c, 3, none⟩ (.int .i64 ((T.st : Int) + 1))).setCell ⟨c, 5, none⟩ (.bool true))) := ⟨R1.out.1.set5, R1.out.2.1.set R1.out.1, R1.out.2.2.trans (OnlyP.set (F := F) _ _ _ _ h2) (fun _ _ h => h)⟩
        have f5 := fz1 5
        have e6 := R2.out.1.cell.2.2.2.2.2.2.1
        rw [hvt] at e6
        have hsz2 : ((w.setCell ⟨c, 3, none⟩ (.int .i64 ((T.st : Int) + 1))).setCell ⟨c, 5, none⟩ (.bool true)).heap.size = w.heap.size := by rw [size_set, size_set]
        have HB2 : Hid (BS ((w.setCell ⟨c, 3, none⟩ (.int .i64 ((T.st : Int) + 1))).setCell ⟨c, 5, none⟩ (.bool true)) v b) := HV.out.stay (Nat.le_of_eq hsz2.symm) (fun hb0 k hk => by
          have hne : k ≠ c := fun e => hvF hb0 k hk (e ▸ h2)
          rw [set_other _ _ _ _ hne, set_other _ _ _ _ hne])
        have HZ2 : Hid (((w.setCell ⟨c, 3, none⟩ (.int .i64 ((T.st : Int) + 1))).setCell ⟨c, 5, none⟩ (.bool true)).heap.size = w.heap.size) := hsz2
        clear hcnt hs hs2 hvt hsz2
        go_enter Tryz.func73, Tryz.ntmps73
        go_wp2_with (at_builtin; refine app_bytes (base := w.heap.size) (l := []) (k := b) (OwnB.nil _ _) (HB2.out.src und32) (by simp; omega) (Nat.le_of_eq HZ2.out.symm) rfl (.tmp 41) (.tmp 42) rfl rfl rfl ?_; intro v' w' k1 k2 k3; have kb := grown_none k2; obtain ⟨va, vc, rfl⟩ := k1.len; have K1 : Hid (OwnB w.heap.size w' (.slice va b.length vc) b ∧ Below ((w.setCell ⟨c, 3, none⟩ (.int .i64 ((T.st : Int) + 1))).setCell ⟨c, 5, none⟩ (.bool true)).heap.size ((w.setCell ⟨c, 3, none⟩ (.int .i64 ((T.st : Int) + 1))).setCell ⟨c, 5, none⟩ (.bool true)) w') := ⟨k1, kb⟩; have r3 := R2.out.1.stay (w' := w') (kb.block c R2.out.1.lt); have f6 := r3.cell.2.2.2.2.2.2.2 6; have g6 := r3.cell.2.2.2.2.2.2.1; have RC3 : Hid (RC w' c vf vd vj ((T.st : Int) + 1) T.sp true vt) := r3; clear k1 k2 k3 r3 kb)
        go_ret
        have hz3 := K1.out.2.size
        rw [HZ2.out] at hz3
        have rr : RR w' F vf vd vj vt T.fs T.ds T.jl T.tn := R2.out.2.1.later (fun k hk => by rw [HZ2.out]; exact H3.out k hk) K1.out.2
        have hnw : ∀ k, F k → nwF F w (w'.setCell ⟨c, 6, none⟩ (.slice va b.length vc)) k := fun k hk => .inl hk
        have rr2 : RR w' (nwF F w (w'.setCell ⟨c, 6, none⟩ (.slice va b.length vc))) vf vd vj (.slice va b.length vc) T.fs T.ds T.jl b :=
          ⟨(rr.mono hnw).f, (rr.mono hnw).d, (rr.mono hnw).j, K1.out.1.mono (Nat.zero_le _), fun k hk => .inr (by rw [size_set]; exact K1.out.1.lt hk)⟩
        refine ⟨rfl, ⟨vf, vd, vj, .slice va b.length vc, RC3.out.set6, .inl h2, ?_, rr2.set RC3.out, fun e => by cases e⟩, (R2.out.2.2.trans (OnlyP.of_below K1.out.2 F) (fun _ _ h => h)).trans (OnlyP.set (F := F) _ _ _ _ h2) (fun _ _ h => h)⟩
        rintro k (hk | hk)
        · rw [size_set]
          exact Nat.lt_of_lt_of_le (H3.out k hk) hz3
        · exact hk.2
end Go.Proofs.YtlkkmcibjhoneaaGreatDoor
