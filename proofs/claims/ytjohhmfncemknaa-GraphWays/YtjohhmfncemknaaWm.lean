/-
  Tables in memory; a graph apart from them.
-/
import Derived.Test.YtjohhmfncemknaaWa
namespace Go.Proofs.Ytjohhmfncemknaa
open Go.RowKit Go.Maps

/-- does a statement begin with this region? -/
def beg (n : Nat) : Code → Bool
  | .region m _ _ => m == n
  | .seq a _ => beg n a
  | .block _ c => beg n c
  | .loop c => beg n c
  | .scope c => beg n c
  | _ => false
/-- what stands from there on -/
def suff (n : Nat) : Code → Code
  | .seq a b => if beg n a then .seq a b else suff n b
  | c => c
def GoodE (w : World) (e : Ending) (w' : World) : Prop := e = .returned (.bool true) ∧ Below w.heap.size w w'

/-- a table of twelve times twelve -/
structure TB (W : World) (b : Nat) (T : Nat → Nat → Bool) : Prop where
  it : ∃ cs, W.heap[b]? = some (.cells cs 27 (0, 0)) ∧ cs.size = 144 ∧ ∀ i j, i < 12 → j < 12 → cs[i * 12 + j]? = some (.bool (T i j))
/-- a row of twelve -/
structure TW (W : World) (b : Nat) (T : Nat → Bool) : Prop where
  it : ∃ cs, W.heap[b]? = some (.cells cs 26 (0, 0)) ∧ cs.size = 12 ∧ ∀ j, j < 12 → cs[j]? = some (.bool (T j))
section
variable {W W' : World} {b : Nat} {T : Nat → Nat → Bool} {t : Nat → Bool}
theorem TB.lt (h : TB W b T) : b < W.heap.size := by obtain ⟨cs, h1, _⟩ := h; exact (Array.getElem?_eq_some_iff.1 h1).1
theorem TW.lt (h : TW W b t) : b < W.heap.size := by obtain ⟨cs, h1, _⟩ := h; exact (Array.getElem?_eq_some_iff.1 h1).1
theorem TB.stay (h : TB W b T) (hs : W'.heap[b]? = W.heap[b]?) : TB W' b T := by obtain ⟨cs, h1, h2⟩ := h; exact ⟨cs, hs.trans h1, h2⟩
theorem TW.stay (h : TW W b t) (hs : W'.heap[b]? = W.heap[b]?) : TW W' b t := by obtain ⟨cs, h1, h2⟩ := h; exact ⟨cs, hs.trans h1, h2⟩
theorem TB.later (h : TB W b T) (hb : Below W.heap.size W W') : TB W' b T := h.stay (hb.block b h.lt)
theorem TW.later (h : TW W b t) (hb : Below W.heap.size W W') : TW W' b t := h.stay (hb.block b h.lt)
theorem TB.cell (h : TB W b T) {i j : Nat} (hi : i < 12) (hj : j < 12) : W.cell? ⟨b, i * 12 + j, none⟩ = some (.bool (T i j)) := by
  obtain ⟨cs, h1, h2, h3⟩ := h
  have := h3 i j hi hj
  simp [World.cell?, h1, this]
theorem TB.soft (h : TB W b T) (o : Nat) : W.frozen? ⟨b, o, none⟩ = false := by
  obtain ⟨cs, h1, _⟩ := h
  simp [World.frozen?, h1]
theorem TW.cell (h : TW W b t) {j : Nat} (hj : j < 12) : W.cell? ⟨b, j, none⟩ = some (.bool (t j)) := by
  obtain ⟨cs, h1, h2, h3⟩ := h
  have := h3 j hj
  simp [World.cell?, h1, this]
theorem TW.soft (h : TW W b t) (o : Nat) : W.frozen? ⟨b, o, none⟩ = false := by
  obtain ⟨cs, h1, _⟩ := h
  simp [World.frozen?, h1]
theorem TB.set (h : TB W b T) {i j : Nat} (hi : i < 12) (hj : j < 12) (v : Bool) : TB (W.setCell ⟨b, i * 12 + j, none⟩ (.bool v)) b (upd T i j v) := by
  obtain ⟨cs, h1, h2, h3⟩ := h
  refine ⟨cs.set! (i * 12 + j) (.bool v), ?_, by simp [h2], fun x y hx hy => ?_⟩
  · rw [heap_setCell _ _ _ _ h1]; simp
  · by_cases e : x = i ∧ y = j
    · obtain ⟨rfl, rfl⟩ := e
      rw [upd_same, Array.set!_eq_setIfInBounds, Array.getElem?_setIfInBounds_self, if_pos (by omega)]
    · rw [upd_other _ _ e, Array.set!_eq_setIfInBounds, Array.getElem?_setIfInBounds_ne (by omega)]
      exact h3 x y hx hy
theorem TW.set (h : TW W b t) {j : Nat} (hj : j < 12) (v : Bool) : TW (W.setCell ⟨b, j, none⟩ (.bool v)) b (fun x => if x = j then v else t x) := by
  obtain ⟨cs, h1, h2, h3⟩ := h
  refine ⟨cs.set! j (.bool v), ?_, by simp [h2], fun x hx => ?_⟩
  · rw [heap_setCell _ _ _ _ h1]; simp
  · by_cases e : x = j
    · subst e
      simp [h2, hx]
    · rw [if_neg e, Array.set!_eq_setIfInBounds, Array.getElem?_setIfInBounds_ne (by omega)]
      exact h3 x hx
theorem zero27 : Try.zeroCells27 = Array.replicate 144 (.bool false) := by kernel_rfl
theorem zero26 : ((#[.bool false, .bool false, .bool false, .bool false, .bool false, .bool false, .bool false, .bool false, .bool false, .bool false, .bool false, .bool false]) : Array Value) = Array.replicate 12 (.bool false) := by kernel_rfl
theorem TB.new (W : World) : TB (W.alloc (.cells Try.zeroCells27 27)) W.heap.size (fun _ _ => false) :=
  ⟨Try.zeroCells27, heap_alloc_new _ _, by rw [zero27]; simp, fun i j hi hj => by rw [zero27, Array.getElem?_replicate, if_pos (by omega)]⟩
theorem TW.new (W : World) : TW (W.alloc (.cells #[.bool false, .bool false, .bool false, .bool false, .bool false, .bool false, .bool false, .bool false, .bool false, .bool false, .bool false, .bool false] 26)) W.heap.size (fun _ => false) :=
  ⟨_, heap_alloc_new _ _, by rw [zero26]; simp, fun j hj => by rw [zero26, Array.getElem?_replicate, if_pos (by omega)]⟩
end
/-- all that there is when the edges are laid -/
structure GX (w W : World) (g : Nat) (lv : Value) (rb db : Nat) (N : List Lb) (E : List Ee) (R D : Nat → Nat → Bool) : Prop where
  bel : Below w.heap.size w W
  it : ∃ F ns out, GR W F g ns out ∧ Lnk ns out N E ∧ (∀ k, F k → w.heap.size ≤ k ∧ k ≠ rb ∧ k ≠ db ∧ lv.ownBlock ≠ some k)
  sub : ∀ e ∈ E, e.1 ∈ N ∧ e.2 ∈ N
  ls : OwnL w.heap.size W lv LL
  tr : TB W rb R
  td : TB W db D
  ge : w.heap.size ≤ rb ∧ w.heap.size ≤ db ∧ rb ≠ db ∧ lv.ownBlock ≠ some rb ∧ lv.ownBlock ≠ some db
section
variable {w W W' : World} {g : Nat} {lv : Value} {rb db : Nat} {N : List Lb} {E : List Ee} {R D : Nat → Nat → Bool}
theorem GX.pg (h : GX w W g lv rb db N E R D) : PG w.heap.size W g N E := by
  obtain ⟨F, ns, out, h1, h2, h3⟩ := h.it
  exact ⟨⟨F, ns, out, h1, h2, fun k hk => (h3 k hk).1⟩, h.sub⟩
theorem GX.later (h : GX w W g lv rb db N E R D) (hb : Below W.heap.size W W') : GX w W' g lv rb db N E R D := by
  obtain ⟨F, ns, out, h1, h2, h3⟩ := h.it
  exact ⟨bstep h.bel hb, ⟨F, ns, out, h1.later hb, h2, h3⟩, h.sub, h.ls.later hb, h.tr.later hb, h.td.later hb, h.ge⟩
theorem GX.edge (h : GX w W g lv rb db LL E R D) (hb : Below W.heap.size W W') {a b : Nat} (ha : a < 12) (hb2 : b < 12) :
    Calls Try.prog 9 #[.pointer (some ⟨g, 0, none⟩), (lab a).val, (lab b).val] W' fun e w1 => e = .returned (.tuple #[]) ∧ GX w w1 g lv rb db LL (addE E (lab a, lab b)) R D := by
  have h' := h.later hb
  clear h hb
  obtain ⟨F, ns, out, h1, h2, h3⟩ := h'.it
  have hl := h1.nlen h2
  rw [LL_len] at hl
  refine (edge_any h1 (lab a) (lab b) (lab_lu a) (lab_lu b) (by omega)).mono fun e w1 ⟨k1, k2, k3⟩ => ⟨k1, ?_⟩
  have lk := h2.edge (lab a) (lab b)
  rw [addN_LL ha hb2] at lk
  have hsz := k3.size
  have hbs := h'.bel.size
  have hlr := h'.tr.lt
  have hld := h'.td.lt
  refine ⟨below_trans h'.bel (k3.below hbs (fun k hk => (h3 k hk).1)), ⟨_, _, _, k2, lk, fun k hk => ?_⟩, fun e he => ?_, h'.ls.stay (fun k hk => k3.block k (h'.ls.lt hk).2 (fun hf => (h3 k hf).2.2.2 hk)), h'.tr.stay (k3.block rb hlr (fun hf => (h3 rb hf).2.1 rfl)), h'.td.stay (k3.block db hld (fun hf => (h3 db hf).2.2.1 rfl)), h'.ge⟩
  · rcases hk with hk | hk
    · exact h3 k hk
    · exact ⟨by omega, by omega, by omega, fun e => by have := (h'.ls.lt e).2; omega⟩
  · rcases mem_addE.1 he with he | he
    · exact h'.sub e he
    · subst he; exact ⟨mem_LL.2 ⟨a, ha, rfl⟩, mem_LL.2 ⟨b, hb2, rfl⟩⟩
theorem GX.setR (h : GX w W g lv rb db N E R D) {i j : Nat} (hi : i < 12) (hj : j < 12) (v : Bool) : GX w (W.setCell ⟨rb, i * 12 + j, none⟩ (.bool v)) g lv rb db N E (upd R i j v) D := by
  obtain ⟨F, ns, out, h1, h2, h3⟩ := h.it
  have ho := Only.set W rb (i * 12 + j) (.bool v)
  have hst : ∀ k, k < W.heap.size → k ≠ rb → (W.setCell ⟨rb, i * 12 + j, none⟩ (.bool v)).heap[k]? = W.heap[k]? := fun k hk hn => ho.block k hk (by simpa using hn)
  have hg := h.ge
  have hle : ∀ k, k = rb → w.heap.size ≤ k := fun k hk => by omega
  refine ⟨below_trans h.bel (ho.below h.bel.size (fun k hk => hle k (by simpa using hk))), ⟨F, ns, out, h1.stay ho.size (fun k hk => hst k (h1.lt k hk) (h3 k hk).2.1), h2, h3⟩, h.sub, h.ls.stay (fun k hk => hst k (h.ls.lt hk).2 (fun e => hg.2.2.2.1 (e ▸ hk))), h.tr.set hi hj v, h.td.stay (hst db h.td.lt (Ne.symm hg.2.2.1)), hg⟩
theorem GX.setD (h : GX w W g lv rb db N E R D) {i j : Nat} (hi : i < 12) (hj : j < 12) (v : Bool) : GX w (W.setCell ⟨db, i * 12 + j, none⟩ (.bool v)) g lv rb db N E R (upd D i j v) := by
  obtain ⟨F, ns, out, h1, h2, h3⟩ := h.it
  have ho := Only.set W db (i * 12 + j) (.bool v)
  have hst : ∀ k, k < W.heap.size → k ≠ db → (W.setCell ⟨db, i * 12 + j, none⟩ (.bool v)).heap[k]? = W.heap[k]? := fun k hk hn => ho.block k hk (by simpa using hn)
  have hg := h.ge
  have hle : ∀ k, k = db → w.heap.size ≤ k := fun k hk => by omega
  refine ⟨below_trans h.bel (ho.below h.bel.size (fun k hk => hle k (by simpa using hk))), ⟨F, ns, out, h1.stay ho.size (fun k hk => hst k (h1.lt k hk) (h3 k hk).2.2.1), h2, h3⟩, h.sub, h.ls.stay (fun k hk => hst k (h.ls.lt hk).2 (fun e => hg.2.2.2.2 (e ▸ hk))), h.tr.stay (hst rb h.tr.lt hg.2.2.1), h.td.set hi hj v, hg⟩
end
end Go.Proofs.Ytjohhmfncemknaa
