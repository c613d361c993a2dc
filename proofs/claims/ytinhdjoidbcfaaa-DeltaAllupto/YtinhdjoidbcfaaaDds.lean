/-
  The deeds of a delta, as a list, and in memory.
-/
import Derived.Test.YtinhdjoidbcfaaaDeed
namespace Go.Proofs.Ytinhdjoidbcfaaa
open Go.RowKit

inductive Dd where
  | cut (p : List UInt8)
  | put (f : Fl)
def Dd.run : Dd → List Fl → List Fl
  | .cut p, l => cutF p l
  | .put f, l => insF f l
def runs (D : List Dd) (l : List Fl) : List Fl := D.foldl (fun l e => e.run l) l
def ddc (c : Ch) : List Dd := (if c.had then [.cut c.path] else []) ++ (if c.has then [.put c.new] else [])
def dds (d : List Ch) : List Dd := d.flatMap ddc
theorem runs_app (A B : List Dd) (l : List Fl) : runs (A ++ B) l = runs B (runs A l) := List.foldl_append ..
theorem runs_ddc (c : Ch) (l : List Fl) : runs (ddc c) l = stp l c := by
  unfold ddc stp
  cases c.had <;> cases c.has <;> rfl
theorem runs_dds : ∀ (d : List Ch) (l : List Fl), runs (dds d) l = res l d
  | [], l => rfl
  | c :: d, l => by
    show runs (ddc c ++ dds d) l = res (stp l c) d
    rw [runs_app, runs_ddc, runs_dds d]
theorem dds_take (d : List Ch) (k : Nat) (h : k < d.length) : dds (d.take (k + 1)) = dds (d.take k) ++ ddc (d[k]'h) := by
  rw [List.take_add_one, List.getElem?_eq_getElem h, Option.toList_some]
  unfold dds
  rw [List.flatMap_append]; simp
theorem ddc_len (c : Ch) : (ddc c).length ≤ 2 := by unfold ddc; cases c.had <;> cases c.has <;> simp
theorem dds_len (d : List Ch) : (dds d).length ≤ 2 * d.length := by
  induction d with
  | nil => simp [dds]
  | cons c d ih =>
    have := ddc_len c
    show (ddc c ++ dds d).length ≤ _
    simp; omega
/-- may the deeds be done one by one? -/
def okD : List Dd → List Fl → Prop
  | [], l => RUp Fl.path l
  | e :: D, l => RUp Fl.path l ∧ okD D (e.run l)
theorem okD.up {D : List Dd} {l : List Fl} (h : okD D l) : RUp Fl.path l := by cases D with | nil => exact h | cons e D => exact h.1
theorem ok_dds : ∀ (d : List Ch) (a : List Fl), RUp Fl.path a → Dl d → fitA a d = true → okD (dds d) a
  | [], a, ha, _, _ => ha
  | c :: d, a, ha, hd, hf => by
    obtain ⟨x, y, e, hp, hx, hy, hne⟩ := hd.at (lk_mem hd.up (x := c) (by simp))
    have hax : lk Fl.path a c.path = x := fit_at hd hf (p := c.path) (y := y) (by rw [← e]; exact lk_mem hd.up (by simp))
    obtain ⟨s1, s2⟩ := stp_spec ha hax hy
    rw [← e] at s1 s2
    have hf' : fitA (stp a c) d = true := fit_of hd.tail fun p u v h => by
      have hpc : p ≠ c.path := by
        rintro rfl
        rw [lk_tail_self hd.up] at h; simp at h
      rw [s2, if_neg hpc]
      refine fit_at hd hf (y := v) ?_
      simp only [lk]; rw [if_neg (Ne.symm hpc)]; exact h
    have ih := ok_dds d (stp a c) s1 hd.tail hf'
    show okD (ddc c ++ dds d) a
    rw [← runs_ddc] at ih
    unfold ddc at ih ⊢
    cases h1 : c.had <;> cases h2 : c.has <;> simp only [h1, h2, Bool.false_eq_true, if_false, if_true] at ih ⊢
    · exact ih
    · exact ⟨ha, ih⟩
    · exact ⟨ha, ih⟩
    · exact ⟨ha, up_cut _ ha, ih⟩
theorem mem_ins' (f : Fl) : ∀ (l : List Fl) (x : Fl), x ∈ insF f l → x = f ∨ x ∈ l
  | [], x, h => by simp [insF] at h; exact .inl h
  | g :: l, x, h => by
    unfold insF at h
    split at h
    · rcases List.mem_cons.1 h with rfl | h
      · exact .inr (by simp)
      · rcases mem_ins' f l x h with h | h
        · exact .inl h
        · exact .inr (by simp [h])
    · rcases List.mem_cons.1 h with rfl | h
      · exact .inl rfl
      · exact .inr h
theorem len_ins (f : Fl) : ∀ (l : List Fl), (insF f l).length = l.length + 1
  | [] => rfl
  | g :: l => by
    unfold insF
    split
    · simp [len_ins f l]
    · simp
def Dd.ok : Dd → Prop
  | .cut _ => True
  | .put f => Fok f
theorem run_ok {e : Dd} {l : List Fl} (he : e.ok) (hl : ∀ x ∈ l, Fok x) : ∀ x ∈ e.run l, Fok x := by
  intro x hx
  cases e with
  | cut p => exact hl x (List.mem_filter.1 hx).1
  | put f =>
    rcases mem_ins' f l x hx with rfl | h
    · exact he
    · exact hl x h
theorem run_len (e : Dd) (l : List Fl) : (e.run l).length ≤ l.length + 1 := by
  cases e with
  | cut p => have := List.length_filter_le (fun f : Fl => !(f.path == p)) l; simp only [Dd.run, cutF]; omega
  | put f => simp only [Dd.run]; rw [len_ins]; omega
theorem dds_ok {d : List Ch} (h : ∀ c ∈ d, Cok c) : ∀ e ∈ dds d, e.ok := by
  intro e he
  obtain ⟨c, hc, he⟩ := List.mem_flatMap.1 he
  unfold ddc at he
  rcases List.mem_append.1 he with he | he
  · split at he
    · simp at he; subst he; trivial
    · simp at he
  · split at he
    · simp at he; subst he; exact (h c hc).new
    · simp at he
theorem runs_ok : ∀ (D : List Dd) (l : List Fl), (∀ e ∈ D, e.ok) → (∀ x ∈ l, Fok x) → ∀ x ∈ runs D l, Fok x
  | [], l, _, hl => hl
  | e :: D, l, hD, hl => runs_ok D (e.run l) (fun x hx => hD x (by simp [hx])) (run_ok (hD e (by simp)) hl)
theorem runs_len : ∀ (D : List Dd) (l : List Fl), (runs D l).length ≤ l.length + D.length
  | [], l => by simp [runs]
  | e :: D, l => by
    have h1 := runs_len D (e.run l)
    have h2 := run_len e l
    show (runs D (e.run l)).length ≤ _
    simp; omega

/-! in memory -/
/-- a deed as a value, its box outside a block -/
def DV (nb : Option Nat) (w : World) (x : Value) : Dd → Prop
  | .cut p => ∃ b, x = .func (.func 58) #[] #[.pointer (some ⟨b, 0, none⟩)] ∧ w.cell? ⟨b, 0, none⟩ = some (.string (bs p)) ∧ b < w.heap.size ∧ some b ≠ nb
  | .put f => ∃ b, x = .func (.func 61) #[] #[.pointer (some ⟨b, 0, none⟩)] ∧ FB w b f ∧ some b ≠ nb
theorem DV.grown {nb nb' : Option Nat} {w w' : World} {x : Value} {e : Dd} (h : DV nb w x e) (hg : ∀ b, b < w.heap.size → some b ≠ nb → w'.heap[b]? = w.heap[b]?) (hs : w.heap.size ≤ w'.heap.size) (hn : ∀ b, b < w.heap.size → some b ≠ nb → some b ≠ nb') : DV nb' w' x e := by
  cases e with
  | cut p =>
    obtain ⟨b, e1, e2, e3, e4⟩ := h
    exact ⟨b, e1, (World.cell?_of_block (a := ⟨b, 0, none⟩) (hg b e3 e4)).trans e2, by omega, hn b e3 e4⟩
  | put f =>
    obtain ⟨b, e1, e2, e4⟩ := h
    have hb := hg b e2.lt e4
    exact ⟨b, e1, ⟨(World.cell?_of_block (a := ⟨b, 0, none⟩) hb).trans e2.c0, (World.cell?_of_block (a := ⟨b, 1, none⟩) hb).trans e2.c1, (World.cell?_of_block (a := ⟨b, 2, none⟩) hb).trans e2.c2, (World.cell?_of_block (a := ⟨b, 3, none⟩) hb).trans e2.c3, Nat.lt_of_lt_of_le e2.lt hs⟩, hn b e2.lt e4⟩
theorem DV.later {nb : Option Nat} {w w' : World} {x : Value} {e : Dd} (h : DV nb w x e) (hb : Below w.heap.size w w') : DV nb w' x e := h.grown (fun b hlt _ => hb.block b hlt) hb.size (fun _ _ h => h)
def DVs (nb : Option Nat) (w : World) : List Value → List Dd → Prop
  | [], [] => True
  | x :: xs, e :: es => DV nb w x e ∧ DVs nb w xs es
  | _, _ => False
theorem DVs.len {nb : Option Nat} {w : World} : ∀ {xs : List Value} {es : List Dd}, DVs nb w xs es → xs.length = es.length
  | [], [], _ => rfl
  | [], _ :: _, h => h.elim
  | _ :: _, [], h => h.elim
  | _ :: _, _ :: _, h => by simp [DVs.len h.2]
theorem DVs.app {nb : Option Nat} {w : World} : ∀ {xs : List Value} {es : List Dd} {x : Value} {e : Dd}, DVs nb w xs es → DV nb w x e → DVs nb w (xs ++ [x]) (es ++ [e])
  | [], [], _, _, _, h => ⟨h, trivial⟩
  | [], _ :: _, _, _, h, _ => h.elim
  | _ :: _, [], _, _, h, _ => h.elim
  | _ :: _, _ :: _, _, _, h, k => ⟨h.1, DVs.app h.2 k⟩
theorem DVs.map {nb nb' : Option Nat} {w w' : World} (hm : ∀ x e, DV nb w x e → DV nb' w' x e) : ∀ {xs : List Value} {es : List Dd}, DVs nb w xs es → DVs nb' w' xs es
  | [], [], _ => trivial
  | [], _ :: _, h => h.elim
  | _ :: _, [], h => h.elim
  | x :: _, e :: _, h => ⟨hm x e h.1, DVs.map hm h.2⟩
theorem DVs.at {nb : Option Nat} {w : World} : ∀ {xs : List Value} {es : List Dd}, DVs nb w xs es → ∀ k (h1 : k < xs.length) (h2 : k < es.length), DV nb w (xs[k]'h1) (es[k]'h2)
  | _ :: _, _ :: _, h, 0, _, _ => h.1
  | _ :: _, _ :: _, h, k + 1, h1, h2 => DVs.at h.2 k (by simpa using h1) (by simpa using h2)
theorem und55 : Try.prog.underlying 55 = some (.slice 58) := by kernel_rfl
theorem info58 : (Try.prog.info? 58).map (fun i => (i.zero, i.size, i.bytes)) = some (some .nilFunc, 1, 8) := by kernel_rfl
/-- deeds in a row of the call's own -/
structure OD (base : Nat) (w : World) (v : Value) (D : List Dd) (xs : List Value) : Prop where
  own : w.ownsRow base 58 1 v xs.length xs
  val : DVs v.ownBlock w xs D
theorem OD.nil (base : Nat) (w : World) : OD base w (.slice none 0 0) [] [] := ⟨World.ownsRow_nil w base 58 1, trivial⟩
theorem OD.later {base : Nat} {w w' : World} {v : Value} {D : List Dd} {xs : List Value} (h : OD base w v D xs) (hb : Below w.heap.size w w') : OD base w' v D xs := by
  refine ⟨?_, DVs.map (fun x e hx => hx.later hb) h.val⟩
  rcases h.own with ⟨h0, h1 | ⟨g, cap, cur, rfl, h2, hg, hr⟩⟩
  · exact ⟨h0, .inl h1⟩
  · exact ⟨h0, .inr ⟨g, cap, cur, rfl, h2, (hb.block g (Array.getElem?_eq_some_iff.1 hg).1).trans hg, hr⟩⟩
theorem OD.lt {base : Nat} {w : World} {v : Value} {D : List Dd} {xs : List Value} (h : OD base w v D xs) {k : Nat} (hk : v.ownBlock = some k) : base ≤ k ∧ k < w.heap.size := World.ownsRow.lt h.own k hk
theorem app_dd {w : World} {base : Nat} {v x : Value} {D : List Dd} {xs : List Value} {e : Dd} {y : Value} (h : OD base w v D xs) (hy : DV v.ownBlock w y e) (hs : Src Try.prog 1 55 x 1 [y] w) (hb : xs.length + 1 ≤ 100000000) (hbase : base ≤ w.heap.size)
    {ops : Array Oper} {rest : List Oper} {o : Oper} {a : Act} {Q : Exit → Act → World → Prop} (hgd : o.guard = none) (s z : Operand)
    (ho : o.op = .call { callee := .builtin .append, args := #[s, z], argTypes := #[55, 55] }) (hv : a.eval s = v) (hx : a.eval z = x)
    (k : ∀ v' w', OD base w' v' (D ++ [e]) (xs ++ [y]) → Below base w w' → (∀ b j, b < w.heap.size → v.ownBlock ≠ some b → w'.cell? ⟨b, j, none⟩ = w.cell? ⟨b, j, none⟩) → wpList Try.prog ops Q rest (a.put o.dst v') w') :
    wpList Try.prog ops Q (o :: rest) a w := by
  obtain ⟨i0, hi, hz0, hz1, hz2⟩ := info_parts info58
  refine wpList_append_src w hgd s z 55 55 ho base 58 i0 _ 1 8 und55 hi hz0 hz1 hz2 rfl v xs.length xs hv h.own x 1 [y] hx hs (by simp only [maxLen]; omega) (by omega) hbase ?_
  intro v' w' h1 h2 h3
  have hm : ∀ (x : Value) (e : Dd), DV v.ownBlock w x e → DV v'.ownBlock w' x e := fun x e hx => hx.grown (fun b hlt hne => h2.block b hlt hne) h2.size (fun b hlt hne => by
    rcases h3 with h3 | h3
    · rw [h3]; exact hne
    · rw [h3]; intro e; injection e with e; omega)
  refine k v' w' ⟨by rw [List.length_append]; exact h1, (DVs.map hm h.val).app (hm _ _ hy)⟩ ((Below.refl _ _).grown h2 hbase (fun j hj => (h.lt hj).1)) (fun b j hlt hne => World.cell?_of_block (a := ⟨b, j, none⟩) (h2.block b hlt (Ne.symm hne)))
theorem src_dd (w : World) (y : Value) (hy : y.oneCell' = true) : Src Try.prog 1 55 (.slice (some ⟨w.heap.size, 0, none⟩) 1 1) 1 [y] (w.alloc (.cells #[y] 58)) := by
  refine Src.ofSlice _ und55 ⟨w.heap.size, 0, none⟩ 1 1 [y] (by simp) ?_ (by simpa using hy)
  exact World.news_of_block (heap_alloc_new w _)
end Go.Proofs.Ytinhdjoidbcfaaa
