/-
  Labels and targets in memory: one by one, and as rows.
-/
import Derived.Test.YtddaoloabfkheaaGreatDoorJRd
namespace Go.Proofs.YtddaoloabfkheaaGreatDoor
open Go.RowKit

theorem only_grown {w w' : World} {o : Obj} {b : Option Nat} (h : (w.alloc o).grownBy w' b) : Only b.toList w w' := by
  obtain ⟨h1, h2, h3, h4, h5⟩ := h
  refine ⟨h1, h2, h3, by simp at h4; omega, fun k hk hn => ?_⟩
  refine (h5 k (by simp; omega) ?_).trans (heap_alloc_old _ _ hk)
  intro e; apply hn; rw [← e]; simp

theorem app_S {w : World} {base : Nat} {v : Value} {l : List (List UInt8)} (t : List UInt8) (hown : Own base w v l) (hb : l.length + 1 ≤ 100000000) (hbase : base ≤ w.heap.size)
    {ops : Array Oper} {rest : List Oper} {o : Oper} {a : Act} {Q : Exit → Act → World → Prop} (hgd : o.guard = none) (s y : Operand)
    (ho : o.op = .call { callee := .builtin .append, args := #[s, y], argTypes := #[63, 63] }) (hv : a.eval s = v) (hx : a.eval y = .slice (some ⟨w.heap.size, 0, none⟩) 1 1)
    (h : ∀ v' w', Own base w' v' (l ++ [t]) → Below base w w' → Only v.ownBlock.toList w w' → base ≤ w'.heap.size → (v'.ownBlock = v.ownBlock ∨ ∃ k, v'.ownBlock = some k ∧ w.heap.size ≤ k) → wpList Tryz.prog ops Q rest (a.put o.dst v') w') :
    wpList Tryz.prog ops Q (o :: rest) a (w.alloc (.cells #[.string (bs t)] 9)) := by
  refine app_strs (base := base) (l := l) (k := [t]) (World.ownsRow.alloc hown _) (src_one w t) (by simp; omega) (by simp; omega) hgd s y ho hv hx ?_
  intro v' w' h1 h2 h3
  have hlt := World.ownsRow.lt hown
  have hB : Below base w w' := ((Below.refl _ _).alloc hbase _).grown h2 (by simp; omega) (fun k hk => (hlt k hk).1)
  refine h v' w' h1 hB (only_grown h2) (Nat.le_trans hbase hB.size) ?_
  rcases h3 with h3 | h3
  · exact .inl h3
  · exact .inr ⟨_, h3, by simp⟩

def lc : List Lb → List Value
  | [] => []
  | t :: r => .string (bs t.pkg) :: .string (bs t.name) :: lc r
theorem lc_length : ∀ l, (lc l).length = l.length * 2
  | [] => rfl
  | f :: r => by simp only [lc, List.length_cons, lc_length r]; omega
theorem lc_append : ∀ a b, lc (a ++ b) = lc a ++ lc b
  | [], b => rfl
  | f :: r, b => by simp [lc, lc_append r b]
theorem lc_one : ∀ (l : List Lb), ∀ u ∈ lc l, u.oneCell' = true
  | [], u, h => by simp [lc] at h
  | f :: r, u, h => by
    simp only [lc, List.mem_cons] at h
    rcases h with rfl | rfl | h
    · rfl
    · rfl
    · exact lc_one r u h
theorem lc_get : ∀ (l : List Lb) (k : Nat) (h : k < l.length), (lc l)[k * 2]? = some (.string (bs l[k].pkg)) ∧ (lc l)[k * 2 + 1]? = some (.string (bs l[k].name))
  | f :: r, 0, _ => ⟨rfl, rfl⟩
  | f :: r, k + 1, h => by
    have ih := lc_get r k (by simpa using h)
    rw [show (k + 1) * 2 = k * 2 + 2 by omega]
    simp only [lc, List.getElem_cons_succ]
    exact ih
/-- a slice of them reads as a list -/
def LS (w : World) (v : Value) (l : List Lb) : Prop :=
  ((∃ a c, v = .slice a 0 c) ∧ l = []) ∨
  ∃ b off cap, v = .slice (some ⟨b, off, none⟩) l.length cap ∧ l.length ≤ cap ∧ b < w.heap.size ∧ ∀ i u, (lc l)[i]? = some u → w.cell? ⟨b, off + i, none⟩ = some u
theorem LS.later {w w' : World} {v : Value} {l : List Lb} (h : LS w v l) (hb : Below w.heap.size w w') : LS w' v l := by
  rcases h with h | ⟨b, off, cap, rfl, hc, hlt, hcell⟩
  · exact .inl h
  · refine .inr ⟨b, off, cap, rfl, hc, Nat.lt_of_lt_of_le hlt hb.size, fun i u hu => ?_⟩
    rw [hb.cell (p := ⟨b, off + i, none⟩) hlt]; exact hcell i u hu
theorem LS_nil (w : World) : LS w (.slice none 0 0) [] := .inl ⟨⟨_, _, rfl⟩, rfl⟩
theorem LS.form {w : World} {v : Value} {l : List Lb} (h : LS w v l) : ∃ a c, v = .slice a l.length c ∧ (∀ k, (hk : k < l.length) → ∃ b off, a = some ⟨b, off, none⟩ ∧ b < w.heap.size ∧
    w.cell? ⟨b, off + k * 2, none⟩ = some (.string (bs l[k].pkg)) ∧ w.cell? ⟨b, off + k * 2 + 1, none⟩ = some (.string (bs l[k].name))) := by
  rcases h with ⟨⟨a, c, rfl⟩, rfl⟩ | ⟨b, off, cap, rfl, hc, hlt, hcell⟩
  · exact ⟨a, c, rfl, fun k hk => by simp at hk⟩
  · refine ⟨_, cap, rfl, fun k hk => ⟨b, off, rfl, hlt, ?_⟩⟩
    obtain ⟨c0, c1⟩ := lc_get l k hk
    exact ⟨hcell _ _ c0, by rw [Nat.add_assoc]; exact hcell _ _ c1⟩
theorem LS.at {w : World} {a : Option Addr} {c n : Nat} {l : List Lb} (h : LS w (.slice a n c) l) {wr : World} (hb : Below w.heap.size w wr) {k : Nat} (hk : k < l.length) : ∃ b off, a = some ⟨b, off, none⟩ ∧ b < w.heap.size ∧
    wr.cell? ⟨b, off + k * 2, none⟩ = some (.string (bs l[k].pkg)) ∧ wr.cell? ⟨b, off + k * 2 + 1, none⟩ = some (.string (bs l[k].name)) := by
  rcases h with ⟨⟨a', c', e⟩, rfl⟩ | ⟨b, off, cap, e, hc, hlt, hcell⟩
  · simp at hk
  · injection e with e1 e2 e3
    subst e1
    obtain ⟨c0, c1⟩ := lc_get l k hk
    refine ⟨b, off, rfl, hlt, ?_, ?_⟩
    · rw [hb.cell (p := ⟨b, off + k * 2, none⟩) hlt]; exact hcell _ _ c0
    · rw [hb.cell (p := ⟨b, off + k * 2 + 1, none⟩) hlt, Nat.add_assoc]; exact hcell _ _ c1
/-- a row of the call's own -/
def OwnL (base : Nat) (w : World) (v : Value) (l : List Lb) : Prop := w.ownsRow base 92 2 v l.length (lc l)
theorem OwnL.nil (base : Nat) (w : World) : OwnL base w (.slice none 0 0) [] := World.ownsRow_nil w base 92 2
theorem OwnL.mono {base base' : Nat} {w : World} {v : Value} {l : List Lb} (h : OwnL base w v l) (hb : base' ≤ base) : OwnL base' w v l := World.ownsRow.mono h hb
theorem OwnL.rs {base : Nat} {w : World} {v : Value} {l : List Lb} (h : OwnL base w v l) : LS w v l := by
  rcases h.2 with ⟨rfl, h0⟩ | ⟨g, cap, cur, rfl, hb, hg, hn, _⟩
  · exact .inl ⟨⟨_, _, rfl⟩, List.eq_nil_of_length_eq_zero h0⟩
  · refine .inr ⟨g, 0, cap, rfl, hn, (Array.getElem?_eq_some_iff.1 hg).1, fun i u hu => ?_⟩
    have := World.ownsRow.cells h (g := g) rfl i u hu
    rw [add_lit] at this; exact this
theorem OwnL.lt {base : Nat} {w : World} {v : Value} {l : List Lb} (h : OwnL base w v l) {k : Nat} (hk : v.ownBlock = some k) : base ≤ k ∧ k < w.heap.size := World.ownsRow.lt h k hk
theorem OwnL.only {S : List Nat} {base : Nat} {w w' : World} {v : Value} {l : List Lb} (h : OwnL base w v l) (ho : Only S w w') (hn : ∀ k, v.ownBlock = some k → k ∉ S) : OwnL base w' v l := by
  rcases h with ⟨h0, h | ⟨g, cap, cur, rfl, hb, hg, hr⟩⟩
  · exact ⟨h0, .inl h⟩
  · exact ⟨h0, .inr ⟨g, cap, cur, rfl, hb, (ho.block g (Array.getElem?_eq_some_iff.1 hg).1 (hn g rfl)).trans hg, hr⟩⟩
theorem OwnL.later {base : Nat} {w w' : World} {v : Value} {l : List Lb} (h : OwnL base w v l) (hb : Below w.heap.size w w') : OwnL base w' v l :=
  h.only (Only.of_below hb []) (by simp)
theorem OwnL.form {base : Nat} {w : World} {v : Value} {l : List Lb} (h : OwnL base w v l) : ∃ a c, v = .slice a l.length c := by
  obtain ⟨a, c, e, _⟩ := h.rs.form; exact ⟨a, c, e⟩
theorem und_L : Tryz.prog.underlying 64 = some (.slice 92) := by kernel_rfl
theorem info_L : (Tryz.prog.info? 92).map (fun i => (i.zero, i.size, i.bytes)) = some (some (.agg #[.string ⟨#[]⟩, .string ⟨#[]⟩]), 2, 32) := by kernel_rfl
theorem app_Ls {w : World} {base : Nat} {v x : Value} {l k : List Lb} (hown : OwnL base w v l) (hs : Src Tryz.prog 2 64 x k.length (lc k) w) (hb : l.length + k.length ≤ 100000000) (hbase : base ≤ w.heap.size)
    {ops : Array Oper} {rest : List Oper} {o : Oper} {a : Act} {Q : Exit → Act → World → Prop} (hgd : o.guard = none) (s y : Operand)
    (ho : o.op = .call { callee := .builtin .append, args := #[s, y], argTypes := #[64, 64] }) (hv : a.eval s = v) (hx : a.eval y = x)
    (h : ∀ v' w', OwnL base w' v' (l ++ k) → w.grownBy w' v.ownBlock → (v'.ownBlock = v.ownBlock ∨ v'.ownBlock = some w.heap.size) → wpList Tryz.prog ops Q rest (a.put o.dst v') w') :
    wpList Tryz.prog ops Q (o :: rest) a w := by
  obtain ⟨i0, hi, hz0, hz1, hz2⟩ := info_parts info_L
  refine wpList_append_src w hgd s y 64 64 ho base 92 i0 _ 2 32 und_L hi hz0 hz1 hz2 rfl v l.length (lc l) hv hown x k.length (lc k) hx hs (by simp only [maxLen]; omega) (by omega) hbase ?_
  intro v' w' h1 h2 h3
  exact h v' w' (by unfold OwnL; rw [lc_append, List.length_append]; exact h1) h2 h3
theorem src_L (w : World) (t : Lb) : Src Tryz.prog 2 64 (.slice (some ⟨w.heap.size, 0, none⟩) 1 1) [t].length (lc [t]) (w.alloc (.cells #[.string (bs t.pkg), .string (bs t.name)] 92)) := by
  refine Src.ofSlice _ und_L ⟨w.heap.size, 0, none⟩ 1 1 (lc [t]) (by simp [lc_length]) ?_ (lc_one _)
  exact World.news_of_block (heap_alloc_new w _)
theorem app_L {w : World} {base : Nat} {v : Value} {l : List Lb} (t : Lb) (hown : OwnL base w v l) (hb : l.length + 1 ≤ 100000000) (hbase : base ≤ w.heap.size)
    {ops : Array Oper} {rest : List Oper} {o : Oper} {a : Act} {Q : Exit → Act → World → Prop} (hgd : o.guard = none) (s y : Operand)
    (ho : o.op = .call { callee := .builtin .append, args := #[s, y], argTypes := #[64, 64] }) (hv : a.eval s = v) (hx : a.eval y = .slice (some ⟨w.heap.size, 0, none⟩) 1 1)
    (h : ∀ v' w', OwnL base w' v' (l ++ [t]) → Below base w w' → Only v.ownBlock.toList w w' → base ≤ w'.heap.size → (v'.ownBlock = v.ownBlock ∨ ∃ k, v'.ownBlock = some k ∧ w.heap.size ≤ k) → wpList Tryz.prog ops Q rest (a.put o.dst v') w') :
    wpList Tryz.prog ops Q (o :: rest) a (w.alloc (.cells #[.string (bs t.pkg), .string (bs t.name)] 92)) := by
  refine app_Ls (base := base) (l := l) (k := [t]) (World.ownsRow.alloc hown _) (src_L w t) (by simpa using hb) (by simp; omega) hgd s y ho hv hx ?_
  intro v' w' h1 h2 h3
  have hlt := World.ownsRow.lt hown
  have hB : Below base w w' := ((Below.refl _ _).alloc hbase _).grown h2 (by simp; omega) (fun k hk => (hlt k hk).1)
  refine h v' w' h1 hB (only_grown h2) (Nat.le_trans hbase hB.size) ?_
  rcases h3 with h3 | h3
  · exact .inl h3
  · exact .inr ⟨_, h3, by simp⟩

/-- a target as it lies: its name, its three slices -/
structure Tv where
  name : List UInt8
  sa : Option Addr
  sn : Nat
  sc : Nat
  da : Option Addr
  dn : Nat
  dc : Nat
  ea : Option Addr
  en : Nat
  ec : Nat

def Tv.val (t : Tv) : Value := .agg #[.string (bs t.name), .slice t.sa t.sn t.sc, .slice t.da t.dn t.dc, .slice t.ea t.en t.ec]
def gc : List Tv → List Value
  | [] => []
  | t :: r => .string (bs t.name) :: .slice t.sa t.sn t.sc :: .slice t.da t.dn t.dc :: .slice t.ea t.en t.ec :: gc r
theorem gc_length : ∀ l, (gc l).length = l.length * 4
  | [] => rfl
  | f :: r => by simp only [gc, List.length_cons, gc_length r]; omega
theorem gc_append : ∀ a b, gc (a ++ b) = gc a ++ gc b
  | [], b => rfl
  | f :: r, b => by simp [gc, gc_append r b]
theorem gc_one : ∀ (l : List Tv), ∀ u ∈ gc l, u.oneCell' = true
  | [], u, h => by simp [gc] at h
  | f :: r, u, h => by
    simp only [gc, List.mem_cons] at h
    rcases h with rfl | rfl | rfl | rfl | h
    · rfl
    · rfl
    · rfl
    · rfl
    · exact gc_one r u h
theorem gc_get : ∀ (l : List Tv) (k : Nat) (h : k < l.length), (gc l)[k * 4]? = some (.string (bs l[k].name)) ∧ (gc l)[k * 4 + 1]? = some (.slice l[k].sa l[k].sn l[k].sc) ∧ (gc l)[k * 4 + 2]? = some (.slice l[k].da l[k].dn l[k].dc) ∧ (gc l)[k * 4 + 3]? = some (.slice l[k].ea l[k].en l[k].ec)
  | f :: r, 0, _ => ⟨rfl, rfl, rfl, rfl⟩
  | f :: r, k + 1, h => by
    have ih := gc_get r k (by simpa using h)
    rw [show (k + 1) * 4 = k * 4 + 4 by omega]
    simp only [gc, List.getElem_cons_succ]
    exact ih
/-- a slice of them reads as a list -/
def GS (w : World) (v : Value) (l : List Tv) : Prop :=
  ((∃ a c, v = .slice a 0 c) ∧ l = []) ∨
  ∃ b off cap, v = .slice (some ⟨b, off, none⟩) l.length cap ∧ l.length ≤ cap ∧ b < w.heap.size ∧ ∀ i u, (gc l)[i]? = some u → w.cell? ⟨b, off + i, none⟩ = some u
theorem GS.later {w w' : World} {v : Value} {l : List Tv} (h : GS w v l) (hb : Below w.heap.size w w') : GS w' v l := by
  rcases h with h | ⟨b, off, cap, rfl, hc, hlt, hcell⟩
  · exact .inl h
  · refine .inr ⟨b, off, cap, rfl, hc, Nat.lt_of_lt_of_le hlt hb.size, fun i u hu => ?_⟩
    rw [hb.cell (p := ⟨b, off + i, none⟩) hlt]; exact hcell i u hu
theorem GS.form {w : World} {v : Value} {l : List Tv} (h : GS w v l) : ∃ a c, v = .slice a l.length c ∧ (∀ k, (hk : k < l.length) → ∃ b off, a = some ⟨b, off, none⟩ ∧ b < w.heap.size ∧
    w.cell? ⟨b, off + k * 4, none⟩ = some (.string (bs l[k].name)) ∧ w.cell? ⟨b, off + k * 4 + 1, none⟩ = some (.slice l[k].sa l[k].sn l[k].sc) ∧ w.cell? ⟨b, off + k * 4 + 2, none⟩ = some (.slice l[k].da l[k].dn l[k].dc) ∧ w.cell? ⟨b, off + k * 4 + 3, none⟩ = some (.slice l[k].ea l[k].en l[k].ec)) := by
  rcases h with ⟨⟨a, c, rfl⟩, rfl⟩ | ⟨b, off, cap, rfl, hc, hlt, hcell⟩
  · exact ⟨a, c, rfl, fun k hk => by simp at hk⟩
  · refine ⟨_, cap, rfl, fun k hk => ⟨b, off, rfl, hlt, ?_⟩⟩
    obtain ⟨c0, c1, c2, c3⟩ := gc_get l k hk
    exact ⟨hcell _ _ c0, by rw [Nat.add_assoc]; exact hcell _ _ c1, by rw [Nat.add_assoc]; exact hcell _ _ c2, by rw [Nat.add_assoc]; exact hcell _ _ c3⟩
theorem GS.at {w : World} {a : Option Addr} {c n : Nat} {l : List Tv} (h : GS w (.slice a n c) l) {wr : World} (hb : Below w.heap.size w wr) {k : Nat} (hk : k < l.length) : ∃ b off, a = some ⟨b, off, none⟩ ∧ b < w.heap.size ∧
    wr.cell? ⟨b, off + k * 4, none⟩ = some (.string (bs l[k].name)) ∧ wr.cell? ⟨b, off + k * 4 + 1, none⟩ = some (.slice l[k].sa l[k].sn l[k].sc) ∧ wr.cell? ⟨b, off + k * 4 + 2, none⟩ = some (.slice l[k].da l[k].dn l[k].dc) ∧ wr.cell? ⟨b, off + k * 4 + 3, none⟩ = some (.slice l[k].ea l[k].en l[k].ec) := by
  rcases h with ⟨⟨a', c', e⟩, rfl⟩ | ⟨b, off, cap, e, hc, hlt, hcell⟩
  · simp at hk
  · injection e with e1 e2 e3
    subst e1
    obtain ⟨c0, c1, c2, c3⟩ := gc_get l k hk
    refine ⟨b, off, rfl, hlt, ?_, ?_, ?_, ?_⟩
    · rw [hb.cell (p := ⟨b, off + k * 4, none⟩) hlt]; exact hcell _ _ c0
    · rw [hb.cell (p := ⟨b, off + k * 4 + 1, none⟩) hlt, Nat.add_assoc]; exact hcell _ _ c1
    · rw [hb.cell (p := ⟨b, off + k * 4 + 2, none⟩) hlt, Nat.add_assoc]; exact hcell _ _ c2
    · rw [hb.cell (p := ⟨b, off + k * 4 + 3, none⟩) hlt, Nat.add_assoc]; exact hcell _ _ c3
/-- a row of the call's own -/
def OwnG (base : Nat) (w : World) (v : Value) (l : List Tv) : Prop := w.ownsRow base 66 4 v l.length (gc l)
theorem OwnG.nil (base : Nat) (w : World) : OwnG base w (.slice none 0 0) [] := World.ownsRow_nil w base 66 4
theorem OwnG.mono {base base' : Nat} {w : World} {v : Value} {l : List Tv} (h : OwnG base w v l) (hb : base' ≤ base) : OwnG base' w v l := World.ownsRow.mono h hb
theorem OwnG.rs {base : Nat} {w : World} {v : Value} {l : List Tv} (h : OwnG base w v l) : GS w v l := by
  rcases h.2 with ⟨rfl, h0⟩ | ⟨g, cap, cur, rfl, hb, hg, hn, _⟩
  · exact .inl ⟨⟨_, _, rfl⟩, List.eq_nil_of_length_eq_zero h0⟩
  · refine .inr ⟨g, 0, cap, rfl, hn, (Array.getElem?_eq_some_iff.1 hg).1, fun i u hu => ?_⟩
    have := World.ownsRow.cells h (g := g) rfl i u hu
    rw [add_lit] at this; exact this
theorem OwnG.lt {base : Nat} {w : World} {v : Value} {l : List Tv} (h : OwnG base w v l) {k : Nat} (hk : v.ownBlock = some k) : base ≤ k ∧ k < w.heap.size := World.ownsRow.lt h k hk
theorem OwnG.only {S : List Nat} {base : Nat} {w w' : World} {v : Value} {l : List Tv} (h : OwnG base w v l) (ho : Only S w w') (hn : ∀ k, v.ownBlock = some k → k ∉ S) : OwnG base w' v l := by
  rcases h with ⟨h0, h | ⟨g, cap, cur, rfl, hb, hg, hr⟩⟩
  · exact ⟨h0, .inl h⟩
  · exact ⟨h0, .inr ⟨g, cap, cur, rfl, hb, (ho.block g (Array.getElem?_eq_some_iff.1 hg).1 (hn g rfl)).trans hg, hr⟩⟩
theorem OwnG.later {base : Nat} {w w' : World} {v : Value} {l : List Tv} (h : OwnG base w v l) (hb : Below w.heap.size w w') : OwnG base w' v l :=
  h.only (Only.of_below hb []) (by simp)
theorem OwnG.form {base : Nat} {w : World} {v : Value} {l : List Tv} (h : OwnG base w v l) : ∃ a c, v = .slice a l.length c := by
  obtain ⟨a, c, e, _⟩ := h.rs.form; exact ⟨a, c, e⟩
theorem und_G : Tryz.prog.underlying 34 = some (.slice 66) := by kernel_rfl
theorem info_G : (Tryz.prog.info? 66).map (fun i => (i.zero, i.size, i.bytes)) = some (some (.agg #[.string ⟨#[]⟩, .slice none 0 0, .slice none 0 0, .slice none 0 0]), 4, 88) := by kernel_rfl
theorem app_Gs {w : World} {base : Nat} {v x : Value} {l k : List Tv} (hown : OwnG base w v l) (hs : Src Tryz.prog 4 34 x k.length (gc k) w) (hb : l.length + k.length ≤ 100000000) (hbase : base ≤ w.heap.size)
    {ops : Array Oper} {rest : List Oper} {o : Oper} {a : Act} {Q : Exit → Act → World → Prop} (hgd : o.guard = none) (s y : Operand)
    (ho : o.op = .call { callee := .builtin .append, args := #[s, y], argTypes := #[34, 34] }) (hv : a.eval s = v) (hx : a.eval y = x)
    (h : ∀ v' w', OwnG base w' v' (l ++ k) → w.grownBy w' v.ownBlock → (v'.ownBlock = v.ownBlock ∨ v'.ownBlock = some w.heap.size) → wpList Tryz.prog ops Q rest (a.put o.dst v') w') :
    wpList Tryz.prog ops Q (o :: rest) a w := by
  obtain ⟨i0, hi, hz0, hz1, hz2⟩ := info_parts info_G
  refine wpList_append_src w hgd s y 34 34 ho base 66 i0 _ 4 88 und_G hi hz0 hz1 hz2 rfl v l.length (gc l) hv hown x k.length (gc k) hx hs (by simp only [maxLen]; omega) (by omega) hbase ?_
  intro v' w' h1 h2 h3
  exact h v' w' (by unfold OwnG; rw [gc_append, List.length_append]; exact h1) h2 h3
theorem src_G (w : World) (t : Tv) : Src Tryz.prog 4 34 (.slice (some ⟨w.heap.size, 0, none⟩) 1 1) [t].length (gc [t]) (w.alloc (.cells #[.string (bs t.name), .slice t.sa t.sn t.sc, .slice t.da t.dn t.dc, .slice t.ea t.en t.ec] 66)) := by
  refine Src.ofSlice _ und_G ⟨w.heap.size, 0, none⟩ 1 1 (gc [t]) (by simp [gc_length]) ?_ (gc_one _)
  exact World.news_of_block (heap_alloc_new w _)
theorem app_G {w : World} {base : Nat} {v : Value} {l : List Tv} (t : Tv) (hown : OwnG base w v l) (hb : l.length + 1 ≤ 100000000) (hbase : base ≤ w.heap.size)
    {ops : Array Oper} {rest : List Oper} {o : Oper} {a : Act} {Q : Exit → Act → World → Prop} (hgd : o.guard = none) (s y : Operand)
    (ho : o.op = .call { callee := .builtin .append, args := #[s, y], argTypes := #[34, 34] }) (hv : a.eval s = v) (hx : a.eval y = .slice (some ⟨w.heap.size, 0, none⟩) 1 1)
    (h : ∀ v' w', OwnG base w' v' (l ++ [t]) → Below base w w' → Only v.ownBlock.toList w w' → base ≤ w'.heap.size → (v'.ownBlock = v.ownBlock ∨ ∃ k, v'.ownBlock = some k ∧ w.heap.size ≤ k) → wpList Tryz.prog ops Q rest (a.put o.dst v') w') :
    wpList Tryz.prog ops Q (o :: rest) a (w.alloc (.cells #[.string (bs t.name), .slice t.sa t.sn t.sc, .slice t.da t.dn t.dc, .slice t.ea t.en t.ec] 66)) := by
  refine app_Gs (base := base) (l := l) (k := [t]) (World.ownsRow.alloc hown _) (src_G w t) (by simpa using hb) (by simp; omega) hgd s y ho hv hx ?_
  intro v' w' h1 h2 h3
  have hlt := World.ownsRow.lt hown
  have hB : Below base w w' := ((Below.refl _ _).alloc hbase _).grown h2 (by simp; omega) (fun k hk => (hlt k hk).1)
  refine h v' w' h1 hB (only_grown h2) (Nat.le_trans hbase hB.size) ?_
  rcases h3 with h3 | h3
  · exact .inl h3
  · exact .inr ⟨_, h3, by simp⟩
end Go.Proofs.YtddaoloabfkheaaGreatDoor
