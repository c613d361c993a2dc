/-
  The document's labels: Valid, Print, Cmp.
  Rows of labels in memory.
-/
import Derived.Test.YtclbnjfmipifnaaJCmp
import Derived.Test.YtclbnjfmipifnaaRef
import Derived.Deep.RegionHeld3
import Derived.Laws.CopyRow
import Derived.Laws.IdiomCopy
import Derived.Lib.AppendZerosOnto
import Derived.Lib.Overlaps
import Derived.Deep.RegionLaw
namespace Go.Proofs.Ytclbnjfmipifnaa
open Go.RowKit

/-- texts that are short -/
structure Lu (l : Lb) : Prop where
  pkg : l.pkg.length ≤ 1000000000
  name : l.name.length ≤ 1000000000
theorem Lu.lm {l : Lb} (h : Lu l) : Lm l := ⟨by have := h.pkg; omega, by have := h.name; omega⟩
/-- less, by the bytes -/
theorem cb_less : ∀ (a b : List UInt8), Op.bytesLess a b = decide (Lib.compareBytes a b = -1)
  | [], [] => by simp [Op.bytesLess, Lib.compareBytes]
  | [], _ :: _ => by simp [Op.bytesLess, Lib.compareBytes]
  | _ :: _, [] => by simp [Op.bytesLess, Lib.compareBytes]
  | a :: x, b :: y => by
    have ih := cb_less x y
    unfold Op.bytesLess Lib.compareBytes
    rw [ih]
    by_cases h1 : a < b
    · simp [h1]
    · by_cases h2 : b < a
      · have h3 : (a == b) = false := by
          rw [beq_eq_false_iff_ne]; rintro rfl; exact h1 h2
        simp [h1, h2, h3]
      · have h3 : a = b := by
          apply UInt8.toNat_inj.1
          have g1 : ¬ a.toNat < b.toNat := fun h => h1 (UInt8.lt_iff_toNat_lt.2 h)
          have g2 : ¬ b.toNat < a.toNat := fun h => h2 (UInt8.lt_iff_toNat_lt.2 h)
          omega
        subst h3
        simp [h1]
set_option maxHeartbeats 1000000 in
theorem rlcmp_any (a b : Lb) (w : World) (ha : Lu a) (hb : Lu b) : Calls Try.prog 31 #[a.val, b.val] w fun e w' => e = .returned (.int .i64 (cmpL a b)) ∧ Below w.heap.size w w' := by
  obtain ⟨p, n⟩ := a
  obtain ⟨q, m⟩ := b
  have HC : Hid (∀ w : World, Calls Try.prog 43 #[.string (bs p), .string (bs q)] w fun e w' => e = .returned (.int .i64 (cmpP (pcs p) (pcs q))) ∧ Below w.heap.size w w') := fun w => rcmp_any p q w ha.pkg hb.pkg
  have hcb := cb_iff (a := n) (b := m)
  have hcr := cb_range n m
  have hls := cb_less n m
  clear ha hb
  simp only [Lb.val, cmpL]
  generalize cmpP (pcs p) (pcs q) = x at *
  generalize Lib.compareBytes n m = y at *
  have e1 := bs_toList n
  have e2 := bs_toList m
  have HA : Hid (RB ((w.alloc (.cells #[.string (bs p), .string (bs n)] 35)).alloc (.cells #[.string (bs q), .string (bs m)] 35)) w.heap.size ⟨p, n⟩) := (RB.new w ⟨p, n⟩).later (balloc _ _)
  have HB : Hid (RB ((w.alloc (.cells #[.string (bs p), .string (bs n)] 35)).alloc (.cells #[.string (bs q), .string (bs m)] 35)) (w.heap.size + 1) ⟨q, m⟩) := by
    show RB _ _ _
    have := RB.new (w.alloc (.cells #[.string (bs p), .string (bs n)] 35)) ⟨q, m⟩
    simpa using this
  have HB0 : Hid (Below w.heap.size w ((w.alloc (.cells #[.string (bs p), .string (bs n)] 35)).alloc (.cells #[.string (bs q), .string (bs m)] 35))) := bstep (balloc w _) (balloc _ _)
  by_cases hx : x = 0
  rotate_left
  · have hx' : (x == 0) = false := by simpa using hx
    have hx'' : (x != 0) = true := by simpa using hx
    rw [if_neg hx]
    clear hx hcb hcr hls
    go_enter Try.func31, Try.ntmps31
    go_wp2_with fail
    refine (HC.out _).mono ?_
    rintro e w1 ⟨rfl, hb1⟩
    have B1 : Hid (Below w.heap.size w w1) := bstep HB0.out hb1
    clear hb1
    go_wp2_with fail
    go_ret
    exact ⟨rfl, B1.out⟩
  subst hx
  rw [if_pos rfl]
  by_cases hn : n = m
  · have hy : y = 0 := hcb.2 hn
    subst hy hn
    clear hcb hcr hls
    go_enter Try.func31, Try.ntmps31
    go_wp2_with fail
    refine (HC.out _).mono ?_
    rintro e w1 ⟨rfl, hb1⟩
    have B1 : Hid (Below w.heap.size w w1) := bstep HB0.out hb1
    obtain ⟨a0, a1, _, _⟩ := (HA.out.later hb1).cells
    obtain ⟨b0, b1, _, _⟩ := (HB.out.later hb1).cells
    simp only at a0 a1 b0 b1
    clear hb1
    go_wp2_with fail
    go_ret
    exact ⟨rfl, B1.out⟩
  have hn' : (n == m) = false := by simpa using hn
  have hy0 : y ≠ 0 := fun h => hn (hcb.1 h)
  clear hcb hn
  by_cases hy : y = -1
  · subst hy
    rw [decide_eq_true rfl] at hls
    clear hcr hy0
    go_enter Try.func31, Try.ntmps31
    go_wp2_with fail
    refine (HC.out _).mono ?_
    rintro e w1 ⟨rfl, hb1⟩
    have B1 : Hid (Below w.heap.size w w1) := bstep HB0.out hb1
    obtain ⟨a0, a1, _, _⟩ := (HA.out.later hb1).cells
    obtain ⟨b0, b1, _, _⟩ := (HB.out.later hb1).cells
    simp only at a0 a1 b0 b1
    clear hb1
    go_wp2_with fail
    go_ret
    exact ⟨rfl, B1.out⟩
  · have hy1 : y = 1 := by omega
    subst hy1
    rw [decide_eq_false hy] at hls
    clear hcr hy0 hy
    go_enter Try.func31, Try.ntmps31
    go_wp2_with fail
    refine (HC.out _).mono ?_
    rintro e w1 ⟨rfl, hb1⟩
    have B1 : Hid (Below w.heap.size w w1) := bstep HB0.out hb1
    obtain ⟨a0, a1, _, _⟩ := (HA.out.later hb1).cells
    obtain ⟨b0, b1, _, _⟩ := (HB.out.later hb1).cells
    simp only at a0 a1 b0 b1
    clear hb1
    go_wp2_with fail
    go_ret
    exact ⟨rfl, B1.out⟩
end Go.Proofs.Ytclbnjfmipifnaa

namespace Go.Proofs.Ytclbnjfmipifnaa
open Go.RowKit

theorem only_alloc {w w' : World} {o : Obj} {b : Option Nat} (h : (w.alloc o).grownBy w' b) : Only b.toList w w' := by
  obtain ⟨h1, h2, h3, h4, h5⟩ := h
  refine ⟨h1, h2, h3, by simp at h4; omega, fun k hk hn => ?_⟩
  refine (h5 k (by simp; omega) ?_).trans (heap_alloc_old _ _ hk)
  intro e; apply hn; rw [← e]; simp
def lc : List Lb → List Value
  | [] => []
  | t :: r => .string (bs t.pkg) :: .string (bs t.name) :: lc r
theorem lc_length : ∀ l, (lc l).length = l.length * 2
  | [] => rfl
  | f :: r => by simp only [lc, List.length_cons, lc_length r]; omega
theorem lc_append : ∀ a b, lc (a ++ b) = lc a ++ lc b
  | [], b => rfl
  | f :: r, b => by simp [lc, lc_append r b]
theorem lc_one : ∀ (l : List Lb), ∀ u ∈ lc l, u.oneCell' = true
  | [], u, h => by simp [lc] at h
  | f :: r, u, h => by
    simp only [lc, List.mem_cons] at h
    rcases h with rfl | rfl | h
    · rfl
    · rfl
    · exact lc_one r u h
theorem lc_get : ∀ (l : List Lb) (k : Nat) (h : k < l.length), (lc l)[k * 2]? = some (.string (bs l[k].pkg)) ∧ (lc l)[k * 2 + 1]? = some (.string (bs l[k].name))
  | f :: r, 0, _ => ⟨rfl, rfl⟩
  | f :: r, k + 1, h => by
    have ih := lc_get r k (by simpa using h)
    rw [show (k + 1) * 2 = k * 2 + 2 by omega]
    simp only [lc, List.getElem_cons_succ]
    exact ih
/-- a slice of them reads as a list -/
def LS (w : World) (v : Value) (l : List Lb) : Prop :=
  ((∃ a c, v = .slice a 0 c) ∧ l = []) ∨
  ∃ b off cap, v = .slice (some ⟨b, off, none⟩) l.length cap ∧ l.length ≤ cap ∧ b < w.heap.size ∧ ∀ i u, (lc l)[i]? = some u → w.cell? ⟨b, off + i, none⟩ = some u
theorem LS.later {w w' : World} {v : Value} {l : List Lb} (h : LS w v l) (hb : Below w.heap.size w w') : LS w' v l := by
  rcases h with h | ⟨b, off, cap, rfl, hc, hlt, hcell⟩
  · exact .inl h
  · refine .inr ⟨b, off, cap, rfl, hc, Nat.lt_of_lt_of_le hlt hb.size, fun i u hu => ?_⟩
    rw [hb.cell (p := ⟨b, off + i, none⟩) hlt]; exact hcell i u hu
theorem LS.below {w w' : World} {v : Value} {l : List Lb} {B : Nat} (h : LS w v l) (hb : Below B w w') (hv : l ≠ [] → ∀ k, v.ownBlock = some k → k < B) : LS w' v l := by
  rcases h with h | ⟨b, off, cap, rfl, hc, hlt, hcell⟩
  · exact .inl h
  · by_cases h0 : l = []
    · subst h0; exact .inl ⟨⟨_, _, rfl⟩, rfl⟩
    · refine .inr ⟨b, off, cap, rfl, hc, Nat.lt_of_lt_of_le hlt hb.size, fun i u hu => ?_⟩
      rw [hb.cell (p := ⟨b, off + i, none⟩) (hv h0 b rfl)]; exact hcell i u hu
theorem LS_nil (w : World) : LS w (.slice none 0 0) [] := .inl ⟨⟨_, _, rfl⟩, rfl⟩
theorem LS.form {w : World} {v : Value} {l : List Lb} (h : LS w v l) : ∃ a c, v = .slice a l.length c ∧ (∀ k, (hk : k < l.length) → ∃ b off, a = some ⟨b, off, none⟩ ∧ b < w.heap.size ∧
    w.cell? ⟨b, off + k * 2, none⟩ = some (.string (bs l[k].pkg)) ∧ w.cell? ⟨b, off + k * 2 + 1, none⟩ = some (.string (bs l[k].name))) := by
  rcases h with ⟨⟨a, c, rfl⟩, rfl⟩ | ⟨b, off, cap, rfl, hc, hlt, hcell⟩
  · exact ⟨a, c, rfl, fun k hk => by simp at hk⟩
  · refine ⟨_, cap, rfl, fun k hk => ⟨b, off, rfl, hlt, ?_⟩⟩
    obtain ⟨c0, c1⟩ := lc_get l k hk
    exact ⟨hcell _ _ c0, by rw [Nat.add_assoc]; exact hcell _ _ c1⟩
theorem LS.at {w : World} {a : Option Addr} {c n : Nat} {l : List Lb} (h : LS w (.slice a n c) l) {wr : World} (hb : Below w.heap.size w wr) {k : Nat} (hk : k < l.length) : ∃ b off, a = some ⟨b, off, none⟩ ∧ b < w.heap.size ∧
    wr.cell? ⟨b, off + k * 2, none⟩ = some (.string (bs l[k].pkg)) ∧ wr.cell? ⟨b, off + k * 2 + 1, none⟩ = some (.string (bs l[k].name)) := by
  rcases h with ⟨⟨a', c', e⟩, rfl⟩ | ⟨b, off, cap, e, hc, hlt, hcell⟩
  · simp at hk
  · injection e with e1 e2 e3
    subst e1
    obtain ⟨c0, c1⟩ := lc_get l k hk
    refine ⟨b, off, rfl, hlt, ?_, ?_⟩
    · rw [hb.cell (p := ⟨b, off + k * 2, none⟩) hlt]; exact hcell _ _ c0
    · rw [hb.cell (p := ⟨b, off + k * 2 + 1, none⟩) hlt, Nat.add_assoc]; exact hcell _ _ c1
/-- a row of the call's own -/
def OwnL (base : Nat) (w : World) (v : Value) (l : List Lb) : Prop := w.ownsRow base 35 2 v l.length (lc l)
theorem OwnL.nil (base : Nat) (w : World) : OwnL base w (.slice none 0 0) [] := World.ownsRow_nil w base 35 2
theorem OwnL.mono {base base' : Nat} {w : World} {v : Value} {l : List Lb} (h : OwnL base w v l) (hb : base' ≤ base) : OwnL base' w v l := World.ownsRow.mono h hb
theorem OwnL.rs {base : Nat} {w : World} {v : Value} {l : List Lb} (h : OwnL base w v l) : LS w v l := by
  rcases h.2 with ⟨rfl, h0⟩ | ⟨g, cap, cur, rfl, hb, hg, hn, _⟩
  · exact .inl ⟨⟨_, _, rfl⟩, List.eq_nil_of_length_eq_zero h0⟩
  · refine .inr ⟨g, 0, cap, rfl, hn, (Array.getElem?_eq_some_iff.1 hg).1, fun i u hu => ?_⟩
    have := World.ownsRow.cells h (g := g) rfl i u hu
    rw [add_lit] at this; exact this
theorem OwnL.lt {base : Nat} {w : World} {v : Value} {l : List Lb} (h : OwnL base w v l) {k : Nat} (hk : v.ownBlock = some k) : base ≤ k ∧ k < w.heap.size := World.ownsRow.lt h k hk
theorem OwnL.only {S : List Nat} {base : Nat} {w w' : World} {v : Value} {l : List Lb} (h : OwnL base w v l) (ho : Only S w w') (hn : ∀ k, v.ownBlock = some k → k ∉ S) : OwnL base w' v l := by
  rcases h with ⟨h0, h | ⟨g, cap, cur, rfl, hb, hg, hr⟩⟩
  · exact ⟨h0, .inl h⟩
  · exact ⟨h0, .inr ⟨g, cap, cur, rfl, hb, (ho.block g (Array.getElem?_eq_some_iff.1 hg).1 (hn g rfl)).trans hg, hr⟩⟩
theorem OwnL.later {base : Nat} {w w' : World} {v : Value} {l : List Lb} (h : OwnL base w v l) (hb : Below w.heap.size w w') : OwnL base w' v l :=
  h.only (Only.of_below hb []) (by simp)
theorem OwnL.form {base : Nat} {w : World} {v : Value} {l : List Lb} (h : OwnL base w v l) : ∃ a c, v = .slice a l.length c := by
  obtain ⟨a, c, e, _⟩ := h.rs.form; exact ⟨a, c, e⟩
theorem und_L : Try.prog.underlying 32 = some (.slice 35) := by kernel_rfl
theorem info_L : (Try.prog.info? 35).map (fun i => (i.zero, i.size, i.bytes)) = some (some (.agg #[.string ⟨#[]⟩, .string ⟨#[]⟩]), 2, 32) := by kernel_rfl
theorem app_Lt {T : TypeId} (hT : Try.prog.underlying T = some (.slice 35)) {w : World} {base : Nat} {v x : Value} {l k : List Lb} (hown : OwnL base w v l) (hs : Src Try.prog 2 T x k.length (lc k) w) (hb : l.length + k.length ≤ 100000000) (hbase : base ≤ w.heap.size)
    {ops : Array Oper} {rest : List Oper} {o : Oper} {a : Act} {Q : Exit → Act → World → Prop} (hgd : o.guard = none) (s y : Operand)
    (ho : o.op = .call { callee := .builtin .append, args := #[s, y], argTypes := #[T, T] }) (hv : a.eval s = v) (hx : a.eval y = x)
    (h : ∀ v' w', OwnL base w' v' (l ++ k) → w.grownBy w' v.ownBlock → (v'.ownBlock = v.ownBlock ∨ v'.ownBlock = some w.heap.size) → wpList Try.prog ops Q rest (a.put o.dst v') w') :
    wpList Try.prog ops Q (o :: rest) a w := by
  obtain ⟨i0, hi, hz0, hz1, hz2⟩ := info_parts info_L
  refine wpList_append_src w hgd s y T T ho base 35 i0 _ 2 32 hT hi hz0 hz1 hz2 rfl v l.length (lc l) hv hown x k.length (lc k) hx hs (by simp only [maxLen]; omega) (by omega) hbase ?_
  intro v' w' h1 h2 h3
  exact h v' w' (by unfold OwnL; rw [lc_append, List.length_append]; exact h1) h2 h3
theorem src_Lt {T : TypeId} (hT : Try.prog.underlying T = some (.slice 35)) (w : World) (t : Lb) : Src Try.prog 2 T (.slice (some ⟨w.heap.size, 0, none⟩) 1 1) [t].length (lc [t]) (w.alloc (.cells #[.string (bs t.pkg), .string (bs t.name)] 35)) := by
  refine Src.ofSlice _ hT ⟨w.heap.size, 0, none⟩ 1 1 (lc [t]) (by simp [lc_length]) ?_ (lc_one _)
  exact World.news_of_block (heap_alloc_new w _)
theorem app_L1 {T : TypeId} (hT : Try.prog.underlying T = some (.slice 35)) {w : World} {base : Nat} {v : Value} {l : List Lb} (t : Lb) (hown : OwnL base w v l) (hb : l.length + 1 ≤ 100000000) (hbase : base ≤ w.heap.size)
    {ops : Array Oper} {rest : List Oper} {o : Oper} {a : Act} {Q : Exit → Act → World → Prop} (hgd : o.guard = none) (s y : Operand)
    (ho : o.op = .call { callee := .builtin .append, args := #[s, y], argTypes := #[T, T] }) (hv : a.eval s = v) (hx : a.eval y = .slice (some ⟨w.heap.size, 0, none⟩) 1 1)
    (h : ∀ v' w', OwnL base w' v' (l ++ [t]) → Below base w w' → Only v.ownBlock.toList w w' → base ≤ w'.heap.size → (v'.ownBlock = v.ownBlock ∨ ∃ k, v'.ownBlock = some k ∧ w.heap.size ≤ k) → wpList Try.prog ops Q rest (a.put o.dst v') w') :
    wpList Try.prog ops Q (o :: rest) a (w.alloc (.cells #[.string (bs t.pkg), .string (bs t.name)] 35)) := by
  refine app_Lt hT (base := base) (l := l) (k := [t]) (World.ownsRow.alloc hown _) (src_Lt hT w t) (by simpa using hb) (by simp; omega) hgd s y ho hv hx ?_
  intro v' w' h1 h2 h3
  have hlt := World.ownsRow.lt hown
  have hB : Below base w w' := ((Below.refl _ _).alloc hbase _).grown h2 (by simp; omega) (fun k hk => (hlt k hk).1)
  refine h v' w' h1 hB (only_alloc h2) (Nat.le_trans hbase hB.size) ?_
  rcases h3 with h3 | h3
  · exact .inl h3
  · exact .inr ⟨_, h3, by simp⟩

def bl (v : Value) : List Nat := v.ownBlock.toList
/-- a block of files: the list, then what lies behind it -/
structure OL (base : Nat) (w : World) (g cap : Nat) (l : List Lb) (rest : List Value) : Prop where
  blk : w.heap[g]? = some (.cells (lc l ++ rest).toArray 35 (0, 0))
  ge : base ≤ g
  cm : cap ≤ maxLen
  sz : l.length * 2 + rest.length = cap * 2
theorem OL.lt {base : Nat} {w : World} {g cap : Nat} {l : List Lb} {rest : List Value} (h : OL base w g cap l rest) : g < w.heap.size := (Array.getElem?_eq_some_iff.1 h.blk).1
theorem OL.len {base : Nat} {w : World} {g cap : Nat} {l : List Lb} {rest : List Value} (h : OL base w g cap l rest) : l.length ≤ cap := by have := h.sz; omega
theorem OL.own {base : Nat} {w : World} {g cap : Nat} {l : List Lb} {rest : List Value} (h : OL base w g cap l rest) : OwnL base w (.slice (some ⟨g, 0, none⟩) l.length cap) l :=
  ⟨lc_length l, .inr ⟨g, cap, _, rfl, h.ge, h.blk, h.len, h.cm, by simp [lc_length]; exact h.sz, by rw [← lc_length]; exact List.take_left⟩⟩
theorem OL.of {base : Nat} {w : World} {v : Value} {l : List Lb} (h : OwnL base w v l) : (v = .slice none 0 0 ∧ l = []) ∨ ∃ g cap rest, v = .slice (some ⟨g, 0, none⟩) l.length cap ∧ OL base w g cap l rest := by
  rcases h.2 with ⟨rfl, h0⟩ | ⟨g, cap, cur, rfl, hb, hg, hn, hm, hs, ht⟩
  · exact .inl ⟨rfl, List.eq_nil_of_length_eq_zero h0⟩
  · refine .inr ⟨g, cap, cur.toList.drop (l.length * 2), rfl, ?_, hb, hm, by simp; omega⟩
    rw [← ht, List.take_append_drop]; simpa using hg
/-- the same block, split elsewhere -/
theorem OL.split {base : Nat} {w : World} {g cap : Nat} {a b : List Lb} {rest : List Value} (h : OL base w g cap (a ++ b) rest) : OL base w g cap a (lc b ++ rest) :=
  ⟨by rw [← List.append_assoc, ← lc_append]; exact h.blk, h.ge, h.cm, by have := h.sz; simp [lc_length] at this ⊢; omega⟩
theorem OL.only {S : List Nat} {base : Nat} {w w' : World} {g cap : Nat} {l : List Lb} {rest : List Value} (h : OL base w g cap l rest) (ho : Only S w w') (hn : g ∉ S) : OL base w' g cap l rest :=
  ⟨(ho.block g h.lt hn).trans h.blk, h.ge, h.cm, h.sz⟩
theorem OL.later {base : Nat} {w w' : World} {g cap : Nat} {l : List Lb} {rest : List Value} (h : OL base w g cap l rest) (hb : Below w.heap.size w w') : OL base w' g cap l rest := h.only (Only.of_below hb []) (by simp)
theorem OL.cell {base : Nat} {w : World} {g cap : Nat} {l : List Lb} {rest : List Value} (h : OL base w g cap l rest) {j : Nat} (hj : j < l.length) :
    w.cell? ⟨g, j * 2, none⟩ = some (.string (bs l[j].pkg)) ∧ w.cell? ⟨g, j * 2 + 1, none⟩ = some (.string (bs l[j].name)) := by
  obtain ⟨a, c, e, hf⟩ := h.own.rs.form
  obtain ⟨b, off, ha, _, h0⟩ := hf j hj
  injection e with e1 _ _
  rw [ha] at e1
  injection e1 with e1
  injection e1 with e2 e3 _
  subst e2 e3
  simpa using h0
theorem OL.soft {base : Nat} {w : World} {g cap : Nat} {l : List Lb} {rest : List Value} (h : OL base w g cap l rest) (o : Nat) : w.frozen? ⟨g, o, none⟩ = false := by
  have hb := h.blk
  simp [World.frozen?, hb]
theorem lc_set : ∀ (l : List Lb) (i : Nat) (f : Lb) (rest : List Value), i < l.length →
    ((lc l ++ rest).set (i * 2) (.string (bs f.pkg))).set (i * 2 + 1) (.string (bs f.name)) = lc (l.set i f) ++ rest
  | g :: l, 0, f, rest, _ => by simp [lc]
  | g :: l, i + 1, f, rest, h => by
    have ih := lc_set l i f rest (by simpa using h)
    rw [show (i + 1) * 2 = i * 2 + 1 + 1 by omega]
    simp only [List.set_cons_succ, lc, List.cons_append]
    rw [← ih]
theorem OL.set {base : Nat} {w : World} {g cap : Nat} {l : List Lb} {rest : List Value} (h : OL base w g cap l rest) {i : Nat} (hi : i < l.length) (f : Lb) :
    OL base ((w.setCell ⟨g, i * 2, none⟩ (.string (bs f.pkg))).setCell ⟨g, i * 2 + 1, none⟩ (.string (bs f.name))) g cap (l.set i f) rest := by
  refine ⟨?_, h.ge, h.cm, by simpa using h.sz⟩
  rw [heap_setCell _ _ _ _ (heap_setCell _ _ _ _ h.blk)]
  congr 2
  apply Array.toList_inj.1
  simp only [Array.toList_setIfInBounds]
  exact lc_set l i f rest hi
theorem only_set2 (w : World) (g o1 o2 : Nat) (a b : Value) : Only [g] w ((w.setCell ⟨g, o1, none⟩ a).setCell ⟨g, o2, none⟩ b) :=
  (Only.set w g o1 a).trans (Only.set _ g o2 b)
theorem only_row (w : World) (g : Nat) (cs : Array Value) : Only [g] w (w.setRow g cs) := ⟨rfl, rfl, rfl, by simp [World.setRow], fun k _ hn => setRow_other w g k cs (by simpa using hn)⟩
theorem OL.row {base : Nat} {w : World} {g cap : Nat} {l : List Lb} {rest : List Value} (h : OL base w g cap l rest) {l' : List Lb} {rest' : List Value} (hs : l'.length * 2 + rest'.length = cap * 2) {cs : Array Value} (hc : cs.toList = lc l' ++ rest') : OL base (w.setRow g cs) g cap l' rest' :=
  ⟨by rw [setRow_heap w g _ cs 35 (0, 0) h.blk]; congr 2; apply Array.toList_inj.1; simpa using hc, h.ge, h.cm, hs⟩

/-- copy of cells into a row of files -/
theorem run_copy_f (w : World) (ty : TypeId) (g o dLen dCap : Nat) (a : Addr) (sLen sCap : Nat) (cur : Array Value) (cs : List Value)
    (hg : w.heap[g]? = some (.cells cur 35 (0, 0))) (hn : cs.length = Nat.min sLen dLen * 2)
    (hsrc : ∀ j v, cs[j]? = some v → w.cell? (a.add j) = some v) (hfit : o + cs.length ≤ cur.size) (h1 : ∀ v ∈ cs, v.oneCell' = true) :
    (Builtin.copy_ #[32, 32] ty #[.slice (some ⟨g, o, none⟩) dLen dCap, .slice (some a) sLen sCap]).run Try.prog w =
      .ok (goInt (Nat.min sLen dLen : Nat)) (w.setRow g (cur.toList.take o ++ cs ++ cur.toList.drop (o + cs.length)).toArray) := by
  have hl := run_loadCells_list (P := Try.prog) w a cs hsrc
  have hst := run_storeCells_at Try.prog g o 35 cs 0 cur w hg (by simpa using hfit) h1
  obtain ⟨i, hq, _, hi, _⟩ := info_parts info_L
  simp [Builtin.copy_, run_underlying und_L, Builtin.lenOf, Builtin.firstCells, sizeOf, typeInfo, hq, hi, ← hn, hl, hst]
end Go.Proofs.Ytclbnjfmipifnaa
