/-
  Four rows of the call's own, written over and grown; all else stands.
-/
import Derived.Test.YtinhdjoidbcfaaaAlive
namespace Go.Proofs.Ytinhdjoidbcfaaa
open Go.RowKit

/-- a row, whatever it holds -/
structure Rw where
  e : TypeId
  s : Nat
  v : Value
  n : Nat
def Gr (w : World) (r : Rw) : Prop := ∃ xs, w.ownsRow 0 r.e r.s r.v r.n xs
theorem Gr.lt {w : World} {r : Rw} (h : Gr w r) {k : Nat} (hk : r.v.ownBlock = some k) : k < w.heap.size := by
  obtain ⟨xs, h⟩ := h
  exact (World.ownsRow.lt h k hk).2
theorem Gr.only {S : List Nat} {w w' : World} {r : Rw} (h : Gr w r) (ho : Only S w w') (hn : ∀ k, r.v.ownBlock = some k → k ∉ S) : Gr w' r := by
  obtain ⟨xs, h0, h | ⟨g, cap, cur, hv, hb, hg, hr⟩⟩ := h
  · exact ⟨xs, h0, .inl h⟩
  · exact ⟨xs, h0, .inr ⟨g, cap, cur, hv, hb, (ho.block g (Array.getElem?_eq_some_iff.1 hg).1 (hn g (by rw [hv]; rfl))).trans hg, hr⟩⟩
theorem Gr.set {w : World} {r : Rw} (h : Gr w r) (g o : Nat) (x : Value) : Gr (w.setCell ⟨g, o, none⟩ x) r := by
  obtain ⟨xs, h0, h | ⟨g', cap, cur, hv, hb, hg, hn, hm, hs, ht⟩⟩ := h
  · exact ⟨xs, h0, .inl h⟩
  · by_cases e : g' = g
    · subst e
      refine ⟨(cur.setIfInBounds o x).toList.take (r.n * r.s), ?_, .inr ⟨g', cap, cur.setIfInBounds o x, hv, hb, heap_setCell w g' o x hg, hn, hm, by simpa using hs, rfl⟩⟩
      have : r.n * r.s ≤ cap * r.s := Nat.mul_le_mul_right _ hn
      simp; omega
    · exact ⟨xs, h0, .inr ⟨g', cap, cur, hv, hb, ((Only.set w g o x).block g' (Array.getElem?_eq_some_iff.1 hg).1 (by simpa using e)).trans hg, hn, hm, hs, ht⟩⟩
/-- the cells of one place of a row -/
theorem Gr.cell {w : World} {e s n : Nat} {a : Option Addr} {c k : Nat} (h : Gr w ⟨e, s, .slice a n c, n⟩) (hk : k < n) : ∃ g, a = some ⟨g, 0, none⟩ ∧ g < w.heap.size ∧ ∀ j, j < s → (∃ x, w.cell? ⟨g, k * s + j, none⟩ = some x) ∧ w.frozen? ⟨g, k * s + j, none⟩ = false := by
  obtain ⟨xs, h0, ⟨_, h⟩ | ⟨g, cap, cur, hv, hb, hg, hn, hm, hs, ht⟩⟩ := h
  · simp only at h; omega
  · injection hv with hv1 _ _
    refine ⟨g, hv1, (Array.getElem?_eq_some_iff.1 hg).1, fun j hj => ?_⟩
    have hlt : k * s + j < cur.size := by
      simp only at hs hn
      rw [hs]
      have : (k + 1) * s ≤ cap * s := Nat.mul_le_mul_right _ (by omega)
      rw [Nat.add_mul] at this
      omega
    exact ⟨⟨cur[k * s + j], by simp [World.cell?, hg, hlt]⟩, by simp [World.frozen?, hg]⟩
def apart (v u : Value) : Prop := ∀ k, v.ownBlock = some k → u.ownBlock ≠ some k
structure MK (w0 wr : World) (S : Nat → Prop) (R : Nat → Rw) : Prop where
  g : ∀ i, i < 4 → Gr wr (R i)
  ap : ∀ i j, i < 4 → j < 4 → i ≠ j → apart (R i).v (R j).v
  blk : ∀ i, i < 4 → ∀ k, (R i).v.ownBlock = some k → S k ∨ w0.heap.size ≤ k
  fr : ∀ k, k < w0.heap.size → ¬ S k → wr.heap[k]? = w0.heap[k]?
  sz : w0.heap.size ≤ wr.heap.size
  os : wr.os = w0.os
  tape : wr.tape = w0.tape
  output : wr.output = w0.output
theorem bl_mem {v : Value} {k : Nat} : k ∈ bl v ↔ v.ownBlock = some k := by
  unfold bl
  cases h : v.ownBlock <;> simp [eq_comm]
theorem MK.step {w0 wr w' : World} {S : Nat → Prop} {R : Nat → Rw} (h : MK w0 wr S R) {i : Nat} (hi : i < 4) {r' : Rw} (hr : Gr w' r') (ho : Only (bl (R i).v) wr w') (hv : r'.v.ownBlock = (R i).v.ownBlock ∨ ∃ k, r'.v.ownBlock = some k ∧ wr.heap.size ≤ k) :
    MK w0 w' S (fun j => if j = i then r' else R j) := by
  have hap : ∀ j, j < 4 → j ≠ i → apart r'.v (R j).v ∧ apart (R j).v r'.v := fun j hj hji => by
    constructor
    · intro k hk hk2
      rcases hv with hv | ⟨m, hm, hlt⟩
      · rw [hv] at hk; exact h.ap i j hi hj (Ne.symm hji) k hk hk2
      · rw [hm] at hk; injection hk with hk; have := (h.g j hj).lt hk2; omega
    · intro k hk hk2
      rcases hv with hv | ⟨m, hm, hlt⟩
      · rw [hv] at hk2; exact h.ap j i hj hi hji k hk hk2
      · rw [hm] at hk2; injection hk2 with hk2; have := (h.g j hj).lt hk; omega
  refine ⟨fun j hj => ?_, fun j l hj hl hjl => ?_, fun j hj k hk => ?_, fun k hk hn => ?_, Nat.le_trans h.sz ho.size, ho.os.trans h.os, ho.tape.trans h.tape, ho.output.trans h.output⟩
  · by_cases e : j = i
    · simp only [e, if_true]; exact hr
    · simp only [e, if_false]
      exact (h.g j hj).only ho (fun k hk hm => h.ap j i hj hi e k hk (bl_mem.1 hm))
  · by_cases e : j = i
    · have e2 : l ≠ i := by omega
      simp only [e, e2, if_true, if_false]
      exact (hap l hl e2).1
    · by_cases e2 : l = i
      · simp only [e, e2, if_true, if_false]
        exact (hap j hj e).2
      · simp only [e, e2, if_false]
        exact h.ap j l hj hl hjl
  · by_cases e : j = i
    · simp only [e, if_true] at hk
      rcases hv with hv | ⟨m, hm, hlt⟩
      · rw [hv] at hk; exact h.blk i hi k hk
      · rw [hm] at hk; injection hk with hk; have := h.sz; exact .inr (by omega)
    · simp only [e, if_false] at hk
      exact h.blk j hj k hk
  · rw [ho.block k (Nat.lt_of_lt_of_le hk h.sz) (fun hm => ?_), h.fr k hk hn]
    rcases h.blk i hi k (bl_mem.1 hm) with hs | hs
    · exact hn hs
    · omega
def rw4 (a b c d : Rw) : Nat → Rw
  | 0 => a
  | 1 => b
  | 2 => c
  | _ => d
theorem MK.congr {w0 wr : World} {S : Nat → Prop} {R R' : Nat → Rw} (h : MK w0 wr S R) (e : ∀ i, i < 4 → R i = R' i) : MK w0 wr S R' :=
  ⟨fun i hi => e i hi ▸ h.g i hi, fun i j hi hj hij => by rw [← e i hi, ← e j hj]; exact h.ap i j hi hj hij, fun i hi k hk => h.blk i hi k (by rw [e i hi]; exact hk), h.fr, h.sz, h.os, h.tape, h.output⟩
theorem MK.step0 {w0 wr w' : World} {S : Nat → Prop} {a b c d r' : Rw} (h : MK w0 wr S (rw4 a b c d)) (hr : Gr w' r') (ho : Only (bl a.v) wr w') (hv : r'.v.ownBlock = a.v.ownBlock ∨ ∃ k, r'.v.ownBlock = some k ∧ wr.heap.size ≤ k) : MK w0 w' S (rw4 r' b c d) :=
  (h.step (i := 0) (by omega) hr ho hv).congr fun i hi => by match i, hi with | 0, _ => rfl | 1, _ => rfl | 2, _ => rfl | 3, _ => rfl
theorem MK.step1 {w0 wr w' : World} {S : Nat → Prop} {a b c d r' : Rw} (h : MK w0 wr S (rw4 a b c d)) (hr : Gr w' r') (ho : Only (bl b.v) wr w') (hv : r'.v.ownBlock = b.v.ownBlock ∨ ∃ k, r'.v.ownBlock = some k ∧ wr.heap.size ≤ k) : MK w0 w' S (rw4 a r' c d) :=
  (h.step (i := 1) (by omega) hr ho hv).congr fun i hi => by match i, hi with | 0, _ => rfl | 1, _ => rfl | 2, _ => rfl | 3, _ => rfl
theorem MK.step2 {w0 wr w' : World} {S : Nat → Prop} {a b c d r' : Rw} (h : MK w0 wr S (rw4 a b c d)) (hr : Gr w' r') (ho : Only (bl c.v) wr w') (hv : r'.v.ownBlock = c.v.ownBlock ∨ ∃ k, r'.v.ownBlock = some k ∧ wr.heap.size ≤ k) : MK w0 w' S (rw4 a b r' d) :=
  (h.step (i := 2) (by omega) hr ho hv).congr fun i hi => by match i, hi with | 0, _ => rfl | 1, _ => rfl | 2, _ => rfl | 3, _ => rfl
theorem MK.step3 {w0 wr w' : World} {S : Nat → Prop} {a b c d r' : Rw} (h : MK w0 wr S (rw4 a b c d)) (hr : Gr w' r') (ho : Only (bl d.v) wr w') (hv : r'.v.ownBlock = d.v.ownBlock ∨ ∃ k, r'.v.ownBlock = some k ∧ wr.heap.size ≤ k) : MK w0 w' S (rw4 a b c r') :=
  (h.step (i := 3) (by omega) hr ho hv).congr fun i hi => by match i, hi with | 0, _ => rfl | 1, _ => rfl | 2, _ => rfl | 3, _ => rfl
theorem MK.later {w0 wr w' : World} {S : Nat → Prop} {R : Nat → Rw} (h : MK w0 wr S R) (hb : Below wr.heap.size wr w') : MK w0 w' S R :=
  ⟨fun i hi => (h.g i hi).only (Only.of_below hb []) (by simp), h.ap, h.blk, fun k hk hn => (hb.block k (Nat.lt_of_lt_of_le hk h.sz)).trans (h.fr k hk hn), Nat.le_trans h.sz hb.size, hb.os.trans h.os, hb.tape.trans h.tape, hb.output.trans h.output⟩
/-- append onto a row, whatever it holds -/
theorem app_gr {w : World} {r : Rw} {x : Value} {news : List Value} {t bytes : Nat} {z : Value} (h : Gr w r) (ht : Try.prog.underlying t = some (.slice r.e)) (hinf : (Try.prog.info? r.e).map (fun i => (i.zero, i.size, i.bytes)) = some (some z, r.s, bytes)) (hzs : z.cells.size = r.s)
    (hs : Src Try.prog r.s t x 1 news w) (hb : (r.n + 1) * bytes ≤ 140737488355328) (hb2 : r.n + 1 ≤ 100000000)
    {ops : Array Oper} {rest : List Oper} {o : Oper} {a : Act} {Q : Exit → Act → World → Prop} (hgd : o.guard = none) (s y : Operand)
    (ho : o.op = .call { callee := .builtin .append, args := #[s, y], argTypes := #[t, t] }) (hv : a.eval s = r.v) (hx : a.eval y = x)
    (k : ∀ v' w', Gr w' ⟨r.e, r.s, v', r.n + 1⟩ → Only (bl r.v) w w' → (v'.ownBlock = r.v.ownBlock ∨ ∃ k, v'.ownBlock = some k ∧ w.heap.size ≤ k) → wpList Try.prog ops Q rest (a.put o.dst v') w') :
    wpList Try.prog ops Q (o :: rest) a w := by
  obtain ⟨i0, hi, hz0, hz1, hz2⟩ := info_parts hinf
  obtain ⟨xs, h⟩ := h
  refine wpList_append_src w hgd s y t t ho 0 r.e i0 _ r.s bytes ht hi hz0 hz1 hz2 hzs r.v r.n xs hv h x 1 news hx hs (by simp only [maxLen]; omega) hb (Nat.zero_le _) ?_
  intro v' w' h1 h2 h3
  refine k v' w' ⟨_, h1⟩ (only_grown h2) ?_
  rcases h3 with h3 | h3
  · exact .inl h3
  · exact .inr ⟨_, h3, Nat.le_refl _⟩
/-- what stands aside -/
structure St (w0 wr : World) (S : Nat → Prop) : Prop where
  fr : ∀ k, k < w0.heap.size → ¬ S k → wr.heap[k]? = w0.heap[k]?
  sz : w0.heap.size ≤ wr.heap.size
theorem MK.st {w0 wr : World} {S : Nat → Prop} {R : Nat → Rw} (h : MK w0 wr S R) : St w0 wr S := ⟨h.fr, h.sz⟩
theorem FS.st {w0 wr : World} {S : Nat → Prop} {v : Value} {l : List Fl} (h : FS w0 v l) (k : St w0 wr S) (hn : ∀ b, v.ownBlock = some b → l = [] ∨ ¬ S b) : FS wr v l := by
  rcases h with h | ⟨b, off, cap, rfl, hc, hlt, hcell⟩
  · exact .inl h
  · rcases hn b rfl with rfl | hb
    · exact .inl ⟨⟨_, _, rfl⟩, rfl⟩
    · exact .inr ⟨b, off, cap, rfl, hc, Nat.lt_of_lt_of_le hlt k.sz, fun i u hu => (World.cell?_of_block (a := ⟨b, off + i, none⟩) (k.fr b hlt hb)).trans (hcell i u hu)⟩
theorem CS.st {w0 wr : World} {S : Nat → Prop} {v : Value} {l : List Ch} (h : CS w0 v l) (k : St w0 wr S) (hn : ∀ b, v.ownBlock = some b → ¬ S b) : CS wr v l := by
  rcases h with h | ⟨b, off, cap, rfl, hc, hlt, hcell⟩
  · exact .inl h
  · exact .inr ⟨b, off, cap, rfl, hc, Nat.lt_of_lt_of_le hlt k.sz, fun i u hu => (World.cell?_of_block (a := ⟨b, off + i, none⟩) (k.fr b hlt (hn b rfl))).trans (hcell i u hu)⟩
theorem SS.st {w0 wr : World} {S : Nat → Prop} {v : Value} {l : List (List UInt8)} (h : SS w0 v l) (k : St w0 wr S) (hn : ∀ b, v.ownBlock = some b → ¬ S b) : SS wr v l := by
  rcases h with h | ⟨b, off, cap, rfl, hc, hlt, hcell⟩
  · exact .inl h
  · exact .inr ⟨b, off, cap, rfl, hc, Nat.lt_of_lt_of_le hlt k.sz, fun i u hu => (World.cell?_of_block (a := ⟨b, off + i, none⟩) (k.fr b hlt (hn b rfl))).trans (hcell i u hu)⟩
end Go.Proofs.Ytinhdjoidbcfaaa
