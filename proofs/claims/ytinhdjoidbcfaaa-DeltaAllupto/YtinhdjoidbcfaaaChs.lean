/-
  Changes in memory: one by one, and as rows.
-/
import Derived.Test.YtinhdjoidbcfaaaPkg2
import Derived.Test.YtinhdjoidbcfaaaDl2
namespace Go.Proofs.Ytinhdjoidbcfaaa
open Go.RowKit

def Ch.val (c : Ch) : Value := .agg #[.string (bs c.path), .bool c.had, .bool c.has, .string (bs c.old.path), .string (bs c.old.text), .int .i64 c.old.blob, .int .i64 c.old.size, .string (bs c.new.path), .string (bs c.new.text), .int .i64 c.new.blob, .int .i64 c.new.size]
def cc : List Ch → List Value
  | [] => []
  | c :: r => .string (bs c.path) :: .bool c.had :: .bool c.has :: .string (bs c.old.path) :: .string (bs c.old.text) :: .int .i64 c.old.blob :: .int .i64 c.old.size :: .string (bs c.new.path) :: .string (bs c.new.text) :: .int .i64 c.new.blob :: .int .i64 c.new.size :: cc r
theorem cc_length : ∀ l, (cc l).length = l.length * 11
  | [] => rfl
  | f :: r => by simp only [cc, List.length_cons, cc_length r]; omega
theorem cc_append : ∀ a b, cc (a ++ b) = cc a ++ cc b
  | [], b => rfl
  | f :: r, b => by simp [cc, cc_append r b]
theorem cc_one : ∀ (l : List Ch), ∀ u ∈ cc l, u.oneCell' = true
  | [], u, h => by simp [cc] at h
  | f :: r, u, h => by
    simp only [cc, List.mem_cons] at h
    rcases h with rfl | rfl | rfl | rfl | rfl | rfl | rfl | rfl | rfl | rfl | rfl | h
    iterate 11 (rfl)
    exact cc_one r u h
/-- the cells of a change from a place on -/
structure CB (w : World) (b o : Nat) (c : Ch) : Prop where
  c0 : w.cell? ⟨b, o, none⟩ = some (.string (bs c.path))
  c1 : w.cell? ⟨b, o + 1, none⟩ = some (.bool c.had)
  c2 : w.cell? ⟨b, o + 2, none⟩ = some (.bool c.has)
  c3 : w.cell? ⟨b, o + 3, none⟩ = some (.string (bs c.old.path))
  c4 : w.cell? ⟨b, o + 4, none⟩ = some (.string (bs c.old.text))
  c5 : w.cell? ⟨b, o + 5, none⟩ = some (.int .i64 c.old.blob)
  c6 : w.cell? ⟨b, o + 6, none⟩ = some (.int .i64 c.old.size)
  c7 : w.cell? ⟨b, o + 7, none⟩ = some (.string (bs c.new.path))
  c8 : w.cell? ⟨b, o + 8, none⟩ = some (.string (bs c.new.text))
  c9 : w.cell? ⟨b, o + 9, none⟩ = some (.int .i64 c.new.blob)
  c10 : w.cell? ⟨b, o + 10, none⟩ = some (.int .i64 c.new.size)
theorem CB.off {w : World} {b o o' : Nat} {c : Ch} (h : CB w b o c) (e : o = o') : CB w b o' c := e ▸ h
theorem CB.cells {w w' : World} {b o : Nat} {c : Ch} (h : CB w b o c) (hc : ∀ j, w'.cell? ⟨b, j, none⟩ = w.cell? ⟨b, j, none⟩) : CB w' b o c :=
  ⟨(hc _).trans h.c0, (hc _).trans h.c1, (hc _).trans h.c2, (hc _).trans h.c3, (hc _).trans h.c4, (hc _).trans h.c5, (hc _).trans h.c6, (hc _).trans h.c7, (hc _).trans h.c8, (hc _).trans h.c9, (hc _).trans h.c10⟩
theorem cc_cb {w : World} {b off : Nat} : ∀ {l : List Ch}, (∀ i u, (cc l)[i]? = some u → w.cell? ⟨b, off + i, none⟩ = some u) → ∀ k, (h : k < l.length) → CB w b (off + k * 11) l[k]
  | c :: r, hc, 0, _ => ⟨by have := hc 0 _ rfl; simpa using this, by have := hc 1 _ rfl; simpa using this, by have := hc 2 _ rfl; simpa using this, by have := hc 3 _ rfl; simpa using this, by have := hc 4 _ rfl; simpa using this, by have := hc 5 _ rfl; simpa using this, by have := hc 6 _ rfl; simpa using this, by have := hc 7 _ rfl; simpa using this, by have := hc 8 _ rfl; simpa using this, by have := hc 9 _ rfl; simpa using this, by have := hc 10 _ rfl; simpa using this⟩
  | c :: r, hc, k + 1, h => by
    have ih := cc_cb (w := w) (b := b) (off := off + 11) (l := r) (fun i u hu => by
      have := hc (i + 11) u (by simpa [cc] using hu)
      rw [show off + (i + 11) = off + 11 + i by omega] at this; exact this) k (by simpa using h)
    exact ih.off (by omega)

/-- a slice of changes reads as a list -/
def CS (w : World) (v : Value) (l : List Ch) : Prop :=
  ((∃ a c, v = .slice a 0 c) ∧ l = []) ∨
  ∃ b off cap, v = .slice (some ⟨b, off, none⟩) l.length cap ∧ l.length ≤ cap ∧ b < w.heap.size ∧ ∀ i u, (cc l)[i]? = some u → w.cell? ⟨b, off + i, none⟩ = some u
theorem CS.later {w w' : World} {v : Value} {l : List Ch} (h : CS w v l) (hb : Below w.heap.size w w') : CS w' v l := by
  rcases h with h | ⟨b, off, cap, rfl, hc, hlt, hcell⟩
  · exact .inl h
  · refine .inr ⟨b, off, cap, rfl, hc, Nat.lt_of_lt_of_le hlt hb.size, fun i u hu => ?_⟩
    rw [hb.cell (p := ⟨b, off + i, none⟩) hlt]; exact hcell i u hu
theorem CS.below {w w' : World} {v : Value} {l : List Ch} {B : Nat} (h : CS w v l) (hb : Below B w w') (hv : ∀ k, v.ownBlock = some k → k < B) : CS w' v l := by
  rcases h with h | ⟨b, off, cap, rfl, hc, hlt, hcell⟩
  · exact .inl h
  · refine .inr ⟨b, off, cap, rfl, hc, Nat.lt_of_lt_of_le hlt hb.size, fun i u hu => ?_⟩
    rw [hb.cell (p := ⟨b, off + i, none⟩) (hv b rfl)]; exact hcell i u hu
theorem CS_nil (w : World) : CS w (.slice none 0 0) [] := .inl ⟨⟨_, _, rfl⟩, rfl⟩
theorem CS.form {w : World} {v : Value} {l : List Ch} (h : CS w v l) : ∃ a c, v = .slice a l.length c ∧ l.length ≤ c ∨ l = [] ∧ ∃ a c, v = .slice a 0 c := by
  rcases h with ⟨⟨a, c, rfl⟩, rfl⟩ | ⟨b, off, cap, rfl, hc, hlt, hcell⟩
  · exact ⟨a, c, .inr ⟨rfl, a, c, rfl⟩⟩
  · exact ⟨_, cap, .inl ⟨rfl, hc⟩⟩
theorem CS.shape {w : World} {v : Value} {l : List Ch} (h : CS w v l) : ∃ a c, v = .slice a l.length c := by
  rcases h with ⟨⟨a, c, rfl⟩, rfl⟩ | ⟨b, off, cap, rfl, hc, hlt, hcell⟩
  · exact ⟨a, c, rfl⟩
  · exact ⟨_, cap, rfl⟩
/-- at one place, in a later world -/
theorem CS.at {w : World} {a : Option Addr} {c : Nat} {l : List Ch} (h : CS w (.slice a l.length c) l) {wr : World} (hb : Below w.heap.size w wr) {k : Nat} (hk : k < l.length) : ∃ b off, a = some ⟨b, off, none⟩ ∧ b < w.heap.size ∧ l.length ≤ c ∧ CB wr b (off + k * 11) l[k] := by
  rcases h with ⟨_, rfl⟩ | ⟨b, off, cap, e, hc, hlt, hcell⟩
  · simp at hk
  · injection e with e1 e2 e3
    subst e1 e3
    refine ⟨b, off, rfl, hlt, hc, cc_cb (fun i u hu => ?_) k hk⟩
    rw [hb.cell (p := ⟨b, off + i, none⟩) hlt]; exact hcell i u hu
theorem und23 : Try.prog.underlying 23 = some (.slice 42) := by kernel_rfl
theorem info42 : (Try.prog.info? 42).map (fun i => (i.zero, i.size, i.bytes)) = some (some (.agg #[.string ⟨#[]⟩, .bool false, .bool false, .string ⟨#[]⟩, .string ⟨#[]⟩, .int .i64 0, .int .i64 0, .string ⟨#[]⟩, .string ⟨#[]⟩, .int .i64 0, .int .i64 0]), 11, 120) := by kernel_rfl
theorem CS.src {w : World} {v : Value} {l : List Ch} (h : CS w v l) : Src Try.prog 11 23 v l.length (cc l) w := by
  rcases h with ⟨⟨a, c, rfl⟩, rfl⟩ | ⟨b, off, cap, rfl, hc, hlt, hcell⟩
  · cases a with
    | none => exact Src.ofNil w und23 c
    | some a => exact Src.ofSlice w und23 a 0 c [] (by simp) (fun j u hu => by simp at hu) (fun u hu => by cases hu)
  · exact Src.ofSlice w und23 ⟨b, off, none⟩ l.length cap (cc l) (cc_length l) (fun j u hu => by rw [add_lit]; exact hcell j u hu) (cc_one l)
/-- a row of changes of the call's own -/
def OwnC (base : Nat) (w : World) (v : Value) (l : List Ch) : Prop := w.ownsRow base 42 11 v l.length (cc l)
theorem OwnC.nil (base : Nat) (w : World) : OwnC base w (.slice none 0 0) [] := World.ownsRow_nil w base 42 11
theorem OwnC.mono {base base' : Nat} {w : World} {v : Value} {l : List Ch} (h : OwnC base w v l) (hb : base' ≤ base) : OwnC base' w v l := World.ownsRow.mono h hb
theorem OwnC.cs {base : Nat} {w : World} {v : Value} {l : List Ch} (h : OwnC base w v l) : CS w v l := by
  rcases h.2 with ⟨rfl, h0⟩ | ⟨g, cap, cur, rfl, hb, hg, hn, _⟩
  · exact .inl ⟨⟨_, _, rfl⟩, List.eq_nil_of_length_eq_zero h0⟩
  · refine .inr ⟨g, 0, cap, rfl, hn, (Array.getElem?_eq_some_iff.1 hg).1, fun i u hu => ?_⟩
    have := World.ownsRow.cells h (g := g) rfl i u hu
    rw [add_lit] at this; exact this
theorem OwnC.lt {base : Nat} {w : World} {v : Value} {l : List Ch} (h : OwnC base w v l) {k : Nat} (hk : v.ownBlock = some k) : base ≤ k ∧ k < w.heap.size := World.ownsRow.lt h k hk
theorem OwnC.only {S : List Nat} {base : Nat} {w w' : World} {v : Value} {l : List Ch} (h : OwnC base w v l) (ho : Only S w w') (hn : ∀ k, v.ownBlock = some k → k ∉ S) : OwnC base w' v l := by
  rcases h with ⟨h0, h | ⟨g, cap, cur, rfl, hb, hg, hr⟩⟩
  · exact ⟨h0, .inl h⟩
  · exact ⟨h0, .inr ⟨g, cap, cur, rfl, hb, (ho.block g (Array.getElem?_eq_some_iff.1 hg).1 (hn g rfl)).trans hg, hr⟩⟩
theorem OwnC.later {base : Nat} {w w' : World} {v : Value} {l : List Ch} (h : OwnC base w v l) (hb : Below w.heap.size w w') : OwnC base w' v l :=
  h.only (Only.of_below hb []) (by simp)
/-- append of changes onto changes of the call's own -/
theorem app_chs {w : World} {base : Nat} {v x : Value} {l k : List Ch} (hown : OwnC base w v l) (hs : Src Try.prog 11 23 x k.length (cc k) w) (hb : (l.length + k.length) * 120 ≤ 140737488355328) (hbase : base ≤ w.heap.size)
    {ops : Array Oper} {rest : List Oper} {o : Oper} {a : Act} {Q : Exit → Act → World → Prop} (hgd : o.guard = none) (s y : Operand)
    (ho : o.op = .call { callee := .builtin .append, args := #[s, y], argTypes := #[23, 23] }) (hv : a.eval s = v) (hx : a.eval y = x)
    (h : ∀ v' w', OwnC base w' v' (l ++ k) → w.grownBy w' v.ownBlock → (v'.ownBlock = v.ownBlock ∨ v'.ownBlock = some w.heap.size) → wpList Try.prog ops Q rest (a.put o.dst v') w') :
    wpList Try.prog ops Q (o :: rest) a w := by
  obtain ⟨i0, hi, hz0, hz1, hz2⟩ := info_parts info42
  refine wpList_append_src w hgd s y 23 23 ho base 42 i0 _ 11 120 und23 hi hz0 hz1 hz2 rfl v l.length (cc l) hv hown x k.length (cc k) hx hs (by simp only [maxLen]; omega) (by omega) hbase ?_
  intro v' w' h1 h2 h3
  exact h v' w' (by unfold OwnC; rw [cc_append, List.length_append]; exact h1) h2 h3
theorem src_ch (w : World) (c : Ch) : Src Try.prog 11 23 (.slice (some ⟨w.heap.size, 0, none⟩) 1 1) [c].length (cc [c]) (w.alloc (.cells #[.string (bs c.path), .bool c.had, .bool c.has, .string (bs c.old.path), .string (bs c.old.text), .int .i64 c.old.blob, .int .i64 c.old.size, .string (bs c.new.path), .string (bs c.new.text), .int .i64 c.new.blob, .int .i64 c.new.size] 42)) := by
  refine Src.ofSlice _ und23 ⟨w.heap.size, 0, none⟩ 1 1 (cc [c]) (by simp [cc_length]) ?_ (cc_one _)
  exact World.news_of_block (heap_alloc_new w _)
/-- a boxed change -/
theorem CB.new (w : World) (c : Ch) (k : TypeId) : CB (w.alloc (.cells #[.string (bs c.path), .bool c.had, .bool c.has, .string (bs c.old.path), .string (bs c.old.text), .int .i64 c.old.blob, .int .i64 c.old.size, .string (bs c.new.path), .string (bs c.new.text), .int .i64 c.new.blob, .int .i64 c.new.size] k)) w.heap.size 0 c := ⟨by simp, by simp, by simp, by simp, by simp, by simp, by simp, by simp, by simp, by simp, by simp⟩
theorem CB.later {w w' : World} {b o : Nat} {c : Ch} (h : CB w b o c) (hlt : b < w.heap.size) (hb : Below w.heap.size w w') : CB w' b o c := h.cells fun j => hb.cell (p := ⟨b, j, none⟩) hlt
/-- what a machine has -/
structure Cok (c : Ch) : Prop where
  path : c.path.length ≤ 140737488355328
  old : Fok c.old
  new : Fok c.new
structure CSm (l : List Ch) : Prop where
  len : l.length ≤ 140737488355328
  each : ∀ c ∈ l, Cok c
theorem CSm.at {l : List Ch} (h : CSm l) {k : Nat} (hk : k < l.length) : Cok l[k] := h.each _ (List.getElem_mem _)
theorem zf_ok : Fok zf := ⟨by simp [zf], by simp [zf], by simp [zf], by simp [zf], by simp [zf], by simp [zf]⟩
end Go.Proofs.Ytinhdjoidbcfaaa
