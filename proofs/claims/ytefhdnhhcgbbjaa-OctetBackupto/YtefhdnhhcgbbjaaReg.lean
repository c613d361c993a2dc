import Derived.Test.YtefhdnhhcgbbjaaBack
import Derived.Test.YtefhdnhhcgbbjaaInv
namespace Go.Proofs.Ytefhdnhhcgbbjaa
open Go.RowKit

/-- what the operations that are done have left, in whatever order -/
structure R9 (wr : World) (vb vs : Value) (E : List UInt8) (b0 b1 b2 b3 b4 b5 b6 b7 b8 b9 b10 b11 b12 b13 b14 b15 b16 b17 : Bool) (u5 u6 u7 u33 u34 u35 u36 u37 u38 u39 u40 u41 u42 u43 u44 u45 u46 u47 : Value) (g1 d1 g8 d8 g11 g14 d14 : Nat) (w : World) : Prop where
  bel : Below wr.heap.size wr w
  h0 : b0 = true → u33 = vb
  h1 : b1 = true → u34 = .pointer (some ⟨g1, 0, none⟩) ∧ RD w g1 d1 E ∧ wr.heap.size ≤ g1 ∧ wr.heap.size ≤ d1 ∧ g1 < w.heap.size ∧ d1 < w.heap.size
  h2 : b2 = true → u35 = vb
  h3 : b3 = true → u36 = vb
  h4 : b4 = true → u37 = .int .i64 E.length
  h5 : b5 = true → u38 = .int .i64 ((E.length : Int) - 1)
  h6 : b6 = true → u39 = .int .i64 ((E.length : Int) - 1)
  h7 : b7 = true → u40 = vs
  h8 : b8 = true → u41 = .pointer (some ⟨g8, 0, none⟩) ∧ RD w g8 d8 (E.take (E.length - 1)) ∧ wr.heap.size ≤ g8 ∧ wr.heap.size ≤ d8 ∧ g8 < w.heap.size ∧ d8 < w.heap.size ∧ b1 = true ∧ g1 < g8 ∧ g1 < d8 ∧ d1 < g8 ∧ d1 < d8
  h9 : b9 = true → ∃ a, u42 = .slice (some a) 0 0
  h10 : b10 = true → u43 = vb
  h11 : b11 = true → ∃ cap, u44 = .slice (some ⟨g11, 0, none⟩) E.length cap ∧ (b13 = false → Own wr.heap.size w u44 E) ∧ g11 < w.heap.size ∧ (b1 = true → g1 ≠ g11 ∧ d1 ≠ g11) ∧ (b8 = true → g8 ≠ g11 ∧ d8 ≠ g11) ∧ b8 = true
  h12 : b12 = true → b13 = false → BS w u45 [7]
  h13 : b13 = true → BS w u46 (E ++ [7]) ∧ b11 = true
  h14 : b14 = true → u47 = .pointer (some ⟨g14, 0, none⟩) ∧ RD w g14 d14 (E ++ [7]) ∧ wr.heap.size ≤ g14 ∧ wr.heap.size ≤ d14 ∧ b8 = true ∧ b1 = true ∧ b13 = true ∧ g1 < g14 ∧ g1 < d14 ∧ d1 < g14 ∧ d1 < d14 ∧ g8 < g14 ∧ g8 < d14 ∧ d8 < g14 ∧ d8 < d14
  h15 : b15 = true → u5 = u34 ∧ b1 = true
  h16 : b16 = true → u6 = u41 ∧ b8 = true
  h17 : b17 = true → u7 = u47 ∧ b14 = true

/-- append of bytes onto a new empty list: a new row -/
theorem wp_append_new {w : World} {v : Value} {l : List UInt8} (h : BS w v l) (hl : l.length ≤ 1000000000) (h0 : 0 < l.length) (ad : Addr)
    {o : Oper} {a : Act} {K : Act → World → Prop} {Q : Exit → Act → World → Prop} (s y : Operand)
    (ho : o.op = .call { callee := .builtin .append, args := #[s, y], argTypes := #[27, 27] }) (hv : a.eval s = .slice (some ad) 0 0) (hx : a.eval y = v)
    (k : ∀ d cap w', Own w.heap.size w' (.slice (some ⟨d, 0, none⟩) l.length cap) l → Below w.heap.size w w' → w.heap.size ≤ d → d < w'.heap.size → K (a.put o.dst (.slice (some ⟨d, 0, none⟩) l.length cap)) w') :
    Oper.wp Try.prog o a w K Q := by
  obtain ⟨i0, hi, hz0, hz1, hz2⟩ := info_parts info5
  have hs := h.src (P := Try.prog) und27
  have hr := run_append_grow_src (P := Try.prog) w 27 27 o.type 5 i0 (.int .u8 0) und27 hi hz0 (some ad) 0 0 [] (run_firstCells_some w.drew i0.size 0 ad 0 0 [] (by simp) (fun j u hu => by simp at hu)) v l.length (bc l) (by rw [hz1]; exact hs) (by omega) (by omega) (growslice_fits (by omega) (by rw [hz2]; omega))
  unfold Oper.wp execOp
  simp only [ho, resolve, invoke, builtin, Sem.run_bind, Sem.run_pure, Result.andThen_ok, List.map_toArray, List.map_cons, List.map_nil, hv, hx, hr]
  have hge := grownCap_ge w (0 + l.length) 0 5
  have hcm : grownCap w (0 + l.length) 0 5 ≤ maxLen := grownCap_le_maxLen w (0 + l.length) 0 5 (by simp only [maxLen]; omega)
  rw [Nat.zero_add] at hge hcm ⊢
  refine k w.heap.size _ _ ⟨by simp [bc_length], .inr ⟨w.heap.size, _, _, rfl, Nat.le_refl _, heap_alloc_new w.drew _, hge, hcm, ?_, ?_⟩⟩ ((Below.refl _ _).drew.alloc (Nat.le_refl _) _) (Nat.le_refl _) (by simp)
  · simp only [Array.size_append, List.size_toArray, size_zeroCells, List.nil_append, bc_length, Value.cells]
    simp
    omega
  · simp only [Array.toList_append, List.nil_append, Nat.mul_one]
    rw [← bc_length l]
    exact List.take_left

/-- append of a byte onto bytes of the call's own, as one operation -/
theorem wp_append_own {w : World} {base : Nat} {v x : Value} {l k : List UInt8} (hown : Own base w v l) (hx0 : BS w x k) (hb : l.length + k.length ≤ 1000000000) (hbase : base ≤ w.heap.size)
    {o : Oper} {a : Act} {K : Act → World → Prop} {Q : Exit → Act → World → Prop} (s y : Operand)
    (ho : o.op = .call { callee := .builtin .append, args := #[s, y], argTypes := #[27, 27] }) (hv : a.eval s = v) (hx : a.eval y = x)
    (h : ∀ v' w', Own base w' v' (l ++ k) → w.grownBy w' v.ownBlock → (v'.ownBlock = v.ownBlock ∨ v'.ownBlock = some w.heap.size) → K (a.put o.dst v') w') :
    Oper.wp Try.prog o a w K Q := by
  obtain ⟨i0, hi, hz0, hz1, hz2⟩ := info_parts info5
  obtain ⟨v', w', hr, h2, h3, h4⟩ := run_append_src (P := Try.prog) w base 27 27 o.type 5 i0 (.int .u8 0) 1 1 und27 hi hz0 hz1 hz2 rfl v l.length (bc l) hown x k.length (bc k) (hx0.src und27) (by simp only [maxLen]; omega) (by omega) hbase
  unfold Oper.wp execOp
  simp only [ho, resolve, invoke, builtin, Sem.run_bind, Sem.run_pure, Result.andThen_ok, List.map_toArray, List.map_cons, List.map_nil, hv, hx, hr]
  exact h v' w' (by unfold Own; rw [bc_append, List.length_append]; exact h2) h3 h4

theorem Own.later {base : Nat} {w w' : World} {v : Value} {l : List UInt8} (h : Own base w v l) (hb : Below w.heap.size w w') : Own base w' v l := by
  refine World.ownsRow.kept (row := none) h (grown_of_below hb) ?_
  cases v.ownBlock <;> simp

section
variable {wr : World} {vb vs : Value} {E : List UInt8} {b0 b1 b2 b3 b4 b5 b6 b7 b8 b9 b10 b11 b12 b13 b14 b15 b16 b17 : Bool} {u5 u6 u7 u33 u34 u35 u36 u37 u38 u39 u40 u41 u42 u43 u44 u45 u46 u47 : Value} {g1 d1 g8 d8 g11 g14 d14 : Nat} {w : World}
theorem R9.grow (h : R9 wr vb vs E b0 b1 b2 b3 b4 b5 b6 b7 b8 b9 b10 b11 b12 b13 b14 b15 b16 b17 u5 u6 u7 u33 u34 u35 u36 u37 u38 u39 u40 u41 u42 u43 u44 u45 u46 u47 g1 d1 g8 d8 g11 g14 d14 w) {w' : World} (hb : Below w.heap.size w w') : R9 wr vb vs E b0 b1 b2 b3 b4 b5 b6 b7 b8 b9 b10 b11 b12 b13 b14 b15 b16 b17 u5 u6 u7 u33 u34 u35 u36 u37 u38 u39 u40 u41 u42 u43 u44 u45 u46 u47 g1 d1 g8 d8 g11 g14 d14 w' :=
  ⟨h.bel.trans (hb.mono h.bel.size), h.h0, fun e => by obtain ⟨p1, p2, p3, p4, p5, p6⟩ := h.h1 e; exact ⟨p1, p2.later hb, p3, p4, Nat.lt_of_lt_of_le p5 hb.size, Nat.lt_of_lt_of_le p6 hb.size⟩, h.h2, h.h3, h.h4, h.h5, h.h6, h.h7, fun e => by obtain ⟨p1, p2, p3, p4, p5, p6, p7⟩ := h.h8 e; exact ⟨p1, p2.later hb, p3, p4, Nat.lt_of_lt_of_le p5 hb.size, Nat.lt_of_lt_of_le p6 hb.size, p7⟩, h.h9, h.h10, fun e => by obtain ⟨cap, p1, p2, p3, p4⟩ := h.h11 e; exact ⟨cap, p1, fun e' => (p2 e').later hb, Nat.lt_of_lt_of_le p3 hb.size, p4⟩, fun e e' => (h.h12 e e').later hb, fun e => ⟨(h.h13 e).1.later hb, (h.h13 e).2⟩, fun e => by obtain ⟨p1, p2, p3⟩ := h.h14 e; exact ⟨p1, p2.later hb, p3⟩, h.h15, h.h16, h.h17⟩
theorem R9.s0 (h : R9 wr vb vs E b0 b1 b2 b3 b4 b5 b6 b7 b8 b9 b10 b11 b12 b13 b14 b15 b16 b17 u5 u6 u7 u33 u34 u35 u36 u37 u38 u39 u40 u41 u42 u43 u44 u45 u46 u47 g1 d1 g8 d8 g11 g14 d14 w) : R9 wr vb vs E true b1 b2 b3 b4 b5 b6 b7 b8 b9 b10 b11 b12 b13 b14 b15 b16 b17 u5 u6 u7 vb u34 u35 u36 u37 u38 u39 u40 u41 u42 u43 u44 u45 u46 u47 g1 d1 g8 d8 g11 g14 d14 w :=
  ⟨h.bel, fun _ => rfl, h.h1, h.h2, h.h3, h.h4, h.h5, h.h6, h.h7, h.h8, h.h9, h.h10, h.h11, h.h12, h.h13, h.h14, h.h15, h.h16, h.h17⟩
theorem R9.s2 (h : R9 wr vb vs E b0 b1 b2 b3 b4 b5 b6 b7 b8 b9 b10 b11 b12 b13 b14 b15 b16 b17 u5 u6 u7 u33 u34 u35 u36 u37 u38 u39 u40 u41 u42 u43 u44 u45 u46 u47 g1 d1 g8 d8 g11 g14 d14 w) : R9 wr vb vs E b0 b1 true b3 b4 b5 b6 b7 b8 b9 b10 b11 b12 b13 b14 b15 b16 b17 u5 u6 u7 u33 u34 vb u36 u37 u38 u39 u40 u41 u42 u43 u44 u45 u46 u47 g1 d1 g8 d8 g11 g14 d14 w :=
  ⟨h.bel, h.h0, h.h1, fun _ => rfl, h.h3, h.h4, h.h5, h.h6, h.h7, h.h8, h.h9, h.h10, h.h11, h.h12, h.h13, h.h14, h.h15, h.h16, h.h17⟩
theorem R9.s3 (h : R9 wr vb vs E b0 b1 b2 b3 b4 b5 b6 b7 b8 b9 b10 b11 b12 b13 b14 b15 b16 b17 u5 u6 u7 u33 u34 u35 u36 u37 u38 u39 u40 u41 u42 u43 u44 u45 u46 u47 g1 d1 g8 d8 g11 g14 d14 w) : R9 wr vb vs E b0 b1 b2 true b4 b5 b6 b7 b8 b9 b10 b11 b12 b13 b14 b15 b16 b17 u5 u6 u7 u33 u34 u35 vb u37 u38 u39 u40 u41 u42 u43 u44 u45 u46 u47 g1 d1 g8 d8 g11 g14 d14 w :=
  ⟨h.bel, h.h0, h.h1, h.h2, fun _ => rfl, h.h4, h.h5, h.h6, h.h7, h.h8, h.h9, h.h10, h.h11, h.h12, h.h13, h.h14, h.h15, h.h16, h.h17⟩
theorem R9.s4 (h : R9 wr vb vs E b0 b1 b2 b3 b4 b5 b6 b7 b8 b9 b10 b11 b12 b13 b14 b15 b16 b17 u5 u6 u7 u33 u34 u35 u36 u37 u38 u39 u40 u41 u42 u43 u44 u45 u46 u47 g1 d1 g8 d8 g11 g14 d14 w) : R9 wr vb vs E b0 b1 b2 b3 true b5 b6 b7 b8 b9 b10 b11 b12 b13 b14 b15 b16 b17 u5 u6 u7 u33 u34 u35 u36 (.int .i64 E.length) u38 u39 u40 u41 u42 u43 u44 u45 u46 u47 g1 d1 g8 d8 g11 g14 d14 w :=
  ⟨h.bel, h.h0, h.h1, h.h2, h.h3, fun _ => rfl, h.h5, h.h6, h.h7, h.h8, h.h9, h.h10, h.h11, h.h12, h.h13, h.h14, h.h15, h.h16, h.h17⟩
theorem R9.s5 (h : R9 wr vb vs E b0 b1 b2 b3 b4 b5 b6 b7 b8 b9 b10 b11 b12 b13 b14 b15 b16 b17 u5 u6 u7 u33 u34 u35 u36 u37 u38 u39 u40 u41 u42 u43 u44 u45 u46 u47 g1 d1 g8 d8 g11 g14 d14 w) : R9 wr vb vs E b0 b1 b2 b3 b4 true b6 b7 b8 b9 b10 b11 b12 b13 b14 b15 b16 b17 u5 u6 u7 u33 u34 u35 u36 u37 (.int .i64 ((E.length : Int) - 1)) u39 u40 u41 u42 u43 u44 u45 u46 u47 g1 d1 g8 d8 g11 g14 d14 w :=
  ⟨h.bel, h.h0, h.h1, h.h2, h.h3, h.h4, fun _ => rfl, h.h6, h.h7, h.h8, h.h9, h.h10, h.h11, h.h12, h.h13, h.h14, h.h15, h.h16, h.h17⟩
theorem R9.s6 (h : R9 wr vb vs E b0 b1 b2 b3 b4 b5 b6 b7 b8 b9 b10 b11 b12 b13 b14 b15 b16 b17 u5 u6 u7 u33 u34 u35 u36 u37 u38 u39 u40 u41 u42 u43 u44 u45 u46 u47 g1 d1 g8 d8 g11 g14 d14 w) : R9 wr vb vs E b0 b1 b2 b3 b4 b5 true b7 b8 b9 b10 b11 b12 b13 b14 b15 b16 b17 u5 u6 u7 u33 u34 u35 u36 u37 u38 (.int .i64 ((E.length : Int) - 1)) u40 u41 u42 u43 u44 u45 u46 u47 g1 d1 g8 d8 g11 g14 d14 w :=
  ⟨h.bel, h.h0, h.h1, h.h2, h.h3, h.h4, h.h5, fun _ => rfl, h.h7, h.h8, h.h9, h.h10, h.h11, h.h12, h.h13, h.h14, h.h15, h.h16, h.h17⟩
theorem R9.s7 (h : R9 wr vb vs E b0 b1 b2 b3 b4 b5 b6 b7 b8 b9 b10 b11 b12 b13 b14 b15 b16 b17 u5 u6 u7 u33 u34 u35 u36 u37 u38 u39 u40 u41 u42 u43 u44 u45 u46 u47 g1 d1 g8 d8 g11 g14 d14 w) : R9 wr vb vs E b0 b1 b2 b3 b4 b5 b6 true b8 b9 b10 b11 b12 b13 b14 b15 b16 b17 u5 u6 u7 u33 u34 u35 u36 u37 u38 u39 vs u41 u42 u43 u44 u45 u46 u47 g1 d1 g8 d8 g11 g14 d14 w :=
  ⟨h.bel, h.h0, h.h1, h.h2, h.h3, h.h4, h.h5, h.h6, fun _ => rfl, h.h8, h.h9, h.h10, h.h11, h.h12, h.h13, h.h14, h.h15, h.h16, h.h17⟩
theorem R9.s10 (h : R9 wr vb vs E b0 b1 b2 b3 b4 b5 b6 b7 b8 b9 b10 b11 b12 b13 b14 b15 b16 b17 u5 u6 u7 u33 u34 u35 u36 u37 u38 u39 u40 u41 u42 u43 u44 u45 u46 u47 g1 d1 g8 d8 g11 g14 d14 w) : R9 wr vb vs E b0 b1 b2 b3 b4 b5 b6 b7 b8 b9 true b11 b12 b13 b14 b15 b16 b17 u5 u6 u7 u33 u34 u35 u36 u37 u38 u39 u40 u41 u42 vb u44 u45 u46 u47 g1 d1 g8 d8 g11 g14 d14 w :=
  ⟨h.bel, h.h0, h.h1, h.h2, h.h3, h.h4, h.h5, h.h6, h.h7, h.h8, h.h9, fun _ => rfl, h.h11, h.h12, h.h13, h.h14, h.h15, h.h16, h.h17⟩
theorem R9.s15 (h : R9 wr vb vs E b0 b1 b2 b3 b4 b5 b6 b7 b8 b9 b10 b11 b12 b13 b14 b15 b16 b17 u5 u6 u7 u33 u34 u35 u36 u37 u38 u39 u40 u41 u42 u43 u44 u45 u46 u47 g1 d1 g8 d8 g11 g14 d14 w) (hb : b1 = true) : R9 wr vb vs E b0 b1 b2 b3 b4 b5 b6 b7 b8 b9 b10 b11 b12 b13 b14 true b16 b17 u34 u6 u7 u33 u34 u35 u36 u37 u38 u39 u40 u41 u42 u43 u44 u45 u46 u47 g1 d1 g8 d8 g11 g14 d14 w :=
  ⟨h.bel, h.h0, h.h1, h.h2, h.h3, h.h4, h.h5, h.h6, h.h7, h.h8, h.h9, h.h10, h.h11, h.h12, h.h13, h.h14, fun _ => ⟨rfl, hb⟩, h.h16, h.h17⟩
theorem R9.s16 (h : R9 wr vb vs E b0 b1 b2 b3 b4 b5 b6 b7 b8 b9 b10 b11 b12 b13 b14 b15 b16 b17 u5 u6 u7 u33 u34 u35 u36 u37 u38 u39 u40 u41 u42 u43 u44 u45 u46 u47 g1 d1 g8 d8 g11 g14 d14 w) (hb : b8 = true) : R9 wr vb vs E b0 b1 b2 b3 b4 b5 b6 b7 b8 b9 b10 b11 b12 b13 b14 b15 true b17 u5 u41 u7 u33 u34 u35 u36 u37 u38 u39 u40 u41 u42 u43 u44 u45 u46 u47 g1 d1 g8 d8 g11 g14 d14 w :=
  ⟨h.bel, h.h0, h.h1, h.h2, h.h3, h.h4, h.h5, h.h6, h.h7, h.h8, h.h9, h.h10, h.h11, h.h12, h.h13, h.h14, h.h15, fun _ => ⟨rfl, hb⟩, h.h17⟩
theorem R9.s17 (h : R9 wr vb vs E b0 b1 b2 b3 b4 b5 b6 b7 b8 b9 b10 b11 b12 b13 b14 b15 b16 b17 u5 u6 u7 u33 u34 u35 u36 u37 u38 u39 u40 u41 u42 u43 u44 u45 u46 u47 g1 d1 g8 d8 g11 g14 d14 w) (hb : b14 = true) : R9 wr vb vs E b0 b1 b2 b3 b4 b5 b6 b7 b8 b9 b10 b11 b12 b13 b14 b15 b16 true u5 u6 u47 u33 u34 u35 u36 u37 u38 u39 u40 u41 u42 u43 u44 u45 u46 u47 g1 d1 g8 d8 g11 g14 d14 w :=
  ⟨h.bel, h.h0, h.h1, h.h2, h.h3, h.h4, h.h5, h.h6, h.h7, h.h8, h.h9, h.h10, h.h11, h.h12, h.h13, h.h14, h.h15, h.h16, fun _ => ⟨rfl, hb⟩⟩
theorem R9.s9 (h : R9 wr vb vs E b0 b1 b2 b3 b4 b5 b6 b7 b8 b9 b10 b11 b12 b13 b14 b15 b16 b17 u5 u6 u7 u33 u34 u35 u36 u37 u38 u39 u40 u41 u42 u43 u44 u45 u46 u47 g1 d1 g8 d8 g11 g14 d14 w) (x : Nat) : R9 wr vb vs E b0 b1 b2 b3 b4 b5 b6 b7 b8 true b10 b11 b12 b13 b14 b15 b16 b17 u5 u6 u7 u33 u34 u35 u36 u37 u38 u39 u40 u41 (.slice (some ⟨x, 0, none⟩) 0 0) u43 u44 u45 u46 u47 g1 d1 g8 d8 g11 g14 d14 w :=
  ⟨h.bel, h.h0, h.h1, h.h2, h.h3, h.h4, h.h5, h.h6, h.h7, h.h8, fun _ => ⟨_, rfl⟩, h.h10, h.h11, h.h12, h.h13, h.h14, h.h15, h.h16, h.h17⟩
theorem R9.s12 (h : R9 wr vb vs E b0 b1 b2 b3 b4 b5 b6 b7 b8 b9 b10 b11 b12 b13 b14 b15 b16 b17 u5 u6 u7 u33 u34 u35 u36 u37 u38 u39 u40 u41 u42 u43 u44 u45 u46 u47 g1 d1 g8 d8 g11 g14 d14 w) (x : Value) (hx : BS w x [7]) : R9 wr vb vs E b0 b1 b2 b3 b4 b5 b6 b7 b8 b9 b10 b11 true b13 b14 b15 b16 b17 u5 u6 u7 u33 u34 u35 u36 u37 u38 u39 u40 u41 u42 u43 u44 x u46 u47 g1 d1 g8 d8 g11 g14 d14 w :=
  ⟨h.bel, h.h0, h.h1, h.h2, h.h3, h.h4, h.h5, h.h6, h.h7, h.h8, h.h9, h.h10, h.h11, fun _ _ => hx, h.h13, h.h14, h.h15, h.h16, h.h17⟩
theorem R9.s1 (h : R9 wr vb vs E b0 b1 b2 b3 b4 b5 b6 b7 b8 b9 b10 b11 b12 b13 b14 b15 b16 b17 u5 u6 u7 u33 u34 u35 u36 u37 u38 u39 u40 u41 u42 u43 u44 u45 u46 u47 g1 d1 g8 d8 g11 g14 d14 w) (g d : Nat) {w' : World} (hb : Below w.heap.size w w') (hr : RD w' g d E) (hg : w.heap.size ≤ g) (hd : w.heap.size ≤ d) (n8 : b8 = false) (n14 : b14 = false) (n15 : b15 = false) : R9 wr vb vs E b0 true b2 b3 b4 b5 b6 b7 b8 b9 b10 b11 b12 b13 b14 b15 b16 b17 u5 u6 u7 u33 (.pointer (some ⟨g, 0, none⟩)) u35 u36 u37 u38 u39 u40 u41 u42 u43 u44 u45 u46 u47 g d g8 d8 g11 g14 d14 w' := by
  have h0 := h
  have hz0' := h.bel.size
  have h := h.grow hb
  have hz := h.bel.size
  have hlt : g < w'.heap.size ∧ d < w'.heap.size := by obtain ⟨_, _, _, _, _, x1, x2, _⟩ := hr; exact ⟨x1, x2⟩
  subst n8 n14 n15
  have hz0 := hb.size
  exact ⟨h.bel, h.h0, fun _ => ⟨rfl, hr, Nat.le_trans hz0' hg, Nat.le_trans hz0' hd, hlt.1, hlt.2⟩, h.h2, h.h3, h.h4, h.h5, h.h6, h.h7, (fun e => (by cases e)), h.h9, h.h10, fun e => by obtain ⟨cap, p1, p2, p3, p4, p5⟩ := h.h11 e; obtain ⟨_, _, _, q3, _⟩ := h0.h11 e; exact ⟨cap, p1, p2, p3, fun _ => ⟨by omega, by omega⟩, p5⟩, h.h12, h.h13, (fun e => (by cases e)), (fun e => (by cases e)), h.h16, h.h17⟩
theorem R9.s8 (h : R9 wr vb vs E b0 b1 b2 b3 b4 b5 b6 b7 b8 b9 b10 b11 b12 b13 b14 b15 b16 b17 u5 u6 u7 u33 u34 u35 u36 u37 u38 u39 u40 u41 u42 u43 u44 u45 u46 u47 g1 d1 g8 d8 g11 g14 d14 w) (g d : Nat) {w' : World} (hb : Below w.heap.size w w') (hr : RD w' g d (E.take (E.length - 1))) (hg : w.heap.size ≤ g) (hd : w.heap.size ≤ d) (y1 : b1 = true) (n14 : b14 = false) (n16 : b16 = false) : R9 wr vb vs E b0 b1 b2 b3 b4 b5 b6 b7 true b9 b10 b11 b12 b13 b14 b15 b16 b17 u5 u6 u7 u33 u34 u35 u36 u37 u38 u39 u40 (.pointer (some ⟨g, 0, none⟩)) u42 u43 u44 u45 u46 u47 g1 d1 g d g11 g14 d14 w' := by
  have h0 := h
  have hz0' := h.bel.size
  have h := h.grow hb
  have hlt : g < w'.heap.size ∧ d < w'.heap.size := by obtain ⟨_, _, _, _, _, x1, x2, _⟩ := hr; exact ⟨x1, x2⟩
  subst n14 n16
  obtain ⟨_, _, _, _, q5, q6⟩ := h0.h1 y1
  exact ⟨h.bel, h.h0, h.h1, h.h2, h.h3, h.h4, h.h5, h.h6, h.h7, fun _ => ⟨rfl, hr, Nat.le_trans hz0' hg, Nat.le_trans hz0' hd, hlt.1, hlt.2, y1, by omega, by omega, by omega, by omega⟩, h.h9, h.h10, fun e => by obtain ⟨cap, p1, p2, p3, p4, p5⟩ := h.h11 e; obtain ⟨_, _, _, q3, _⟩ := h0.h11 e; exact ⟨cap, p1, p2, p3, p4, fun _ => ⟨by omega, by omega⟩, rfl⟩, h.h12, h.h13, (fun e => (by cases e)), h.h15, (fun e => (by cases e)), h.h17⟩
theorem R9.s14 (h : R9 wr vb vs E b0 b1 b2 b3 b4 b5 b6 b7 b8 b9 b10 b11 b12 b13 b14 b15 b16 b17 u5 u6 u7 u33 u34 u35 u36 u37 u38 u39 u40 u41 u42 u43 u44 u45 u46 u47 g1 d1 g8 d8 g11 g14 d14 w) (g d : Nat) {w' : World} (hb : Below w.heap.size w w') (hr : RD w' g d (E ++ [7])) (hg : w.heap.size ≤ g) (hd : w.heap.size ≤ d) (y1 : b1 = true) (y8 : b8 = true) (y13 : b13 = true) (n17 : b17 = false) : R9 wr vb vs E b0 b1 b2 b3 b4 b5 b6 b7 b8 b9 b10 b11 b12 b13 true b15 b16 b17 u5 u6 u7 u33 u34 u35 u36 u37 u38 u39 u40 u41 u42 u43 u44 u45 u46 (.pointer (some ⟨g, 0, none⟩)) g1 d1 g8 d8 g11 g d w' := by
  have h0 := h
  have hz0' := h.bel.size
  have h := h.grow hb
  subst n17
  obtain ⟨_, _, _, _, q5, q6⟩ := h0.h1 y1
  obtain ⟨_, _, _, _, r5, r6, _⟩ := h0.h8 y8
  exact ⟨h.bel, h.h0, h.h1, h.h2, h.h3, h.h4, h.h5, h.h6, h.h7, h.h8, h.h9, h.h10, h.h11, h.h12, h.h13, fun _ => ⟨rfl, hr, Nat.le_trans hz0' hg, Nat.le_trans hz0' hd, y8, y1, y13, by omega, by omega, by omega, by omega, by omega, by omega, by omega, by omega⟩, h.h15, h.h16, (fun e => (by cases e))⟩
theorem R9.s11 (h : R9 wr vb vs E b0 b1 b2 b3 b4 b5 b6 b7 b8 b9 b10 b11 b12 b13 b14 b15 b16 b17 u5 u6 u7 u33 u34 u35 u36 u37 u38 u39 u40 u41 u42 u43 u44 u45 u46 u47 g1 d1 g8 d8 g11 g14 d14 w) (d cap : Nat) {w' : World} (hb : Below w.heap.size w w') (ho : Own w.heap.size w' (.slice (some ⟨d, 0, none⟩) E.length cap) E) (hd : w.heap.size ≤ d) (hdw : d < w'.heap.size) (n13 : b13 = false) (y8 : b8 = true) : R9 wr vb vs E b0 b1 b2 b3 b4 b5 b6 b7 b8 b9 b10 true b12 b13 b14 b15 b16 b17 u5 u6 u7 u33 u34 u35 u36 u37 u38 u39 u40 u41 u42 u43 (.slice (some ⟨d, 0, none⟩) E.length cap) u45 u46 u47 g1 d1 g8 d8 d g14 d14 w' := by
  have h0 := h
  have hz0' := h.bel.size
  have h := h.grow hb
  subst n13
  exact ⟨h.bel, h.h0, h.h1, h.h2, h.h3, h.h4, h.h5, h.h6, h.h7, h.h8, h.h9, h.h10, fun _ => ⟨cap, rfl, fun _ => ho.mono hz0', hdw, (fun e => by obtain ⟨_, _, _, _, q5, q6⟩ := h0.h1 e; exact ⟨by omega, by omega⟩), (fun e => by obtain ⟨_, _, _, _, q5, q6, _⟩ := h0.h8 e; exact ⟨by omega, by omega⟩), y8⟩, h.h12, (fun e => (by cases e)), h.h14, h.h15, h.h16, h.h17⟩
theorem R9.s13 (h : R9 wr vb vs E b0 b1 b2 b3 b4 b5 b6 b7 b8 b9 b10 b11 b12 b13 b14 b15 b16 b17 u5 u6 u7 u33 u34 u35 u36 u37 u38 u39 u40 u41 u42 u43 u44 u45 u46 u47 g1 d1 g8 d8 g11 g14 d14 w) (v : Value) {w' : World} (y11 : b11 = true) (ho : BS w' v (E ++ [7])) (hg : w.grownBy w' (some g11)) (hgr : wr.heap.size ≤ g11) (n14 : b14 = false) : R9 wr vb vs E b0 b1 b2 b3 b4 b5 b6 b7 b8 b9 b10 b11 b12 true b14 b15 b16 b17 u5 u6 u7 u33 u34 u35 u36 u37 u38 u39 u40 u41 u42 u43 u44 u45 v u47 g1 d1 g8 d8 g11 g14 d14 w' := by
  subst n14
  obtain ⟨cap, p1, p2, p3, p4, p5⟩ := h.h11 y11
  have hz := h.bel.size
  have hB : Below wr.heap.size wr w' := h.bel.grown hg hz (by intro k hk; cases hk; exact hgr)
  have hz' := hg.size
  exact ⟨hB, h.h0, fun e => by obtain ⟨q1, q2, q3, q4, q5, q6⟩ := h.h1 e; obtain ⟨r1, r2⟩ := p4 e; exact ⟨q1, q2.grown hg (by simpa using r1) (by simpa using r2), q3, q4, by omega, by omega⟩, h.h2, h.h3, h.h4, h.h5, h.h6, h.h7, fun e => by obtain ⟨q1, q2, q3, q4, q5, q6, q7⟩ := h.h8 e; obtain ⟨r1, r2⟩ := p5.1 e; exact ⟨q1, q2.grown hg (by simpa using r1) (by simpa using r2), q3, q4, by omega, by omega, q7⟩, h.h9, h.h10, fun e => ⟨cap, p1, fun e' => (by cases e'), by omega, p4, p5⟩, fun _ e' => (by cases e'), fun _ => ⟨ho, y11⟩, (fun e => (by cases e)), h.h15, h.h16, h.h17⟩
end
end Go.Proofs.Ytefhdnhhcgbbjaa
