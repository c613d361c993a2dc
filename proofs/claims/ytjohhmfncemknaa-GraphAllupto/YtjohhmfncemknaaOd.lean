/-
  Order.
-/
import Derived.Test.YtjohhmfncemknaaOr
namespace Go.Proofs.Ytjohhmfncemknaa
open Go.RowKit Go.Maps

def cI : Cd Int where
  R := fun v => match v with | .int .i64 x => some (.lit (.int .i64 x), []) | _ => none
  enc := fun x => .int .i64 x
  d := fun x => .lit (.int .i64 x)
  z := 0
  t := 72
  e := 3
  hR _ := rfl
  inv v y h := by
    split at h
    · exact ⟨_, rfl⟩
    · cases h
  inj x y h := by
    injection h with h
    injection h
  und := by kernel_rfl
  zero w := by kernel_rfl

/-- what Order works with: the graph, the graph turned about -/
structure OW (w w1 : World) (F : Nat → Prop) (g gb : Nat) (ns : List Lb) (out : Lb → List Lb) (Fb : Nat → Prop) (nsb : List Lb) (outb : Lb → List Lb) : Prop where
  gr : GR w F g ns out
  b1 : Below w.heap.size w w1
  gb : GR w1 Fb gb nsb outb
  mb : ∀ x, x ∈ nsb ↔ x ∈ ns
  ob : ∀ x y, y ∈ outb x ↔ x ∈ out y
  sz : ns.length + 2 ≤ 1000000
/-- the counts, the queue -/
structure QS (G : Nat → Prop) (mb q : Nat) (ns : List Lb) (c : Lb → Option Int) (cnt : Nat) (fl : List Lb) (wr : World) : Prop where
  map : MP cI wr mb c cnt
  que : QB G wr q fl
  heap : HO (fA fl) fl.length
  gm : ¬ G mb
  gq : ¬ G q
  new : NewG G wr
  lu : ∀ a ∈ fl, a ∈ ns
section
variable {G : Nat → Prop} {mb q cnt : Nat} {ns fl : List Lb} {c : Lb → Option Int} {wr : World}
theorem QS.later {wr' : World} (h : QS G mb q ns c cnt fl wr) (hb : Below wr.heap.size wr wr') : QS G mb q ns c cnt fl wr' :=
  ⟨h.map.later hb, h.que.later hb, h.heap, h.gm, h.gq, h.new.mono hb.size, h.lu⟩
theorem QS.congr {c' : Lb → Option Int} (h : QS G mb q ns c cnt fl wr) (hc : ∀ k, Lu k → c k = c' k) : QS G mb q ns c' cnt fl wr :=
  ⟨h.map.congr hc, h.que, h.heap, h.gm, h.gq, h.new, h.lu⟩
theorem QS.to {G' : Nat → Prop} (h : QS G mb q ns c cnt fl wr) (hG : ∀ k, k < wr.heap.size → G k → G' k) (hm : ¬ G' mb) (hq : ¬ G' q) (hn : NewG G' wr) : QS G' mb q ns c cnt fl wr := by
  obtain ⟨v, hv, ho, hg⟩ := h.que
  exact ⟨h.map, ⟨v, hv, ho, fun k hk => hG k (ho.lt hk).2 (hg k hk)⟩, h.heap, hm, hq, hn, h.lu⟩
theorem QS.ne (h : QS G mb q ns c cnt fl wr) : mb ≠ q := by
  rintro rfl
  obtain ⟨v, hv, _⟩ := h.que
  obtain ⟨D, ⟨es, clock, hb, _⟩, _⟩ := h.map
  rw [show wr.heap[mb]? = _ from hv] at hb; cases hb
/-- a count stored -/
theorem QS.store {w2 : World} {c' : Lb → Option Int} {cnt' : Nat} (h : QS G mb q ns c cnt fl wr) (hm : MP cI w2 mb c' cnt') (ho : Only [mb] wr w2) : QS G mb q ns c' cnt' fl w2 := by
  have hne := h.ne
  obtain ⟨v, hv, hov, hg⟩ := h.que
  refine ⟨hm, ⟨v, (ho.block q hv.lt (by simpa using hne.symm)).trans hv, hov.only ho (fun k hk hm => ?_), hg⟩, h.heap, h.gm, h.gq, h.new.mono ho.size, h.lu⟩
  have e : k = mb := by simpa using hm
  exact h.gm (e ▸ hg k hk)
/-- what the loops write -/
abbrev oF (G : Nat → Prop) (mb q : Nat) : Nat → Prop := fun k => k = mb ∨ k = q ∨ G k
theorem hpush_q (h : QS G mb q ns c cnt fl wr) (hlu : ∀ a ∈ ns, Lu a) (hl : fl.length + 1 ≤ 1000000) (a : Lb) (ha : a ∈ ns) :
    Calls Try.prog 34 #[.iface 75 (.pointer (some ⟨q, 0, none⟩)), .iface 31 a.val] wr fun e w' => e = .returned (.tuple #[]) ∧ ∃ fl', fl'.Perm (fl ++ [a]) ∧ QS G mb q ns c cnt fl' w' ∧ OnlyP (oF G mb q) wr w' := by
  have hne := h.ne
  refine (hpush_any h.que h.new (fun x hx => hlu x (h.lu x hx)) hl h.heap a (hlu a ha)).mono ?_
  rintro e w' ⟨rfl, l', h1, h2, h3, h4⟩
  refine ⟨rfl, l', h2, ⟨h.map.block (h4.block mb h.map.lt (fun e => ?_)), h1, h3, h.gm, h.gq, h.new.mono h4.size, fun x hx => ?_⟩, ⟨h4.os, h4.tape, h4.output, h4.size, fun k hk hn => h4.block k hk (fun e => hn (.inr e))⟩⟩
  · rcases e with e | e
    · exact hne e
    · exact h.gm e
  · rcases List.mem_append.1 (h2.mem_iff.1 hx) with h5 | h5
    · exact h.lu x h5
    · have : x = a := by simpa using h5
      rw [this]; exact ha
theorem hpop_q (h : QS G mb q ns c cnt fl wr) (hlu : ∀ a ∈ ns, Lu a) (hl : fl.length ≤ 1000000) (hne : 0 < fl.length) :
    Calls Try.prog 35 #[.iface 75 (.pointer (some ⟨q, 0, none⟩))] wr fun e w' => (∃ x, e = .returned x) ∧ ∃ fl', (fl' ++ [fA fl 0]).Perm fl ∧ QS G mb q ns c cnt fl' w' ∧ OnlyP (oF G mb q) wr w' := by
  have hnq := h.ne
  refine (hpop_any h.que h.new (fun x hx => hlu x (h.lu x hx)) hl hne h.heap).mono ?_
  rintro e w' ⟨hx, l', h1, h2, h3, h4⟩
  refine ⟨hx, l', h2, ⟨h.map.block (h4.block mb h.map.lt (fun e => ?_)), h1, h3, h.gm, h.gq, h.new.mono h4.size, fun x hx => h.lu x (h2.mem_iff.1 (by simp [hx]))⟩, ⟨h4.os, h4.tape, h4.output, h4.size, fun k hk hn => h4.block k hk (fun e => hn (.inr e))⟩⟩
  rcases e with e | e
  · exact hnq e
  · exact h.gm e
end
/-- the worlds of the loops -/
structure OR (w w1 wB w2 : World) (v : Value) (F : Nat → Prop) (g gb : Nat) (ns : List Lb) (out : Lb → List Lb) (Fb : Nat → Prop) (nsb : List Lb) (outb : Lb → List Lb) : Prop extends OW w w1 F g gb ns out Fb nsb outb where
  bB : Below w1.heap.size w1 wB
  b2 : Below wB.heap.size wB w2
  own : OwnL wB.heap.size w2 v (rs ns)
  sB : wB.heap.size = w1.heap.size + 2
/-- the loops' blocks: those of G are new -/
abbrev oG (w1 w2 : World) : Nat → Prop := fun k => k = w1.heap.size ∨ k = w1.heap.size + 1 ∨ w2.heap.size ≤ k
section
variable {w w1 wB w2 : World} {v : Value} {F : Nat → Prop} {g gb : Nat} {ns : List Lb} {out : Lb → List Lb} {Fb : Nat → Prop} {nsb : List Lb} {outb : Lb → List Lb}
theorem OR.s2 (h : OR w w1 wB w2 v F g gb ns out Fb nsb outb) : w1.heap.size + 2 ≤ w2.heap.size := by have := h.sB; have := h.b2.size; omega
theorem OR.below1 (h : OR w w1 wB w2 v F g gb ns out Fb nsb outb) {wr : World} (ho : OnlyP (oG w1 w2) w2 wr) : Below w1.heap.size w1 wr := by
  have h1 : Below w1.heap.size w1 w2 := bstep h.bB h.b2
  exact below_trans h1 (ho.below h1.size (fun k hk => by have := h.s2; rcases hk with hk | hk | hk <;> omega))
theorem OR.below (h : OR w w1 wB w2 v F g gb ns out Fb nsb outb) {wr : World} (ho : OnlyP (oG w1 w2) w2 wr) : Below w.heap.size w wr := bstep h.b1 (h.below1 ho)
theorem OR.list (h : OR w w1 wB w2 v F g gb ns out Fb nsb outb) {wr : World} (hon : OnlyP (oG w1 w2) w2 wr) : LS wr v (rs ns) := by
  rcases OL.of h.own with ⟨e, e2⟩ | ⟨q, cap, rest, e, ho⟩
  · exact .inl ⟨⟨_, _, e⟩, e2⟩
  · have h1 : wr.heap[q]? = w2.heap[q]? := hon.block q ho.lt (fun hk => by have := ho.ge; have := ho.lt; have := h.sB; rcases hk with h | h | h <;> omega)
    have ho2 : OL wB.heap.size wr q cap (rs ns) rest := ⟨h1.trans ho.blk, ho.ge, ho.cm, ho.sz⟩
    rw [e]
    exact ho2.own.rs
end
end Go.Proofs.Ytjohhmfncemknaa
