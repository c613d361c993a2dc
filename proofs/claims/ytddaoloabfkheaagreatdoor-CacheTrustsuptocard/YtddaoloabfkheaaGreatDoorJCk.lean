/-
  The document's keys in memory: held against each other, in blocks, in rows.
-/
import Derived.Test.YtddaoloabfkheaaGreatDoorJORead
import Derived.Test.YtddaoloabfkheaaGreatDoorRows3
import Derived.Test.YtddaoloabfkheaaGreatDoorJOBase
namespace Go.Proofs.YtddaoloabfkheaaGreatDoor
open Go.RowKit

/-- Text, by definition -/
def textS (m : Int) (l : List UInt8) : List UInt8 × Int × List UInt8 :=
  if l.length < 4 then ([], 11, l) else if m < num (l.take 4) then ([], 12, l) else if l.length - 4 < num (l.take 4) then ([], 11, l) else ((l.drop 4).take (num (l.take 4)), 0, l.drop (4 + num (l.take 4)))

theorem num4 (l : List UInt8) : num (l.take 4) < 4294967296 := by
  have h1 := num_lt (l.take 4)
  have h2 : 256 ^ (l.take 4).length ≤ 256 ^ 4 := Nat.pow_le_pow_right (by omega) (by simp; omega)
  omega

set_option maxRecDepth 100000 in
set_option maxHeartbeats 400000 in
theorem text_short {w : World} {g d : Nat} {l : List UInt8} (h : RDo w g d l) (m : Int) (hl : l.length < 4) :
    Calls Tryz.prog 71 #[.pointer (some ⟨g, 0, none⟩), .int .i64 m] w fun e w' => e = .returned (.tuple #[.string ⟨#[]⟩, .int .i64 11]) ∧ w' = w := by
  have H : Hid (RDo w g d l) := h
  clear h
  go_enter Tryz.func71, Tryz.ntmps71
  go_wp2_with fail
  refine (peek_no H.out _ 4 rfl hl).mono ?_
  rintro e w1 ⟨rfl, rfl⟩
  go_wp2_with fail
  go_ret2
  exact ⟨rfl, rfl⟩

set_option maxRecDepth 100000 in
set_option maxHeartbeats 400000 in
theorem text_above {w : World} {g d : Nat} {l : List UInt8} (h : RDo w g d l) (m : Int) (hl : 4 ≤ l.length) (hm : m < num (l.take 4)) :
    Calls Tryz.prog 71 #[.pointer (some ⟨g, 0, none⟩), .int .i64 m] w fun e w' => e = .returned (.tuple #[.string ⟨#[]⟩, .int .i64 12]) ∧ w' = w := by
  have H : Hid (RDo w g d l) := h
  clear h
  have h4 := num4 l
  go_enter Tryz.func71, Tryz.ntmps71
  go_wp2_with fail
  refine (peek_at H.out _ 4 rfl (by omega) hl).mono ?_
  rintro e w1 ⟨rfl, rfl⟩
  generalize num (l.take 4) = x at *
  go_wp2_with fail
  go_ret2
  exact ⟨rfl, rfl⟩

theorem slice_to (d off len cap n : Nat) (h2 : n ≤ cap) :
    ∀ (z : Int), z = (n : Int) → ∀ u : World, (Instr.slice 41 (.slice (some ⟨d, off, none⟩) len cap) none (some (.int .i64 z)) none).run Tryz.prog u = .ok (.slice (some ⟨d, off, none⟩) n cap) u := by
  obtain ⟨i0, hi, hz0, hz1, hz2⟩ := info_parts info5
  intro z hz u
  subst hz
  rw [run_slice_h (P := Tryz.prog) u 41 (some ⟨d, off, none⟩) len cap (by rw [elem27]; exact und41) .i64 n (by omega) (by omega)]
  have hsz : (sizeOf 5).run Tryz.prog u = .ok 1 u := by simp [sizeOf, typeInfo, hi, hz1]
  rw [elem27, hsz]
  simp [sliced, add_lit]

set_option maxRecDepth 100000 in
set_option maxHeartbeats 400000 in
theorem text_long {w : World} {g d : Nat} {l : List UInt8} (h : RDo w g d l) (m : Int) (hl : 4 ≤ l.length) (hm : (num (l.take 4) : Int) ≤ m) (hn : l.length - 4 < num (l.take 4)) :
    Calls Tryz.prog 71 #[.pointer (some ⟨g, 0, none⟩), .int .i64 m] w fun e w' => e = .returned (.tuple #[.string ⟨#[]⟩, .int .i64 11]) ∧ w' = w := by
  have H : Hid (RDo w g d l) := h
  obtain ⟨off, cap, hc, hf, hlc, hgs, hds, hne, hb, hcell⟩ := h
  clear hcell hgs hds hne
  have h4 := num4 l
  obtain ⟨so, hso, hsl⟩ := slice_from d off l.length cap 4 hl hlc
  have hsl' := hsl 4 rfl
  clear hso hsl
  go_enter Tryz.func71, Tryz.ntmps71
  go_wp2_with fail
  refine (peek_at H.out _ 4 rfl (by omega) hl).mono ?_
  rintro e w1 ⟨rfl, rfl⟩
  generalize num (l.take 4) = x at *
  go_wp2_with fail
  go_ret2
  exact ⟨rfl, rfl⟩

set_option maxRecDepth 100000 in
set_option maxHeartbeats 400000 in
theorem text_ok {w : World} {g d : Nat} {l : List UInt8} (h : RDo w g d l) (m : Int) (hl : 4 ≤ l.length) (hm : (num (l.take 4) : Int) ≤ m) (hn : num (l.take 4) ≤ l.length - 4) :
    Calls Tryz.prog 71 #[.pointer (some ⟨g, 0, none⟩), .int .i64 m] w fun e w' => e = .returned (.tuple #[.string ⟨((l.drop 4).take (num (l.take 4))).toArray⟩, .int .i64 0]) ∧ RDo w' g d (l.drop (4 + num (l.take 4))) ∧ w.grownBy w' (some g) := by
  have H : Hid (RDo w g d l) := h
  obtain ⟨off, cap, hc, hf, hlc, hgs, hds, hne, hb, hcell⟩ := h
  have HC : Hid (∀ i u, (bc l)[i]? = some u → w.cell? ⟨d, off + i, none⟩ = some u) := hcell
  clear hcell hgs
  have h4 := num4 l
  obtain ⟨so, hso, hsl⟩ := slice_from d off l.length cap 4 hl hlc
  have HSO : Hid (4 < l.length → so = off + 4) := hso
  have hsl' := hsl 4 rfl
  clear hso hsl
  obtain ⟨x, hxe⟩ : ∃ x, num (l.take 4) = x := ⟨_, rfl⟩
  rw [hxe] at h4 hn hm ⊢
  have HX : Hid (num (l.take 4) = x) := hxe
  clear hxe
  go_enter Tryz.func71, Tryz.ntmps71
  go_wp2_with fail
  refine (peek_at H.out _ 4 rfl (by omega) hl).mono ?_
  rintro e w1 ⟨rfl, rfl⟩
  rw [HX.out]
  obtain ⟨so2, hso2, hsl2⟩ := slice_from d so (l.length - 4) (cap - 4) x hn (by omega)
  have HSO2 : Hid (x < l.length - 4 → so2 = so + x) := hso2
  have hsl2' := hsl2 x rfl
  have hst := slice_to d so (l.length - 4) (cap - 4) x (by omega) x rfl
  clear hso2 hsl2
  have HT : Hid (RDo (w1.setCell ⟨g, 0, none⟩ (.slice (some ⟨d, so2, none⟩) (l.length - (4 + x)) (cap - (4 + x)))) g d (l.drop (4 + x)) ∧ w1.grownBy (w1.setCell ⟨g, 0, none⟩ (.slice (some ⟨d, so2, none⟩) (l.length - (4 + x)) (cap - (4 + x)))) (some g)) :=
    H.out.take hc (4 + x) (by omega) so2 (fun h => by rw [HSO2.out (by omega), HSO.out (by omega)]; omega)
  have hconv : (convert 41 9 (.slice (some ⟨d, so, none⟩) x (cap - 4))).run Tryz.prog (w1.setCell ⟨g, 0, none⟩ (.slice (some ⟨d, so2, none⟩) (l.length - 4 - x) (cap - 4 - x))) = .ok (.string ⟨((l.drop 4).take x).toArray⟩) (w1.setCell ⟨g, 0, none⟩ (.slice (some ⟨d, so2, none⟩) (l.length - 4 - x) (cap - 4 - x))) := by
    refine conv_bs (.inr ⟨d, so, cap - 4, by simp; omega, by simp; omega, by simpa [World.setCell] using hds, fun i u hu => ?_⟩)
    rw [World.cell?_of_block (w := w1) (Below.heap_setCell _ _ _ _ hne)]
    have hi : i < x := by
      have := (List.getElem?_eq_some_iff.1 hu).1
      simp [bc_length] at this
      omega
    rw [HSO.out (by omega), Nat.add_assoc]
    refine HC.out (4 + i) u ?_
    rw [← hu, bc_get, bc_get, List.getElem?_take_of_lt hi, List.getElem?_drop]
  clear hds hne
  go_wp2_with fail
  go_ret2
  refine ⟨rfl, ?_⟩
  rw [Nat.sub_sub, Nat.sub_sub]
  exact HT.out

theorem text_any' {w : World} {g d : Nat} {l : List UInt8} (h : RDo w g d l) (m : Int) :
    Calls Tryz.prog 71 #[.pointer (some ⟨g, 0, none⟩), .int .i64 m] w fun e w' => e = .returned (.tuple #[.string ⟨(textS m l).1.toArray⟩, .int .i64 (textS m l).2.1]) ∧ RDo w' g d (textS m l).2.2 ∧ w.grownBy w' (some g) := by
  by_cases hl : l.length < 4
  · have hS : textS m l = ([], 11, l) := by unfold textS; rw [if_pos hl]
    rw [hS]
    refine (text_short h m hl).mono ?_
    rintro e w' ⟨rfl, rfl⟩
    exact ⟨rfl, h, grownBy_refl _ _⟩
  · by_cases hm : m < num (l.take 4)
    · have hS : textS m l = ([], 12, l) := by unfold textS; rw [if_neg hl, if_pos hm]
      rw [hS]
      refine (text_above h m (by omega) hm).mono ?_
      rintro e w' ⟨rfl, rfl⟩
      exact ⟨rfl, h, grownBy_refl _ _⟩
    · by_cases hn : l.length - 4 < num (l.take 4)
      · have hS : textS m l = ([], 11, l) := by unfold textS; rw [if_neg hl, if_neg hm, if_pos hn]
        rw [hS]
        refine (text_long h m (by omega) (by omega) hn).mono ?_
        rintro e w' ⟨rfl, rfl⟩
        exact ⟨rfl, h, grownBy_refl _ _⟩
      · have hS : textS m l = ((l.drop 4).take (num (l.take 4)), 0, l.drop (4 + num (l.take 4))) := by unfold textS; rw [if_neg hl, if_neg hm, if_neg hn]
        rw [hS]
        exact text_ok h m (by omega) (by omega) (by omega)

end Go.Proofs.YtddaoloabfkheaaGreatDoor

namespace Go.Proofs.YtddaoloabfkheaaGreatDoor
open Go.RowKit

/-- two keys held against each other -/
def keq (a b : Lb) : Bool := decide (a = b)
/-- two labels held against each other -/
theorem stK : Tryz.prog.underlying 106 = some (.struct (Tryz.prog.fieldsOf 106)) := by kernel_rfl
theorem heldK : Tryz.prog.stoodInHeld 106 = false := by kernel_rfl
theorem guardK : Tryz.prog.eqGuardType Tryz.prog.depth 106 = false := by kernel_rfl
theorem fldsK : (Tryz.prog.fieldsOf 106).toList.map (fun f => (f.name, f.type, f.offset)) = [("Path", 9, 0), ("Text", 9, 1)] := by kernel_rfl
theorem equal_runK (w : World) (p t p' t' : List UInt8) :
    (Op.equalIn 10000 106 (.agg #[.string (bs p), .string (bs t)]) (.agg #[.string (bs p'), .string (bs t')])).run Tryz.prog w = .ok (decide ((⟨p, t⟩ : Lb) = ⟨p', t'⟩)) w := by
  rw [run_equalIn_struct w 9999 106 _ _ stK heldK]
  have h := fldsK
  revert h
  generalize (Tryz.prog.fieldsOf 106).toList = L
  intro h
  have hl : L.length = 2 := by have := congrArg List.length h; simpa using this
  obtain ⟨f0, f1, rfl⟩ : ∃ f0 f1, L = [f0, f1] := by
    rcases L with _ | ⟨f0, _ | ⟨f1, _ | ⟨f2, r⟩⟩⟩
    · simp at hl
    · simp at hl
    · exact ⟨f0, f1, rfl⟩
    · simp at hl
  · simp only [List.map_cons, List.map_nil, List.cons.injEq, Prod.mk.injEq, and_true] at h
    obtain ⟨⟨n0, t0, o0⟩, ⟨n1, t1, o1⟩⟩ := h
    have e9 : ∀ (a c : List UInt8) (w : World), (Op.equalIn 9999 9 (.string (bs a)) (.string (bs c))).run Tryz.prog w = .ok (a == c) w := fun a c w => by
      have := run_equalIn_string (P := Tryz.prog) w 9998 9 (bs a) (bs c) u9
      rw [bs_toList, bs_toList] at this; exact this
    simp only [Op.eqFields, n0, n1, t0, t1, o0, o1]
    have g0 : ("Path" : String) ≠ "_" := by decide
    have g1 : ("Text" : String) ≠ "_" := by decide
    simp only [g0, g1, ne_eq, not_false_eq_true, if_true, part, Sem.run_bind, agg9, Result.andThen_ok, Bool.false_eq_true, if_false]
    simp [e9]
    by_cases hp : p = p' <;> by_cases ht : t = t' <;> simp [hp, ht]
theorem eql_runK (w : World) (p t p' t' : List UInt8) :
    (binOp .eql 106 (.agg #[.string (bs p), .string (bs t)]) (.agg #[.string (bs p'), .string (bs t')])).run Tryz.prog w = .ok (.bool (decide ((⟨p, t⟩ : Lb) = ⟨p', t'⟩))) w := by
  rw [run_eql_struct, equal_runK]; rfl
theorem eql_runK' (w : World) (p t p' t' : List UInt8) :
    (binOp .eql 106 (.agg #[.string (bs p), .string (bs t)]) (.agg #[.string (bs p'), .string (bs t')])).run Tryz.prog w = .ok (.bool (keq ⟨p, t⟩ ⟨p', t'⟩)) w := eql_runK w p t p' t'
theorem guard_runK (w : World) (op : BinOp) (x y : Operand) (xs ys : Array Value) : (eqGuard op 106 x y (.agg xs) (.agg ys)).run Tryz.prog w = .ok () w := run_eqGuard_agg w op 106 x y xs ys guardK

/-- a label in a block of its own -/
structure RBK (w : World) (g : Nat) (l : Lb) : Prop where
  blk : w.heap[g]? = some (.cells #[.string (bs l.pkg), .string (bs l.name)] 106 (0, 0))
theorem RBK.lt {w : World} {g : Nat} {f : Lb} (h : RBK w g f) : g < w.heap.size := (Array.getElem?_eq_some_iff.1 h.blk).1
theorem RBK.below {w w' : World} {g : Nat} {f : Lb} {B : Nat} (h : RBK w g f) (hb : Below B w w') (hg : g < B) : RBK w' g f := ⟨(hb.block g hg).trans h.blk⟩
theorem RBK.later {w w' : World} {g : Nat} {f : Lb} (h : RBK w g f) (hb : Below w.heap.size w w') : RBK w' g f := h.below hb h.lt
theorem RBK.new (w : World) (f : Lb) : RBK (w.alloc (.cells #[.string (bs f.pkg), .string (bs f.name)] 106)) w.heap.size f := ⟨heap_alloc_new _ _⟩
theorem RBK.cells {w : World} {g : Nat} {f : Lb} (h : RBK w g f) : w.cell? ⟨g, 0, none⟩ = some (.string (bs f.pkg)) ∧ w.cell? ⟨g, 1, none⟩ = some (.string (bs f.name)) ∧
    w.frozen? ⟨g, 0, none⟩ = false ∧ w.frozen? ⟨g, 1, none⟩ = false := by
  have hb := h.blk
  exact ⟨by simp [World.cell?, hb], by simp [World.cell?, hb], by simp [World.frozen?, hb], by simp [World.frozen?, hb]⟩
/-- a row of the call's own -/
def OwnK (base : Nat) (w : World) (v : Value) (l : List Lb) : Prop := w.ownsRow base 106 2 v l.length (lc l)
theorem OwnK.nil (base : Nat) (w : World) : OwnK base w (.slice none 0 0) [] := World.ownsRow_nil w base 106 2
theorem OwnK.rs {base : Nat} {w : World} {v : Value} {l : List Lb} (h : OwnK base w v l) : LS w v l := by
  rcases h.2 with ⟨rfl, h0⟩ | ⟨g, cap, cur, rfl, hb, hg, hn, _⟩
  · exact .inl ⟨⟨_, _, rfl⟩, List.eq_nil_of_length_eq_zero h0⟩
  · refine .inr ⟨g, 0, cap, rfl, hn, (Array.getElem?_eq_some_iff.1 hg).1, fun i u hu => ?_⟩
    have := World.ownsRow.cells h (g := g) rfl i u hu
    rw [add_lit] at this; exact this
theorem OwnK.lt {base : Nat} {w : World} {v : Value} {l : List Lb} (h : OwnK base w v l) {k : Nat} (hk : v.ownBlock = some k) : base ≤ k ∧ k < w.heap.size := World.ownsRow.lt h k hk
theorem OwnK.only {S : List Nat} {base : Nat} {w w' : World} {v : Value} {l : List Lb} (h : OwnK base w v l) (ho : Only S w w') (hn : ∀ k, v.ownBlock = some k → k ∉ S) : OwnK base w' v l := by
  rcases h with ⟨h0, h | ⟨g, cap, cur, rfl, hb, hg, hr⟩⟩
  · exact ⟨h0, .inl h⟩
  · exact ⟨h0, .inr ⟨g, cap, cur, rfl, hb, (ho.block g (Array.getElem?_eq_some_iff.1 hg).1 (hn g rfl)).trans hg, hr⟩⟩
theorem OwnK.later {base : Nat} {w w' : World} {v : Value} {l : List Lb} (h : OwnK base w v l) (hb : Below w.heap.size w w') : OwnK base w' v l :=
  h.only (Only.of_below hb []) (by simp)
theorem OwnK.form {base : Nat} {w : World} {v : Value} {l : List Lb} (h : OwnK base w v l) : ∃ a c, v = .slice a l.length c := by
  obtain ⟨a, c, e, _⟩ := h.rs.form; exact ⟨a, c, e⟩
theorem und_K : Tryz.prog.underlying 54 = some (.slice 106) := by kernel_rfl
theorem info_K : (Tryz.prog.info? 106).map (fun i => (i.zero, i.size, i.bytes)) = some (some (.agg #[.string ⟨#[]⟩, .string ⟨#[]⟩]), 2, 32) := by kernel_rfl
theorem app_Ks {w : World} {base : Nat} {v x : Value} {l k : List Lb} (hown : OwnK base w v l) (hs : Src Tryz.prog 2 54 x k.length (lc k) w) (hb : l.length + k.length ≤ 100000000) (hbase : base ≤ w.heap.size)
    {ops : Array Oper} {rest : List Oper} {o : Oper} {a : Act} {Q : Exit → Act → World → Prop} (hgd : o.guard = none) (s y : Operand)
    (ho : o.op = .call { callee := .builtin .append, args := #[s, y], argTypes := #[54, 54] }) (hv : a.eval s = v) (hx : a.eval y = x)
    (h : ∀ v' w', OwnK base w' v' (l ++ k) → w.grownBy w' v.ownBlock → (v'.ownBlock = v.ownBlock ∨ v'.ownBlock = some w.heap.size) → wpList Tryz.prog ops Q rest (a.put o.dst v') w') :
    wpList Tryz.prog ops Q (o :: rest) a w := by
  obtain ⟨i0, hi, hz0, hz1, hz2⟩ := info_parts info_K
  refine wpList_append_src w hgd s y 54 54 ho base 106 i0 _ 2 32 und_K hi hz0 hz1 hz2 rfl v l.length (lc l) hv hown x k.length (lc k) hx hs (by simp only [maxLen]; omega) (by omega) hbase ?_
  intro v' w' h1 h2 h3
  exact h v' w' (by unfold OwnK; rw [lc_append, List.length_append]; exact h1) h2 h3
theorem src_K (w : World) (t : Lb) : Src Tryz.prog 2 54 (.slice (some ⟨w.heap.size, 0, none⟩) 1 1) [t].length (lc [t]) (w.alloc (.cells #[.string (bs t.pkg), .string (bs t.name)] 106)) := by
  refine Src.ofSlice _ und_K ⟨w.heap.size, 0, none⟩ 1 1 (lc [t]) (by simp [lc_length]) ?_ (lc_one _)
  exact World.news_of_block (heap_alloc_new w _)
theorem app_K {w : World} {base : Nat} {v : Value} {l : List Lb} (t : Lb) (hown : OwnK base w v l) (hb : l.length + 1 ≤ 100000000) (hbase : base ≤ w.heap.size)
    {ops : Array Oper} {rest : List Oper} {o : Oper} {a : Act} {Q : Exit → Act → World → Prop} (hgd : o.guard = none) (s y : Operand)
    (ho : o.op = .call { callee := .builtin .append, args := #[s, y], argTypes := #[54, 54] }) (hv : a.eval s = v) (hx : a.eval y = .slice (some ⟨w.heap.size, 0, none⟩) 1 1)
    (h : ∀ v' w', OwnK base w' v' (l ++ [t]) → Below base w w' → Only v.ownBlock.toList w w' → base ≤ w'.heap.size → (v'.ownBlock = v.ownBlock ∨ ∃ k, v'.ownBlock = some k ∧ w.heap.size ≤ k) → wpList Tryz.prog ops Q rest (a.put o.dst v') w') :
    wpList Tryz.prog ops Q (o :: rest) a (w.alloc (.cells #[.string (bs t.pkg), .string (bs t.name)] 106)) := by
  refine app_Ks (base := base) (l := l) (k := [t]) (World.ownsRow.alloc hown _) (src_K w t) (by simpa using hb) (by simp; omega) hgd s y ho hv hx ?_
  intro v' w' h1 h2 h3
  have hlt := World.ownsRow.lt hown
  have hB : Below base w w' := ((Below.refl _ _).alloc hbase _).grown h2 (by simp; omega) (fun k hk => (hlt k hk).1)
  refine h v' w' h1 hB (only_grown h2) (Nat.le_trans hbase hB.size) ?_
  rcases h3 with h3 | h3
  · exact .inl h3
  · exact .inr ⟨_, h3, by simp⟩


/-! ### frames -/
structure OnlyP (F : Nat → Prop) (w w' : World) : Prop where
  os : w'.os = w.os
  tape : w'.tape = w.tape
  output : w'.output = w.output
  size : w.heap.size ≤ w'.heap.size
  block : ∀ k, k < w.heap.size → ¬ F k → w'.heap[k]? = w.heap[k]?
theorem OnlyP.refl (F : Nat → Prop) (w : World) : OnlyP F w w := ⟨rfl, rfl, rfl, Nat.le_refl _, fun _ _ _ => rfl⟩
theorem OnlyP.of_below {a b : World} (h : Below a.heap.size a b) (F : Nat → Prop) : OnlyP F a b := ⟨h.os, h.tape, h.output, h.size, fun i hi _ => h.block i hi⟩
theorem OnlyP.of_only {S : List Nat} {F : Nat → Prop} {a b : World} (h : Only S a b) (hF : ∀ k, k ∈ S → k < a.heap.size → F k) : OnlyP F a b := ⟨h.os, h.tape, h.output, h.size, fun i hi hn => h.block i hi (fun e => hn (hF i e hi))⟩
theorem OnlyP.trans {F G : Nat → Prop} {a b c : World} (h : OnlyP F a b) (k : OnlyP G b c) (hG : ∀ i, i < a.heap.size → G i → F i) : OnlyP F a c :=
  ⟨k.os.trans h.os, k.tape.trans h.tape, k.output.trans h.output, Nat.le_trans h.size k.size, fun i hi hn => (k.block i (Nat.lt_of_lt_of_le hi h.size) (fun e => hn (hG i hi e))).trans (h.block i hi hn)⟩
theorem OnlyP.below {F : Nat → Prop} {a b : World} {B : Nat} (h : OnlyP F a b) (hB : B ≤ a.heap.size) (hF : ∀ k, F k → B ≤ k) : Below B a b :=
  ⟨h.os, h.tape, h.output, h.size, fun i hi => h.block i (by omega) (fun e => by have := hF i e; omega)⟩
theorem OnlyP.mono {F G : Nat → Prop} {w w' : World} (h : OnlyP F w w') (hF : ∀ k, F k → G k) : OnlyP G w w' := ⟨h.os, h.tape, h.output, h.size, fun k hk hn => h.block k hk (fun hf => hn (hF k hf))⟩
/-- F, and what is new since w -/
abbrev nwF (F : Nat → Prop) (w w' : World) : Nat → Prop := fun k => F k ∨ w.heap.size ≤ k ∧ k < w'.heap.size
theorem LS.stay {w w' : World} {v : Value} {l : List Lb} (h : LS w v l) (hz : w.heap.size ≤ w'.heap.size) (hs : ∀ k, v.ownBlock = some k → w'.heap[k]? = w.heap[k]?) : LS w' v l := by
  rcases h with h | ⟨b, off, cap, rfl, hc, hlt, hcell⟩
  · exact .inl h
  · refine .inr ⟨b, off, cap, rfl, hc, Nat.lt_of_lt_of_le hlt hz, fun i u hu => ?_⟩
    have e := hs b rfl
    have := hcell i u hu
    unfold World.cell? at this ⊢
    simp only [e]
    exact this

/-! ### the document's cache -/
structure RC (w : World) (F : Nat → Prop) (g : Nat) (K : List Lb) : Prop where
  it : ∃ v, w.heap[g]? = some (.cells #[v] 56 (0, 0)) ∧ LS w v K ∧ (∀ k, v.ownBlock = some k → F k)
  own : F g
  lt : ∀ k, F k → k < w.heap.size
  ok : OKK K
section
variable {w w' : World} {F : Nat → Prop} {g : Nat} {K : List Lb}
theorem RC.stay (h : RC w F g K) (hz : w.heap.size ≤ w'.heap.size) (hs : ∀ k, F k → w'.heap[k]? = w.heap[k]?) : RC w' F g K := by
  obtain ⟨⟨v, h1, h2, h3⟩, own, lt, ok⟩ := h
  exact ⟨⟨v, (hs g own).trans h1, h2.stay hz (fun k hk => hs k (h3 k hk)), h3⟩, own, fun k hk => Nat.lt_of_lt_of_le (lt k hk) hz, ok⟩
theorem RC.later (h : RC w F g K) (hb : Below w.heap.size w w') : RC w' F g K := h.stay hb.size (fun k hk => hb.block k (h.lt k hk))
theorem RC.only {G : Nat → Prop} (h : RC w F g K) (hb : OnlyP G w w') (hd : ∀ k, F k → ¬ G k) : RC w' F g K := h.stay hb.size (fun k hk => hb.block k (h.lt k hk) (hd k hk))
theorem RC.wider {F' : Nat → Prop} (h : RC w F g K) (hF : ∀ k, F k → F' k) (hl : ∀ k, F' k → k < w.heap.size) : RC w F' g K := by
  obtain ⟨⟨v, h1, h2, h3⟩, own, lt, ok⟩ := h
  exact ⟨⟨v, h1, h2, fun k hk => hF k (h3 k hk)⟩, hF g own, hl, ok⟩
theorem RC.glt (h : RC w F g K) : g < w.heap.size := h.lt g h.own
theorem RC.row (h : RC w F g K) : ∃ a c, w.cell? ⟨g, 0, none⟩ = some (.slice a K.length c) ∧ w.frozen? ⟨g, 0, none⟩ = false ∧ LS w (.slice a K.length c) K := by
  obtain ⟨⟨v, h1, h2, h3⟩, _⟩ := h
  obtain ⟨a, c, e, _⟩ := h2.form
  subst e
  exact ⟨a, c, by simp [World.cell?, h1], by simp [World.frozen?, h1], h2⟩
theorem RC.new (w : World) : RC (w.alloc (.cells #[.slice none 0 0] 56)) (fun k => k = w.heap.size) w.heap.size [] :=
  ⟨⟨.slice none 0 0, heap_alloc_new _ _, LS_nil _, (fun k hk => by cases hk)⟩, rfl, fun k hk => by subst hk; simp, OKK.nil⟩
end
end Go.Proofs.YtddaoloabfkheaaGreatDoor
