/-
  The library's cuts: at a colon; a prefix, a suffix.
  Labels in memory; Valid, Print, checked, Parse, In.
  Labels compared.
-/
import Derived.Test.YtclbnjfmipifnaaJBase
import Derived.Test.YtclbnjfmipifnaaSets
import Derived.Test.YtclbnjfmipifnaaLab
import Derived.Laws.ResultCell
import Derived.Laws.StructEq
import Derived.Deep.RegionHeld3
import Derived.BigQuiet
namespace Go.Proofs.Ytclbnjfmipifnaa
open Go.RowKit

theorem Own.only {S : List Nat} {base : Nat} {w w' : World} {v : Value} {l : List (List UInt8)} (h : Own base w v l) (ho : Only S w w') (hn : ∀ k, v.ownBlock = some k → k ∉ S) : Own base w' v l := by
  refine ⟨h.1, ?_⟩
  rcases h.2 with ⟨rfl, h0⟩ | ⟨g, cap, cur, rfl, hb, hg, hr⟩
  · exact .inl ⟨rfl, h0⟩
  · exact .inr ⟨g, cap, cur, rfl, hb, by rw [ho.block g (Array.getElem?_eq_some_iff.1 hg).1 (hn g rfl)]; exact hg, hr⟩
theorem Own.later {base : Nat} {w w' : World} {v : Value} {l : List (List UInt8)} (h : Own base w v l) (hb : Below w.heap.size w w') : Own base w' v l :=
  h.only (Only.of_below hb []) (by simp)
theorem Own.lt {base : Nat} {w : World} {v : Value} {l : List (List UInt8)} (h : Own base w v l) {k : Nat} (hk : v.ownBlock = some k) : base ≤ k ∧ k < w.heap.size := World.ownsRow.lt h k hk

theorem cell_one_str (w : World) (u : Value) (k : TypeId) : ∀ j x, [u][j]? = some x → (w.alloc (.cells #[u] k)).cell? ((⟨w.heap.size, 0, none⟩ : Addr).add j) = some x := by
  intro j x hx
  cases j with
  | zero => simp at hx; subst hx; rw [add_lit]; simp
  | succ j => simp at hx
theorem src_one (w : World) (p : List UInt8) : Src Try.prog 1 93 (.slice (some ⟨w.heap.size, 0, none⟩) 1 1) [p].length (sc [p]) (w.alloc (.cells #[.string (bs p)] 9)) :=
  Src.ofSlice _ und51 ⟨w.heap.size, 0, none⟩ 1 1 (sc [p]) (by simp [sc]) (cell_one_str w _ 9) (sc_one _)

/-- append of one text onto texts of the call's own -/
theorem app_one {w : World} {base : Nat} {v : Value} {l : List (List UInt8)} (p : List UInt8) (hown : Own base w v l) (hb : l.length + 1 ≤ 8796093022208) (hbase : base ≤ w.heap.size)
    {ops : Array Oper} {rest : List Oper} {o : Oper} {a : Act} {Q : Exit → Act → World → Prop} (hgd : o.guard = none) (s y : Operand)
    (ho : o.op = .call { callee := .builtin .append, args := #[s, y], argTypes := #[93, 93] }) (hv : a.eval s = v) (hx : a.eval y = .slice (some ⟨w.heap.size, 0, none⟩) 1 1)
    (h : ∀ v' w', Own base w' v' (l ++ [p]) → Below base w w' → base ≤ w'.heap.size → w.grownBy w' v.ownBlock → (v'.ownBlock = v.ownBlock ∨ v'.ownBlock = some (w.heap.size + 1)) → wpList Try.prog ops Q rest (a.put o.dst v') w') :
    wpList Try.prog ops Q (o :: rest) a (w.alloc (.cells #[.string (bs p)] 9)) := by
  refine app_strs (base := base) (l := l) (k := [p]) (World.ownsRow.alloc hown _) (src_one w p) (by simpa using hb) (by simp; omega) hgd s y ho hv hx ?_
  intro v' w' h1 h2 h3
  have hlt := World.ownsRow.lt hown
  have hB : Below base w w' := ((Below.refl _ _).alloc hbase _).grown h2 (by simp; omega) (fun k hk => (hlt k hk).1)
  refine h v' w' h1 hB (Nat.le_trans hbase hB.size) ((World.grownBy_alloc w _ _).trans h2) (by simpa using h3)

theorem SS.form {w : World} {v : Value} {L : List (List UInt8)} (h : SS w v L) : ∃ a c, v = .slice a L.length c ∧ (∀ k, (hk : k < L.length) → ∃ b off, a = some ⟨b, off, none⟩ ∧ b < w.heap.size ∧ w.cell? ⟨b, off + k, none⟩ = some (.string (bs L[k]))) := by
  rcases h with ⟨⟨a, c, rfl⟩, rfl⟩ | ⟨b, off, cap, rfl, hc, hlt, hcell⟩
  · exact ⟨a, c, rfl, fun k hk => by simp at hk⟩
  · exact ⟨_, _, rfl, fun k hk => ⟨b, off, rfl, hlt, hcell k _ (by simp [sc_get, hk])⟩⟩

theorem drop_same {α : Type} [DecidableEq α] {A B : List α} {k : Nat} (ha : k < A.length) (hb : k < B.length) : decide (A.drop k = B.drop k) = (decide (A[k] = B[k]) && decide (A.drop (k + 1) = B.drop (k + 1))) := by
  have e1 := List.drop_eq_getElem_cons ha
  have e2 := List.drop_eq_getElem_cons hb
  rw [Bool.eq_iff_iff]
  simp only [Bool.and_eq_true, decide_eq_true_eq]
  rw [e1, e2, List.cons.injEq]

/-- a list of texts that a machine has -/
structure Sm (l : List (List UInt8)) : Prop where
  len : l.length ≤ 4000000
  each : ∀ x ∈ l, x.length ≤ 140737488355328
theorem Sm.norm {l : List (List UInt8)} (h : Sm l) : Sm (norm l) := ⟨Nat.le_trans (norm_len l) h.len, fun x hx => h.each x ((mem_norm x l).1 hx)⟩
theorem Sm.at {l : List (List UInt8)} (h : Sm l) {k : Nat} (hk : k < l.length) : (l[k]'hk).length ≤ 140737488355328 := h.each _ (List.getElem_mem _)
theorem bstep {a b c : World} (h : Below a.heap.size a b) (k : Below b.heap.size b c) : Below a.heap.size a c := below_trans h (below_mono k h.size)
theorem Laid.below' {w w' : World} (h : Laid w w') : Below w.heap.size w w' := h.below

end Go.Proofs.Ytclbnjfmipifnaa

namespace Go.Proofs.Ytclbnjfmipifnaa
open Go.RowKit

set_option maxHeartbeats 1000000 in
set_option maxRecDepth 100000 in
theorem c_indexByte_any (l : List UInt8) (w : World) :
    Calls Try.prog 89 #[.string (bs l), .int .u8 58] w fun e w' => e = .returned (.int .i64 (Lib.indexByte l 58)) ∧ w' = w := by
  go_enter Try.func89, Try.ntmps89
  go_wp2
  rw [run_callFunc_extern Try.func93 (by kernel_rfl) (by kernel_rfl) (by kernel_rfl) (e := Extern.BytealgIndexByte.indexByte) (by kernel_rfl), Lib.run_indexByteString]
  simp only [Result.andThen]
  rw [Oper.upon_value]
  go_wp2
  go_ret
  exact ⟨rfl, rfl⟩

set_option maxHeartbeats 2000000 in
set_option maxRecDepth 100000 in
theorem c_index_any (l : List UInt8) (w : World) :
    Calls Try.prog 88 #[.string (bs l), .string (bs [58])] w fun e w' => e = .returned (.int .i64 (Lib.indexByte l 58)) ∧ w' = w := by
  have hz : (bs [58]).size = 1 := rfl
  by_cases hl : l = [58]
  · subst hl
    have he : ((bs [58]).toList == (bs [58]).toList) = true := by simp
    go_enter Try.func88, Try.ntmps88
    go_wp2_with fail
    go_ret
    exact ⟨rfl, rfl⟩
  · have he : ((bs [58]).toList == (bs l).toList) = false := by rw [bs_toList, bs_toList, beq_eq_false_iff_ne]; exact fun e => hl e.symm
    go_enter Try.func88, Try.ntmps88
    go_wp2_with fail
    refine (c_indexByte_any _ _).mono ?_
    rintro e w1 ⟨rfl, rfl⟩
    go_wp2_with fail
    go_ret
    exact ⟨rfl, rfl⟩

theorem c_extract_hd (l : List UInt8) : (bs l).extract 0 (chd l).length = bs (chd l) := by
  rw [bs_extract]; congr 1; simp [← c_hd_take l]
theorem c_extract_tl (l : List UInt8) (h : csl l = true) : (bs l).extract ((chd l).length + 1) (bs l).size = bs (ctl l) := by
  rw [bs_extract, ← c_tl_drop l h]; congr 1
  rw [bs_size]; have := c_hd_len l h; exact List.take_of_length_le (by omega)

set_option maxHeartbeats 2000000 in
set_option maxRecDepth 100000 in
theorem c_cut0_any (l : List UInt8) (w : World) (hm : l.length ≤ 9223372036854775807) :
    Calls Try.prog 87 #[.string (bs l), .string (bs [58])] w fun e w' => e = .returned (.tuple #[.string (bs (chd l)), .string (bs (ctl l)), .bool (csl l)]) ∧ ∃ n, w' = w.drewN n := by
  have hz : (bs [58]).size = 1 := rfl
  have hx := c_indexByte_eq l
  cases h : csl l
  · rw [h] at hx
    simp only [Bool.false_eq_true, if_false] at hx
    rw [c_hd_all l h, c_tl_none l h]
    go_enter Try.func87, Try.ntmps87
    go_wp2_with fail
    refine (c_index_any _ _).mono ?_
    rintro e w1 ⟨rfl, rfl⟩
    rw [hx]
    go_wp2_with fail
    go_ret3
    exact ⟨rfl, 0, rfl⟩
  · rw [h] at hx
    simp only [if_true] at hx
    have hlen := c_hd_len l h
    have hsz : (bs l).size = l.length := rfl
    obtain ⟨n, hn⟩ : ∃ n, (chd l).length = n := ⟨_, rfl⟩
    have e1 := c_extract_hd l
    have e2 := c_extract_tl l h
    rw [hn] at e1 e2 hx hlen
    rw [hsz] at e2
    have E1 : Hid ((bs l).extract 0 n = bs (chd l)) := e1
    have E2 : Hid ((bs l).extract (n + 1) l.length = bs (ctl l)) := e2
    clear e1 e2
    have c1 : (0 : Int) ≤ ↑n := by omega
    have c2 : (n : Int) ≤ (l.length : Int) := by omega
    have c3 : (0 : Int) ≤ ↑n + 1 := by omega
    have c4 : (n : Int) + 1 ≤ (l.length : Int) := by omega
    go_enter Try.func87, Try.ntmps87
    go_wp2_with fail
    refine (c_index_any _ _).mono ?_
    rintro e w1 ⟨rfl, rfl⟩
    rw [hx]
    go_wp2_with fail
    go_region
    go_wp2_with fail
    go_ret3
    refine ⟨?_, 1, rfl⟩
    rw [← E1.out, ← E2.out]; rfl

set_option maxHeartbeats 1000000 in
theorem c_cut_any (l : List UInt8) (w : World) (hm : l.length ≤ 9223372036854775807) :
    Calls Try.prog 86 #[.string (bs l), .string (bs [58])] w fun e w' => e = .returned (.tuple #[.string (bs (chd l)), .string (bs (ctl l)), .bool (csl l)]) ∧ ∃ n, w' = w.drewN n := by
  have HM : Hid (l.length ≤ 9223372036854775807) := hm
  clear hm
  go_enter Try.func86, Try.ntmps86
  go_wp2_with fail
  refine (c_cut0_any _ _ HM.out).mono ?_
  rintro e w1 ⟨rfl, n, rfl⟩
  go_wp2_with fail
  go_ret3
  exact ⟨rfl, n, rfl⟩


theorem take_eq_iff (p l : List UInt8) : (l.take p.length = p ∧ p.length ≤ l.length) ↔ p.isPrefixOf l = true := by
  rw [List.isPrefixOf_iff_prefix, List.prefix_iff_eq_take]
  constructor
  · rintro ⟨h, _⟩; exact h.symm
  · intro h; exact ⟨h.symm, by have := congrArg List.length h; simp at this; omega⟩
theorem beq_bs (a b : List UInt8) : ((bs a).toList == (bs b).toList) = decide (a = b) := by
  rw [bs_toList, bs_toList]
  by_cases h : a = b
  · simp [h]
  · simp [h]

end Go.Proofs.Ytclbnjfmipifnaa

namespace Go.Proofs.Ytclbnjfmipifnaa
open Go.RowKit

def Lb.val (l : Lb) : Value := .agg #[.string (bs l.pkg), .string (bs l.name)]
/-- two labels held against each other -/
theorem st23 : Try.prog.underlying 35 = some (.struct (Try.prog.fieldsOf 35)) := by kernel_rfl
theorem held23 : Try.prog.stoodInHeld 35 = false := by kernel_rfl
theorem guard23 : Try.prog.eqGuardType Try.prog.depth 35 = false := by kernel_rfl
theorem flds23 : (Try.prog.fieldsOf 35).toList.map (fun f => (f.name, f.type, f.offset)) = [("Pkg", 9, 0), ("Name", 9, 1)] := by kernel_rfl
theorem u9 : Try.prog.underlying 9 = some .string := by kernel_rfl
theorem agg9 (w : World) : (isAgg 9).run Try.prog w = .ok false w := by simp [isAgg, run_underlying u9]
theorem equal_run (w : World) (p t p' t' : List UInt8) :
    (Op.equalIn 10000 35 (.agg #[.string (bs p), .string (bs t)]) (.agg #[.string (bs p'), .string (bs t')])).run Try.prog w = .ok (decide ((⟨p, t⟩ : Lb) = ⟨p', t'⟩)) w := by
  rw [run_equalIn_struct w 9999 35 _ _ st23 held23]
  have h := flds23
  revert h
  generalize (Try.prog.fieldsOf 35).toList = L
  intro h
  have hl : L.length = 2 := by have := congrArg List.length h; simpa using this
  obtain ⟨f0, f1, rfl⟩ : ∃ f0 f1, L = [f0, f1] := by
    rcases L with _ | ⟨f0, _ | ⟨f1, _ | ⟨f2, r⟩⟩⟩
    · simp at hl
    · simp at hl
    · exact ⟨f0, f1, rfl⟩
    · simp at hl
  · simp only [List.map_cons, List.map_nil, List.cons.injEq, Prod.mk.injEq, and_true] at h
    obtain ⟨⟨n0, t0, o0⟩, ⟨n1, t1, o1⟩⟩ := h
    have e9 : ∀ (a c : List UInt8) (w : World), (Op.equalIn 9999 9 (.string (bs a)) (.string (bs c))).run Try.prog w = .ok (a == c) w := fun a c w => by
      have := run_equalIn_string (P := Try.prog) w 9998 9 (bs a) (bs c) u9
      rw [bs_toList, bs_toList] at this; exact this
    simp only [Op.eqFields, n0, n1, t0, t1, o0, o1]
    have g0 : ("Pkg" : String) ≠ "_" := by decide
    have g1 : ("Name" : String) ≠ "_" := by decide
    simp only [g0, g1, ne_eq, not_false_eq_true, if_true, part, Sem.run_bind, agg9, Result.andThen_ok, Bool.false_eq_true, if_false]
    simp [e9]
    by_cases hp : p = p' <;> by_cases ht : t = t' <;> simp [hp, ht]
theorem eql_run (w : World) (p t p' t' : List UInt8) :
    (binOp .eql 35 (.agg #[.string (bs p), .string (bs t)]) (.agg #[.string (bs p'), .string (bs t')])).run Try.prog w = .ok (.bool (decide ((⟨p, t⟩ : Lb) = ⟨p', t'⟩))) w := by
  rw [run_eql_struct, equal_run]; rfl
theorem guard_run (w : World) (op : BinOp) (x y : Operand) (xs ys : Array Value) : (eqGuard op 35 x y (.agg xs) (.agg ys)).run Try.prog w = .ok () w := run_eqGuard_agg w op 35 x y xs ys guard23

theorem results_ct {P : Program} {fn : Func} {p u : Tmp} {ty : TypeId} (h : fn.results = #[.cell p ty, .tmp u]) (tmps : Array Value) (w : World) (g : Nat) (t : TypeId) (cs : Array Value) (fr : Nat × Nat) (d : TypeDesc)
    (hp : tmps.getD p undef = .pointer (some ⟨g, 0, none⟩)) (hg : w.heap[g]? = some (.cells cs t fr))
    (hu : P.underlying ty = some d) (hd : (match d with | .struct _ | .array _ _ => true | _ => false) = true) (hi : (P.info? ty).map (·.size) = some cs.size) :
    (results fn tmps).run P w = .ok (.tuple #[.agg cs, tmps.getD u undef]) w := by
  rw [results_cell_tmp h]
  rw [hp]
  simp only [asAddr, Sem.run_pure, Result.andThen_ok]
  rw [run_loadVar_row w g t ty cs fr d hg hu hd hi]
  rfl
theorem heap_setCell (w : World) (g i : Nat) (v : Value) {cur : Array Value} {e : TypeId} {fr : Nat × Nat} (h : w.heap[g]? = some (.cells cur e fr)) :
    (w.setCell ⟨g, i, none⟩ v).heap[g]? = some (.cells (cur.setIfInBounds i v) e fr) := by
  simp [World.setCell, Array.getElem?_modify, h]
/-- a label in a block of its own -/
structure RB (w : World) (g : Nat) (l : Lb) : Prop where
  blk : w.heap[g]? = some (.cells #[.string (bs l.pkg), .string (bs l.name)] 35 (0, 0))
theorem RB.lt {w : World} {g : Nat} {f : Lb} (h : RB w g f) : g < w.heap.size := (Array.getElem?_eq_some_iff.1 h.blk).1
theorem RB.below {w w' : World} {g : Nat} {f : Lb} {B : Nat} (h : RB w g f) (hb : Below B w w') (hg : g < B) : RB w' g f := ⟨(hb.block g hg).trans h.blk⟩
theorem RB.later {w w' : World} {g : Nat} {f : Lb} (h : RB w g f) (hb : Below w.heap.size w w') : RB w' g f := h.below hb h.lt
theorem RB.new (w : World) (f : Lb) : RB (w.alloc (.cells #[.string (bs f.pkg), .string (bs f.name)] 35)) w.heap.size f := ⟨heap_alloc_new _ _⟩
theorem RB.cells {w : World} {g : Nat} {f : Lb} (h : RB w g f) : w.cell? ⟨g, 0, none⟩ = some (.string (bs f.pkg)) ∧ w.cell? ⟨g, 1, none⟩ = some (.string (bs f.name)) ∧
    w.frozen? ⟨g, 0, none⟩ = false ∧ w.frozen? ⟨g, 1, none⟩ = false := by
  have hb := h.blk
  exact ⟨by simp [World.cell?, hb], by simp [World.cell?, hb], by simp [World.frozen?, hb], by simp [World.frozen?, hb]⟩
theorem RB.set {w : World} {g : Nat} {f : Lb} (h : RB w g f) (k : Lb) :
    RB ((w.setCell ⟨g, 0, none⟩ (.string (bs k.pkg))).setCell ⟨g, 1, none⟩ (.string (bs k.name))) g k := by
  refine ⟨?_⟩
  rw [heap_setCell _ _ _ _ (heap_setCell _ _ _ _ h.blk)]
  simp
theorem bset2 {B : Nat} {w w' : World} {g : Nat} (hb : Below B w w') (hg : B ≤ g) (a b : Value) :
    Below B w ((w'.setCell ⟨g, 0, none⟩ a).setCell ⟨g, 1, none⟩ b) :=
  (hb.setCell (p := ⟨g, 0, none⟩) hg _).setCell (p := ⟨g, 1, none⟩) hg _

structure GW (w : World) where
  it : World
  below : Below w.heap.size w it
theorem gw_ne (w : World) : Nonempty (GW w) := ⟨⟨w, Below.refl _ _⟩⟩
/-- a region that draws its order, whose operations read and whose callees grow memory -/
theorem wp_region_grow {id : Nat} {Q : Exit → Act → World → Prop} {a : Act} {w : World} {l : List Oper} (hm : Try.prog.follows .mixedOrders = true) (hB : Region.lexB .any l.toArray = true)
    (h : wpQuiet Try.prog l.toArray (fun w' => ∃ X : GW w, w' = X.it) (fun a' => ∀ w', (∃ X : GW w, w' = X.it) → Q .normal a' w') l a) : (Code.region id l.toArray true).wp Try.prog Q a w :=
  wp_region_quiet (C := fun w' => ∃ X : GW w, w' = X.it) hm hB ⟨⟨w.drew, (Below.refl _ _).drew⟩, rfl⟩ (by simpa using h)
theorem GW.cell {w : World} (X : GW w) {p : Addr} {v : Value} (hp : p.block < w.heap.size) (h : w.cell? p = some v) : X.it.cell? p = some v := by rw [X.below.cell hp]; exact h
theorem gw_of {w : World} {f : Nat} {args : Array Value} {v : Value} (h : ∀ W : World, Calls Try.prog f args W fun e w' => e = .returned v ∧ Below W.heap.size W w') (X : GW w) :
    Calls Try.prog f args X.it fun e w' => e = .returned v ∧ ∃ Y : GW w, w' = Y.it :=
  (h X.it).mono fun _ w' ⟨he, hl⟩ => ⟨he, ⟨w', bstep X.below hl⟩, rfl⟩
theorem bd (w : World) (n : Nat) : Below w.heap.size w (w.drewN n) := ⟨rfl, rfl, rfl, Nat.le_refl _, fun _ _ => rfl⟩

/-- every text of it is short enough -/
structure Lm (l : Lb) : Prop where
  pkg : l.pkg.length ≤ 1125899906842624
  name : l.name.length ≤ 1125899906842624

theorem bs_app (a b : List UInt8) : bs a ++ bs b = bs (a ++ b) := by
  apply ByteArray.ext
  simp [bs, ByteArray.data_append]
def pair (x : Lb × Int) : Value := .tuple #[x.1.val, .int .i64 x.2]
end Go.Proofs.Ytclbnjfmipifnaa

namespace Go.Proofs.Ytclbnjfmipifnaa
open Go.RowKit

set_option maxHeartbeats 1000000 in
theorem or_any {W : World} {g : Nat} {x y : Int} (h0 : W.cell? ⟨g, 0, none⟩ = some (.int .i64 x)) (h1 : W.cell? ⟨g, 1, none⟩ = some (.int .i64 y)) : Calls Try.prog 48 #[.slice (some ⟨g, 0, none⟩) 2 2] W fun e w' => e = .returned (.int .i64 (if x = 0 then y else x)) ∧ w' = W := by
  obtain ⟨r, hr⟩ : ∃ r, (if x = 0 then y else x) = r := ⟨_, rfl⟩
  rw [hr]
  have HR : Hid ((if x = 0 then y else x) = r) := hr
  clear hr
  go_enter Try.func48, Try.ntmps48
  go_wp2_with fail
  go_loop [8] (fun i => ∃ k : Nat, k ≤ 2 ∧ i = .int .i64 k ∧ (1 ≤ k → x = 0) ∧ (2 ≤ k → y = 0)) (fun i => 2 - (intOf i).toNat)
  case atStart => exact ⟨0, by omega, rfl, fun h => absurd h (by omega), fun h => absurd h (by omega)⟩
  case round =>
    obtain ⟨k, hk, rfl, hx, hy⟩ := hrel
    have hr : k = 0 ∨ k = 1 ∨ k = 2 := by omega
    rcases hr with rfl | rfl | rfl
    · clear hx hy hk
      by_cases hx : x = 0
      · have hx' : (x == 0) = true := by simpa using hx
        have HX : Hid (x = 0) := hx
        clear hx
        go_wp2_with fail
        go_round
        case rel => exact ⟨1, by omega, rfl, fun _ => HX.out, fun h => absurd h (by omega)⟩
        case measure => simp only [intOf]; omega
      · have hx' : (x == 0) = false := by simpa using hx
        have HX : Hid (¬ x = 0) := hx
        clear hx
        go_wp2_with fail
        go_ret
        exact ⟨by rw [← HR.out, if_neg HX.out]; rfl, rfl⟩
    · have HX : Hid (x = 0) := hx (by omega)
      clear hx hy hk
      by_cases hx : y = 0
      · have hx' : (y == 0) = true := by simpa using hx
        have HY : Hid (y = 0) := hx
        clear hx
        go_wp2_with fail
        go_round
        case rel => exact ⟨2, by omega, rfl, fun _ => HX.out, fun _ => HY.out⟩
        case measure => simp only [intOf]; omega
      · have hx' : (y == 0) = false := by simpa using hx
        clear hx
        go_wp2_with fail
        go_ret
        exact ⟨by rw [← HR.out, if_pos HX.out]; rfl, rfl⟩
    · have HX : Hid (x = 0) := hx (by omega)
      have HY : Hid (y = 0) := hy (by omega)
      clear hx hy hk
      go_wp2_with fail
      go_ret
      exact ⟨by rw [← HR.out, if_pos HX.out, HY.out]; rfl, rfl⟩
theorem or_new (x y : Int) (w : World) : Calls Try.prog 48 #[.slice (some ⟨w.heap.size, 0, none⟩) 2 2] (w.alloc (.cells #[.int .i64 x, .int .i64 y] 3)) fun e w' => e = .returned (.int .i64 (if x = 0 then y else x)) ∧ w' = w.alloc (.cells #[.int .i64 x, .int .i64 y] 3) :=
  or_any (by simp) (by simp)

theorem cells4 {w0 w1 : World} {g h : Nat} {a b c d : Value} (hb : Below w0.heap.size w0 w1) (hg : g < w0.heap.size) (hh : h < w0.heap.size) (c0 : w0.cell? ⟨g, 0, none⟩ = some a) (c1 : w0.cell? ⟨g, 1, none⟩ = some b) (d0 : w0.cell? ⟨h, 0, none⟩ = some c) (d1 : w0.cell? ⟨h, 1, none⟩ = some d) :
    w1.cell? ⟨g, 0, none⟩ = some a ∧ w1.cell? ⟨g, 1, none⟩ = some b ∧ w1.cell? ⟨h, 0, none⟩ = some c ∧ w1.cell? ⟨h, 1, none⟩ = some d :=
  ⟨(hb.cell (p := ⟨g, 0, none⟩) hg).trans c0, (hb.cell (p := ⟨g, 1, none⟩) hg).trans c1, (hb.cell (p := ⟨h, 0, none⟩) hh).trans d0, (hb.cell (p := ⟨h, 1, none⟩) hh).trans d1⟩
set_option maxHeartbeats 4000000 in
theorem lcmp_any (a b : Lb) (w : World) (ha : Lm a) (hb : Lm b) : Calls Try.prog 49 #[a.val, b.val] w fun e w' => e = .returned (.int .i64 (cmpL a b)) ∧ Below w.heap.size w w' := by
  obtain ⟨p, n⟩ := a
  obtain ⟨q, m⟩ := b
  have h1 := ha.pkg
  have h2 := hb.pkg
  simp only at h1 h2
  have HC : Hid (∀ w : World, Calls Try.prog 61 #[.string (bs p), .string (bs q)] w fun e w' => e = .returned (.int .i64 (cmpP (pcs p) (pcs q))) ∧ Laid w w') := fun w => cmp_any p q w (by omega) (by omega)
  have HS : Hid (∀ w : World, Calls Try.prog 50 #[.string (bs n), .string (bs m)] w fun e w' => e = .returned (.int .i64 (Lib.compareBytes n m)) ∧ w' = w) := fun w => compare_any n m w
  clear h1 h2 ha hb
  simp only [Lb.val, cmpL]
  generalize cmpP (pcs p) (pcs q) = x at *
  generalize Lib.compareBytes n m = y at *
  have HO : Hid (∀ w : World, Calls Try.prog 48 #[.slice (some ⟨w.heap.size, 0, none⟩) 2 2] (w.alloc (.cells #[.int .i64 x, .int .i64 y] 3)) fun e w' => e = .returned (.int .i64 (if x = 0 then y else x)) ∧ w' = w.alloc (.cells #[.int .i64 x, .int .i64 y] 3)) := or_new x y
  obtain ⟨r, hr⟩ : ∃ r, (if x = 0 then y else x) = r := ⟨_, rfl⟩
  rw [hr] at HO ⊢
  clear hr
  have HA : Hid (RB ((w.alloc (.cells #[.string (bs p), .string (bs n)] 35)).alloc (.cells #[.string (bs q), .string (bs m)] 35)) w.heap.size ⟨p, n⟩) := (RB.new w ⟨p, n⟩).later (balloc _ _)
  have HB : Hid (RB ((w.alloc (.cells #[.string (bs p), .string (bs n)] 35)).alloc (.cells #[.string (bs q), .string (bs m)] 35)) (w.heap.size + 1) ⟨q, m⟩) := by
    show RB _ _ _
    have := RB.new (w.alloc (.cells #[.string (bs p), .string (bs n)] 35)) ⟨q, m⟩
    simpa using this
  have HB0 : Hid (Below w.heap.size w ((w.alloc (.cells #[.string (bs p), .string (bs n)] 35)).alloc (.cells #[.string (bs q), .string (bs m)] 35))) := bstep (balloc w _) (balloc _ _)
  go_enter Try.func49, Try.ntmps49
  go_wp2_with fail
  generalize (w.alloc (.cells #[.string (bs p), .string (bs n)] 35)).alloc (.cells #[.string (bs q), .string (bs m)] 35) = w0 at *
  obtain ⟨c0, c1, _, _⟩ := HA.out.cells
  obtain ⟨d0, d1, _, _⟩ := HB.out.cells
  have la := HA.out.lt
  have lb := HB.out.lt
  simp only at c0 c1 d0 d1
  have HL : Hid (w.heap.size < w0.heap.size ∧ w.heap.size + 1 < w0.heap.size) := ⟨la, lb⟩
  clear la lb
  go_region_held3 (fun w' => w'.cell? ⟨w.heap.size, 0, none⟩ = some (.string (bs p)) ∧ w'.cell? ⟨w.heap.size, 1, none⟩ = some (.string (bs n)) ∧ w'.cell? ⟨w.heap.size + 1, 0, none⟩ = some (.string (bs q)) ∧ w'.cell? ⟨w.heap.size + 1, 1, none⟩ = some (.string (bs m))) (first | (with_reducible exact ⟨c0, c1, d0, d1⟩) | (with_reducible exact KS1.out) | go_keep) (first | (go_at_call 61; (with_reducible refine (HC.out _).mono ?_); rintro e w1 ⟨rfl, hb1⟩; have HL1 : Hid (Below w0.heap.size w0 w1) := bstep (Below.refl w0.heap.size w0).drew hb1.below; have KS1 : Hid (w1.cell? ⟨w.heap.size, 0, none⟩ = some (.string (bs p)) ∧ w1.cell? ⟨w.heap.size, 1, none⟩ = some (.string (bs n)) ∧ w1.cell? ⟨w.heap.size + 1, 0, none⟩ = some (.string (bs q)) ∧ w1.cell? ⟨w.heap.size + 1, 1, none⟩ = some (.string (bs m))) := cells4 HL1.out HL.out.1 HL.out.2 c0 c1 d0 d1; clear hb1) | (go_at_call 50; (with_reducible refine (HS.out _).mono ?_); rintro e w2 ⟨rfl, rfl⟩) | (go_at_call 48; (with_reducible refine (HO.out _).mono ?_); rintro e w3 ⟨rfl, rfl⟩))
  all_goals (go_wp2_with fail; go_ret)
  all_goals exact ⟨rfl, bstep HB0.out (bstep HL1.out (balloc _ _))⟩
end Go.Proofs.Ytclbnjfmipifnaa
