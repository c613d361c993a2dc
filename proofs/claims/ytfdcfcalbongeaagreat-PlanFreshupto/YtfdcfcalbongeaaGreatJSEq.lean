/-
  Files in memory: one by one, and as rows.
  Two files held against each other.
-/
import Derived.Test.YtfdcfcalbongeaaGreatJFil
import Derived.Laws.StructEq
namespace Go.Proofs.YtfdcfcalbongeaaGreat
open Go.RowKit

def Fl.val (f : Fl) : Value := .agg #[.string (bs f.path), .string (bs f.text), .int .i64 f.blob, .int .i64 f.size]
def Fl.cs (f : Fl) : List Value := [.string (bs f.path), .string (bs f.text), .int .i64 f.blob, .int .i64 f.size]
def fc : List Fl → List Value
  | [] => []
  | f :: r => .string (bs f.path) :: .string (bs f.text) :: .int .i64 f.blob :: .int .i64 f.size :: fc r
theorem fc_length : ∀ l, (fc l).length = l.length * 4
  | [] => rfl
  | f :: r => by simp only [fc, List.length_cons, fc_length r]; omega
theorem fc_append : ∀ a b, fc (a ++ b) = fc a ++ fc b
  | [], b => rfl
  | f :: r, b => by simp [fc, fc_append r b]
theorem fc_one : ∀ (l : List Fl), ∀ u ∈ fc l, u.oneCell' = true
  | [], u, h => by simp [fc] at h
  | f :: r, u, h => by
    simp only [fc, List.mem_cons] at h
    rcases h with rfl | rfl | rfl | rfl | h
    · rfl
    · rfl
    · rfl
    · rfl
    · exact fc_one r u h
theorem fc_get : ∀ (l : List Fl) (k : Nat) (h : k < l.length), (fc l)[k * 4]? = some (.string (bs l[k].path)) ∧ (fc l)[k * 4 + 1]? = some (.string (bs l[k].text)) ∧ (fc l)[k * 4 + 2]? = some (.int .i64 l[k].blob) ∧ (fc l)[k * 4 + 3]? = some (.int .i64 l[k].size)
  | f :: r, 0, _ => ⟨rfl, rfl, rfl, rfl⟩
  | f :: r, k + 1, h => by
    have ih := fc_get r k (by simpa using h)
    rw [show (k + 1) * 4 = k * 4 + 4 by omega]
    simp only [fc, List.getElem_cons_succ]
    exact ⟨ih.1, ih.2.1, ih.2.2.1, ih.2.2.2⟩

/-- a slice of files reads as a list -/
def FS (w : World) (v : Value) (l : List Fl) : Prop :=
  ((∃ a c, v = .slice a 0 c) ∧ l = []) ∨
  ∃ b off cap, v = .slice (some ⟨b, off, none⟩) l.length cap ∧ l.length ≤ cap ∧ b < w.heap.size ∧ ∀ i u, (fc l)[i]? = some u → w.cell? ⟨b, off + i, none⟩ = some u
theorem FS.later {w w' : World} {v : Value} {l : List Fl} (h : FS w v l) (hb : Below w.heap.size w w') : FS w' v l := by
  rcases h with h | ⟨b, off, cap, rfl, hc, hlt, hcell⟩
  · exact .inl h
  · refine .inr ⟨b, off, cap, rfl, hc, Nat.lt_of_lt_of_le hlt hb.size, fun i u hu => ?_⟩
    rw [hb.cell (p := ⟨b, off + i, none⟩) hlt]; exact hcell i u hu
theorem FS.below {w w' : World} {v : Value} {l : List Fl} {B : Nat} (h : FS w v l) (hb : Below B w w') (hv : ∀ k, v.ownBlock = some k → k < B) : FS w' v l := by
  rcases h with h | ⟨b, off, cap, rfl, hc, hlt, hcell⟩
  · exact .inl h
  · refine .inr ⟨b, off, cap, rfl, hc, Nat.lt_of_lt_of_le hlt hb.size, fun i u hu => ?_⟩
    rw [hb.cell (p := ⟨b, off + i, none⟩) (hv b rfl)]; exact hcell i u hu
theorem FS_nil (w : World) : FS w (.slice none 0 0) [] := .inl ⟨⟨_, _, rfl⟩, rfl⟩
theorem FS.form {w : World} {v : Value} {l : List Fl} (h : FS w v l) : ∃ a c, v = .slice a l.length c ∧ (∀ k, (hk : k < l.length) → ∃ b off, a = some ⟨b, off, none⟩ ∧ b < w.heap.size ∧
    w.cell? ⟨b, off + k * 4, none⟩ = some (.string (bs l[k].path)) ∧ w.cell? ⟨b, off + k * 4 + 1, none⟩ = some (.string (bs l[k].text)) ∧ w.cell? ⟨b, off + k * 4 + 2, none⟩ = some (.int .i64 l[k].blob) ∧ w.cell? ⟨b, off + k * 4 + 3, none⟩ = some (.int .i64 l[k].size)) := by
  rcases h with ⟨⟨a, c, rfl⟩, rfl⟩ | ⟨b, off, cap, rfl, hc, hlt, hcell⟩
  · exact ⟨a, c, rfl, fun k hk => by simp at hk⟩
  · refine ⟨_, cap, rfl, fun k hk => ⟨b, off, rfl, hlt, ?_⟩⟩
    obtain ⟨c0, c1, c2, c3⟩ := fc_get l k hk
    exact ⟨hcell _ _ c0, by rw [Nat.add_assoc]; exact hcell _ _ c1, by rw [Nat.add_assoc]; exact hcell _ _ c2, by rw [Nat.add_assoc]; exact hcell _ _ c3⟩
/-- at one place, in a later world -/
theorem FS.at {w : World} {a : Option Addr} {c : Nat} {l : List Fl} (h : FS w (.slice a l.length c) l) {wr : World} (hb : Below w.heap.size w wr) {k : Nat} (hk : k < l.length) : ∃ b off, a = some ⟨b, off, none⟩ ∧ b < w.heap.size ∧
    wr.cell? ⟨b, off + k * 4, none⟩ = some (.string (bs l[k].path)) ∧ wr.cell? ⟨b, off + k * 4 + 1, none⟩ = some (.string (bs l[k].text)) ∧ wr.cell? ⟨b, off + k * 4 + 2, none⟩ = some (.int .i64 l[k].blob) ∧ wr.cell? ⟨b, off + k * 4 + 3, none⟩ = some (.int .i64 l[k].size) := by
  obtain ⟨a', c', e, hf⟩ := (h.later hb).form
  obtain ⟨b, off, ha, _, h0, h1, h2, h3⟩ := hf k hk
  injection e with e1 e2 e3
  subst e1
  obtain ⟨b', off', ha', hlt, _⟩ := (h.form).choose_spec.choose_spec.2 k hk
  have e := (h.form).choose_spec.choose_spec.1
  injection e with e1 e2 e3
  rw [← e1, ha] at ha'
  injection ha' with ha'
  injection ha' with hb1 hb2
  subst hb1
  exact ⟨b, off, ha, hlt, h0, h1, h2, h3⟩
theorem und22 : Tryz.prog.underlying 22 = some (.slice 30) := by kernel_rfl
theorem info30 : (Tryz.prog.info? 30).map (fun i => (i.zero, i.size, i.bytes)) = some (some (.agg #[.string ⟨#[]⟩, .string ⟨#[]⟩, .int .i64 0, .int .i64 0]), 4, 48) := by kernel_rfl
theorem FS.src {w : World} {v : Value} {l : List Fl} (h : FS w v l) : Src Tryz.prog 4 22 v l.length (fc l) w := by
  rcases h with ⟨⟨a, c, rfl⟩, rfl⟩ | ⟨b, off, cap, rfl, hc, hlt, hcell⟩
  · cases a with
    | none => exact Src.ofNil w und22 c
    | some a => exact Src.ofSlice w und22 a 0 c [] (by simp) (fun j u hu => by simp at hu) (fun u hu => by cases hu)
  · exact Src.ofSlice w und22 ⟨b, off, none⟩ l.length cap (fc l) (fc_length l) (fun j u hu => by rw [add_lit]; exact hcell j u hu) (fc_one l)

/-- a row of files of the call's own -/
def OwnF (base : Nat) (w : World) (v : Value) (l : List Fl) : Prop := w.ownsRow base 30 4 v l.length (fc l)
theorem OwnF.nil (base : Nat) (w : World) : OwnF base w (.slice none 0 0) [] := World.ownsRow_nil w base 30 4
theorem OwnF.mono {base base' : Nat} {w : World} {v : Value} {l : List Fl} (h : OwnF base w v l) (hb : base' ≤ base) : OwnF base' w v l := World.ownsRow.mono h hb
theorem OwnF.fs {base : Nat} {w : World} {v : Value} {l : List Fl} (h : OwnF base w v l) : FS w v l := by
  rcases h.2 with ⟨rfl, h0⟩ | ⟨g, cap, cur, rfl, hb, hg, hn, _⟩
  · exact .inl ⟨⟨_, _, rfl⟩, List.eq_nil_of_length_eq_zero h0⟩
  · refine .inr ⟨g, 0, cap, rfl, hn, (Array.getElem?_eq_some_iff.1 hg).1, fun i u hu => ?_⟩
    have := World.ownsRow.cells h (g := g) rfl i u hu
    rw [add_lit] at this; exact this
theorem OwnF.lt {base : Nat} {w : World} {v : Value} {l : List Fl} (h : OwnF base w v l) {k : Nat} (hk : v.ownBlock = some k) : base ≤ k ∧ k < w.heap.size := World.ownsRow.lt h k hk
theorem OwnF.only {S : List Nat} {base : Nat} {w w' : World} {v : Value} {l : List Fl} (h : OwnF base w v l) (ho : Only S w w') (hn : ∀ k, v.ownBlock = some k → k ∉ S) : OwnF base w' v l := by
  rcases h with ⟨h0, h | ⟨g, cap, cur, rfl, hb, hg, hr⟩⟩
  · exact ⟨h0, .inl h⟩
  · exact ⟨h0, .inr ⟨g, cap, cur, rfl, hb, (ho.block g (Array.getElem?_eq_some_iff.1 hg).1 (hn g rfl)).trans hg, hr⟩⟩
theorem OwnF.later {base : Nat} {w w' : World} {v : Value} {l : List Fl} (h : OwnF base w v l) (hb : Below w.heap.size w w') : OwnF base w' v l :=
  h.only (Only.of_below hb []) (by simp)
theorem OwnF.form {base : Nat} {w : World} {v : Value} {l : List Fl} (h : OwnF base w v l) : ∃ a c, v = .slice a l.length c := by
  obtain ⟨a, c, e, _⟩ := h.fs.form; exact ⟨a, c, e⟩
/-- append of files onto files of the call's own -/
theorem app_files {w : World} {base : Nat} {v x : Value} {l k : List Fl} (hown : OwnF base w v l) (hs : Src Tryz.prog 4 22 x k.length (fc k) w) (hb : l.length + k.length ≤ 100000000) (hbase : base ≤ w.heap.size)
    {ops : Array Oper} {rest : List Oper} {o : Oper} {a : Act} {Q : Exit → Act → World → Prop} (hgd : o.guard = none) (s y : Operand)
    (ho : o.op = .call { callee := .builtin .append, args := #[s, y], argTypes := #[22, 22] }) (hv : a.eval s = v) (hx : a.eval y = x)
    (h : ∀ v' w', OwnF base w' v' (l ++ k) → w.grownBy w' v.ownBlock → (v'.ownBlock = v.ownBlock ∨ v'.ownBlock = some w.heap.size) → wpList Tryz.prog ops Q rest (a.put o.dst v') w') :
    wpList Tryz.prog ops Q (o :: rest) a w := by
  obtain ⟨i0, hi, hz0, hz1, hz2⟩ := info_parts info30
  refine wpList_append_src w hgd s y 22 22 ho base 30 i0 _ 4 48 und22 hi hz0 hz1 hz2 rfl v l.length (fc l) hv hown x k.length (fc k) hx hs (by simp only [maxLen]; omega) (by omega) hbase ?_
  intro v' w' h1 h2 h3
  exact h v' w' (by unfold OwnF; rw [fc_append, List.length_append]; exact h1) h2 h3
theorem src_file (w : World) (f : Fl) : Src Tryz.prog 4 22 (.slice (some ⟨w.heap.size, 0, none⟩) 1 1) [f].length (fc [f]) (w.alloc (.cells #[.string (bs f.path), .string (bs f.text), .int .i64 f.blob, .int .i64 f.size] 30)) := by
  refine Src.ofSlice _ und22 ⟨w.heap.size, 0, none⟩ 1 1 (fc [f]) (by simp [fc_length]) ?_ (fc_one _)
  exact World.news_of_block (heap_alloc_new w _)

/-- what a machine has: lengths and numbers -/
structure Fok (f : Fl) : Prop where
  path : f.path.length ≤ 1000000000
  text : f.text.length ≤ 1000000000
  b0 : -9223372036854775808 ≤ f.blob
  b1 : f.blob ≤ 9223372036854775807
  s0 : -9223372036854775808 ≤ f.size
  s1 : f.size ≤ 9223372036854775807
structure FSm (l : List Fl) : Prop where
  len : l.length ≤ 1000000000
  each : ∀ f ∈ l, Fok f
theorem FSm.at {l : List Fl} (h : FSm l) {k : Nat} (hk : k < l.length) : Fok l[k] := h.each _ (List.getElem_mem _)

/-- a boxed file -/
theorem fbox_new (w : World) (f : Fl) (k : TypeId) : (w.alloc (.cells #[.string (bs f.path), .string (bs f.text), .int .i64 f.blob, .int .i64 f.size] k)).cell? ⟨w.heap.size, 0, none⟩ = some (.string (bs f.path)) ∧
    (w.alloc (.cells #[.string (bs f.path), .string (bs f.text), .int .i64 f.blob, .int .i64 f.size] k)).cell? ⟨w.heap.size, 1, none⟩ = some (.string (bs f.text)) ∧
    (w.alloc (.cells #[.string (bs f.path), .string (bs f.text), .int .i64 f.blob, .int .i64 f.size] k)).cell? ⟨w.heap.size, 2, none⟩ = some (.int .i64 f.blob) ∧
    (w.alloc (.cells #[.string (bs f.path), .string (bs f.text), .int .i64 f.blob, .int .i64 f.size] k)).cell? ⟨w.heap.size, 3, none⟩ = some (.int .i64 f.size) := ⟨by simp, by simp, by simp, by simp⟩
/-- the four cells of a file in block g -/
structure FB (w : World) (g : Nat) (f : Fl) : Prop where
  c0 : w.cell? ⟨g, 0, none⟩ = some (.string (bs f.path))
  c1 : w.cell? ⟨g, 1, none⟩ = some (.string (bs f.text))
  c2 : w.cell? ⟨g, 2, none⟩ = some (.int .i64 f.blob)
  c3 : w.cell? ⟨g, 3, none⟩ = some (.int .i64 f.size)
  lt : g < w.heap.size
theorem FB.new (w : World) (f : Fl) (k : TypeId) : FB (w.alloc (.cells #[.string (bs f.path), .string (bs f.text), .int .i64 f.blob, .int .i64 f.size] k)) w.heap.size f := ⟨by simp, by simp, by simp, by simp, by simp⟩
theorem FB.later {w w' : World} {g : Nat} {f : Fl} (h : FB w g f) (hb : Below w.heap.size w w') : FB w' g f :=
  ⟨(hb.cell (p := ⟨g, 0, none⟩) h.lt).trans h.c0, (hb.cell (p := ⟨g, 1, none⟩) h.lt).trans h.c1, (hb.cell (p := ⟨g, 2, none⟩) h.lt).trans h.c2, (hb.cell (p := ⟨g, 3, none⟩) h.lt).trans h.c3, Nat.lt_of_lt_of_le h.lt hb.size⟩

set_option maxRecDepth 100000 in
set_option maxHeartbeats 1000000 in
theorem within_any (n m : Int) (w : World) : Calls Tryz.prog 77 #[.int .i64 n, .int .i64 m] w fun e w' => e = .returned (.bool (decide (0 ≤ n) && decide (n ≤ m))) ∧ w' = w := by
  by_cases h0 : 0 ≤ n
  · go_enter Tryz.func77, Tryz.ntmps77
    go_wp2_with fail
    go_ret
    exact ⟨by simp [h0], rfl⟩
  · have h1 : decide (0 ≤ n) = false := by simpa using h0
    rw [h1]
    go_enter Tryz.func77, Tryz.ntmps77
    go_wp2_with fail
    go_ret
    exact ⟨rfl, rfl⟩

set_option maxRecDepth 100000 in
set_option maxHeartbeats 1000000 in
theorem manifest_any (p t : List UInt8) (w : World) : Calls Tryz.prog 76 #[.string (bs p), .string (bs t)] w fun e w' => e = .returned (.agg #[.string (bs p), .string (bs t), .int .i64 0, .int .i64 (t.length : Nat)]) ∧ Below w.heap.size w w' := by
  have hz : (bs t).size = t.length := rfl
  go_enter Tryz.func76, Tryz.ntmps76
  go_wp2_with fail
  refine bodyPost_ret (results_cell_row rfl _ _ w.heap.size 30 #[.string (bs p), .string (bs t), .int .i64 0, .int .i64 (t.length : Nat)] (0, 0) _ rfl (heap_alloc_new _ _) Tryz.underlying30 rfl (by kernel_rfl)) rfl ?_
  exact ⟨rfl, balloc _ _⟩
end Go.Proofs.YtfdcfcalbongeaaGreat

namespace Go.Proofs.YtfdcfcalbongeaaGreat
open Go.RowKit

theorem st30 : Tryz.prog.underlying 30 = some (.struct (Tryz.prog.fieldsOf 30)) := by kernel_rfl
theorem held30 : Tryz.prog.stoodInHeld 30 = false := by kernel_rfl
theorem guard30 : Tryz.prog.eqGuardType Tryz.prog.depth 30 = false := by kernel_rfl
theorem flds30 : (Tryz.prog.fieldsOf 30).toList.map (fun f => (f.name, f.type, f.offset)) = [("Path", 9, 0), ("Text", 9, 1), ("Blob", 3, 2), ("Size", 3, 3)] := by kernel_rfl
theorem u9 : Tryz.prog.underlying 9 = some .string := by kernel_rfl
theorem u3 : Tryz.prog.underlying 3 = some (.int .i64) := by kernel_rfl
theorem agg9 (w : World) : (isAgg 9).run Tryz.prog w = .ok false w := by simp [isAgg, run_underlying u9]
theorem agg3 (w : World) : (isAgg 3).run Tryz.prog w = .ok false w := by simp [isAgg, run_underlying u3]

theorem fequal_run (w : World) (p t p' t' : List UInt8) (b s b' s' : Int) :
    (Op.equalIn 10000 30 (.agg #[.string (bs p), .string (bs t), .int .i64 b, .int .i64 s]) (.agg #[.string (bs p'), .string (bs t'), .int .i64 b', .int .i64 s'])).run Tryz.prog w = .ok (feq ⟨p, t, b, s⟩ ⟨p', t', b', s'⟩) w := by
  rw [run_equalIn_struct w 9999 30 _ _ st30 held30]
  have h := flds30
  revert h
  generalize (Tryz.prog.fieldsOf 30).toList = L
  intro h
  have hl : L.length = 4 := by have := congrArg List.length h; simpa using this
  obtain ⟨f0, f1, f2, f3, rfl⟩ : ∃ f0 f1 f2 f3, L = [f0, f1, f2, f3] := by
    rcases L with _ | ⟨f0, _ | ⟨f1, _ | ⟨f2, _ | ⟨f3, _ | ⟨f4, r⟩⟩⟩⟩⟩
    · simp at hl
    · simp at hl
    · simp at hl
    · simp at hl
    · exact ⟨f0, f1, f2, f3, rfl⟩
    · simp at hl
  · simp only [List.map_cons, List.map_nil, List.cons.injEq, Prod.mk.injEq, and_true] at h
    obtain ⟨⟨n0, t0, o0⟩, ⟨n1, t1, o1⟩, ⟨n2, t2, o2⟩, ⟨n3, t3, o3⟩⟩ := h
    have e9 : ∀ (a c : List UInt8) (w : World), (Op.equalIn 9999 9 (.string (bs a)) (.string (bs c))).run Tryz.prog w = .ok (a == c) w := fun a c w => by
      have := run_equalIn_string (P := Tryz.prog) w 9998 9 (bs a) (bs c) u9
      rw [bs_toList, bs_toList] at this; exact this
    have e3 : ∀ (a c : Int) (w : World), (Op.equalIn 9999 3 (.int .i64 a) (.int .i64 c)).run Tryz.prog w = .ok (a == c) w := fun a c w => run_equalIn_int (P := Tryz.prog) w 9998 3 .i64 .i64 a c u3
    simp only [Op.eqFields, n0, n1, n2, n3, t0, t1, t2, t3, o0, o1, o2, o3]
    have g0 : ("Path" : String) ≠ "_" := by decide
    have g1 : ("Text" : String) ≠ "_" := by decide
    have g2 : ("Blob" : String) ≠ "_" := by decide
    have g3 : ("Size" : String) ≠ "_" := by decide
    simp only [g0, g1, g2, g3, ne_eq, not_false_eq_true, if_true, part, Sem.run_bind, agg9, Result.andThen_ok, Bool.false_eq_true, if_false]
    simp [e9, e3, feq]
    by_cases hp : p = p' <;> by_cases ht : t = t' <;> by_cases hb : b = b' <;> by_cases hs : s = s' <;> simp [hp, ht, hb, hs]
theorem feql_run (w : World) (p t p' t' : List UInt8) (b s b' s' : Int) :
    (binOp .eql 30 (.agg #[.string (bs p), .string (bs t), .int .i64 b, .int .i64 s]) (.agg #[.string (bs p'), .string (bs t'), .int .i64 b', .int .i64 s'])).run Tryz.prog w = .ok (.bool (feq ⟨p, t, b, s⟩ ⟨p', t', b', s'⟩)) w := by
  rw [run_eql_struct, fequal_run]; rfl
theorem neq_run (w : World) (p t p' t' : List UInt8) (b s b' s' : Int) :
    (binOp .neq 30 (.agg #[.string (bs p), .string (bs t), .int .i64 b, .int .i64 s]) (.agg #[.string (bs p'), .string (bs t'), .int .i64 b', .int .i64 s'])).run Tryz.prog w = .ok (.bool (!feq ⟨p, t, b, s⟩ ⟨p', t', b', s'⟩)) w := by
  rw [run_neq_struct, fequal_run]; rfl
theorem fguard_run (w : World) (op : BinOp) (x y : Operand) (xs ys : Array Value) : (eqGuard op 30 x y (.agg xs) (.agg ys)).run Tryz.prog w = .ok () w := run_eqGuard_agg w op 30 x y xs ys guard30
end Go.Proofs.YtfdcfcalbongeaaGreat
