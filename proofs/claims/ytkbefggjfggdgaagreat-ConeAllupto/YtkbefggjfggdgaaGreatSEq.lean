/-
  Two files held against each other.
-/
import Derived.Test.YtkbefggjfggdgaaGreatFiles
import Derived.Laws.StructEq
namespace Go.Proofs.YtkbefggjfggdgaaGreat
open Go.RowKit

theorem st30 : Tryz.prog.underlying 39 = some (.struct (Tryz.prog.fieldsOf 39)) := by kernel_rfl
theorem held30 : Tryz.prog.stoodInHeld 39 = false := by kernel_rfl
theorem guard30 : Tryz.prog.eqGuardType Tryz.prog.depth 39 = false := by kernel_rfl
theorem flds30 : (Tryz.prog.fieldsOf 39).toList.map (fun f => (f.name, f.type, f.offset)) = [("Path", 9, 0), ("Text", 9, 1), ("Blob", 3, 2), ("Size", 3, 3)] := by kernel_rfl
theorem u9 : Tryz.prog.underlying 9 = some .string := by kernel_rfl
theorem u3 : Tryz.prog.underlying 3 = some (.int .i64) := by kernel_rfl
theorem agg9 (w : World) : (isAgg 9).run Tryz.prog w = .ok false w := by simp [isAgg, run_underlying u9]
theorem agg3 (w : World) : (isAgg 3).run Tryz.prog w = .ok false w := by simp [isAgg, run_underlying u3]

theorem fequal_run (w : World) (p t p' t' : List UInt8) (b s b' s' : Int) :
    (Op.equalIn 10000 39 (.agg #[.string (bs p), .string (bs t), .int .i64 b, .int .i64 s]) (.agg #[.string (bs p'), .string (bs t'), .int .i64 b', .int .i64 s'])).run Tryz.prog w = .ok (feq ⟨p, t, b, s⟩ ⟨p', t', b', s'⟩) w := by
  rw [run_equalIn_struct w 9999 39 _ _ st30 held30]
  have h := flds30
  revert h
  generalize (Tryz.prog.fieldsOf 39).toList = L
  intro h
  have hl : L.length = 4 := by have := congrArg List.length h; simpa using this
  obtain ⟨f0, f1, f2, f3, rfl⟩ : ∃ f0 f1 f2 f3, L = [f0, f1, f2, f3] := by
    rcases L with _ | ⟨f0, _ | ⟨f1, _ | ⟨f2, _ | ⟨f3, _ | ⟨f4, r⟩⟩⟩⟩⟩
    · simp at hl
    · simp at hl
    · simp at hl
    · simp at hl
    · exact ⟨f0, f1, f2, f3, rfl⟩
    · simp at hl
  · simp only [List.map_cons, List.map_nil, List.cons.injEq, Prod.mk.injEq, and_true] at h
    obtain ⟨⟨n0, t0, o0⟩, ⟨n1, t1, o1⟩, ⟨n2, t2, o2⟩, ⟨n3, t3, o3⟩⟩ := h
    have e9 : ∀ (a c : List UInt8) (w : World), (Op.equalIn 9999 9 (.string (bs a)) (.string (bs c))).run Tryz.prog w = .ok (a == c) w := fun a c w => by
      have := run_equalIn_string (P := Tryz.prog) w 9998 9 (bs a) (bs c) u9
      rw [bs_toList, bs_toList] at this; exact this
    have e3 : ∀ (a c : Int) (w : World), (Op.equalIn 9999 3 (.int .i64 a) (.int .i64 c)).run Tryz.prog w = .ok (a == c) w := fun a c w => run_equalIn_int (P := Tryz.prog) w 9998 3 .i64 .i64 a c u3
    simp only [Op.eqFields, n0, n1, n2, n3, t0, t1, t2, t3, o0, o1, o2, o3]
    have g0 : ("Path" : String) ≠ "_" := by decide
    have g1 : ("Text" : String) ≠ "_" := by decide
    have g2 : ("Blob" : String) ≠ "_" := by decide
    have g3 : ("Size" : String) ≠ "_" := by decide
    simp only [g0, g1, g2, g3, ne_eq, not_false_eq_true, if_true, part, Sem.run_bind, agg9, Result.andThen_ok, Bool.false_eq_true, if_false]
    simp [e9, e3, feq]
    by_cases hp : p = p' <;> by_cases ht : t = t' <;> by_cases hb : b = b' <;> by_cases hs : s = s' <;> simp [hp, ht, hb, hs]
theorem feql_run (w : World) (p t p' t' : List UInt8) (b s b' s' : Int) :
    (binOp .eql 39 (.agg #[.string (bs p), .string (bs t), .int .i64 b, .int .i64 s]) (.agg #[.string (bs p'), .string (bs t'), .int .i64 b', .int .i64 s'])).run Tryz.prog w = .ok (.bool (feq ⟨p, t, b, s⟩ ⟨p', t', b', s'⟩)) w := by
  rw [run_eql_struct, fequal_run]; rfl
theorem neq_run (w : World) (p t p' t' : List UInt8) (b s b' s' : Int) :
    (binOp .neq 39 (.agg #[.string (bs p), .string (bs t), .int .i64 b, .int .i64 s]) (.agg #[.string (bs p'), .string (bs t'), .int .i64 b', .int .i64 s'])).run Tryz.prog w = .ok (.bool (!feq ⟨p, t, b, s⟩ ⟨p', t', b', s'⟩)) w := by
  rw [run_neq_struct, fequal_run]; rfl
theorem fguard_run (w : World) (op : BinOp) (x y : Operand) (xs ys : Array Value) : (eqGuard op 39 x y (.agg xs) (.agg ys)).run Tryz.prog w = .ok () w := run_eqGuard_agg w op 39 x y xs ys guard30
end Go.Proofs.YtkbefggjfggdgaaGreat
