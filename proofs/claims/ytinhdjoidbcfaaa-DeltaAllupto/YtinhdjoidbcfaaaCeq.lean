/-
  Two changes held against each other.
-/
import Derived.Test.YtinhdjoidbcfaaaChs
namespace Go.Proofs.Ytinhdjoidbcfaaa
open Go.RowKit

theorem st42 : Try.prog.underlying 42 = some (.struct (Try.prog.fieldsOf 42)) := by kernel_rfl
theorem held42 : Try.prog.stoodInHeld 42 = false := by kernel_rfl
theorem guard42 : Try.prog.eqGuardType Try.prog.depth 42 = false := by kernel_rfl
theorem flds42 : (Try.prog.fieldsOf 42).toList.map (fun f => (f.name, f.type, f.offset)) = [("Path", 9, 0), ("Had", 4, 1), ("Has", 4, 2), ("Old", 40, 3), ("New", 40, 7)] := by kernel_rfl
theorem u4 : Try.prog.underlying 4 = some .bool := by kernel_rfl
theorem agg4 (w : World) : (isAgg 4).run Try.prog w = .ok false w := by simp [isAgg, run_underlying u4]
theorem agg40 (w : World) : (isAgg 40).run Try.prog w = .ok true w := Try.isAgg40 w

theorem equal_run' (n : Nat) (w : World) (p t p' t' : List UInt8) (b s b' s' : Int) :
    (Op.equalIn (n + 2) 40 (.agg #[.string (bs p), .string (bs t), .int .i64 b, .int .i64 s]) (.agg #[.string (bs p'), .string (bs t'), .int .i64 b', .int .i64 s'])).run Try.prog w = .ok (feq ⟨p, t, b, s⟩ ⟨p', t', b', s'⟩) w := by
  rw [run_equalIn_struct w (n + 1) 40 _ _ st30 held30]
  have h := flds30
  revert h
  generalize (Try.prog.fieldsOf 40).toList = L
  intro h
  have hl : L.length = 4 := by have := congrArg List.length h; simpa using this
  obtain ⟨f0, f1, f2, f3, rfl⟩ : ∃ f0 f1 f2 f3, L = [f0, f1, f2, f3] := by
    rcases L with _ | ⟨f0, _ | ⟨f1, _ | ⟨f2, _ | ⟨f3, _ | ⟨f4, r⟩⟩⟩⟩⟩
    · simp at hl
    · simp at hl
    · simp at hl
    · simp at hl
    · exact ⟨f0, f1, f2, f3, rfl⟩
    · simp at hl
  · simp only [List.map_cons, List.map_nil, List.cons.injEq, Prod.mk.injEq, and_true] at h
    obtain ⟨⟨n0, t0, o0⟩, ⟨n1, t1, o1⟩, ⟨n2, t2, o2⟩, ⟨n3, t3, o3⟩⟩ := h
    have e9 : ∀ (a c : List UInt8) (w : World), (Op.equalIn (n + 1) 9 (.string (bs a)) (.string (bs c))).run Try.prog w = .ok (a == c) w := fun a c w => by
      have := run_equalIn_string (P := Try.prog) w n 9 (bs a) (bs c) u9
      rw [bs_toList, bs_toList] at this; exact this
    have e3 : ∀ (a c : Int) (w : World), (Op.equalIn (n + 1) 3 (.int .i64 a) (.int .i64 c)).run Try.prog w = .ok (a == c) w := fun a c w => run_equalIn_int (P := Try.prog) w n 3 .i64 .i64 a c u3
    simp only [Op.eqFields, n0, n1, n2, n3, t0, t1, t2, t3, o0, o1, o2, o3]
    have g0 : ("Path" : String) ≠ "_" := by decide
    have g1 : ("Text" : String) ≠ "_" := by decide
    have g2 : ("Blob" : String) ≠ "_" := by decide
    have g3 : ("Size" : String) ≠ "_" := by decide
    simp only [g0, g1, g2, g3, ne_eq, not_false_eq_true, if_true, part, Sem.run_bind, agg9, Result.andThen_ok, Bool.false_eq_true, if_false]
    simp [e9, e3, feq]
    by_cases hp : p = p' <;> by_cases ht : t = t' <;> by_cases hb : b = b' <;> by_cases hs : s = s' <;> simp [hp, ht, hb, hs]

theorem cequal_run (w : World) (p p' : List UInt8) (h i h' i' : Bool) (q t q' t' r y r' y' : List UInt8) (b s b' s' c z c' z' : Int) :
    (Op.equalIn 10000 42 (.agg #[.string (bs p), .bool h, .bool i, .string (bs q), .string (bs t), .int .i64 b, .int .i64 s, .string (bs r), .string (bs y), .int .i64 c, .int .i64 z])
      (.agg #[.string (bs p'), .bool h', .bool i', .string (bs q'), .string (bs t'), .int .i64 b', .int .i64 s', .string (bs r'), .string (bs y'), .int .i64 c', .int .i64 z'])).run Try.prog w = .ok (ceq ⟨p, h, i, ⟨q, t, b, s⟩, ⟨r, y, c, z⟩⟩ ⟨p', h', i', ⟨q', t', b', s'⟩, ⟨r', y', c', z'⟩⟩) w := by
  rw [run_equalIn_struct w 9999 42 _ _ st42 held42]
  have h0 := flds42
  revert h0
  generalize (Try.prog.fieldsOf 42).toList = L
  intro h0
  have hl : L.length = 5 := by have := congrArg List.length h0; simpa using this
  obtain ⟨f0, f1, f2, f3, f4, rfl⟩ : ∃ f0 f1 f2 f3 f4, L = [f0, f1, f2, f3, f4] := by
    rcases L with _ | ⟨f0, _ | ⟨f1, _ | ⟨f2, _ | ⟨f3, _ | ⟨f4, _ | ⟨f5, r⟩⟩⟩⟩⟩⟩
    · simp at hl
    · simp at hl
    · simp at hl
    · simp at hl
    · simp at hl
    · exact ⟨f0, f1, f2, f3, f4, rfl⟩
    · simp at hl
  · simp only [List.map_cons, List.map_nil, List.cons.injEq, Prod.mk.injEq, and_true] at h0
    obtain ⟨⟨n0, t0, o0⟩, ⟨n1, t1, o1⟩, ⟨n2, t2, o2⟩, ⟨n3, t3, o3⟩, ⟨n4, t4, o4⟩⟩ := h0
    have e9 : ∀ (a c : List UInt8) (w : World), (Op.equalIn 9999 9 (.string (bs a)) (.string (bs c))).run Try.prog w = .ok (a == c) w := fun a c w => by
      have := run_equalIn_string (P := Try.prog) w 9998 9 (bs a) (bs c) u9
      rw [bs_toList, bs_toList] at this; exact this
    have e4 : ∀ (a c : Bool) (w : World), (Op.equalIn 9999 4 (.bool a) (.bool c)).run Try.prog w = .ok (a == c) w := fun a c w => run_equalIn_bool (P := Try.prog) w 9998 4 a c u4
    have e40 := equal_run' 9997
    simp only [Op.eqFields, n0, n1, n2, n3, n4, t0, t1, t2, t3, t4, o0, o1, o2, o3, o4]
    have g0 : ("Path" : String) ≠ "_" := by decide
    have g1 : ("Had" : String) ≠ "_" := by decide
    have g2 : ("Has" : String) ≠ "_" := by decide
    have g3 : ("Old" : String) ≠ "_" := by decide
    have g4 : ("New" : String) ≠ "_" := by decide
    simp only [g0, g1, g2, g3, g4, ne_eq, not_false_eq_true, if_true, part, Sem.run_bind, agg9, Result.andThen_ok, Bool.false_eq_true, if_false]
    simp [e9, e4, e40, ceq]
    by_cases hp : p = p' <;> by_cases ht : h = h' <;> by_cases hb : i = i' <;> cases feq ⟨q, t, b, s⟩ ⟨q', t', b', s'⟩ <;> cases feq ⟨r, y, c, z⟩ ⟨r', y', c', z'⟩ <;> simp [hp, ht, hb]
theorem cneq_run (w : World) (p p' : List UInt8) (h i h' i' : Bool) (q t q' t' r y r' y' : List UInt8) (b s b' s' c z c' z' : Int) :
    (binOp .neq 42 (.agg #[.string (bs p), .bool h, .bool i, .string (bs q), .string (bs t), .int .i64 b, .int .i64 s, .string (bs r), .string (bs y), .int .i64 c, .int .i64 z])
      (.agg #[.string (bs p'), .bool h', .bool i', .string (bs q'), .string (bs t'), .int .i64 b', .int .i64 s', .string (bs r'), .string (bs y'), .int .i64 c', .int .i64 z'])).run Try.prog w = .ok (.bool (!ceq ⟨p, h, i, ⟨q, t, b, s⟩, ⟨r, y, c, z⟩⟩ ⟨p', h', i', ⟨q', t', b', s'⟩, ⟨r', y', c', z'⟩⟩)) w := by
  rw [run_neq_struct, cequal_run]; rfl
theorem cguard_run (w : World) (op : BinOp) (x y : Operand) (xs ys : Array Value) : (eqGuard op 42 x y (.agg xs) (.agg ys)).run Try.prog w = .ok () w := run_eqGuard_agg w op 42 x y xs ys guard42
end Go.Proofs.Ytinhdjoidbcfaaa
