/-
  Two steps, two lists of steps held against each other.
-/
import Derived.Test.YtfdcfcalbongeaaPs
import Derived.Laws.StructEq
namespace Go.Proofs.Ytfdcfcalbongeaa
open Go.RowKit

def seq (s t : Sp) : Bool := s.kind == t.kind && s.p == t.p && feq s.f t.f
theorem seq_iff (s t : Sp) : seq s t = true ↔ s = t := by
  obtain ⟨k, p, f⟩ := s
  obtain ⟨k', p', f'⟩ := t
  unfold seq
  simp only [Bool.and_eq_true, beq_iff_eq, feq_iff, Sp.mk.injEq, and_assoc]
def sleq : List Sp → List Sp → Bool
  | [], [] => true
  | s :: a, t :: b => seq s t && sleq a b
  | _, _ => false
theorem sleq_iff : ∀ a b, sleq a b = true ↔ a = b
  | [], [] => by simp [sleq]
  | [], _ :: _ => by simp [sleq]
  | _ :: _, [] => by simp [sleq]
  | s :: a, t :: b => by simp [sleq, seq_iff, sleq_iff a b]
theorem sleq_step (a b : List Sp) (k : Nat) (ha : k < a.length) (hb : k < b.length) : sleq (a.drop k) (b.drop k) = (seq (a[k]'ha) (b[k]'hb) && sleq (a.drop (k + 1)) (b.drop (k + 1))) := by
  rw [List.drop_eq_getElem_cons ha, List.drop_eq_getElem_cons hb, sleq]
theorem sleq_len {a b : List Sp} (h : a.length ≠ b.length) : sleq a b = false := by
  cases e : sleq a b
  · rfl
  · exact absurd (congrArg List.length ((sleq_iff a b).1 e)) h
theorem st37 : Try.prog.underlying 37 = some (.struct (Try.prog.fieldsOf 37)) := by kernel_rfl
theorem held37 : Try.prog.stoodInHeld 37 = false := by kernel_rfl
theorem guard37 : Try.prog.eqGuardType Try.prog.depth 37 = false := by kernel_rfl
theorem flds37 : (Try.prog.fieldsOf 37).toList.map (fun f => (f.name, f.type, f.offset)) = [("Kind", 3, 0), ("Path", 9, 1), ("File", 32, 2)] := by kernel_rfl
theorem fequal_run9 (w : World) (p t p' t' : List UInt8) (b s b' s' : Int) :
    (Op.equalIn 9999 32 (.agg #[.string (bs p), .string (bs t), .int .i64 b, .int .i64 s]) (.agg #[.string (bs p'), .string (bs t'), .int .i64 b', .int .i64 s'])).run Try.prog w = .ok (feq ⟨p, t, b, s⟩ ⟨p', t', b', s'⟩) w := by
  rw [run_equalIn_struct w 9998 32 _ _ st30 held30]
  have h := flds30
  revert h
  generalize (Try.prog.fieldsOf 32).toList = L
  intro h
  have hl : L.length = 4 := by have := congrArg List.length h; simpa using this
  obtain ⟨f0, f1, f2, f3, rfl⟩ : ∃ f0 f1 f2 f3, L = [f0, f1, f2, f3] := by
    rcases L with _ | ⟨f0, _ | ⟨f1, _ | ⟨f2, _ | ⟨f3, _ | ⟨f4, r⟩⟩⟩⟩⟩
    · simp at hl
    · simp at hl
    · simp at hl
    · simp at hl
    · exact ⟨f0, f1, f2, f3, rfl⟩
    · simp at hl
  · simp only [List.map_cons, List.map_nil, List.cons.injEq, Prod.mk.injEq, and_true] at h
    obtain ⟨⟨n0, t0, o0⟩, ⟨n1, t1, o1⟩, ⟨n2, t2, o2⟩, ⟨n3, t3, o3⟩⟩ := h
    have e9 : ∀ (a c : List UInt8) (w : World), (Op.equalIn 9998 9 (.string (bs a)) (.string (bs c))).run Try.prog w = .ok (a == c) w := fun a c w => by
      have := run_equalIn_string (P := Try.prog) w 9997 9 (bs a) (bs c) u9
      rw [bs_toList, bs_toList] at this; exact this
    have e3 : ∀ (a c : Int) (w : World), (Op.equalIn 9998 3 (.int .i64 a) (.int .i64 c)).run Try.prog w = .ok (a == c) w := fun a c w => run_equalIn_int (P := Try.prog) w 9997 3 .i64 .i64 a c u3
    simp only [Op.eqFields, n0, n1, n2, n3, t0, t1, t2, t3, o0, o1, o2, o3]
    have g0 : ("Path" : String) ≠ "_" := by decide
    have g1 : ("Text" : String) ≠ "_" := by decide
    have g2 : ("Blob" : String) ≠ "_" := by decide
    have g3 : ("Size" : String) ≠ "_" := by decide
    simp only [g0, g1, g2, g3, ne_eq, not_false_eq_true, if_true, part, Sem.run_bind, agg9, Result.andThen_ok, Bool.false_eq_true, if_false]
    simp [e9, e3, feq]
    by_cases hp : p = p' <;> by_cases ht : t = t' <;> by_cases hb : b = b' <;> by_cases hs : s = s' <;> simp [hp, ht, hb, hs]
theorem sequal_run (w : World) (k k' : Int) (q q' p t p' t' : List UInt8) (b s b' s' : Int) :
    (Op.equalIn 10000 37 (.agg #[.int .i64 k, .string (bs q), .string (bs p), .string (bs t), .int .i64 b, .int .i64 s]) (.agg #[.int .i64 k', .string (bs q'), .string (bs p'), .string (bs t'), .int .i64 b', .int .i64 s'])).run Try.prog w = .ok (seq ⟨k, q, ⟨p, t, b, s⟩⟩ ⟨k', q', ⟨p', t', b', s'⟩⟩) w := by
  rw [run_equalIn_struct w 9999 37 _ _ st37 held37]
  have h := flds37
  revert h
  generalize (Try.prog.fieldsOf 37).toList = L
  intro h
  have hl : L.length = 3 := by have := congrArg List.length h; simpa using this
  obtain ⟨f0, f1, f2, rfl⟩ : ∃ f0 f1 f2, L = [f0, f1, f2] := by
    rcases L with _ | ⟨f0, _ | ⟨f1, _ | ⟨f2, _ | ⟨f3, r⟩⟩⟩⟩
    · simp at hl
    · simp at hl
    · simp at hl
    · exact ⟨f0, f1, f2, rfl⟩
    · simp at hl
  · simp only [List.map_cons, List.map_nil, List.cons.injEq, Prod.mk.injEq, and_true] at h
    obtain ⟨⟨n0, t0, o0⟩, ⟨n1, t1, o1⟩, ⟨n2, t2, o2⟩⟩ := h
    have e9 : ∀ (a c : List UInt8) (w : World), (Op.equalIn 9999 9 (.string (bs a)) (.string (bs c))).run Try.prog w = .ok (a == c) w := fun a c w => by
      have := run_equalIn_string (P := Try.prog) w 9998 9 (bs a) (bs c) u9
      rw [bs_toList, bs_toList] at this; exact this
    have e3 : ∀ (a c : Int) (w : World), (Op.equalIn 9999 3 (.int .i64 a) (.int .i64 c)).run Try.prog w = .ok (a == c) w := fun a c w => run_equalIn_int (P := Try.prog) w 9998 3 .i64 .i64 a c u3
    simp only [Op.eqFields, n0, n1, n2, t0, t1, t2, o0, o1, o2]
    have g0 : ("Kind" : String) ≠ "_" := by decide
    have g1 : ("Path" : String) ≠ "_" := by decide
    have g2 : ("File" : String) ≠ "_" := by decide
    simp only [g0, g1, g2, ne_eq, not_false_eq_true, if_true, part, Sem.run_bind, agg3, Result.andThen_ok, Bool.false_eq_true, if_false]
    simp [e9, e3, fequal_run9, seq]
    by_cases hk : k = k' <;> by_cases hq : q = q' <;> simp [hk, hq] <;> (cases feq (⟨p, t, b, s⟩ : Fl) ⟨p', t', b', s'⟩ <;> rfl)
theorem sneq_run (w : World) (k k' : Int) (q q' p t p' t' : List UInt8) (b s b' s' : Int) :
    (binOp .neq 37 (.agg #[.int .i64 k, .string (bs q), .string (bs p), .string (bs t), .int .i64 b, .int .i64 s]) (.agg #[.int .i64 k', .string (bs q'), .string (bs p'), .string (bs t'), .int .i64 b', .int .i64 s'])).run Try.prog w = .ok (.bool (!seq ⟨k, q, ⟨p, t, b, s⟩⟩ ⟨k', q', ⟨p', t', b', s'⟩⟩)) w := by
  rw [run_neq_struct, sequal_run]; rfl
theorem seql_run (w : World) (k k' : Int) (q q' p t p' t' : List UInt8) (b s b' s' : Int) :
    (binOp .eql 37 (.agg #[.int .i64 k, .string (bs q), .string (bs p), .string (bs t), .int .i64 b, .int .i64 s]) (.agg #[.int .i64 k', .string (bs q'), .string (bs p'), .string (bs t'), .int .i64 b', .int .i64 s'])).run Try.prog w = .ok (.bool (seq ⟨k, q, ⟨p, t, b, s⟩⟩ ⟨k', q', ⟨p', t', b', s'⟩⟩)) w := by
  rw [run_eql_struct, sequal_run]; rfl
theorem sguard_run (w : World) (op : BinOp) (x y : Operand) (xs ys : Array Value) : (eqGuard op 37 x y (.agg xs) (.agg ys)).run Try.prog w = .ok () w := run_eqGuard_agg w op 37 x y xs ys guard37
set_option maxHeartbeats 2000000 in
set_option maxRecDepth 100000 in
theorem sameSteps_any {w : World} {va vb : Value} {A B : List Sp} (h1 : PS w va A) (h2 : PS w vb B) (hA : A.length ≤ 1000000000) :
    Calls Try.prog 13 #[va, vb] w fun e w' => e = .returned (.bool (sleq A B)) ∧ Below w.heap.size w w' := by
  have CA : Hid (PS w va A) := h1
  have CB : Hid (PS w vb B) := h2
  obtain ⟨a, c, rfl⟩ := h1.form
  obtain ⟨b, c', rfl⟩ := h2.form
  clear h1 h2
  have CA' : Hid (PS w (.slice a A.length c) A) := CA.out
  have CB' : Hid (PS w (.slice b B.length c') B) := CB.out
  clear CA CB
  by_cases hl : A.length = B.length
  · have e1 : (((A.length : Int)) != (B.length : Int)) = false := by rw [hl]; simp
    obtain ⟨r, hr⟩ : ∃ r, sleq A B = r := ⟨_, rfl⟩
    rw [hr]
    have HR : Hid (sleq (A.drop 0) (B.drop 0) = r) := hr
    clear hr
    have q1 := sneq_run
    have q2 := sguard_run
    go_enter Try.func13, Try.ntmps13
    go_wp2_with fail
    go_loopw [5] (fun i wr => ∃ k n : Nat, k ≤ A.length ∧ i = .int .i64 k ∧ wr = w.drewN n ∧ sleq (A.drop k) (B.drop k) = r) (fun i _ => A.length - (intOf i).toNat)
    case atStart => exact ⟨0, 0, Nat.zero_le _, rfl, rfl, HR.out⟩
    case round =>
      obtain ⟨k, n, hk, rfl, rfl, hd⟩ := hrel
      have HD : Hid (sleq (A.drop k) (B.drop k) = r) := hd
      clear hd
      by_cases hlt : k < A.length
      · have hlt2 : k < B.length := by omega
        have hkb : (k : Int) < (B.length : Int) := by omega
        have HD2 : Hid ((seq (A[k]'hlt) (B[k]'hlt2) && sleq (A.drop (k + 1)) (B.drop (k + 1))) = r) := by
          have h1 := HD.out
          rw [sleq_step A B k hlt hlt2] at h1; exact h1
        obtain ⟨g1, o1, ea, hg1, d0, d1, d2, d3, d4, d5⟩ := PS.at CA'.out (Below.refl _ w) hlt
        subst ea
        obtain ⟨g2, o2, ea, hg2, e0, e1', e2, e3, e4, e5⟩ := PS.at CB'.out (Below.refl _ w) hlt2
        subst ea
        generalize hf : A[k] = f at d0 d1 d2 d3 d4 d5 HD2
        generalize hg : B[k] = g at e0 e1' e2 e3 e4 e5 HD2
        clear hf hg
        obtain ⟨kd, q, ⟨p, t, bl, s⟩⟩ := f
        obtain ⟨kd2, q2', ⟨p2, t2, bl2, s2⟩⟩ := g
        simp only at d0 d1 d2 d3 d4 d5 e0 e1' e2 e3 e4 e5 HD2
        go_wp2_with fail
        go_region
        generalize seq _ _ = x at *
        cases x
        · go_wp2_with fail
          go_ret
          refine ⟨?_, ⟨rfl, rfl, rfl, Nat.le_refl _, fun _ _ => rfl⟩⟩
          have h1 := HD2.out
          rw [Bool.false_and] at h1
          rw [← h1]; rfl
        · go_wp2_with fail
          go_roundw
          case rel => exact ⟨k + 1, n + 1, by omega, by go_num, rfl, by have h1 := HD2.out; rwa [Bool.true_and] at h1⟩
          case measure => simp [intOf]; omega
      · obtain rfl : k = A.length := by omega
        go_wp2_with fail
        go_ret
        refine ⟨?_, ⟨rfl, rfl, rfl, Nat.le_refl _, fun _ _ => rfl⟩⟩
        have h1 := HD.out
        rw [List.drop_eq_nil_of_le (Nat.le_refl _), List.drop_eq_nil_of_le (by omega)] at h1
        rw [← h1]; rfl
  · have hd : ¬ (A.length : Int) = (B.length : Int) := by omega
    have e0 : sleq A B = false := sleq_len hl
    rw [e0]
    go_enter Try.func13, Try.ntmps13
    go_wp2_with fail
    go_ret
    exact ⟨rfl, Below.refl _ _⟩
end Go.Proofs.Ytfdcfcalbongeaa
