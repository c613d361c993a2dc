/-
  Two steps, two lists of steps held against each other.
  The document's find.
-/
import Derived.Test.YtfdcfcalbongeaaGreatPs
import Derived.Laws.StructEq
import Derived.Test.YtfdcfcalbongeaaGreatJPl2
import Derived.Test.YtfdcfcalbongeaaGreatJPRef
import Derived.Test.YtfdcfcalbongeaaGreatJFil
namespace Go.Proofs.YtfdcfcalbongeaaGreat
open Go.RowKit

def seq (s t : Sp) : Bool := s.kind == t.kind && s.p == t.p && feq s.f t.f
theorem seq_iff (s t : Sp) : seq s t = true ↔ s = t := by
  obtain ⟨k, p, f⟩ := s
  obtain ⟨k', p', f'⟩ := t
  unfold seq
  simp only [Bool.and_eq_true, beq_iff_eq, feq_iff, Sp.mk.injEq, and_assoc]
def sleq : List Sp → List Sp → Bool
  | [], [] => true
  | s :: a, t :: b => seq s t && sleq a b
  | _, _ => false
theorem sleq_iff : ∀ a b, sleq a b = true ↔ a = b
  | [], [] => by simp [sleq]
  | [], _ :: _ => by simp [sleq]
  | _ :: _, [] => by simp [sleq]
  | s :: a, t :: b => by simp [sleq, seq_iff, sleq_iff a b]
theorem sleq_step (a b : List Sp) (k : Nat) (ha : k < a.length) (hb : k < b.length) : sleq (a.drop k) (b.drop k) = (seq (a[k]'ha) (b[k]'hb) && sleq (a.drop (k + 1)) (b.drop (k + 1))) := by
  rw [List.drop_eq_getElem_cons ha, List.drop_eq_getElem_cons hb, sleq]
theorem sleq_len {a b : List Sp} (h : a.length ≠ b.length) : sleq a b = false := by
  cases e : sleq a b
  · rfl
  · exact absurd (congrArg List.length ((sleq_iff a b).1 e)) h
theorem st37 : Tryz.prog.underlying 42 = some (.struct (Tryz.prog.fieldsOf 42)) := by kernel_rfl
theorem held37 : Tryz.prog.stoodInHeld 42 = false := by kernel_rfl
theorem guard37 : Tryz.prog.eqGuardType Tryz.prog.depth 42 = false := by kernel_rfl
theorem flds37 : (Tryz.prog.fieldsOf 42).toList.map (fun f => (f.name, f.type, f.offset)) = [("Kind", 3, 0), ("Path", 9, 1), ("File", 30, 2)] := by kernel_rfl
theorem fequal_run9 (w : World) (p t p' t' : List UInt8) (b s b' s' : Int) :
    (Op.equalIn 9999 30 (.agg #[.string (bs p), .string (bs t), .int .i64 b, .int .i64 s]) (.agg #[.string (bs p'), .string (bs t'), .int .i64 b', .int .i64 s'])).run Tryz.prog w = .ok (feq ⟨p, t, b, s⟩ ⟨p', t', b', s'⟩) w := by
  rw [run_equalIn_struct w 9998 30 _ _ st30 held30]
  have h := flds30
  revert h
  generalize (Tryz.prog.fieldsOf 30).toList = L
  intro h
  have hl : L.length = 4 := by have := congrArg List.length h; simpa using this
  obtain ⟨f0, f1, f2, f3, rfl⟩ : ∃ f0 f1 f2 f3, L = [f0, f1, f2, f3] := by
    rcases L with _ | ⟨f0, _ | ⟨f1, _ | ⟨f2, _ | ⟨f3, _ | ⟨f4, r⟩⟩⟩⟩⟩
    · simp at hl
    · simp at hl
    · simp at hl
    · simp at hl
    · exact ⟨f0, f1, f2, f3, rfl⟩
    · simp at hl
  · simp only [List.map_cons, List.map_nil, List.cons.injEq, Prod.mk.injEq, and_true] at h
    obtain ⟨⟨n0, t0, o0⟩, ⟨n1, t1, o1⟩, ⟨n2, t2, o2⟩, ⟨n3, t3, o3⟩⟩ := h
    have e9 : ∀ (a c : List UInt8) (w : World), (Op.equalIn 9998 9 (.string (bs a)) (.string (bs c))).run Tryz.prog w = .ok (a == c) w := fun a c w => by
      have := run_equalIn_string (P := Tryz.prog) w 9997 9 (bs a) (bs c) u9
      rw [bs_toList, bs_toList] at this; exact this
    have e3 : ∀ (a c : Int) (w : World), (Op.equalIn 9998 3 (.int .i64 a) (.int .i64 c)).run Tryz.prog w = .ok (a == c) w := fun a c w => run_equalIn_int (P := Tryz.prog) w 9997 3 .i64 .i64 a c u3
    simp only [Op.eqFields, n0, n1, n2, n3, t0, t1, t2, t3, o0, o1, o2, o3]
    have g0 : ("Path" : String) ≠ "_" := by decide
    have g1 : ("Text" : String) ≠ "_" := by decide
    have g2 : ("Blob" : String) ≠ "_" := by decide
    have g3 : ("Size" : String) ≠ "_" := by decide
    simp only [g0, g1, g2, g3, ne_eq, not_false_eq_true, if_true, part, Sem.run_bind, agg9, Result.andThen_ok, Bool.false_eq_true, if_false]
    simp [e9, e3, feq]
    by_cases hp : p = p' <;> by_cases ht : t = t' <;> by_cases hb : b = b' <;> by_cases hs : s = s' <;> simp [hp, ht, hb, hs]
theorem sequal_run (w : World) (k k' : Int) (q q' p t p' t' : List UInt8) (b s b' s' : Int) :
    (Op.equalIn 10000 42 (.agg #[.int .i64 k, .string (bs q), .string (bs p), .string (bs t), .int .i64 b, .int .i64 s]) (.agg #[.int .i64 k', .string (bs q'), .string (bs p'), .string (bs t'), .int .i64 b', .int .i64 s'])).run Tryz.prog w = .ok (seq ⟨k, q, ⟨p, t, b, s⟩⟩ ⟨k', q', ⟨p', t', b', s'⟩⟩) w := by
  rw [run_equalIn_struct w 9999 42 _ _ st37 held37]
  have h := flds37
  revert h
  generalize (Tryz.prog.fieldsOf 42).toList = L
  intro h
  have hl : L.length = 3 := by have := congrArg List.length h; simpa using this
  obtain ⟨f0, f1, f2, rfl⟩ : ∃ f0 f1 f2, L = [f0, f1, f2] := by
    rcases L with _ | ⟨f0, _ | ⟨f1, _ | ⟨f2, _ | ⟨f3, r⟩⟩⟩⟩
    · simp at hl
    · simp at hl
    · simp at hl
    · exact ⟨f0, f1, f2, rfl⟩
    · simp at hl
  · simp only [List.map_cons, List.map_nil, List.cons.injEq, Prod.mk.injEq, and_true] at h
    obtain ⟨⟨n0, t0, o0⟩, ⟨n1, t1, o1⟩, ⟨n2, t2, o2⟩⟩ := h
    have e9 : ∀ (a c : List UInt8) (w : World), (Op.equalIn 9999 9 (.string (bs a)) (.string (bs c))).run Tryz.prog w = .ok (a == c) w := fun a c w => by
      have := run_equalIn_string (P := Tryz.prog) w 9998 9 (bs a) (bs c) u9
      rw [bs_toList, bs_toList] at this; exact this
    have e3 : ∀ (a c : Int) (w : World), (Op.equalIn 9999 3 (.int .i64 a) (.int .i64 c)).run Tryz.prog w = .ok (a == c) w := fun a c w => run_equalIn_int (P := Tryz.prog) w 9998 3 .i64 .i64 a c u3
    simp only [Op.eqFields, n0, n1, n2, t0, t1, t2, o0, o1, o2]
    have g0 : ("Kind" : String) ≠ "_" := by decide
    have g1 : ("Path" : String) ≠ "_" := by decide
    have g2 : ("File" : String) ≠ "_" := by decide
    simp only [g0, g1, g2, ne_eq, not_false_eq_true, if_true, part, Sem.run_bind, agg3, Result.andThen_ok, Bool.false_eq_true, if_false]
    simp [e9, e3, fequal_run9, seq]
    by_cases hk : k = k' <;> by_cases hq : q = q' <;> simp [hk, hq] <;> (cases feq (⟨p, t, b, s⟩ : Fl) ⟨p', t', b', s'⟩ <;> rfl)
theorem sneq_run (w : World) (k k' : Int) (q q' p t p' t' : List UInt8) (b s b' s' : Int) :
    (binOp .neq 42 (.agg #[.int .i64 k, .string (bs q), .string (bs p), .string (bs t), .int .i64 b, .int .i64 s]) (.agg #[.int .i64 k', .string (bs q'), .string (bs p'), .string (bs t'), .int .i64 b', .int .i64 s'])).run Tryz.prog w = .ok (.bool (!seq ⟨k, q, ⟨p, t, b, s⟩⟩ ⟨k', q', ⟨p', t', b', s'⟩⟩)) w := by
  rw [run_neq_struct, sequal_run]; rfl
theorem seql_run (w : World) (k k' : Int) (q q' p t p' t' : List UInt8) (b s b' s' : Int) :
    (binOp .eql 42 (.agg #[.int .i64 k, .string (bs q), .string (bs p), .string (bs t), .int .i64 b, .int .i64 s]) (.agg #[.int .i64 k', .string (bs q'), .string (bs p'), .string (bs t'), .int .i64 b', .int .i64 s'])).run Tryz.prog w = .ok (.bool (seq ⟨k, q, ⟨p, t, b, s⟩⟩ ⟨k', q', ⟨p', t', b', s'⟩⟩)) w := by
  rw [run_eql_struct, sequal_run]; rfl
theorem sguard_run (w : World) (op : BinOp) (x y : Operand) (xs ys : Array Value) : (eqGuard op 42 x y (.agg xs) (.agg ys)).run Tryz.prog w = .ok () w := run_eqGuard_agg w op 42 x y xs ys guard37
set_option maxHeartbeats 2000000 in
set_option maxRecDepth 100000 in
theorem sameSteps_any {w : World} {va vb : Value} {A B : List Sp} (h1 : PS w va A) (h2 : PS w vb B) (hA : A.length ≤ 1000000000) :
    Calls Tryz.prog 9 #[va, vb] w fun e w' => e = .returned (.bool (sleq A B)) ∧ Below w.heap.size w w' := by
  have CA : Hid (PS w va A) := h1
  have CB : Hid (PS w vb B) := h2
  obtain ⟨a, c, rfl⟩ := h1.form
  obtain ⟨b, c', rfl⟩ := h2.form
  clear h1 h2
  have CA' : Hid (PS w (.slice a A.length c) A) := CA.out
  have CB' : Hid (PS w (.slice b B.length c') B) := CB.out
  clear CA CB
  by_cases hl : A.length = B.length
  · have e1 : (((A.length : Int)) != (B.length : Int)) = false := by rw [hl]; simp
    obtain ⟨r, hr⟩ : ∃ r, sleq A B = r := ⟨_, rfl⟩
    rw [hr]
    have HR : Hid (sleq (A.drop 0) (B.drop 0) = r) := hr
    clear hr
    have q1 := sneq_run
    have q2 := sguard_run
    go_enter Tryz.func9, Tryz.ntmps9
    go_wp2_with fail
    go_loopw [5] (fun i wr => ∃ k n : Nat, k ≤ A.length ∧ i = .int .i64 k ∧ wr = w.drewN n ∧ sleq (A.drop k) (B.drop k) = r) (fun i _ => A.length - (intOf i).toNat)
    case atStart => exact ⟨0, 0, Nat.zero_le _, rfl, rfl, HR.out⟩
    case round =>
      obtain ⟨k, n, hk, rfl, rfl, hd⟩ := hrel
      have HD : Hid (sleq (A.drop k) (B.drop k) = r) := hd
      clear hd
      by_cases hlt : k < A.length
      · have hlt2 : k < B.length := by omega
        have hkb : (k : Int) < (B.length : Int) := by omega
        have HD2 : Hid ((seq (A[k]'hlt) (B[k]'hlt2) && sleq (A.drop (k + 1)) (B.drop (k + 1))) = r) := by
          have h1 := HD.out
          rw [sleq_step A B k hlt hlt2] at h1; exact h1
        obtain ⟨g1, o1, ea, hg1, d0, d1, d2, d3, d4, d5⟩ := PS.at CA'.out (Below.refl _ w) hlt
        subst ea
        obtain ⟨g2, o2, ea, hg2, e0, e1', e2, e3, e4, e5⟩ := PS.at CB'.out (Below.refl _ w) hlt2
        subst ea
        generalize hf : A[k] = f at d0 d1 d2 d3 d4 d5 HD2
        generalize hg : B[k] = g at e0 e1' e2 e3 e4 e5 HD2
        clear hf hg
        obtain ⟨kd, q, ⟨p, t, bl, s⟩⟩ := f
        obtain ⟨kd2, q2', ⟨p2, t2, bl2, s2⟩⟩ := g
        simp only at d0 d1 d2 d3 d4 d5 e0 e1' e2 e3 e4 e5 HD2
        go_wp2_with fail
        go_region
        generalize seq _ _ = x at *
        cases x
        · go_wp2_with fail
          go_ret
          refine ⟨?_, ⟨rfl, rfl, rfl, Nat.le_refl _, fun _ _ => rfl⟩⟩
          have h1 := HD2.out
          rw [Bool.false_and] at h1
          rw [← h1]; rfl
        · go_wp2_with fail
          go_roundw
          case rel => exact ⟨k + 1, n + 1, by omega, by go_num, rfl, by have h1 := HD2.out; rwa [Bool.true_and] at h1⟩
          case measure => simp [intOf]; omega
      · obtain rfl : k = A.length := by omega
        go_wp2_with fail
        go_ret
        refine ⟨?_, ⟨rfl, rfl, rfl, Nat.le_refl _, fun _ _ => rfl⟩⟩
        have h1 := HD.out
        rw [List.drop_eq_nil_of_le (Nat.le_refl _), List.drop_eq_nil_of_le (by omega)] at h1
        rw [← h1]; rfl
  · have hd : ¬ (A.length : Int) = (B.length : Int) := by omega
    have e0 : sleq A B = false := sleq_len hl
    rw [e0]
    go_enter Tryz.func9, Tryz.ntmps9
    go_wp2_with fail
    go_ret
    exact ⟨rfl, Below.refl _ _⟩
end Go.Proofs.YtfdcfcalbongeaaGreat

namespace Go.Proofs.YtfdcfcalbongeaaGreat
open Go.RowKit
set_option maxRecDepth 100000 in
set_option maxHeartbeats 4000000 in
theorem rfind_any {w : World} {v : Value} {l : List Fl} (q : List UInt8) (h : FS w v l) (hlen : l.length ≤ 1000000000) :
    Calls Tryz.prog 13 #[v, .string (bs q)] w fun e w' => e = .returned (.tuple #[(fopt (fnd l q)).val, .bool (fnd l q).isSome]) ∧ Below w.heap.size w w' := by
  obtain ⟨r, hr⟩ : ∃ r, fnd l q = r := ⟨_, rfl⟩
  rw [hr]
  have HR : Hid (fnd (l.drop 0) q = r) := hr
  have H : Hid (FS w v l) := h
  clear hr
  obtain ⟨a, c, rfl, _⟩ := h.form
  clear h
  obtain ⟨n, hn⟩ : ∃ n, l.length = n := ⟨_, rfl⟩
  have H' : Hid (FS w (.slice a l.length c) l) := H.out
  clear H
  rw [hn] at hlen ⊢
  have HN : Hid (l.length = n) := hn
  clear hn
  obtain ⟨A, hA⟩ : ∃ A, Value.tuple #[(fopt r).val, .bool r.isSome] = A := ⟨_, rfl⟩
  rw [hA]
  have HA : Hid (Value.tuple #[(fopt r).val, .bool r.isSome] = A) := hA
  clear hA
  rename_i hform
  clear hform
  have hq := bs_toList q
  go_enter Tryz.func13, Tryz.ntmps13
  go_wp2_with fail
  go_loopw [6] (fun i wr => ∃ k : Nat, k ≤ n ∧ i = .int .i64 k ∧ Below w.heap.size w wr ∧ RBf wr w.heap.size zf ∧ fnd (l.drop k) q = r) (fun i _ => n - (intOf i).toNat)
  case atStart => exact ⟨0, by omega, rfl, balloc _ _, RBf.new w zf, HR.out⟩
  case round =>
    obtain ⟨k, hk, rfl, hb, hrb, hl⟩ := hrel
    have HB : Hid (Below w.heap.size w wr) := hb
    have HZ : Hid (RBf wr w.heap.size zf) := hrb
    have HL : Hid (fnd (l.drop k) q = r) := hl
    have hlt0 := hrb.lt
    clear hb hl hrb
    by_cases hlt : k < n
    · have hkl : k < l.length := by have := HN.out; omega
      obtain ⟨b, off, ea, hbw, d0, d1, d2, d3⟩ := FS.at H'.out HB.out hkl
      subst ea
      obtain ⟨f, hf⟩ : ∃ f, l[k] = f := ⟨_, rfl⟩
      rw [hf] at d0 d1 d2 d3
      have HS2 : Hid ((if f.path = q then some f else fnd (l.drop (k + 1)) q) = r) := by
        have h1 := HL.out
        rw [fnd_step l k hkl, hf] at h1; exact h1
      clear hf
      obtain ⟨p, t, bl, s⟩ := f
      simp only at d0 d1 d2 d3 HS2
      have k1 : (0 : Int) ≤ (k : Int) := by omega
      have k2 : (k : Int) < (n : Int) := by omega
      have hp := bs_toList p
      obtain ⟨z0, z1, z2, z3, y0, y1, y2, y3⟩ := HZ.out.cells
      by_cases hpq : p = q
      · have hd : (p == q) = true := by simpa using hpq
        have HPQ : Hid (p = q) := hpq
        clear hpq
        go_wp2_with fail
        refine bodyPost_ret (results_ct rfl _ _ w.heap.size 30 #[.string (bs p), .string (bs t), .int .i64 bl, .int .i64 s] (0, 0) _ rfl ?_ Tryz.underlying30 rfl (by kernel_rfl)) rfl ?_
        · exact (HZ.out.set ⟨p, t, bl, s⟩).blk
        refine ⟨?_, bset4 HB.out (Nat.le_refl _) _ _ _ _⟩
        have h1 := HS2.out
        rw [if_pos HPQ.out] at h1
        rw [← HA.out, ← h1]; rfl
      · have hd : (p == q) = false := by simpa using hpq
        have HPQ : Hid (¬ p = q) := hpq
        clear hpq
        go_wp2_with fail
        go_roundw
        case rel =>
          refine ⟨k + 1, by omega, by go_num, HB.out, HZ.out, ?_⟩
          have h1 := HS2.out
          rw [if_neg HPQ.out] at h1
          exact h1
        case measure => simp [intOf]; omega
    · obtain rfl : k = n := by omega
      obtain ⟨z0, z1, z2, z3, y0, y1, y2, y3⟩ := HZ.out.cells
      go_wp2_with fail
      refine bodyPost_ret (results_ct rfl _ _ w.heap.size 30 #[.string (bs []), .string (bs []), .int .i64 0, .int .i64 0] (0, 0) _ rfl ?_ Tryz.underlying30 rfl (by kernel_rfl)) rfl ?_
      · exact (HZ.out.set zf).blk
      refine ⟨?_, bset4 HB.out (Nat.le_refl _) _ _ _ _⟩
      have h1 := HL.out
      rw [List.drop_eq_nil_of_le (by have := HN.out; omega)] at h1
      rw [← HA.out, ← h1]; rfl
end Go.Proofs.YtfdcfcalbongeaaGreat

namespace Go.Proofs.YtfdcfcalbongeaaGreat
open Go.RowKit

set_option maxRecDepth 100000 in
set_option maxHeartbeats 1000000 in
theorem rbase_any (l : List UInt8) (w : World) (hl : l.length < 9223372036854775807) :
    Calls Tryz.prog 50 #[.string (bs l)] w fun e w' => e = .returned (.string (bs (base l))) ∧ w' = w := by
  have HL : Hid (l.length < 9223372036854775807) := hl
  have hz : (bs l).size = l.length := rfl
  have h2 := lst_lt l
  have h3 := lst_ge l
  obtain ⟨n, hn⟩ : ∃ n : Nat, lst l = (n : Int) - 1 := ⟨(lst l + 1).toNat, by omega⟩
  have hd0 : base l = l.drop n := by unfold base; congr 1; omega
  rw [hd0]
  have HE : Hid ((bs l).extract n l.length = bs (l.drop n)) := extract_from l n
  have hnl : n ≤ l.length := by omega
  clear h2 h3
  go_enter Tryz.func50, Tryz.ntmps50
  go_wp2_with fail
  refine (rlast_any _ _ HL.out).mono ?_
  rintro e w1 ⟨rfl, rfl⟩
  rw [hn]
  go_wp2_with fail
  go_ret
  exact ⟨by rw [← HE.out]; rfl, rfl⟩

end Go.Proofs.YtfdcfcalbongeaaGreat
