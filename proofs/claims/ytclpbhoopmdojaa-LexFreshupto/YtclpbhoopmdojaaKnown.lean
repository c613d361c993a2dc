/-
  Tokens held against each other; the document's examples.
-/
import Derived.Test.YtclpbhoopmdojaaRtok
namespace Go.Proofs.Ytclpbhoopmdojaa
open Go.RowKit

/-- are two tokens one? -/
def teq (a b : Tk) : Bool := decide (a = b)
theorem teq_self (a : Tk) : teq a a = true := decide_eq_true rfl
theorem st26 : Try.prog.underlying 26 = some (.struct (Try.prog.fieldsOf 26)) := by kernel_rfl
theorem held26 : Try.prog.stoodInHeld 26 = false := by kernel_rfl
theorem guard26 : Try.prog.eqGuardType Try.prog.depth 26 = false := by kernel_rfl
theorem flds26 : (Try.prog.fieldsOf 26).toList.map (fun f => (f.name, f.type, f.offset)) = [("Kind", 3, 0), ("Text", 9, 1), ("At", 3, 2)] := by kernel_rfl
theorem u9 : Try.prog.underlying 9 = some .string := by kernel_rfl
theorem u3 : Try.prog.underlying 3 = some (.int .i64) := by kernel_rfl
theorem agg9 (w : World) : (isAgg 9).run Try.prog w = .ok false w := by simp [isAgg, run_underlying u9]
theorem agg3 (w : World) : (isAgg 3).run Try.prog w = .ok false w := by simp [isAgg, run_underlying u3]
theorem equal_run (w : World) (t t' : List UInt8) (k a k' a' : Int) :
    (Op.equalIn 10000 26 (.agg #[.int .i64 k, .string (bs t), .int .i64 a]) (.agg #[.int .i64 k', .string (bs t'), .int .i64 a'])).run Try.prog w = .ok (teq ⟨k, t, a⟩ ⟨k', t', a'⟩) w := by
  rw [run_equalIn_struct w 9999 26 _ _ st26 held26]
  have h := flds26
  revert h
  generalize (Try.prog.fieldsOf 26).toList = L
  intro h
  have hl : L.length = 3 := by have := congrArg List.length h; simpa using this
  obtain ⟨f0, f1, f2, rfl⟩ : ∃ f0 f1 f2, L = [f0, f1, f2] := by
    rcases L with _ | ⟨f0, _ | ⟨f1, _ | ⟨f2, _ | ⟨f3, r⟩⟩⟩⟩
    · simp at hl
    · simp at hl
    · simp at hl
    · exact ⟨f0, f1, f2, rfl⟩
    · simp at hl
  · simp only [List.map_cons, List.map_nil, List.cons.injEq, Prod.mk.injEq, and_true] at h
    obtain ⟨⟨n0, t0, o0⟩, ⟨n1, t1, o1⟩, ⟨n2, t2, o2⟩⟩ := h
    have e9 : ∀ (a c : List UInt8) (w : World), (Op.equalIn 9999 9 (.string (bs a)) (.string (bs c))).run Try.prog w = .ok (a == c) w := fun a c w => by
      have := run_equalIn_string (P := Try.prog) w 9998 9 (bs a) (bs c) u9
      rw [bs_toList, bs_toList] at this; exact this
    have e3 : ∀ (a c : Int) (w : World), (Op.equalIn 9999 3 (.int .i64 a) (.int .i64 c)).run Try.prog w = .ok (a == c) w := fun a c w => run_equalIn_int (P := Try.prog) w 9998 3 .i64 .i64 a c u3
    simp only [Op.eqFields, n0, n1, n2, t0, t1, t2, o0, o1, o2]
    have g0 : ("Kind" : String) ≠ "_" := by decide
    have g1 : ("Text" : String) ≠ "_" := by decide
    have g2 : ("At" : String) ≠ "_" := by decide
    simp only [g0, g1, g2, ne_eq, not_false_eq_true, if_true, part, Sem.run_bind, agg3, Result.andThen_ok, Bool.false_eq_true, if_false]
    simp [e9, e3, teq]
    by_cases hk : k = k' <;> by_cases ht : t = t' <;> by_cases ha : a = a' <;> simp [hk, ht, ha]
theorem eql_run (w : World) (t t' : List UInt8) (k a k' a' : Int) :
    (binOp .eql 26 (.agg #[.int .i64 k, .string (bs t), .int .i64 a]) (.agg #[.int .i64 k', .string (bs t'), .int .i64 a'])).run Try.prog w = .ok (.bool (teq ⟨k, t, a⟩ ⟨k', t', a'⟩)) w := by
  rw [run_eql_struct, equal_run]; rfl
theorem guard_run (w : World) (op : BinOp) (x y : Operand) (xs ys : Array Value) : (eqGuard op 26 x y (.agg xs) (.agg ys)).run Try.prog w = .ok () w := run_eqGuard_agg w op 26 x y xs ys guard26

theorem OwnT.form' {e : TypeId} {base : Nat} {w : World} {v : Value} {l : List Tk} (h : OwnT e base w v l) : (v = .slice none 0 0 ∧ l = []) ∨ ∃ g c, v = .slice (some ⟨g, 0, none⟩) l.length c ∧ l.length ≤ c ∧ base ≤ g ∧ g < w.heap.size := by
  rcases h.2 with ⟨rfl, h0⟩ | ⟨g, cap, cur, rfl, hb, hg, hn, _⟩
  · exact .inl ⟨rfl, List.eq_nil_of_length_eq_zero h0⟩
  · exact .inr ⟨g, cap, rfl, hn, hb, (Array.getElem?_eq_some_iff.1 hg).1⟩
theorem own_cellT {e : TypeId} {base : Nat} {w : World} {g n cap : Nat} {l : List Tk} (h : OwnT e base w (.slice (some ⟨g, 0, none⟩) n cap) l) (i : Nat) (hi : i < l.length) :
    (w.cell? ⟨g, i * 3, none⟩ = some (.int .i64 l[i].kind) ∧ w.cell? ⟨g, i * 3 + 1, none⟩ = some (.string (bs l[i].text)) ∧ w.cell? ⟨g, i * 3 + 2, none⟩ = some (.int .i64 l[i].at')) ∧
    (w.frozen? ⟨g, i * 3, none⟩ = false ∧ w.frozen? ⟨g, i * 3 + 1, none⟩ = false ∧ w.frozen? ⟨g, i * 3 + 2, none⟩ = false) ∧ base ≤ g ∧ g < w.heap.size := by
  have hlt := h.lt (k := g) rfl
  obtain ⟨c0, c1, c2⟩ := tc_get l i hi
  have hc : ∀ j u, (tc l)[j]? = some u → w.cell? ⟨g, j, none⟩ = some u := fun j u hu => by
    have := World.ownsRow.cells h (g := g) rfl j u hu
    rw [add_lit, Nat.zero_add] at this
    exact this
  have hf : ∀ j, w.frozen? ⟨g, j, none⟩ = false := fun j => by
    rcases h.2 with ⟨e, _⟩ | ⟨g', cap', cur, e, hbg, hg, _⟩
    · cases e
    · injection e with e1 e2 e3
      injection e1 with e1
      injection e1 with e1 _ _
      subst e1
      simp [World.frozen?, hg]
  exact ⟨⟨hc _ _ c0, hc _ _ c1, hc _ _ c2⟩, ⟨hf _, hf _, hf _⟩, hlt⟩

set_option maxRecDepth 100000 in
set_option maxHeartbeats 4000000 in
theorem alike_any {w : World} {va vb : Value} {l : List Tk} (ha : TS w va l) (hb : TS w vb l) (hl : l.length ≤ 1000000000) :
    Calls Try.prog 12 #[va, vb] w fun e w' => e = .returned (.bool true) ∧ Below w.heap.size w w' := by
  obtain ⟨aa, ca, rfl, _⟩ := ha.form
  obtain ⟨ab, cb, rfl, _⟩ := hb.form
  have HA : Hid (TS w (.slice aa l.length ca) l ∧ TS w (.slice ab l.length cb) l) := ⟨ha, hb⟩
  clear ha hb
  obtain ⟨n, hn⟩ : ∃ n, l.length = n := ⟨_, rfl⟩
  have HN : Hid (l.length = n) := hn
  rw [hn] at HA hl ⊢
  clear hn
  go_enter Try.func12, Try.ntmps12
  go_wp2_with fail
  go_loopw [5] (fun s wr => ∃ k : Nat, k ≤ n ∧ s = .int .i64 k ∧ Below w.heap.size w wr) (fun s _ => n - (intOf s).toNat)
  case atStart => exact ⟨0, by omega, rfl, Below.refl _ _⟩
  case round =>
    obtain ⟨k, hk, rfl, hb⟩ := hrel
    have HB : Hid (Below w.heap.size w wr) := hb
    clear hb
    by_cases hlt : k < n
    · have hkl : k < l.length := by rw [HN.out]; exact hlt
      obtain ⟨b1, o1, rfl, _, c0, c1, c2⟩ := HA.out.1.at HB.out hkl
      obtain ⟨b2, o2, rfl, _, d0, d1, d2⟩ := HA.out.2.at HB.out hkl
      obtain ⟨⟨tk, tt, ta⟩, htk⟩ : ∃ t, l[k] = t := ⟨_, rfl⟩
      rw [htk] at c0 c1 c2 d0 d1 d2
      simp only at c0 c1 c2 d0 d1 d2
      clear htk
      have k1 : (0 : Int) ≤ (k : Int) := by omega
      have k2 : (k : Int) < (n : Int) := by omega
      have q1 : (tk != tk) = false := by simp
      have q2 : ((bs tt).toList != (bs tt).toList) = false := by simp
      have q3 : (ta != ta) = false := by simp
      go_wp2_with fail
      go_quiet (fail)
      go_wp2_with fail
      go_roundw
      case rel => exact ⟨k + 1, by omega, by go_num, bstep HB.out (bd _ _)⟩
      case measure => simp [intOf]; omega
    · obtain rfl : k = n := by omega
      go_wp2_with fail
      go_ret
      exact ⟨rfl, HB.out⟩

theorem toks_a : toks [97, 59, 98] = ([⟨1, [97], 0⟩], 1) := by
  unfold toks
  rw [tg_tok (by decide)]
  show ((⟨1, [97], 0⟩ : Tk) :: (tg [59, 98] 1).1, (tg [59, 98] 1).2) = _
  rw [tg_other (by decide) (by decide), tq_bad (by decide)]
  rfl
theorem toks_b : toks [97, 35, 98, 10, 99] = ([⟨1, [97], 0⟩, ⟨1, [99], 4⟩], -1) := by
  unfold toks
  rw [tg_tok (by decide)]
  show ((⟨1, [97], 0⟩ : Tk) :: (tg [35, 98, 10, 99] 1).1, (tg [35, 98, 10, 99] 1).2) = _
  rw [tg_comment]
  show ((⟨1, [97], 0⟩ : Tk) :: (tg [10, 99] 3).1, (tg [10, 99] 3).2) = _
  rw [tg_blank (by decide), tg_tok (by decide)]
  show ((⟨1, [97], 0⟩ : Tk) :: (⟨1, [99], 4⟩ : Tk) :: (tg [] 5).1, (tg [] 5).2) = _
  rw [tg_nil]

set_option maxRecDepth 100000 in
set_option maxHeartbeats 4000000 in
theorem known_any (w : World) : Calls Try.prog 8 #[] w fun e w' => e = .returned (.bool true) ∧ Below w.heap.size w w' := by
  have H1 : Hid (∀ w : World, Calls Try.prog 7 #[.string (bs [97, 59, 98])] w fun e w' => ∃ v, e = .returned (.tuple #[v, .int .i64 1]) ∧ OwnT 26 w.heap.size w' v [⟨1, [97], 0⟩] ∧ Below w.heap.size w w') := fun w => by
    have h := tokens_any [97, 59, 98] w (by decide)
    rw [toks_a] at h
    exact h
  have H2 : Hid (∀ w : World, Calls Try.prog 7 #[.string (bs [97, 35, 98, 10, 99])] w fun e w' => ∃ v, e = .returned (.tuple #[v, .int .i64 (-1)]) ∧ OwnT 26 w.heap.size w' v [⟨1, [97], 0⟩, ⟨1, [99], 4⟩] ∧ Below w.heap.size w w') := fun w => by
    have h := tokens_any [97, 35, 98, 10, 99] w (by decide)
    rw [toks_b] at h
    exact h
  have q1 : ∀ w : World, (binOp .eql 26 (.agg #[.int .i64 1, .string (bs [97]), .int .i64 0]) (.agg #[.int .i64 1, .string ⟨#[97]⟩, .int .i64 0])).run Try.prog w = .ok (.bool true) w := fun w => by
    have h := eql_run w [97] [97] 1 0 1 0
    rw [teq_self] at h
    exact h
  have q2 : ∀ w : World, (binOp .eql 26 (.agg #[.int .i64 1, .string (bs [99]), .int .i64 4]) (.agg #[.int .i64 1, .string ⟨#[99]⟩, .int .i64 4])).run Try.prog w = .ok (.bool true) w := fun w => by
    have h := eql_run w [99] [99] 1 4 1 4
    rw [teq_self] at h
    exact h
  have q3 := guard_run
  go_enter Try.func8, Try.ntmps8
  go_wp2_with fail
  refine (H1.out _).mono ?_
  rintro e w1 ⟨v1, rfl, ho1, hb1⟩
  have X1 : Hid (OwnT 26 w.heap.size w1 v1 [⟨1, [97], 0⟩] ∧ Below w.heap.size w w1) := ⟨ho1, hb1⟩
  clear ho1 hb1
  go_wp2_with fail
  refine (H2.out _).mono ?_
  rintro e w2 ⟨v2, rfl, ho2, hb2⟩
  have X2 : Hid (OwnT 26 w.heap.size w2 v1 [⟨1, [97], 0⟩] ∧ OwnT 26 w1.heap.size w2 v2 [⟨1, [97], 0⟩, ⟨1, [99], 4⟩] ∧ Below w.heap.size w w2) := ⟨X1.out.1.later hb2, ho2, bstep X1.out.2 hb2⟩
  clear ho2 hb2
  rcases X2.out.1.form' with ⟨_, h⟩ | ⟨g1, p1, rfl, _, _, _⟩
  · simp at h
  rcases X2.out.2.1.form' with ⟨_, h⟩ | ⟨g2, p2, rfl, _, _, _⟩
  · simp at h
  obtain ⟨⟨c0, c1, c2⟩, _, _⟩ := own_cellT X2.out.1 0 (by simp)
  obtain ⟨⟨d0, d1, d2⟩, _, _⟩ := own_cellT X2.out.2.1 1 (by simp)
  simp at c0 c1 c2 d0 d1 d2
  go_wp2_with fail
  go_ret
  exact ⟨rfl, X2.out.2.2⟩
end Go.Proofs.Ytclpbhoopmdojaa
