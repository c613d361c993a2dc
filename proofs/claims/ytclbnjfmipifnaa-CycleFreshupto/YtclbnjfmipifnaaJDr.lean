/-
  The document's Less, In; the law's Same.
  The document's Rising.
-/
import Derived.Test.YtclbnjfmipifnaaJRw
namespace Go.Proofs.Ytclbnjfmipifnaa
open Go.RowKit Go.Maps

theorem neq_run (w : World) (p t p' t' : List UInt8) :
    (binOp .neq 35 (.agg #[.string (bs p), .string (bs t)]) (.agg #[.string (bs p'), .string (bs t')])).run Try.prog w = .ok (.bool (!decide ((⟨p, t⟩ : Lb) = ⟨p', t'⟩))) w := by
  rw [run_neq_struct, equal_run]; rfl
/-- are two labels one? -/
def leq (a b : Lb) : Bool := decide (a = b)
theorem eql_run' (w : World) (p t p' t' : List UInt8) :
    (binOp .eql 35 (.agg #[.string (bs p), .string (bs t)]) (.agg #[.string (bs p'), .string (bs t')])).run Try.prog w = .ok (.bool (leq ⟨p, t⟩ ⟨p', t'⟩)) w := eql_run w p t p' t'
theorem neq_run' (w : World) (p t p' t' : List UInt8) :
    (binOp .neq 35 (.agg #[.string (bs p), .string (bs t)]) (.agg #[.string (bs p'), .string (bs t')])).run Try.prog w = .ok (.bool (!leq ⟨p, t⟩ ⟨p', t'⟩)) w := neq_run w p t p' t'

set_option maxRecDepth 100000 in
set_option maxHeartbeats 2000000 in
theorem less_any (a b : Lb) (w : World) (ha : Lu a) (hb : Lu b) : Calls Try.prog 11 #[a.val, b.val] w fun e w' => e = .returned (.bool (ltL a b)) ∧ Below w.heap.size w w' := by
  have HC : Hid (∀ w : World, Calls Try.prog 31 #[a.val, b.val] w fun e w' => e = .returned (.int .i64 (cmpL a b)) ∧ Below w.heap.size w w') := fun w => rlcmp_any a b w ha hb
  have HZ : Hid (cmpL a b = 0 → a = b) := (cmpL_zero a b).1
  unfold ltL
  clear ha hb
  obtain ⟨p, n⟩ := a
  obtain ⟨q, m⟩ := b
  generalize cmpL ⟨p, n⟩ ⟨q, m⟩ = c at *
  simp only [Lb.val] at *
  have HA : Hid (RB ((w.alloc (.cells #[.string (bs p), .string (bs n)] 35)).alloc (.cells #[.string (bs q), .string (bs m)] 35)) w.heap.size ⟨p, n⟩) := (RB.new w ⟨p, n⟩).later (balloc _ _)
  have HB : Hid (RB ((w.alloc (.cells #[.string (bs p), .string (bs n)] 35)).alloc (.cells #[.string (bs q), .string (bs m)] 35)) (w.heap.size + 1) ⟨q, m⟩) := by
    show RB _ _ _
    have := RB.new (w.alloc (.cells #[.string (bs p), .string (bs n)] 35)) ⟨q, m⟩
    simpa using this
  have HB0 : Hid (Below w.heap.size w ((w.alloc (.cells #[.string (bs p), .string (bs n)] 35)).alloc (.cells #[.string (bs q), .string (bs m)] 35))) := bstep (balloc _ _) (balloc _ _)
  go_enter Try.func11, Try.ntmps11
  go_wp2_with fail
  refine (HC.out _).mono ?_
  rintro e w1 ⟨rfl, hb1⟩
  obtain ⟨c0, _, _, _⟩ := (HA.out.later hb1).cells
  obtain ⟨d0, _, _, _⟩ := (HB.out.later hb1).cells
  simp only at c0 d0
  have HB1 : Hid (Below w.heap.size w w1) := bstep HB0.out hb1
  clear hb1
  by_cases hc : c < 0
  · go_wp2_with fail
    go_ret
    exact ⟨by simp [hc], HB1.out⟩
  · by_cases h0 : c = 0
    · subst h0
      have he := HZ.out rfl
      injection he with he _
      subst he
      go_wp2_with fail
      go_ret
      refine ⟨?_, HB1.out⟩
      simp [cb_less, cb_refl]
    · go_wp2_with fail
      go_ret
      exact ⟨by simp, HB1.out⟩

set_option maxRecDepth 100000 in
set_option maxHeartbeats 2000000 in
theorem in_any {w : World} {v : Value} {l : List Lb} (h : LS w v l) (hl : l.length ≤ 100000000) (a : Lb) :
    Calls Try.prog 12 #[v, a.val] w fun e w' => e = .returned (.bool (decide (a ∈ l))) ∧ Below w.heap.size w w' := by
  have H : Hid (LS w v l) := h
  obtain ⟨av, cv, hvv, _⟩ := h.form
  obtain ⟨n, hn⟩ : ∃ n, l.length = n := ⟨_, rfl⟩
  rw [hn] at hvv hl
  subst hvv
  have HN : Hid (l.length = n) := hn
  clear h hn
  obtain ⟨p, m⟩ := a
  simp only [Lb.val]
  have hq := eql_run'
  have hg := guard_run
  have HRB : Hid (RB (w.alloc (.cells #[.string (bs p), .string (bs m)] 35)) w.heap.size ⟨p, m⟩) := RB.new w ⟨p, m⟩
  go_enter Try.func12, Try.ntmps12
  go_wp2_with fail
  go_loopw [5] (fun s5 wr => ∃ k : Nat, s5 = .int .i64 k ∧ k ≤ n ∧ RB wr w.heap.size ⟨p, m⟩ ∧ (∀ x ∈ l.take k, x ≠ ⟨p, m⟩) ∧ Below w.heap.size w wr) (fun s5 _ => n - (intOf s5).toNat)
  case atStart => exact ⟨0, rfl, by omega, HRB.out, by simp, balloc _ _⟩
  case round =>
    obtain ⟨k, rfl, hk, hR, hx, hb⟩ := hrel
    have HX : Hid (RB wr w.heap.size ⟨p, m⟩ ∧ (∀ x ∈ l.take k, x ≠ ⟨p, m⟩) ∧ Below w.heap.size w wr) := ⟨hR, hx, hb⟩
    obtain ⟨c0, c1, _, _⟩ := hR.cells
    simp only at c0 c1
    clear hR hx hb
    by_cases hlt : k < n
    · have hkl : k < l.length := by rw [HN.out]; exact hlt
      obtain ⟨b, off, ea, hbw, d0, d1⟩ := LS.at H.out HX.out.2.2 hkl
      subst ea
      obtain ⟨x, hxe⟩ : ∃ x, l[k] = x := ⟨_, rfl⟩
      have HA : Hid (l[k] = x) := hxe
      rw [hxe] at d0 d1
      clear hxe
      obtain ⟨q, r⟩ := x
      simp only at d0 d1
      have k1 : (k : Int) < (n : Int) := by omega
      by_cases he : (⟨q, r⟩ : Lb) = ⟨p, m⟩
      · have he2 : leq ⟨q, r⟩ ⟨p, m⟩ = true := by unfold leq; simpa using he
        have HE : Hid ((⟨q, r⟩ : Lb) = ⟨p, m⟩) := he
        clear he
        go_wp2_with fail
        go_quiet (fail)
        go_wp2_with fail
        go_ret
        refine ⟨?_, bstep HX.out.2.2 (bd _ _)⟩
        have : (⟨p, m⟩ : Lb) ∈ l := by rw [← HE.out, ← HA.out]; exact List.getElem_mem hkl
        simp [this]
      · have he2 : leq ⟨q, r⟩ ⟨p, m⟩ = false := by unfold leq; simpa using he
        go_wp2_with fail
        go_quiet (fail)
        go_wp2_with fail
        go_roundw
        case rel =>
          refine ⟨k + 1, by go_num, by omega, HX.out.1.later (bd _ _), ?_, bstep HX.out.2.2 (bd _ _)⟩
          intro x hx
          rw [List.take_succ_eq_append_getElem hkl, List.mem_append, HA.out] at hx
          rcases hx with hx | hx
          · exact HX.out.2.1 x hx
          · have : x = ⟨q, r⟩ := by simpa using hx
            rw [this]; exact he
        case measure => simp [intOf]; omega
    · obtain rfl : n = k := by omega
      go_wp2_with fail
      go_ret
      refine ⟨?_, HX.out.2.2⟩
      have : (⟨p, m⟩ : Lb) ∉ l := by
        intro hm
        have := HX.out.2.1
        rw [List.take_of_length_le (by rw [HN.out]; exact Nat.le_refl _)] at this
        exact this _ hm rfl
      simp [this]

set_option maxRecDepth 100000 in
set_option maxHeartbeats 2000000 in
theorem same_any {w : World} {u v : Value} {k l : List Lb} (h : LS w u k) (h' : LS w v l) (hk : k.length ≤ 100000000) (hl : l.length ≤ 100000000) :
    Calls Try.prog 18 #[u, v] w fun e w' => e = .returned (.bool (decide (k = l))) ∧ Below w.heap.size w w' := by
  have H : Hid (LS w u k ∧ LS w v l) := ⟨h, h'⟩
  obtain ⟨au, cu, hvv, _⟩ := h.form
  obtain ⟨n, hn⟩ : ∃ n, k.length = n := ⟨_, rfl⟩
  rw [hn] at hvv hk
  subst hvv
  obtain ⟨av, cv, hvv, _⟩ := h'.form
  obtain ⟨m, hm⟩ : ∃ m, l.length = m := ⟨_, rfl⟩
  rw [hm] at hvv hl
  subst hvv
  have HN : Hid (k.length = n ∧ l.length = m) := ⟨hn, hm⟩
  clear h h' hn hm
  have hq := neq_run'
  have hg := guard_run
  go_enter Try.func18, Try.ntmps18
  by_cases hnm : n = m
  · subst hnm
    go_wp2_with fail
    go_loopw [5] (fun s5 wr => ∃ i : Nat, s5 = .int .i64 i ∧ i ≤ n ∧ k.take i = l.take i ∧ Below w.heap.size w wr) (fun s5 _ => n - (intOf s5).toNat)
    case atStart => exact ⟨0, rfl, by omega, by simp, Below.refl _ _⟩
    case round =>
      obtain ⟨i, rfl, hi, ht, hb⟩ := hrel
      have HX : Hid (k.take i = l.take i ∧ Below w.heap.size w wr) := ⟨ht, hb⟩
      clear ht hb
      by_cases hlt : i < n
      · have hkl : i < k.length := by rw [HN.out.1]; exact hlt
        have hll : i < l.length := by rw [HN.out.2]; exact hlt
        obtain ⟨b, off, ea, hbw, d0, d1⟩ := LS.at H.out.1 HX.out.2 hkl
        subst ea
        obtain ⟨b', off', ea, hbw', e0, e1⟩ := LS.at H.out.2 HX.out.2 hll
        subst ea
        obtain ⟨x, hxe⟩ : ∃ x, k[i] = x := ⟨_, rfl⟩
        obtain ⟨y, hye⟩ : ∃ y, l[i] = y := ⟨_, rfl⟩
        have HA : Hid (k[i] = x ∧ l[i] = y) := ⟨hxe, hye⟩
        rw [hxe] at d0 d1
        rw [hye] at e0 e1
        clear hxe hye
        obtain ⟨q, r⟩ := x
        obtain ⟨s, t⟩ := y
        simp only at d0 d1 e0 e1
        have k1 : (i : Int) < (n : Int) := by omega
        by_cases he : (⟨q, r⟩ : Lb) = ⟨s, t⟩
        · have he2 : leq ⟨q, r⟩ ⟨s, t⟩ = true := by unfold leq; simpa using he
          have HE : Hid ((⟨q, r⟩ : Lb) = ⟨s, t⟩) := he
          clear he
          go_wp2_with fail
          go_quiet (fail)
          go_wp2_with fail
          go_roundw
          case rel =>
            refine ⟨i + 1, by go_num, by omega, ?_, bstep HX.out.2 (bd _ _)⟩
            rw [List.take_succ_eq_append_getElem hkl, List.take_succ_eq_append_getElem hll, HX.out.1, HA.out.1, HA.out.2, HE.out]
          case measure => simp [intOf]; omega
        · have he2 : leq ⟨q, r⟩ ⟨s, t⟩ = false := by unfold leq; simpa using he
          go_wp2_with fail
          go_quiet (fail)
          go_wp2_with fail
          go_ret
          refine ⟨?_, bstep HX.out.2 (bd _ _)⟩
          have : k ≠ l := by
            rintro rfl
            exact he (HA.out.1.symm.trans HA.out.2)
          simp [this]
      · obtain rfl : n = i := by omega
        go_wp2_with fail
        go_ret
        refine ⟨?_, HX.out.2⟩
        have : k = l := by
          have := HX.out.1
          rw [List.take_of_length_le (by rw [HN.out.1]; exact Nat.le_refl _), List.take_of_length_le (by rw [HN.out.2]; exact Nat.le_refl _)] at this
          exact this
        simp [this]
  · have hnm' : ¬ ((n : Int) = (m : Int)) := by omega
    go_wp2_with fail
    go_ret
    refine ⟨?_, Below.refl _ _⟩
    have : k ≠ l := by
      rintro rfl
      exact hnm (HN.out.1.symm.trans HN.out.2)
    simp [this]
end Go.Proofs.Ytclbnjfmipifnaa

namespace Go.Proofs.Ytclbnjfmipifnaa
open Go.RowKit Go.Maps

theorem insr_split (x : Lb) : ∀ (p : Nat) (o : List Lb), p ≤ o.length → (∀ y ∈ o.take p, ltL y x = true) → Gs.insr ltL x o = o.take p ++ Gs.insr ltL x (o.drop p)
  | 0, o, _, _ => by simp
  | p + 1, [], h, _ => by simp at h
  | p + 1, y :: r, h, ht => by
    have h1 : ltL y x = true := ht y (by simp)
    have ih := insr_split x p r (by simpa using h) (fun z hz => ht z (by simp [hz]))
    simp only [Gs.insr, h1, if_true, List.take_succ_cons, List.drop_succ_cons, List.cons_append]
    rw [ih]
theorem insr_hit {x : Lb} {o : List Lb} {p : Nat} (hp : p < o.length) (ht : ∀ y ∈ o.take p, ltL y x = true) (he : o[p] = x) : Gs.insr ltL x o = o := by
  rw [insr_split x p o (by omega) ht, List.drop_eq_getElem_cons hp, he]
  simp only [Gs.insr, stoL.irr x, Bool.false_eq_true, if_false, if_true]
  conv => rhs; rw [← List.take_append_drop p o, List.drop_eq_getElem_cons hp, he]
theorem insr_new {x : Lb} {o : List Lb} {p : Nat} (hp : p ≤ o.length) (ht : ∀ y ∈ o.take p, ltL y x = true) (hn : ∀ h : p < o.length, ltL o[p] x = false ∧ o[p] ≠ x) : Gs.insr ltL x o = o.take p ++ [x] ++ o.drop p := by
  rw [insr_split x p o hp ht]
  by_cases h : p < o.length
  · obtain ⟨h1, h2⟩ := hn h
    rw [List.drop_eq_getElem_cons h]
    simp only [Gs.insr, h1, Bool.false_eq_true, if_false, h2, List.append_assoc, List.cons_append, List.nil_append]
  · rw [List.drop_eq_nil_of_le (by omega)]
    simp [Gs.insr]
theorem run_tail (ad : Option Addr) (n cap a : Nat) (ha : a ≤ n) (W : World) : (Instr.slice 32 (.slice ad n cap) (some (.int .i64 (a : Int))) none none).run Try.prog W = .ok (sliced ad a n cap 2) W := by
  rw [run_slice_l (P := Try.prog) (w := W) 32 _ n cap el28' .i64 (a : Int) (by omega) (by omega), el28, Try.sizeOf35]
  rfl
theorem run_head (ad : Option Addr) (n cap a : Nat) (ha : a ≤ cap) (W : World) : (Instr.slice 32 (.slice ad n cap) none (some (.int .i64 (a : Int))) none).run Try.prog W = .ok (sliced ad 0 a cap 2) W := by
  rw [run_slice_h (P := Try.prog) (w := W) 32 _ n cap el28' .i64 (a : Int) (by omega) (by omega), el28, Try.sizeOf35]
  rfl
theorem OL.src {base : Nat} {w : World} {g cap : Nat} {l : List Lb} {rest : List Value} (h : OL base w g cap l rest) (a : Nat) (ha : a ≤ l.length) (off n c : Nat) (ho : off = a * 2 ∨ a = l.length) (hn : n = l.length - a) : Src Try.prog 2 32 (.slice (some ⟨g, off, none⟩) n c) (l.drop a).length (lc (l.drop a)) w := by
  rw [show (l.drop a).length = n by rw [hn]; simp]
  refine Src.ofSlice _ und_L ⟨g, off, none⟩ n c (lc (l.drop a)) (by rw [lc_length, hn]; simp) ?_ (lc_one _)
  intro j u hj
  rcases ho with ho | ho
  · subst ho
    rw [add_lit]
    have hbk := h.blk
    simp only [World.cell?, hbk]
    have e : (lc l)[a * 2 + j]? = some u := by
      have h1 : lc l = lc (l.take a) ++ lc (l.drop a) := by rw [← lc_append, List.take_append_drop]
      have h2 : (lc (l.take a)).length = a * 2 := by rw [lc_length]; simp; omega
      rw [h1, List.getElem?_append_right (by omega), h2]
      rw [show a * 2 + j - a * 2 = j by omega]
      exact hj
    have hlt : a * 2 + j < (lc l).length := (List.getElem?_eq_some_iff.1 e).1
    simp only [List.getElem?_toArray]
    rw [List.getElem?_append_left hlt]
    exact e
  · rw [List.drop_eq_nil_of_le (by omega)] at hj
    simp [lc] at hj
theorem src_tail {base : Nat} {w : World} {ad : Option Addr} {n cap : Nat} {l : List Lb} (h : OwnL base w (.slice ad n cap) l) (hn : l.length = n) (a : Nat) (ha : a ≤ n) : Src Try.prog 2 32 (sliced ad a n cap 2) (l.drop a).length (lc (l.drop a)) w := by
  rcases OL.of h with ⟨e, e2⟩ | ⟨g, cap', rest, e, ho⟩
  · injection e with e1 e3 e4
    subst e1 e2 e3 e4
    have : a = 0 := by omega
    subst this
    exact Src.ofNil _ und_L _
  · injection e with e1 e3 e4
    subst e1 e4
    have hlen := ho.len
    unfold sliced
    by_cases hc : cap = a
    · rw [if_pos hc]
      exact ho.src a (by omega) 0 (n - a) _ (.inr (by omega)) (by omega)
    · rw [if_neg hc]
      simp only [Option.map_some, add_lit]
      exact ho.src a (by omega) _ (n - a) _ (.inl (by omega)) (by omega)
theorem src_own {base : Nat} {w : World} {v : Value} {l : List Lb} (h : OwnL base w v l) : Src Try.prog 2 32 v l.length (lc l) w := h.rs.src
theorem own_head {base : Nat} {w : World} {ad : Option Addr} {n cap : Nat} {l : List Lb} (h : OwnL base w (.slice ad n cap) l) (hn : l.length = n) (a : Nat) (ha : a ≤ n) : OwnL base w (sliced ad 0 a cap 2) (l.take a) ∧ (sliced ad 0 a cap 2).ownBlock = (Value.slice ad n cap).ownBlock ∧ a ≤ cap := by
  rcases OL.of h with ⟨e, e2⟩ | ⟨g, cap', rest, e, ho⟩
  · injection e with e1 e3 e4
    subst e1 e2 e3 e4
    have : a = 0 := by omega
    subst this
    exact ⟨OwnL.nil _ _, rfl, by omega⟩
  · injection e with e1 e3 e4
    subst e1 e4
    have hlen := ho.len
    have e : sliced (some ⟨g, 0, none⟩) 0 a cap 2 = .slice (some ⟨g, 0, none⟩) (l.take a).length cap := by
      unfold sliced
      have : (l.take a).length = a := by simp; omega
      rw [this]
      split
      · simp
      · simp [add_lit]
    rw [e]
    have h2 : OL base w g cap (l.take a ++ l.drop a) rest := by rw [List.take_append_drop]; exact ho
    exact ⟨h2.split.own, rfl, by omega⟩
end Go.Proofs.Ytclbnjfmipifnaa
