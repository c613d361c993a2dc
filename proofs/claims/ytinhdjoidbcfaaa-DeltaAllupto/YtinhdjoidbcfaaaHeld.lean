/-
  One found; lists held against each other.
-/
import Derived.Test.YtinhdjoidbcfaaaOne
import Derived.Laws.ResultCell
namespace Go.Proofs.Ytinhdjoidbcfaaa
open Go.RowKit

theorem results_ct {P : Program} {fn : Func} {p u : Tmp} {ty : TypeId} (h : fn.results = #[.cell p ty, .tmp u]) (tmps : Array Value) (w : World) (g : Nat) (t : TypeId) (cs : Array Value) (fr : Nat × Nat) (d : TypeDesc)
    (hp : tmps.getD p undef = .pointer (some ⟨g, 0, none⟩)) (hg : w.heap[g]? = some (.cells cs t fr))
    (hu : P.underlying ty = some d) (hd : (match d with | .struct _ | .array _ _ => true | _ => false) = true) (hi : (P.info? ty).map (·.size) = some cs.size) :
    (results fn tmps).run P w = .ok (.tuple #[.agg cs, tmps.getD u undef]) w := by
  rw [results_cell_tmp h]
  rw [hp]
  simp only [asAddr, Sem.run_pure, Result.andThen_ok]
  rw [run_loadVar_row w g t ty cs fr d hg hu hd hi]
  rfl
theorem heap_setCell (w : World) (g i : Nat) (v : Value) {cur : Array Value} {e : TypeId} {fr : Nat × Nat} (h : w.heap[g]? = some (.cells cur e fr)) :
    (w.setCell ⟨g, i, none⟩ v).heap[g]? = some (.cells (cur.setIfInBounds i v) e fr) := by
  simp [World.setCell, Array.getElem?_modify, h]
/-- a file that a call gives, in a block of its own -/
structure RB (w : World) (g : Nat) (f : Fl) : Prop where
  blk : w.heap[g]? = some (.cells #[.string (bs f.path), .string (bs f.text), .int .i64 f.blob, .int .i64 f.size] 40 (0, 0))
theorem RB.lt {w : World} {g : Nat} {f : Fl} (h : RB w g f) : g < w.heap.size := (Array.getElem?_eq_some_iff.1 h.blk).1
theorem RB.later {w w' : World} {g : Nat} {f : Fl} (h : RB w g f) (hb : Below w.heap.size w w') : RB w' g f := ⟨(hb.block g h.lt).trans h.blk⟩
theorem RB.new (w : World) (f : Fl) : RB (w.alloc (.cells #[.string (bs f.path), .string (bs f.text), .int .i64 f.blob, .int .i64 f.size] 40)) w.heap.size f := ⟨heap_alloc_new _ _⟩
theorem RB.cells {w : World} {g : Nat} {f : Fl} (h : RB w g f) : w.cell? ⟨g, 0, none⟩ = some (.string (bs f.path)) ∧ w.cell? ⟨g, 1, none⟩ = some (.string (bs f.text)) ∧ w.cell? ⟨g, 2, none⟩ = some (.int .i64 f.blob) ∧ w.cell? ⟨g, 3, none⟩ = some (.int .i64 f.size) ∧
    w.frozen? ⟨g, 0, none⟩ = false ∧ w.frozen? ⟨g, 1, none⟩ = false ∧ w.frozen? ⟨g, 2, none⟩ = false ∧ w.frozen? ⟨g, 3, none⟩ = false := by
  have hb := h.blk
  exact ⟨by simp [World.cell?, hb], by simp [World.cell?, hb], by simp [World.cell?, hb], by simp [World.cell?, hb], by simp [World.frozen?, hb], by simp [World.frozen?, hb], by simp [World.frozen?, hb], by simp [World.frozen?, hb]⟩
theorem RB.set {w : World} {g : Nat} {f : Fl} (h : RB w g f) (k : Fl) :
    RB ((((w.setCell ⟨g, 0, none⟩ (.string (bs k.path))).setCell ⟨g, 1, none⟩ (.string (bs k.text))).setCell ⟨g, 2, none⟩ (.int .i64 k.blob)).setCell ⟨g, 3, none⟩ (.int .i64 k.size)) g k := by
  refine ⟨?_⟩
  rw [heap_setCell _ _ _ _ (heap_setCell _ _ _ _ (heap_setCell _ _ _ _ (heap_setCell _ _ _ _ h.blk)))]
  simp
theorem bset4 {B : Nat} {w w' : World} {g : Nat} (hb : Below B w w') (hg : B ≤ g) (a b c d : Value) :
    Below B w ((((w'.setCell ⟨g, 0, none⟩ a).setCell ⟨g, 1, none⟩ b).setCell ⟨g, 2, none⟩ c).setCell ⟨g, 3, none⟩ d) :=
  (((hb.setCell (p := ⟨g, 0, none⟩) hg _).setCell (p := ⟨g, 1, none⟩) hg _).setCell (p := ⟨g, 2, none⟩) hg _).setCell (p := ⟨g, 3, none⟩) hg _

theorem fnd_step (l : List Fl) (k : Nat) (h : k < l.length) (p : List UInt8) : lk Fl.path (l.drop k) p = if (l[k]'h).path = p then some (l[k]'h) else lk Fl.path (l.drop (k + 1)) p := by
  rw [List.drop_eq_getElem_cons h, lk]

set_option maxRecDepth 100000 in
set_option maxHeartbeats 4000000 in
theorem find_any {w : World} {v : Value} {l : List Fl} (q : List UInt8) (h : FS w v l) (sm : FSm l) :
    Calls Try.prog 19 #[v, .string (bs q)] w fun e w' => e = .returned (.tuple #[((lk Fl.path l q).getD zf).val, .bool (lk Fl.path l q).isSome]) ∧ Below w.heap.size w w' := by
  obtain ⟨r, hr⟩ : ∃ r, lk Fl.path l q = r := ⟨_, rfl⟩
  rw [hr]
  have HR : Hid (lk Fl.path (l.drop 0) q = r) := hr
  have H : Hid (FS w v l) := h
  have hlen : l.length ≤ 140737488355328 := sm.len
  clear hr sm
  obtain ⟨a, c, rfl, _⟩ := h.form
  clear h
  obtain ⟨n, hn⟩ : ∃ n, l.length = n := ⟨_, rfl⟩
  have H' : Hid (FS w (.slice a l.length c) l) := H.out
  clear H
  rw [hn] at hlen ⊢
  have HN : Hid (l.length = n) := hn
  clear hn
  obtain ⟨A, hA⟩ : ∃ A, Value.tuple #[(r.getD zf).val, .bool r.isSome] = A := ⟨_, rfl⟩
  rw [hA]
  have HA : Hid (Value.tuple #[(r.getD zf).val, .bool r.isSome] = A) := hA
  clear hA
  rename_i hform
  clear hform
  have hq := bs_toList q
  go_enter Try.func19, Try.ntmps19
  go_wp2_with fail
  go_loopw [10] (fun i wr => ∃ k : Nat, k ≤ n ∧ i = .int .i64 k ∧ Below w.heap.size w wr ∧ RB wr w.heap.size zf ∧ lk Fl.path (l.drop k) q = r) (fun i _ => n - (intOf i).toNat)
  case atStart => exact ⟨0, by omega, rfl, balloc _ _, RB.new w zf, HR.out⟩
  case round =>
    obtain ⟨k, hk, rfl, hb, hrb, hl⟩ := hrel
    have HB : Hid (Below w.heap.size w wr) := hb
    have HZ : Hid (RB wr w.heap.size zf) := hrb
    have HL : Hid (lk Fl.path (l.drop k) q = r) := hl
    have hlt0 := hrb.lt
    clear hb hl hrb
    by_cases hlt : k < n
    · have hkl : k < l.length := by have := HN.out; omega
      obtain ⟨b, off, ea, hbw, d0, d1, d2, d3⟩ := FS.at H'.out HB.out hkl
      subst ea
      obtain ⟨f, hf⟩ : ∃ f, l[k] = f := ⟨_, rfl⟩
      rw [hf] at d0 d1 d2 d3
      have HS2 : Hid ((if f.path = q then some f else lk Fl.path (l.drop (k + 1)) q) = r) := by
        have h1 := HL.out
        rw [fnd_step l k hkl, hf] at h1; exact h1
      clear hf
      obtain ⟨p, t, bl, s⟩ := f
      simp only at d0 d1 d2 d3 HS2
      have k1 : (0 : Int) ≤ (k : Int) := by omega
      have k2 : (k : Int) < (n : Int) := by omega
      have hp := bs_toList p
      have Z1 : Hid (RB (wr.alloc (.cells #[.string (bs p), .string (bs t), .int .i64 bl, .int .i64 s] 40)) w.heap.size zf) := HZ.out.later (balloc _ _)
      obtain ⟨z0, z1, z2, z3, y0, y1, y2, y3⟩ := HZ.out.cells
      by_cases hpq : p = q
      · have hd : (p == q) = true := by simpa using hpq
        have HPQ : Hid (p = q) := hpq
        clear hpq
        go_wp2_with fail
        refine bodyPost_ret (results_ct rfl _ _ w.heap.size 40 #[.string (bs p), .string (bs t), .int .i64 bl, .int .i64 s] (0, 0) _ rfl ?_ Try.underlying40 rfl (by kernel_rfl)) rfl ?_
        · exact ((HZ.out.set ⟨p, t, bl, s⟩).later (balloc _ _)).blk
        refine ⟨?_, ?_⟩
        · have h1 := HS2.out
          rw [if_pos HPQ.out] at h1
          rw [← HA.out, ← h1]; rfl
        · exact below_trans (bset4 HB.out (Nat.le_refl _) _ _ _ _) (below_mono (balloc _ _) (by have := HB.out.size; simp [World.setCell]; omega))
      · have hd : (p == q) = false := by simpa using hpq
        have HPQ : Hid (¬ p = q) := hpq
        clear hpq
        go_wp2_with fail
        go_roundw
        case rel =>
          refine ⟨k + 1, by omega, by go_num, bstep HB.out (balloc _ _), Z1.out, ?_⟩
          have h1 := HS2.out
          rw [if_neg HPQ.out] at h1
          exact h1
        case measure => simp [intOf]; omega
    · obtain rfl : k = n := by omega
      obtain ⟨z0, z1, z2, z3, y0, y1, y2, y3⟩ := HZ.out.cells
      go_wp2_with fail
      refine bodyPost_ret (results_ct rfl _ _ w.heap.size 40 #[.string (bs []), .string (bs []), .int .i64 0, .int .i64 0] (0, 0) _ rfl ?_ Try.underlying40 rfl (by kernel_rfl)) rfl ?_
      · exact (HZ.out.set zf).blk
      refine ⟨?_, bset4 HB.out (Nat.le_refl _) _ _ _ _⟩
      have h1 := HL.out
      rw [List.drop_eq_nil_of_le (by have := HN.out; omega)] at h1
      rw [← HA.out, ← h1]; rfl


theorem ss_lit (w : World) (l : List (List UInt8)) (n : Nat) (hn : n = l.length) : SS (w.alloc (.cells (sc l).toArray 9)) (.slice (some ⟨w.heap.size, 0, none⟩) n n) l := by
  subst hn
  refine .inr ⟨w.heap.size, 0, l.length, rfl, Nat.le_refl _, by simp, fun i u hu => ?_⟩
  simp
  simpa using hu

theorem SS.at1 {w : World} {a : Option Addr} {c n : Nat} {l : List (List UInt8)} (h : SS w (.slice a n c) l) (_hn : l.length = n) {wr : World} (hb : Below w.heap.size w wr) {k : Nat} (hk : k < l.length) : ∃ b off, a = some ⟨b, off, none⟩ ∧ b < w.heap.size ∧ wr.cell? ⟨b, off + k, none⟩ = some (.string (bs l[k])) := by
  obtain ⟨a', c', e, hf⟩ := h.form
  obtain ⟨b, off, ha, hlt, h0⟩ := hf k hk
  injection e with e1 e2 e3
  exact ⟨b, off, e1.trans ha, hlt, (hb.cell (p := ⟨b, off + k, none⟩) hlt).trans h0⟩

set_option maxHeartbeats 1000000 in
set_option maxRecDepth 100000 in
theorem texts_any {w : World} {va vb : Value} {A B : List (List UInt8)} (h1 : SS w va A) (h2 : SS w vb B) (hA : A.length ≤ 140737488355328) :
    Calls Try.prog 17 #[va, vb] w fun e w' => e = .returned (.bool (decide (A = B))) ∧ Below w.heap.size w w' := by
  obtain ⟨a, c, rfl, ca⟩ := h1.form
  obtain ⟨b, c', rfl, cb⟩ := h2.form
  have CA : Hid (∀ k, (hk : k < A.length) → ∃ b off, a = some ⟨b, off, none⟩ ∧ b < w.heap.size ∧ w.cell? ⟨b, off + k, none⟩ = some (.string (bs A[k]))) := ca
  have CB : Hid (∀ k, (hk : k < B.length) → ∃ b' off, b = some ⟨b', off, none⟩ ∧ b' < w.heap.size ∧ w.cell? ⟨b', off + k, none⟩ = some (.string (bs B[k]))) := cb
  clear ca cb h1 h2
  by_cases hl : A.length = B.length
  · have e1 : (((A.length : Int)) != (B.length : Int)) = false := by rw [hl]; simp
    obtain ⟨r, hr⟩ : ∃ r, decide (A = B) = r := ⟨_, rfl⟩
    rw [hr]
    have HR : Hid (decide (A.drop 0 = B.drop 0) = r) := hr
    clear hr
    go_enter Try.func17, Try.ntmps17
    go_wp2_with fail
    go_loopw [5] (fun i wr => ∃ k n : Nat, k ≤ A.length ∧ i = .int .i64 k ∧ wr = w.drewN n ∧ decide (A.drop k = B.drop k) = r) (fun i _ => A.length - (intOf i).toNat)
    case atStart => exact ⟨0, 0, Nat.zero_le _, rfl, rfl, HR.out⟩
    case round =>
      obtain ⟨k, n, hk, rfl, rfl, hd⟩ := hrel
      have HD : Hid (decide (A.drop k = B.drop k) = r) := hd
      clear hd
      by_cases hlt : k < A.length
      · have hlt2 : k < B.length := by omega
        obtain ⟨g1, o1, rfl, hg1, c1⟩ := CA.out k hlt
        obtain ⟨g2, o2, rfl, hg2, c2⟩ := CB.out k hlt2
        have hd := HD.out
        rw [drop_same hlt hlt2] at hd
        by_cases heq : A[k]'hlt = B[k]'hlt2
        · have t1 : (bs (A[k]'hlt)).toList = A[k]'hlt := bs_toList _
          have t2 : (bs (B[k]'hlt2)).toList = A[k]'hlt := by rw [bs_toList, heq]
          have hd2 : decide (A.drop (k + 1) = B.drop (k + 1)) = r := by rw [← hd]; simp [heq]
          have HD2 : Hid (decide (A.drop (k + 1) = B.drop (k + 1)) = r) := hd2
          clear hd hd2
          go_wp2_with fail
          go_region
          go_wp2_with fail
          go_roundw
          case rel => exact ⟨k + 1, n + 1, by omega, by go_num, rfl, HD2.out⟩
          case measure => simp [intOf]; omega
        · have t1 : (bs (A[k]'hlt)).toList = A[k]'hlt := bs_toList _
          have t2 : (bs (B[k]'hlt2)).toList = B[k]'hlt2 := bs_toList _
          have t3 : ((A[k]'hlt) == (B[k]'hlt2)) = false := by rw [beq_eq_false_iff_ne]; exact heq
          have hd2 : false = r := by rw [← hd]; simp [heq]
          subst hd2
          clear hd
          go_wp2_with fail
          go_region
          go_wp2_with fail
          go_ret
          exact ⟨rfl, ⟨rfl, rfl, rfl, Nat.le_refl _, fun _ _ => rfl⟩⟩
      · obtain rfl : k = A.length := by omega
        go_wp2_with fail
        go_ret
        refine ⟨?_, ⟨rfl, rfl, rfl, Nat.le_refl _, fun _ _ => rfl⟩⟩
        have h1 := HD.out
        rw [List.drop_eq_nil_of_le (Nat.le_refl _), List.drop_eq_nil_of_le (by omega)] at h1
        rw [← h1]; rfl
  · have hd : ¬ (A.length : Int) = (B.length : Int) := by omega
    have e0 : decide (A = B) = false := decide_eq_false (fun e => hl (by rw [e]))
    rw [e0]
    go_enter Try.func17, Try.ntmps17
    go_wp2_with fail
    go_ret
    exact ⟨rfl, Below.refl _ _⟩



theorem leq_step (a b : List Fl) (k : Nat) (ha : k < a.length) (hb : k < b.length) : leq (a.drop k) (b.drop k) = (feq (a[k]'ha) (b[k]'hb) && leq (a.drop (k + 1)) (b.drop (k + 1))) := by
  rw [List.drop_eq_getElem_cons ha, List.drop_eq_getElem_cons hb, leq]
theorem leq_len {a b : List Fl} (h : a.length ≠ b.length) : leq a b = false := by
  cases e : leq a b
  · rfl
  · exact absurd (congrArg List.length ((leq_iff a b).1 e)) h
theorem lceq_step (a b : List Ch) (k : Nat) (ha : k < a.length) (hb : k < b.length) : lceq (a.drop k) (b.drop k) = (ceq (a[k]'ha) (b[k]'hb) && lceq (a.drop (k + 1)) (b.drop (k + 1))) := by
  rw [List.drop_eq_getElem_cons ha, List.drop_eq_getElem_cons hb, lceq]
theorem lceq_len {a b : List Ch} (h : a.length ≠ b.length) : lceq a b = false := by
  cases e : lceq a b
  · rfl
  · exact absurd (congrArg List.length ((lceq_iff a b).1 e)) h
theorem bdrew (w : World) (n : Nat) : Below w.heap.size w (w.drewN n) := ⟨rfl, rfl, rfl, Nat.le_refl _, fun _ _ => rfl⟩


set_option maxHeartbeats 2000000 in
set_option maxRecDepth 100000 in
theorem files_any {w : World} {va vb : Value} {A B : List Fl} (h1 : FS w va A) (h2 : FS w vb B) (hA : A.length ≤ 140737488355328) :
    Calls Try.prog 14 #[va, vb] w fun e w' => e = .returned (.bool (leq A B)) ∧ Below w.heap.size w w' := by
  have CA : Hid (FS w va A) := h1
  have CB : Hid (FS w vb B) := h2
  obtain ⟨a, c, rfl⟩ : ∃ a c, va = .slice a A.length c := by obtain ⟨a, c, h, _⟩ := h1.form; exact ⟨a, c, h⟩
  obtain ⟨b, c', rfl⟩ : ∃ a c, vb = .slice a B.length c := by obtain ⟨a, c, h, _⟩ := h2.form; exact ⟨a, c, h⟩
  clear h1 h2
  have CA' : Hid (FS w (.slice a A.length c) A) := CA.out
  have CB' : Hid (FS w (.slice b B.length c') B) := CB.out
  clear CA CB
  by_cases hl : A.length = B.length
  · have e1 : (((A.length : Int)) != (B.length : Int)) = false := by rw [hl]; simp
    obtain ⟨r, hr⟩ : ∃ r, leq A B = r := ⟨_, rfl⟩
    rw [hr]
    have HR : Hid (leq (A.drop 0) (B.drop 0) = r) := hr
    clear hr
    have q1 := neq_run
    have q2 := guard_run
    go_enter Try.func14, Try.ntmps14
    go_wp2_with fail
    go_loopw [5] (fun i wr => ∃ k n : Nat, k ≤ A.length ∧ i = .int .i64 k ∧ wr = w.drewN n ∧ leq (A.drop k) (B.drop k) = r) (fun i _ => A.length - (intOf i).toNat)
    case atStart => exact ⟨0, 0, Nat.zero_le _, rfl, rfl, HR.out⟩
    case round =>
      obtain ⟨k, n, hk, rfl, rfl, hd⟩ := hrel
      have HD : Hid (leq (A.drop k) (B.drop k) = r) := hd
      clear hd
      by_cases hlt : k < A.length
      · have hlt2 : k < B.length := by omega
        have hkb : (k : Int) < (B.length : Int) := by omega
        have HD2 : Hid ((feq (A[k]'hlt) (B[k]'hlt2) && leq (A.drop (k + 1)) (B.drop (k + 1))) = r) := by
          have h1 := HD.out
          rw [leq_step A B k hlt hlt2] at h1; exact h1
        obtain ⟨g1, o1, ea, hg1, d0, d1, d2, d3⟩ := FS.at CA'.out (Below.refl _ w) hlt
        subst ea
        obtain ⟨g2, o2, ea, hg2, e0, e1', e2, e3⟩ := FS.at CB'.out (Below.refl _ w) hlt2
        subst ea
        generalize hf : A[k] = f at d0 d1 d2 d3 HD2
        generalize hg : B[k] = g at e0 e1' e2 e3 HD2
        clear hf hg
        obtain ⟨p, t, bl, s⟩ := f
        obtain ⟨p2, t2, bl2, s2⟩ := g
        simp only at d0 d1 d2 d3 e0 e1' e2 e3 HD2
        go_wp2_with fail
        go_region
        generalize feq _ _ = x at *
        cases x
        · go_wp2_with fail
          go_ret
          refine ⟨?_, ⟨rfl, rfl, rfl, Nat.le_refl _, fun _ _ => rfl⟩⟩
          have h1 := HD2.out
          rw [Bool.false_and] at h1
          rw [← h1]; rfl
        · go_wp2_with fail
          go_roundw
          case rel => exact ⟨k + 1, n + 1, by omega, by go_num, rfl, by have h1 := HD2.out; rwa [Bool.true_and] at h1⟩
          case measure => simp [intOf]; omega
      · obtain rfl : k = A.length := by omega
        go_wp2_with fail
        go_ret
        refine ⟨?_, ⟨rfl, rfl, rfl, Nat.le_refl _, fun _ _ => rfl⟩⟩
        have h1 := HD.out
        rw [List.drop_eq_nil_of_le (Nat.le_refl _), List.drop_eq_nil_of_le (by omega)] at h1
        rw [← h1]; rfl
  · have hd : ¬ (A.length : Int) = (B.length : Int) := by omega
    have e0 : leq A B = false := leq_len hl
    rw [e0]
    go_enter Try.func14, Try.ntmps14
    go_wp2_with fail
    go_ret
    exact ⟨rfl, Below.refl _ _⟩


set_option maxHeartbeats 2000000 in
set_option maxRecDepth 100000 in
theorem changes_any {w : World} {va vb : Value} {A B : List Ch} (h1 : CS w va A) (h2 : CS w vb B) (hA : A.length ≤ 140737488355328) :
    Calls Try.prog 12 #[va, vb] w fun e w' => e = .returned (.bool (lceq A B)) ∧ Below w.heap.size w w' := by
  have CA : Hid (CS w va A) := h1
  have CB : Hid (CS w vb B) := h2
  obtain ⟨a, c, rfl⟩ : ∃ a c, va = .slice a A.length c := by exact h1.shape
  obtain ⟨b, c', rfl⟩ : ∃ a c, vb = .slice a B.length c := by exact h2.shape
  clear h1 h2
  have CA' : Hid (CS w (.slice a A.length c) A) := CA.out
  have CB' : Hid (CS w (.slice b B.length c') B) := CB.out
  clear CA CB
  by_cases hl : A.length = B.length
  · have e1 : (((A.length : Int)) != (B.length : Int)) = false := by rw [hl]; simp
    obtain ⟨r, hr⟩ : ∃ r, lceq A B = r := ⟨_, rfl⟩
    rw [hr]
    have HR : Hid (lceq (A.drop 0) (B.drop 0) = r) := hr
    clear hr
    have q1 := cneq_run
    have q2 := cguard_run
    go_enter Try.func12, Try.ntmps12
    go_wp2_with fail
    go_loopw [5] (fun i wr => ∃ k n : Nat, k ≤ A.length ∧ i = .int .i64 k ∧ wr = w.drewN n ∧ lceq (A.drop k) (B.drop k) = r) (fun i _ => A.length - (intOf i).toNat)
    case atStart => exact ⟨0, 0, Nat.zero_le _, rfl, rfl, HR.out⟩
    case round =>
      obtain ⟨k, n, hk, rfl, rfl, hd⟩ := hrel
      have HD : Hid (lceq (A.drop k) (B.drop k) = r) := hd
      clear hd
      by_cases hlt : k < A.length
      · have hlt2 : k < B.length := by omega
        have hkb : (k : Int) < (B.length : Int) := by omega
        have HD2 : Hid ((ceq (A[k]'hlt) (B[k]'hlt2) && lceq (A.drop (k + 1)) (B.drop (k + 1))) = r) := by
          have h1 := HD.out
          rw [lceq_step A B k hlt hlt2] at h1; exact h1
        obtain ⟨g1, o1, ea, hg1, _, d0, d1, d2, d3, d4, d5, d6, d7, d8, d9, d10⟩ := CS.at CA'.out (Below.refl _ w) hlt
        subst ea
        obtain ⟨g2, o2, ea, hg2, _, e20, e21, e22, e23, e24, e25, e26, e27, e28, e29, e30⟩ := CS.at CB'.out (Below.refl _ w) hlt2
        subst ea
        generalize hf : A[k] = f at d0 d1 d2 d3 d4 d5 d6 d7 d8 d9 d10 HD2
        generalize hg : B[k] = g at e20 e21 e22 e23 e24 e25 e26 e27 e28 e29 e30 HD2
        clear hf hg
        obtain ⟨p, ha, hb, ⟨q, t, bl, s⟩, ⟨r1, y, dd, z⟩⟩ := f
        obtain ⟨p2, ha2, hb2, ⟨q2, t2, bl2, s2⟩, ⟨r2, y2, dd2, z2⟩⟩ := g
        simp only at d0 d1 d2 d3 d4 d5 d6 d7 d8 d9 d10 e20 e21 e22 e23 e24 e25 e26 e27 e28 e29 e30 HD2
        go_wp2_with fail
        go_region
        generalize ceq _ _ = x at *
        cases x
        · go_wp2_with fail
          go_ret
          refine ⟨?_, ⟨rfl, rfl, rfl, Nat.le_refl _, fun _ _ => rfl⟩⟩
          have h1 := HD2.out
          rw [Bool.false_and] at h1
          rw [← h1]; rfl
        · go_wp2_with fail
          go_roundw
          case rel => exact ⟨k + 1, n + 1, by omega, by go_num, rfl, by have h1 := HD2.out; rwa [Bool.true_and] at h1⟩
          case measure => simp [intOf]; omega
      · obtain rfl : k = A.length := by omega
        go_wp2_with fail
        go_ret
        refine ⟨?_, ⟨rfl, rfl, rfl, Nat.le_refl _, fun _ _ => rfl⟩⟩
        have h1 := HD.out
        rw [List.drop_eq_nil_of_le (Nat.le_refl _), List.drop_eq_nil_of_le (by omega)] at h1
        rw [← h1]; rfl
  · have hd : ¬ (A.length : Int) = (B.length : Int) := by omega
    have e0 : lceq A B = false := lceq_len hl
    rw [e0]
    go_enter Try.func12, Try.ntmps12
    go_wp2_with fail
    go_ret
    exact ⟨rfl, Below.refl _ _⟩


theorem any_step (l : List (List UInt8)) (p : List UInt8) (k : Nat) (h : k < l.length) : decide (p ∈ l.drop k) = (decide (l[k]'h = p) || decide (p ∈ l.drop (k + 1))) := by
  rw [List.drop_eq_getElem_cons h]
  rw [Bool.eq_iff_iff, decide_eq_true_eq, Bool.or_eq_true, decide_eq_true_eq, decide_eq_true_eq, List.mem_cons]
  exact or_congr_left ⟨Eq.symm, Eq.symm⟩
set_option maxHeartbeats 1000000 in
set_option maxRecDepth 100000 in
theorem among_any {w : World} {v : Value} {l : List (List UInt8)} (p : List UInt8) (h : SS w v l) (hl : l.length ≤ 140737488355328) :
    Calls Try.prog 20 #[v, .string (bs p)] w fun e w' => e = .returned (.bool (decide (p ∈ l))) ∧ Below w.heap.size w w' := by
  obtain ⟨a, c, rfl, ca⟩ := h.form
  have CA : Hid (∀ k, (hk : k < l.length) → ∃ b off, a = some ⟨b, off, none⟩ ∧ b < w.heap.size ∧ w.cell? ⟨b, off + k, none⟩ = some (.string (bs l[k]))) := ca
  clear ca h
  obtain ⟨r, hr⟩ : ∃ r, decide (p ∈ l) = r := ⟨_, rfl⟩
  rw [hr]
  have HR : Hid (decide (p ∈ l.drop 0) = r) := hr
  clear hr
  have t2 : (bs p).toList = p := bs_toList _
  go_enter Try.func20, Try.ntmps20
  go_wp2_with fail
  go_loopw [5] (fun i wr => ∃ k : Nat, k ≤ l.length ∧ i = .int .i64 k ∧ wr = w ∧ decide (p ∈ l.drop k) = r) (fun i _ => l.length - (intOf i).toNat)
  case atStart => exact ⟨0, Nat.zero_le _, rfl, rfl, HR.out⟩
  case round =>
    obtain ⟨k, hk, rfl, rfl, hd⟩ := hrel
    have HD : Hid (decide (p ∈ l.drop k) = r) := hd
    clear hd
    by_cases hlt : k < l.length
    · obtain ⟨g1, o1, rfl, hg1, c1⟩ := CA.out k hlt
      have HD2 : Hid ((decide (l[k]'hlt = p) || decide (p ∈ l.drop (k + 1))) = r) := by
        have h1 := HD.out
        rw [any_step l p k hlt] at h1; exact h1
      have t1 : (bs (l[k]'hlt)).toList = l[k]'hlt := bs_toList _
      by_cases heq : l[k]'hlt = p
      · have t3 : ((l[k]'hlt) == p) = true := by simpa using heq
        have HE : Hid (l[k]'hlt = p) := heq
        clear heq
        go_wp2_with fail
        go_ret
        refine ⟨?_, Below.refl _ _⟩
        have h1 := HD2.out
        rw [HE.out] at h1
        simp at h1
        rw [← h1]; rfl
      · have t3 : ((l[k]'hlt) == p) = false := by simpa using heq
        have HE : Hid (¬ l[k]'hlt = p) := heq
        clear heq
        go_wp2_with fail
        go_roundw
        case rel => exact ⟨k + 1, by omega, by go_num, by trivial, by have h1 := HD2.out; rw [decide_eq_false HE.out, Bool.false_or] at h1; exact h1⟩
        case measure => simp [intOf]; omega
    · obtain rfl : k = l.length := by omega
      go_wp2_with fail
      go_ret
      refine ⟨?_, Below.refl _ _⟩
      have h1 := HD.out
      rw [List.drop_eq_nil_of_le (Nat.le_refl _)] at h1
      rw [← h1]; simp

end Go.Proofs.Ytinhdjoidbcfaaa
