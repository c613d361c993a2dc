/-
  The package: one found; two lists held against each other.
-/
import Derived.Test.YtgibjnfaagnbfadGreatDoorPkg2
import Derived.Laws.ResultCell
namespace Go.Proofs.YtgibjnfaagnbfadGreatDoor
open Go.RowKit

theorem results_ct {P : Program} {fn : Func} {p u : Tmp} {ty : TypeId} (h : fn.results = #[.cell p ty, .tmp u]) (tmps : Array Value) (w : World) (g : Nat) (t : TypeId) (cs : Array Value) (fr : Nat × Nat) (d : TypeDesc)
    (hp : tmps.getD p undef = .pointer (some ⟨g, 0, none⟩)) (hg : w.heap[g]? = some (.cells cs t fr))
    (hu : P.underlying ty = some d) (hd : (match d with | .struct _ | .array _ _ => true | _ => false) = true) (hi : (P.info? ty).map (·.size) = some cs.size) :
    (results fn tmps).run P w = .ok (.tuple #[.agg cs, tmps.getD u undef]) w := by
  rw [results_cell_tmp h]
  rw [hp]
  simp only [asAddr, Sem.run_pure, Result.andThen_ok]
  rw [run_loadVar_row w g t ty cs fr d hg hu hd hi]
  rfl
theorem heap_setCell (w : World) (g i : Nat) (v : Value) {cur : Array Value} {e : TypeId} {fr : Nat × Nat} (h : w.heap[g]? = some (.cells cur e fr)) :
    (w.setCell ⟨g, i, none⟩ v).heap[g]? = some (.cells (cur.setIfInBounds i v) e fr) := by
  simp [World.setCell, Array.getElem?_modify, h]
/-- a file that a call gives, in a block of its own -/
structure RB (w : World) (g : Nat) (f : Fl) : Prop where
  blk : w.heap[g]? = some (.cells #[.string (bs f.path), .string (bs f.text), .int .i64 f.blob, .int .i64 f.size] 26 (0, 0))
theorem RB.lt {w : World} {g : Nat} {f : Fl} (h : RB w g f) : g < w.heap.size := (Array.getElem?_eq_some_iff.1 h.blk).1
theorem RB.later {w w' : World} {g : Nat} {f : Fl} (h : RB w g f) (hb : Below w.heap.size w w') : RB w' g f := ⟨(hb.block g h.lt).trans h.blk⟩
theorem RB.new (w : World) (f : Fl) : RB (w.alloc (.cells #[.string (bs f.path), .string (bs f.text), .int .i64 f.blob, .int .i64 f.size] 26)) w.heap.size f := ⟨heap_alloc_new _ _⟩
theorem RB.cells {w : World} {g : Nat} {f : Fl} (h : RB w g f) : w.cell? ⟨g, 0, none⟩ = some (.string (bs f.path)) ∧ w.cell? ⟨g, 1, none⟩ = some (.string (bs f.text)) ∧ w.cell? ⟨g, 2, none⟩ = some (.int .i64 f.blob) ∧ w.cell? ⟨g, 3, none⟩ = some (.int .i64 f.size) ∧
    w.frozen? ⟨g, 0, none⟩ = false ∧ w.frozen? ⟨g, 1, none⟩ = false ∧ w.frozen? ⟨g, 2, none⟩ = false ∧ w.frozen? ⟨g, 3, none⟩ = false := by
  have hb := h.blk
  exact ⟨by simp [World.cell?, hb], by simp [World.cell?, hb], by simp [World.cell?, hb], by simp [World.cell?, hb], by simp [World.frozen?, hb], by simp [World.frozen?, hb], by simp [World.frozen?, hb], by simp [World.frozen?, hb]⟩
theorem RB.set {w : World} {g : Nat} {f : Fl} (h : RB w g f) (k : Fl) :
    RB ((((w.setCell ⟨g, 0, none⟩ (.string (bs k.path))).setCell ⟨g, 1, none⟩ (.string (bs k.text))).setCell ⟨g, 2, none⟩ (.int .i64 k.blob)).setCell ⟨g, 3, none⟩ (.int .i64 k.size)) g k := by
  refine ⟨?_⟩
  rw [heap_setCell _ _ _ _ (heap_setCell _ _ _ _ (heap_setCell _ _ _ _ (heap_setCell _ _ _ _ h.blk)))]
  simp
theorem bset4 {B : Nat} {w w' : World} {g : Nat} (hb : Below B w w') (hg : B ≤ g) (a b c d : Value) :
    Below B w ((((w'.setCell ⟨g, 0, none⟩ a).setCell ⟨g, 1, none⟩ b).setCell ⟨g, 2, none⟩ c).setCell ⟨g, 3, none⟩ d) :=
  (((hb.setCell (p := ⟨g, 0, none⟩) hg _).setCell (p := ⟨g, 1, none⟩) hg _).setCell (p := ⟨g, 2, none⟩) hg _).setCell (p := ⟨g, 3, none⟩) hg _

def fopt (o : Option Fl) : Fl := match o with | some f => f | none => zf
theorem fnd_step (l : List Fl) (k : Nat) (h : k < l.length) (p : List UInt8) : fnd (l.drop k) p = if (l[k]'h).path = p then some (l[k]'h) else fnd (l.drop (k + 1)) p := by
  rw [List.drop_eq_getElem_cons h, fnd]

set_option maxRecDepth 100000 in
set_option maxHeartbeats 4000000 in
theorem find_any {w : World} {v : Value} {l : List Fl} (q : List UInt8) (h : FS w v l) (sm : FSm l) :
    Calls Tryz.prog 10 #[v, .string (bs q)] w fun e w' => e = .returned (.tuple #[(fopt (fnd l q)).val, .bool (fnd l q).isSome]) ∧ Below w.heap.size w w' := by
  obtain ⟨r, hr⟩ : ∃ r, fnd l q = r := ⟨_, rfl⟩
  rw [hr]
  have HR : Hid (fnd (l.drop 0) q = r) := hr
  have H : Hid (FS w v l) := h
  have hlen : l.length ≤ 4194304 := sm.len
  clear hr sm
  obtain ⟨a, c, rfl, _⟩ := h.form
  clear h
  obtain ⟨n, hn⟩ : ∃ n, l.length = n := ⟨_, rfl⟩
  have H' : Hid (FS w (.slice a l.length c) l) := H.out
  clear H
  rw [hn] at hlen ⊢
  have HN : Hid (l.length = n) := hn
  clear hn
  obtain ⟨A, hA⟩ : ∃ A, Value.tuple #[(fopt r).val, .bool r.isSome] = A := ⟨_, rfl⟩
  rw [hA]
  have HA : Hid (Value.tuple #[(fopt r).val, .bool r.isSome] = A) := hA
  clear hA
  rename_i hform
  clear hform
  have hq := bs_toList q
  go_enter Tryz.func10, Tryz.ntmps10
  go_wp2_with fail
  go_loopw [10] (fun i wr => ∃ k : Nat, k ≤ n ∧ i = .int .i64 k ∧ Below w.heap.size w wr ∧ RB wr w.heap.size zf ∧ fnd (l.drop k) q = r) (fun i _ => n - (intOf i).toNat)
  case atStart => exact ⟨0, by omega, rfl, balloc _ _, RB.new w zf, HR.out⟩
  case round =>
    obtain ⟨k, hk, rfl, hb, hrb, hl⟩ := hrel
    have HB : Hid (Below w.heap.size w wr) := hb
    have HZ : Hid (RB wr w.heap.size zf) := hrb
    have HL : Hid (fnd (l.drop k) q = r) := hl
    have hlt0 := hrb.lt
    clear hb hl hrb
    by_cases hlt : k < n
    · have hkl : k < l.length := by have := HN.out; omega
      obtain ⟨b, off, ea, hbw, d0, d1, d2, d3⟩ := FS.at H'.out HB.out hkl
      subst ea
      obtain ⟨f, hf⟩ : ∃ f, l[k] = f := ⟨_, rfl⟩
      rw [hf] at d0 d1 d2 d3
      have HS2 : Hid ((if f.path = q then some f else fnd (l.drop (k + 1)) q) = r) := by
        have h1 := HL.out
        rw [fnd_step l k hkl, hf] at h1; exact h1
      clear hf
      obtain ⟨p, t, bl, s⟩ := f
      simp only at d0 d1 d2 d3 HS2
      have k1 : (0 : Int) ≤ (k : Int) := by omega
      have k2 : (k : Int) < (n : Int) := by omega
      have hp := bs_toList p
      have Z1 : Hid (RB (wr.alloc (.cells #[.string (bs p), .string (bs t), .int .i64 bl, .int .i64 s] 26)) w.heap.size zf) := HZ.out.later (balloc _ _)
      obtain ⟨z0, z1, z2, z3, y0, y1, y2, y3⟩ := HZ.out.cells
      by_cases hpq : p = q
      · have hd : (p == q) = true := by simpa using hpq
        have HPQ : Hid (p = q) := hpq
        clear hpq
        go_wp2_with fail
        refine bodyPost_ret (results_ct rfl _ _ w.heap.size 26 #[.string (bs p), .string (bs t), .int .i64 bl, .int .i64 s] (0, 0) _ rfl ?_ Tryz.underlying26 rfl (by kernel_rfl)) rfl ?_
        · exact ((HZ.out.set ⟨p, t, bl, s⟩).later (balloc _ _)).blk
        refine ⟨?_, ?_⟩
        · have h1 := HS2.out
          rw [if_pos HPQ.out] at h1
          rw [← HA.out, ← h1]; rfl
        · exact below_trans (bset4 HB.out (Nat.le_refl _) _ _ _ _) (below_mono (balloc _ _) (by have := HB.out.size; simp [World.setCell]; omega))
      · have hd : (p == q) = false := by simpa using hpq
        have HPQ : Hid (¬ p = q) := hpq
        clear hpq
        go_wp2_with fail
        go_roundw
        case rel =>
          refine ⟨k + 1, by omega, by go_num, bstep HB.out (balloc _ _), Z1.out, ?_⟩
          have h1 := HS2.out
          rw [if_neg HPQ.out] at h1
          exact h1
        case measure => simp [intOf]; omega
    · obtain rfl : k = n := by omega
      obtain ⟨z0, z1, z2, z3, y0, y1, y2, y3⟩ := HZ.out.cells
      go_wp2_with fail
      refine bodyPost_ret (results_ct rfl _ _ w.heap.size 26 #[.string (bs []), .string (bs []), .int .i64 0, .int .i64 0] (0, 0) _ rfl ?_ Tryz.underlying26 rfl (by kernel_rfl)) rfl ?_
      · exact (HZ.out.set zf).blk
      refine ⟨?_, bset4 HB.out (Nat.le_refl _) _ _ _ _⟩
      have h1 := HL.out
      rw [List.drop_eq_nil_of_le (by have := HN.out; omega)] at h1
      rw [← HA.out, ← h1]; rfl

theorem leq_step (a b : List Fl) (k : Nat) (ha : k < a.length) (hb : k < b.length) : leq (a.drop k) (b.drop k) = (feq (a[k]'ha) (b[k]'hb) && leq (a.drop (k + 1)) (b.drop (k + 1))) := by
  rw [List.drop_eq_getElem_cons ha, List.drop_eq_getElem_cons hb, leq]
theorem leq_len {a b : List Fl} (h : a.length ≠ b.length) : leq a b = false := by
  cases e : leq a b
  · rfl
  · exact absurd (congrArg List.length ((leq_iff a b).1 e)) h

set_option maxRecDepth 100000 in
set_option maxHeartbeats 4000000 in
theorem same_any {w : World} {va vb : Value} {A B : List Fl} (h1 : FS w va A) (h2 : FS w vb B) (sm : FSm A) :
    Calls Tryz.prog 11 #[va, vb] w fun e w' => e = .returned (.bool (leq A B)) ∧ Below w.heap.size w w' := by
  have HA : Hid (FS w va A) := h1
  have HB : Hid (FS w vb B) := h2
  have hlen : A.length ≤ 4194304 := sm.len
  clear sm
  obtain ⟨a, c, rfl, _⟩ := h1.form
  obtain ⟨a2, c2, rfl, _⟩ := h2.form
  rename_i q1 q2
  clear h1 h2 q1 q2
  obtain ⟨n, hn⟩ : ∃ n, A.length = n := ⟨_, rfl⟩
  obtain ⟨m, hm⟩ : ∃ m, B.length = m := ⟨_, rfl⟩
  have HA' : Hid (FS w (.slice a A.length c) A) := HA.out
  have HB' : Hid (FS w (.slice a2 B.length c2) B) := HB.out
  clear HA HB
  rw [hn] at hlen ⊢
  rw [hm]
  by_cases hnm : n = m
  · subst hnm
    obtain ⟨r, hr⟩ : ∃ r, leq A B = r := ⟨_, rfl⟩
    rw [hr]
    have HR : Hid (leq (A.drop 0) (B.drop 0) = r) := hr
    have HN : Hid (A.length = n ∧ B.length = n) := ⟨hn, hm⟩
    clear hn hm hr
    have q1 := neq_run
    have q2 := guard_run
    go_enter Tryz.func11, Tryz.ntmps11
    go_wp2_with fail
    go_loopw [14] (fun i wr => ∃ k : Nat, k ≤ n ∧ i = .int .i64 k ∧ Below w.heap.size w wr ∧ leq (A.drop k) (B.drop k) = r) (fun i _ => n - (intOf i).toNat)
    case atStart => exact ⟨0, by omega, rfl, Below.refl _ _, HR.out⟩
    case round =>
      obtain ⟨k, hk, rfl, hb, hl⟩ := hrel
      have HW : Hid (Below w.heap.size w wr) := hb
      have HL : Hid (leq (A.drop k) (B.drop k) = r) := hl
      clear hb hl
      by_cases hlt : k < n
      · have hkA : k < A.length := by have := HN.out; omega
        have hkB : k < B.length := by have := HN.out; omega
        obtain ⟨b, off, ea, hbw, d0, d1, d2, d3⟩ := FS.at HA'.out HW.out hkA
        obtain ⟨b2, off2, ea2, hbw2, e0, e1, e2, e3⟩ := FS.at HB'.out HW.out hkB
        subst ea ea2
        have HS2 : Hid ((feq (A[k]'hkA) (B[k]'hkB) && leq (A.drop (k + 1)) (B.drop (k + 1))) = r) := by
          have h1 := HL.out
          rw [leq_step A B k hkA hkB] at h1; exact h1
        obtain ⟨f, hf⟩ : ∃ f, A[k] = f := ⟨_, rfl⟩
        obtain ⟨g, hg⟩ : ∃ g, B[k] = g := ⟨_, rfl⟩
        rw [hf] at d0 d1 d2 d3 HS2
        rw [hg] at e0 e1 e2 e3 HS2
        clear hf hg
        obtain ⟨p, t, bl, s⟩ := f
        obtain ⟨p', t', bl', s'⟩ := g
        simp only at d0 d1 d2 d3 e0 e1 e2 e3
        have k1 : (0 : Int) ≤ (k : Int) := by omega
        have k2 : (k : Int) < (n : Int) := by omega
        have hbr2 : b2 < wr.heap.size := Nat.lt_of_lt_of_le hbw2 HW.out.size
        go_wp2_with fail
        obtain ⟨w1, hw1⟩ : ∃ w1, wr.alloc (.cells #[.string (bs p), .string (bs t), .int .i64 bl, .int .i64 s] 26) = w1 := ⟨_, rfl⟩
        have FBn : Hid (FB w1 wr.heap.size ⟨p, t, bl, s⟩) := by rw [← hw1]; exact FB.new wr ⟨p, t, bl, s⟩ 26
        have HB1 : Hid (Below wr.heap.size wr w1) := by rw [← hw1]; exact balloc _ _
        rw [hw1]
        clear hw1 d0 d1 d2 d3
        obtain ⟨c0, c1, c2', c3, hlt1⟩ := FBn.out
        simp only at c0 c1 c2' c3
        have y0 : ∀ X : GW w1, X.it.cell? ⟨wr.heap.size, 0, none⟩ = some (.string (bs p)) := fun X => X.cell hlt1 c0
        have y1 : ∀ X : GW w1, X.it.cell? ⟨wr.heap.size, 1, none⟩ = some (.string (bs t)) := fun X => X.cell hlt1 c1
        have y2 : ∀ X : GW w1, X.it.cell? ⟨wr.heap.size, 2, none⟩ = some (.int .i64 bl) := fun X => X.cell hlt1 c2'
        have y3 : ∀ X : GW w1, X.it.cell? ⟨wr.heap.size, 3, none⟩ = some (.int .i64 s) := fun X => X.cell hlt1 c3
        have hx : ∀ (o : Nat) (v : Value), wr.cell? ⟨b2, o, none⟩ = some v → ∀ X : GW w1, X.it.cell? ⟨b2, o, none⟩ = some v := fun o v hv X => X.cell (p := ⟨b2, o, none⟩) (Nat.lt_of_lt_of_le hbr2 HB1.out.size) ((HB1.out.cell (p := ⟨b2, o, none⟩) hbr2).trans hv)
        have x0 := hx _ _ e0
        have x1 := hx _ _ e1
        have x2 := hx _ _ e2
        have x3 := hx _ _ e3
        have xne := gw_ne w1
        clear c0 c1 c2' c3 FBn hx e0 e1 e2 e3
        refine wp_region_grow (by kernel_rfl) (by kernel_rfl) ?_
        repeat (go_big_quiet_step (fail))
        refine wpQuiet_nil ?_
        rintro w2 ⟨⟨w2, bx⟩, rfl⟩
        have HB5 : Hid (Below w.heap.size w w2) := bstep (bstep HW.out HB1.out) bx
        clear bx y0 y1 y2 y3 x0 x1 x2 x3
        generalize feq ⟨p, t, bl, s⟩ ⟨p', t', bl', s'⟩ = q at *
        cases q
        · go_wp2_with fail
          go_ret
          refine ⟨?_, HB5.out⟩
          have h1 := HS2.out
          rw [Bool.false_and] at h1
          rw [← h1]; rfl
        · go_wp2_with fail
          go_roundw
          case rel => exact ⟨k + 1, by omega, by go_num, HB5.out, by have h1 := HS2.out; rwa [Bool.true_and] at h1⟩
          case measure => simp [intOf]; omega
      · obtain rfl : k = n := by omega
        go_wp2_with fail
        go_ret
        refine ⟨?_, HW.out⟩
        have h1 := HL.out
        rw [List.drop_eq_nil_of_le (by have := HN.out; omega), List.drop_eq_nil_of_le (by have := HN.out; omega)] at h1
        rw [← h1]; rfl
  · have hr : leq A B = false := leq_len (by omega)
    rw [hr]
    have hd : ((n : Int) != (m : Int)) = true := by simp; omega
    have hd2 : ¬ ((n : Int) = (m : Int)) := by omega
    clear hr hn hm hnm
    go_enter Tryz.func11, Tryz.ntmps11
    go_wp2_with fail
    go_ret
    exact ⟨rfl, Below.refl _ _⟩
end Go.Proofs.YtgibjnfaagnbfadGreatDoor
