/-
  The document's answer: a snapshot, a change that may be, a delta.
-/
import Derived.Test.YtinhdjoidbcfaaaVld
import Derived.Test.YtinhdjoidbcfaaaRefV
import Derived.Test.YtinhdjoidbcfaaaRef3
namespace Go.Proofs.Ytinhdjoidbcfaaa
open Go.RowKit

/-- small enough for the document's answer -/
structure Csk (c : Ch) : Prop where
  path : c.path.length ≤ 1048576
  old : Fsk c.old
  new : Fsk c.new
structure CSk (l : List Ch) : Prop where
  len : l.length ≤ 1048576
  each : ∀ c ∈ l, Csk c
theorem CSk.at {l : List Ch} (h : CSk l) {k : Nat} (hk : k < l.length) : Csk l[k] := h.each _ (List.getElem_mem _)

theorem rsnap_any {w : World} {v : Value} {l : List Fl} (h : FS w v l) (sm : FSk l) : Calls Try.prog 40 #[v] w fun e w' => e = .returned (.int .i64 (validE l)) ∧ Below w.heap.size w w' := by
  have H : Hid (FS w v l ∧ FSk l) := ⟨h, sm⟩
  clear h sm
  go_enter Try.func40, Try.ntmps40
  go_wp2_with fail
  refine (kvalid_any H.out.1 H.out.2).mono ?_
  rintro e w1 ⟨rfl, hb⟩
  have HB : Hid (Below w.heap.size w w1) := hb
  clear hb
  go_wp2_with fail
  go_ret
  exact ⟨rfl, HB.out⟩
set_option maxHeartbeats 1000000 in
theorem zero_any (f : Fl) (w : World) : Calls Try.prog 53 #[f.val] w fun e w' => e = .returned (.bool (feq f zf)) ∧ Below w.heap.size w w' := by
  obtain ⟨q, t, b, s⟩ := f
  simp only [Fl.val]
  have q1 := eql_zero
  have q2 := guard_run
  go_enter Try.func53, Try.ntmps53
  go_wp2_with fail
  go_ret
  exact ⟨rfl, balloc _ _⟩

/-- the document's words for a change that may be -/
def dmay (c : Ch) : Bool := !c.path.isEmpty && okP c.path && (c.had || c.has) && side c.path c.had c.old && side c.path c.has c.new && !(c.had && c.has && feq c.old c.new)
theorem feq_no {p : List UInt8} (hp : p ≠ []) {f g : Fl} (hf : f.path = p) (hg : g = zf) : feq f g = false ∧ feq g f = false := by
  subst hg
  refine ⟨?_, ?_⟩
  · cases e : feq f zf with
    | false => rfl
    | true => have := (feq_iff _ _).1 e; rw [this] at hf; exact absurd hf.symm hp
  · cases e : feq zf f with
    | false => rfl
    | true => have := (feq_iff _ _).1 e; rw [← this] at hf; exact absurd hf.symm hp
theorem dmay_may (c : Ch) : dmay c = may c := by
  obtain ⟨p, h, i, f, g⟩ := c
  have e0 : may ⟨p, h, i, f, g⟩ = ((((!p.isEmpty && okP p) && side p h f) && side p i g) && !feq f g) := by
    simp only [may, pathOk, isE']
  rw [e0]
  unfold dmay
  simp only
  cases hp : p.isEmpty
  · have hpn : p ≠ [] := by rintro rfl; simp at hp
    cases hk : okP p
    · simp
    · cases h <;> cases i
      · cases e1 : side p false f
        · simp
        · cases e2 : side p false g
          · simp
          · simp only [side, Bool.false_eq_true, if_false, feq_iff] at e1 e2
            rw [e1, e2, feq_self]; simp
      · cases e1 : side p false f
        · simp
        · cases e2 : side p true g
          · simp
          · simp only [side, Bool.false_eq_true, if_false, feq_iff, if_true, beq_iff_eq] at e1 e2
            rw [(feq_no hpn e2 e1).2]; simp
      · cases e1 : side p true f
        · simp
        · cases e2 : side p false g
          · simp
          · simp only [side, Bool.false_eq_true, if_false, feq_iff, if_true, beq_iff_eq] at e1 e2
            rw [(feq_no hpn e1 e2).1]; simp
      · simp
  · simp


set_option maxRecDepth 100000 in
set_option maxHeartbeats 8000000 in
theorem rmay_any (c : Ch) (w : World) (hc : Csk c) : Calls Try.prog 38 #[c.val] w fun e w' => e = .returned (.bool (may c)) ∧ Below w.heap.size w w' := by
  rw [← dmay_may]
  obtain ⟨p, h, i, f, g⟩ := c
  have hp : p.length ≤ 1048576 := hc.path
  clear hc
  have HV : Hid (∀ w : World, Calls Try.prog 52 #[.string (bs p)] w fun e w' => e = .returned (.bool (okP p)) ∧ Below w.heap.size w w') := fun w => rvalid_any p w (by omega)
  have HZ1 : Hid (∀ w : World, Calls Try.prog 53 #[f.val] w fun e w' => e = .returned (.bool (feq f zf)) ∧ Below w.heap.size w w') := fun w => zero_any f w
  have HZ2 : Hid (∀ w : World, Calls Try.prog 53 #[g.val] w fun e w' => e = .returned (.bool (feq g zf)) ∧ Below w.heap.size w w') := fun w => zero_any g w
  have e0 : dmay ⟨p, h, i, f, g⟩ = (!p.isEmpty && okP p && (h || i) && (if h then f.path == p else feq f zf) && (if i then g.path == p else feq g zf) && !(h && i && feq f g)) := rfl
  rw [e0]
  clear e0
  obtain ⟨q, t, b, s⟩ := f
  obtain ⟨r, y, d, z⟩ := g
  have xe : ∀ w, (binOp .eql 40 (.agg #[.string (bs q), .string (bs t), .int .i64 b, .int .i64 s]) (.agg #[.string (bs r), .string (bs y), .int .i64 d, .int .i64 z])).run Try.prog w = .ok (.bool (feq ⟨q, t, b, s⟩ ⟨r, y, d, z⟩)) w := fun w => eql_run w q t r y b s d z
  have q2 := guard_run
  generalize feq ⟨q, t, b, s⟩ ⟨r, y, d, z⟩ = x0 at *
  generalize feq ⟨q, t, b, s⟩ zf = x1 at *
  generalize feq ⟨r, y, d, z⟩ zf = x2 at *
  generalize okP p = ok at *
  have ee := isE p
  have ee2 := isE' p
  generalize hb : p.isEmpty = em at *
  clear hb
  have t1 := bs_toList p
  have t2 := bs_toList q
  have t3 := bs_toList r
  simp only [Ch.val, Fl.val] at *
  obtain ⟨u1, hu1⟩ : ∃ u, (q == p) = u := ⟨_, rfl⟩
  obtain ⟨u2, hu2⟩ : ∃ u, (r == p) = u := ⟨_, rfl⟩
  have n1 : (q != p) = !u1 := by rw [← hu1]; rfl
  have n2 : (r != p) = !u2 := by rw [← hu2]; rfl
  rw [hu1, hu2]
  cases em
  · cases ok
    · go_enter Try.func38, Try.ntmps38
      go_wp2_with fail
      refine (HV.out _).mono ?_
      rintro e w1 ⟨rfl, hb1⟩
      have HB : Hid (Below w.heap.size w w1) := bstep (balloc w _) hb1
      clear hb1
      go_wp2_with fail
      all_goals (go_ret; exact ⟨rfl, HB.out⟩)
    · cases h
      · cases i
        · skip
          go_enter Try.func38, Try.ntmps38
          go_wp2_with fail
          refine (HV.out _).mono ?_
          rintro e w1 ⟨rfl, hb1⟩
          have HB : Hid (Below w.heap.size w w1) := bstep (balloc w _) hb1
          have HC : Hid (CB w1 w.heap.size 0 ⟨p, false, false, ⟨q, t, b, s⟩, ⟨r, y, d, z⟩⟩) := (CB.new w ⟨p, false, false, ⟨q, t, b, s⟩, ⟨r, y, d, z⟩⟩ 42).later (by simp) hb1
          have HL : Hid (w.heap.size < w1.heap.size) := Nat.lt_of_lt_of_le (by simp) hb1.size
          clear hb1
          obtain ⟨c0, c1, c2, c3, c4, c5, c6, c7, c8, c9, c10⟩ := HC.out
          simp only [Nat.zero_add] at c0 c1 c2 c3 c4 c5 c6 c7 c8 c9 c10
          go_wp2_with fail
          all_goals (go_ret; exact ⟨rfl, HB.out⟩)
        · skip
          go_enter Try.func38, Try.ntmps38
          go_wp2_with fail
          refine (HV.out _).mono ?_
          rintro e w1 ⟨rfl, hb1⟩
          have HB : Hid (Below w.heap.size w w1) := bstep (balloc w _) hb1
          have HC : Hid (CB w1 w.heap.size 0 ⟨p, false, true, ⟨q, t, b, s⟩, ⟨r, y, d, z⟩⟩) := (CB.new w ⟨p, false, true, ⟨q, t, b, s⟩, ⟨r, y, d, z⟩⟩ 42).later (by simp) hb1
          have HL : Hid (w.heap.size < w1.heap.size) := Nat.lt_of_lt_of_le (by simp) hb1.size
          clear hb1
          obtain ⟨c0, c1, c2, c3, c4, c5, c6, c7, c8, c9, c10⟩ := HC.out
          simp only [Nat.zero_add] at c0 c1 c2 c3 c4 c5 c6 c7 c8 c9 c10
          cases x1
          · go_wp2_with fail
            refine (HZ1.out _).mono ?_
            rintro e wz2 ⟨rfl, hb2⟩
            have HB2 : Hid (Below w.heap.size w wz2) := bstep HB.out hb2
            have HC2 : Hid (CB wz2 w.heap.size 0 ⟨p, false, true, ⟨q, t, b, s⟩, ⟨r, y, d, z⟩⟩) := HC.out.later HL.out hb2
            have HL2 : Hid (w.heap.size < wz2.heap.size) := Nat.lt_of_lt_of_le HL.out hb2.size
            clear hb2 c0 c1 c2 c3 c4 c5 c6 c7 c8 c9 c10
            obtain ⟨c0, c1, c2, c3, c4, c5, c6, c7, c8, c9, c10⟩ := HC2.out
            simp only [Nat.zero_add] at c0 c1 c2 c3 c4 c5 c6 c7 c8 c9 c10
            go_wp2_with fail
            all_goals (go_ret; exact ⟨rfl, HB2.out⟩)
          · go_wp2_with fail
            refine (HZ1.out _).mono ?_
            rintro e wz3 ⟨rfl, hb2⟩
            have HB3 : Hid (Below w.heap.size w wz3) := bstep HB.out hb2
            have HC3 : Hid (CB wz3 w.heap.size 0 ⟨p, false, true, ⟨q, t, b, s⟩, ⟨r, y, d, z⟩⟩) := HC.out.later HL.out hb2
            have HL3 : Hid (w.heap.size < wz3.heap.size) := Nat.lt_of_lt_of_le HL.out hb2.size
            clear hb2 c0 c1 c2 c3 c4 c5 c6 c7 c8 c9 c10
            obtain ⟨c0, c1, c2, c3, c4, c5, c6, c7, c8, c9, c10⟩ := HC3.out
            simp only [Nat.zero_add] at c0 c1 c2 c3 c4 c5 c6 c7 c8 c9 c10
            cases u2
            · simp only [Bool.not_false] at n2
              go_wp2_with fail
              all_goals (go_ret; exact ⟨rfl, HB3.out⟩)
            · simp only [Bool.not_true] at n2
              go_wp2_with fail
              go_ret
              exact ⟨rfl, HB3.out⟩
      · cases i
        · skip
          go_enter Try.func38, Try.ntmps38
          go_wp2_with fail
          refine (HV.out _).mono ?_
          rintro e w1 ⟨rfl, hb1⟩
          have HB : Hid (Below w.heap.size w w1) := bstep (balloc w _) hb1
          have HC : Hid (CB w1 w.heap.size 0 ⟨p, true, false, ⟨q, t, b, s⟩, ⟨r, y, d, z⟩⟩) := (CB.new w ⟨p, true, false, ⟨q, t, b, s⟩, ⟨r, y, d, z⟩⟩ 42).later (by simp) hb1
          have HL : Hid (w.heap.size < w1.heap.size) := Nat.lt_of_lt_of_le (by simp) hb1.size
          clear hb1
          obtain ⟨c0, c1, c2, c3, c4, c5, c6, c7, c8, c9, c10⟩ := HC.out
          simp only [Nat.zero_add] at c0 c1 c2 c3 c4 c5 c6 c7 c8 c9 c10
          cases u1
          · simp only [Bool.not_false] at n1
            go_wp2_with fail
            all_goals (go_ret; exact ⟨rfl, HB.out⟩)
          · simp only [Bool.not_true] at n1
            cases x2
            · go_wp2_with fail
              refine (HZ2.out _).mono ?_
              rintro e wz4 ⟨rfl, hb2⟩
              have HB4 : Hid (Below w.heap.size w wz4) := bstep HB.out hb2
              have HC4 : Hid (CB wz4 w.heap.size 0 ⟨p, true, false, ⟨q, t, b, s⟩, ⟨r, y, d, z⟩⟩) := HC.out.later HL.out hb2
              have HL4 : Hid (w.heap.size < wz4.heap.size) := Nat.lt_of_lt_of_le HL.out hb2.size
              clear hb2 c0 c1 c2 c3 c4 c5 c6 c7 c8 c9 c10
              obtain ⟨c0, c1, c2, c3, c4, c5, c6, c7, c8, c9, c10⟩ := HC4.out
              simp only [Nat.zero_add] at c0 c1 c2 c3 c4 c5 c6 c7 c8 c9 c10
              go_wp2_with fail
              all_goals (go_ret; exact ⟨rfl, HB4.out⟩)
            · go_wp2_with fail
              refine (HZ2.out _).mono ?_
              rintro e wz5 ⟨rfl, hb2⟩
              have HB5 : Hid (Below w.heap.size w wz5) := bstep HB.out hb2
              have HC5 : Hid (CB wz5 w.heap.size 0 ⟨p, true, false, ⟨q, t, b, s⟩, ⟨r, y, d, z⟩⟩) := HC.out.later HL.out hb2
              have HL5 : Hid (w.heap.size < wz5.heap.size) := Nat.lt_of_lt_of_le HL.out hb2.size
              clear hb2 c0 c1 c2 c3 c4 c5 c6 c7 c8 c9 c10
              obtain ⟨c0, c1, c2, c3, c4, c5, c6, c7, c8, c9, c10⟩ := HC5.out
              simp only [Nat.zero_add] at c0 c1 c2 c3 c4 c5 c6 c7 c8 c9 c10
              go_wp2_with fail
              go_ret
              exact ⟨rfl, HB5.out⟩
        · skip
          go_enter Try.func38, Try.ntmps38
          go_wp2_with fail
          refine (HV.out _).mono ?_
          rintro e w1 ⟨rfl, hb1⟩
          have HB : Hid (Below w.heap.size w w1) := bstep (balloc w _) hb1
          have HC : Hid (CB w1 w.heap.size 0 ⟨p, true, true, ⟨q, t, b, s⟩, ⟨r, y, d, z⟩⟩) := (CB.new w ⟨p, true, true, ⟨q, t, b, s⟩, ⟨r, y, d, z⟩⟩ 42).later (by simp) hb1
          have HL : Hid (w.heap.size < w1.heap.size) := Nat.lt_of_lt_of_le (by simp) hb1.size
          clear hb1
          obtain ⟨c0, c1, c2, c3, c4, c5, c6, c7, c8, c9, c10⟩ := HC.out
          simp only [Nat.zero_add] at c0 c1 c2 c3 c4 c5 c6 c7 c8 c9 c10
          cases u1
          · simp only [Bool.not_false] at n1
            go_wp2_with fail
            all_goals (go_ret; exact ⟨rfl, HB.out⟩)
          · simp only [Bool.not_true] at n1
            cases u2
            · simp only [Bool.not_false] at n2
              go_wp2_with fail
              all_goals (go_ret; exact ⟨rfl, HB.out⟩)
            · simp only [Bool.not_true] at n2
              cases x0
              · go_wp2_with fail
                go_ret
                exact ⟨rfl, HB.out⟩
              · go_wp2_with fail
                go_ret
                exact ⟨rfl, HB.out⟩
  · go_enter Try.func38, Try.ntmps38
    go_wp2_with fail
    all_goals (go_ret; exact ⟨rfl, balloc _ _⟩)

theorem gw_rmay {w : World} {c : Ch} {E : Bool} (hc : Csk c) (hE : may c = E) (X : GW w) :
    Calls Try.prog 38 #[c.val] X.it fun e w' => e = .returned (.bool E) ∧ ∃ Y : GW w, w' = Y.it :=
  gw_of (fun W => by rw [← hE]; exact rmay_any c W hc) X

set_option maxRecDepth 100000 in
set_option maxHeartbeats 4000000 in
theorem rvalid_d {w : World} {v : Value} {l : List Ch} (h : CS w v l) (sm : CSk l) : Calls Try.prog 23 #[v] w fun e w' => e = .returned (.bool (vd l)) ∧ Below w.heap.size w w' := by
  have e0 : vd l = lookD l 0 := by unfold vd lookD; simp
  rw [e0]
  clear e0
  obtain ⟨r, hr⟩ : ∃ r, lookD l 0 = r := ⟨_, rfl⟩
  rw [hr]
  have HR : Hid (lookD l 0 = r) := hr
  have H : Hid (CS w v l) := h
  have SM : Hid (CSk l) := sm
  have hlen : l.length ≤ 1048576 := sm.len
  clear hr sm
  obtain ⟨a, c, rfl⟩ := h.shape
  clear h
  obtain ⟨n, hn⟩ : ∃ n, l.length = n := ⟨_, rfl⟩
  rw [hn] at hlen ⊢
  have HN : Hid (l.length = n) := hn
  have H' : Hid (CS w (.slice a l.length c) l) := H.out
  clear H hn
  go_enter Try.func23, Try.ntmps23
  go_wp2_with fail
  go_loopw [3] (fun i wr => ∃ k : Nat, k ≤ n ∧ i = .int .i64 k ∧ Below w.heap.size w wr ∧ lookD l k = r) (fun i _ => n - (intOf i).toNat)
  case atStart => exact ⟨0, by omega, rfl, Below.refl _ _, HR.out⟩
  case round =>
    obtain ⟨k, hk, rfl, hb, hl⟩ := hrel
    have HB : Hid (Below w.heap.size w wr) := hb
    have HL : Hid (lookD l k = r) := hl
    clear hb hl
    by_cases hlt : k < n
    · have hkl : k < l.length := by have := HN.out; omega
      obtain ⟨b, off, ea, hbw, _, d0, d1, d2, d3, d4, d5, d6, d7, d8, d9, d10⟩ := CS.at H'.out HB.out hkl
      subst ea
      have F : Hid (Csk l[k]) := SM.out.at hkl
      have hbr : b < wr.heap.size := Nat.lt_of_lt_of_le hbw HB.out.size
      obtain ⟨f, hf⟩ : ∃ f, l[k] = f := ⟨_, rfl⟩
      rw [hf] at d0 d1 d2 d3 d4 d5 d6 d7 d8 d9 d10 F
      have HFk : Hid (l[k] = f) := hf
      clear hf
      obtain ⟨E, hE⟩ : ∃ E, may f = E := ⟨_, rfl⟩
      have HEf : Hid (∀ (w : World) (X : GW w), Calls Try.prog 38 #[f.val] X.it fun e w' => e = .returned (.bool E) ∧ ∃ Y : GW w, w' = Y.it) := fun _ X => gw_rmay F.out hE X
      have HE : Hid (may (l[k]'hkl) = E) := by rw [HFk.out]; exact hE
      have FP : Hid (f.path.length ≤ 1048576) := F.out.path
      clear hE
      obtain ⟨p, ha, hb, ⟨q, t, bl, s⟩, ⟨r1, y, dd, z⟩⟩ := f
      simp only at d0 d1 d2 d3 d4 d5 d6 d7 d8 d9 d10 FP
      simp only [Ch.val] at HEf
      have k1 : (0 : Int) ≤ (k : Int) := by omega
      have k2 : (k : Int) < (n : Int) := by omega
      go_wp2_with fail
      obtain ⟨w1, hw1⟩ : ∃ w1, wr = w1 := ⟨_, rfl⟩
      have HB1 : Hid (Below wr.heap.size wr w1) := by rw [← hw1]; exact Below.refl _ _
      have hlt1 : b < w1.heap.size := by rw [← hw1]; exact hbr
      have hc := hw1
      subst hw1
      clear hc
      have y0 : ∀ X : GW wr, X.it.cell? ⟨b, off + k * 11, none⟩ = some (.string (bs p)) := fun X => X.cell hlt1 d0
      have y1 : ∀ X : GW wr, X.it.cell? ⟨b, off + k * 11 + 1, none⟩ = some (.bool ha) := fun X => X.cell hlt1 d1
      have y2 : ∀ X : GW wr, X.it.cell? ⟨b, off + k * 11 + 2, none⟩ = some (.bool hb) := fun X => X.cell hlt1 d2
      have y3 : ∀ X : GW wr, X.it.cell? ⟨b, off + k * 11 + 3, none⟩ = some (.string (bs q)) := fun X => X.cell hlt1 d3
      have y4 : ∀ X : GW wr, X.it.cell? ⟨b, off + k * 11 + 4, none⟩ = some (.string (bs t)) := fun X => X.cell hlt1 d4
      have y5 : ∀ X : GW wr, X.it.cell? ⟨b, off + k * 11 + 5, none⟩ = some (.int .i64 bl) := fun X => X.cell hlt1 d5
      have y6 : ∀ X : GW wr, X.it.cell? ⟨b, off + k * 11 + 6, none⟩ = some (.int .i64 s) := fun X => X.cell hlt1 d6
      have y7 : ∀ X : GW wr, X.it.cell? ⟨b, off + k * 11 + 7, none⟩ = some (.string (bs r1)) := fun X => X.cell hlt1 d7
      have y8 : ∀ X : GW wr, X.it.cell? ⟨b, off + k * 11 + 8, none⟩ = some (.string (bs y)) := fun X => X.cell hlt1 d8
      have y9 : ∀ X : GW wr, X.it.cell? ⟨b, off + k * 11 + 9, none⟩ = some (.int .i64 dd) := fun X => X.cell hlt1 d9
      have y10 : ∀ X : GW wr, X.it.cell? ⟨b, off + k * 11 + 10, none⟩ = some (.int .i64 z) := fun X => X.cell hlt1 d10
      have xne := gw_ne wr
      clear d0 d1 d2 d3 d4 d5 d6 d7 d8 d9 d10
      cases E
      · refine wp_region_grow (by kernel_rfl) (by kernel_rfl) ?_
        go_big_quiet_step (exact HEf.out _ _)
        repeat (go_big_quiet_step (exact HEf.out _ _))
        refine wpQuiet_nil ?_
        rintro w2 ⟨⟨w2, bx⟩, rfl⟩
        have HB5 : Hid (Below w.heap.size w w2) := bstep (bstep HB.out HB1.out) bx
        clear bx y0 y1 y2 y3 y4 y5 y6 y7 y8 y9 y10
        go_wp2_with fail
        go_ret
        refine ⟨?_, HB5.out⟩
        have h1 := HL.out
        unfold lookD at h1
        rw [all_step' l _ k hkl, HE.out] at h1
        simp at h1
        rw [← h1]; rfl
      · rcases Nat.eq_zero_or_pos k with hk0 | hk0
        · subst hk0
          simp only [Nat.zero_mul, Nat.add_zero] at y0 y1 y2 y3 y4 y5 y6 y7 y8 y9 y10
          refine wp_region_grow (by kernel_rfl) (by kernel_rfl) ?_
          go_big_quiet_step (exact HEf.out _ _)
          repeat (go_big_quiet_step (exact HEf.out _ _))
          refine wpQuiet_nil ?_
          rintro w2 ⟨⟨w2, bx⟩, rfl⟩
          have HB5 : Hid (Below w.heap.size w w2) := bstep (bstep HB.out HB1.out) bx
          clear bx y0 y1 y2 y3 y4 y5 y6 y7 y8 y9 y10
          go_wp2_with fail
          go_roundw
          case rel => exact ⟨1, by omega, rfl, HB5.out, by have h1 := HL.out; rw [lookD_zero l hkl, HE.out] at h1; simpa using h1⟩
          case measure => simp [intOf]; omega
        · obtain ⟨m, hm⟩ : ∃ m, k = m + 1 := ⟨k - 1, by omega⟩
          have HKM : Hid (k = m + 1) := hm
          have hml : m < l.length := by omega
          obtain ⟨q0, hq⟩ : ∃ q, (l[m]'hml).path = q := ⟨_, rfl⟩
          have hql : q0.length ≤ 1048576 := by rw [← hq]; exact (SM.out.at hml).path
          obtain ⟨o, hcc⟩ : ∃ o, cf q0 p = o := ⟨_, rfl⟩
          have HFol : Hid (∀ (w : World) (X : GW w), Calls Try.prog 39 #[.string (bs q0), .string (bs p)] X.it fun e w' => e = .returned (.int .i64 o) ∧ ∃ Y : GW w, w' = Y.it) := fun _ X => rcmp_grow hql FP.out hcc X
          have HC : Hid (∀ (h1 : m + 1 < l.length), lookD l (m + 1) = (may (l[m + 1]'h1) && (decide (o < 0) && lookD l (m + 2)))) := fun h1 => by
            have e := lookD_succ l m h1
            have e2 : (l[m + 1]'h1).path = p := by
              have := HFk.out
              subst hm
              rw [this]
            rw [e, e2, hq, hcc]
          have hc0 : wr.cell? ⟨b, off + m * 11, none⟩ = some (.string (bs q0)) := by
            obtain ⟨b', off', ea, _, _, z0, _⟩ := CS.at H'.out HB.out hml
            injection ea with ea
            injection ea with e1 e2
            subst e1 e2
            rw [← hq]; exact z0
          have x4 : ∀ X : GW wr, X.it.cell? ⟨b, off + m * 11, none⟩ = some (.string (bs q0)) := fun X => X.cell (p := ⟨b, off + m * 11, none⟩) (Nat.lt_of_lt_of_le hbr HB1.out.size) ((HB1.out.cell (p := ⟨b, off + m * 11, none⟩) hbr).trans hc0)
          have k3 : (m : Int) < (n : Int) := by omega
          have k4 : (0 : Int) ≤ (m : Int) := by omega
          have k6 : (0 : Int) < (k : Int) := by omega
          have k5 : IntKind.i64.wrap ((k : Int) - 1) = (m : Int) := by
            have e : (k : Int) - 1 = (m : Int) := by omega
            rw [e]; exact wrap_small m (by omega)
          clear hc0 hq hcc hm
          refine wp_region_grow (by kernel_rfl) (by kernel_rfl) ?_
          repeat (go_big_quiet_step (fail))
          go_big_quiet_step (exact HEf.out _ _)
          repeat (go_big_quiet_step (fail))
          go_big_quiet_step (exact HFol.out _ _)
          repeat (go_big_quiet_step (fail))
          refine wpQuiet_nil ?_
          rintro w2 ⟨⟨w2, bx⟩, rfl⟩
          have HB5 : Hid (Below w.heap.size w w2) := bstep (bstep HB.out HB1.out) bx
          clear bx y0 y1 y2 y3 y4 y5 y6 y7 y8 y9 y10 x4
          by_cases ho : o < 0
          · have HO : Hid (decide (o < 0) = true) := by show decide (o < 0) = true; simpa using ho
            go_wp2_with fail
            go_roundw
            case rel =>
              refine ⟨k + 1, by omega, by go_num, HB5.out, ?_⟩
              have h1 := HL.out
              have hkm := HKM.out
              subst hkm
              rw [HC.out hkl, HE.out, HO.out] at h1
              simpa using h1
            case measure => simp [intOf]; omega
          · have HO : Hid (decide (o < 0) = false) := by show decide (o < 0) = false; simpa using ho
            go_wp2_with fail
            go_ret
            refine ⟨?_, HB5.out⟩
            have h1 := HL.out
            have hkm := HKM.out
            subst hkm
            rw [HC.out hkl, HO.out] at h1
            simp at h1
            rw [← h1]; rfl
    · obtain rfl : k = n := by omega
      go_wp2_with fail
      go_ret
      refine ⟨?_, HB.out⟩
      have h1 := HL.out
      have h2 := HN.out
      subst h2
      rw [lookD_end] at h1
      rw [← h1]; rfl

theorem fnd_stepC (l : List Ch) (k : Nat) (h : k < l.length) (p : List UInt8) : lk Ch.path (l.drop k) p = if (l[k]'h).path = p then some (l[k]'h) else lk Ch.path (l.drop (k + 1)) p := by
  rw [List.drop_eq_getElem_cons h, lk]


set_option maxRecDepth 100000 in
set_option maxHeartbeats 4000000 in
theorem rat_any {w : World} {v : Value} {l : List Fl} (q : List UInt8) (h : FS w v l) (hlen : l.length ≤ 140737488355328) :
    Calls Try.prog 41 #[v, .string (bs q)] w fun e w' => e = .returned (.tuple #[((lk Fl.path l q).getD zf).val, .bool (lk Fl.path l q).isSome]) ∧ Below w.heap.size w w' := by
  obtain ⟨r, hr⟩ : ∃ r, lk Fl.path l q = r := ⟨_, rfl⟩
  rw [hr]
  have HR : Hid (lk Fl.path (l.drop 0) q = r) := hr
  have H : Hid (FS w v l) := h
  clear hr
  obtain ⟨a, c, rfl⟩ : ∃ a c, v = .slice a l.length c := by obtain ⟨a, c, h, _⟩ := h.form; exact ⟨a, c, h⟩
  clear h
  obtain ⟨n, hn⟩ : ∃ n, l.length = n := ⟨_, rfl⟩
  have H' : Hid (FS w (.slice a l.length c) l) := H.out
  clear H
  rw [hn] at hlen ⊢
  have HN : Hid (l.length = n) := hn
  clear hn
  obtain ⟨A, hA⟩ : ∃ A, Value.tuple #[(r.getD zf).val, .bool r.isSome] = A := ⟨_, rfl⟩
  rw [hA]
  have HA : Hid (Value.tuple #[(r.getD zf).val, .bool r.isSome] = A) := hA
  clear hA
  have hq := bs_toList q
  go_enter Try.func41, Try.ntmps41
  go_wp2_with fail
  go_loopw [6] (fun i wr => ∃ k : Nat, k ≤ n ∧ i = .int .i64 k ∧ Below w.heap.size w wr ∧ RB wr w.heap.size zf ∧ lk Fl.path (l.drop k) q = r) (fun i _ => n - (intOf i).toNat)
  case atStart => exact ⟨0, by omega, rfl, balloc _ _, RB.new w zf, HR.out⟩
  case round =>
    obtain ⟨k, hk, rfl, hb, hrb, hl⟩ := hrel
    have HB : Hid (Below w.heap.size w wr) := hb
    have HZ : Hid (RB wr w.heap.size zf) := hrb
    have HL : Hid (lk Fl.path (l.drop k) q = r) := hl
    have hlt0 := hrb.lt
    clear hb hl hrb
    by_cases hlt : k < n
    · have hkl : k < l.length := by have := HN.out; omega
      obtain ⟨b, off, ea, hbw, d0, d1, d2, d3⟩ := FS.at H'.out HB.out hkl
      subst ea
      have hbw2 : b < w.heap.size := hbw
      obtain ⟨f, hf⟩ : ∃ f, l[k] = f := ⟨_, rfl⟩
      rw [hf] at d0 d1 d2 d3
      have HS2 : Hid ((if f.path = q then some f else lk Fl.path (l.drop (k + 1)) q) = r) := by
        have h1 := HL.out
        rw [fnd_step l k hkl, hf] at h1; exact h1
      clear hf
      obtain ⟨p, t, bl, s⟩ := f
      simp only at d0 d1 d2 d3 HS2
      have k1 : (0 : Int) ≤ (k : Int) := by omega
      have k2 : (k : Int) < (n : Int) := by omega
      have hp := bs_toList p
      obtain ⟨z0, z1, z2, z3, y0, y1, y2, y3⟩ := HZ.out.cells
      by_cases hpq : p = q
      · have hd : (p == q) = true := by simpa using hpq
        have HPQ : Hid (p = q) := hpq
        clear hpq
        go_wp2_with fail
        refine bodyPost_ret (results_ct rfl _ _ w.heap.size 40 #[.string (bs p), .string (bs t), .int .i64 bl, .int .i64 s] (0, 0) _ rfl ?_ Try.underlying40 rfl (by kernel_rfl)) rfl ?_
        · exact (HZ.out.set ⟨p, t, bl, s⟩).blk
        refine ⟨?_, bset4 HB.out (Nat.le_refl _) _ _ _ _⟩
        have h1 := HS2.out
        rw [if_pos HPQ.out] at h1
        rw [← HA.out, ← h1]; rfl
      · have hd : (p == q) = false := by simpa using hpq
        have HPQ : Hid (¬ p = q) := hpq
        clear hpq
        go_wp2_with fail
        go_roundw
        case rel =>
          refine ⟨k + 1, by omega, by go_num, HB.out, HZ.out, ?_⟩
          have h1 := HS2.out
          rw [if_neg HPQ.out] at h1
          exact h1
        case measure => simp [intOf]; omega
    · obtain rfl : k = n := by omega
      obtain ⟨z0, z1, z2, z3, y0, y1, y2, y3⟩ := HZ.out.cells
      go_wp2_with fail
      refine bodyPost_ret (results_ct rfl _ _ w.heap.size 40 #[.string (bs []), .string (bs []), .int .i64 0, .int .i64 0] (0, 0) _ rfl ?_ Try.underlying40 rfl (by kernel_rfl)) rfl ?_
      · exact (HZ.out.set zf).blk
      refine ⟨?_, bset4 HB.out (Nat.le_refl _) _ _ _ _⟩
      have h1 := HL.out
      rw [List.drop_eq_nil_of_le (by have := HN.out; omega)] at h1
      rw [← HA.out, ← h1]; rfl


set_option maxRecDepth 100000 in
set_option maxHeartbeats 4000000 in
theorem rchange_any {w : World} {v : Value} {l : List Ch} (q : List UInt8) (h : CS w v l) (hlen : l.length ≤ 140737488355328) :
    Calls Try.prog 43 #[v, .string (bs q)] w fun e w' => e = .returned (.tuple #[((lk Ch.path l q).getD zc).val, .bool (lk Ch.path l q).isSome]) ∧ Below w.heap.size w w' := by
  obtain ⟨r, hr⟩ : ∃ r, lk Ch.path l q = r := ⟨_, rfl⟩
  rw [hr]
  have HR : Hid (lk Ch.path (l.drop 0) q = r) := hr
  have H : Hid (CS w v l) := h
  clear hr
  obtain ⟨a, c, rfl⟩ : ∃ a c, v = .slice a l.length c := h.shape
  clear h
  obtain ⟨n, hn⟩ : ∃ n, l.length = n := ⟨_, rfl⟩
  have H' : Hid (CS w (.slice a l.length c) l) := H.out
  clear H
  rw [hn] at hlen ⊢
  have HN : Hid (l.length = n) := hn
  clear hn
  obtain ⟨A, hA⟩ : ∃ A, Value.tuple #[(r.getD zc).val, .bool r.isSome] = A := ⟨_, rfl⟩
  rw [hA]
  have HA : Hid (Value.tuple #[(r.getD zc).val, .bool r.isSome] = A) := hA
  clear hA
  have hq := bs_toList q
  go_enter Try.func43, Try.ntmps43
  go_wp2_with fail
  go_loopw [6] (fun i wr => ∃ k : Nat, k ≤ n ∧ i = .int .i64 k ∧ Below w.heap.size w wr ∧ RC wr w.heap.size zc ∧ lk Ch.path (l.drop k) q = r) (fun i _ => n - (intOf i).toNat)
  case atStart => exact ⟨0, by omega, rfl, balloc _ _, RC.new w zc, HR.out⟩
  case round =>
    obtain ⟨k, hk, rfl, hb, hrb, hl⟩ := hrel
    have HB : Hid (Below w.heap.size w wr) := hb
    have HZ : Hid (RC wr w.heap.size zc) := hrb
    have HL : Hid (lk Ch.path (l.drop k) q = r) := hl
    have hlt0 := hrb.lt
    clear hb hl hrb
    by_cases hlt : k < n
    · have hkl : k < l.length := by have := HN.out; omega
      obtain ⟨b, off, ea, hbw, _, d0, d1, d2, d3, d4, d5, d6, d7, d8, d9, d10⟩ := CS.at H'.out HB.out hkl
      subst ea
      have hbw2 : b < w.heap.size := hbw
      obtain ⟨f, hf⟩ : ∃ f, l[k] = f := ⟨_, rfl⟩
      rw [hf] at d0 d1 d2 d3 d4 d5 d6 d7 d8 d9 d10
      have HS2 : Hid ((if f.path = q then some f else lk Ch.path (l.drop (k + 1)) q) = r) := by
        have h1 := HL.out
        rw [fnd_stepC l k hkl, hf] at h1; exact h1
      clear hf
      obtain ⟨p, ha, hb, ⟨q1, t, bl, s⟩, ⟨r1, y, dd, z⟩⟩ := f
      simp only at d0 d1 d2 d3 d4 d5 d6 d7 d8 d9 d10 HS2
      have k1 : (0 : Int) ≤ (k : Int) := by omega
      have k2 : (k : Int) < (n : Int) := by omega
      have hp := bs_toList p
      obtain ⟨z0, z1, z2, z3, z4, z5, z6, z7, z8, z9, z10⟩ := HZ.out.cb
      simp only [Nat.zero_add] at z0 z1 z2 z3 z4 z5 z6 z7 z8 z9 z10
      have y0 := HZ.out.free 0
      have y1 := HZ.out.free 1
      have y2 := HZ.out.free 2
      have y3 := HZ.out.free 3
      have y4 := HZ.out.free 4
      have y5 := HZ.out.free 5
      have y6 := HZ.out.free 6
      have y7 := HZ.out.free 7
      have y8 := HZ.out.free 8
      have y9 := HZ.out.free 9
      have y10 := HZ.out.free 10
      by_cases hpq : p = q
      · have hd : (p == q) = true := by simpa using hpq
        have HPQ : Hid (p = q) := hpq
        clear hpq
        go_wp2_with fail
        refine bodyPost_ret (results_ct rfl _ _ w.heap.size 42 #[.string (bs p), .bool ha, .bool hb, .string (bs q1), .string (bs t), .int .i64 bl, .int .i64 s, .string (bs r1), .string (bs y), .int .i64 dd, .int .i64 z] (0, 0) _ rfl ?_ Try.underlying42 rfl (by kernel_rfl)) rfl ?_
        · exact (HZ.out.set ⟨p, ha, hb, ⟨q1, t, bl, s⟩, ⟨r1, y, dd, z⟩⟩).blk
        refine ⟨?_, bset11 HB.out (Nat.le_refl _) _ _ _ _ _ _ _ _ _ _ _⟩
        have h1 := HS2.out
        rw [if_pos HPQ.out] at h1
        rw [← HA.out, ← h1]; rfl
      · have hd : (p == q) = false := by simpa using hpq
        have HPQ : Hid (¬ p = q) := hpq
        clear hpq
        go_wp2_with fail
        go_roundw
        case rel =>
          refine ⟨k + 1, by omega, by go_num, HB.out, HZ.out, ?_⟩
          have h1 := HS2.out
          rw [if_neg HPQ.out] at h1
          exact h1
        case measure => simp [intOf]; omega
    · obtain rfl : k = n := by omega
      obtain ⟨z0, z1, z2, z3, z4, z5, z6, z7, z8, z9, z10⟩ := HZ.out.cb
      simp only [Nat.zero_add] at z0 z1 z2 z3 z4 z5 z6 z7 z8 z9 z10
      have y0 := HZ.out.free 0
      have y1 := HZ.out.free 1
      have y2 := HZ.out.free 2
      have y3 := HZ.out.free 3
      have y4 := HZ.out.free 4
      have y5 := HZ.out.free 5
      have y6 := HZ.out.free 6
      have y7 := HZ.out.free 7
      have y8 := HZ.out.free 8
      have y9 := HZ.out.free 9
      have y10 := HZ.out.free 10
      go_wp2_with fail
      refine bodyPost_ret (results_ct rfl _ _ w.heap.size 42 #[.string (bs []), .bool false, .bool false, .string (bs []), .string (bs []), .int .i64 0, .int .i64 0, .string (bs []), .string (bs []), .int .i64 0, .int .i64 0] (0, 0) _ rfl ?_ Try.underlying42 rfl (by kernel_rfl)) rfl ?_
      · exact (HZ.out.set zc).blk
      refine ⟨?_, bset11 HB.out (Nat.le_refl _) _ _ _ _ _ _ _ _ _ _ _⟩
      have h1 := HL.out
      rw [List.drop_eq_nil_of_le (by have := HN.out; omega)] at h1
      rw [← HA.out, ← h1]; rfl
end Go.Proofs.Ytinhdjoidbcfaaa
