/-
  slices.Equal of texts and of labels; two targets, two lists of targets held against each other.
  Two targets, two lists of targets held against each other, by the program.
-/
import Derived.Test.YtemoplpfndnklaaGreatDoorJSameg
namespace Go.Proofs.YtemoplpfndnklaaGreatDoor
open Go.RowKit

set_option maxHeartbeats 1000000 in
theorem equalS_any {w : World} {va vb : Value} {A B : List (List UInt8)} (ha : SS w va A) (hb : SS w vb B) (hl : A.length ≤ 1000000000) (_hl2 : B.length ≤ 1000000000) :
    Calls Tryz.prog 46 #[va, vb] w fun e w' => e = .returned (.bool (decide (A = B))) ∧ ∃ n, w' = w.drewN n := by
  obtain ⟨R, hR⟩ : ∃ R, decide (A = B) = R := ⟨_, rfl⟩
  rw [hR]
  have HR : Hid (decide (A = B) = R) := hR
  clear hR
  obtain ⟨a, c, rfl, ca⟩ := ha.form
  obtain ⟨b, d, rfl, cb⟩ := hb.form
  have HA : Hid (∀ k, (hk : k < A.length) → ∃ b off, a = some ⟨b, off, none⟩ ∧ b < w.heap.size ∧ w.cell? ⟨b, off + k, none⟩ = some (.string (bs A[k]))) := ca
  have HB : Hid (∀ k, (hk : k < B.length) → ∃ b' off, b = some ⟨b', off, none⟩ ∧ b' < w.heap.size ∧ w.cell? ⟨b', off + k, none⟩ = some (.string (bs B[k]))) := cb
  clear ha hb ca cb
  by_cases hlen : A.length = B.length
  rotate_left
  · obtain rfl : R = false := by
      rw [← HR.out]; simp; intro e; exact hlen (by rw [e])
    have n1 : ((A.length : Int) != (B.length : Int)) = true := by simp; omega
    have n2 : ((A.length : Int) == (B.length : Int)) = false := by simp; omega
    have n3 : ¬ (A.length : Int) = (B.length : Int) := by omega
    clear HA HB
    go_enter Tryz.func46, Tryz.ntmps46
    go_wp2_with fail
    go_ret
    exact ⟨rfl, 0, rfl⟩
  obtain ⟨nA, hnA⟩ : ∃ nA, A.length = nA := ⟨_, rfl⟩
  have hnB : B.length = nA := by omega
  have HNA : Hid (A.length = nA ∧ B.length = nA) := ⟨hnA, hnB⟩
  rw [hnA, hnB]
  clear hlen
  rw [hnA] at hl
  clear hnA hnB
  go_enter Tryz.func46, Tryz.ntmps46
  go_wp2_with fail
  go_loopw [13] (fun i wr => ∃ k n : Nat, k ≤ nA ∧ i = .int .i64 k ∧ decide (A.drop k = B.drop k) = R ∧ wr = w.drewN n) (fun i _ => nA - (intOf i).toNat)
  case atStart => exact ⟨0, 0, Nat.zero_le _, rfl, by simpa using HR.out, rfl⟩
  case round =>
    obtain ⟨k, m, hk, rfl, hR, rfl⟩ := hrel
    have HRk : Hid (decide (A.drop k = B.drop k) = R) := hR
    clear hR
    by_cases hlt : k < nA
    · have hA : k < A.length := by have := HNA.out; omega
      have hB : k < B.length := by have := HNA.out; omega
      obtain ⟨b1, o1, rfl, h1, c1⟩ := HA.out k hA
      obtain ⟨b2, o2, rfl, h2, c2⟩ := HB.out k hB
      have i1 : (0 : Int) ≤ (k : Int) := by omega
      have i2 : (k : Int) < (nA : Int) := by omega
      have e1 := bs_toList A[k]
      have e2 := bs_toList B[k]
      have hd := drop_same hA hB
      by_cases he : A[k] = B[k]
      · have q1 : (A[k] == B[k]) = true := by rw [he]; simp
        have HR2 : Hid (decide (A.drop (k + 1) = B.drop (k + 1)) = R) := by
          show decide _ = R
          have := HRk.out
          rw [hd, he] at this; simpa using this
        clear he hd
        go_wp2_with fail
        go_quiet (fail)
        go_wp2_with fail
        go_roundw
        case rel => exact ⟨k + 1, _, hlt, rfl, HR2.out, rfl⟩
        case measure => simp only [intOf]; omega
      · have q1 : (A[k] == B[k]) = false := by simpa using he
        obtain rfl : R = false := by
          have := HRk.out
          rw [hd, decide_eq_false he] at this; simpa using this.symm
        clear he hd
        go_wp2_with fail
        go_quiet (fail)
        go_wp2_with fail
        go_ret
        exact ⟨rfl, _, World.drewN_drewN _ _ _⟩
    · obtain rfl : k = nA := by omega
      obtain rfl : R = true := by
        have := HRk.out
        rw [← this, List.drop_eq_nil_of_le (by have := HNA.out; omega), List.drop_eq_nil_of_le (by have := HNA.out; omega)]; simp
      go_wp2_with fail
      go_ret
      exact ⟨rfl, _, rfl⟩

set_option maxHeartbeats 1000000 in
theorem equalL_any {w : World} {va vb : Value} {A B : List Lb} (ha : LS w va A) (hb : LS w vb B) (hl : A.length ≤ 1000000000) (_hl2 : B.length ≤ 1000000000) :
    Calls Tryz.prog 47 #[va, vb] w fun e w' => e = .returned (.bool (decide (A = B))) ∧ ∃ n, w' = w.drewN n := by
  obtain ⟨R, hR⟩ : ∃ R, decide (A = B) = R := ⟨_, rfl⟩
  rw [hR]
  have HR : Hid (decide (A = B) = R) := hR
  clear hR
  obtain ⟨a, c, rfl, ca⟩ := ha.form
  obtain ⟨b, d, rfl, cb⟩ := hb.form
  have HA : Hid (∀ k, (hk : k < A.length) → ∃ b off, a = some ⟨b, off, none⟩ ∧ b < w.heap.size ∧ w.cell? ⟨b, off + k * 2, none⟩ = some (.string (bs A[k].pkg)) ∧ w.cell? ⟨b, off + k * 2 + 1, none⟩ = some (.string (bs A[k].name))) := ca
  have HB : Hid (∀ k, (hk : k < B.length) → ∃ b' off, b = some ⟨b', off, none⟩ ∧ b' < w.heap.size ∧ w.cell? ⟨b', off + k * 2, none⟩ = some (.string (bs B[k].pkg)) ∧ w.cell? ⟨b', off + k * 2 + 1, none⟩ = some (.string (bs B[k].name))) := cb
  clear ha hb ca cb
  by_cases hlen : A.length = B.length
  rotate_left
  · obtain rfl : R = false := by
      rw [← HR.out]; simp; intro e; exact hlen (by rw [e])
    have n1 : ((A.length : Int) != (B.length : Int)) = true := by simp; omega
    have n2 : ((A.length : Int) == (B.length : Int)) = false := by simp; omega
    have n3 : ¬ (A.length : Int) = (B.length : Int) := by omega
    clear HA HB
    go_enter Tryz.func47, Tryz.ntmps47
    go_wp2_with fail
    go_ret
    exact ⟨rfl, 0, rfl⟩
  obtain ⟨nA, hnA⟩ : ∃ nA, A.length = nA := ⟨_, rfl⟩
  have hnB : B.length = nA := by omega
  have HNA : Hid (A.length = nA ∧ B.length = nA) := ⟨hnA, hnB⟩
  rw [hnA, hnB]
  clear hlen
  rw [hnA] at hl
  clear hnA hnB
  go_enter Tryz.func47, Tryz.ntmps47
  go_wp2_with fail
  go_loopw [13] (fun i wr => ∃ k n : Nat, k ≤ nA ∧ i = .int .i64 k ∧ decide (A.drop k = B.drop k) = R ∧ wr = w.drewN n) (fun i _ => nA - (intOf i).toNat)
  case atStart => exact ⟨0, 0, Nat.zero_le _, rfl, by simpa using HR.out, rfl⟩
  case round =>
    obtain ⟨k, m, hk, rfl, hR, rfl⟩ := hrel
    have HRk : Hid (decide (A.drop k = B.drop k) = R) := hR
    clear hR
    by_cases hlt : k < nA
    · have hA : k < A.length := by have := HNA.out; omega
      have hB : k < B.length := by have := HNA.out; omega
      obtain ⟨b1, o1, rfl, h1, c1, c1'⟩ := HA.out k hA
      obtain ⟨b2, o2, rfl, h2, c2, c2'⟩ := HB.out k hB
      have i1 : (0 : Int) ≤ (k : Int) := by omega
      have i2 : (k : Int) < (nA : Int) := by omega
      have e2 : ∀ (w : World) (op : BinOp) (y z : Operand) (xs ys : Array Value), (eqGuard op 58 y z (.agg xs) (.agg ys)).run Tryz.prog w = .ok () w := guard_run
      have hd := drop_same hA hB
      by_cases he : A[k] = B[k]
      · have q1 : ∀ w : World, (binOp .neq 58 (.agg #[.string (bs A[k].pkg), .string (bs A[k].name)]) (.agg #[.string (bs B[k].pkg), .string (bs B[k].name)])).run Tryz.prog w = .ok (.bool false) w := fun w => by
          rw [neq58_run]; simp [he]
        have HR2 : Hid (decide (A.drop (k + 1) = B.drop (k + 1)) = R) := by
          show decide _ = R
          have := HRk.out
          rw [hd, he] at this; simpa using this
        generalize A[k].pkg = lp1 at *
        generalize A[k].name = ln1 at *
        generalize B[k].pkg = lp2 at *
        generalize B[k].name = ln2 at *
        clear he hd
        go_wp2_with fail
        go_quiet (fail)
        go_wp2_with fail
        go_roundw
        case rel => exact ⟨k + 1, _, hlt, rfl, HR2.out, rfl⟩
        case measure => simp only [intOf]; omega
      · have q1 : ∀ w : World, (binOp .neq 58 (.agg #[.string (bs A[k].pkg), .string (bs A[k].name)]) (.agg #[.string (bs B[k].pkg), .string (bs B[k].name)])).run Tryz.prog w = .ok (.bool true) w := fun w => by
          rw [neq58_run, decide_eq_false (show ¬ ((⟨A[k].pkg, A[k].name⟩ : Lb) = ⟨B[k].pkg, B[k].name⟩) from he)]; rfl
        obtain rfl : R = false := by
          have := HRk.out
          rw [hd, decide_eq_false he] at this; simpa using this.symm
        generalize A[k].pkg = lp1 at *
        generalize A[k].name = ln1 at *
        generalize B[k].pkg = lp2 at *
        generalize B[k].name = ln2 at *
        clear he hd
        go_wp2_with fail
        go_quiet (fail)
        go_wp2_with fail
        go_ret
        exact ⟨rfl, _, World.drewN_drewN _ _ _⟩
    · obtain rfl : k = nA := by omega
      obtain rfl : R = true := by
        have := HRk.out
        rw [← this, List.drop_eq_nil_of_le (by have := HNA.out; omega), List.drop_eq_nil_of_le (by have := HNA.out; omega)]; simp
      go_wp2_with fail
      go_ret
      exact ⟨rfl, _, rfl⟩

end Go.Proofs.YtemoplpfndnklaaGreatDoor

namespace Go.Proofs.YtemoplpfndnklaaGreatDoor
open Go.RowKit

/-- two targets' lists, read -/
structure TSm (t : Tg) : Prop where
  s : t.srcs.length ≤ 1000000000
  d : t.deps.length ≤ 1000000000
  e : t.see.length ≤ 1000000000
set_option maxHeartbeats 4000000 in
theorem psame_any {w : World} {a b : Tv} {t u : Tg} (ha : TRead w a t) (hb : TRead w b u) (st : TSm t) (su : TSm u) :
    Calls Tryz.prog 26 #[a.val, b.val] w fun e w' => e = .returned (.bool (decide (t = u))) ∧ Below w.heap.size w w' := by
  obtain ⟨R, hR⟩ : ∃ R, decide (t = u) = R := ⟨_, rfl⟩
  rw [hR]
  have HR : Hid (decide (t = u) = R) := hR
  clear hR
  obtain ⟨w0, hw0⟩ : ∃ w0, (w.alloc a.obj).alloc b.obj = w0 := ⟨_, rfl⟩
  have hb0 : Below w.heap.size w w0 := by rw [← hw0]; exact bstep (balloc _ _) (balloc _ _)
  have A0 : TB w0 w.heap.size a := by rw [← hw0]; exact (TB.new w a).later (balloc _ _)
  have B0 : TB w0 (w.heap.size + 1) b := by
    rw [← hw0]; have := TB.new (w.alloc a.obj) b; simpa using this
  have HA : Hid (∀ n, Calls Tryz.prog 46 #[.slice a.sa a.sn a.sc, .slice b.sa b.sn b.sc] (w0.drewN n) fun e w' => e = .returned (.bool (decide (t.srcs = u.srcs))) ∧ ∃ m, w' = w0.drewN m) := fun n => Calls.quiet_of (equalS_any ((ha.s.later hb0).later (bd _ n)) ((hb.s.later hb0).later (bd _ n)) st.s su.s)
  have HD : Hid (∀ n, Calls Tryz.prog 47 #[.slice a.da a.dn a.dc, .slice b.da b.dn b.dc] (w0.drewN n) fun e w' => e = .returned (.bool (decide (t.deps = u.deps))) ∧ ∃ m, w' = w0.drewN m) := fun n => Calls.quiet_of (equalL_any ((ha.d.later hb0).later (bd _ n)) ((hb.d.later hb0).later (bd _ n)) st.d su.d)
  have HE : Hid (∀ n, Calls Tryz.prog 46 #[.slice a.ea a.en a.ec, .slice b.ea b.en b.ec] (w0.drewN n) fun e w' => e = .returned (.bool (decide (t.see = u.see))) ∧ ∃ m, w' = w0.drewN m) := fun n => Calls.quiet_of (equalS_any ((ha.e.later hb0).later (bd _ n)) ((hb.e.later hb0).later (bd _ n)) st.e su.e)
  obtain ⟨x0, x1, x2, x3, _, _, _⟩ := A0.cells
  obtain ⟨y0, y1, y2, y3, _, _, _⟩ := B0.cells
  have HB0 : Hid (Below w.heap.size w w0) := hb0
  have HW : Hid ((w.alloc a.obj).alloc b.obj = w0) := hw0
  have na := ha.name
  have nb := hb.name
  rw [na] at x0
  rw [nb] at y0
  unfold Tv.val
  unfold Tv.obj at HW
  rw [na, nb]
  rw [na, nb] at HW
  have q1 := bs_toList t.name
  have q2 := bs_toList u.name
  have HT : Hid ((t = u) ↔ (t.name = u.name ∧ t.srcs = u.srcs ∧ t.see = u.see ∧ t.deps = u.deps)) := tg_eq t u
  clear hw0 hb0 A0 B0 ha hb na nb st su
  by_cases g1 : t.name = u.name
  rotate_left
  · obtain rfl : R = false := by rw [← HR.out, decide_eq_false (fun e => g1 (by rw [e]))]
    have g1' : (t.name == u.name) = false := by simpa using g1
    clear g1 HR HT
    go_enter Tryz.func26, Tryz.ntmps26
    go_wp2_with fail
    go_ret
    exact ⟨rfl, bstep (balloc _ _) (balloc _ _)⟩
  have g1' : (t.name == u.name) = true := by rw [g1]; simp
  have G1 : Hid (t.name = u.name) := g1
  clear g1
  cases g2 : decide (t.srcs = u.srcs)
  · obtain rfl : R = false := by rw [← HR.out, decide_eq_false (fun e => by rw [e] at g2; simp at g2)]
    rw [g2] at HA
    clear g2 HR HT
    go_enter Tryz.func26, Tryz.ntmps26
    go_wp2_with fail
    rw [HW.out]
    refine (HA.out 0).mono ?_
    rintro e w1 ⟨rfl, n1, rfl⟩
    go_wp2_with fail
    go_ret
    exact ⟨rfl, bstep HB0.out (bd _ _)⟩
  rw [g2] at HA
  have g2' : t.srcs = u.srcs := of_decide_eq_true g2
  have G2 : Hid (t.srcs = u.srcs) := g2'
  clear g2 g2'
  cases g3 : decide (t.deps = u.deps)
  · obtain rfl : R = false := by rw [← HR.out, decide_eq_false (fun e => by rw [e] at g3; simp at g3)]
    rw [g3] at HD
    clear g3 HR HT
    go_enter Tryz.func26, Tryz.ntmps26
    go_wp2_with fail
    rw [HW.out]
    refine (HA.out 0).mono ?_
    rintro e w1 ⟨rfl, n1, rfl⟩
    go_wp2_with fail
    refine (HD.out _).mono ?_
    rintro e w2 ⟨rfl, n2, rfl⟩
    go_wp2_with fail
    go_ret
    exact ⟨rfl, bstep HB0.out (bd _ _)⟩
  rw [g3] at HD
  have g3' : t.deps = u.deps := of_decide_eq_true g3
  obtain rfl : decide (t.see = u.see) = R := by
    rw [← HR.out]
    by_cases e : t.see = u.see
    · rw [decide_eq_true e, decide_eq_true (HT.out.2 ⟨G1.out, G2.out, e, g3'⟩)]
    · rw [decide_eq_false e, decide_eq_false (fun h => e (by rw [h]))]
  clear g3 g3' HR HT
  generalize decide (t.see = u.see) = R at *
  go_enter Tryz.func26, Tryz.ntmps26
  go_wp2_with fail
  rw [HW.out]
  refine (HA.out 0).mono ?_
  rintro e w1 ⟨rfl, n1, rfl⟩
  go_wp2_with fail
  refine (HD.out _).mono ?_
  rintro e w2 ⟨rfl, n2, rfl⟩
  go_wp2_with fail
  refine (HE.out _).mono ?_
  rintro e w3 ⟨rfl, n3, rfl⟩
  go_wp2_with fail
  go_ret
  exact ⟨by simp, bstep HB0.out (bd _ _)⟩
set_option maxHeartbeats 4000000 in
theorem equalFunc_any {w : World} {va vb : Value} {A B : List Tg} (ha : GR w va A) (hb : GR w vb B) (sA : GSm A) (sB : GSm B) :
    Calls Tryz.prog 25 #[va, vb, .func (.func 26) #[] #[]] w fun e w' => e = .returned (.bool (decide (A = B))) ∧ Below w.heap.size w w' := by
  obtain ⟨R, hR⟩ : ∃ R, decide (A = B) = R := ⟨_, rfl⟩
  rw [hR]
  have HR : Hid (decide (A = B) = R) := hR
  clear hR
  obtain ⟨a, ga, ra⟩ := ha.it
  obtain ⟨b, gb, rb⟩ := hb.it
  obtain ⟨aa, ca, rfl, _⟩ := ga.form
  obtain ⟨ab, cb, rfl, _⟩ := gb.form
  have lA := sA.len
  have lB := sB.len
  have la := ra.len
  have lb := rb.len
  by_cases hlen : A.length = B.length
  rotate_left
  · obtain rfl : R = false := by
      rw [← HR.out]; simp; intro e; exact hlen (by rw [e])
    have n1 : ((a.length : Int) != (b.length : Int)) = true := by simp; omega
    have n2 : ((a.length : Int) == (b.length : Int)) = false := by simp; omega
    have n3 : ¬ (a.length : Int) = (b.length : Int) := by omega
    clear ha hb sA sB ga gb ra rb
    go_enter Tryz.func25, Tryz.ntmps25
    go_wp2_with fail
    go_ret
    exact ⟨rfl, Below.refl _ _⟩
  obtain ⟨n, hn⟩ : ∃ n, a.length = n := ⟨_, rfl⟩
  have hn2 : b.length = n := by omega
  rw [hn] at ga ⊢
  rw [hn2] at gb ⊢
  have HA : Hid (GS w (.slice aa n ca) a ∧ TsRead w a A ∧ GSm A) := ⟨ga, ra, sA⟩
  have HB : Hid (GS w (.slice ab n cb) b ∧ TsRead w b B ∧ GSm B) := ⟨gb, rb, sB⟩
  have HN : Hid (a.length = n ∧ b.length = n ∧ A.length = n ∧ B.length = n) := ⟨hn, hn2, by omega, by omega⟩
  have hnl : n ≤ 1000000000 := by omega
  clear lA lB la lb hlen hn hn2 ha hb sA sB ga gb ra rb
  go_enter Tryz.func25, Tryz.ntmps25
  go_wp2_with fail
  go_loopw [17] (fun i wr => ∃ k : Nat, k ≤ n ∧ i = .int .i64 k ∧ decide (A.drop k = B.drop k) = R ∧ Below w.heap.size w wr) (fun i _ => n - (intOf i).toNat)
  case atStart => exact ⟨0, Nat.zero_le _, rfl, by simpa using HR.out, Below.refl _ _⟩
  case round =>
    obtain ⟨k, hk, rfl, hR, hbw⟩ := hrel
    have HBW : Hid (Below w.heap.size w wr) := hbw
    have HRk : Hid (decide (A.drop k = B.drop k) = R) := hR
    clear hR HR hbw
    by_cases hlt : k < n
    rotate_left
    · obtain rfl : k = n := by omega
      obtain rfl : R = true := by
        have := HRk.out
        rw [← this, List.drop_eq_nil_of_le (by have := HN.out; omega), List.drop_eq_nil_of_le (by have := HN.out; omega)]; simp
      go_wp2_with fail
      go_ret
      exact ⟨rfl, HBW.out⟩
    have ka : k < a.length := by have := HN.out; omega
    have kb : k < b.length := by have := HN.out; omega
    have kA : k < A.length := by have := HN.out; omega
    have kB : k < B.length := by have := HN.out; omega
    obtain ⟨b1, o1, rfl, h1, x0, x1, x2, x3⟩ := HA.out.1.at HBW.out ka
    obtain ⟨b2, o2, rfl, h2, y0, y1, y2, y3⟩ := HB.out.1.at HBW.out kb
    have h1r : b1 < wr.heap.size := Nat.lt_of_lt_of_le h1 HBW.out.size
    have h2r : b2 < wr.heap.size := Nat.lt_of_lt_of_le h2 HBW.out.size
    have ne2 : b2 ≠ wr.heap.size := by omega
    have hd := drop_same kA kB
    obtain ⟨w0, hw0⟩ : ∃ w0, (wr.alloc a[k].obj).alloc b[k].obj = w0 := ⟨_, rfl⟩
    have hb0 : Below wr.heap.size wr w0 := by rw [← hw0]; exact bstep (balloc _ _) (balloc _ _)
    have sm1 := HA.out.2.2.each _ (List.getElem_mem kA)
    have sm2 := HB.out.2.2.each _ (List.getElem_mem kB)
    have hbw0 : Below w.heap.size w w0 := bstep HBW.out hb0
    have HC : Hid (Calls Tryz.prog 26 #[a[k].val, b[k].val] w0 fun e w' => e = .returned (.bool (decide (A[k] = B[k]))) ∧ Below w0.heap.size w0 w') :=
      psame_any ((HA.out.2.1.get k ka kA).later hbw0) ((HB.out.2.1.get k kb kB).later hbw0) ⟨sm1.1, sm1.2.1, sm1.2.2⟩ ⟨sm2.1, sm2.2.1, sm2.2.2⟩
    have HB0 : Hid (Below w.heap.size w w0) := hbw0
    have HW : Hid ((wr.alloc a[k].obj).alloc b[k].obj = w0) := hw0
    have HDk : Hid ((decide (A[k] = B[k]) && decide (A.drop (k + 1) = B.drop (k + 1))) = R) := by
      show (decide (A[k] = B[k]) && decide (A.drop (k + 1) = B.drop (k + 1))) = R
      rw [← hd]; exact HRk.out
    have i1 : (0 : Int) ≤ (k : Int) := by omega
    have i2 : (k : Int) < (n : Int) := by omega
    unfold Tv.obj at HW
    unfold Tv.val at HC
    clear hw0 hb0 hbw0 sm1 sm2 hd
    obtain ⟨rk, hrk⟩ : ∃ rk, decide (A[k] = B[k]) = rk := ⟨_, rfl⟩
    rw [hrk] at HC HDk
    clear hrk
    generalize a[k] = ta at *
    generalize b[k] = tb at *
    cases rk
    · obtain rfl : R = false := by have := HDk.out; simpa using this.symm
      go_wp2_with fail
      rw [HW.out]
      refine HC.out.mono ?_
      rintro e w1 ⟨rfl, hb1⟩
      have HB1 : Hid (Below w.heap.size w w1) := bstep HB0.out hb1
      clear hb1
      go_wp2_with fail
      go_ret
      exact ⟨rfl, HB1.out⟩
    · have HR2 : Hid (decide (A.drop (k + 1) = B.drop (k + 1)) = R) := by
        show decide _ = R
        have := HDk.out; simpa using this
      go_wp2_with fail
      rw [HW.out]
      refine HC.out.mono ?_
      rintro e w1 ⟨rfl, hb1⟩
      have HB1 : Hid (Below w.heap.size w w1) := bstep HB0.out hb1
      clear hb1
      go_wp2_with fail
      go_roundw
      case rel => exact ⟨k + 1, hlt, rfl, HR2.out, HB1.out⟩
      case measure => simp only [intOf]; omega
end Go.Proofs.YtemoplpfndnklaaGreatDoor
