/-
  The document's Same, whole.
  The document's Entry.
  What is read: places, and how long the lists are.
  The law of there and back: what it stands on.
  The document's Parse and In.
-/
import Derived.Test.YtddaoloabfkheaaGreatDoorJSame
import Derived.Test.YtddaoloabfkheaaGreatDoorJRd
import Derived.Test.YtddaoloabfkheaaGreatDoorJShelf
import Derived.Test.YtddaoloabfkheaaGreatDoorJJoin
namespace Go.Proofs.YtddaoloabfkheaaGreatDoor
open Go.RowKit

theorem tg_eq (t u : Tg) : (t = u) ↔ (t.name = u.name ∧ t.srcs = u.srcs ∧ t.see = u.see ∧ t.deps = u.deps) := by
  cases t; cases u
  simp only [Tg.mk.injEq]
  constructor
  · rintro ⟨a, b, c, d⟩; exact ⟨a, b, d, c⟩
  · rintro ⟨a, b, d, c⟩; exact ⟨a, b, c, d⟩
/-- every list is short enough -/
structure GSm (l : List Tg) : Prop where
  len : l.length ≤ 1000000000
  each : ∀ t ∈ l, t.srcs.length ≤ 1000000000 ∧ t.deps.length ≤ 1000000000 ∧ t.see.length ≤ 1000000000
theorem neq58_run (w : World) (p t p' t' : List UInt8) :
    (binOp .neq 92 (.agg #[.string (bs p), .string (bs t)]) (.agg #[.string (bs p'), .string (bs t')])).run Tryz.prog w = .ok (.bool (!decide ((⟨p, t⟩ : Lb) = ⟨p', t'⟩))) w := by
  rw [run_neq_struct, equal_run]; rfl
/-- two lists, at one place -/
structure Pl (w : World) (n : Nat) (v : Value) (l : List Tg) (k : Nat) (t : Tg) (b o : Nat) (c : Nat) (sa : Option Addr) (sn sc : Nat) (da : Option Addr) (dc : Nat) (ea : Option Addr) (en ec : Nat) : Prop where
  v : v = .slice (some ⟨b, o, none⟩) n c
  c0 : w.cell? ⟨b, o + k * 4, none⟩ = some (.string (bs t.name))
  c1 : w.cell? ⟨b, o + k * 4 + 1, none⟩ = some (.slice sa sn sc)
  c2 : w.cell? ⟨b, o + k * 4 + 2, none⟩ = some (.slice da t.deps.length dc)
  c3 : w.cell? ⟨b, o + k * 4 + 3, none⟩ = some (.slice ea en ec)
  s : SS w (.slice sa sn sc) t.srcs
  e : SS w (.slice ea en ec) t.see
  d : ∀ j, (hj : j < t.deps.length) → ∃ b off, da = some ⟨b, off, none⟩ ∧ b < w.heap.size ∧ w.cell? ⟨b, off + j * 2, none⟩ = some (.string (bs t.deps[j].pkg)) ∧ w.cell? ⟨b, off + j * 2 + 1, none⟩ = some (.string (bs t.deps[j].name))
theorem GR.place {w : World} {a : Option Addr} {n c : Nat} {l : List Tg} (h : GR w (.slice a n c) l) (k : Nat) (hk : k < l.length) : ∃ b o sa sn sc da dc ea en ec, Pl w n (.slice a n c) l k l[k] b o c sa sn sc da dc ea en ec := by
  obtain ⟨x, g, r⟩ := h.it
  have hx : k < x.length := by rw [r.len]; exact hk
  obtain ⟨b, o, rfl, _, c0, c1, c2, c3⟩ := g.at (Below.refl _ _) hx
  have t := r.get k hx hk
  obtain ⟨da, dc, hd, hD⟩ := t.d.form
  simp only [Tv.d, Value.slice.injEq] at hd
  refine ⟨b, o, _, _, _, da, dc, _, _, _, rfl, ?_, c1, ?_, c3, t.s, t.e, hD⟩
  · rw [← t.name]; exact c0
  · rw [hd.1, hd.2.1, hd.2.2] at c2; exact c2
theorem GR.len {w : World} {v : Value} {l : List Tg} (h : GR w v l) : ∃ a c, v = .slice a l.length c := by
  obtain ⟨x, g, r⟩ := h.it
  obtain ⟨a, c, e, _⟩ := g.form
  exact ⟨a, c, by rw [e, r.len]⟩
set_option maxRecDepth 100000 in
set_option maxHeartbeats 16000000 in
theorem same_any {w : World} {va vb : Value} {A B : List Tg} (ha : GR w va A) (hb : GR w vb B) (sA : GSm A) (sB : GSm B) :
    Calls Tryz.prog 16 #[va, vb] w fun e w' => e = .returned (.bool (decide (A = B))) ∧ ∃ n, w' = w.drewN n := by
  obtain ⟨R, hR⟩ : ∃ R, decide (A = B) = R := ⟨_, rfl⟩
  rw [hR]
  have HR : Hid (decide (A = B) = R) := hR
  clear hR
  obtain ⟨aa, ca, rfl⟩ := ha.len
  obtain ⟨ab, cb, rfl⟩ := hb.len
  have lA := sA.len
  have lB := sB.len
  by_cases hlen : A.length = B.length
  rotate_left
  · obtain rfl : R = false := by
      rw [← HR.out]; simp; intro e; exact hlen (by rw [e])
    have n1 : ((A.length : Int) != (B.length : Int)) = true := by simp; omega
    have n2 : ((A.length : Int) == (B.length : Int)) = false := by simp; omega
    have n3 : ¬ (A.length : Int) = (B.length : Int) := by omega
    clear ha hb sA sB
    go_enter Tryz.func16, Tryz.ntmps16
    go_wp2_with fail
    go_ret
    exact ⟨rfl, 0, rfl⟩
  obtain ⟨n, hn⟩ : ∃ n, A.length = n := ⟨_, rfl⟩
  have hn2 : B.length = n := by omega
  rw [hn] at ha ⊢
  rw [hn2] at hb ⊢
  have HA : Hid (GR w (.slice aa n ca) A ∧ GSm A) := ⟨ha, sA⟩
  have HB : Hid (GR w (.slice ab n cb) B ∧ GSm B) := ⟨hb, sB⟩
  have HN : Hid (A.length = n ∧ B.length = n) := ⟨hn, hn2⟩
  have hnl : n ≤ 1000000000 := by omega
  clear lA lB hlen hn hn2 ha hb sA sB
  go_enter Tryz.func16, Tryz.ntmps16
  go_wp2_with fail
  go_loopw [5] (fun i wr => ∃ k m : Nat, k ≤ n ∧ i = .int .i64 k ∧ decide (A.drop k = B.drop k) = R ∧ wr = w.drewN m) (fun i _ => n - (intOf i).toNat)
  case atStart => exact ⟨0, 0, Nat.zero_le _, rfl, by simpa using HR.out, rfl⟩
  case round =>
    obtain ⟨k, m, hk, rfl, hR, hwr⟩ := hrel
    have HW : Hid (wr = w.drewN m) := hwr
    have hbw : Below w.heap.size w wr := by rw [hwr]; exact bd _ _
    clear hwr
    have HRk : Hid (decide (A.drop k = B.drop k) = R) := hR
    clear hR HR
    by_cases hlt : k < n
    rotate_left
    · obtain rfl : k = n := by omega
      obtain rfl : R = true := by
        have := HRk.out
        rw [← this, List.drop_eq_nil_of_le (by have := HN.out; omega), List.drop_eq_nil_of_le (by have := HN.out; omega)]; simp
      go_wp2_with fail
      go_ret
      exact ⟨rfl, _, HW.out⟩
    have kA : k < A.length := by have := HN.out; omega
    have kB : k < B.length := by have := HN.out; omega
    obtain ⟨b1, o1, sa, sn, sc, da, dc, ea, en, ec, P1⟩ := (HA.out.1.later hbw).place k kA
    obtain ⟨b2, o2, sa', sn', sc', da', dc', ea', en', ec', P2⟩ := (HB.out.1.later hbw).place k kB
    obtain ⟨a1, a2, a3⟩ := HA.out.2.each _ (List.getElem_mem kA)
    obtain ⟨b1', b2', b3⟩ := HB.out.2.each _ (List.getElem_mem kB)
    have hd := drop_same kA kB
    obtain ⟨tA, htA⟩ : ∃ tA, A[k] = tA := ⟨_, rfl⟩
    obtain ⟨tB, htB⟩ : ∃ tB, B[k] = tB := ⟨_, rfl⟩
    rw [htA] at P1 hd a1 a2 a3
    rw [htB] at P2 hd b1' b2' b3
    clear htA htB
    obtain ⟨hv1, x0, x1, x2, x3, s1, e1, d1⟩ := P1
    obtain ⟨hv2, y0, y1, y2, y3, s2, e2, d2⟩ := P2
    injection hv1 with hv1 _ _
    injection hv2 with hv2 _ _
    subst hv1 hv2
    have HS : Hid (∀ q, Calls Tryz.prog 38 #[.slice sa sn sc, .slice sa' sn' sc'] (wr.drewN q) fun e w' => e = .returned (.bool (decide (tA.srcs = tB.srcs))) ∧ ∃ r, w' = wr.drewN r) := fun q => Calls.quiet_of (rlist_any (s1.later (bd _ q)) (s2.later (bd _ q)) a1 b1')
    have HE : Hid (∀ q, Calls Tryz.prog 38 #[.slice ea en ec, .slice ea' en' ec'] (wr.drewN q) fun e w' => e = .returned (.bool (decide (tA.see = tB.see))) ∧ ∃ r, w' = wr.drewN r) := fun q => Calls.quiet_of (rlist_any (e1.later (bd _ q)) (e2.later (bd _ q)) a3 b3)
    have HD1 : Hid (∀ j, (hj : j < tA.deps.length) → ∃ b off, da = some ⟨b, off, none⟩ ∧ b < wr.heap.size ∧ wr.cell? ⟨b, off + j * 2, none⟩ = some (.string (bs tA.deps[j].pkg)) ∧ wr.cell? ⟨b, off + j * 2 + 1, none⟩ = some (.string (bs tA.deps[j].name))) := d1
    have HD2 : Hid (∀ j, (hj : j < tB.deps.length) → ∃ b off, da' = some ⟨b, off, none⟩ ∧ b < wr.heap.size ∧ wr.cell? ⟨b, off + j * 2, none⟩ = some (.string (bs tB.deps[j].pkg)) ∧ wr.cell? ⟨b, off + j * 2 + 1, none⟩ = some (.string (bs tB.deps[j].name))) := d2
    have q1 := bs_toList tA.name
    have q2 := bs_toList tB.name
    have i1 : (0 : Int) ≤ (k : Int) := by omega
    have i2 : (k : Int) < (n : Int) := by omega
    have HD : Hid ((decide (tA = tB) && decide (A.drop (k + 1) = B.drop (k + 1))) = R) := by
      show (decide (tA = tB) && decide (A.drop (k + 1) = B.drop (k + 1))) = R
      rw [← hd]; exact HRk.out
    clear hbw hd s1 s2 e1 e2 d1 d2 HRk a1 a3 b1' b3
    by_cases g1 : tA.name = tB.name
    rotate_left
    · obtain rfl : R = false := by rw [← HD.out, decide_eq_false (fun e => g1 (by rw [e]))]; rfl
      have g1' : (tA.name == tB.name) = false := by simpa using g1
      clear g1 HD
      go_wp2_with fail
      go_quiet (fail)
      go_wp2_with fail
      go_ret
      exact ⟨rfl, _, by rw [HW.out, World.drewN_drewN]⟩
    have g1' : (tA.name == tB.name) = true := by rw [g1]; simp
    have G1 : Hid (tA.name = tB.name) := g1
    clear g1
    cases g2 : decide (tA.srcs = tB.srcs)
    · obtain rfl : R = false := by rw [← HD.out, decide_eq_false (fun e => by rw [e] at g2; simp at g2)]; rfl
      rw [g2] at HS
      clear g2 HD
      go_wp2_with fail
      go_quiet ((go_at_call 38; with_reducible exact HS.out _))
      go_wp2_with fail
      go_ret
      exact ⟨rfl, _, by rw [HW.out, World.drewN_drewN]⟩
    have g2' : tA.srcs = tB.srcs := of_decide_eq_true g2
    have G2 : Hid (tA.srcs = tB.srcs) := g2'
    clear g2'
    rw [g2] at HS
    clear g2
    cases g3 : decide (tA.see = tB.see)
    · obtain rfl : R = false := by rw [← HD.out, decide_eq_false (fun e => by rw [e] at g3; simp at g3)]; rfl
      rw [g3] at HE
      clear g3 HD
      go_wp2_with fail
      go_quiet ((first | (go_at_call 38; with_reducible exact HS.out _) | (go_at_call 38; with_reducible exact HE.out _)))
      go_wp2_with fail
      go_ret
      exact ⟨rfl, _, by rw [HW.out, World.drewN_drewN]⟩
    have g3' : tA.see = tB.see := of_decide_eq_true g3
    have G3 : Hid (tA.see = tB.see) := g3'
    clear g3'
    rw [g3] at HE
    clear g3
    obtain ⟨nd, hnd⟩ : ∃ nd, tA.deps.length = nd := ⟨_, rfl⟩
    obtain ⟨nd', hnd'⟩ : ∃ nd', tB.deps.length = nd' := ⟨_, rfl⟩
    have HND : Hid (tA.deps.length = nd ∧ tB.deps.length = nd') := ⟨hnd, hnd'⟩
    rw [hnd] at x2 a2
    rw [hnd'] at y2 b2'
    clear hnd hnd'
    by_cases g4 : nd = nd'
    rotate_left
    · obtain rfl : R = false := by rw [← HD.out, decide_eq_false (fun e => g4 (by rw [← HND.out.1, ← HND.out.2, e]))]; rfl
      have g4' : ((nd : Int) != (nd' : Int)) = true := by simp; omega
      have g5' : ((nd : Int) == (nd' : Int)) = false := by simp; omega
      have g6' : (nd == nd') = false := by simpa using g4
      clear g4 HD
      go_wp2_with fail
      go_quiet ((first | (go_at_call 38; with_reducible exact HS.out _) | (go_at_call 38; with_reducible exact HE.out _)))
      go_wp2_with fail
      go_ret
      exact ⟨rfl, _, by rw [HW.out, World.drewN_drewN]⟩
    subst g4
    go_wp2_with fail
    go_quiet ((first | (go_at_call 38; with_reducible exact HS.out _) | (go_at_call 38; with_reducible exact HE.out _)))
    obtain ⟨RD, hRD⟩ : ∃ RD, decide (tA.deps = tB.deps) = RD := ⟨_, rfl⟩
    have HRD : Hid (decide (tA.deps = tB.deps) = RD ∧ (RD && decide (A.drop (k + 1) = B.drop (k + 1))) = R) := by
      refine ⟨hRD, ?_⟩
      rw [← HD.out, ← hRD]
      congr 1
      by_cases e : tA.deps = tB.deps
      · rw [decide_eq_true e, decide_eq_true ((tg_eq tA tB).2 ⟨G1.out, G2.out, G3.out, e⟩)]
      · rw [decide_eq_false e, decide_eq_false (fun h => e ((tg_eq tA tB).1 h).2.2.2)]
    clear hRD HD HS HE g1' q1 q2 x0 x1 x3 y0 y1 y3
    have e2 : ∀ (w : World) (op : BinOp) (y z : Operand) (xs ys : Array Value), (eqGuard op 92 y z (.agg xs) (.agg ys)).run Tryz.prog w = .ok () w := guard_run
    obtain ⟨wo, hwo⟩ : ∃ wo, wo = wr := ⟨_, rfl⟩
    subst hwo
    go_wp2_with fail
    go_loopw [6] (fun i wr => ∃ j q : Nat, j ≤ nd ∧ i = .int .i64 j ∧ decide (tA.deps.drop j = tB.deps.drop j) = RD ∧ wr = wo.drewN q) (fun i _ => nd - (intOf i).toNat)
    case atStart => exact ⟨0, _, Nat.zero_le _, rfl, by simpa using HRD.out.1, rfl⟩
    case round =>
      obtain ⟨j, q, hj, rfl, hRj, hwr⟩ := hrel
      have HWj : Hid (wr = wo.drewN q) := hwr
      have HRj : Hid (decide (tA.deps.drop j = tB.deps.drop j) = RD) := hRj
      have x2' : wr.cell? ⟨b1, o1 + k * 4 + 2, none⟩ = some (.slice da nd dc) := by rw [hwr]; exact x2
      have y2' : wr.cell? ⟨b2, o2 + k * 4 + 2, none⟩ = some (.slice da' nd dc') := by rw [hwr]; exact y2
      clear hwr hRj
      by_cases hjl : j < nd
      rotate_left
      · obtain rfl : j = nd := by omega
        obtain rfl : RD = true := by
          have := HRj.out
          rw [← this, List.drop_eq_nil_of_le (by have := HND.out; omega), List.drop_eq_nil_of_le (by have := HND.out; omega)]; simp
        have HR2 : Hid (decide (A.drop (k + 1) = B.drop (k + 1)) = R) := by
          show decide _ = R
          have := HRD.out.2; simpa using this
        go_wp2_with fail
        go_roundw
        case rel => exact ⟨k + 1, _, hlt, rfl, HR2.out, by rw [HWj.out, HW.out, World.drewN_drewN]⟩
        case measure => simp only [intOf]; omega
      have jA : j < tA.deps.length := by have := HND.out; omega
      have jB : j < tB.deps.length := by have := HND.out; omega
      obtain ⟨g1, f1, rfl, _, z0, z1⟩ := HD1.out j jA
      obtain ⟨g2, f2, rfl, _, z2, z3⟩ := HD2.out j jB
      have u0 : wr.cell? ⟨g1, f1 + j * 2, none⟩ = some (.string (bs tA.deps[j].pkg)) := by rw [HWj.out]; exact z0
      have u1 : wr.cell? ⟨g1, f1 + j * 2 + 1, none⟩ = some (.string (bs tA.deps[j].name)) := by rw [HWj.out]; exact z1
      have u2 : wr.cell? ⟨g2, f2 + j * 2, none⟩ = some (.string (bs tB.deps[j].pkg)) := by rw [HWj.out]; exact z2
      have u3 : wr.cell? ⟨g2, f2 + j * 2 + 1, none⟩ = some (.string (bs tB.deps[j].name)) := by rw [HWj.out]; exact z3
      have i3 : (0 : Int) ≤ (j : Int) := by omega
      have i4 : (j : Int) < (nd : Int) := by omega
      have hdj := drop_same jA jB
      clear z0 z1 z2 z3
      by_cases he : tA.deps[j] = tB.deps[j]
      · have HR2 : Hid (decide (tA.deps.drop (j + 1) = tB.deps.drop (j + 1)) = RD) := by
          show decide _ = RD
          have := HRj.out
          rw [hdj, he] at this; simpa using this
        have e1 : ∀ w : World, (binOp .neq 92 (.agg #[.string (bs tA.deps[j].pkg), .string (bs tA.deps[j].name)]) (.agg #[.string (bs tB.deps[j].pkg), .string (bs tB.deps[j].name)])).run Tryz.prog w = .ok (.bool false) w := fun w => by
          rw [neq58_run]; simp [he]
        generalize tA.deps[j].pkg = lp1 at *
        generalize tA.deps[j].name = ln1 at *
        generalize tB.deps[j].pkg = lp2 at *
        generalize tB.deps[j].name = ln2 at *
        clear he hdj
        go_wp2_with fail
        go_quiet (fail)
        go_wp2_with fail
        go_roundw
        case rel => exact ⟨j + 1, _, hjl, rfl, HR2.out, by rw [HWj.out, World.drewN_drewN]⟩
        case measure => simp only [intOf]; omega
      · obtain rfl : RD = false := by
          have := HRj.out
          rw [hdj, decide_eq_false he] at this; simpa using this.symm
        obtain rfl : R = false := by have := HRD.out.2; simpa using this.symm
        have e1 : ∀ w : World, (binOp .neq 92 (.agg #[.string (bs tA.deps[j].pkg), .string (bs tA.deps[j].name)]) (.agg #[.string (bs tB.deps[j].pkg), .string (bs tB.deps[j].name)])).run Tryz.prog w = .ok (.bool true) w := fun w => by
          rw [neq58_run, decide_eq_false (show ¬ ((⟨tA.deps[j].pkg, tA.deps[j].name⟩ : Lb) = ⟨tB.deps[j].pkg, tB.deps[j].name⟩) from he)]; rfl
        generalize tA.deps[j].pkg = lp1 at *
        generalize tA.deps[j].name = ln1 at *
        generalize tB.deps[j].pkg = lp2 at *
        generalize tB.deps[j].name = ln2 at *
        clear he hdj
        go_wp2_with fail
        go_quiet (fail)
        go_wp2_with fail
        go_ret
        exact ⟨rfl, _, by rw [HWj.out, HW.out, World.drewN_drewN, World.drewN_drewN]⟩
end Go.Proofs.YtddaoloabfkheaaGreatDoor

namespace Go.Proofs.YtddaoloabfkheaaGreatDoor
open Go.RowKit

structure TBd (l : List Tg) : Prop where
  len : l.length ≤ 64
  each : ∀ t ∈ l, t.srcs.length ≤ 64 ∧ t.deps.length ≤ 64 ∧ t.see.length ≤ 64 ∧ (tgB t).length ≤ 100000
theorem flat_bound {α : Type} (f : α → List UInt8) (B : Nat) : ∀ (l : List α), (∀ x ∈ l, (f x).length ≤ B) → (l.flatMap f).length ≤ l.length * B
  | [], _ => by simp
  | x :: r, h => by
    have h1 := h x (by simp)
    have h2 := flat_bound f B r (fun y hy => h y (by simp [hy]))
    rw [List.flatMap_cons, List.length_append, List.length_cons, Nat.succ_mul]
    omega
theorem TBd.flat {l : List Tg} (h : TBd l) : (l.flatMap tgB).length ≤ 6400000 := by
  have h1 := flat_bound tgB 100000 l (fun t ht => (h.each t ht).2.2.2)
  have h2 := h.len
  omega
theorem wrap_u64z (z : Int) : IntKind.u64.wrap z = ((u64 z : Nat) : Int) := by
  unfold u64
  rw [IntKind.wrap_u64]
  have := Int.emod_nonneg z (show (18446744073709551616 : Int) ≠ 0 by decide)
  omega
theorem tgB_pieces (t : Tg) : (txB t.name).length ≤ (tgB t).length ∧ (txsB t.srcs).length ≤ (tgB t).length ∧ (t.deps.flatMap lbB).length ≤ (tgB t).length ∧ (txsB t.see).length ≤ (tgB t).length := by
  unfold tgB
  simp only [List.length_append]
  omega
end Go.Proofs.YtddaoloabfkheaaGreatDoor

namespace Go.Proofs.YtddaoloabfkheaaGreatDoor

theorem go_range {p : List UInt8} {E S : Int} (hE : 0 ≤ E) : ∀ (L : List Tk) (st : St), (∀ k ∈ L, 0 ≤ k.at') → (go p E S st L).2 = -1 ∨ (0 ≤ (go p E S st L).2 ∧ (go p E S st L).1 = [])
  | [], st, _ => by
    cases st
    case top l =>
      simp only [go, fin]
      split
      · rename_i h; exact .inr ⟨h, rfl⟩
      · exact .inl rfl
    all_goals exact .inr ⟨hE, rfl⟩
  | k :: r, st, h => by
    simp only [go]
    cases hs : stp p st k with
    | none => exact .inr ⟨h k (by simp), rfl⟩
    | some st' => exact go_range hE r st' fun q hq => h q (by simp [hq])
theorem endE_nonneg (s : List UInt8) : 0 ≤ endE s := by
  unfold endE; split <;> omega
theorem prsM_range (p s : List UInt8) : (prsM p s).2 = -1 ∨ (0 ≤ (prsM p s).2 ∧ (prsM p s).1 = []) := by
  unfold prsM
  split
  · split
    · rename_i h
      exact go_range (endE_nonneg s) _ _ fun k hk => (toks_ok h k hk).at0
    · exact .inr ⟨by simp, rfl⟩
  · exact .inr ⟨by simp, rfl⟩

end Go.Proofs.YtddaoloabfkheaaGreatDoor

namespace Go.Proofs.YtddaoloabfkheaaGreatDoor
open Go.RowKit

/-- does a statement begin with this region? -/
def beg (n : Nat) : Code → Bool
  | .region m _ _ => m == n
  | .seq a _ => beg n a
  | .block _ c => beg n c
  | .loop c => beg n c
  | .scope c => beg n c
  | _ => false
/-- what stands from there on -/
def suff (n : Nat) : Code → Code
  | .seq a b => if beg n a then .seq a b else suff n b
  | c => c
theorem okL_pkg {l : Lb} (h : okL l = true) : okP l.pkg = true := by
  unfold okL at h; simp only [Bool.and_eq_true] at h; exact h.1
theorem prs_good {l : Lb} (h : okL l = true) : prs (prt l) = (l, 0) := by
  have h1 := okP_colon (okL_pkg h)
  obtain ⟨e1, e2⟩ := cut_colon l.pkg l.name h1
  rw [prs_prt, e1, e2]; unfold chk; rw [if_pos h]
end Go.Proofs.YtddaoloabfkheaaGreatDoor

namespace Go.Proofs.YtddaoloabfkheaaGreatDoor
open Go.RowKit

/-- what is parsed is printed so -/
theorem prs_inv {s : List UInt8} {l : Lb} {e : Int} (h : prs s = (l, e)) (he : e = 0) : okL l = true ∧ s = prt l := by
  unfold prs at h
  split at h
  · rename_i hp
    obtain ⟨r, hr⟩ := List.isPrefixOf_iff_prefix.1 hp
    subst hr
    simp only [List.cons_append, List.nil_append, List.drop_succ_cons, List.drop_zero] at h
    unfold chk at h
    split at h
    · rename_i hk
      injection h with h1 h2
      subst h1
      refine ⟨hk, ?_⟩
      have hc : csl r = true := by
        cases hc : csl r
        · rw [c_tl_none r hc] at hk
          unfold okL at hk
          simp only [Bool.and_eq_true] at hk
          exact absurd hk.2 (by decide)
        · rfl
      have hcut := c_cut_eq r
      rw [hc] at hcut
      simp only [if_true] at hcut
      unfold prt
      simp only [List.cons_append, List.nil_append]
      rw [← hcut]
    · injection h with h1 h2
      omega
  · injection h with h1 h2
    omega
theorem okL_len {l : Lb} (h : okL l = true) : (prt l).length ≤ 155 := by
  unfold okL at h
  simp only [Bool.and_eq_true] at h
  have h1 := (okP_len h.1).1
  have h2 := okC_le h.2
  simp only [prt, List.length_cons, List.length_append]; omega
theorem prs_cases (s : List UInt8) : prs s = (zl, 10) ∨ ∃ l, prs s = (l, 0) ∧ okL l = true ∧ s = prt l := by
  rcases hp : prs s with ⟨l, e⟩
  unfold prs at hp
  have hp' := hp
  split at hp
  · unfold chk at hp
    split at hp
    · injection hp with h1 h2
      subst h2
      right
      exact ⟨l, rfl, prs_inv (by unfold prs; exact hp') rfl⟩
    · injection hp with h1 h2
      subst h1 h2
      exact .inl rfl
  · injection hp with h1 h2
    subst h1 h2
    exact .inl rfl
theorem prs_long {s : List UInt8} (h : 155 < s.length) : prs s = (zl, 10) := by
  rcases prs_cases s with h1 | ⟨l, _, h2, h3⟩
  · exact h1
  · have := okL_len h2
    rw [← h3] at this; omega
/-- the label that a colon at this place would part -/
def cutL (s : List UInt8) (k : Nat) : Lb := ⟨(s.drop 2).take (k - 2), s.drop (k + 1)⟩
def hitL (s : List UInt8) (k : Nat) : Bool := decide (s[k]? = some 58) && okL (cutL s k) && decide (prt (cutL s k) = s)
theorem prs_hit {s : List UInt8} {k : Nat} (h1 : okL (cutL s k) = true) (h2 : prt (cutL s k) = s) : prs s = (cutL s k, 0) := by
  have := prs_good h1
  rw [h2] at this; exact this
theorem prs_miss {s : List UInt8} (h : ∀ k, 2 ≤ k → k < s.length → hitL s k = false) : prs s = (zl, 10) := by
  rcases prs_cases s with h1 | ⟨l, _, h2, h3⟩
  · exact h1
  · exfalso
    have hl : 2 + l.pkg.length < s.length := by rw [h3]; simp only [prt, List.length_cons, List.length_append]; omega
    have hk := h (2 + l.pkg.length) (by omega) hl
    have e1 : cutL s (2 + l.pkg.length) = l := by
      rw [h3]
      unfold cutL prt
      have a1 : (2 + l.pkg.length - 2) = l.pkg.length := by omega
      have a2 : (2 + l.pkg.length + 1) = l.pkg.length + 1 + 2 := by omega
      rw [a1, a2]
      simp only [List.drop_succ_cons, List.drop_zero]
      rw [List.drop_append]
      have a3 : List.drop (l.pkg.length + 1) l.pkg = [] := List.drop_eq_nil_of_le (by omega)
      rw [a3]
      simp
    have e2 : s[2 + l.pkg.length]? = some 58 := by
      rw [h3]
      unfold prt
      have a1 : 2 + l.pkg.length = l.pkg.length + 2 := by omega
      rw [a1]
      simp
    unfold hitL at hk
    rw [e1, e2, h2, ← h3] at hk
    simp at hk

set_option maxRecDepth 100000 in
set_option maxHeartbeats 4000000 in
theorem rparse_any (s : List UInt8) (w : World) (hs : s.length ≤ 1000000000) : Calls Tryz.prog 82 #[.string (bs s)] w fun e w' => e = .returned (pair (prs s)) ∧ Below w.heap.size w w' := by
  have z0 : (bs s).size = s.length := rfl
  have HZ : Hid (RB (w.alloc (.cells #[.string (bs []), .string (bs [])] 92)) w.heap.size zl) := RB.new w zl
  by_cases h0 : 155 < s.length
  · rw [prs_long h0]
    have h0' : (155 : Int) < (s.length : Int) := by omega
    clear h0
    obtain ⟨c0, c1, f0, f1⟩ := HZ.out.cells
    go_enter Tryz.func82, Tryz.ntmps82
    go_wp2_with fail
    refine bodyPost_ret (results_ct rfl _ _ w.heap.size 92 #[.string (bs []), .string (bs [])] (0, 0) _ rfl ?_ Tryz.underlying92 rfl (by kernel_rfl)) rfl ?_
    · exact HZ.out.blk
    exact ⟨rfl, balloc _ _⟩
  have h0' : ¬ ((155 : Int) < (s.length : Int)) := by omega
  have HS0 : Hid (s.length ≤ 155) := by show s.length ≤ 155; omega
  obtain ⟨r, hr⟩ : ∃ r, pair (prs s) = r := ⟨_, rfl⟩
  rw [hr]
  have HR : Hid (pair (prs s) = r) := hr
  clear hr h0
  by_cases hs2 : 2 ≤ s.length
  rotate_left
  · have hm : prs s = (zl, 10) := prs_miss (fun k h1 h2 => by omega)
    have hs2' : ¬ ((2 : Int) < (s.length : Int)) := by omega
    rw [hm] at HR
    clear hm
    go_enter Tryz.func82, Tryz.ntmps82
    go_wp2_with fail
    go_loopw [4] (fun i wr => i = .int .i64 2 ∧ wr = w.alloc (.cells #[.string (bs []), .string (bs [])] 92)) (fun _ _ => 0)
    case atStart => exact ⟨rfl, rfl⟩
    case round =>
      obtain ⟨rfl, rfl⟩ := hrel
      obtain ⟨c0, c1, f0, f1⟩ := HZ.out.cells
      go_wp2_with fail
      refine bodyPost_ret (results_ct rfl _ _ w.heap.size 92 #[.string (bs []), .string (bs [])] (0, 0) _ rfl ?_ Tryz.underlying92 rfl (by kernel_rfl)) rfl ?_
      · exact HZ.out.blk
      exact ⟨by rw [← HR.out]; rfl, balloc _ _⟩
  go_enter Tryz.func82, Tryz.ntmps82
  go_wp2_with fail
  go_loopw [4] (fun i wr => ∃ k : Nat, 2 ≤ k ∧ k ≤ s.length ∧ i = .int .i64 k ∧ Below w.heap.size w wr ∧ RB wr w.heap.size zl ∧ ∀ j, 2 ≤ j → j < k → hitL s j = false) (fun i _ => s.length - (intOf i).toNat)
  case atStart => exact ⟨2, by omega, hs2, rfl, balloc _ _, HZ.out, fun j h1 h2 => by omega⟩
  case round =>
    obtain ⟨k, hk2, hk, rfl, hb, hrb, hno⟩ := hrel
    have HB : Hid (Below w.heap.size w wr) := hb
    have HZ1 : Hid (RB wr w.heap.size zl) := hrb
    have HNO : Hid (∀ j, 2 ≤ j → j < k → hitL s j = false) := hno
    clear hb hrb hno
    by_cases hlt : k < s.length
    · have hkz : k < (bs s).size := hlt
      have k1 : (0 : Int) ≤ (k : Int) := by omega
      have k2 : (k : Int) < (s.length : Int) := by omega
      by_cases hc : s[k]'hlt = 58
      rotate_left
      · have e1 : (((bs s)[k].toNat : Int) == 58) = false := by
          rw [bs_get _ _ _ hlt, beq_eq_false_iff_ne]; intro e; apply hc; apply UInt8.toNat_inj.1; exact Int.ofNat.inj e
        have e1' : (((bs s)[k].toNat : Int) != 58) = true := by rw [bne, e1]; rfl
        have HH : Hid (hitL s k = false) := by
          show hitL s k = false
          unfold hitL
          rw [List.getElem?_eq_getElem hlt]
          simp [hc]
        clear hc
        go_wp2_with fail
        go_round
        case rel => exact ⟨k + 1, by omega, by omega, by simp, HB.out, HZ1.out, fun j h1 h2 => by
          rcases Nat.lt_or_ge j k with h | h
          · exact HNO.out j h1 h
          · have : j = k := by omega
            subst this; exact HH.out⟩
        case measure => simp only [intOf]; omega
      · have e1 : (((bs s)[k].toNat : Int) == 58) = true := by rw [bs_get _ _ _ hlt, hc]; rfl
        have e1' : (((bs s)[k].toNat : Int) != 58) = false := by rw [bne, e1]; rfl
        have k3 : (2 : Int) ≤ (k : Int) := by omega
        have k4 : (k : Int) ≤ (s.length : Int) := by omega
        have k5 : (k : Int) + 1 ≤ (s.length : Int) := by omega
        have k6 : (0 : Int) ≤ (k : Int) + 1 := by omega
        have E1 : (bs s).extract 2 k = bs ((s.drop 2).take (k - 2)) := bs_extract s 2 k
        have E2 : (bs s).extract (k + 1) s.length = bs (s.drop (k + 1)) := extract_from s (k + 1)
        have HLu : Lu (cutL s k) := ⟨by simp only [cutL, List.length_take, List.length_drop]; omega, by simp only [cutL, List.length_drop]; omega⟩
        have HV : Hid (∀ W : World, Calls Tryz.prog 103 #[(cutL s k).val] W fun e w' => e = .returned (.bool (okL (cutL s k))) ∧ Below W.heap.size W w') := fun W => rlvalid_any _ W HLu
        have HP : Hid (∀ W : World, Calls Tryz.prog 104 #[(cutL s k).val] W fun e w' => e = .returned (.string (bs (prt (cutL s k)))) ∧ Below W.heap.size W w') := fun W => rlprint_any _ W HLu
        have HHit : Hid (okL (cutL s k) = true → prt (cutL s k) = s → r = pair (cutL s k, 0)) := fun h1 h2 => by
          rw [← HR.out, prs_hit h1 h2]
        have HMiss : Hid (okL (cutL s k) = false ∨ prt (cutL s k) ≠ s → hitL s k = false) := fun h => by
          show hitL s k = false
          unfold hitL
          rcases h with h | h
          · simp [h]
          · simp [h]
        unfold cutL at HV HP HHit HMiss HLu
        simp only [Lb.val, pair] at HV HP HHit
        generalize (s.drop 2).take (k - 2) = p at *
        generalize s.drop (k + 1) = m at *
        clear HLu
        have es := bs_toList s
        have RN : Hid (RB ((wr.alloc (.cells #[.string (bs p), .string (bs m)] 92)).drew) wr.heap.size ⟨p, m⟩) := (RB.new wr ⟨p, m⟩).later (Below.refl _ _).drew
        have HBd : Hid (Below w.heap.size w ((wr.alloc (.cells #[.string (bs p), .string (bs m)] 92)).drew)) := bstep HB.out (balloc wr _).drew
        have HZd : Hid (RB ((wr.alloc (.cells #[.string (bs p), .string (bs m)] 92)).drew) w.heap.size zl) := HZ1.out.later (balloc wr _).drew
        cases hok : okL ⟨p, m⟩
        · rw [hok] at HV
          have HH : Hid (hitL s k = false) := HMiss.out (.inl hok)
          clear hok HMiss HHit
          obtain ⟨d0, d1, _, _⟩ := RN.out.cells
          simp only at d0 d1
          go_wp2_with fail
          go_region
          go_wp2_with fail
          refine (HV.out _).mono ?_
          rintro e w2 ⟨rfl, hb2⟩
          have HB2 : Hid (Below w.heap.size w w2) := bstep HBd.out hb2
          have HZ2 : Hid (RB w2 w.heap.size zl) := HZd.out.later hb2
          clear hb2
          go_wp2_with fail
          go_round
          case rel => exact ⟨k + 1, by omega, by omega, by simp, HB2.out, HZ2.out, fun j h1 h2 => by
            rcases Nat.lt_or_ge j k with h | h
            · exact HNO.out j h1 h
            · have : j = k := by omega
              subst this; exact HH.out⟩
          case measure => simp only [intOf]; omega
        · rw [hok] at HV
          obtain ⟨P, hP⟩ : ∃ P, prt ⟨p, m⟩ = P := ⟨_, rfl⟩
          rw [hP] at HP HHit HMiss
          have eP := bs_toList P
          by_cases hPs : P = s
          · have hPs' : (P == s) = true := by simpa using hPs
            have HRT : Hid (r = .tuple #[.agg #[.string (bs p), .string (bs m)], .int .i64 0]) := HHit.out hok hPs
            clear hok HMiss HHit hPs hP
            obtain ⟨d0, d1, _, _⟩ := RN.out.cells
            simp only at d0 d1
            go_wp2_with fail
            go_region
            go_wp2_with fail
            refine (HV.out _).mono ?_
            rintro e w2 ⟨rfl, hb2⟩
            have HB2 : Hid (Below w.heap.size w w2) := bstep HBd.out hb2
            have HZ2 : Hid (RB w2 w.heap.size zl) := HZd.out.later hb2
            have RN2 : Hid (RB w2 wr.heap.size ⟨p, m⟩) := RN.out.later hb2
            obtain ⟨x0, x1, _, _⟩ := RN2.out.cells
            simp only at x0 x1
            clear hb2 d0 d1
            go_wp2_with fail
            refine (HP.out _).mono ?_
            rintro e w3 ⟨rfl, hb3⟩
            have HB3 : Hid (Below w.heap.size w w3) := bstep HB2.out hb3
            have HZ3 : Hid (RB w3 w.heap.size zl) := HZ2.out.later hb3
            obtain ⟨y0, y1, _, _⟩ := (RN2.out.later hb3).cells
            obtain ⟨c0, c1, f0, f1⟩ := HZ3.out.cells
            simp only at y0 y1
            clear hb3 x0 x1
            go_wp2_with fail
            refine bodyPost_ret (results_ct rfl _ _ w.heap.size 92 #[.string (bs p), .string (bs m)] (0, 0) _ rfl ?_ Tryz.underlying92 rfl (by kernel_rfl)) rfl ?_
            · exact (HZ3.out.set ⟨p, m⟩).blk
            exact ⟨by rw [HRT.out]; rfl, bset2 HB3.out (by omega) _ _⟩
          · have hPs' : (P == s) = false := by simpa using hPs
            have HH : Hid (hitL s k = false) := HMiss.out (.inr hPs)
            clear hok HMiss HHit hPs hP
            obtain ⟨d0, d1, _, _⟩ := RN.out.cells
            simp only at d0 d1
            go_wp2_with fail
            go_region
            go_wp2_with fail
            refine (HV.out _).mono ?_
            rintro e w2 ⟨rfl, hb2⟩
            have HB2 : Hid (Below w.heap.size w w2) := bstep HBd.out hb2
            have HZ2 : Hid (RB w2 w.heap.size zl) := HZd.out.later hb2
            have RN2 : Hid (RB w2 wr.heap.size ⟨p, m⟩) := RN.out.later hb2
            obtain ⟨x0, x1, _, _⟩ := RN2.out.cells
            simp only at x0 x1
            clear hb2 d0 d1
            go_wp2_with fail
            refine (HP.out _).mono ?_
            rintro e w3 ⟨rfl, hb3⟩
            have HB3 : Hid (Below w.heap.size w w3) := bstep HB2.out hb3
            have HZ3 : Hid (RB w3 w.heap.size zl) := HZ2.out.later hb3
            clear hb3 x0 x1
            go_wp2_with fail
            go_round
            case rel => exact ⟨k + 1, by omega, by omega, by simp, HB3.out, HZ3.out, fun j h1 h2 => by
              rcases Nat.lt_or_ge j k with h | h
              · exact HNO.out j h1 h
              · have : j = k := by omega
                subst this; exact HH.out⟩
            case measure => simp only [intOf]; omega
    · have hkn : k = s.length := by omega
      have hm : prs s = (zl, 10) := prs_miss (fun j h1 h2 => HNO.out j h1 (by omega))
      rw [hm] at HR
      have k2 : ¬ ((k : Int) < (s.length : Int)) := by omega
      clear hm hkn
      obtain ⟨c0, c1, f0, f1⟩ := HZ1.out.cells
      have hlt0 := HZ1.out.lt
      go_wp2_with fail
      refine bodyPost_ret (results_ct rfl _ _ w.heap.size 92 #[.string (bs []), .string (bs [])] (0, 0) _ rfl ?_ Tryz.underlying92 rfl (by kernel_rfl)) rfl ?_
      · exact (HZ1.out.set zl).blk
      exact ⟨by rw [← HR.out]; rfl, bset2 HB.out (by omega) _ _⟩
end Go.Proofs.YtddaoloabfkheaaGreatDoor
