/-
  The document's Same: two lists of targets held against each other.
  The document's Same, whole.
-/
import Derived.Test.YtemoplpfndnklaaGreatDoorJBkA
namespace Go.Proofs.YtemoplpfndnklaaGreatDoor
open Go.RowKit

/-- a target reads as -/
structure TRead (w : World) (v : Tv) (t : Tg) : Prop where
  name : v.name = t.name
  s : SS w v.s t.srcs
  d : LS w v.d t.deps
  e : SS w v.e t.see
theorem TRead.later {w w' : World} {v : Tv} {t : Tg} (h : TRead w v t) (hb : Below w.heap.size w w') : TRead w' v t := ⟨h.name, h.s.later hb, h.d.later hb, h.e.later hb⟩
def TsRead (w : World) : List Tv → List Tg → Prop
  | [], [] => True
  | a :: r, b :: q => TRead w a b ∧ TsRead w r q
  | _, _ => False
theorem TsRead.len {w : World} : ∀ {a : List Tv} {b : List Tg}, TsRead w a b → a.length = b.length
  | [], [], _ => rfl
  | _ :: _, _ :: _, h => by simp only [List.length_cons, h.2.len]
theorem TsRead.later {w w' : World} (hb : Below w.heap.size w w') : ∀ {a : List Tv} {b : List Tg}, TsRead w a b → TsRead w' a b
  | [], [], _ => trivial
  | _ :: _, _ :: _, h => ⟨h.1.later hb, TsRead.later hb h.2⟩
theorem TsRead.get {w : World} : ∀ {a : List Tv} {b : List Tg}, TsRead w a b → ∀ (k : Nat) (ha : k < a.length) (hb : k < b.length), TRead w a[k] b[k]
  | _ :: _, _ :: _, h, 0, _, _ => h.1
  | _ :: _, _ :: _, h, k + 1, ha, hb => TsRead.get h.2 k (by simpa using ha) (by simpa using hb)
theorem TOwn.read {base : Nat} {w : World} {v : Tv} {t : Tg} (h : TOwn base w v t) : TRead w v t := ⟨h.name, own_ss h.s, h.d.rs, own_ss h.e⟩
theorem TsOwn.read {base : Nat} {w : World} : ∀ {a : List Tv} {b : List Tg}, TsOwn base w a b → TsRead w a b
  | [], [], _ => trivial
  | _ :: _, _ :: _, h => ⟨h.1.read, h.2.read⟩
/-- a list of targets reads as -/
structure GR (w : World) (v : Value) (l : List Tg) : Prop where
  it : ∃ a : List Tv, GS w v a ∧ TsRead w a l
theorem GR.later {w w' : World} {v : Value} {l : List Tg} (h : GR w v l) (hb : Below w.heap.size w w') : GR w' v l := by
  obtain ⟨a, h1, h2⟩ := h.it; exact ⟨a, h1.later hb, TsRead.later hb h2⟩
theorem GOwn.read {base : Nat} {w : World} {v : Value} {l : List Tg} (h : GOwn base w v l) : GR w v l := by
  obtain ⟨a, h1, h2, _⟩ := h.it; exact ⟨a, h1.rs, h2.read⟩

set_option maxHeartbeats 1000000 in
theorem rlist_any {w : World} {va vb : Value} {A B : List (List UInt8)} (ha : SS w va A) (hb : SS w vb B) (hl : A.length ≤ 1000000000) (_hl2 : B.length ≤ 1000000000) :
    Calls Tryz.prog 23 #[va, vb] w fun e w' => e = .returned (.bool (decide (A = B))) ∧ ∃ n, w' = w.drewN n := by
  obtain ⟨R, hR⟩ : ∃ R, decide (A = B) = R := ⟨_, rfl⟩
  rw [hR]
  have HR : Hid (decide (A = B) = R) := hR
  clear hR
  obtain ⟨a, c, rfl, ca⟩ := ha.form
  obtain ⟨b, d, rfl, cb⟩ := hb.form
  have HA : Hid (∀ k, (hk : k < A.length) → ∃ b off, a = some ⟨b, off, none⟩ ∧ b < w.heap.size ∧ w.cell? ⟨b, off + k, none⟩ = some (.string (bs A[k]))) := ca
  have HB : Hid (∀ k, (hk : k < B.length) → ∃ b' off, b = some ⟨b', off, none⟩ ∧ b' < w.heap.size ∧ w.cell? ⟨b', off + k, none⟩ = some (.string (bs B[k]))) := cb
  clear ha hb ca cb
  by_cases hlen : A.length = B.length
  rotate_left
  · obtain rfl : R = false := by
      rw [← HR.out]; simp; intro e; exact hlen (by rw [e])
    have n1 : ((A.length : Int) != (B.length : Int)) = true := by simp; omega
    have n2 : ((A.length : Int) == (B.length : Int)) = false := by simp; omega
    have n3 : ¬ (A.length : Int) = (B.length : Int) := by omega
    clear HA HB
    go_enter Tryz.func23, Tryz.ntmps23
    go_wp2_with fail
    go_ret
    exact ⟨rfl, 0, rfl⟩
  obtain ⟨nA, hnA⟩ : ∃ nA, A.length = nA := ⟨_, rfl⟩
  have hnB : B.length = nA := by omega
  have HNA : Hid (A.length = nA ∧ B.length = nA) := ⟨hnA, hnB⟩
  rw [hnA, hnB]
  clear hlen
  rw [hnA] at hl
  clear hnA hnB
  go_enter Tryz.func23, Tryz.ntmps23
  go_wp2_with fail
  go_loopw [5] (fun i wr => ∃ k n : Nat, k ≤ nA ∧ i = .int .i64 k ∧ decide (A.drop k = B.drop k) = R ∧ wr = w.drewN n) (fun i _ => nA - (intOf i).toNat)
  case atStart => exact ⟨0, 0, Nat.zero_le _, rfl, by simpa using HR.out, rfl⟩
  case round =>
    obtain ⟨k, m, hk, rfl, hR, rfl⟩ := hrel
    have HRk : Hid (decide (A.drop k = B.drop k) = R) := hR
    clear hR
    by_cases hlt : k < nA
    · have hA : k < A.length := by have := HNA.out; omega
      have hB : k < B.length := by have := HNA.out; omega
      obtain ⟨b1, o1, rfl, h1, c1⟩ := HA.out k hA
      obtain ⟨b2, o2, rfl, h2, c2⟩ := HB.out k hB
      have i1 : (0 : Int) ≤ (k : Int) := by omega
      have i2 : (k : Int) < (nA : Int) := by omega
      have e1 := bs_toList A[k]
      have e2 := bs_toList B[k]
      have hd := drop_same hA hB
      by_cases he : A[k] = B[k]
      · have q1 : (A[k] == B[k]) = true := by rw [he]; simp
        have HR2 : Hid (decide (A.drop (k + 1) = B.drop (k + 1)) = R) := by
          show decide _ = R
          have := HRk.out
          rw [hd, he] at this; simpa using this
        clear he hd
        go_wp2_with fail
        go_quiet (fail)
        go_wp2_with fail
        go_roundw
        case rel => exact ⟨k + 1, _, hlt, rfl, HR2.out, rfl⟩
        case measure => simp only [intOf]; omega
      · have q1 : (A[k] == B[k]) = false := by simpa using he
        obtain rfl : R = false := by
          have := HRk.out
          rw [hd, decide_eq_false he] at this; simpa using this.symm
        clear he hd
        go_wp2_with fail
        go_quiet (fail)
        go_wp2_with fail
        go_ret
        exact ⟨rfl, _, World.drewN_drewN _ _ _⟩
    · obtain rfl : k = nA := by omega
      obtain rfl : R = true := by
        have := HRk.out
        rw [← this, List.drop_eq_nil_of_le (by have := HNA.out; omega), List.drop_eq_nil_of_le (by have := HNA.out; omega)]; simp
      go_wp2_with fail
      go_ret
      exact ⟨rfl, _, rfl⟩
end Go.Proofs.YtemoplpfndnklaaGreatDoor

namespace Go.Proofs.YtemoplpfndnklaaGreatDoor
open Go.RowKit

theorem tg_eq (t u : Tg) : (t = u) ↔ (t.name = u.name ∧ t.srcs = u.srcs ∧ t.see = u.see ∧ t.deps = u.deps) := by
  cases t; cases u
  simp only [Tg.mk.injEq]
  constructor
  · rintro ⟨a, b, c, d⟩; exact ⟨a, b, d, c⟩
  · rintro ⟨a, b, d, c⟩; exact ⟨a, b, c, d⟩
/-- every list is short enough -/
structure GSm (l : List Tg) : Prop where
  len : l.length ≤ 1000000000
  each : ∀ t ∈ l, t.srcs.length ≤ 1000000000 ∧ t.deps.length ≤ 1000000000 ∧ t.see.length ≤ 1000000000
theorem neq58_run (w : World) (p t p' t' : List UInt8) :
    (binOp .neq 58 (.agg #[.string (bs p), .string (bs t)]) (.agg #[.string (bs p'), .string (bs t')])).run Tryz.prog w = .ok (.bool (!decide ((⟨p, t⟩ : Lb) = ⟨p', t'⟩))) w := by
  rw [run_neq_struct, equal_run]; rfl
/-- two lists, at one place -/
structure Pl (w : World) (n : Nat) (v : Value) (l : List Tg) (k : Nat) (t : Tg) (b o : Nat) (c : Nat) (sa : Option Addr) (sn sc : Nat) (da : Option Addr) (dc : Nat) (ea : Option Addr) (en ec : Nat) : Prop where
  v : v = .slice (some ⟨b, o, none⟩) n c
  c0 : w.cell? ⟨b, o + k * 4, none⟩ = some (.string (bs t.name))
  c1 : w.cell? ⟨b, o + k * 4 + 1, none⟩ = some (.slice sa sn sc)
  c2 : w.cell? ⟨b, o + k * 4 + 2, none⟩ = some (.slice da t.deps.length dc)
  c3 : w.cell? ⟨b, o + k * 4 + 3, none⟩ = some (.slice ea en ec)
  s : SS w (.slice sa sn sc) t.srcs
  e : SS w (.slice ea en ec) t.see
  d : ∀ j, (hj : j < t.deps.length) → ∃ b off, da = some ⟨b, off, none⟩ ∧ b < w.heap.size ∧ w.cell? ⟨b, off + j * 2, none⟩ = some (.string (bs t.deps[j].pkg)) ∧ w.cell? ⟨b, off + j * 2 + 1, none⟩ = some (.string (bs t.deps[j].name))
theorem GR.place {w : World} {a : Option Addr} {n c : Nat} {l : List Tg} (h : GR w (.slice a n c) l) (k : Nat) (hk : k < l.length) : ∃ b o sa sn sc da dc ea en ec, Pl w n (.slice a n c) l k l[k] b o c sa sn sc da dc ea en ec := by
  obtain ⟨x, g, r⟩ := h.it
  have hx : k < x.length := by rw [r.len]; exact hk
  obtain ⟨b, o, rfl, _, c0, c1, c2, c3⟩ := g.at (Below.refl _ _) hx
  have t := r.get k hx hk
  obtain ⟨da, dc, hd, hD⟩ := t.d.form
  simp only [Tv.d, Value.slice.injEq] at hd
  refine ⟨b, o, _, _, _, da, dc, _, _, _, rfl, ?_, c1, ?_, c3, t.s, t.e, hD⟩
  · rw [← t.name]; exact c0
  · rw [hd.1, hd.2.1, hd.2.2] at c2; exact c2
theorem GR.len {w : World} {v : Value} {l : List Tg} (h : GR w v l) : ∃ a c, v = .slice a l.length c := by
  obtain ⟨x, g, r⟩ := h.it
  obtain ⟨a, c, e, _⟩ := g.form
  exact ⟨a, c, by rw [e, r.len]⟩
set_option maxRecDepth 100000 in
set_option maxHeartbeats 16000000 in
theorem same_any {w : World} {va vb : Value} {A B : List Tg} (ha : GR w va A) (hb : GR w vb B) (sA : GSm A) (sB : GSm B) :
    Calls Tryz.prog 10 #[va, vb] w fun e w' => e = .returned (.bool (decide (A = B))) ∧ ∃ n, w' = w.drewN n := by
  obtain ⟨R, hR⟩ : ∃ R, decide (A = B) = R := ⟨_, rfl⟩
  rw [hR]
  have HR : Hid (decide (A = B) = R) := hR
  clear hR
  obtain ⟨aa, ca, rfl⟩ := ha.len
  obtain ⟨ab, cb, rfl⟩ := hb.len
  have lA := sA.len
  have lB := sB.len
  by_cases hlen : A.length = B.length
  rotate_left
  · obtain rfl : R = false := by
      rw [← HR.out]; simp; intro e; exact hlen (by rw [e])
    have n1 : ((A.length : Int) != (B.length : Int)) = true := by simp; omega
    have n2 : ((A.length : Int) == (B.length : Int)) = false := by simp; omega
    have n3 : ¬ (A.length : Int) = (B.length : Int) := by omega
    clear ha hb sA sB
    go_enter Tryz.func10, Tryz.ntmps10
    go_wp2_with fail
    go_ret
    exact ⟨rfl, 0, rfl⟩
  obtain ⟨n, hn⟩ : ∃ n, A.length = n := ⟨_, rfl⟩
  have hn2 : B.length = n := by omega
  rw [hn] at ha ⊢
  rw [hn2] at hb ⊢
  have HA : Hid (GR w (.slice aa n ca) A ∧ GSm A) := ⟨ha, sA⟩
  have HB : Hid (GR w (.slice ab n cb) B ∧ GSm B) := ⟨hb, sB⟩
  have HN : Hid (A.length = n ∧ B.length = n) := ⟨hn, hn2⟩
  have hnl : n ≤ 1000000000 := by omega
  clear lA lB hlen hn hn2 ha hb sA sB
  go_enter Tryz.func10, Tryz.ntmps10
  go_wp2_with fail
  go_loopw [5] (fun i wr => ∃ k m : Nat, k ≤ n ∧ i = .int .i64 k ∧ decide (A.drop k = B.drop k) = R ∧ wr = w.drewN m) (fun i _ => n - (intOf i).toNat)
  case atStart => exact ⟨0, 0, Nat.zero_le _, rfl, by simpa using HR.out, rfl⟩
  case round =>
    obtain ⟨k, m, hk, rfl, hR, hwr⟩ := hrel
    have HW : Hid (wr = w.drewN m) := hwr
    have hbw : Below w.heap.size w wr := by rw [hwr]; exact bd _ _
    clear hwr
    have HRk : Hid (decide (A.drop k = B.drop k) = R) := hR
    clear hR HR
    by_cases hlt : k < n
    rotate_left
    · obtain rfl : k = n := by omega
      obtain rfl : R = true := by
        have := HRk.out
        rw [← this, List.drop_eq_nil_of_le (by have := HN.out; omega), List.drop_eq_nil_of_le (by have := HN.out; omega)]; simp
      go_wp2_with fail
      go_ret
      exact ⟨rfl, _, HW.out⟩
    have kA : k < A.length := by have := HN.out; omega
    have kB : k < B.length := by have := HN.out; omega
    obtain ⟨b1, o1, sa, sn, sc, da, dc, ea, en, ec, P1⟩ := (HA.out.1.later hbw).place k kA
    obtain ⟨b2, o2, sa', sn', sc', da', dc', ea', en', ec', P2⟩ := (HB.out.1.later hbw).place k kB
    obtain ⟨a1, a2, a3⟩ := HA.out.2.each _ (List.getElem_mem kA)
    obtain ⟨b1', b2', b3⟩ := HB.out.2.each _ (List.getElem_mem kB)
    have hd := drop_same kA kB
    obtain ⟨tA, htA⟩ : ∃ tA, A[k] = tA := ⟨_, rfl⟩
    obtain ⟨tB, htB⟩ : ∃ tB, B[k] = tB := ⟨_, rfl⟩
    rw [htA] at P1 hd a1 a2 a3
    rw [htB] at P2 hd b1' b2' b3
    clear htA htB
    obtain ⟨hv1, x0, x1, x2, x3, s1, e1, d1⟩ := P1
    obtain ⟨hv2, y0, y1, y2, y3, s2, e2, d2⟩ := P2
    injection hv1 with hv1 _ _
    injection hv2 with hv2 _ _
    subst hv1 hv2
    have HS : Hid (∀ q, Calls Tryz.prog 23 #[.slice sa sn sc, .slice sa' sn' sc'] (wr.drewN q) fun e w' => e = .returned (.bool (decide (tA.srcs = tB.srcs))) ∧ ∃ r, w' = wr.drewN r) := fun q => Calls.quiet_of (rlist_any (s1.later (bd _ q)) (s2.later (bd _ q)) a1 b1')
    have HE : Hid (∀ q, Calls Tryz.prog 23 #[.slice ea en ec, .slice ea' en' ec'] (wr.drewN q) fun e w' => e = .returned (.bool (decide (tA.see = tB.see))) ∧ ∃ r, w' = wr.drewN r) := fun q => Calls.quiet_of (rlist_any (e1.later (bd _ q)) (e2.later (bd _ q)) a3 b3)
    have HD1 : Hid (∀ j, (hj : j < tA.deps.length) → ∃ b off, da = some ⟨b, off, none⟩ ∧ b < wr.heap.size ∧ wr.cell? ⟨b, off + j * 2, none⟩ = some (.string (bs tA.deps[j].pkg)) ∧ wr.cell? ⟨b, off + j * 2 + 1, none⟩ = some (.string (bs tA.deps[j].name))) := d1
    have HD2 : Hid (∀ j, (hj : j < tB.deps.length) → ∃ b off, da' = some ⟨b, off, none⟩ ∧ b < wr.heap.size ∧ wr.cell? ⟨b, off + j * 2, none⟩ = some (.string (bs tB.deps[j].pkg)) ∧ wr.cell? ⟨b, off + j * 2 + 1, none⟩ = some (.string (bs tB.deps[j].name))) := d2
    have q1 := bs_toList tA.name
    have q2 := bs_toList tB.name
    have i1 : (0 : Int) ≤ (k : Int) := by omega
    have i2 : (k : Int) < (n : Int) := by omega
    have HD : Hid ((decide (tA = tB) && decide (A.drop (k + 1) = B.drop (k + 1))) = R) := by
      show (decide (tA = tB) && decide (A.drop (k + 1) = B.drop (k + 1))) = R
      rw [← hd]; exact HRk.out
    clear hbw hd s1 s2 e1 e2 d1 d2 HRk a1 a3 b1' b3
    by_cases g1 : tA.name = tB.name
    rotate_left
    · obtain rfl : R = false := by rw [← HD.out, decide_eq_false (fun e => g1 (by rw [e]))]; rfl
      have g1' : (tA.name == tB.name) = false := by simpa using g1
      clear g1 HD
      go_wp2_with fail
      go_quiet (fail)
      go_wp2_with fail
      go_ret
      exact ⟨rfl, _, by rw [HW.out, World.drewN_drewN]⟩
    have g1' : (tA.name == tB.name) = true := by rw [g1]; simp
    have G1 : Hid (tA.name = tB.name) := g1
    clear g1
    cases g2 : decide (tA.srcs = tB.srcs)
    · obtain rfl : R = false := by rw [← HD.out, decide_eq_false (fun e => by rw [e] at g2; simp at g2)]; rfl
      rw [g2] at HS
      clear g2 HD
      go_wp2_with fail
      go_quiet ((go_at_call 23; with_reducible exact HS.out _))
      go_wp2_with fail
      go_ret
      exact ⟨rfl, _, by rw [HW.out, World.drewN_drewN]⟩
    have g2' : tA.srcs = tB.srcs := of_decide_eq_true g2
    have G2 : Hid (tA.srcs = tB.srcs) := g2'
    clear g2'
    rw [g2] at HS
    clear g2
    cases g3 : decide (tA.see = tB.see)
    · obtain rfl : R = false := by rw [← HD.out, decide_eq_false (fun e => by rw [e] at g3; simp at g3)]; rfl
      rw [g3] at HE
      clear g3 HD
      go_wp2_with fail
      go_quiet ((first | (go_at_call 23; with_reducible exact HS.out _) | (go_at_call 23; with_reducible exact HE.out _)))
      go_wp2_with fail
      go_ret
      exact ⟨rfl, _, by rw [HW.out, World.drewN_drewN]⟩
    have g3' : tA.see = tB.see := of_decide_eq_true g3
    have G3 : Hid (tA.see = tB.see) := g3'
    clear g3'
    rw [g3] at HE
    clear g3
    obtain ⟨nd, hnd⟩ : ∃ nd, tA.deps.length = nd := ⟨_, rfl⟩
    obtain ⟨nd', hnd'⟩ : ∃ nd', tB.deps.length = nd' := ⟨_, rfl⟩
    have HND : Hid (tA.deps.length = nd ∧ tB.deps.length = nd') := ⟨hnd, hnd'⟩
    rw [hnd] at x2 a2
    rw [hnd'] at y2 b2'
    clear hnd hnd'
    by_cases g4 : nd = nd'
    rotate_left
    · obtain rfl : R = false := by rw [← HD.out, decide_eq_false (fun e => g4 (by rw [← HND.out.1, ← HND.out.2, e]))]; rfl
      have g4' : ((nd : Int) != (nd' : Int)) = true := by simp; omega
      have g5' : ((nd : Int) == (nd' : Int)) = false := by simp; omega
      have g6' : (nd == nd') = false := by simpa using g4
      clear g4 HD
      go_wp2_with fail
      go_quiet ((first | (go_at_call 23; with_reducible exact HS.out _) | (go_at_call 23; with_reducible exact HE.out _)))
      go_wp2_with fail
      go_ret
      exact ⟨rfl, _, by rw [HW.out, World.drewN_drewN]⟩
    subst g4
    go_wp2_with fail
    go_quiet ((first | (go_at_call 23; with_reducible exact HS.out _) | (go_at_call 23; with_reducible exact HE.out _)))
    obtain ⟨RD, hRD⟩ : ∃ RD, decide (tA.deps = tB.deps) = RD := ⟨_, rfl⟩
    have HRD : Hid (decide (tA.deps = tB.deps) = RD ∧ (RD && decide (A.drop (k + 1) = B.drop (k + 1))) = R) := by
      refine ⟨hRD, ?_⟩
      rw [← HD.out, ← hRD]
      congr 1
      by_cases e : tA.deps = tB.deps
      · rw [decide_eq_true e, decide_eq_true ((tg_eq tA tB).2 ⟨G1.out, G2.out, G3.out, e⟩)]
      · rw [decide_eq_false e, decide_eq_false (fun h => e ((tg_eq tA tB).1 h).2.2.2)]
    clear hRD HD HS HE g1' q1 q2 x0 x1 x3 y0 y1 y3
    have e2 : ∀ (w : World) (op : BinOp) (y z : Operand) (xs ys : Array Value), (eqGuard op 58 y z (.agg xs) (.agg ys)).run Tryz.prog w = .ok () w := guard_run
    obtain ⟨wo, hwo⟩ : ∃ wo, wo = wr := ⟨_, rfl⟩
    subst hwo
    go_wp2_with fail
    go_loopw [6] (fun i wr => ∃ j q : Nat, j ≤ nd ∧ i = .int .i64 j ∧ decide (tA.deps.drop j = tB.deps.drop j) = RD ∧ wr = wo.drewN q) (fun i _ => nd - (intOf i).toNat)
    case atStart => exact ⟨0, _, Nat.zero_le _, rfl, by simpa using HRD.out.1, rfl⟩
    case round =>
      obtain ⟨j, q, hj, rfl, hRj, hwr⟩ := hrel
      have HWj : Hid (wr = wo.drewN q) := hwr
      have HRj : Hid (decide (tA.deps.drop j = tB.deps.drop j) = RD) := hRj
      have x2' : wr.cell? ⟨b1, o1 + k * 4 + 2, none⟩ = some (.slice da nd dc) := by rw [hwr]; exact x2
      have y2' : wr.cell? ⟨b2, o2 + k * 4 + 2, none⟩ = some (.slice da' nd dc') := by rw [hwr]; exact y2
      clear hwr hRj
      by_cases hjl : j < nd
      rotate_left
      · obtain rfl : j = nd := by omega
        obtain rfl : RD = true := by
          have := HRj.out
          rw [← this, List.drop_eq_nil_of_le (by have := HND.out; omega), List.drop_eq_nil_of_le (by have := HND.out; omega)]; simp
        have HR2 : Hid (decide (A.drop (k + 1) = B.drop (k + 1)) = R) := by
          show decide _ = R
          have := HRD.out.2; simpa using this
        go_wp2_with fail
        go_roundw
        case rel => exact ⟨k + 1, _, hlt, rfl, HR2.out, by rw [HWj.out, HW.out, World.drewN_drewN]⟩
        case measure => simp only [intOf]; omega
      have jA : j < tA.deps.length := by have := HND.out; omega
      have jB : j < tB.deps.length := by have := HND.out; omega
      obtain ⟨g1, f1, rfl, _, z0, z1⟩ := HD1.out j jA
      obtain ⟨g2, f2, rfl, _, z2, z3⟩ := HD2.out j jB
      have u0 : wr.cell? ⟨g1, f1 + j * 2, none⟩ = some (.string (bs tA.deps[j].pkg)) := by rw [HWj.out]; exact z0
      have u1 : wr.cell? ⟨g1, f1 + j * 2 + 1, none⟩ = some (.string (bs tA.deps[j].name)) := by rw [HWj.out]; exact z1
      have u2 : wr.cell? ⟨g2, f2 + j * 2, none⟩ = some (.string (bs tB.deps[j].pkg)) := by rw [HWj.out]; exact z2
      have u3 : wr.cell? ⟨g2, f2 + j * 2 + 1, none⟩ = some (.string (bs tB.deps[j].name)) := by rw [HWj.out]; exact z3
      have i3 : (0 : Int) ≤ (j : Int) := by omega
      have i4 : (j : Int) < (nd : Int) := by omega
      have hdj := drop_same jA jB
      clear z0 z1 z2 z3
      by_cases he : tA.deps[j] = tB.deps[j]
      · have HR2 : Hid (decide (tA.deps.drop (j + 1) = tB.deps.drop (j + 1)) = RD) := by
          show decide _ = RD
          have := HRj.out
          rw [hdj, he] at this; simpa using this
        have e1 : ∀ w : World, (binOp .neq 58 (.agg #[.string (bs tA.deps[j].pkg), .string (bs tA.deps[j].name)]) (.agg #[.string (bs tB.deps[j].pkg), .string (bs tB.deps[j].name)])).run Tryz.prog w = .ok (.bool false) w := fun w => by
          rw [neq58_run]; simp [he]
        generalize tA.deps[j].pkg = lp1 at *
        generalize tA.deps[j].name = ln1 at *
        generalize tB.deps[j].pkg = lp2 at *
        generalize tB.deps[j].name = ln2 at *
        clear he hdj
        go_wp2_with fail
        go_quiet (fail)
        go_wp2_with fail
        go_roundw
        case rel => exact ⟨j + 1, _, hjl, rfl, HR2.out, by rw [HWj.out, World.drewN_drewN]⟩
        case measure => simp only [intOf]; omega
      · obtain rfl : RD = false := by
          have := HRj.out
          rw [hdj, decide_eq_false he] at this; simpa using this.symm
        obtain rfl : R = false := by have := HRD.out.2; simpa using this.symm
        have e1 : ∀ w : World, (binOp .neq 58 (.agg #[.string (bs tA.deps[j].pkg), .string (bs tA.deps[j].name)]) (.agg #[.string (bs tB.deps[j].pkg), .string (bs tB.deps[j].name)])).run Tryz.prog w = .ok (.bool true) w := fun w => by
          rw [neq58_run, decide_eq_false (show ¬ ((⟨tA.deps[j].pkg, tA.deps[j].name⟩ : Lb) = ⟨tB.deps[j].pkg, tB.deps[j].name⟩) from he)]; rfl
        generalize tA.deps[j].pkg = lp1 at *
        generalize tA.deps[j].name = ln1 at *
        generalize tB.deps[j].pkg = lp2 at *
        generalize tB.deps[j].name = ln2 at *
        clear he hdj
        go_wp2_with fail
        go_quiet (fail)
        go_wp2_with fail
        go_ret
        exact ⟨rfl, _, by rw [HWj.out, HW.out, World.drewN_drewN, World.drewN_drewN]⟩
end Go.Proofs.YtemoplpfndnklaaGreatDoor
