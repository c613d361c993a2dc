/-
  What is there, and what is told in numbers.
-/
import Derived.Test.YtbaheiimcnfaaaaGreatTPut
namespace Go.Proofs.YtbaheiimcnfaaaaGreat
open Go.RowKit

theorem rq_cases {L : List Fl} (h : GoodT L) (p : List UInt8) :
    (∃ d, rq L p = (pcs p, true) ∧ nod L p = some d ∧ st L (pcs p) = some d) ∨ ((rq L p).2 = false ∧ nod L p = none ∧ (st L (rq L p).1).isSome = true) := by
  unfold rq nod
  cases ho : okP p
  · right
    simp only [Bool.false_eq_true, if_false, true_and]
    rw [st_root h]; rfl
  · simp only [if_true]
    have hs := rch_spec (L := L) (pcs p) [] (by rw [st_root h]; rfl)
    have ht := rch_there h (pcs p)
    cases e : (rch (st L) [] (pcs p)).2
    · right
      refine ⟨rfl, ?_, hs.1⟩
      rw [e] at ht
      cases e2 : st L (pcs p) with
      | none => rfl
      | some d => rw [e2] at ht; cases ht
    · left
      rw [e] at ht
      obtain ⟨d, hd⟩ := Option.isSome_iff_exists.1 ht.symm
      refine ⟨d, ?_, hd, hd⟩
      have := hs.2.1 e
      rw [List.nil_append] at this
      exact Prod.ext this e
def filP (A : Q → Nat) (L : List Fl) (p : List UInt8) : Value := match nod L p with | some (.file _) => .pointer (some ⟨A (pcs p), 0, none⟩) | _ => .pointer none
def dirP (A : Q → Nat) (L : List Fl) (p : List UInt8) : Value := match nod L p with | some (.dir _ _ _) => .pointer (some ⟨A (pcs p), 0, none⟩) | _ => .pointer none

set_option maxRecDepth 100000 in
set_option maxHeartbeats 2000000 in
theorem file0 {w : World} {A M : Q → Nat} {N t : Nat} {F : Nat → Prop} {L : List Fl} (hg : GoodT L) (h : Hp w A M N F (st L) (keys (st L))) (ht : TB w t (A [])) (p : List UInt8) (hp : p.length ≤ 1000000000) :
    Calls Tryz.prog 82 #[.pointer (some ⟨t, 0, none⟩), .string (bs p)] w fun e w' => e = .returned (filP A L p) ∧ Below w.heap.size w w' := by
  have H : Hid (GoodT L ∧ Hp w A M N F (st L) (keys (st L)) ∧ TB w t (A []) ∧ p.length ≤ 1000000000) := ⟨hg, h, ht, hp⟩
  clear hg h ht hp
  rcases rq_cases H.out.1 p with ⟨d, e1, e2, e3⟩ | ⟨e1, e2, e3⟩
  · have HE : Hid (rq L p = (pcs p, true) ∧ st L (pcs p) = some d) := ⟨e1, e3⟩
    obtain ⟨R, hR⟩ : ∃ R, filP A L p = R := ⟨_, rfl⟩
    have HR : Hid (filP A L p = R ∧ nod L p = some d) := ⟨hR, e2⟩
    rw [hR]
    clear e1 e2 e3 hR
    go_enter Tryz.func82, Tryz.ntmps82
    go_wp2_with fail
    refine (reach_any H.out.1 H.out.2.1 H.out.2.2.1 p H.out.2.2.2).mono ?_
    rintro e w1 ⟨rfl, hb1⟩
    rw [HE.out.1]
    have HB : Hid (Below w.heap.size w w1) := hb1
    clear hb1
    cases d with
    | file s =>
      have hn := ((H.out.2.1.later HB.out).files _ _ HE.out.2).1
      have HI : Hid (∀ W, w1 = W → Calls Tryz.prog 84 #[.pointer (some ⟨A (pcs p), 0, none⟩)] W fun e w' => e = .returned (.bool true) ∧ w' = W) := by
        rintro W rfl
        exact isFile_any hn
      clear hn
      go_wp2_with fail
      refine (HI.out _ rfl).mono ?_
      rintro e w2 ⟨rfl, hw2⟩
      subst hw2
      go_wp2_with fail
      go_ret
      refine ⟨?_, HB.out⟩
      rw [← HR.out.1]; unfold filP; rw [HR.out.2]; rfl
    | dir c a o =>
      have hn := ((H.out.2.1.later HB.out).dirs _ _ _ _ HE.out.2).1
      have HI : Hid (∀ W, w1 = W → Calls Tryz.prog 84 #[.pointer (some ⟨A (pcs p), 0, none⟩)] W fun e w' => e = .returned (.bool false) ∧ w' = W) := by
        rintro W rfl
        exact isFile_any hn
      clear hn
      go_wp2_with fail
      refine (HI.out _ rfl).mono ?_
      rintro e w2 ⟨rfl, hw2⟩
      subst hw2
      go_wp2_with fail
      go_ret
      refine ⟨?_, HB.out⟩
      rw [← HR.out.1]; unfold filP; rw [HR.out.2]; rfl
  · have HE : Hid ((rq L p).2 = false) := e1
    have hf : filP A L p = .pointer none := by unfold filP; rw [e2]
    rw [hf]
    clear e1 e2 e3 hf
    go_enter Tryz.func82, Tryz.ntmps82
    go_wp2_with fail
    refine (reach_any H.out.1 H.out.2.1 H.out.2.2.1 p H.out.2.2.2).mono ?_
    rintro e w1 ⟨rfl, hb1⟩
    rw [HE.out]
    have HB : Hid (Below w.heap.size w w1) := hb1
    clear hb1
    go_wp2_with fail
    go_ret
    exact ⟨rfl, HB.out⟩
set_option maxRecDepth 100000 in
set_option maxHeartbeats 2000000 in
theorem dir0 {w : World} {A M : Q → Nat} {N t : Nat} {F : Nat → Prop} {L : List Fl} (hg : GoodT L) (h : Hp w A M N F (st L) (keys (st L))) (ht : TB w t (A [])) (p : List UInt8) (hp : p.length ≤ 1000000000) :
    Calls Tryz.prog 90 #[.pointer (some ⟨t, 0, none⟩), .string (bs p)] w fun e w' => e = .returned (dirP A L p) ∧ Below w.heap.size w w' := by
  have H : Hid (GoodT L ∧ Hp w A M N F (st L) (keys (st L)) ∧ TB w t (A []) ∧ p.length ≤ 1000000000) := ⟨hg, h, ht, hp⟩
  clear hg h ht hp
  rcases rq_cases H.out.1 p with ⟨d, e1, e2, e3⟩ | ⟨e1, e2, e3⟩
  · have HE : Hid (rq L p = (pcs p, true) ∧ st L (pcs p) = some d) := ⟨e1, e3⟩
    obtain ⟨R, hR⟩ : ∃ R, dirP A L p = R := ⟨_, rfl⟩
    have HR : Hid (dirP A L p = R ∧ nod L p = some d) := ⟨hR, e2⟩
    rw [hR]
    clear e1 e2 e3 hR
    go_enter Tryz.func90, Tryz.ntmps90
    go_wp2_with fail
    refine (reach_any H.out.1 H.out.2.1 H.out.2.2.1 p H.out.2.2.2).mono ?_
    rintro e w1 ⟨rfl, hb1⟩
    rw [HE.out.1]
    have HB : Hid (Below w.heap.size w w1) := hb1
    clear hb1
    cases d with
    | file s =>
      have hn := ((H.out.2.1.later HB.out).files _ _ HE.out.2).1
      have HI : Hid (∀ W, w1 = W → Calls Tryz.prog 121 #[.pointer (some ⟨A (pcs p), 0, none⟩)] W fun e w' => e = .returned (.bool false) ∧ w' = W) := by
        rintro W rfl
        exact isDir_any hn
      clear hn
      go_wp2_with fail
      refine (HI.out _ rfl).mono ?_
      rintro e w2 ⟨rfl, hw2⟩
      subst hw2
      go_wp2_with fail
      go_ret
      refine ⟨?_, HB.out⟩
      rw [← HR.out.1]; unfold dirP; rw [HR.out.2]; rfl
    | dir c a o =>
      have hn := ((H.out.2.1.later HB.out).dirs _ _ _ _ HE.out.2).1
      have HI : Hid (∀ W, w1 = W → Calls Tryz.prog 121 #[.pointer (some ⟨A (pcs p), 0, none⟩)] W fun e w' => e = .returned (.bool true) ∧ w' = W) := by
        rintro W rfl
        exact isDir_any hn
      clear hn
      go_wp2_with fail
      refine (HI.out _ rfl).mono ?_
      rintro e w2 ⟨rfl, hw2⟩
      subst hw2
      go_wp2_with fail
      go_ret
      refine ⟨?_, HB.out⟩
      rw [← HR.out.1]; unfold dirP; rw [HR.out.2]; rfl
  · have HE : Hid ((rq L p).2 = false) := e1
    have hf : dirP A L p = .pointer none := by unfold dirP; rw [e2]
    rw [hf]
    clear e1 e2 e3 hf
    go_enter Tryz.func90, Tryz.ntmps90
    go_wp2_with fail
    refine (reach_any H.out.1 H.out.2.1 H.out.2.2.1 p H.out.2.2.2).mono ?_
    rintro e w1 ⟨rfl, hb1⟩
    rw [HE.out]
    have HB : Hid (Below w.heap.size w w1) := hb1
    clear hb1
    go_wp2_with fail
    go_ret
    exact ⟨rfl, HB.out⟩
/-- may a file stand there? -/
def frB (L : List Fl) (p : List UInt8) : Bool := !(rq L p).2 && ((st L (rq L p).1).map fun d => !d.isF).getD false
/-- may it stand there: as the files say -/
theorem frB_iff {L : List Fl} (h : GoodT L) {p : List UInt8} (hp : pathOk p = true) : frB L p = true ↔ ∀ g ∈ L, aprt (pcs p) (pp g) := by
  unfold pathOk at hp
  simp only [Bool.and_eq_true, Bool.not_eq_true', beq_eq_false_iff_ne] at hp
  have hne : pcs p ≠ [] := fun e => hp.1 ((pcs_eq_nil p).1 e)
  rw [← rch_free h (pcs p) hne]
  unfold frB rq
  rw [hp.2]
  simp only [if_true, Bool.and_eq_true, Bool.not_eq_true']
  constructor
  · rintro ⟨h1, h2⟩
    refine ⟨h1, ?_⟩
    cases e : st L (rch (st L) [] (pcs p)).1 with
    | none => rw [e] at h2; cases h2
    | some d =>
      cases d with
      | dir c a o => exact ⟨c, a, o, rfl⟩
      | file s => rw [e] at h2; cases h2
  · rintro ⟨h1, c, a, o, e⟩
    refine ⟨h1, ?_⟩
    rw [e]; rfl

/-- the tree, told in the words of its parts -/
theorem TR.open {w : World} {F : Nat → Prop} {t N : Nat} {L : List Fl} (h : TR w F t L N) : ∃ A M, Hp w A M N F (st L) (keys (st L)) ∧ TB w t (A []) := by
  obtain ⟨_, ⟨A, M, h1, h2⟩, _⟩ := h
  exact ⟨A, M, h1, ⟨h2⟩⟩

theorem neP (w : World) (x : Option Addr) : (binOp .neq 109 (.pointer x) (.pointer none)).run Tryz.prog w = .ok (.bool x.isSome) w := by cases x <;> kernel_rfl
theorem eqP (w : World) (x : Option Addr) : (binOp .eql 109 (.pointer x) (.pointer none)).run Tryz.prog w = .ok (.bool x.isNone) w := by cases x <;> kernel_rfl

set_option maxRecDepth 100000 in
set_option maxHeartbeats 2000000 in
theorem tsize_any {w : World} {F : Nat → Prop} {t N : Nat} {L : List Fl} (h : TR w F t L N) (d : List UInt8) (hd : d.length ≤ 1000000000) :
    Calls Tryz.prog 54 #[.pointer (some ⟨t, 0, none⟩), .string (bs d)] w fun e w' => e = .returned (.int .i64 (sizeS L d)) ∧ Below w.heap.size w w' := by
  obtain ⟨A, M, h1, h2⟩ := h.open
  have H : Hid (GoodT L ∧ Hp w A M N F (st L) (keys (st L)) ∧ TB w t (A []) ∧ d.length ≤ 1000000000) := ⟨h.good, h1, h2, hd⟩
  clear h h1 h2 hd
  have q1 := neP
  rcases nod_cases H.out.1 d with ⟨e1, e2⟩ | ⟨e1, e2⟩
  · have hc : sizeS L d = cap (tot L (pcs d)) := by unfold sizeS; rw [e1]; rfl
    have hp : dirP A L d = .pointer (some ⟨A (pcs d), 0, none⟩) := by unfold dirP; rw [e2]
    have HP : Hid (dirP A L d = .pointer (some ⟨A (pcs d), 0, none⟩) ∧ st L (pcs d) = some (.dir (cnt L (pcs d)) (tot L (pcs d)) (own L (pcs d)))) := by
      refine ⟨hp, ?_⟩
      unfold nod at e2
      rw [isD_ok e1] at e2; exact e2
    rw [hc]
    have HT : Hid (∀ W, Calls Tryz.prog 91 #[.agg #[.int .u64 (tot L (pcs d) / 18446744073709551616 : Nat), .int .u64 (tot L (pcs d) % 18446744073709551616 : Nat)]] W fun e W' => e = .returned (.int .i64 (cap (tot L (pcs d)))) ∧ Below W.heap.size W W') := fun W => told_any _ W
    obtain ⟨r, hr⟩ : ∃ r, cap (tot L (pcs d)) = r := ⟨_, rfl⟩
    obtain ⟨x, hx⟩ : ∃ x, tot L (pcs d) / 18446744073709551616 = x := ⟨_, rfl⟩
    obtain ⟨y, hy⟩ : ∃ y, tot L (pcs d) % 18446744073709551616 = y := ⟨_, rfl⟩
    rw [hr, hx, hy] at HT
    rw [hr]
    have HXY : Hid (tot L (pcs d) / 18446744073709551616 = x ∧ tot L (pcs d) % 18446744073709551616 = y) := ⟨hx, hy⟩
    clear hc hp e1 e2 hr hx hy
    go_enter Tryz.func54, Tryz.ntmps54
    go_wp2_with fail
    refine (dir0 H.out.1 H.out.2.1 H.out.2.2.1 d H.out.2.2.2).mono ?_
    rintro e w1 ⟨rfl, hb1⟩
    rw [HP.out.1]
    have HB : Hid (Below w.heap.size w w1) := hb1
    obtain ⟨c0, c1, c2, c3, c4, c5⟩ := ((H.out.2.1.later hb1).dirs _ _ _ _ HP.out.2).1.cells
    rw [HXY.out.1] at c2
    rw [HXY.out.2] at c3
    clear hb1 c4 c5
    go_wp2_with fail
    refine (HT.out _).mono ?_
    rintro e w2 ⟨rfl, hb2⟩
    have HB2 : Hid (Below w.heap.size w w2) := bstep HB.out hb2
    clear hb2
    go_wp2_with fail
    go_ret
    exact ⟨rfl, HB2.out⟩
  · have hc : sizeS L d = 0 := by unfold sizeS; rw [e1]; rfl
    have HP : Hid (dirP A L d = .pointer none) := by
      show _ = _
      unfold dirP
      rcases e2 with e2 | ⟨s, e2⟩ <;> rw [e2]
    rw [hc]
    clear hc e1 e2
    go_enter Tryz.func54, Tryz.ntmps54
    go_wp2_with fail
    refine (dir0 H.out.1 H.out.2.1 H.out.2.2.1 d H.out.2.2.2).mono ?_
    rintro e w1 ⟨rfl, hb1⟩
    rw [HP.out]
    have HB : Hid (Below w.heap.size w w1) := hb1
    clear hb1
    go_wp2_with fail
    go_ret
    exact ⟨rfl, HB.out⟩
end Go.Proofs.YtbaheiimcnfaaaaGreat
