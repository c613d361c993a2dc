/-
  What is there, and what is told in numbers.
  A tree of files; a file added.
  A file added.
  The cost of cones; cones merged at a directory: the package's calls.
-/
import Derived.Test.YtbaheiimcnfaaaaGreatTPut
import Derived.Test.YtbaheiimcnfaaaaGreatJSPkg2
import Derived.Test.YtbaheiimcnfaaaaGreatJNd
namespace Go.Proofs.YtbaheiimcnfaaaaGreat
open Go.RowKit

theorem rq_cases {L : List Fl} (h : GoodT L) (p : List UInt8) :
    (∃ d, rq L p = (pcs p, true) ∧ nod L p = some d ∧ st L (pcs p) = some d) ∨ ((rq L p).2 = false ∧ nod L p = none ∧ (st L (rq L p).1).isSome = true) := by
  unfold rq nod
  cases ho : okP p
  · right
    simp only [Bool.false_eq_true, if_false, true_and]
    rw [st_root h]; rfl
  · simp only [if_true]
    have hs := rch_spec (L := L) (pcs p) [] (by rw [st_root h]; rfl)
    have ht := rch_there h (pcs p)
    cases e : (rch (st L) [] (pcs p)).2
    · right
      refine ⟨rfl, ?_, hs.1⟩
      rw [e] at ht
      cases e2 : st L (pcs p) with
      | none => rfl
      | some d => rw [e2] at ht; cases ht
    · left
      rw [e] at ht
      obtain ⟨d, hd⟩ := Option.isSome_iff_exists.1 ht.symm
      refine ⟨d, ?_, hd, hd⟩
      have := hs.2.1 e
      rw [List.nil_append] at this
      exact Prod.ext this e
def filP (A : Q → Nat) (L : List Fl) (p : List UInt8) : Value := match nod L p with | some (.file _) => .pointer (some ⟨A (pcs p), 0, none⟩) | _ => .pointer none
def dirP (A : Q → Nat) (L : List Fl) (p : List UInt8) : Value := match nod L p with | some (.dir _ _ _) => .pointer (some ⟨A (pcs p), 0, none⟩) | _ => .pointer none

set_option maxRecDepth 100000 in
set_option maxHeartbeats 2000000 in
theorem file0 {w : World} {A M : Q → Nat} {N t : Nat} {F : Nat → Prop} {L : List Fl} (hg : GoodT L) (h : Hp w A M N F (st L) (keys (st L))) (ht : TB w t (A [])) (p : List UInt8) (hp : p.length ≤ 1000000000) :
    Calls Tryz.prog 82 #[.pointer (some ⟨t, 0, none⟩), .string (bs p)] w fun e w' => e = .returned (filP A L p) ∧ Below w.heap.size w w' := by
  have H : Hid (GoodT L ∧ Hp w A M N F (st L) (keys (st L)) ∧ TB w t (A []) ∧ p.length ≤ 1000000000) := ⟨hg, h, ht, hp⟩
  clear hg h ht hp
  rcases rq_cases H.out.1 p with ⟨d, e1, e2, e3⟩ | ⟨e1, e2, e3⟩
  · have HE : Hid (rq L p = (pcs p, true) ∧ st L (pcs p) = some d) := ⟨e1, e3⟩
    obtain ⟨R, hR⟩ : ∃ R, filP A L p = R := ⟨_, rfl⟩
    have HR : Hid (filP A L p = R ∧ nod L p = some d) := ⟨hR, e2⟩
    rw [hR]
    clear e1 e2 e3 hR
    go_enter Tryz.func82, Tryz.ntmps82
    go_wp2_with fail
    refine (reach_any H.out.1 H.out.2.1 H.out.2.2.1 p H.out.2.2.2).mono ?_
    rintro e w1 ⟨rfl, hb1⟩
    rw [HE.out.1]
    have HB : Hid (Below w.heap.size w w1) := hb1
    clear hb1
    cases d with
    | file s =>
      have hn := ((H.out.2.1.later HB.out).files _ _ HE.out.2).1
      have HI : Hid (∀ W, w1 = W → Calls Tryz.prog 84 #[.pointer (some ⟨A (pcs p), 0, none⟩)] W fun e w' => e = .returned (.bool true) ∧ w' = W) := by
        rintro W rfl
        exact isFile_any hn
      clear hn
      go_wp2_with fail
      refine (HI.out _ rfl).mono ?_
      rintro e w2 ⟨rfl, hw2⟩
      subst hw2
      go_wp2_with fail
      go_ret
      refine ⟨?_, HB.out⟩
      rw [← HR.out.1]; unfold filP; rw [HR.out.2]; rfl
    | dir c a o =>
      have hn := ((H.out.2.1.later HB.out).dirs _ _ _ _ HE.out.2).1
      have HI : Hid (∀ W, w1 = W → Calls Tryz.prog 84 #[.pointer (some ⟨A (pcs p), 0, none⟩)] W fun e w' => e = .returned (.bool false) ∧ w' = W) := by
        rintro W rfl
        exact isFile_any hn
      clear hn
      go_wp2_with fail
      refine (HI.out _ rfl).mono ?_
      rintro e w2 ⟨rfl, hw2⟩
      subst hw2
      go_wp2_with fail
      go_ret
      refine ⟨?_, HB.out⟩
      rw [← HR.out.1]; unfold filP; rw [HR.out.2]; rfl
  · have HE : Hid ((rq L p).2 = false) := e1
    have hf : filP A L p = .pointer none := by unfold filP; rw [e2]
    rw [hf]
    clear e1 e2 e3 hf
    go_enter Tryz.func82, Tryz.ntmps82
    go_wp2_with fail
    refine (reach_any H.out.1 H.out.2.1 H.out.2.2.1 p H.out.2.2.2).mono ?_
    rintro e w1 ⟨rfl, hb1⟩
    rw [HE.out]
    have HB : Hid (Below w.heap.size w w1) := hb1
    clear hb1
    go_wp2_with fail
    go_ret
    exact ⟨rfl, HB.out⟩
set_option maxRecDepth 100000 in
set_option maxHeartbeats 2000000 in
theorem dir0 {w : World} {A M : Q → Nat} {N t : Nat} {F : Nat → Prop} {L : List Fl} (hg : GoodT L) (h : Hp w A M N F (st L) (keys (st L))) (ht : TB w t (A [])) (p : List UInt8) (hp : p.length ≤ 1000000000) :
    Calls Tryz.prog 90 #[.pointer (some ⟨t, 0, none⟩), .string (bs p)] w fun e w' => e = .returned (dirP A L p) ∧ Below w.heap.size w w' := by
  have H : Hid (GoodT L ∧ Hp w A M N F (st L) (keys (st L)) ∧ TB w t (A []) ∧ p.length ≤ 1000000000) := ⟨hg, h, ht, hp⟩
  clear hg h ht hp
  rcases rq_cases H.out.1 p with ⟨d, e1, e2, e3⟩ | ⟨e1, e2, e3⟩
  · have HE : Hid (rq L p = (pcs p, true) ∧ st L (pcs p) = some d) := ⟨e1, e3⟩
    obtain ⟨R, hR⟩ : ∃ R, dirP A L p = R := ⟨_, rfl⟩
    have HR : Hid (dirP A L p = R ∧ nod L p = some d) := ⟨hR, e2⟩
    rw [hR]
    clear e1 e2 e3 hR
    go_enter Tryz.func90, Tryz.ntmps90
    go_wp2_with fail
    refine (reach_any H.out.1 H.out.2.1 H.out.2.2.1 p H.out.2.2.2).mono ?_
    rintro e w1 ⟨rfl, hb1⟩
    rw [HE.out.1]
    have HB : Hid (Below w.heap.size w w1) := hb1
    clear hb1
    cases d with
    | file s =>
      have hn := ((H.out.2.1.later HB.out).files _ _ HE.out.2).1
      have HI : Hid (∀ W, w1 = W → Calls Tryz.prog 121 #[.pointer (some ⟨A (pcs p), 0, none⟩)] W fun e w' => e = .returned (.bool false) ∧ w' = W) := by
        rintro W rfl
        exact isDir_any hn
      clear hn
      go_wp2_with fail
      refine (HI.out _ rfl).mono ?_
      rintro e w2 ⟨rfl, hw2⟩
      subst hw2
      go_wp2_with fail
      go_ret
      refine ⟨?_, HB.out⟩
      rw [← HR.out.1]; unfold dirP; rw [HR.out.2]; rfl
    | dir c a o =>
      have hn := ((H.out.2.1.later HB.out).dirs _ _ _ _ HE.out.2).1
      have HI : Hid (∀ W, w1 = W → Calls Tryz.prog 121 #[.pointer (some ⟨A (pcs p), 0, none⟩)] W fun e w' => e = .returned (.bool true) ∧ w' = W) := by
        rintro W rfl
        exact isDir_any hn
      clear hn
      go_wp2_with fail
      refine (HI.out _ rfl).mono ?_
      rintro e w2 ⟨rfl, hw2⟩
      subst hw2
      go_wp2_with fail
      go_ret
      refine ⟨?_, HB.out⟩
      rw [← HR.out.1]; unfold dirP; rw [HR.out.2]; rfl
  · have HE : Hid ((rq L p).2 = false) := e1
    have hf : dirP A L p = .pointer none := by unfold dirP; rw [e2]
    rw [hf]
    clear e1 e2 e3 hf
    go_enter Tryz.func90, Tryz.ntmps90
    go_wp2_with fail
    refine (reach_any H.out.1 H.out.2.1 H.out.2.2.1 p H.out.2.2.2).mono ?_
    rintro e w1 ⟨rfl, hb1⟩
    rw [HE.out]
    have HB : Hid (Below w.heap.size w w1) := hb1
    clear hb1
    go_wp2_with fail
    go_ret
    exact ⟨rfl, HB.out⟩
/-- may a file stand there? -/
def frB (L : List Fl) (p : List UInt8) : Bool := !(rq L p).2 && ((st L (rq L p).1).map fun d => !d.isF).getD false
/-- may it stand there: as the files say -/
theorem frB_iff {L : List Fl} (h : GoodT L) {p : List UInt8} (hp : pathOk p = true) : frB L p = true ↔ ∀ g ∈ L, aprt (pcs p) (pp g) := by
  unfold pathOk at hp
  simp only [Bool.and_eq_true, Bool.not_eq_true', beq_eq_false_iff_ne] at hp
  have hne : pcs p ≠ [] := fun e => hp.1 ((pcs_eq_nil p).1 e)
  rw [← rch_free h (pcs p) hne]
  unfold frB rq
  rw [hp.2]
  simp only [if_true, Bool.and_eq_true, Bool.not_eq_true']
  constructor
  · rintro ⟨h1, h2⟩
    refine ⟨h1, ?_⟩
    cases e : st L (rch (st L) [] (pcs p)).1 with
    | none => rw [e] at h2; cases h2
    | some d =>
      cases d with
      | dir c a o => exact ⟨c, a, o, rfl⟩
      | file s => rw [e] at h2; cases h2
  · rintro ⟨h1, c, a, o, e⟩
    refine ⟨h1, ?_⟩
    rw [e]; rfl

/-- the tree, told in the words of its parts -/
theorem TR.open {w : World} {F : Nat → Prop} {t N : Nat} {L : List Fl} (h : TR w F t L N) : ∃ A M, Hp w A M N F (st L) (keys (st L)) ∧ TB w t (A []) := by
  obtain ⟨_, ⟨A, M, h1, h2⟩, _⟩ := h
  exact ⟨A, M, h1, ⟨h2⟩⟩

theorem neP (w : World) (x : Option Addr) : (binOp .neq 109 (.pointer x) (.pointer none)).run Tryz.prog w = .ok (.bool x.isSome) w := by cases x <;> kernel_rfl
theorem eqP (w : World) (x : Option Addr) : (binOp .eql 109 (.pointer x) (.pointer none)).run Tryz.prog w = .ok (.bool x.isNone) w := by cases x <;> kernel_rfl

set_option maxRecDepth 100000 in
set_option maxHeartbeats 2000000 in
theorem tsize_any {w : World} {F : Nat → Prop} {t N : Nat} {L : List Fl} (h : TR w F t L N) (d : List UInt8) (hd : d.length ≤ 1000000000) :
    Calls Tryz.prog 54 #[.pointer (some ⟨t, 0, none⟩), .string (bs d)] w fun e w' => e = .returned (.int .i64 (sizeS L d)) ∧ Below w.heap.size w w' := by
  obtain ⟨A, M, h1, h2⟩ := h.open
  have H : Hid (GoodT L ∧ Hp w A M N F (st L) (keys (st L)) ∧ TB w t (A []) ∧ d.length ≤ 1000000000) := ⟨h.good, h1, h2, hd⟩
  clear h h1 h2 hd
  have q1 := neP
  rcases nod_cases H.out.1 d with ⟨e1, e2⟩ | ⟨e1, e2⟩
  · have hc : sizeS L d = cap (tot L (pcs d)) := by unfold sizeS; rw [e1]; rfl
    have hp : dirP A L d = .pointer (some ⟨A (pcs d), 0, none⟩) := by unfold dirP; rw [e2]
    have HP : Hid (dirP A L d = .pointer (some ⟨A (pcs d), 0, none⟩) ∧ st L (pcs d) = some (.dir (cnt L (pcs d)) (tot L (pcs d)) (own L (pcs d)))) := by
      refine ⟨hp, ?_⟩
      unfold nod at e2
      rw [isD_ok e1] at e2; exact e2
    rw [hc]
    have HT : Hid (∀ W, Calls Tryz.prog 91 #[.agg #[.int .u64 (tot L (pcs d) / 18446744073709551616 : Nat), .int .u64 (tot L (pcs d) % 18446744073709551616 : Nat)]] W fun e W' => e = .returned (.int .i64 (cap (tot L (pcs d)))) ∧ Below W.heap.size W W') := fun W => told_any _ W
    obtain ⟨r, hr⟩ : ∃ r, cap (tot L (pcs d)) = r := ⟨_, rfl⟩
    obtain ⟨x, hx⟩ : ∃ x, tot L (pcs d) / 18446744073709551616 = x := ⟨_, rfl⟩
    obtain ⟨y, hy⟩ : ∃ y, tot L (pcs d) % 18446744073709551616 = y := ⟨_, rfl⟩
    rw [hr, hx, hy] at HT
    rw [hr]
    have HXY : Hid (tot L (pcs d) / 18446744073709551616 = x ∧ tot L (pcs d) % 18446744073709551616 = y) := ⟨hx, hy⟩
    clear hc hp e1 e2 hr hx hy
    go_enter Tryz.func54, Tryz.ntmps54
    go_wp2_with fail
    refine (dir0 H.out.1 H.out.2.1 H.out.2.2.1 d H.out.2.2.2).mono ?_
    rintro e w1 ⟨rfl, hb1⟩
    rw [HP.out.1]
    have HB : Hid (Below w.heap.size w w1) := hb1
    obtain ⟨c0, c1, c2, c3, c4, c5⟩ := ((H.out.2.1.later hb1).dirs _ _ _ _ HP.out.2).1.cells
    rw [HXY.out.1] at c2
    rw [HXY.out.2] at c3
    clear hb1 c4 c5
    go_wp2_with fail
    refine (HT.out _).mono ?_
    rintro e w2 ⟨rfl, hb2⟩
    have HB2 : Hid (Below w.heap.size w w2) := bstep HB.out hb2
    clear hb2
    go_wp2_with fail
    go_ret
    exact ⟨rfl, HB2.out⟩
  · have hc : sizeS L d = 0 := by unfold sizeS; rw [e1]; rfl
    have HP : Hid (dirP A L d = .pointer none) := by
      show _ = _
      unfold dirP
      rcases e2 with e2 | ⟨s, e2⟩ <;> rw [e2]
    rw [hc]
    clear hc e1 e2
    go_enter Tryz.func54, Tryz.ntmps54
    go_wp2_with fail
    refine (dir0 H.out.1 H.out.2.1 H.out.2.2.1 d H.out.2.2.2).mono ?_
    rintro e w1 ⟨rfl, hb1⟩
    rw [HP.out]
    have HB : Hid (Below w.heap.size w w1) := hb1
    clear hb1
    go_wp2_with fail
    go_ret
    exact ⟨rfl, HB.out⟩
end Go.Proofs.YtbaheiimcnfaaaaGreat

namespace Go.Proofs.YtbaheiimcnfaaaaGreat
open Go.RowKit

theorem szs_of {f : Fl} (h : fileE f = 0) (hf : Fok f) : sz f ≤ 4611686018427387904 ∧ 0 ≤ f.size := by
  have := size_of h hf.text
  unfold sz; omega
theorem GoodT.sub {L M : List Fl} (h : GoodT L) (hs : M.Sublist L) : GoodT M := ⟨fun f hf => h.each f (hs.subset hf), h.apart.sublist hs, Nat.le_trans hs.length_le h.len⟩
theorem GoodT.revTake {L : List Fl} (h : GoodT L) (k : Nat) : GoodT (L.take k).reverse := (h.sub (List.take_sublist k L)).perm (List.reverse_perm _).symm
theorem rev_take_succ {L : List Fl} {k : Nat} (hk : k < L.length) : (L.take (k + 1)).reverse = L[k] :: (L.take k).reverse := by
  rw [List.take_add_one, List.getElem?_eq_getElem hk]; simp
theorem st_nil (q : Q) : st [] q = if q = [] then some (.dir 0 0 0) else none := by
  unfold st
  simp [fileAt, cnt, tot, own]
/-- an empty tree -/
theorem Hp.empty {w : World} {g b : Nat} {F : Nat → Prop} (h1 : ND w g (some b) 0 0 0) (h2 : MP w 0 b (fun _ => none)) (hg : F g) (hb : F b) : Hp w (fun _ => g) (fun _ => b) 0 F (st []) (keys (st [])) := by
  have hroot : ∀ q, (st [] q).isSome = true → q = [] := by
    intro q hq
    rw [st_nil] at hq
    split at hq
    · rename_i e; exact e
    · cases hq
  refine ⟨fun q c a o e => ?_, fun q s e => ?_, fun q q' h h' _ => by rw [hroot q h, hroot q' h'], fun q q' _ _ _ _ _ _ h h' _ => by rw [hroot q (by rw [h]; rfl), hroot q' (by rw [h']; rfl)]⟩
  · have := hroot q (by rw [e]; rfl)
    subst this
    rw [st_nil, if_pos rfl] at e
    cases e
    refine ⟨h1, h2.congr (fun n => ?_), hg, hb⟩
    have : keys (st []) [] n = false := by unfold keys; rw [st_nil]; simp
    rw [this]; rfl
  · rw [st_nil] at e
    split at e <;> cases e
theorem OnlyP.toBelow {F : Nat → Prop} {a b : World} {B : Nat} (h : OnlyP F a b) (hB : B ≤ a.heap.size) (hF : ∀ i, F i → B ≤ i) : Below B a b :=
  ⟨h.os, h.tape, h.output, h.size, fun i hi => h.block i (by omega) (fun e => by have := hF i e; omega)⟩
theorem put_val {w : World} {A M : Q → Nat} {N t : Nat} {F : Nat → Prop} {L : List Fl} {p tx : List UInt8} {bl s : Int} (hg : GoodT (⟨p, tx, bl, s⟩ :: L)) (hz : Szs (⟨p, tx, bl, s⟩ :: L)) (h : Hp w A M N F (st L) (keys (st L))) (ht : TB w t (A [])) (hF : ∀ i, F i → i < w.heap.size) (hN : N + 20 < 1099511627776) (hf : Fok ⟨p, tx, bl, s⟩) (hs : 0 ≤ s) :
    Calls Tryz.prog 81 #[.pointer (some ⟨t, 0, none⟩), .agg #[.string (bs p), .string (bs tx), .int .i64 bl, .int .i64 s]] w fun e w' => e = .returned (.tuple #[]) ∧ ∃ A' M', A' [] = A [] ∧ Hp w' A' M' (N + 20) (fun i => F i ∨ w.heap.size ≤ i ∧ i < w'.heap.size) (st (⟨p, tx, bl, s⟩ :: L)) (keys (st (⟨p, tx, bl, s⟩ :: L))) ∧ AK w w' ∧ OnlyP F w w' :=
  put_any hg hz h ht hF hN hf hs

set_option maxRecDepth 100000 in
set_option maxHeartbeats 4000000 in
theorem new_bad {w : World} {v : Value} {l : List Fl} (h : FS w v l) (sm : FSm l) (hv : validE l ≠ 0) :
    Calls Tryz.prog 50 #[v] w fun e w' => e = .returned (.tuple #[.pointer none, .int .i64 (validE l)]) ∧ Below w.heap.size w w' := by
  have H : Hid (FS w v l ∧ FSm l) := ⟨h, sm⟩
  clear h sm
  obtain ⟨z, hz⟩ : ∃ z, validE l = z := ⟨_, rfl⟩
  have HZ : Hid (validE l = z) := hz
  rw [hz] at hv ⊢
  clear hz
  have hne : (z != 0) = true := by simpa using hv
  go_enter Tryz.func50, Tryz.ntmps50
  go_wp2_with fail
  refine (valid2_any H.out.1 H.out.2).mono ?_
  rintro e w1 ⟨rfl, hb1⟩
  rw [HZ.out]
  have HB : Hid (Below w.heap.size w w1) := hb1
  clear hb1
  go_wp2_with fail
  go_ret2
  exact ⟨rfl, HB.out⟩

set_option maxRecDepth 100000 in
set_option maxHeartbeats 4000000 in
theorem new_good {w : World} {v : Value} {l : List Fl} (h : FS w v l) (sm : FSm l) (hv : validE l = 0) :
    Calls Tryz.prog 50 #[v] w fun e w' => ∃ t, e = .returned (.tuple #[.pointer (some ⟨t, 0, none⟩), .int .i64 0]) ∧ TR w' (fun i => w.heap.size ≤ i ∧ i < w'.heap.size) t l 12000 ∧ Below w.heap.size w w' := by
  have hg := (validE_good.1 hv).1
  have hsz : Szs l := fun f hf => (szs_of (hg.each f hf) (sm.each f hf)).1
  have H : Hid (FS w v l ∧ FSm l ∧ GoodT l ∧ Szs l) := ⟨h, sm, hg, hsz⟩
  have HV : Hid (validE l = 0) := hv
  have hlen : l.length ≤ 512 := hg.len
  clear sm hg hsz hv
  obtain ⟨a, c, rfl, _⟩ := h.form
  rename_i q1
  clear h q1
  have H' : Hid (FS w (.slice a l.length c) l) := H.out.1
  obtain ⟨n, hn⟩ : ∃ n, l.length = n := ⟨_, rfl⟩
  have HN : Hid (l.length = n) := hn
  rw [hn] at hlen
  have HV1 : Hid (∀ W, w = W → Calls Tryz.prog 34 #[.slice a n c] W fun e w' => e = .returned (.int .i64 0) ∧ Below W.heap.size W w') := by
    rintro W rfl
    have := valid2_any H.out.1 H.out.2.1
    rw [HV.out] at this
    rw [← hn]; exact this
  rw [hn]
  clear hn
  go_enter Tryz.func50, Tryz.ntmps50
  go_wp2_with fail
  refine (HV1.out _ rfl).mono ?_
  rintro e w1 ⟨rfl, hb1⟩
  have HB1 : Hid (Below w.heap.size w w1) := hb1
  clear hb1
  go_wp2_with fail
  refine (newDir_any _).mono ?_
  rintro e w2 ⟨g, b, rfl, h1, h2, h3, h4, h5⟩
  have H2 : Hid (ND w2 g (some b) 0 0 0 ∧ MP w2 0 b (fun _ => none) ∧ Below w.heap.size w w2 ∧ w.heap.size ≤ g ∧ w.heap.size ≤ b) := by
    have := HB1.out.size
    exact ⟨h1, h2, bstep HB1.out h3, by omega, by omega⟩
  clear h1 h2 h3 h4 h5
  go_wp2_with fail
  obtain ⟨w3, hw3⟩ : ∃ w3, w2.alloc (.cells #[.pointer (some ⟨g, 0, none⟩)] 112) = w3 := ⟨_, rfl⟩
  obtain ⟨t, ht⟩ : ∃ t, w2.heap.size = t := ⟨_, rfl⟩
  have H3 : Hid (Hp w3 (fun _ => g) (fun _ => b) 0 (fun i => w.heap.size ≤ i ∧ i < w3.heap.size) (st []) (keys (st [])) ∧ TB w3 t g ∧ Below w.heap.size w w3 ∧ w.heap.size ≤ t) := by
    have hb : Below w2.heap.size w2 w3 := by rw [← hw3]; exact balloc _ _
    refine ⟨?_, ⟨by rw [← hw3, ← ht]; exact heap_alloc_new _ _⟩, bstep H2.out.2.2.1 hb, by rw [← ht]; exact H2.out.2.2.1.size⟩
    have k1 := H2.out.1.block (hb.block g H2.out.1.lt)
    have k2 := H2.out.2.1.block (hb.block b H2.out.2.1.lt)
    exact Hp.empty k1 k2 ⟨H2.out.2.2.2.1, k1.lt⟩ ⟨H2.out.2.2.2.2, k2.lt⟩
  rw [hw3, ht]
  clear hw3 ht
  go_loopw [18] (fun i wr => ∃ (k : Nat) (A M : Q → Nat), k ≤ n ∧ i = .int .i64 k ∧ Hp wr A M (20 * k) (fun i => w.heap.size ≤ i ∧ i < wr.heap.size) (st (l.take k).reverse) (keys (st (l.take k).reverse)) ∧ TB wr t (A []) ∧ Below w.heap.size w wr) (fun i _ => n - (intOf i).toNat)
  case atStart => exact ⟨0, _, _, by omega, rfl, H3.out.1, H3.out.2.1, H3.out.2.2.1⟩
  case round =>
    obtain ⟨k, A, M, hk, rfl, hh, ht, hb⟩ := hrel
    have HH : Hid (Hp wr A M (20 * k) (fun i => w.heap.size ≤ i ∧ i < wr.heap.size) (st (l.take k).reverse) (keys (st (l.take k).reverse)) ∧ TB wr t (A []) ∧ Below w.heap.size w wr) := ⟨hh, ht, hb⟩
    clear hh ht hb
    by_cases hlt : k < n
    · have hkl : k < l.length := by have := HN.out; omega
      obtain ⟨b, off, ea, hbw, d0, d1, d2, d3⟩ := FS.at H'.out HH.out.2.2 hkl
      subst ea
      have hgo := H.out.2.2.1.revTake (k + 1)
      have hmem : l[k] ∈ l := List.getElem_mem hkl
      have hfk := H.out.2.1.each _ hmem
      have hse := szs_of (H.out.2.2.1.each _ hmem) hfk
      rw [rev_take_succ hkl] at hgo
      have HS : Hid ((l.take (k + 1)).reverse = l[k] :: (l.take k).reverse ∧ GoodT (l[k] :: (l.take k).reverse) ∧ Fok l[k] ∧ 0 ≤ (l[k]).size ∧ Szs (l[k] :: (l.take k).reverse)) := by
        refine ⟨rev_take_succ hkl, hgo, hfk, hse.2, fun f hf => ?_⟩
        rcases List.mem_cons.1 hf with rfl | hf
        · exact hse.1
        · exact H.out.2.2.2 f (List.mem_of_mem_take (List.mem_reverse.1 hf))
      clear hgo hmem hfk hse
      obtain ⟨f, hf⟩ : ∃ f, l[k] = f := ⟨_, rfl⟩
      rw [hf] at d0 d1 d2 d3 HS
      clear hf
      obtain ⟨p, tx, bl, s⟩ := f
      simp only at d0 d1 d2 d3 HS
      have k1 : (0 : Int) ≤ (k : Int) := by omega
      have k2 : (k : Int) < (n : Int) := by omega
      go_wp2_with fail
      obtain ⟨w4, hw4⟩ : ∃ w4, wr.alloc (.cells #[.string (bs p), .string (bs tx), .int .i64 bl, .int .i64 s] 45) = w4 := ⟨_, rfl⟩
      have H4 : Hid (Hp w4 A M (20 * k) (fun i => w.heap.size ≤ i ∧ i < w4.heap.size) (st (l.take k).reverse) (keys (st (l.take k).reverse)) ∧ TB w4 t (A []) ∧ Below w.heap.size w w4) := by
        have hb : Below wr.heap.size wr w4 := by rw [← hw4]; exact balloc _ _
        exact ⟨(HH.out.1.later hb).wider (fun i hi => ⟨hi.1, Nat.lt_of_lt_of_le hi.2 hb.size⟩) (Nat.le_refl _), HH.out.2.1.later hb, bstep HH.out.2.2 hb⟩
      rw [hw4]
      clear hw4 d0 d1 d2 d3
      refine (put_val HS.out.2.1 HS.out.2.2.2.2 H4.out.1 H4.out.2.1 (fun i hi => hi.2) (by omega) HS.out.2.2.1 HS.out.2.2.2.1).mono ?_
      rintro e w5 ⟨rfl, A', M', hA, hh, hak, hop⟩
      have H5 : Hid (Hp w5 A' M' (20 * (k + 1)) (fun i => w.heap.size ≤ i ∧ i < w5.heap.size) (st (l.take (k + 1)).reverse) (keys (st (l.take (k + 1)).reverse)) ∧ TB w5 t (A' []) ∧ Below w.heap.size w w5) := by
        rw [HS.out.1]
        have hs5 := hop.size
        have hs4 := H4.out.2.2.size
        refine ⟨hh.wider (fun i hi => ?_) (by omega), by rw [hA]; exact H4.out.2.1.ak hak, below_trans H4.out.2.2 (hop.toBelow hs4 (fun i hi => hi.1))⟩
        rcases hi with hi | hi
        · exact ⟨hi.1, by omega⟩
        · exact ⟨by omega, hi.2⟩
      clear hA hh hak hop
      go_wp2_with fail
      go_roundw
      case rel => exact ⟨k + 1, A', M', by omega, by go_num, H5.out.1, H5.out.2.1, H5.out.2.2⟩
      case measure => simp [intOf]; omega
    · obtain rfl : k = n := by omega
      go_wp2_with fail
      go_ret2
      refine ⟨t, rfl, ?_, HH.out.2.2⟩
      have e : l.take k = l := List.take_of_length_le (by have := HN.out; omega)
      have hh := HH.out.1
      rw [e] at hh
      have htr : TR wr (fun i => w.heap.size ≤ i ∧ i < wr.heap.size) t l.reverse 12000 :=
        ⟨H.out.2.2.1.perm (List.reverse_perm l).symm, ⟨A, M, hh.wider (fun _ h => h) (by omega), HH.out.2.1.blk⟩, ⟨H3.out.2.2.2, HH.out.2.1.lt⟩, fun i hi => hi.2⟩
      exact htr.perm (List.reverse_perm l)
end Go.Proofs.YtbaheiimcnfaaaaGreat

namespace Go.Proofs.YtbaheiimcnfaaaaGreat
open Go.RowKit

def addL (L : List Fl) (f : Fl) : List Fl := if addE L f = 0 then f :: L else L
theorem nod_path {L : List Fl} {f : Fl} (h : pathOk f.path = true) : nod L f.path = st L (pp f) := by
  unfold pathOk at h
  simp only [Bool.and_eq_true] at h
  unfold nod
  rw [h.2]; rfl
theorem nod_file {L : List Fl} {f : Fl} (h : pathOk f.path = true) : (fileAt L (pp f)).isSome = true ↔ ∃ s, nod L f.path = some (.file s) := by
  rw [nod_path h]
  unfold st
  constructor
  · intro hs
    obtain ⟨s, e⟩ := Option.isSome_iff_exists.1 hs
    exact ⟨s, by rw [e]⟩
  · rintro ⟨s, e⟩
    cases e2 : fileAt L (pp f) with
    | some x => rfl
    | none =>
      rw [e2] at e
      simp only at e
      split at e <;> cases e
theorem TR.wider {w : World} {F G : Nat → Prop} {t N N' : Nat} {L : List Fl} (h : TR w F t L N) (hF : ∀ i, F i → G i) (hG : ∀ i, G i → i < w.heap.size) (hN : N ≤ N') : TR w G t L N' := by
  obtain ⟨h1, ⟨A, M, h2, h3⟩, h4, h5⟩ := h
  exact ⟨h1, ⟨A, M, h2.wider hF hN, h3⟩, hF _ h4, hG⟩
/-- what a call that writes leaves -/
structure Left (w w' : World) (F : Nat → Prop) (t : Nat) (L : List Fl) (N : Nat) : Prop where
  tr : TR w' (fun i => F i ∨ w.heap.size ≤ i ∧ i < w'.heap.size) t L N
  ak : AK w w'
  op : OnlyP F w w'
theorem Left.same {w w' : World} {F : Nat → Prop} {t N N' : Nat} {L : List Fl} (h : TR w F t L N) (hb : Below w.heap.size w w') (hN : N ≤ N') : Left w w' F t L N' := by
  refine ⟨(h.later hb).wider (fun i hi => .inl hi) (fun i hi => ?_) hN, AK.of_below hb, OnlyP.of_below hb F⟩
  rcases hi with hi | hi
  · exact Nat.lt_of_lt_of_le (h.lt i hi) hb.size
  · exact hi.2

end Go.Proofs.YtbaheiimcnfaaaaGreat

namespace Go.Proofs.YtbaheiimcnfaaaaGreat
open Go.RowKit Go.Maps
attribute [local go_sem] Oper.semAt_some

theorem viw_mErr (l : List Fl) (k : List (List UInt8)) : (viw l k).2 = mErr l k := by
  unfold viw mErr
  by_cases h : validE l = 0
  · simp only [h]
    by_cases h2 : coneE k = 0
    · simp [h2]
    · have : coneE k = 13 := by unfold coneE at h2 ⊢; split at h2 <;> simp_all
      simp [this]
  · simp [h]
theorem mErr_zero {l : List Fl} {k : List (List UInt8)} : mErr l k = 0 ↔ validE l = 0 ∧ coneE k = 0 := by
  unfold mErr
  by_cases h : validE l = 0
  · simp [h]
  · simp [h]
theorem valid_fls {l : List Fl} (h : validE l = 0) (sm : FSm l) : Fls l ∧ (∀ f ∈ l, f.size ≤ 4611686018427387904) ∧ l.length ≤ 512 := by
  have hg := (validE_good.1 h).1
  refine ⟨fun f hf => ?_, fun f hf => ?_, hg.len⟩
  · have h1 := path_of (hg.each f hf)
    exact ⟨h1.2, h1.1, (size_of (hg.each f hf) (sm.each f hf).text).1⟩
  · exact (size_of (hg.each f hf) (sm.each f hf).text).2
theorem view_c {w : World} {v u : Value} {l : List Fl} {k : List (List UInt8)} (h : FS w v l) (sm : FSm l) (hu : SS w u k) (sk : Sm k) :
    Calls Tryz.prog 13 #[v, u] w fun e w' => ∃ v', e = .returned (.tuple #[v', .int .i64 (mErr l k)]) ∧ OwnF w.heap.size w' v' (viw l k).1 ∧ Below w.heap.size w w' := by
  rw [← viw_mErr]
  exact view_any (fun h s => cvalid_any h s) h sm hu sk
set_option maxRecDepth 100000 in
set_option maxHeartbeats 4000000 in
theorem mcost_any {w : World} {v u : Value} {l : List Fl} {k : List (List UInt8)} (h : FS w v l) (sm : FSm l) (hu : SS w u k) (sk : Sm k) :
    Calls Tryz.prog 8 #[v, u] w fun e w' => e = .returned (.tuple #[.int .i64 (mcst l k).1, .int .i64 (mcst l k).2]) ∧ Below w.heap.size w w' := by
  have HV := hid_of (view_c h sm hu sk)
  by_cases he : mErr l k = 0
  · obtain ⟨hv, hk⟩ := mErr_zero.1 he
    obtain ⟨hf, hf2, hlen⟩ := valid_fls hv sm
    have hc : mcst l k = (cst l k, 0) := by unfold mcst; rw [if_pos he]
    have hz : ∀ W v', OwnF w.heap.size W v' (viw l k).1 → Calls Tryz.prog 24 #[v'] W fun e w' => e = .returned (.int .i64 (cst l k)) ∧ Below W.heap.size W w' := fun W v' ho => by
      rw [viw_ok hv hk] at ho
      exact sizes_any ho.fs (fun f hm => ⟨(hf f (List.mem_filter.1 hm).1).2.2, by have := hf2 f (List.mem_filter.1 hm).1; omega⟩) (Nat.le_trans (List.length_filter_le _ _) (by omega))
    have HZ := hid_of hz
    have HC : Hid (mcst l k = (cst l k, 0)) := hc
    rw [he] at HV
    clear h sm hu sk he hv hk hf hf2 hlen hc hz
    go_enter Tryz.func8, Tryz.ntmps8
    go_wp2_with fail
    refine HV.out.mono ?_
    rintro e w1 ⟨v1, rfl, ho, hb⟩
    have H1 := hid_of (And.intro ho hb)
    clear ho hb
    go_wp2_with fail
    refine (HZ.out w1 v1 H1.out.1).mono ?_
    rintro e w2 ⟨rfl, hb2⟩
    have H2 := hid_of (bstep H1.out.2 hb2)
    clear hb2
    go_wp2_with fail
    go_ret2
    exact ⟨by rw [HC.out]; rfl, H2.out⟩
  · have HC : Hid (mcst l k = (0, mErr l k)) := by show _ = _; unfold mcst; rw [if_neg he]
    obtain ⟨m, hm⟩ : ∃ m, mErr l k = m := ⟨_, rfl⟩
    rw [hm] at HV HC he
    clear h sm hu sk hm
    go_enter Tryz.func8, Tryz.ntmps8
    go_wp2_with fail
    refine HV.out.mono ?_
    rintro e w1 ⟨v1, rfl, ho, hb⟩
    have H1 := hid_of hb
    clear ho hb
    go_wp2_with fail
    go_ret2
    exact ⟨by rw [HC.out]; rfl, H1.out⟩
set_option maxRecDepth 100000 in
set_option maxHeartbeats 4000000 in
theorem mat_any {w : World} {u : Value} {k : List (List UInt8)} (p : List UInt8) (h : SS w u k) (sm : Sm k) (hp : p.length ≤ 1000000) : Calls Tryz.prog 15 #[u, .string (bs p)] w (TwoS w (mat k p)) := by
  have HV := hid_of (cvalid_any h sm)
  have HP := hid_of (fun W => valid_any p W (by omega))
  have HCL := hid_of (fun W (hW : Below w.heap.size w W) => sclone_any (h.later hW) sm)
  have HM := hid_of (fun (hk : coneE k = 0) W v (ho : Own w.heap.size W v k) => mergeAt_any ho hk sm p (by omega))
  have HD : Hid (TwoS w (mat k p) = TwoS w (if coneE k = 0 then (if okP p = true then (wid p false k, 0) else ([], 7)) else ([], 13))) := rfl
  obtain ⟨c, hc⟩ : ∃ c, coneE k = c := ⟨_, rfl⟩
  obtain ⟨q, hq⟩ : ∃ q, okP p = q := ⟨_, rfl⟩
  have hc' : c = 0 ∨ c = 13 := by rw [← hc]; unfold coneE; split <;> simp
  rw [hc, hq] at HD
  rw [hc] at HV HM
  rw [hq] at HP
  clear h sm hp hc hq
  rcases hc' with rfl | rfl
  · cases q
    · go_enter Tryz.func15, Tryz.ntmps15
      go_wp2_with fail
      refine HV.out.mono ?_
      rintro e w1 ⟨rfl, hb⟩
      have H1 := hid_of hb
      clear hb
      go_wp2_with fail
      refine (HP.out w1).mono ?_
      rintro e w2 ⟨rfl, hb2⟩
      have H2 := hid_of (bstep H1.out hb2)
      clear hb2
      go_wp2_with fail
      go_ret2
      rw [HD.out]
      exact ⟨_, rfl, Own.nil _ _, H2.out⟩
    · go_enter Tryz.func15, Tryz.ntmps15
      go_wp2_with fail
      refine HV.out.mono ?_
      rintro e w1 ⟨rfl, hb⟩
      have H1 := hid_of hb
      clear hb
      go_wp2_with fail
      refine (HP.out w1).mono ?_
      rintro e w2 ⟨rfl, hb2⟩
      have H2 := hid_of (bstep H1.out hb2)
      clear hb2
      go_wp2_with fail
      refine (HCL.out w2 H2.out).mono ?_
      rintro e w3 ⟨v3, rfl, ho3, hb3⟩
      have H3 := hid_of (And.intro ho3 (bstep H2.out hb3))
      have H2s := hid_of H2.out.size
      clear ho3 hb3
      go_wp2_with fail
      refine (HM.out trivial w3 v3 (H3.out.1.mono H2s.out)).mono ?_
      rintro e w4 ⟨v4, rfl, ho4, hon, -⟩
      have H4 := hid_of (And.intro ho4 hon)
      clear ho4 hon
      go_wp2_with fail
      go_ret2
      rw [HD.out]
      refine ⟨_, rfl, H4.out.1, ?_⟩
      refine below_trans H3.out.2 (Only.below H4.out.2 H3.out.2.size fun x hx => ?_)
      have := (H3.out.1.lt (k := x) (by simpa [eq_comm] using hx)).1
      have := H2s.out
      omega
  · go_enter Tryz.func15, Tryz.ntmps15
    go_wp2_with fail
    refine HV.out.mono ?_
    rintro e w1 ⟨rfl, hb⟩
    have H1 := hid_of hb
    clear hb
    go_wp2_with fail
    go_ret2
    rw [HD.out]
    exact ⟨_, rfl, Own.nil _ _, H1.out⟩
end Go.Proofs.YtbaheiimcnfaaaaGreat
