/-
  'spoiled'
  Several answers: their lists lie apart; 'marked' and 'spoiled' of them.
-/
import Derived.Test.YtemoplpfndnklaaGreatDoorJMsuD
import Derived.Test.YtemoplpfndnklaaGreatDoorMrwA
import Derived.Test.YtemoplpfndnklaaGreatDoorJMstB
import Derived.Test.YtemoplpfndnklaaGreatDoorJMsuB
import Derived.Test.YtemoplpfndnklaaGreatDoorJBkA
namespace Go.Proofs.YtemoplpfndnklaaGreatDoor
open Go.RowKit

set_option maxHeartbeats 4000000 in
set_option maxRecDepth 100000 in
theorem spoiled_any {w : World} {B N ga ca : Nat} {F : Nat → Knd} {V : Nat → Value} {n : Nat → Nat} {D0 D : Nat → Nat → Prop} {C : Nat → List Value} (SS : Hid (Stg kG w N 0 N ga F V n D0)) (H : Hid (QN B w w N F V n C D0 D)) :
    Calls Tryz.prog 18 #[.slice (some ⟨ga, 0, none⟩) N ca] w (GoodM B w D0) := by
  have L1 := SS.out.L1
  have hOL : 0 + N ≤ N := SS.out.hO
  have H : Hid (QN B w w N F V n C D0 D ∧ ∀ i, i < 0 → C i = rep (n i) (F i).c) := ⟨H.out, fun i hi => by omega⟩
  go_enter Tryz.func18, Tryz.ntmps18
  refine wp_seq_k fun K hK => ?_
  have HK : Hid _ := hK
  clear hK
  go_wp2_with fail
  refine HK.out _ _ ?_
  clear HK
  refine wp_seq_k fun K hK => ?_
  have HK : Hid _ := hK
  clear hK
  go_wp2_with fail
  go_loopw [3] (fun i wr => ∃ k : Nat, k ≤ N ∧ i = .int .i64 k ∧ ∃ C, QN B w wr N F V n C D0 D ∧ ∀ i, i < 0 + k → C i = rep (n i) (F i).c) (fun i _ => N - (intOf i).toNat)
  case atStart => exact ⟨0, by omega, rfl, C, H.out.1, H.out.2⟩
  case round =>
    clear H
    obtain ⟨k, hk, rfl, C, hQ, hd⟩ := hrel
    obtain ⟨wo, hwo⟩ : ∃ wo, wo = wr := ⟨_, rfl⟩
    subst hwo
    have QW : Hid (QN B w wo N F V n C D0 D) := hQ
    have HD : Hid (∀ i, i < 0 + k → C i = rep (n i) (F i).c) := hd
    clear hQ hd
    by_cases hlt : k < N
    · have hk6 : k < 600 := by omega
      have hOk : 0 + k < N := by omega
      have hln := SS.out.nn (0 + k)
      obtain ⟨nk, hnk⟩ : ∃ x, n (0 + k) = x := ⟨_, rfl⟩
      rw [hnk] at hln
      have HNK : Hid (n (0 + k) = nk) := hnk
      clear hnk
      have i0 : (0 : Int) ≤ (k : Int) := by omega
      have i1 : (k : Int) < (N : Int) := by omega
      go_wp2_with fail
      go_loopw [4] (fun i wr => ∃ m : Nat, m ≤ nk ∧ i = .int .i64 m ∧ ∃ C, QN B w wr N F V n C D0 D ∧ (∀ i, i < 0 + k → C i = rep (n i) (F i).c) ∧ ∀ y, y < m * 4 → (C (0 + k))[y]? = (kG k).c[y % 4]?) (fun i _ => nk - (intOf i).toNat)
      case atStart => exact ⟨0, by omega, rfl, C, QW.out, HD.out, fun y hy => by omega⟩
      case round =>
        clear QW HD
        obtain ⟨m, hm, rfl, C2, hQ, hd, hj⟩ := hrel
        have Q1 : Hid (QN B w wr N F V n C2 D0 D) := hQ
        have HD2 : Hid (∀ i, i < 0 + k → C2 i = rep (n i) (F i).c) := hd
        have HJ2 : Hid (∀ y, y < m * 4 → (C2 (0 + k))[y]? = (kG k).c[y % 4]?) := hj
        have c3 := hQ.cell (SS.out.cells k hlt) SS.out.nt
        have hg3 : ga < wr.heap.size := Nat.lt_of_lt_of_le (World.block_lt_of_cell? w ⟨ga, k, none⟩ (SS.out.cells k hlt)) hQ.size
        have o3 := hQ.own (0 + k) hOk
        rw [HNK.out, SS.out.fk k hlt] at o3
        have HLN : Hid ((C2 (0 + k)).length = nk * 4) := o3.1
        clear hQ hd hj
        by_cases hlt2 : m < nk
        · obtain ⟨g2, q2, e2, _, _, hg4⟩ := row_place o3 (by omega)
          have HV : Hid (V (0 + k) = .slice (some ⟨g2, 0, none⟩) nk q2) := e2
          rw [e2] at c3 o3
          have o3 : wr.ownsRow B 37 4 (.slice (some ⟨g2, 0, none⟩) nk q2) nk (C2 (0 + k)) := o3
          obtain ⟨⟨u0, ct0⟩, cf0⟩ := row_any o3 m 0 hlt2 (by decide)
          obtain ⟨⟨u1, ct1⟩, cf1⟩ := row_any o3 m 1 hlt2 (by decide)
          obtain ⟨⟨u2, ct2⟩, cf2⟩ := row_any o3 m 2 hlt2 (by decide)
          obtain ⟨⟨u3, ct3⟩, cf3⟩ := row_any o3 m 3 hlt2 (by decide)
          have ct0 : wr.cell? ⟨g2, m * 4, none⟩ = some u0 := by simpa using ct0
          have cf0 : wr.frozen? ⟨g2, m * 4, none⟩ = false := by simpa using cf0
          have ct1 : wr.cell? ⟨g2, m * 4 + 1, none⟩ = some u1 := by simpa using ct1
          have cf1 : wr.frozen? ⟨g2, m * 4 + 1, none⟩ = false := by simpa using cf1
          have ct2 : wr.cell? ⟨g2, m * 4 + 2, none⟩ = some u2 := by simpa using ct2
          have cf2 : wr.frozen? ⟨g2, m * 4 + 2, none⟩ = false := by simpa using cf2
          have ct3 : wr.cell? ⟨g2, m * 4 + 3, none⟩ = some u3 := by simpa using ct3
          have cf3 : wr.frozen? ⟨g2, m * 4 + 3, none⟩ = false := by simpa using cf3
          clear o3 e2
          have m0 : (0 : Int) ≤ (m : Int) := by omega
          have m1 : (m : Int) < (nk : Int) := by omega
          go_wp2_with fail
          refine r7G hk6 hlt hlt2 hg3 hg4 c3 ct0 cf0 ct1 cf1 ct2 cf2 ct3 cf3 _ ?_
          intro s25 s26 s27 s28 s29 s30 s31 s32 s33 w2 hb8
          have Q8 := (Q1.out.later hb8).put hOk (by rw [HV.out, HNK.out]) (m * 4) (kG k).c
          have I1 : Hid (∃ C, QN B w ((((w2.setCell ⟨g2, m * 4, none⟩ (.string (bs (mkS k)))).setCell ⟨g2, m * 4 + 1, none⟩ (.slice none 0 0)).setCell ⟨g2, m * 4 + 2, none⟩ (.slice none 0 0)).setCell ⟨g2, m * 4 + 3, none⟩ (.slice none 0 0)) N F V n C D0 D ∧ (∀ i, i < 0 + k → C i = rep (n i) (F i).c) ∧ ∀ y, y < (m + 1) * 4 → (C (0 + k))[y]? = (kG k).c[y % 4]?) := by
            have Q9 : QN B w ((((w2.setCell ⟨g2, m * 4, none⟩ (.string (bs (mkS k)))).setCell ⟨g2, m * 4 + 1, none⟩ (.slice none 0 0)).setCell ⟨g2, m * 4 + 2, none⟩ (.slice none 0 0)).setCell ⟨g2, m * 4 + 3, none⟩ (.slice none 0 0)) N F V n (fun i => if i = 0 + k then setC (C2 (0 + k)) (m * 4) (kG k).c else C2 i) D0 D := by
              have h := Q8
              first | exact h | (simp only [Nat.mul_one] at h ⊢; exact h)
            refine ⟨_, Q9, fun i hi => ?_, ?_⟩
            · rw [if_neg (by omega)]; exact HD2.out i hi
            · simp only [if_true]
              exact mk_step rfl HLN.out hlt2 HJ2.out
          clear Q8 hb8 ct0 cf0 ct1 cf1 ct2 cf2 ct3 cf3 c3
          go_wp2_with fail
          go_roundw
          case rel => exact ⟨m + 1, by omega, by go_num, I1.out⟩
          case measure => simp [intOf]; omega
        · obtain rfl : m = nk := by omega
          obtain ⟨a2, q2, e2⟩ := row_form o3
          rw [e2] at c3
          have I1 : Hid (∃ C, QN B w wr N F V n C D0 D ∧ ∀ i, i < 0 + (k + 1) → C i = rep (n i) (F i).c) := ⟨C2, Q1.out, fun i hi => by
            by_cases e : i = 0 + k
            · subst e; rw [HNK.out, SS.out.fk k hlt]; exact mk_all rfl HLN.out HJ2.out
            · exact HD2.out i (by omega)⟩
          clear o3 e2
          go_wp2_with fail
          go_roundw
          case rel => exact ⟨k + 1, by omega, by go_num, I1.out⟩
          case measure => simp [intOf]; omega
    · obtain rfl : N = k := by omega
      go_wp2_with fail
      refine HK.out _ _ ?_
      have HD3 := HD.out
      simp only [Nat.zero_add] at HD3
      exact s8 SS ⟨QW.out, HD3⟩

end Go.Proofs.YtemoplpfndnklaaGreatDoor

namespace Go.Proofs.YtemoplpfndnklaaGreatDoor
open Go.RowKit

theorem tri {α : Type} (p s d p' s' d' : List α) : ((p ++ s ++ d) ++ (p' ++ s' ++ d')).Perm ((p ++ p') ++ (s ++ s') ++ (d ++ d')) := by
  simp only [List.append_assoc]
  refine List.Perm.append_left p ?_
  have h1 : (s ++ (d ++ (p' ++ (s' ++ d')))).Perm (p' ++ (s ++ (d ++ (s' ++ d')))) := by
    have := List.perm_append_comm_assoc (s ++ d) p' (s' ++ d')
    simpa only [List.append_assoc] using this
  refine h1.trans (List.Perm.append_left p' (List.Perm.append_left s ?_))
  exact List.perm_append_comm_assoc d s' d'
/-- targets' lists, the lists of texts and the lists of labels: each in memory of its own, between lo and hi -/
structure Grp (w : World) (lo hi : Nat) (P S D : List Value) : Prop where
  pw : (P ++ S ++ D).Pairwise Ap
  rg : ∀ u ∈ P ++ S ++ D, ∀ k, u.ownBlock = some k → lo ≤ k ∧ k < hi
  oS : ∀ u ∈ S, ∃ n c, n ≤ 1000000 ∧ w.ownsRow lo 9 1 u n c
  oD : ∀ u ∈ D, ∃ n c, n ≤ 1000000 ∧ w.ownsRow lo 58 2 u n c
  oP : ∀ u ∈ P, ∃ n c, n ≤ 1000000 ∧ w.ownsRow lo 37 4 u n c
theorem Grp.later {w w' : World} {lo hi : Nat} {P S D : List Value} (h : Grp w lo hi P S D) (hb : Below w.heap.size w w') : Grp w' lo hi P S D :=
  ⟨h.pw, h.rg, fun u hu => by obtain ⟨n, c, h1, h2⟩ := h.oS u hu; exact ⟨n, c, h1, row_later h2 hb⟩, fun u hu => by obtain ⟨n, c, h1, h2⟩ := h.oD u hu; exact ⟨n, c, h1, row_later h2 hb⟩, fun u hu => by obtain ⟨n, c, h1, h2⟩ := h.oP u hu; exact ⟨n, c, h1, row_later h2 hb⟩⟩
theorem Grp.join {w : World} {lo mid hi : Nat} {P S D P' S' D' : List Value} (a : Grp w lo mid P S D) (b : Grp w mid hi P' S' D') (h1 : lo ≤ mid) (h2 : mid ≤ hi) : Grp w lo hi (P ++ P') (S ++ S') (D ++ D') := by
  have hp := tri P S D P' S' D'
  refine ⟨(List.Perm.pairwise_iff (fun h => Ap.symm h) hp).1 (List.pairwise_append.2 ⟨a.pw, b.pw, fun x hx y hy k hk e => ?_⟩), fun u hu k hk => ?_, fun u hu => ?_, fun u hu => ?_, fun u hu => ?_⟩
  · have := (a.rg x hx k hk).2
    have := (b.rg y hy k e).1
    omega
  · have hu2 := hp.mem_iff.2 hu
    rcases List.mem_append.1 hu2 with h | h
    · have := a.rg u h k hk; omega
    · have := b.rg u h k hk; omega
  · rcases List.mem_append.1 hu with h | h
    · exact a.oS u h
    · obtain ⟨n, c, k1, k2⟩ := b.oS u h; exact ⟨n, c, k1, k2.mono h1⟩
  · rcases List.mem_append.1 hu with h | h
    · exact a.oD u h
    · obtain ⟨n, c, k1, k2⟩ := b.oD u h; exact ⟨n, c, k1, k2.mono h1⟩
  · rcases List.mem_append.1 hu with h | h
    · exact a.oP u h
    · obtain ⟨n, c, k1, k2⟩ := b.oP u h; exact ⟨n, c, k1, k2.mono h1⟩
theorem vals_perm : ∀ (a : List Tv), (a.flatMap Tv.vals).Perm (sL a ++ dL a)
  | [] => List.Perm.refl _
  | t :: r => by
    have ih := vals_perm r
    have e1 : (t :: r).flatMap Tv.vals = t.s :: t.d :: t.e :: r.flatMap Tv.vals := by simp [Tv.vals]
    have e2 : sL (t :: r) ++ dL (t :: r) = t.s :: t.e :: (sL r ++ (t.d :: dL r)) := by simp [sL, dL]
    rw [e1, e2]
    refine List.Perm.cons _ ?_
    refine (List.Perm.swap t.e t.d _).trans (List.Perm.cons _ ?_)
    refine (List.Perm.cons _ ih).trans ?_
    exact List.perm_append_comm_assoc [t.d] (sL r) (dL r)
theorem TsOwn.mem {base : Nat} {w : World} : ∀ {a : List Tv} {b : List Tg}, TsOwn base w a b → ∀ t ∈ a, ∃ x ∈ b, TOwn base w t x
  | [], [], _, t, ht => by simp at ht
  | y :: r, z :: q, h, t, ht => by
    rcases List.mem_cons.1 ht with rfl | ht
    · exact ⟨z, by simp, h.1⟩
    · obtain ⟨x, hx, h2⟩ := TsOwn.mem h.2 t ht
      exact ⟨x, by simp [hx], h2⟩
theorem grp_of {base : Nat} {w : World} {v : Value} {l : List Tg} {a : List Tv} (h1 : OwnG base w v a) (h2 : TsOwn base w a l) (h3 : Aps v a) (hl : l.length ≤ 64) (h64 : ∀ t ∈ l, T64 t) : Grp w base w.heap.size [v] (sL a) (dL a) := by
  have hlen := h2.len
  have hp : ([v] ++ sL a ++ dL a).Perm (v :: a.flatMap Tv.vals) := by
    rw [List.append_assoc]; exact List.Perm.cons _ (vals_perm a).symm
  refine ⟨(List.Perm.pairwise_iff (fun h => Ap.symm h) hp).2 h3, fun u hu k hk => ?_, fun u hu => ?_, fun u hu => ?_, fun u hu => ?_⟩
  · rcases List.mem_cons.1 (hp.mem_iff.1 hu) with rfl | h
    · exact h1.lt hk
    · obtain ⟨t, ht, hu2⟩ := mem_vals h
      exact h2.lt t ht u hu2 k hk
  · obtain ⟨t, ht, hu2⟩ := List.mem_flatMap.1 hu
    obtain ⟨x, hx, ho⟩ := h2.mem t ht
    have h6 := h64 x hx
    simp only [List.mem_cons, List.mem_nil_iff, or_false] at hu2
    rcases hu2 with rfl | rfl
    · exact ⟨_, _, by have := h6.1; omega, ho.s⟩
    · exact ⟨_, _, by have := h6.e; omega, ho.e⟩
  · obtain ⟨t, ht, rfl⟩ := List.mem_map.1 hu
    obtain ⟨x, hx, ho⟩ := h2.mem t ht
    have h6 := h64 x hx
    exact ⟨_, _, by have := h6.d; omega, ho.d⟩
  · simp only [List.mem_singleton] at hu
    subst hu
    exact ⟨_, _, by omega, h1⟩
/-- a slice's length -/
def vn : Value → Nat
  | .slice _ n _ => n
  | _ => 0
theorem row_vn {base e sz n : Nat} {w : World} {v : Value} {l : List Value} (h : w.ownsRow base e sz v n l) : vn v = n := by
  obtain ⟨a, c, rfl⟩ := row_form h; rfl
theorem ap_inj {l : List Value} (h : l.Pairwise Ap) {i j g : Nat} {u v : Value} (hi : l[i]? = some u) (hj : l[j]? = some v) (h1 : u.ownBlock = some g) (h2 : v.ownBlock = some g) : i = j := by
  obtain ⟨hil, rfl⟩ := List.getElem?_eq_some_iff.1 hi
  obtain ⟨hjl, rfl⟩ := List.getElem?_eq_some_iff.1 hj
  rcases Nat.lt_trichotomy i j with hlt | he | hlt
  · exact absurd h2 ((List.pairwise_iff_getElem.1 h i j hil hjl hlt) g h1)
  · exact he
  · exact absurd h1 ((List.pairwise_iff_getElem.1 h j i hjl hil hlt) g h2)
set_option maxHeartbeats 4000000 in
set_option maxRecDepth 100000 in
theorem marked_none {w : World} {x y : Option Addr} {cx cy : Nat} : Calls Tryz.prog 15 #[.slice x 0 cx, .slice y 0 cy] w fun e w' => e = .returned (.bool true) ∧ Below w.heap.size w w' := by
  have hN : ∀ u : World, (Instr.makeSlice 44 (.int .i64 0) (.int .i64 0)).run Tryz.prog u = .ok (.slice (some ⟨u.heap.size, 0, none⟩) 0 0) (u.alloc (.cells (madeCells #[.slice none 0 0] 0) 33)) := fun u => run_make_row' 44 33 _ _ und44 info33 rfl .i64 .i64 0 (by omega) (by omega) u
  have hM : ∀ u : World, (Instr.makeSlice 46 (.int .i64 0) (.int .i64 0)).run Tryz.prog u = .ok (.slice (some ⟨u.heap.size, 0, none⟩) 0 0) (u.alloc (.cells (madeCells #[.slice none 0 0] 0) 35)) := fun u => run_make_row' 46 35 _ _ und46 info35 rfl .i64 .i64 0 (by omega) (by omega) u
  go_enter Tryz.func15, Tryz.ntmps15
  go_wp2_with fail
  go_loop [5] (fun i => i = .int .i64 0) (fun _ => 0)
  case atStart => rfl
  case round =>
  subst hrel
  go_wp2_with fail
  go_loop [7] (fun i => i = .int .i64 0) (fun _ => 0)
  case atStart => rfl
  case round =>
  subst hrel
  go_wp2_with fail
  go_loop [11] (fun i => i = .int .i64 0) (fun _ => 0)
  case atStart => rfl
  case round =>
  subst hrel
  go_wp2_with fail
  go_loop [13] (fun i => i = .int .i64 0) (fun _ => 0)
  case atStart => rfl
  case round =>
  subst hrel
  go_wp2_with fail
  go_loop [15] (fun i => i = .int .i64 0) (fun _ => 0)
  case atStart => rfl
  case round =>
  subst hrel
  go_wp2_with fail
  go_loop [17] (fun i => i = .int .i64 0) (fun _ => 0)
  case atStart => rfl
  case round =>
  subst hrel
  go_wp2_with fail
  go_ret
  exact ⟨rfl, bstep (balloc _ _) (balloc _ _)⟩
theorem marked_grp {w : World} {lo hi bt : Nat} {P S D : List Value} {u1 u2 : Value} (g : Grp w lo hi P S D) (hlo : lo ≤ w.heap.size) (hN : S.length ≤ 550) (hM : D.length ≤ 550) (h1 : w.ownsRow bt 33 1 u1 S.length S) (h2 : w.ownsRow bt 35 1 u2 D.length D) (hbt : hi ≤ bt) (hsd : S = [] ↔ D = []) :
    Calls Tryz.prog 15 #[u1, u2] w fun e w' => e = .returned (.bool true) ∧ Below lo w w' ∧ ∀ x, x < w.heap.size → (∀ u ∈ S ++ D, u.ownBlock ≠ some x) → w'.heap[x]? = w.heap[x]? := by
  by_cases h0 : S = []
  · have h0' := hsd.1 h0
    subst h0 h0'
    obtain ⟨a1, c1, rfl⟩ := row_form h1
    obtain ⟨a2, c2, rfl⟩ := row_form h2
    refine marked_none.mono ?_
    rintro e w' ⟨rfl, hb⟩
    exact ⟨rfl, below_mono hb hlo, fun x hx _ => hb.block x hx⟩
  have hD0 : D ≠ [] := fun e => h0 (hsd.2 e)
  have nS : 0 < S.length := List.length_pos_iff.2 h0
  have nD : 0 < D.length := List.length_pos_iff.2 hD0
  obtain ⟨ga, ca, rfl, _, hga, _⟩ := row_place h1 nS
  obtain ⟨gb, cb, rfl, _, hgb, _⟩ := row_place h2 nD
  have hpw : (S ++ D).Pairwise Ap := by
    have := g.pw
    rw [List.append_assoc] at this
    exact (List.pairwise_append.1 this).2.1
  have hrg : ∀ u ∈ S ++ D, ∀ k, u.ownBlock = some k → lo ≤ k ∧ k < hi := fun u hu => g.rg u (by rw [List.append_assoc]; exact List.mem_append_right _ hu)
  obtain ⟨V, hV⟩ : ∃ V : Nat → Value, V = fun i => (S ++ D)[i]?.getD (.slice none 0 0) := ⟨_, rfl⟩
  have hVi : ∀ i, i < S.length + D.length → (S ++ D)[i]? = some (V i) := fun i hi => by
    have hl : i < (S ++ D).length := by rw [List.length_append]; exact hi
    rw [hV]
    show _ = some ((S ++ D)[i]?.getD _)
    rw [List.getElem?_eq_getElem hl]; rfl
  have hVm : ∀ i, i < S.length + D.length → V i ∈ S ++ D := fun i hi => List.mem_of_getElem? (hVi i hi)
  have hVS : ∀ k, k < S.length → S[k]? = some (V (0 + k)) := fun k hk => by
    rw [Nat.zero_add, ← hVi k (by omega), List.getElem?_append_left hk]
  have hVD : ∀ k, k < D.length → D[k]? = some (V (S.length + k)) := fun k hk => by
    rw [← hVi (S.length + k) (by omega), List.getElem?_append_right (by omega), Nat.add_sub_cancel_left]
  have hex : ∀ i, ∃ c, i < S.length + D.length → vn (V i) ≤ 1000000 ∧ w.ownsRow lo (Fm S.length i).e (Fm S.length i).sz (V i) (vn (V i)) c := fun i => by
    by_cases hi : i < S.length + D.length
    · by_cases hs : i < S.length
      · have hm : V i ∈ S := List.mem_of_getElem? (by have := hVS i hs; rw [Nat.zero_add] at this; exact this)
        obtain ⟨n, c, k1, k2⟩ := g.oS _ hm
        refine ⟨c, fun _ => ?_⟩
        rw [row_vn k2]
        unfold Fm
        rw [if_pos hs]
        exact ⟨k1, k2⟩
      · have hm : V i ∈ D := List.mem_of_getElem? (by have := hVD (i - S.length) (by omega); rw [show S.length + (i - S.length) = i by omega] at this; exact this)
        obtain ⟨n, c, k1, k2⟩ := g.oD _ hm
        refine ⟨c, fun _ => ?_⟩
        rw [row_vn k2]
        unfold Fm
        rw [if_neg hs]
        exact ⟨k1, k2⟩
    · exact ⟨[], fun h => absurd h hi⟩
  obtain ⟨C, hC⟩ := Classical.axiomOfChoice hex
  have hnn : ∀ i, vn (V i) ≤ 1000000 := fun i => by
    by_cases hi : i < S.length + D.length
    · exact (hC i hi).1
    · have : V i = .slice none 0 0 := by rw [hV]; show (S ++ D)[i]?.getD _ = _; rw [List.getElem?_eq_none (by rw [List.length_append]; omega)]; rfl
      rw [this]; exact Nat.zero_le _
  have ncell : ∀ {e : TypeId} {u : Nat} {c : Nat} {L : List Value}, w.ownsRow bt e 1 (.slice (some ⟨u, 0, none⟩) L.length c) L.length L → ∀ k v, L[k]? = some v → w.cell? ⟨u, k, none⟩ = some v := fun h k v hk => by
    have hkl := (List.getElem?_eq_some_iff.1 hk).1
    rw [h.cellAt k (by omega)]; exact hk
  have dq : ∀ {x : Nat}, bt ≤ x → ∀ i, ¬ (i < S.length + D.length ∧ (V i).ownBlock = some x) := fun hx i ⟨a, b⟩ => by have := (hrg _ (hVm i a) _ b).2; omega
  have SSt : Stg kS w (S.length + D.length) 0 S.length ga (Fm S.length) V (fun i => vn (V i)) (fun i x => i < S.length + D.length ∧ (V i).ownBlock = some x) :=
    ⟨by omega, hN, fun k hk => ncell h1 k _ (hVS k hk), dq hga, hnn, fun k hk => by unfold Fm; rw [if_pos (by omega), Nat.zero_add]⟩
  have SLt : Stg kL w (S.length + D.length) S.length D.length gb (Fm S.length) V (fun i => vn (V i)) (fun i x => i < S.length + D.length ∧ (V i).ownBlock = some x) :=
    ⟨Nat.le_refl _, hM, fun k hk => ncell h2 k _ (hVD k hk), dq hgb, hnn, fun k hk => by unfold Fm; rw [if_neg (by omega), Nat.add_sub_cancel_left]⟩
  have Q : QN lo w w (S.length + D.length) (Fm S.length) V (fun i => vn (V i)) C (fun i x => i < S.length + D.length ∧ (V i).ownBlock = some x) (fun i x => i < S.length + D.length ∧ (V i).ownBlock = some x) :=
    ⟨fun i hi => (hC i hi).2, fun i hi x hx => ⟨hi, hx⟩, fun i j x a b => ap_inj hpw (hVi i a.1) (hVi j b.1) a.2 b.2, fun i x a => (hC i a.1).2.lt x a.2, fun i x a _ => a, hlo, Below.refl _ _, fun _ _ _ => rfl⟩
  refine (marked_any (SS := SSt) (SL := SLt) (H := Q)).mono ?_
  rintro e w' ⟨rfl, hb, hk⟩
  exact ⟨rfl, hb, fun x hx hn => hk x hx fun i ⟨a, b⟩ => hn _ (hVm i a) b⟩
theorem spoiled_grp {w : World} {lo hi ga ca : Nat} {P S D : List Value} (g : Grp w lo hi P S D) (hlo : lo ≤ w.heap.size) (hN : P.length ≤ 550) (hc : ∀ k v, P[k]? = some v → w.cell? ⟨ga, k, none⟩ = some v) (hga : hi ≤ ga) :
    Calls Tryz.prog 18 #[.slice (some ⟨ga, 0, none⟩) P.length ca] w fun e w' => e = .returned (.bool true) ∧ Below lo w w' ∧ ∀ x, x < w.heap.size → (∀ u ∈ P, u.ownBlock ≠ some x) → w'.heap[x]? = w.heap[x]? := by
  have hpw : P.Pairwise Ap := (List.pairwise_append.1 (List.pairwise_append.1 g.pw).1).1
  have hrg : ∀ u ∈ P, ∀ k, u.ownBlock = some k → lo ≤ k ∧ k < hi := fun u hu => g.rg u (List.mem_append_left _ (List.mem_append_left _ hu))
  obtain ⟨V, hV⟩ : ∃ V : Nat → Value, V = fun i => P[i]?.getD (.slice none 0 0) := ⟨_, rfl⟩
  have hVi : ∀ i, i < P.length → P[i]? = some (V i) := fun i hi => by
    rw [hV]
    show _ = some (P[i]?.getD _)
    rw [List.getElem?_eq_getElem hi]; rfl
  have hVm : ∀ i, i < P.length → V i ∈ P := fun i hi => List.mem_of_getElem? (hVi i hi)
  have hex : ∀ i, ∃ c, i < P.length → vn (V i) ≤ 1000000 ∧ w.ownsRow lo (kG i).e (kG i).sz (V i) (vn (V i)) c := fun i => by
    by_cases hi : i < P.length
    · obtain ⟨n, c, k1, k2⟩ := g.oP _ (hVm i hi)
      refine ⟨c, fun _ => ?_⟩
      rw [row_vn k2]
      exact ⟨k1, k2⟩
    · exact ⟨[], fun h => absurd h hi⟩
  obtain ⟨C, hC⟩ := Classical.axiomOfChoice hex
  have hnn : ∀ i, vn (V i) ≤ 1000000 := fun i => by
    by_cases hi : i < P.length
    · exact (hC i hi).1
    · have : V i = .slice none 0 0 := by rw [hV]; show P[i]?.getD _ = _; rw [List.getElem?_eq_none (by omega)]; rfl
      rw [this]; exact Nat.zero_le _
  have SSt : Stg kG w P.length 0 P.length ga kG V (fun i => vn (V i)) (fun i x => i < P.length ∧ (V i).ownBlock = some x) :=
    ⟨by omega, hN, fun k hk => hc k _ (by rw [Nat.zero_add]; exact hVi k hk), fun i ⟨a, b⟩ => by have := (hrg _ (hVm i a) _ b).2; omega, hnn, fun k hk => by rw [Nat.zero_add]⟩
  have Q : QN lo w w P.length kG V (fun i => vn (V i)) C (fun i x => i < P.length ∧ (V i).ownBlock = some x) (fun i x => i < P.length ∧ (V i).ownBlock = some x) :=
    ⟨fun i hi => (hC i hi).2, fun i hi x hx => ⟨hi, hx⟩, fun i j x a b => ap_inj hpw (hVi i a.1) (hVi j b.1) a.2 b.2, fun i x a => (hC i a.1).2.lt x a.2, fun i x a _ => a, hlo, Below.refl _ _, fun _ _ _ => rfl⟩
  refine (spoiled_any (SS := SSt) (H := Q)).mono ?_
  rintro e w' ⟨rfl, hb, hk⟩
  exact ⟨rfl, hb, fun x hx hn => hk x hx fun i ⟨a, b⟩ => hn _ (hVm i a) b⟩
end Go.Proofs.YtemoplpfndnklaaGreatDoor
