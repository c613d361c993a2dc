/-
  The document's tree: a file is looked for, a directory; Clear, Append, Halts.
  The law TreeFresh: what was answered is written over and lengthened.
  The law TreeFresh: the lists that were told are apart.
-/
import Derived.Test.YtlkkmcibjhoneaaGreatDoorDa
import Derived.Test.YtlkkmcibjhoneaaGreatDoorJGa
import Derived.OrdersHeld
import Derived.Deep.Cut
namespace Go.Proofs.YtlkkmcibjhoneaaGreatDoor
open Go.RowKit

/-- where a file is found -/
def FP (l : List Fl) (p : List UInt8) (r : Int) : Prop := (r = -1 ∧ hasF l p = false) ∨ ∃ k, ∃ h : k < l.length, r = (k : Int) ∧ (l[k]'h).path = p
theorem FP.has {l : List Fl} {p : List UInt8} {r : Int} (h : FP l p r) : decide (0 ≤ r) = hasF l p := by
  rcases h with ⟨rfl, h⟩ | ⟨k, hk, rfl, h⟩
  · rw [h]; rfl
  · rw [hasF_iff.2 ⟨_, List.getElem_mem hk, h⟩]
    simp
set_option maxRecDepth 100000 in
set_option maxHeartbeats 4000000 in
theorem rfile_any {w : World} {F : Nat → Prop} {c : Nat} {T : TT} (h : RT w F c T) (hz : TSz 4000000 T) (p : List UInt8) :
    Calls Tryz.prog 98 #[.pointer (some ⟨c, 0, none⟩), .string (bs p)] w fun e w' => ∃ r, e = .returned (.int .i64 r) ∧ w' = w ∧ FP T.fs p r := by
  obtain ⟨vf, vd, vj, vt, h1, h2, h3, h4, h5⟩ := h
  have c0 := h1.cell.1
  have H4 : Hid (FS w vf T.fs) := h4.f.1.fs
  obtain ⟨a, cp, rfl, -⟩ := H4.out.form
  obtain ⟨l, hl⟩ : ∃ l, T.fs = l := ⟨_, rfl⟩
  have hn := hz.nf
  rw [hl] at H4 c0 hn ⊢
  obtain ⟨N, hN⟩ : ∃ N, l.length = N := ⟨_, rfl⟩
  have H4' : Hid (FS w (.slice a l.length cp) l) := H4.out
  rw [hN] at c0 hn
  have HN : Hid (l.length = N) := hN
  clear h1 h2 h3 h4 h5 H4 hl hN hz
  have t1 : (bs p).toList = p := bs_toList _
  go_enter Tryz.func98, Tryz.ntmps98
  go_wp2_with fail
  go_loop [5] (fun i => ∃ k : Nat, k ≤ N ∧ i = .int .i64 k ∧ ∀ j, (hj : j < l.length) → j < k → (l[j]'hj).path ≠ p) (fun i => N - (intOf i).toNat)
  case atStart => exact ⟨0, Nat.zero_le _, rfl, fun j _ hj => absurd hj (Nat.not_lt_zero _)⟩
  case round =>
    obtain ⟨k, hk, rfl, hno⟩ := hrel
    have HNO : Hid (∀ j, (hj : j < l.length) → j < k → (l[j]'hj).path ≠ p) := hno
    clear hno
    by_cases hlt : k < N
    · have hlt2 : k < l.length := by have := HN.out; omega
      obtain ⟨b, off, ea, hbw, d0, d1, d2, d3⟩ := FS.at H4'.out (Below.refl _ _) hlt2
      subst ea
      obtain ⟨q, hq⟩ : ∃ q, (l[k]'hlt2).path = q := ⟨_, rfl⟩
      rw [hq] at d0
      have HQ : Hid ((l[k]'hlt2).path = q) := hq
      have i1 : (0 : Int) ≤ (k : Int) := by omega
      have i2 : (k : Int) < (N : Int) := by omega
      clear d1 d2 d3 hq
      have t2 : (bs q).toList = q := bs_toList _
      by_cases heq : q = p
      · subst heq
        go_wp2_with fail
        go_ret
        exact ⟨_, rfl, rfl, .inr ⟨k, hlt2, rfl, HQ.out⟩⟩
      · have t3 : (q == p) = false := by rw [beq_eq_false_iff_ne]; exact heq
        have HE : Hid (q ≠ p) := heq
        clear heq
        go_wp2_with fail
        go_round
        case rel =>
          refine ⟨k + 1, by omega, by go_num, fun j hj hjk => ?_⟩
          by_cases e : j = k
          · subst e
            rw [HQ.out]; exact HE.out
          · exact HNO.out j hj (by omega)
        case measure => simp [intOf]; omega
    · obtain rfl : k = N := by omega
      go_wp2_with fail
      go_ret
      refine ⟨_, rfl, rfl, .inl ⟨rfl, ?_⟩⟩
      cases e : hasF l p with
      | false => rfl
      | true =>
        obtain ⟨f, hf, hp⟩ := hasF_iff.1 e
        obtain ⟨i, hi, rfl⟩ := List.mem_iff_getElem.1 hf
        exact absurd hp (HNO.out i hi (by have := HN.out; omega))
set_option maxRecDepth 100000 in
theorem risdir_any {w : World} {F : Nat → Prop} {c : Nat} {T : TT} (h : RT w F c T) (hz : TSz 4000000 T) (p : List UInt8) :
    Calls Tryz.prog 99 #[.pointer (some ⟨c, 0, none⟩), .string (bs p)] w fun e w' => e = .returned (.bool (hasD T.ds p)) ∧ w' = w := by
  obtain ⟨vf, vd, vj, vt, h1, h2, h3, h4, h5⟩ := h
  have c1 := h1.cell.2.1
  have H4 : Hid (SS w vd T.ds) := h4.d.1.ss
  have hn := hz.nd
  obtain ⟨r, hr⟩ : ∃ r, hasD T.ds p = r := ⟨_, rfl⟩
  rw [hr]
  have HR : Hid (hasD T.ds p = r) := hr
  clear h1 h2 h3 h4 h5 hr hz
  have t1 : (bs p).toList = p := bs_toList _
  cases p with
  | nil =>
    go_enter Tryz.func99, Tryz.ntmps99
    go_wp2_with fail
    go_ret
    exact ⟨by rw [← HR.out]; rfl, rfl⟩
  | cons x p =>
    go_enter Tryz.func99, Tryz.ntmps99
    go_wp2_with fail
    refine (rhas_any (x :: p) H4.out (by omega)).mono ?_
    rintro e w1 ⟨rfl, rfl⟩
    go_wp2_with fail
    go_ret
    exact ⟨by rw [← HR.out]; simp [hasD], rfl⟩
/-- what a step of the document's answers -/
abbrev RSt (w : World) (F : Nat → Prop) (c : Nat) (R : TT × Int) (e : Ending) (w' : World) : Prop :=
  e = .returned (.int .i64 R.2) ∧ RT w' (nwF F w w') c R.1 ∧ OnlyP F w w'
theorem step_not {T : TT} {b : List UInt8} {g : TT → TT × Int} (h : (T.cnt b).2 = false) : T.step b g = ((T.cnt b).1, 15) := by unfold TT.step; rw [h]; rfl
theorem step_do {T : TT} {b : List UInt8} {g : TT → TT × Int} (h : (T.cnt b).2 = true) : T.step b g = g (T.cnt b).1 := by unfold TT.step; rw [h]; rfl
section
variable {w w1 w2 : World} {F F' : Nat → Prop} {c : Nat} {T R : TT} {v : Value}
theorem RT.setF {l : List Fl} (h : RT w F c T) (hv : OwnF 0 w v l) (hk : ∀ k, v.ownBlock = some k → F' k) (hF : ∀ k, F k → F' k) (hl : ∀ k, F' k → k < w.heap.size) : RT (w.setCell ⟨c, 0, none⟩ v) F' c { T with fs := l } := by
  obtain ⟨vf, vd, vj, vt, h1, h2, h3, h4, h5⟩ := h
  have h6 := h4.mono hF
  have h7 : RR w F' v vd vj vt l T.ds T.jl T.tn := ⟨⟨hv, hk⟩, h6.d, h6.j, h6.t⟩
  exact ⟨v, vd, vj, vt, h1.set0, hF c h2, fun k hk => by rw [size_set]; exact hl k hk, h7.set h1, h5⟩
theorem RT.setD {l : List (List UInt8)} (h : RT w F c T) (hv : Own 0 w v l) (hk : ∀ k, v.ownBlock = some k → F' k) (hF : ∀ k, F k → F' k) (hl : ∀ k, F' k → k < w.heap.size) : RT (w.setCell ⟨c, 1, none⟩ v) F' c { T with ds := l } := by
  obtain ⟨vf, vd, vj, vt, h1, h2, h3, h4, h5⟩ := h
  have h6 := h4.mono hF
  have h7 : RR w F' vf v vj vt T.fs l T.jl T.tn := ⟨h6.f, ⟨hv, hk⟩, h6.j, h6.t⟩
  exact ⟨vf, v, vj, vt, h1.set1, hF c h2, fun k hk => by rw [size_set]; exact hl k hk, h7.set h1, h5⟩
theorem RT.setJ {l : List UInt8} (h : RT w F c T) (hv : OwnB 0 w v l) (hk : ∀ k, v.ownBlock = some k → F' k) (hF : ∀ k, F k → F' k) (hl : ∀ k, F' k → k < w.heap.size) : RT (w.setCell ⟨c, 2, none⟩ v) F' c { T with jl := l } := by
  obtain ⟨vf, vd, vj, vt, h1, h2, h3, h4, h5⟩ := h
  have h6 := h4.mono hF
  have h7 : RR w F' vf vd v vt T.fs T.ds l T.tn := ⟨h6.f, h6.d, ⟨hv, hk⟩, h6.t⟩
  exact ⟨vf, vd, v, vt, h1.set2, hF c h2, fun k hk => by rw [size_set]; exact hl k hk, h7.set h1, h5⟩
theorem RT.setS (h : RT w F c T) (n : Int) : RT (w.setCell ⟨c, 4, none⟩ (.int .i64 n)) F c { T with sp := n } := by
  obtain ⟨vf, vd, vj, vt, h1, h2, h3, h4, h5⟩ := h
  exact ⟨vf, vd, vj, vt, h1.set4, h2, fun k hk => by rw [size_set]; exact h3 k hk, h4.set h1, h5⟩
theorem RT.mem (h : RT w F c T) : F c := by
  obtain ⟨_, _, _, _, _, h, _⟩ := h
  exact h
theorem nw_lt (h : ∀ k, F k → k < w.heap.size) (hz : w.heap.size ≤ w1.heap.size) : ∀ k, nwF F w w1 k → k < w1.heap.size := by
  rintro k (h1 | h1)
  · exact Nat.lt_of_lt_of_le (h k h1) hz
  · exact h1.2
end
theorem nil_bs (w : World) : BS w (.slice none 0 0) [] := .inl ⟨⟨_, _, rfl⟩, rfl⟩
theorem nil_no (F : Nat → Prop) : ([] : List UInt8) ≠ [] → ∀ k, (Value.slice none 0 0).ownBlock = some k → ¬ F k := fun h => absurd rfl h
theorem RSt.set {w w1 : World} {F : Nat → Prop} {c i : Nat} {v : Value} {T R : TT} (h1 : RT w1 (nwF F w w1) c T) (o1 : OnlyP F w w1) (h2 : RT (w1.setCell ⟨c, i, none⟩ v) (nwF F w w1) c R) :
    RT (w1.setCell ⟨c, i, none⟩ v) (nwF F w (w1.setCell ⟨c, i, none⟩ v)) c R ∧ OnlyP F w (w1.setCell ⟨c, i, none⟩ v) := by
  have hs : (w1.setCell ⟨c, i, none⟩ v).heap.size = w1.heap.size := size_set _ _ _ _
  refine ⟨h2.wider ?_ ?_, o1.trans (OnlyP.set (F := nwF F w w1) _ _ _ _ h1.mem) ?_⟩
  · rintro k (h | h)
    · exact .inl h
    · exact .inr ⟨h.1, by rw [hs]; exact h.2⟩
  · rintro k (h | h)
    · rw [hs]; exact h1.lt k (.inl h)
    · exact h.2
  · rintro i hi (h | h)
    · exact h
    · omega
set_option maxRecDepth 100000 in
set_option maxHeartbeats 4000000 in
theorem rclear_any {w : World} {F : Nat → Prop} {c : Nat} {T : TT} (h : RT w F c T) (hz : TSz 4000000 T) (ho : TOk T) :
    Calls Tryz.prog 71 #[.pointer (some ⟨c, 0, none⟩)] w (RSt w F c T.cl) := by
  have H : Hid (RT w F c T ∧ TSz 4000000 T ∧ TOk T) := ⟨h, hz, ho⟩
  clear h hz ho
  obtain ⟨R, hR⟩ : ∃ R, T.cl = R := ⟨_, rfl⟩
  rw [hR]
  have HR : Hid (T.cl = R) := hR
  clear hR
  go_enter Tryz.func71, Tryz.ntmps71
  go_wp2_with fail
  refine (counted_any H.out.1 H.out.2.1 H.out.2.2 (nil_bs w) (nil_no F) (by simp)).mono ?_
  rintro e w1 ⟨rfl, h1, o1⟩
  have H1 : Hid (RT w1 (nwF F w w1) c (T.cnt []).1 ∧ OnlyP F w w1) := ⟨h1, o1⟩
  clear h1 o1
  cases hc : (T.cnt []).2 with
  | false =>
    go_wp2_with fail
    go_ret
    rw [← HR.out, show T.cl = _ from step_not hc]
    exact ⟨rfl, H1.out⟩
  | true =>
    have f2 : w1.frozen? ⟨c, 2, none⟩ = false := by obtain ⟨_, _, _, _, h, _⟩ := H1.out.1; exact h.cell.2.2.2.2.2.2.2 2
    obtain ⟨u2, c2⟩ : ∃ u, w1.cell? ⟨c, 2, none⟩ = some u := by obtain ⟨_, _, _, _, h, _⟩ := H1.out.1; exact ⟨_, h.cell.2.2.1⟩
    go_wp2_with fail
    go_ret
    rw [← HR.out, show T.cl = _ from step_do hc]
    obtain ⟨h1, o1⟩ := H1.out
    exact ⟨rfl, RSt.set h1 o1 (h1.setJ (OwnB.nil _ _) (fun k hk => by cases hk) (fun _ h => h) h1.lt)⟩
set_option maxRecDepth 100000 in
set_option maxHeartbeats 4000000 in
theorem rhalts_any {w : World} {F : Nat → Prop} {c : Nat} {T : TT} (h : RT w F c T) (n : Int) :
    Calls Tryz.prog 72 #[.pointer (some ⟨c, 0, none⟩), .int .i64 n] w fun e w' => e = .returned (.tuple #[]) ∧ RT w' (nwF F w w') c (T.stop n) ∧ OnlyP F w w' := by
  have H : Hid (RT w F c T) := h
  have hcell : ∃ u, w.cell? ⟨c, 4, none⟩ = some u ∧ w.cell? ⟨c, 5, none⟩ = some (.bool T.dn) ∧ w.frozen? ⟨c, 4, none⟩ = false := by
    obtain ⟨_, _, _, _, h, _⟩ := h
    exact ⟨_, h.cell.2.2.2.2.1, h.cell.2.2.2.2.2.1, h.cell.2.2.2.2.2.2.2 4⟩
  obtain ⟨u4, c4, c5, f4⟩ := hcell
  have hself : ∀ k, F k → nwF F w w k := fun k h => .inl h
  have hw0 : RT w (nwF F w w) c T := h.wider hself (nw_lt h.lt (Nat.le_refl _))
  have HW : Hid (RT w (nwF F w w) c T) := hw0
  clear h hw0
  unfold TT.stop
  cases hd : T.dn with
  | true =>
    rw [hd] at c5
    go_enter Tryz.func72, Tryz.ntmps72
    go_wp2_with fail
    refine bodyPost_ret (results_none rfl _ _ _) rfl ?_
    exact ⟨rfl, HW.out, OnlyP.refl _ _⟩
  | false =>
    rw [hd] at c5
    have h1 := H.out.setS 0
    have o1 : OnlyP F w (w.setCell ⟨c, 4, none⟩ (.int .i64 0)) := OnlyP.set _ _ _ _ H.out.mem
    have H1 : Hid (RT (w.setCell ⟨c, 4, none⟩ (.int .i64 0)) F c { T with sp := 0 } ∧ OnlyP F w (w.setCell ⟨c, 4, none⟩ (.int .i64 0))) := ⟨h1, o1⟩
    obtain ⟨d4, g4⟩ : (w.setCell ⟨c, 4, none⟩ (.int .i64 0)).cell? ⟨c, 4, none⟩ = some (.int .i64 0) ∧ (w.setCell ⟨c, 4, none⟩ (.int .i64 0)).frozen? ⟨c, 4, none⟩ = false := by
      obtain ⟨_, _, _, _, h, _⟩ := h1
      exact ⟨h.cell.2.2.2.2.1, h.cell.2.2.2.2.2.2.2 4⟩
    clear h1 o1
    by_cases h1n : 1 ≤ n
    · rw [if_neg (by simp), if_pos h1n]
      go_enter Tryz.func72, Tryz.ntmps72
      go_wp2_with fail
      refine ⟨rfl, _, results_none rfl _ _ _, rfl, ?_⟩
      obtain ⟨h1, o1⟩ := H1.out
      have h2 := h1.setS n
      have e1 : ((w.setCell ⟨c, 4, none⟩ (.int .i64 0)).setCell ⟨c, 4, none⟩ (.int .i64 n)).heap.size = w.heap.size := by rw [size_set, size_set]
      rw [hd] at h2
      exact ⟨h2.wider (fun k hk => .inl hk) (fun k hk => h2.lt k (nw_self e1 k hk)), o1.trans (OnlyP.set (F := F) _ _ _ _ h1.mem) (fun _ _ h => h)⟩
    · rw [if_neg (by simp), if_neg h1n]
      go_enter Tryz.func72, Tryz.ntmps72
      go_wp2_with fail
      refine ⟨rfl, _, results_none rfl _ _ _, rfl, ?_⟩
      obtain ⟨h1, o1⟩ := H1.out
      have e1 : (w.setCell ⟨c, 4, none⟩ (.int .i64 0)).heap.size = w.heap.size := size_set _ _ _ _
      rw [hd] at h1
      exact ⟨h1.wider (fun k hk => .inl hk) (fun k hk => h1.lt k (nw_self e1 k hk)), o1⟩
end Go.Proofs.YtlkkmcibjhoneaaGreatDoor

namespace Go.Proofs.YtlkkmcibjhoneaaGreatDoor
open Go.RowKit
attribute [local go_sem] Oper.semAt_some

/-- files that may be written over -/
def XR (G : Nat → Prop) (W : World) (v : Value) (n : Nat) : Prop := ∃ B l, l.length = n ∧ B ≤ W.heap.size ∧ OwnF B W v l ∧ ∀ k, v.ownBlock = some k → ¬ G k
/-- bytes that may be written over -/
def JR (G : Nat → Prop) (W : World) (v : Value) (n : Nat) : Prop := ∃ B l, l.length = n ∧ B ≤ W.heap.size ∧ OwnB B W v l ∧ ∀ k, v.ownBlock = some k → ¬ G k
section
variable {TA : World → (Nat → Prop) → Nat → TT → Prop} {G : Nat → Prop} {w W W' : World} {t n m : Nat} {T : TT} {b : List UInt8} {vy vk vw v x : Value}
theorem XR.later (h : XR G W v n) (hb : Below W.heap.size W W') : XR G W' v n := by
  obtain ⟨B, l, h1, h2, h3, h4⟩ := h
  exact ⟨B, l, h1, Nat.le_trans h2 hb.size, h3.later hb, h4⟩
theorem JR.later (h : JR G W v n) (hb : Below W.heap.size W W') : JR G W' v n := by
  obtain ⟨B, l, h1, h2, h3, h4⟩ := h
  exact ⟨B, l, h1, Nat.le_trans h2 hb.size, h3.later hb, h4⟩
end
end Go.Proofs.YtlkkmcibjhoneaaGreatDoor

namespace Go.Proofs.YtlkkmcibjhoneaaGreatDoor
open Go.RowKit
attribute [local go_sem] Oper.semAt_some

/-- what was answered, and may be written over -/
structure AnX (G : Nat → Prop) (W : World) (T : TT) (b : List UInt8) (vx vj vd : Value) : Prop where
  x : ∃ B, B ≤ W.heap.size ∧ OwnF B W vx T.fs ∧ ∀ k, vx.ownBlock = some k → ¬ G k
  j : ∃ B, B ≤ W.heap.size ∧ OwnB B W vj b ∧ ∀ k, vj.ownBlock = some k → ¬ G k
  d : ∃ B, B ≤ W.heap.size ∧ Oww B W vd T.ds ∧ ∀ k, vd.ownBlock = some k → ¬ G k ∧ k < W.heap.size
theorem AnX.later {G : Nat → Prop} {W W' : World} {T : TT} {b : List UInt8} {vx vj vd : Value} (h : AnX G W T b vx vj vd) (hb : Below W.heap.size W W') : AnX G W' T b vx vj vd := by
  obtain ⟨⟨B1, x1, x2, x3⟩, ⟨B2, j1, j2, j3⟩, ⟨B3, d1, d2, d3⟩⟩ := h
  exact ⟨⟨B1, Nat.le_trans x1 hb.size, x2.later hb, x3⟩, ⟨B2, Nat.le_trans j1 hb.size, j2.later hb, j3⟩, ⟨B3, Nat.le_trans d1 hb.size, d2.later hb, fun k hk => ⟨(d3 k hk).1, Nat.lt_of_lt_of_le (d3 k hk).2 hb.size⟩⟩⟩
end Go.Proofs.YtlkkmcibjhoneaaGreatDoor
