/-
  The lines of cones, one by one: the iterator.
-/
import Derived.Test.YtkopjamednedfaaGreatQt
namespace Go.Proofs.YtkopjamednedfaaGreat
open Go.RowKit
attribute [local go_sem] Oper.semAt_some

theorem Kz.own {β : Type} {n₀ b m : Nat} {w : World} (hn : n₀ ≤ w.heap.size) (hm : w.heap.size ≤ m) : OwnFrom m (fun (_ : β) W => Kz n₀ b w W) :=
  fun _ X Y row hs hg hr => ⟨hs.below.grown hg (by have := hs.below.size; omega) (fun k e => by have := (hr k e).1; omega), fun k o hk hb ht => by
    have hX := hs.same k o hk hb ht
    refine (hg.block k (Array.getElem?_eq_some_iff.1 hX).1 (fun e => ?_)).trans hX
    have h1 := (hr k e.symm).1
    have h2 := (Array.getElem?_eq_some_iff.1 hk).1
    omega⟩
theorem boxed_keptR {W W' : World} {row : Option Nat} {B : Nat} {t : TypeId} {v : Value} (h : Boxed W B t v) (hg : W.grownBy W' row) (hr : ∀ r, row = some r → ∃ o : Obj, W.heap[r]? = some o ∧ o.isCells = false) : Boxed W' B t v :=
  h.kept hg (fun e => by
    obtain ⟨o, ho, hc⟩ := hr B e.symm
    rw [show W.heap[B]? = _ from h] at ho; cases ho; cases hc)
theorem boxkz {n₀ b : Nat} {W W' : World} {B : Nat} {v : Value} (h : Boxed W B 27 v) (hk : Kz n₀ b W W') (hb : B ≠ b) : Boxed W' B 27 v :=
  hk.same B _ h (by simpa using hb) (fun c fz e => by cases e)
theorem ownFrom_le {β : Type} {m m' : Nat} {J : β → World → Prop} (h : OwnFrom m J) (hm : m ≤ m') : OwnFrom m' J := fun s W W' row hs hg hr => h s W W' row hs hg (fun r e => ⟨Nat.le_trans hm (hr r e).1, (hr r e).2⟩)
theorem kf_drew (m : Nat) (W : World) : KeepsFrom m W W.drew := ⟨Nat.le_refl _, fun _ _ _ h _ => h⟩
/-- a round's answer, as one -/
def Ans (m : Nat) (n₀ b : Nat) (J : List (List UInt8) → World → Prop) (Jx : World → Prop) (ys : List (List UInt8)) (W : World) : Bool → World → Prop
  | true, W' => J ys W' ∧ Kz n₀ b W W'
  | false, W' => Jx W' ∧ KeepsFrom m W W'
/-- what stands between two rounds -/
structure Li (w : World) (n₀ b lp : Nat) (J : List (List UInt8) → World → Prop) (pre : List (List UInt8 × Bool)) (W : World) : Prop where
  j : J (pre.flatMap lnR) W
  box : Boxed W w.heap.size 27 (.func (.yield lp) #[] #[])
  kz : Kz n₀ b w W
set_option maxRecDepth 100000 in
set_option maxHeartbeats 4000000 in
theorem lines_seq {w : World} {k : List (List UInt8)} {ad : Option Addr} {n c n₀ b Bl : Nat} (hk : coneE k = 0) (hn : k.length = n) (hsz : n ≤ 8000000) (hbox : w.heap[Bl]? = some (.cells #[.slice ad n c] 22))
    (hA : KS n₀ w (.slice ad n c) k) (hn0 : n₀ ≤ w.heap.size) (hb0 : b < w.heap.size) :
    SeqO 7 Tryz.prog 36 #[.pointer (some ⟨Bl, 0, none⟩)] (fun x : List UInt8 => #[.string (bs x)]) (Kz n₀ b) ((dsR k).flatMap lnR) w := by
  intro lp J Jx W hW hJ hJx hY h0
  have hBl := (Array.getElem?_eq_some_iff.1 hbox).1
  have hs1 := hW.size
  have hbW : W.cell? ⟨Bl, 0, none⟩ = some (.slice ad n c) := by
    have h1 : W.heap[Bl]? = some (.cells #[.slice ad n c] 22) := (hW.block Bl hBl).trans hbox
    simp [World.cell?, h1]
  have HA : Hid (KS n₀ W (.slice ad n c) k) := hA.below (below_mono hW hn0)
  have HK : Hid (coneE k = 0 ∧ k.length = n) := ⟨hk, hn⟩
  have HY : Hid (∀ pre x W1, J pre W1 → (∃ r, (dsR k).flatMap lnR = pre ++ x :: r) → YieldAt Fence.wide (7 - 1) Tryz.prog lp #[.string (bs x)] W1 fun e W' =>
      (e = .returned (.bool true) ∧ J (pre ++ [x]) W' ∧ Kz n₀ b W1 W') ∨ (e = .returned (.bool false) ∧ Jx W' ∧ KeepsFrom W.heap.size W1 W')) := hY
  have HYA : Hid (∀ (m : Nat) (pre : List (List UInt8)) (x : List UInt8) (W1 : World), J pre W1 → (∃ r, (dsR k).flatMap lnR = pre ++ x :: r) → YieldAt Fence.wide m Tryz.prog lp #[.string (bs x)] W1 fun e W' => ∃ t, e = .returned (.bool t) ∧ Ans W.heap.size n₀ b J Jx (pre ++ [x]) W1 t W') := fun m pre x W1 h1 h2 =>
    (yieldAny m (HY.out pre x W1 h1 h2)).mono fun e W' h => by
      rcases h with ⟨h3, h4⟩ | ⟨h3, h4⟩
      · exact ⟨true, h3, h4⟩
      · exact ⟨false, h3, h4⟩
  have HJ : Hid (OwnFrom W.heap.size J) := hJ
  have HJx : Hid (OwnFrom W.heap.size (fun (_ : Unit) => Jx)) := hJx
  have H0 : Hid (J [] W) := h0
  have HB : Hid (n₀ ≤ W.heap.size ∧ b < W.heap.size ∧ Bl < W.heap.size) := ⟨by omega, by omega, by omega⟩
  have HP : Hid (∀ x ∈ dsR k, x.1.length ≤ 120) := fun x hx => by
    unfold dsR at hx
    rcases List.mem_cons.1 hx with rfl | hx
    · simp
    · have hmem : x.1 ∈ (dsB [] k).map Prod.fst := List.mem_map_of_mem hx
      by_cases hr : k = [[]]
      · subst hr
        have : dsB [] [[]] = [] := by decide
        rw [this] at hx; cases hx
      · rw [dsB_dsL hk hr] at hmem
        exact (okP_len (dsL_ok hk hmem).1).1
  clear hA hbox hY h0 hJ hJx hW hn0 hk hn hBl hs1 hb0
  change CallsIn Fence.wide 7 Tryz.prog 36 #[.func (.yield lp) #[] #[], .pointer (some ⟨Bl, 0, none⟩)] W _
  refine callsIn_of_wp_marks Tryz.func36 rfl trivial ?_ rfl
  simp only [Tryz.ntmps36, List.size_toArray, List.length_cons, List.length_nil, Nat.reduceAdd, Nat.reduceSub, Array.replicate_succ, Array.replicate_zero, List.push_toArray, List.append_toArray, List.nil_append, List.cons_append]
  obtain ⟨w1, hw1⟩ : ∃ w1, W.alloc (.cells #[.func (.yield lp) #[] #[]] 27) = w1 := ⟨_, rfl⟩
  obtain ⟨w2, hw2⟩ : ∃ w2, w1.alloc (.cells #[.slice ad n c] 22) = w2 := ⟨_, rfl⟩
  have H1 : Hid (W.alloc (.cells #[.func (.yield lp) #[] #[]] 27) = w1 ∧ w1.alloc (.cells #[.slice ad n c] 22) = w2 ∧ w1.heap.size = W.heap.size + 1 ∧ w2.heap.size = W.heap.size + 2 ∧ Below W.heap.size W w2 ∧ Boxed w2 W.heap.size 27 (.func (.yield lp) #[] #[]) ∧ w2.heap[W.heap.size + 1]? = some (.cells #[.slice ad n c] 22)) := by
    have e1 : w1.heap.size = W.heap.size + 1 := by rw [← hw1]; simp
    have b1 : Below W.heap.size W w1 := by rw [← hw1]; exact balloc _ _
    have b2 : Below w1.heap.size w1 w2 := by rw [← hw2]; exact balloc _ _
    have x1 : Boxed w1 W.heap.size 27 (.func (.yield lp) #[] #[]) := by rw [← hw1]; exact Boxed.new _ _ _
    refine ⟨hw1, hw2, e1, by rw [← hw2]; simp [e1], bstep b1 b2, (b2.block _ x1.lt).trans x1, ?_⟩
    have x2 : Boxed w2 w1.heap.size 22 (.slice ad n c) := by rw [← hw2]; exact Boxed.new _ _ _
    rw [e1] at x2
    exact x2
  have c1 : (W.alloc (.cells #[.func (.yield lp) #[] #[]] 27)).cell? ⟨Bl, 0, none⟩ = some (.slice ad n c) := by
    rw [(balloc W _).cell (p := ⟨Bl, 0, none⟩) HB.out.2.2]
    exact hbW
  clear hw1 hw2 hbW
  gi_wp2_with fail
  rw [H1.out.1]
  refine ⟨trivial, (callsIn_wide.2 (dirs0_any ad n c w1)).mono ?_⟩
  rintro e w3 ⟨rfl, ew3⟩
  rw [H1.out.2.1] at ew3
  subst ew3
  rw [H1.out.2.2.1]
  clear c1
  gi_wp2_with fail
  refine range_own (gf := 56) (lb := #[.pointer (some ⟨W.heap.size + 1, 0, none⟩)]) rfl (enters_of Tryz.func56 (by kernel_rfl) rfl) (encs := fun x : List UInt8 × Bool => #[.string (bs x.1), .bool x.2]) (fun _ => rfl)
    (dirs_seq (Bl := W.heap.size + 1) (n₀ := n₀) (b := b) HK.out.1 HK.out.2 hsz H1.out.2.2.2.2.2.2 (by have := HB.out; omega) (HA.out.below (below_mono H1.out.2.2.2.2.1 HB.out.1)) (by have := HB.out; have := H1.out.2.2.2.1; omega) (by have := HB.out; have := H1.out.2.2.2.1; omega) 6 (by omega)) (Below.refl _ _)
    (Kz.round (by have := HB.out; have := H1.out.2.2.2.1; omega))
    (Li W n₀ b lp J) Jx ?hI (ownFrom_le HJx.out (by have := H1.out.2.2.2.1; omega)) ?h0
    (fun x => { tmps := #[.func (.yield lp) #[] #[], .pointer (some ⟨Bl, 0, none⟩), .pointer (some ⟨W.heap.size, 0, none⟩), .string (bs x.1), .bool x.2, .slice ad n c, .func (.func 56) #[] #[.pointer (some ⟨W.heap.size + 1, 0, none⟩)], .string (bs x.1), .bool x.2, undef, undef, undef, undef, undef, undef, undef, undef, undef, undef, undef, undef, undef, undef], defers := [] }) ?assign ?body ?done ?stop
  case hI =>
    intro s A B row hs hg hr
    have hr' : ∀ r, row = some r → ∃ o : Obj, A.heap[r]? = some o ∧ o.isCells = false := fun r e => (hr r e).2
    exact ⟨ownFrom_le HJ.out (by have := H1.out.2.2.2.1; omega) _ _ _ row hs.j hg hr, boxed_keptR hs.box hg hr', Kz.own (β := Unit) HB.out.1 (by have := H1.out.2.2.2.1; omega) () _ _ row hs.kz hg hr⟩
  case h0 => exact ⟨ownFrom_below' HJ.out H0.out H1.out.2.2.2.2.1, H1.out.2.2.2.2.2.1, Kz.of H1.out.2.2.2.2.1 HB.out.1⟩
  case assign =>
    intro l x W' K hK
    gi_wp2_with fail
    exact hK
  case body =>
    rintro l pre x W1 hl hI hx
    obtain ⟨d, f⟩ := x
    have HI : Hid (Li W n₀ b lp J pre W1) := hI
    obtain ⟨rr, hrr⟩ := hx
    have hdl : d.length ≤ 120 := HP.out (d, f) (by rw [hrr]; simp)
    have HX : Hid (dsR k = pre ++ (d, f) :: rr) := hrr
    have HS1 : Hid (n₀ ≤ W1.heap.size) := by have := HI.out.kz.below.size; have := HB.out; show n₀ ≤ _; omega
    have HKF : Hid (∀ Y, KeepsFrom W.heap.size W1 Y → KeepsFrom w3.heap.size W1 Y) := fun Y h => ⟨h.size, fun k o hk => h.same k o (by have := H1.out.2.2.2.1; omega)⟩
    clear hI hrr
    have hm : Tryz.prog.follows .mixedOrders = true := by kernel_rfl
    have HSH : Hid (∀ W, Calls Tryz.prog 38 #[.string (bs d)] W fun e w' => e = .returned (.string (bs (shwL d))) ∧ w' = W) := fun W => show_any d W (by omega)
    have HHD : Hid (∀ W, Calls Tryz.prog 39 #[.string (bs d)] W fun e w' => e = .returned (.string (bs (hidL d))) ∧ w' = W) := fun W => hide_any d W (by omega)
    have hbx : W1.drew.cell? ⟨W.heap.size, 0, none⟩ = some (.func (.yield lp) #[] #[]) := HI.out.box.cell
    have hJd : J (pre.flatMap lnR) W1.drew := ownFrom_below' HJ.out HI.out.j (bd1 _)
    obtain ⟨fn, tmps, assign, body, hy, hR⟩ := HYA.out (7 - 1 - 1 - 1) (pre.flatMap lnR) (shwL d) W1.drew hJd (by
      cases f
      · exact ⟨hidL d :: rr.flatMap lnR, by rw [HX.out]; simp [lnR]⟩
      · exact ⟨rr.flatMap lnR, by rw [HX.out]; simp [lnR]⟩)
    have HR : Hid (RoundIn (Fence.wide.inRound l) (7 - 1 - 1 - 1) Tryz.prog lp fn tmps assign body W1.drew fun e W' => ∃ t, e = .returned (.bool t) ∧ Ans W.heap.size n₀ b J Jx (pre.flatMap lnR ++ [shwL d]) W1.drew t W') := hR
    clear hJd hR
    gi_wp2_with fail
    gi_region_with_o (first | (refine ⟨trivial, ?_⟩; gi_at_call 38; refine (CallsIn.inRound l (callsIn_wide.2 (HSH.out _))).mono ?_; rintro e w' ⟨rfl, rfl⟩) | (refine RoundIn.mono HR.out ?_; rintro e W2 ⟨t, rfl, hP⟩))
    all_goals clear hy hbx HR HSH
    all_goals (
      cases t
      · obtain ⟨hx2, hk2⟩ := hP
        gi_wp2_with fail
        exact ⟨HKF.out _ (KeepsFrom.trans (kf_drew _ _) hk2), hx2⟩
      · obtain ⟨hj2, hk2⟩ := hP
        have H2 : Hid (J (pre.flatMap lnR ++ [shwL d]) W2 ∧ Kz n₀ b W1 W2) := ⟨hj2, (Kz.of (bd1 _) HS1.out).trans hk2⟩
        clear hj2 hk2
        have hbx : W2.drew.cell? ⟨W.heap.size, 0, none⟩ = some (.func (.yield lp) #[] #[]) := (boxkz HI.out.box H2.out.2 (by have := HB.out; omega)).cell
        cases f
        · have hJd : J (pre.flatMap lnR ++ [shwL d]) W2.drew := ownFrom_below' HJ.out H2.out.1 (bd1 _)
          obtain ⟨fn, tmps, assign, body, hy, hR⟩ := HYA.out (7 - 1 - 1 - 1) (pre.flatMap lnR ++ [shwL d]) (hidL d) W2.drew hJd ⟨rr.flatMap lnR, by rw [HX.out]; simp [lnR]⟩
          have HR : Hid (RoundIn (Fence.wide.inRound l) (7 - 1 - 1 - 1) Tryz.prog lp fn tmps assign body W2.drew fun e W' => ∃ t, e = .returned (.bool t) ∧ Ans W.heap.size n₀ b J Jx (pre.flatMap lnR ++ [shwL d] ++ [hidL d]) W2.drew t W') := hR
          clear hJd hR
          gi_wp2_with fail
          gi_region_with_o (first | (refine ⟨trivial, ?_⟩; gi_at_call 39; refine (CallsIn.inRound l (callsIn_wide.2 (HHD.out _))).mono ?_; rintro e w' ⟨rfl, rfl⟩) | (refine RoundIn.mono HR.out ?_; rintro e W3 ⟨t, rfl, hP⟩))
          all_goals clear hy hbx HR
          all_goals (
            cases t
            · obtain ⟨hx3, hk3⟩ := hP
              gi_wp2_with fail
              exact ⟨HKF.out _ (KeepsFrom.trans (H2.out.2.keeps HB.out.2.1) (KeepsFrom.trans (kf_drew _ _) hk3)), hx3⟩
            · obtain ⟨hj3, hk3⟩ := hP
              gi_wp2_with fail
              have hk4 : Kz n₀ b W1 W3 := (H2.out.2.trans (Kz.of (bd1 _) (by have := H2.out.2.below.size; have := HS1.out; omega))).trans hk3
              exact ⟨HKF.out _ (hk4.keeps HB.out.2.1), hk4, by rw [List.flatMap_append]; simpa [lnR] using hj3, boxkz HI.out.box hk4 (by have := HB.out; omega), HI.out.kz.trans hk4⟩)
        · gi_wp2_with fail
          gi_region_with_o (first | (refine ⟨trivial, ?_⟩) | (refine ⟨fun _ h => (by cases h), ?_⟩))
          all_goals gi_wp2_with fail
          all_goals (
            have hk4 : Kz n₀ b W1 W2.drew := H2.out.2.trans (Kz.of (bd1 _) (by have := H2.out.2.below.size; have := HS1.out; omega))
            exact ⟨HKF.out _ (hk4.keeps HB.out.2.1), hk4, by rw [List.flatMap_append]; simpa [lnR] using ownFrom_below' HJ.out H2.out.1 (bd1 _), boxkz HI.out.box hk4 (by have := HB.out; omega), HI.out.kz.trans hk4⟩))
  case done =>
    intro D W' hD hI hK
    gi_wp2_with fail
    refine ⟨by simp, .inl ⟨_, _, rfl, run_takeDeferred hK, ?_⟩⟩
    exact ⟨_, results_none rfl _ _ _, ⟨_, rfl⟩, .inl (OwnFrom.putObj HJ.out _ hI.j (by have := H1.out.2.2.2.1; omega) hK rfl)⟩
  case stop =>
    intro D W' hD hI hK
    gi_wp2_with fail
    refine ⟨by simp, .inl ⟨_, _, rfl, run_takeDeferred hK, ?_⟩⟩
    exact ⟨_, results_none rfl _ _ _, ⟨_, rfl⟩, .inr (OwnFrom.putObj (s := ()) HJx.out _ hI (by have := H1.out.2.2.2.1; omega) hK rfl)⟩
end Go.Proofs.YtkopjamednedfaaGreat
