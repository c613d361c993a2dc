/-
  From a directory down: each file once.
-/
import Derived.Test.YtceoelclnnfhhadTold
import Derived.Test.YtceoelclnnfhhadSum
import Derived.Test.YtceoelclnnfhhadTri5
namespace Go.Proofs.Ytceoelclnnfhhad
open Go.RowKit

theorem csum_append (M : List Fl) : ∀ (X Y : List (List UInt8)), csum M (X ++ Y) = csum M X + csum M Y
  | [], Y => by simp [csum]
  | x :: r, Y => by simp only [List.cons_append, csum, csum_append M r Y]; omega
theorem csum_take_le (M : List Fl) (Y : List (List UInt8)) (k : Nat) : csum M (Y.take k) ≤ csum M Y := by
  have := csum_append M (Y.take k) (Y.drop k)
  rw [List.take_append_drop] at this; omega
theorem csum_take_succ (M : List Fl) {Y : List (List UInt8)} {k : Nat} (hk : k < Y.length) : csum M (Y.take (k + 1)) = csum M (Y.take k) + cnt M (pcs Y[k]) := by
  rw [List.take_add_one, List.getElem?_eq_getElem hk]
  exact csum_snoc M _ _
/-- what a walk gives -/
def WalkS (O : List Fl) (d : List UInt8) (w : World) (e : Ending) (w' : World) : Prop :=
  ∃ v Z, e = .returned (.tuple #[v, .bool true]) ∧ Own w.heap.size w' v Z ∧ Z.length = cnt O (pcs d) ∧ (∀ f ∈ O, pre (pcs d) (pp f) = true → f.path ∈ Z) ∧ Below w.heap.size w w'
/-- so far -/
structure Far2 (O : List Fl) (X Y : List (List UInt8)) (k : Nat) (Z : List (List UInt8)) : Prop where
  len : Z.length = X.length + csum O (Y.take k)
  fil : ∀ x ∈ X, x ∈ Z
  dir : ∀ y ∈ Y.take k, ∀ f ∈ O, pre (pcs y) (pp f) = true → f.path ∈ Z
theorem Far2.next {O : List Fl} {X Y Z Z' : List (List UInt8)} {k : Nat} (h : Far2 O X Y k Z) (hk : k < Y.length) (hl : Z'.length = cnt O (pcs Y[k])) (hf : ∀ f ∈ O, pre (pcs Y[k]) (pp f) = true → f.path ∈ Z') : Far2 O X Y (k + 1) (Z ++ Z') := by
  refine ⟨?_, fun x hx => List.mem_append_left _ (h.fil x hx), fun y hy f hfm hp => ?_⟩
  · rw [List.length_append, h.len, csum_take_succ O hk, hl]; omega
  · rw [List.take_add_one, List.getElem?_eq_getElem hk] at hy
    rcases List.mem_append.1 hy with hy | hy
    · exact List.mem_append_left _ (h.dir y hy f hfm hp)
    · simp at hy
      subst hy
      exact List.mem_append_right _ (hf f hfm hp)

set_option maxRecDepth 100000 in
set_option maxHeartbeats 4000000 in
theorem walk_step {w : World} {F : Nat → Prop} {t N q : Nat} {O : List Fl} {d : List UInt8} (h : TR w F t O N) (hD : isD O d = true) (hq : (pcs d).length = q)
    (IH : ∀ y W, inS O false d y → TR W F t O N → Calls Try.prog 8 #[.pointer (some ⟨t, 0, none⟩), .string (bs y), .int .i64 ((q : Int) + 1)] W (WalkS O y W)) :
    Calls Try.prog 8 #[.pointer (some ⟨t, 0, none⟩), .string (bs d), .int .i64 q] w (WalkS O d w) := by
  have hdl := (okP_len (isD_ok hD)).1
  have hq12 : q ≤ 12 := by
    have := (okP_len (isD_ok hD)).2
    rw [← dep_eq, hq] at this; exact this
  have H : Hid (TR w F t O N ∧ d.length ≤ 120 ∧ ∀ y W, inS O false d y → TR W F t O N → Calls Try.prog 8 #[.pointer (some ⟨t, 0, none⟩), .string (bs y), .int .i64 ((q : Int) + 1)] W (WalkS O y W)) := ⟨h, hdl, IH⟩
  clear h hD hq hdl IH
  unfold WalkS
  obtain ⟨cd, hcd⟩ : ∃ cd, cnt O (pcs d) = cd := ⟨_, rfl⟩
  have hcd2 : cd ≤ 512 := by have h1 := cnt_le O (pcs d); have h2 := H.out.1.good.len; omega
  have HCD : Hid (cnt O (pcs d) = cd) := hcd
  have HC : Hid (∀ W, Below w.heap.size w W → Calls Try.prog 12 #[.pointer (some ⟨t, 0, none⟩), .string (bs d)] W fun e w' => e = .returned (.int .i64 (cd : Nat)) ∧ Below W.heap.size W w') := by
    intro W hW
    have := tcount_any (H.out.1.later hW) d (by have := H.out.2.1; omega)
    rw [countS_eq H.out.1.good, hcd] at this; exact this
  rw [hcd]
  clear hcd
  go_enter Try.func8, Try.ntmps8
  go_wp2_with fail
  refine (tfiles_any H.out.1 d (by have := H.out.2.1; omega)).mono ?_
  rintro e w1 ⟨v1, X, rfl, ho1, hu1, hm1, hl1, hx1, hb1⟩
  obtain ⟨a1, c1, e1, _⟩ := ho1.bs.form
  subst e1
  have H1 : Hid (Own w.heap.size w1 (.slice a1 X.length c1) X ∧ Up X ∧ (∀ x, x ∈ X ↔ inS O true d x) ∧ Below w.heap.size w w1) := ⟨ho1, hu1, hm1, hb1⟩
  clear ho1 hu1 hm1 hx1 hb1
  obtain ⟨n1, hn1⟩ : ∃ n1, X.length = n1 := ⟨_, rfl⟩
  have HN1 : Hid (X.length = n1) := hn1
  rw [hn1] at H1 hl1 ⊢
  clear hn1
  go_wp2_with fail
  refine (tdirs_any (H.out.1.later H1.out.2.2.2) d (by have := H.out.2.1; omega)).mono ?_
  rintro e w2 ⟨v2, Y, rfl, ho2, hu2, hm2, hl2, hx2, hb2⟩
  obtain ⟨a2, c2, e2, _⟩ := ho2.bs.form
  subst e2
  have H2 : Hid (SS w2 (.slice a2 Y.length c2) Y ∧ Up Y ∧ (∀ x, x ∈ Y ↔ inS O false d x) ∧ Below w.heap.size w w2 ∧ Own w.heap.size w2 (.slice a1 n1 c1) X ∧ (∀ k, (Value.slice a1 n1 c1).ownBlock = some k → k < w1.heap.size) ∧ (∀ k, (Value.slice a2 Y.length c2).ownBlock = some k → w1.heap.size ≤ k ∧ k < w2.heap.size) ∧ (∀ x ∈ Y, x.length ≤ 120)) :=
    ⟨ho2.bs, hu2, hm2, bstep H1.out.2.2.2 hb2, H1.out.1.later hb2, fun k hk => (H1.out.1.lt hk).2, fun k hk => ho2.lt hk, hx2⟩
  have HCS : Hid (cd = n1 + csum O Y) := by
    show _ = _
    have := cnt_split H.out.1.good H1.out.2.1 H1.out.2.2.1 hu2 hm2
    rw [HCD.out, HN1.out] at this; exact this
  clear ho2 hu2 hm2 hx2 hb2
  obtain ⟨m, hm⟩ : ∃ m, Y.length = m := ⟨_, rfl⟩
  have HM : Hid (Y.length = m) := hm
  rw [hm] at H2 hl2 ⊢
  clear hm
  obtain ⟨B1, hB1⟩ : ∃ B1, w1.heap.size = B1 := ⟨_, rfl⟩
  obtain ⟨B2, hB2⟩ : ∃ B2, w2.heap.size = B2 := ⟨_, rfl⟩
  have HB : Hid (w1.heap.size = B1 ∧ w2.heap.size = B2) := ⟨hB1, hB2⟩
  clear hB1 hB2
  go_wp2_with fail
  go_loopw [8, 10, 11] (fun o n i wr => ∃ (k zl : Nat) (Z : List (List UInt8)), k ≤ m ∧ i = .int .i64 k ∧ n = .int .i64 zl ∧ Z.length = zl ∧ Far2 O X Y k Z ∧ Own w.heap.size wr o Z ∧ (∀ j, o.ownBlock = some j → j < B1 ∨ B2 ≤ j) ∧ Below w.heap.size w wr ∧ B2 ≤ wr.heap.size ∧ SS wr (.slice a2 m c2) Y)
    (fun _ _ i _ => m - (intOf i).toNat)
  case atStart =>
    refine ⟨0, n1, X, by omega, rfl, rfl, HN1.out, ⟨by simp [csum], fun x hx => hx, fun y hy => by simp at hy⟩, H2.out.2.2.2.2.1, fun j hj => .inl ?_, H2.out.2.2.2.1, by have := HB.out; omega, H2.out.1⟩
    have := H2.out.2.2.2.2.2.1 j hj
    have := HB.out; omega
  case round =>
    obtain ⟨k, zl, Z, hk, rfl, rfl, hzl, hf, ho, hj, hb, hz, hs⟩ := hrel
    have HR : Hid (Z.length = zl ∧ Far2 O X Y k Z ∧ Own w.heap.size wr u8 Z ∧ (∀ j, u8.ownBlock = some j → j < B1 ∨ B2 ≤ j) ∧ Below w.heap.size w wr ∧ B2 ≤ wr.heap.size ∧ SS wr (.slice a2 m c2) Y) := ⟨hzl, hf, ho, hj, hb, hz, hs⟩
    have hzc : zl ≤ 512 := by
      have h1 := hf.len
      have h2 := csum_take_le O Y k
      have h3 := HCS.out
      have h4 := HN1.out
      omega
    clear hzl hf ho hj hb hz hs
    by_cases hlt : k < m
    · have hky : k < Y.length := by have := HM.out; omega
      have hin : inS O false d Y[k] := (H2.out.2.2.1 _).1 (List.getElem_mem hky)
      have hpos := (inS_dir H.out.1.good hin).2.2.1
      have hle := cnt_le O (pcs Y[k])
      have hg5 := H.out.1.good.len
      obtain ⟨b, off, ea, hbw, d0⟩ := SS.at1 (n := m) HR.out.2.2.2.2.2.2 HM.out (Below.refl _ _) hky
      have HY0 : Hid (inS O false d Y[k] ∧ (Y[k]).length ≤ 120) := ⟨hin, H2.out.2.2.2.2.2.2.2 _ (List.getElem_mem hky)⟩
      have HF : Hid (∀ Z' : List (List UInt8), Z'.length = cnt O (pcs Y[k]) → (∀ f ∈ O, pre (pcs Y[k]) (pp f) = true → f.path ∈ Z') → Far2 O X Y (k + 1) (Z ++ Z')) := fun Z' h1 h2 => HR.out.2.1.next hky h1 h2
      clear hin
      obtain ⟨y, hy⟩ : ∃ y, Y[k] = y := ⟨_, rfl⟩
      rw [hy] at d0 HY0 HF hpos hle
      clear hy
      obtain ⟨cy, hcy⟩ : ∃ cy, cnt O (pcs y) = cy := ⟨_, rfl⟩
      have HCY : Hid (cnt O (pcs y) = cy) := hcy
      rw [hcy] at hpos hle
      have hcy1 : 1 ≤ cy := hpos
      have hcy2 : cy ≤ 512 := by omega
      have HC2 : Hid (∀ W, Below w.heap.size w W → Calls Try.prog 12 #[.pointer (some ⟨t, 0, none⟩), .string (bs y)] W fun e w' => e = .returned (.int .i64 (cy : Nat)) ∧ Below W.heap.size W w') := by
        intro W hW
        have := tcount_any (H.out.1.later hW) y (by have := HY0.out.2; omega)
        rw [countS_eq H.out.1.good, hcy] at this; exact this
      clear hcy hpos hle hg5
      subst ea
      have k1 : (0 : Int) ≤ (k : Int) := by omega
      have k2 : (k : Int) < (m : Int) := by omega
      have HD0 : Hid (b < wr.heap.size ∧ wr.cell? ⟨b, off + k, none⟩ = some (.string (bs y))) := ⟨hbw, d0⟩
      clear hbw hky
      go_wp2_with fail
      refine (HC2.out _ HR.out.2.2.2.2.1).mono ?_
      rintro e w4 ⟨rfl, hb4⟩
      have d4 : w4.cell? ⟨b, off + k, none⟩ = some (.string (bs y)) := (hb4.cell (p := ⟨b, off + k, none⟩) HD0.out.1).trans HD0.out.2
      have H4 : Hid (Below w.heap.size w w4 ∧ Below wr.heap.size wr w4) := ⟨bstep HR.out.2.2.2.2.1 hb4, hb4⟩
      clear hb4 d0
      go_wp2_with fail
      refine (H.out.2.2 y _ HY0.out.1 (H.out.1.later H4.out.1)).mono ?_
      rintro e w5 ⟨v5, Z', rfl, ho5, hl5, hm5, hb5⟩
      have d5 : w5.cell? ⟨b, off + k, none⟩ = some (.string (bs y)) := (hb5.cell (p := ⟨b, off + k, none⟩) (by have h1 := HD0.out.1; have h2 := H4.out.2.size; show b < _; omega)).trans d4
      obtain ⟨a5, c5, e5, _⟩ := ho5.bs.form
      subst e5
      rw [hl5, HCY.out] at ho5 ⊢
      have H5 : Hid (Below w.heap.size w w5 ∧ Below wr.heap.size wr w5 ∧ SS w5 (.slice a5 cy c5) Z' ∧ Z'.length = cy ∧ Far2 O X Y (k + 1) (Z ++ Z')) := ⟨bstep H4.out.1 hb5, bstep H4.out.2 hb5, ho5.bs, hl5.trans HCY.out, HF.out Z' hl5 hm5⟩
      clear ho5 hl5 hm5 hb5 d4
      go_wp2_with fail
      refine (HC2.out _ H5.out.1).mono ?_
      rintro e w6 ⟨rfl, hb6⟩
      have H6 : Hid (Below w.heap.size w w6 ∧ Below wr.heap.size wr w6 ∧ SS w6 (.slice a5 cy c5) Z' ∧ Own w.heap.size w6 u8 Z ∧ SS w6 (.slice (some ⟨b, off, none⟩) m c2) Y ∧ B2 ≤ w6.heap.size ∧ w.heap.size ≤ w6.heap.size) := by
        have h7 := bstep H5.out.2.1 hb6
        have h8 := h7.size
        have h9 := HR.out.2.2.2.2.2.1
        have h10 := HR.out.2.2.2.2.1.size
        exact ⟨bstep H5.out.1 hb6, h7, H5.out.2.2.1.later hb6, HR.out.2.2.1.later h7, HR.out.2.2.2.2.2.2.later h7, by omega, by omega⟩
      clear hb6 d5
      have hzz : zl + cy ≤ 1024 := by omega
      go_wp2_with (first | (at_builtin; refine app_strs (base := w.heap.size) (l := Z) (k := Z') H6.out.2.2.2.1 (by have := H6.out.2.2.1.src (P := Try.prog) und35; exact this) (by have := HR.out.1; have := H5.out.2.2.2.1; omega) H6.out.2.2.2.2.2.2 rfl (.tmp 67) (.tmp 68) rfl rfl rfl ?_; intro v7 w7 ho7 hg7 hv7))
      have H7 : Hid (Own w.heap.size w7 v7 (Z ++ Z') ∧ (∀ j, v7.ownBlock = some j → j < B1 ∨ B2 ≤ j) ∧ Below w.heap.size w w7 ∧ B2 ≤ w7.heap.size ∧ SS w7 (.slice (some ⟨b, off, none⟩) m c2) Y) := by
        refine ⟨ho7, fun j hj => ?_, H6.out.1.grown hg7 H6.out.2.2.2.2.2.2 (fun j hj => (H6.out.2.2.2.1.lt hj).1), Nat.le_trans H6.out.2.2.2.2.2.1 hg7.size, H6.out.2.2.2.2.1.grown hg7 ?_⟩
        · rcases hv7 with e | e
          · rw [e] at hj; exact HR.out.2.2.2.1 j hj
          · rw [e] at hj
            have := H6.out.2.2.2.2.2.1
            injection hj with hj
            right; omega
        · right
          intro e
          have h8 := HR.out.2.2.2.1 b e.symm
          have h9 := H2.out.2.2.2.2.2.2.1 b rfl
          have h10 := HB.out
          omega
      clear ho7 hg7 hv7
      go_wp2_with fail
      go_roundw
      case rel => exact ⟨k + 1, zl + cy, Z ++ Z', by omega, by go_num, by go_num, by rw [List.length_append, HR.out.1, H5.out.2.2.2.1], H5.out.2.2.2.2, H7.out.1, H7.out.2.1, H7.out.2.2.1, H7.out.2.2.2.1, H7.out.2.2.2.2⟩
      case measure => simp [intOf]; omega
    · obtain rfl : k = m := by omega
      have hT : Y.take k = Y := List.take_of_length_le (by have := HM.out; omega)
      have hzcd : zl = cd := by
        have h1 := HR.out.2.1.len
        have h3 := HCS.out
        have h4 := HN1.out
        have h5 := HR.out.1
        rw [hT] at h1; omega
      have HF : Hid (∀ f ∈ O, pre (pcs d) (pp f) = true → f.path ∈ Z) := by
        intro f hf hp
        rcases below_split H.out.1.good H1.out.2.2.1 H2.out.2.2.1 hf hp with h1 | ⟨y, hy, h1⟩
        · exact HR.out.2.1.fil _ h1
        · exact HR.out.2.1.dir y (by rw [hT]; exact hy) f hf h1
      subst hzcd
      clear hT
      go_wp2_with fail
      refine (HC.out _ HR.out.2.2.2.2.1).mono ?_
      rintro e w8 ⟨rfl, hb8⟩
      have H8 : Hid (Own w.heap.size w8 u8 Z ∧ Below w.heap.size w w8) := ⟨HR.out.2.2.1.later hb8, bstep HR.out.2.2.2.2.1 hb8⟩
      clear hb8
      go_wp2_with fail
      go_ret2
      exact ⟨u8, Z, rfl, H8.out.1, HR.out.1, HF.out, H8.out.2⟩

theorem walk_any {F : Nat → Prop} {t N : Nat} {O : List Fl} : ∀ (m : Nat) (d : List UInt8) (w : World), TR w F t O N → isD O d = true → 12 - (pcs d).length ≤ m →
    Calls Try.prog 8 #[.pointer (some ⟨t, 0, none⟩), .string (bs d), .int .i64 ((pcs d).length : Nat)] w (WalkS O d w)
  | 0, d, w, h, hD, hm => by
    refine walk_step h hD rfl (fun y W hy hW => ?_)
    exfalso
    obtain ⟨h1, h2, h3, h4⟩ := inS_dir h.good hy
    have := (okP_len h1).2
    rw [← dep_eq] at this
    omega
  | m + 1, d, w, h, hD, hm => by
    refine walk_step h hD rfl (fun y W hy hW => ?_)
    obtain ⟨h1, h2, h3, h4⟩ := inS_dir h.good hy
    have := walk_any m y W hW ((isD_iff h.good).2 h2) (by omega)
    rw [h4] at this
    exact this
end Go.Proofs.Ytceoelclnnfhhad
