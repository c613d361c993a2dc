/-
  What the laws of cone ask of the package: its four answers, as plain lists.
  Valid, Cover; what the laws ask of the package.
-/
import Derived.Test.YtkbefggjfggdgaaGreatJCuts
import Derived.Test.YtkbefggjfggdgaaGreatKn2
import Derived.Test.YtkbefggjfggdgaaGreatSPkg2
import Derived.Test.YtkbefggjfggdgaaGreatVi
namespace Go.Proofs.YtkbefggjfggdgaaGreat
open Go.RowKit

structure CC : Prop where
  valid : ∀ {w : World} {v : Value} {k : List (List UInt8)}, SS w v k → Sm k → Calls Tryz.prog 11 #[v] w fun e w' => e = .returned (.int .i64 (coneE k)) ∧ Below w.heap.size w w'
  shows : ∀ {w : World} {v : Value} {k : List (List UInt8)} (p : List UInt8), SS w v k → Sm k → p.length ≤ 1000000000 → Calls Tryz.prog 13 #[v, .string (bs p)] w fun e w' => e = .returned (.bool (shw k p)) ∧ Below w.heap.size w w'
  view : ∀ {w : World} {v u : Value} {l : List Fl} {k : List (List UInt8)}, FS w v l → FSm l → SS w u k → Sm k → Calls Tryz.prog 7 #[v, u] w fun e w' => ∃ v', e = .returned (.tuple #[v', .int .i64 (viw l k).2]) ∧ OwnF w.heap.size w' v' (viw l k).1 ∧ Below w.heap.size w w'
  cover : ∀ {w : World} {v : Value} {L : List (List UInt8)}, SS w v L → Sm L → Calls Tryz.prog 9 #[v] w fun e w' => ∃ v', e = .returned v' ∧ Own w.heap.size w' v' (cov L) ∧ Below w.heap.size w w'

end Go.Proofs.YtkbefggjfggdgaaGreat

namespace Go.Proofs.YtkbefggjfggdgaaGreat
open Go.RowKit

theorem Sm.sh {k : List (List UInt8)} (h : Sm k) : Sh k := h.each
set_option maxRecDepth 100000 in
theorem noPath_any (p : List UInt8) (w : World) (hp : p.length ≤ 1000000000) : Calls Tryz.prog 29 #[.string (bs p)] w fun e w' => e = .returned (.bool (!okP p)) ∧ Below w.heap.size w w' := by
  obtain ⟨r, hr⟩ : ∃ r, okP p = r := ⟨_, rfl⟩
  rw [hr]
  have HR : Hid (okP p = r) := hr
  clear hr
  go_enter Tryz.func29, Tryz.ntmps29
  go_wp2_with fail
  refine (valid_any p w (by omega)).mono ?_
  rintro e w1 ⟨rfl, hb⟩
  rw [HR.out]
  have HB : Hid (Below w.heap.size w w1) := by first | exact hb | exact hb.below
  clear hb
  cases r
  · go_wp2_with fail
    go_ret
    exact ⟨rfl, HB.out⟩
  · go_wp2_with fail
    go_ret
    exact ⟨rfl, HB.out⟩
set_option maxRecDepth 100000 in
set_option maxHeartbeats 1000000 in
theorem cvalid_any {w : World} {v : Value} {k : List (List UInt8)} (h : SS w v k) (sm : Sm k) : Calls Tryz.prog 11 #[v] w fun e w' => e = .returned (.int .i64 (coneE k)) ∧ Below w.heap.size w w' := by
  have H : Hid (SS w v k ∧ Sm k) := ⟨h, sm⟩
  have HN : Hid (Calls Tryz.prog 28 #[v, .func (.func 29) #[] #[]] w fun e w' => e = .returned (.bool (k.any fun p => !okP p)) ∧ Below w.heap.size w w') :=
    containsN_any (fun p => !okP p) h (by have := sm.len; omega) (fun x hx W _ => noPath_any x W (sm.each x hx))
  rw [coneE_eq]
  obtain ⟨ak, ck, rfl⟩ := h.len2
  obtain ⟨n, hn⟩ : ∃ n, k.length = n := ⟨_, rfl⟩
  rw [hn] at H HN ⊢
  clear h sm hn
  obtain ⟨r, hr⟩ : ∃ r, (k.any fun p => !okP p) = r := ⟨_, rfl⟩
  rw [hr] at HN ⊢
  clear hr
  cases r
  · obtain ⟨s, hs⟩ : ∃ s, decide (hds (norm k) = k) = s := ⟨_, rfl⟩
    rw [hs]
    have HS : Hid (decide (hds (norm k) = k) = s) := hs
    clear hs
    go_enter Tryz.func11, Tryz.ntmps11
    go_wp2_with fail
    refine HN.out.mono ?_
    rintro e w1 ⟨rfl, hb1⟩
    have HB1 : Hid (Below w.heap.size w w1) := hb1
    clear hb1
    go_wp2_with fail
    refine (heads_any (H.out.1.later HB1.out) H.out.2).mono ?_
    rintro e w2 ⟨v2, rfl, ho2, hb2⟩
    obtain ⟨a2, c2, e2⟩ := ho2.bs.len2
    obtain ⟨m, hm⟩ : ∃ m, (hds (norm k)).length = m := ⟨_, rfl⟩
    rw [hm] at e2
    subst e2
    have HO : Hid (SS w2 (.slice a2 m c2) (hds (norm k)) ∧ Below w.heap.size w w2 ∧ (hds (norm k)).length ≤ 9223372036854775807) := ⟨ho2.bs, bstep HB1.out hb2, by
      have h1 := H.out.2.norm.hds.len
      omega⟩
    clear ho2 hb2 hm
    go_wp2_with fail
    refine (equalS_any HO.out.1 (H.out.1.later HO.out.2.1) HO.out.2.2).mono ?_
    rintro e w3 ⟨rfl, q, rfl⟩
    rw [HS.out]
    have HB3 : Hid (Below w.heap.size w (w2.drewN q)) := ⟨HO.out.2.1.os, HO.out.2.1.tape, HO.out.2.1.output, HO.out.2.1.size, HO.out.2.1.block⟩
    cases s
    · go_wp2_with fail
      go_ret
      exact ⟨rfl, HB3.out⟩
    · go_wp2_with fail
      go_ret
      exact ⟨rfl, HB3.out⟩
  · go_enter Tryz.func11, Tryz.ntmps11
    go_wp2_with fail
    refine HN.out.mono ?_
    rintro e w1 ⟨rfl, hb1⟩
    have HB1 : Hid (Below w.heap.size w w1) := hb1
    clear hb1
    go_wp2_with fail
    go_ret
    exact ⟨rfl, HB1.out⟩
set_option maxRecDepth 100000 in
set_option maxHeartbeats 1000000 in
theorem cover_any {w : World} {v : Value} {L : List (List UInt8)} (h : SS w v L) (sm : Sm L) : Calls Tryz.prog 9 #[v] w fun e w' => ∃ v', e = .returned v' ∧ Own w.heap.size w' v' (cov L) ∧ Below w.heap.size w w' := by
  have H : Hid (SS w v L ∧ Sm L) := ⟨h, sm⟩
  clear h sm
  go_enter Tryz.func9, Tryz.ntmps9
  go_wp2_with fail
  refine (dirs_any H.out.1 H.out.2).mono ?_
  rintro e w1 ⟨v1, rfl, ho1, hb1⟩
  obtain ⟨w2, hw2⟩ : ∃ w2, w1.alloc (.cells #[.string ⟨#[]⟩] 9) = w2 := ⟨_, rfl⟩
  have H2 : Hid (w1.alloc (.cells #[.string ⟨#[]⟩] 9) = w2 ∧ SS w2 v1 (drs L) ∧ SS w2 (.slice (some ⟨w1.heap.size, 0, none⟩) 1 1) [[]] ∧ Below w.heap.size w w2) := by
    have b2 : Below w1.heap.size w1 w2 := by rw [← hw2]; exact balloc _ _
    exact ⟨hw2, ho1.bs.later b2, by rw [← hw2]; exact ss_lit w1 [[]] 1 rfl, bstep hb1 b2⟩
  clear ho1 hb1 hw2
  go_wp2_with fail
  rw [H2.out.1]
  refine (minus_any H2.out.2.1 H2.out.2.2.1 (drs_sm H.out.2) ⟨by simp, by simp⟩).mono ?_
  rintro e w3 ⟨v3, rfl, ho3, hb3⟩
  have H3 : Hid (SS w3 v3 (som (drs L) [[]] false) ∧ Below w.heap.size w w3) := ⟨ho3.bs, bstep H2.out.2.2.2 hb3⟩
  clear ho3 hb3
  go_wp2_with fail
  refine (heads_any H3.out.1 ((drs_sm H.out.2).som _)).mono ?_
  rintro e w4 ⟨v4, rfl, ho4, hb4⟩
  rw [norm_up (up_som _ _ _)] at ho4
  have H4 : Hid (Own w.heap.size w4 v4 (cov L) ∧ Below w.heap.size w w4) := ⟨ho4.mono H3.out.2.size, bstep H3.out.2 hb4⟩
  clear ho4 hb4
  go_wp2_with fail
  go_ret
  exact ⟨v4, rfl, H4.out.1, H4.out.2⟩
theorem cc_any : CC where
  valid := cvalid_any
  shows := fun p h sm hp => shows_any p h sm sm.sh hp
  view := fun h sm hu sk => view_any cvalid_any h sm hu sk
  cover := cover_any
end Go.Proofs.YtkbefggjfggdgaaGreat
