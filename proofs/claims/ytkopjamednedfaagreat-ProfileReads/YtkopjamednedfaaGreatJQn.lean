/-
  The document's examples.
  The law ProfileReads, of any text.
-/
import Derived.Test.YtkopjamednedfaaGreatQz
import Derived.Test.YtkopjamednedfaaGreatJCn
import Derived.Test.YtkopjamednedfaaGreatQe
namespace Go.Proofs.YtkopjamednedfaaGreat
open Go.RowKit Go.Maps
attribute [local go_sem] Oper.semAt_some

def ex1 : List UInt8 := [47, 42, 10, 33, 47, 42, 47, 10, 47, 97, 47, 10, 33, 47, 97, 47, 42, 47, 10, 47, 97, 47, 98, 47, 10, 47, 99, 47, 10]
def ex2 : List UInt8 := [47, 42, 10, 33, 47, 42, 47, 10, 47, 97, 47, 10]
theorem pwr_ex1 : pwr [[97, 47, 98], [99]] = (ex1, 0) := by kernel_rfl
theorem prd_ex2 : prd ex2 = ([[97]], 0) := by kernel_rfl
theorem pwr_ex3 : pwr [[98], [97]] = ([], 13) := by kernel_rfl
theorem sm_lit (k : List (List UInt8)) (h1 : k.length ≤ 10) (h2 : ∀ x ∈ k, x.length ≤ 10) : Sm k := ⟨by omega, fun x hx => by have := h2 x hx; omega⟩
set_option maxRecDepth 100000 in
set_option maxHeartbeats 4000000 in
theorem known_any (w : World) : Calls Tryz.prog 8 #[] w fun e w' => e = .returned (.bool true) ∧ Below w.heap.size w w' := by
  have HW1 : Hid (Calls Tryz.prog 7 #[.slice (some ⟨w.heap.size, 0, none⟩) 2 2] (w.alloc (.cells #[.string ⟨#[97, 47, 98]⟩, .string ⟨#[99]⟩] 9)) fun e w' => e = .returned (.tuple #[.string (bs ex1), .int .i64 0]) ∧ Below w.heap.size w w') := by
    have h := write_any (ss_lit w [[97, 47, 98], [99]] 2 rfl) (sm_lit _ (by decide) (by decide)) (by decide)
    rw [pwr_ex1] at h
    exact h.mono fun e w' ⟨h1, h2⟩ => ⟨h1, bstep (balloc _ _) h2⟩
  go_enter Tryz.func8, Tryz.ntmps8
  go_wp2_with fail
  refine HW1.out.mono ?_
  rintro e w1 ⟨rfl, hb1⟩
  have H1 := hid_of hb1
  clear hb1 HW1
  have HRD : Hid (Calls Tryz.prog 13 #[.string ⟨#[47, 42, 10, 33, 47, 42, 47, 10, 47, 97, 47, 10]⟩] w1 fun e w' => ∃ a c, e = .returned (.tuple #[.slice a 1 c, .int .i64 0]) ∧ SS w' (.slice a 1 c) [[97]] ∧ Below w.heap.size w w') := by
    have h := read_any ex2 w1 (by decide)
    rw [prd_ex2] at h
    refine h.mono fun e w' ⟨v, h1, h2, h3⟩ => ?_
    obtain ⟨a, c, ev, -⟩ := h2.bs.form
    have ev' : v = .slice a 1 c := ev
    subst ev'
    exact ⟨a, c, h1, h2.bs, bstep H1.out h3⟩
  go_wp2_with fail
  refine HRD.out.mono ?_
  rintro e w2 ⟨a, c, rfl, hs2, hb2⟩
  have H2 := hid_of (And.intro hs2 hb2)
  clear hs2 hb2 HRD
  have HW3 : Hid (Calls Tryz.prog 7 #[.slice (some ⟨w2.heap.size, 0, none⟩) 2 2] (w2.alloc (.cells #[.string ⟨#[98]⟩, .string ⟨#[97]⟩] 9)) fun e w' => e = .returned (.tuple #[.string (bs []), .int .i64 13]) ∧ Below w2.heap.size w2 w') := by
    have h := write_any (ss_lit w2 [[98], [97]] 2 rfl) (sm_lit _ (by decide) (by decide)) (by decide)
    rw [pwr_ex3] at h
    exact h.mono fun e w' ⟨h1, h2⟩ => ⟨h1, bstep (balloc _ _) h2⟩
  go_wp2_with fail
  refine HW3.out.mono ?_
  rintro e w3 ⟨rfl, hb3⟩
  have H3 : Hid (SS w3 (.slice a 1 c) [[97]] ∧ Below w.heap.size w w3) := ⟨H2.out.1.later hb3, bstep H2.out.2 hb3⟩
  clear hb3 HW3 H2
  have HSM : Hid (Calls Tryz.prog 14 #[.slice a 1 c, .slice (some ⟨w3.heap.size, 0, none⟩) 1 1] (w3.alloc (.cells #[.string ⟨#[97]⟩] 9)) fun e w' => e = .returned (.bool true) ∧ Below w.heap.size w w') := by
    have h := same_any (H3.out.1.later (balloc w3 _)) (ss_lit w3 [[97]] 1 rfl) (by decide)
    rw [decide_eq_true (rfl : ([[97]] : List (List UInt8)) = [[97]])] at h
    refine h.mono ?_
    rintro e w' ⟨h1, n, rfl⟩
    exact ⟨h1, bstep H3.out.2 (bstep (balloc _ _) (bd _ _))⟩
  have t1 : (bs ex1).toList = ex1 := bs_toList _
  have t2 : ((bs ex1).toList == ex1) = true := by rw [t1]; simp
  have t3 : (bs ex1) = ⟨#[47, 42, 10, 33, 47, 42, 47, 10, 47, 97, 47, 10, 33, 47, 97, 47, 42, 47, 10, 47, 97, 47, 98, 47, 10, 47, 99, 47, 10]⟩ := rfl
  rw [t3]
  go_wp2_with fail
  refine HSM.out.mono ?_
  rintro e w4 ⟨rfl, hb4⟩
  have H4 := hid_of hb4
  clear hb4
  go_wp2_with fail
  go_ret
  exact ⟨rfl, H4.out⟩
end Go.Proofs.YtkopjamednedfaaGreat

namespace Go.Proofs.YtkopjamednedfaaGreat
open Go.RowKit Go.Maps
attribute [local go_sem] Oper.semAt_some

theorem prd_big {s : List UInt8} (h : ¬ s.length ≤ 65536) : prd s = ([], 18) := by
  unfold prd
  rw [if_neg (fun h1 => h (pwr_ok h1).2.2)]
set_option maxRecDepth 100000 in
theorem read_w (s : List UInt8) (w : World) (hs : s.length ≤ 9223372036854775807) :
    Calls Tryz.prog 13 #[.string (bs s)] w fun e w' => ∃ v, e = .returned (.tuple #[v, .int .i64 (prd s).2]) ∧ Own w.heap.size w' v (prd s).1 ∧ Below w.heap.size w w' := by
  by_cases hb : s.length ≤ 65536
  · exact read_any s w (by omega)
  · have z1 : (bs s).size = s.length := rfl
    have b1 : (65536 : Int) < (s.length : Int) := by omega
    have HR := hid_of (prd_big hb)
    clear hb
    go_enter Tryz.func13, Tryz.ntmps13
    go_wp2_with fail
    go_ret2
    exact ⟨_, by rw [HR.out]; rfl, by rw [HR.out]; exact Own.nil _ _, Below.refl _ _⟩
set_option maxRecDepth 100000 in
theorem rread_w (s : List UInt8) (w : World) (hs : s.length ≤ 9223372036854775807) :
    Calls Tryz.prog 15 #[.string (bs s)] w fun e w' => ∃ v, e = .returned (.tuple #[v, .int .i64 (prd s).2]) ∧ Own w.heap.size w' v (prd s).1 ∧ Below w.heap.size w w' := by
  by_cases hb : s.length ≤ 65536
  · exact rread_any s w (by omega)
  · have z1 : (bs s).size = s.length := rfl
    have b1 : (65536 : Int) < (s.length : Int) := by omega
    have HR := hid_of (prd_big hb)
    clear hb
    go_enter Tryz.func15, Tryz.ntmps15
    go_wp2_with fail
    go_ret2
    exact ⟨_, by rw [HR.out]; rfl, by rw [HR.out]; exact Own.nil _ _, Below.refl _ _⟩
set_option maxRecDepth 100000 in
set_option maxHeartbeats 4000000 in
theorem reads_lawW (s : List UInt8) (w : World) (hs : s.length ≤ 9223372036854775807) : Calls Tryz.prog 5 #[.string (bs s)] w fun e w' => e = .returned (.bool true) ∧ Below w.heap.size w w' := by
  have HRR := hid_of (fun W => rread_w s W hs)
  have HRP := hid_of (fun W => read_w s W hs)
  obtain ⟨k, hk⟩ : ∃ k, (prd s).1 = k := ⟨_, rfl⟩
  obtain ⟨z, hz⟩ : ∃ z, (prd s).2 = z := ⟨_, rfl⟩
  rw [hk, hz] at HRR HRP
  have HP : Hid (prd s = (k, z)) := by show _ = _; rw [← hk, ← hz]
  have t1 : (bs s).toList = s := bs_toList _
  have t2 : (s == s) = true := by simp
  have HKS : Hid (Sm k) := by
    show Sm k
    rw [← hk, prd_lo]
    split
    · rename_i h
      exact lo_sm s h.1
    · exact ⟨by simp, fun x hx => by cases hx⟩
  obtain ⟨n, hn⟩ : ∃ n, k.length = n := ⟨_, rfl⟩
  have HN := hid_of hn
  have hnb : n ≤ 4000000 := by have := HKS.out.len; omega
  clear hk hz hs hn
  go_enter Tryz.func5, Tryz.ntmps5
  go_wp2_with fail
  refine (HRR.out w).mono ?_
  rintro e w1 ⟨v1, rfl, ho1, hb1⟩
  obtain ⟨a1, c1, ev1, -⟩ := ho1.bs.form
  rw [HN.out] at ev1
  have H1 : Hid (SS w1 v1 k ∧ Below w.heap.size w w1) := ⟨ho1.bs, hb1⟩
  subst ev1
  clear ho1 hb1 HRR
  go_wp2_with fail
  refine (HRP.out w1).mono ?_
  rintro e w2 ⟨v2, rfl, ho2, hb2⟩
  obtain ⟨a2, c2, ev2, -⟩ := ho2.bs.form
  rw [HN.out] at ev2
  have H2 : Hid (SS w2 v2 k ∧ SS w2 (.slice a1 n c1) k ∧ Below w.heap.size w w2) := ⟨ho2.bs, H1.out.1.later hb2, bstep H1.out.2 hb2⟩
  subst ev2
  clear ho2 hb2 HRP H1
  go_wp2_with fail
  refine (known_any w2).mono ?_
  rintro e w3 ⟨rfl, hb3⟩
  have H3 : Hid (SS w3 (.slice a2 n c2) k ∧ SS w3 (.slice a1 n c1) k ∧ Below w.heap.size w w3) := ⟨H2.out.1.later hb3, H2.out.2.1.later hb3, bstep H2.out.2.2 hb3⟩
  have HSM := hid_of (same_any H3.out.1 H3.out.2.1 (by have := HKS.out.len; omega))
  rw [decide_eq_true (rfl : k = k)] at HSM
  clear hb3 H2
  go_wp2_with fail
  refine HSM.out.mono ?_
  rintro e w4 ⟨rfl, q, ew4⟩
  have H4 : Hid (SS w4 (.slice a2 n c2) k ∧ Below w.heap.size w w4) := by
    rw [ew4]
    exact ⟨H3.out.1.later (bd _ _), bstep H3.out.2.2 (bd _ _)⟩
  clear ew4 HSM H3
  by_cases hz0 : z = 0
  · subst hz0
    have HWR := hid_of (write_any H4.out.1 HKS.out (by have := HKS.out.len; omega))
    rw [prd_ok HP.out] at HWR
    go_wp2_with fail
    refine HWR.out.mono ?_
    rintro e w5 ⟨rfl, hb5⟩
    have H5 := hid_of (bstep H4.out.2 hb5)
    clear hb5
    go_wp2_with fail
    go_ret
    exact ⟨rfl, H5.out⟩
  · have h1 : (z == 0) = false := by simpa using hz0
    go_wp2_with fail
    go_ret
    exact ⟨rfl, H4.out.2⟩
end Go.Proofs.YtkopjamednedfaaGreat
