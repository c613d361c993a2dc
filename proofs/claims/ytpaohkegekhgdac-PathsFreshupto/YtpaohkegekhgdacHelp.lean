import Derived.Test.YtpaohkegekhgdacPkg
import Derived.Laws.BitsLemmas
namespace Go.Proofs.Ytpaohkegekhgdac
open Go.RowKit

theorem ss_lit (w : World) (l : List (List UInt8)) (n : Nat) (hn : n = l.length) : SS (w.alloc (.cells (sc l).toArray 9)) (.slice (some ⟨w.heap.size, 0, none⟩) n n) l := by
  subst hn
  refine .inr ⟨w.heap.size, 0, l.length, rfl, Nat.le_refl _, by simp, fun i u hu => ?_⟩
  simp
  simpa using hu

theorem wrap_small (k : Nat) (h : k ≤ 9223372036854775807) : IntKind.i64.wrap (k : Int) = (k : Int) := by rw [IntKind.wrap_i64]; omega

theorem norm_lit : norm [[97, 45, 98], [97, 47, 98], [97]] = [[97], [97, 47, 98], [97, 45, 98]] := by decide
theorem heads_lit : hds (norm [[97, 47, 98], [97]]) = [[97]] := by decide

set_option maxHeartbeats 2000000 in
set_option maxRecDepth 100000 in
theorem alive_any (w : World) : Calls Try.prog 10 #[] w fun e w' => e = .returned (.bool true) ∧ Below w.heap.size w w' := by
  obtain ⟨G, hG⟩ : ∃ G, w.heap.size = G := ⟨_, rfl⟩
  obtain ⟨w1, hw1⟩ : ∃ w1, w.alloc (.cells #[.string ⟨#[97, 45, 98]⟩, .string ⟨#[97, 47, 98]⟩, .string ⟨#[97]⟩] 9) = w1 := ⟨_, rfl⟩
  have S1 : Hid (SS w1 (.slice (some ⟨G, 0, none⟩) 3 3) [[97, 45, 98], [97, 47, 98], [97]] ∧ Below G w w1) := by
    rw [← hw1, ← hG]
    exact ⟨ss_lit w [[97, 45, 98], [97, 47, 98], [97]] 3 rfl, balloc _ _⟩
  have hz1 : G ≤ w1.heap.size := by have := S1.out.2.size; omega
  go_enter Try.func10, Try.ntmps10
  go_wp2_with fail
  clear hw1
  refine (norm_any S1.out.1 ⟨by simp, by simp⟩).mono ?_
  rintro e w2 ⟨v2, rfl, ho2, hb2⟩
  rw [norm_lit] at ho2
  have HO2 : Hid (SS w2 v2 [[97], [97, 47, 98], [97, 45, 98]]) := ho2.bs
  have HB2 : Hid (Below G w w2) := below_trans S1.out.2 (below_mono hb2 hz1)
  have hz2 : G ≤ w2.heap.size := by have := hb2.size; omega
  clear ho2 hb2
  obtain ⟨w3, hw3⟩ : ∃ w3, w2.alloc (.cells #[.string ⟨#[97]⟩, .string ⟨#[97, 47, 98]⟩, .string ⟨#[97, 45, 98]⟩] 9) = w3 := ⟨_, rfl⟩
  have S3 : Hid (SS w3 (.slice (some ⟨w2.heap.size, 0, none⟩) 3 3) [[97], [97, 47, 98], [97, 45, 98]] ∧ Below w2.heap.size w2 w3) := by
    rw [← hw3]
    exact ⟨ss_lit w2 [[97], [97, 47, 98], [97, 45, 98]] 3 rfl, balloc _ _⟩
  go_wp2_with fail
  clear hw3
  refine (same_any (HO2.out.later S3.out.2) S3.out.1 (by simp)).mono ?_
  rintro e w4 ⟨rfl, n4, rfl⟩
  have HB4 : Hid (Below G w (w3.drewN n4)) := by
    have := below_trans HB2.out (below_mono S3.out.2 hz2)
    exact ⟨this.os, this.tape, this.output, this.size, this.block⟩
  have hz4 : G ≤ (w3.drewN n4).heap.size := by have := HB4.out.size; omega
  obtain ⟨w5, hw5⟩ : ∃ w5, w3.drewN n4 = w5 := ⟨_, rfl⟩
  rw [hw5] at HB4 hz4 ⊢
  obtain ⟨w6, hw6⟩ : ∃ w6, w5.alloc (.cells #[.string ⟨#[98]⟩, .string ⟨#[97]⟩] 9) = w6 := ⟨_, rfl⟩
  have S6 : Hid (SS w6 (.slice (some ⟨w5.heap.size, 0, none⟩) 2 2) [[98], [97]] ∧ Below w5.heap.size w5 w6) := by
    rw [← hw6]
    exact ⟨ss_lit w5 [[98], [97]] 2 rfl, balloc _ _⟩
  have hz6 : G ≤ w6.heap.size := by have := S6.out.2.size; omega
  clear S3 HO2 hw5
  go_wp2_with fail
  clear hw6
  refine (has_any [97] S6.out.1 (by simp)).mono ?_
  rintro e w7 ⟨rfl, rfl⟩
  obtain ⟨w8, hw8⟩ : ∃ w8, w7.alloc (.cells #[.string ⟨#[97, 47, 98]⟩, .string ⟨#[97]⟩] 9) = w8 := ⟨_, rfl⟩
  have S8 : Hid (SS w8 (.slice (some ⟨w7.heap.size, 0, none⟩) 2 2) [[97, 47, 98], [97]] ∧ Below w7.heap.size w7 w8) := by
    rw [← hw8]
    exact ⟨ss_lit w7 [[97, 47, 98], [97]] 2 rfl, balloc _ _⟩
  have HB8 : Hid (Below G w w8) := below_trans (below_trans HB4.out (below_mono S6.out.2 hz4)) (below_mono S8.out.2 hz6)
  have hz8 : G ≤ w8.heap.size := by have := S8.out.2.size; omega
  go_wp2_with fail
  clear hw8
  refine (heads_any S8.out.1 ⟨by simp, by simp⟩).mono ?_
  rintro e w9 ⟨v9, rfl, ho9, hb9⟩
  rw [heads_lit] at ho9
  have HO9 : Hid (SS w9 v9 [[97]]) := ho9.bs
  have HB9 : Hid (Below G w w9) := below_trans HB8.out (below_mono hb9 hz8)
  have hz9 : G ≤ w9.heap.size := by have := hb9.size; omega
  clear ho9 hb9
  obtain ⟨wa, hwa⟩ : ∃ wa, w9.alloc (.cells #[.string ⟨#[97]⟩] 9) = wa := ⟨_, rfl⟩
  have Sa : Hid (SS wa (.slice (some ⟨w9.heap.size, 0, none⟩) 1 1) [[97]] ∧ Below w9.heap.size w9 wa) := by
    rw [← hwa]
    exact ⟨ss_lit w9 [[97]] 1 rfl, balloc _ _⟩
  go_wp2_with fail
  clear hwa
  refine (same_any (HO9.out.later Sa.out.2) Sa.out.1 (by simp)).mono ?_
  rintro e wz ⟨rfl, nz, rfl⟩
  have HBz : Hid (Below G w (wa.drewN nz)) := by
    have := below_trans HB9.out (below_mono Sa.out.2 hz9)
    exact ⟨this.os, this.tape, this.output, this.size, this.block⟩
  go_wp2_with fail
  go_ret
  exact ⟨rfl, by rw [hG]; exact HBz.out⟩

set_option maxHeartbeats 2000000 in
set_option maxRecDepth 100000 in
theorem rises_any {w : World} {v : Value} {L : List (List UInt8)} (h : SS w v L) (hu : Up L) (hl : L.length ≤ 8000000) (he : ∀ x ∈ L, x.length ≤ 1048576) :
    Calls Try.prog 11 #[v] w fun e w' => e = .returned (.bool true) ∧ Below w.heap.size w w' := by
  obtain ⟨a, c, n, hn, rfl, ca⟩ := h.form'
  have CA : Hid (∀ k, (hk : k < L.length) → ∃ b off, a = some ⟨b, off, none⟩ ∧ b < w.heap.size ∧ w.cell? ⟨b, off + k, none⟩ = some (.string (bs L[k]))) := ca
  have HN : Hid (n = L.length) := hn
  have HE : Hid (∀ x ∈ L, x.length ≤ 1048576) := he
  have HU : Hid (Up L) := hu
  have hnl : n ≤ 8000000 := by omega
  clear ca hn he hu h hl
  go_enter Try.func11, Try.ntmps11
  go_wp2_with fail
  go_loopw [3] (fun i wr => ∃ m : Nat, 1 ≤ m ∧ m ≤ n + 1 ∧ i = .int .i64 m ∧ Below w.heap.size w wr) (fun i _ => n + 1 - (intOf i).toNat)
  case atStart => exact ⟨1, by omega, by omega, rfl, Below.refl _ _⟩
  case round =>
    obtain ⟨m, hm1, hm, rfl, hbw⟩ := hrel
    have HBW : Hid (Below w.heap.size w wr) := hbw
    have hz := hbw.size
    clear hbw
    by_cases hlt : m < n
    · obtain ⟨k, hk⟩ : ∃ k, m = k + 1 := ⟨m - 1, by omega⟩
      have h1 : k < L.length := by have := HN.out; omega
      have h2 : m < L.length := by have := HN.out; omega
      obtain ⟨g1, o1, rfl, hg1, c1⟩ := CA.out k h1
      obtain ⟨g2, o2, e2, hg2, c2⟩ := CA.out m h2
      cases e2
      have hlt3 : cf (L[k]'h1) (L[m]'h2) < 0 := up_get HU.out (by omega) h2
      obtain ⟨p, hp⟩ : ∃ p, L[k]'h1 = p := ⟨_, rfl⟩
      obtain ⟨q, hq⟩ : ∃ q, L[m]'h2 = q := ⟨_, rfl⟩
      have hpl : p.length ≤ 1048576 := by rw [← hp]; exact HE.out _ (List.getElem_mem _)
      have hql : q.length ≤ 1048576 := by rw [← hq]; exact HE.out _ (List.getElem_mem _)
      rw [hp] at c1
      rw [hq] at c2
      rw [hp, hq] at hlt3
      obtain ⟨o, ho⟩ : ∃ o, cf p q = o := ⟨_, rfl⟩
      rw [ho] at hlt3
      have HC : Hid (∀ W : World, Calls Try.prog 26 #[.string (bs p), .string (bs q)] W fun e w' => e = .returned (.int .i64 o) ∧ Laid W w') := fun W => by
        rw [← ho]
        exact cmp_any p q W (by omega) (by omega)
      have d1 : wr.cell? ⟨g1, o1 + k, none⟩ = some (.string (bs p)) := by rw [HBW.out.cell (p := ⟨g1, o1 + k, none⟩) hg1]; exact c1
      have d2 : wr.cell? ⟨g1, o1 + m, none⟩ = some (.string (bs q)) := by rw [HBW.out.cell (p := ⟨g1, o1 + m, none⟩) hg1]; exact c2
      have hg4 : g1 < wr.heap.size := by omega
      have k1 : (0 : Int) ≤ (k : Int) := by omega
      have k2 : (k : Int) < (n : Int) := by omega
      have k3 : (m : Int) < (n : Int) := by omega
      have k4 : (0 : Int) ≤ (m : Int) := by omega
      have k5 : IntKind.i64.wrap ((m : Int) - 1) = (k : Int) := by
        have e : (m : Int) - 1 = (k : Int) := by omega
        rw [e]; exact wrap_small k (by omega)
      clear c1 c2 hp hq ho hk
      go_wp2_with fail
      go_region_held3 (fun w' => w'.cell? ⟨g1, o1 + k, none⟩ = some (.string (bs p)) ∧ w'.cell? ⟨g1, o1 + m, none⟩ = some (.string (bs q))) (first | go_keep | (exact ⟨(by rw [hb8.cell (p := ⟨g1, o1 + k, none⟩) hg4]; exact d1), (by rw [hb8.cell (p := ⟨g1, o1 + m, none⟩) hg4]; exact d2)⟩)) (first | (go_at_call 26; refine (HC.out _).mono ?_; rintro e w' ⟨rfl, hl9⟩; have hb8 : Below wr.heap.size wr w' := bstep (Below.refl _ _).drew hl9.below))
      have HB5 : Hid (Below w.heap.size w w') := bstep HBW.out hb8
      clear hb8 hl9 d1 d2 k5
      go_wp2_with fail
      go_roundw
      case rel => exact ⟨m + 1, by omega, by omega, by go_num, HB5.out⟩
      case measure => simp [intOf]; omega
    · go_wp2_with fail
      go_ret
      exact ⟨rfl, HBW.out⟩
end Go.Proofs.Ytpaohkegekhgdac
