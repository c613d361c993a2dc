/-
  The document's Sees.
-/
import Derived.Test.YtoldcbfmkibkdaaWord
namespace Go.Proofs.Ytoldcbfmkibkdaa
open Go.RowKit

set_option maxHeartbeats 4000000 in
theorem rsees_any {w : World} {v : Value} {l : List (List UInt8)} (own fr : List UInt8) (h : SS w v l) (hl : l.length ≤ 1000000000) (he : ∀ x ∈ l, x.length ≤ 1000000000) (hf : fr.length ≤ 1000000000) :
    Calls Try.prog 14 #[v, .string (bs own), .string (bs fr)] w fun e w' => e = .returned (.bool (ses l own fr)) ∧ Below w.heap.size w w' := by
  have e1 := bs_toList own
  have e2 := bs_toList fr
  unfold ses
  rw [← beq_dec]
  cases ho : (own == fr)
  rotate_left
  · rw [Bool.true_or]
    clear h hl he hf
    go_enter Try.func14, Try.ntmps14
    go_wp2_with fail
    go_ret
    exact ⟨rfl, Below.refl _ _⟩
  rw [Bool.false_or]
  obtain ⟨r, hr⟩ : ∃ r, (l.any fun s => nms (rdk s) fr) = r := ⟨_, rfl⟩
  rw [hr]
  have HR : Hid (((l.drop 0).any fun s => nms (rdk s) fr) = r) := hr
  have H : Hid (SS w v l) := h
  clear hr
  obtain ⟨a, c, rfl, _⟩ := h.form
  clear h
  rename_i hform
  clear hform
  obtain ⟨n, hn⟩ : ∃ n, l.length = n := ⟨_, rfl⟩
  have H' : Hid (SS w (.slice a l.length c) l) := H.out
  clear H
  rw [hn] at hl ⊢
  have HN : Hid (l.length = n) := hn
  have HK : Hid (∀ x ∈ l, ∀ w : World, Calls Try.prog 31 #[.string (bs x)] w fun e w' => e = .returned (wv (wrd x)) ∧ Below w.heap.size w w') := fun x hx w => word_any x w (he x hx)
  have HA : Hid (∀ x ∈ l, ∀ w : World, Calls Try.prog 32 #[.string (bs (wrd x).2), .string (bs fr)] w fun e w' => e = .returned (.bool (abvV (wrd x).2 fr)) ∧ Below w.heap.size w w') := fun x hx w => by
    have h := rabove_any (wrd x).2 fr w (Nat.le_trans (wrd_len x) (he x hx)) hf
    rw [← abvV_eq] at h; exact h
  clear hn he hf
  go_enter Try.func14, Try.ntmps14
  go_wp2_with fail
  go_loopw [7] (fun i wr => ∃ k : Nat, k ≤ n ∧ i = .int .i64 k ∧ Below w.heap.size w wr ∧ ((l.drop k).any fun s => nms (rdk s) fr) = r) (fun i _ => n - (intOf i).toNat)
  case atStart => exact ⟨0, by omega, rfl, Below.refl _ _, HR.out⟩
  case round =>
    obtain ⟨k, hk, rfl, hb, hd⟩ := hrel
    have HB : Hid (Below w.heap.size w wr) := hb
    have HD : Hid (((l.drop k).any fun s => nms (rdk s) fr) = r) := hd
    clear hd
    by_cases hlt : k < n
    · have hkl : k < l.length := by have := HN.out; omega
      obtain ⟨a', c', ev, hcell⟩ := (H'.out.later hb).form
      obtain ⟨b, off, ea, hbw, hc⟩ := hcell k hkl
      simp only [Value.slice.injEq] at ev
      obtain ⟨rfl, _, rfl⟩ := ev
      subst ea
      clear hcell hb
      obtain ⟨x, hx⟩ : ∃ x, l[k] = x := ⟨_, rfl⟩
      rw [hx] at hc
      have hm : x ∈ l := by rw [← hx]; exact List.getElem_mem _
      have HKx : Hid (∀ w : World, Calls Try.prog 31 #[.string (bs x)] w fun e w' => e = .returned (wv (wrd x)) ∧ Below w.heap.size w w') := HK.out x hm
      have HAx : Hid (∀ w : World, Calls Try.prog 32 #[.string (bs (wrd x).2), .string (bs fr)] w fun e w' => e = .returned (.bool (abvV (wrd x).2 fr)) ∧ Below w.heap.size w w') := HA.out x hm
      have HS : Hid ((nms (rdk x) fr || ((l.drop (k + 1)).any fun s => nms (rdk s) fr)) = r) := by
        have h1 := HD.out
        rw [List.drop_eq_getElem_cons hkl, List.any_cons, hx] at h1; exact h1
      have hz0 := (wrd_kin x fr).1.symm
      have hrg := wrd_range x
      generalize nms (rdk x) fr = z at *
      generalize wrd x = kp at *
      obtain ⟨kk, p⟩ := kp
      simp only [wv] at HKx HAx hz0 hrg
      generalize abvV p fr = av at *
      have ep := bs_toList p
      clear hx hm HD hkl
      have k1 : (0 : Int) ≤ (k : Int) := by omega
      have k2 : (k : Int) < (n : Int) := by omega
      have hkk : kk = 0 ∨ kk = 1 ∨ kk = 2 ∨ kk = 3 := by omega
      clear hrg
      rcases hkk with rfl | rfl | rfl | rfl
      · have hz : z = false := by rw [hz0]; simp
        clear HAx
        have HRF : Hid (((l.drop (k + 1)).any fun s => nms (rdk s) fr) = r) := by have h1 := HS.out; rw [hz, Bool.false_or] at h1; exact h1
        clear hz

        go_wp2_with fail
        refine (HKx.out _).mono ?_
        rintro e w1 ⟨rfl, hb1⟩
        have HB1 : Hid (Below w.heap.size w w1) := bstep HB.out hb1
        clear hb1

        go_wp2_with fail
        go_round
        case rel => exact ⟨k + 1, by omega, by simp, HB1.out, HRF.out⟩
        case measure => simp only [intOf]; omega

      · have hz : z = true := by rw [hz0]; simp
        clear HAx
        have HRT : Hid (r = true) := by have h1 := HS.out; rw [hz, Bool.true_or] at h1; exact h1.symm
        clear hz

        go_wp2_with fail
        refine (HKx.out _).mono ?_
        rintro e w1 ⟨rfl, hb1⟩
        have HB1 : Hid (Below w.heap.size w w1) := bstep HB.out hb1
        clear hb1

        go_wp2_with fail
        go_ret
        exact ⟨by rw [HRT.out]; rfl, HB1.out⟩

      · clear HAx
        by_cases hpf : p = fr
        · have hz : z = true := by rw [hz0]; simp [hpf]
          subst hpf
          have HRT : Hid (r = true) := by have h1 := HS.out; rw [hz, Bool.true_or] at h1; exact h1.symm
          clear hz

          go_wp2_with fail
          refine (HKx.out _).mono ?_
          rintro e w1 ⟨rfl, hb1⟩
          have HB1 : Hid (Below w.heap.size w w1) := bstep HB.out hb1
          clear hb1

          go_wp2_with fail
          go_ret
          exact ⟨by rw [HRT.out]; rfl, HB1.out⟩

        · have hz : z = false := by rw [hz0]; simp [hpf]
          have hpf' : (p == fr) = false := by simpa using hpf
          clear hpf
          have HRF : Hid (((l.drop (k + 1)).any fun s => nms (rdk s) fr) = r) := by have h1 := HS.out; rw [hz, Bool.false_or] at h1; exact h1
          clear hz

          go_wp2_with fail
          refine (HKx.out _).mono ?_
          rintro e w1 ⟨rfl, hb1⟩
          have HB1 : Hid (Below w.heap.size w w1) := bstep HB.out hb1
          clear hb1

          go_wp2_with fail
          go_round
          case rel => exact ⟨k + 1, by omega, by simp, HB1.out, HRF.out⟩
          case measure => simp only [intOf]; omega

      · by_cases hpf : p = fr
        · have hz : z = true := by rw [hz0]; simp [hpf]
          subst hpf
          clear HAx
          have HRT : Hid (r = true) := by have h1 := HS.out; rw [hz, Bool.true_or] at h1; exact h1.symm
          clear hz

          go_wp2_with fail
          refine (HKx.out _).mono ?_
          rintro e w1 ⟨rfl, hb1⟩
          have HB1 : Hid (Below w.heap.size w w1) := bstep HB.out hb1
          clear hb1

          go_wp2_with fail
          go_ret
          exact ⟨by rw [HRT.out]; rfl, HB1.out⟩

        · have hz : z = av := by rw [hz0]; simp [hpf]
          have hpf' : (p == fr) = false := by simpa using hpf
          clear hpf
          cases av
          · skip
            have HRF : Hid (((l.drop (k + 1)).any fun s => nms (rdk s) fr) = r) := by have h1 := HS.out; rw [hz, Bool.false_or] at h1; exact h1
            clear hz

            go_wp2_with fail
            refine (HKx.out _).mono ?_
            rintro e w1 ⟨rfl, hb1⟩
            have HB1 : Hid (Below w.heap.size w w1) := bstep HB.out hb1
            clear hb1

            go_wp2_with fail
            refine (HAx.out _).mono ?_
            rintro e w2 ⟨rfl, hb2⟩
            have HB2 : Hid (Below w.heap.size w w2) := bstep HB1.out hb2
            clear hb2

            go_wp2_with fail
            go_round
            case rel => exact ⟨k + 1, by omega, by simp, HB2.out, HRF.out⟩
            case measure => simp only [intOf]; omega

          · skip
            have HRT : Hid (r = true) := by have h1 := HS.out; rw [hz, Bool.true_or] at h1; exact h1.symm
            clear hz

            go_wp2_with fail
            refine (HKx.out _).mono ?_
            rintro e w1 ⟨rfl, hb1⟩
            have HB1 : Hid (Below w.heap.size w w1) := bstep HB.out hb1
            clear hb1

            go_wp2_with fail
            refine (HAx.out _).mono ?_
            rintro e w2 ⟨rfl, hb2⟩
            have HB2 : Hid (Below w.heap.size w w2) := bstep HB1.out hb2
            clear hb2

            go_wp2_with fail
            go_ret
            exact ⟨by rw [HRT.out]; rfl, HB2.out⟩

    · have hkn : k = n := by omega
      have HF : Hid (r = false) := by
        have h1 := HD.out
        rw [List.drop_eq_nil_of_le (by have := HN.out; omega)] at h1; exact h1.symm
      clear hb
      subst hkn
      go_wp2_with fail
      go_ret
      exact ⟨by rw [HF.out]; rfl, HB.out⟩
end Go.Proofs.Ytoldcbfmkibkdaa
