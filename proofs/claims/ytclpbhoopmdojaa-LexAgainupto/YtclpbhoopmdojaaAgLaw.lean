/-
  Tokens again: the law LexAgain, walked.
-/
import Derived.Test.YtclpbhoopmdojaaQ7
namespace Go.Proofs.Ytclpbhoopmdojaa
open Go.RowKit

set_option maxRecDepth 100000 in
set_option maxHeartbeats 8000000 in
theorem lexAgain_any (s : List UInt8) (cut : Int) (cm : List UInt8) (w : World) (hs : s.length ≤ 10000000) (hcm : cm.length ≤ 10000000) : Calls Try.prog 3 #[.string (bs s), .int .i64 cut, .string (bs cm)] w fun e w' => GoodE w e w' := by
  have HT : Hid (∀ w : World, Calls Try.prog 7 #[.string (bs s)] w fun e w' => ∃ v, e = .returned (.tuple #[v, .int .i64 (toks s).2]) ∧ OwnT 26 w.heap.size w' v (toks s).1 ∧ Below w.heap.size w w') := fun w => tokens_any s w (by omega)
  obtain ⟨⟨L, E⟩, hT⟩ : ∃ S, toks s = S := ⟨_, rfl⟩
  rw [hT] at HT
  simp only at HT
  obtain ⟨n, hn⟩ : ∃ n, L.length = n := ⟨_, rfl⟩
  have hnl : n ≤ s.length := by
    have := tg_len s 0
    have e : tg s 0 = (L, E) := hT
    rw [e] at this
    simp only at this
    omega
  have hgd : ∀ t ∈ L, good t := tg_good L s 0 E hT
  have hpl : (pln L).length ≤ 2 * s.length := by
    have := pln_len s.length s 0 (Nat.le_refl _)
    have e : tg s 0 = (L, E) := hT
    rw [e] at this
    exact this
  have HN : Hid (L.length = n ∧ toks s = (L, E)) := ⟨hn, hT⟩
  have HPL : Hid (∀ k, (pln (L.take k)).length ≤ 2 * s.length) := fun k => by
    have := pln_append (L.take k) (L.drop k)
    rw [List.take_append_drop] at this
    rw [this, List.length_append] at hpl
    show _ ≤ _
    omega
  clear hT hgd hpl
  go_enter Try.func3, Try.ntmps3
  go_wp2_with fail
  refine (HT.out _).mono ?_
  rintro e w1 ⟨v1, rfl, ho1, hb1⟩
  obtain ⟨a, c, rfl⟩ := ho1.form
  rw [hn] at ho1 ⊢
  clear hn
  have X1 : Hid (TS w1 (.slice a n c) L ∧ Below w.heap.size w w1) := ⟨ho1.ts, hb1⟩
  clear ho1 hb1 HT
  go_wp2_with fail
  rename_i hK
  have HK : Hid _ := hK
  clear hK
  go_loop [9, 10] (fun u v => ∃ k : Nat, k ≤ n ∧ u = .string (bs (pln (L.take k))) ∧ v = .int .i64 k) (fun _ v => n - (intOf v).toNat)
  case atStart => exact ⟨0, by omega, rfl, rfl⟩
  case round =>
    obtain ⟨k, hk, rfl, rfl⟩ := hrel
    by_cases hlt : k < n
    · have hkl : k < L.length := by rw [HN.out.1]; exact hlt
      have k1 : (0 : Int) ≤ (k : Int) := by omega
      have k2 : (k : Int) < (n : Int) := by omega
      obtain ⟨b, o, rfl, _, c0, c1, c2⟩ := X1.out.1.at (Below.refl _ _) hkl
      have hq := HPL.out (k + 1)
      have e1 : pln (L.take (k + 1)) = pln (L.take k) ++ (L[k].text ++ [32]) := by
        rw [List.take_add_one, List.getElem?_eq_getElem hkl, Option.toList_some, pln_append]
        rfl
      obtain ⟨x, hx⟩ : ∃ x, L[k].text = x := ⟨_, rfl⟩
      rw [hx] at c1 e1
      obtain ⟨P, hP⟩ : ∃ P, pln (L.take k) = P := ⟨_, rfl⟩
      rw [hP] at e1 ⊢
      rw [e1] at hq
      simp only [List.length_append, List.length_cons, List.length_nil] at hq
      have z1 : (bs P).size = P.length := rfl
      have z2 : (bs x).size = x.length := rfl
      have HE : Hid (bs (pln (L.take (k + 1))) = bs P ++ bs x ++ ByteArray.mk #[32]) := by
        show bs (pln (L.take (k + 1))) = bs P ++ bs x ++ bs [32]
        rw [e1, bs_app, bs_app, List.append_assoc]
      clear hx hP e1 c0 c2
      go_wp2_with fail
      go_round
      case rel => exact ⟨k + 1, by omega, by rw [HE.out], by go_num⟩
      case measure => simp [intOf]; omega
    · obtain rfl : k = n := by omega
      have HE : Hid (pln (L.take k) = pln L) := by
        show pln (L.take k) = pln L
        rw [List.take_of_length_le (by rw [HN.out.1]; exact Nat.le_refl _)]
      go_wp2_with fail
      refine HK.out _ _ ?_
      clear HK
      rw [HE.out]
      exact q7 X1 HN.out.1 HN.out.2 hs hcm
end Go.Proofs.Ytclpbhoopmdojaa
