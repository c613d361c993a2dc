import Derived.Test.YtpnlajbcbcheeabT12
namespace Go.Proofs.Ytpnlajbcbcheeab
open Go.RowKit

set_option maxHeartbeats 4000000 in
set_option maxRecDepth 100000 in
theorem parts_any (a b : List UInt8) (w : World) (ha : a.length ≤ 2000000) (hb : b.length ≤ 2000000) :
    Calls Try.prog 4 #[.string (bs a), .string (bs b)] w (Good w) := by
  have e0 : (bs a).toList.isEmpty = a.isEmpty := isE a
  have e1 : (bs b).toList.isEmpty = b.isEmpty := isE b
  have z1 : (bs a).size = a.length := rfl
  have z2 : (bs b).size = b.length := rfl
  have hde := dep_eq a
  have hjo := join_pcs a
  have hla := pcs_len a (by omega)
  have HML : Hid (∀ p ∈ pcs a, p.length ≤ a.length) := pcs_mem_le a
  have DB : Hid (1 < (pcs a).length → dir a ++ [47] ++ base a = a) := dir_base a
  have DB0 : Hid (¬ 1 < (pcs a).length → dir a = [] ∧ base a = a) := dir_base0 a
  have hem : (((pcs a).length : Int) == 0) = a.isEmpty := by
    cases a with
    | nil => rfl
    | cons x l =>
      have : (pcs (x :: l)).length ≠ 0 := fun h => by
        have := (pcs_eq_nil (x :: l)).1 (List.eq_nil_of_length_eq_zero h)
        cases this
      rw [List.isEmpty_cons, beq_eq_false_iff_ne]; omega
  have HOK : Hid (okP a = (decide (a.length ≤ 120) && decide ((pcs a).length ≤ 12) && (pcs a).all okC)) := by rw [dep_eq]; rfl
  obtain ⟨L, hL⟩ : ∃ L, pcs a = L := ⟨_, rfl⟩
  rw [hL] at hde hjo hla HML DB DB0 hem HOK
  have HJO : Hid (join L = a) := hjo
  have HEM : Hid (((L.length : Int) == 0) = a.isEmpty) := hem
  have HDE : Hid (L.length = dep a) := hde
  have HL : Hid (pcs a = L) := hL
  clear hjo hem hde hL
  go_enter Try.func4, Try.ntmps4
  go_wp2_with fail
  refine (split_any a _ (by omega)).mono ?_
  rintro e w1 ⟨v1, rfl, o1, b1⟩
  rw [HL.out] at o1
  obtain ⟨x, c, rfl, hcap⟩ := o1.cap
  have hz1 := b1.size
  have B1 : Hid (Below w.heap.size w w1) := b1
  have O1 : Hid (Own w.heap.size w1 (.slice x L.length c) L) := o1
  obtain ⟨x', c', e', hcell⟩ := o1.bs.form
  injection e' with e'1 e'2 e'3
  subst e'1
  have CA : Hid (∀ k, (hk : k < L.length) → ∃ b off, x = some ⟨b, off, none⟩ ∧ b < w1.heap.size ∧ w1.cell? ⟨b, off + k, none⟩ = some (.string (bs L[k]))) := hcell
  clear o1 b1 hcell e'2 e'3 c'
  go_wp2_with fail
  go_loop [6, 7] (fun s i => ∃ k : Nat, k ≤ L.length ∧ i = .int .i64 k ∧ s = .string (bs (join (L.take k)))) (fun _ i => L.length - (intOf i).toNat)
  case atStart => exact ⟨0, Nat.zero_le _, rfl, rfl⟩
  case round =>
    obtain ⟨k, hk, rfl, rfl⟩ := hrel
    by_cases hlt : k < L.length
    · obtain ⟨g1, o1, rfl, hg1, c1⟩ := CA.out k hlt
      have hs := join_take_snoc L k hlt
      have hb := join_take_le L (k + 1)
      rw [HJO.out] at hb
      by_cases h0 : k = 0
      · subst h0
        rw [if_pos rfl] at hs
        have HS : Hid (join (L.take (0 + 1)) = L[0]'hlt) := hs
        have hl : (L[0]'hlt).length ≤ 1000000000 := by rw [← hs]; omega
        have z1 : (bs (L[0]'hlt)).size = (L[0]'hlt).length := rfl
        have z2 : (bs (join [])).size = 0 := rfl
        have HA0 : Hid (bs (join []) ++ bs (L[0]'hlt) = bs (L[0]'hlt)) := bs_add [] _
        rw [Nat.add_zero] at c1
        clear hs hb
        go_wp2_with fail
        go_round
        case rel => exact ⟨1, by omega, by go_num, by rw [HA0.out, ← HS.out]⟩
        case measure => simp [intOf]; omega
      · rw [if_neg h0] at hs
        have HS : Hid (join (L.take (k + 1)) = join (L.take k) ++ 47 :: (L[k]'hlt)) := hs
        have hl : (join (L.take k)).length + 1 + (L[k]'hlt).length ≤ 1000000000 := by rw [hs] at hb; simp at hb; omega
        have z1 : (bs (L[k]'hlt)).size = (L[k]'hlt).length := rfl
        have z2 : (bs (join (L.take k))).size = (join (L.take k)).length := rfl
        have hk0 : 0 < k := by omega
        have HA0 : Hid (bs (join (L.take k)) ++ (ByteArray.mk #[47]) ++ bs (L[k]'hlt) = bs (join (L.take (k + 1)))) := by
          show _ = _
          rw [bs_add1, bs_add, hs]; simp
        clear hs hb
        go_wp2_with fail
        go_round
        case rel => exact ⟨k + 1, by omega, by go_num, by rw [HA0.out]⟩
        case measure => simp [intOf]; omega
    · obtain rfl : k = L.length := by omega
      rw [List.take_length, HJO.out]
      go_wp2_with fail
      refine (known_any _).mono ?_
      rintro e w2 ⟨rfl, b2⟩
      have B2 : Hid (Below w.heap.size w w2) := bstep B1.out b2
      have O2 : Hid (Own w.heap.size w2 (.slice x L.length c) L) := O1.out.later b2
      have hz2 := B2.out.size
      have CA2 : Hid (∀ k, (hk : k < L.length) → ∃ b off, x = some ⟨b, off, none⟩ ∧ b < w2.heap.size ∧ w2.cell? ⟨b, off + k, none⟩ = some (.string (bs L[k]))) := fun k hk => by
        obtain ⟨b, off, h1, h2, h3⟩ := CA.out k hk
        exact ⟨b, off, h1, Nat.lt_of_lt_of_le h2 b2.size, by rw [b2.cell (p := ⟨b, off + k, none⟩) h2]; exact h3⟩
      clear b2
      go_wp2_with fail
      refine (depth_any a _ (by omega)).mono ?_
      rintro e w3 ⟨rfl, rfl⟩
      rw [← HDE.out]
      have q := HEM.out
      go_upto_region 11 with fail
      exact t11 ha hb B2 O2 HL _ (by assumption)

theorem parts_say (a b : List UInt8) (w : World) (ha : a.length ≤ 2000000) (hb : b.length ≤ 2000000) :
    Calls Try.prog 4 #[.string (bs a), .string (bs b)] w fun e w' => e = .returned (.bool true) ∧ Below w.heap.size w w' := parts_any a b w ha hb
end Go.Proofs.Ytpnlajbcbcheeab
