/-
  The document's see words, and who sees.
-/
import Derived.Test.YtoldcbfmkibkdaaSees
import Derived.Test.YtoldcbfmkibkdaaRef
namespace Go.Proofs.Ytoldcbfmkibkdaa
open Go.RowKit

def wv (x : Int × List UInt8) : Value := .tuple #[.int .i64 x.1, .string (bs x.2)]
theorem c_ss : (ByteArray.mk #[47, 47]).toList = [47, 47] := ByteArray.toList_mk [47, 47]
theorem c_dots : (ByteArray.mk #[47, 46, 46, 46]).toList = dots := ByteArray.toList_mk dots

set_option maxHeartbeats 2000000 in
theorem word_any (s : List UInt8) (w : World) (hs : s.length ≤ 1000000000) : Calls Try.prog 31 #[.string (bs s)] w fun e w' => e = .returned (wv (wrd s)) ∧ Below w.heap.size w w' := by
  have e0 := bs_toList s
  have e1 := c_pub
  have e2 := c_adots
  have e3 := c_ss
  have e4 := c_dots
  have z0 : (bs s).size = s.length := rfl
  unfold wrd
  by_cases h1 : s = pub
  · have h1' : (s == pub) = true := by simpa using h1
    rw [if_pos (.inl h1)]
    clear h1 hs
    go_enter Try.func31, Try.ntmps31
    go_wp2_with fail
    go_ret2
    exact ⟨rfl, Below.refl _ _⟩
  have h1' : (s == pub) = false := by simpa using h1
  by_cases h2 : s = adots
  · have h2' : (s == adots) = true := by simpa using h2
    rw [if_pos (.inr h2)]
    clear h1 h2 hs
    go_enter Try.func31, Try.ntmps31
    go_wp2_with fail
    go_ret2
    exact ⟨rfl, Below.refl _ _⟩
  have h2' : (s == adots) = false := by simpa using h2
  rw [if_neg (by rintro (h | h); exact h1 h; exact h2 h)]
  clear h1 h2
  by_cases h3 : 2 ≤ s.length
  rotate_left
  · have hp : List.isPrefixOf [47, 47] s = false := by
      cases hh : List.isPrefixOf [47, 47] s
      · rfl
      · exact absurd ((take_eq_iff [47, 47] s).2 hh).2 h3
    rw [hp]
    simp only [Bool.false_eq_true, if_false]
    have h3' : (s.length : Int) < 2 := by omega
    clear h3 hp
    go_enter Try.func31, Try.ntmps31
    go_wp2_with fail
    go_ret2
    exact ⟨rfl, Below.refl _ _⟩
  have h3' : ¬ ((s.length : Int) < 2) := by omega
  have h3'' : (2 : Int) ≤ (s.length : Int) := by omega
  have E : (bs s).extract 0 2 = bs (s.take 2) := extract_to s 2
  have e5 := bs_toList (s.take 2)
  cases hp : List.isPrefixOf [47, 47] s
  · have h4 : (s.take 2 != [47, 47]) = true := by
      cases hh : (s.take 2 != [47, 47])
      · have h5 : s.take 2 = [47, 47] := by simpa using hh
        have := (take_eq_iff [47, 47] s).1 ⟨h5, h3⟩
        rw [this] at hp; cases hp
      · rfl
    have h4' : (s.take 2 == [47, 47]) = false := by simpa using h4
    simp only [Bool.false_eq_true, if_false]
    generalize s.take 2 = u at *
    clear hp h3
    go_enter Try.func31, Try.ntmps31
    go_wp2_with fail
    go_ret2
    exact ⟨rfl, Below.refl _ _⟩
  have h4 : s.take 2 = [47, 47] := ((take_eq_iff [47, 47] s).2 hp).1
  rw [h4] at E e5
  have e6 : (bs [47, 47]).toList = [47, 47] := bs_toList _
  simp only [if_true]
  obtain ⟨r, hr⟩ : ∃ r, s.drop 2 = r := ⟨_, rfl⟩
  have hrl : r.length ≤ 1000000000 := by rw [← hr]; simp; omega
  have E2 : (bs s).extract 2 s.length = bs r := by rw [← hr]; exact extract_from s 2
  rw [hr]
  have HV : Hid (∀ w : World, Calls Try.prog 33 #[.string (bs r)] w fun e w' => e = .returned (.bool (okP r)) ∧ Below w.heap.size w w') := fun w => rvalid_any r w hrl
  have z1 : (bs r).size = r.length := rfl
  clear h4 hp hr h3
  cases hv : okP r
  rotate_left
  · rw [hv] at HV
    simp only [if_true]
    clear hv hrl
    go_enter Try.func31, Try.ntmps31
    go_wp2_with fail
    refine (HV.out _).mono ?_
    rintro e w1 ⟨rfl, hb1⟩
    have B1 : Hid (Below w.heap.size w w1) := hb1
    clear hb1
    go_wp2_with fail
    go_ret2
    exact ⟨rfl, B1.out⟩
  rw [hv] at HV
  simp only [Bool.false_eq_true, if_false]
  clear hv
  by_cases h5 : 4 < r.length
  rotate_left
  · have h5' : ¬ (4 < (r.length : Int)) := by omega
    rw [if_neg (fun h => h5 h.1)]
    clear h5 hrl
    go_enter Try.func31, Try.ntmps31
    go_wp2_with fail
    refine (HV.out _).mono ?_
    rintro e w1 ⟨rfl, hb1⟩
    have B1 : Hid (Below w.heap.size w w1) := hb1
    clear hb1
    go_wp2_with fail
    go_ret2
    exact ⟨rfl, B1.out⟩
  have h5' : (4 : Int) < (r.length : Int) := by omega
  obtain ⟨n, hn⟩ : ∃ n, r.length - 4 = n := ⟨_, rfl⟩
  have c0 : (r.length : Int) - 4 = (n : Int) := by omega
  have c1 : (0 : Int) ≤ (n : Int) := by omega
  have c2 : (n : Int) ≤ (r.length : Int) := by omega
  have c3 : (n : Int) ≤ 1000000000 := by omega
  have c4 : (r.length : Int) ≤ 1000000000 := by omega
  rw [hn]
  have E3 : (bs r).extract n r.length = bs (r.drop n) := extract_from r n
  have E4 : (bs r).extract 0 n = bs (r.take n) := extract_to r n
  have e7 := bs_toList (r.drop n)
  have HV2 : Hid (∀ w : World, Calls Try.prog 33 #[.string (bs (r.take n))] w fun e w' => e = .returned (.bool (okP (r.take n))) ∧ Below w.heap.size w w') := fun w => rvalid_any (r.take n) w (by simp; omega)
  by_cases h6 : r.drop n = dots
  rotate_left
  · have h6' : (r.drop n == dots) = false := by simpa using h6
    rw [if_neg (fun h => h6 h.2.1)]
    clear h6 h5 hrl hn HV2 E4
    generalize r.drop n = u at *
    go_enter Try.func31, Try.ntmps31
    go_wp2_with fail
    refine (HV.out _).mono ?_
    rintro e w1 ⟨rfl, hb1⟩
    have B1 : Hid (Below w.heap.size w w1) := hb1
    clear hb1
    go_wp2_with fail
    go_ret2
    exact ⟨rfl, B1.out⟩
  rw [h6] at E3 e7
  generalize r.take n = t at *
  cases hv2 : okP t
  · rw [hv2] at HV2
    rw [if_neg (fun h => by have := h.2.2; simp at this)]
    clear hrl hn hv2 h5 h6
    go_enter Try.func31, Try.ntmps31
    go_wp2_with fail
    refine (HV.out _).mono ?_
    rintro e w1 ⟨rfl, hb1⟩
    have B1 : Hid (Below w.heap.size w w1) := hb1
    clear hb1
    go_wp2_with fail
    refine (HV2.out _).mono ?_
    rintro e w2 ⟨rfl, hb2⟩
    have B2 : Hid (Below w.heap.size w w2) := bstep B1.out hb2
    clear hb2
    go_wp2_with fail
    go_ret2
    exact ⟨rfl, B2.out⟩
  · rw [hv2] at HV2
    rw [if_pos ⟨h5, h6, rfl⟩]
    clear hrl hn hv2 h5 h6
    go_enter Try.func31, Try.ntmps31
    go_wp2_with fail
    refine (HV.out _).mono ?_
    rintro e w1 ⟨rfl, hb1⟩
    have B1 : Hid (Below w.heap.size w w1) := hb1
    clear hb1
    go_wp2_with fail
    refine (HV2.out _).mono ?_
    rintro e w2 ⟨rfl, hb2⟩
    have B2 : Hid (Below w.heap.size w w2) := bstep B1.out hb2
    clear hb2
    go_wp2_with fail
    go_region
    go_wp2_with fail
    go_ret2
    exact ⟨rfl, B2.out.drew⟩

theorem wrd_range (s : List UInt8) : 0 ≤ (wrd s).1 ∧ (wrd s).1 ≤ 3 := by
  unfold wrd
  split
  · simp
  split
  · split
    · simp
    split
    · simp
    · simp
  · simp
theorem wrd_len (s : List UInt8) : (wrd s).2.length ≤ s.length := by
  unfold wrd
  split
  · simp
  split
  · split
    · simp
    split
    · simp; omega
    · simp
  · simp
set_option maxHeartbeats 1000000 in
theorem rseer_any (s : List UInt8) (w : World) (hs : s.length ≤ 1000000000) : Calls Try.prog 13 #[.string (bs s)] w fun e w' => e = .returned (.bool (ser s)) ∧ Below w.heap.size w w' := by
  have HK : Hid (∀ w : World, Calls Try.prog 31 #[.string (bs s)] w fun e w' => e = .returned (wv (wrd s)) ∧ Below w.heap.size w w') := fun w => word_any s w hs
  rw [← (wrd_kin s []).2]
  generalize wrd s = x at *
  obtain ⟨k, p⟩ := x
  simp only [wv] at HK ⊢
  clear hs
  go_enter Try.func13, Try.ntmps13
  go_wp2_with fail
  refine (HK.out _).mono ?_
  rintro e w1 ⟨rfl, hb1⟩
  have B1 : Hid (Below w.heap.size w w1) := hb1
  clear hb1
  go_wp2_with fail
  go_ret
  exact ⟨rfl, B1.out⟩
end Go.Proofs.Ytoldcbfmkibkdaa
