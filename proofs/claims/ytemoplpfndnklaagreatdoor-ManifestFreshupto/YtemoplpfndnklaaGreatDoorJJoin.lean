/-
  The document's labels: Valid, Print, Cmp.
  The last slash, what lies ahead of it and behind it, two paths joined: the program's and the document's.
-/
import Derived.Test.YtemoplpfndnklaaGreatDoorJCmp
import Derived.Test.YtemoplpfndnklaaGreatDoorRef
namespace Go.Proofs.YtemoplpfndnklaaGreatDoor
open Go.RowKit

/-- texts that are short -/
structure Lu (l : Lb) : Prop where
  pkg : l.pkg.length ≤ 1000000000
  name : l.name.length ≤ 1000000000
theorem Lu.lm {l : Lb} (h : Lu l) : Lm l := ⟨by have := h.pkg; omega, by have := h.name; omega⟩
set_option maxHeartbeats 1000000 in
theorem rlvalid_any (l : Lb) (w : World) (hl : Lu l) : Calls Tryz.prog 77 #[l.val] w fun e w' => e = .returned (.bool (okL l)) ∧ Below w.heap.size w w' := by
  obtain ⟨p, n⟩ := l
  have h1 := hl.pkg
  have h2 := hl.name
  simp only at h1 h2
  have HV : Hid (∀ w : World, Calls Tryz.prog 28 #[.string (bs p)] w fun e w' => e = .returned (.bool (okP p)) ∧ Below w.heap.size w w') := fun w => rvalid_any p w (by omega)
  have HC : Hid (∀ w : World, Calls Tryz.prog 49 #[.string (bs n)] w fun e w' => e = .returned (.bool (okC n)) ∧ w' = w) := fun w => rcomponent_any n w (by omega)
  clear h1 h2 hl
  simp only [Lb.val, okL]
  have hR := RB.new w ⟨p, n⟩
  cases hp : okP p
  · rw [hp] at HV
    go_enter Tryz.func77, Tryz.ntmps77
    go_wp2_with fail
    refine (HV.out _).mono ?_
    rintro e w1 ⟨rfl, hb1⟩
    have HB : Hid (Below w.heap.size w w1) := bstep (balloc w _) hb1
    clear hb1
    go_wp2_with fail
    go_ret
    exact ⟨rfl, HB.out⟩
  · rw [hp] at HV
    have HRR : Hid (RB (w.alloc (.cells #[.string (bs p), .string (bs n)] 58)) w.heap.size ⟨p, n⟩) := hR
    clear hR
    go_enter Tryz.func77, Tryz.ntmps77
    go_wp2_with fail
    refine (HV.out _).mono ?_
    rintro e w1 ⟨rfl, hb1⟩
    obtain ⟨c0, c1, _, _⟩ := (HRR.out.later hb1).cells
    simp only at c0 c1
    have HB : Hid (Below w.heap.size w w1) := bstep (balloc w _) hb1
    clear hb1
    go_wp2_with fail
    refine (HC.out _).mono ?_
    rintro e w2 ⟨rfl, rfl⟩
    go_wp2_with fail
    go_ret
    exact ⟨rfl, HB.out⟩

set_option maxHeartbeats 1000000 in
theorem rlprint_any (l : Lb) (w : World) (hl : Lu l) : Calls Tryz.prog 56 #[l.val] w fun e w' => e = .returned (.string (bs (prt l))) ∧ Below w.heap.size w w' := by
  obtain ⟨p, n⟩ := l
  have h1 := hl.pkg
  have h2 := hl.name
  simp only at h1 h2
  clear hl
  have z1 : (bs p).size = p.length := rfl
  have z2 : (bs n).size = n.length := rfl
  simp only [Lb.val]
  have HE : Hid (bs (prt ⟨p, n⟩) = (ByteArray.mk #[47, 47] ++ bs p) ++ ByteArray.mk #[58] ++ bs n) := by
    show bs (prt ⟨p, n⟩) = (bs [47, 47] ++ bs p) ++ bs [58] ++ bs n
    rw [bs_app, bs_app, bs_app]; simp [prt]
  go_enter Tryz.func56, Tryz.ntmps56
  go_wp2_with fail
  go_ret
  exact ⟨by rw [HE.out]; rfl, balloc _ _⟩


/-- less, by the bytes -/
theorem cb_less : ∀ (a b : List UInt8), Op.bytesLess a b = decide (Lib.compareBytes a b = -1)
  | [], [] => by simp [Op.bytesLess, Lib.compareBytes]
  | [], _ :: _ => by simp [Op.bytesLess, Lib.compareBytes]
  | _ :: _, [] => by simp [Op.bytesLess, Lib.compareBytes]
  | a :: x, b :: y => by
    have ih := cb_less x y
    unfold Op.bytesLess Lib.compareBytes
    rw [ih]
    by_cases h1 : a < b
    · simp [h1]
    · by_cases h2 : b < a
      · have h3 : (a == b) = false := by
          rw [beq_eq_false_iff_ne]; rintro rfl; exact h1 h2
        simp [h1, h2, h3]
      · have h3 : a = b := by
          apply UInt8.toNat_inj.1
          have g1 : ¬ a.toNat < b.toNat := fun h => h1 (UInt8.lt_iff_toNat_lt.2 h)
          have g2 : ¬ b.toNat < a.toNat := fun h => h2 (UInt8.lt_iff_toNat_lt.2 h)
          omega
        subst h3
        simp [h1]
end Go.Proofs.YtemoplpfndnklaaGreatDoor

namespace Go.Proofs.YtemoplpfndnklaaGreatDoor
open Go.RowKit

theorem bs_add (a b : List UInt8) : bs a ++ bs b = bs (a ++ b) := bs_app a b
theorem bs_add1 (a : List UInt8) (x : UInt8) : bs a ++ ⟨#[x]⟩ = bs (a ++ [x]) := bs_app a [x]

set_option maxHeartbeats 1000000 in
set_option maxRecDepth 100000 in
theorem lastB_any (l : List UInt8) (w : World) (hm : l.length ≤ 9223372036854775807) :
    Calls Tryz.prog 139 #[.string (bs l), .int .u8 47] w fun e w' => e = .returned (.int .i64 (lst l)) ∧ w' = w := by
  have hz : (bs l).size = l.length := rfl
  go_enter Tryz.func139, Tryz.ntmps139
  go_wp2_with fail
  go_loop [5] (fun i => ∃ k : Nat, k ≤ l.length ∧ i = .int .i64 ((k : Int) - 1) ∧ ∀ j : Nat, k ≤ j → l[j]? ≠ some 47) (fun i => (intOf i + 1).toNat)
  case atStart => exact ⟨l.length, Nat.le_refl _, rfl, fun j hj => by rw [List.getElem?_eq_none hj]; simp⟩
  case round =>
    obtain ⟨k, hk, rfl, hno⟩ := hrel
    have HN : Hid (∀ j : Nat, k ≤ j → l[j]? ≠ some 47) := hno
    clear hno
    rcases k with _ | k
    · go_wp2_with fail
      go_ret
      exact ⟨by rw [lst_miss l (fun j => HN.out j (Nat.zero_le _))]; rfl, rfl⟩
    · have hkl : k < l.length := by omega
      by_cases hc : l[k]'hkl = 47
      · have hkz : k < (bs l).size := hkl
        have e1 : (((bs l)[k].toNat : Int) == 47) = true := by rw [bs_get _ _ _ hkl, hc]; rfl
        go_wp2_with fail
        go_ret
        exact ⟨by rw [lst_hit l k (by rw [List.getElem?_eq_getElem hkl, hc]) (fun j hj => HN.out j hj)]; rfl, rfl⟩
      · have hkz : k < (bs l).size := hkl
        have e1 : (((bs l)[k].toNat : Int) == 47) = false := by
          rw [bs_get _ _ _ hkl, beq_eq_false_iff_ne]; intro e; apply hc; apply UInt8.toNat_inj.1; exact Int.ofNat.inj e
        go_wp2_with fail
        go_round
        case rel =>
          refine ⟨k, by omega, rfl, fun j hj => ?_⟩
          by_cases hjk : j = k
          · subst hjk; rw [List.getElem?_eq_getElem hkl]; simpa using hc
          · exact HN.out j (by omega)
        case measure => simp only [intOf]; omega


set_option maxHeartbeats 1000000 in
set_option maxRecDepth 100000 in
theorem last_any (l : List UInt8) (w : World) (hm : l.length ≤ 9223372036854775807) :
    Calls Tryz.prog 134 #[.string (bs l), .string (bs [47])] w fun e w' => e = .returned (.int .i64 (lst l)) ∧ w' = w := by
  have hz : (bs [47]).size = 1 := rfl
  have HM : Hid (l.length ≤ 9223372036854775807) := hm
  clear hm
  go_enter Tryz.func134, Tryz.ntmps134
  go_wp2_with fail
  refine (lastB_any _ _ HM.out).mono ?_
  rintro e w1 ⟨rfl, rfl⟩
  go_wp2_with fail
  go_ret
  exact ⟨rfl, rfl⟩


set_option maxHeartbeats 1000000 in
theorem base_any (l : List UInt8) (w : World) (hl : l.length ≤ 9223372036854775807) :
    Calls Tryz.prog 122 #[.string (bs l)] w fun e w' => e = .returned (.string (bs (base l))) ∧ w' = w := by
  have HL : Hid (l.length ≤ 9223372036854775807) := hl
  have hz : (bs l).size = l.length := rfl
  have h2 := lst_lt l
  have h3 := lst_ge l
  obtain ⟨n, hn⟩ : ∃ n : Nat, lst l = (n : Int) - 1 := ⟨(lst l + 1).toNat, by omega⟩
  have hd0 : base l = l.drop n := by unfold base; congr 1; omega
  rw [hd0]
  have HE : Hid ((bs l).extract n l.length = bs (l.drop n)) := extract_from l n
  have hnl : n ≤ l.length := by omega
  clear h2 h3
  go_enter Tryz.func122, Tryz.ntmps122
  go_wp2_with fail
  refine (last_any _ _ HL.out).mono ?_
  rintro e w1 ⟨rfl, rfl⟩
  rw [hn]
  go_wp2_with fail
  go_ret
  exact ⟨by rw [← HE.out]; rfl, rfl⟩


set_option maxHeartbeats 1000000 in
set_option maxRecDepth 100000 in
theorem join_any (a b : List UInt8) (w : World) (ha : a.length < 9223372036854775807) (hb : b.length < 9223372036854775807) :
    Calls Tryz.prog 121 #[.string (bs a), .string (bs b)] w fun e w' => e = .returned (.tuple #[.string (bs (jn a b).1), .int .i64 (jn a b).2]) ∧ Below w.heap.size w w' := by
  have e0 : (bs a).toList.isEmpty = a.isEmpty := isE a
  have e1 : (bs b).toList.isEmpty = b.isEmpty := isE b
  obtain ⟨j, hj⟩ : ∃ j, jn a b = j := ⟨_, rfl⟩
  rw [hj]
  have HJ : Hid (jn a b = j) := hj
  clear hj
  have HL : Hid (a.length < 9223372036854775807 ∧ b.length < 9223372036854775807) := ⟨ha, hb⟩
  clear ha hb
  go_enter Tryz.func121, Tryz.ntmps121
  go_wp2_with fail
  refine (valid_any _ _ HL.out.1).mono ?_
  rintro e w1 ⟨rfl, hb1⟩
  have B1 : Hid (Below w.heap.size w w1) := hb1
  have hz1 := hb1.size
  clear hb1
  cases h1 : okP a
  · have hj := HJ.out
    have hj : ([], 7) = j := by rw [← hj]; simp [jn, h1]
    subst hj
    go_wp2_with fail
    go_ret2
    exact ⟨rfl, B1.out⟩
  go_wp2_with fail
  refine (valid_any _ _ HL.out.2).mono ?_
  rintro e w2 ⟨rfl, hb2⟩
  have B2 : Hid (Below w.heap.size w w2) := below_trans B1.out (below_mono hb2 hz1)
  have hz2 := B2.out.size
  clear hb2
  cases h2 : okP b
  · have hj := HJ.out
    have hj : ([], 7) = j := by rw [← hj]; simp [jn, h2]
    subst hj
    go_wp2_with fail
    go_ret2
    exact ⟨rfl, B2.out⟩
  have hj := HJ.out
  have hj : (if a = [] then (b, (0 : Int)) else if b = [] then (a, 0) else if okP (a ++ 47 :: b) = true then (a ++ 47 :: b, 0) else ([], 7)) = j := by rw [← hj]; simp [jn, h1, h2]
  have la : a.length ≤ 120 := by unfold okP at h1; simp only [Bool.and_eq_true, decide_eq_true_eq] at h1; exact h1.1.1
  have lb : b.length ≤ 120 := by unfold okP at h2; simp only [Bool.and_eq_true, decide_eq_true_eq] at h2; exact h2.1.1
  by_cases h3 : a = []
  · rw [if_pos h3] at hj
    subst hj
    subst h3
    go_wp2_with fail
    go_ret2
    exact ⟨rfl, B2.out⟩
  rw [if_neg h3] at hj
  have i0 : a.isEmpty = false := by cases a; exact absurd rfl h3; rfl
  rw [i0] at e0
  by_cases h4 : b = []
  · rw [if_pos h4] at hj
    subst hj
    subst h4
    go_wp2_with fail
    go_ret2
    exact ⟨rfl, B2.out⟩
  rw [if_neg h4] at hj
  have i1 : b.isEmpty = false := by cases b; exact absurd rfl h4; rfl
  rw [i1] at e1
  have z1 : (bs a).size = a.length := rfl
  have z2 : (bs b).size = b.length := rfl
  have hcat : bs a ++ (ByteArray.mk #[47]) ++ bs b = bs (a ++ 47 :: b) := by
    have : (ByteArray.mk #[47]) = bs [47] := rfl
    rw [this, bs_add, bs_add]; simp
  have HC : Hid (bs a ++ (ByteArray.mk #[47]) ++ bs b = bs (a ++ 47 :: b)) := hcat
  clear hcat
  go_wp2_with fail
  rw [HC.out]
  refine (valid_any _ _ (by simp; omega)).mono ?_
  rintro e w3 ⟨rfl, hb3⟩
  have B3 : Hid (Below w.heap.size w w3) := below_trans B2.out (below_mono hb3 hz2)
  clear hb3
  cases h5 : okP (a ++ 47 :: b)
  · rw [h5] at hj
    have hj : ([], (7 : Int)) = j := by rw [← hj]; rfl
    subst hj
    go_wp2_with fail
    go_ret2
    exact ⟨rfl, B3.out⟩
  · rw [h5] at hj
    have hj : (a ++ 47 :: b, (0 : Int)) = j := by rw [← hj]; rfl
    subst hj
    go_wp2_with fail
    go_ret2
    exact ⟨rfl, B3.out⟩

set_option maxHeartbeats 1000000 in
theorem rlast_any (l : List UInt8) (w : World) (hm : l.length < 9223372036854775807) :
    Calls Tryz.prog 132 #[.string (bs l)] w fun e w' => e = .returned (.int .i64 (lst l)) ∧ w' = w := by
  have hz : (bs l).size = l.length := rfl
  go_enter Tryz.func132, Tryz.ntmps132
  go_wp2_with fail
  go_loop [3, 4] (fun a i => ∃ k : Nat, k ≤ l.length ∧ i = .int .i64 k ∧ a = .int .i64 (lst (l.take k))) (fun _ i => l.length - (intOf i).toNat)
  case atStart => exact ⟨0, Nat.zero_le _, rfl, rfl⟩
  case round =>
    obtain ⟨k, hk, rfl, rfl⟩ := hrel
    by_cases hlt : k < l.length
    · have hkz : k < (bs l).size := hlt
      have hs : l.take (k + 1) = l.take k ++ [l[k]'hlt] := by rw [List.take_add_one, List.getElem?_eq_getElem hlt]; rfl
      have hl := lst_snoc (l.take k) (l[k]'hlt)
      rw [← hs, List.length_take, Nat.min_eq_left hk] at hl
      by_cases hc : l[k]'hlt = 47
      · have e1 : (((bs l)[k].toNat : Int) == 47) = true := by rw [bs_get _ _ _ hlt, hc]; rfl
        rw [if_pos hc] at hl
        have HL : Hid (lst (l.take (k + 1)) = k) := hl
        clear hl hs
        go_wp2_with fail
        go_round
        case rel => exact ⟨k + 1, by omega, by go_num, by rw [HL.out]⟩
        case measure => simp [intOf]; omega
      · have e1 : (((bs l)[k].toNat : Int) == 47) = false := by
          rw [bs_get _ _ _ hlt, beq_eq_false_iff_ne]; intro e; apply hc; apply UInt8.toNat_inj.1; exact Int.ofNat.inj e
        rw [if_neg hc] at hl
        have HL : Hid (lst (l.take (k + 1)) = lst (l.take k)) := hl
        clear hl hs
        go_wp2_with fail
        go_round
        case rel => exact ⟨k + 1, by omega, by go_num, by rw [HL.out]⟩
        case measure => simp [intOf]; omega
    · obtain rfl : k = l.length := by omega
      rw [List.take_length]
      go_wp2_with fail
      go_ret
      exact ⟨rfl, rfl⟩


set_option maxHeartbeats 1000000 in
theorem rdir_any (l : List UInt8) (w : World) (hl : l.length < 9223372036854775807) :
    Calls Tryz.prog 131 #[.string (bs l)] w fun e w' => e = .returned (.string (bs (dir l))) ∧ w' = w := by
  have HL : Hid (l.length < 9223372036854775807) := hl
  clear hl
  have hz : (bs l).size = l.length := rfl
  have h2 := lst_lt l
  by_cases h : lst l < 0
  · have hd0 : dir l = [] := by simp [dir, h]
    rw [hd0]
    go_enter Tryz.func131, Tryz.ntmps131
    go_wp2_with fail
    refine (rlast_any _ _ HL.out).mono ?_
    rintro e w1 ⟨rfl, rfl⟩
    go_wp2_with fail
    go_ret
    exact ⟨rfl, rfl⟩
  · obtain ⟨n, hn⟩ : ∃ n : Nat, lst l = n := ⟨(lst l).toNat, by omega⟩
    have hd0 : dir l = l.take n := by unfold dir; rw [if_neg h, hn]; rfl
    rw [hd0]
    have HE : Hid ((bs l).extract 0 n = bs (l.take n)) := extract_to l n
    rw [hn] at h h2
    go_enter Tryz.func131, Tryz.ntmps131
    go_wp2_with fail
    refine (rlast_any _ _ HL.out).mono ?_
    rintro e w1 ⟨rfl, rfl⟩
    rw [hn]
    have h3 : n < l.length := by omega
    go_wp2_with fail
    go_ret
    exact ⟨by rw [← HE.out]; rfl, rfl⟩


set_option maxHeartbeats 1000000 in
theorem rbase_any (l : List UInt8) (w : World) (hl : l.length < 9223372036854775807) :
    Calls Tryz.prog 115 #[.string (bs l)] w fun e w' => e = .returned (.string (bs (base l))) ∧ w' = w := by
  have HL : Hid (l.length < 9223372036854775807) := hl
  have hz : (bs l).size = l.length := rfl
  have h2 := lst_lt l
  have h3 := lst_ge l
  obtain ⟨n, hn⟩ : ∃ n : Nat, lst l = (n : Int) - 1 := ⟨(lst l + 1).toNat, by omega⟩
  have hd0 : base l = l.drop n := by unfold base; congr 1; omega
  rw [hd0]
  have HE : Hid ((bs l).extract n l.length = bs (l.drop n)) := extract_from l n
  have hnl : n ≤ l.length := by omega
  clear h2 h3
  go_enter Tryz.func115, Tryz.ntmps115
  go_wp2_with fail
  refine (rlast_any _ _ HL.out).mono ?_
  rintro e w1 ⟨rfl, rfl⟩
  rw [hn]
  go_wp2_with fail
  go_ret
  exact ⟨by rw [← HE.out]; rfl, rfl⟩


set_option maxHeartbeats 1000000 in
set_option maxRecDepth 100000 in
theorem rjoin_any (a b : List UInt8) (w : World) (ha : a.length ≤ 2000000) (hb : b.length ≤ 2000000) :
    Calls Tryz.prog 114 #[.string (bs a), .string (bs b)] w fun e w' => e = .returned (.tuple #[.string (bs (jn a b).1), .int .i64 (jn a b).2]) ∧ Below w.heap.size w w' := by
  have e0 : (bs a).toList.isEmpty = a.isEmpty := isE a
  have e1 : (bs b).toList.isEmpty = b.isEmpty := isE b
  have z1 : (bs a).size = a.length := rfl
  have z2 : (bs b).size = b.length := rfl
  obtain ⟨j, hj⟩ : ∃ j, jn a b = j := ⟨_, rfl⟩
  rw [hj]
  have HJ : Hid (jn a b = j) := hj
  clear hj
  have HC : Hid (bs a ++ (ByteArray.mk #[47]) ++ bs b = bs (a ++ 47 :: b)) := by
    show _ = _
    rw [bs_add1, bs_add]; simp
  have HC2 : Hid (bs a ++ bs b = bs (a ++ b)) := bs_add a b
  go_enter Tryz.func114, Tryz.ntmps114
  go_wp2_with fail
  refine (rvalid_any _ _ (by omega)).mono ?_
  rintro e w1 ⟨rfl, hb1⟩
  have B1 : Hid (Below w.heap.size w w1) := hb1
  have hz1 := hb1.size
  clear hb1
  cases h1 : okP a
  · have hj := HJ.out
    have hj : ([], 7) = j := by rw [← hj]; simp [jn, h1]
    subst hj
    go_wp2_with fail
    go_ret2
    exact ⟨rfl, B1.out⟩
  go_wp2_with fail
  refine (rvalid_any _ _ (by omega)).mono ?_
  rintro e w2 ⟨rfl, hb2⟩
  have B2 : Hid (Below w.heap.size w w2) := below_trans B1.out (below_mono hb2 hz1)
  have hz2 := B2.out.size
  clear hb2
  cases h2 : okP b
  · have hj := HJ.out
    have hj : ([], 7) = j := by rw [← hj]; simp [jn, h2]
    subst hj
    go_wp2_with fail
    go_ret2
    exact ⟨rfl, B2.out⟩
  have hj := HJ.out
  have hj : (if a = [] then (b, (0 : Int)) else if b = [] then (a, 0) else if okP (a ++ 47 :: b) = true then (a ++ 47 :: b, 0) else ([], 7)) = j := by rw [← hj]; simp [jn, h1, h2]
  by_cases h3 : a = []
  · rw [if_pos h3] at hj
    subst hj
    subst h3
    go_wp2_with fail
    rw [show bs [] ++ bs b = bs b from HC2.out]
    refine (rvalid_any _ _ (by omega)).mono ?_
    rintro e w3 ⟨rfl, hb3⟩
    rw [h2]
    have B3 : Hid (Below w.heap.size w w3) := below_trans B2.out (below_mono hb3 hz2)
    clear hb3
    go_wp2_with fail
    go_ret2
    exact ⟨rfl, B3.out⟩
  rw [if_neg h3] at hj
  have i0 : a.isEmpty = false := by cases a; exact absurd rfl h3; rfl
  rw [i0] at e0
  by_cases h4 : b = []
  · rw [if_pos h4] at hj
    subst hj
    subst h4
    go_wp2_with fail
    rw [show bs a ++ bs [] = bs a from HC2.out.trans (by rw [List.append_nil])]
    refine (rvalid_any _ _ (by omega)).mono ?_
    rintro e w3 ⟨rfl, hb3⟩
    rw [h1]
    have B3 : Hid (Below w.heap.size w w3) := below_trans B2.out (below_mono hb3 hz2)
    clear hb3
    go_wp2_with fail
    go_ret2
    exact ⟨rfl, B3.out⟩
  rw [if_neg h4] at hj
  have i1 : b.isEmpty = false := by cases b; exact absurd rfl h4; rfl
  rw [i1] at e1
  go_wp2_with fail
  rw [HC.out]
  refine (rvalid_any _ _ (by simp; omega)).mono ?_
  rintro e w3 ⟨rfl, hb3⟩
  have B3 : Hid (Below w.heap.size w w3) := below_trans B2.out (below_mono hb3 hz2)
  clear hb3
  cases h5 : okP (a ++ 47 :: b)
  · rw [h5] at hj
    have hj : ([], (7 : Int)) = j := by rw [← hj]; rfl
    subst hj
    go_wp2_with fail
    go_ret2
    exact ⟨rfl, B3.out⟩
  · rw [h5] at hj
    have hj : (a ++ 47 :: b, (0 : Int)) = j := by rw [← hj]; rfl
    subst hj
    go_wp2_with fail
    go_ret2
    exact ⟨rfl, B3.out⟩

end Go.Proofs.YtemoplpfndnklaaGreatDoor
