/-
  The document's Match.
-/
import Derived.Test.YtebidnepanogcaaDoorRg
namespace Go.Proofs.YtebidnepanogcaaDoor
open Go.RowKit

set_option maxRecDepth 100000 in
set_option maxHeartbeats 4000000 in
theorem rmat_any (p n : List UInt8) (w : World) (hp : p.length ≤ 1000000000) (hn : n.length ≤ 1000000000) :
    Calls Tryd.prog 17 #[.string (bs p), .string (bs n)] w fun e w' => e = .returned (.bool (mat p n)) ∧ Below w.heap.size w w' := by
  have HP : Hid (∀ w : World, Calls Tryd.prog 35 #[.string (bs p)] w fun e w' => e = .returned (.bool (patP p)) ∧ w' = w) := fun w => rpat_any p w hp
  cases hc : patP p
  · have e0 : mat p n = false := by unfold mat; rw [hc]; rfl
    rw [e0]
    rw [hc] at HP
    go_enter Tryd.func17, Tryd.ntmps17
    go_wp2_with fail
    refine (HP.out _).mono ?_
    rintro e w1 ⟨rfl, rfl⟩
    go_wp2_with fail
    go_ret
    exact ⟨rfl, Below.refl _ _⟩
  rw [hc] at HP
  obtain ⟨h1, h2, h3⟩ := at42 (pat_42 hc)
  have HS : Hid (∀ w : World, Calls Tryd.prog 39 #[.string (bs p)] w fun e w' => e = .returned (.tuple #[.int .i64 (p.count 42 : Nat), .int .i64 ((hd42 p).length : Int)]) ∧ w' = w) := fun w => by rw [← h3]; exact rstars_any p w hp
  obtain ⟨R, hR⟩ : ∃ R, mat p n = R := ⟨_, rfl⟩
  have HM : Hid (R = true ↔ ∃ k, (hd42 p).length + k ≤ n.length ∧ hd42 p ++ (n.drop (hd42 p).length).take k ++ tl42 p = n) := by
    show R = true ↔ _
    rw [← hR]; exact mat_iff hc
  rw [hR]
  clear hR h2 h3 hc
  have HPp : Hid (p = hd42 p ++ 42 :: tl42 p) := h1
  clear h1
  generalize hd42 p = x at *
  generalize tl42 p = y at *
  have hpl : x.length + 1 + y.length = p.length := by rw [HPp.out]; simp; omega
  have E1 : (bs p).extract 0 x.length = bs x := by rw [extract_to, HPp.out]; simp
  have E2 : (bs p).extract (x.length + 1) p.length = bs y := by
    rw [extract_from]
    conv => lhs; rw [HPp.out]
    have : x.length + 1 = (x ++ [42]).length := by simp
    rw [this, show x ++ 42 :: y = (x ++ [42]) ++ y by simp, List.drop_left]
  have hzp : (bs p).size = p.length := rfl
  have hzn : (bs n).size = n.length := rfl
  have hzx : (bs x).size = x.length := rfl
  have hzy : (bs y).size = y.length := rfl
  have en := bs_toList n
  generalize p.count 42 = nc at *
  go_enter Tryd.func17, Tryd.ntmps17
  go_wp2_with fail
  refine (HP.out _).mono ?_
  rintro e w1 ⟨rfl, hw1⟩
  obtain rfl : w = w1 := hw1.symm
  go_wp2_with fail
  refine (HS.out _).mono ?_
  rintro e w1 ⟨rfl, hw1⟩
  obtain rfl : w = w1 := hw1.symm
  go_wp2_with fail
  go_loopw [7] (fun i wr => ∃ k : Nat, k ≤ n.length + 1 ∧ i = .int .i64 k ∧ Below w.heap.size w wr ∧ ∀ j, j < k → x.length + j ≤ n.length → x ++ (n.drop x.length).take j ++ y ≠ n) (fun i _ => n.length + 1 - (intOf i).toNat)
  case atStart => exact ⟨0, Nat.zero_le _, rfl, Below.refl _ _, fun j hj => by omega⟩
  case round =>
    obtain ⟨k, hk, rfl, hb, hno⟩ := hrel
    have HB : Hid (Below w.heap.size w wr) := hb
    have HNo : Hid (∀ j, j < k → x.length + j ≤ n.length → x ++ (n.drop x.length).take j ++ y ≠ n) := hno
    clear hb hno
    by_cases hlt : k ≤ n.length
    · have i1 : (k : Int) ≤ (n.length : Int) := by omega
      by_cases hg : x.length + k ≤ n.length
      · have g1 : (x.length : Int) + (k : Int) ≤ (n.length : Int) := by omega
        have g2 : (x.length : Int) + 1 ≤ (p.length : Int) := by omega
        have g3 : (x.length : Int) ≤ (p.length : Int) := by omega
        have g4 : (x.length : Int) ≤ (x.length : Int) + (k : Int) := by omega
        have E3 : (bs n).extract x.length (x.length + k) = bs ((n.drop x.length).take k) := by
          rw [bs_extract]; congr 2; omega
        have HT : Hid ((x ++ (n.drop x.length).take k ++ y = n) = (x ++ (n.drop x.length).take k ++ y = n)) := rfl
        have hMl : ((n.drop x.length).take k).length = k := by simp; omega
        generalize hM : (n.drop x.length).take k = M at *
        have hzM : (bs M).size = k := hMl
        have ET : (bs x ++ bs M ++ bs y).toList = x ++ M ++ y := by rw [bs_app, bs_app, bs_toList]
        by_cases heq : x ++ M ++ y = n
        · have q : (x ++ (M ++ y) == n) = true := by rw [← List.append_assoc]; simpa using heq
          obtain rfl : R = true := HM.out.2 ⟨k, hg, by rw [hM]; exact heq⟩
          have HQ : Hid (x ++ M ++ y = n) := heq
          have HMM : Hid ((n.drop x.length).take k = M) := hM
          clear heq hM HT
          go_wp2_with fail
          go_quiet (fail)
          go_wp2_with fail
          go_ret
          exact ⟨rfl, bdrewN HB.out⟩
        · have q : (x ++ (M ++ y) == n) = false := by rw [← List.append_assoc]; simpa using heq
          have HQ : Hid (¬ x ++ M ++ y = n) := heq
          have HMM : Hid ((n.drop x.length).take k = M) := hM
          clear heq hM HT
          go_wp2_with fail
          go_quiet (fail)
          go_wp2_with fail
          go_roundw
          case rel =>
            refine ⟨k + 1, by omega, by go_num, bdrewN HB.out, fun j hj hjl => ?_⟩
            by_cases hjk : j = k
            · subst hjk; rw [HMM.out]; exact HQ.out
            · exact HNo.out j (by omega) hjl
          case measure => simp only [intOf]; omega
      · have g1 : ¬ (x.length : Int) + (k : Int) ≤ (n.length : Int) := by omega
        have g5 : decide ((x.length : Int) + (k : Int) ≤ (n.length : Int)) = false := by simpa using g1
        go_wp2_with fail
        go_quiet (fail)
        go_wp2_with fail
        go_roundw
        case rel =>
          refine ⟨k + 1, by omega, by go_num, bdrewN HB.out, fun j hj hjl => ?_⟩
          exact HNo.out j (by omega) hjl
        case measure => simp only [intOf]; omega
    · have i1 : ¬ (k : Int) ≤ (n.length : Int) := by omega
      have hR : R = false := by
        rw [Bool.eq_false_iff]; intro h
        obtain ⟨j, hj, he⟩ := HM.out.1 h
        exact HNo.out j (by omega) hj he
      subst hR
      go_wp2_with fail
      go_ret
      exact ⟨rfl, HB.out⟩
end Go.Proofs.YtebidnepanogcaaDoor
