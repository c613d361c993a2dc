/-
  The program's tokens.
-/
import Derived.Test.YtclpbhoopmdojaaToks
namespace Go.Proofs.Ytclpbhoopmdojaa
open Go.RowKit

/-- a token at a place: what is told, and where it goes on -/
theorem tq_at {l : List UInt8} {k e p : Nat} (h : k < l.length) (hk : kd l[k] ≠ 0) (he : k + 1 + tl l[k] (l.drop (k + 1)) = e) (hp : e + gp false (l.drop e) = p) :
    tq (l.drop k) k = (⟨(kd l[k] : Nat), ((bs l).extract k e).data.toList, k⟩ :: (tq (l.drop p) p).1, (tq (l.drop p) p).2) ∧ k < e ∧ e ≤ l.length ∧ e ≤ p ∧ p ≤ l.length := by
  have h1 := tl_le l[k] (l.drop (k + 1))
  have h2 := gp_le false (l.drop e)
  rw [List.length_drop] at h1 h2
  refine ⟨?_, by omega, by omega, by omega, by omega⟩
  rw [drop_lt h, tq_tok hk]
  have e1 : (l.drop (k + 1)).drop (tl l[k] (l.drop (k + 1))) = l.drop e := by rw [List.drop_drop, he]
  rw [e1, he]
  have e2 : ((bs l).extract k e).data.toList = l[k] :: (l.drop (k + 1)).take (tl l[k] (l.drop (k + 1))) := by
    rw [bs_extract, bs_data, drop_lt h, show e - k = tl l[k] (l.drop (k + 1)) + 1 by omega, List.take_succ_cons]
  rw [e2]
  unfold tg
  rw [List.drop_drop, hp]
theorem tq_no {l : List UInt8} {k : Nat} (h : k < l.length) (hk : kd l[k] = 0) : tq (l.drop k) k = ([], (k : Int)) := by
  rw [drop_lt h, tq_bad hk]

set_option maxHeartbeats 4000000 in
theorem tokens_any (l : List UInt8) (w : World) (hl : l.length ≤ 500000000) :
    Calls Try.prog 7 #[.string (bs l)] w fun e w' => ∃ v, e = .returned (.tuple #[v, .int .i64 (toks l).2]) ∧ OwnT 26 w.heap.size w' v (toks l).1 ∧ Below w.heap.size w w' := by
  have hz : (bs l).size = l.length := rfl
  obtain ⟨S, hS⟩ : ∃ S, toks l = S := ⟨_, rfl⟩
  rw [hS]
  have HP : Hid (∀ w : World, Calls Try.prog 13 #[.string (bs l), .int .i64 0] w fun e w' => e = .returned (.int .i64 ((gp false l : Nat) : Int)) ∧ w' = w) := fun w => by
    have := pass_any l 0 w (by omega) (by omega)
    rw [List.drop_zero, Nat.zero_add] at this
    exact this
  have hle := gp_le false l
  have HS : Hid (tq (l.drop (gp false l)) (gp false l) = S ∧ gp false l ≤ l.length) := ⟨by rw [← hS]; unfold toks tg; rw [Nat.zero_add], hle⟩
  generalize gp false l = k0 at *
  clear hS hle
  obtain ⟨TT, E⟩ := S
  go_enter Try.func7, Try.ntmps7
  go_wp2_with fail
  refine (HP.out _).mono ?_
  rintro e w1 ⟨rfl, hw⟩
  obtain rfl : w = w1 := hw.symm
  go_wp2_with fail
  go_loopw [4, 5] (fun v s wr => ∃ (k : Nat) (L : List Tk), k ≤ l.length ∧ s = .int .i64 k ∧ OwnT 26 w.heap.size wr v L ∧ Below w.heap.size w wr ∧ L ++ (tq (l.drop k) k).1 = TT ∧ (tq (l.drop k) k).2 = E ∧ L.length ≤ k) (fun _ s _ => l.length - (intOf s).toNat)
  case atStart => exact ⟨k0, [], HS.out.2, rfl, OwnT.nil _ _ _, Below.refl _ _, by rw [HS.out.1]; rfl, by rw [HS.out.1], by simp⟩
  case round =>
    obtain ⟨k, L, hk, rfl, ho, hb, ht, hE, hL⟩ := hrel
    clear HS HP
    have HO : Hid (OwnT 26 w.heap.size wr u4 L ∧ Below w.heap.size w wr) := ⟨ho, hb⟩
    have HT : Hid (L ++ (tq (l.drop k) k).1 = TT ∧ (tq (l.drop k) k).2 = E) := ⟨ht, hE⟩
    have hsz := hb.size
    clear ho hb ht hE
    by_cases hlt : k < l.length
    · have k1 : (0 : Int) ≤ (k : Int) := by omega
      have k2 : (k : Int) < (l.length : Int) := by omega
      have HK : Hid (∀ w : World, Calls Try.prog 14 #[.int .u8 l[k].toNat] w fun e w' => e = .returned (.int .i64 (kd l[k] : Nat)) ∧ w' = w) := fun w => kind_any _ w
      by_cases h0 : kd l[k] = 0
      · have hq := tq_no hlt h0
        rw [h0] at HK
        have HT2 : Hid (L = TT ∧ (k : Int) = E) := by
          have := HT.out
          rw [hq] at this
          simp only [List.append_nil] at this
          exact this
        clear HT hq h0
        go_wp2_with fail
        refine (HK.out _).mono ?_
        rintro e w1 ⟨rfl, rfl⟩
        go_wp2_with fail
        go_ret2
        obtain ⟨a1, a2⟩ := HT2.out
        subst a1 a2
        exact ⟨_, rfl, HO.out.1, HO.out.2⟩
      · obtain ⟨en, hen⟩ : ∃ en, k + 1 + tl l[k] (l.drop (k + 1)) = en := ⟨_, rfl⟩
        obtain ⟨p, hp⟩ : ∃ p, en + gp false (l.drop en) = p := ⟨_, rfl⟩
        obtain ⟨hq, q1, q2, q3, q4⟩ := tq_at hlt h0 hen hp
        have HB : Hid (∀ w : World, Calls Try.prog 15 #[.string (bs l), .int .i64 k, .int .i64 (kd l[k] : Nat)] w fun e w' => e = .returned (.int .i64 (en : Int)) ∧ w' = w) := fun w => by
          have := behind_any l k w hlt (by omega) h0
          rw [hen] at this
          exact this
        have HP : Hid (∀ w : World, Calls Try.prog 13 #[.string (bs l), .int .i64 en] w fun e w' => e = .returned (.int .i64 (p : Int)) ∧ w' = w) := fun w => by
          have := pass_any l en w q2 (by omega)
          rw [hp] at this
          exact this
        have hne : (((kd l[k] : Nat) : Int) == 0) = false := by rw [beq_eq_false_iff_ne]; omega
        have HT2 : Hid ((L ++ [⟨((kd l[k] : Nat) : Int), ((bs l).extract k en).data.toList, (k : Int)⟩]) ++ (tq (l.drop p) p).1 = TT ∧ (tq (l.drop p) p).2 = E) := by
          have := HT.out
          rw [hq] at this
          rw [List.append_assoc]
          exact this
        generalize kd l[k] = m at *
        clear HT hq h0 hen hp
        have c1 : (0 : Int) ≤ (en : Int) := by omega
        have c2 : (en : Int) ≤ (l.length : Int) := by omega
        have c3 : (k : Int) ≤ (en : Int) := by omega
        go_wp2_with fail
        refine (HK.out _).mono ?_
        rintro e w1 ⟨rfl, rfl⟩
        go_wp2_with fail
        refine (HB.out _).mono ?_
        rintro e w1 ⟨rfl, rfl⟩
        go_wp2_with (first
          | (at_builtin; refine app_tok und22 info26 (m : Int) (k : Int) ((bs l).extract k en) HO.out.1 (by omega) hsz rfl (.tmp 26) (.tmp 34) rfl rfl rfl ?_; intro v1 w1 hO1 hB1 hs1; have HO1 : Hid (OwnT 26 w.heap.size w1 v1 (L ++ [⟨(m : Int), ((bs l).extract k en).data.toList, (k : Int)⟩]) ∧ Below w.heap.size w w1) := ⟨hO1, below_trans HO.out.2 hB1⟩; clear hO1 hB1))
        refine (HP.out _).mono ?_
        rintro e w2 ⟨rfl, rfl⟩
        go_wp2_with fail
        go_roundw
        case rel => exact ⟨p, _, q4, rfl, HO1.out.1, HO1.out.2, HT2.out.1, HT2.out.2, by simp; omega⟩
        case measure => simp [intOf]; omega
    · obtain rfl : k = l.length := by omega
      have HT2 : Hid (L = TT ∧ (-1 : Int) = E) := by
        have := HT.out
        rw [List.drop_length, tq_nil] at this
        simp only [List.append_nil] at this
        exact this
      clear HT
      go_wp2_with fail
      go_ret2
      obtain ⟨a1, a2⟩ := HT2.out
      subst a1 a2
      exact ⟨_, rfl, HO.out.1, HO.out.2⟩
end Go.Proofs.Ytclpbhoopmdojaa
