/-
  The law's numbered; the law CacheAges.
-/
import Derived.Test.YtddaoloabfkheaaGreatDoorJAa
namespace Go.Proofs.YtddaoloabfkheaaGreatDoor
open Go.RowKit

theorem gt_bool (K : List Lb) (p t : List UInt8) : (gtK K p t).2.2 = decide ((⟨p, t⟩ : Lb) ∈ K) := by
  unfold gtK
  split <;> simp [*]
theorem lit_bs (w : World) (cs : Array Value) (l : List UInt8) (n : Nat) (hc : cs = (bc l).toArray) (hn : n = l.length) : BS (w.alloc (.cells cs 5)) (.slice (some ⟨w.heap.size, 0, none⟩) n n) l := by
  subst hc hn
  refine .inr ⟨w.heap.size, 0, l.length, rfl, Nat.le_refl _, by simp, fun i u hu => ?_⟩
  have := World.news_of_block (heap_alloc_new w (.cells (bc l).toArray 5)) i u (by simpa using hu)
  rw [add_lit] at this; exact this
set_option maxRecDepth 100000 in
set_option maxHeartbeats 4000000 in
theorem numb_any (i : Nat) (hi : i ≤ 10000) (w : World) : Calls Tryz.prog 11 #[.int .i64 i] w fun e w' => e = .returned (.string (bs (nbr i))) ∧ Below w.heap.size w w' := by
  have r1 : Int.tmod (i : Int) 26 = ((i % 26 : Nat) : Int) := by rw [Int.tmod_eq_emod_of_nonneg (by omega)]; omega
  have r2 : (i : Int) % 26 = ((i % 26 : Nat) : Int) := by omega
  have r4 : (i : Int) / 26 % 26 = ((i / 26 % 26 : Nat) : Int) := by omega
  have r5 : (i : Int) / 676 % 26 = ((i / 676 % 26 : Nat) : Int) := by omega
  have l1 : i % 26 < 26 := Nat.mod_lt _ (by omega)
  have l2 : i / 26 % 26 < 26 := Nat.mod_lt _ (by omega)
  have l3 : i / 676 % 26 < 26 := Nat.mod_lt _ (by omega)
  have HL : Hid (∀ W : World, BS (W.alloc (.cells #[.int .u8 (97 + (i % 26 : Nat) : Int), .int .u8 (97 + (i / 26 % 26 : Nat) : Int), .int .u8 (97 + (i / 676 % 26 : Nat) : Int)] 5)) (.slice (some ⟨W.heap.size, 0, none⟩) 3 3) [UInt8.ofNat (97 + i % 26), UInt8.ofNat (97 + i / 26 % 26), UInt8.ofNat (97 + i / 676 % 26)]) := fun W => by
    refine lit_bs W _ _ 3 ?_ rfl
    simp only [bc, List.map_cons, List.map_nil, UInt8.toNat_ofNat_of_lt' (show 97 + i % 26 < 256 by omega), UInt8.toNat_ofNat_of_lt' (show 97 + i / 26 % 26 < 256 by omega), UInt8.toNat_ofNat_of_lt' (show 97 + i / 676 % 26 < 256 by omega)]
    rfl
  have hE : bs (nbr i) = bs ([116, 97, 114, 103, 101, 116, 32, 116] ++ [UInt8.ofNat (97 + i % 26), UInt8.ofNat (97 + i / 26 % 26), UInt8.ofNat (97 + i / 676 % 26)] ++ [123, 125]) := rfl
  rw [hE]
  clear hE
  generalize i % 26 = a at *
  generalize i / 26 % 26 = b at *
  generalize i / 676 % 26 = c at *
  have hcv := conv_bs (HL.out w)
  have hM : [UInt8.ofNat (97 + a), UInt8.ofNat (97 + b), UInt8.ofNat (97 + c)].length = 3 := rfl
  generalize [UInt8.ofNat (97 + a), UInt8.ofNat (97 + b), UInt8.ofNat (97 + c)] = M at *
  have hz : (bs M).size = 3 := hM
  go_enter Tryz.func11, Tryz.ntmps11
  go_wp2_with fail
  go_ret
  refine ⟨?_, balloc _ _⟩
  show Ending.returned (.string _) = _
  congr 2

set_option maxRecDepth 100000 in
set_option maxHeartbeats 16000000 in
theorem cages_law {CA : World → (Nat → Prop) → Nat → List Lb → Prop} (C : CcP CA) {w : World} (E : Ev w) (many again : Int) :
    Calls Tryz.prog 3 #[.int .i64 many, .int .i64 again] w (Good w) := by
  have HE : Hid (Ev w) := E
  have m1 : -59 ≤ Int.tmod many 60 ∧ Int.tmod many 60 ≤ 59 := by
    have h1 := Int.tmod_lt_of_pos many (show (0 : Int) < 60 by omega)
    have h2 := Int.lt_tmod_of_pos many (show (0 : Int) < 60 by omega)
    omega
  obtain ⟨z1, hz1⟩ : ∃ z1, Int.tmod many 60 = z1 := ⟨_, rfl⟩
  rw [hz1] at m1
  have m2 : Int.tmod (z1 + 60) 60 = (z1 + 60) % 60 := Int.tmod_eq_emod_of_nonneg (by omega)
  obtain ⟨j, hj⟩ : ∃ j : Nat, (z1 + 60) % 60 = (j : Int) := ⟨((z1 + 60) % 60).toNat, by omega⟩
  have hj6 : j < 60 := by omega
  rw [hj] at m2
  obtain ⟨n, hn⟩ : ∃ n, 500 + j = n := ⟨_, rfl⟩
  have hn2 : (500 : Int) + (j : Int) = (n : Int) := by omega
  have hn5 : 500 ≤ n ∧ n ≤ 559 := by omega
  have a1 : -(n : Int) < Int.tmod again n ∧ Int.tmod again n < n := by
    have h1 := Int.tmod_lt_of_pos again (show (0 : Int) < (n : Int) by omega)
    have h2 := Int.lt_tmod_of_pos again (show (0 : Int) < (n : Int) by omega)
    omega
  obtain ⟨z2, hz2⟩ : ∃ z2, Int.tmod again n = z2 := ⟨_, rfl⟩
  rw [hz2] at a1
  have a2 : Int.tmod (z2 + n) n = (z2 + n) % n := Int.tmod_eq_emod_of_nonneg (by omega)
  have a3 : 0 ≤ (z2 + n) % n ∧ (z2 + n) % n < n := ⟨Int.emod_nonneg _ (by omega), Int.emod_lt_of_pos _ (by omega)⟩
  obtain ⟨k, hk⟩ : ∃ k : Nat, (z2 + n) % n = (k : Int) := ⟨((z2 + n) % n).toNat, by omega⟩
  have hkn : k < n := by omega
  rw [hk] at a2
  have w0 : ((n : Int) == 0) = false := by rw [beq_eq_false_iff_ne]; omega
  have w1 : IntKind.i64.wrap (z2 + n) = z2 + n := wrap_small _ (by omega) (by omega)
  have w2 : IntKind.i64.wrap (z1 + 60) = z1 + 60 := wrap_small _ (by omega) (by omega)
  clear E a3
  have sT : (⟨#[84, 65, 82, 71, 69, 84, 83]⟩ : ByteArray) = bs tP := rfl
  have sP : (⟨#[112, 47, 84, 65, 82, 71, 69, 84, 83]⟩ : ByteArray) = bs xP := rfl
  go_enter Tryz.func3, Tryz.ntmps3
  refine wp_seq_k fun K9 hK => ?_
  have HK : Hid _ := hK
  clear hK
  go_wp2_with fail
  refine HK.out _ _ ?_
  clear HK K9
  refine wp_seq_k fun K9 hK => ?_
  have HK : Hid _ := hK
  clear hK
  go_wp2_with fail
  refine HK.out _ _ ?_
  clear HK K9
  refine wp_seq_k fun K9 hK => ?_
  have HK : Hid _ := hK
  clear hK
  go_wp2_with fail
  refine HK.out _ _ ?_
  clear HK K9
  clear hz1 hz2 m1 m2 a1 a2 w0 w1 w2 hj hn hn2 hk hj6
  refine wp_seq_k fun K9 hK => ?_
  have HK : Hid _ := hK
  clear hK
  go_wp2_with fail
  refine (TQ.new C (Nat.le_refl _)).mono ?_
  rintro e w1 ⟨c, rfl, hc1', hb1⟩
  have H1 : Hid (TQ CA w.heap.size w1 c [] ∧ Below w.heap.size w w1 ∧ Ev w1) := ⟨hc1', hb1, HE.out.later hb1⟩
  clear hc1' hb1
  go_wp2_with fail
  refine HK.out _ _ ?_
  clear HK K9
  refine wp_seq_k fun K9 hK => ?_
  have HK : Hid _ := hK
  clear hK
  go_wp2_with fail
  refine (known19 C H1.out.2.2).mono ?_
  rintro e w2 ⟨rfl, hb2⟩
  have H2 : Hid (TQ CA w.heap.size w2 c [] ∧ Below w.heap.size w w2) := ⟨H1.out.1.later C hb2, bstep H1.out.2.1 hb2⟩
  clear hb2 H1
  go_wp2_with fail
  refine HK.out _ _ ?_
  clear HK K9
  refine wp_seq_k fun K9 hK => ?_
  have HK : Hid _ := hK
  clear hK
  go_wp2_with fail
  go_loopw [8] (fun s8 wr => ∃ (i : Nat), s8 = .int .i64 i ∧ i ≤ n ∧ TQ CA w.heap.size wr c (ag1 i) ∧ Below w.heap.size w wr) (fun s8 _ => n - (intOf s8).toNat)
  case atStart => exact ⟨0, rfl, by omega, H2.out.1, H2.out.2⟩
  case round =>
    obtain ⟨i, rfl, hi, hP, hb⟩ := hrel
    have HX : Hid (TQ CA w.heap.size wr c (ag1 i) ∧ Below w.heap.size w wr ∧ Ev wr) := ⟨hP, hb, HE.out.later hb⟩
    clear hP hb
    by_cases hlt : i < n
    · have i1 : (i : Int) < (n : Int) := by omega
      go_wp2_with fail
      refine (numb_any i (by omega) _).mono ?_
      rintro e w3 ⟨rfl, hb3⟩
      have H3 : Hid (TQ CA w.heap.size w3 c (ag1 i) ∧ Below w.heap.size w w3 ∧ Ev w3) := ⟨HX.out.1.later C hb3, bstep HX.out.2.1 hb3, HX.out.2.2.later hb3⟩
      clear hb3
      go_wp2_with fail
      refine (H3.out.1.put C H3.out.2.2 H3.out.2.1.size tP (nbr i) (by decide) (by rw [nbr_len]; omega)).mono ?_
      rw [(tK_put (ag1 i) i).1, (tK_put (ag1 i) i).2, ag1_succ (by omega)]
      rintro e w4 ⟨rfl, hp4, hb4⟩
      have H4 : Hid (TQ CA w.heap.size w4 c (ag1 (i + 1)) ∧ Below w.heap.size w w4) := ⟨hp4, H3.out.2.1.trans hb4⟩
      clear hp4 hb4
      go_wp2_with fail
      refine (H4.out.1.len C).mono ?_
      rw [ag1_len]
      rintro e w5 ⟨rfl, hb5⟩
      have H5 : Hid (TQ CA w.heap.size w5 c (ag1 (i + 1)) ∧ Below w.heap.size w w5) := ⟨H4.out.1.later C hb5, bstep H4.out.2 hb5⟩
      clear hb5
      have q1 : (((min (i + 1) 512 : Nat) : Int) != min ((i : Int) + 1) 512) = false := by simp; omega
      go_wp2_with fail
      go_roundw
      case rel => exact ⟨i + 1, by go_num, by omega, H5.out.1, H5.out.2⟩
      case measure => simp [intOf]; omega
    · obtain rfl : n = i := by omega
      have i1 : ¬ (n : Int) < (n : Int) := by omega
      go_wp2_with fail
      refine HK.out _ _ ?_
      clear HK
      refine wp_seq_k fun K9 hK => ?_
      have HK : Hid _ := hK
      clear hK
      go_wp2_with fail
      refine (numb_any k (by omega) _).mono ?_
      rintro e w3 ⟨rfl, hb3⟩
      have H3 : Hid (TQ CA w.heap.size w3 c (ag1 n) ∧ Below w.heap.size w w3 ∧ Ev w3) := ⟨HX.out.1.later C hb3, bstep HX.out.2.1 hb3, HX.out.2.2.later hb3⟩
      clear hb3
      have HG := H3.out.1.get C H3.out.2.2 tP (nbr k) (by decide) (by rw [nbr_len]; omega)
      have hin := ag1_mem (n := n) (k := k) (by omega) hkn
      obtain ⟨⟨A, z, th⟩, hR⟩ : ∃ R, gtK (ag1 n) tP (nbr k) = R := ⟨_, rfl⟩
      have Hth : Hid (th = decide (n - 512 ≤ k)) := by
        show th = _
        have h2 := gt_bool (ag1 n) tP (nbr k)
        rw [hR] at h2
        simp only at h2
        rw [h2]
        exact decide_eq_decide.2 hin
      rw [hR] at HG
      go_wp2_with fail
      refine HG.mono ?_
      rintro e w4 ⟨v4, rfl, _, hb4⟩
      have H4 : Hid (TQ CA w.heap.size w4 c (ag1 n) ∧ Below w.heap.size w w4 ∧ Ev w4) := ⟨H3.out.1.later C hb4, bstep H3.out.2.1 hb4, H3.out.2.2.later hb4⟩
      clear hb4 HG hR hin
      simp only
      go_wp2_with fail
      refine HK.out _ _ ?_
      clear HK
      refine wp_seq_k fun K9 hK => ?_
      have HK : Hid _ := hK
      clear hK
      go_wp2_with fail
      refine (numb_any k (by omega) _).mono ?_
      rintro e w5 ⟨rfl, hb5⟩
      have H5 : Hid (TQ CA w.heap.size w5 c (ag1 n) ∧ Below w.heap.size w w5 ∧ Ev w5) := ⟨H4.out.1.later C hb5, bstep H4.out.2.1 hb5, H4.out.2.2.later hb5⟩
      clear hb5
      go_wp2_with fail
      refine (H5.out.1.put C H5.out.2.2 H5.out.2.1.size tP (nbr k) (by decide) (by rw [nbr_len]; omega)).mono ?_
      rw [(tK_put (ag1 n) k).1, (tK_put (ag1 n) k).2]
      rintro e w6 ⟨rfl, hp6, hb6⟩
      have H6 : Hid (TQ CA w.heap.size w6 c (ag2 n k) ∧ Below w.heap.size w w6) := ⟨hp6, H5.out.2.1.trans hb6⟩
      clear hp6 hb6
      go_wp2_with fail
      refine HK.out _ _ ?_
      clear HK
      refine wp_seq_k fun K9 hK => ?_
      have HK : Hid _ := hK
      clear hK
      have x1 : max (0 : Int) ((n : Int) - 512) = ((n - 512 : Nat) : Int) := by omega
      obtain ⟨f, hf⟩ : ∃ f, n - 512 = f := ⟨_, rfl⟩
      have Hth2 : Hid (th = decide (f ≤ k)) := by show th = _; rw [← hf]; exact Hth.out
      rw [hf] at x1
      clear Hth
      have hf2 : f ≤ 47 := by omega
      go_wp2_with fail
      refine HK.out _ _ ?_
      clear HK
      refine wp_seq_k fun K9 hK => ?_
      have HK : Hid _ := hK
      clear hK
      have q1 : (th != decide ((f : Int) ≤ (k : Int))) = false := by rw [Hth2.out]; simp
      have hl2 : (ag2 n k).length = min n 512 := by
        obtain ⟨A, e, h1, _⟩ := ag2_eq n k (by omega) hkn
        rw [e, List.length_append, List.length_singleton]; exact h1
      have q2 : (((min n 512 : Nat) : Int) != min (n : Int) 512) = false := by simp; omega
      go_wp2_with fail
      refine (H6.out.1.len C).mono ?_
      rw [hl2]
      rintro e w7 ⟨rfl, hb7⟩
      have H7 : Hid (TQ CA w.heap.size w7 c (ag3 n k 0) ∧ Below w.heap.size w w7) := ⟨by rw [ag3_zero n k (by omega) hkn]; exact H6.out.1.later C hb7, bstep H6.out.2 hb7⟩
      clear hb7 hl2
      go_wp2_with fail
      refine HK.out _ _ ?_
      clear HK
      refine wp_seq_k fun K9 hK => ?_
      have HK : Hid _ := hK
      clear hK
      obtain ⟨g, hg⟩ : ∃ g, 513 - f = g := ⟨_, rfl⟩
      have g1 : (513 : Int) - (f : Int) = (g : Int) := by omega
      have hg2 : 466 ≤ g ∧ g ≤ 513 := by omega
      clear q1 q2 x1
      go_wp2_with fail
      go_loopw [14] (fun s14 wr => ∃ (i : Nat), s14 = .int .i64 i ∧ i ≤ g ∧ TQ CA w.heap.size wr c (ag3 n k i) ∧ Below w.heap.size w wr) (fun s14 _ => g - (intOf s14).toNat)
      case atStart => exact ⟨0, rfl, by omega, H7.out.1, H7.out.2⟩
      case round =>
        obtain ⟨i, rfl, hi, hP, hb⟩ := hrel
        have HY : Hid (TQ CA w.heap.size wr c (ag3 n k i) ∧ Below w.heap.size w wr ∧ Ev wr) := ⟨hP, hb, HE.out.later hb⟩
        clear hP hb
        by_cases hlt : i < g
        · have i1 : (i : Int) < (g : Int) := by omega
          go_wp2_with fail
          refine (numb_any i (by omega) _).mono ?_
          rintro e w8 ⟨rfl, hb8⟩
          have H8 : Hid (TQ CA w.heap.size w8 c (ag3 n k i) ∧ Below w.heap.size w w8 ∧ Ev w8) := ⟨HY.out.1.later C hb8, bstep HY.out.2.1 hb8, HY.out.2.2.later hb8⟩
          clear hb8
          go_wp2_with fail
          refine (H8.out.1.put C H8.out.2.2 H8.out.2.1.size xP (nbr i) (by decide) (by rw [nbr_len]; omega)).mono ?_
          rw [(pK_put (ag3 n k i) i).1, (pK_put (ag3 n k i) i).2, ag3_succ (by omega) hkn (by omega)]
          rintro e w9 ⟨rfl, hp9, hb9⟩
          have H9 : Hid (TQ CA w.heap.size w9 c (ag3 n k (i + 1)) ∧ Below w.heap.size w w9) := ⟨hp9, H8.out.2.1.trans hb9⟩
          clear hp9 hb9
          go_wp2_with fail
          go_roundw
          case rel => exact ⟨i + 1, by go_num, by omega, H9.out.1, H9.out.2⟩
          case measure => simp [intOf]; omega
        · obtain rfl : g = i := by omega
          have i2 : ¬ (g : Int) < (g : Int) := by omega
          obtain ⟨e1, e2, e3⟩ := ag3_end (n := n) (k := k) (q := g) (by omega) (by omega) hkn (by omega) (by omega)
          go_wp2_with fail
          refine HK.out _ _ ?_
          clear HK
          refine wp_seq_k fun K9 hK => ?_
          have HK : Hid _ := hK
          clear hK
          go_wp2_with fail
          refine (numb_any k (by omega) _).mono ?_
          rintro e u1 ⟨rfl, hb⟩
          have U1 : Hid (TQ CA w.heap.size u1 c (ag3 n k g) ∧ Below w.heap.size w u1 ∧ Ev u1) := ⟨HY.out.1.later C hb, bstep HY.out.2.1 hb, HY.out.2.2.later hb⟩
          clear hb
          have HG := U1.out.1.get C U1.out.2.2 tP (nbr k) (by decide) (by rw [nbr_len]; omega)
          have hb2 := gt_bool (ag3 n k g) tP (nbr k)
          obtain ⟨⟨A1, y1, is⟩, hR⟩ : ∃ R, gtK (ag3 n k g) tP (nbr k) = R := ⟨_, rfl⟩
          rw [hR] at HG hb2
          have His : Hid (is = decide (g ≤ 511)) := by show is = _; simp only at hb2; rw [hb2]; exact decide_eq_decide.2 e2
          clear hb2 hR
          go_wp2_with fail
          refine HG.mono ?_
          rintro e u2 ⟨v5, rfl, _, hb⟩
          have U2 : Hid (TQ CA w.heap.size u2 c (ag3 n k g) ∧ Below w.heap.size w u2 ∧ Ev u2) := ⟨U1.out.1.later C hb, bstep U1.out.2.1 hb, U1.out.2.2.later hb⟩
          clear hb HG
          simp only
          go_wp2_with fail
          refine HK.out _ _ ?_
          clear HK
          refine wp_seq_k fun K9 hK => ?_
          have HK : Hid _ := hK
          clear hK
          have HN0 : Hid (∀ W : World, Calls Tryz.prog 11 #[.int .i64 0] W fun e w' => e = .returned (.string (bs (nbr 0))) ∧ Below W.heap.size W w') := fun W => numb_any 0 (by omega) W
          go_wp2_with fail
          refine (HN0.out _).mono ?_
          rintro e u3 ⟨rfl, hb⟩
          have U3 : Hid (TQ CA w.heap.size u3 c (ag3 n k g) ∧ Below w.heap.size w u3 ∧ Ev u3) := ⟨U2.out.1.later C hb, bstep U2.out.2.1 hb, U2.out.2.2.later hb⟩
          clear hb
          have HG := U3.out.1.get C U3.out.2.2 xP (nbr 0) (by decide) (by rw [nbr_len]; omega)
          have hb2 := gt_bool (ag3 n k g) xP (nbr 0)
          obtain ⟨⟨A2, y2, la⟩, hR⟩ : ∃ R, gtK (ag3 n k g) xP (nbr 0) = R := ⟨_, rfl⟩
          rw [hR] at HG hb2
          have Hla : Hid (la = decide (g ≤ 512)) := by show la = _; simp only at hb2; rw [hb2]; exact decide_eq_decide.2 e3
          clear hb2 hR
          go_wp2_with fail
          refine HG.mono ?_
          rintro e u4 ⟨v6, rfl, _, hb⟩
          have U4 : Hid (TQ CA w.heap.size u4 c (ag3 n k g) ∧ Below w.heap.size w u4 ∧ Ev u4) := ⟨U3.out.1.later C hb, bstep U3.out.2.1 hb, U3.out.2.2.later hb⟩
          clear hb HG
          simp only
          go_wp2_with fail
          refine HK.out _ _ ?_
          clear HK
          go_wp2_with fail
          refine (U4.out.1.len C).mono ?_
          rw [e1]
          rintro e u5 ⟨rfl, hb⟩
          have U5 : Hid (Below w.heap.size w u5) := bstep U4.out.2.1 hb
          clear hb
          have p1 : (0 : Int) < (g : Int) := by omega
          have hcase : (la = true ∧ is = true ∧ g ≤ 511) ∨ (la = true ∧ is = false ∧ g = 512) ∨ (la = false ∧ is = false ∧ g = 513) := by
            rw [Hla.out, His.out]
            simp only [decide_eq_true_eq, decide_eq_false_iff_not]
            omega
          clear Hla His
          rcases hcase with ⟨rfl, rfl, h⟩ | ⟨rfl, rfl, rfl⟩ | ⟨rfl, rfl, rfl⟩
          · have p4 : (g : Int) ≤ 511 := by omega
            have p5 : (g : Int) ≤ 512 := by omega
            go_wp2_with fail
            go_ret
            exact ⟨rfl, U5.out⟩
          · go_wp2_with fail
            go_ret
            exact ⟨rfl, U5.out⟩
          · go_wp2_with fail
            go_ret
            exact ⟨rfl, U5.out⟩
end Go.Proofs.YtddaoloabfkheaaGreatDoor
