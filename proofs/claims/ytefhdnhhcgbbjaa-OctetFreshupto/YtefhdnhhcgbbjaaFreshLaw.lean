import Derived.Test.YtefhdnhhcgbbjaaLng
namespace Go.Proofs.Ytefhdnhhcgbbjaa
open Go.RowKit

set_option maxRecDepth 100000 in
set_option maxHeartbeats 8000000 in
theorem fresh_walk {w : World} {b : Value} {l : List UInt8} (h : BS w b l) (x : Nat) (hx : x < 18446744073709551616) (s : ByteArray) (hl : l.length ≤ 2000000) (hs : s.size ≤ 2000000) :
    Calls Try.prog 5 #[b, .int .u64 x, .string s] w fun e w' => e = .returned (.bool true) ∧ Below w.heap.size w w' := by
  have H : Hid (BS w b l) := h
  clear h
  go_enter Try.func5, Try.ntmps5
  go_wp2_with fail
  refine (head_any w).mono ?_
  rintro e w1 ⟨rfl, hb1⟩
  have B1 : Hid (Below w.heap.size w w1) := hb1
  clear hb1
  go_wp2_with fail
  refine (lent_any (H.out.later B1.out) (by omega)).mono ?_
  rintro e w2 ⟨v2, rfl, hl2, hb2⟩
  have B2 : Hid (Below w.heap.size w w2) := bstep B1.out hb2
  have L2 : Hid (Lent w1.heap.size w2 v2 l) := hl2
  have hz1 := B1.out.size
  clear hb2 hl2 B1
  obtain ⟨al, cl, rfl⟩ := L2.out.bs.form
  go_wp2_with fail
  go_loopw [8, 10] (fun va i wr => ∃ k : Nat, k ≤ 2 ∧ i = .int .i64 k ∧ ∃ A, OwnV w2.heap.size wr va (7 * k) A ∧ Bag w2.heap.size (7 * k) wr A (CC l x s) ∧ (∀ i, i < 7 * k → ∀ g, (A i).ownBlock = some g → va.ownBlock ≠ some g) ∧ Below w2.heap.size w2 wr) (fun _ i _ => 2 - (intOf i).toNat)
  case atStart => exact ⟨0, by omega, rfl, fun _ => undef, OwnV.nil _ _ _, Bag_none _ _ _, fun i hi => by omega, Below.refl _ _⟩
  case round =>
    obtain ⟨k, hk, rfl, A, hov, hbag, hap, hbw⟩ := hrel
    by_cases hlt : k < 2
    · have OV : Hid (OwnV w2.heap.size wr u8 (7 * k) A) := hov
      have BG : Hid (Bag w2.heap.size (7 * k) wr A (CC l x s)) := hbag
      have AP : Hid (∀ i, i < 7 * k → ∀ g, (A i).ownBlock = some g → u8.ownBlock ≠ some g) := hap
      have BW : Hid (Below w2.heap.size w2 wr) := hbw
      have LR : Hid (Lent w1.heap.size wr (.slice al l.length cl) l) := L2.out.later hbw L2.out.blk
      have hzw := hbw.size
      clear hov hbag hap hbw
      go_wp2_with fail
      refine (put8_any LR.out.bs _ (x % 256) (by omega) (by omega) (by omega)).mono ?_
      rintro e x1 ⟨y1, rfl, ho, hb⟩
      have O1 : Hid (Own wr.heap.size x1 y1 (l ++ le 1 (x % 256))) := ho
      have D1 : Hid (Below wr.heap.size wr x1) := hb
      have LX1 : Hid (Lent w1.heap.size x1 (.slice al l.length cl) l) := LR.out.later hb LR.out.blk
      clear hb ho
      go_wp2_with fail
      refine (put16_any LX1.out.bs _ (x % 65536) (by rw [IntKind.wrap_u16]; omega) (by omega) (by omega)).mono ?_
      rintro e x2 ⟨y2, rfl, ho, hb⟩
      have O2 : Hid (Own x1.heap.size x2 y2 (l ++ le 2 (x % 65536))) := ho
      have D2 : Hid (Below x1.heap.size x1 x2) := hb
      have LX2 : Hid (Lent w1.heap.size x2 (.slice al l.length cl) l) := LX1.out.later hb LX1.out.blk
      clear hb ho
      go_wp2_with fail
      refine (put32_any LX2.out.bs _ (x % 4294967296) (by omega) (by omega) (by omega)).mono ?_
      rintro e x3 ⟨y3, rfl, ho, hb⟩
      have O3 : Hid (Own x2.heap.size x3 y3 (l ++ le 4 (x % 4294967296))) := ho
      have D3 : Hid (Below x2.heap.size x2 x3) := hb
      have LX3 : Hid (Lent w1.heap.size x3 (.slice al l.length cl) l) := LX2.out.later hb LX2.out.blk
      clear hb ho
      go_wp2_with fail
      refine (put64_any LX3.out.bs _ x rfl (by omega)).mono ?_
      rintro e x4 ⟨y4, rfl, ho, hb⟩
      have O4 : Hid (Own x3.heap.size x4 y4 (l ++ le 8 x)) := ho
      have D4 : Hid (Below x3.heap.size x3 x4) := hb
      have LX4 : Hid (Lent w1.heap.size x4 (.slice al l.length cl) l) := LX3.out.later hb LX3.out.blk
      clear hb ho
      go_wp2_with fail
      refine (text_any LX4.out.bs s (by omega) (by omega)).mono ?_
      rintro e x5 ⟨y5, rfl, ho, hb⟩
      have O5 : Hid (Own x4.heap.size x5 y5 (l ++ le 4 s.size ++ s.data.toList)) := ho
      have D5 : Hid (Below x4.heap.size x4 x5) := hb
      have LX5 : Hid (Lent w1.heap.size x5 (.slice al l.length cl) l) := LX4.out.later hb LX4.out.blk
      clear hb ho
      go_wp2_with fail
      refine (join_any (rws2 _ _ _ _ _ LX5.out.bs LX5.out.bs) (by simp) (by simp [tot]; omega)).mono ?_
      rintro e x6 ⟨y6, rfl, ho, hb⟩
      have O6 : Hid (Own x5.heap.size x6 y6 (l ++ l)) := by
        have := ho.mono (base' := x5.heap.size) (by simp)
        have e : [l, l].flatten = l ++ l := by simp
        rw [e] at this
        exact this
      have D6 : Hid (Below x5.heap.size x5 x6) := bstep (balloc _ _) hb
      have LX6 : Hid (Lent w1.heap.size x6 (.slice al l.length cl) l) := LX5.out.later D6.out LX5.out.blk
      clear hb ho
      go_wp2_with fail
      refine (join_any (rws1 _ _ _ LX6.out.bs) (by simp) (by simp [tot]; omega)).mono ?_
      rintro e x7 ⟨y7, rfl, ho, hb⟩
      have O7 : Hid (Own x6.heap.size x7 y7 l) := by
        have := ho.mono (base' := x6.heap.size) (by simp)
        have e : [l].flatten = l := by simp
        rw [e] at this
        exact this
      have D7 : Hid (Below x6.heap.size x6 x7) := bstep (balloc _ _) hb
      clear hb ho LX1 LX2 LX3 LX4 LX5 LX6
      have BG7 : Hid (Bag w2.heap.size (7 * k + 7) x7 (cat (7 * k) A (B7 y1 y2 y3 y4 y5 y6 y7)) (CC l x s)) := Bag.seven BG.out (by omega) hzw D1.out O1.out D2.out O2.out D3.out O3.out D4.out O4.out D5.out O5.out D6.out O6.out D7.out O7.out
      have E1 : Below wr.heap.size wr x7 := bstep (bstep (bstep (bstep (bstep (bstep D1.out D2.out) D3.out) D4.out) D5.out) D6.out) D7.out
      have OV7 : Hid (OwnV w2.heap.size x7 u8 (7 * k) A) := OV.out.later E1
      have BW7 : Hid (Below w2.heap.size w2 x7) := BW.out.trans (E1.mono hzw)
      obtain ⟨p1, n1, q1, rfl⟩ := O1.out.bs.form'
      obtain ⟨p2, n2, q2, rfl⟩ := O2.out.bs.form'
      obtain ⟨p3, n3, q3, rfl⟩ := O3.out.bs.form'
      obtain ⟨p4, n4, q4, rfl⟩ := O4.out.bs.form'
      obtain ⟨p5, n5, q5, rfl⟩ := O5.out.bs.form'
      obtain ⟨p6, n6, q6, rfl⟩ := O6.out.bs.form'
      obtain ⟨p7, n7, q7, rfl⟩ := O7.out.bs.form'
      have HB7 : Hid (∀ i, i < 7 → (B7 (.slice p1 n1 q1) (.slice p2 n2 q2) (.slice p3 n3 q3) (.slice p4 n4 q4) (.slice p5 n5 q5) (.slice p6 n6 q6) (.slice p7 n7 q7) i).oneCell' = true) := by
        intro i hi
        have hj : i = 0 ∨ i = 1 ∨ i = 2 ∨ i = 3 ∨ i = 4 ∨ i = 5 ∨ i = 6 := by omega
        rcases hj with rfl | rfl | rfl | rfl | rfl | rfl | rfl <;> rfl
      have HX : Hid (∀ i, i < 7 * k + 7 → ∀ g, (cat (7 * k) A (B7 (.slice p1 n1 q1) (.slice p2 n2 q2) (.slice p3 n3 q3) (.slice p4 n4 q4) (.slice p5 n5 q5) (.slice p6 n6 q6) (.slice p7 n7 q7)) i).ownBlock = some g → u8.ownBlock ≠ some g) := by
        intro i hi g hg e
        have hu := (World.ownsRow.lt OV.out g e).2
        by_cases hi7 : i < 7 * k
        · rw [cat, if_pos hi7] at hg
          exact AP.out i hi7 g hg e
        · have z1 := D1.out.size
          have z2 := D2.out.size
          have z3 := D3.out.size
          have z4 := D4.out.size
          have z5 := D5.out.size
          have z6 := D6.out.size
          rw [cat, if_neg hi7] at hg
          have hj : i - 7 * k = 0 ∨ i - 7 * k = 1 ∨ i - 7 * k = 2 ∨ i - 7 * k = 3 ∨ i - 7 * k = 4 ∨ i - 7 * k = 5 ∨ i - 7 * k = 6 := by omega
          rcases hj with hj | hj | hj | hj | hj | hj | hj <;> rw [hj] at hg
          · have := (World.ownsRow.lt O1.out g hg).1; omega
          · have := (World.ownsRow.lt O2.out g hg).1; omega
          · have := (World.ownsRow.lt O3.out g hg).1; omega
          · have := (World.ownsRow.lt O4.out g hg).1; omega
          · have := (World.ownsRow.lt O5.out g hg).1; omega
          · have := (World.ownsRow.lt O6.out g hg).1; omega
          · have := (World.ownsRow.lt O7.out g hg).1; omega
      have hz7 := BW7.out.size
      clear O1 O2 O3 O4 O5 O6 O7 D1 D2 D3 D4 D5 D6 D7 E1 LR BG OV BW
      go_wp2_with (at_builtin; refine app_vals (base := w2.heap.size) (n := 7 * k) (m := 7) (A := A) (B := B7 (.slice p1 n1 q1) (.slice p2 n2 q2) (.slice p3 n3 q3) (.slice p4 n4 q4) (.slice p5 n5 q5) (.slice p6 n6 q6) (.slice p7 n7 q7)) (World.ownsRow.alloc OV7.out _) (src_vals x7 _ 7 _ rfl HB7.out) (by omega) (by simp; omega) rfl (.tmp 27) (.tmp 53) rfl rfl rfl ?_; intro v8 x8 ho8 hg8 hat8)
      have LT8 := World.ownsRow.lt OV7.out
      go_roundw
      case rel =>
        have hbx : Below w2.heap.size w2 x8 := (BW7.out.alloc hz7 _).grown hg8 (by simp; omega) (fun k hk => (LT8 k hk).1)
        have e7 : 7 * (k + 1) = 7 * k + 7 := by omega
        refine ⟨k + 1, by omega, by go_num, _, by rw [e7]; exact ho8, ?_, fun i hi g hg => ?_, hbx⟩
        · rw [e7]
          refine (BG7.out.later (balloc x7 _)).other hg8 (fun i hi => ?_)
          rcases hc : Value.ownBlock (cat (7 * k) A _ i) with _ | g
          · exact .inl rfl
          · exact .inr (fun e => HX.out i hi g hc e.symm)
        · rw [e7] at hi
          intro e
          rcases hat8 with h8 | h8
          · rw [h8] at e
            exact HX.out i hi g hg e
          · rw [h8] at e
            have := (BG7.out.lt i hi g hg).2
            simp at e
            omega
      case measure => simp [intOf]; omega
    · obtain rfl : k = 2 := by omega
      have hov14 : OwnV w2.heap.size wr u8 14 A := hov
      obtain ⟨ga, ca, rfl, hca, hga, hgaw, hcell⟩ := hov14.form (by omega)
      have HC : Hid (∀ i, i < 14 → wr.cell? ⟨ga, i, none⟩ = some (A i)) := hcell
      have BG : Hid (Bag w2.heap.size 14 wr A (CC l x s)) := hbag
      have AP : Hid (∀ i, i < 14 → ∀ g, (A i).ownBlock = some g → g ≠ ga) := fun i hi g hg e => hap i hi g hg (by rw [e]; rfl)
      have BW : Hid (Below w2.heap.size w2 wr) := hbw
      have LR : Hid (Lent w1.heap.size wr (.slice al l.length cl) l) := L2.out.later hbw L2.out.blk
      have hzw := hbw.size
      clear hov hov14 hbag hap hbw hcell hlt hk
      obtain ⟨wo, hwo⟩ : ∃ wo, wo = wr := ⟨_, rfl⟩
      subst hwo
      go_wp2_with fail
      go_loopw [11] (fun i wq => ∃ k : Nat, k ≤ 7 ∧ i = .int .i64 k ∧ Below wo.heap.size wo wq) (fun i _ => 7 - (intOf i).toNat)
      case atStart => exact ⟨0, by omega, rfl, Below.refl _ _⟩
      case round =>
        obtain ⟨k, hk, rfl, hbq⟩ := hrel
        have BQ : Hid (Below wo.heap.size wo wr) := hbq
        clear hbq
        by_cases hlt : k < 7
        · have hc1 : wr.cell? ⟨ga, k, none⟩ = some (A k) := by rw [BQ.out.cell (p := ⟨ga, k, none⟩) hgaw]; exact HC.out k (by omega)
          have hc2 : wr.cell? ⟨ga, k + 7, none⟩ = some (A (k + 7)) := by rw [BQ.out.cell (p := ⟨ga, k + 7, none⟩) hgaw]; exact HC.out (k + 7) (by omega)
          have HE : Hid (CC l x s (k + 7) = CC l x s k) := by show _ = _; unfold CC; rw [Nat.add_mod_right]
          have HS1 : Hid (BS wr (A k) (CC l x s k)) := ((BG.out.own k (by omega)).bs).later BQ.out
          have HS2 : Hid (BS wr (A (k + 7)) (CC l x s k)) := by have := (BG.out.own (k + 7) (by omega)).bs; rw [HE.out] at this; exact this.later BQ.out
          have k0 : (0 : Int) ≤ (k : Int) := by omega
          have k1 : (k : Int) < 14 := by omega
          have k2 : IntKind.i64.wrap ((k : Int) + 7) = (k : Int) + 7 := by rw [IntKind.wrap_i64]; omega
          have k3 : (0 : Int) ≤ (k : Int) + 7 := by omega
          have k4 : (k : Int) + 7 < 14 := by omega
          go_wp2_with fail
          go_quiet ((go_at_call 16; exact Calls.quiet_of_same (same_any (HS1.out.drewN _) (HS2.out.drewN _))))
          go_wp2_with fail
          go_roundw
          case rel => exact ⟨k + 1, by omega, by go_num, BQ.out.trans ((Only.drewN _ _ []).below BQ.out.size (by simp))⟩
          case measure => simp [intOf]; omega
        · have HC1 : Hid (∀ i, i < 14 → wr.cell? ⟨ga, i, none⟩ = some (A i)) := fun i hi => by rw [BQ.out.cell (p := ⟨ga, i, none⟩) hgaw]; exact HC.out i hi
          have BG1 : Hid (Bag w2.heap.size 14 wr A (CC l x s)) := BG.out.later BQ.out
          have BW1 : Hid (Below w2.heap.size w2 wr) := BW.out.trans (BQ.out.mono hzw)
          have LR1 : Hid (Lent w1.heap.size wr (.slice al l.length cl) l) := LR.out.later BQ.out LR.out.blk
          have hgaw1 : ga < wr.heap.size := Nat.lt_of_lt_of_le hgaw BQ.out.size
          clear HC BG BW LR hk BQ
          obtain ⟨wq, hwq⟩ : ∃ wq, wq = wr := ⟨_, rfl⟩
          subst hwq
          have HA : Hid (BS wq b l) := H.out.later (bstep B2.out BW1.out)
          have T6 : Hid (BS wq (A 6) l) := (BG1.out.own 6 (by omega)).bs
          have T4 : Hid (BS wq (A 4) (l ++ le 4 s.size ++ s.data.toList)) := (BG1.out.own 4 (by omega)).bs
          have c6 := HC1.out 6 (by omega)
          have c4 := HC1.out 4 (by omega)
          go_wp2_with fail
          go_region_held3 (fun w' => w'.cell? ⟨ga, 6, none⟩ = some (A 6) ∧ w'.cell? ⟨ga, 4, none⟩ = some (A 4)) (first | go_keep | (exact ⟨(by rw [hb9.cell (p := ⟨ga, 6, none⟩) hgaw1]; exact c6), (by rw [hb9.cell (p := ⟨ga, 4, none⟩) hgaw1]; exact c4)⟩)) (first | (go_at_call 25; refine (kept_any (LR1.out.later (Below.refl _ _).drew LR1.out.blk) (HA.out.later (Below.refl _ _).drew) (by omega)).mono ?_; rintro e w' ⟨rfl, rfl⟩) | (go_at_call_of 16 (A 6); refine (same_any (T6.out.later (Below.refl _ _).drew) (HA.out.later (Below.refl _ _).drew)).mono ?_; rintro e w' ⟨rfl, rfl⟩) | (go_at_call 22; refine (rtext_any (HA.out.later (Below.refl _ _).drew) s (by omega) (by omega)).mono ?_; rintro e w9 ⟨v9, rfl, ho9, hb9⟩) | (go_at_call_of 16 (A 4); refine (same_any (T4.out.later (bstep ((Below.refl _ _).drew) hb9)) ho9.bs).mono ?_; rintro e w' ⟨rfl, rfl⟩))
          obtain ⟨w9, hw9⟩ : ∃ w9, w9 = w' := ⟨_, rfl⟩
          subst hw9
          have DQ : Below wq.heap.size wq w9 := bstep ((Below.refl _ _).drew) hb9
          have HC9 : Hid (∀ i, i < 14 → w9.cell? ⟨ga, i, none⟩ = some (A i)) := fun i hi => by rw [DQ.cell (p := ⟨ga, i, none⟩) hgaw1]; exact HC1.out i hi
          have BG9 : Hid (Bag w2.heap.size 14 w9 A (GG (CC l x s) 0 0)) := (BG1.out.later DQ).congr (fun _ _ => rfl) (fun i _ => (GG_zero _ i).symm)
          have BW9 : Hid (Below w2.heap.size w2 w9) := BW1.out.trans (DQ.mono BW1.out.size)
          clear DQ HC1 BG1 BW1 LR1 hb9 ho9 T4 T6 HA c6 c4 hgaw1 hgaw hzw hlt
          have HCL : Hid (∀ i, (CC l x s i).length ≤ 5000000) := fun i => CC_length l x s i hl hs
          go_wp2_with fail
          go_loopw [12] (fun i wr => ∃ k : Nat, k ≤ 14 ∧ i = .int .i64 k ∧ (∀ i, i < 14 → wr.cell? ⟨ga, i, none⟩ = some (A i)) ∧ Bag w2.heap.size 14 wr A (GG (CC l x s) k 0) ∧ Below w2.heap.size w2 wr) (fun i _ => 14 - (intOf i).toNat)
          case atStart => exact ⟨0, by omega, rfl, HC9.out, BG9.out, BW9.out⟩
          case round =>
            clear HC9 BG9 BW9
            obtain ⟨k, hk, rfl, hc, hbg, hbw⟩ := hrel
            by_cases hlt : k < 14
            · obtain ⟨wk, hwk⟩ : ∃ wk, wk = wr := ⟨_, rfl⟩
              subst hwk
              have HCk : Hid (∀ i, i < 14 → wk.cell? ⟨ga, i, none⟩ = some (A i)) := hc
              have BGk : Hid (Bag w2.heap.size 14 wk A (GG (CC l x s) k 0)) := hbg
              have BWk : Hid (Below w2.heap.size w2 wk) := hbw
              obtain ⟨ak, ck, hAk⟩ := (hbg.own k hlt).bs.form
              have hlen : (GG (CC l x s) k 0 k).length = (CC l x s k).length := GG_length _ _ _ _ (by omega)
              rw [hlen] at hAk
              have HAk : Hid (A k = .slice ak (CC l x s k).length ck) := hAk
              have hlc := HCL.out k
              obtain ⟨nk, hnk⟩ : ∃ nk, nk = (CC l x s k).length := ⟨_, rfl⟩
              rw [← hnk] at HAk hlc
              have HNK : Hid (nk = (CC l x s k).length) := hnk
              clear hc hbg hbw hAk hlen hnk
              go_wp2_with fail
              go_loopw [13] (fun j wr => ∃ m : Nat, m ≤ nk ∧ j = .int .i64 m ∧ (∀ i, i < 14 → wr.cell? ⟨ga, i, none⟩ = some (A i)) ∧ Bag w2.heap.size 14 wr A (GG (CC l x s) k m) ∧ Below w2.heap.size w2 wr) (fun j _ => nk - (intOf j).toNat)
              case atStart => exact ⟨0, by omega, rfl, HCk.out, BGk.out, BWk.out⟩
              case round =>
                clear HCk BGk BWk
                obtain ⟨m, hm, rfl, hc, hbg, hbw⟩ := hrel
                have HCm : Hid (∀ i, i < 14 → wr.cell? ⟨ga, i, none⟩ = some (A i)) := hc
                have BGm : Hid (Bag w2.heap.size 14 wr A (GG (CC l x s) k m)) := hbg
                have BWm : Hid (Below w2.heap.size w2 wr) := hbw
                have hck : wr.cell? ⟨ga, k, none⟩ = some (.slice ak nk ck) := by rw [hc k hlt, HAk.out]
                clear hc hbg hbw
                by_cases hlm : m < nk
                · have hgl : (GG (CC l x s) k m k).length = nk := by rw [HNK.out]; exact GG_length _ _ _ _ (by rw [← HNK.out]; omega)
                  obtain ⟨gk, ck', hv, hbase, hgkw⟩ := World.ownsRow.form (BGm.out.own k hlt) (by omega)
                  rw [hgl, HAk.out] at hv
                  injection hv with hv1 hv2 hv3
                  subst hv1 hv3
                  have hown := BGm.out.own k hlt
                  unfold Own at hown
                  rw [hgl, HAk.out] at hown
                  have hcj : ∃ z, wr.cell? ⟨gk, m, none⟩ = some z := ⟨_, (World.ownsRow.cellAt hown m (by omega)).trans (by rw [bc_get, List.getElem?_eq_getElem (by omega)]; rfl)⟩
                  obtain ⟨z, hz⟩ := hcj
                  have hfz := World.ownsRow.frozenAt hown m
                  have hgg : gk ≠ ga := AP.out k hlt gk (by rw [HAk.out]; rfl)
                  have HGL : Hid ((GG (CC l x s) k m k).length = nk) := hgl
                  have HVAL : Hid (((k : Int) + 1) = ((UInt8.ofNat (k + 1)).toNat : Int)) := by show _ = _; simp; omega
                  clear hown hgl
                  go_wp2_with fail
                  go_roundw
                  case rel =>
                    rw [HVAL.out]
                    refine ⟨m + 1, by omega, by go_num, fun i hi => by rw [World.cell?_setCell_far _ _ _ _ hgg]; exact HCm.out i hi, ?_, BWm.out.setCell hbase _⟩
                    refine (BGm.out.store k hlt (by rw [HGL.out]; exact HAk.out) m (by rw [HGL.out]; exact hlm) (UInt8.ofNat (k + 1))).congr (fun _ _ => rfl) (fun i _ => ?_)
                    exact GG_set _ _ _ _ (by rw [← HNK.out]; exact hlm)
                  case measure => simp [intOf]; omega
                · obtain rfl : m = nk := by omega
                  go_wp2_with fail
                  go_roundw
                  case rel => exact ⟨k + 1, by omega, by go_num, HCm.out, BGm.out.congr (fun _ _ => rfl) (fun i _ => by rw [HNK.out]; exact GG_next _ _ _), BWm.out⟩
                  case measure => simp [intOf]; omega
            · obtain rfl : k = 14 := by omega
              obtain ⟨wl, hwl⟩ : ∃ wl, wl = wr := ⟨_, rfl⟩
              subst hwl
              obtain ⟨R, hR⟩ : ∃ R : Nat → List UInt8, R = GG (CC l x s) 14 0 := ⟨_, rfl⟩
              rw [← hR] at hbg
              have HR : Hid (∀ i, i < 14 → R i = List.replicate (CC l x s i).length (UInt8.ofNat (i + 1))) := fun i hi => by rw [hR]; unfold GG; rw [if_pos hi]
              have HRL : Hid (∀ i, i < 14 → (R i).length ≤ 5000000) := fun i hi => by rw [HR.out i hi, List.length_replicate]; exact HCL.out i
              have HAW : Hid (∀ i, i < 14 → ∀ g, (A i).ownBlock = some g → g < wl.heap.size) := fun i hi g hg => (hbg.lt i hi g hg).2
              have HAP : Hid (∀ i j, i < 14 → j < 14 → i ≠ j → ∀ g, (A i).ownBlock = some g → (A j).ownBlock ≠ some g) := hbg.apart
              have L0 : Hid (Lng w2.heap.size wl.heap.size 14 0 wl A (fun _ => undef) R (.slice none 0 0)) := ⟨OwnV.nil _ _ _, fun i hi => (hbg.own i hi).bs, fun i hi _ => hbg.own i hi, fun j hj => by omega, fun j hj => by omega⟩
              have HCl : Hid (∀ i, i < 14 → wl.cell? ⟨ga, i, none⟩ = some (A i)) := hc
              have BWl : Hid (Below w2.heap.size w2 wl) := hbw
              have hgal : ga < wl.heap.size := World.block_lt_of_cell? wl ⟨ga, 0, none⟩ (hc 0 (by omega))
              clear hc hbg hbw hR hlt hk
              go_wp2_with fail
              go_loopw [9, 14] (fun vl i wr => ∃ k : Nat, k ≤ 14 ∧ i = .int .i64 k ∧ (∀ i, i < 14 → wr.cell? ⟨ga, i, none⟩ = some (A i)) ∧ Below w2.heap.size w2 wr ∧ wl.heap.size ≤ wr.heap.size ∧ ∃ L, Lng w2.heap.size wl.heap.size 14 k wr A L R vl) (fun _ i _ => 14 - (intOf i).toNat)
              case atStart => exact ⟨0, by omega, rfl, HCl.out, BWl.out, Nat.le_refl _, _, L0.out⟩
              case round =>
                clear HCl BWl L0
                obtain ⟨k, hk, rfl, hc, hbw, hzl, L, hL⟩ := hrel
                have HCk : Hid (∀ i, i < 14 → wr.cell? ⟨ga, i, none⟩ = some (A i)) := hc
                have BWk : Hid (Below w2.heap.size w2 wr) := hbw
                have LNk : Hid (Lng w2.heap.size wl.heap.size 14 k wr A L R u9) := hL
                clear hc hbw hL
                by_cases hlt : k < 14
                · have hck := HCk.out k hlt
                  have HVAL : Hid (((k : Int) + 1) = ((UInt8.ofNat (k + 1)).toNat : Int)) := by show _ = _; simp; omega
                  have hrl := HRL.out k hlt
                  go_wp2_with (first | (at_builtin; refine app_one_keep (base := w2.heap.size) (l := R k) (UInt8.ofNat (k + 1)) (LNk.out.mine k hlt (Nat.le_refl _)) HVAL.out (by omega) BWk.out.size rfl (.tmp 126) (.tmp 130) rfl rfl rfl ?_; intro v1 w1' ho1 hb1 hbs1 hg1 hat1 hk1; obtain ⟨pv, nv, cv, rfl⟩ := ho1.bs.form'; have OV1 : Hid (OwnV wl.heap.size w1' u9 k L) := LNk.out.kept1 (HAW.out k hlt) hg1) | (at_builtin; refine app_vals (base := wl.heap.size) (n := k) (m := 1) (A := L) (B := fun _ => .slice pv nv cv) (World.ownsRow.alloc OV1.out _) (src_vals w1' _ 1 (fun _ => .slice pv nv cv) rfl (fun _ _ => rfl)) (by omega) (by have := hg1.size; simp; omega) rfl (.tmp 122) (.tmp 132) rfl rfl rfl ?_; intro v2' w2' ho2 hg2 hat2))
                  have g2 : w1'.grownBy w2' u9.ownBlock := (World.grownBy_alloc w1' _ _).trans hg2
                  have z1 := hg1.size
                  have hlt9 := World.ownsRow.lt LNk.out.own
                  have hgwr : ga < wr.heap.size := World.block_lt_of_cell? wr ⟨ga, k, none⟩ hck
                  have lt1 := World.ownsRow.lt ho1
                  go_roundw
                  case rel =>
                    refine ⟨k + 1, by omega, by go_num, fun i hi => ?_, (BWk.out.trans hb1).grown g2 hbs1 (fun g hg => ?_), by have := g2.size; omega, _, LNk.out.step hlt hzl HAW.out HAP.out hg1 ho1.bs hat1 (fun g hg => (lt1 g hg).2) hk1 g2 ho2 ?_⟩
                    · rw [g2.cell_far ⟨ga, i, none⟩ (by simp only; omega) (fun e => by have := (hlt9 ga e.symm).1; omega), hg1.cell_far ⟨ga, i, none⟩ hgwr (fun e => AP.out k hlt ga e.symm rfl)]
                      exact HCk.out i hi
                    · have := (hlt9 g hg).1
                      omega
                    · rcases hat2 with h | h
                      · exact .inl h
                      · exact .inr ⟨_, h, by simp⟩
                  case measure => simp [intOf]; omega
                · obtain rfl : k = 14 := by omega
                  obtain ⟨wm, hwm⟩ : ∃ wm, wm = wr := ⟨_, rfl⟩
                  subst hwm
                  obtain ⟨gL, cL, rfl, hcL, hgL, hgLw, hLcell⟩ := LNk.out.own.form (by omega)
                  have HLC : Hid (∀ i, i < 14 → wm.cell? ⟨gL, i, none⟩ = some (L i)) := hLcell
                  have HOL : Hid (∀ i, i < 14 → BS wm (A i) (List.replicate (CC l x s i).length (UInt8.ofNat (i + 1)))) := fun i hi => by rw [← HR.out i hi]; exact LNk.out.old i hi
                  have HNE : Hid (∀ i, i < 14 → BS wm (L i) (List.replicate ((CC l x s i).length + 1) (UInt8.ofNat (i + 1)))) := fun i hi => by
                    have := LNk.out.new i hi
                    rw [HR.out i hi] at this
                    rw [List.replicate_succ']
                    exact this
                  have HAm : Hid (BS wm b l) := H.out.later (bstep B2.out BWk.out)
                  have LRm : Hid (Lent w1.heap.size wm (.slice al l.length cl) l) := L2.out.later BWk.out L2.out.blk
                  clear LNk hLcell hlt hk HAW HAP HR HRL
                  go_wp2_with fail
                  go_loop [15] (fun i => ∃ k : Nat, k ≤ 14 ∧ i = .int .i64 k) (fun i => 14 - (intOf i).toNat)
                  case atStart => exact ⟨0, by omega, rfl⟩
                  case round =>
                    obtain ⟨k, hk, rfl⟩ := hrel
                    by_cases hlt : k < 14
                    · obtain ⟨pL, qL, hLk, HLm⟩ := rep_cell (HNE.out k hlt) rfl
                      obtain ⟨pA, qA, hAk, HAm2⟩ := rep_cell (HOL.out k hlt) rfl
                      have hcl := HLC.out k hlt
                      have hca' := HCk.out k hlt
                      rw [hLk] at hcl
                      rw [hAk] at hca'
                      have hlc := HCL.out k
                      have HVAL : Hid (((UInt8.ofNat (k + 1)).toNat : Int) = (k : Int) + 1) := by show _ = _; simp; omega
                      rw [HVAL.out] at HLm HAm2
                      obtain ⟨nk, hnk⟩ : ∃ nk, nk = (CC l x s k).length := ⟨_, rfl⟩
                      rw [← hnk] at HLm HAm2 hcl hca' hlc
                      have HL1 : Hid (∀ m, m < nk + 1 → ∃ bl off, pL = some ⟨bl, off, none⟩ ∧ wm.cell? ⟨bl, off + m, none⟩ = some (.int .u8 ((k : Int) + 1)) ∧ nk + 1 ≤ qL) := HLm
                      have HA1 : Hid (∀ m, m < nk → ∃ bl off, pA = some ⟨bl, off, none⟩ ∧ wm.cell? ⟨bl, off + m, none⟩ = some (.int .u8 ((k : Int) + 1)) ∧ nk ≤ qA) := HAm2
                      clear HLm HAm2 hLk hAk hnk
                      go_wp2_with fail
                      go_loop [16] (fun j => ∃ m : Nat, m ≤ nk + 1 ∧ j = .int .i64 m) (fun j => nk + 1 - (intOf j).toNat)
                      case atStart => exact ⟨0, by omega, rfl⟩
                      case round =>
                        obtain ⟨m, hm, rfl⟩ := hrel
                        by_cases hlm : m < nk + 1
                        · obtain ⟨bl, off, rfl, hcm, hql⟩ := HL1.out m hlm
                          by_cases hlm2 : m < nk
                          · obtain ⟨bl2, off2, rfl, hcm2, hql2⟩ := HA1.out m hlm2
                            go_wp2_with fail
                            go_round
                            case rel => exact ⟨m + 1, by omega, by go_num⟩
                            case measure => simp [intOf]; omega
                          · have hlm3 : ¬ (m : Int) < (nk : Int) := by omega
                            go_wp2_with fail
                            go_round
                            case rel => exact ⟨m + 1, by omega, by go_num⟩
                            case measure => simp [intOf]; omega
                        · go_wp2_with fail
                          go_round
                          case rel => exact ⟨k + 1, by omega, by go_num⟩
                          case measure => simp [intOf]; omega
                    · clear HLC HOL HNE HCk
                      go_wp2_with fail
                      refine (kept_any LRm.out HAm.out (by omega)).mono ?_
                      rintro e w' ⟨rfl, rfl⟩
                      obtain ⟨wn, hwn⟩ : ∃ wn, wn = w' := ⟨_, rfl⟩
                      subst hwn
                      obtain ⟨gl, cl2, hal, hol⟩ := LRm.out
                      injection hal with hal1 _ hal3
                      subst hal1 hal3
                      have hgll := World.ownsRow.lt hol gl rfl
                      have hcl : l.length + 300 ≤ cl := by
                        rcases hol.2 with ⟨h, _⟩ | ⟨g', cap', cur, hv, _, _, hn, _⟩
                        · cases h
                        · obtain ⟨_, _, _, rfl⟩ := slice_inj hv; simpa [marks_length] using hn
                      have HX0 : Hid (∀ j, j < l.length → wn.cell? ⟨gl, j, none⟩ = some (.int .u8 (XX l 0 j).toNat) ∧ wn.frozen? ⟨gl, j, none⟩ = false) := by
                        intro j hj
                        have hlen : (l ++ marks 300).length = l.length + 300 := by simp [marks_length]
                        have hol' : wn.ownsRow w1.heap.size 5 1 (.slice (some ⟨gl, 0, none⟩) (l.length + 300) cl) (l.length + 300) (bc (l ++ marks 300)) := by have := hol; unfold Own at this; rw [hlen] at this; exact this
                        refine ⟨?_, World.ownsRow.frozenAt hol' j⟩
                        rw [World.ownsRow.cellAt hol' j (by omega), bc_get, List.getElem?_append_left hj, List.getElem?_eq_getElem hj]
                        simp [XX, hj]
                      have hgw : w.heap.size ≤ gl := by omega
                      have hglw : gl < wn.heap.size := hgll.2
                      have BWn : Hid (Below w.heap.size w wn) := bstep B2.out BWk.out
                      clear hol LRm hlt hgll BWk HAm
                      go_wp2_with fail
                      go_loopw [17] (fun i wr => ∃ k : Nat, k ≤ l.length ∧ i = .int .i64 k ∧ Only [gl] wn wr ∧ (∀ j, j < l.length → wr.cell? ⟨gl, j, none⟩ = some (.int .u8 (XX l k j).toNat) ∧ wr.frozen? ⟨gl, j, none⟩ = false)) (fun i _ => l.length - (intOf i).toNat)
                      case atStart => exact ⟨0, Nat.zero_le _, rfl, Only.refl _ _, HX0.out⟩
                      case round =>
                        clear HX0
                        obtain ⟨k, hk, rfl, hon, hcs⟩ := hrel
                        have HO : Hid (Only [gl] wn wr) := hon
                        have HX : Hid (∀ j, j < l.length → wr.cell? ⟨gl, j, none⟩ = some (.int .u8 (XX l k j).toNat) ∧ wr.frozen? ⟨gl, j, none⟩ = false) := hcs
                        clear hon hcs
                        by_cases hlt : k < l.length
                        · obtain ⟨hz, hf⟩ := HX.out k hlt
                          have e0 : XX l k k = l.getD k 0 := by unfold XX; rw [if_neg (by omega)]
                          rw [e0] at hz
                          obtain ⟨bk, hbk⟩ : ∃ bk, bk = l.getD k 0 := ⟨_, rfl⟩
                          rw [← hbk] at hz
                          have HBK : Hid (bk = l.getD k 0) := hbk
                          have hxo := xor_cell bk
                          clear e0 hbk
                          go_wp2_with fail
                          go_roundw
                          case rel =>
                            refine ⟨k + 1, by omega, by go_num, HO.out.trans ⟨rfl, rfl, rfl, by simp [World.setCell], fun k' _ hn => Below.heap_setCell _ _ _ _ (fun e => hn (by simp [e]))⟩, ?_⟩
                            have := xx_set HX.out hlt
                            rw [← HBK.out] at this
                            exact this
                          case measure => simp [intOf]; omega
                        · obtain rfl : k = l.length := by omega
                          obtain ⟨wp, hwp⟩ : ∃ wp, wp = wr := ⟨_, rfl⟩
                          subst hwp
                          obtain ⟨l', hl'⟩ : ∃ l' : List UInt8, l' = l.map (· ^^^ 255) := ⟨_, rfl⟩
                          have hln : l'.length = l.length := by rw [hl']; simp
                          have VP : Hid (BS wp (.slice (some ⟨gl, 0, none⟩) l.length cl) l') := by
                            show BS _ _ _
                            rw [hl']
                            exact xx_done (Nat.lt_of_lt_of_le hglw HO.out.size) (by omega) HX.out
                          have BP : Hid (Below w.heap.size w wp) := BWn.out.trans (HO.out.below BWn.out.size (by simp; omega))
                          have HLN : Hid (l'.length = l.length) := hln
                          have hl2 : l'.length ≤ 2000000 := by omega
                          clear HX HO BWn hl' hln hlt hk
                          go_wp2_with (at_builtin; refine app_bytes (base := wp.heap.size) (l := []) (k := l') (tx := 27) (Own.nil _ _) (VP.out.src und27) (by simp; omega) (Nat.le_refl _) rfl (.tmp 200) (.tmp 201) rfl rfl rfl ?_; intro vM wM hoM hgM hatM)
                          have BM : Below wp.heap.size wp wM := (Below.refl _ _).grown hgM (Nat.le_refl _) (by intro k hk; simp [Value.ownBlock] at hk)
                          rw [List.nil_append] at hoM
                          have M0 : Hid (BS wM vM l') := hoM.bs
                          have V0 : Hid (BS wM (.slice (some ⟨gl, 0, none⟩) l.length cl) l') := VP.out.later BM
                          have W0 : Hid (Below w.heap.size w wM) := bstep BP.out BM
                          obtain ⟨pM, nM, cM, rfl⟩ := M0.out.form'
                          clear hoM hgM hatM BM VP BP
                          refine (put64_any V0.out _ x rfl (by omega)).mono ?_
                          rintro e f1 ⟨y1, rfl, ho, hb⟩
                          have M1 : Hid (BS f1 (.slice pM nM cM) l') := M0.out.later hb
                          have V1 : Hid (BS f1 (.slice (some ⟨gl, 0, none⟩) l.length cl) l') := V0.out.later hb
                          have W1 : Hid (Below w.heap.size w f1) := bstep W0.out hb
                          have Y1 : Hid (BS f1 y1 (l' ++ le 8 x)) := ho.bs
                          clear ho hb M0 V0 W0
                          go_wp2_with fail
                          refine (rput_at M1.out _ x rfl hx _ 8 rfl (by omega) (by omega)).mono ?_
                          rintro e f2 ⟨y2, rfl, ho, hb⟩
                          have M2 : Hid (BS f2 (.slice pM nM cM) l') := M1.out.later hb
                          have V2 : Hid (BS f2 (.slice (some ⟨gl, 0, none⟩) l.length cl) l') := V1.out.later hb
                          have W2 : Hid (Below w.heap.size w f2) := bstep W1.out hb
                          have Y2 : Hid (BS f2 y1 (l' ++ le 8 x)) := Y1.out.later hb
                          have Z2 : Hid (BS f2 y2 (l' ++ le 8 x)) := ho.bs
                          clear ho hb M1 V1 W1 Y1
                          go_wp2_with fail
                          refine (same_any Y2.out Z2.out).mono ?_
                          rintro e f2' ⟨rfl, rfl⟩
                          rw [beq_self_eq_true]
                          clear Y2 Z2
                          have htot : tot [l', l'] ≤ 10000000000 := by simp [tot]; omega
                          go_wp2_with fail
                          refine (join_any (rws2 _ _ _ _ _ V2.out V2.out) (by simp) htot).mono ?_
                          rintro e f3 ⟨y3, rfl, ho, hb0⟩
                          have hb := bstep (balloc _ _) hb0
                          have M3 : Hid (BS f3 (.slice pM nM cM) l') := M2.out.later hb
                          have V3 : Hid (BS f3 (.slice (some ⟨gl, 0, none⟩) l.length cl) l') := V2.out.later hb
                          have W3 : Hid (Below w.heap.size w f3) := bstep W2.out hb
                          have Y3 : Hid (BS f3 y3 [l', l'].flatten) := ho.bs
                          clear ho hb hb0 M2 V2 W2
                          go_wp2_with fail
                          refine (rjoin_any (rws2 _ _ _ _ _ M3.out M3.out) (by simp) htot).mono ?_
                          rintro e f4 ⟨y4, rfl, ho, hb0⟩
                          have hb := bstep (balloc _ _) hb0
                          have M4 : Hid (BS f4 (.slice pM nM cM) l') := M3.out.later hb
                          have V4 : Hid (BS f4 (.slice (some ⟨gl, 0, none⟩) l.length cl) l') := V3.out.later hb
                          have W4 : Hid (Below w.heap.size w f4) := bstep W3.out hb
                          have Y4 : Hid (BS f4 y3 [l', l'].flatten) := Y3.out.later hb
                          have Z4 : Hid (BS f4 y4 [l', l'].flatten) := ho.bs
                          clear ho hb hb0 M3 V3 W3 Y3
                          go_wp2_with fail
                          refine (same_any Y4.out Z4.out).mono ?_
                          rintro e f4' ⟨rfl, rfl⟩
                          rw [beq_self_eq_true]
                          clear Y4 Z4 htot
                          go_wp2_with fail
                          refine (text_any V4.out s (by omega) (by omega)).mono ?_
                          rintro e f5 ⟨y5, rfl, ho, hb⟩
                          have M5 : Hid (BS f5 (.slice pM nM cM) l') := M4.out.later hb
                          have W5 : Hid (Below w.heap.size w f5) := bstep W4.out hb
                          have Y5 : Hid (BS f5 y5 (l' ++ le 4 s.size ++ s.data.toList)) := ho.bs
                          clear ho hb M4 V4 W4
                          go_wp2_with fail
                          refine (rtext_any M5.out s (by omega) (by omega)).mono ?_
                          rintro e f6 ⟨y6, rfl, ho, hb⟩
                          have W6 : Hid (Below w.heap.size w f6) := bstep W5.out hb
                          have Y6 : Hid (BS f6 y5 (l' ++ le 4 s.size ++ s.data.toList)) := Y5.out.later hb
                          have Z6 : Hid (BS f6 y6 (l' ++ le 4 s.size ++ s.data.toList)) := ho.bs
                          clear ho hb M5 W5 Y5
                          go_wp2_with fail
                          refine (same_any Y6.out Z6.out).mono ?_
                          rintro e f6' ⟨rfl, rfl⟩
                          rw [beq_self_eq_true]
                          go_wp2_with fail
                          go_ret
                          exact ⟨rfl, W6.out⟩

end Go.Proofs.Ytefhdnhhcgbbjaa
