import Derived.Test.YtefhdnhhcgbbjaaHead
namespace Go.Proofs.Ytefhdnhhcgbbjaa
open Go.RowKit

set_option maxRecDepth 100000 in
set_option maxHeartbeats 2000000 in
theorem puts_walk {w : World} {b : Value} {l : List UInt8} (h : BS w b l) (x : Nat) (hx : x < 18446744073709551616) (s : ByteArray) (hl : l.length ≤ 2000000) (hs : s.size ≤ 2000000) :
    Calls Try.prog 4 #[b, .int .u64 x, .string s] w fun e w' => e = .returned (.bool true) ∧ Below w.heap.size w w' := by
  have H : Hid (BS w b l) := h
  clear h
  go_enter Try.func4, Try.ntmps4
  go_wp2_with fail
  refine (head_any w).mono ?_
  rintro e w1 ⟨rfl, hb1⟩
  have B1 : Hid (Below w.heap.size w w1) := hb1
  clear hb1
  go_wp2_with fail
  refine (lent_any (H.out.later B1.out) (by omega)).mono ?_
  rintro e w2 ⟨v2, rfl, hl2, hb2⟩
  have B2 : Hid (Below w.heap.size w w2) := bstep B1.out hb2
  have L2 : Hid (Lent w1.heap.size w2 v2 l) := hl2
  clear hb2 hl2 B1
  go_wp2_with fail
  refine (text_any L2.out.bs s (by omega) (by omega)).mono ?_
  rintro e w3 ⟨v3, rfl, ho3, hb3⟩
  have B3 : Hid (Below w.heap.size w w3) := bstep B2.out hb3
  have L3 : Hid (Lent w1.heap.size w3 v2 l) := L2.out.later hb3 L2.out.blk
  have T3 : Hid (BS w3 v3 (l ++ le 4 s.size ++ s.data.toList)) := ho3.bs
  clear hb3 ho3 B2 L2
  go_wp2_with fail
  refine (put8_any L3.out.bs _ (x % 256) (by omega) (by omega) (by omega)).mono ?_
  rintro e w4 ⟨v4, rfl, ho, hb⟩
  have B4 : Hid (Below w.heap.size w w4) := bstep B3.out hb
  have L4 : Hid (Lent w1.heap.size w4 v2 l) := L3.out.later hb L3.out.blk
  have T4 : Hid (BS w4 v3 (l ++ le 4 s.size ++ s.data.toList)) := T3.out.later hb
  have P4 : Hid (BS w4 v4 (l ++ le 1 (x % 256))) := ho.bs
  clear hb ho B3 L3 T3
  go_wp2_with fail
  refine (rput_at (H.out.later B4.out) _ (x % 256) (by omega) (by omega) _ 1 rfl (by omega) (by omega)).mono ?_
  rintro e w5 ⟨v5, rfl, ho, hb⟩
  have B5 : Hid (Below w.heap.size w w5) := bstep B4.out hb
  have L5 : Hid (Lent w1.heap.size w5 v2 l) := L4.out.later hb L4.out.blk
  have T5 : Hid (BS w5 v3 (l ++ le 4 s.size ++ s.data.toList)) := T4.out.later hb
  have P5 : Hid (BS w5 v4 (l ++ le 1 (x % 256))) := P4.out.later hb
  have R5 : Hid (BS w5 v5 (l ++ le 1 (x % 256))) := ho.bs
  clear hb ho B4 L4 T4 P4
  go_wp2_with fail
  refine (same_any P5.out R5.out).mono ?_
  rintro e w' ⟨rfl, rfl⟩
  rw [beq_self_eq_true]
  clear P5 R5
  go_wp2_with fail
  refine (put16_any L5.out.bs _ (x % 65536) (by rw [IntKind.wrap_u16]; omega) (by omega) (by omega)).mono ?_
  rintro e w6 ⟨v6, rfl, ho, hb⟩
  have B6 : Hid (Below w.heap.size w w6) := bstep B5.out hb
  have L6 : Hid (Lent w1.heap.size w6 v2 l) := L5.out.later hb L5.out.blk
  have T6 : Hid (BS w6 v3 (l ++ le 4 s.size ++ s.data.toList)) := T5.out.later hb
  have P6 : Hid (BS w6 v6 (l ++ le 2 (x % 65536))) := ho.bs
  clear hb ho B5 L5 T5
  go_wp2_with fail
  refine (rput_at (H.out.later B6.out) _ (x % 65536) (by omega) (by omega) _ 2 rfl (by omega) (by omega)).mono ?_
  rintro e w7 ⟨v7, rfl, ho, hb⟩
  have B7 : Hid (Below w.heap.size w w7) := bstep B6.out hb
  have L7 : Hid (Lent w1.heap.size w7 v2 l) := L6.out.later hb L6.out.blk
  have T7 : Hid (BS w7 v3 (l ++ le 4 s.size ++ s.data.toList)) := T6.out.later hb
  have P7 : Hid (BS w7 v6 (l ++ le 2 (x % 65536))) := P6.out.later hb
  have R7 : Hid (BS w7 v7 (l ++ le 2 (x % 65536))) := ho.bs
  clear hb ho B6 L6 T6 P6
  go_wp2_with fail
  refine (same_any P7.out R7.out).mono ?_
  rintro e w' ⟨rfl, rfl⟩
  rw [beq_self_eq_true]
  clear P7 R7
  go_wp2_with fail
  refine (put32_any L7.out.bs _ (x % 4294967296) (by omega) (by omega) (by omega)).mono ?_
  rintro e w8 ⟨v8, rfl, ho, hb⟩
  have B8 : Hid (Below w.heap.size w w8) := bstep B7.out hb
  have L8 : Hid (Lent w1.heap.size w8 v2 l) := L7.out.later hb L7.out.blk
  have T8 : Hid (BS w8 v3 (l ++ le 4 s.size ++ s.data.toList)) := T7.out.later hb
  have P8 : Hid (BS w8 v8 (l ++ le 4 (x % 4294967296))) := ho.bs
  clear hb ho B7 L7 T7
  go_wp2_with fail
  refine (rput_at (H.out.later B8.out) _ (x % 4294967296) (by omega) (by omega) _ 4 rfl (by omega) (by omega)).mono ?_
  rintro e w9 ⟨v9, rfl, ho, hb⟩
  have B9 : Hid (Below w.heap.size w w9) := bstep B8.out hb
  have L9 : Hid (Lent w1.heap.size w9 v2 l) := L8.out.later hb L8.out.blk
  have T9 : Hid (BS w9 v3 (l ++ le 4 s.size ++ s.data.toList)) := T8.out.later hb
  have P9 : Hid (BS w9 v8 (l ++ le 4 (x % 4294967296))) := P8.out.later hb
  have R9 : Hid (BS w9 v9 (l ++ le 4 (x % 4294967296))) := ho.bs
  clear hb ho B8 L8 T8 P8
  go_wp2_with fail
  refine (same_any P9.out R9.out).mono ?_
  rintro e w' ⟨rfl, rfl⟩
  rw [beq_self_eq_true]
  clear P9 R9
  go_wp2_with fail
  refine (put64_any L9.out.bs _ x (by omega) (by omega)).mono ?_
  rintro e w10 ⟨v10, rfl, ho, hb⟩
  have B10 : Hid (Below w.heap.size w w10) := bstep B9.out hb
  have L10 : Hid (Lent w1.heap.size w10 v2 l) := L9.out.later hb L9.out.blk
  have T10 : Hid (BS w10 v3 (l ++ le 4 s.size ++ s.data.toList)) := T9.out.later hb
  have P10 : Hid (BS w10 v10 (l ++ le 8 x)) := ho.bs
  clear hb ho B9 L9 T9
  go_wp2_with fail
  refine (rput_at (H.out.later B10.out) _ x (by omega) (by omega) _ 8 rfl (by omega) (by omega)).mono ?_
  rintro e w11 ⟨v11, rfl, ho, hb⟩
  have B11 : Hid (Below w.heap.size w w11) := bstep B10.out hb
  have L11 : Hid (Lent w1.heap.size w11 v2 l) := L10.out.later hb L10.out.blk
  have T11 : Hid (BS w11 v3 (l ++ le 4 s.size ++ s.data.toList)) := T10.out.later hb
  have P11 : Hid (BS w11 v10 (l ++ le 8 x)) := P10.out.later hb
  have R11 : Hid (BS w11 v11 (l ++ le 8 x)) := ho.bs
  clear hb ho B10 L10 T10 P10
  go_wp2_with fail
  refine (same_any P11.out R11.out).mono ?_
  rintro e w' ⟨rfl, rfl⟩
  rw [beq_self_eq_true]
  clear P11 R11
  go_wp2_with fail
  refine (rtext_any (H.out.later B11.out) s (by omega) (by omega)).mono ?_
  rintro e w12 ⟨v12, rfl, ho, hb⟩
  have B12 : Hid (Below w.heap.size w w12) := bstep B11.out hb
  have L12 : Hid (Lent w1.heap.size w12 v2 l) := L11.out.later hb L11.out.blk
  have T12 : Hid (BS w12 v3 (l ++ le 4 s.size ++ s.data.toList)) := T11.out.later hb
  have R12 : Hid (BS w12 v12 (l ++ le 4 s.size ++ s.data.toList)) := ho.bs
  clear hb ho B11 L11 T11
  go_wp2_with fail
  refine (same_any T12.out R12.out).mono ?_
  rintro e w' ⟨rfl, rfl⟩
  rw [beq_self_eq_true]
  clear R12
  obtain ⟨T, hT⟩ : ∃ T, l ++ le 4 s.size ++ s.data.toList = T := ⟨_, rfl⟩
  have hTl : T.length ≤ 4000004 := by rw [← hT, List.length_append, List.length_append, le_length, size_toList]; omega
  rw [hT] at T12
  clear hT
  obtain ⟨a2, c2, rfl⟩ := L12.out.bs.form
  obtain ⟨a3, c3, rfl⟩ := T12.out.form
  obtain ⟨a0, c0, rfl⟩ := H.out.form
  have htot : tot [l, T, l] ≤ 10000000000 := by simp [tot]; omega
  go_wp2_with fail
  refine (join_any (rws3 _ _ _ _ _ _ _ L12.out.bs T12.out L12.out.bs) (by simp) htot).mono ?_
  rintro e w13 ⟨v13, rfl, ho, hb0⟩
  have hb := bstep (balloc _ _) hb0
  have B13 : Hid (Below w.heap.size w w13) := bstep B12.out hb
  have L13 : Hid (Lent w1.heap.size w13 (.slice a2 l.length c2) l) := L12.out.later hb L12.out.blk
  have T13 : Hid (BS w13 (.slice a3 T.length c3) T) := T12.out.later hb
  have P13 : Hid (BS w13 v13 [l, T, l].flatten) := ho.bs
  clear hb ho hb0 B12 L12 T12
  go_wp2_with fail
  refine (rjoin_any (rws3 _ _ _ _ _ _ _ (H.out.later B13.out) T13.out (H.out.later B13.out)) (by simp) htot).mono ?_
  rintro e w14 ⟨v14, rfl, ho, hb0⟩
  have hb := bstep (balloc _ _) hb0
  have B14 : Hid (Below w.heap.size w w14) := bstep B13.out hb
  have L14 : Hid (Lent w1.heap.size w14 (.slice a2 l.length c2) l) := L13.out.later hb L13.out.blk
  have P14 : Hid (BS w14 v13 [l, T, l].flatten) := P13.out.later hb
  have R14 : Hid (BS w14 v14 [l, T, l].flatten) := ho.bs
  clear hb ho hb0 B13 L13 T13 P13
  go_wp2_with fail
  refine (same_any P14.out R14.out).mono ?_
  rintro e w' ⟨rfl, rfl⟩
  rw [beq_self_eq_true]
  clear P14 R14
  go_wp2_with fail
  refine (join_any (ls := []) (.inl ⟨rfl, rfl⟩) (by simp) (by simp [tot])).mono ?_
  rintro e w15 ⟨v15, rfl, ho, hb⟩
  have B15 : Hid (Below w.heap.size w w15) := bstep B14.out hb
  have L15 : Hid (Lent w1.heap.size w15 (.slice a2 l.length c2) l) := L14.out.later hb L14.out.blk
  obtain ⟨a15, c15, rfl⟩ := ho.bs.form
  clear hb ho B14 L14
  go_wp2_with fail
  refine (kept_any L15.out (H.out.later B15.out) (by omega)).mono ?_
  rintro e w' ⟨rfl, rfl⟩
  go_wp2_with fail
  go_ret
  exact ⟨rfl, B15.out⟩

end Go.Proofs.Ytefhdnhhcgbbjaa
