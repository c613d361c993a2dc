/-
  Who sees.
-/
import Derived.Test.YtoldcbfmkibkdaaSee
namespace Go.Proofs.Ytoldcbfmkibkdaa
open Go.RowKit

theorem ta65_65 (w : World) : (Instr.typeAssert (.iface 65 (.agg #[])) 49 65 true).run Try.prog w = .ok (.tuple #[.agg #[], .bool true]) w := by kernel_rfl
theorem ta65_66 (w : World) : (Instr.typeAssert (.iface 65 (.agg #[])) 49 66 true).run Try.prog w = .ok (.tuple #[.string ⟨#[]⟩, .bool false]) w := by kernel_rfl
theorem ta65_67 (w : World) : (Instr.typeAssert (.iface 65 (.agg #[])) 49 67 true).run Try.prog w = .ok (.tuple #[.string ⟨#[]⟩, .bool false]) w := by kernel_rfl
theorem ta66_65 (w : World) (v : ByteArray) : (Instr.typeAssert (.iface 66 (.string v)) 49 65 true).run Try.prog w = .ok (.tuple #[.agg #[], .bool false]) w := by kernel_rfl
theorem ta66_66 (w : World) (v : ByteArray) : (Instr.typeAssert (.iface 66 (.string v)) 49 66 true).run Try.prog w = .ok (.tuple #[.string v, .bool true]) w := by kernel_rfl
theorem ta66_67 (w : World) (v : ByteArray) : (Instr.typeAssert (.iface 66 (.string v)) 49 67 true).run Try.prog w = .ok (.tuple #[.string ⟨#[]⟩, .bool false]) w := by kernel_rfl
theorem ta67_65 (w : World) (v : ByteArray) : (Instr.typeAssert (.iface 67 (.string v)) 49 65 true).run Try.prog w = .ok (.tuple #[.agg #[], .bool false]) w := by kernel_rfl
theorem ta67_66 (w : World) (v : ByteArray) : (Instr.typeAssert (.iface 67 (.string v)) 49 66 true).run Try.prog w = .ok (.tuple #[.string ⟨#[]⟩, .bool false]) w := by kernel_rfl
theorem ta67_67 (w : World) (v : ByteArray) : (Instr.typeAssert (.iface 67 (.string v)) 49 67 true).run Try.prog w = .ok (.tuple #[.string v, .bool true]) w := by kernel_rfl
theorem tan_65 (w : World) : (Instr.typeAssert .nilIface 49 65 true).run Try.prog w = .ok (.tuple #[.agg #[], .bool false]) w := by kernel_rfl
theorem tan_66 (w : World) : (Instr.typeAssert .nilIface 49 66 true).run Try.prog w = .ok (.tuple #[.string ⟨#[]⟩, .bool false]) w := by kernel_rfl
theorem tan_67 (w : World) : (Instr.typeAssert .nilIface 49 67 true).run Try.prog w = .ok (.tuple #[.string ⟨#[]⟩, .bool false]) w := by kernel_rfl

theorem beq_dec (a b : List UInt8) : (a == b) = decide (a = b) := by by_cases h : a = b <;> simp [h]
set_option maxHeartbeats 1000000 in
theorem names_any (k : Kd) (f : List UInt8) (w : World) (hk : k.top.length ≤ 1125899906842624) (hf : f.length ≤ 1125899906842624) : Calls Try.prog 30 #[k.val, .string (bs f)] w fun e w' => e = .returned (.bool (nms k f)) ∧ Below w.heap.size w w' := by
  have e1 := bs_toList f
  cases k with
  | nobody =>
    simp only [Kd.val, nms]
    have a65 := tan_65
    have a66 := tan_66
    have a67 := tan_67
    go_enter Try.func30, Try.ntmps30
    go_wp2_with fail
    go_ret
    exact ⟨rfl, Below.refl _ _⟩
  | all =>
    simp only [Kd.val, nms]
    have a65 := ta65_65
    go_enter Try.func30, Try.ntmps30
    go_wp2_with fail
    go_ret
    exact ⟨rfl, balloc _ _⟩
  | one p =>
    simp only [Kd.val, nms]
    have a65 := ta66_65
    have a66 := ta66_66
    have e2 := bs_toList p
    rw [← beq_dec]
    go_enter Try.func30, Try.ntmps30
    go_wp2_with fail
    go_ret
    exact ⟨rfl, Below.refl _ _⟩
  | tree p =>
    have HA : Hid (∀ w : World, Calls Try.prog 45 #[.string (bs p), .string (bs f)] w fun e w' => e = .returned (.bool (abvV p f)) ∧ Laid w w') := fun w => above_any p f w (by simp only [Kd.top] at hk; omega) (by omega)
    simp only [Kd.val, nms]
    clear hk hf
    have a65 := ta67_65
    have a66 := ta67_66
    have a67 := ta67_67
    have e2 := bs_toList p
    rw [← beq_dec]
    generalize abvV p f = z at *
    cases h : (f == p)
    · rw [Bool.false_or]
      go_enter Try.func30, Try.ntmps30
      go_wp2_with fail
      refine (HA.out _).mono ?_
      rintro e w1 ⟨rfl, hb1⟩
      have HB : Hid (Below w.heap.size w w1) := hb1.below
      clear hb1
      go_wp2_with fail
      go_ret
      exact ⟨rfl, HB.out⟩
    · rw [Bool.true_or]
      go_enter Try.func30, Try.ntmps30
      go_wp2_with fail
      go_ret
      exact ⟨rfl, Below.refl _ _⟩

theorem kin_top (s : List UInt8) : (kin s).top.length ≤ s.length := by
  unfold kin
  split
  · simp [Kd.top]
  split
  · simp [Kd.top]
  split
  · simp [Kd.top]
  split
  · split
    · simp [Kd.top]; omega
    · simp [Kd.top]
  · simp [Kd.top]
theorem rdk_top (s : List UInt8) : (rdk s).top.length ≤ s.length := by
  unfold rdk
  split
  · exact kin_top s
  · simp [Kd.top]

set_option maxHeartbeats 1000000 in
theorem seer_any (s : List UInt8) (w : World) (hs : s.length ≤ 1125899906842624) : Calls Try.prog 11 #[.string (bs s)] w fun e w' => e = .returned (.bool (ser s)) ∧ Below w.heap.size w w' := by
  have HK : Hid (∀ w : World, Calls Try.prog 29 #[.string (bs s)] w fun e w' => e = .returned (rdk s).val ∧ Below w.heap.size w w') := fun w => read_any s w hs
  unfold ser
  generalize rdk s = k at *
  clear hs
  have m65 := nq65
  have m66 := nq66
  have m67 := nq67
  cases k with
  | nobody =>
    simp only [Kd.val, decide_true, Bool.not_true] at *
    go_enter Try.func11, Try.ntmps11
    go_wp2_with fail
    refine (HK.out _).mono ?_
    rintro e w1 ⟨rfl, hb1⟩
    have HB : Hid (Below w.heap.size w w1) := hb1
    clear hb1
    go_wp2_with fail
    go_ret
    exact ⟨rfl, HB.out⟩
  | all =>
    have hd : (!decide (Kd.all = Kd.nobody)) = true := by simp
    rw [hd]
    simp only [Kd.val] at *
    go_enter Try.func11, Try.ntmps11
    go_wp2_with fail
    refine (HK.out _).mono ?_
    rintro e w1 ⟨rfl, hb1⟩
    have HB : Hid (Below w.heap.size w w1) := hb1
    clear hb1
    go_wp2_with fail
    go_ret
    exact ⟨rfl, HB.out⟩
  | one p =>
    have hd : (!decide (Kd.one p = Kd.nobody)) = true := by simp
    rw [hd]
    simp only [Kd.val] at *
    go_enter Try.func11, Try.ntmps11
    go_wp2_with fail
    refine (HK.out _).mono ?_
    rintro e w1 ⟨rfl, hb1⟩
    have HB : Hid (Below w.heap.size w w1) := hb1
    clear hb1
    go_wp2_with fail
    go_ret
    exact ⟨rfl, HB.out⟩
  | tree p =>
    have hd : (!decide (Kd.tree p = Kd.nobody)) = true := by simp
    rw [hd]
    simp only [Kd.val] at *
    go_enter Try.func11, Try.ntmps11
    go_wp2_with fail
    refine (HK.out _).mono ?_
    rintro e w1 ⟨rfl, hb1⟩
    have HB : Hid (Below w.heap.size w w1) := hb1
    clear hb1
    go_wp2_with fail
    go_ret
    exact ⟨rfl, HB.out⟩

set_option maxHeartbeats 2000000 in
theorem sees_any {w : World} {v : Value} {l : List (List UInt8)} (own fr : List UInt8) (h : SS w v l) (hl : l.length ≤ 1125899906842624) (he : ∀ x ∈ l, x.length ≤ 1125899906842624) (hf : fr.length ≤ 1125899906842624) :
    Calls Try.prog 12 #[v, .string (bs own), .string (bs fr)] w fun e w' => e = .returned (.bool (ses l own fr)) ∧ Below w.heap.size w w' := by
  have e1 := bs_toList own
  have e2 := bs_toList fr
  unfold ses
  rw [← beq_dec]
  cases ho : (own == fr)
  rotate_left
  · rw [Bool.true_or]
    clear h hl he hf
    go_enter Try.func12, Try.ntmps12
    go_wp2_with fail
    go_ret
    exact ⟨rfl, Below.refl _ _⟩
  rw [Bool.false_or]
  obtain ⟨r, hr⟩ : ∃ r, (l.any fun s => nms (rdk s) fr) = r := ⟨_, rfl⟩
  rw [hr]
  have HR : Hid (((l.drop 0).any fun s => nms (rdk s) fr) = r) := hr
  have H : Hid (SS w v l) := h
  clear hr
  obtain ⟨a, c, rfl, _⟩ := h.form
  clear h
  rename_i hform
  clear hform
  obtain ⟨n, hn⟩ : ∃ n, l.length = n := ⟨_, rfl⟩
  have H' : Hid (SS w (.slice a l.length c) l) := H.out
  clear H
  rw [hn] at hl ⊢
  have HN : Hid (l.length = n) := hn
  have HE : Hid (∀ x ∈ l, x.length ≤ 1125899906842624) := he
  have HK : Hid (∀ x ∈ l, ∀ w : World, Calls Try.prog 29 #[.string (bs x)] w fun e w' => e = .returned (rdk x).val ∧ Below w.heap.size w w') := fun x hx w => read_any x w (he x hx)
  have HM : Hid (∀ x ∈ l, ∀ w : World, Calls Try.prog 30 #[(rdk x).val, .string (bs fr)] w fun e w' => e = .returned (.bool (nms (rdk x) fr)) ∧ Below w.heap.size w w') := fun x hx w => names_any (rdk x) fr w (Nat.le_trans (rdk_top x) (he x hx)) hf
  clear hn he hf
  go_enter Try.func12, Try.ntmps12
  go_wp2_with fail
  go_loopw [14] (fun i wr => ∃ k : Nat, k ≤ n ∧ i = .int .i64 k ∧ Below w.heap.size w wr ∧ ((l.drop k).any fun s => nms (rdk s) fr) = r) (fun i _ => n - (intOf i).toNat)
  case atStart => exact ⟨0, by omega, rfl, Below.refl _ _, HR.out⟩
  case round =>
    obtain ⟨k, hk, rfl, hb, hd⟩ := hrel
    have HB : Hid (Below w.heap.size w wr) := hb
    have HD : Hid (((l.drop k).any fun s => nms (rdk s) fr) = r) := hd
    clear hd
    by_cases hlt : k < n
    · have hkl : k < l.length := by have := HN.out; omega
      obtain ⟨a', c', ev, hcell⟩ := (H'.out.later hb).form
      obtain ⟨b, off, ea, hbw, hc⟩ := hcell k hkl
      simp only [Value.slice.injEq] at ev
      obtain ⟨rfl, _, rfl⟩ := ev
      subst ea
      clear hcell hb
      obtain ⟨x, hx⟩ : ∃ x, l[k] = x := ⟨_, rfl⟩
      rw [hx] at hc
      have hm : x ∈ l := by rw [← hx]; exact List.getElem_mem _
      have HKx : Hid (∀ w : World, Calls Try.prog 29 #[.string (bs x)] w fun e w' => e = .returned (rdk x).val ∧ Below w.heap.size w w') := HK.out x hm
      have HMx : Hid (∀ w : World, Calls Try.prog 30 #[(rdk x).val, .string (bs fr)] w fun e w' => e = .returned (.bool (nms (rdk x) fr)) ∧ Below w.heap.size w w') := HM.out x hm
      have HS : Hid ((nms (rdk x) fr || ((l.drop (k + 1)).any fun s => nms (rdk s) fr)) = r) := by
        have h1 := HD.out
        rw [List.drop_eq_getElem_cons hkl, List.any_cons, hx] at h1; exact h1
      generalize nms (rdk x) fr = z at *
      generalize (rdk x).val = kv at *
      clear hx hm HD hkl
      have k1 : (0 : Int) ≤ (k : Int) := by omega
      have k2 : (k : Int) < (n : Int) := by omega
      cases z
      · go_wp2_with fail
        refine (HKx.out _).mono ?_
        rintro e w1 ⟨rfl, hb1⟩
        have HB1 : Hid (Below w.heap.size w w1) := bstep HB.out hb1
        clear hb1
        go_wp2_with fail
        refine (HMx.out _).mono ?_
        rintro e w2 ⟨rfl, hb2⟩
        have HB2 : Hid (Below w.heap.size w w2) := bstep HB1.out hb2
        clear hb2
        go_wp2_with fail
        go_round
        case rel => exact ⟨k + 1, by omega, by simp, HB2.out, by have := HS.out; simpa using this⟩
        case measure => simp only [intOf]; omega
      · go_wp2_with fail
        refine (HKx.out _).mono ?_
        rintro e w1 ⟨rfl, hb1⟩
        have HB1 : Hid (Below w.heap.size w w1) := bstep HB.out hb1
        clear hb1
        go_wp2_with fail
        refine (HMx.out _).mono ?_
        rintro e w2 ⟨rfl, hb2⟩
        have HB2 : Hid (Below w.heap.size w w2) := bstep HB1.out hb2
        clear hb2
        go_wp2_with fail
        go_ret
        exact ⟨by rw [← HS.out, Bool.true_or]; rfl, HB2.out⟩
    · have hkn : k = n := by omega
      have HF : Hid (r = false) := by
        have h1 := HD.out
        rw [List.drop_eq_nil_of_le (by have := HN.out; omega)] at h1; exact h1.symm
      clear hb
      subst hkn
      go_wp2_with fail
      go_ret
      exact ⟨by rw [HF.out]; rfl, HB.out⟩
end Go.Proofs.Ytoldcbfmkibkdaa
