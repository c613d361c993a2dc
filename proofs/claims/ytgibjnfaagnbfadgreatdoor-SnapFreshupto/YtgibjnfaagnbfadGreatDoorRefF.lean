/-
  The document's answers: unhex.
-/
import Derived.Test.YtgibjnfaagnbfadGreatDoorRefE
import Derived.Test.YtgibjnfaagnbfadGreatDoorPkg
namespace Go.Proofs.YtgibjnfaagnbfadGreatDoor
open Go.RowKit

/-- the place of a small digit; of another byte 16 -/
def ix (c : UInt8) : Nat := if 48 ≤ c.toNat ∧ c.toNat ≤ 57 then c.toNat - 48 else if 97 ≤ c.toNat ∧ c.toNat ≤ 102 then c.toNat - 87 else 16
def pt (c : UInt8) (d : Nat) : Nat := if ix c < d then ix c else 0
theorem ix_le (c : UInt8) : ix c ≤ 16 := by unfold ix; split <;> (try split) <;> omega
theorem pt_all (c : UInt8) : pt c 16 = hl c := by
  unfold pt ix hl
  split <;> (try split) <;> (try split) <;> omega
theorem hx_nat (d : Nat) (h : d < 16) : (hx d).toNat = if d < 10 then 48 + d else 87 + d := by
  unfold hx
  split <;> simp <;> omega
theorem hx_ix (c : UInt8) (d : Nat) (h : d < 16) : (hx d).toNat = c.toNat ↔ ix c = d := by
  rw [hx_nat d h]
  unfold ix
  split <;> split <;> (try split) <;> omega
theorem pt_hit (c : UInt8) (d : Nat) (h : ix c = d) : pt c (d + 1) = d ∧ pt c d = 0 := by
  unfold pt
  rw [if_pos (by omega), if_neg (by omega)]; exact ⟨h, rfl⟩
theorem pt_miss (c : UInt8) (d : Nat) (h : ix c ≠ d) : pt c (d + 1) = pt c d := by
  unfold pt
  by_cases h1 : ix c < d
  · rw [if_pos (by omega), if_pos h1]
  · rw [if_neg (by omega), if_neg h1]
theorem pt_lt (c : UInt8) (d : Nat) : pt c d ≤ 16 := by
  unfold pt; have := ix_le c; split <;> omega
theorem hl_lt (c : UInt8) : hl c < 16 := by unfold hl; split <;> (try split) <;> omega
theorem dig_run2 (W : World) (h : Nat) (hh : h < 16) : (Instr.index 9 (.string ⟨#[48, 49, 50, 51, 52, 53, 54, 55, 56, 57, 97, 98, 99, 100, 101, 102]⟩) (.int .i64 (h : Nat))).run Tryz.prog W = .ok (.int .u8 ((hx h).toNat : Nat)) W := by
  have := idx_run W [48, 49, 50, 51, 52, 53, 54, 55, 56, 57, 97, 98, 99, 100, 101, 102] h (by simpa using hh)
  rw [show (Value.string ⟨#[48, 49, 50, 51, 52, 53, 54, 55, 56, 57, 97, 98, 99, 100, 101, 102]⟩) = .string (bs [48, 49, 50, 51, 52, 53, 54, 55, 56, 57, 97, 98, 99, 100, 101, 102]) from rfl, this]
  have e : ∀ h (hh : h < 16), ([48, 49, 50, 51, 52, 53, 54, 55, 56, 57, 97, 98, 99, 100, 101, 102] : List UInt8)[h]'(by simpa using hh) = hx h := by decide
  rw [e h hh]

/-- the value ahead of digit j -/
def vat (a b : UInt8) (j : Nat) : Nat := if j = 0 then 0 else if j = 1 then 16 * hl a else 16 * hl a + hl b
theorem vat_le (a b : UInt8) (j : Nat) : vat a b j ≤ 256 := by
  unfold vat
  have := hl_lt a
  have := hl_lt b
  split
  · omega
  · split <;> omega
def chr (a b : UInt8) (j : Nat) : UInt8 := if j = 0 then a else b
def wei (j : Nat) : Nat := if j = 0 then 16 else 1

set_option maxRecDepth 100000 in
set_option maxHeartbeats 4000000 in
theorem kunhex_any (l : List UInt8) (w : World) (hl4 : l.length ≤ 4194304) : Calls Tryz.prog 24 #[.string (bs l)] w fun e w' => e = .returned (.string (bs (unhexR l))) ∧ Below w.heap.size w w' := by
  have hz : (bs l).size = l.length := rfl
  obtain ⟨U, hU⟩ : ∃ U, unhexR l = U := ⟨_, rfl⟩
  have HU : Hid (unhexR l = U) := hU
  rw [hU]
  clear hU
  obtain ⟨n, hn⟩ : ∃ n, l.length = n := ⟨_, rfl⟩
  have HL : Hid (l.length = n) := hn
  rw [hn] at hz hl4
  clear hn
  go_enter Tryz.func24, Tryz.ntmps24
  go_wp2_with fail
  go_loopw [3, 4] (fun o i wr => ∃ (k : Nat) (D : List UInt8), k ≤ n + 1 ∧ i = .int .i64 k ∧ OwnB w.heap.size wr o D ∧ D.length ≤ k ∧ D ++ unhexR (l.drop k) = U ∧ Below w.heap.size w wr) (fun _ i _ => n + 2 - (intOf i).toNat)
  case atStart => exact ⟨0, [], by omega, rfl, OwnB.nil _ _, by simp, by simpa using HU.out, Below.refl _ _⟩
  case round =>
    rename World => w1
    obtain ⟨k, D, hk, rfl, ho, hD, hE, hb⟩ := hrel
    have HO : Hid (OwnB w.heap.size w1 u3 D) := ho
    have HE : Hid (D ++ unhexR (l.drop k) = U) := hE
    have HB : Hid (Below w.heap.size w w1) := hb
    have a0 : IntKind.i64.wrap ((k : Int) + 1) = (k : Int) + 1 := by rw [IntKind.wrap_i64]; omega
    clear ho hE hb
    by_cases hlt : k + 1 < n
    · have hk0 : k < l.length := by have := HL.out; omega
      have hk1 : k + 1 < l.length := by have := HL.out; omega
      have hd : (k : Int) + 1 < (n : Int) := by omega
      obtain ⟨ca, hca⟩ : ∃ c, l[k] = c := ⟨_, rfl⟩
      obtain ⟨cb, hcb⟩ : ∃ c, l[k + 1] = c := ⟨_, rfl⟩
      have HE2 : Hid (D ++ [UInt8.ofNat (16 * hl ca + hl cb)] ++ unhexR (l.drop (k + 2)) = U) := by
        have h := HE.out
        rw [List.drop_eq_getElem_cons hk0, List.drop_eq_getElem_cons hk1, hca, hcb, unhexR] at h
        show _ = _
        rw [← h]; simp
      have QA : Hid (∀ W : World, (Instr.index 9 (.string (bs l)) (.int .i64 (k : Nat))).run Tryz.prog W = .ok (.int .u8 (ca.toNat : Nat)) W) := fun W => by rw [idx_run W l k hk0, hca]
      have QB : Hid (∀ W : World, (Instr.index 9 (.string (bs l)) (.int .i64 ((k + 1 : Nat)))).run Tryz.prog W = .ok (.int .u8 (cb.toNat : Nat)) W) := fun W => by rw [idx_run W l (k + 1) hk1, hcb]
      clear hca hcb
      go_wp2_with fail
      go_loopw [5, 6] (fun v i wr => ∃ j : Nat, j ≤ 2 ∧ i = .int .i64 j ∧ v = .int .i64 (vat ca cb j : Nat) ∧ Below w1.heap.size w1 wr) (fun _ i _ => 2 - (intOf i).toNat)
      case atStart => exact ⟨0, by omega, rfl, rfl, Below.refl _ _⟩
      case round =>
        rename World => w2
        obtain ⟨j, hj, rfl, rfl, hb⟩ := hrel
        have HB2 : Hid (Below w1.heap.size w1 w2) := hb
        clear hb
        by_cases hj2 : j < 2
        · have hj3 : (j : Int) < 2 := by omega
          obtain ⟨c, hc⟩ : ∃ c, chr ca cb j = c := ⟨_, rfl⟩
          have q1 : ∀ W : World, (Instr.index 9 (.string (bs l)) (.int .i64 ((k : Int) + (j : Int)))).run Tryz.prog W = .ok (.int .u8 (c.toNat : Nat)) W := fun W => by
            rw [← hc, show (k : Int) + (j : Int) = ((k + j : Nat) : Int) by omega]
            have : j = 0 ∨ j = 1 := by omega
            rcases this with rfl | rfl
            · exact QA.out W
            · exact QB.out W
          have a1 : IntKind.i64.wrap ((k : Int) + (j : Int)) = (k : Int) + (j : Int) := by rw [IntKind.wrap_i64]; omega
          obtain ⟨V, hV⟩ : ∃ V, vat ca cb j = V := ⟨_, rfl⟩
          rw [hV]
          have hVl : V ≤ 256 := by rw [← hV]; exact vat_le ca cb j
          have HVn : Hid (vat ca cb (j + 1) = V + wei j * pt c 16) := by
            show _ = _
            rw [pt_all, ← hV, ← hc]
            have : j = 0 ∨ j = 1 := by omega
            rcases this with rfl | rfl
            · simp [vat, wei, chr]
            · simp [vat, wei, chr]
          clear hV hc
          go_wp2_with fail
          go_loopw [5, 7] (fun v i wr => ∃ d : Nat, d ≤ 16 ∧ i = .int .i64 d ∧ v = .int .i64 ((V + wei j * pt c d : Nat)) ∧ Below w1.heap.size w1 wr) (fun _ i _ => 16 - (intOf i).toNat)
          case atStart => exact ⟨0, by omega, rfl, by simp [pt], HB2.out⟩
          case round =>
            rename World => w3
            obtain ⟨d, hd, rfl, rfl, hb⟩ := hrel
            have HB3 : Hid (Below w1.heap.size w1 w3) := hb
            clear hb
            by_cases hdl : d < 16
            · have hdl2 : (d : Int) < 16 := by omega
              have q2 : ∀ W : World, (Instr.index 9 (.string ⟨#[48, 49, 50, 51, 52, 53, 54, 55, 56, 57, 97, 98, 99, 100, 101, 102]⟩) (.int .i64 (d : Nat))).run Tryz.prog W = .ok (.int .u8 ((hx d).toNat : Nat)) W := fun W => dig_run2 W d hdl
              have hptl := pt_lt c d
              by_cases hit : ix c = d
              · have b1 : (((hx d).toNat : Int) == (c.toNat : Int)) = true := by rw [beq_iff_eq]; exact congrArg _ ((hx_ix c d hdl).2 hit)
                obtain ⟨p1, p2⟩ := pt_hit c d hit
                rw [p2]
                have HP1 : Hid (pt c (d + 1) = d) := p1
                go_wp2_with fail
                go_region
                clear q1 q2
                have hjc : j = 0 ∨ j = 1 := by omega
                rcases hjc with rfl | rfl
                · go_wp2_with fail
                  refine ⟨⟨d + 1, by omega, by go_num, ?_, HB3.out.drew⟩, by simp [intOf]; omega⟩
                  rw [HP1.out]; simp [wei]; omega
                · go_wp2_with fail
                  refine ⟨⟨d + 1, by omega, by go_num, ?_, HB3.out.drew⟩, by simp [intOf]; omega⟩
                  rw [HP1.out]; simp [wei]
              · have b1 : (((hx d).toNat : Int) == (c.toNat : Int)) = false := by
                  rw [beq_eq_false_iff_ne]
                  intro e
                  exact hit ((hx_ix c d hdl).1 (Int.ofNat.inj e))
                have HP1 : Hid (pt c (d + 1) = pt c d) := pt_miss c d hit
                generalize hPd : pt c d = Pd at *
                go_wp2_with fail
                go_region
                clear q1 q2
                go_wp2_with fail
                refine ⟨⟨d + 1, by omega, by go_num, ?_, HB3.out.drew⟩, by simp [intOf]; omega⟩
                rw [HP1.out]
            · obtain rfl : d = 16 := by omega
              rw [← HVn.out]
              go_wp2_with fail
              refine ⟨⟨j + 1, by omega, by go_num, rfl, HB3.out⟩, by simp [intOf]; omega⟩
        · obtain rfl : j = 2 := by omega
          have e2 : vat ca cb 2 = 16 * hl ca + hl cb := rfl
          rw [e2]
          obtain ⟨B, hB⟩ : ∃ B, 16 * hl ca + hl cb = B := ⟨_, rfl⟩
          have hBl : B < 256 := by have := hl_lt ca; have := hl_lt cb; omega
          have hBb : (B : Int) = ((UInt8.ofNat B).toNat : Int) := by
            have : (UInt8.ofNat B).toNat = B := by simp; omega
            rw [this]
          have a5 : IntKind.u8.wrap (B : Int) = (B : Int) := by rw [IntKind.wrap_u8]; omega
          rw [hB]
          have HE3 : Hid (D ++ [UInt8.ofNat B] ++ unhexR (l.drop (k + 2)) = U) := by rw [← hB]; exact HE2.out
          have HBb : Hid ((B : Int) = ((UInt8.ofNat B).toNat : Int)) := hBb
          have O2 : Hid (OwnB w.heap.size w2 u3 D) := HO.out.later HB2.out
          have hz2 := HB2.out.size
          have hz1 := HB.out.size
          clear hB hBb e2
          go_wp2_with (at_builtin; refine app_byte (base := w.heap.size) (UInt8.ofNat B) O2.out HBb.out (by omega) (by omega) rfl (.tmp 39) (.tmp 42) rfl rfl rfl ?_; intro v' w' ho hbw hbs' hgr hat)
          refine ⟨⟨k + 2, D ++ [UInt8.ofNat B], by omega, by go_num, ho, by simp; omega, HE3.out, below_trans (below_trans HB.out (below_mono HB2.out hz1)) hbw⟩, by simp [intOf]; omega⟩
    · have hd : ¬ (k : Int) + 1 < (n : Int) := by omega
      have q := conv_ys HO.out.ys
      have HE2 : Hid (D = U) := by
        have h := HE.out
        have e : unhexR (l.drop k) = [] := by
          have hlen : (l.drop k).length ≤ 1 := by have := HL.out; simp; omega
          match hh : l.drop k, hlen with
          | [], _ => rfl
          | [x], _ => rfl
          | x :: y :: r, hlen => simp at hlen
        rw [e, List.append_nil] at h
        exact h
      go_wp2_with fail
      go_ret
      exact ⟨by rw [← HE2.out]; rfl, HB.out⟩
end Go.Proofs.YtgibjnfaagnbfadGreatDoor
