/-
  The law MergeAll.
  What came in: a directory and a budget.
-/
import Derived.Test.YtbaheiimcnfaaaaGreatJOa
import Derived.Test.YtbaheiimcnfaaaaGreatFw
import Derived.Test.YtbaheiimcnfaaaaGreatJTRef
import Derived.Lib.SmallJoins
namespace Go.Proofs.YtbaheiimcnfaaaaGreat
open Go.RowKit Go.Maps
attribute [local go_sem] Oper.semAt_some

theorem wid_len (p : List UInt8) (k : List (List UInt8)) : (wid p false k).length ≤ k.length := by
  have h := wid_count (d := p) k false
  by_cases e : (k.any (fun c => decide (c = p) || abvV p c)) = true
  · rw [if_pos ⟨rfl, e⟩] at h
    obtain ⟨c, hc, h2⟩ := List.any_eq_true.1 e
    have h3 : 0 < (k.filter (fun c => decide (c = p) || abvV p c)).length := List.length_pos_of_mem (List.mem_filter.2 ⟨hc, h2⟩)
    omega
  · rw [if_neg (fun hh => e hh.2)] at h
    omega
theorem stp_len (l : List Fl) (k : List (List UInt8)) : (stp l k).length ≤ k.length := by
  unfold stp
  split
  · exact Nat.le_refl _
  · exact wid_len _ _
theorem dwnF_len (l : List Fl) (b : Nat) : ∀ (n : Nat) (k : List (List UInt8)), (dwnF l b n k).length ≤ k.length
  | 0, k => Nat.le_refl _
  | n + 1, k => by
    unfold dwnF
    split
    · exact Nat.le_refl _
    · exact Nat.le_trans (dwnF_len l b n _) (stp_len l k)
theorem mat_len (k : List (List UInt8)) (p : List UInt8) : (mat k p).1.length ≤ k.length := by
  unfold mat
  split
  · split
    · exact wid_len _ _
    · simp
  · simp
theorem mstp_len (l : List Fl) (k : List (List UInt8)) : (mstp l k).1.length ≤ k.length := by
  unfold mstp
  split
  · exact stp_len _ _
  · simp
theorem mdwn_len (l : List Fl) (k : List (List UInt8)) (b : Int) : (mdwn l k b).1.length ≤ k.length := by
  unfold mdwn
  split
  · split
    · exact dwnF_len _ _ _ _
    · simp
  · simp
set_option maxRecDepth 100000 in
set_option maxHeartbeats 8000000 in
theorem mall_law {w : World} {lv kv : Value} {l : List Fl} {k : List (List UInt8)} (p : List UInt8) (b : Int) (hf : FS w lv l) (hk : SS w kv k) (sl : FSm l) (sk : Sm k) (hl : l.length ≤ 1000000000) (hkl : k.length ≤ 1000000000) (hp : p.length ≤ 4194304) (hb0 : -9223372036854775808 ≤ b) (hb1 : b ≤ 9223372036854775807) :
    Calls Tryz.prog 5 #[lv, kv, .agg #[.string (bs p), .int .i64 b]] w fun e w' => e = .returned (.bool true) ∧ Below w.heap.size w w' := by
  have HX : Hid (FSm l ∧ Sm k) := ⟨sl, sk⟩
  have HQ := hid_of (And.intro hp (And.intro hb0 hb1))
  have HH := hid_of (fun W => head_any mc_any W)
  have HSM := hid_of (fun W (hW : Below w.heap.size w W) => small_any (hf.later hW) (hk.later hW) hl hkl)
  have HG : Hid (∀ W, Below (w.alloc (.cells #[.string (bs p), .int .i64 b] 43)).heap.size (w.alloc (.cells #[.string (bs p), .int .i64 b] 43)) W → W.cell? ⟨w.heap.size, 0, none⟩ = some (.string (bs p)) ∧ W.cell? ⟨w.heap.size, 1, none⟩ = some (.int .i64 b)) := fun W hW => by
    have hb := (hW.block w.heap.size (by simp)).trans (heap_alloc_new w (.cells #[.string (bs p), .int .i64 b] 43))
    refine ⟨?_, ?_⟩ <;> (simp only [World.cell?, hb]; rfl)
  have B0 := hid_of (balloc w (.cells #[.string (bs p), .int .i64 b] 43))
  obtain ⟨fa, fcp, hfv, -⟩ := hf.form
  generalize l.length = fn at hfv
  subst hfv
  obtain ⟨ka, kcp, hkv, -⟩ := hk.form
  generalize k.length = kn at hkv
  subst hkv
  clear hf hk sl sk hl hkl hp hb0 hb1
  go_enter Tryz.func5, Tryz.ntmps5
  go_wp2_with fail
  generalize hW0 : w.alloc (.cells #[.string (bs p), .int .i64 b] 43) = W0 at HG B0 ⊢
  clear hW0
  generalize hg0 : w.heap.size = g0 at HG ⊢
  refine (HH.out W0).mono ?_
  rintro e w1 ⟨rfl, hb1⟩
  have B1 : Hid (Below W0.heap.size W0 w1) := hb1
  have B1w : Hid (Below w.heap.size w w1) := bstep B0.out hb1
  clear HH hb1
  go_wp2_with fail
  refine (HSM.out w1 B1w.out).mono ?_
  rintro e w2 ⟨⟨x, y, rfl, hfx, hky⟩, hb2⟩
  have HL0 : Hid (FSm (l.take 120) ∧ Sm (k.take 16) ∧ (k.take 16).length ≤ 16) := ⟨HX.out.1.take _, HX.out.2.takes _, by rw [List.length_take]; omega⟩
  have B2 : Hid (Below W0.heap.size W0 w2) := bstep B1.out hb2
  clear hb2 HSM HX
  generalize l.take 120 = L at hfx HL0
  generalize k.take 16 = K at hky HL0
  obtain ⟨la, lc, hx, -⟩ := hfx.form
  obtain ⟨ln, hln⟩ : ∃ ln, L.length = ln := ⟨_, rfl⟩
  rw [hln] at hx
  subst hx
  obtain ⟨qa, qc, hy, -⟩ := hky.form
  obtain ⟨qn, hqn⟩ : ∃ qn, K.length = qn := ⟨_, rfl⟩
  rw [hqn] at hy
  subst hy
  have HF : Hid (∀ W, Below w2.heap.size w2 W → FS W (.slice la ln lc) L) := fun W hW => hfx.later hW
  have HK : Hid (∀ W, Below w2.heap.size w2 W → SS W (.slice qa qn qc) K) := fun W hW => hky.later hW
  have HKL : Hid (K.length ≤ 1000000) := by have := HL0.out.2.2; show K.length ≤ 1000000; omega
  clear hfx hky hln hqn
  obtain ⟨c1, c2, hc⟩ : ∃ c1 c2, mcst L K = (c1, c2) := ⟨_, _, rfl⟩
  obtain ⟨A1, e1, hA1⟩ : ∃ A e, mat K p = (A, e) := ⟨_, _, rfl⟩
  obtain ⟨A2, e2, hA2⟩ : ∃ A e, mstp L K = (A, e) := ⟨_, _, rfl⟩
  obtain ⟨A3, e3, hA3⟩ : ∃ A e, mdwn L K b = (A, e) := ⟨_, _, rfl⟩
  have C2 : Hid (Below w2.heap.size w2 w2) := Below.refl _ _
  have HA1 : Hid (A1.length ≤ 9223372036854775807) := by
    have q := mat_len K p
    rw [hA1] at q
    have := HL0.out.2.2
    show A1.length ≤ _
    simp only at q
    omega
  have HA2 : Hid (A2.length ≤ 9223372036854775807) := by
    have q := mstp_len L K
    rw [hA2] at q
    have := HL0.out.2.2
    show A2.length ≤ _
    simp only at q
    omega
  have HA3 : Hid (A3.length ≤ 9223372036854775807) := by
    have q := mdwn_len L K b
    rw [hA3] at q
    have := HL0.out.2.2
    show A3.length ≤ _
    simp only at q
    omega
  go_wp2_with fail
  refine (mcost_any (HF.out w2 C2.out) HL0.out.1 (HK.out w2 C2.out) HL0.out.2.1).mono ?_
  rintro e w3 ⟨rfl, hb3⟩
  rw [hc]
  simp only
  have C3 := hid_of hb3
  clear hb3
  go_wp2_with fail
  refine (rCost_any (HF.out w3 C3.out) HL0.out.1 (HK.out w3 C3.out) HL0.out.2.1 HKL.out).mono ?_
  rintro e w4 ⟨rfl, hb4⟩
  rw [hc]
  simp only
  have C4 := hid_of (bstep C3.out hb4)
  clear hb4
  obtain ⟨p0, p1⟩ := HG.out w4 (bstep B2.out C4.out)
  go_wp2_with fail
  refine (mat_big p (HK.out w4 C4.out) HL0.out.2.1 HQ.out.1).mono ?_
  intro e w5 h
  unfold TwoS at h
  obtain ⟨v4, rfl, ho, hb⟩ := h
  rw [hA1] at ho ⊢
  simp only at ho ⊢
  have S4 : Hid (SS w5 v4 A1) := ho.bs
  have D4 : Hid (Below w4.heap.size w4 w5) := hb
  have C5 := hid_of (bstep C4.out hb)
  clear ho hb p0 p1
  obtain ⟨p0, p1⟩ := HG.out w5 (bstep B2.out C5.out)
  go_wp2_with fail
  refine (rat_big mc_any (fun p w hp => rvalid_any p w (by omega)) p (HK.out w5 C5.out) HL0.out.2.1 HQ.out.1 HKL.out).mono ?_
  intro e w6 h
  unfold TwoS at h
  obtain ⟨v5, rfl, ho, hb⟩ := h
  rw [hA1] at ho ⊢
  simp only at ho ⊢
  have S5 : Hid (SS w6 v5 A1) := ho.bs
  have D5 : Hid (Below w5.heap.size w5 w6) := hb
  have C6 := hid_of (bstep C5.out hb)
  clear ho hb p0 p1
  obtain ⟨p0, p1⟩ := HG.out w6 (bstep B2.out C6.out)
  go_wp2_with fail
  refine (same_any (S4.out.later D5.out) S5.out HA1.out).mono ?_
  rintro e w7 ⟨rfl, nd, hnd⟩
  have C7 : Hid (Below w2.heap.size w2 w7) := by rw [hnd]; exact bstep C6.out (bd _ _)
  clear hnd p0 p1
  obtain ⟨p0, p1⟩ := HG.out w7 (bstep B2.out C7.out)
  rw [decide_eq_true rfl]
  go_wp2_with fail
  refine (mStep_any (HF.out w7 C7.out) HL0.out.1 (HK.out w7 C7.out) HL0.out.2.1).mono ?_
  intro e w8 h
  unfold TwoS at h
  obtain ⟨v7, rfl, ho, hb⟩ := h
  rw [hA2] at ho ⊢
  simp only at ho ⊢
  have S7 : Hid (SS w8 v7 A2) := ho.bs
  have D7 : Hid (Below w7.heap.size w7 w8) := hb
  have C8 := hid_of (bstep C7.out hb)
  clear ho hb p0 p1
  obtain ⟨p0, p1⟩ := HG.out w8 (bstep B2.out C8.out)
  go_wp2_with fail
  refine (rStep_any (HF.out w8 C8.out) HL0.out.1 (HK.out w8 C8.out) HL0.out.2.1 HKL.out).mono ?_
  intro e w9 h
  unfold TwoR at h
  obtain ⟨v8, rfl, ho, hb⟩ := h
  rw [hA2] at ho ⊢
  simp only at ho ⊢
  have S8 : Hid (SS w9 v8 A2) := ho
  have D8 : Hid (Below w8.heap.size w8 w9) := hb
  have C9 := hid_of (bstep C8.out hb)
  clear ho hb p0 p1
  obtain ⟨p0, p1⟩ := HG.out w9 (bstep B2.out C9.out)
  go_wp2_with fail
  refine (same_any (S7.out.later D8.out) S8.out HA2.out).mono ?_
  rintro e w10 ⟨rfl, nd, hnd⟩
  have C10 : Hid (Below w2.heap.size w2 w10) := by rw [hnd]; exact bstep C9.out (bd _ _)
  clear hnd p0 p1
  obtain ⟨p0, p1⟩ := HG.out w10 (bstep B2.out C10.out)
  rw [decide_eq_true rfl]
  go_wp2_with fail
  refine (mDown_any b (HF.out w10 C10.out) HL0.out.1 (HK.out w10 C10.out) HL0.out.2.1 HQ.out.2.1 HQ.out.2.2).mono ?_
  intro e w11 h
  unfold TwoS at h
  obtain ⟨v10, rfl, ho, hb⟩ := h
  rw [hA3] at ho ⊢
  simp only at ho ⊢
  have S10 : Hid (SS w11 v10 A3) := ho.bs
  have D10 : Hid (Below w10.heap.size w10 w11) := hb
  have C11 := hid_of (bstep C10.out hb)
  clear ho hb p0 p1
  obtain ⟨p0, p1⟩ := HG.out w11 (bstep B2.out C11.out)
  go_wp2_with fail
  refine (rDown_any b (HF.out w11 C11.out) HL0.out.1 (HK.out w11 C11.out) HL0.out.2.1 HKL.out).mono ?_
  intro e w12 h
  unfold TwoR at h
  obtain ⟨v11, rfl, ho, hb⟩ := h
  rw [hA3] at ho ⊢
  simp only at ho ⊢
  have S11 : Hid (SS w12 v11 A3) := ho
  have D11 : Hid (Below w11.heap.size w11 w12) := hb
  have C12 := hid_of (bstep C11.out hb)
  clear ho hb p0 p1
  obtain ⟨p0, p1⟩ := HG.out w12 (bstep B2.out C12.out)
  go_wp2_with fail
  refine (same_any (S10.out.later D11.out) S11.out HA3.out).mono ?_
  rintro e w13 ⟨rfl, nd, hnd⟩
  have C13 : Hid (Below w2.heap.size w2 w13) := by rw [hnd]; exact bstep C12.out (bd _ _)
  clear hnd p0 p1
  obtain ⟨p0, p1⟩ := HG.out w13 (bstep B2.out C13.out)
  rw [decide_eq_true rfl]
  go_wp2_with fail
  go_ret
  exact ⟨by simp, bstep B0.out (bstep B2.out C13.out)⟩
end Go.Proofs.YtbaheiimcnfaaaaGreat

namespace Go.Proofs.YtbaheiimcnfaaaaGreat
open Go.ChangeShapes Go.WideShapes Go.ChangeAt Go.RowKit Go.Deep Go.Joins

set_option maxRecDepth 100000 in
theorem cells43 : Tryz.prog.cellsOf 43 = 2 := by kernel_rfl
set_option maxRecDepth 100000 in
theorem upto_asked {H : Type} {enc : TypeId × Value → H} {W : World} {base : Nat} {v : Value} {d : DataW H} {ps : List MemPlace} (hok : Value.okWide Tryz.prog W .any base 43 v)
    (h : DataW.Trod enc Tryz.prog W 0 (fun _ => true) true 43 v d ps) (hd : Rows.uptoBulk d ≤ 1048576) : ∃ (p : List UInt8) (b : Int), v = .agg #[.string (bs p), .int .i64 b] ∧ p.length ≤ 1048576 ∧ -9223372036854775808 ≤ b ∧ b ≤ 9223372036854775807 := by
  obtain ⟨c0, c1, y0, y1, m, rfl, rfl, rfl, hy0, hy1⟩ := open_agg2 Tryz.underlying43 (by kernel_rfl) cells43 hok h
  obtain ⟨s0, e0, x0, ws0⟩ := DataW.trod_string Tryz.underlying9 hy0
  obtain ⟨z1, e1, x1, wz1⟩ := DataW.trod_int Tryz.underlying3 hy1
  simp at e0 e1
  subst e0 e1 x0 x1
  have b1 := bounds_i64 wz1
  simp only [Rows.uptoBulk, Rows.uptoBulkAll] at hd
  exact ⟨s0.data.toList, z1, rfl, by omega, b1.1, b1.2⟩
end Go.Proofs.YtbaheiimcnfaaaaGreat
