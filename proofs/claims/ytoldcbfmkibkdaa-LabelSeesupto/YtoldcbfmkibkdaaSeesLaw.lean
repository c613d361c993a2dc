/-
  Who sees: the law, walked.
-/
import Derived.Test.YtoldcbfmkibkdaaHead
import Derived.Test.YtoldcbfmkibkdaaRsees
namespace Go.Proofs.Ytoldcbfmkibkdaa
open Go.RowKit

theorem own_empty (w : World) (base : Nat) (h : base ≤ w.heap.size) : Own base (w.alloc (.cells #[] 9)) (.slice (some ⟨w.heap.size, 0, none⟩) 0 0) [] :=
  ⟨rfl, .inr ⟨w.heap.size, 0, #[], rfl, h, heap_alloc_new w _, Nat.le_refl _, by unfold maxLen; omega, rfl, rfl⟩⟩
theorem src_two (w : World) (p q : List UInt8) : Src Try.prog 1 34 (.slice (some ⟨w.heap.size, 0, none⟩) 2 2) [p, q].length (sc [p, q]) (w.alloc (.cells #[.string (bs p), .string (bs q)] 9)) :=
  Src.ofSlice _ und35 ⟨w.heap.size, 0, none⟩ 2 2 (sc [p, q]) (by simp [sc]) (fun j x hx => by
    rcases j with _ | _ | j
    · simp [sc] at hx; subst hx; rw [add_lit]; simp
    · simp [sc] at hx; subst hx; rw [add_lit]; simp
    · simp [sc] at hx) (sc_one _)
/-- what the law lays behind the list -/
def lent (L : List (List UInt8)) : List (List UInt8) := L ++ [pub, adots]
theorem lent_cap {base n : Nat} {w : World} {v : Value} {L : List (List UInt8)} (h : Own base w v (L ++ [pub, adots])) (hn : L.length = n) : ∃ a c, v = .slice a (n + 2) c ∧ n + 2 ≤ c ∧ SS w (.slice a (n + 2) c) (lent L) ∧ SS w (.slice a n c) L := by
  obtain ⟨a, c, e, hc⟩ := h.cap
  have hs := h.bs
  rw [e] at hs
  have hl : (L ++ [pub, adots]).length = n + 2 := by simp [hn]
  have h1 := SS.cut hs n (by omega) rfl
  have h2 : (L ++ [pub, adots]).take n = L := by rw [← hn]; simp
  rw [h2] at h1
  rw [hl] at e hc hs
  exact ⟨a, c, e, hc, hs, h1⟩
theorem SS.at {w : World} {a : Option Addr} {n c k : Nat} {L : List (List UInt8)} (h : SS w (.slice a n c) L) (hk : k < L.length) : ∃ b off, a = some ⟨b, off, none⟩ ∧ b < w.heap.size ∧ w.cell? ⟨b, off + k, none⟩ = some (.string (bs L[k])) := by
  obtain ⟨a', c', e, hf⟩ := h.form
  simp only [Value.slice.injEq] at e
  rw [e.1]
  exact hf k hk

structure Two (w w1 wr : World) (a : Option Addr) (n c : Nat) (a3 : Option Addr) (c3 : Nat) (L : List (List UInt8)) : Prop where
  below : Below w.heap.size w wr
  s1 : SS wr (.slice a n c) L
  s3 : SS wr (.slice a3 (n + 2) c3) (lent L)
theorem Two.later {w w1 wr w' : World} {a a3 : Option Addr} {n c c3 : Nat} {L : List (List UInt8)} (h : Two w w1 wr a n c a3 c3 L) (hb : Below wr.heap.size wr w') : Two w w1 w' a n c a3 c3 L :=
  ⟨bstep h.below hb, h.s1.later hb, h.s3.later hb⟩

set_option maxRecDepth 100000 in
set_option maxHeartbeats 8000000 in
theorem labelSees_any {w : World} {v : Value} {L : List (List UInt8)} (own fr : List UInt8) (h : SS w v L) (hl : L.length ≤ 4194304) (he : ∀ x ∈ L, x.length ≤ 4194304) (hown : own.length ≤ 4194304) (hf : fr.length ≤ 4194304) :
    Calls Try.prog 4 #[v, .string (bs own), .string (bs fr)] w fun e w' => e = .returned (.bool true) ∧ Below w.heap.size w w' := by
  obtain ⟨a, c, rfl, _⟩ := h.form
  rename_i hform
  clear hform
  obtain ⟨n, hn⟩ : ∃ n, L.length = n := ⟨_, rfl⟩
  rw [hn] at h hl ⊢
  have H : Hid (SS w (.slice a n c) L) := h
  have HN : Hid (L.length = n) := hn
  have HE : Hid (∀ x ∈ L, x.length ≤ 4194304) := he
  have HO : Hid (own.length ≤ 4194304 ∧ fr.length ≤ 4194304 ∧ L.length ≤ 4194304) := ⟨hown, hf, by omega⟩
  clear h hn he hown hf
  go_enter Try.func4, Try.ntmps4
  go_wp2_with fail
  refine (head_any _).mono ?_
  rintro e w1 ⟨rfl, hb1⟩
  have B1 : Hid (Below w.heap.size w w1) := hb1
  have H1 : Hid (SS w1 (.slice a n c) L) := H.out.later hb1
  clear hb1 H
  have j1 : (0 : Int) ≤ (n : Int) := by omega
  go_wp2_with (first | (at_builtin; refine app_strs (base := w1.heap.size) (l := []) (k := L) (own_empty w1 _ (Nat.le_refl _)) (by have := (H1.out.later (balloc w1 (.cells #[] 9))).src (P := Try.prog) und35; exact this) (by have := HO.out.2.2; simp; omega) (by simp) rfl (.tmp 12) (.tmp 13) rfl rfl rfl ?_; intro v2 w2 ho2 hg2 hv2; have HO2 : Hid (Own w1.heap.size w2 v2 L) := ho2; have HB2 : Hid (Below w1.heap.size w1 w2) := (balloc w1 _).grown hg2 (by simp) (fun k hk => by simp only [Value.ownBlock, Option.some.injEq] at hk; omega); clear ho2 hg2 hv2) | (at_builtin; refine app_strs (base := w1.heap.size) (l := L) (k := [pub, adots]) (World.ownsRow.alloc HO2.out _) (src_two w2 pub adots) (by have := HO.out.2.2; simp; omega) (by have := HB2.out.size; simp; omega) rfl (.tmp 14) (.tmp 15) rfl rfl rfl ?_; intro v3 w3 ho3 hg3 hv3; obtain ⟨a3, c3, e3, hc3, ss3, ss4⟩ := lent_cap ho3 HN.out; subst e3; have HS3 : Hid (SS w3 (.slice a3 (n + 2) c3) (lent L) ∧ SS w3 (.slice a3 n c3) L) := ⟨ss3, ss4⟩; have HB3 : Hid (Below w1.heap.size w1 w3) := (below_trans HB2.out (below_mono (balloc w2 _) HB2.out.size)).grown hg3 (by have := HB2.out.size; simp; omega) (fun k hk => (HO2.out.lt hk).1); have hc4 : (n : Int) ≤ (c3 : Int) := (by omega); clear ho3 hg3 hv3 ss3 ss4))
  refine (sees_any own fr HS3.out.2 (by have := HO.out.2.2; omega) (fun x hx => by have := HE.out x hx; omega) (by have := HO.out.2.1; omega)).mono ?_
  rintro e w4 ⟨rfl, hb4⟩
  have HT : Hid (Two w w1 w4 a n c a3 c3 L) := ⟨bstep (bstep B1.out HB3.out) hb4, (H1.out.later HB3.out).later hb4, HS3.out.1.later hb4⟩
  clear hb4 HB3 HS3 HB2 HO2 H1 B1
  have HR : Hid (∀ (W : World) (hw : SS W (.slice a n c) L), Calls Try.prog 14 #[.slice a n c, .string (bs own), .string (bs fr)] W fun e w' => e = .returned (.bool (ses L own fr)) ∧ Below W.heap.size W w') := fun W hw => rsees_any own fr hw (by have := HO.out.2.2; omega) (fun x hx => by have := HE.out x hx; omega) (by have := HO.out.2.1; omega)
  generalize ses L own fr = z at *
  go_wp2_with fail
  go_loopw [9] (fun i wr => ∃ k : Nat, k ≤ n ∧ i = .int .i64 k ∧ Two w w1 wr a n c a3 c3 L) (fun i _ => n - (intOf i).toNat)
  case atStart => exact ⟨0, by omega, rfl, HT.out⟩
  case round =>
    obtain ⟨k, hk, rfl, ht⟩ := hrel
    have HT5 : Hid (Two w w1 wr a n c a3 c3 L) := ht
    clear ht
    by_cases hlt : k < n
    · have hkl : k < L.length := by have := HN.out; omega
      obtain ⟨b, off, ea, hb0, hc0⟩ := HT5.out.s1.at hkl
      obtain ⟨b3, off3, ea3, hb3, hc3'⟩ := HT5.out.s3.at (k := k) (by simp [lent]; omega)
      obtain ⟨x, hx⟩ : ∃ x, L[k] = x := ⟨_, rfl⟩
      have hx3 : (lent L)[k]'(by simp [lent]; omega) = x := by rw [← hx]; simp only [lent]; rw [List.getElem_append_left hkl]
      rw [hx] at hc0
      rw [hx3] at hc3'
      have hxl : x.length ≤ 4194304 := HE.out x (by rw [← hx]; exact List.getElem_mem _)
      subst ea ea3
      clear hx hx3
      have k1 : (0 : Int) ≤ (k : Int) := by omega
      have k2 : (k : Int) < (n : Int) := by omega
      have k3 : (k : Int) < (n : Int) + 2 := by omega
      have y0 : ∀ Y : GW wr, Y.it.cell? ⟨b, off + k, none⟩ = some (.string (bs x)) := fun Y => Y.cell hb0 hc0
      have y3 : ∀ Y : GW wr, Y.it.cell? ⟨b3, off3 + k, none⟩ = some (.string (bs x)) := fun Y => Y.cell hb3 hc3'
      have xne := gw_ne wr
      obtain ⟨zz, hzz⟩ : ∃ zz, ser x = zz := ⟨_, rfl⟩
      have kk1 : Hid (∀ Y : GW wr, Calls Try.prog 11 #[.string (bs x)] Y.it fun e w' => e = .returned (.bool zz) ∧ ∃ X : GW wr, w' = X.it) := fun Y => by
        rw [← hzz]; exact gw_of (fun W => seer_any x W (by omega)) Y
      have kk2 : Hid (∀ Y : GW wr, Calls Try.prog 13 #[.string (bs x)] Y.it fun e w' => e = .returned (.bool zz) ∧ ∃ X : GW wr, w' = X.it) := fun Y => by
        rw [← hzz]; exact gw_of (fun W => rseer_any x W (by omega)) Y
      have q1 : (zz != zz) = false := by simp
      have e1 := bs_toList x
      clear hzz hxl hc0 hc3' hb0 hb3 hkl
      go_wp2_with fail
      refine wp_region_grow (by kernel_rfl) (by kernel_rfl) ?_
      repeat (go_big_quiet_step (first | with_reducible exact kk1.out _ | with_reducible exact kk2.out _))
      refine wpQuiet_nil ?_
      rintro w6 ⟨⟨w6, bx⟩, rfl⟩
      have HT6 : Hid (Two w w1 w6 (some ⟨b, off, none⟩) n c (some ⟨b3, off3, none⟩) c3 L) := HT5.out.later bx
      clear bx y0 y3 xne kk1 kk2
      go_wp2_with fail
      go_round
      case rel => exact ⟨k + 1, by omega, by simp, HT6.out⟩
      case measure => simp only [intOf]; omega
    · have hkn : k = n := by omega
      subst hkn
      go_wp2_with fail
      refine (HR.out _ HT5.out.s1).mono ?_
      rintro e w6 ⟨rfl, hb6⟩
      have HT6 : Hid (Two w w1 w6 a k c a3 c3 L) := HT5.out.later hb6
      clear hb6
      have hl3 : (lent L).length = k + 2 := by simp [lent, HN.out]
      obtain ⟨b3, off3, ea3, hb3, hd0⟩ := HT6.out.s3.at (k := k) (by omega)
      obtain ⟨b3', off3', ea3', hb3', hd1⟩ := HT6.out.s3.at (k := k + 1) (by omega)
      have g0 : (lent L)[k]'(by omega) = pub := by simp [lent, HN.out]
      have g1 : (lent L)[k + 1]'(by omega) = adots := by simp [lent, HN.out]
      rw [g0] at hd0
      rw [g1] at hd1
      subst ea3
      simp only [Option.some.injEq, Addr.mk.injEq, and_true] at ea3'
      obtain ⟨rfl, rfl⟩ := ea3'
      have hd2 := hd1
      rw [← Nat.add_assoc] at hd2
      have k3 : (k : Int) < (k : Int) + 2 := by omega
      have k4 : (k : Int) + 1 < (k : Int) + 2 := by omega
      have k5 : (0 : Int) ≤ (k : Int) + 1 := by omega
      have q1 : (z == z) = true := by simp
      have q2 := c_pub
      have q3 := c_adots
      have q4 := bs_toList pub
      have q5 := bs_toList adots
      have KO : Hid (∀ W : World, Calls Try.prog 11 #[.string (bs own)] W fun e w' => e = .returned (.bool (ser own)) ∧ Below W.heap.size W w') := fun W => seer_any own W (by have := HO.out.1; omega)
      have KR : Hid (∀ W : World, Calls Try.prog 13 #[.string (bs own)] W fun e w' => e = .returned (.bool (ser own)) ∧ Below W.heap.size W w') := fun W => rseer_any own W (by have := HO.out.1; omega)
      generalize ser own = y at *
      have q6 : (y == y) = true := by simp
      clear g0 g1 hl3
      go_wp2_with fail
      refine (KO.out _).mono ?_
      rintro e w7 ⟨rfl, hb7⟩
      have B7 : Hid (Below w.heap.size w w7) := bstep HT6.out.below hb7
      clear hb7 hd0 hd1 hd2
      go_wp2_with fail
      refine (KR.out _).mono ?_
      rintro e w8 ⟨rfl, hb8⟩
      have B8 : Hid (Below w.heap.size w w8) := bstep B7.out hb8
      clear hb8
      go_wp2_with fail
      go_ret
      exact ⟨rfl, B8.out⟩
end Go.Proofs.Ytoldcbfmkibkdaa
