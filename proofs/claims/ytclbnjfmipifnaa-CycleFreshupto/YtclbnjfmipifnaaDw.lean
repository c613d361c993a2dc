/-
  The document's Order.
-/
import Derived.Test.YtclbnjfmipifnaaJDy
namespace Go.Proofs.Ytclbnjfmipifnaa
open Go.RowKit Go.Maps

def slen : Value → Nat
  | .slice _ n _ => n
  | _ => 0

theorem find_at {l : List Lb} {f : Lb → Bool} {i : Nat} (hi : i < l.length) (h : ∀ x ∈ l.take i, f x = false) (hp : f l[i] = true) : l.find? f = some l[i] := by
  conv => lhs; rw [← List.take_append_drop i l, List.drop_eq_getElem_cons hi]
  rw [List.find?_append, List.find?_eq_none.2 (fun x hx => by rw [h x hx]; simp), List.find?_cons, hp]
  rfl
theorem find_no {l : List Lb} {f : Lb → Bool} (h : ∀ x ∈ l, f x = false) : l.find? f = none := List.find?_eq_none.2 (fun x hx => by rw [h x hx]; simp)
def cnd (E : List Ee) (T : List Lb) (a : Lb) : Bool := !decide (a ∈ T) && Gs.rdy E T a

set_option maxRecDepth 100000 in
set_option maxHeartbeats 8000000 in
theorem dorder_any {w : World} {F : Nat → Prop} {d : Nat} {N : List Lb} {E : List Ee} (h : DG w F d N E) :
    Calls Try.prog 15 #[.pointer (some ⟨d, 0, none⟩)] w fun e w' => ∃ u, e = .returned (.tuple #[u, .bool (Gs.ord (rs N) E).isSome]) ∧ OwnL w.heap.size w' u ((Gs.ord (rs N) E).getD []) ∧ Below w.heap.size w w' := by
  obtain ⟨an, cn, ae, ce, h1, _, _, _, hoN, _⟩ := h.rows
  have H : Hid (DG w F d N E) := h
  have HD : Hid (Calls Try.prog 20 #[.slice an N.length cn] w fun e w' => ∃ u, e = .returned u ∧ OwnL w.heap.size w' u (rs N) ∧ Below w.heap.size w w') := drising_any hoN.rs h.nz h.lu
  obtain ⟨n, hn⟩ : ∃ n, (rs N).length = n := ⟨_, rfl⟩
  have hn2 : n ≤ 1000000 := by rw [← hn]; exact Nat.le_trans (Gs.ris_le N) h.nz
  have HN : Hid ((rs N).length = n) := hn
  clear hoN h hn
  obtain ⟨A, hA⟩ : ∃ A, rs N = A := ⟨_, rfl⟩
  rw [hA] at HD HN ⊢
  clear hA
  go_enter Try.func15, Try.ntmps15
  go_wp2_with fail
  refine HD.out.mono ?_
  rintro e w1 ⟨u, rfl, ho1, hb1⟩
  obtain ⟨av, cv, hvv⟩ := ho1.form
  rw [HN.out] at hvv
  subst hvv
  have HB : Hid (Below w.heap.size w w1 ∧ OwnL w.heap.size w1 (.slice av n cv) A ∧ DG w1 F d N E) := ⟨hb1, ho1, H.out.later hb1⟩
  clear ho1 hb1 h1
  go_wp2_with fail
  go_loopw [5] (fun s5 wr => ∃ T : List Lb, OwnL w1.heap.size wr s5 T ∧ Below w1.heap.size w1 wr ∧ T.length ≤ n ∧ Gs.ord A E = Gs.ordF A E (n - T.length) T) (fun s5 _ => n - slen s5)
  case atStart => exact ⟨[], OwnL.nil _ _, Below.refl _ _, by simp, by unfold Gs.ord; rw [HN.out]; simp⟩
  case round =>
    obtain ⟨T, ho, hb, hTn, hord⟩ := hrel
    obtain ⟨ad, cap, hvv⟩ := ho.form
    obtain ⟨tl, htl⟩ : ∃ tl, T.length = tl := ⟨_, rfl⟩
    rw [htl] at hvv hTn hord
    subst hvv
    have HX : Hid (OwnL w1.heap.size wr (.slice ad tl cap) T ∧ Below w1.heap.size w1 wr ∧ Gs.ord A E = Gs.ordF A E (n - tl) T ∧ T.length = tl) := ⟨ho, hb, hord, htl⟩
    clear ho hb hord htl
    by_cases hlt : tl < n
    · have k0 : (tl : Int) < (n : Int) := by omega
      rename World => w9
      go_wp2_with fail
      go_loopw [5, 6, 7] (fun s5 s6 s7 wr => ∃ (i : Nat) (f : Bool), s7 = .int .i64 i ∧ i ≤ n ∧ s6 = .bool f ∧ Below w1.heap.size w1 wr ∧
        (f = false → s5 = .slice ad tl cap ∧ OwnL w1.heap.size wr s5 T ∧ ∀ x ∈ A.take i, cnd E T x = false) ∧ (f = true → ∃ a, Gs.nxt A E T = some a ∧ OwnL w1.heap.size wr s5 (T ++ [a]))) (fun _ _ s7 _ => n - (intOf s7).toNat)
      case atStart => exact ⟨0, false, rfl, by omega, rfl, HX.out.2.1, fun _ => ⟨rfl, HX.out.1, by simp⟩, fun h => by cases h⟩
      case round =>
        obtain ⟨i, f, rfl, hi, rfl, hb, hf, ht⟩ := hrel
        cases f with
        | true =>
          obtain ⟨a, hna, hoa⟩ := ht rfl
          obtain ⟨ad2, cap2, hvv⟩ := hoa.form
          have hle : (T ++ [a]).length = tl + 1 := by have := HX.out.2.2.2; simp; omega
          rw [hle] at hvv
          subst hvv
          have HY : Hid (Below w1.heap.size w1 wr ∧ Gs.nxt A E T = some a ∧ OwnL w1.heap.size wr (.slice ad2 (tl + 1) cap2) (T ++ [a]) ∧ (T ++ [a]).length = tl + 1) := ⟨hb, hna, hoa, hle⟩
          clear hb hf ht hna hoa hle
          by_cases hin : i < n
          · have k1 : (i : Int) < (n : Int) := by omega
            go_wp2_with fail
            go_roundw
            case rel =>
              refine ⟨T ++ [a], HY.out.2.2.1, HY.out.1, by rw [HY.out.2.2.2]; omega, ?_⟩
              rw [HX.out.2.2.1, HY.out.2.2.2]
              obtain ⟨m, hm⟩ : ∃ m, n - tl = m + 1 := ⟨n - tl - 1, by omega⟩
              rw [hm, show n - (tl + 1) = m by omega]
              conv => lhs; unfold Gs.ordF
              rw [HY.out.2.1]
            case measure => simp [slen]; omega
          · have k1 : decide ((i : Int) < (n : Int)) = false := by simp; omega
            go_wp2_with fail
            go_roundw
            case rel =>
              refine ⟨T ++ [a], HY.out.2.2.1, HY.out.1, by rw [HY.out.2.2.2]; omega, ?_⟩
              rw [HX.out.2.2.1, HY.out.2.2.2]
              obtain ⟨m, hm⟩ : ∃ m, n - tl = m + 1 := ⟨n - tl - 1, by omega⟩
              rw [hm, show n - (tl + 1) = m by omega]
              conv => lhs; unfold Gs.ordF
              rw [HY.out.2.1]
            case measure => simp [slen]; omega
        | false =>
          obtain ⟨rfl, hoT, hca⟩ := hf rfl
          have HY : Hid (Below w1.heap.size w1 wr ∧ OwnL w1.heap.size wr (.slice ad tl cap) T ∧ ∀ x ∈ A.take i, cnd E T x = false) := ⟨hb, hoT, hca⟩
          clear hb hf ht hoT hca
          by_cases hin : i < n
          · have hil : i < A.length := by rw [HN.out]; exact hin
            have k1 : (i : Int) < (n : Int) := by omega
            obtain ⟨b, off, ea, hbw, d0, d1⟩ := LS.at HB.out.2.1.rs HY.out.1 hil
            subst ea
            obtain ⟨x, hxe⟩ : ∃ x, A[i] = x := ⟨_, rfl⟩
            rw [hxe] at d0 d1
            have HA : Hid (A[i] = x) := hxe
            clear hxe
            have HI : Hid (Calls Try.prog 12 #[.slice ad tl cap, x.val] wr fun e w' => e = .returned (.bool (decide (x ∈ T))) ∧ Below wr.heap.size wr w') := in_any HY.out.2.1.rs (by have := HX.out.2.2.2; omega) x
            have HRY : Hid (∀ W, Below wr.heap.size wr W → Calls Try.prog 33 #[.pointer (some ⟨d, 0, none⟩), x.val, .slice ad tl cap] W fun e w' => e = .returned (.bool (Gs.rdy E T x)) ∧ Below W.heap.size W w') := fun W hW => dready_any (HB.out.2.2.later (bstep HY.out.1 hW) |>.later (Below.refl _ _)) x (HY.out.2.1.rs.later hW) (by have := HX.out.2.2.2; omega)
            have HC1 : Hid (cnd E T x = false → ∀ y ∈ A.take (i + 1), cnd E T y = false) := by
              intro h y hy
              rw [List.take_succ_eq_append_getElem hil, List.mem_append, HA.out] at hy
              rcases hy with hy | hy
              · exact HY.out.2.2 y hy
              · have : y = x := by simpa using hy
                rw [this]; exact h
            have HC2 : Hid (cnd E T x = true → Gs.nxt A E T = some x) := by
              intro h
              rw [← HA.out] at h ⊢
              exact find_at hil HY.out.2.2 h
            by_cases hm : x ∈ T
            · have hm2 : decide (x ∈ T) = true := by simpa using hm
              have HC3 : Hid (∀ y ∈ A.take (i + 1), cnd E T y = false) := HC1.out (by unfold cnd; rw [hm2]; rfl)
              rw [hm2] at HI
              clear hm hm2 HC2 HC1
              obtain ⟨p, m⟩ := x
              simp only [Lb.val] at *
              go_wp2_with fail
              refine HI.out.mono ?_
              rintro e w4 ⟨rfl, hb4⟩
              have HB4 : Hid (Below wr.heap.size wr w4) := hb4
              clear hb4
              go_wp2_with fail
              go_roundw
              case rel => exact ⟨i + 1, false, by go_num, by omega, rfl, bstep HY.out.1 HB4.out, fun _ => ⟨rfl, HY.out.2.1.later HB4.out, HC3.out⟩, fun h => by cases h⟩
              case measure => simp [intOf]; omega
            · have hm2 : decide (x ∈ T) = false := by simpa using hm
              rw [hm2] at HI
              have HCE : Hid (cnd E T x = Gs.rdy E T x) := by show cnd E T x = _; unfold cnd; rw [hm2]; rfl
              rw [HCE.out] at HC1 HC2
              clear hm hm2 HCE
              generalize Gs.rdy E T x = R at HC1 HC2 HRY
              obtain ⟨p, m⟩ := x
              simp only [Lb.val] at *
              go_wp2_with fail
              refine HI.out.mono ?_
              rintro e w4 ⟨rfl, hb4⟩
              have f0 := (hb4.cell (p := ⟨b, off + i * 2, none⟩) (Nat.lt_of_lt_of_le hbw HY.out.1.size)).trans d0
              have f1 := (hb4.cell (p := ⟨b, off + i * 2 + 1, none⟩) (Nat.lt_of_lt_of_le hbw HY.out.1.size)).trans d1
              have HB4 : Hid (Below wr.heap.size wr w4) := hb4
              clear hb4
              go_wp2_with fail
              refine (HRY.out w4 HB4.out).mono ?_
              rintro e w5 ⟨rfl, hb5⟩
              have HB5 : Hid (Below wr.heap.size wr w5) := bstep HB4.out hb5
              have g0 := (HB5.out.cell (p := ⟨b, off + i * 2, none⟩) (Nat.lt_of_lt_of_le hbw HY.out.1.size)).trans d0
              have g1 := (HB5.out.cell (p := ⟨b, off + i * 2 + 1, none⟩) (Nat.lt_of_lt_of_le hbw HY.out.1.size)).trans d1
              clear hb5 f0 f1
              cases R with
              | false =>
                go_wp2_with fail
                go_roundw
                case rel => exact ⟨i + 1, false, by go_num, by omega, rfl, bstep HY.out.1 HB5.out, fun _ => ⟨rfl, HY.out.2.1.later HB5.out, HC1.out (by trivial)⟩, fun h => by cases h⟩
                case measure => simp [intOf]; omega
              | true =>
                have HO5 : Hid (OwnL w1.heap.size w5 (.slice ad tl cap) T) := HY.out.2.1.later HB5.out
                have hs5 : w1.heap.size ≤ w5.heap.size := Nat.le_trans HY.out.1.size HB5.out.size
                go_wp2_with (first | (at_builtin; refine app_L1 und_L ⟨p, m⟩ HO5.out (by have := HX.out.2.2.2; omega) hs5 rfl (.tmp 44) (.tmp 49) rfl rfl rfl ?_; intro v' w6 ho6 hb6 hon6 hs6 hwh6))
                go_roundw
                case rel => exact ⟨i + 1, true, by go_num, by omega, rfl, below_trans (bstep HY.out.1 HB5.out) hb6, (fun h => by cases h), fun _ => ⟨_, HC2.out (by trivial), ho6⟩⟩
                case measure => simp [intOf]; omega
          · obtain rfl : n = i := by omega
            have k1 : decide ((n : Int) < (n : Int)) = false := by simp
            have HF : Hid (Gs.ord A E = none) := by
              show Gs.ord A E = none
              rw [HX.out.2.2.1]
              obtain ⟨m, hm⟩ : ∃ m, n - tl = m + 1 := ⟨n - tl - 1, by omega⟩
              rw [hm]
              unfold Gs.ordF
              have : Gs.nxt A E T = none := find_no (fun x hx => HY.out.2.2 x (by rw [List.take_of_length_le (by rw [HN.out]; exact Nat.le_refl _)]; exact hx))
              rw [this]
            go_wp2_with fail
            go_ret2
            rw [HF.out]
            exact ⟨_, rfl, OwnL.nil _ _, below_trans HB.out.1 (below_mono HY.out.1 HB.out.1.size)⟩
    · obtain rfl : n = tl := by omega
      go_wp2_with fail
      go_ret2
      have : Gs.ord A E = some T := by
        rw [HX.out.2.2.1, show n - n = 0 by omega]; rfl
      rw [this]
      exact ⟨_, rfl, HX.out.1.mono HB.out.1.size, below_trans HB.out.1 (below_mono HX.out.2.1 HB.out.1.size)⟩
end Go.Proofs.Ytclbnjfmipifnaa
