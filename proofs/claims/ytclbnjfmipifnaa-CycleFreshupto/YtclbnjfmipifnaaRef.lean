import Derived.Test.YtclbnjfmipifnaaJCmp
namespace Go.Proofs.Ytclbnjfmipifnaa
open Go.RowKit

/-- a beginning put ahead of the first piece -/
def glue (cur : List UInt8) : List (List UInt8) → List (List UInt8)
  | [] => [cur]
  | p :: ps => (cur ++ p) :: ps
theorem glue_nil (X : List (List UInt8)) (h : X ≠ []) : glue [] X = X := by
  cases X with
  | nil => exact absurd rfl h
  | cons p ps => rfl
theorem glue_sp_ne (cur : List UInt8) (c : UInt8) (r : List UInt8) (h : c ≠ 47) : glue cur (sp (c :: r)) = glue (cur ++ [c]) (sp r) := by
  rw [sp.eq_2, if_neg h]
  cases hs : sp r with
  | nil => exact absurd hs (sp_ne r)
  | cons p ps => simp [glue]
theorem glue_sp_eq (cur : List UInt8) (r : List UInt8) : glue cur (sp (47 :: r)) = cur :: sp r := by
  simp [sp, glue]
theorem glue_len (cur : List UInt8) (X : List (List UInt8)) : 1 ≤ (glue cur X).length := by
  cases X <;> simp [glue]
theorem drop_take_snoc (l : List UInt8) (f k : Nat) (hf : f ≤ k) (hk : k < l.length) : (l.drop f).take (k + 1 - f) = (l.drop f).take (k - f) ++ [l[k]'hk] := by
  rw [show k + 1 - f = (k - f) + 1 from by omega, List.take_add_one, List.getElem?_drop, show f + (k - f) = k from by omega, List.getElem?_eq_getElem hk]
  rfl
theorem Own.len {base : Nat} {w : World} {v : Value} {l : List (List UInt8)} (h : Own base w v l) : ∃ a c, v = .slice a l.length c := by
  obtain ⟨a, c, e, _⟩ := h.bs.form
  exact ⟨a, c, e⟩

set_option maxHeartbeats 1000000 in
set_option maxRecDepth 100000 in
theorem rsplit_any (l : List UInt8) (w : World) (hm : l.length ≤ 1000000000) :
    Calls Try.prog 56 #[.string (bs l)] w fun e w' => ∃ v, e = .returned v ∧ Own w.heap.size w' v (pcs l) ∧ Below w.heap.size w w' := by
  have he := isE l
  by_cases hl : l = []
  · subst hl
    rw [pcs_nil]
    go_enter Try.func56, Try.ntmps56
    go_wp2_with fail
    go_ret
    exact ⟨_, rfl, Own.nil _ _, Below.refl _ _⟩
  have i0 : l.isEmpty = false := by cases l; exact absurd rfl hl; rfl
  rw [i0] at he
  have hz : (bs l).size = l.length := rfl
  have hP : pcs l = sp l := by simp [pcs, hl]
  rw [hP]
  obtain ⟨L, hL⟩ : ∃ L, sp l = L := ⟨_, rfl⟩
  rw [hL]
  have HL : Hid (sp l = L) := hL
  have HN : Hid (L.length ≤ 1000000001) := by
    show _ ≤ _
    rw [← hL, ← hP, dep_eq]; have := dep_le l; omega
  clear hL hP hl i0
  go_enter Try.func56, Try.ntmps56
  go_wp2_with fail
  go_loopw [3, 4, 5] (fun o f i wr => ∃ (k m : Nat) (D : List (List UInt8)), i = .int .i64 k ∧ f = .int .i64 m ∧ Own w.heap.size wr o D ∧ Below w.heap.size w wr ∧ ((k ≤ l.length ∧ m ≤ k ∧ D ++ glue ((l.drop m).take (k - m)) (sp (l.drop k)) = L) ∨ (k = l.length + 1 ∧ D = L))) (fun _ _ i _ => l.length + 1 - (intOf i).toNat)
  case atStart => exact ⟨0, 0, [], rfl, rfl, Own.nil _ _, Below.refl _ _, .inl ⟨Nat.zero_le _, Nat.le_refl _, by simpa [glue_nil _ (sp_ne l)] using HL.out⟩⟩
  case round =>
    obtain ⟨k, m, D, rfl, rfl, hown, hbw, hor⟩ := hrel
    have HO : Hid (Own w.heap.size wr u3 D) := hown
    have HB : Hid (Below w.heap.size w wr) := hbw
    have hzw := hbw.size
    clear hown hbw
    rcases hor with ⟨hk, hmk, heq⟩ | ⟨rfl, rfl⟩
    · have hDl : D.length + 1 ≤ 8796093022208 := by
        have h1 := congrArg List.length heq
        have h2 := glue_len ((l.drop m).take (k - m)) (sp (l.drop k))
        have := HN.out
        rw [List.length_append] at h1; omega
      have HE : Hid (D ++ glue ((l.drop m).take (k - m)) (sp (l.drop k)) = L) := heq
      have HX : Hid ((bs l).extract m k = bs ((l.drop m).take (k - m))) := bs_extract l m k
      clear heq
      by_cases hlt : k < l.length
      · have hkz : k < (bs l).size := hlt
        have e0 : ((k : Int) == (l.length : Int)) = false := by rw [beq_eq_false_iff_ne]; omega
        by_cases hc : l[k]'hlt = 47
        · have e1 : (((bs l)[k].toNat : Int) == 47) = true := by rw [bs_get _ _ _ hlt, hc]; rfl
          have h2 := HE.out
          rw [List.drop_eq_getElem_cons hlt, hc, glue_sp_eq] at h2
          have HE2 : Hid ((D ++ [(l.drop m).take (k - m)]) ++ glue ((l.drop (k + 1)).take (k + 1 - (k + 1))) (sp (l.drop (k + 1))) = L) := by
            show _ = _
            rw [← h2, Nat.sub_self, List.take_zero, glue_nil _ (sp_ne _)]; simp
          clear h2
          go_wp2_with (at_builtin; rw [HX.out]; refine app_one (base := w.heap.size) ((l.drop m).take (k - m)) HO.out hDl hzw rfl (.tmp 25) (.tmp 30) rfl rfl rfl ?_; intro v' w' ho hbw hbs' hgr hat)
          go_roundw
          case rel => exact ⟨k + 1, k + 1, _, by go_num, by go_num, ho, below_trans HB.out hbw, .inl ⟨by omega, Nat.le_refl _, HE2.out⟩⟩
          case measure => simp [intOf]; omega
        · have e1 : (((bs l)[k].toNat : Int) == 47) = false := by
            rw [bs_get _ _ _ hlt, beq_eq_false_iff_ne]; intro e; apply hc; apply UInt8.toNat_inj.1; exact Int.ofNat.inj e
          have h2 := HE.out
          rw [List.drop_eq_getElem_cons hlt, glue_sp_ne _ _ _ hc, ← drop_take_snoc l m k hmk hlt] at h2
          have HE2 : Hid (D ++ glue ((l.drop m).take (k + 1 - m)) (sp (l.drop (k + 1))) = L) := h2
          clear h2
          go_wp2_with fail
          go_roundw
          case rel => exact ⟨k + 1, m, D, by go_num, rfl, HO.out, HB.out, .inl ⟨by omega, by omega, HE2.out⟩⟩
          case measure => simp [intOf]; omega
      · obtain rfl : k = l.length := by omega
        have h2 := HE.out
        rw [List.drop_length] at h2
        have HE2 : Hid (D ++ [(l.drop m).take (l.length - m)] = L) := by
          show _ = _
          rw [← h2]; simp [sp, glue]
        clear h2
        go_wp2_with (at_builtin; rw [HX.out]; refine app_one (base := w.heap.size) ((l.drop m).take (l.length - m)) HO.out hDl hzw rfl (.tmp 25) (.tmp 30) rfl rfl rfl ?_; intro v' w' ho hbw hbs' hgr hat)
        go_roundw
        case rel => exact ⟨l.length + 1, l.length + 1, _, by go_num, by go_num, ho, below_trans HB.out hbw, .inr ⟨rfl, HE2.out⟩⟩
        case measure => simp [intOf]
    · have h3 : ¬ l.length + 1 ≤ l.length := by omega
      go_wp2_with fail
      go_ret
      exact ⟨_, rfl, HO.out, HB.out⟩

theorem pcs_mem_le (l : List UInt8) : ∀ p ∈ pcs l, p.length ≤ l.length := by
  have key : ∀ (n : Nat) (t : List UInt8) (m : Bool), t.length ≤ n → ∀ p ∈ left t m, p.length ≤ t.length := by
    intro n
    induction n with
    | zero =>
      intro t m ht p hp
      have : t = [] := List.eq_nil_of_length_eq_zero (by omega)
      subst this
      cases m <;> simp [left, sp] at hp
      subst hp; simp
    | succ n ih =>
      intro t m ht p hp
      cases m
      · simp [left] at hp
      · rw [left_next] at hp
        rcases List.mem_cons.1 hp with rfl | hp
        · exact hd_le t
        · have h1 := tl_le t
          cases hs : sl t
          · rw [hs, left_false] at hp; simp at hp
          · have := tl_lt t hs
            have := ih (tl t) _ (by omega) p hp
            omega
  intro p hp
  rw [← left_start] at hp
  exact key _ _ _ (Nat.le_refl _) p hp

theorem cb_drop (a b : List UInt8) (k : Nat) (ha : k < a.length) (hb : k < b.length) :
    Lib.compareBytes (a.drop k) (b.drop k) = if (a[k]'ha).toNat < (b[k]'hb).toNat then -1 else if (b[k]'hb).toNat < (a[k]'ha).toNat then 1 else Lib.compareBytes (a.drop (k + 1)) (b.drop (k + 1)) := by
  rw [List.drop_eq_getElem_cons ha, List.drop_eq_getElem_cons hb, Lib.compareBytes]
  simp only [UInt8.lt_iff_toNat_lt]
theorem cb_end (a b : List UInt8) (k : Nat) (h : a.length ≤ k ∨ b.length ≤ k) (ha : k ≤ a.length) (hb : k ≤ b.length) :
    Lib.compareBytes (a.drop k) (b.drop k) = if a.length < b.length then -1 else if b.length < a.length then 1 else 0 := by
  rcases Nat.lt_trichotomy a.length b.length with h1 | h1 | h1
  · have : k = a.length := by omega
    rw [if_pos h1, List.drop_eq_nil_of_le (by omega), List.drop_eq_getElem_cons (by omega)]; rfl
  · rw [if_neg (by omega), if_neg (by omega), List.drop_eq_nil_of_le (by omega), List.drop_eq_nil_of_le (by omega)]; rfl
  · have : k = b.length := by omega
    rw [if_neg (by omega), if_pos h1, show b.drop k = [] from List.drop_eq_nil_of_le (by omega), List.drop_eq_getElem_cons (l := a) (by omega)]; rfl

set_option maxHeartbeats 1000000 in
set_option maxRecDepth 100000 in
theorem rbytes_any (a b : List UInt8) (w : World) (ha : a.length ≤ 9223372036854775807) :
    Calls Try.prog 57 #[.string (bs a), .string (bs b)] w fun e w' => e = .returned (.int .i64 (Lib.compareBytes a b)) ∧ ∃ n, w' = w.drewN n := by
  have hz : (bs a).size = a.length := rfl
  have hz2 : (bs b).size = b.length := rfl
  obtain ⟨r, hr⟩ : ∃ r, Lib.compareBytes a b = r := ⟨_, rfl⟩
  rw [hr]
  have HR : Hid (Lib.compareBytes (a.drop 0) (b.drop 0) = r) := hr
  clear hr
  go_enter Try.func57, Try.ntmps57
  go_wp2_with fail
  go_loopw [5] (fun i wr => ∃ k n : Nat, k ≤ a.length ∧ k ≤ b.length ∧ i = .int .i64 k ∧ wr = w.drewN n ∧ Lib.compareBytes (a.drop k) (b.drop k) = r) (fun i _ => a.length - (intOf i).toNat)
  case atStart => exact ⟨0, 0, Nat.zero_le _, Nat.zero_le _, rfl, rfl, HR.out⟩
  case round =>
    obtain ⟨k, n, hk, hk2, rfl, rfl, hc⟩ := hrel
    have HC : Hid (Lib.compareBytes (a.drop k) (b.drop k) = r) := hc
    clear hc
    by_cases h1 : k < a.length
    · by_cases h2 : k < b.length
      · have hka : k < (bs a).size := h1
        have hkb : k < (bs b).size := h2
        have hc := HC.out
        rw [cb_drop a b k h1 h2] at hc
        by_cases h3 : (a[k]'h1).toNat < (b[k]'h2).toNat
        · have g1 : (bs a)[k].toNat < (bs b)[k].toNat := h3
          rw [if_pos h3] at hc
          subst hc
          go_wp2_with fail
          go_region
          go_wp2_with fail
          go_ret
          exact ⟨rfl, n + 1, rfl⟩
        · have g1 : ¬ (bs a)[k].toNat < (bs b)[k].toNat := h3
          rw [if_neg h3] at hc
          by_cases h4 : (b[k]'h2).toNat < (a[k]'h1).toNat
          · have g2 : (bs b)[k].toNat < (bs a)[k].toNat := h4
            rw [if_pos h4] at hc
            subst hc
            clear h3 h4
            go_wp2_with fail
            go_region
            go_wp2_with fail
            go_region
            go_wp2_with fail
            go_ret
            exact ⟨rfl, n + 2, rfl⟩
          · have g2 : ¬ (bs b)[k].toNat < (bs a)[k].toNat := h4
            rw [if_neg h4] at hc
            have HC2 : Hid (Lib.compareBytes (a.drop (k + 1)) (b.drop (k + 1)) = r) := hc
            clear h3 h4 hc
            go_wp2_with fail
            go_region
            go_wp2_with fail
            go_region
            go_wp2_with fail
            go_roundw
            case rel => exact ⟨k + 1, n + 2, by omega, by omega, by go_num, rfl, HC2.out⟩
            case measure => simp [intOf]; omega
      · have hc := HC.out
        rw [cb_end a b k (by omega) hk hk2] at hc
        by_cases h3 : a.length < b.length
        · omega
        · rw [if_neg h3, if_pos (by omega)] at hc
          subst hc
          have h4 : b.length < a.length := by omega
          go_wp2_with fail
          go_ret
          exact ⟨rfl, n, rfl⟩
    · have hc := HC.out
      rw [cb_end a b k (by omega) hk hk2] at hc
      by_cases h3 : a.length < b.length
      · rw [if_pos h3] at hc
        subst hc
        go_wp2_with fail
        go_ret
        exact ⟨rfl, n, rfl⟩
      · have h4 : ¬ b.length < a.length := by omega
        rw [if_neg h3, if_neg h4] at hc
        subst hc
        go_wp2_with fail
        go_ret
        exact ⟨rfl, n, rfl⟩

theorem cmpP_drop (A B : List (List UInt8)) (k : Nat) (ha : k < A.length) (hb : k < B.length) :
    cmpP (A.drop k) (B.drop k) = if Lib.compareBytes (A[k]'ha) (B[k]'hb) = 0 then cmpP (A.drop (k + 1)) (B.drop (k + 1)) else Lib.compareBytes (A[k]'ha) (B[k]'hb) := by
  rw [List.drop_eq_getElem_cons ha, List.drop_eq_getElem_cons hb, cmpP]
theorem cmpP_end (A B : List (List UInt8)) (k : Nat) (h : A.length ≤ k ∨ B.length ≤ k) (ha : k ≤ A.length) (hb : k ≤ B.length) :
    cmpP (A.drop k) (B.drop k) = if A.length < B.length then -1 else if B.length < A.length then 1 else 0 := by
  rcases Nat.lt_trichotomy A.length B.length with h1 | h1 | h1
  · have : k = A.length := by omega
    rw [if_pos h1, List.drop_eq_nil_of_le (by omega), List.drop_eq_getElem_cons (by omega)]; rfl
  · rw [if_neg (by omega), if_neg (by omega), List.drop_eq_nil_of_le (by omega), List.drop_eq_nil_of_le (by omega)]; rfl
  · have : k = B.length := by omega
    rw [if_neg (by omega), if_pos h1, show B.drop k = [] from List.drop_eq_nil_of_le (by omega), List.drop_eq_getElem_cons (l := A) (by omega)]; rfl

theorem bdrewN {B : Nat} {w w1 : World} {n : Nat} (h : Below B w w1) : Below B w (w1.drewN n) := ⟨h.os, h.tape, h.output, h.size, h.block⟩
theorem pcs_len (l : List UInt8) (hm : l.length ≤ 1000000000) : (pcs l).length ≤ 1000000001 := by
  rw [dep_eq]; have := dep_le l; omega

set_option maxHeartbeats 1000000 in
set_option maxRecDepth 100000 in
theorem rcmp_any (a b : List UInt8) (w : World) (ha : a.length ≤ 1000000000) (hb : b.length ≤ 1000000000) :
    Calls Try.prog 43 #[.string (bs a), .string (bs b)] w fun e w' => e = .returned (.int .i64 (cmpP (pcs a) (pcs b))) ∧ Below w.heap.size w w' := by
  have MA : Hid (∀ p ∈ pcs a, p.length ≤ a.length) := pcs_mem_le a
  have MB : Hid (∀ p ∈ pcs b, p.length ≤ b.length) := pcs_mem_le b
  have la := pcs_len a ha
  have lb := pcs_len b hb
  obtain ⟨A, hA⟩ : ∃ A, pcs a = A := ⟨_, rfl⟩
  obtain ⟨B, hB⟩ : ∃ B, pcs b = B := ⟨_, rfl⟩
  rw [hA, hB]
  rw [hA] at MA la
  rw [hB] at MB lb
  obtain ⟨r, hr⟩ : ∃ r, cmpP A B = r := ⟨_, rfl⟩
  rw [hr]
  have HR : Hid (cmpP (A.drop 0) (B.drop 0) = r) := hr
  clear hr
  go_enter Try.func43, Try.ntmps43
  go_wp2_with fail
  refine (rsplit_any _ _ ha).mono ?_
  rintro e w1 ⟨v1, rfl, o1, b1⟩
  rw [hA] at o1
  have hz1 := b1.size
  have B1 : Hid (Below w.heap.size w w1) := b1
  have O1 : Hid (Own w.heap.size w1 v1 A) := o1
  clear o1 b1
  go_wp2_with fail
  refine (rsplit_any _ _ hb).mono ?_
  rintro e w2 ⟨v2, rfl, o2, b2⟩
  rw [hB] at o2
  have B2 : Hid (Below w.heap.size w w2) := below_trans B1.out (below_mono b2 hz1)
  obtain ⟨x, c, rfl, hcell⟩ := (O1.out.later b2).bs.form
  obtain ⟨y, d, rfl, hcell2⟩ := o2.bs.form
  have CA : Hid (∀ k, (hk : k < A.length) → ∃ b off, x = some ⟨b, off, none⟩ ∧ b < w2.heap.size ∧ w2.cell? ⟨b, off + k, none⟩ = some (.string (bs A[k]))) := hcell
  have CB : Hid (∀ k, (hk : k < B.length) → ∃ b off, y = some ⟨b, off, none⟩ ∧ b < w2.heap.size ∧ w2.cell? ⟨b, off + k, none⟩ = some (.string (bs B[k]))) := hcell2
  clear hcell hcell2 o2 b2 O1 B1 hA hB
  go_wp2_with fail
  go_loopw [7] (fun i wr => ∃ k n : Nat, k ≤ A.length ∧ k ≤ B.length ∧ i = .int .i64 k ∧ wr = w2.drewN n ∧ cmpP (A.drop k) (B.drop k) = r) (fun i _ => A.length - (intOf i).toNat)
  case atStart => exact ⟨0, 0, Nat.zero_le _, Nat.zero_le _, rfl, rfl, HR.out⟩
  case round =>
    obtain ⟨k, n, hk, hk2, rfl, hw, hc⟩ := hrel
    have HW : Hid (wr = w2.drewN n) := hw
    have HBW : Hid (Below w.heap.size w wr) := by rw [hw]; exact bdrewN B2.out
    clear hw
    have HC : Hid (cmpP (A.drop k) (B.drop k) = r) := hc
    clear hc
    by_cases h1 : k < A.length
    · by_cases h2 : k < B.length
      · obtain ⟨g1, o1, rfl, hg1, c1⟩ := CA.out k h1
        obtain ⟨g2, o2, rfl, hg2, c2⟩ := CB.out k h2
        have c1 : wr.cell? ⟨g1, o1 + k, none⟩ = some (.string (bs (A[k]'h1))) := by rw [HW.out]; exact c1
        have c2 : wr.cell? ⟨g2, o2 + k, none⟩ = some (.string (bs (B[k]'h2))) := by rw [HW.out]; exact c2
        have p1 := MA.out (A[k]'h1) (List.getElem_mem _)
        have p2 := MB.out (B[k]'h2) (List.getElem_mem _)
        have hc := HC.out
        rw [cmpP_drop A B k h1 h2] at hc
        by_cases h3 : Lib.compareBytes (A[k]'h1) (B[k]'h2) = 0
        · rw [if_pos h3] at hc
          have HC2 : Hid (cmpP (A.drop (k + 1)) (B.drop (k + 1)) = r) := hc
          clear hc
          go_wp2_with fail
          go_quiet ((go_at_call 57; exact Calls.quiet_of (rbytes_any _ _ _ (by omega))))
          rw [h3]
          go_wp2_with fail
          go_roundw
          case rel => exact ⟨k + 1, n + nq, by omega, by omega, by go_num, by rw [HW.out]; exact World.drewN_drewN .., HC2.out⟩
          case measure => simp [intOf]; omega
        · rw [if_neg h3] at hc
          have g3 : (Lib.compareBytes (A[k]'h1) (B[k]'h2) != 0) = true := by simpa using h3
          have HC2 : Hid (Lib.compareBytes (A[k]'h1) (B[k]'h2) = r) := hc
          clear hc
          go_wp2_with fail
          go_quiet ((go_at_call 57; exact Calls.quiet_of (rbytes_any _ _ _ (by omega))))
          go_wp2_with fail
          go_ret
          exact ⟨by rw [← HC2.out]; rfl, bdrewN HBW.out⟩
      · have hc := HC.out
        rw [cmpP_end A B k (by omega) hk hk2] at hc
        have h3 : ¬ A.length < B.length := by omega
        have h4 : B.length < A.length := by omega
        rw [if_neg h3, if_pos h4] at hc
        subst hc
        go_wp2_with fail
        go_ret
        exact ⟨rfl, HBW.out⟩
    · have hc := HC.out
      rw [cmpP_end A B k (by omega) hk hk2] at hc
      by_cases h3 : A.length < B.length
      · rw [if_pos h3] at hc
        subst hc
        go_wp2_with fail
        go_ret
        exact ⟨rfl, HBW.out⟩
      · have h4 : ¬ B.length < A.length := by omega
        rw [if_neg h3, if_neg h4] at hc
        subst hc
        go_wp2_with fail
        go_ret
        exact ⟨rfl, HBW.out⟩

theorem com_drop (A B : List (List UInt8)) (k : Nat) (ha : k < A.length) (hb : k < B.length) :
    com (A.drop k) (B.drop k) = if (A[k]'ha) = (B[k]'hb) then com (A.drop (k + 1)) (B.drop (k + 1)) + 1 else 0 := by
  rw [List.drop_eq_getElem_cons ha, List.drop_eq_getElem_cons hb, com]
theorem com_end (A B : List (List UInt8)) (k : Nat) (h : A.length ≤ k ∨ B.length ≤ k) : com (A.drop k) (B.drop k) = 0 := by
  rcases h with h | h
  · rw [List.drop_eq_nil_of_le h]; simp [com]
  · rw [show B.drop k = [] from List.drop_eq_nil_of_le h]
    cases A.drop k <;> simp [com]

theorem SS.cut {w : World} {a : Option Addr} {c n : Nat} {A : List (List UInt8)} (h : SS w (.slice a A.length c) A) (k : Nat) (hk : k ≤ A.length) : n = k → SS w (.slice a n c) (A.take k) := by
  rintro rfl
  rcases h with ⟨⟨a', c', e⟩, h0⟩ | ⟨b, off, cap, e, hc, hlt, hcell⟩
  · subst h0
    have : n = 0 := by simpa using hk
    subst this
    exact .inl ⟨⟨a, c, rfl⟩, rfl⟩
  · injection e with e1 e2 e3
    subst e1 e3
    refine .inr ⟨b, off, c, by rw [List.length_take, Nat.min_eq_left hk], by rw [List.length_take]; omega, hlt, fun i u hu => hcell i u ?_⟩
    rw [sc_get] at hu ⊢
    rw [List.getElem?_take] at hu
    split at hu
    · exact hu
    · simp at hu

theorem Own.cap {base : Nat} {w : World} {v : Value} {l : List (List UInt8)} (h : Own base w v l) : ∃ a c, v = .slice a l.length c ∧ l.length ≤ c := by
  rcases h.2 with ⟨rfl, h0⟩ | ⟨g, cap, cur, rfl, hb, hg, hn, _⟩
  · exact ⟨none, 0, by rw [h0], by omega⟩
  · exact ⟨_, _, rfl, hn⟩

theorem all_drop_succ (L : List (List UInt8)) (k : Nat) (h : k < L.length) : (L.drop k).all okC = (okC (L[k]'h) && (L.drop (k + 1)).all okC) := by
  rw [List.drop_eq_getElem_cons h]; rfl
end Go.Proofs.Ytclbnjfmipifnaa
