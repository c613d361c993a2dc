/-
  The document's Parse and In.
  The document's globs are the program's.
-/
import Derived.Test.YtemoplpfndnklaaGreatDoorJJoin
import Derived.Test.YtemoplpfndnklaaGreatDoorJBkA
import Derived.Test.YtemoplpfndnklaaGreatDoorJRd
namespace Go.Proofs.YtemoplpfndnklaaGreatDoor
open Go.RowKit

/-- what is parsed is printed so -/
theorem prs_inv {s : List UInt8} {l : Lb} {e : Int} (h : prs s = (l, e)) (he : e = 0) : okL l = true ∧ s = prt l := by
  unfold prs at h
  split at h
  · rename_i hp
    obtain ⟨r, hr⟩ := List.isPrefixOf_iff_prefix.1 hp
    subst hr
    simp only [List.cons_append, List.nil_append, List.drop_succ_cons, List.drop_zero] at h
    unfold chk at h
    split at h
    · rename_i hk
      injection h with h1 h2
      subst h1
      refine ⟨hk, ?_⟩
      have hc : csl r = true := by
        cases hc : csl r
        · rw [c_tl_none r hc] at hk
          unfold okL at hk
          simp only [Bool.and_eq_true] at hk
          exact absurd hk.2 (by decide)
        · rfl
      have hcut := c_cut_eq r
      rw [hc] at hcut
      simp only [if_true] at hcut
      unfold prt
      simp only [List.cons_append, List.nil_append]
      rw [← hcut]
    · injection h with h1 h2
      omega
  · injection h with h1 h2
    omega
theorem okL_len {l : Lb} (h : okL l = true) : (prt l).length ≤ 155 := by
  unfold okL at h
  simp only [Bool.and_eq_true] at h
  have h1 := (okP_len h.1).1
  have h2 := okC_le h.2
  simp only [prt, List.length_cons, List.length_append]; omega
theorem prs_cases (s : List UInt8) : prs s = (zl, 10) ∨ ∃ l, prs s = (l, 0) ∧ okL l = true ∧ s = prt l := by
  rcases hp : prs s with ⟨l, e⟩
  unfold prs at hp
  have hp' := hp
  split at hp
  · unfold chk at hp
    split at hp
    · injection hp with h1 h2
      subst h2
      right
      exact ⟨l, rfl, prs_inv (by unfold prs; exact hp') rfl⟩
    · injection hp with h1 h2
      subst h1 h2
      exact .inl rfl
  · injection hp with h1 h2
    subst h1 h2
    exact .inl rfl
theorem prs_long {s : List UInt8} (h : 155 < s.length) : prs s = (zl, 10) := by
  rcases prs_cases s with h1 | ⟨l, _, h2, h3⟩
  · exact h1
  · have := okL_len h2
    rw [← h3] at this; omega
/-- the label that a colon at this place would part -/
def cutL (s : List UInt8) (k : Nat) : Lb := ⟨(s.drop 2).take (k - 2), s.drop (k + 1)⟩
def hitL (s : List UInt8) (k : Nat) : Bool := decide (s[k]? = some 58) && okL (cutL s k) && decide (prt (cutL s k) = s)
theorem prs_hit {s : List UInt8} {k : Nat} (h1 : okL (cutL s k) = true) (h2 : prt (cutL s k) = s) : prs s = (cutL s k, 0) := by
  have := prs_good h1
  rw [h2] at this; exact this
theorem prs_miss {s : List UInt8} (h : ∀ k, 2 ≤ k → k < s.length → hitL s k = false) : prs s = (zl, 10) := by
  rcases prs_cases s with h1 | ⟨l, _, h2, h3⟩
  · exact h1
  · exfalso
    have hl : 2 + l.pkg.length < s.length := by rw [h3]; simp only [prt, List.length_cons, List.length_append]; omega
    have hk := h (2 + l.pkg.length) (by omega) hl
    have e1 : cutL s (2 + l.pkg.length) = l := by
      rw [h3]
      unfold cutL prt
      have a1 : (2 + l.pkg.length - 2) = l.pkg.length := by omega
      have a2 : (2 + l.pkg.length + 1) = l.pkg.length + 1 + 2 := by omega
      rw [a1, a2]
      simp only [List.drop_succ_cons, List.drop_zero]
      rw [List.drop_append]
      have a3 : List.drop (l.pkg.length + 1) l.pkg = [] := List.drop_eq_nil_of_le (by omega)
      rw [a3]
      simp
    have e2 : s[2 + l.pkg.length]? = some 58 := by
      rw [h3]
      unfold prt
      have a1 : 2 + l.pkg.length = l.pkg.length + 2 := by omega
      rw [a1]
      simp
    unfold hitL at hk
    rw [e1, e2, h2, ← h3] at hk
    simp at hk

set_option maxRecDepth 100000 in
set_option maxHeartbeats 4000000 in
theorem rparse_any (s : List UInt8) (w : World) (hs : s.length ≤ 1000000000) : Calls Tryz.prog 55 #[.string (bs s)] w fun e w' => e = .returned (pair (prs s)) ∧ Below w.heap.size w w' := by
  have z0 : (bs s).size = s.length := rfl
  have HZ : Hid (RB (w.alloc (.cells #[.string (bs []), .string (bs [])] 58)) w.heap.size zl) := RB.new w zl
  by_cases h0 : 155 < s.length
  · rw [prs_long h0]
    have h0' : (155 : Int) < (s.length : Int) := by omega
    clear h0
    obtain ⟨c0, c1, f0, f1⟩ := HZ.out.cells
    go_enter Tryz.func55, Tryz.ntmps55
    go_wp2_with fail
    refine bodyPost_ret (results_ct rfl _ _ w.heap.size 58 #[.string (bs []), .string (bs [])] (0, 0) _ rfl ?_ Tryz.underlying58 rfl (by kernel_rfl)) rfl ?_
    · exact HZ.out.blk
    exact ⟨rfl, balloc _ _⟩
  have h0' : ¬ ((155 : Int) < (s.length : Int)) := by omega
  have HS0 : Hid (s.length ≤ 155) := by show s.length ≤ 155; omega
  obtain ⟨r, hr⟩ : ∃ r, pair (prs s) = r := ⟨_, rfl⟩
  rw [hr]
  have HR : Hid (pair (prs s) = r) := hr
  clear hr h0
  by_cases hs2 : 2 ≤ s.length
  rotate_left
  · have hm : prs s = (zl, 10) := prs_miss (fun k h1 h2 => by omega)
    have hs2' : ¬ ((2 : Int) < (s.length : Int)) := by omega
    rw [hm] at HR
    clear hm
    go_enter Tryz.func55, Tryz.ntmps55
    go_wp2_with fail
    go_loopw [4] (fun i wr => i = .int .i64 2 ∧ wr = w.alloc (.cells #[.string (bs []), .string (bs [])] 58)) (fun _ _ => 0)
    case atStart => exact ⟨rfl, rfl⟩
    case round =>
      obtain ⟨rfl, rfl⟩ := hrel
      obtain ⟨c0, c1, f0, f1⟩ := HZ.out.cells
      go_wp2_with fail
      refine bodyPost_ret (results_ct rfl _ _ w.heap.size 58 #[.string (bs []), .string (bs [])] (0, 0) _ rfl ?_ Tryz.underlying58 rfl (by kernel_rfl)) rfl ?_
      · exact HZ.out.blk
      exact ⟨by rw [← HR.out]; rfl, balloc _ _⟩
  go_enter Tryz.func55, Tryz.ntmps55
  go_wp2_with fail
  go_loopw [4] (fun i wr => ∃ k : Nat, 2 ≤ k ∧ k ≤ s.length ∧ i = .int .i64 k ∧ Below w.heap.size w wr ∧ RB wr w.heap.size zl ∧ ∀ j, 2 ≤ j → j < k → hitL s j = false) (fun i _ => s.length - (intOf i).toNat)
  case atStart => exact ⟨2, by omega, hs2, rfl, balloc _ _, HZ.out, fun j h1 h2 => by omega⟩
  case round =>
    obtain ⟨k, hk2, hk, rfl, hb, hrb, hno⟩ := hrel
    have HB : Hid (Below w.heap.size w wr) := hb
    have HZ1 : Hid (RB wr w.heap.size zl) := hrb
    have HNO : Hid (∀ j, 2 ≤ j → j < k → hitL s j = false) := hno
    clear hb hrb hno
    by_cases hlt : k < s.length
    · have hkz : k < (bs s).size := hlt
      have k1 : (0 : Int) ≤ (k : Int) := by omega
      have k2 : (k : Int) < (s.length : Int) := by omega
      by_cases hc : s[k]'hlt = 58
      rotate_left
      · have e1 : (((bs s)[k].toNat : Int) == 58) = false := by
          rw [bs_get _ _ _ hlt, beq_eq_false_iff_ne]; intro e; apply hc; apply UInt8.toNat_inj.1; exact Int.ofNat.inj e
        have e1' : (((bs s)[k].toNat : Int) != 58) = true := by rw [bne, e1]; rfl
        have HH : Hid (hitL s k = false) := by
          show hitL s k = false
          unfold hitL
          rw [List.getElem?_eq_getElem hlt]
          simp [hc]
        clear hc
        go_wp2_with fail
        go_round
        case rel => exact ⟨k + 1, by omega, by omega, by simp, HB.out, HZ1.out, fun j h1 h2 => by
          rcases Nat.lt_or_ge j k with h | h
          · exact HNO.out j h1 h
          · have : j = k := by omega
            subst this; exact HH.out⟩
        case measure => simp only [intOf]; omega
      · have e1 : (((bs s)[k].toNat : Int) == 58) = true := by rw [bs_get _ _ _ hlt, hc]; rfl
        have e1' : (((bs s)[k].toNat : Int) != 58) = false := by rw [bne, e1]; rfl
        have k3 : (2 : Int) ≤ (k : Int) := by omega
        have k4 : (k : Int) ≤ (s.length : Int) := by omega
        have k5 : (k : Int) + 1 ≤ (s.length : Int) := by omega
        have k6 : (0 : Int) ≤ (k : Int) + 1 := by omega
        have E1 : (bs s).extract 2 k = bs ((s.drop 2).take (k - 2)) := bs_extract s 2 k
        have E2 : (bs s).extract (k + 1) s.length = bs (s.drop (k + 1)) := extract_from s (k + 1)
        have HLu : Lu (cutL s k) := ⟨by simp only [cutL, List.length_take, List.length_drop]; omega, by simp only [cutL, List.length_drop]; omega⟩
        have HV : Hid (∀ W : World, Calls Tryz.prog 77 #[(cutL s k).val] W fun e w' => e = .returned (.bool (okL (cutL s k))) ∧ Below W.heap.size W w') := fun W => rlvalid_any _ W HLu
        have HP : Hid (∀ W : World, Calls Tryz.prog 56 #[(cutL s k).val] W fun e w' => e = .returned (.string (bs (prt (cutL s k)))) ∧ Below W.heap.size W w') := fun W => rlprint_any _ W HLu
        have HHit : Hid (okL (cutL s k) = true → prt (cutL s k) = s → r = pair (cutL s k, 0)) := fun h1 h2 => by
          rw [← HR.out, prs_hit h1 h2]
        have HMiss : Hid (okL (cutL s k) = false ∨ prt (cutL s k) ≠ s → hitL s k = false) := fun h => by
          show hitL s k = false
          unfold hitL
          rcases h with h | h
          · simp [h]
          · simp [h]
        unfold cutL at HV HP HHit HMiss HLu
        simp only [Lb.val, pair] at HV HP HHit
        generalize (s.drop 2).take (k - 2) = p at *
        generalize s.drop (k + 1) = m at *
        clear HLu
        have es := bs_toList s
        have RN : Hid (RB ((wr.alloc (.cells #[.string (bs p), .string (bs m)] 58)).drew) wr.heap.size ⟨p, m⟩) := (RB.new wr ⟨p, m⟩).later (Below.refl _ _).drew
        have HBd : Hid (Below w.heap.size w ((wr.alloc (.cells #[.string (bs p), .string (bs m)] 58)).drew)) := bstep HB.out (balloc wr _).drew
        have HZd : Hid (RB ((wr.alloc (.cells #[.string (bs p), .string (bs m)] 58)).drew) w.heap.size zl) := HZ1.out.later (balloc wr _).drew
        cases hok : okL ⟨p, m⟩
        · rw [hok] at HV
          have HH : Hid (hitL s k = false) := HMiss.out (.inl hok)
          clear hok HMiss HHit
          obtain ⟨d0, d1, _, _⟩ := RN.out.cells
          simp only at d0 d1
          go_wp2_with fail
          go_region
          go_wp2_with fail
          refine (HV.out _).mono ?_
          rintro e w2 ⟨rfl, hb2⟩
          have HB2 : Hid (Below w.heap.size w w2) := bstep HBd.out hb2
          have HZ2 : Hid (RB w2 w.heap.size zl) := HZd.out.later hb2
          clear hb2
          go_wp2_with fail
          go_round
          case rel => exact ⟨k + 1, by omega, by omega, by simp, HB2.out, HZ2.out, fun j h1 h2 => by
            rcases Nat.lt_or_ge j k with h | h
            · exact HNO.out j h1 h
            · have : j = k := by omega
              subst this; exact HH.out⟩
          case measure => simp only [intOf]; omega
        · rw [hok] at HV
          obtain ⟨P, hP⟩ : ∃ P, prt ⟨p, m⟩ = P := ⟨_, rfl⟩
          rw [hP] at HP HHit HMiss
          have eP := bs_toList P
          by_cases hPs : P = s
          · have hPs' : (P == s) = true := by simpa using hPs
            have HRT : Hid (r = .tuple #[.agg #[.string (bs p), .string (bs m)], .int .i64 0]) := HHit.out hok hPs
            clear hok HMiss HHit hPs hP
            obtain ⟨d0, d1, _, _⟩ := RN.out.cells
            simp only at d0 d1
            go_wp2_with fail
            go_region
            go_wp2_with fail
            refine (HV.out _).mono ?_
            rintro e w2 ⟨rfl, hb2⟩
            have HB2 : Hid (Below w.heap.size w w2) := bstep HBd.out hb2
            have HZ2 : Hid (RB w2 w.heap.size zl) := HZd.out.later hb2
            have RN2 : Hid (RB w2 wr.heap.size ⟨p, m⟩) := RN.out.later hb2
            obtain ⟨x0, x1, _, _⟩ := RN2.out.cells
            simp only at x0 x1
            clear hb2 d0 d1
            go_wp2_with fail
            refine (HP.out _).mono ?_
            rintro e w3 ⟨rfl, hb3⟩
            have HB3 : Hid (Below w.heap.size w w3) := bstep HB2.out hb3
            have HZ3 : Hid (RB w3 w.heap.size zl) := HZ2.out.later hb3
            obtain ⟨y0, y1, _, _⟩ := (RN2.out.later hb3).cells
            obtain ⟨c0, c1, f0, f1⟩ := HZ3.out.cells
            simp only at y0 y1
            clear hb3 x0 x1
            go_wp2_with fail
            refine bodyPost_ret (results_ct rfl _ _ w.heap.size 58 #[.string (bs p), .string (bs m)] (0, 0) _ rfl ?_ Tryz.underlying58 rfl (by kernel_rfl)) rfl ?_
            · exact (HZ3.out.set ⟨p, m⟩).blk
            exact ⟨by rw [HRT.out]; rfl, bset2 HB3.out (by omega) _ _⟩
          · have hPs' : (P == s) = false := by simpa using hPs
            have HH : Hid (hitL s k = false) := HMiss.out (.inr hPs)
            clear hok HMiss HHit hPs hP
            obtain ⟨d0, d1, _, _⟩ := RN.out.cells
            simp only at d0 d1
            go_wp2_with fail
            go_region
            go_wp2_with fail
            refine (HV.out _).mono ?_
            rintro e w2 ⟨rfl, hb2⟩
            have HB2 : Hid (Below w.heap.size w w2) := bstep HBd.out hb2
            have HZ2 : Hid (RB w2 w.heap.size zl) := HZd.out.later hb2
            have RN2 : Hid (RB w2 wr.heap.size ⟨p, m⟩) := RN.out.later hb2
            obtain ⟨x0, x1, _, _⟩ := RN2.out.cells
            simp only at x0 x1
            clear hb2 d0 d1
            go_wp2_with fail
            refine (HP.out _).mono ?_
            rintro e w3 ⟨rfl, hb3⟩
            have HB3 : Hid (Below w.heap.size w w3) := bstep HB2.out hb3
            have HZ3 : Hid (RB w3 w.heap.size zl) := HZ2.out.later hb3
            clear hb3 x0 x1
            go_wp2_with fail
            go_round
            case rel => exact ⟨k + 1, by omega, by omega, by simp, HB3.out, HZ3.out, fun j h1 h2 => by
              rcases Nat.lt_or_ge j k with h | h
              · exact HNO.out j h1 h
              · have : j = k := by omega
                subst this; exact HH.out⟩
            case measure => simp only [intOf]; omega
    · have hkn : k = s.length := by omega
      have hm : prs s = (zl, 10) := prs_miss (fun j h1 h2 => HNO.out j h1 (by omega))
      rw [hm] at HR
      have k2 : ¬ ((k : Int) < (s.length : Int)) := by omega
      clear hm hkn
      obtain ⟨c0, c1, f0, f1⟩ := HZ1.out.cells
      have hlt0 := HZ1.out.lt
      go_wp2_with fail
      refine bodyPost_ret (results_ct rfl _ _ w.heap.size 58 #[.string (bs []), .string (bs [])] (0, 0) _ rfl ?_ Tryz.underlying58 rfl (by kernel_rfl)) rfl ?_
      · exact (HZ1.out.set zl).blk
      exact ⟨by rw [← HR.out]; rfl, bset2 HB.out (by omega) _ _⟩
end Go.Proofs.YtemoplpfndnklaaGreatDoor

namespace Go.Proofs.YtemoplpfndnklaaGreatDoor

/-- the package's directory and a word together -/
def whl (p s : List UInt8) : List UInt8 := if p = [] then s else p ++ 47 :: s
/-- the document's glob -/
def rGlb (p s : List UInt8) : Bool :=
  (decide (base s = s) || !decide (dir s = [])) && (base s).all (fun c => c == 42 || okB c) && decide ((base s).count 42 = 1) && decide ((base s).length ≤ 32) && okP (if base s = s then [] else dir s) && decide ((whl p s).length ≤ 120) && decide ((pcs (whl p s)).length ≤ 12)
def rSrc (p s : List UInt8) : Bool := rGlb p s || (decide ((jn p s).2 = 0) && !decide (s = []) && !(base s == wName))

theorem okB_star : okB 42 = false := by decide
theorem okB_a : okB 97 = true := by decide
theorem rep1_split : ∀ (l : List UInt8), (42 : UInt8) ∈ l → ∃ x y, l = x ++ 42 :: y ∧ (42 : UInt8) ∉ x ∧ rep1 l = x ++ 97 :: y
  | [], h => by simp at h
  | c :: r, h => by
    by_cases hc : c = 42
    · subst hc
      exact ⟨[], r, rfl, by simp, by simp [rep1]⟩
    · have hr : (42 : UInt8) ∈ r := by
        rcases List.mem_cons.1 h with h | h
        · exact absurd h.symm hc
        · exact h
      obtain ⟨x, y, h1, h2, h3⟩ := rep1_split r hr
      refine ⟨c :: x, y, by rw [h1]; rfl, ?_, by rw [rep1, if_neg hc, h3]; rfl⟩
      simp only [List.mem_cons, not_or]
      exact ⟨fun e => hc e.symm, h2⟩
theorem rep1_app : ∀ (a b : List UInt8), rep1 (a ++ b) = if (42 : UInt8) ∈ a then rep1 a ++ b else a ++ rep1 b
  | [], b => by simp
  | c :: r, b => by
    by_cases hc : c = 42
    · subst hc; simp [rep1]
    · have ih := rep1_app r b
      have e : ((42 : UInt8) ∈ c :: r) ↔ (42 : UInt8) ∈ r := by simp [Ne.symm hc]
      rw [List.cons_append, rep1, if_neg hc, ih]
      by_cases h : (42 : UInt8) ∈ r
      · rw [if_pos h, if_pos (e.2 h), rep1, if_neg hc]; rfl
      · rw [if_neg h, if_neg (fun x => h (e.1 x))]; rfl
/-- a component with its star made a letter -/
theorem okC_rep1 {b : List UInt8} (h : (42 : UInt8) ∈ b) : okC (rep1 b) = (b.all (fun c => c == 42 || okB c) && decide (b.count 42 = 1) && decide (b.length ≤ 32)) := by
  obtain ⟨x, y, rfl, hx, hr⟩ := rep1_split b h
  rw [hr]
  have hne : ∀ d : List UInt8, (97 : UInt8) ∉ d → (x ++ 97 :: y == d) = false := fun d hd => by
    rw [beq_eq_false_iff_ne]; intro e; apply hd; rw [← e]; simp
  unfold okC
  rw [hne [] (by simp), hne [46] (by decide), hne [46, 46] (by decide), hne [46, 46, 46] (by decide)]
  have cx : x.count 42 = 0 := List.count_eq_zero.2 hx
  have c1 : (x ++ 42 :: y).count 42 = y.count 42 + 1 := by simp [List.count_append, cx]
  rw [c1]
  have ax : x.all (fun c => c == 42 || okB c) = x.all okB := by
    rw [Bool.eq_iff_iff]; simp only [List.all_eq_true]
    constructor
    · intro h c hc
      have h1 := h c hc
      have : c ≠ 42 := fun e => hx (e ▸ hc)
      simpa [this] using h1
    · intro h c hc; simp [h c hc]
  simp only [List.all_append, List.all_cons, okB_a, Bool.true_and, ax, Bool.not_false, List.length_append, List.length_cons]
  by_cases hy : y.count 42 = 0
  · have ay : y.all (fun c => c == 42 || okB c) = y.all okB := by
      rw [Bool.eq_iff_iff]; simp only [List.all_eq_true]
      constructor
      · intro h c hc
        have h1 := h c hc
        have : c ≠ 42 := fun e => (List.count_eq_zero.1 hy) (e ▸ hc)
        simpa [this] using h1
      · intro h c hc; simp [h c hc]
    rw [ay, hy]
    simp [Bool.and_comm]
  · have h2 : y.all okB = false := by
      rw [Bool.eq_false_iff]
      intro h
      have hm : (42 : UInt8) ∈ y := by
        by_cases hm : (42 : UInt8) ∈ y
        · exact hm
        · exact absurd (List.count_eq_zero.2 hm) hy
      have := List.all_eq_true.1 h 42 hm
      rw [okB_star] at this; cases this
    have h3 : decide (y.count 42 + 1 = 1) = false := by simpa using hy
    rw [h2, h3]; simp
theorem okC_star {b : List UInt8} (h : (42 : UInt8) ∈ b) : okC b = false := by
  unfold okC
  have : b.all okB = false := by
    rw [Bool.eq_false_iff]; intro ha
    have := List.all_eq_true.1 ha 42 h
    rw [okB_star] at this; cases this
  rw [this]; simp

theorem rep1_length : ∀ (l : List UInt8), (rep1 l).length = l.length
  | [] => rfl
  | c :: r => by unfold rep1; split <;> simp [rep1_length r]
theorem rep1_count : ∀ (l : List UInt8), (rep1 l).count 47 = l.count 47
  | [] => rfl
  | c :: r => by
    unfold rep1
    split
    · rename_i h; subst h; simp
    · rw [List.count_cons, List.count_cons, rep1_count r]
theorem rep1_nil (l : List UInt8) : rep1 l = [] ↔ l = [] := by
  constructor
  · intro h
    have := congrArg List.length h
    rw [rep1_length] at this; exact List.eq_nil_of_length_eq_zero this
  · rintro rfl; rfl
theorem dep_rep1 (l : List UInt8) : dep (rep1 l) = dep l := by
  unfold dep
  by_cases h : l = []
  · subst h; rfl
  · rw [if_neg h, if_neg (fun e => h ((rep1_nil l).1 e)), rep1_count]
theorem whl_rep1 (p s : List UInt8) : (whl p (rep1 s)).length = (whl p s).length ∧ (pcs (whl p (rep1 s))).length = (pcs (whl p s)).length := by
  unfold whl
  by_cases hp : p = []
  · rw [if_pos hp, if_pos hp, rep1_length, dep_eq, dep_eq, dep_rep1]; exact ⟨rfl, rfl⟩
  · rw [if_neg hp, if_neg hp]
    refine ⟨by simp [rep1_length], ?_⟩
    rw [dep_eq, dep_eq]
    unfold dep
    rw [if_neg (by simp), if_neg (by simp)]
    simp [rep1_count]
theorem jn0 (p w : List UInt8) (hp : okP p = true) (hw : w ≠ []) : decide ((jn p w).2 = 0) = (okP w && decide ((whl p w).length ≤ 120) && decide ((pcs (whl p w)).length ≤ 12)) := by
  cases ho : okP w
  · rw [jn_bad p w (fun h => by rw [ho] at h; exact absurd h.2 (by simp))]; rfl
  · by_cases h0 : p = []
    · subst h0
      rw [jn_left w ho]
      have := okP_len ho
      have e : whl [] w = w := rfl
      rw [e, dep_eq]
      simp [this.1, this.2]
    · rw [jn_both p w hp ho h0 hw]
      have e : whl p w = p ++ 47 :: w := by unfold whl; rw [if_neg h0]
      rw [e, pcs_append p w h0 hw]
      simp only [List.length_append, List.length_cons, Bool.true_and]
      by_cases hc : p.length + w.length + 1 ≤ 120 ∧ (pcs p).length + (pcs w).length ≤ 12
      · rw [if_pos hc, decide_eq_true (by omega : p.length + (w.length + 1) ≤ 120), decide_eq_true hc.2]; rfl
      · rw [if_neg hc]
        by_cases h1 : p.length + w.length + 1 ≤ 120
        · have h2 : ¬ (pcs p).length + (pcs w).length ≤ 12 := fun h => hc ⟨h1, h⟩
          rw [decide_eq_false h2]; simp
        · rw [decide_eq_false (by omega : ¬ p.length + (w.length + 1) ≤ 120)]; simp
theorem sp_none {b : List UInt8} (h : b.count 47 = 0) : sp b = [b] := sp_one b (List.count_eq_zero.1 h)
theorem base_none {b : List UInt8} (h : b.count 47 = 0) : base b = b := by
  unfold base; rw [lst_none b h]; rfl
theorem name_a {x y : List UInt8} : (x ++ 97 :: y == wName) = false := by
  rw [beq_eq_false_iff_ne]; intro e
  have : (97 : UInt8) ∈ wName := by rw [← e]; simp
  exact absurd this (by decide)
theorem rep1_name {b : List UInt8} (h : (42 : UInt8) ∈ b) : (rep1 b == wName) = false := by
  obtain ⟨x, y, _, _, hr⟩ := rep1_split b h
  rw [hr]; exact name_a
theorem glb_eq (p s : List UInt8) (hp : okP p = true) : glb p s = rGlb p s := by
  unfold glb rGlb
  by_cases hs : s = []
  · subst hs; simp [base]
  have hs' : rep1 s ≠ [] := fun e => hs ((rep1_nil s).1 e)
  by_cases h42 : (42 : UInt8) ∈ base s
  rotate_left
  · have c0 : (base s).count 42 = 0 := List.count_eq_zero.2 h42
    have e1 : (base s).contains 42 = false := by simpa using h42
    rw [e1, c0]; simp
  have e1 : (base s).contains 42 = true := by simpa using h42
  rw [e1, Bool.true_and]
  unfold lit
  rw [jn0 p (rep1 s) hp hs', (whl_rep1 p s).1, (whl_rep1 p s).2]
  by_cases hC : (whl p s).length ≤ 120 ∧ (pcs (whl p s)).length ≤ 12
  rotate_left
  · by_cases h1 : (whl p s).length ≤ 120
    · rw [decide_eq_false (fun h => hC ⟨h1, h⟩)]; simp
    · rw [decide_eq_false h1]; simp
  rw [decide_eq_true hC.1, decide_eq_true hC.2, Bool.and_true, Bool.and_true, Bool.and_true, Bool.and_true]
  have hl : s.length ≤ 120 ∧ dep s ≤ 12 := by
    have h1 := hC.1
    have h2 := hC.2
    unfold whl at h1 h2
    by_cases h0 : p = []
    · rw [if_pos h0] at h1 h2; rw [dep_eq] at h2; exact ⟨h1, h2⟩
    · rw [if_neg h0] at h1 h2
      rw [pcs_append p s h0 hs] at h2
      simp only [List.length_append, List.length_cons] at h1 h2
      rw [dep_eq s] at h2
      exact ⟨by omega, by omega⟩
  have okr : okP (rep1 s) = (pcs (rep1 s)).all okC := by
    unfold okP
    rw [rep1_length, dep_rep1, decide_eq_true hl.1, decide_eq_true hl.2]; rfl
  rw [okr]
  have pr : pcs (rep1 s) = sp (rep1 s) := by unfold pcs; rw [if_neg hs']
  rw [pr]
  by_cases hc : s.count 47 = 0
  · have hb : base s = s := base_none hc
    rw [hb] at h42 ⊢
    rw [sp_none (by rw [rep1_count]; exact hc), base_none (by rw [rep1_count]; exact hc), rep1_name h42]
    simp only [decide_true, Bool.true_or, Bool.true_and, List.all_cons, List.all_nil, Bool.and_true, Bool.not_false, if_true]
    rw [okC_rep1 h42, show okP [] = true by decide, Bool.and_true]
  · have h0 : 0 ≤ lst s := lst_some s (by omega)
    have hcut := lst_cut s h0
    obtain ⟨d, hd⟩ : ∃ d, s.take (lst s).toNat = d := ⟨_, rfl⟩
    obtain ⟨b, hb⟩ : ∃ b, s.drop (lst s + 1).toNat = b := ⟨_, rfl⟩
    have hbase : base s = b := hb
    have hdir : dir s = d := by unfold dir; rw [if_neg (by omega)]; exact hd
    rw [hd, hb] at hcut
    have hb0 : b.count 47 = 0 := by
      by_cases e : b.count 47 = 0
      · exact e
      · have h1 := lst_some b (by omega)
        have h2 := lst_app d b
        rw [← hcut] at h2
        have h3 : d.length = (lst s).toNat := by
          rw [← hd, List.length_take]
          have := lst_lt s; omega
        omega
    have hne : ¬ base s = s := by
      rw [hbase]; intro e
      have := congrArg List.length e
      rw [hcut] at this; simp at this; omega
    rw [decide_eq_false hne, if_neg hne, hdir, hbase, Bool.false_or]
    rw [hbase] at h42
    by_cases hd42 : (42 : UInt8) ∈ d
    · have e2 : rep1 s = rep1 d ++ 47 :: b := by
        rw [hcut, rep1_app, if_pos hd42]
      rw [e2, sp_append, List.all_append, sp_none hb0]
      have e3 : okP d = false := by
        by_cases hdo : okP d = true
        · exfalso
          have hdn : d ≠ [] := by rintro rfl; simp at hd42
          have ha := okP_all hdo
          unfold pcs at ha
          rw [if_neg hdn] at ha
          rcases sp_mem d 42 hd42 with h1 | ⟨q, hq, h2⟩
          · exact absurd h1 (by decide)
          · have := List.all_eq_true.1 ha q hq
            rw [okC_star h2] at this; cases this
        · simpa using hdo
      rw [e3]
      simp [okC_star h42]
    · have e2 : rep1 s = d ++ 47 :: rep1 b := by
        rw [hcut, rep1_app, if_neg hd42]
        congr 1
      have rb0 : (rep1 b).count 47 = 0 := by rw [rep1_count]; exact hb0
      rw [e2, sp_append, List.all_append, sp_none rb0, base_app, base_none rb0, rep1_name h42]
      simp only [List.all_cons, List.all_nil, Bool.and_true, Bool.not_false]
      rw [okC_rep1 h42]
      by_cases hdn : d = []
      · subst hdn
        have : (sp []).all okC = false := by decide
        rw [this]; simp
      · rw [decide_eq_false hdn]
        have hld : d.length ≤ 120 ∧ dep d ≤ 12 := by
          have h1 := hl.1
          have h2 := hl.2
          rw [hcut] at h1 h2
          simp only [List.length_append, List.length_cons] at h1
          refine ⟨by omega, ?_⟩
          unfold dep at h2 ⊢
          rw [if_neg (by simp)] at h2
          rw [if_neg hdn]
          simp only [List.count_append, List.count_cons] at h2
          omega
        have : okP d = (sp d).all okC := by
          unfold okP pcs
          rw [decide_eq_true hld.1, decide_eq_true hld.2, if_neg hdn]; rfl
        rw [this]
        cases (sp d).all okC <;> simp
theorem src_eq (p s : List UInt8) (hp : okP p = true) (hs : s ≠ []) : rSrc p s = srcW p s := by
  unfold rSrc srcW
  rw [← glb_eq p s hp, decide_eq_false hs]
  unfold lit
  rw [Bool.or_comm]; simp
end Go.Proofs.YtemoplpfndnklaaGreatDoor
