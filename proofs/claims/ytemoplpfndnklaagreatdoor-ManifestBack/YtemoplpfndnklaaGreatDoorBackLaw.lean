/-
  The law ManifestBack.
-/
import Derived.Test.YtemoplpfndnklaaGreatDoorJCutg
import Derived.Test.YtemoplpfndnklaaGreatDoorJShf
import Derived.Deep.DeepCutAuto
namespace Go.Proofs.YtemoplpfndnklaaGreatDoor
open Go.RowKit

def szOf : Value → Nat
  | .string b => b.size
  | _ => 0
def Cbk : List UInt8 := [123, 91, 116, 97, 114, 103, 101, 116, 32, 0, 59]
theorem hdb_tab (c : List UInt8) (k : Nat) : bs (hdb c k) ++ ByteArray.mk #[9] = bs (hdb c (k + 1)) := by
  show bs (hdb c k) ++ bs [9] = _
  rw [bs_app]; congr 1
  simp [hdb, List.replicate_succ']
theorem cbk_ok (q : Nat) : ∀ x ∈ Cbk.take q, x ≠ 10 := fun x hx => by
  have h := List.mem_of_mem_take hx
  have key : ∀ y ∈ Cbk, y ≠ 10 := by decide
  exact key x h
theorem prM_fine {p : List UInt8} {l : List Tg} (h : (prM p l).2 = 0) : (prM p l).1 = wrt l ∧ prsM p (wrt l) = (l, -1) ∧ okP p = true := by
  unfold prM at h ⊢
  split at h
  · rename_i h1
    split at h
    · rename_i h2
      rw [if_pos h1, if_pos h2]
      exact ⟨rfl, Prod.ext h2.2 h2.1, h1⟩
    · cases h
  · cases h
/-- what is known of Parse's answer with blanks and a comment ahead -/
theorem ahead_bad {p s h : List UInt8} (hp : okP p = false) : prsM p (h ++ s) = ([], 0) := by unfold prsM; rw [hp]; rfl

set_option maxRecDepth 100000 in
set_option maxHeartbeats 16000000 in
theorem backB {w : World} (p s : List UInt8) (z : Int) (E : Ev w) (hp : p.length ≤ 1125899906842624) (hs : s.length ≤ 140737488355328) (hcase : 0 ≤ (prsM p s).2) :
    Calls Tryz.prog 3 #[.string (bs p), .string (bs s), .int .i64 z] w fun e w' => e = .returned (.bool true) ∧ Below w.heap.size w w' := by
  obtain ⟨r, hr⟩ : ∃ r, Int.tmod z 40 = r := ⟨_, rfl⟩
  have r1 : -40 < r := by rw [← hr]; have := Int.lt_tmod_of_pos z (b := 40) (by decide); omega
  have r2 : r < 40 := by rw [← hr]; exact Int.tmod_lt_of_pos z (by decide)
  have HP : Hid (∀ (W : World) (t : List UInt8), Ev W → t.length ≤ 1125899906842624 → Calls Tryz.prog 8 #[.string (bs p), .string (bs t)] W (LsP W (prsM p t))) := fun W t hW ht => parse_any p t hW hp ht
  have HN : Hid ((prsM p []).1 = [] ∧ (prsM p []).2 = if okP p = true then -1 else 0) := prsM_nil p
  have hhi := prsM_hi p s
  have h64 := (prsM_64 p s).2
  have HSm : Hid (GSm (prsM p s).1) := prsM_sm p s
  have HSame : Hid (∀ (W : World) (u v : Value) (A : List Tg), GSm A → GR W u A → GR W v A → Calls Tryz.prog 10 #[u, v] W fun e w' => e = .returned (.bool true) ∧ Below W.heap.size W w') := fun W u v A hA hu hv => by
    have h := same_any hu hv hA hA
    rw [decide_eq_true (rfl : A = A)] at h
    exact h.mono fun e w' ⟨h1, n, h2⟩ => ⟨h1, by rw [h2]; exact bd _ _⟩
  have HSh : Hid (∀ (c : List UInt8) (k : Nat), (∀ x ∈ c, x ≠ 10) → (hdb c k).length + s.length ≤ 4096 → prsM p (hdb c k ++ s) = ([], if okP p = true then (prsM p s).2 + (hdb c k).length else 0)) := fun c k hc hl => by
    have h1 : (prsM p s).1 = [] := by rcases prsM_range p s with h | h; omega; exact h.2
    cases hok : okP p
    · rw [ahead_bad hok]; rfl
    · rw [prsM_shift hok hc hl, h1, if_pos rfl]
      simp only [shE]
      rw [if_neg (by omega)]
  have h1 : (prsM p s).1 = [] := by rcases prsM_range p s with h | h; omega; exact h.2
  obtain ⟨R, hR⟩ : ∃ R, prsM p s = R := ⟨_, rfl⟩
  have HP1 := HP.out w s E (by omega)
  rw [hR] at HSh HSm hhi h64 HP1 hcase h1
  obtain ⟨l, Ra⟩ := R
  simp only at HSh HSm hhi h64 HP1 hcase h1
  subst h1
  have HP1 : Hid (Calls Tryz.prog 8 #[.string (bs p), .string (bs s)] w (LsP w ([], Ra))) := HP1
  have HEv : Hid (Ev w) := E
  have hzs : (bs s).size = s.length := rfl
  have d1 : decide (Ra < -1) = false := decide_eq_false (by omega)
  have d2 : decide ((s.length : Int) < Ra) = false := decide_eq_false (by omega)
  have d3 : decide (0 ≤ Ra) = true := by simpa using hcase
  have d4 : decide (Ra < 0) = false := by simpa using hcase
  have hRs : Ra ≤ 140737488355328 := by omega
  clear hR E hp h64 hhi
  go_enter Tryz.func3, Tryz.ntmps3
  go_wp2_with fail
  refine HP1.out.mono ?_
  rintro e w1 ⟨v1, rfl, hg1, hb1⟩
  obtain ⟨a1, c1, hv1⟩ := hg1.read.len
  have HX : Hid (∀ W : World, Below w1.heap.size w1 W → Ev W ∧ GR W v1 [] ∧ Below w.heap.size w W) := fun W hW => ⟨HEv.out.later (bstep hb1 hW), hg1.read.later hW, bstep hb1 hW⟩
  have B1 : Hid (Below w1.heap.size w1 w1) := Below.refl _ _
  clear hb1 hg1 HP1 HEv
  subst hv1
  go_wp2_with fail
  refine (known_any (HX.out _ B1.out).1).mono ?_
  rintro e w2 ⟨rfl, hb2⟩
  have B2 : Hid (Below w1.heap.size w1 w2) := bstep B1.out hb2
  clear hb2 B1
  go_upto_if 60 with fail
  go_cut [9] (fun x wc => wc = w2 ∧ ∃ m : Nat, m < 40 ∧ x = .int .i64 m)
  case first =>
    by_cases hneg : r < 0
    · have e1 : decide (r < 0) = true := by simpa using hneg
      go_wp2_with fail
      go_meet
      exact ⟨rfl, (-r).toNat, by omega, by rw [Int.toNat_of_nonneg (by omega)]⟩
    · have e1 : decide (r < 0) = false := by simpa using hneg
      go_wp2_with fail
      go_meet
      exact ⟨rfl, r.toNat, by omega, by rw [Int.toNat_of_nonneg (by omega)]⟩
  case rest =>
  obtain ⟨rfl, m, hm, rfl⟩ := hcut
  clear hr r1 r2
  obtain ⟨q, hq⟩ : ∃ q : Nat, Int.tmod (m : Int) 12 = (q : Int) := ⟨(Int.tmod (m : Int) 12).toNat, by have := Int.tmod_nonneg 12 (a := (m : Int)) (by omega); omega⟩
  have q1 : (q : Int) < 12 := by rw [← hq]; exact Int.tmod_lt_of_pos _ (by decide)
  have q0 : (0 : Int) ≤ q := by omega
  have q2 : (q : Int) ≤ 11 := by omega
  have m1 : (0 : Int) ≤ m := by omega
  have m2 : (m : Int) < 40 := by omega
  have HC : Hid (ByteArray.mk #[35] ++ (ByteArray.mk #[123, 91, 116, 97, 114, 103, 101, 116, 32, 0, 59]).extract 0 q ++ ByteArray.mk #[10] = bs (hdb (Cbk.take q) 0)) := by
    show bs [35] ++ (bs Cbk).extract 0 q ++ bs [10] = _
    rw [bs_extract, bs_app, bs_app]; rfl
  have HC10 : Hid (∀ x ∈ Cbk.take q, x ≠ 10) := cbk_ok q
  have hcl : (Cbk.take q).length ≤ 11 := by simp [Cbk]; omega
  go_wp2_with fail
  rw [HC.out]
  generalize Cbk.take q = c at *
  go_loopw [10] (fun x wr => wr = wc ∧ ∃ k : Nat, k ≤ 40 ∧ x = .string (bs (hdb c k))) (fun x _ => 100 - szOf x)
  case atStart => exact ⟨rfl, 0, by omega, rfl⟩
  case round =>
    obtain ⟨rfl, k, hk, rfl⟩ := hrel
    have hl1 := hdb_len c k
    have hz1 : (bs (hdb c k)).size = (hdb c k).length := rfl
    by_cases hlt : ((hdb c k).length : Int) < (m : Int)
    · have e1 : decide (((hdb c k).length : Int) < (m : Int)) = true := by simpa using hlt
      have HT : Hid (bs (hdb c k) ++ ByteArray.mk #[9] = bs (hdb c (k + 1))) := hdb_tab c k
      go_wp2_with fail
      rw [HT.out]
      go_roundw
      case rel => exact ⟨trivial, k + 1, by omega, rfl⟩
      case measure => simp only [szOf]; have := hdb_len c (k + 1); have hz2 : (bs (hdb c (k + 1))).size = (hdb c (k + 1)).length := rfl; omega
    have e1 : decide (((hdb c k).length : Int) < (m : Int)) = false := by simpa using hlt
    have HSk := HSh.out c k HC10.out
    have hH : (hdb c k).length ≤ 53 := by omega
    obtain ⟨H, hHe⟩ : ∃ H, hdb c k = H := ⟨_, rfl⟩
    rw [hHe] at hz1 e1 hlt hH HSk ⊢
    have HSk : Hid _ := HSk
    clear hHe hl1 HC HSh HC10 hcl
    go_upto_if 79 with fail

    go_cut [11, 12, 13, 14] (fun _ _ _ _ wc => Below w1.heap.size w1 wc)
    case first =>
      by_cases hsh : (H.length : Int) + (s.length : Int) ≤ 4096
      rotate_left
      · have e2 : decide ((H.length : Int) + (s.length : Int) ≤ 4096) = false := by simpa using hsh
        go_wp2_with fail
        go_meet
        exact B2.out
      have e2 : decide ((H.length : Int) + (s.length : Int) ≤ 4096) = true := by simpa using hsh
      have HA : Hid (bs H ++ bs s = bs (H ++ s)) := bs_app _ _
      have HPs : Hid (Calls Tryz.prog 8 #[.string (bs p), .string (bs (H ++ s))] wr (LsP wr (prsM p (H ++ s)))) := HP.out _ _ (HX.out _ B2.out).1 (by simp; omega)
      rw [HSk.out (by omega)] at HPs
      cases hok : okP p
      · have HNo : Hid ((prsM p []).2 = 0) := by have := HN.out.2; rw [hok] at this; exact this
        rw [hok] at HPs
        go_wp2_with fail
        rw [HA.out]
        refine HPs.out.mono ?_
        rintro e w3 ⟨v3, rfl, hg3, hb3⟩
        have B3 : Hid (Below w1.heap.size w1 w3 ∧ GR w3 v3 []) := ⟨bstep B2.out hb3, hg3.read⟩
        clear hb3 hg3
        go_wp2_with fail
        refine (HP.out _ [] (HX.out _ B3.out.1).1 (by simp)).mono ?_
        rintro e w4 ⟨v4, rfl, _, hb4⟩
        rw [HNo.out]
        have B4 : Hid (Below w1.heap.size w1 w4 ∧ GR w4 v3 []) := ⟨bstep B3.out.1 hb4, B3.out.2.later hb4⟩
        clear hb4
        go_wp2_with fail
        refine (HSame.out _ _ _ [] HSm.out (HX.out _ B4.out.1).2.1 B4.out.2).mono ?_
        rintro e w5 ⟨rfl, hb5⟩
        have B5 : Hid (Below w1.heap.size w1 w5) := bstep B4.out.1 hb5
        clear hb5
        go_wp2_with fail
        go_meet
        exact B5.out
      · have HNo : Hid ((prsM p []).2 = -1) := by have := HN.out.2; rw [hok] at this; exact this
        rw [hok, if_pos rfl] at HPs
        have e3 : decide (Ra + (H.length : Int) < 0) = false := by simp; omega
        have e4 : IntKind.i64.wrap (Ra + (H.length : Int)) = Ra + (H.length : Int) := by rw [IntKind.wrap_i64]; omega
        have e5 : ((Ra + (H.length : Int)) != (Ra + (H.length : Int))) = false := by simp
        go_wp2_with fail
        rw [HA.out]
        refine HPs.out.mono ?_
        rintro e w3 ⟨v3, rfl, hg3, hb3⟩
        have B3 : Hid (Below w1.heap.size w1 w3 ∧ GR w3 v3 []) := ⟨bstep B2.out hb3, hg3.read⟩
        clear hb3 hg3
        go_wp2_with fail
        refine (HP.out _ [] (HX.out _ B3.out.1).1 (by simp)).mono ?_
        rintro e w4 ⟨v4, rfl, _, hb4⟩
        rw [HNo.out]
        have B4 : Hid (Below w1.heap.size w1 w4 ∧ GR w4 v3 []) := ⟨bstep B3.out.1 hb4, B3.out.2.later hb4⟩
        clear hb4
        go_wp2_with fail
        refine (HSame.out _ _ _ [] HSm.out (HX.out _ B4.out.1).2.1 B4.out.2).mono ?_
        rintro e w5 ⟨rfl, hb5⟩
        have B5 : Hid (Below w1.heap.size w1 w5) := bstep B4.out.1 hb5
        clear hb5
        go_wp2_with fail
        go_meet
        exact B5.out
    case rest =>
    have B3 : Hid (Below w1.heap.size w1 wc) := hcut
    clear hcut B2 HSk HN
    go_wp2_with fail
    go_ret
    exact ⟨rfl, (HX.out _ B3.out).2.2⟩

set_option maxRecDepth 100000 in
set_option maxHeartbeats 16000000 in
theorem backA {w : World} (p s : List UInt8) (z : Int) (E : Ev w) (hp : p.length ≤ 1125899906842624) (hs : s.length ≤ 140737488355328) (hcase : (prsM p s).2 = -1) :
    Calls Tryz.prog 3 #[.string (bs p), .string (bs s), .int .i64 z] w fun e w' => e = .returned (.bool true) ∧ Below w.heap.size w w' := by
  obtain ⟨r, hr⟩ : ∃ r, Int.tmod z 40 = r := ⟨_, rfl⟩
  have r1 : -40 < r := by rw [← hr]; have := Int.lt_tmod_of_pos z (b := 40) (by decide); omega
  have r2 : r < 40 := by rw [← hr]; exact Int.tmod_lt_of_pos z (by decide)
  have HP : Hid (∀ (W : World) (t : List UInt8), Ev W → t.length ≤ 1125899906842624 → Calls Tryz.prog 8 #[.string (bs p), .string (bs t)] W (LsP W (prsM p t))) := fun W t hW ht => parse_any p t hW hp ht
  have HN : Hid ((prsM p []).1 = [] ∧ (prsM p []).2 = if okP p = true then -1 else 0) := prsM_nil p
  have hhi := prsM_hi p s
  have h64 := (prsM_64 p s).2
  have HSm : Hid (GSm (prsM p s).1) := prsM_sm p s
  have HSame : Hid (∀ (W : World) (u v : Value) (A : List Tg), GSm A → GR W u A → GR W v A → Calls Tryz.prog 10 #[u, v] W fun e w' => e = .returned (.bool true) ∧ Below W.heap.size W w') := fun W u v A hA hu hv => by
    have h := same_any hu hv hA hA
    rw [decide_eq_true (rfl : A = A)] at h
    exact h.mono fun e w' ⟨h1, n, h2⟩ => ⟨h1, by rw [h2]; exact bd _ _⟩
  have HSh : Hid (∀ (c : List UInt8) (k : Nat), (∀ x ∈ c, x ≠ 10) → (hdb c k).length + s.length ≤ 4096 → prsM p (hdb c k ++ s) = ((prsM p s).1, -1)) := fun c k hc hl => by
    rw [prsM_shift (prsM_ok hcase) hc hl, hcase]; rfl
  have HGL : Hid (GL p (prsM p s).1 ∧ okP p = true) := ⟨prsM_good hcase, prsM_ok hcase⟩
  have HPr : Hid (∀ (W : World) (v : Value) (l : List Tg), Ev W → GR W v l → GL p l → Calls Tryz.prog 11 #[.string (bs p), v] W fun e w' => e = .returned (.tuple #[.string (bs (prM p l).1), .int .i64 (prM p l).2]) ∧ Below W.heap.size W w') := fun W v l hW hv hl => print_any p hW hv hl.wm hp
  have HNo : Hid ((prsM p []).2 = -1) := by have := HN.out.2; rw [if_pos (prsM_ok hcase)] at this; exact this
  obtain ⟨R, hR⟩ : ∃ R, prsM p s = R := ⟨_, rfl⟩
  have HP1 := HP.out w s E (by omega)
  rw [hR] at HSh HSm hhi h64 HP1 hcase HGL
  obtain ⟨l, Ra⟩ := R
  simp only at HSh HSm hhi h64 HP1 hcase HGL
  subst hcase
  have HP1 : Hid (Calls Tryz.prog 8 #[.string (bs p), .string (bs s)] w (LsP w (l, -1))) := HP1
  have HEv : Hid (Ev w) := E
  have hzs : (bs s).size = s.length := rfl
  have d1 : decide ((-1 : Int) < -1) = false := decide_eq_false (by omega)
  have d2 : decide ((s.length : Int) < (-1 : Int)) = false := decide_eq_false (by omega)
  clear hR E hp h64 hhi
  go_enter Tryz.func3, Tryz.ntmps3
  go_wp2_with fail
  refine HP1.out.mono ?_
  rintro e w1 ⟨v1, rfl, hg1, hb1⟩
  obtain ⟨a1, c1, hv1⟩ := hg1.read.len
  have HX : Hid (∀ W : World, Below w1.heap.size w1 W → Ev W ∧ GR W v1 l ∧ Below w.heap.size w W) := fun W hW => ⟨HEv.out.later (bstep hb1 hW), hg1.read.later hW, bstep hb1 hW⟩
  have B1 : Hid (Below w1.heap.size w1 w1) := Below.refl _ _
  clear hb1 hg1 HP1 HEv
  have d5 : decide ((64 : Int) < (l.length : Int)) = false := by have := HGL.out.1.len; simp; omega
  subst hv1
  go_wp2_with fail
  refine (known_any (HX.out _ B1.out).1).mono ?_
  rintro e w2 ⟨rfl, hb2⟩
  have B2 : Hid (Below w1.heap.size w1 w2) := bstep B1.out hb2
  clear hb2 B1
  go_upto_if 60 with fail
  go_cut [9] (fun x wc => wc = w2 ∧ ∃ m : Nat, m < 40 ∧ x = .int .i64 m)
  case first =>
    by_cases hneg : r < 0
    · have e1 : decide (r < 0) = true := by simpa using hneg
      go_wp2_with fail
      go_meet
      exact ⟨rfl, (-r).toNat, by omega, by rw [Int.toNat_of_nonneg (by omega)]⟩
    · have e1 : decide (r < 0) = false := by simpa using hneg
      go_wp2_with fail
      go_meet
      exact ⟨rfl, r.toNat, by omega, by rw [Int.toNat_of_nonneg (by omega)]⟩
  case rest =>
  obtain ⟨rfl, m, hm, rfl⟩ := hcut
  clear hr r1 r2
  obtain ⟨q, hq⟩ : ∃ q : Nat, Int.tmod (m : Int) 12 = (q : Int) := ⟨(Int.tmod (m : Int) 12).toNat, by have := Int.tmod_nonneg 12 (a := (m : Int)) (by omega); omega⟩
  have q1 : (q : Int) < 12 := by rw [← hq]; exact Int.tmod_lt_of_pos _ (by decide)
  have q0 : (0 : Int) ≤ q := by omega
  have q2 : (q : Int) ≤ 11 := by omega
  have m1 : (0 : Int) ≤ m := by omega
  have m2 : (m : Int) < 40 := by omega
  have HC : Hid (ByteArray.mk #[35] ++ (ByteArray.mk #[123, 91, 116, 97, 114, 103, 101, 116, 32, 0, 59]).extract 0 q ++ ByteArray.mk #[10] = bs (hdb (Cbk.take q) 0)) := by
    show bs [35] ++ (bs Cbk).extract 0 q ++ bs [10] = _
    rw [bs_extract, bs_app, bs_app]; rfl
  have HC10 : Hid (∀ x ∈ Cbk.take q, x ≠ 10) := cbk_ok q
  have hcl : (Cbk.take q).length ≤ 11 := by simp [Cbk]; omega
  go_wp2_with fail
  rw [HC.out]
  generalize Cbk.take q = c at *
  go_loopw [10] (fun x wr => wr = wc ∧ ∃ k : Nat, k ≤ 40 ∧ x = .string (bs (hdb c k))) (fun x _ => 100 - szOf x)
  case atStart => exact ⟨rfl, 0, by omega, rfl⟩
  case round =>
    obtain ⟨rfl, k, hk, rfl⟩ := hrel
    have hl1 := hdb_len c k
    have hz1 : (bs (hdb c k)).size = (hdb c k).length := rfl
    by_cases hlt : ((hdb c k).length : Int) < (m : Int)
    · have e1 : decide (((hdb c k).length : Int) < (m : Int)) = true := by simpa using hlt
      have HT : Hid (bs (hdb c k) ++ ByteArray.mk #[9] = bs (hdb c (k + 1))) := hdb_tab c k
      go_wp2_with fail
      rw [HT.out]
      go_roundw
      case rel => exact ⟨trivial, k + 1, by omega, rfl⟩
      case measure => simp only [szOf]; have := hdb_len c (k + 1); have hz2 : (bs (hdb c (k + 1))).size = (hdb c (k + 1)).length := rfl; omega
    have e1 : decide (((hdb c k).length : Int) < (m : Int)) = false := by simpa using hlt
    have HSk := HSh.out c k HC10.out
    have hH : (hdb c k).length ≤ 53 := by omega
    obtain ⟨H, hHe⟩ : ∃ H, hdb c k = H := ⟨_, rfl⟩
    rw [hHe] at hz1 e1 hlt hH HSk ⊢
    have HSk : Hid _ := HSk
    clear hHe hl1 HC HSh HC10 hcl
    go_upto_if 79 with fail

    go_cut [11, 12, 13, 14] (fun _ _ _ _ wc => Below w1.heap.size w1 wc)
    case first =>
      by_cases hsh : (H.length : Int) + (s.length : Int) ≤ 4096
      rotate_left
      · have e2 : decide ((H.length : Int) + (s.length : Int) ≤ 4096) = false := by simpa using hsh
        go_wp2_with fail
        go_meet
        exact B2.out
      have e2 : decide ((H.length : Int) + (s.length : Int) ≤ 4096) = true := by simpa using hsh
      have HA : Hid (bs H ++ bs s = bs (H ++ s)) := bs_app _ _
      have HPs : Hid (Calls Tryz.prog 8 #[.string (bs p), .string (bs (H ++ s))] wr (LsP wr (prsM p (H ++ s)))) := HP.out _ _ (HX.out _ B2.out).1 (by simp; omega)
      rw [HSk.out (by omega)] at HPs
      go_wp2_with fail
      rw [HA.out]
      refine HPs.out.mono ?_
      rintro e w3 ⟨v3, rfl, hg3, hb3⟩
      have B3 : Hid (Below w1.heap.size w1 w3 ∧ GR w3 v3 l) := ⟨bstep B2.out hb3, hg3.read⟩
      clear hb3 hg3
      go_wp2_with fail
      refine (HP.out _ [] (HX.out _ B3.out.1).1 (by simp)).mono ?_
      rintro e w4 ⟨v4, rfl, _, hb4⟩
      rw [HNo.out]
      have B4 : Hid (Below w1.heap.size w1 w4 ∧ GR w4 v3 l) := ⟨bstep B3.out.1 hb4, B3.out.2.later hb4⟩
      clear hb4
      go_wp2_with fail
      refine (HSame.out _ _ _ l HSm.out (HX.out _ B4.out.1).2.1 B4.out.2).mono ?_
      rintro e w5 ⟨rfl, hb5⟩
      have B5 : Hid (Below w1.heap.size w1 w5) := bstep B4.out.1 hb5
      clear hb5
      go_wp2_with fail
      go_meet
      exact B5.out
    case rest =>
    have B3 : Hid (Below w1.heap.size w1 wc) := hcut
    clear hcut B2 HSk HN
    go_wp2_with fail
    refine (HPr.out _ _ l (HX.out _ B3.out).1 (HX.out _ B3.out).2.1 HGL.out.1).mono ?_
    rintro e w4 ⟨rfl, hb4⟩
    have B4 : Hid (Below w1.heap.size w1 w4) := bstep B3.out hb4
    clear hb4 B3
    by_cases hz : (prM p l).2 = 0
    rotate_left
    · rw [prM_long HGL.out.2 hz]
      have en : (bs ([] : List UInt8)).size = 0 := rfl
      go_wp2_with fail
      go_ret
      exact ⟨rfl, (HX.out _ B4.out).2.2⟩
    obtain ⟨hT1, hT2, _⟩ := prM_fine hz
    have HT4 : Hid ((wrt l).length ≤ 4096) := prsM_short (by rw [hT2])
    have HPl : Hid (prM p l = (wrt l, 0)) := Prod.ext hT1 hz
    rw [hT1, hz]
    have HTa : Hid (∀ k, k ≤ l.length → wrt (l.take k) ++ wrt (l.drop k) = wrt l) := fun k _ => by rw [← wrt_app, List.take_append_drop]
    have HPa : Hid (∀ k, prM p (l.take k) = (wrt (l.take k), 0) ∧ prM p (l.drop k) = (wrt (l.drop k), 0) ∧ prsM p (wrt (l.drop k)) = (l.drop k, -1) ∧ (wrt (l.drop k)).length ≤ 4096) := fun k => by
      have h1 : (wrt (l.take k)).length + (wrt (l.drop k)).length = (wrt l).length := by rw [← List.length_append, ← wrt_app, List.take_append_drop]
      have h2 := HT4.out
      have g1 := HGL.out.1.sub (List.take_sublist k l)
      have g2 := HGL.out.1.sub (List.drop_sublist k l)
      exact ⟨prM_wrt HGL.out.2 g1 (by omega), prM_wrt HGL.out.2 g2 (by omega), prsM_wrt HGL.out.2 g2 (by omega), by omega⟩
    have HT2 : Hid (prsM p (wrt l) = (l, -1)) := hT2
    obtain ⟨T, hT⟩ : ∃ T, wrt l = T := ⟨_, rfl⟩
    rw [hT] at HT2 HPl HTa HT4 ⊢
    have hT4 : T.length ≤ 4096 := HT4.out
    have hzT : (bs T).size = T.length := rfl
    have f1 : decide ((4096 : Int) < (T.length : Int)) = false := by simp; omega
    have f2 := bs_toList T
    clear hz hT1 hT2 hT HT4
    go_wp2_with fail
    refine (HP.out _ T (HX.out _ B4.out).1 (by omega)).mono ?_
    rintro e w5 ⟨v5, he5, hg5, hb5⟩
    rw [HT2.out] at he5 hg5
    subst he5
    have B5 : Hid (Below w1.heap.size w1 w5 ∧ GR w5 v5 l) := ⟨bstep B4.out hb5, hg5.read⟩
    clear hb5 hg5
    go_wp2_with fail
    refine (HPr.out _ _ l (HX.out _ B5.out.1).1 B5.out.2 HGL.out.1).mono ?_
    rintro e w6 ⟨rfl, hb6⟩
    rw [HPl.out]
    have B6 : Hid (Below w1.heap.size w1 w6 ∧ GR w6 v5 l) := ⟨bstep B5.out.1 hb6, B5.out.2.later hb6⟩
    clear hb6 B5
    go_wp2_with fail
    refine (HSame.out _ _ _ l HSm.out (HX.out _ B6.out.1).2.1 B6.out.2).mono ?_
    rintro e w7 ⟨rfl, hb7⟩
    have B7 : Hid (Below w1.heap.size w1 w7) := bstep B6.out.1 hb7
    clear hb7 B6
    go_wp2_with fail
    go_loopw [20] (fun i wr => ∃ k : Nat, k ≤ l.length ∧ i = .int .i64 k ∧ Below w1.heap.size w1 wr) (fun i _ => l.length - (intOf i).toNat)
    case atStart => exact ⟨0, Nat.zero_le _, rfl, B7.out⟩
    case round =>
      obtain ⟨k, hk, rfl, hbk⟩ := hrel
      have Bk : Hid (Below w1.heap.size w1 wr) := hbk
      clear hbk
      by_cases hlt : k < l.length
      · obtain ⟨b, o, cc, hvv, hcc⟩ := (HX.out _ Bk.out).2.1.cap (by intro e; rw [e] at hlt; simp at hlt)
        injection hvv with hv1 _ hv3
        subst hv1 hv3
        have l64 := HGL.out.1.len
        have k0 : (0 : Int) ≤ (k : Int) := by omega
        have k1 : (k : Int) < (l.length : Int) := by omega
        have k2 : (k : Int) ≤ (c1 : Int) := by omega
        have k3 : (k : Int) ≤ (l.length : Int) := by omega
        have k4 : (l.length : Int) ≤ (c1 : Int) := by omega
        have k5 : ¬ c1 = k := by omega
        have hk' : k ≤ l.length := by omega
        obtain ⟨A, hA⟩ : ∃ A, wrt (l.take k) = A := ⟨_, rfl⟩
        obtain ⟨B, hB⟩ : ∃ B, wrt (l.drop k) = B := ⟨_, rfl⟩
        have hka := HPa.out k
        have hta := HTa.out k hk
        rw [hA, hB] at hta hka
        have HK : Hid (prM p (l.take k) = (A, 0) ∧ prM p (l.drop k) = (B, 0) ∧ prsM p B = (l.drop k, -1) ∧ B.length ≤ 4096) := hka
        have f3 : (bs A ++ bs B).toList = T := by rw [bs_app, bs_toList]; exact hta
        have hAB : A.length + B.length ≤ 4096 := by rw [← List.length_append, hta]; exact hT4
        have hzA : (bs A).size = A.length := rfl
        have hzB : (bs B).size = B.length := rfl
        clear hka hta hA hB
        go_wp2_with fail
        refine (HPr.out _ _ (l.take k) (HX.out _ Bk.out).1 ((HX.out _ Bk.out).2.1.take hk') (HGL.out.1.sub (List.take_sublist k l))).mono ?_
        rintro e w8 ⟨rfl, hb8⟩
        rw [HK.out.1]
        have B8 : Hid (Below w1.heap.size w1 w8) := bstep Bk.out hb8
        clear hb8
        go_wp2_with fail
        refine (HPr.out _ _ (l.drop k) (HX.out _ B8.out).1 ((HX.out _ B8.out).2.1.drop hlt) (HGL.out.1.sub (List.drop_sublist k l))).mono ?_
        rintro e w9 ⟨rfl, hb9⟩
        rw [HK.out.2.1]
        have B9 : Hid (Below w1.heap.size w1 w9) := bstep B8.out hb9
        clear hb9
        go_wp2_with fail
        refine (HP.out _ B (HX.out _ B9.out).1 (by have := HK.out.2.2.2; omega)).mono ?_
        rintro e w10 ⟨v10, he10, hg10, hb10⟩
        rw [HK.out.2.2.1] at he10 hg10
        subst he10
        have B10 : Hid (Below w1.heap.size w1 w10 ∧ GR w10 v10 (l.drop k)) := ⟨bstep B9.out hb10, hg10.read⟩
        have HSd : Hid (GSm (l.drop k)) := (HGL.out.1.sub (List.drop_sublist k l)).wm.gsm
        clear hb10 hg10
        go_wp2_with fail
        refine (HSame.out _ _ _ (l.drop k) HSd.out B10.out.2 ((HX.out _ B10.out.1).2.1.drop hlt)).mono ?_
        rintro e w11 ⟨rfl, hb11⟩
        have B11 : Hid (Below w1.heap.size w1 w11) := bstep B10.out.1 hb11
        clear hb11
        go_wp2_with fail
        go_roundw
        case rel => exact ⟨k + 1, hlt, rfl, B11.out⟩
        case measure => simp only [intOf]; omega
      obtain rfl : k = l.length := by omega
      go_wp2_with fail
      go_ret
      exact ⟨rfl, (HX.out _ Bk.out).2.2⟩

theorem backLaw {w : World} (p s : List UInt8) (z : Int) (E : Ev w) (hp : p.length ≤ 1125899906842624) (hs : s.length ≤ 140737488355328) :
    Calls Tryz.prog 3 #[.string (bs p), .string (bs s), .int .i64 z] w fun e w' => e = .returned (.bool true) ∧ Below w.heap.size w w' := by
  rcases prsM_range p s with h | h
  · exact backA p s z E hp hs h
  · exact backB p s z E hp hs h.1
end Go.Proofs.YtemoplpfndnklaaGreatDoor
