/-
  The document's reader: what is taken; is a text one of a list?
  Every call of labels: the law, walked.
  The document's see words, and who sees.
-/
import Derived.Test.YtddaoloabfkheaaGreatDoorJRxb
import Derived.Test.YtddaoloabfkheaaGreatDoorJRefP
import Derived.Test.YtddaoloabfkheaaGreatDoorJShelf
import Derived.Test.YtddaoloabfkheaaGreatDoorJJoin
namespace Go.Proofs.YtddaoloabfkheaaGreatDoor
open Go.RowKit

theorem Only.dr {S : List Nat} {w : World} (n : Nat) : Only S w (w.drewN n) := Only.drew _ _ _
theorem rset_i {w : World} {g i : Nat} {p : List UInt8} {E bad : Int} {L : List Tk} (h : RX w g p E L i bad) : RX (w.setCell ⟨g, 2, none⟩ (.int .i64 ((i : Int) + 1))) g p E L (i + 1) bad := by
  have := h.set.1 (i + 1)
  simpa using this
set_option maxRecDepth 100000 in
set_option maxHeartbeats 4000000 in
theorem rtake_any {w : World} {g i : Nat} {p : List UInt8} {E q : Int} {L : List Tk} (h : RX w g p E L i (-1)) (hi : i ≤ 1000000) :
    Calls Tryz.prog 80 #[.pointer (some ⟨g, 0, none⟩), .int .i64 q] w fun e w' => e = .returned (.tuple #[]) ∧ ((nx L i q = true ∧ RX w' g p E L (i + 1) (-1)) ∨ (nx L i q = false ∧ RX w' g p E L i (fp L i E))) ∧ Only [g] w w' := by
  have HN : Hid (Calls Tryz.prog 78 #[.pointer (some ⟨g, 0, none⟩), .int .i64 q] w fun e w' => e = .returned (.bool (nx L i q)) ∧ ∃ n, w' = w.drewN n) := rnext_any h
  have HF : Hid (∀ W : World, RX W g p E L i (-1) → Calls Tryz.prog 42 #[.pointer (some ⟨g, 0, none⟩)] W fun e w' => e = .returned (.tuple #[]) ∧ RX w' g p E L i (fp L i E) ∧ Only [g] W w') := fun W hW => rfault_any hW
  have HX : Hid (RX w g p E L i (-1)) := h
  obtain ⟨a, c, c1, c2, c3, c4, f2, f3, f4, _, _⟩ := h.cells
  clear h
  cases hn : nx L i q
  · rw [hn] at HN
    clear hn
    go_enter Tryz.func80, Tryz.ntmps80
    go_wp2_with fail
    refine HN.out.mono ?_
    rintro e w1 ⟨rfl, n, rfl⟩
    go_wp2_with fail
    refine (HF.out _ (HX.out.drew n)).mono ?_
    rintro e w2 ⟨rfl, hx, ho⟩
    have X : Hid (RX w2 g p E L i (fp L i E) ∧ Only [g] w w2) := ⟨hx, (Only.dr n).trans ho⟩
    clear hx ho
    go_wp2_with fail
    refine bodyPost_ret (results_none rfl _ _ _) rfl ?_
    exact ⟨rfl, .inr ⟨by simp, X.out.1⟩, X.out.2⟩
  · rw [hn] at HN
    clear hn
    go_enter Tryz.func80, Tryz.ntmps80
    go_wp2_with fail
    refine HN.out.mono ?_
    rintro e w1 ⟨rfl, n, rfl⟩
    go_wp2_with fail
    exact ⟨rfl, _, results_none rfl _ _ _, rfl, .inl ⟨by simp, rset_i (HX.out.drew n)⟩, (Only.dr n).trans (Only.set _ _ _ _)⟩
set_option maxRecDepth 100000 in
set_option maxHeartbeats 4000000 in
theorem rtake_bad {w : World} {g i : Nat} {p : List UInt8} {E q bad : Int} {L : List Tk} (h : RX w g p E L i bad) (hb : 0 ≤ bad) :
    Calls Tryz.prog 80 #[.pointer (some ⟨g, 0, none⟩), .int .i64 q] w fun e w' => e = .returned (.tuple #[]) ∧ RX w' g p E L i bad ∧ Only [g] w w' := by
  have HN : Hid (Calls Tryz.prog 78 #[.pointer (some ⟨g, 0, none⟩), .int .i64 q] w fun e w' => e = .returned (.bool false) ∧ ∃ n, w' = w.drewN n) := rnext_bad h hb
  have HX : Hid (RX w g p E L i bad) := h
  have HF : Hid (∀ n, Calls Tryz.prog 42 #[.pointer (some ⟨g, 0, none⟩)] (w.drewN n) fun e w' => e = .returned (.tuple #[]) ∧ w' = w.drewN n) := fun n => by
    obtain ⟨a, c, c1, c2, c3, c4, f2, f3, f4, _, _⟩ := (h.drew n).cells
    have d1 : decide (0 ≤ bad) = true := by simpa using hb
    clear h HN HX
    go_enter Tryz.func42, Tryz.ntmps42
    go_wp2_with fail
    refine bodyPost_ret (results_none rfl _ _ _) rfl ?_
    exact ⟨rfl, rfl⟩
  clear h
  go_enter Tryz.func80, Tryz.ntmps80
  go_wp2_with fail
  refine HN.out.mono ?_
  rintro e w1 ⟨rfl, n, rfl⟩
  go_wp2_with fail
  refine (HF.out n).mono ?_
  rintro e w2 ⟨rfl, rfl⟩
  go_wp2_with fail
  refine bodyPost_ret (results_none rfl _ _ _) rfl ?_
  exact ⟨rfl, HX.out.drew n, Only.dr n⟩
set_option maxRecDepth 100000 in
set_option maxHeartbeats 1000000 in
theorem has_any {w : World} {v : Value} {l : List (List UInt8)} (h : SS w v l) (x : List UInt8) (hl : l.length ≤ 1000000000) :
    Calls Tryz.prog 79 #[v, .string (bs x)] w fun e w' => e = .returned (.bool (l.contains x)) ∧ w' = w := by
  obtain ⟨R, hR⟩ : ∃ R, l.contains x = R := ⟨_, rfl⟩
  rw [hR]
  have HR : Hid (l.contains x = R) := hR
  clear hR
  obtain ⟨a, c, rfl, ca⟩ := h.form
  have HC : Hid (∀ k, (hk : k < l.length) → ∃ b off, a = some ⟨b, off, none⟩ ∧ b < w.heap.size ∧ w.cell? ⟨b, off + k, none⟩ = some (.string (bs l[k]))) := ca
  clear ca h
  have ex := bs_toList x
  go_enter Tryz.func79, Tryz.ntmps79
  go_wp2_with fail
  go_loop [5] (fun i => ∃ k : Nat, k ≤ l.length ∧ i = .int .i64 k ∧ (l.take k).contains x = false) (fun i => l.length - (intOf i).toNat)
  case atStart => exact ⟨0, Nat.zero_le _, rfl, by simp⟩
  case round =>
    obtain ⟨k, hk, rfl, hno⟩ := hrel
    have HN : Hid ((l.take k).contains x = false) := hno
    clear hno
    by_cases hlt : k < l.length
    · obtain ⟨b, off, rfl, hb, hc⟩ := HC.out k hlt
      have i1 : (0 : Int) ≤ (k : Int) := by omega
      have i2 : (k : Int) < (l.length : Int) := by omega
      have ek := bs_toList l[k]
      by_cases he : x = l[k]
      · obtain rfl : R = true := by rw [← HR.out, he]; simp
        have e1 : (l[k] == x) = true := by rw [he]; simp
        clear he
        go_wp2_with fail
        go_ret
        exact ⟨rfl, rfl⟩
      · have e1 : (l[k] == x) = false := by rw [beq_eq_false_iff_ne]; exact fun e => he e.symm
        have HT : Hid ((l.take (k + 1)).contains x = false) := by
          show (l.take (k + 1)).contains x = false
          rw [contains_step hlt, HN.out, (by simpa using he : (x == l[k]) = false)]; rfl
        clear he
        go_wp2_with fail
        go_round
        case rel => exact ⟨k + 1, hlt, rfl, HT.out⟩
        case measure => simp only [intOf]; omega
    · obtain rfl : k = l.length := by omega
      obtain rfl : R = false := by
        have := HN.out
        rw [List.take_length, HR.out] at this; exact this
      go_wp2_with fail
      go_ret
      exact ⟨rfl, rfl⟩
end Go.Proofs.YtddaoloabfkheaaGreatDoor

namespace Go.Proofs.YtddaoloabfkheaaGreatDoor
open Go.RowKit

set_option maxRecDepth 100000 in
set_option maxHeartbeats 2000000 in
theorem rin_any (p s : List UInt8) (w : World) (hpl : p.length ≤ 1000000000) (hs : s.length ≤ 1000000000) : Calls Tryz.prog 119 #[.string (bs p), .string (bs s)] w fun e w' => e = .returned (pair (inn p s)) ∧ Below w.heap.size w w' := by
  have HV : Hid (∀ w : World, Calls Tryz.prog 39 #[.string (bs p)] w fun e w' => e = .returned (.bool (okP p)) ∧ Below w.heap.size w w') := fun w => rvalid_any p w hpl
  have HZ : Hid (RB (w.alloc (.cells #[.string (bs []), .string (bs [])] 92)) w.heap.size zl) := RB.new w zl
  have z0 : (bs s).size = s.length := rfl
  unfold inn
  by_cases hv : okP p = true
  rotate_left
  · rw [if_neg hv]
    have hv' : okP p = false := by simpa using hv
    rw [hv'] at HV
    clear hs hpl hv hv'
    go_enter Tryz.func119, Tryz.ntmps119
    go_wp2_with fail
    refine (HV.out _).mono ?_
    rintro e w1 ⟨rfl, hb1⟩
    have Z1 : Hid (RB w1 w.heap.size zl) := HZ.out.later hb1
    have HB : Hid (Below w.heap.size w w1) := bstep (balloc w _) hb1
    clear hb1

    obtain ⟨c0, c1, f0, f1⟩ := Z1.out.cells
    have hlt := Z1.out.lt
    go_wp2_with fail
    refine bodyPost_ret (results_ct rfl _ _ w.heap.size 92 #[.string (bs []), .string (bs [])] (0, 0) _ rfl ?_ Tryz.underlying92 rfl (by kernel_rfl)) rfl ?_
    · exact (Z1.out.set ⟨[], []⟩).blk
    exact ⟨rfl, bset2 HB.out (by omega) _ _⟩

  rw [if_pos hv]
  rw [hv] at HV
  clear hv
  cases s with
  | nil =>
    have hp : List.isPrefixOf [58] ([] : List UInt8) = false := rfl
    rw [if_neg (by rw [hp]; simp)]
    have HK : Hid (∀ w : World, Calls Tryz.prog 82 #[.string (bs [])] w fun e w' => e = .returned (pair (prs [])) ∧ Below w.heap.size w w') := fun w => rparse_any [] w hs
    generalize prs [] = K at *
    obtain ⟨⟨kp, kn⟩, ke⟩ := K
    simp only [pair, Lb.val] at HK ⊢
    have hl0 : ([] : List UInt8).length = 0 := rfl
    clear hs hpl hp
    go_enter Tryz.func119, Tryz.ntmps119
    go_wp2_with fail
    refine (HV.out _).mono ?_
    rintro e w1 ⟨rfl, hb1⟩
    have Z1 : Hid (RB w1 w.heap.size zl) := HZ.out.later hb1
    have HB : Hid (Below w.heap.size w w1) := bstep (balloc w _) hb1
    clear hb1

    go_wp2_with fail
    refine (HK.out _).mono ?_
    rintro e w3 ⟨rfl, hb3⟩
    have Z3 : Hid (RB w3 w.heap.size zl) := Z1.out.later hb3
    have HB3 : Hid (Below w.heap.size w w3) := bstep HB.out hb3
    clear hb3
    obtain ⟨c0, c1, f0, f1⟩ := Z3.out.cells
    have hlt := Z3.out.lt
    go_wp2_with fail
    refine bodyPost_ret (results_ct rfl _ _ w.heap.size 92 #[.string (bs kp), .string (bs kn)] (0, 0) _ rfl ?_ Tryz.underlying92 rfl (by kernel_rfl)) rfl ?_
    · exact (Z3.out.set ⟨kp, kn⟩).blk
    exact ⟨rfl, bset2 HB3.out (by omega) _ _⟩

  | cons c r =>
    have hr9 : r.length ≤ 1000000000 := by simp at hs; omega
    have hlen : (c :: r).length = r.length + 1 := rfl
    have hkz : 0 < (bs (c :: r)).size := by rw [z0]; simp
    have hpos : (0 : Int) < ((c :: r).length : Int) := by rw [hlen]; omega
    by_cases hc : c = 58
    · have hp : List.isPrefixOf [58] (c :: r) = true := by rw [hc]; simp [List.isPrefixOf]
      rw [if_pos hp]
      have e1 : (((bs (c :: r))[0].toNat : Int) == 58) = true := by rw [bs_get _ _ _ (by simp)]; simp [hc]
      simp only [List.drop_succ_cons, List.drop_zero]
      have k1 : (1 : Int) ≤ ((c :: r).length : Int) := by rw [hlen]; omega
      have E1 : (bs (c :: r)).extract 1 (c :: r).length = bs r := extract_from (c :: r) 1
      have HK : Hid (∀ w : World, Calls Tryz.prog 103 #[.agg #[.string (bs p), .string (bs r)]] w fun e w' => e = .returned (.bool (okL ⟨p, r⟩)) ∧ Below w.heap.size w w') := fun w => rlvalid_any ⟨p, r⟩ w ⟨hpl, hr9⟩
      generalize hS : c :: r = S at *
      unfold chk
      clear hs hpl hp hc hr9 hlen hS
      by_cases hok : okL ⟨p, r⟩ = true
      rotate_left
      · rw [if_neg hok]
        have hok' : okL ⟨p, r⟩ = false := by simpa using hok
        rw [hok'] at HK
        clear hok hok'
        go_enter Tryz.func119, Tryz.ntmps119
        go_wp2_with fail
        refine (HV.out _).mono ?_
        rintro e w1 ⟨rfl, hb1⟩
        have Z1 : Hid (RB w1 w.heap.size zl) := HZ.out.later hb1
        have HB : Hid (Below w.heap.size w w1) := bstep (balloc w _) hb1
        clear hb1

        have RN : Hid (RB (w1.alloc (.cells #[.string (bs p), .string (bs r)] 92)) w1.heap.size ⟨p, r⟩) := RB.new w1 ⟨p, r⟩
        have Z2 : Hid (RB (w1.alloc (.cells #[.string (bs p), .string (bs r)] 92)) w.heap.size zl) := Z1.out.later (balloc _ _)
        have HB2 : Hid (Below w.heap.size w (w1.alloc (.cells #[.string (bs p), .string (bs r)] 92))) := bstep HB.out (balloc _ _)
        go_wp2_with fail
        refine (HK.out _).mono ?_
        rintro e w3 ⟨rfl, hb3⟩
        have Z3 : Hid (RB w3 w.heap.size zl) := Z2.out.later hb3
        have HB3 : Hid (Below w.heap.size w w3) := bstep HB2.out hb3
        obtain ⟨d0, d1, _, _⟩ := (RN.out.later hb3).cells
        simp only at d0 d1
        clear hb3

        obtain ⟨c0, c1, f0, f1⟩ := Z3.out.cells
        have hlt := Z3.out.lt
        go_wp2_with fail
        refine bodyPost_ret (results_ct rfl _ _ w.heap.size 92 #[.string (bs []), .string (bs [])] (0, 0) _ rfl ?_ Tryz.underlying92 rfl (by kernel_rfl)) rfl ?_
        · exact (Z3.out.set ⟨[], []⟩).blk
        exact ⟨rfl, bset2 HB3.out (by omega) _ _⟩

      · rw [if_pos hok]
        rw [hok] at HK
        clear hok
        go_enter Tryz.func119, Tryz.ntmps119
        go_wp2_with fail
        refine (HV.out _).mono ?_
        rintro e w1 ⟨rfl, hb1⟩
        have Z1 : Hid (RB w1 w.heap.size zl) := HZ.out.later hb1
        have HB : Hid (Below w.heap.size w w1) := bstep (balloc w _) hb1
        clear hb1

        have RN : Hid (RB (w1.alloc (.cells #[.string (bs p), .string (bs r)] 92)) w1.heap.size ⟨p, r⟩) := RB.new w1 ⟨p, r⟩
        have Z2 : Hid (RB (w1.alloc (.cells #[.string (bs p), .string (bs r)] 92)) w.heap.size zl) := Z1.out.later (balloc _ _)
        have HB2 : Hid (Below w.heap.size w (w1.alloc (.cells #[.string (bs p), .string (bs r)] 92))) := bstep HB.out (balloc _ _)
        go_wp2_with fail
        refine (HK.out _).mono ?_
        rintro e w3 ⟨rfl, hb3⟩
        have Z3 : Hid (RB w3 w.heap.size zl) := Z2.out.later hb3
        have HB3 : Hid (Below w.heap.size w w3) := bstep HB2.out hb3
        obtain ⟨d0, d1, _, _⟩ := (RN.out.later hb3).cells
        simp only at d0 d1
        clear hb3

        obtain ⟨c0, c1, f0, f1⟩ := Z3.out.cells
        have hlt := Z3.out.lt
        go_wp2_with fail
        refine bodyPost_ret (results_ct rfl _ _ w.heap.size 92 #[.string (bs p), .string (bs r)] (0, 0) _ rfl ?_ Tryz.underlying92 rfl (by kernel_rfl)) rfl ?_
        · exact (Z3.out.set ⟨p, r⟩).blk
        exact ⟨rfl, bset2 HB3.out (by omega) _ _⟩

    · have hp : List.isPrefixOf [58] (c :: r) = false := by
        have : (58 == c) = false := by rw [beq_eq_false_iff_ne]; exact fun e => hc e.symm
        simp [List.isPrefixOf, this]
      rw [if_neg (by rw [hp]; simp)]
      have e1 : (((bs (c :: r))[0].toNat : Int) == 58) = false := by
        rw [bs_get _ _ _ (by simp), beq_eq_false_iff_ne]; intro e; apply hc; apply UInt8.toNat_inj.1; exact Int.ofNat.inj e
      have HK : Hid (∀ w : World, Calls Tryz.prog 82 #[.string (bs (c :: r))] w fun e w' => e = .returned (pair (prs (c :: r))) ∧ Below w.heap.size w w') := fun w => rparse_any (c :: r) w hs
      generalize prs (c :: r) = K at *
      obtain ⟨⟨kp, kn⟩, ke⟩ := K
      simp only [pair, Lb.val] at HK ⊢
      generalize hS : c :: r = S at *
      clear hs hpl hp hc hr9 hlen hS
      go_enter Tryz.func119, Tryz.ntmps119
      go_wp2_with fail
      refine (HV.out _).mono ?_
      rintro e w1 ⟨rfl, hb1⟩
      have Z1 : Hid (RB w1 w.heap.size zl) := HZ.out.later hb1
      have HB : Hid (Below w.heap.size w w1) := bstep (balloc w _) hb1
      clear hb1

      go_wp2_with fail
      refine (HK.out _).mono ?_
      rintro e w3 ⟨rfl, hb3⟩
      have Z3 : Hid (RB w3 w.heap.size zl) := Z1.out.later hb3
      have HB3 : Hid (Below w.heap.size w w3) := bstep HB.out hb3
      clear hb3
      obtain ⟨c0, c1, f0, f1⟩ := Z3.out.cells
      have hlt := Z3.out.lt
      go_wp2_with fail
      refine bodyPost_ret (results_ct rfl _ _ w.heap.size 92 #[.string (bs kp), .string (bs kn)] (0, 0) _ rfl ?_ Tryz.underlying92 rfl (by kernel_rfl)) rfl ?_
      · exact (Z3.out.set ⟨kp, kn⟩).blk
      exact ⟨rfl, bset2 HB3.out (by omega) _ _⟩

end Go.Proofs.YtddaoloabfkheaaGreatDoor

namespace Go.Proofs.YtddaoloabfkheaaGreatDoor
open Go.RowKit

def wv (x : Int × List UInt8) : Value := .tuple #[.int .i64 x.1, .string (bs x.2)]
theorem c_ss : (ByteArray.mk #[47, 47]).toList = [47, 47] := ByteArray.toList_mk [47, 47]
theorem c_dots : (ByteArray.mk #[47, 46, 46, 46]).toList = dots := ByteArray.toList_mk dots

set_option maxRecDepth 100000 in
set_option maxHeartbeats 2000000 in
theorem word_any (s : List UInt8) (w : World) (hs : s.length ≤ 1000000000) : Calls Tryz.prog 134 #[.string (bs s)] w fun e w' => e = .returned (wv (wrd s)) ∧ Below w.heap.size w w' := by
  have e0 := bs_toList s
  have e1 := c_pub
  have e2 := c_adots
  have e3 := c_ss
  have e4 := c_dots
  have z0 : (bs s).size = s.length := rfl
  unfold wrd
  by_cases h1 : s = pub
  · have h1' : (s == pub) = true := by simpa using h1
    rw [if_pos (.inl h1)]
    clear h1 hs
    go_enter Tryz.func134, Tryz.ntmps134
    go_wp2_with fail
    go_ret2
    exact ⟨rfl, Below.refl _ _⟩
  have h1' : (s == pub) = false := by simpa using h1
  by_cases h2 : s = adots
  · have h2' : (s == adots) = true := by simpa using h2
    rw [if_pos (.inr h2)]
    clear h1 h2 hs
    go_enter Tryz.func134, Tryz.ntmps134
    go_wp2_with fail
    go_ret2
    exact ⟨rfl, Below.refl _ _⟩
  have h2' : (s == adots) = false := by simpa using h2
  rw [if_neg (by rintro (h | h); exact h1 h; exact h2 h)]
  clear h1 h2
  by_cases h3 : 2 ≤ s.length
  rotate_left
  · have hp : List.isPrefixOf [47, 47] s = false := by
      cases hh : List.isPrefixOf [47, 47] s
      · rfl
      · exact absurd ((take_eq_iff [47, 47] s).2 hh).2 h3
    rw [hp]
    simp only [Bool.false_eq_true, if_false]
    have h3' : (s.length : Int) < 2 := by omega
    clear h3 hp
    go_enter Tryz.func134, Tryz.ntmps134
    go_wp2_with fail
    go_ret2
    exact ⟨rfl, Below.refl _ _⟩
  have h3' : ¬ ((s.length : Int) < 2) := by omega
  have h3'' : (2 : Int) ≤ (s.length : Int) := by omega
  have E : (bs s).extract 0 2 = bs (s.take 2) := extract_to s 2
  have e5 := bs_toList (s.take 2)
  cases hp : List.isPrefixOf [47, 47] s
  · have h4 : (s.take 2 != [47, 47]) = true := by
      cases hh : (s.take 2 != [47, 47])
      · have h5 : s.take 2 = [47, 47] := by simpa using hh
        have := (take_eq_iff [47, 47] s).1 ⟨h5, h3⟩
        rw [this] at hp; cases hp
      · rfl
    have h4' : (s.take 2 == [47, 47]) = false := by simpa using h4
    simp only [Bool.false_eq_true, if_false]
    generalize s.take 2 = u at *
    clear hp h3
    go_enter Tryz.func134, Tryz.ntmps134
    go_wp2_with fail
    go_ret2
    exact ⟨rfl, Below.refl _ _⟩
  have h4 : s.take 2 = [47, 47] := ((take_eq_iff [47, 47] s).2 hp).1
  rw [h4] at E e5
  have e6 : (bs [47, 47]).toList = [47, 47] := bs_toList _
  simp only [if_true]
  obtain ⟨r, hr⟩ : ∃ r, s.drop 2 = r := ⟨_, rfl⟩
  have hrl : r.length ≤ 1000000000 := by rw [← hr]; simp; omega
  have E2 : (bs s).extract 2 s.length = bs r := by rw [← hr]; exact extract_from s 2
  rw [hr]
  have HV : Hid (∀ w : World, Calls Tryz.prog 39 #[.string (bs r)] w fun e w' => e = .returned (.bool (okP r)) ∧ Below w.heap.size w w') := fun w => rvalid_any r w hrl
  have z1 : (bs r).size = r.length := rfl
  clear h4 hp hr h3
  cases hv : okP r
  rotate_left
  · rw [hv] at HV
    simp only [if_true]
    clear hv hrl
    go_enter Tryz.func134, Tryz.ntmps134
    go_wp2_with fail
    refine (HV.out _).mono ?_
    rintro e w1 ⟨rfl, hb1⟩
    have B1 : Hid (Below w.heap.size w w1) := hb1
    clear hb1
    go_wp2_with fail
    go_ret2
    exact ⟨rfl, B1.out⟩
  rw [hv] at HV
  simp only [Bool.false_eq_true, if_false]
  clear hv
  by_cases h5 : 4 < r.length
  rotate_left
  · have h5' : ¬ (4 < (r.length : Int)) := by omega
    rw [if_neg (fun h => h5 h.1)]
    clear h5 hrl
    go_enter Tryz.func134, Tryz.ntmps134
    go_wp2_with fail
    refine (HV.out _).mono ?_
    rintro e w1 ⟨rfl, hb1⟩
    have B1 : Hid (Below w.heap.size w w1) := hb1
    clear hb1
    go_wp2_with fail
    go_ret2
    exact ⟨rfl, B1.out⟩
  have h5' : (4 : Int) < (r.length : Int) := by omega
  obtain ⟨n, hn⟩ : ∃ n, r.length - 4 = n := ⟨_, rfl⟩
  have c0 : (r.length : Int) - 4 = (n : Int) := by omega
  have c1 : (0 : Int) ≤ (n : Int) := by omega
  have c2 : (n : Int) ≤ (r.length : Int) := by omega
  have c3 : (n : Int) ≤ 1000000000 := by omega
  have c4 : (r.length : Int) ≤ 1000000000 := by omega
  rw [hn]
  have E3 : (bs r).extract n r.length = bs (r.drop n) := extract_from r n
  have E4 : (bs r).extract 0 n = bs (r.take n) := extract_to r n
  have e7 := bs_toList (r.drop n)
  have HV2 : Hid (∀ w : World, Calls Tryz.prog 39 #[.string (bs (r.take n))] w fun e w' => e = .returned (.bool (okP (r.take n))) ∧ Below w.heap.size w w') := fun w => rvalid_any (r.take n) w (by simp; omega)
  by_cases h6 : r.drop n = dots
  rotate_left
  · have h6' : (r.drop n == dots) = false := by simpa using h6
    rw [if_neg (fun h => h6 h.2.1)]
    clear h6 h5 hrl hn HV2 E4
    generalize r.drop n = u at *
    go_enter Tryz.func134, Tryz.ntmps134
    go_wp2_with fail
    refine (HV.out _).mono ?_
    rintro e w1 ⟨rfl, hb1⟩
    have B1 : Hid (Below w.heap.size w w1) := hb1
    clear hb1
    go_wp2_with fail
    go_ret2
    exact ⟨rfl, B1.out⟩
  rw [h6] at E3 e7
  generalize r.take n = t at *
  cases hv2 : okP t
  · rw [hv2] at HV2
    rw [if_neg (fun h => by have := h.2.2; simp at this)]
    clear hrl hn hv2 h5 h6
    go_enter Tryz.func134, Tryz.ntmps134
    go_wp2_with fail
    refine (HV.out _).mono ?_
    rintro e w1 ⟨rfl, hb1⟩
    have B1 : Hid (Below w.heap.size w w1) := hb1
    clear hb1
    go_wp2_with fail
    refine (HV2.out _).mono ?_
    rintro e w2 ⟨rfl, hb2⟩
    have B2 : Hid (Below w.heap.size w w2) := bstep B1.out hb2
    clear hb2
    go_wp2_with fail
    go_ret2
    exact ⟨rfl, B2.out⟩
  · rw [hv2] at HV2
    rw [if_pos ⟨h5, h6, rfl⟩]
    clear hrl hn hv2 h5 h6
    go_enter Tryz.func134, Tryz.ntmps134
    go_wp2_with fail
    refine (HV.out _).mono ?_
    rintro e w1 ⟨rfl, hb1⟩
    have B1 : Hid (Below w.heap.size w w1) := hb1
    clear hb1
    go_wp2_with fail
    refine (HV2.out _).mono ?_
    rintro e w2 ⟨rfl, hb2⟩
    have B2 : Hid (Below w.heap.size w w2) := bstep B1.out hb2
    clear hb2
    go_wp2_with fail
    go_region
    go_wp2_with fail
    go_ret2
    exact ⟨rfl, B2.out.drew⟩

set_option maxRecDepth 100000 in
set_option maxHeartbeats 1000000 in
theorem rseer_any (s : List UInt8) (w : World) (hs : s.length ≤ 1000000000) : Calls Tryz.prog 118 #[.string (bs s)] w fun e w' => e = .returned (.bool (ser s)) ∧ Below w.heap.size w w' := by
  have HK : Hid (∀ w : World, Calls Tryz.prog 134 #[.string (bs s)] w fun e w' => e = .returned (wv (wrd s)) ∧ Below w.heap.size w w') := fun w => word_any s w hs
  rw [← (wrd_kin s []).2]
  generalize wrd s = x at *
  obtain ⟨k, p⟩ := x
  simp only [wv] at HK ⊢
  clear hs
  go_enter Tryz.func118, Tryz.ntmps118
  go_wp2_with fail
  refine (HK.out _).mono ?_
  rintro e w1 ⟨rfl, hb1⟩
  have B1 : Hid (Below w.heap.size w w1) := hb1
  clear hb1
  go_wp2_with fail
  go_ret
  exact ⟨rfl, B1.out⟩
end Go.Proofs.YtddaoloabfkheaaGreatDoor
