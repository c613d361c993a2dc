import Derived.Test.YtpaohkegekhgdacCalled
namespace Go.Proofs.Ytpaohkegekhgdac
open Go.RowKit

theorem rhas_eq {w : World} {v : Value} {L : List (List UInt8)} (p : List UInt8) {r : Bool} (h : SS w v L) (hL : L.length ≤ 8000000) (hr : decide (p ∈ L) = r) :
    Calls Try.prog 18 #[v, .string (bs p)] w fun e w' => e = .returned (.bool r) ∧ w' = w := by rw [← hr]; exact rhas_any p h hL
theorem has_eq {w : World} {v : Value} {L : List (List UInt8)} (p : List UInt8) {r : Bool} (h : SS w v L) (hL : L.length ≤ 8000000) (hr : decide (p ∈ L) = r) :
    Calls Try.prog 13 #[v, .string (bs p)] w fun e w' => e = .returned (.bool r) ∧ w' = w := by rw [← hr]; exact has_any p h hL
theorem texts_eq {w : World} {va vb : Value} {A : List (List UInt8)} (h1 : SS w va A) (h2 : SS w vb A) (hA : A.length ≤ 8000000) :
    Calls Try.prog 12 #[va, vb] w fun e w' => e = .returned (.bool true) ∧ Below w.heap.size w w' :=
  (same_any h1 h2 (by omega)).mono fun _ _ ⟨he, n, hw⟩ => ⟨by rw [he]; simp, by rw [hw]; exact bd _ _⟩
/-- a row that may be written over -/
structure Wr (w : World) (g n base : Nat) : Prop where
  row : ∃ l : List (List UInt8), l.length = n ∧ Own base w (.slice (some ⟨g, 0, none⟩) n n) l
theorem Wr.cell {w : World} {g n base : Nat} (h : Wr w g n base) {i : Nat} (hi : i < n) : ∃ x, w.cell? ⟨g, i, none⟩ = some (.string (bs x)) ∧ w.frozen? ⟨g, i, none⟩ = false ∧ g < w.heap.size := by
  obtain ⟨l, hl, ho⟩ := h.row
  have := own_cell ho i (by omega)
  exact ⟨_, this.1, this.2.1, this.2.2.2⟩
theorem Wr.set {w : World} {g n base : Nat} (h : Wr w g n base) {i : Nat} (hi : i < n) (p : List UInt8) : Wr (w.setCell ⟨g, i, none⟩ (.string (Ytpaohkegekhgdac.bs p))) g n base := by
  obtain ⟨l, hl, ho⟩ := h.row
  exact ⟨l.set i p, by rw [List.length_set]; exact hl, own_set ho i (by omega) p⟩
theorem Wr.only {S : List Nat} {w w' : World} {g n base : Nat} (h : Wr w g n base) (ho : Only S w w') (hg : g ∉ S) : Wr w' g n base := by
  obtain ⟨l, hl, hw⟩ := h.row
  exact ⟨l, hl, hw.only ho (fun k hk => by simp [Value.ownBlock] at hk; subst hk; exact hg)⟩

set_option maxHeartbeats 8000000 in
set_option maxRecDepth 100000 in
theorem all_law {va vb : Value} {A B : List (List UInt8)} (w : World) (h1 : SS w va A) (h2 : SS w vb B) (sa : Sm A) (sb : Sm B) (la : A.length ≤ 1048576) (lb : B.length ≤ 1048576) (p : List UInt8) (_ : p.length ≤ 1048576) :
    Calls Try.prog 4 #[va, vb, .string (bs p)] w (Good w) := by
  have su : Sm (A ++ B) := ⟨by rw [List.length_append]; omega, fun x hx => by
    rcases List.mem_append.1 hx with h | h
    · exact sa.each x h
    · exact sb.each x h⟩
  obtain ⟨a, ca, na, hna, rfl⟩ := h1.len'
  obtain ⟨b, cb, nb, hnb, rfl⟩ := h2.len'
  have ST : Hid (St w w (.slice a na ca) (.slice b nb cb) A B) := ⟨Below.refl _ _, h1, h2, sa, sb⟩
  have HSU : Hid (Sm (A ++ B)) := su
  have HNA : Hid (na = A.length ∧ nb = B.length) := ⟨hna, hnb⟩
  have hnal : na ≤ 1048576 := by omega
  have hnbl : nb ≤ 1048576 := by omega
  obtain ⟨r1, hr1⟩ : ∃ r, decide (p ∈ A) = r := ⟨_, rfl⟩
  obtain ⟨r2, hr2⟩ : ∃ r, decide (p ∈ B) = r := ⟨_, rfl⟩
  have HR : Hid (decide (p ∈ A) = r1 ∧ decide (p ∈ B) = r2) := ⟨hr1, hr2⟩
  have q1 : (r1 != r1) = false := by simp
  have q2 : (r2 != r2) = false := by simp
  clear h1 h2 sa sb la lb su hna hnb hr1 hr2
  go_enter Try.func4, Try.ntmps4
  go_wp2_with fail
  refine (alive_any _).mono ?_
  rintro e w1 ⟨rfl, b1⟩
  have S1 : Hid (St w w1 (.slice a na ca) (.slice b nb cb) A B) := ST.out.later b1
  clear b1 ST
  go_wp2_with fail
  refine (has_eq p S1.out.a (by have := S1.out.sa.len; omega) HR.out.1).mono ?_
  rintro e w2 ⟨rfl, rfl⟩
  go_wp2_with fail
  refine (rhas_eq p S1.out.a (by have := S1.out.sa.len; omega) HR.out.1).mono ?_
  rintro e w3 ⟨rfl, rfl⟩
  go_wp2_with fail
  refine (has_eq p S1.out.b (by have := S1.out.sb.len; omega) HR.out.2).mono ?_
  rintro e w4 ⟨rfl, rfl⟩
  go_wp2_with fail
  refine (rhas_eq p S1.out.b (by have := S1.out.sb.len; omega) HR.out.2).mono ?_
  rintro e w5 ⟨rfl, rfl⟩
  go_wp2_with fail
  go_loopw [7] (fun i wr => ∃ k : Nat, k ≤ 6 ∧ i = .int .i64 k ∧ St w wr (.slice a na ca) (.slice b nb cb) A B) (fun i _ => 6 - (intOf i).toNat)
  case atStart => exact ⟨0, by omega, rfl, S1.out⟩
  case round =>
    obtain ⟨k, hk, rfl, st⟩ := hrel
    obtain ⟨wo, hwo⟩ : ∃ wo, wo = wr := ⟨_, rfl⟩
    subst hwo
    have SO : Hid (St w wo (.slice a na ca) (.slice b nb cb) A B) := st
    clear st
    by_cases hlt : k < 6
    · obtain ⟨G, hG⟩ : ∃ G, wo.heap.size = G := ⟨_, rfl⟩
      go_wp2_with fail
      refine (lent_any SO.out.a SO.out.sa).mono ?_
      rintro e w6 ⟨rfl, o6, b6⟩
      rw [← HNA.out.1, hG] at o6 ⊢
      rw [hG] at b6
      have O6 : Hid (Own G w6 (.slice (some ⟨G, 0, none⟩) (na + 30) (na + 30)) (lentL A)) := o6
      have S6 : Hid (St w w6 (.slice a na ca) (.slice b nb cb) A B) := SO.out.later (by rw [hG]; exact b6)
      have B6 : Hid (Below G wo w6) := b6
      have hz6 : G < w6.heap.size := (o6.lt (k := G) rfl).2
      clear o6 b6
      obtain ⟨G2, hG2⟩ : ∃ G2, w6.heap.size = G2 := ⟨_, rfl⟩
      go_wp2_with fail
      refine (lent_any S6.out.b S6.out.sb).mono ?_
      rintro e w7 ⟨rfl, o7, b7⟩
      rw [← HNA.out.2, hG2] at o7 ⊢
      rw [hG2] at b7
      have O7 : Hid (Own G2 w7 (.slice (some ⟨G2, 0, none⟩) (nb + 30) (nb + 30)) (lentL B)) := o7
      have O67 : Hid (Own G w7 (.slice (some ⟨G, 0, none⟩) (na + 30) (na + 30)) (lentL A)) := O6.out.later (by rw [hG2]; exact b7)
      have S7 : Hid (St w w7 (.slice a na ca) (.slice b nb cb) A B) := S6.out.later (by rw [hG2]; exact b7)
      have B7 : Hid (Below G wo w7) := below_trans B6.out (below_mono b7 (by omega))
      have hz7 : G2 < w7.heap.size := (o7.lt (k := G2) rfl).2
      have hgg : G < G2 := by omega
      clear o7 b7 S6 O6
      have IN : Hid (In4 w7 (.slice (some ⟨G, 0, none⟩) na (na + 30)) (.slice (some ⟨G2, 0, none⟩) nb (nb + 30)) (.slice a na ca) (.slice b nb cb) A B) := by
        have c1 := (O67.out.cut na (by rw [lentL_length, ← HNA.out.1]; omega)).bs
        have c2 := (O7.out.cut nb (by rw [lentL_length, ← HNA.out.2]; omega)).bs
        have e1 : (lentL A).take na = A := by rw [HNA.out.1]; simp [lentL]
        have e2 : (lentL B).take nb = B := by rw [HNA.out.2]; simp [lentL]
        rw [e1] at c1
        rw [e2] at c2
        exact ⟨c1, c2, S7.out.a, S7.out.b, S7.out.sa, S7.out.sb, HSU.out⟩
      have k1 : (0 : Int) ≤ (na : Int) := by omega
      have k2 : (na : Int) ≤ (na : Int) + 30 := by omega
      have k3 : (0 : Int) ≤ (nb : Int) := by omega
      have k4 : (nb : Int) ≤ (nb : Int) + 30 := by omega
      obtain ⟨R, hR⟩ : ∃ R, ans k A B = R := ⟨_, rfl⟩
      have HRL : Hid (R.length ≤ 8000000) := by
        have := (ans_sm (B := B) S7.out.sa HSU.out k).len
        rw [hR] at this
        show R.length ≤ 8000000
        omega
      have HCA : Hid (∀ W : World, Below w7.heap.size w7 W → Calls Try.prog 20 #[.int .i64 k, .slice (some ⟨G, 0, none⟩) na (na + 30), .slice (some ⟨G2, 0, none⟩) nb (nb + 30), .slice a na ca, .slice b nb cb] W fun e w' => ∃ v1 v2, e = .returned (.tuple #[v1, v2]) ∧ Two W w' v1 v2 R) := fun W hW => by
        rw [← hR]
        exact called_any k hlt (IN.out.later hW)
      clear hR
      go_wp2_with fail
      go_region_held3 (fun _ => True) (trivial) (first | (go_at_call 20; refine (HCA.out _ (Below.refl _ _).drew).mono ?_; rintro e w' ⟨v1, v2, rfl, two⟩))
      obtain ⟨w8, hw8⟩ : ∃ w8, w8 = w' := ⟨_, rfl⟩
      subst hw8
      have hb8 : Below w7.heap.size w7 w8 := below_trans (Below.refl _ _).drew two.below
      have T8 : Hid (Own w7.heap.size w8 v1 R ∧ Own w7.heap.size w8 v2 R) := ⟨two.first, two.second⟩
      have S8 : Hid (St w w8 (.slice a na ca) (.slice b nb cb) A B) := S7.out.later hb8
      have X8 : Hid (Own G w8 (.slice (some ⟨G, 0, none⟩) (na + 30) (na + 30)) (lentL A) ∧ Own G2 w8 (.slice (some ⟨G2, 0, none⟩) (nb + 30) (nb + 30)) (lentL B)) := ⟨O67.out.later hb8, O7.out.later hb8⟩
      have B8 : Hid (Below G wo w8) := below_trans B7.out (below_mono hb8 (by omega))
      have hz8 := hb8.size
      clear two hb8 O67 O7 S7 IN HCA
      go_wp2_with fail
      refine (texts_eq T8.out.1.bs T8.out.2.bs HRL.out).mono ?_
      rintro e w9 ⟨rfl, b9⟩
      have S9 : Hid (St w w9 (.slice a na ca) (.slice b nb cb) A B) := S8.out.later b9
      have B9 : Hid (Below w8.heap.size w8 w9) := b9
      clear b9
      go_wp2_with fail
      refine (lent_any S9.out.a S9.out.sa).mono ?_
      rintro e wa ⟨rfl, oa, ba⟩
      have Sa : Hid (St w wa (.slice a na ca) (.slice b nb cb) A B) := S9.out.later ba
      have Ba : Hid (Below w8.heap.size w8 wa) := bstep B9.out ba
      have Oa : Hid (SS wa (.slice (some ⟨w9.heap.size, 0, none⟩) (A.length + 30) (A.length + 30)) (lentL A)) := oa.bs
      clear oa ba S9 B9
      go_wp2_with fail
      refine (texts_eq (X8.out.1.later Ba.out).bs Oa.out (by rw [lentL_length, ← HNA.out.1]; omega)).mono ?_
      rintro e wb ⟨rfl, bb⟩
      have Sb : Hid (St w wb (.slice a na ca) (.slice b nb cb) A B) := Sa.out.later bb
      have Bb : Hid (Below w8.heap.size w8 wb) := bstep Ba.out bb
      clear bb Sa Ba Oa
      go_wp2_with fail
      refine (lent_any Sb.out.b Sb.out.sb).mono ?_
      rintro e wc ⟨rfl, oc, bc⟩
      have Sc : Hid (St w wc (.slice a na ca) (.slice b nb cb) A B) := Sb.out.later bc
      have Bc : Hid (Below w8.heap.size w8 wc) := bstep Bb.out bc
      have Oc : Hid (SS wc (.slice (some ⟨wb.heap.size, 0, none⟩) (B.length + 30) (B.length + 30)) (lentL B)) := oc.bs
      clear oc bc Sb Bb
      go_wp2_with fail
      refine (texts_eq (X8.out.2.later Bc.out).bs Oc.out (by rw [lentL_length, ← HNA.out.2]; omega)).mono ?_
      rintro e wd ⟨rfl, bd2⟩
      have Bd : Hid (Below w8.heap.size w8 wd) := bstep Bc.out bd2
      have Bo : Hid (Below G wo wd) := below_trans B8.out (below_mono Bd.out (by omega))
      have Xd : Hid (Wr wd G (na + 30) G ∧ Wr wd G2 (nb + 30) G2) := ⟨⟨lentL A, by rw [lentL_length, ← HNA.out.1], X8.out.1.later Bd.out⟩, ⟨lentL B, by rw [lentL_length, ← HNA.out.2], X8.out.2.later Bd.out⟩⟩
      have Td : Hid (Own w7.heap.size wd v1 R ∧ Own w7.heap.size wd v2 R) := ⟨T8.out.1.later Bd.out, T8.out.2.later Bd.out⟩
      have hzd : w7.heap.size ≤ wd.heap.size := by have := Bd.out.size; omega
      clear bd2 Sc Bc Oc S8 T8 X8 B8 Bd
      go_wp2_with fail
      go_loopw [12] (fun i wr => ∃ m : Nat, m ≤ na + 30 ∧ i = .int .i64 m ∧ Wr wr G (na + 30) G ∧ Only [G] wd wr) (fun i _ => na + 30 - (intOf i).toNat)
      case atStart => exact ⟨0, Nat.zero_le _, rfl, Xd.out.1, Only.refl _ _⟩
      case round =>
        obtain ⟨m, hm, rfl, hwr, hon⟩ := hrel
        have HWR : Hid (Wr wr G (na + 30) G) := hwr
        have HON : Hid (Only [G] wd wr) := hon
        clear hon
        by_cases hlt2 : m < na + 30
        · obtain ⟨x, hc, hf, hgl⟩ := hwr.cell hlt2
          have k5 : (m : Int) < (na : Int) + 30 := by omega
          clear hwr
          go_wp2_with fail
          go_roundw
          case rel => exact ⟨m + 1, by omega, by go_num, HWR.out.set hlt2 [37], HON.out.trans (Only.set _ _ _ _)⟩
          case measure => simp [intOf]; omega
        · obtain rfl : m = na + 30 := by omega
          clear hwr
          obtain ⟨we, hwe⟩ : ∃ we, we = wr := ⟨_, rfl⟩
          subst hwe
          have X2 : Hid (Wr we G2 (nb + 30) G2) := Xd.out.2.only HON.out (by simp; omega)
          go_wp2_with fail
          go_loopw [13] (fun i wr => ∃ m : Nat, m ≤ nb + 30 ∧ i = .int .i64 m ∧ Wr wr G2 (nb + 30) G2 ∧ Only [G, G2] wd wr) (fun i _ => nb + 30 - (intOf i).toNat)
          case atStart => exact ⟨0, Nat.zero_le _, rfl, X2.out, HON.out.mono (by simp)⟩
          case round =>
            obtain ⟨m, hm, rfl, hwr, hon⟩ := hrel
            have HWR2 : Hid (Wr wr G2 (nb + 30) G2) := hwr
            have HON2 : Hid (Only [G, G2] wd wr) := hon
            clear hon
            by_cases hlt3 : m < nb + 30
            · obtain ⟨x, hc, hf, hgl⟩ := hwr.cell hlt3
              have k5 : (m : Int) < (nb : Int) + 30 := by omega
              clear hwr
              go_wp2_with fail
              go_roundw
              case rel => exact ⟨m + 1, by omega, by go_num, HWR2.out.set hlt3 [37], HON2.out.trans ((Only.set _ _ _ _).mono (by simp))⟩
              case measure => simp [intOf]; omega
            · obtain rfl : m = nb + 30 := by omega
              clear hwr
              have Tz : Hid (SS wr v1 R ∧ SS wr v2 R) := by
                refine ⟨(Td.out.1.only HON2.out (fun k hk => ?_)).bs, (Td.out.2.only HON2.out (fun k hk => ?_)).bs⟩
                · have := (Td.out.1.lt hk).1
                  simp; omega
                · have := (Td.out.2.lt hk).1
                  simp; omega
              have Sz : Hid (St w wr (.slice a na ca) (.slice b nb cb) A B) := by
                refine SO.out.later ?_
                rw [hG]
                exact below_trans Bo.out (HON2.out.below (by omega) (by simp; omega))
              go_wp2_with fail
              refine (texts_eq Tz.out.1 Tz.out.2 HRL.out).mono ?_
              rintro e wf ⟨rfl, bf⟩
              have Sf : Hid (St w wf (.slice a na ca) (.slice b nb cb) A B) := Sz.out.later bf
              clear bf
              go_wp2_with fail
              go_roundw
              case rel => exact ⟨k + 1, by omega, by go_num, Sf.out⟩
              case measure => simp [intOf]; omega
    · obtain rfl : k = 6 := by omega
      go_wp2_with fail
      go_ret
      exact ⟨rfl, SO.out.below⟩
theorem all_say {va vb : Value} {A B : List (List UInt8)} (w : World) (h1 : SS w va A) (h2 : SS w vb B) (sa : Sm A) (sb : Sm B) (la : A.length ≤ 1048576) (lb : B.length ≤ 1048576) (p : List UInt8) (lp : p.length ≤ 1048576) :
    Calls Try.prog 4 #[va, vb, .string (bs p)] w fun e w' => e = .returned (.bool true) ∧ Below w.heap.size w w' := all_law w h1 h2 sa sb la lb p lp
end Go.Proofs.Ytpaohkegekhgdac
