import Derived.Test.YtpaohkegekhgdacApart
import Derived.Test.YtpaohkegekhgdacAllLaw
namespace Go.Proofs.Ytpaohkegekhgdac
open Go.RowKit

/-- what stands through the rounds -/
structure F4 (w wr : World) (va vb vx vy : Value) (A B : List (List UInt8)) : Prop where
  below : Below w.heap.size w wr
  a : SS wr va A
  b : SS wr vb B
  x : SS wr vx (norm A)
  y : SS wr vy (norm B)
theorem F4.later {w wr wd : World} {va vb vx vy : Value} {A B : List (List UInt8)} (h : F4 w wr va vb vx vy A B) (k : Below wr.heap.size wr wd) : F4 w wd va vb vx vy A B :=
  ⟨bstep h.below k, h.a.later k, h.b.later k, h.x.later k, h.y.later k⟩
def pick2 (u v : Value) (i : Nat) : Value := if i = 0 then u else v
theorem two_cases {i : Nat} (h : i < 2) : i = 0 ∨ i = 1 := by omega

/-- two pairs of answers, laid in two lists -/
theorem lay_two {wo w1 w2 : World} {v1 v2 v3 v4 : Value} {R : List (List UInt8)} (t1 : Two wo w1 v1 v2 R) (t2 : Two w1 w2 v3 v4 R) {w3 : World} (hw : (w2.alloc (.cells #[v1, v3] 22)).alloc (.cells #[v2, v4] 22) = w3) :
    Duo w3 w2.heap.size (pick2 v1 v3) ∧ (∀ i, i < 2 → Own wo.heap.size w3 (pick2 v1 v3 i) R) ∧ (∀ i, i < 2 → w3.cell? ⟨w2.heap.size + 1, i, none⟩ = some (pick2 v2 v4 i) ∧ SS w3 (pick2 v2 v4 i) R) ∧ w3.heap.size = w2.heap.size + 2 ∧ Below wo.heap.size wo w3 := by
  have hb3 : Below w2.heap.size w2 w3 := by rw [← hw]; exact bstep (balloc _ _) (balloc _ _)
  have hz3 : w3.heap.size = w2.heap.size + 2 := by rw [← hw]; simp
  have hz1 := t1.below.size
  have hz2 := t2.below.size
  have o1 : Own wo.heap.size w3 v1 R := (t1.first.later t2.below).later hb3
  have o3 : Own w1.heap.size w3 v3 R := t2.first.later hb3
  have s2 : SS w3 v2 R := ((t1.second.later t2.below).later hb3).bs
  have s4 : SS w3 v4 R := (t2.second.later hb3).bs
  have l1 : ∀ g, v1.ownBlock = some g → g < w1.heap.size := fun g hg => (t1.first.lt hg).2
  have l3 : ∀ g, v3.ownBlock = some g → w1.heap.size ≤ g ∧ g < w2.heap.size := fun g hg => t2.first.lt hg
  refine ⟨⟨fun i hi => ?_, by omega, fun i hi e => ?_, fun i hi g hg => ?_, fun i j hi hj hij g hg e => ?_⟩, fun i hi => ?_, fun i hi => ?_, hz3, bstep (bstep t1.below t2.below) hb3⟩
  · rcases two_cases hi with rfl | rfl <;> (rw [← hw]; simp [pick2])
  · rcases two_cases hi with rfl | rfl
    · have := l1 _ e; omega
    · have := (l3 _ e).2; omega
  · rcases two_cases hi with rfl | rfl
    · have := l1 g hg; omega
    · have := (l3 g hg).2; omega
  · rcases two_cases hi with rfl | rfl <;> rcases two_cases hj with rfl | rfl
    · exact hij rfl
    · have h1 := l1 g hg; have h2 := (l3 g e).1; omega
    · have h1 := l1 g e; have h2 := (l3 g hg).1; omega
    · exact hij rfl
  · rcases two_cases hi with rfl | rfl
    · exact o1
    · exact o3.mono hz1
  · rcases two_cases hi with rfl | rfl
    · exact ⟨by rw [← hw]; simp [pick2], s2⟩
    · exact ⟨by rw [← hw]; simp [pick2], s4⟩

set_option maxHeartbeats 8000000 in
set_option maxRecDepth 100000 in
theorem fresh_law {va vb : Value} {A B : List (List UInt8)} (w : World) (h1 : SS w va A) (h2 : SS w vb B) (sa : Sm A) (sb : Sm B) (la : A.length ≤ 1048576) (lb : B.length ≤ 1048576) :
    Calls Try.prog 5 #[va, vb] w (Good w) := by
  have su : Sm (norm A ++ norm B) := ⟨by have := norm_len A; have := norm_len B; rw [List.length_append]; omega, fun x hx => by
    rcases List.mem_append.1 hx with h | h
    · exact sa.norm.each x h
    · exact sb.norm.each x h⟩
  have H : Hid (SS w va A ∧ SS w vb B) := ⟨h1, h2⟩
  have HS : Hid (Sm A ∧ Sm B ∧ Sm (norm A ++ norm B)) := ⟨sa, sb, su⟩
  clear h1 h2 sa sb la lb su
  go_enter Try.func5, Try.ntmps5
  go_wp2_with fail
  refine (rnorm_any H.out.1 HS.out.1).mono ?_
  rintro e w1 ⟨vx, rfl, o1, b1⟩
  have H1 : Hid (Below w.heap.size w w1 ∧ SS w1 va A ∧ SS w1 vb B ∧ SS w1 vx (norm A)) := ⟨b1, H.out.1.later b1, H.out.2.later b1, o1.bs⟩
  clear o1 b1 H
  go_wp2_with fail
  refine (rnorm_any H1.out.2.2.1 HS.out.2.1).mono ?_
  rintro e w2 ⟨vy, rfl, o2, b2⟩
  have H2 : Hid (F4 w w2 va vb vx vy A B) := ⟨bstep H1.out.1 b2, H1.out.2.1.later b2, H1.out.2.2.1.later b2, H1.out.2.2.2.later b2, o2.bs⟩
  clear o2 b2 H1
  go_wp2_with fail
  refine (alive_any _).mono ?_
  rintro e w3 ⟨rfl, b3⟩
  have H3 : Hid (F4 w w3 va vb vx vy A B) := H2.out.later b3
  clear b3 H2
  go_wp2_with fail
  go_loopw [7] (fun i wr => ∃ k : Nat, k ≤ 6 ∧ i = .int .i64 k ∧ F4 w wr va vb vx vy A B) (fun i _ => 6 - (intOf i).toNat)
  case atStart => exact ⟨0, by omega, rfl, H3.out⟩
  case round =>
    obtain ⟨k, hk, rfl, st⟩ := hrel
    obtain ⟨wo, hwo⟩ : ∃ wo, wo = wr := ⟨_, rfl⟩
    subst hwo
    have SO : Hid (F4 w wo va vb vx vy A B) := st
    clear st
    by_cases hlt : k < 6
    · obtain ⟨R, hR⟩ : ∃ R, ans k (norm A) (norm B) = R := ⟨_, rfl⟩
      obtain ⟨n, hn⟩ : ∃ n, R.length = n := ⟨_, rfl⟩
      have hnl : n ≤ 4000000 := by rw [← hn, ← hR]; exact (ans_sm HS.out.1.norm HS.out.2.2 k).len
      have HRN : Hid (R.length = n) := hn
      have HCA : Hid (∀ W : World, Below wo.heap.size wo W → Calls Try.prog 20 #[.int .i64 k, vx, vy, vx, vy] W fun e w' => ∃ v1 v2, e = .returned (.tuple #[v1, v2]) ∧ Two W w' v1 v2 R) := fun W hW => by
        rw [← hR]
        exact called_any k hlt ⟨SO.out.x.later hW, SO.out.y.later hW, SO.out.x.later hW, SO.out.y.later hW, HS.out.1.norm, HS.out.2.1.norm, HS.out.2.2⟩
      clear hR hn
      go_wp2_with fail
      refine (HCA.out _ (Below.refl _ _)).mono ?_
      rintro e w4 ⟨v1, v2, rfl, t1⟩
      have T1 : Hid (Two wo w4 v1 v2 R) := t1
      clear t1
      go_wp2_with fail
      refine (HCA.out _ T1.out.below).mono ?_
      rintro e w5 ⟨v3, v4, rfl, t2⟩
      have T2 : Hid (Two w4 w5 v3 v4 R) := t2
      clear t2
      obtain ⟨w6, hw6⟩ : ∃ w6, (w5.alloc (.cells #[v1, v3] 22)).alloc (.cells #[v2, v4] 22) = w6 := ⟨_, rfl⟩
      have LT := lay_two T1.out T2.out hw6
      have HD : Hid (Duo w6 w5.heap.size (pick2 v1 v3)) := LT.1
      have HOV : Hid (∀ i, i < 2 → Own wo.heap.size w6 (pick2 v1 v3 i) R) := LT.2.1
      have HCU : Hid (∀ i, i < 2 → w6.cell? ⟨w5.heap.size + 1, i, none⟩ = some (pick2 v2 v4 i) ∧ SS w6 (pick2 v2 v4 i) R) := LT.2.2.1
      have hz6 := LT.2.2.2.1
      have HB6 : Hid (Below wo.heap.size wo w6) := LT.2.2.2.2
      have hzo : wo.heap.size ≤ w6.heap.size := HB6.out.size
      clear LT
      have HSZ : Hid (w6.heap.size = w5.heap.size + 2) := hz6
      clear hz6
      obtain ⟨f1, g1, n1, q1, e1⟩ := T1.out.first.bs.len'
      obtain ⟨f2, g2, n2, q2, e2⟩ := T1.out.second.bs.len'
      obtain ⟨f3, g3, n3, q3, e3⟩ := T2.out.first.bs.len'
      obtain ⟨f4, g4, n4, q4, e4⟩ := T2.out.second.bs.len'
      subst e1 e2 e3 e4
      clear q1 q2 q3 q4
      go_wp2_with fail
      refine (apart_any HD HOV (by have := HSZ.out; omega) HCU HRN hnl hzo).mono ?_
      rintro e w7 ⟨rfl, b7⟩
      have B7 : Hid (Below wo.heap.size wo w7) := below_trans HB6.out b7
      clear b7 hw6 HD HOV HCU T1 T2 HSZ hzo
      go_wp2_with fail
      refine (HCA.out _ B7.out).mono ?_
      rintro e w8 ⟨v5, v6, rfl, t3⟩
      have T3 : Hid (SS w8 v5 R ∧ SS w8 v6 R) := ⟨t3.first.bs, t3.second.bs⟩
      have B8 : Hid (Below wo.heap.size wo w8) := bstep B7.out t3.below
      clear t3
      go_wp2_with fail
      refine (texts_eq T3.out.1 T3.out.2 (by have := HRN.out; omega)).mono ?_
      rintro e w9 ⟨rfl, b9⟩
      have S9 : Hid (F4 w w9 va vb vx vy A B) := SO.out.later (bstep B8.out b9)
      clear b9
      go_wp2_with fail
      refine (rnorm_any S9.out.a HS.out.1).mono ?_
      rintro e wa ⟨v7, rfl, oa, ba⟩
      have Sa : Hid (F4 w wa va vb vx vy A B) := S9.out.later ba
      have Oa : Hid (SS wa v7 (norm A)) := oa.bs
      clear oa ba
      go_wp2_with fail
      refine (texts_eq Sa.out.x Oa.out (by have := HS.out.1.norm.len; omega)).mono ?_
      rintro e wb ⟨rfl, bb⟩
      have Sb : Hid (F4 w wb va vb vx vy A B) := Sa.out.later bb
      clear bb
      go_wp2_with fail
      refine (rnorm_any Sb.out.b HS.out.2.1).mono ?_
      rintro e wc ⟨v8, rfl, oc, bc⟩
      have Sc : Hid (F4 w wc va vb vx vy A B) := Sb.out.later bc
      have Oc : Hid (SS wc v8 (norm B)) := oc.bs
      clear oc bc
      go_wp2_with fail
      refine (texts_eq Sc.out.y Oc.out (by have := HS.out.2.1.norm.len; omega)).mono ?_
      rintro e wd ⟨rfl, bd2⟩
      have Sd : Hid (F4 w wd va vb vx vy A B) := Sc.out.later bd2
      clear bd2
      go_wp2_with fail
      go_roundw
      case rel => exact ⟨k + 1, by omega, by go_num, Sd.out⟩
      case measure => simp [intOf]; omega
    · obtain rfl : k = 6 := by omega
      go_wp2_with fail
      go_ret
      exact ⟨rfl, SO.out.below⟩
theorem fresh_say {va vb : Value} {A B : List (List UInt8)} (w : World) (h1 : SS w va A) (h2 : SS w vb B) (sa : Sm A) (sb : Sm B) (la : A.length ≤ 1048576) (lb : B.length ≤ 1048576) :
    Calls Try.prog 5 #[va, vb] w fun e w' => e = .returned (.bool true) ∧ Below w.heap.size w w' := fresh_law w h1 h2 sa sb la lb
end Go.Proofs.Ytpaohkegekhgdac
