/-
  within.
-/
import Derived.Test.YtebidnepanogcaaDoorWi
namespace Go.Proofs.YtebidnepanogcaaDoor
open Go.RowKit

def inA (A : List Fl) (f : Fl) : Bool := A.any (fun g => feq g f)
theorem any_stepF {l : List Fl} {k : Nat} (hk : k < l.length) (P : Fl → Bool) : (l.take (k + 1)).any P = ((l.take k).any P || P (l[k]'hk)) := by
  rw [List.take_succ_eq_append_getElem hk, List.any_append]; simp
theorem filter_at (l : List Fl) (P : Fl → Bool) (k : Nat) (h : k < l.length) (hp : P (l[k]'h) = true) : ∃ hn : ((l.take k).filter P).length < (l.filter P).length, (l.filter P)[((l.take k).filter P).length]'hn = l[k]'h := by
  have e : l.filter P = (l.take k).filter P ++ (l[k]'h :: (l.drop (k + 1)).filter P) := by
    conv => lhs; rw [← List.take_append_drop k l, List.filter_append, List.drop_eq_getElem_cons h, List.filter_cons_of_pos hp]
  have hn : ((l.take k).filter P).length < (l.filter P).length := by rw [e]; simp
  refine ⟨hn, ?_⟩
  have h2 : (l.filter P)[((l.take k).filter P).length]? = some (l[k]'h) := by rw [e]; simp
  rw [List.getElem?_eq_getElem hn] at h2
  exact Option.some.inj h2

set_option maxRecDepth 100000 in
set_option maxHeartbeats 8000000 in
theorem within_any {w : World} {va vp vb : Value} {A P B : List Fl} (h1 : FS w va A) (h2 : FS w vp P) (h3 : FS w vb B) (hA : A.length ≤ 4000000) (hP : P.length ≤ 4000000) (hB : B = P.filter (inA A)) :
    Calls Tryd.prog 11 #[va, vp, vb] w fun e w' => e = .returned (.bool true) ∧ Below w.heap.size w w' := by
  have CA : Hid (FS w va A) := h1
  have CP : Hid (FS w vp P) := h2
  have CB : Hid (FS w vb B) := h3
  obtain ⟨a, c, rfl⟩ : ∃ a c, va = .slice a A.length c := by obtain ⟨a, c, h, _⟩ := h1.form; exact ⟨a, c, h⟩
  obtain ⟨p, cp, rfl⟩ : ∃ a c, vp = .slice a P.length c := by obtain ⟨a, c, h, _⟩ := h2.form; exact ⟨a, c, h⟩
  obtain ⟨b, cb, rfl⟩ : ∃ a c, vb = .slice a B.length c := by obtain ⟨a, c, h, _⟩ := h3.form; exact ⟨a, c, h⟩
  clear h1 h2 h3
  have hBl : B.length ≤ P.length := by rw [hB]; exact List.length_filter_le _ _
  have HB : Hid (B = P.filter (inA A)) := hB
  clear hB
  have CA' : Hid (FS w (.slice a A.length c) A) := CA.out
  have CP' : Hid (FS w (.slice p P.length cp) P) := CP.out
  have CB' : Hid (FS w (.slice b B.length cb) B) := CB.out
  clear CA CP CB
  have q1 := neq_run
  have q2 := guard_run
  have q3 := eql_run
  go_enter Tryd.func11, Tryd.ntmps11
  go_wp2_with fail
  go_loopw [7, 8] (fun n i wr => ∃ k d : Nat, k ≤ P.length ∧ i = .int .i64 k ∧ n = .int .i64 (((P.take k).filter (inA A)).length : Nat) ∧ wr = w.drewN d) (fun _ i _ => P.length - (intOf i).toNat)
  case atStart => exact ⟨0, 0, Nat.zero_le _, rfl, rfl, rfl⟩
  case round =>
    obtain ⟨k, d, hk, rfl, rfl, rfl⟩ := hrel
    have hfl : ((P.take k).filter (inA A)).length ≤ k := Nat.le_trans (List.length_filter_le _ _) (by simp; omega)
    by_cases hlt : k < P.length
    · have HK : Hid (((P.take (k + 1)).filter (inA A)).length = ((P.take k).filter (inA A)).length + if inA A (P[k]'hlt) = true then 1 else 0) := by
        show _ = _
        rw [filter_step P _ k hlt, List.length_append]; split <;> simp
      have HAt : Hid (inA A (P[k]'hlt) = true → ∃ hn : ((P.take k).filter (inA A)).length < B.length, B[((P.take k).filter (inA A)).length]'hn = P[k]'hlt) := fun hp => by
        have := filter_at P (inA A) k hlt hp
        rw [← HB.out] at this; exact this
      obtain ⟨g2, o2, ea, hg2, e0, e1', e2, e3⟩ := FS.at CP'.out (Below.refl _ w) hlt
      subst ea
      generalize hf : P[k]'hlt = f at e0 e1' e2 e3 HK HAt
      clear hf
      generalize ((P.take k).filter (inA A)).length = n0 at *
      have HT : Hid (∀ m (hm : m < A.length), (A.take (m + 1)).any (fun g => feq g f) = ((A.take m).any (fun g => feq g f) || feq (A[m]'hm) f)) := fun m hm => any_stepF hm _
      have HI : Hid (inA A f = A.any (fun g => feq g f)) := rfl
      obtain ⟨p2, t2, bl2, s2⟩ := f
      simp only at e0 e1' e2 e3
      have j1 : (0 : Int) ≤ (k : Int) := by omega
      have j2 : (k : Int) < (P.length : Int) := by omega
      go_wp2_with fail
      go_loopw [9, 10] (fun x i wr => ∃ m d2 : Nat, m ≤ A.length ∧ i = .int .i64 m ∧ x = .bool ((A.take m).any (fun g => feq g ⟨p2, t2, bl2, s2⟩)) ∧ wr = w.drewN d2) (fun _ i _ => A.length - (intOf i).toNat)
      case atStart => exact ⟨0, d, Nat.zero_le _, rfl, rfl, rfl⟩
      case round =>
        obtain ⟨m, d2, hm, rfl, rfl, rfl⟩ := hrel
        by_cases hlm : m < A.length
        · have HS := HT.out m hlm
          obtain ⟨g1, o1, ea, hg1, d0, d1, d2', d3⟩ := FS.at CA'.out (Below.refl _ w) hlm
          subst ea
          have j3 : (0 : Int) ≤ (m : Int) := by omega
          have j4 : (m : Int) < (A.length : Int) := by omega
          generalize hf : A[m]'hlm = f at d0 d1 d2' d3 HS
          clear hf
          obtain ⟨p1, t1, bl1, s1⟩ := f
          simp only at d0 d1 d2' d3
          have HS1 : Hid ((A.take (m + 1)).any (fun g => feq g ⟨p2, t2, bl2, s2⟩) = ((A.take m).any (fun g => feq g ⟨p2, t2, bl2, s2⟩) || feq ⟨p1, t1, bl1, s1⟩ ⟨p2, t2, bl2, s2⟩)) := HS
          clear HS
          generalize (A.take m).any (fun g => feq g ⟨p2, t2, bl2, s2⟩) = y at *
          cases y
          · go_wp2_with fail
            go_quiet (fail)
            go_wp2_with fail
            go_roundw
            case rel => exact ⟨m + 1, d2 + nq, by omega, by go_num, by rw [HS1.out]; simp, rfl⟩
            case measure => simp [intOf]; omega
          · go_wp2_with fail
            go_quiet (fail)
            go_wp2_with fail
            go_roundw
            case rel => exact ⟨m + 1, d2 + nq, by omega, by go_num, by rw [HS1.out]; simp, rfl⟩
            case measure => simp [intOf]; omega
        · obtain rfl : m = A.length := by omega
          rw [List.take_length, ← HI.out]
          cases hx : inA A ⟨p2, t2, bl2, s2⟩
          · have HK2 : Hid (((P.take (k + 1)).filter (inA A)).length = n0) := by show _ = _; rw [HK.out, if_neg (by rw [hx]; simp)]; rfl
            clear hx HK HAt
            go_wp2_with fail
            go_roundw
            case rel => exact ⟨k + 1, d2, by omega, by go_num, by rw [HK2.out], rfl⟩
            case measure => simp [intOf]; omega
          · have HK2 : Hid (((P.take (k + 1)).filter (inA A)).length = n0 + 1) := by show _ = _; rw [HK.out, if_pos hx]
            obtain ⟨hn, hbn⟩ := HAt.out hx
            obtain ⟨g3, o3, ea, hg3, r0, r1, r2, r3⟩ := FS.at CB'.out (Below.refl _ w) hn
            subst ea
            rw [hbn] at r0 r1 r2 r3
            simp only at r0 r1 r2 r3
            have q4 := feq_self ⟨p2, t2, bl2, s2⟩
            have j5 : (0 : Int) ≤ (n0 : Int) := by omega
            have j6 : (n0 : Int) < (B.length : Int) := by omega
            have j7 : ¬ (B.length : Int) ≤ (n0 : Int) := by omega
            have j8 : decide ((B.length : Int) ≤ (n0 : Int)) = false := by simpa using j7
            clear hx HK HAt hbn
            go_wp2_with fail
            go_quiet (fail)
            go_wp2_with fail
            go_roundw
            case rel => exact ⟨k + 1, d2 + nq, by omega, by go_num, by rw [HK2.out]; rfl, rfl⟩
            case measure => simp [intOf]; omega
    · obtain rfl : k = P.length := by omega
      have hfe : ((P.take P.length).filter (inA A)).length = B.length := by rw [List.take_length, ← HB.out]
      rw [hfe]
      go_wp2_with fail
      go_ret
      exact ⟨by simp, ⟨rfl, rfl, rfl, Nat.le_refl _, fun _ _ => rfl⟩⟩
end Go.Proofs.YtebidnepanogcaaDoor
