/-
  Files taken out of a row: slices.DeleteFunc, and the deed that does it.
-/
import Derived.Test.YtinhdjoidbcfaaaDel
namespace Go.Proofs.Ytinhdjoidbcfaaa
open Go.RowKit

/-- the block of a slice -/
def bl (v : Value) : List Nat := v.ownBlock.toList
theorem OF.clear {base : Nat} {w : World} {g cap : Nat} {K M : List Fl} {rest : List Value} (h : OF base w g cap (K ++ M) rest) (c : Nat) :
    ∃ w', (∀ ty, (Builtin.clear_ #[22] ty #[.slice (some ⟨g, K.length * 4, none⟩) M.length c]).run Try.prog w = .ok (.tuple #[]) w') ∧ Only [g] w w' ∧ ∃ rest', OF base w' g cap K rest' := by
  have hsz := h.sz
  simp only [List.length_append] at hsz
  have hcs : (fc (K ++ M) ++ rest).toArray.size = cap * 4 := by simp [fc_length]; omega
  obtain ⟨w', h1, zs, h2, rfl⟩ := run_clear_f w 0 g (K.length * 4) M.length c _ h.blk (by rw [hcs]; omega)
  refine ⟨_, fun ty => h1, only_row _ _ _, zs ++ rest, ?_⟩
  refine h.row (by simp; omega) ?_
  show List.take (K.length * 4) (fc (K ++ M) ++ rest) ++ zs ++ List.drop (K.length * 4 + M.length * 4) (fc (K ++ M) ++ rest) = fc K ++ (zs ++ rest)
  rw [← fc_length K, ← fc_length M, ← List.length_append, fc_append, List.drop_left, List.append_assoc (fc K), List.take_left, List.append_assoc]
theorem get_mid {α : Type} (K M R : List α) (j : Nat) (hj : K.length + M.length = j) (h : j < (K ++ M ++ R).length) (h' : 0 < R.length) : (K ++ M ++ R)[j]'h = R[0] := by
  subst hj
  rw [List.getElem_append_right (by simp)]
  simp
theorem set_mid {α : Type} (K M R : List α) (m : α) (x : α) : (K ++ (m :: M) ++ R).set K.length x = (K ++ [x]) ++ M ++ R := by
  rw [List.append_assoc, List.set_append_right _ _ (Nat.le_refl _)]
  simp

set_option maxRecDepth 100000 in
set_option maxHeartbeats 4000000 in
theorem delete_f {base : Nat} {w : World} {v : Value} {l : List Fl} (h : OwnF base w v l) (hl : l.length ≤ 140737488355328) (p : List UInt8) (pb : Nat) (hp : w.cell? ⟨pb, 0, none⟩ = some (.string (bs p))) (hpb : pb < w.heap.size) (hne : v.ownBlock ≠ some pb) :
    Calls Try.prog 59 #[v, .func (.func 60) #[] #[.pointer (some ⟨pb, 0, none⟩)]] w fun e w' => ∃ v', e = .returned v' ∧ OwnF base w' v' (cutF p l) ∧ Only (bl v) w w' ∧ v'.ownBlock = v.ownBlock := by
  have HI : Hid (Calls Try.prog 77 #[v, .func (.func 60) #[] #[.pointer (some ⟨pb, 0, none⟩)]] w fun e w' => e = .returned (.int .i64 (ixF p l 0)) ∧ Below w.heap.size w w') := index_f h.fs hl p pb hp hpb
  have H : Hid (OwnF base w v l) := h
  rcases ixF_spec p l 0 with ⟨e1, e2⟩ | ⟨i0, hi0, e1, e2, e3⟩
  · rw [e1] at HI
    have HE : Hid (cutF p l = l) := e2
    obtain ⟨a, c, hv⟩ := h.form
    clear e1 e2 hp h
    obtain ⟨n, hn⟩ : ∃ n, l.length = n := ⟨_, rfl⟩
    rw [hn] at hv
    subst hv
    clear hn
    go_enter Try.func59, Try.ntmps59
    go_wp2_with fail
    refine HI.out.mono ?_
    rintro e w1 ⟨rfl, hb1⟩
    have HB : Hid (Below w.heap.size w w1) := hb1
    clear hb1
    go_wp2_with fail
    go_ret
    exact ⟨_, rfl, by rw [HE.out]; exact H.out.later HB.out, Only.of_below HB.out _, rfl⟩
  · rcases OF.of h with ⟨_, rfl⟩ | ⟨g, cap, rest, rfl, hof⟩
    · simp at hi0
    rw [e1, Nat.zero_add] at HI
    have hcap := hof.len
    have hcm := hof.cm
    unfold maxLen at hcm
    have HO0 : Hid (OF base w g cap l rest) := hof
    have hgp : g ≠ pb := fun e => hne (by rw [← e]; rfl)
    have hgl := hof.lt
    have HP : Hid (∀ (W : World) (f : Fl), Only [g] w W → Calls Try.prog 60 #[f.val, .pointer (some ⟨pb, 0, none⟩)] W fun e w' => e = .returned (.bool (f.path == p)) ∧ Below W.heap.size W w') := fun W f hW =>
      hit_any f p pb W ((World.cell?_of_block (a := ⟨pb, 0, none⟩) (hW.block pb hpb (by simpa using Ne.symm hgp))).trans hp) (Nat.lt_of_lt_of_le hpb hW.size)
    have HK0 : Hid (cutF p (l.take (i0 + 1)) = l.take i0) := by
      show cutF p (l.take (i0 + 1)) = l.take i0
      rw [List.take_add_one, List.getElem?_eq_getElem hi0, Option.toList_some]
      unfold cutF at e3 ⊢
      rw [List.filter_append, e3, List.filter_cons_of_neg (by simp [e2])]; simp
    obtain ⟨n, hn⟩ : ∃ n, l.length = n := ⟨_, rfl⟩
    have HN : Hid (l.length = n) := hn
    have H2 : Hid (i0 < l.length) := hi0
    rw [hn] at hl hcap hi0 HI ⊢
    clear e1 e2 e3 h hof hp hpb hne hn H
    go_enter Try.func59, Try.ntmps59
    go_wp2_with fail
    refine HI.out.mono ?_
    rintro e w1 ⟨rfl, hb1⟩
    have HB : Hid (Below w.heap.size w w1) := hb1
    clear hb1
    have hi1 : ((i0 : Int) == -1) = false := beq_eq_false_iff_ne.2 (by omega)
    go_wp2_with fail
    go_loopw [5, 6] (fun s5 s6 wr => ∃ (j : Nat) (K M : List Fl), s5 = .int .i64 K.length ∧ s6 = .int .i64 j ∧ j ≤ n ∧ K.length + M.length = j ∧ M ≠ [] ∧ OF base wr g cap (K ++ M ++ l.drop j) rest ∧ K = cutF p (l.take j) ∧ Only [g] w wr) (fun _ s6 _ => n - (intOf s6).toNat)
    case atStart =>
      have h2 := H2.out
      have hN := HN.out
      refine ⟨i0 + 1, l.take i0, [l[i0]'h2], ?_, by go_num, by omega, by simp; omega, by simp, ?_, HK0.out.symm, Only.of_below HB.out _⟩
      · simp; omega
      · have e : l.take i0 ++ [l[i0]'h2] ++ l.drop (i0 + 1) = l := by
          rw [List.append_assoc]
          show l.take i0 ++ (l[i0]'h2 :: l.drop (i0 + 1)) = l
          rw [← List.drop_eq_getElem_cons h2, List.take_append_drop]
        rw [e]
        exact HO0.out.later HB.out
    case round =>
      obtain ⟨j, K, M, rfl, rfl, hj, hKM, hM, hO, hK, hF⟩ := hrel
      have HO : Hid (OF base wr g cap (K ++ M ++ l.drop j) rest) := hO
      have HX : Hid (K = cutF p (l.take j) ∧ Only [g] w wr ∧ K.length + M.length = j ∧ M ≠ []) := ⟨hK, hF, hKM, hM⟩
      have hml : 0 < M.length := List.length_pos_iff.2 hM
      clear hO hK hF
      obtain ⟨ii, hi⟩ : ∃ ii, K.length = ii := ⟨_, rfl⟩
      have HIK : Hid (K.length = ii) := hi
      rw [hi] at hKM ⊢
      have hij : ii < j := by omega
      clear hi hM
      by_cases hlt : j < n
      · have hjl : j < l.length := by have := HN.out; omega
        have hLl : (K ++ M ++ l.drop j).length = n := by have := HN.out; have := HX.out.2.2.1; simp; omega
        have HL : Hid ((K ++ M ++ l.drop j).length = n) := hLl
        obtain ⟨d0, d1, d2, d3⟩ := HO.out.cell (j := j) (by omega)
        rw [get_mid K M (l.drop j) j HX.out.2.2.1 (by omega) (by simp; omega)] at d0 d1 d2 d3
        have e0 : (l.drop j)[0]'(by simp; omega) = l[j]'hjl := by simp
        rw [e0] at d0 d1 d2 d3
        have HT : Hid (l.take (j + 1) = l.take j ++ [l[j]'hjl] ∧ l.drop j = l[j]'hjl :: l.drop (j + 1)) := ⟨by rw [List.take_add_one, List.getElem?_eq_getElem hjl]; rfl, List.drop_eq_getElem_cons hjl⟩
        have hgr := HO.out.lt
        generalize hf : l[j] = f at d0 d1 d2 d3 HT
        clear hf e0 hLl
        obtain ⟨x, hx⟩ : ∃ x, (f.path == p) = x := ⟨_, rfl⟩
        have HC : Hid (∀ W, Only [g] w W → Calls Try.prog 60 #[f.val, .pointer (some ⟨pb, 0, none⟩)] W fun e w' => e = .returned (.bool x) ∧ Below W.heap.size W w') := fun W hW => by rw [← hx]; exact HP.out W f hW
        have HXX : Hid ((f.path == p) = x) := hx
        clear hx
        obtain ⟨q, t, b, s⟩ := f
        simp only [Fl.val] at d0 d1 d2 d3 HC
        have k1 : (0 : Int) ≤ (j : Int) := by omega
        have k2 : (j : Int) < (n : Int) := by omega
        have k3 : (0 : Int) ≤ (ii : Int) := by omega
        have k4 : (ii : Int) < (n : Int) := by omega
        go_wp2_with fail
        refine (HC.out _ (HX.out.2.1.trans (Only.of_below (balloc _ _) _))).mono ?_
        rintro e w2 ⟨rfl, hb2⟩
        have HB2 : Hid (Below wr.heap.size wr w2) := bstep (balloc _ _) hb2
        have HFB : Hid (FB w2 wr.heap.size ⟨q, t, b, s⟩) := (FB.new wr ⟨q, t, b, s⟩ 40).later hb2
        clear hb2 d0 d1 d2 d3
        cases x
        · obtain ⟨c0, c1, c2, c3, hlt1⟩ := HFB.out
          have HO2 : Hid (OF base w2 g cap (K ++ M ++ l.drop j) rest) := HO.out.later HB2.out
          obtain ⟨m0, M', hM'⟩ : ∃ m0 M', M = m0 :: M' := by
            cases M with
            | nil => simp at hml
            | cons m0 M' => exact ⟨m0, M', rfl⟩
          have HMM : Hid (M = m0 :: M') := hM'
          obtain ⟨f0, f1, f2, f3⟩ := HO2.out.cell (j := ii) (by have := HL.out; omega)
          generalize hmm : (K ++ M ++ l.drop j)[ii]'(by have := HL.out; omega) = mm at f0 f1 f2 f3
          clear hmm hM'
          have z0 := HO2.out.soft (ii * 4)
          have z1 := HO2.out.soft (ii * 4 + 1)
          have z2 := HO2.out.soft (ii * 4 + 2)
          have z3 := HO2.out.soft (ii * 4 + 3)
          obtain ⟨mp, mt, mb, ms⟩ := mm
          simp only at c0 c1 c2 c3 f0 f1 f2 f3
          go_wp2_with fail
          go_roundw
          case rel =>
            refine ⟨j + 1, K ++ [⟨q, t, b, s⟩], M' ++ [⟨q, t, b, s⟩], ?_, by go_num, by omega, ?_, by simp, ?_, ?_, ?_⟩
            · have := HIK.out; simp; omega
            · have := HX.out.2.2.1; rw [HMM.out] at this; simp at this ⊢; omega
            · have hs := HO2.out.set (i := ii) (by have := HL.out; omega) ⟨q, t, b, s⟩
              have e : (K ++ M ++ l.drop j).set ii (⟨q, t, b, s⟩ : Fl) = (K ++ [⟨q, t, b, s⟩]) ++ (M' ++ [⟨q, t, b, s⟩]) ++ l.drop (j + 1) := by
                rw [← HIK.out, HMM.out, set_mid, HT.out.2]; simp
              rw [e] at hs
              exact hs
            · rw [HT.out.1]
              have := HX.out.1
              unfold cutF at this ⊢
              rw [List.filter_append, ← this, List.filter_cons_of_pos (by have := HXX.out; simp at this; simp [this])]; rfl
            · exact HX.out.2.1.trans ((Only.of_below HB2.out _).trans (only_set4 _ _ _ _ _ _ _ _ _ _))
          case measure => simp [intOf]; omega
        · go_wp2_with fail
          go_roundw
          case rel =>
            refine ⟨j + 1, K, M ++ [⟨q, t, b, s⟩], by rw [HIK.out], by go_num, by omega, ?_, by simp, ?_, ?_, HX.out.2.1.trans (Only.of_below HB2.out _)⟩
            · have := HX.out.2.2.1; simp; omega
            · have e : K ++ (M ++ [⟨q, t, b, s⟩]) ++ l.drop (j + 1) = K ++ M ++ l.drop j := by rw [HT.out.2]; simp
              rw [e]
              exact HO.out.later HB2.out
            · rw [HT.out.1]
              have := HX.out.1
              unfold cutF at this ⊢
              rw [List.filter_append, ← this, List.filter_cons_of_neg (by have := HXX.out; simp at this; simp [this])]; simp
          case measure => simp [intOf]; omega
      · obtain rfl : j = n := by omega
        have HO2 : Hid (OF base wr g cap (K ++ M) rest) := by
          have h1 := HO.out
          rw [List.drop_eq_nil_of_le (by have := HN.out; omega), List.append_nil] at h1
          exact h1
        obtain ⟨w5, hcl, ho5, rest', hof5⟩ := HO2.out.clear (cap - ii)
        have H5 : Hid (OF base w5 g cap K rest' ∧ Only [g] wr w5) := ⟨hof5, ho5⟩
        have hM2 : M.length = j - ii := by omega
        rw [HIK.out, hM2] at hcl
        clear hof5 ho5 hM2
        have k1 : (0 : Int) ≤ (ii : Int) := by omega
        have k2 : (ii : Int) ≤ (j : Int) := by omega
        have k3 : ¬ (cap = ii) := by omega
        have k4 : (ii : Int) ≤ (cap : Int) := by omega
        have k5 : ¬ (cap = 0) := by omega
        go_wp2_with fail
        go_ret
        refine ⟨.slice (some ⟨g, 0, none⟩) ii cap, rfl, ?_, HX.out.2.1.trans H5.out.2, rfl⟩
        have e : cutF p l = K := by rw [HX.out.1, List.take_of_length_le (by have := HN.out; omega)]
        rw [e, ← HIK.out]
        exact H5.out.1.own
end Go.Proofs.Ytinhdjoidbcfaaa
