/-
  Lists held against each other; lists in new memory with marks behind them.
-/
import Derived.Test.YtebidnepanogcaaDoorFd
import Derived.OwnWalk
namespace Go.Proofs.YtebidnepanogcaaDoor
open Go.RowKit

theorem leq_step (a b : List Fl) (k : Nat) (ha : k < a.length) (hb : k < b.length) : leq (a.drop k) (b.drop k) = (feq (a[k]'ha) (b[k]'hb) && leq (a.drop (k + 1)) (b.drop (k + 1))) := by
  rw [List.drop_eq_getElem_cons ha, List.drop_eq_getElem_cons hb, leq]
theorem leq_len {a b : List Fl} (h : a.length ≠ b.length) : leq a b = false := by
  cases e : leq a b
  · rfl
  · exact absurd (congrArg List.length ((leq_iff a b).1 e)) h
set_option maxHeartbeats 2000000 in
set_option maxRecDepth 100000 in
theorem files_any {w : World} {va vb : Value} {A B : List Fl} (h1 : FS w va A) (h2 : FS w vb B) (hA : A.length ≤ 140737488355328) :
    Calls Tryd.prog 20 #[va, vb] w fun e w' => e = .returned (.bool (leq A B)) ∧ Below w.heap.size w w' := by
  have CA : Hid (FS w va A) := h1
  have CB : Hid (FS w vb B) := h2
  obtain ⟨a, c, rfl⟩ : ∃ a c, va = .slice a A.length c := by obtain ⟨a, c, h, _⟩ := h1.form; exact ⟨a, c, h⟩
  obtain ⟨b, c', rfl⟩ : ∃ a c, vb = .slice a B.length c := by obtain ⟨a, c, h, _⟩ := h2.form; exact ⟨a, c, h⟩
  clear h1 h2
  have CA' : Hid (FS w (.slice a A.length c) A) := CA.out
  have CB' : Hid (FS w (.slice b B.length c') B) := CB.out
  clear CA CB
  by_cases hl : A.length = B.length
  · have e1 : (((A.length : Int)) != (B.length : Int)) = false := by rw [hl]; simp
    obtain ⟨r, hr⟩ : ∃ r, leq A B = r := ⟨_, rfl⟩
    rw [hr]
    have HR : Hid (leq (A.drop 0) (B.drop 0) = r) := hr
    clear hr
    have q1 := neq_run
    have q2 := guard_run
    go_enter Tryd.func20, Tryd.ntmps20
    go_wp2_with fail
    go_loopw [5] (fun i wr => ∃ k n : Nat, k ≤ A.length ∧ i = .int .i64 k ∧ wr = w.drewN n ∧ leq (A.drop k) (B.drop k) = r) (fun i _ => A.length - (intOf i).toNat)
    case atStart => exact ⟨0, 0, Nat.zero_le _, rfl, rfl, HR.out⟩
    case round =>
      obtain ⟨k, n, hk, rfl, rfl, hd⟩ := hrel
      have HD : Hid (leq (A.drop k) (B.drop k) = r) := hd
      clear hd
      by_cases hlt : k < A.length
      · have hlt2 : k < B.length := by omega
        have hkb : (k : Int) < (B.length : Int) := by omega
        have HD2 : Hid ((feq (A[k]'hlt) (B[k]'hlt2) && leq (A.drop (k + 1)) (B.drop (k + 1))) = r) := by
          have h1 := HD.out
          rw [leq_step A B k hlt hlt2] at h1; exact h1
        obtain ⟨g1, o1, ea, hg1, d0, d1, d2, d3⟩ := FS.at CA'.out (Below.refl _ w) hlt
        subst ea
        obtain ⟨g2, o2, ea, hg2, e0, e1', e2, e3⟩ := FS.at CB'.out (Below.refl _ w) hlt2
        subst ea
        generalize hf : A[k] = f at d0 d1 d2 d3 HD2
        generalize hg : B[k] = g at e0 e1' e2 e3 HD2
        clear hf hg
        obtain ⟨p, t, bl, s⟩ := f
        obtain ⟨p2, t2, bl2, s2⟩ := g
        simp only at d0 d1 d2 d3 e0 e1' e2 e3 HD2
        go_wp2_with fail
        go_region
        generalize feq _ _ = x at *
        cases x
        · go_wp2_with fail
          go_ret
          refine ⟨?_, ⟨rfl, rfl, rfl, Nat.le_refl _, fun _ _ => rfl⟩⟩
          have h1 := HD2.out
          rw [Bool.false_and] at h1
          rw [← h1]; rfl
        · go_wp2_with fail
          go_roundw
          case rel => exact ⟨k + 1, n + 1, by omega, by go_num, rfl, by have h1 := HD2.out; rwa [Bool.true_and] at h1⟩
          case measure => simp [intOf]; omega
      · obtain rfl : k = A.length := by omega
        go_wp2_with fail
        go_ret
        refine ⟨?_, ⟨rfl, rfl, rfl, Nat.le_refl _, fun _ _ => rfl⟩⟩
        have h1 := HD.out
        rw [List.drop_eq_nil_of_le (Nat.le_refl _), List.drop_eq_nil_of_le (by omega)] at h1
        rw [← h1]; rfl
  · have hd : ¬ (A.length : Int) = (B.length : Int) := by omega
    have e0 : leq A B = false := leq_len hl
    rw [e0]
    go_enter Tryd.func20, Tryd.ntmps20
    go_wp2_with fail
    go_ret
    exact ⟨rfl, Below.refl _ _⟩
def mklentF (n : Nat) : List Fl := (List.range n).map fun (i : Nat) => (⟨[63], [], (i : Int), 0⟩ : Fl)
theorem mklentF_succ (k : Nat) : mklentF (k + 1) = mklentF k ++ [(⟨[63], [], (k : Int), 0⟩ : Fl)] := by
  unfold mklentF
  rw [List.range_succ, List.map_append]; rfl
theorem mklentF_len (k : Nat) : (mklentF k).length = k := by simp [mklentF]
def lentF (l : List Fl) : List Fl := l ++ mklentF 20
theorem lentF_len (l : List Fl) : (lentF l).length = l.length + 20 := by unfold lentF; rw [List.length_append, mklentF_len]
theorem FS.front {w : World} {b off n c : Nat} {l m : List Fl} (h : FS w (.slice (some ⟨b, off, none⟩) n c) (l ++ m)) : FS w (.slice (some ⟨b, off, none⟩) l.length c) l := by
  rcases h with ⟨_, h0⟩ | ⟨b', off', cap, e, hc, hlt, hcell⟩
  · have : l = [] := (List.append_eq_nil_iff.1 h0).1
    subst this; exact .inl ⟨⟨_, _, rfl⟩, rfl⟩
  · injection e with e1 e2 e3
    injection e1 with e1
    injection e1 with e4 e5
    subst e3 e4 e5
    refine .inr ⟨b, off, c, rfl, by rw [List.length_append] at hc; omega, hlt, fun i u hu => hcell i u ?_⟩
    rw [fc_append]
    rw [List.getElem?_append_left (by exact (List.getElem?_eq_some_iff.1 hu).1)]; exact hu
set_option maxRecDepth 100000 in
set_option maxHeartbeats 4000000 in
theorem lentF_any {w : World} {v : Value} {l : List Fl} (h : FS w v l) (hl : l.length ≤ 2097152) :
    Calls Tryd.prog 18 #[v] w fun e w' => ∃ g c, e = .returned (.slice (some ⟨g, 0, none⟩) (l.length + 20) c) ∧ l.length + 20 ≤ c ∧ OwnF w.heap.size w' (.slice (some ⟨g, 0, none⟩) (l.length + 20) c) (lentF l) ∧ Below w.heap.size w w' := by
  have H : Hid (FS w v l) := h
  have HLn : Hid (l.length ≤ 2097152) := hl
  obtain ⟨a, c, hv⟩ : ∃ a c, v = .slice a l.length c := by obtain ⟨a, c, h, _⟩ := h.form; exact ⟨a, c, h⟩
  obtain ⟨n, hn⟩ : ∃ n, l.length = n := ⟨_, rfl⟩
  rw [hn] at hv
  subst hv
  have HN : Hid (l.length = n) := hn
  clear h hn hl
  have hlast : Hid (∀ (w' : World) (u : Value), OwnF w.heap.size w' u (l ++ mklentF 20) → ∃ g c, u = .slice (some ⟨g, 0, none⟩) (l.length + 20) c ∧ l.length + 20 ≤ c ∧ OwnF w.heap.size w' (.slice (some ⟨g, 0, none⟩) (l.length + 20) c) (lentF l)) := fun w' u ho => by
    have e : (l ++ mklentF 20).length = l.length + 20 := lentF_len l
    rcases ho.2 with ⟨rfl, h0⟩ | ⟨g, cap, cur, hu, hb, hg, hn, _⟩
    · omega
    · rw [e] at hu hn
      exact ⟨g, cap, hu, hn, hu ▸ ho⟩
  go_enter Tryd.func18, Tryd.ntmps18
  go_wp2_with (first | (at_builtin; refine app_files (base := w.heap.size) (l := []) (k := l) (OwnF.nil _ _) H.out.src (by have := HLn.out; simp; omega) (Nat.le_refl _) rfl (.tmp 5) (.tmp 6) rfl rfl rfl ?_; intro v1 w1 ho1 hg1 hv1))
  have HO1 : Hid (OwnF w.heap.size w1 v1 (l ++ mklentF 0)) := by show OwnF _ _ _ _; simpa [mklentF] using ho1
  have HB1 : Hid (Below w.heap.size w w1) := (Below.refl _ _).grown hg1 (Nat.le_refl _) (by intro k hk; cases hk)
  clear ho1 hg1 hv1
  go_wp2_with fail
  go_loopw [3, 4] (fun o i wr => ∃ k : Nat, k ≤ 20 ∧ i = .int .i64 k ∧ OwnF w.heap.size wr o (l ++ mklentF k) ∧ Below w.heap.size w wr) (fun _ i _ => 20 - (intOf i).toNat)
  case atStart => exact ⟨0, by omega, rfl, HO1.out, HB1.out⟩
  case round =>
    obtain ⟨k, hk, rfl, ho, hb⟩ := hrel
    have HO : Hid (OwnF w.heap.size wr u3 (l ++ mklentF k)) := ho
    have HB : Hid (Below w.heap.size w wr) := hb
    clear ho hb
    by_cases hlt : k < 20
    · have k2 : (k : Int) < 20 := by omega
      have HT : Hid (l ++ mklentF (k + 1) = (l ++ mklentF k) ++ [(⟨[63], [], (k : Int), 0⟩ : Fl)]) := by show _ = _; rw [mklentF_succ, List.append_assoc]
      have HZ : Hid ((l ++ mklentF k).length ≤ 2097172) := by show _ ≤ _; rw [List.length_append, mklentF_len]; have := HLn.out; omega
      generalize l ++ mklentF k = I at *
      go_wp2_with (first | (at_builtin; refine app_files (base := w.heap.size) (l := I) (k := [(⟨[63], [], (k : Int), 0⟩ : Fl)]) (HO.out.later (balloc _ _)) (src_file wr (⟨[63], [], (k : Int), 0⟩ : Fl)) (by have := HZ.out; simp; omega) (by have := HB.out.size; simp; omega) rfl (.tmp 12) (.tmp 15) rfl rfl rfl ?_; intro v2 w2 ho2 hg2 hv2))
      have H2 : Hid (OwnF w.heap.size w2 v2 (I ++ [(⟨[63], [], (k : Int), 0⟩ : Fl)]) ∧ Below w.heap.size w w2) := ⟨ho2, (bstep HB.out (balloc _ _)).grown hg2 (by have := HB.out.size; simp; omega) (fun k hk => (HO.out.lt hk).1)⟩
      clear ho2 hg2 hv2
      go_wp2_with fail
      go_roundw
      case rel => exact ⟨k + 1, by omega, by go_num, by rw [HT.out]; exact H2.out.1, H2.out.2⟩
      case measure => simp [intOf]; omega
    · obtain rfl : k = 20 := by omega
      obtain ⟨g, c', hu, hc, ho⟩ := hlast.out wr u3 HO.out
      have HF : Hid (l.length + 20 ≤ c' ∧ OwnF w.heap.size wr (.slice (some ⟨g, 0, none⟩) (l.length + 20) c') (lentF l)) := ⟨hc, ho⟩
      clear hc ho HO
      subst hu
      go_wp2_with fail
      go_ret
      exact ⟨g, c', rfl, HF.out.1, HF.out.2, HB.out⟩

end Go.Proofs.YtebidnepanogcaaDoor
