/-
  Lists in new memory, with marks behind them.
-/
import Derived.Test.YtinhdjoidbcfaaaFresh
import Derived.Test.YtinhdjoidbcfaaaRfJ
import Derived.Test.YtinhdjoidbcfaaaRfP
import Derived.Test.YtinhdjoidbcfaaaRfF
namespace Go.Proofs.Ytinhdjoidbcfaaa
open Go.RowKit

def mklentF (n : Nat) : List Fl := (List.range n).map fun (i : Nat) => (⟨[63], [], (i : Int), 0⟩ : Fl)
theorem mklentF_succ (k : Nat) : mklentF (k + 1) = mklentF k ++ [(⟨[63], [], (k : Int), 0⟩ : Fl)] := by
  unfold mklentF
  rw [List.range_succ, List.map_append]; rfl
theorem mklentF_len (k : Nat) : (mklentF k).length = k := by simp [mklentF]
def lentF (l : List Fl) : List Fl := l ++ mklentF 20
theorem lentF_len (l : List Fl) : (lentF l).length = l.length + 20 := by unfold lentF; rw [List.length_append, mklentF_len]
theorem FS.front {w : World} {b off n c : Nat} {l m : List Fl} (h : FS w (.slice (some ⟨b, off, none⟩) n c) (l ++ m)) : FS w (.slice (some ⟨b, off, none⟩) l.length c) l := by
  rcases h with ⟨_, h0⟩ | ⟨b', off', cap, e, hc, hlt, hcell⟩
  · have : l = [] := (List.append_eq_nil_iff.1 h0).1
    subst this; exact .inl ⟨⟨_, _, rfl⟩, rfl⟩
  · injection e with e1 e2 e3
    injection e1 with e1
    injection e1 with e4 e5
    subst e3 e4 e5
    refine .inr ⟨b, off, c, rfl, by rw [List.length_append] at hc; omega, hlt, fun i u hu => hcell i u ?_⟩
    rw [fc_append]
    rw [List.getElem?_append_left (by exact (List.getElem?_eq_some_iff.1 hu).1)]; exact hu
set_option maxRecDepth 100000 in
set_option maxHeartbeats 4000000 in
theorem lentF_any {w : World} {v : Value} {l : List Fl} (h : FS w v l) (hl : l.length ≤ 2097152) :
    Calls Try.prog 21 #[v] w fun e w' => ∃ g c, e = .returned (.slice (some ⟨g, 0, none⟩) (l.length + 20) c) ∧ l.length + 20 ≤ c ∧ OwnF w.heap.size w' (.slice (some ⟨g, 0, none⟩) (l.length + 20) c) (lentF l) ∧ Below w.heap.size w w' := by
  have H : Hid (FS w v l) := h
  have HLn : Hid (l.length ≤ 2097152) := hl
  obtain ⟨a, c, hv⟩ : ∃ a c, v = .slice a l.length c := by obtain ⟨a, c, h, _⟩ := h.form; exact ⟨a, c, h⟩
  obtain ⟨n, hn⟩ : ∃ n, l.length = n := ⟨_, rfl⟩
  rw [hn] at hv
  subst hv
  have HN : Hid (l.length = n) := hn
  clear h hn hl
  have hlast : Hid (∀ (w' : World) (u : Value), OwnF w.heap.size w' u (l ++ mklentF 20) → ∃ g c, u = .slice (some ⟨g, 0, none⟩) (l.length + 20) c ∧ l.length + 20 ≤ c ∧ OwnF w.heap.size w' (.slice (some ⟨g, 0, none⟩) (l.length + 20) c) (lentF l)) := fun w' u ho => by
    have e : (l ++ mklentF 20).length = l.length + 20 := lentF_len l
    rcases ho.2 with ⟨rfl, h0⟩ | ⟨g, cap, cur, hu, hb, hg, hn, _⟩
    · omega
    · rw [e] at hu hn
      exact ⟨g, cap, hu, hn, hu ▸ ho⟩
  go_enter Try.func21, Try.ntmps21
  go_wp2_with (first | (at_builtin; refine app_files (base := w.heap.size) (l := []) (k := l) (OwnF.nil _ _) H.out.src (by have := HLn.out; simp; omega) (Nat.le_refl _) rfl (.tmp 5) (.tmp 6) rfl rfl rfl ?_; intro v1 w1 ho1 hg1 hv1))
  have HO1 : Hid (OwnF w.heap.size w1 v1 (l ++ mklentF 0)) := by show OwnF _ _ _ _; simpa [mklentF] using ho1
  have HB1 : Hid (Below w.heap.size w w1) := (Below.refl _ _).grown hg1 (Nat.le_refl _) (by intro k hk; cases hk)
  clear ho1 hg1 hv1
  go_wp2_with fail
  go_loopw [3, 4] (fun o i wr => ∃ k : Nat, k ≤ 20 ∧ i = .int .i64 k ∧ OwnF w.heap.size wr o (l ++ mklentF k) ∧ Below w.heap.size w wr) (fun _ i _ => 20 - (intOf i).toNat)
  case atStart => exact ⟨0, by omega, rfl, HO1.out, HB1.out⟩
  case round =>
    obtain ⟨k, hk, rfl, ho, hb⟩ := hrel
    have HO : Hid (OwnF w.heap.size wr u3 (l ++ mklentF k)) := ho
    have HB : Hid (Below w.heap.size w wr) := hb
    clear ho hb
    by_cases hlt : k < 20
    · have k2 : (k : Int) < 20 := by omega
      have HT : Hid (l ++ mklentF (k + 1) = (l ++ mklentF k) ++ [(⟨[63], [], (k : Int), 0⟩ : Fl)]) := by show _ = _; rw [mklentF_succ, List.append_assoc]
      have HZ : Hid ((l ++ mklentF k).length ≤ 2097172) := by show _ ≤ _; rw [List.length_append, mklentF_len]; have := HLn.out; omega
      generalize l ++ mklentF k = I at *
      go_wp2_with (first | (at_builtin; refine app_files (base := w.heap.size) (l := I) (k := [(⟨[63], [], (k : Int), 0⟩ : Fl)]) (HO.out.later (balloc _ _)) (src_file wr (⟨[63], [], (k : Int), 0⟩ : Fl)) (by have := HZ.out; simp; omega) (by have := HB.out.size; simp; omega) rfl (.tmp 12) (.tmp 15) rfl rfl rfl ?_; intro v2 w2 ho2 hg2 hv2))
      have H2 : Hid (OwnF w.heap.size w2 v2 (I ++ [(⟨[63], [], (k : Int), 0⟩ : Fl)]) ∧ Below w.heap.size w w2) := ⟨ho2, (bstep HB.out (balloc _ _)).grown hg2 (by have := HB.out.size; simp; omega) (fun k hk => (HO.out.lt hk).1)⟩
      clear ho2 hg2 hv2
      go_wp2_with fail
      go_roundw
      case rel => exact ⟨k + 1, by omega, by go_num, by rw [HT.out]; exact H2.out.1, H2.out.2⟩
      case measure => simp [intOf]; omega
    · obtain rfl : k = 20 := by omega
      obtain ⟨g, c', hu, hc, ho⟩ := hlast.out wr u3 HO.out
      have HF : Hid (l.length + 20 ≤ c' ∧ OwnF w.heap.size wr (.slice (some ⟨g, 0, none⟩) (l.length + 20) c') (lentF l)) := ⟨hc, ho⟩
      clear hc ho HO
      subst hu
      go_wp2_with fail
      go_ret
      exact ⟨g, c', rfl, HF.out.1, HF.out.2, HB.out⟩

def mklentC (n : Nat) : List Ch := (List.range n).map fun (i : Nat) => (⟨[63], false, false, ⟨[], [], (i : Int), 0⟩, zf⟩ : Ch)
theorem mklentC_succ (k : Nat) : mklentC (k + 1) = mklentC k ++ [(⟨[63], false, false, ⟨[], [], (k : Int), 0⟩, zf⟩ : Ch)] := by
  unfold mklentC
  rw [List.range_succ, List.map_append]; rfl
theorem mklentC_len (k : Nat) : (mklentC k).length = k := by simp [mklentC]
def lentC (l : List Ch) : List Ch := l ++ mklentC 20
theorem lentC_len (l : List Ch) : (lentC l).length = l.length + 20 := by unfold lentC; rw [List.length_append, mklentC_len]
theorem CS.front {w : World} {b off n c : Nat} {l m : List Ch} (h : CS w (.slice (some ⟨b, off, none⟩) n c) (l ++ m)) : CS w (.slice (some ⟨b, off, none⟩) l.length c) l := by
  rcases h with ⟨_, h0⟩ | ⟨b', off', cap, e, hc, hlt, hcell⟩
  · have : l = [] := (List.append_eq_nil_iff.1 h0).1
    subst this; exact .inl ⟨⟨_, _, rfl⟩, rfl⟩
  · injection e with e1 e2 e3
    injection e1 with e1
    injection e1 with e4 e5
    subst e3 e4 e5
    refine .inr ⟨b, off, c, rfl, by rw [List.length_append] at hc; omega, hlt, fun i u hu => hcell i u ?_⟩
    rw [cc_append]
    rw [List.getElem?_append_left (by exact (List.getElem?_eq_some_iff.1 hu).1)]; exact hu
set_option maxRecDepth 100000 in
set_option maxHeartbeats 4000000 in
theorem lentC_any {w : World} {v : Value} {l : List Ch} (h : CS w v l) (hl : l.length ≤ 2097152) :
    Calls Try.prog 22 #[v] w fun e w' => ∃ g c, e = .returned (.slice (some ⟨g, 0, none⟩) (l.length + 20) c) ∧ l.length + 20 ≤ c ∧ OwnC w.heap.size w' (.slice (some ⟨g, 0, none⟩) (l.length + 20) c) (lentC l) ∧ Below w.heap.size w w' := by
  have H : Hid (CS w v l) := h
  have HLn : Hid (l.length ≤ 2097152) := hl
  obtain ⟨a, c, hv⟩ : ∃ a c, v = .slice a l.length c := h.shape
  obtain ⟨n, hn⟩ : ∃ n, l.length = n := ⟨_, rfl⟩
  rw [hn] at hv
  subst hv
  have HN : Hid (l.length = n) := hn
  clear h hn hl
  have hlast : Hid (∀ (w' : World) (u : Value), OwnC w.heap.size w' u (l ++ mklentC 20) → ∃ g c, u = .slice (some ⟨g, 0, none⟩) (l.length + 20) c ∧ l.length + 20 ≤ c ∧ OwnC w.heap.size w' (.slice (some ⟨g, 0, none⟩) (l.length + 20) c) (lentC l)) := fun w' u ho => by
    have e : (l ++ mklentC 20).length = l.length + 20 := lentC_len l
    rcases ho.2 with ⟨rfl, h0⟩ | ⟨g, cap, cur, hu, hb, hg, hn, _⟩
    · omega
    · rw [e] at hu hn
      exact ⟨g, cap, hu, hn, hu ▸ ho⟩
  go_enter Try.func22, Try.ntmps22
  go_wp2_with (first | (at_builtin; refine app_chs (base := w.heap.size) (l := []) (k := l) (OwnC.nil _ _) H.out.src (by have := HLn.out; simp; omega) (Nat.le_refl _) rfl (.tmp 5) (.tmp 6) rfl rfl rfl ?_; intro v1 w1 ho1 hg1 hv1))
  have HO1 : Hid (OwnC w.heap.size w1 v1 (l ++ mklentC 0)) := by show OwnC _ _ _ _; simpa [mklentC] using ho1
  have HB1 : Hid (Below w.heap.size w w1) := (Below.refl _ _).grown hg1 (Nat.le_refl _) (by intro k hk; cases hk)
  clear ho1 hg1 hv1
  go_wp2_with fail
  go_loopw [3, 4] (fun o i wr => ∃ k : Nat, k ≤ 20 ∧ i = .int .i64 k ∧ OwnC w.heap.size wr o (l ++ mklentC k) ∧ Below w.heap.size w wr) (fun _ i _ => 20 - (intOf i).toNat)
  case atStart => exact ⟨0, by omega, rfl, HO1.out, HB1.out⟩
  case round =>
    obtain ⟨k, hk, rfl, ho, hb⟩ := hrel
    have HO : Hid (OwnC w.heap.size wr u3 (l ++ mklentC k)) := ho
    have HB : Hid (Below w.heap.size w wr) := hb
    clear ho hb
    by_cases hlt : k < 20
    · have k2 : (k : Int) < 20 := by omega
      have HT : Hid (l ++ mklentC (k + 1) = (l ++ mklentC k) ++ [(⟨[63], false, false, ⟨[], [], (k : Int), 0⟩, zf⟩ : Ch)]) := by show _ = _; rw [mklentC_succ, List.append_assoc]
      have HZ : Hid ((l ++ mklentC k).length ≤ 2097172) := by show _ ≤ _; rw [List.length_append, mklentC_len]; have := HLn.out; omega
      generalize l ++ mklentC k = I at *
      go_wp2_with (first | (at_builtin; refine app_chs (base := w.heap.size) (l := I) (k := [(⟨[63], false, false, ⟨[], [], (k : Int), 0⟩, zf⟩ : Ch)]) (HO.out.later (balloc _ _)) (src_ch wr (⟨[63], false, false, ⟨[], [], (k : Int), 0⟩, zf⟩ : Ch)) (by have := HZ.out; simp; omega) (by have := HB.out.size; simp; omega) rfl (.tmp 12) (.tmp 16) rfl rfl rfl ?_; intro v2 w2 ho2 hg2 hv2))
      have H2 : Hid (OwnC w.heap.size w2 v2 (I ++ [(⟨[63], false, false, ⟨[], [], (k : Int), 0⟩, zf⟩ : Ch)]) ∧ Below w.heap.size w w2) := ⟨ho2, (bstep HB.out (balloc _ _)).grown hg2 (by have := HB.out.size; simp; omega) (fun k hk => (HO.out.lt hk).1)⟩
      clear ho2 hg2 hv2
      go_wp2_with fail
      go_roundw
      case rel => exact ⟨k + 1, by omega, by go_num, by rw [HT.out]; exact H2.out.1, H2.out.2⟩
      case measure => simp [intOf]; omega
    · obtain rfl : k = 20 := by omega
      obtain ⟨g, c', hu, hc, ho⟩ := hlast.out wr u3 HO.out
      have HF : Hid (l.length + 20 ≤ c' ∧ OwnC w.heap.size wr (.slice (some ⟨g, 0, none⟩) (l.length + 20) c') (lentC l)) := ⟨hc, ho⟩
      clear hc ho HO
      subst hu
      go_wp2_with fail
      go_ret
      exact ⟨g, c', rfl, HF.out.1, HF.out.2, HB.out⟩
end Go.Proofs.Ytinhdjoidbcfaaa
