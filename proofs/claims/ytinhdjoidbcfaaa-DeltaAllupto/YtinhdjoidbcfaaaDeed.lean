/-
  Deeds: a file cut out, a file put in; a copy of files.
-/
import Derived.Test.YtinhdjoidbcfaaaIns2
import Derived.Lib.SliceRun
namespace Go.Proofs.Ytinhdjoidbcfaaa
open Go.RowKit

theorem ownF_empty (w : World) (base : Nat) (h : base ≤ w.heap.size) : OwnF base (w.alloc (.cells #[] 40)) (.slice (some ⟨w.heap.size, 0, none⟩) 0 0) [] :=
  ⟨rfl, .inr ⟨w.heap.size, 0, #[], rfl, h, heap_alloc_new w _, Nat.le_refl _, by unfold maxLen; omega, rfl, rfl⟩⟩
set_option maxRecDepth 100000 in
set_option maxHeartbeats 2000000 in
theorem clone_any {w : World} {v : Value} {l : List Fl} (h : FS w v l) (hl : l.length ≤ 100000000) : Calls Try.prog 30 #[v] w fun e w' => ∃ v', e = .returned v' ∧ OwnF w.heap.size w' v' l ∧ Below w.heap.size w w' := by
  have H : Hid (FS w v l) := h
  have q22 : ∀ (w : World) (a : Option Addr) (n c n' c' : Nat), (binOp .eql 22 (.slice a n c) (.slice none n' c')).run Try.prog w = .ok (.bool a.isNone) w := fun w a n c n' c' => Lib.run_eql_slice_nil w _ _ a n c n' c' und22
  obtain ⟨ad, c, rfl, hf⟩ := h.form
  cases ad with
  | none =>
    have hz : l.length = 0 := by
      rcases Nat.eq_zero_or_pos l.length with h0 | h0
      · exact h0
      · obtain ⟨b, off, e, _⟩ := hf 0 h0
        simp at e
    have HE : Hid (l = []) := List.eq_nil_of_length_eq_zero hz
    clear hf h
    rw [hz]
    go_enter Try.func30, Try.ntmps30
    go_wp2_with fail
    go_ret
    exact ⟨.slice none 0 0, rfl, by rw [HE.out]; exact OwnF.nil _ _, Below.refl _ _⟩
  | some ad =>
    obtain ⟨n, hn⟩ : ∃ n, l.length = n := ⟨_, rfl⟩
    have H' : Hid (FS w (.slice (some ad) n c) l ∧ l.length ≤ 100000000) := ⟨by rw [← hn]; exact H.out, hl⟩
    clear H hf h hl
    rw [hn]
    clear hn
    go_enter Try.func30, Try.ntmps30
    go_wp2_with (first | (at_builtin; refine app_files (base := w.heap.size) (l := []) (k := l) (ownF_empty w _ (Nat.le_refl _)) (H'.out.1.later (balloc _ _)).src (by have := H'.out.2; simp; omega) (by simp) rfl (.tmp 5) (.tmp 6) rfl rfl rfl ?_; intro v2 w2 ho2 hg2 hv2))
    go_ret
    refine ⟨v2, rfl, by simpa using ho2, (balloc _ _).grown hg2 (by simp) (fun k hk => ?_)⟩
    simp only [Value.ownBlock, Option.some.injEq] at hk
    omega

set_option maxHeartbeats 1000000 in
theorem cut_mk (p : List UInt8) (w : World) : Calls Try.prog 45 #[.string (bs p)] w fun e w' => e = .returned (.func (.func 58) #[] #[.pointer (some ⟨w.heap.size, 0, none⟩)]) ∧ w' = w.alloc (.cells #[.string (bs p)] 9) := by
  go_enter Try.func45, Try.ntmps45
  go_wp2_with fail
  go_ret
  exact ⟨rfl, rfl⟩
set_option maxHeartbeats 1000000 in
theorem put_mk (f : Fl) (w : World) : Calls Try.prog 46 #[f.val] w fun e w' => e = .returned (.func (.func 61) #[] #[.pointer (some ⟨w.heap.size, 0, none⟩)]) ∧ w' = w.alloc (.cells #[.string (bs f.path), .string (bs f.text), .int .i64 f.blob, .int .i64 f.size] 40) := by
  obtain ⟨p, t, b, s⟩ := f
  simp only [Fl.val]
  go_enter Try.func46, Try.ntmps46
  go_wp2_with fail
  go_ret
  exact ⟨rfl, rfl⟩

theorem only_below {base : Nat} {w w' : World} {v : Value} {l : List Fl} (h : OwnF base w v l) (ho : Only (bl v) w w') (hb : base ≤ w.heap.size) : Below base w w' :=
  ho.below hb (fun k hk => by
    unfold bl at hk
    cases e : v.ownBlock with
    | none => rw [e] at hk; simp at hk
    | some j => rw [e] at hk; simp at hk; subst hk; exact (h.lt e).1)
set_option maxHeartbeats 1000000 in
theorem do_cut {base : Nat} {w : World} {v : Value} {l : List Fl} (h : OwnF base w v l) (hl : l.length ≤ 140737488355328) (p : List UInt8) (pb : Nat) (hp : w.cell? ⟨pb, 0, none⟩ = some (.string (bs p))) (hpb : pb < base) (hbase : base ≤ w.heap.size) :
    Calls Try.prog 58 #[v, .pointer (some ⟨pb, 0, none⟩)] w fun e w' => ∃ v', e = .returned v' ∧ OwnF base w' v' (cutF p l) ∧ Below base w w' := by
  have HD : Hid (Calls Try.prog 59 #[v, .func (.func 60) #[] #[.pointer (some ⟨pb, 0, none⟩)]] w fun e w' => ∃ v', e = .returned v' ∧ OwnF base w' v' (cutF p l) ∧ Below base w w') := by
    refine (delete_f h hl p pb hp (by omega) (fun e => by have := (h.lt e).1; omega)).mono ?_
    rintro e w' ⟨v', rfl, h1, h2, _⟩
    exact ⟨v', rfl, h1, only_below h h2 hbase⟩
  clear h hp
  go_enter Try.func58, Try.ntmps58
  go_wp2_with fail
  refine HD.out.mono ?_
  rintro e w' ⟨v', rfl, h1, h2⟩
  have H : Hid (OwnF base w' v' (cutF p l) ∧ Below base w w') := ⟨h1, h2⟩
  clear h1 h2
  go_wp2_with fail
  go_ret
  exact ⟨v', rfl, H.out.1, H.out.2⟩
set_option maxHeartbeats 2000000 in
theorem do_put {base : Nat} {w : World} {v : Value} {l : List Fl} (h : OwnF base w v l) (up : RUp Fl.path l) (hl : l.length + 1 ≤ 100000000) (hs : ∀ x ∈ l, x.path.length ≤ 140737488355328) (f : Fl) (hf : f.path.length ≤ 140737488355328) (pb : Nat) (hp : FB w pb f) (_hpb : pb < base) (hbase : base ≤ w.heap.size) :
    Calls Try.prog 61 #[v, .pointer (some ⟨pb, 0, none⟩)] w fun e w' => ∃ v', e = .returned v' ∧ OwnF base w' v' (insF f l) ∧ Below base w w' := by
  have HS : Hid (Calls Try.prog 62 #[v, f.val, .func (.func 63) #[] #[]] w fun e w' => ∃ (a : Nat) (b : Bool), e = .returned (.tuple #[.int .i64 a, .bool b]) ∧ a ≤ l.length ∧ insF f l = l.take a ++ f :: l.drop a ∧ Below w.heap.size w w') := search_f f h.fs up (by omega) hs hf
  have H : Hid (OwnF base w v l ∧ FB w pb f ∧ l.length + 1 ≤ 100000000) := ⟨h, hp, hl⟩
  obtain ⟨ad, c, rfl⟩ := h.form
  clear h up hs hf hp hl
  obtain ⟨n, hn⟩ : ∃ n, l.length = n := ⟨_, rfl⟩
  rw [hn] at HS H ⊢
  have HN : Hid (l.length = n) := hn
  clear hn
  obtain ⟨fp, ft, fb, fs⟩ := f
  obtain ⟨c0, c1, c2, c3, _⟩ := H.out.2.1
  simp only [Fl.val] at HS c0 c1 c2 c3
  go_enter Try.func61, Try.ntmps61
  go_wp2_with fail
  refine HS.out.mono ?_
  rintro e w1 ⟨a, b, rfl, h1, h2, hb1⟩
  have H1 : Hid (a ≤ n ∧ insF ⟨fp, ft, fb, fs⟩ l = l.take a ++ ⟨fp, ft, fb, fs⟩ :: l.drop a ∧ Below w.heap.size w w1 ∧ OwnF base w1 (.slice ad n c) l) := ⟨h1, h2, hb1, H.out.1.later hb1⟩
  have hpw : pb < w.heap.size := by omega
  obtain ⟨e0, e1, e2, e3, _⟩ := H.out.2.1.later hb1
  simp only at e0 e1 e2 e3
  have hz1 := hb1.size
  clear h1 h2 hb1 c0 c1 c2 c3
  go_wp2_with fail
  refine (insert_f (H1.out.2.2.2.later (balloc _ _)) ⟨fp, ft, fb, fs⟩ w1.heap.size (VB.new w1 ⟨fp, ft, fb, fs⟩) (fun e => by have := (H1.out.2.2.2.lt e).2; omega) a (by have := H1.out.1; have := HN.out; omega) (by have := H.out.2.2; have := HN.out; omega) (by simp; omega)).mono ?_
  rintro e w2 ⟨v2, rfl, h3, h4, _⟩
  have H2 : Hid (OwnF base w2 v2 (insF ⟨fp, ft, fb, fs⟩ l) ∧ Below base w w2) := by
    refine ⟨by rw [H1.out.2.1]; exact h3, ?_⟩
    have hb2 := only_below (H1.out.2.2.2.later (balloc _ _)) h4 (by simp; omega)
    exact below_trans (below_mono (bstep H1.out.2.2.1 (balloc _ _)) hbase) hb2
  clear h3 h4
  go_wp2_with fail
  go_ret
  exact ⟨v2, rfl, H2.out.1, H2.out.2⟩
end Go.Proofs.Ytinhdjoidbcfaaa
