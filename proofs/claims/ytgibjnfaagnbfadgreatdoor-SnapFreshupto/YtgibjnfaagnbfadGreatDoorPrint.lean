/-
  The package: a snapshot as a text.
-/
import Derived.Test.YtgibjnfaagnbfadGreatDoorEnv
import Derived.Test.YtgibjnfaagnbfadGreatDoorKeep
namespace Go.Proofs.YtgibjnfaagnbfadGreatDoor
open Go.RowKit

theorem ss_lit (w : World) (l : List (List UInt8)) (n : Nat) (hn : n = l.length) : SS (w.alloc (.cells (sc l).toArray 9)) (.slice (some ⟨w.heap.size, 0, none⟩) n n) l := by
  subst hn
  refine .inr ⟨w.heap.size, 0, l.length, rfl, Nat.le_refl _, by simp, fun i u hu => ?_⟩
  simp
  simpa using hu
theorem gw_env {w : World} (E : Env w) (X : GW w) : Env X.it := E.later X.below

set_option maxRecDepth 100000 in
set_option maxHeartbeats 4000000 in
theorem words_any (f : Fl) (w : World) (hf : Fok f) (E : Env w) : Calls Tryz.prog 18 #[f.val] w fun e w' => ∃ v, e = .returned v ∧ SS w' v (wordsOf f) ∧ Below w.heap.size w w' := by
  obtain ⟨p, t, b, s⟩ := f
  have HF : Hid (Fok ⟨p, t, b, s⟩) := hf
  have HE : Hid (Env w) := E
  clear hf E
  have HI : Hid (∀ w : World, Calls Tryz.prog 38 #[.agg #[.string (bs p), .string (bs t), .int .i64 b, .int .i64 s]] w fun e w' => e = .returned (.bool (isM p)) ∧ Below w.heap.size w w') := fun w => isManifest_any ⟨p, t, b, s⟩ w HF.out
  simp only [Fl.val]
  unfold wordsOf
  simp only
  cases hm : isM p
  · rw [hm] at HI
    simp only [Bool.false_eq_true, if_false]
    go_enter Tryz.func18, Tryz.ntmps18
    go_wp2_with fail
    refine (HI.out _).mono ?_
    rintro e w1 ⟨rfl, hb1⟩
    have hF : Hid (FB w1 w.heap.size ⟨p, t, b, s⟩) := (FB.new w ⟨p, t, b, s⟩ 26).later hb1
    have HB : Hid (Below w.heap.size w w1) := bstep (balloc w _) hb1
    have HE1 : Hid (Env w1) := HE.out.later HB.out
    obtain ⟨c0, c1, c2, c3, hlt⟩ := hF.out
    simp only at c0 c1 c2 c3
    clear hb1
    have HT1 : Hid (∀ W : World, Env W → Calls Tryz.prog 40 #[.int .i64 b] W fun e w' => e = .returned (.string (bs (Lib.itoa b))) ∧ Below W.heap.size W w') := fun W EW => itoa_any b HF.out.b0 HF.out.b1 W EW
    have HT2 : Hid (∀ W : World, Env W → Calls Tryz.prog 40 #[.int .i64 s] W fun e w' => e = .returned (.string (bs (Lib.itoa s))) ∧ Below W.heap.size W w') := fun W EW => itoa_any s HF.out.s0 HF.out.s1 W EW
    go_wp2_with fail
    go_region_held3 (fun w' => w'.cell? ⟨w.heap.size, 0, none⟩ = some (.string (bs p)) ∧ w'.cell? ⟨w.heap.size, 2, none⟩ = some (.int .i64 b) ∧ w'.cell? ⟨w.heap.size, 3, none⟩ = some (.int .i64 s)) (first | go_keep | (exact ⟨(by rw [hb8.cell (p := ⟨w.heap.size, 0, none⟩) hlt]; exact c0), (by rw [hb8.cell (p := ⟨w.heap.size, 2, none⟩) hlt]; exact c2), (by rw [hb8.cell (p := ⟨w.heap.size, 3, none⟩) hlt]; exact c3)⟩)) (first | (go_at_call 40; refine (HT1.out _ (HE1.out.later (Below.refl _ _).drew)).mono ?_; rintro e w' ⟨rfl, hb9⟩; have hb8 : Below w1.heap.size w1 w' := bstep (Below.refl _ _).drew hb9) | (go_at_call 40; refine (HT2.out _ (HE1.out.later hb8)).mono ?_; rintro e w' ⟨rfl, hb7⟩; have hb8 : Below w1.heap.size w1 w' := bstep hb8 hb7))
    have HB3 : Hid (Below w.heap.size w w') := bstep HB.out hb8
    clear hb8 hb7 hb9 c0 c1 c2 c3
    go_wp2_with fail
    go_ret
    exact ⟨_, rfl, ss_lit w' [[102], p, Lib.itoa b, Lib.itoa s] 4 rfl, bstep HB3.out (balloc _ _)⟩
  · rw [hm] at HI
    simp only [if_true]
    go_enter Tryz.func18, Tryz.ntmps18
    go_wp2_with fail
    refine (HI.out _).mono ?_
    rintro e w1 ⟨rfl, hb1⟩
    have hF : Hid (FB w1 w.heap.size ⟨p, t, b, s⟩) := (FB.new w ⟨p, t, b, s⟩ 26).later hb1
    have HB : Hid (Below w.heap.size w w1) := bstep (balloc w _) hb1
    obtain ⟨c0, c1, c2, c3, hlt⟩ := hF.out
    simp only at c0 c1 c2 c3
    clear hb1
    have HT1 : Hid (∀ W : World, Calls Tryz.prog 39 #[.string (bs t)] W fun e w' => e = .returned (.string (bs (hexs t))) ∧ Below W.heap.size W w') := fun W => hex_any t W HF.out.text
    go_wp2_with fail
    go_region_held3 (fun w' => w'.cell? ⟨w.heap.size, 0, none⟩ = some (.string (bs p)) ∧ w'.cell? ⟨w.heap.size, 1, none⟩ = some (.string (bs t))) (first | go_keep | (exact ⟨(by rw [hb8.cell (p := ⟨w.heap.size, 0, none⟩) hlt]; exact c0), (by rw [hb8.cell (p := ⟨w.heap.size, 1, none⟩) hlt]; exact c1)⟩)) (first | (go_at_call 39; refine (HT1.out _).mono ?_; rintro e w' ⟨rfl, hb9⟩; have hb8 : Below w1.heap.size w1 w' := bstep (Below.refl _ _).drew hb9))
    have HB3 : Hid (Below w.heap.size w w') := bstep HB.out hb8
    clear hb8 hb9 c0 c1 c2 c3
    go_wp2_with fail
    go_ret
    exact ⟨_, rfl, ss_lit w' [[116], p, hexs t] 3 rfl, bstep HB3.out (balloc _ _)⟩

theorem IsBuilder_later {T e : TypeId} {B b : Nat} {l : List Value} {w w' : World} (h : Lib.IsBuilder T e B b l w) (hb : Below w.heap.size w w') : Lib.IsBuilder T e B b l w' := by
  have one : ∀ p, Lib.BuilderAt T e B b p l w → Lib.BuilderAt T e B b p l w' := by
    rintro p ⟨h1, v, h2, h3, h4⟩
    refine ⟨h1, v, (hb.block b (Array.getElem?_eq_some_iff.1 h2).1).trans h2, ?_, h4⟩
    rcases h3 with ⟨h0, h | ⟨g, cap, cur, rfl, hbb, hg, hr⟩⟩
    · exact ⟨h0, .inl h⟩
    · exact ⟨h0, .inr ⟨g, cap, cur, rfl, hbb, (hb.block g (Array.getElem?_eq_some_iff.1 hg).1).trans hg, hr⟩⟩
  rcases h with h | h
  · exact .inl (one _ h)
  · exact .inr (one _ h)
theorem words_len {f : Fl} (h : fileE f = 0) (hf : Fok f) : (blanks (wordsOf f)).length ≤ 8388956 ∧ (line f).length ≤ 8388957 := by
  have := line_len h 4194304 hf.text
  unfold line at this ⊢
  simp only [List.length_append, List.length_cons, List.length_nil] at this ⊢
  omega
theorem wordsOf_len (f : Fl) : (wordsOf f).length ≤ 4 := by unfold wordsOf; split <;> simp
theorem prt_take_len {l : List Fl} (h : ∀ f ∈ l, fileE f = 0) (h5 : l.length ≤ 512) (sm : FSm l) (k : Nat) : (prt (l.take k)).length ≤ 2500000000000 := by
  have h1 := prt_len 4194304 (l.take k) (fun f hf => h f (List.mem_of_mem_take hf)) (fun f hf => (sm.each f (List.mem_of_mem_take hf)).text)
  have h2 : (l.take k).length ≤ 512 := by simp; omega
  have h3 : (l.take k).length * (2 * 4194304 + 200) ≤ 512 * (2 * 4194304 + 200) := Nat.mul_le_mul_right _ h2
  omega

set_option maxRecDepth 100000 in
set_option maxHeartbeats 4000000 in
theorem print_any {w : World} {v : Value} {l : List Fl} (h : FS w v l) (sm : FSm l) (E : Env w) :
    Calls Tryz.prog 5 #[v] w fun e w' => e = .returned (.tuple #[.string (bs (if validE l = 0 then prt l else [])), .int .i64 (validE l)]) ∧ Below w.heap.size w w' := by
  have H : Hid (FS w v l) := h
  have HE : Hid (Env w) := E
  have SM : Hid (FSm l) := sm
  have hlen : l.length ≤ 4194304 := sm.len
  have HV : Hid (∀ W : World, Below w.heap.size w W → Calls Tryz.prog 9 #[v] W fun e w' => e = .returned (.int .i64 (validE l)) ∧ Below w.heap.size w w') := fun W hb =>
    (valid2_any (H.out.later hb) SM.out).mono fun e w2 ⟨he, h2⟩ => ⟨he, bstep hb h2⟩
  clear sm E
  by_cases hv : validE l = 0
  · have HS : Hid (∀ f ∈ l, fileE f = 0) := stand_all ((validE_zero l).1 hv)
    have H5 : Hid (l.length ≤ 512) := ((stand_iff l).1 ((validE_zero l).1 hv)).1
    rw [if_pos hv]
    rw [hv] at HV ⊢
    clear hv
    obtain ⟨a, c, rfl, _⟩ := h.form
    rename_i q1
    clear h q1
    obtain ⟨n, hn⟩ : ∃ n, l.length = n := ⟨_, rfl⟩
    have H' : Hid (FS w (.slice a l.length c) l) := H.out
    clear H
    rw [hn] at hlen HV ⊢
    have HN : Hid (l.length = n) := hn
    clear hn
    go_enter Tryz.func5, Tryz.ntmps5
    go_wp2_with fail
    refine (HV.out _ (Below.refl _ _)).mono ?_
    rintro e w1 ⟨rfl, hb1⟩
    have HB1 : Hid (Below w.heap.size w w1) := hb1
    have hz1 := hb1.size
    have h8 := HE.out.big
    clear hb1
    go_wp2_with fail
    obtain ⟨G, hG⟩ : ∃ G, w1.heap.size = G := ⟨_, rfl⟩
    have I0 : Hid (Lib.IsBuilder 47 5 G G (Lib.byteCells []) (w1.alloc (.cells #[.pointer none, .slice none 0 0] 47)) ∧ Below G w1 (w1.alloc (.cells #[.pointer none, .slice none 0 0] 47))) := by
      rw [← hG]; exact ⟨Lib.fresh_isBuilder 47 5 w1, balloc _ _⟩
    rw [hG]
    rw [hG] at hz1
    have HG : Hid (w1.heap.size = G) := hG
    clear hG
    go_loopw [15] (fun i wr => ∃ k : Nat, k ≤ n ∧ i = .int .i64 k ∧ Lib.IsBuilder 47 5 G G (Lib.byteCells (prt (l.take k))) wr ∧ Below G w1 wr) (fun i _ => n - (intOf i).toNat)
    case atStart => exact ⟨0, by omega, rfl, by simpa [prt] using I0.out.1, I0.out.2⟩
    case round =>
      obtain ⟨k, hk, rfl, hi, hb⟩ := hrel
      have HI : Hid (Lib.IsBuilder 47 5 G G (Lib.byteCells (prt (l.take k))) wr) := hi
      have HB : Hid (Below G w1 wr) := hb
      have HW : Hid (Below w.heap.size w wr) := below_trans HB1.out (below_mono hb hz1)
      have hz2 := hb.size
      have hz3 : G ≤ wr.heap.size := by have := HG.out; omega
      clear hi hb
      by_cases hlt : k < n
      · have hkl : k < l.length := by have := HN.out; omega
        obtain ⟨b, off, ea, hbw, d0, d1, d2, d3⟩ := FS.at H'.out HW.out hkl
        subst ea
        have F : Hid (Fok l[k] ∧ fileE l[k] = 0) := ⟨SM.out.at hkl, HS.out _ (List.getElem_mem _)⟩
        have HP : Hid (prt (l.take (k + 1)) = prt (l.take k) ++ blanks (wordsOf (l[k]'hkl)) ++ [10]) := by
          have e : l.take (k + 1) = l.take k ++ [l[k]'hkl] := by rw [List.take_add_one, List.getElem?_eq_getElem hkl]; rfl
          show prt (l.take (k + 1)) = _
          rw [e, prt_app]
          simp [prt, line]
        have HPL : Hid ((prt (l.take k)).length ≤ 2500000000000) := prt_take_len HS.out H5.out SM.out k
        obtain ⟨f, hf⟩ : ∃ f, l[k] = f := ⟨_, rfl⟩
        rw [hf] at d0 d1 d2 d3 F HP
        have HWo : Hid (∀ W : World, Env W → Calls Tryz.prog 18 #[.agg #[.string (bs f.path), .string (bs f.text), .int .i64 f.blob, .int .i64 f.size]] W fun e w' => ∃ v, e = .returned v ∧ SS w' v (wordsOf f) ∧ Below W.heap.size W w') := fun W EW => words_any f W F.out.1 EW
        have HL : Hid ((blanks (wordsOf f)).length ≤ 8388956) := (words_len F.out.2 F.out.1).1
        clear hf
        have k1 : (0 : Int) ≤ (k : Int) := by omega
        have k2 : (k : Int) < (n : Int) := by omega
        go_wp2_with fail
        obtain ⟨w2, hw2⟩ : ∃ w2, wr.alloc (.cells #[.string (bs f.path), .string (bs f.text), .int .i64 f.blob, .int .i64 f.size] 26) = w2 := ⟨_, rfl⟩
        have HB2 : Hid (Below wr.heap.size wr w2) := by rw [← hw2]; exact balloc _ _
        rw [hw2]
        clear hw2 d0 d1 d2 d3
        refine (HWo.out _ ((HE.out.later HW.out).later HB2.out)).mono ?_
        rintro e w3 ⟨v3, rfl, hs3, hb3⟩
        have S3 : Hid (SS w3 v3 (wordsOf f)) := hs3
        have HB3 : Hid (Below wr.heap.size wr w3) := bstep HB2.out hb3
        clear hs3 hb3
        go_wp2_with fail
        refine (join_any S3.out (by have := wordsOf_len f; omega) (by have := HL.out; omega)).mono ?_
        rintro e w4 ⟨rfl, hb4⟩
        have HB4 : Hid (Below wr.heap.size wr w4) := bstep HB3.out hb4
        have hz4 := HB4.out.size
        clear hb4
        go_wp2_with fail
        refine (write_any (blanks (wordsOf f)) (IsBuilder_later HI.out HB4.out) (by have := HPL.out; have := HL.out; omega) (by omega)).mono ?_
        rintro e w5 ⟨v5, rfl, hi5, hb5⟩
        have I5 : Hid (Lib.IsBuilder 47 5 G G (Lib.byteCells (prt (l.take k) ++ blanks (wordsOf f))) w5) := hi5
        have HB5 : Hid (Below G w1 w5) := below_trans (below_trans HB.out (below_mono HB4.out hz3)) hb5
        have hz5 := hb5.size
        clear hi5 hb5
        go_wp2_with fail
        refine (write_any [10] I5.out (by have := HPL.out; have := HL.out; rw [List.length_append]; simp; omega) (by omega)).mono ?_
        rintro e w6 ⟨v6, rfl, hi6, hb6⟩
        have I6 : Hid (Lib.IsBuilder 47 5 G G (Lib.byteCells (prt (l.take (k + 1)))) w6) := by rw [HP.out]; exact hi6
        have HB6 : Hid (Below G w1 w6) := below_trans HB5.out hb6
        clear hi6 hb6
        go_wp2_with fail
        go_roundw
        case rel => exact ⟨k + 1, by omega, by go_num, I6.out, HB6.out⟩
        case measure => simp [intOf]; omega
      · obtain rfl : k = n := by omega
        go_wp2_with fail
        refine (string_any HI.out hz3).mono ?_
        rintro e w2 ⟨rfl, hb2⟩
        have HB2 : Hid (Below w.heap.size w w2) := below_trans HW.out (below_mono hb2 hz1)
        clear hb2
        have e : l.take k = l := List.take_of_length_le (by have := HN.out; omega)
        rw [e]
        go_wp2_with fail
        go_ret2
        exact ⟨rfl, HB2.out⟩
  · rw [if_neg hv]
    have hd : (validE l != 0) = true := by simpa using hv
    generalize validE l = V at *
    go_enter Tryz.func5, Tryz.ntmps5
    go_wp2_with fail
    refine (HV.out _ (Below.refl _ _)).mono ?_
    rintro e w1 ⟨rfl, hb1⟩
    have HB1 : Hid (Below w.heap.size w w1) := hb1
    clear hb1
    go_wp2_with fail
    go_ret2
    exact ⟨rfl, HB1.out⟩
end Go.Proofs.YtgibjnfaagnbfadGreatDoor
