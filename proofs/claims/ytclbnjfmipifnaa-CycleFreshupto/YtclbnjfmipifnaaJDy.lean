/-
  The document's Edge, walked.
  The document's Out.
  The document's ready.
-/
import Derived.Test.YtclbnjfmipifnaaJDe
namespace Go.Proofs.Ytclbnjfmipifnaa
open Go.RowKit Go.Maps

theorem eql_e' (w : World) (p n q m p' n' q' m' : List UInt8) : (binOp .eql 66 (.agg #[.string (bs p), .string (bs n), .string (bs q), .string (bs m)]) (.agg #[.string (bs p'), .string (bs n'), .string (bs q'), .string (bs m')])).run Try.prog w = .ok (.bool (eeq (⟨p, n⟩, ⟨q, m⟩) (⟨p', n'⟩, ⟨q', m'⟩))) w := eql_e w ⟨p, n⟩ ⟨q, m⟩ ⟨p', n'⟩ ⟨q', m'⟩

set_option maxRecDepth 100000 in
set_option maxHeartbeats 8000000 in
theorem dedge_any {w : World} {F : Nat → Prop} {d : Nat} {N : List Lb} {E : List Ee} (h : DG w F d N E) (a b : Lb) (ha : Lu a) (hb : Lu b) (hz : N.length + 2 ≤ 1000000) (hy : E.length + 1 ≤ 1000000) :
    Calls Try.prog 28 #[.pointer (some ⟨d, 0, none⟩), a.val, b.val] w fun e w' => e = .returned (.tuple #[]) ∧ DG w' (nw F w w') d (addN (addN N a) b) (addE E (a, b)) ∧ OnlyP F w w' := by
  obtain ⟨N2, hN2⟩ : ∃ N2, addN (addN N a) b = N2 := ⟨_, rfl⟩
  have HNS : Hid (addN (addN N a) b = N2) := hN2
  rw [hN2]
  clear hN2
  obtain ⟨w0, hw0⟩ : ∃ w0, (w.alloc (.cells #[.string (bs a.pkg), .string (bs a.name)] 35)).alloc (.cells #[.string (bs b.pkg), .string (bs b.name)] 35) = w0 := ⟨_, rfl⟩
  have hb0 : Below w.heap.size w w0 := by rw [← hw0]; exact bstep (balloc _ _) (balloc _ _)
  have hsz0 : w0.heap.size = w.heap.size + 2 := by rw [← hw0]; simp
  have hRA : RB w0 w.heap.size a := by rw [← hw0]; exact (RB.new w a).later (balloc _ _)
  have hRB : RB w0 (w.heap.size + 1) b := by
    rw [← hw0]
    have := RB.new (w.alloc (.cells #[.string (bs a.pkg), .string (bs a.name)] 35)) b
    simpa using this
  have hG0 := h.later hb0
  have hFl := h.lt
  have HN1 : Hid (Calls Try.prog 27 #[.pointer (some ⟨d, 0, none⟩), a.val] w0 fun e w' => e = .returned (.tuple #[]) ∧ DG w' (nw F w0 w') d (addN N a) E ∧ OnlyP F w0 w') := dnode_any hG0 a ha (by omega)
  have HW : Hid (RB w0 w.heap.size a ∧ RB w0 (w.heap.size + 1) b ∧ Below w.heap.size w w0 ∧ w0.heap.size = w.heap.size + 2 ∧ (∀ k, F k → k < w.heap.size) ∧ Lu a ∧ Lu b ∧ N.length + 2 ≤ 1000000 ∧ E.length + 1 ≤ 1000000) := ⟨hRA, hRB, hb0, hsz0, hFl, ha, hb, hz, hy⟩
  obtain ⟨a0, a1, _, _⟩ := hRA.cells
  obtain ⟨b0, b1, _, _⟩ := hRB.cells
  clear h hb0 hsz0 hRA hRB hG0 hFl ha hb hz hy
  obtain ⟨p, n⟩ := a
  obtain ⟨q, m⟩ := b
  have hq := eql_e'
  have hg := guard_e
  simp only [Lb.val] at *
  go_enter Try.func28, Try.ntmps28
  go_wp2_with fail
  refine HN1.out.mono ?_
  rintro e w1 ⟨rfl, hg1, ho1⟩
  obtain ⟨r1, r2, hb0, hsz0, hFl, hla, hlb, hz, hy⟩ := HW.out
  have n1 : ¬ F w.heap.size := fun h => by have := hFl _ h; omega
  have n2 : ¬ F (w.heap.size + 1) := fun h => by have := hFl _ h; omega
  have r3 := r1.onlyP ho1 n1
  have r4 := r2.onlyP ho1 n2
  have z1 := addN_le N ⟨p, n⟩
  have HN2 : Hid (Calls Try.prog 27 #[.pointer (some ⟨d, 0, none⟩), .agg #[.string (bs q), .string (bs m)]] w1 fun e w' => e = .returned (.tuple #[]) ∧ DG w' (nw (nw F w0 w1) w1 w') d (addN (addN N ⟨p, n⟩) ⟨q, m⟩) E ∧ OnlyP (nw F w0 w1) w1 w') := dnode_any hg1 ⟨q, m⟩ hlb (by omega)
  have n3 : ¬ nw F w0 w1 w.heap.size := fun h => h.elim n1 (fun h => by omega)
  have n4 : ¬ nw F w0 w1 (w.heap.size + 1) := fun h => h.elim n2 (fun h => by omega)
  obtain ⟨c0, c1, _, _⟩ := r4.cells
  simp only at c0 c1
  have HX1 : Hid (RB w1 w.heap.size ⟨p, n⟩ ∧ RB w1 (w.heap.size + 1) ⟨q, m⟩ ∧ OnlyP F w0 w1 ∧ (¬ nw F w0 w1 w.heap.size) ∧ (¬ nw F w0 w1 (w.heap.size + 1))) := ⟨r3, r4, ho1, n3, n4⟩
  clear r1 r2 hb0 hsz0 hFl hla hlb hz hy n1 n2 r3 r4 z1 n3 n4 hg1 ho1 a0 a1 b0 b1
  go_wp2_with fail
  refine HN2.out.mono ?_
  rintro e w2 ⟨rfl, hg2, ho2⟩
  rw [HNS.out] at hg2
  have HX2 : Hid (RB w2 w.heap.size ⟨p, n⟩ ∧ RB w2 (w.heap.size + 1) ⟨q, m⟩ ∧ OnlyP F w w2 ∧ DG w2 (nw F w w2) d N2 E ∧ w.heap.size ≤ w2.heap.size ∧ (⟨p, n⟩ : Lb) ∈ N2 ∧ (⟨q, m⟩ : Lb) ∈ N2) := by
    have hs1 := HX1.out.2.2.1.size
    have hs2 := ho2.size
    have hs0 := HW.out.2.2.1.size
    have h1 : DG w2 (nw F w0 w2) d N2 E := hg2.nw_nw hs1 hs2
    have hl1 := h1.lt
    refine ⟨HX1.out.1.onlyP ho2 HX1.out.2.2.2.1, HX1.out.2.1.onlyP ho2 HX1.out.2.2.2.2, ?_, h1.wider ?_ ?_, by omega, ?_, ?_⟩
    · refine (OnlyP.of_below HW.out.2.2.1 F).trans (HX1.out.2.2.1.trans ho2 (fun k hk e => ?_)) (fun _ _ e => e)
      rcases e with e | e
      · exact e
      · omega
    · rintro k (hk | hk)
      · exact .inl hk
      · exact .inr ⟨by omega, hk.2⟩
    · rintro k (hk | hk)
      · exact hl1 k (.inl hk)
      · exact hk.2
    · rw [← HNS.out, mem_addN, mem_addN]; exact .inl (.inr rfl)
    · rw [← HNS.out, mem_addN]; exact .inr rfl
  obtain ⟨an, cn, ae, ce, _, h1, _, hf1, _, hoE⟩ := HX2.out.2.2.2.1.rows
  obtain ⟨el, hel⟩ : ∃ el, E.length = el := ⟨_, rfl⟩
  rw [hel] at h1 hoE
  have HE : Hid (w2.cell? ⟨d, 1, none⟩ = some (.slice ae el ce) ∧ OwnE 0 w2 (.slice ae el ce) E ∧ E.length = el ∧ d < w2.heap.size) := ⟨h1, hoE, hel, HX2.out.2.2.2.1.dlt⟩
  have hel2 : el + 1 ≤ 1000000 := by rw [← hel]; exact HW.out.2.2.2.2.2.2.2.2
  clear hg2 ho2 h1 hf1 hoE hel c0 c1
  go_wp2_with fail
  go_loopw [6] (fun s6 wr => ∃ k : Nat, s6 = .int .i64 k ∧ k ≤ el ∧ Below w2.heap.size w2 wr ∧ (∀ x ∈ E.take k, x ≠ (⟨p, n⟩, ⟨q, m⟩))) (fun s6 _ => el - (intOf s6).toNat)
  case atStart => exact ⟨0, rfl, by omega, Below.refl _ _, by simp⟩
  case round =>
    obtain ⟨k, rfl, hk, hb, hx⟩ := hrel
    have HY : Hid (Below w2.heap.size w2 wr ∧ (∀ x ∈ E.take k, x ≠ (⟨p, n⟩, ⟨q, m⟩))) := ⟨hb, hx⟩
    have e1 := (hb.cell (p := ⟨d, 1, none⟩) HE.out.2.2.2).trans HE.out.1
    obtain ⟨a0, a1, _, _⟩ := (HX2.out.1.later hb).cells
    obtain ⟨b0, b1, _, _⟩ := (HX2.out.2.1.later hb).cells
    simp only at a0 a1 b0 b1
    clear hb hx
    by_cases hlt : k < el
    · have hkl : k < E.length := by rw [HE.out.2.2.1]; exact hlt
      obtain ⟨bb, off, ea, hbw, d0, d1, d2, d3⟩ := ES.at HE.out.2.1.rs HY.out.1 hkl
      subst ea
      obtain ⟨x, hxe⟩ : ∃ x, E[k] = x := ⟨_, rfl⟩
      have HA : Hid (E[k] = x) := hxe
      rw [hxe] at d0 d1 d2 d3
      clear hxe
      obtain ⟨⟨p', n'⟩, ⟨q', m'⟩⟩ := x
      simp only at d0 d1 d2 d3
      have k1 : (k : Int) < (el : Int) := by omega
      by_cases he : ((⟨p', n'⟩, ⟨q', m'⟩) : Ee) = (⟨p, n⟩, ⟨q, m⟩)
      · have he2 : eeq (⟨p', n'⟩, ⟨q', m'⟩) (⟨p, n⟩, ⟨q, m⟩) = true := by unfold eeq; simpa using he
        have HEQ : Hid (addE E (⟨p, n⟩, ⟨q, m⟩) = E) := by
          show addE _ _ = _
          unfold addE
          rw [if_pos]
          rw [← he, ← HA.out]; exact List.getElem_mem hkl
        clear he
        go_wp2_with fail
        go_quiet (fail)
        go_wp2_with fail
        (try simp only [Exit.inBlock, Exit.then])
        refine bodyPost_ret (results_none rfl _ _ _) rfl ?_
        have hb9 := bstep HY.out.1 (bd wr nq)
        have h9 := HX2.out.2.2.2.1.later hb9
        refine ⟨rfl, ?_, HX2.out.2.2.1.trans (OnlyP.of_below hb9 F) (fun _ _ e => e)⟩
        rw [HEQ.out]
        have hs := hb9.size
        have hl9 := h9.lt
        refine h9.wider ?_ ?_
        · rintro k (hk | hk)
          · exact .inl hk
          · exact .inr ⟨hk.1, by omega⟩
        · rintro k (hk | hk)
          · exact hl9 k (.inl hk)
          · exact hk.2
      · have he2 : eeq (⟨p', n'⟩, ⟨q', m'⟩) (⟨p, n⟩, ⟨q, m⟩) = false := by unfold eeq; simpa using he
        have HEQ : Hid (¬ ((⟨p', n'⟩, ⟨q', m'⟩) : Ee) = (⟨p, n⟩, ⟨q, m⟩)) := he
        clear he
        go_wp2_with fail
        go_quiet (fail)
        go_wp2_with fail
        go_roundw
        case rel =>
          refine ⟨k + 1, by go_num, by omega, bstep HY.out.1 (bd _ _), ?_⟩
          intro x hx
          rw [List.take_succ_eq_append_getElem hkl, List.mem_append, HA.out] at hx
          rcases hx with hx | hx
          · exact HY.out.2 x hx
          · have : x = (⟨p', n'⟩, ⟨q', m'⟩) := by simpa using hx
            rw [this]; exact HEQ.out
        case measure => simp [intOf]; omega
    · obtain rfl : el = k := by omega
      have HNI : Hid (addE E (⟨p, n⟩, ⟨q, m⟩) = E ++ [(⟨p, n⟩, ⟨q, m⟩)] ∧ (E ++ [((⟨p, n⟩, ⟨q, m⟩) : Ee)]).Nodup) := by
        have hn : ((⟨p, n⟩, ⟨q, m⟩) : Ee) ∉ E := by
          intro hm
          have := HY.out.2
          rw [List.take_of_length_le (by rw [HE.out.2.2.1]; exact Nat.le_refl _)] at this
          exact this _ hm rfl
        refine ⟨by unfold addE; rw [if_neg hn], ?_⟩
        rw [List.nodup_append]
        refine ⟨HX2.out.2.2.2.1.en, by simp, ?_⟩
        intro x hx y hy
        have : y = (⟨p, n⟩, ⟨q, m⟩) := by simpa using hy
        subst this
        rintro rfl
        exact hn hx
      have e1' := cell_alloc (.cells #[.string (bs p), .string (bs n), .string (bs q), .string (bs m)] 66) (Nat.lt_of_lt_of_le HE.out.2.2.2 HY.out.1.size) e1
      have HO4 : Hid (OwnE 0 wr (.slice ae el ce) E) := HE.out.2.1.later HY.out.1
      have HH : Hid (E.length + 1 ≤ 1000000) := HW.out.2.2.2.2.2.2.2.2
      go_wp2_with fail
      go_region_law (refine step_app_E rfl (.tmp 37) (.tmp 41) rfl 0 E [(⟨p, n⟩, ⟨q, m⟩)] (.slice ae el ce) _ rfl rfl (HO4.out.later (balloc wr _).drew) (src_Ed wr (⟨p, n⟩, ⟨q, m⟩)) (by have := HE.out.2.2.1; simp; omega) (Nat.zero_le _) ?_; intro v' w3 ho3 hg3 hl3; obtain ⟨z1, z2, HZ⟩ := DG.edgeX HX2.out.2.2.2.1 HY.out.1 HE.out.1 ho3 hg3 hl3 HNI.out.2 HX2.out.2.2.2.2.2 HH.out; clear hl3 hg3; obtain ⟨av', cv', hvv'⟩ := ho3.form; subst hvv'; clear ho3)
      all_goals (go_wp2_with fail; go_end0)
      all_goals (
        have hle : (E ++ [((⟨p, n⟩, ⟨q, m⟩) : Ee)]).length = E.length + 1 := by simp
        rw [hle] at HZ
        refine ⟨rfl, by rw [HNI.out.1]; exact HZ.out.1.nw_nw HX2.out.2.2.2.2.1 (HZ.out.2).size, HX2.out.2.2.1.trans HZ.out.2 (fun k hk e => ?_)⟩
        rcases e with e | e
        · exact e
        · omega)
end Go.Proofs.Ytclbnjfmipifnaa

namespace Go.Proofs.Ytclbnjfmipifnaa
open Go.RowKit Go.Maps

/-- where edges lead from a -/
def oE (E : List Ee) (a : Lb) : List Lb := (E.filter (fun e => decide (e.1 = a))).map (·.2)
theorem mem_oE {E : List Ee} {a b : Lb} : b ∈ oE E a ↔ (a, b) ∈ E := by
  unfold oE
  rw [List.mem_map]
  constructor
  · rintro ⟨⟨x, y⟩, h, rfl⟩
    obtain ⟨h1, h2⟩ := List.mem_filter.1 h
    have : x = a := by simpa using h2
    subst this; exact h1
  · intro h
    exact ⟨(a, b), List.mem_filter.2 ⟨h, by simp⟩, rfl⟩
theorem oE_snoc (E : List Ee) (e : Ee) (a : Lb) : oE (E ++ [e]) a = if e.1 = a then oE E a ++ [e.2] else oE E a := by
  unfold oE
  rw [List.filter_append, List.map_append]
  by_cases h : e.1 = a
  · simp [h]
  · simp [h]
theorem oE_len (E : List Ee) (a : Lb) : (oE E a).length ≤ E.length := by
  unfold oE
  rw [List.length_map]; exact List.length_filter_le _ _

set_option maxRecDepth 100000 in
set_option maxHeartbeats 8000000 in
theorem dout_any {w : World} {F : Nat → Prop} {d : Nat} {N : List Lb} {E : List Ee} (h : DG w F d N E) (a : Lb) :
    Calls Try.prog 22 #[.pointer (some ⟨d, 0, none⟩), a.val] w fun e w' => ∃ u, e = .returned u ∧ OwnL w.heap.size w' u (rs (oE E a)) ∧ Below w.heap.size w w' := by
  obtain ⟨an, cn, ae, ce, _, h1, _, _, _, hoE⟩ := h.rows
  obtain ⟨el, hel⟩ : ∃ el, E.length = el := ⟨_, rfl⟩
  rw [hel] at h1 hoE
  have HE : Hid (w.cell? ⟨d, 1, none⟩ = some (.slice ae el ce) ∧ OwnE 0 w (.slice ae el ce) E ∧ E.length = el ∧ d < w.heap.size ∧ DG w F d N E) := ⟨h1, hoE, hel, h.dlt, h⟩
  have hel2 : el ≤ 1000000 := by rw [← hel]; exact h.ez
  clear h1 hoE hel h
  have hq := eql_run'
  have hg := guard_run
  have HRB : Hid (RB (w.alloc (.cells #[.string (bs a.pkg), .string (bs a.name)] 35)) w.heap.size a) := RB.new w a
  obtain ⟨p, n⟩ := a
  simp only [Lb.val] at *
  go_enter Try.func22, Try.ntmps22
  go_wp2_with fail
  go_loopw [5, 6] (fun s5 s6 wr => ∃ k : Nat, s6 = .int .i64 k ∧ k ≤ el ∧ OwnL w.heap.size wr s5 (oE (E.take k) ⟨p, n⟩) ∧ RB wr w.heap.size ⟨p, n⟩ ∧ Below w.heap.size w wr ∧ s5.ownBlock ≠ some w.heap.size) (fun _ s6 _ => el - (intOf s6).toNat)
  case atStart => exact ⟨0, rfl, by omega, OwnL.nil _ _, HRB.out, balloc _ _, by simp [Value.ownBlock]⟩
  case round =>
    obtain ⟨k, rfl, hk, ho, hR, hb, hne⟩ := hrel
    obtain ⟨av, cv, hvv⟩ := ho.form
    obtain ⟨ol, hol⟩ : ∃ ol, (oE (E.take k) ⟨p, n⟩).length = ol := ⟨_, rfl⟩
    rw [hol] at hvv
    subst hvv
    have hol2 : ol ≤ 1000000 := by
      rw [← hol]
      have h1 := oE_len (E.take k) ⟨p, n⟩
      have h2 : (E.take k).length ≤ E.length := by simp; omega
      have := HE.out.2.2.1
      omega
    have HY : Hid (OwnL w.heap.size wr (.slice av ol cv) (oE (E.take k) ⟨p, n⟩) ∧ RB wr w.heap.size ⟨p, n⟩ ∧ Below w.heap.size w wr ∧ (Value.slice av ol cv).ownBlock ≠ some w.heap.size ∧ (oE (E.take k) ⟨p, n⟩).length = ol) := ⟨ho, hR, hb, hne, hol⟩
    have e1 := (hb.cell (p := ⟨d, 1, none⟩) HE.out.2.2.2.1).trans HE.out.1
    obtain ⟨a0, a1, _, _⟩ := hR.cells
    simp only at a0 a1
    clear ho hR hb hne hol
    by_cases hlt : k < el
    · have hkl : k < E.length := by rw [HE.out.2.2.1]; exact hlt
      obtain ⟨bb, off, ea, hbw, d0, d1, d2, d3⟩ := ES.at HE.out.2.1.rs HY.out.2.2.1 hkl
      subst ea
      obtain ⟨x, hxe⟩ : ∃ x, E[k] = x := ⟨_, rfl⟩
      have HA : Hid (E[k] = x ∧ oE (E.take (k + 1)) ⟨p, n⟩ = if x.1 = ⟨p, n⟩ then oE (E.take k) ⟨p, n⟩ ++ [x.2] else oE (E.take k) ⟨p, n⟩) := by
        refine ⟨hxe, ?_⟩
        rw [List.take_succ_eq_append_getElem hkl, hxe, oE_snoc]
      rw [hxe] at d0 d1 d2 d3
      clear hxe
      obtain ⟨⟨p', n'⟩, ⟨q', m'⟩⟩ := x
      simp only at d0 d1 d2 d3
      have k1 : (k : Int) < (el : Int) := by omega
      by_cases he : (⟨p', n'⟩ : Lb) = ⟨p, n⟩
      · have he2 : leq ⟨p', n'⟩ ⟨p, n⟩ = true := by unfold leq; simpa using he
        have HAE : Hid (oE (E.take (k + 1)) ⟨p, n⟩ = oE (E.take k) ⟨p, n⟩ ++ [⟨q', m'⟩]) := by
          have := HA.out.2
          rw [if_pos he] at this; exact this
        clear he
        go_wp2_with fail
        go_quiet (fail)
        have HB4 : Hid (Below wr.heap.size wr (wr.drewN nq)) := bd wr nq
        have f1 : (wr.drewN nq).cell? ⟨d, 1, none⟩ = _ := e1
        have f2 : (wr.drewN nq).cell? ⟨bb, off + k * 4 + 2, none⟩ = _ := d2
        have f3 : (wr.drewN nq).cell? ⟨bb, off + k * 4 + 3, none⟩ = _ := d3
        have HO4 : Hid (OwnL w.heap.size (wr.drewN nq) (.slice av ol cv) (oE (E.take k) ⟨p, n⟩)) := HY.out.1.later HB4.out
        have hs4 : w.heap.size ≤ (wr.drewN nq).heap.size := HY.out.2.2.1.size
        generalize wr.drewN nq = w4 at *
        go_wp2_with (first | (at_builtin; refine app_L1 und_L ⟨q', m'⟩ HO4.out (by have := HY.out.2.2.2.2; omega) hs4 rfl (.tmp 26) (.tmp 35) rfl rfl rfl ?_; intro v' w5 ho5 hb5 hon5 hs5 hwh5))
        have hwl := HY.out.2.1.lt
        go_roundw
        case rel =>
          refine ⟨k + 1, by go_num, by omega, by rw [HAE.out]; exact ho5, ?_, below_trans (bstep HY.out.2.2.1 HB4.out) hb5, ?_⟩
          · have h4 := HY.out.2.1.later HB4.out
            exact ⟨(hon5.block _ h4.lt (fun hm => HY.out.2.2.2.1 (by simpa using hm))).trans h4.blk⟩
          · rcases hwh5 with e | ⟨j, e, hj⟩
            · rw [e]; exact HY.out.2.2.2.1
            · rw [e]
              have := HB4.out.size
              intro e9
              injection e9 with e9
              omega
        case measure => simp [intOf]; omega
      · have he2 : leq ⟨p', n'⟩ ⟨p, n⟩ = false := by unfold leq; simpa using he
        have HAE : Hid (oE (E.take (k + 1)) ⟨p, n⟩ = oE (E.take k) ⟨p, n⟩) := by
          have := HA.out.2
          rw [if_neg he] at this; exact this
        clear he
        go_wp2_with fail
        go_quiet (fail)
        go_wp2_with fail
        go_roundw
        case rel => exact ⟨k + 1, by go_num, by omega, by rw [HAE.out]; exact HY.out.1.later (bd _ _), HY.out.2.1.later (bd _ _), bstep HY.out.2.2.1 (bd _ _), HY.out.2.2.2.1⟩
        case measure => simp [intOf]; omega
    · obtain rfl : el = k := by omega
      have HT : Hid (E.take el = E) := List.take_of_length_le (by rw [HE.out.2.2.1]; exact Nat.le_refl _)
      rw [HT.out] at HY
      have HD : Hid (Calls Try.prog 20 #[.slice av ol cv] wr fun e w' => ∃ u, e = .returned u ∧ OwnL wr.heap.size w' u (rs (oE E ⟨p, n⟩)) ∧ Below wr.heap.size wr w') := drising_any HY.out.1.rs (by rw [HY.out.2.2.2.2]; exact hol2) (fun x hx => HE.out.2.2.2.2.lu x (HE.out.2.2.2.2.sub _ (mem_oE.1 hx)).2)
      go_wp2_with fail
      refine HD.out.mono ?_
      rintro e w6 ⟨u, rfl, ho6, hb6⟩
      have HZ : Hid (OwnL w.heap.size w6 u (rs (oE E ⟨p, n⟩)) ∧ Below w.heap.size w w6) := ⟨ho6.mono HY.out.2.2.1.size, bstep HY.out.2.2.1 hb6⟩
      clear ho6 hb6
      go_wp2_with fail
      go_ret
      exact ⟨u, rfl, HZ.out.1, HZ.out.2⟩
end Go.Proofs.Ytclbnjfmipifnaa

namespace Go.Proofs.Ytclbnjfmipifnaa
open Go.RowKit Go.Maps

set_option maxRecDepth 100000 in
set_option maxHeartbeats 8000000 in
theorem dready_any {w : World} {F : Nat → Prop} {d : Nat} {N : List Lb} {E : List Ee} (h : DG w F d N E) (a : Lb) {tv : Value} {T : List Lb} (ht : LS w tv T) (hl : T.length ≤ 1000000) :
    Calls Try.prog 33 #[.pointer (some ⟨d, 0, none⟩), a.val, tv] w fun e w' => e = .returned (.bool (Gs.rdy E T a)) ∧ Below w.heap.size w w' := by
  obtain ⟨an, cn, ae, ce, _, h1, _, _, _, hoE⟩ := h.rows
  obtain ⟨el, hel⟩ : ∃ el, E.length = el := ⟨_, rfl⟩
  rw [hel] at h1 hoE
  have HE : Hid (w.cell? ⟨d, 1, none⟩ = some (.slice ae el ce) ∧ OwnE 0 w (.slice ae el ce) E ∧ E.length = el ∧ d < w.heap.size) := ⟨h1, hoE, hel, h.dlt⟩
  have hel2 : el ≤ 1000000 := by rw [← hel]; exact h.ez
  have HIN : Hid (∀ W, Below w.heap.size w W → ∀ x : Lb, Calls Try.prog 12 #[tv, x.val] W fun e w' => e = .returned (.bool (decide (x ∈ T))) ∧ Below W.heap.size W w') := fun W hb x => in_any (ht.later hb) (by omega) x
  clear h1 hoE hel h ht hl
  have hq := eql_run'
  have hg := guard_run
  have HRB : Hid (RB (w.alloc (.cells #[.string (bs a.pkg), .string (bs a.name)] 35)) w.heap.size a) := RB.new w a
  have HRD : Hid (Gs.rdy E T a = true ↔ ∀ e ∈ E, e.1 = a → e.2 ∈ T) := by
    show _ ↔ _
    rw [Gs.rdy_iff]
    constructor
    · rintro h ⟨x, y⟩ he rfl; exact h y he
    · intro h b hb; exact h _ hb rfl
  generalize Gs.rdy E T a = R at *
  obtain ⟨p, n⟩ := a
  simp only [Lb.val] at *
  go_enter Try.func33, Try.ntmps33
  go_wp2_with fail
  go_loopw [7] (fun s7 wr => ∃ k : Nat, s7 = .int .i64 k ∧ k ≤ el ∧ RB wr w.heap.size ⟨p, n⟩ ∧ Below w.heap.size w wr ∧ (∀ e ∈ E.take k, e.1 = ⟨p, n⟩ → e.2 ∈ T)) (fun s7 _ => el - (intOf s7).toNat)
  case atStart => exact ⟨0, rfl, by omega, HRB.out, balloc _ _, by simp⟩
  case round =>
    obtain ⟨k, rfl, hk, hR, hb, hx⟩ := hrel
    have HY : Hid (RB wr w.heap.size ⟨p, n⟩ ∧ Below w.heap.size w wr ∧ (∀ e ∈ E.take k, e.1 = ⟨p, n⟩ → e.2 ∈ T)) := ⟨hR, hb, hx⟩
    have e1 := (hb.cell (p := ⟨d, 1, none⟩) HE.out.2.2.2).trans HE.out.1
    obtain ⟨a0, a1, _, _⟩ := hR.cells
    simp only at a0 a1
    clear hR hb hx
    by_cases hlt : k < el
    · have hkl : k < E.length := by rw [HE.out.2.2.1]; exact hlt
      obtain ⟨bb, off, ea, hbw, d0, d1, d2, d3⟩ := ES.at HE.out.2.1.rs HY.out.2.1 hkl
      subst ea
      obtain ⟨x, hxe⟩ : ∃ x, E[k] = x := ⟨_, rfl⟩
      have HA : Hid (E[k] = x) := hxe
      rw [hxe] at d0 d1 d2 d3
      clear hxe
      obtain ⟨⟨p', n'⟩, ⟨q', m'⟩⟩ := x
      simp only at d0 d1 d2 d3
      have k1 : (k : Int) < (el : Int) := by omega
      have hdl := Nat.lt_of_lt_of_le HE.out.2.2.2 HY.out.2.1.size
      have hbl := Nat.lt_of_lt_of_le hbw HY.out.2.1.size
      have hrl := HY.out.1.lt
      have x0 : ∀ Y : GW wr, Y.it.cell? ⟨d, 1, none⟩ = some (.slice (some ⟨bb, off, none⟩) el ce) := fun Y => Y.cell hdl e1
      have x1 : ∀ Y : GW wr, Y.it.cell? ⟨w.heap.size, 0, none⟩ = some (.string (bs p)) := fun Y => Y.cell hrl a0
      have x2 : ∀ Y : GW wr, Y.it.cell? ⟨w.heap.size, 1, none⟩ = some (.string (bs n)) := fun Y => Y.cell hrl a1
      have y0 : ∀ Y : GW wr, Y.it.cell? ⟨bb, off + k * 4, none⟩ = some (.string (bs p')) := fun Y => Y.cell hbl d0
      have y1 : ∀ Y : GW wr, Y.it.cell? ⟨bb, off + k * 4 + 1, none⟩ = some (.string (bs n')) := fun Y => Y.cell hbl d1
      have y2 : ∀ Y : GW wr, Y.it.cell? ⟨bb, off + k * 4 + 2, none⟩ = some (.string (bs q')) := fun Y => Y.cell hbl d2
      have y3 : ∀ Y : GW wr, Y.it.cell? ⟨bb, off + k * 4 + 3, none⟩ = some (.string (bs m')) := fun Y => Y.cell hbl d3
      have xne := gw_ne wr
      have k0 : Hid (∀ Y : GW wr, Calls Try.prog 12 #[tv, .agg #[.string (bs q'), .string (bs m')]] Y.it fun e w' => e = .returned (.bool (decide ((⟨q', m'⟩ : Lb) ∈ T))) ∧ ∃ X : GW wr, w' = X.it) := fun Y => (HIN.out Y.it (bstep HY.out.2.1 Y.below) ⟨q', m'⟩).mono fun _ w' ⟨he, hl⟩ => ⟨he, ⟨w', bstep Y.below hl⟩, rfl⟩
      have HST : Hid ((((⟨p', n'⟩ : Lb) = ⟨p, n⟩) → (⟨q', m'⟩ : Lb) ∈ T) → ∀ e ∈ E.take (k + 1), e.1 = ⟨p, n⟩ → e.2 ∈ T) := by
        intro h e he
        rw [List.take_succ_eq_append_getElem hkl, List.mem_append, HA.out] at he
        rcases he with he | he
        · exact HY.out.2.2 e he
        · have : e = (⟨p', n'⟩, ⟨q', m'⟩) := by simpa using he
          subst this; exact h
      clear a0 a1 d0 d1 d2 d3 hdl hbl hrl
      by_cases he : (⟨p', n'⟩ : Lb) = ⟨p, n⟩
      · have he2 : leq ⟨p', n'⟩ ⟨p, n⟩ = true := by unfold leq; simpa using he
        have HEQ : Hid ((⟨p', n'⟩ : Lb) = ⟨p, n⟩) := he
        clear he
        by_cases hm : (⟨q', m'⟩ : Lb) ∈ T
        · have hm2 : decide ((⟨q', m'⟩ : Lb) ∈ T) = true := by simpa using hm
          rw [hm2] at k0
          have HM : Hid ((⟨q', m'⟩ : Lb) ∈ T) := hm
          clear hm hm2
          go_wp2_with fail
          refine wp_region_grow (by kernel_rfl) (by kernel_rfl) ?_
          repeat (go_big_quiet_step (with_reducible exact k0.out _))
          refine wpQuiet_nil ?_
          rintro w4 ⟨⟨w4, bx⟩, rfl⟩
          have HB4 : Hid (Below wr.heap.size wr w4) := bx
          clear bx x0 x1 x2 y0 y1 y2 y3 xne k0 he2
          go_wp2_with fail
          go_roundw
          case rel => exact ⟨k + 1, by go_num, by omega, HY.out.1.later HB4.out, bstep HY.out.2.1 HB4.out, HST.out (fun _ => HM.out)⟩
          case measure => simp [intOf]; omega
        · have hm2 : decide ((⟨q', m'⟩ : Lb) ∈ T) = false := by simpa using hm
          rw [hm2] at k0
          have HM : Hid (R = false) := by
            cases hR : R
            · rfl
            · exfalso
              have := HRD.out.1 hR (⟨p', n'⟩, ⟨q', m'⟩) (by rw [← HA.out]; exact List.getElem_mem hkl) HEQ.out
              exact hm this
          clear hm hm2
          go_wp2_with fail
          refine wp_region_grow (by kernel_rfl) (by kernel_rfl) ?_
          repeat (go_big_quiet_step (with_reducible exact k0.out _))
          refine wpQuiet_nil ?_
          rintro w4 ⟨⟨w4, bx⟩, rfl⟩
          have HB4 : Hid (Below wr.heap.size wr w4) := bx
          clear bx x0 x1 x2 y0 y1 y2 y3 xne k0 he2
          go_wp2_with fail
          go_ret
          exact ⟨by rw [HM.out]; rfl, bstep HY.out.2.1 HB4.out⟩
      · have he2 : leq ⟨p', n'⟩ ⟨p, n⟩ = false := by unfold leq; simpa using he
        have HEQ : Hid (¬ (⟨p', n'⟩ : Lb) = ⟨p, n⟩) := he
        clear he
        go_wp2_with fail
        refine wp_region_grow (by kernel_rfl) (by kernel_rfl) ?_
        repeat (go_big_quiet_step (with_reducible exact k0.out _))
        refine wpQuiet_nil ?_
        rintro w4 ⟨⟨w4, bx⟩, rfl⟩
        have HB4 : Hid (Below wr.heap.size wr w4) := bx
        clear bx x0 x1 x2 y0 y1 y2 y3 xne k0 he2
        go_wp2_with fail
        go_roundw
        case rel => exact ⟨k + 1, by go_num, by omega, HY.out.1.later HB4.out, bstep HY.out.2.1 HB4.out, HST.out (fun h => absurd h HEQ.out)⟩
        case measure => simp [intOf]; omega
    · obtain rfl : el = k := by omega
      have HM : Hid (R = true) := HRD.out.2 (by
        have := HY.out.2.2
        rw [List.take_of_length_le (by rw [HE.out.2.2.1]; exact Nat.le_refl _)] at this
        exact this)
      go_wp2_with fail
      go_ret
      exact ⟨by rw [HM.out]; rfl, HY.out.2.1⟩
end Go.Proofs.Ytclbnjfmipifnaa
