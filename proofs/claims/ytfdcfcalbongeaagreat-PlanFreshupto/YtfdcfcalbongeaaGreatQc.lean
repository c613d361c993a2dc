/-
  The document's Dirty: its last loop.
-/
import Derived.Test.YtfdcfcalbongeaaGreatJQb
namespace Go.Proofs.YtfdcfcalbongeaaGreat
open Go.RowKit
attribute [local go_sem] Oper.semAt_some

theorem chg_eq (files old : List Fl) (p : List UInt8) : chg files old p = (((fnd files p).isSome != (fnd old p).isSome) || !feq (fopt (fnd files p)) (fopt (fnd old p))) := by
  unfold chg
  cases h1 : fnd files p with
  | none =>
    cases h2 : fnd old p with
    | none => simp [sameO, fopt, (feq_iff zf zf).2 rfl]
    | some g => simp [sameO]
  | some f =>
    cases h2 : fnd old p with
    | none => simp [sameO]
    | some g => simp [sameO, fopt, feq]
/-- what Dirty answers -/
def DtQ (w : World) (R : List (List UInt8)) (e : Ending) (w' : World) : Prop := ∃ v, e = .returned (.tuple #[v, .int .i64 0]) ∧ Own w.heap.size w' v R ∧ Below w.heap.size w w'
set_option maxRecDepth 100000 in
set_option maxHeartbeats 16000000 in
theorem dt14 {lv2 lv3 lv4 lv5 lv6 lv7 lv9 lv11 lv12 lv13 lv14 lv15 lv16 lv17 lv18 lv19 lv20 lv21 lv22 lv23 lv24 lv25 lv26 lv27 lv28 lv29 lv30 lv31 lv32 lv33 lv34 lv35 lv36 lv37 lv38 lv39 lv40 lv41 lv42 lv43 lv44 lv45 lv46 lv47 lv48 lv49 lv50 lv51 lv52 lv53 lv54 lv55 lv56 lv57 lv58 lv59 lv60 lv61 lv62 lv63 lv64 lv65 lv66 lv67 lv68 lv69 lv70 lv71 lv72 lv73 lv74 lv75 lv76 lv77 lv78 lv79 lv80 lv81 lv82 lv83 lv84 lv85 lv86 lv87 lv88 lv89 lv90 lv91 lv92 lv93 lv94 lv95 lv96 lv97 lv98 lv99 lv100 lv101 lv102 lv103 lv104 lv105 : Value} {w W : World} {fa oa la : Option Addr} {fn fcp no oc ln lc : Nat} {vs : Value} {files old : List Fl} {S : List Sp} {N R : List (List UInt8)} (HF : Hid (FS w (.slice fa fn fcp) files ∧ FS w (.slice oa no oc) old ∧ files.length ≤ 1000000000 ∧ old.length ≤ 1000000000)) (HS : Hid (PS W vs S ∧ S.length ≤ 1000000000 ∧ ∀ s ∈ S, s.p.length ≤ 1000000000)) (HN : Hid (SS W (.slice la ln lc) N ∧ N.length = ln ∧ ∀ p ∈ N, p.length ≤ 1000000000)) (hln : ln ≤ 4000000) (HB : Hid (Below w.heap.size w W)) (HR : Hid (N.filter (fun p => chg files old p && stn S p) = R)) :
    Code.wp Tryz.prog (suff 14 (Tryz.f5.body.getD .skip)) (bodyPost Tryz.prog Tryz.f5 (DtQ w R)) ⟨#[.slice fa fn fcp, .slice oa no oc, lv2, lv3, lv4, lv5, lv6, lv7, vs, lv9, .slice la ln lc, lv11, lv12, lv13, lv14, lv15, lv16, lv17, lv18, lv19, lv20, lv21, lv22, lv23, lv24, lv25, lv26, lv27, lv28, lv29, lv30, lv31, lv32, lv33, lv34, lv35, lv36, lv37, lv38, lv39, lv40, lv41, lv42, lv43, lv44, lv45, lv46, lv47, lv48, lv49, lv50, lv51, lv52, lv53, lv54, lv55, lv56, lv57, lv58, lv59, lv60, lv61, lv62, lv63, lv64, lv65, lv66, lv67, lv68, lv69, lv70, lv71, lv72, lv73, lv74, lv75, lv76, lv77, lv78, lv79, lv80, lv81, lv82, lv83, lv84, lv85, lv86, lv87, lv88, lv89, lv90, lv91, lv92, lv93, lv94, lv95, lv96, lv97, lv98, lv99, lv100, lv101, lv102, lv103, lv104, lv105], []⟩ W := by
  conv => arg 2; whnf
  refine wp_seq_k fun KK hKK => ?_
  have HK_ : Hid _ := hKK
  clear hKK
  go_wp2_with fail
  refine HK_.out _ _ ?_
  clear HK_
  refine wp_seq_k fun KK hKK => ?_
  have HK_ : Hid _ := hKK
  clear hKK
  go_wp2_with fail
  go_loopw [13, 14] (fun o i wr => ∃ k : Nat, k ≤ ln ∧ i = .int .i64 k ∧ Own W.heap.size wr o ((N.take k).filter fun p => chg files old p && stn S p) ∧ Below W.heap.size W wr) (fun _ i _ => ln - (intOf i).toNat)
  case atStart => exact ⟨0, by omega, rfl, by simpa using Own.nil _ _, Below.refl _ _⟩
  case round =>
    obtain ⟨k, hk, rfl, ho, hbw⟩ := hrel
    have OW : Hid (Own W.heap.size wr u13 ((N.take k).filter fun p => chg files old p && stn S p) ∧ Below W.heap.size W wr) := ⟨ho, hbw⟩
    have hz := hbw.size
    clear ho hbw
    by_cases hlt : k < ln
    · have hkl : k < N.length := by have := HN.out.2.1; omega
      obtain ⟨a', c', e', hcl⟩ := HN.out.1.form
      obtain ⟨b, off, ea, hbb, d0⟩ := hcl k hkl
      obtain rfl : la = a' := by injection e'
      subst ea
      have hft := filter_takeS (fun p => chg files old p && stn S p) N k hkl
      have hpl := HN.out.2.2 N[k] (List.getElem_mem _)
      obtain ⟨p, hp⟩ : ∃ p, N[k] = p := ⟨_, rfl⟩
      rw [hp] at d0 hft hpl
      have HFT : Hid (((N.take (k + 1)).filter fun p => chg files old p && stn S p) = ((N.take k).filter fun p => chg files old p && stn S p) ++ (if (chg files old p && stn S p) = true then [p] else [])) := hft
      have CE : Hid (∀ V, Below W.heap.size W V → V.cell? ⟨b, off + k, none⟩ = some (.string (bs p))) := fun V h => (h.cell (p := ⟨b, off + k, none⟩) hbb).trans d0
      have k1 : (0 : Int) ≤ (k : Int) := by omega
      have k2 : (k : Int) < (ln : Int) := by omega
      have hch := chg_eq files old p
      have F1 : Hid (∀ V, Below W.heap.size W V → Calls Tryz.prog 13 #[.slice fa fn fcp, .string (bs p)] V fun e w' => e = .returned (.tuple #[(fopt (fnd files p)).val, .bool (fnd files p).isSome]) ∧ Below V.heap.size V w') := fun V h => rfind_any p (HF.out.1.later (bstep HB.out h)) HF.out.2.2.1
      have F2 : Hid (∀ V, Below W.heap.size W V → Calls Tryz.prog 13 #[.slice oa no oc, .string (bs p)] V fun e w' => e = .returned (.tuple #[(fopt (fnd old p)).val, .bool (fnd old p).isSome]) ∧ Below V.heap.size V w') := fun V h => rfind_any p (HF.out.2.1.later (bstep HB.out h)) HF.out.2.2.2
      have F3 : Hid (∀ V, Below W.heap.size W V → Calls Tryz.prog 17 #[vs, .string (bs p)] V fun e w' => e = .returned (.bool (stn S p)) ∧ Below V.heap.size V w') := fun V h => stands_any p (HS.out.1.later h) HS.out.2.1 hpl HS.out.2.2
      obtain ⟨f1, hf1⟩ : ∃ x, fopt (fnd files p) = x := ⟨_, rfl⟩
      obtain ⟨f2, hf2⟩ : ∃ x, fopt (fnd old p) = x := ⟨_, rfl⟩
      obtain ⟨b1, hb1⟩ : ∃ x, (fnd files p).isSome = x := ⟨_, rfl⟩
      obtain ⟨b2, hb2⟩ : ∃ x, (fnd old p).isSome = x := ⟨_, rfl⟩
      obtain ⟨sx, hsx⟩ : ∃ x, stn S p = x := ⟨_, rfl⟩
      rw [hf1, hb1] at F1
      rw [hf2, hb2] at F2
      rw [hsx] at F3 HFT
      rw [hf1, hf2, hb1, hb2] at hch
      clear hf1 hf2 hb1 hb2 hsx hft hp e' hcl
      obtain ⟨p1, t1, l1, s1⟩ := f1
      obtain ⟨p2, t2, l2, s2⟩ := f2
      obtain ⟨x, hx⟩ : ∃ x, feq ⟨p1, t1, l1, s1⟩ ⟨p2, t2, l2, s2⟩ = x := ⟨_, rfl⟩
      rw [hx] at hch
      rw [hch] at HFT
      have q1 : ∀ V, (binOp .neq 30 (.agg #[.string (bs p1), .string (bs t1), .int .i64 l1, .int .i64 s1]) (.agg #[.string (bs p2), .string (bs t2), .int .i64 l2, .int .i64 s2])).run Tryz.prog V = .ok (.bool (!x)) V := fun V => by rw [neq_run, hx]
      have q2 := fguard_run
      have x0 := CE.out wr OW.out.2
      have HLN : Hid (((N.take k).filter fun p => chg files old p && stn S p).length + 1 ≤ 8796093022208) := by
        show _ ≤ _
        have h1 := List.length_filter_le (fun p => chg files old p && stn S p) (N.take k)
        rw [List.length_take] at h1
        omega
      clear hch hx
      go_wp2_with fail
      refine (F1.out _ OW.out.2).mono ?_
      rintro e w1 ⟨rfl, hb1⟩
      simp only [Fl.val]
      obtain ⟨wa, hwa⟩ : ∃ x, w1.alloc (.cells #[.string (bs p1), .string (bs t1), .int .i64 l1, .int .i64 s1] 30) = x := ⟨_, rfl⟩
      obtain ⟨ga, hga⟩ : ∃ x, w1.heap.size = x := ⟨_, rfl⟩
      have RA : RBf wa ga ⟨p1, t1, l1, s1⟩ := by rw [← hwa, ← hga]; exact RBf.new w1 ⟨p1, t1, l1, s1⟩
      have OA : Hid (Own W.heap.size wa u13 ((N.take k).filter fun p => chg files old p && stn S p) ∧ Below W.heap.size W wa) := ⟨(OW.out.1.later hb1).later (hwa ▸ balloc _ _), bstep (bstep OW.out.2 hb1) (hwa ▸ balloc _ _)⟩
      have xa := CE.out wa OA.out.2
      have HRA : Hid (RBf wa ga ⟨p1, t1, l1, s1⟩) := RA
      clear hb1 x0 RA
      go_wp2_with fail
      clear hwa hga
      refine (F2.out _ OA.out.2).mono ?_
      rintro e w2 ⟨rfl, hb2⟩
      simp only [Fl.val]
      obtain ⟨wb, hwb⟩ : ∃ x, w2.alloc (.cells #[.string (bs p2), .string (bs t2), .int .i64 l2, .int .i64 s2] 30) = x := ⟨_, rfl⟩
      obtain ⟨gb, hgb⟩ : ∃ x, w2.heap.size = x := ⟨_, rfl⟩
      have RB : RBf wb gb ⟨p2, t2, l2, s2⟩ := by rw [← hwb, ← hgb]; exact RBf.new w2 ⟨p2, t2, l2, s2⟩
      have bab : Below wa.heap.size wa wb := bstep hb2 (hwb ▸ balloc _ _)
      have OB : Hid (Own W.heap.size wb u13 ((N.take k).filter fun p => chg files old p && stn S p) ∧ Below W.heap.size W wb) := ⟨OA.out.1.later bab, bstep OA.out.2 bab⟩
      have RA := HRA.out.later bab
      obtain ⟨m0, m1, m2, m3, -, -, -, -⟩ := RA.cells
      obtain ⟨r0, r1, r2, r3, -, -, -, -⟩ := RB.cells
      have xb := CE.out wb OB.out.2
      have zb := OB.out.2.size
      clear hb2 xa RA RB bab
      cases b1 with
      | true =>
        cases b2 with
        | true =>
          cases x with
          | true =>
            have HNX : Hid (((N.take (k + 1)).filter fun p => chg files old p && stn S p) = ((N.take k).filter fun p => chg files old p && stn S p)) := by
              show _ = _
              rw [HFT.out]; simp
            go_wp2_with fail
            go_roundw
            case rel => exact ⟨k + 1, by omega, by go_num, by rw [HNX.out]; exact OB.out.1, OB.out.2⟩
            case measure => simp [intOf]; omega
          | false =>
            go_wp2_with fail
            refine (F3.out _ OB.out.2).mono ?_
            rintro e w4 ⟨rfl, hb4⟩
            have O4 : Hid (Own W.heap.size w4 u13 ((N.take k).filter fun p => chg files old p && stn S p) ∧ Below W.heap.size W w4) := ⟨OB.out.1.later hb4, bstep OB.out.2 hb4⟩
            have x4 := CE.out w4 O4.out.2
            have z4 := O4.out.2.size
            clear hb4
            cases sx with
            | true =>
              have HNX : Hid (((N.take (k + 1)).filter fun p => chg files old p && stn S p) = ((N.take k).filter fun p => chg files old p && stn S p) ++ [p]) := by
                show _ = _
                rw [HFT.out]; simp
              go_wp2_with (at_builtin; refine app_one (base := W.heap.size) p O4.out.1 HLN.out z4 rfl (.tmp 98) (.tmp 103) rfl rfl rfl ?_; intro v5 w5 ho5 hb5 hbs5 _ _; have O5 : Hid (Own W.heap.size w5 v5 (((N.take k).filter fun p => chg files old p && stn S p) ++ [p]) ∧ Below W.heap.size W w5) := ⟨ho5, below_trans O4.out.2 hb5⟩; clear ho5 hb5 hbs5)
              go_roundw
              case rel => exact ⟨k + 1, by omega, by go_num, by rw [HNX.out]; exact O5.out.1, O5.out.2⟩
              case measure => simp [intOf]; omega
            | false =>
              have HNX : Hid (((N.take (k + 1)).filter fun p => chg files old p && stn S p) = ((N.take k).filter fun p => chg files old p && stn S p)) := by
                show _ = _
                rw [HFT.out]; simp
              go_wp2_with fail
              go_roundw
              case rel => exact ⟨k + 1, by omega, by go_num, by rw [HNX.out]; exact O4.out.1, O4.out.2⟩
              case measure => simp [intOf]; omega
        | false =>
          go_wp2_with fail
          refine (F3.out _ OB.out.2).mono ?_
          rintro e w4 ⟨rfl, hb4⟩
          have O4 : Hid (Own W.heap.size w4 u13 ((N.take k).filter fun p => chg files old p && stn S p) ∧ Below W.heap.size W w4) := ⟨OB.out.1.later hb4, bstep OB.out.2 hb4⟩
          have x4 := CE.out w4 O4.out.2
          have z4 := O4.out.2.size
          clear hb4
          cases sx with
          | true =>
            have HNX : Hid (((N.take (k + 1)).filter fun p => chg files old p && stn S p) = ((N.take k).filter fun p => chg files old p && stn S p) ++ [p]) := by
              show _ = _
              rw [HFT.out]; simp
            go_wp2_with (at_builtin; refine app_one (base := W.heap.size) p O4.out.1 HLN.out z4 rfl (.tmp 98) (.tmp 103) rfl rfl rfl ?_; intro v5 w5 ho5 hb5 hbs5 _ _; have O5 : Hid (Own W.heap.size w5 v5 (((N.take k).filter fun p => chg files old p && stn S p) ++ [p]) ∧ Below W.heap.size W w5) := ⟨ho5, below_trans O4.out.2 hb5⟩; clear ho5 hb5 hbs5)
            go_roundw
            case rel => exact ⟨k + 1, by omega, by go_num, by rw [HNX.out]; exact O5.out.1, O5.out.2⟩
            case measure => simp [intOf]; omega
          | false =>
            have HNX : Hid (((N.take (k + 1)).filter fun p => chg files old p && stn S p) = ((N.take k).filter fun p => chg files old p && stn S p)) := by
              show _ = _
              rw [HFT.out]; simp
            go_wp2_with fail
            go_roundw
            case rel => exact ⟨k + 1, by omega, by go_num, by rw [HNX.out]; exact O4.out.1, O4.out.2⟩
            case measure => simp [intOf]; omega
      | false =>
        cases b2 with
        | true =>
          go_wp2_with fail
          refine (F3.out _ OB.out.2).mono ?_
          rintro e w4 ⟨rfl, hb4⟩
          have O4 : Hid (Own W.heap.size w4 u13 ((N.take k).filter fun p => chg files old p && stn S p) ∧ Below W.heap.size W w4) := ⟨OB.out.1.later hb4, bstep OB.out.2 hb4⟩
          have x4 := CE.out w4 O4.out.2
          have z4 := O4.out.2.size
          clear hb4
          cases sx with
          | true =>
            have HNX : Hid (((N.take (k + 1)).filter fun p => chg files old p && stn S p) = ((N.take k).filter fun p => chg files old p && stn S p) ++ [p]) := by
              show _ = _
              rw [HFT.out]; simp
            go_wp2_with (at_builtin; refine app_one (base := W.heap.size) p O4.out.1 HLN.out z4 rfl (.tmp 98) (.tmp 103) rfl rfl rfl ?_; intro v5 w5 ho5 hb5 hbs5 _ _; have O5 : Hid (Own W.heap.size w5 v5 (((N.take k).filter fun p => chg files old p && stn S p) ++ [p]) ∧ Below W.heap.size W w5) := ⟨ho5, below_trans O4.out.2 hb5⟩; clear ho5 hb5 hbs5)
            go_roundw
            case rel => exact ⟨k + 1, by omega, by go_num, by rw [HNX.out]; exact O5.out.1, O5.out.2⟩
            case measure => simp [intOf]; omega
          | false =>
            have HNX : Hid (((N.take (k + 1)).filter fun p => chg files old p && stn S p) = ((N.take k).filter fun p => chg files old p && stn S p)) := by
              show _ = _
              rw [HFT.out]; simp
            go_wp2_with fail
            go_roundw
            case rel => exact ⟨k + 1, by omega, by go_num, by rw [HNX.out]; exact O4.out.1, O4.out.2⟩
            case measure => simp [intOf]; omega
        | false =>
          cases x with
          | true =>
            have HNX : Hid (((N.take (k + 1)).filter fun p => chg files old p && stn S p) = ((N.take k).filter fun p => chg files old p && stn S p)) := by
              show _ = _
              rw [HFT.out]; simp
            go_wp2_with fail
            go_roundw
            case rel => exact ⟨k + 1, by omega, by go_num, by rw [HNX.out]; exact OB.out.1, OB.out.2⟩
            case measure => simp [intOf]; omega
          | false =>
            go_wp2_with fail
            refine (F3.out _ OB.out.2).mono ?_
            rintro e w4 ⟨rfl, hb4⟩
            have O4 : Hid (Own W.heap.size w4 u13 ((N.take k).filter fun p => chg files old p && stn S p) ∧ Below W.heap.size W w4) := ⟨OB.out.1.later hb4, bstep OB.out.2 hb4⟩
            have x4 := CE.out w4 O4.out.2
            have z4 := O4.out.2.size
            clear hb4
            cases sx with
            | true =>
              have HNX : Hid (((N.take (k + 1)).filter fun p => chg files old p && stn S p) = ((N.take k).filter fun p => chg files old p && stn S p) ++ [p]) := by
                show _ = _
                rw [HFT.out]; simp
              go_wp2_with (at_builtin; refine app_one (base := W.heap.size) p O4.out.1 HLN.out z4 rfl (.tmp 98) (.tmp 103) rfl rfl rfl ?_; intro v5 w5 ho5 hb5 hbs5 _ _; have O5 : Hid (Own W.heap.size w5 v5 (((N.take k).filter fun p => chg files old p && stn S p) ++ [p]) ∧ Below W.heap.size W w5) := ⟨ho5, below_trans O4.out.2 hb5⟩; clear ho5 hb5 hbs5)
              go_roundw
              case rel => exact ⟨k + 1, by omega, by go_num, by rw [HNX.out]; exact O5.out.1, O5.out.2⟩
              case measure => simp [intOf]; omega
            | false =>
              have HNX : Hid (((N.take (k + 1)).filter fun p => chg files old p && stn S p) = ((N.take k).filter fun p => chg files old p && stn S p)) := by
                show _ = _
                rw [HFT.out]; simp
              go_wp2_with fail
              go_roundw
              case rel => exact ⟨k + 1, by omega, by go_num, by rw [HNX.out]; exact O4.out.1, O4.out.2⟩
              case measure => simp [intOf]; omega

    · obtain rfl : k = ln := by omega
      have HE : Hid (Own w.heap.size wr u13 R ∧ Below w.heap.size w wr) := by
        have := OW.out.1
        rw [List.take_of_length_le (by have := HN.out.2.1; omega), HR.out] at this
        exact ⟨this.mono HB.out.size, bstep HB.out OW.out.2⟩
      go_wp2_with fail
      refine HK_.out _ _ ?_
      go_wp2_with fail
      refine bodyPost_ret (results_tmp2 rfl _ _ _) rfl ?_
      exact ⟨_, rfl, HE.out.1, HE.out.2⟩
end Go.Proofs.YtfdcfcalbongeaaGreat
