/-
  The document's Dirty; the law PlanDirty, from the contracts.
  PlanClean: its last loop.
  PlanClean: from its first loop on; the law, from the contracts.
-/
import Derived.Test.YtfdcfcalbongeaaGreatQc
namespace Go.Proofs.YtfdcfcalbongeaaGreat
open Go.RowKit
attribute [local go_sem] Oper.semAt_some

set_option maxRecDepth 100000 in
set_option maxHeartbeats 16000000 in
theorem dt4 {lv2 lv3 lv4 lv5 lv6 lv7 lv9 lv10 lv11 lv12 lv13 lv14 lv15 lv16 lv17 lv18 lv19 lv20 lv21 lv22 lv23 lv24 lv25 lv26 lv27 lv28 lv29 lv30 lv31 lv32 lv33 lv34 lv35 lv36 lv37 lv38 lv39 lv40 lv41 lv42 lv43 lv44 lv45 lv46 lv47 lv48 lv49 lv50 lv51 lv52 lv53 lv54 lv55 lv56 lv57 lv58 lv59 lv60 lv61 lv62 lv63 lv64 lv65 lv66 lv67 lv68 lv69 lv70 lv71 lv72 lv73 lv74 lv75 lv76 lv77 lv78 lv79 lv80 lv81 lv82 lv83 lv84 lv85 lv86 lv87 lv88 lv89 lv90 lv91 lv92 lv93 lv94 lv95 lv96 lv97 lv98 lv99 lv100 lv101 lv102 lv103 lv104 lv105 : Value} {w W : World} {fa oa : Option Addr} {fn fcp no oc : Nat} {vs : Value} {files old : List Fl} {S : List Sp} {R : List (List UInt8)} (HF : Hid (FS w (.slice fa fn fcp) files ∧ FS w (.slice oa no oc) old ∧ files.length = fn ∧ old.length = no)) (hfn : fn ≤ 1500000) (hon : no ≤ 1500000) (HP : Hid ((∀ f ∈ files, f.path.length ≤ 1500000) ∧ ∀ f ∈ old, f.path.length ≤ 1500000)) (HS : Hid (PS W vs S ∧ S.length ≤ 1000000000 ∧ ∀ s ∈ S, s.p.length ≤ 1000000000)) (HB : Hid (Below w.heap.size w W)) (HR : Hid ((norm (files.map Fl.path ++ old.map Fl.path)).filter (fun p => chg files old p && stn S p) = R)) :
    Code.wp Tryz.prog (suff 4 (Tryz.f5.body.getD .skip)) (bodyPost Tryz.prog Tryz.f5 (DtQ w R)) ⟨#[.slice fa fn fcp, .slice oa no oc, lv2, lv3, lv4, lv5, lv6, lv7, vs, lv9, lv10, lv11, lv12, lv13, lv14, lv15, lv16, lv17, lv18, lv19, lv20, lv21, lv22, lv23, lv24, lv25, lv26, lv27, lv28, lv29, lv30, lv31, lv32, lv33, lv34, lv35, lv36, lv37, lv38, lv39, lv40, lv41, lv42, lv43, lv44, lv45, lv46, lv47, lv48, lv49, lv50, lv51, lv52, lv53, lv54, lv55, lv56, lv57, lv58, lv59, lv60, lv61, lv62, lv63, lv64, lv65, lv66, lv67, lv68, lv69, lv70, lv71, lv72, lv73, lv74, lv75, lv76, lv77, lv78, lv79, lv80, lv81, lv82, lv83, lv84, lv85, lv86, lv87, lv88, lv89, lv90, lv91, lv92, lv93, lv94, lv95, lv96, lv97, lv98, lv99, lv100, lv101, lv102, lv103, lv104, lv105], []⟩ W := by
  conv => arg 2; whnf
  refine wp_seq_k fun KK hKK => ?_
  have HK_ : Hid _ := hKK
  clear hKK
  go_wp2_with fail
  refine HK_.out _ _ ?_
  clear HK_
  refine wp_seq_k fun KK hKK => ?_
  have HK_ : Hid _ := hKK
  clear hKK
  go_wp2_with fail
  have ST : Hid (Own W.heap.size W (.slice none 0 0) [] ∧ Below W.heap.size W W) := ⟨Own.nil _ _, Below.refl _ _⟩
  go_loopw [10, 11] (fun o i wr => ∃ k : Nat, k ≤ fn ∧ i = .int .i64 k ∧ Own W.heap.size wr o ([] ++ (files.take k).map Fl.path) ∧ Below W.heap.size W wr) (fun _ i _ => fn - (intOf i).toNat)
  case atStart => exact ⟨0, by omega, rfl, by simpa using ST.out.1, ST.out.2⟩
  case round =>
    obtain ⟨k, hk, rfl, ho, hbw⟩ := hrel
    have OW : Hid (Own W.heap.size wr u10 ([] ++ (files.take k).map Fl.path) ∧ Below W.heap.size W wr) := ⟨ho, hbw⟩
    have hz := hbw.size
    clear ho hbw
    by_cases hlt : k < fn
    · have hkl : k < files.length := by have := HF.out.2.2; omega
      obtain ⟨b, off, ea, hbb, d0, -, -, -⟩ := FS.at (c := fcp) (by have := HF.out.1; rw [← HF.out.2.2.1] at this; exact this) (bstep HB.out OW.out.2) hkl
      subst ea
      have htk : files.take (k + 1) = files.take k ++ [files[k]] := List.take_succ_eq_append_getElem hkl
      generalize hf : files[k] = f at d0 htk
      have HNX : Hid ([] ++ (files.take (k + 1)).map Fl.path = ([] ++ (files.take k).map Fl.path) ++ [f.path]) := by
        show _ = _
        rw [htk]; simp
      obtain ⟨p, hp⟩ : ∃ p, f.path = p := ⟨_, rfl⟩
      rw [hp] at d0 HNX
      have HLN : Hid (([] ++ (files.take k).map Fl.path).length + 1 ≤ 8796093022208) := by
        show _ ≤ _
        simp only [List.length_append, List.length_map, List.length_take, List.length_nil]
        have := HF.out.2.2
        omega
      have k1 : (0 : Int) ≤ (k : Int) := by omega
      have k2 : (k : Int) < (fn : Int) := by omega
      clear hp hf htk
      go_wp2_with (at_builtin; refine app_one (base := W.heap.size) p OW.out.1 HLN.out hz rfl (.tmp 34) (.tmp 40) rfl rfl rfl ?_; intro v5 w5 ho5 hb5 hbs5 _ _; have O5 : Hid (Own W.heap.size w5 v5 (([] ++ (files.take k).map Fl.path) ++ [p]) ∧ Below W.heap.size W w5) := ⟨ho5, below_trans OW.out.2 hb5⟩; clear ho5 hb5 hbs5)
      go_roundw
      case rel => exact ⟨k + 1, by omega, by go_num, by rw [HNX.out]; exact O5.out.1, O5.out.2⟩
      case measure => simp [intOf]; omega
    · have ST : Hid (Own W.heap.size wr u10 ([] ++ files.map Fl.path) ∧ Below W.heap.size W wr) := by
        have := OW.out.1
        rw [List.take_of_length_le (by have := HF.out.2.2; omega)] at this
        exact ⟨this, OW.out.2⟩
      clear OW
      go_wp2_with fail
      refine HK_.out _ _ ?_
      clear HK_
      refine wp_seq_k fun KK hKK => ?_
      have HK_ : Hid _ := hKK
      clear hKK
      go_wp2_with fail
      rw [List.nil_append] at ST
      go_loopw [10, 12] (fun o i wr => ∃ k : Nat, k ≤ no ∧ i = .int .i64 k ∧ Own W.heap.size wr o (files.map Fl.path ++ (old.take k).map Fl.path) ∧ Below W.heap.size W wr) (fun _ i _ => no - (intOf i).toNat)
      case atStart => exact ⟨0, by omega, rfl, by simpa using ST.out.1, ST.out.2⟩
      case round =>
        obtain ⟨k, hk, rfl, ho, hbw⟩ := hrel
        have OW : Hid (Own W.heap.size wr u10 (files.map Fl.path ++ (old.take k).map Fl.path) ∧ Below W.heap.size W wr) := ⟨ho, hbw⟩
        have hz := hbw.size
        clear ho hbw
        by_cases hlt : k < no
        · have hkl : k < old.length := by have := HF.out.2.2; omega
          obtain ⟨b, off, ea, hbb, d0, -, -, -⟩ := FS.at (c := oc) (by have := HF.out.2.1; rw [← HF.out.2.2.2] at this; exact this) (bstep HB.out OW.out.2) hkl
          subst ea
          have htk : old.take (k + 1) = old.take k ++ [old[k]] := List.take_succ_eq_append_getElem hkl
          generalize hf : old[k] = f at d0 htk
          have HNX : Hid (files.map Fl.path ++ (old.take (k + 1)).map Fl.path = (files.map Fl.path ++ (old.take k).map Fl.path) ++ [f.path]) := by
            show _ = _
            rw [htk]; simp
          obtain ⟨p, hp⟩ : ∃ p, f.path = p := ⟨_, rfl⟩
          rw [hp] at d0 HNX
          have HLN : Hid ((files.map Fl.path ++ (old.take k).map Fl.path).length + 1 ≤ 8796093022208) := by
            show _ ≤ _
            simp only [List.length_append, List.length_map, List.length_take]
            have := HF.out.2.2
            omega
          have k1 : (0 : Int) ≤ (k : Int) := by omega
          have k2 : (k : Int) < (no : Int) := by omega
          clear hp hf htk
          go_wp2_with (at_builtin; refine app_one (base := W.heap.size) p OW.out.1 HLN.out hz rfl (.tmp 48) (.tmp 54) rfl rfl rfl ?_; intro v5 w5 ho5 hb5 hbs5 _ _; have O5 : Hid (Own W.heap.size w5 v5 ((files.map Fl.path ++ (old.take k).map Fl.path) ++ [p]) ∧ Below W.heap.size W w5) := ⟨ho5, below_trans OW.out.2 hb5⟩; clear ho5 hb5 hbs5)
          go_roundw
          case rel => exact ⟨k + 1, by omega, by go_num, by rw [HNX.out]; exact O5.out.1, O5.out.2⟩
          case measure => simp [intOf]; omega
        · have ST : Hid (Own W.heap.size wr u10 (files.map Fl.path ++ old.map Fl.path) ∧ Below W.heap.size W wr) := by
            have := OW.out.1
            rw [List.take_of_length_le (by have := HF.out.2.2; omega)] at this
            exact ⟨this, OW.out.2⟩
          clear OW
          go_wp2_with fail
          refine HK_.out _ _ ?_
          clear HK_
          refine wp_seq_k fun KK hKK => ?_
          have HK_ : Hid _ := hKK
          clear hKK
          have SMA : Sm (files.map Fl.path ++ old.map Fl.path) := by
            refine ⟨by rw [List.length_append, List.length_map, List.length_map]; have := HF.out.2.2; omega, fun x hx => ?_⟩
            rcases List.mem_append.1 hx with hx | hx
            · obtain ⟨f, hf, rfl⟩ := List.mem_map.1 hx; have := HP.out.1 f hf; omega
            · obtain ⟨f, hf, rfl⟩ := List.mem_map.1 hx; have := HP.out.2 f hf; omega
          have NO : Hid (Calls Tryz.prog 16 #[u10] wr fun e w' => ∃ v', e = .returned v' ∧ Own wr.heap.size w' v' (norm (files.map Fl.path ++ old.map Fl.path)) ∧ Below wr.heap.size wr w') := r22norm_any ST.out.1.bs SMA
          have HSM : Hid (Sm (norm (files.map Fl.path ++ old.map Fl.path))) := SMA.norm
          clear SMA
          go_wp2_with fail
          refine NO.out.mono ?_
          rintro e w3 ⟨v3, rfl, ho3, hb3⟩
          have bW3 : Below W.heap.size W w3 := bstep ST.out.2 hb3
          obtain ⟨la, lc, hv3⟩ := ho3.len
          obtain ⟨ln, hln⟩ : ∃ x, (norm (files.map Fl.path ++ old.map Fl.path)).length = x := ⟨_, rfl⟩
          rw [hln] at hv3
          subst hv3
          have HN3 : Hid (SS w3 (.slice la ln lc) (norm (files.map Fl.path ++ old.map Fl.path)) ∧ (norm (files.map Fl.path ++ old.map Fl.path)).length = ln ∧ ∀ p ∈ norm (files.map Fl.path ++ old.map Fl.path), p.length ≤ 1000000000) := ⟨ho3.bs, hln, fun p hp => HSM.out.each p hp⟩
          have HS3 : Hid (PS w3 vs S ∧ S.length ≤ 1000000000 ∧ ∀ s ∈ S, s.p.length ≤ 1000000000) := ⟨HS.out.1.later bW3, HS.out.2⟩
          have HF3 : Hid (FS w (.slice fa fn fcp) files ∧ FS w (.slice oa no oc) old ∧ files.length ≤ 1000000000 ∧ old.length ≤ 1000000000) := ⟨HF.out.1, HF.out.2.1, by have := HF.out.2.2; omega, by have := HF.out.2.2; omega⟩
          have HB3 : Hid (Below w.heap.size w w3) := bstep HB.out bW3
          have hlb : ln ≤ 4000000 := by rw [← hln]; exact HSM.out.len
          clear ho3 hb3 bW3 hln NO
          go_wp2_with fail
          refine HK_.out _ _ ?_
          exact dt14 HF3 HS3 HN3 hlb HB3 HR
theorem nds_pl {l : List Fl} (h : ∀ f ∈ l, f.path.length ≤ 1500000) : ∀ x ∈ nds l, x.length ≤ 1500000 := fun x hx => by
  have h1 := (mem_norm x _).1 hx
  obtain ⟨f, hf, h2⟩ := List.mem_flatMap.1 h1
  have h3 := ups_mem_len _ _ _ h2
  have h4 := dir_le f.path
  have h5 := h f hf
  omega
theorem mkS_pl {old now : List Fl} (h1 : ∀ f ∈ old, f.path.length ≤ 1500000) (h2 : ∀ f ∈ now, f.path.length ≤ 1500000) : ∀ s ∈ mkS old now, s.p.length ≤ 1000000000 := fun s hs => by
  unfold mkS at hs
  simp only [List.mem_append, List.mem_map] at hs
  rcases hs with ⟨p, hp, rfl⟩ | ⟨p, hp, rfl⟩ | ⟨p, hp, rfl⟩ | ⟨f, hf, rfl⟩
  · unfold pD at hp
    rw [List.mem_reverse, List.mem_map] at hp
    obtain ⟨f, hf, rfl⟩ := hp
    have := h1 f (List.mem_filter.1 hf).1
    show f.path.length ≤ _
    omega
  · unfold pR at hp
    rw [List.mem_reverse] at hp
    have := nds_pl h1 p (List.mem_filter.1 hp).1
    show p.length ≤ _
    omega
  · have := nds_pl h2 p (List.mem_filter.1 hp).1
    show p.length ≤ _
    omega
  · have := h2 f (List.mem_filter.1 hf).1
    show f.path.length ≤ _
    omega
set_option maxRecDepth 100000 in
set_option maxHeartbeats 4000000 in
/-- the document's Dirty -/
theorem rdirty_any {w : World} {vf vo vn : Value} {files old now : List Fl} (hf : FS w vf files) (ho : FS w vo old) (hn : FS w vn now) (sf : Fsz files) (so : Fsz old) (sn : Fsz now) :
    Calls Tryz.prog 5 #[vf, vo, vn] w fun e w' => ∃ v, e = .returned (.tuple #[v, .int .i64 (mkE old now)]) ∧ Own w.heap.size w' v (if mkE old now = 0 then drt files old now else []) ∧ Below w.heap.size w w' := by
  have M1 : Hid (Calls Tryz.prog 4 #[vo, vn] w fun e w' => ∃ v, e = .returned (.tuple #[v, .int .i64 (mkE old now)]) ∧ OwS w.heap.size w' v (if mkE old now = 0 then mkS old now else []) ∧ Below w.heap.size w w') := rmake_any ho hn so.sm sn.sm
  have HF0 : Hid (FS w vf files ∧ FS w vo old) := ⟨hf, ho⟩
  obtain ⟨fa, fcp, hvf, _⟩ := hf.form
  obtain ⟨oa, oc, hvo, _⟩ := ho.form
  obtain ⟨fn, hfn⟩ : ∃ x, files.length = x := ⟨_, rfl⟩
  obtain ⟨no, hno⟩ : ∃ x, old.length = x := ⟨_, rfl⟩
  rw [hfn] at hvf
  rw [hno] at hvo
  subst hvf
  subst hvo
  have HF : Hid (FS w (.slice fa fn fcp) files ∧ FS w (.slice oa no oc) old ∧ files.length = fn ∧ old.length = no) := ⟨HF0.out.1, HF0.out.2, hfn, hno⟩
  have HP : Hid ((∀ f ∈ files, f.path.length ≤ 1500000) ∧ ∀ f ∈ old, f.path.length ≤ 1500000) := ⟨sf.pl, so.pl⟩
  have HPL : Hid (∀ s ∈ mkS old now, s.p.length ≤ 1000000000) := mkS_pl so.pl sn.pl
  have n1 : fn ≤ 1500000 := by rw [← hfn]; exact sf.len
  have n2 : no ≤ 1500000 := by rw [← hno]; exact so.len
  rename_i hx1 hx2
  clear hf ho hn sf so sn HF0 hx1 hx2 hfn hno
  by_cases h0 : mkE old now = 0
  · have HL : Hid ((mkS old now).length ≤ 1000000) := mkS_small h0
    rw [if_pos h0]
    rw [if_pos h0, h0] at M1
    rw [h0]
    clear h0
    go_enter Tryz.func5, Tryz.ntmps5
    conv => arg 2; whnf
    refine wp_seq_k fun KK hKK => ?_
    have HK_ : Hid _ := hKK
    clear hKK
    go_wp2_with fail
    refine HK_.out _ _ ?_
    clear HK_
    refine wp_seq_k fun KK hKK => ?_
    have HK_ : Hid _ := hKK
    clear hKK
    go_wp2_with fail
    refine M1.out.mono ?_
    rintro e w1 ⟨v1, rfl, hs1, hb1⟩
    have B1 : Hid (Below w.heap.size w w1) := hb1
    have HS : Hid (PS w1 v1 (mkS old now) ∧ (mkS old now).length ≤ 1000000000 ∧ ∀ s ∈ mkS old now, s.p.length ≤ 1000000000) := ⟨hs1.ps, by have := HL.out; omega, HPL.out⟩
    clear hs1 hb1
    go_wp2_with fail
    refine HK_.out _ _ ?_
    clear HK_
    refine wp_seq_k fun KK hKK => ?_
    have HK_ : Hid _ := hKK
    clear hKK
    go_wp2_with fail
    refine HK_.out _ _ ?_
    exact dt4 HF n1 n2 HP HS B1 rfl
  · rw [if_neg h0]
    rw [if_neg h0] at M1
    obtain ⟨m, hm⟩ : ∃ m, mkE old now = m := ⟨_, rfl⟩
    rw [hm] at M1 h0 ⊢
    clear hm
    go_enter Tryz.func5, Tryz.ntmps5
    go_wp2_with fail
    refine M1.out.mono ?_
    rintro e w1 ⟨v1, rfl, hs1, hb1⟩
    have B1 : Hid (Below w.heap.size w w1) := hb1
    clear hs1 hb1
    go_wp2_with fail
    refine bodyPost_ret (results_tmp2 rfl _ _ _) rfl ?_
    exact ⟨_, rfl, Own.nil _ _, B1.out⟩
end Go.Proofs.YtfdcfcalbongeaaGreat

namespace Go.Proofs.YtfdcfcalbongeaaGreat
open Go.RowKit
attribute [local go_sem] Oper.semAt_some

theorem stn_take (S : List Sp) (p : List UInt8) (k : Nat) (hk : k < S.length) : stn (S.take (k + 1)) p = (stn (S.take k) p || stn1 S[k] p) := by
  unfold stn
  rw [List.take_succ_eq_append_getElem hk, List.any_append]
  simp
theorem bools1 {b c x : Bool} (h : false = ((b != c) || !x)) : b = c ∧ x = true := by
  revert h; cases b <;> cases c <;> cases x <;> decide
theorem bools2 {b x : Bool} (h : true = ((b != b) || !x)) : x = false := by
  revert h; cases b <;> cases x <;> decide
theorem mem_takeD (D : List (List UInt8)) (p : List UInt8) (k : Nat) (hk : k < D.length) : decide (p ∈ D.take (k + 1)) = (decide (p ∈ D.take k) || D[k] == p) := by
  have h : p ∈ D.take (k + 1) ↔ p ∈ D.take k ∨ p = D[k] := by rw [List.take_succ_eq_append_getElem hk, List.mem_append, List.mem_singleton]
  by_cases h2 : D[k] = p
  · rw [decide_eq_true (h.2 (.inr h2.symm)), h2]; simp
  · have h3 : p ∈ D.take (k + 1) ↔ p ∈ D.take k := h.trans ⟨fun a => a.resolve_right fun e => h2 e.symm, .inl⟩
    simp only [h3]
    have : (D[k] == p) = false := by simpa using h2
    rw [this, Bool.or_false]
end Go.Proofs.YtfdcfcalbongeaaGreat

namespace Go.Proofs.YtfdcfcalbongeaaGreat
open Go.RowKit
attribute [local go_sem] Oper.semAt_some

theorem ownF_emptyC (w : World) (base : Nat) (hb : base ≤ w.heap.size) : OwnF base (w.alloc (.cells #[] 30)) (.slice (some ⟨w.heap.size, 0, none⟩) 0 0) [] :=
  ⟨by simp [fc], .inr ⟨w.heap.size, 0, #[], rfl, hb, heap_alloc_new w _, by simp, by unfold maxLen; omega, by simp, by simp [fc]⟩⟩
end Go.Proofs.YtfdcfcalbongeaaGreat
