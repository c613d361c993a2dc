/-
  The document's Make.
-/
import Derived.Test.YtfdcfcalbongeaaGreatPo
namespace Go.Proofs.YtfdcfcalbongeaaGreat
open Go.RowKit
attribute [local go_sem] Oper.semAt_some

theorem gth_len : ∀ (k : List Fl), (∀ f ∈ k, f.path.length ≤ 120) → (gth k).length ≤ k.length * 120
  | [], _ => by simp [gth]
  | f :: k, h => by
    have h1 := gth_len k (fun g hg => h g (by simp [hg]))
    have h2 := upl_len (dir f.path)
    have h3 := dir_le f.path
    have h4 := h f (by simp)
    show (upl (dir f.path) ++ gth k).length ≤ _
    rw [List.length_append, List.length_cons]
    omega
theorem nds_len {l : List Fl} (h5 : l.length ≤ 512) (hp : ∀ f ∈ l, f.path.length ≤ 120) : (nds l).length ≤ 61440 := by
  have h1 := norm_len (gth l)
  have h2 := gth_len l hp
  have h3 : (nds l).length ≤ (gth l).length := h1
  omega
theorem app_stepN {w : World} {base n : Nat} {v : Value} {l : List Sp} (s : Sp) (hsz : w.heap.size = n) (hown : OwS base w v l) (hb : l.length + 1 ≤ 1000000000) (hbase : base ≤ w.heap.size)
    {ops : Array Oper} {rest : List Oper} {o : Oper} {a : Act} {Q : Exit → Act → World → Prop} (hgd : o.guard = none) (d y : Operand)
    (ho : o.op = .call { callee := .builtin .append, args := #[d, y], argTypes := #[23, 23] }) (hv : a.eval d = v) (hx : a.eval y = .slice (some ⟨n, 0, none⟩) 1 1)
    (h : ∀ v' w', OwS base w' v' (l ++ [s]) → Below base w w' → (∀ j, j < w.heap.size → v.ownBlock ≠ some j → w'.heap[j]? = w.heap[j]?) → wpList Tryz.prog ops Q rest (a.put o.dst v') w') :
    wpList Tryz.prog ops Q (o :: rest) a (w.alloc (.cells #[.int .i64 s.kind, .string (bs s.p), .string (bs s.f.path), .string (bs s.f.text), .int .i64 s.f.blob, .int .i64 s.f.size] 42)) := by
  subst hsz
  exact app_step s hown hb hbase hgd d y ho hv hx h
theorem hasF_fnd (l : List Fl) (p : List UInt8) : (fnd l p).isSome = hasF l p := by
  unfold fnd hasF
  rw [Bool.eq_iff_iff, List.find?_isSome, List.any_eq_true]
  simp
set_option maxRecDepth 100000 in
set_option maxHeartbeats 16000000 in
theorem mk6 {lv2 lv3 lv4 lv5 lv6 lv7 lv8 lv9 lv10 lv11 lv12 lv13 lv14 lv15 lv16 lv17 lv18 lv19 lv20 lv21 lv22 lv23 lv24 lv25 lv26 lv27 lv28 lv29 lv30 lv31 lv32 lv33 lv34 lv35 lv36 lv37 lv38 lv39 lv40 lv41 lv42 lv43 lv44 lv45 lv46 lv47 lv48 lv49 lv50 lv51 lv52 lv53 lv54 lv55 lv56 lv57 lv58 lv59 lv60 lv61 lv62 lv63 lv64 lv65 lv66 lv67 lv68 lv69 lv70 lv71 lv72 lv73 lv74 lv75 lv76 lv77 lv78 lv79 lv80 lv81 lv82 lv83 lv84 lv85 lv86 lv87 lv88 lv89 lv90 lv91 lv92 lv93 lv94 lv95 lv96 lv97 lv98 lv99 lv100 lv101 lv102 lv103 lv104 lv105 lv106 lv107 lv108 lv109 lv110 lv111 lv112 lv113 lv114 lv115 lv116 lv117 lv118 lv119 lv120 lv121 lv122 lv123 lv124 lv125 lv126 lv127 lv128 lv129 lv130 lv131 lv132 lv133 lv134 lv135 lv136 lv137 lv138 lv139 lv140 lv141 : Value} {w W : World} {oa na : Option Addr} {oc nc no nn : Nat} {old now : List Fl} {R : List Sp} (HF : Hid (FS w (.slice oa no oc) old ∧ FS w (.slice na nn nc) now ∧ old.length = no ∧ now.length = nn)) (HV : Hid (FUp old)) (hno : no ≤ 512) (hnn : nn ≤ 512) (HB : Hid (Below w.heap.size w W)) (HP : Hid ((∀ f ∈ old, f.path.length ≤ 120) ∧ ∀ f ∈ now, f.path.length ≤ 120)) (HR : Hid (mkS old now = R)) :
    Code.wp Tryz.prog (suff 6 (Tryz.f4.body.getD .skip)) (bodyPost Tryz.prog Tryz.f4 (MkQ w R)) ⟨#[.slice oa no oc, .slice na nn nc, lv2, lv3, lv4, lv5, lv6, lv7, lv8, lv9, lv10, lv11, lv12, lv13, lv14, lv15, lv16, lv17, lv18, lv19, lv20, lv21, lv22, lv23, lv24, lv25, lv26, lv27, lv28, lv29, lv30, lv31, lv32, lv33, lv34, lv35, lv36, lv37, lv38, lv39, lv40, lv41, lv42, lv43, lv44, lv45, lv46, lv47, lv48, lv49, lv50, lv51, lv52, lv53, lv54, lv55, lv56, lv57, lv58, lv59, lv60, lv61, lv62, lv63, lv64, lv65, lv66, lv67, lv68, lv69, lv70, lv71, lv72, lv73, lv74, lv75, lv76, lv77, lv78, lv79, lv80, lv81, lv82, lv83, lv84, lv85, lv86, lv87, lv88, lv89, lv90, lv91, lv92, lv93, lv94, lv95, lv96, lv97, lv98, lv99, lv100, lv101, lv102, lv103, lv104, lv105, lv106, lv107, lv108, lv109, lv110, lv111, lv112, lv113, lv114, lv115, lv116, lv117, lv118, lv119, lv120, lv121, lv122, lv123, lv124, lv125, lv126, lv127, lv128, lv129, lv130, lv131, lv132, lv133, lv134, lv135, lv136, lv137, lv138, lv139, lv140, lv141], []⟩ W := by
  conv => arg 2; whnf
  refine wp_seq_k fun KK hKK => ?_
  have HK_ : Hid _ := hKK
  clear hKK
  go_wp2_with fail
  refine HK_.out _ _ ?_
  clear HK_
  refine wp_seq_k fun KK hKK => ?_
  have HK_ : Hid _ := hKK
  clear hKK
  go_wp2_with fail
  go_loopw [7, 8] (fun o i wr => ∃ k : Nat, k ≤ no ∧ i = .int .i64 ((k : Int) - 1) ∧ OwS w.heap.size wr o (((((old.drop k).filter fun f => !hasF now f.path).map Fl.path).reverse).map sDel) ∧ Below w.heap.size w wr) (fun _ i _ => (intOf i + 1).toNat)
  case atStart => exact ⟨no, Nat.le_refl _, rfl, by rw [List.drop_eq_nil_of_le (by have := HF.out.2.2.1; omega)]; exact OwS.nil _ _, HB.out⟩
  case round =>
    obtain ⟨k', hk, rfl, ho, hbw0⟩ := hrel
    have hz := hbw0.size
    cases k' with
    | succ k =>
      have hki : (((k + 1 : Nat) : Int) - 1) = (k : Int) := by omega
      rw [hki]
      clear hki
      have OW : Hid (OwS w.heap.size wr u7 (((((old.drop (k + 1)).filter fun f => !hasF now f.path).map Fl.path).reverse).map sDel) ∧ Below w.heap.size w wr) := ⟨ho, hbw0⟩
      clear ho hbw0
      have hkl : k < old.length := by have := HF.out.2.2.1; omega
      obtain ⟨b, off, ea, hbw, d0, -, -, -⟩ := FS.at (c := oc) (by have := HF.out.1; rw [← HF.out.2.2.1] at this; exact this) (Below.refl _ w) hkl
      subst ea
      have hft := filter_drop (fun f => !hasF now f.path) old k hkl
      generalize hf : old[k] = f at d0 hft
      obtain ⟨p, t, bl, sz⟩ := f
      simp only at d0 hft
      have D0 : Hid (w.cell? ⟨b, off + k * 4, none⟩ = some (.string (bs p))) := d0
      have HFT : Hid ((old.drop k).filter (fun f => !hasF now f.path) = (if (!hasF now p) = true then [⟨p, t, bl, sz⟩] else []) ++ (old.drop (k + 1)).filter (fun f => !hasF now f.path)) := hft
      have x0 : wr.cell? ⟨b, off + k * 4, none⟩ = some (.string (bs p)) := (OW.out.2.cell (p := ⟨b, off + k * 4, none⟩) hbw).trans d0
      have HFI : Hid (Calls Tryz.prog 13 #[.slice na nn nc, .string (bs p)] wr fun e w' => e = .returned (.tuple #[(fopt (fnd now p)).val, .bool (fnd now p).isSome]) ∧ Below wr.heap.size wr w') := rfind_any p (HF.out.2.1.later OW.out.2) (by have := HF.out.2.2.2; omega)
      have HL : Hid ((((((old.drop (k + 1)).filter fun f => !hasF now f.path).map Fl.path).reverse).map sDel).length + 1 ≤ 1000000000) := by
        show _ ≤ _
        rw [List.length_map, List.length_reverse, List.length_map]
        have h1 := List.length_filter_le (fun f => !hasF now f.path) (old.drop (k + 1))
        rw [List.length_drop] at h1
        have := HF.out.2.2.1
        omega
      have hhf := hasF_fnd now p
      have k0 : k ≤ 512 := by omega
      have k1 : (0 : Int) ≤ (k : Int) := by omega
      have k2 : (k : Int) < (no : Int) := by omega
      clear d0 hft hf
      obtain ⟨o, hoo⟩ : ∃ o, fnd now p = o := ⟨_, rfl⟩
      rw [hoo] at HFI hhf
      have HHF : Hid (o.isSome = hasF now p) := hhf
      clear hoo hhf
      cases o with
      | none =>
        have HNX : Hid (((((old.drop k).filter fun f => !hasF now f.path).map Fl.path).reverse).map sDel = ((((old.drop (k + 1)).filter fun f => !hasF now f.path).map Fl.path).reverse).map sDel ++ [sDel p]) := by
          show _ = _
          have : hasF now p = false := HHF.out.symm
          rw [HFT.out]; simp [this]
        go_wp2_with fail
        refine HFI.out.mono ?_
        rintro e w1 ⟨rfl, hb1⟩
        simp only [fopt, Fl.val, zf, Option.isSome_none]
        have OW1 : Hid (OwS w.heap.size (w1.alloc (.cells #[.string (bs []), .string (bs []), .int .i64 0, .int .i64 0] 30)) u7 (((((old.drop (k + 1)).filter fun f => !hasF now f.path).map Fl.path).reverse).map sDel) ∧ Below w.heap.size w (w1.alloc (.cells #[.string (bs []), .string (bs []), .int .i64 0, .int .i64 0] 30))) := ⟨(OW.out.1.later hb1).later (balloc _ _), bstep (bstep OW.out.2 hb1) (balloc _ _)⟩
        have z1 := OW1.out.2.size
        have x1 : (w1.alloc (.cells #[.string (bs []), .string (bs []), .int .i64 0, .int .i64 0] 30)).cell? ⟨b, off + k * 4, none⟩ = some (.string (bs p)) := (OW1.out.2.cell (p := ⟨b, off + k * 4, none⟩) hbw).trans D0.out
        clear hb1 x0
        go_wp2_with (at_builtin; refine app_stepN (base := w.heap.size) (sDel p) (by simp) OW1.out.1 HL.out z1 rfl (.tmp 46) (.tmp 53) rfl rfl rfl ?_; intro v9 w9 ho9 hb9 hs9; have O9 : Hid (OwS w.heap.size w9 v9 (((((old.drop (k + 1)).filter fun f => !hasF now f.path).map Fl.path).reverse).map sDel ++ [sDel p]) ∧ Below w.heap.size w w9) := ⟨ho9, below_trans OW1.out.2 hb9⟩; clear ho9 hb9 hs9)
        go_roundw
        case rel => exact ⟨k, by omega, by go_num, by rw [HNX.out]; exact O9.out.1, O9.out.2⟩
        case measure => simp [intOf]
      | some g =>
        obtain ⟨p', t', bl', sz'⟩ := g
        have HNX : Hid (((((old.drop k).filter fun f => !hasF now f.path).map Fl.path).reverse).map sDel = ((((old.drop (k + 1)).filter fun f => !hasF now f.path).map Fl.path).reverse).map sDel) := by
          show _ = _
          have : hasF now p = true := HHF.out.symm
          rw [HFT.out]; simp [this]
        go_wp2_with fail
        refine HFI.out.mono ?_
        rintro e w1 ⟨rfl, hb1⟩
        simp only [fopt, Fl.val, Option.isSome_some]
        have OW1 : Hid (OwS w.heap.size (w1.alloc (.cells #[.string (bs p'), .string (bs t'), .int .i64 bl', .int .i64 sz'] 30)) u7 (((((old.drop (k + 1)).filter fun f => !hasF now f.path).map Fl.path).reverse).map sDel) ∧ Below w.heap.size w (w1.alloc (.cells #[.string (bs p'), .string (bs t'), .int .i64 bl', .int .i64 sz'] 30))) := ⟨(OW.out.1.later hb1).later (balloc _ _), bstep (bstep OW.out.2 hb1) (balloc _ _)⟩
        have z1 := OW1.out.2.size
        have x1 : (w1.alloc (.cells #[.string (bs p'), .string (bs t'), .int .i64 bl', .int .i64 sz'] 30)).cell? ⟨b, off + k * 4, none⟩ = some (.string (bs p)) := (OW1.out.2.cell (p := ⟨b, off + k * 4, none⟩) hbw).trans D0.out
        clear hb1 x0
        go_wp2_with fail
        go_roundw
        case rel => exact ⟨k, by omega, by go_num, by rw [HNX.out]; exact OW1.out.1, OW1.out.2⟩
        case measure => simp [intOf]
    | zero =>
      have HE : Hid (OwS w.heap.size wr u7 ((pD old now).map sDel) ∧ Below w.heap.size w wr) := by
        refine ⟨?_, hbw0⟩
        rw [List.drop_zero] at ho
        exact ho
      have HLX : Hid (((pD old now).map sDel).length ≤ 1000) := by
        show _ ≤ _
        unfold pD
        rw [List.length_map, List.length_reverse, List.length_map]
        have h1 := List.length_filter_le (fun f => !hasF now f.path) old
        have := HF.out.2.2.1
        omega
      clear ho hbw0
      go_wp2_with fail
      refine HK_.out _ _ ?_
      clear HK_
      refine wp_seq_k fun KK hKK => ?_
      have HK_ : Hid _ := hKK
      clear hKK
      go_wp2_with fail
      refine (rdirs_any (HF.out.1.later HE.out.2) (by have := HF.out.2.2.1; omega) HP.out.1).mono ?_
      rintro e w1 ⟨v1, rfl, ho1, hb1⟩
      have D1 : Hid (Own wr.heap.size w1 v1 (nds old) ∧ Below wr.heap.size wr w1) := ⟨ho1, hb1⟩
      have HE1 : Hid (OwS w.heap.size w1 u7 ((pD old now).map sDel) ∧ Below w.heap.size w w1) := ⟨HE.out.1.later hb1, bstep HE.out.2 hb1⟩
      clear ho1 hb1
      go_wp2_with fail
      refine HK_.out _ _ ?_
      clear HK_
      refine wp_seq_k fun KK hKK => ?_
      have HK_ : Hid _ := hKK
      clear hKK
      go_wp2_with fail
      refine (rdirs_any (HF.out.2.1.later HE1.out.2) (by have := HF.out.2.2.2; omega) HP.out.2).mono ?_
      rintro e w2 ⟨v2, rfl, ho2, hb2⟩
      have HE2 : Hid (OwS w.heap.size w2 u7 ((pD old now).map sDel) ∧ Below w.heap.size w w2) := ⟨HE1.out.1.later hb2, bstep HE1.out.2 hb2⟩
      have hzw := HE.out.2.size
      have hzw1 := HE1.out.2.size
      have D2 : Hid (Own w.heap.size w2 v1 (nds old) ∧ Own w.heap.size w2 v2 (nds now)) := ⟨(D1.out.1.later hb2).mono hzw, ho2.mono hzw1⟩
      clear ho2 hb2
      obtain ⟨wa, wc, hv1⟩ := D2.out.1.len
      obtain ⟨aa, ac, hv2⟩ := D2.out.2.len
      obtain ⟨wn, hwn⟩ : ∃ x, (nds old).length = x := ⟨_, rfl⟩
      obtain ⟨an, han⟩ : ∃ x, (nds now).length = x := ⟨_, rfl⟩
      rw [hwn] at hv1
      rw [han] at hv2
      subst hv1
      subst hv2
      have HDD : Hid (Own w.heap.size w2 (.slice wa wn wc) (nds old) ∧ Own w.heap.size w2 (.slice aa an ac) (nds now) ∧ (nds old).length = wn ∧ (nds now).length = an ∧ wn ≤ 61440 ∧ an ≤ 61440) := ⟨D2.out.1, D2.out.2, hwn, han, by rw [← hwn]; exact nds_len (by have := HF.out.2.2.1; omega) HP.out.1, by rw [← han]; exact nds_len (by have := HF.out.2.2.2; omega) HP.out.2⟩
      clear hwn han D1 D2
      go_wp2_with fail
      refine HK_.out _ _ ?_
      exact mk15 HF HV hno hnn HE2 HDD HLX.out HR
set_option maxRecDepth 100000 in
set_option maxHeartbeats 4000000 in
/-- the document's Make -/
theorem rmake_any {w : World} {vo vn : Value} {old now : List Fl} (ho : FS w vo old) (hn : FS w vn now) (so : FSm old) (sn : FSm now) :
    Calls Tryz.prog 4 #[vo, vn] w fun e w' => ∃ v, e = .returned (.tuple #[v, .int .i64 (mkE old now)]) ∧ OwS w.heap.size w' v (if mkE old now = 0 then mkS old now else []) ∧ Below w.heap.size w w' := by
  have HF0 : Hid (FS w vo old ∧ FS w vn now) := ⟨ho, hn⟩
  obtain ⟨oa, oc, hvo, _⟩ := ho.form
  obtain ⟨na, nc, hvn, _⟩ := hn.form
  obtain ⟨no, hno⟩ : ∃ x, old.length = x := ⟨_, rfl⟩
  obtain ⟨nn, hnn⟩ : ∃ x, now.length = x := ⟨_, rfl⟩
  rw [hno] at hvo
  rw [hnn] at hvn
  subst hvo
  subst hvn
  have HF : Hid (FS w (.slice oa no oc) old ∧ FS w (.slice na nn nc) now ∧ old.length = no ∧ now.length = nn) := ⟨HF0.out.1, HF0.out.2, hno, hnn⟩
  have V1 : Hid (Calls Tryz.prog 12 #[.slice oa no oc] w fun e w' => e = .returned (.int .i64 (validE old)) ∧ Below w.heap.size w w') := kvalid_any HF0.out.1 so
  have V2 : Hid (∀ W, Below w.heap.size w W → Calls Tryz.prog 12 #[.slice na nn nc] W fun e w' => e = .returned (.int .i64 (validE now)) ∧ Below W.heap.size W w') := fun W h => kvalid_any (HF0.out.2.later h) sn
  rename_i hf1 hf2
  clear ho hn so sn HF0 hf1 hf2 hno hnn
  have hME : mkE old now = if validE old = 0 then validE now else validE old := rfl
  obtain ⟨e1, he1⟩ : ∃ x, validE old = x := ⟨_, rfl⟩
  obtain ⟨e2, he2⟩ : ∃ x, validE now = x := ⟨_, rfl⟩
  have HE12 : Hid (validE old = e1 ∧ validE now = e2) := ⟨he1, he2⟩
  rw [he1] at V1
  rw [he2] at V2
  rw [he1, he2] at hME
  rw [hME]
  clear he1 he2 hME
  by_cases h1 : e1 = 0
  · subst h1
    rw [if_pos rfl]
    by_cases h2 : e2 = 0
    · subst h2
      rw [if_pos rfl]
      have T1 := TOk.new HE12.out.1
      have T2 := TOk.new HE12.out.2
      have L1 := (stand_iff.1 ((validE_zero old).1 HE12.out.1)).1
      have L2 := (stand_iff.1 ((validE_zero now).1 HE12.out.2)).1
      have HP : Hid ((∀ f ∈ old, f.path.length ≤ 120) ∧ ∀ f ∈ now, f.path.length ≤ 120) := ⟨fun f hf => (okP_len (fileE_path (T1.fe f hf)).2).1, fun f hf => (okP_len (fileE_path (T2.fe f hf)).2).1⟩
      have HV : Hid (FUp old) := T1.fu
      have n1 : no ≤ 512 := by have := HF.out.2.2.1; omega
      have n2 : nn ≤ 512 := by have := HF.out.2.2.2; omega
      clear T1 T2 L1 L2
      go_enter Tryz.func4, Tryz.ntmps4
      conv => arg 2; whnf
      refine wp_seq_k fun KK hKK => ?_
      have HK_ : Hid _ := hKK
      clear hKK
      go_wp2_with fail
      refine HK_.out _ _ ?_
      clear HK_
      refine wp_seq_k fun KK hKK => ?_
      have HK_ : Hid _ := hKK
      clear hKK
      go_wp2_with fail
      refine V1.out.mono ?_
      rintro e w1 ⟨rfl, hb1⟩
      have B1 : Hid (Below w.heap.size w w1) := hb1
      clear hb1
      go_wp2_with fail
      refine HK_.out _ _ ?_
      clear HK_
      refine wp_seq_k fun KK hKK => ?_
      have HK_ : Hid _ := hKK
      clear hKK
      go_wp2_with fail
      refine (V2.out _ B1.out).mono ?_
      rintro e w2 ⟨rfl, hb2⟩
      have B2 : Hid (Below w.heap.size w w2) := bstep B1.out hb2
      clear hb2
      go_wp2_with fail
      refine HK_.out _ _ ?_
      clear HK_
      refine wp_seq_k fun KK hKK => ?_
      have HK_ : Hid _ := hKK
      clear hKK
      go_wp2_with fail
      refine HK_.out _ _ ?_
      exact mk6 HF HV n1 n2 B2 HP rfl
    · rw [if_neg h2]
      go_enter Tryz.func4, Tryz.ntmps4
      go_wp2_with fail
      refine V1.out.mono ?_
      rintro e w1 ⟨rfl, hb1⟩
      have B1 : Hid (Below w.heap.size w w1) := hb1
      clear hb1
      go_wp2_with fail
      refine (V2.out _ B1.out).mono ?_
      rintro e w2 ⟨rfl, hb2⟩
      have B2 : Hid (Below w.heap.size w w2) := bstep B1.out hb2
      clear hb2
      go_wp2_with fail
      refine bodyPost_ret (results_tmp2 rfl _ _ _) rfl ?_
      exact ⟨_, rfl, OwS.nil _ _, B2.out⟩
  · rw [if_neg h1, if_neg h1]
    go_enter Tryz.func4, Tryz.ntmps4
    go_wp2_with fail
    refine V1.out.mono ?_
    rintro e w1 ⟨rfl, hb1⟩
    have B1 : Hid (Below w.heap.size w w1) := hb1
    clear hb1
    go_wp2_with fail
    refine bodyPost_ret (results_tmp2 rfl _ _ _) rfl ?_
    exact ⟨_, rfl, OwS.nil _ _, B1.out⟩
end Go.Proofs.YtfdcfcalbongeaaGreat
