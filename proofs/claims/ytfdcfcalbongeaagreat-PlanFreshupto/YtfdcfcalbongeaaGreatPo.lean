/-
  The document's Make: its other loops, and all of it.
-/
import Derived.Test.YtfdcfcalbongeaaGreatPm
namespace Go.Proofs.YtfdcfcalbongeaaGreat
open Go.RowKit
attribute [local go_sem] Oper.semAt_some

theorem filter_drop {α : Type} (q : α → Bool) (L : List α) (k : Nat) (hk : k < L.length) : (L.drop k).filter q = (if q L[k] then [L[k]] else []) ++ (L.drop (k + 1)).filter q := by
  rw [List.drop_eq_getElem_cons hk, List.filter_cons]
  split <;> simp
theorem filter_takeS {α : Type} (q : α → Bool) (L : List α) (k : Nat) (hk : k < L.length) : (L.take (k + 1)).filter q = (L.take k).filter q ++ (if q L[k] then [L[k]] else []) := by
  rw [List.take_succ_eq_append_getElem hk, List.filter_append]
  congr 1
  by_cases h : q L[k] <;> simp [h]
/-- the two lists of directories, as they lie -/
structure DX (w W : World) (wv av : Value) (A B : List (List UInt8)) : Prop where
  a : Own w.heap.size W wv A
  b : Own w.heap.size W av B
set_option maxRecDepth 100000 in
set_option maxHeartbeats 16000000 in
theorem mk20 {lv2 lv3 lv4 lv5 lv6 lv8 lv9 lv10 lv13 lv14 lv15 lv16 lv17 lv18 lv19 lv20 lv21 lv22 lv23 lv24 lv25 lv26 lv27 lv28 lv29 lv30 lv31 lv32 lv33 lv34 lv35 lv36 lv37 lv38 lv39 lv40 lv41 lv42 lv43 lv44 lv45 lv46 lv47 lv48 lv49 lv50 lv51 lv52 lv53 lv54 lv55 lv56 lv57 lv58 lv59 lv60 lv61 lv62 lv63 lv64 lv65 lv66 lv67 lv68 lv69 lv70 lv71 lv72 lv73 lv74 lv75 lv76 lv77 lv78 lv79 lv80 lv81 lv82 lv83 lv84 lv85 lv86 lv87 lv88 lv89 lv90 lv91 lv92 lv93 lv94 lv95 lv96 lv97 lv98 lv99 lv100 lv101 lv102 lv103 lv104 lv105 lv106 lv107 lv108 lv109 lv110 lv111 lv112 lv113 lv114 lv115 lv116 lv117 lv118 lv119 lv120 lv121 lv122 lv123 lv124 lv125 lv126 lv127 lv128 lv129 lv130 lv131 lv132 lv133 lv134 lv135 lv136 lv137 lv138 lv139 lv140 lv141 : Value} {w W : World} {oa na : Option Addr} {oc nc no nn : Nat} {vo : Value} {old now : List Fl} {X R : List Sp} (HF : Hid (FS w (.slice oa no oc) old ∧ FS w (.slice na nn nc) now ∧ old.length = no ∧ now.length = nn)) (HV : Hid (FUp old)) (hno : no ≤ 512) (hnn : nn ≤ 512) (HO : Hid (OwS w.heap.size W vo X ∧ Below w.heap.size w W)) {wa aa : Option Addr} {wn wc an ac : Nat} (HD : Hid (Own w.heap.size W (.slice wa wn wc) (nds old) ∧ Own w.heap.size W (.slice aa an ac) (nds now) ∧ (nds old).length = wn ∧ (nds now).length = an ∧ wn ≤ 61440 ∧ an ≤ 61440)) (hX : X.length ≤ 100000) (HR : Hid (X ++ ((pM old now).map sMk ++ (pW old now).map sWr) = R)) :
    Code.wp Tryz.prog (suff 20 (Tryz.f4.body.getD .skip)) (bodyPost Tryz.prog Tryz.f4 (MkQ w R)) ⟨#[.slice oa no oc, .slice na nn nc, lv2, lv3, lv4, lv5, lv6, vo, lv8, lv9, lv10, .slice wa wn wc, .slice aa an ac, lv13, lv14, lv15, lv16, lv17, lv18, lv19, lv20, lv21, lv22, lv23, lv24, lv25, lv26, lv27, lv28, lv29, lv30, lv31, lv32, lv33, lv34, lv35, lv36, lv37, lv38, lv39, lv40, lv41, lv42, lv43, lv44, lv45, lv46, lv47, lv48, lv49, lv50, lv51, lv52, lv53, lv54, lv55, lv56, lv57, lv58, lv59, lv60, lv61, lv62, lv63, lv64, lv65, lv66, lv67, lv68, lv69, lv70, lv71, lv72, lv73, lv74, lv75, lv76, lv77, lv78, lv79, lv80, lv81, lv82, lv83, lv84, lv85, lv86, lv87, lv88, lv89, lv90, lv91, lv92, lv93, lv94, lv95, lv96, lv97, lv98, lv99, lv100, lv101, lv102, lv103, lv104, lv105, lv106, lv107, lv108, lv109, lv110, lv111, lv112, lv113, lv114, lv115, lv116, lv117, lv118, lv119, lv120, lv121, lv122, lv123, lv124, lv125, lv126, lv127, lv128, lv129, lv130, lv131, lv132, lv133, lv134, lv135, lv136, lv137, lv138, lv139, lv140, lv141], []⟩ W := by
  conv => arg 2; whnf
  refine wp_seq_k fun KK hKK => ?_
  have HK_ : Hid _ := hKK
  clear hKK
  go_wp2_with fail
  obtain ⟨A, hA⟩ : ∃ A, nds old = A := ⟨_, rfl⟩
  obtain ⟨B, hB⟩ : ∃ B, nds now = B := ⟨_, rfl⟩
  rw [hA, hB] at HD
  have HAB : Hid (nds old = A ∧ nds now = B) := ⟨hA, hB⟩
  clear hA hB
  have hwn := HD.out.2.2.2.2.1
  have han := HD.out.2.2.2.2.2
  go_loopw [7, 14] (fun o i wr => ∃ k : Nat, k ≤ an ∧ i = .int .i64 k ∧ OwS w.heap.size wr o (X ++ ((B.take k).filter fun d => !decide (d ∈ A)).map sMk) ∧ Below w.heap.size w wr ∧ Own w.heap.size wr (.slice wa wn wc) A ∧ Own w.heap.size wr (.slice aa an ac) B) (fun _ i _ => an - (intOf i).toNat)
  case atStart => exact ⟨0, by omega, rfl, by simpa using HO.out.1, HO.out.2, HD.out.1, HD.out.2.1⟩
  case round =>
    obtain ⟨k, hk, rfl, ho, hbw, hoa, hob⟩ := hrel
    have OW : Hid (OwS w.heap.size wr u7 (X ++ ((B.take k).filter fun d => !decide (d ∈ A)).map sMk) ∧ Below w.heap.size w wr ∧ Own w.heap.size wr (.slice wa wn wc) A ∧ Own w.heap.size wr (.slice aa an ac) B) := ⟨ho, hbw, hoa, hob⟩
    have hz := hbw.size
    clear ho hbw hoa hob
    by_cases hlt : k < an
    · have hkl : k < B.length := by have := HD.out.2.2.2.1; omega
      obtain ⟨a', c', e', hcl⟩ := OW.out.2.2.2.bs.form
      obtain ⟨b, off, ea, hbb, d0⟩ := hcl k hkl
      obtain rfl : aa = a' := by injection e'
      subst ea
      have hft := filter_takeS (fun d => !decide (d ∈ A)) B k hkl
      obtain ⟨p, hp⟩ : ∃ p, B[k] = p := ⟨_, rfl⟩
      rw [hp] at d0 hft
      have HFT : Hid ((B.take (k + 1)).filter (fun d => !decide (d ∈ A)) = (B.take k).filter (fun d => !decide (d ∈ A)) ++ (if (!decide (p ∈ A)) = true then [p] else [])) := hft
      have HH : Hid (Calls Tryz.prog 15 #[.slice wa wn wc, .string (bs p)] wr fun e w' => e = .returned (.bool (decide (p ∈ A))) ∧ w' = wr) := rhas_any p OW.out.2.2.1.bs (by have := HD.out.2.2.1; omega)
      have HL : Hid ((X ++ ((B.take k).filter fun d => !decide (d ∈ A)).map sMk).length + 1 ≤ 1000000000) := by
        show _ ≤ _
        rw [List.length_append, List.length_map]
        have h1 := List.length_filter_le (fun d => !decide (d ∈ A)) (B.take k)
        rw [List.length_take] at h1
        omega
      have k1 : (0 : Int) ≤ (k : Int) := by omega
      have k2 : (k : Int) < (an : Int) := by omega
      clear hft hp e' hcl
      by_cases hin : p ∈ A
      · have HNX : Hid (X ++ ((B.take (k + 1)).filter fun d => !decide (d ∈ A)).map sMk = X ++ ((B.take k).filter fun d => !decide (d ∈ A)).map sMk) := by
          show _ = _
          rw [HFT.out]; simp [hin]
        have HDe : Hid (decide (p ∈ A) = true) := decide_eq_true hin
        clear hin
        go_wp2_with fail
        refine HH.out.mono ?_
        rintro e w1 ⟨rfl, rfl⟩
        rw [HDe.out]
        go_wp2_with fail
        go_roundw
        case rel => exact ⟨k + 1, by omega, by go_num, by rw [HNX.out]; exact OW.out.1, OW.out.2.1, OW.out.2.2.1, OW.out.2.2.2⟩
        case measure => simp [intOf]; omega
      · have HNX : Hid (X ++ ((B.take (k + 1)).filter fun d => !decide (d ∈ A)).map sMk = X ++ ((B.take k).filter fun d => !decide (d ∈ A)).map sMk ++ [sMk p]) := by
          show _ = _
          rw [HFT.out]; simp [hin]
        have HDe : Hid (decide (p ∈ A) = false) := decide_eq_false hin
        clear hin
        go_wp2_with fail
        refine HH.out.mono ?_
        rintro e w1 ⟨rfl, rfl⟩
        rw [HDe.out]
        go_wp2_with (at_builtin; refine app_step (base := w.heap.size) (sMk p) OW.out.1 HL.out hz rfl (.tmp 94) (.tmp 100) rfl rfl rfl ?_; intro v9 w9 ho9 hb9 hs9; have O9 : Hid (OwS w.heap.size w9 v9 (X ++ ((B.take k).filter fun d => !decide (d ∈ A)).map sMk ++ [sMk p]) ∧ Below w.heap.size w w9 ∧ Own w.heap.size w9 (.slice wa wn wc) A ∧ Own w.heap.size w9 (.slice (some ⟨b, off, none⟩) an ac) B) := ⟨ho9, below_trans OW.out.2.1 hb9, OW.out.2.2.1.past OW.out.1 hs9, OW.out.2.2.2.past OW.out.1 hs9⟩; clear ho9 hb9 hs9)
        go_roundw
        case rel => exact ⟨k + 1, by omega, by go_num, by rw [HNX.out]; exact O9.out.1, O9.out.2.1, O9.out.2.2.1, O9.out.2.2.2⟩
        case measure => simp [intOf]; omega
    · obtain rfl : k = an := by omega
      have HE : Hid (OwS w.heap.size wr u7 (X ++ (pM old now).map sMk) ∧ Below w.heap.size w wr) := by
        refine ⟨?_, OW.out.2.1⟩
        have := OW.out.1
        rw [List.take_of_length_le (by have := HD.out.2.2.2.1; omega)] at this
        unfold pM
        rw [HAB.out.1, HAB.out.2]
        exact this
      have HLX : Hid ((X ++ (pM old now).map sMk).length ≤ 200000) := by
        show _ ≤ _
        rw [List.length_append, List.length_map]
        have h1 := List.length_filter_le (fun d => !decide (d ∈ nds old)) (nds now)
        have h2 := HD.out.2.2.2.1
        rw [HAB.out.2] at h1
        unfold pM
        rw [HAB.out.2]
        omega
      clear OW
      go_wp2_with fail
      refine HK_.out _ _ ?_
      exact mk25 HF HV hno hnn HE HLX.out (by show _ = _; rw [List.append_assoc]; exact HR.out)
set_option maxRecDepth 100000 in
set_option maxHeartbeats 16000000 in
theorem mk15 {lv2 lv3 lv4 lv5 lv6 lv8 lv9 lv10 lv13 lv14 lv15 lv16 lv17 lv18 lv19 lv20 lv21 lv22 lv23 lv24 lv25 lv26 lv27 lv28 lv29 lv30 lv31 lv32 lv33 lv34 lv35 lv36 lv37 lv38 lv39 lv40 lv41 lv42 lv43 lv44 lv45 lv46 lv47 lv48 lv49 lv50 lv51 lv52 lv53 lv54 lv55 lv56 lv57 lv58 lv59 lv60 lv61 lv62 lv63 lv64 lv65 lv66 lv67 lv68 lv69 lv70 lv71 lv72 lv73 lv74 lv75 lv76 lv77 lv78 lv79 lv80 lv81 lv82 lv83 lv84 lv85 lv86 lv87 lv88 lv89 lv90 lv91 lv92 lv93 lv94 lv95 lv96 lv97 lv98 lv99 lv100 lv101 lv102 lv103 lv104 lv105 lv106 lv107 lv108 lv109 lv110 lv111 lv112 lv113 lv114 lv115 lv116 lv117 lv118 lv119 lv120 lv121 lv122 lv123 lv124 lv125 lv126 lv127 lv128 lv129 lv130 lv131 lv132 lv133 lv134 lv135 lv136 lv137 lv138 lv139 lv140 lv141 : Value} {w W : World} {oa na : Option Addr} {oc nc no nn : Nat} {vo : Value} {old now : List Fl} {X R : List Sp} (HF : Hid (FS w (.slice oa no oc) old ∧ FS w (.slice na nn nc) now ∧ old.length = no ∧ now.length = nn)) (HV : Hid (FUp old)) (hno : no ≤ 512) (hnn : nn ≤ 512) (HO : Hid (OwS w.heap.size W vo X ∧ Below w.heap.size w W)) {wa aa : Option Addr} {wn wc an ac : Nat} (HD : Hid (Own w.heap.size W (.slice wa wn wc) (nds old) ∧ Own w.heap.size W (.slice aa an ac) (nds now) ∧ (nds old).length = wn ∧ (nds now).length = an ∧ wn ≤ 61440 ∧ an ≤ 61440)) (hX : X.length ≤ 1000) (HR : Hid (X ++ ((pR old now).map sRm ++ ((pM old now).map sMk ++ (pW old now).map sWr)) = R)) :
    Code.wp Tryz.prog (suff 15 (Tryz.f4.body.getD .skip)) (bodyPost Tryz.prog Tryz.f4 (MkQ w R)) ⟨#[.slice oa no oc, .slice na nn nc, lv2, lv3, lv4, lv5, lv6, vo, lv8, lv9, lv10, .slice wa wn wc, .slice aa an ac, lv13, lv14, lv15, lv16, lv17, lv18, lv19, lv20, lv21, lv22, lv23, lv24, lv25, lv26, lv27, lv28, lv29, lv30, lv31, lv32, lv33, lv34, lv35, lv36, lv37, lv38, lv39, lv40, lv41, lv42, lv43, lv44, lv45, lv46, lv47, lv48, lv49, lv50, lv51, lv52, lv53, lv54, lv55, lv56, lv57, lv58, lv59, lv60, lv61, lv62, lv63, lv64, lv65, lv66, lv67, lv68, lv69, lv70, lv71, lv72, lv73, lv74, lv75, lv76, lv77, lv78, lv79, lv80, lv81, lv82, lv83, lv84, lv85, lv86, lv87, lv88, lv89, lv90, lv91, lv92, lv93, lv94, lv95, lv96, lv97, lv98, lv99, lv100, lv101, lv102, lv103, lv104, lv105, lv106, lv107, lv108, lv109, lv110, lv111, lv112, lv113, lv114, lv115, lv116, lv117, lv118, lv119, lv120, lv121, lv122, lv123, lv124, lv125, lv126, lv127, lv128, lv129, lv130, lv131, lv132, lv133, lv134, lv135, lv136, lv137, lv138, lv139, lv140, lv141], []⟩ W := by
  conv => arg 2; whnf
  refine wp_seq_k fun KK hKK => ?_
  have HK_ : Hid _ := hKK
  clear hKK
  go_wp2_with fail
  obtain ⟨A, hA⟩ : ∃ A, nds old = A := ⟨_, rfl⟩
  obtain ⟨B, hB⟩ : ∃ B, nds now = B := ⟨_, rfl⟩
  rw [hA, hB] at HD
  have HAB : Hid (nds old = A ∧ nds now = B) := ⟨hA, hB⟩
  clear hA hB
  have hwn := HD.out.2.2.2.2.1
  have han := HD.out.2.2.2.2.2
  go_loopw [7, 13] (fun o i wr => ∃ k : Nat, k ≤ wn ∧ i = .int .i64 ((k : Int) - 1) ∧ OwS w.heap.size wr o (X ++ ((((A.drop k).filter fun d => !decide (d ∈ B)).reverse).map sRm)) ∧ Below w.heap.size w wr ∧ Own w.heap.size wr (.slice wa wn wc) A ∧ Own w.heap.size wr (.slice aa an ac) B) (fun _ i _ => (intOf i + 1).toNat)
  case atStart => exact ⟨wn, Nat.le_refl _, by (have h : wrap64 ((wn : Int) - 1) = (wn : Int) - 1 := by (unfold wrap64; omega)); rw [h], by rw [List.drop_eq_nil_of_le (by have := HD.out.2.2.1; omega)]; simpa using HO.out.1, HO.out.2, HD.out.1, HD.out.2.1⟩
  case round =>
    obtain ⟨k', hk, rfl, ho, hbw, hoa, hob⟩ := hrel
    have hz := hbw.size
    cases k' with
    | succ k =>
      have hki : (((k + 1 : Nat) : Int) - 1) = (k : Int) := by omega
      rw [hki]
      clear hki
      have OW : Hid (OwS w.heap.size wr u7 (X ++ ((((A.drop (k + 1)).filter fun d => !decide (d ∈ B)).reverse).map sRm)) ∧ Below w.heap.size w wr ∧ Own w.heap.size wr (.slice wa wn wc) A ∧ Own w.heap.size wr (.slice aa an ac) B) := ⟨ho, hbw, hoa, hob⟩
      clear ho hbw hoa hob
      have hkl : k < A.length := by have := HD.out.2.2.1; omega
      obtain ⟨a', c', e', hcl⟩ := OW.out.2.2.1.bs.form
      obtain ⟨b, off, ea, hbb, d0⟩ := hcl k hkl
      obtain rfl : wa = a' := by injection e'
      subst ea
      have hft := filter_drop (fun d => !decide (d ∈ B)) A k hkl
      obtain ⟨p, hp⟩ : ∃ p, A[k] = p := ⟨_, rfl⟩
      rw [hp] at d0 hft
      have HFT : Hid ((A.drop k).filter (fun d => !decide (d ∈ B)) = (if (!decide (p ∈ B)) = true then [p] else []) ++ (A.drop (k + 1)).filter (fun d => !decide (d ∈ B))) := hft
      have HH : Hid (Calls Tryz.prog 15 #[.slice aa an ac, .string (bs p)] wr fun e w' => e = .returned (.bool (decide (p ∈ B))) ∧ w' = wr) := rhas_any p OW.out.2.2.2.bs (by have := HD.out.2.2.2.1; omega)
      have HL : Hid ((X ++ ((((A.drop (k + 1)).filter fun d => !decide (d ∈ B)).reverse).map sRm)).length + 1 ≤ 1000000000) := by
        show _ ≤ _
        rw [List.length_append, List.length_map, List.length_reverse]
        have h1 := List.length_filter_le (fun d => !decide (d ∈ B)) (A.drop (k + 1))
        rw [List.length_drop] at h1
        have := HD.out.2.2.1
        omega
      have k0 : k ≤ 61440 := by omega
      have k1 : (0 : Int) ≤ (k : Int) := by omega
      have k2 : (k : Int) < (wn : Int) := by omega
      clear hft hp e' hcl
      by_cases hin : p ∈ B
      · have HNX : Hid (X ++ ((((A.drop k).filter fun d => !decide (d ∈ B)).reverse).map sRm) = X ++ ((((A.drop (k + 1)).filter fun d => !decide (d ∈ B)).reverse).map sRm)) := by
          show _ = _
          rw [HFT.out]; simp [hin]
        have HDe : Hid (decide (p ∈ B) = true) := decide_eq_true hin
        clear hin
        go_wp2_with fail
        refine HH.out.mono ?_
        rintro e w1 ⟨rfl, rfl⟩
        rw [HDe.out]
        go_wp2_with fail
        go_roundw
        case rel => exact ⟨k, by omega, by go_num, by rw [HNX.out]; exact OW.out.1, OW.out.2.1, OW.out.2.2.1, OW.out.2.2.2⟩
        case measure => simp [intOf]
      · have HNX : Hid (X ++ ((((A.drop k).filter fun d => !decide (d ∈ B)).reverse).map sRm) = X ++ ((((A.drop (k + 1)).filter fun d => !decide (d ∈ B)).reverse).map sRm) ++ [sRm p]) := by
          show _ = _
          rw [HFT.out]; simp [hin]
        have HDe : Hid (decide (p ∈ B) = false) := decide_eq_false hin
        clear hin
        go_wp2_with fail
        refine HH.out.mono ?_
        rintro e w1 ⟨rfl, rfl⟩
        rw [HDe.out]
        go_wp2_with (at_builtin; refine app_step (base := w.heap.size) (sRm p) OW.out.1 HL.out hz rfl (.tmp 73) (.tmp 79) rfl rfl rfl ?_; intro v9 w9 ho9 hb9 hs9; have O9 : Hid (OwS w.heap.size w9 v9 (X ++ ((((A.drop (k + 1)).filter fun d => !decide (d ∈ B)).reverse).map sRm) ++ [sRm p]) ∧ Below w.heap.size w w9 ∧ Own w.heap.size w9 (.slice (some ⟨b, off, none⟩) wn wc) A ∧ Own w.heap.size w9 (.slice aa an ac) B) := ⟨ho9, below_trans OW.out.2.1 hb9, OW.out.2.2.1.past OW.out.1 hs9, OW.out.2.2.2.past OW.out.1 hs9⟩; clear ho9 hb9 hs9)
        go_roundw
        case rel => exact ⟨k, by omega, by go_num, by rw [HNX.out]; exact O9.out.1, O9.out.2.1, O9.out.2.2.1, O9.out.2.2.2⟩
        case measure => simp [intOf]
    | zero =>
      have HE : Hid (OwS w.heap.size wr u7 (X ++ (pR old now).map sRm) ∧ Below w.heap.size w wr) := by
        refine ⟨?_, hbw⟩
        rw [List.drop_zero] at ho
        unfold pR
        rw [HAB.out.1, HAB.out.2]
        exact ho
      have HD2 : Hid (Own w.heap.size wr (.slice wa wn wc) (nds old) ∧ Own w.heap.size wr (.slice aa an ac) (nds now) ∧ (nds old).length = wn ∧ (nds now).length = an ∧ wn ≤ 61440 ∧ an ≤ 61440) := by
        rw [HAB.out.1, HAB.out.2]
        exact ⟨hoa, hob, HD.out.2.2⟩
      have HLX : Hid ((X ++ (pR old now).map sRm).length ≤ 100000) := by
        show _ ≤ _
        rw [List.length_append, List.length_map]
        have h1 := List.length_filter_le (fun d => !decide (d ∈ nds now)) (nds old)
        have h2 := HD.out.2.2.1
        rw [HAB.out.1] at h1
        unfold pR
        rw [List.length_reverse, HAB.out.1]
        omega
      clear ho hoa hob hbw
      go_wp2_with fail
      refine HK_.out _ _ ?_
      exact mk20 HF HV hno hnn HE HD2 HLX.out (by show _ = _; rw [List.append_assoc]; exact HR.out)
end Go.Proofs.YtfdcfcalbongeaaGreat
