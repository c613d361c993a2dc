/-
  The document's text of cones.
-/
import Derived.Test.YtkopjamednedfaaGreatJQa
import Derived.Test.YtkopjamednedfaaGreatPf4
namespace Go.Proofs.YtkopjamednedfaaGreat
open Go.RowKit Go.Maps
attribute [local go_sem] Oper.semAt_some

theorem bs_cat (a b : List UInt8) : bs a ++ bs b = bs (a ++ b) := by apply ByteArray.ext; simp [bs]
/-- the text of the first directories -/
def wrS (k D : List (List UInt8)) (i : Nat) : List UInt8 := [47, 42, 10, 33, 47, 42, 47, 10] ++ wrL (dln k (D.take i))
theorem wrL_app (a b : List (List UInt8)) : wrL (a ++ b) = wrL a ++ wrL b := by simp [wrL]
theorem wrS_next (k D : List (List UInt8)) {i : Nat} (h : i < D.length) : wrS k D (i + 1) = wrS k D i ++ [47] ++ D[i] ++ [47, 10] ++ (if D[i] ∈ k then [] else [33, 47] ++ D[i] ++ [47, 42, 47, 10]) := by
  unfold wrS
  rw [List.take_succ_eq_append_getElem h]
  have e : dln k (D.take i ++ [D[i]]) = dln k (D.take i) ++ (if D[i] ∈ k then [dl D[i]] else [dl D[i], nl D[i]]) := by
    unfold dln
    rw [List.flatMap_append]
    simp only [List.flatMap_cons, List.flatMap_nil, List.append_nil]
  rw [e, wrL_app]
  by_cases hk : D[i] ∈ k
  · rw [if_pos hk, if_pos hk]
    simp [wrL, dl]
  · rw [if_neg hk, if_neg hk]
    simp [wrL, dl, nl]
theorem wrS_all {k : List (List UInt8)} (h : k ≠ [[]]) {n : Nat} (hn : (dsL k).length ≤ n) : wrS k (dsL k) n = wrt k := by
  unfold wrS wrt lns
  rw [if_neg h, List.take_of_length_le hn]
  simp [wrL]
theorem wrS_le (k D : List (List UInt8)) : ∀ {i j : Nat}, i ≤ j → (wrS k D i).length ≤ (wrS k D j).length := by
  intro i j hij
  unfold wrS
  have : D.take j = D.take i ++ (D.take j).drop i := by
    conv => lhs; rw [← List.take_append_drop i (D.take j)]
    rw [List.take_take, Nat.min_eq_left hij]
  rw [this]
  have e : dln k (D.take i ++ (D.take j).drop i) = dln k (D.take i) ++ dln k ((D.take j).drop i) := by simp [dln]
  rw [e, wrL_app]
  simp
theorem one_root : ∀ {k : List (List UInt8)} (h : k.length = 1), k[0]'(by omega) = [] → k = [[]]
  | [a], _, e => by
    have : a = [] := e
    rw [this]
  | [], h, _ => by simp at h
  | a :: b :: r, h, _ => by simp at h
set_option maxRecDepth 100000 in
set_option maxHeartbeats 8000000 in
theorem rwrite_any {w : World} {u : Value} {k : List (List UInt8)} (RC : ∀ W, Below w.heap.size w W → Calls Tryz.prog 27 #[u] W fun e w' => e = .returned (.bool (coneB k)) ∧ Below W.heap.size W w')
    (RD : coneE k = 0 → ∀ W, Below w.heap.size w W → Calls Tryz.prog 28 #[u] W fun e w' => ∃ v, e = .returned v ∧ Own W.heap.size w' v (dsL k) ∧ Below W.heap.size W w') (h : SS w u k) (hl : k.length ≤ 4000000) (hd : coneE k = 0 → (dsL k).length ≤ 1000000000 ∧ (wrt k).length ≤ 4000000000000) :
    Calls Tryz.prog 12 #[u] w fun e w' => e = .returned (.tuple #[.string (bs (pwr k).1), .int .i64 (pwr k).2]) ∧ Below w.heap.size w w' := by
  have HRC := hid_of (RC w (Below.refl _ _))
  have HP : Hid (pwr k = if coneB k = true then (if (wrt k).length ≤ 65536 then (wrt k, 0) else ([], 18)) else ([], 13)) := by
    show _ = _
    unfold pwr
    cases e : coneB k with
    | true => rw [if_pos (coneE_zero.2 e), if_pos rfl]
    | false => rw [if_neg (fun h0 => by rw [coneE_zero.1 h0] at e; cases e), if_neg (by simp)]
  have HRD := hid_of (fun (e : coneB k = true) => RD (coneE_zero.2 e))
  have HHAS := hid_of (fun x W (hW : Below w.heap.size w W) => rhas_any x (h.later hW) (by omega))
  obtain ⟨q, hq⟩ : ∃ q, coneB k = q := ⟨_, rfl⟩
  have HX0 := hid_of (fun (e : coneB k = true) => hd (coneE_zero.2 e))
  rw [hq] at HRC HP HRD HX0
  obtain ⟨ad, c, hv, ca⟩ := h.form
  have HA := hid_of ca
  obtain ⟨n, hn⟩ : ∃ n, k.length = n := ⟨_, rfl⟩
  rw [hn] at hv hl
  subst hv
  have HN := hid_of hn
  clear RC RD h hn ca hq hd
  cases q
  · rw [if_neg (by simp)] at HP
    go_enter Tryz.func12, Tryz.ntmps12
    go_wp2_with fail
    refine HRC.out.mono ?_
    rintro e w1 ⟨rfl, hb1⟩
    have H1 := hid_of hb1
    clear hb1
    go_wp2_with fail
    go_ret2
    exact ⟨by rw [HP.out]; rfl, H1.out⟩
  · rw [if_pos rfl] at HP
    have HRD2 := hid_of (HRD.out rfl)
    have HX := hid_of (HX0.out rfl)
    go_enter Tryz.func12, Tryz.ntmps12
    go_wp2_with fail
    refine HRC.out.mono ?_
    rintro e w1 ⟨rfl, hb1⟩
    have H1 := hid_of hb1
    clear hb1 HRC HRD
    by_cases hroot : k = [[]]
    · have h1n : n = 1 := by rw [← HN.out, hroot]; rfl
      subst h1n
      obtain ⟨b, off, ea, hbl, c0⟩ := HA.out 0 (by rw [HN.out]; omega)
      subst ea
      have c1 : w1.cell? ⟨b, off, none⟩ = some (.string (bs [])) := by
        have q := (H1.out.cell (p := ⟨b, off, none⟩) hbl).trans c0
        have e0 : ∀ (hh : 0 < k.length), k[0] = [] := by rw [hroot]; intro _; rfl
        rw [e0] at q
        exact q
      have he0 : (bs ([] : List UInt8)).toList.isEmpty = true := isE []
      have HPP : Hid (pwr k = ([47, 42, 10], 0)) := by
        show _ = _
        rw [HP.out, hroot, wrt_root]; rfl
      clear c0
      go_wp2_with fail
      go_ret2
      exact ⟨by rw [HPP.out]; rfl, H1.out⟩
    · by_cases h1 : n = 1
      · subst h1
        obtain ⟨b, off, ea, hbl, c0⟩ := HA.out 0 (by rw [HN.out]; omega)
        subst ea
        have hy : k[0]'(by rw [HN.out]; omega) ≠ [] := fun e0 => hroot (one_root HN.out e0)
        have c1 : w1.cell? ⟨b, off, none⟩ = some (.string (bs (k[0]'(by rw [HN.out]; omega)))) := (H1.out.cell (p := ⟨b, off, none⟩) hbl).trans c0
        generalize k[0]'(by rw [HN.out]; omega) = y at c1 hy
        have he := isE y
        have he2 : y.isEmpty = false := by cases y with | nil => exact absurd rfl hy | cons _ _ => rfl
        clear c0
        go_wp2_with fail
        refine (HRD2.out w1 H1.out).mono ?_
        rintro e w2 ⟨v2, rfl, ho2, hb2⟩
        obtain ⟨a2, c2, hv2, ca2⟩ := ho2.bs.form
        obtain ⟨m, hm⟩ : ∃ m, (dsL k).length = m := ⟨_, rfl⟩
        rw [hm] at hv2
        subst hv2
        have H2 : Hid (Below w.heap.size w w2 ∧ (dsL k).length = m ∧ wrS k (dsL k) m = wrt k ∧ ∀ i, i ≤ m → (wrS k (dsL k) i).length ≤ 4000000000000) := ⟨bstep H1.out hb2, hm, wrS_all hroot (Nat.le_of_eq hm), fun i hi => by
          have q := wrS_le k (dsL k) hi
          rw [wrS_all (n := m) hroot (Nat.le_of_eq hm)] at q
          have := HX.out.2
          omega⟩
        have HA2 := hid_of ca2
        have hmb : m ≤ 1000000000 := by have := HX.out.1; omega
        clear ho2 hb2 ca2 hm
        generalize hDD : dsL k = D at H2 HA2
        clear hDD
        go_wp2_with fail
        go_loopw [4, 6] (fun s4 s6 wr => ∃ i : Nat, s6 = .int .i64 i ∧ i ≤ m ∧ s4 = .string (bs (wrS k D i)) ∧ Below w2.heap.size w2 wr) (fun _ s6 _ => m - (intOf s6).toNat)
        case atStart => exact ⟨0, rfl, Nat.zero_le _, rfl, Below.refl _ _⟩
        case round =>
          obtain ⟨i, rfl, hi, rfl, hb⟩ := hrel
          have HR := hid_of hb
          clear hb
          by_cases hlt : i < m
          · have i1 : (i : Int) < (m : Int) := by omega
            have i2 : (0 : Int) ≤ (i : Int) := by omega
            have hil : i < D.length := by rw [H2.out.2.1]; exact hlt
            obtain ⟨b, off, ea, hbl, c0⟩ := HA2.out i hil
            subst ea
            have hst := wrS_next k D hil
            have hlen := H2.out.2.2.2 (i + 1) (by omega)
            rw [hst] at hlen
            have HST := hid_of hst
            have HC0 : Hid (∀ W, Below w2.heap.size w2 W → W.cell? ⟨b, off + i, none⟩ = some (.string (bs D[i]))) := fun W hW => (hW.cell (p := ⟨b, off + i, none⟩) hbl).trans c0
            generalize D[i] = x at HST HC0 hlen
            generalize wrS k D i = t at HST hlen ⊢
            obtain ⟨ov, hov⟩ : ∃ ov, decide (x ∈ k) = ov := ⟨_, rfl⟩
            have HHX := hid_of (fun W (hW : Below w.heap.size w W) => HHAS.out x W hW)
            rw [hov] at HHX
            have e1 : bs t ++ (ByteArray.mk #[47]) ++ bs x ++ (ByteArray.mk #[47, 10]) = bs (t ++ [47] ++ x ++ [47, 10]) := by
              rw [← bs_cat, ← bs_cat, ← bs_cat]; rfl
            have HE1 := hid_of e1
            have c1 := HC0.out wr HR.out
            have hl1 : t.length + x.length + 100 ≤ 5000000000000 := by simp at hlen; omega
            clear hst c0 e1 hlen
            have z1 : (bs t).size = t.length := rfl
            have z2 : (bs x).size = x.length := rfl
            go_wp2_with fail
            refine (HHX.out wr (bstep H2.out.1 HR.out)).mono ?_
            rintro e w3 ⟨rfl, hb3⟩
            have H3 := hid_of (bstep HR.out hb3)
            clear hb3 c1
            have c1 := HC0.out w3 H3.out
            cases ov
            · have HF : Hid (bs t ++ (ByteArray.mk #[47]) ++ bs x ++ (ByteArray.mk #[47, 10]) ++ (ByteArray.mk #[33, 47]) ++ bs x ++ (ByteArray.mk #[47, 42, 47, 10]) = bs (wrS k D (i + 1))) := by
                show _ = _
                rw [HE1.out, show (ByteArray.mk #[33, 47]) = bs [33, 47] from rfl, show (ByteArray.mk #[47, 42, 47, 10]) = bs [47, 42, 47, 10] from rfl, bs_cat, bs_cat, bs_cat, HST.out, if_neg (of_decide_eq_false hov)]
                congr 1
                simp
              go_wp2_with fail
              go_roundw
              case rel => exact ⟨i + 1, by go_num, by omega, by rw [HF.out], H3.out⟩
              case measure => simp [intOf]; omega
            · have HF : Hid (bs t ++ (ByteArray.mk #[47]) ++ bs x ++ (ByteArray.mk #[47, 10]) = bs (wrS k D (i + 1))) := by
                show _ = _
                rw [HST.out, if_pos (of_decide_eq_true hov), List.append_nil]
                exact HE1.out
              go_wp2_with fail
              go_roundw
              case rel => exact ⟨i + 1, by go_num, by omega, by rw [HF.out], H3.out⟩
              case measure => simp [intOf]; omega
          · obtain rfl : i = m := by omega
            have HW := hid_of H2.out.2.2.1
            rw [H2.out.2.2.1]
            have z1 : (bs (wrt k)).size = (wrt k).length := rfl
            have HX2 := hid_of HX.out.2
            by_cases h6 : (wrt k).length ≤ 65536
            · have h6i : ¬ ((65536 : Int) < ((wrt k).length : Int)) := by omega
              rw [if_pos h6] at HP
              go_wp2_with fail
              go_ret2
              exact ⟨by rw [HP.out]; rfl, bstep H2.out.1 HR.out⟩
            · have h6i : (65536 : Int) < ((wrt k).length : Int) := by omega
              rw [if_neg h6] at HP
              go_wp2_with fail
              go_ret2
              exact ⟨by rw [HP.out]; rfl, bstep H2.out.1 HR.out⟩
      · have h1b : ((n : Int) == 1) = false := beq_false_of_ne (by omega)
        go_wp2_with fail
        refine (HRD2.out w1 H1.out).mono ?_
        rintro e w2 ⟨v2, rfl, ho2, hb2⟩
        obtain ⟨a2, c2, hv2, ca2⟩ := ho2.bs.form
        obtain ⟨m, hm⟩ : ∃ m, (dsL k).length = m := ⟨_, rfl⟩
        rw [hm] at hv2
        subst hv2
        have H2 : Hid (Below w.heap.size w w2 ∧ (dsL k).length = m ∧ wrS k (dsL k) m = wrt k ∧ ∀ i, i ≤ m → (wrS k (dsL k) i).length ≤ 4000000000000) := ⟨bstep H1.out hb2, hm, wrS_all hroot (Nat.le_of_eq hm), fun i hi => by
          have q := wrS_le k (dsL k) hi
          rw [wrS_all (n := m) hroot (Nat.le_of_eq hm)] at q
          have := HX.out.2
          omega⟩
        have HA2 := hid_of ca2
        have hmb : m ≤ 1000000000 := by have := HX.out.1; omega
        clear ho2 hb2 ca2 hm
        generalize hDD : dsL k = D at H2 HA2
        clear hDD
        go_wp2_with fail
        go_loopw [4, 6] (fun s4 s6 wr => ∃ i : Nat, s6 = .int .i64 i ∧ i ≤ m ∧ s4 = .string (bs (wrS k D i)) ∧ Below w2.heap.size w2 wr) (fun _ s6 _ => m - (intOf s6).toNat)
        case atStart => exact ⟨0, rfl, Nat.zero_le _, rfl, Below.refl _ _⟩
        case round =>
          obtain ⟨i, rfl, hi, rfl, hb⟩ := hrel
          have HR := hid_of hb
          clear hb
          by_cases hlt : i < m
          · have i1 : (i : Int) < (m : Int) := by omega
            have i2 : (0 : Int) ≤ (i : Int) := by omega
            have hil : i < D.length := by rw [H2.out.2.1]; exact hlt
            obtain ⟨b, off, ea, hbl, c0⟩ := HA2.out i hil
            subst ea
            have hst := wrS_next k D hil
            have hlen := H2.out.2.2.2 (i + 1) (by omega)
            rw [hst] at hlen
            have HST := hid_of hst
            have HC0 : Hid (∀ W, Below w2.heap.size w2 W → W.cell? ⟨b, off + i, none⟩ = some (.string (bs D[i]))) := fun W hW => (hW.cell (p := ⟨b, off + i, none⟩) hbl).trans c0
            generalize D[i] = x at HST HC0 hlen
            generalize wrS k D i = t at HST hlen ⊢
            obtain ⟨ov, hov⟩ : ∃ ov, decide (x ∈ k) = ov := ⟨_, rfl⟩
            have HHX := hid_of (fun W (hW : Below w.heap.size w W) => HHAS.out x W hW)
            rw [hov] at HHX
            have e1 : bs t ++ (ByteArray.mk #[47]) ++ bs x ++ (ByteArray.mk #[47, 10]) = bs (t ++ [47] ++ x ++ [47, 10]) := by
              rw [← bs_cat, ← bs_cat, ← bs_cat]; rfl
            have HE1 := hid_of e1
            have c1 := HC0.out wr HR.out
            have hl1 : t.length + x.length + 100 ≤ 5000000000000 := by simp at hlen; omega
            clear hst c0 e1 hlen
            have z1 : (bs t).size = t.length := rfl
            have z2 : (bs x).size = x.length := rfl
            go_wp2_with fail
            refine (HHX.out wr (bstep H2.out.1 HR.out)).mono ?_
            rintro e w3 ⟨rfl, hb3⟩
            have H3 := hid_of (bstep HR.out hb3)
            clear hb3 c1
            have c1 := HC0.out w3 H3.out
            cases ov
            · have HF : Hid (bs t ++ (ByteArray.mk #[47]) ++ bs x ++ (ByteArray.mk #[47, 10]) ++ (ByteArray.mk #[33, 47]) ++ bs x ++ (ByteArray.mk #[47, 42, 47, 10]) = bs (wrS k D (i + 1))) := by
                show _ = _
                rw [HE1.out, show (ByteArray.mk #[33, 47]) = bs [33, 47] from rfl, show (ByteArray.mk #[47, 42, 47, 10]) = bs [47, 42, 47, 10] from rfl, bs_cat, bs_cat, bs_cat, HST.out, if_neg (of_decide_eq_false hov)]
                congr 1
                simp
              go_wp2_with fail
              go_roundw
              case rel => exact ⟨i + 1, by go_num, by omega, by rw [HF.out], H3.out⟩
              case measure => simp [intOf]; omega
            · have HF : Hid (bs t ++ (ByteArray.mk #[47]) ++ bs x ++ (ByteArray.mk #[47, 10]) = bs (wrS k D (i + 1))) := by
                show _ = _
                rw [HST.out, if_pos (of_decide_eq_true hov), List.append_nil]
                exact HE1.out
              go_wp2_with fail
              go_roundw
              case rel => exact ⟨i + 1, by go_num, by omega, by rw [HF.out], H3.out⟩
              case measure => simp [intOf]; omega
          · obtain rfl : i = m := by omega
            have HW := hid_of H2.out.2.2.1
            rw [H2.out.2.2.1]
            have z1 : (bs (wrt k)).size = (wrt k).length := rfl
            have HX2 := hid_of HX.out.2
            by_cases h6 : (wrt k).length ≤ 65536
            · have h6i : ¬ ((65536 : Int) < ((wrt k).length : Int)) := by omega
              rw [if_pos h6] at HP
              go_wp2_with fail
              go_ret2
              exact ⟨by rw [HP.out]; rfl, bstep H2.out.1 HR.out⟩
            · have h6i : (65536 : Int) < ((wrt k).length : Int) := by omega
              rw [if_neg h6] at HP
              go_wp2_with fail
              go_ret2
              exact ⟨by rw [HP.out]; rfl, bstep H2.out.1 HR.out⟩
end Go.Proofs.YtkopjamednedfaaGreat
