/-
  The document's snapshots.
-/
import Derived.Test.YtlkkmcibjhoneaaGreatDoorJZd
import Derived.Test.YtlkkmcibjhoneaaGreatDoorFiles
namespace Go.Proofs.YtlkkmcibjhoneaaGreatDoor
open Go.RowKit
theorem bd1 (w : World) : Below w.heap.size w w.drew := (Below.refl _ _).drew

theorem chain_adj : ∀ l : List Fl, chain l = true ↔ ∀ j, (h : j + 1 < l.length) → fol l[j].path l[j + 1].path = true
  | [] => by simp [chain]
  | [a] => by simp [chain]
  | a :: b :: r => by
    have ih := chain_adj (b :: r)
    simp only [chain, Bool.and_eq_true]
    rw [ih]
    constructor
    · rintro ⟨h, h1⟩ j hj
      cases j with
      | zero => exact h
      | succ j => exact h1 j (by simpa using hj)
    · intro h
      exact ⟨h 0 (by simp), fun j hj => h (j + 1) (by simpa using hj)⟩
theorem fileE_ok {f : Fl} (h : pathOk f.path = true) : fileE f = 0 ↔ fits f = true := by
  rw [fileE_zero, h]; simp
set_option maxRecDepth 100000 in
set_option maxHeartbeats 16000000 in
theorem rsnap13_any {w : World} {v : Value} {l : List Fl} (hf : FS w v l) (hb : l.length ≤ 4000000 ∧ (∀ f ∈ l, Fok f) ∧ ∀ f ∈ l, f.path.length ≤ 100000000) :
    Calls Tryz.prog 64 #[v] w fun e w' => e = .returned (.int .i64 (validE l)) ∧ Below w.heap.size w w' := by
  obtain ⟨fa, fc, hv, _⟩ := hf.form
  obtain ⟨fn, hfn⟩ : ∃ fn, l.length = fn := ⟨_, rfl⟩
  have HFF : Hid (FS w (.slice fa l.length fc) l) := by rw [← hv]; exact hf
  rw [hfn] at hv
  subst hv
  have HFN : Hid (l.length = fn) := hfn
  have B : Hid (l.length ≤ 4000000 ∧ (∀ f ∈ l, Fok f) ∧ ∀ f ∈ l, f.path.length ≤ 100000000) := hb
  have hfn9 : fn ≤ 4000000 := by rw [← hfn]; exact hb.1
  clear hf hb hfn
  go_enter Tryz.func64, Tryz.ntmps64
  go_wp2_with fail
  go_loopw [3] (fun iv wr => ∃ i : Nat, i ≤ fn ∧ iv = .int .i64 i ∧ (∀ f ∈ l.take i, pathOk f.path = true) ∧ Below w.heap.size w wr) (fun iv _ => fn - (intOf iv).toNat)
  case atStart => exact ⟨0, by omega, rfl, by simp, Below.refl _ _⟩
  case round =>
    obtain ⟨i, hi0, rfl, hp, hb⟩ := hrel
    have X5 : Hid ((∀ f ∈ l.take i, pathOk f.path = true) ∧ Below w.heap.size w wr) := ⟨hp, hb⟩
    clear hp hb
    by_cases hi : i < fn
    · have i1 : (i : Int) < (fn : Int) := by omega
      have i2 : (0 : Int) ≤ (i : Int) := by omega
      have hil : i < l.length := by rw [HFN.out]; exact hi
      obtain ⟨b, off, ea, hbl, c0, _⟩ := FS.at HFF.out X5.out.2 hil
      subst ea
      have HTK : Hid (l.take (i + 1) = l.take i ++ [l[i]]) := List.take_succ_eq_append_getElem hil
      have hpl := B.out.2.2 l[i] (List.getElem_mem hil)
      have HE7 : Hid (pathOk l[i].path = false → validE l = 7) := fun h => by
        unfold validE
        rw [if_neg]
        intro k
        have := List.all_eq_true.1 k l[i] (List.getElem_mem hil)
        rw [h] at this
        cases this
      obtain ⟨p, hp⟩ : ∃ p, l[i].path = p := ⟨_, rfl⟩
      rw [hp] at c0 hpl HE7
      have HPO : Hid (pathOk p = true → ∀ f ∈ l.take (i + 1), pathOk f.path = true) := fun h f hf => by
        rw [HTK.out] at hf
        rcases List.mem_append.1 hf with hf | hf
        · exact X5.out.1 f hf
        · rw [List.mem_singleton.1 hf, hp]; exact h
      clear hp
      have e1 := isE p
      have HIP := hid_of (fun W' => rispath_any p W' (by omega))
      by_cases h0 : p = []
      · have i0 : p.isEmpty = true := by rw [h0]; rfl
        rw [i0] at e1
        have HV : Hid (validE l = 7) := HE7.out (by rw [h0]; rfl)
        clear h0 i0
        go_wp2_with fail
        go_ret
        exact ⟨by rw [HV.out]; rfl, X5.out.2⟩
      · have i0 : p.isEmpty = false := by cases p; exact absurd rfl h0; rfl
        rw [i0] at e1
        have HPE : Hid (pathOk p = okP p) := by
          show pathOk p = okP p
          unfold pathOk
          rw [show (p == []) = false from by simpa using h0]
          rfl
        clear h0 i0
        go_wp2_with fail
        refine (HIP.out wr).mono ?_
        rintro e z ⟨rfl, hbz⟩
        have HZ : Hid (Below w.heap.size w z) := bstep X5.out.2 hbz
        clear hbz
        obtain ⟨q, hq⟩ : ∃ q, okP p = q := ⟨_, rfl⟩
        rw [hq] at HPE ⊢
        clear hq
        cases q with
        | true =>
          go_wp2_with fail
          go_roundw
          case rel => exact ⟨i + 1, by omega, by go_num, HPO.out HPE.out, HZ.out⟩
          case measure => simp [intOf]; omega
        | false =>
          have HV : Hid (validE l = 7) := HE7.out HPE.out
          go_wp2_with fail
          go_ret
          exact ⟨by rw [HV.out]; rfl, HZ.out⟩
    · obtain rfl : i = fn := by omega
      have HPA0 : Hid (∀ f ∈ l, pathOk f.path = true) := by
        have h := X5.out.1
        rw [List.take_of_length_le (by rw [HFN.out]; exact Nat.le_refl _)] at h
        exact h
      have HE8 : Hid (stand l = false → validE l = 8) := fun h => by
        unfold validE
        rw [if_pos (List.all_eq_true.2 HPA0.out), h]
        rfl
      by_cases h5 : 512 < i
      · have HX8 : Hid (stand l = false) := by
          show stand l = false
          unfold stand
          rw [show decide (l.length ≤ 512) = false from by rw [HFN.out]; simpa using h5]
          rfl
        go_wp2_with fail
        go_ret
        exact ⟨by rw [HE8.out HX8.out]; rfl, X5.out.2⟩
      · obtain ⟨fn, hfe⟩ : ∃ fn, i = fn := ⟨_, rfl⟩
        rw [hfe] at HFN hfn9 h5 ⊢
        have X6 : Hid (Below w.heap.size w wr) := X5.out.2
        clear hfe X5 hi hi0 i
        go_wp2_with fail
        go_loopw [4] (fun iv wq => ∃ i : Nat, i ≤ fn ∧ iv = .int .i64 i ∧ ((∀ j, (h : j < i) → (h2 : j < l.length) → fileE l[j] = 0) ∧ ∀ j, (h : j + 1 < i) → (h2 : j + 1 < l.length) → fol l[j].path l[j + 1].path = true) ∧ Below w.heap.size w wq) (fun iv _ => fn - (intOf iv).toNat)
        case atStart => exact ⟨0, by omega, rfl, ⟨fun j h => by omega, fun j h => by omega⟩, X6.out⟩
        case round =>
          rename World => wq
          obtain ⟨i, hi0, rfl, hinv, hb⟩ := hrel
          have X7 : Hid (((∀ j, (h : j < i) → (h2 : j < l.length) → fileE l[j] = 0) ∧ ∀ j, (h : j + 1 < i) → (h2 : j + 1 < l.length) → fol l[j].path l[j + 1].path = true) ∧ Below w.heap.size w wq) := ⟨hinv, hb⟩
          clear hinv hb
          by_cases hi : i < fn
          · have i1 : (i : Int) < (fn : Int) := by omega
            have i2 : (0 : Int) ≤ (i : Int) := by omega
            have hil : i < l.length := by rw [HFN.out]; exact hi
            obtain ⟨b, off, ea, hbl, c0, c1, c2, c3⟩ := FS.at HFF.out X7.out.2 hil
            subst ea
            have hpl := B.out.2.2 l[i] (List.getElem_mem hil)
            have hok := HPA0.out l[i] (List.getElem_mem hil)
            have HNX : Hid (fileE l[i] = 0 → (∀ j, (h : j + 1 = i) → (h2 : j < l.length) → fol l[j].path l[i].path = true) → (∀ j, (h : j < i + 1) → (h2 : j < l.length) → fileE l[j] = 0) ∧ ∀ j, (h : j + 1 < i + 1) → (h2 : j + 1 < l.length) → fol l[j].path l[j + 1].path = true) := fun g1 g2 => by
              refine ⟨fun j h h2 => ?_, fun j h h2 => ?_⟩
              · by_cases e : j = i
                · subst e; exact g1
                · exact X7.out.1.1 j (by omega) h2
              · by_cases e : j + 1 = i
                · subst e; exact g2 j rfl (by omega)
                · exact X7.out.1.2 j (by omega) h2
            have HNF : Hid (∀ j, (h : j + 1 = i) → (h2 : j < l.length) → fol l[j].path l[i].path = false → stand l = false) := fun j h h2 g => by
              subst h
              cases e : stand l with
              | false => rfl
              | true =>
                unfold stand at e
                rw [Bool.and_eq_true] at e
                have := (chain_adj l).1 e.2 j hil
                rw [g] at this
                cases this
            have HE9 : Hid (fits l[i] = false → stand l = false) := fun g => by
              cases e : stand l with
              | false => rfl
              | true =>
                have h := stand_all e l[i] (List.getElem_mem hil)
                rw [fileE_ok hok, g] at h
                cases h
            have HOF : Hid (fits l[i] = true → fileE l[i] = 0) := fun g => (fileE_ok hok).2 g
            have hpl := B.out.2.2 l[i] (List.getElem_mem hil)
            obtain ⟨f, hf⟩ : ∃ f, l[i] = f := ⟨_, rfl⟩
            rw [hf] at c0 c1 c2 c3 hpl HNX HNF HE9 HOF
            clear hf hok
            obtain ⟨fp, ft, fb, fs⟩ := f
            simp only at c0 c1 c2 c3 hpl HNX HNF
            obtain ⟨wx, hwx⟩ : ∃ wx, wq.alloc (.cells #[.string (bs fp), .string (bs ft), .int .i64 fb, .int .i64 fs] 31) = wx := ⟨_, rfl⟩
            have HBX : Hid (Below w.heap.size w wx) := by
              show Below w.heap.size w wx
              rw [← hwx]; exact bstep X7.out.2 (balloc _ _)
            have HFX : Hid (∀ W', Below wx.heap.size wx W' → W'.cell? ⟨wq.heap.size, 0, none⟩ = some (.string (bs fp)) ∧ W'.cell? ⟨wq.heap.size, 1, none⟩ = some (.string (bs ft)) ∧ W'.cell? ⟨wq.heap.size, 2, none⟩ = some (.int .i64 fb) ∧ W'.cell? ⟨wq.heap.size, 3, none⟩ = some (.int .i64 fs)) := fun W' hW => by
              have hlt : wq.heap.size < wx.heap.size := by rw [← hwx]; simp
              have hk : wx.heap[wq.heap.size]? = some (.cells #[.string (bs fp), .string (bs ft), .int .i64 fb, .int .i64 fs] 31 (0, 0)) := by rw [← hwx]; exact heap_alloc_new _ _
              have hk' := (hW.block wq.heap.size hlt).trans hk
              exact ⟨by simp [World.cell?, hk'], by simp [World.cell?, hk'], by simp [World.cell?, hk'], by simp [World.cell?, hk']⟩
            obtain ⟨g0, g1, g2, g3⟩ := HFX.out wx (Below.refl _ _)
            have z1 : (bs ft).size = ft.length := rfl
            have e1 := isE ft
            have HBS := hid_of (fun W' => rbase13_any fp W' (by omega))
            have cT : (ByteArray.mk #[84, 65, 82, 71, 69, 84, 83]).toList = [84, 65, 82, 71, 69, 84, 83] := ByteArray.toList_mk [84, 65, 82, 71, 69, 84, 83]
            have qM : ((bs (base fp)).toList == [84, 65, 82, 71, 69, 84, 83]) = isM fp := by rw [bs_toList]; rfl
            go_upto_region 12 with fail
            try rw [hwx]
            go_wp2_with fail
            refine (HBS.out wx).mono ?_
            rintro e zz ⟨rfl, hzz⟩
            rw [hzz]
            clear hzz zz
            have HFT : Hid (fits ⟨fp, ft, fb, fs⟩ = if isM fp then fb == 0 && fs == (ft.length : Int) else ft == [] && (decide (0 ≤ fb) && decide (fb ≤ 1152921504606846976)) && (decide (0 ≤ fs) && decide (fs ≤ 4611686018427387904))) := rfl
            obtain ⟨im, him⟩ : ∃ im, isM fp = im := ⟨_, rfl⟩
            rw [him] at qM HFT
            clear him
            cases im with
            | true =>
              simp only [if_true] at HFT
              by_cases d1 : fb = 0
              · have d0 : (fb == 0) = true := by simpa using d1
                by_cases d2 : fs = (ft.length : Int)
                · have d3 : (fs == (ft.length : Int)) = true := by simpa using d2
                  have HOK : Hid (fileE ⟨fp, ft, fb, fs⟩ = 0) := HOF.out (by rw [HFT.out, d0, d3]; rfl)
                  cases i with
                  | zero =>
                    go_upto_region 17 with fail
                    try rw [hwx]
                    clear hwx
                    refine wp_region_noPanic ?_
                    refine wp_region_held_drew (S := fun _ => True) (by kernel_rfl) trivial (fun hHeld => ?_)
                    refine wpAnyH_take (i := 0) (oi := { dst := some 78, op := _, type := _, pos := _, after := _, guard := _ }) (v := ?vx1) rfl (by kernel_rfl) (by kernel_rfl) (by kernel_rfl) (fun _ _ _ h => h) (Or.inl ⟨by rfl, ?hyx1⟩) (by assumption) ?restx1
                    case hyx1 => (intro w hSw; (try dsimp only at hSw); go_simp; try with_reducible rfl)
                    try simp only [Act.put, List.setIfInBounds_toArray, List.set_cons_zero, List.set_cons_succ]
                    refine wpAnyH_take (i := 1) (oi := { dst := some 79, op := _, type := _, pos := _, after := _, guard := _ }) (v := ?vx2) rfl (by kernel_rfl) (by kernel_rfl) (by kernel_rfl) (fun _ _ _ h => h) (Or.inl ⟨by rfl, ?hyx2⟩) (by assumption) ?restx2
                    case hyx2 => (intro w hSw; (try dsimp only at hSw); go_simp; try with_reducible rfl)
                    try simp only [Act.put, List.setIfInBounds_toArray, List.set_cons_zero, List.set_cons_succ]
                    refine wpAnyH_take (i := 2) (oi := { dst := some 80, op := _, type := _, pos := _, after := _, guard := _ }) (v := ?vx3) rfl (by kernel_rfl) (by kernel_rfl) (by kernel_rfl) (fun _ _ _ h => h) (Or.inl ⟨by rfl, ?hyx3⟩) (by assumption) ?restx3
                    case hyx3 => (intro w hSw; (try dsimp only at hSw); go_simp; try with_reducible rfl)
                    try simp only [Act.put, List.setIfInBounds_toArray, List.set_cons_zero, List.set_cons_succ]
                    refine wpAnyH_take (i := 3) (oi := { dst := some 81, op := _, type := _, pos := _, after := _, guard := _ }) (v := undef) rfl (by kernel_rfl) (by kernel_rfl) (by kernel_rfl) (fun _ _ _ h => h) (Or.inr ⟨by rfl, rfl⟩) (by assumption) ?_
                    try simp only [Act.put, List.setIfInBounds_toArray, List.set_cons_zero, List.set_cons_succ]
                    refine wpAnyH_take (i := 4) (oi := { dst := some 82, op := _, type := _, pos := _, after := _, guard := _ }) (v := undef) rfl (by kernel_rfl) (by kernel_rfl) (by kernel_rfl) (fun _ _ _ h => h) (Or.inr ⟨by rfl, rfl⟩) (by assumption) ?_
                    try simp only [Act.put, List.setIfInBounds_toArray, List.set_cons_zero, List.set_cons_succ]
                    refine wpAnyH_take (i := 5) (oi := { dst := some 83, op := _, type := _, pos := _, after := _, guard := _ }) (v := undef) rfl (by kernel_rfl) (by kernel_rfl) (by kernel_rfl) (fun _ _ _ h => h) (Or.inr ⟨by rfl, rfl⟩) (by assumption) ?_
                    try simp only [Act.put, List.setIfInBounds_toArray, List.set_cons_zero, List.set_cons_succ]
                    refine wpAnyH_take (i := 6) (oi := { dst := some 84, op := _, type := _, pos := _, after := _, guard := _ }) (v := undef) rfl (by kernel_rfl) (by kernel_rfl) (by kernel_rfl) (fun _ _ _ h => h) (Or.inr ⟨by rfl, rfl⟩) (by assumption) ?_
                    try simp only [Act.put, List.setIfInBounds_toArray, List.set_cons_zero, List.set_cons_succ]
                    refine wpAnyH_take (i := 7) (oi := { dst := some 85, op := _, type := _, pos := _, after := _, guard := _ }) (v := undef) rfl (by kernel_rfl) (by kernel_rfl) (by kernel_rfl) (fun _ _ _ h => h) (Or.inr ⟨by rfl, rfl⟩) (by assumption) ?_
                    try simp only [Act.put, List.setIfInBounds_toArray, List.set_cons_zero, List.set_cons_succ]
                    refine wpAnyH_take (i := 8) (oi := { dst := some 86, op := _, type := _, pos := _, after := _, guard := _ }) (v := undef) rfl (by kernel_rfl) (by kernel_rfl) (by kernel_rfl) (fun _ _ _ h => h) (Or.inr ⟨by rfl, rfl⟩) (by assumption) ?_
                    try simp only [Act.put, List.setIfInBounds_toArray, List.set_cons_zero, List.set_cons_succ]
                    refine wpAnyH_take (i := 9) (oi := { dst := some 87, op := _, type := _, pos := _, after := _, guard := _ }) (v := undef) rfl (by kernel_rfl) (by kernel_rfl) (by kernel_rfl) (fun _ _ _ h => h) (Or.inr ⟨by rfl, rfl⟩) (by assumption) ?_
                    try simp only [Act.put, List.setIfInBounds_toArray, List.set_cons_zero, List.set_cons_succ]
                    refine wpAnyH_take (i := 10) (oi := { dst := some 88, op := _, type := _, pos := _, after := _, guard := _ }) (v := undef) rfl (by kernel_rfl) (by kernel_rfl) (by kernel_rfl) (fun _ _ _ h => h) (Or.inr ⟨by rfl, rfl⟩) (by assumption) ?_
                    try simp only [Act.put, List.setIfInBounds_toArray, List.set_cons_zero, List.set_cons_succ]
                    refine wpAnyH_take (i := 11) (oi := { dst := some 89, op := _, type := _, pos := _, after := _, guard := _ }) (v := undef) rfl (by kernel_rfl) (by kernel_rfl) (by kernel_rfl) (fun _ _ _ h => h) (Or.inr ⟨by rfl, rfl⟩) (by assumption) ?_
                    try simp only [Act.put, List.setIfInBounds_toArray, List.set_cons_zero, List.set_cons_succ]
                    refine wpAnyH_take (i := 12) (oi := { dst := some 90, op := _, type := _, pos := _, after := _, guard := _ }) (v := undef) rfl (by kernel_rfl) (by kernel_rfl) (by kernel_rfl) (fun _ _ _ h => h) (Or.inr ⟨by rfl, rfl⟩) (by assumption) ?_
                    try simp only [Act.put, List.setIfInBounds_toArray, List.set_cons_zero, List.set_cons_succ]
                    refine wpAnyH_take (i := 13) (oi := { dst := some 91, op := _, type := _, pos := _, after := _, guard := _ }) (v := undef) rfl (by kernel_rfl) (by kernel_rfl) (by kernel_rfl) (fun _ _ _ h => h) (Or.inr ⟨by rfl, rfl⟩) (by assumption) ?_
                    try simp only [Act.put, List.setIfInBounds_toArray, List.set_cons_zero, List.set_cons_succ]
                    refine wpAnyH_take (i := 14) (oi := { dst := some 92, op := _, type := _, pos := _, after := _, guard := _ }) (v := undef) rfl (by kernel_rfl) (by kernel_rfl) (by kernel_rfl) (fun _ _ _ h => h) (Or.inr ⟨by rfl, rfl⟩) (by assumption) ?_
                    try simp only [Act.put, List.setIfInBounds_toArray, List.set_cons_zero, List.set_cons_succ]
                    refine wpAnyH_take (i := 15) (oi := { dst := some 93, op := _, type := _, pos := _, after := _, guard := _ }) (v := undef) rfl (by kernel_rfl) (by kernel_rfl) (by kernel_rfl) (fun _ _ _ h => h) (Or.inr ⟨by rfl, rfl⟩) (by assumption) ?_
                    try simp only [Act.put, List.setIfInBounds_toArray, List.set_cons_zero, List.set_cons_succ]
                    refine wpAnyH_take (i := 16) (oi := { dst := some 94, op := _, type := _, pos := _, after := _, guard := _ }) (v := undef) rfl (by kernel_rfl) (by kernel_rfl) (by kernel_rfl) (fun _ _ _ h => h) (Or.inr ⟨by rfl, rfl⟩) (by assumption) ?_
                    try simp only [Act.put, List.setIfInBounds_toArray, List.set_cons_zero, List.set_cons_succ]
                    refine wpAnyH_take (i := 17) (oi := { dst := some 95, op := _, type := _, pos := _, after := _, guard := _ }) (v := undef) rfl (by kernel_rfl) (by kernel_rfl) (by kernel_rfl) (fun _ _ _ h => h) (Or.inr ⟨by rfl, rfl⟩) (by assumption) ?_
                    try simp only [Act.put, List.setIfInBounds_toArray, List.set_cons_zero, List.set_cons_succ]
                    refine wpAnyH_take (i := 18) (oi := { dst := some 96, op := _, type := _, pos := _, after := _, guard := _ }) (v := undef) rfl (by kernel_rfl) (by kernel_rfl) (by kernel_rfl) (fun _ _ _ h => h) (Or.inr ⟨by rfl, rfl⟩) (by assumption) ?_
                    try simp only [Act.put, List.setIfInBounds_toArray, List.set_cons_zero, List.set_cons_succ]
                    refine wpAnyH_take (i := 19) (oi := { dst := some 97, op := _, type := _, pos := _, after := _, guard := _ }) (v := undef) rfl (by kernel_rfl) (by kernel_rfl) (by kernel_rfl) (fun _ _ _ h => h) (Or.inr ⟨by rfl, rfl⟩) (by assumption) ?_
                    try simp only [Act.put, List.setIfInBounds_toArray, List.set_cons_zero, List.set_cons_succ]
                    refine wpAnyH_take (i := 20) (oi := { dst := some 98, op := _, type := _, pos := _, after := _, guard := _ }) (v := undef) rfl (by kernel_rfl) (by kernel_rfl) (by kernel_rfl) (fun _ _ _ h => h) (Or.inr ⟨by rfl, rfl⟩) (by assumption) ?_
                    try simp only [Act.put, List.setIfInBounds_toArray, List.set_cons_zero, List.set_cons_succ]
                    refine wpAnyH_take (i := 21) (oi := { dst := some 99, op := _, type := _, pos := _, after := _, guard := _ }) (v := undef) rfl (by kernel_rfl) (by kernel_rfl) (by kernel_rfl) (fun _ _ _ h => h) (Or.inr ⟨by rfl, rfl⟩) (by assumption) ?_
                    try simp only [Act.put, List.setIfInBounds_toArray, List.set_cons_zero, List.set_cons_succ]
                    refine wpAnyH_take (i := 22) (oi := { dst := some 100, op := _, type := _, pos := _, after := _, guard := _ }) (v := undef) rfl (by kernel_rfl) (by kernel_rfl) (by kernel_rfl) (fun _ _ _ h => h) (Or.inr ⟨by rfl, rfl⟩) (by assumption) ?_
                    try simp only [Act.put, List.setIfInBounds_toArray, List.set_cons_zero, List.set_cons_succ]
                    refine wpAnyH_take (i := 23) (oi := { dst := some 101, op := _, type := _, pos := _, after := _, guard := _ }) (v := undef) rfl (by kernel_rfl) (by kernel_rfl) (by kernel_rfl) (fun _ _ _ h => h) (Or.inr ⟨by rfl, rfl⟩) (by assumption) ?_
                    try simp only [Act.put, List.setIfInBounds_toArray, List.set_cons_zero, List.set_cons_succ]
                    refine wpAnyH_take (i := 24) (oi := { dst := some 102, op := _, type := _, pos := _, after := _, guard := _ }) (v := ?vx4) rfl (by kernel_rfl) (by kernel_rfl) (by kernel_rfl) (fun _ _ _ h => h) (Or.inl ⟨by rfl, ?hyx4⟩) (by assumption) ?restx4
                    case hyx4 => (intro w hSw; (try dsimp only at hSw); go_simp; try with_reducible rfl)
                    try simp only [Act.put, List.setIfInBounds_toArray, List.set_cons_zero, List.set_cons_succ]
                    refine wpAnyH_done (by kernel_rfl) ?_ _
                    refine NoPanic.normal ?_
                    go_wp2_with fail
                    go_roundw
                    case rel => exact ⟨1, by omega, by go_num, HNX.out HOK.out (fun j h => by omega), bstep HBX.out (bd1 _)⟩
                    case measure => simp [intOf]; omega
                  | succ k =>
                    have hkl : k < l.length := by rw [HFN.out]; omega
                    have HPA : Hid (∀ W', Below w.heap.size w W' → W'.cell? ⟨b, off + k * 4, none⟩ = some (.string (bs l[k].path))) := fun W' hW => by
                      obtain ⟨b9, o9, e9, _, c0, _⟩ := FS.at HFF.out hW hkl
                      cases e9
                      exact c0
                    have hpl := B.out.2.2 l[k] (List.getElem_mem hkl)
                    have HFO : Hid (fol l[k].path fp = true → fileE ⟨fp, ft, fb, fs⟩ = 0 → (∀ j, (h : j < k + 1 + 1) → (h2 : j < l.length) → fileE l[j] = 0) ∧ ∀ j, (h : j + 1 < k + 1 + 1) → (h2 : j + 1 < l.length) → fol l[j].path l[j + 1].path = true) := fun h1 h2 => HNX.out h2 (fun j h h3 => by obtain rfl : j = k := (by omega); exact h1)
                    obtain ⟨pp, hpp⟩ : ∃ pp, l[k].path = pp := ⟨_, rfl⟩
                    rw [hpp] at HPA hpl HFO
                    have HN8 : Hid (fol pp fp = false → stand l = false) := fun h => HNF.out k rfl hkl (by rw [hpp]; exact h)
                    clear hpp
                    have HCP := hid_of (fun W' => rpath13_any pp fp W' (by omega) (by omega))
                    have HAB := hid_of (fun W' => rabove13_any pp fp W' (by omega) (by omega))
                    have k0 : (0 : Int) < ((k + 1 : Nat) : Int) := by omega
                    have k1 : IntKind.i64.wrap (((k + 1 : Nat) : Int) - 1) = (k : Int) := by rw [IntKind.wrap_i64]; omega
                    have k2 : ((k + 1 : Nat) : Int) - 1 = (k : Int) := by omega
                    have k5 : IntKind.i64.wrap (k : Int) = (k : Int) := by rw [IntKind.wrap_i64]; omega
                    have k3 : (0 : Int) ≤ (k : Int) := by omega
                    have k4 : (k : Int) < (fn : Int) := by omega
                    go_upto_region 17 with fail
                    try rw [hwx]
                    clear hwx
                    have HS : Hid (∀ W', Below wx.heap.size wx W' → W'.cell? ⟨b, off + k * 4, none⟩ = some (.string (bs pp)) ∧ W'.cell? ⟨wq.heap.size, 0, none⟩ = some (.string (bs fp))) := fun W' hW => ⟨HPA.out W' (bstep HBX.out hW), (HFX.out W' hW).1⟩
                    obtain ⟨s1, s2⟩ := HS.out _ (bd1 wx)
                    refine wp_region_noPanic ?_
                    refine wp_region_held_drew (S := fun W' => W'.cell? ⟨b, off + k * 4, none⟩ = some (.string (bs pp)) ∧ W'.cell? ⟨wq.heap.size, 0, none⟩ = some (.string (bs fp))) (by kernel_rfl) (by exact HS.out _ (bd1 wx)) (fun hHeld => ?_)
                    refine wpAnyH_take (i := 0) (oi := { dst := some 78, op := _, type := _, pos := _, after := _, guard := _ }) (v := ?vx5) rfl (by kernel_rfl) (by kernel_rfl) (by kernel_rfl) (fun _ _ _ h => h) (Or.inl ⟨by rfl, ?hyx5⟩) (by assumption) ?restx5
                    case hyx5 => (intro w hSw; (try dsimp only at hSw); go_simp; try with_reducible rfl)
                    try simp only [Act.put, List.setIfInBounds_toArray, List.set_cons_zero, List.set_cons_succ]
                    refine wpAnyH_take (i := 1) (oi := { dst := some 79, op := _, type := _, pos := _, after := _, guard := _ }) (v := ?vx6) rfl (by kernel_rfl) (by kernel_rfl) (by kernel_rfl) (fun _ _ _ h => h) (Or.inl ⟨by rfl, ?hyx6⟩) (by assumption) ?restx6
                    case hyx6 => (intro w hSw; (try dsimp only at hSw); go_simp; try with_reducible rfl)
                    try simp only [Act.put, List.setIfInBounds_toArray, List.set_cons_zero, List.set_cons_succ]
                    refine wpAnyH_take (i := 2) (oi := { dst := some 80, op := _, type := _, pos := _, after := _, guard := _ }) (v := ?vx7) rfl (by kernel_rfl) (by kernel_rfl) (by kernel_rfl) (fun _ _ _ h => h) (Or.inl ⟨by rfl, ?hyx7⟩) (by assumption) ?restx7
                    case hyx7 => (intro w hSw; (try dsimp only at hSw); go_simp; try with_reducible rfl)
                    try simp only [Act.put, List.setIfInBounds_toArray, List.set_cons_zero, List.set_cons_succ]
                    refine wpAnyH_take (i := 3) (oi := { dst := some 81, op := _, type := _, pos := _, after := _, guard := _ }) (v := ?vx8) rfl (by kernel_rfl) (by kernel_rfl) (by kernel_rfl) (fun _ _ _ h => h) (Or.inl ⟨by rfl, ?hyx8⟩) (by assumption) ?restx8
                    case hyx8 => (intro w hSw; (try dsimp only at hSw); go_simp; try with_reducible rfl)
                    try simp only [Act.put, List.setIfInBounds_toArray, List.set_cons_zero, List.set_cons_succ]
                    refine wpAnyH_take (i := 4) (oi := { dst := some 82, op := _, type := _, pos := _, after := _, guard := _ }) (v := ?vx9) rfl (by kernel_rfl) (by kernel_rfl) (by kernel_rfl) (fun _ _ _ h => h) (Or.inl ⟨by rfl, ?hyx9⟩) (by assumption) ?restx9
                    case hyx9 => (intro w hSw; (try dsimp only at hSw); go_simp; try with_reducible rfl)
                    try simp only [Act.put, List.setIfInBounds_toArray, List.set_cons_zero, List.set_cons_succ]
                    refine wpAnyH_take (i := 5) (oi := { dst := some 83, op := _, type := _, pos := _, after := _, guard := _ }) (v := ?vx10) rfl (by kernel_rfl) (by kernel_rfl) (by kernel_rfl) (fun _ _ _ h => h) (Or.inl ⟨by rfl, ?hyx10⟩) (by assumption) ?restx10
                    case hyx10 => (intro w hSw; (try dsimp only at hSw); go_simp; try with_reducible rfl)
                    try simp only [Act.put, List.setIfInBounds_toArray, List.set_cons_zero, List.set_cons_succ]
                    refine wpAnyH_take (i := 6) (oi := { dst := some 84, op := _, type := _, pos := _, after := _, guard := _ }) (v := ?vx11) rfl (by kernel_rfl) (by kernel_rfl) (by kernel_rfl) (fun _ _ _ h => h) (Or.inl ⟨by rfl, ?hyx11⟩) (by assumption) ?restx11
                    case hyx11 => (intro w hSw; (try dsimp only at hSw); go_simp; try with_reducible rfl)
                    try simp only [Act.put, List.setIfInBounds_toArray, List.set_cons_zero, List.set_cons_succ]
                    refine wpAnyH_take (i := 7) (oi := { dst := some 85, op := _, type := _, pos := _, after := _, guard := _ }) (v := ?vx12) rfl (by kernel_rfl) (by kernel_rfl) (by kernel_rfl) (fun _ _ _ h => h) (Or.inl ⟨by rfl, ?hyx12⟩) (by assumption) ?restx12
                    case hyx12 => (intro w hSw; (try dsimp only at hSw); go_simp; try with_reducible rfl)
                    try simp only [Act.put, List.setIfInBounds_toArray, List.set_cons_zero, List.set_cons_succ]
                    refine wpAnyH_take (i := 8) (oi := { dst := some 86, op := _, type := _, pos := _, after := _, guard := _ }) (v := ?vx13) rfl (by kernel_rfl) (by kernel_rfl) (by kernel_rfl) (fun _ _ _ h => h) (Or.inl ⟨by rfl, ?hyx13⟩) (by assumption) ?restx13
                    case hyx13 => (intro w hSw; (try dsimp only at hSw); go_simp; try with_reducible rfl)
                    try simp only [Act.put, List.setIfInBounds_toArray, List.set_cons_zero, List.set_cons_succ]
                    refine wpAnyH_take (i := 9) (oi := { dst := some 87, op := _, type := _, pos := _, after := _, guard := _ }) (v := ?vx14) rfl (by kernel_rfl) (by kernel_rfl) (by kernel_rfl) (fun _ _ _ h => h) (Or.inl ⟨by rfl, ?hyx14⟩) (by assumption) ?restx14
                    case hyx14 => (intro w hSw; (try dsimp only at hSw); go_simp; try with_reducible rfl)
                    try simp only [Act.put, List.setIfInBounds_toArray, List.set_cons_zero, List.set_cons_succ]
                    refine wpAnyH_take (i := 10) (oi := { dst := some 88, op := _, type := _, pos := _, after := _, guard := _ }) (v := ?vx15) rfl (by kernel_rfl) (by kernel_rfl) (by kernel_rfl) (fun _ _ _ h => h) (Or.inl ⟨by rfl, ?hyx15⟩) (by assumption) ?restx15
                    case hyx15 => (intro w hSw; (try dsimp only at hSw); go_simp; try with_reducible rfl)
                    try simp only [Act.put, List.setIfInBounds_toArray, List.set_cons_zero, List.set_cons_succ]
                    refine wpAnyH_ready (rs := [11]) (by kernel_rfl) (by simp) ?_
                    refine AllReadyH.cons (o := { dst := some 89, op := _, type := _, pos := _, after := _, guard := _ }) rfl (fun K hK => ?_) AllReadyH.nil
                    go_simp
                    with_reducible refine (HCP.out wx.drew).mono ?_
                    rintro e z1 ⟨rfl, hb⟩
                    have HZ1 : Hid (Below wx.heap.size wx z1) := bstep (bd1 wx) hb
                    clear hb
                    refine hK.out _ _ (HS.out z1 HZ1.out) (fun hHeld => ?_)
                    clear hK K
                    try simp only [List.setIfInBounds_toArray, List.set_cons_zero, List.set_cons_succ]
                    have HFL : Hid (fol pp fp = (decide (cmpP (pcs pp) (pcs fp) < 0) && !abvV pp fp)) := rfl
                    obtain ⟨cv, hcv⟩ : ∃ cv, cmpP (pcs pp) (pcs fp) = cv := ⟨_, rfl⟩
                    rw [hcv] at HFL ⊢
                    clear hcv
                    by_cases hcz : 0 ≤ cv
                    · have hc2 : decide (0 ≤ cv) = true := by simpa using hcz
                      refine wpAnyH_take (i := 12) (oi := { dst := some 90, op := _, type := _, pos := _, after := _, guard := _ }) (v := ?vx16) rfl (by kernel_rfl) (by kernel_rfl) (by kernel_rfl) (fun _ _ _ h => h) (Or.inl ⟨by rfl, ?hyx16⟩) (by assumption) ?restx16
                      case hyx16 => (intro w hSw; (try dsimp only at hSw); go_simp; try with_reducible rfl)
                      try simp only [Act.put, List.setIfInBounds_toArray, List.set_cons_zero, List.set_cons_succ]
                      refine wpAnyH_take (i := 13) (oi := { dst := some 91, op := _, type := _, pos := _, after := _, guard := _ }) (v := ?vx17) rfl (by kernel_rfl) (by kernel_rfl) (by kernel_rfl) (fun _ _ _ h => h) (Or.inl ⟨by rfl, ?hyx17⟩) (by assumption) ?restx17
                      case hyx17 => (intro w hSw; (try dsimp only at hSw); go_simp; try with_reducible rfl)
                      try simp only [Act.put, List.setIfInBounds_toArray, List.set_cons_zero, List.set_cons_succ]
                      refine wpAnyH_take (i := 14) (oi := { dst := some 92, op := _, type := _, pos := _, after := _, guard := _ }) (v := undef) rfl (by kernel_rfl) (by kernel_rfl) (by kernel_rfl) (fun _ _ _ h => h) (Or.inr ⟨by rfl, rfl⟩) (by assumption) ?_
                      try simp only [Act.put, List.setIfInBounds_toArray, List.set_cons_zero, List.set_cons_succ]
                      refine wpAnyH_take (i := 15) (oi := { dst := some 93, op := _, type := _, pos := _, after := _, guard := _ }) (v := undef) rfl (by kernel_rfl) (by kernel_rfl) (by kernel_rfl) (fun _ _ _ h => h) (Or.inr ⟨by rfl, rfl⟩) (by assumption) ?_
                      try simp only [Act.put, List.setIfInBounds_toArray, List.set_cons_zero, List.set_cons_succ]
                      refine wpAnyH_take (i := 16) (oi := { dst := some 94, op := _, type := _, pos := _, after := _, guard := _ }) (v := undef) rfl (by kernel_rfl) (by kernel_rfl) (by kernel_rfl) (fun _ _ _ h => h) (Or.inr ⟨by rfl, rfl⟩) (by assumption) ?_
                      try simp only [Act.put, List.setIfInBounds_toArray, List.set_cons_zero, List.set_cons_succ]
                      refine wpAnyH_take (i := 17) (oi := { dst := some 95, op := _, type := _, pos := _, after := _, guard := _ }) (v := undef) rfl (by kernel_rfl) (by kernel_rfl) (by kernel_rfl) (fun _ _ _ h => h) (Or.inr ⟨by rfl, rfl⟩) (by assumption) ?_
                      try simp only [Act.put, List.setIfInBounds_toArray, List.set_cons_zero, List.set_cons_succ]
                      refine wpAnyH_take (i := 18) (oi := { dst := some 96, op := _, type := _, pos := _, after := _, guard := _ }) (v := undef) rfl (by kernel_rfl) (by kernel_rfl) (by kernel_rfl) (fun _ _ _ h => h) (Or.inr ⟨by rfl, rfl⟩) (by assumption) ?_
                      try simp only [Act.put, List.setIfInBounds_toArray, List.set_cons_zero, List.set_cons_succ]
                      refine wpAnyH_take (i := 19) (oi := { dst := some 97, op := _, type := _, pos := _, after := _, guard := _ }) (v := undef) rfl (by kernel_rfl) (by kernel_rfl) (by kernel_rfl) (fun _ _ _ h => h) (Or.inr ⟨by rfl, rfl⟩) (by assumption) ?_
                      try simp only [Act.put, List.setIfInBounds_toArray, List.set_cons_zero, List.set_cons_succ]
                      refine wpAnyH_take (i := 20) (oi := { dst := some 98, op := _, type := _, pos := _, after := _, guard := _ }) (v := undef) rfl (by kernel_rfl) (by kernel_rfl) (by kernel_rfl) (fun _ _ _ h => h) (Or.inr ⟨by rfl, rfl⟩) (by assumption) ?_
                      try simp only [Act.put, List.setIfInBounds_toArray, List.set_cons_zero, List.set_cons_succ]
                      refine wpAnyH_take (i := 21) (oi := { dst := some 99, op := _, type := _, pos := _, after := _, guard := _ }) (v := undef) rfl (by kernel_rfl) (by kernel_rfl) (by kernel_rfl) (fun _ _ _ h => h) (Or.inr ⟨by rfl, rfl⟩) (by assumption) ?_
                      try simp only [Act.put, List.setIfInBounds_toArray, List.set_cons_zero, List.set_cons_succ]
                      refine wpAnyH_take (i := 22) (oi := { dst := some 100, op := _, type := _, pos := _, after := _, guard := _ }) (v := undef) rfl (by kernel_rfl) (by kernel_rfl) (by kernel_rfl) (fun _ _ _ h => h) (Or.inr ⟨by rfl, rfl⟩) (by assumption) ?_
                      try simp only [Act.put, List.setIfInBounds_toArray, List.set_cons_zero, List.set_cons_succ]
                      refine wpAnyH_take (i := 23) (oi := { dst := some 101, op := _, type := _, pos := _, after := _, guard := _ }) (v := ?vx18) rfl (by kernel_rfl) (by kernel_rfl) (by kernel_rfl) (fun _ _ _ h => h) (Or.inl ⟨by rfl, ?hyx18⟩) (by assumption) ?restx18
                      case hyx18 => (intro w hSw; (try dsimp only at hSw); go_simp; try with_reducible rfl)
                      try simp only [Act.put, List.setIfInBounds_toArray, List.set_cons_zero, List.set_cons_succ]
                      refine wpAnyH_take (i := 24) (oi := { dst := some 102, op := _, type := _, pos := _, after := _, guard := _ }) (v := ?vx19) rfl (by kernel_rfl) (by kernel_rfl) (by kernel_rfl) (fun _ _ _ h => h) (Or.inl ⟨by rfl, ?hyx19⟩) (by assumption) ?restx19
                      case hyx19 => (intro w hSw; (try dsimp only at hSw); go_simp; try with_reducible rfl)
                      try simp only [Act.put, List.setIfInBounds_toArray, List.set_cons_zero, List.set_cons_succ]
                      refine wpAnyH_done (by kernel_rfl) ?_ _
                      refine NoPanic.normal ?_
                      have HX8 : Hid (stand l = false) := HN8.out (by rw [HFL.out, show decide (cv < 0) = false from by simpa using hcz]; rfl)
                      go_wp2_with fail
                      go_ret
                      exact ⟨by rw [HE8.out HX8.out]; rfl, bstep HBX.out HZ1.out⟩
                    · have hc2 : decide (0 ≤ cv) = false := by simpa using hcz
                      have hc3 : decide (cv < 0) = true := by simpa using hcz
                      refine wpAnyH_take (i := 12) (oi := { dst := some 90, op := _, type := _, pos := _, after := _, guard := _ }) (v := ?vx20) rfl (by kernel_rfl) (by kernel_rfl) (by kernel_rfl) (fun _ _ _ h => h) (Or.inl ⟨by rfl, ?hyx20⟩) (by assumption) ?restx20
                      case hyx20 => (intro w hSw; (try dsimp only at hSw); go_simp; try with_reducible rfl)
                      try simp only [Act.put, List.setIfInBounds_toArray, List.set_cons_zero, List.set_cons_succ]
                      refine wpAnyH_take (i := 13) (oi := { dst := some 91, op := _, type := _, pos := _, after := _, guard := _ }) (v := ?vx21) rfl (by kernel_rfl) (by kernel_rfl) (by kernel_rfl) (fun _ _ _ h => h) (Or.inl ⟨by rfl, ?hyx21⟩) (by assumption) ?restx21
                      case hyx21 => (intro w hSw; (try dsimp only at hSw); go_simp; try with_reducible rfl)
                      try simp only [Act.put, List.setIfInBounds_toArray, List.set_cons_zero, List.set_cons_succ]
                      refine wpAnyH_take (i := 14) (oi := { dst := some 92, op := _, type := _, pos := _, after := _, guard := _ }) (v := ?vx22) rfl (by kernel_rfl) (by kernel_rfl) (by kernel_rfl) (fun _ _ _ h => h) (Or.inl ⟨by rfl, ?hyx22⟩) (by assumption) ?restx22
                      case hyx22 => (intro w hSw; (try dsimp only at hSw); go_simp; try with_reducible rfl)
                      try simp only [Act.put, List.setIfInBounds_toArray, List.set_cons_zero, List.set_cons_succ]
                      refine wpAnyH_take (i := 15) (oi := { dst := some 93, op := _, type := _, pos := _, after := _, guard := _ }) (v := ?vx23) rfl (by kernel_rfl) (by kernel_rfl) (by kernel_rfl) (fun _ _ _ h => h) (Or.inl ⟨by rfl, ?hyx23⟩) (by assumption) ?restx23
                      case hyx23 => (intro w hSw; (try dsimp only at hSw); go_simp; try with_reducible rfl)
                      try simp only [Act.put, List.setIfInBounds_toArray, List.set_cons_zero, List.set_cons_succ]
                      refine wpAnyH_take (i := 16) (oi := { dst := some 94, op := _, type := _, pos := _, after := _, guard := _ }) (v := ?vx24) rfl (by kernel_rfl) (by kernel_rfl) (by kernel_rfl) (fun _ _ _ h => h) (Or.inl ⟨by rfl, ?hyx24⟩) (by assumption) ?restx24
                      case hyx24 => (intro w hSw; (try dsimp only at hSw); go_simp; try with_reducible rfl)
                      try simp only [Act.put, List.setIfInBounds_toArray, List.set_cons_zero, List.set_cons_succ]
                      refine wpAnyH_take (i := 17) (oi := { dst := some 95, op := _, type := _, pos := _, after := _, guard := _ }) (v := ?vx25) rfl (by kernel_rfl) (by kernel_rfl) (by kernel_rfl) (fun _ _ _ h => h) (Or.inl ⟨by rfl, ?hyx25⟩) (by assumption) ?restx25
                      case hyx25 => (intro w hSw; (try dsimp only at hSw); go_simp; try with_reducible rfl)
                      try simp only [Act.put, List.setIfInBounds_toArray, List.set_cons_zero, List.set_cons_succ]
                      refine wpAnyH_take (i := 18) (oi := { dst := some 96, op := _, type := _, pos := _, after := _, guard := _ }) (v := ?vx26) rfl (by kernel_rfl) (by kernel_rfl) (by kernel_rfl) (fun _ _ _ h => h) (Or.inl ⟨by rfl, ?hyx26⟩) (by assumption) ?restx26
                      case hyx26 => (intro w hSw; (try dsimp only at hSw); go_simp; try with_reducible rfl)
                      try simp only [Act.put, List.setIfInBounds_toArray, List.set_cons_zero, List.set_cons_succ]
                      refine wpAnyH_take (i := 19) (oi := { dst := some 97, op := _, type := _, pos := _, after := _, guard := _ }) (v := ?vx27) rfl (by kernel_rfl) (by kernel_rfl) (by kernel_rfl) (fun _ _ _ h => h) (Or.inl ⟨by rfl, ?hyx27⟩) (by assumption) ?restx27
                      case hyx27 => (intro w hSw; (try dsimp only at hSw); go_simp; try with_reducible rfl)
                      try simp only [Act.put, List.setIfInBounds_toArray, List.set_cons_zero, List.set_cons_succ]
                      refine wpAnyH_take (i := 20) (oi := { dst := some 98, op := _, type := _, pos := _, after := _, guard := _ }) (v := ?vx28) rfl (by kernel_rfl) (by kernel_rfl) (by kernel_rfl) (fun _ _ _ h => h) (Or.inl ⟨by rfl, ?hyx28⟩) (by assumption) ?restx28
                      case hyx28 => (intro w hSw; (try dsimp only at hSw); go_simp; try with_reducible rfl)
                      try simp only [Act.put, List.setIfInBounds_toArray, List.set_cons_zero, List.set_cons_succ]
                      refine wpAnyH_take (i := 21) (oi := { dst := some 99, op := _, type := _, pos := _, after := _, guard := _ }) (v := ?vx29) rfl (by kernel_rfl) (by kernel_rfl) (by kernel_rfl) (fun _ _ _ h => h) (Or.inl ⟨by rfl, ?hyx29⟩) (by assumption) ?restx29
                      case hyx29 => (intro w hSw; (try dsimp only at hSw); go_simp; try with_reducible rfl)
                      try simp only [Act.put, List.setIfInBounds_toArray, List.set_cons_zero, List.set_cons_succ]
                      refine wpAnyH_ready (rs := [22]) (by kernel_rfl) (by simp) ?_
                      refine AllReadyH.cons (o := { dst := some 100, op := _, type := _, pos := _, after := _, guard := _ }) rfl (fun K hK => ?_) AllReadyH.nil
                      go_simp
                      with_reducible refine (HAB.out z1).mono ?_
                      rintro e z2 ⟨rfl, rfl⟩
                      refine hK.out _ _ (HS.out _ HZ1.out) (fun hHeld => ?_)
                      clear hK K
                      try simp only [List.setIfInBounds_toArray, List.set_cons_zero, List.set_cons_succ]
                      obtain ⟨av, hav⟩ : ∃ av, abvV pp fp = av := ⟨_, rfl⟩
                      rw [hav, hc3] at HFL
                      rw [hav]
                      clear hav
                      refine wpAnyH_take (i := 23) (oi := { dst := some 101, op := _, type := _, pos := _, after := _, guard := _ }) (v := ?vx30) rfl (by kernel_rfl) (by kernel_rfl) (by kernel_rfl) (fun _ _ _ h => h) (Or.inl ⟨by rfl, ?hyx30⟩) (by assumption) ?restx30
                      case hyx30 => (intro w hSw; (try dsimp only at hSw); go_simp; try with_reducible rfl)
                      try simp only [Act.put, List.setIfInBounds_toArray, List.set_cons_zero, List.set_cons_succ]
                      refine wpAnyH_take (i := 24) (oi := { dst := some 102, op := _, type := _, pos := _, after := _, guard := _ }) (v := ?vx31) rfl (by kernel_rfl) (by kernel_rfl) (by kernel_rfl) (fun _ _ _ h => h) (Or.inl ⟨by rfl, ?hyx31⟩) (by assumption) ?restx31
                      case hyx31 => (intro w hSw; (try dsimp only at hSw); go_simp; try with_reducible rfl)
                      try simp only [Act.put, List.setIfInBounds_toArray, List.set_cons_zero, List.set_cons_succ]
                      refine wpAnyH_done (by kernel_rfl) ?_ _
                      refine NoPanic.normal ?_
                      cases av with
                      | true =>
                        have HX8 : Hid (stand l = false) := HN8.out (by rw [HFL.out]; rfl)
                        go_wp2_with fail
                        go_ret
                        exact ⟨by rw [HE8.out HX8.out]; rfl, bstep HBX.out HZ1.out⟩
                      | false =>
                        have HX9 := hid_of (HFO.out (by rw [HFL.out]; rfl) HOK.out)
                        go_wp2_with fail
                        go_roundw
                        case rel => exact ⟨k + 1 + 1, by omega, by go_num, HX9.out, bstep HBX.out HZ1.out⟩
                        case measure => simp [intOf]; omega
                · have d3 : (fs == (ft.length : Int)) = false := by simpa using d2
                  have HX8 : Hid (stand l = false) := HE9.out (by rw [HFT.out, d0, d3]; rfl)
                  go_wp2_with fail
                  all_goals (go_ret; exact ⟨by rw [HE8.out HX8.out]; rfl, HBX.out⟩)
              · have d3 : (fb == 0) = false := by simpa using d1
                have HX8 : Hid (stand l = false) := HE9.out (by rw [HFT.out, d3]; rfl)
                go_wp2_with fail
                all_goals (go_ret; exact ⟨by rw [HE8.out HX8.out]; rfl, HBX.out⟩)
            | false =>
              simp only [Bool.false_eq_true, if_false] at HFT
              by_cases d0 : ft = []
              · have i0 : ft.isEmpty = true := by rw [d0]; rfl
                rw [i0] at e1
                have j0 : (ft == []) = true := by simpa using d0
                clear d0 i0
                by_cases d1 : fb < 0
                · have d2 : decide (0 ≤ fb) = false := by simpa using d1
                  have HX8 : Hid (stand l = false) := HE9.out (by rw [HFT.out, d2]; simp)
                  go_wp2_with fail
                  all_goals (go_ret; exact ⟨by rw [HE8.out HX8.out]; rfl, HBX.out⟩)
                · by_cases d3 : 1152921504606846976 < fb
                  · have d4 : decide (fb ≤ 1152921504606846976) = false := by simpa using d3
                    have HX8 : Hid (stand l = false) := HE9.out (by rw [HFT.out, d4]; simp)
                    go_wp2_with fail
                    all_goals (go_ret; exact ⟨by rw [HE8.out HX8.out]; rfl, HBX.out⟩)
                  · by_cases d5 : fs < 0
                    · have d6 : decide (0 ≤ fs) = false := by simpa using d5
                      have HX8 : Hid (stand l = false) := HE9.out (by rw [HFT.out, d6]; simp)
                      go_wp2_with fail
                      all_goals (go_ret; exact ⟨by rw [HE8.out HX8.out]; rfl, HBX.out⟩)
                    · by_cases d7 : 4611686018427387904 < fs
                      · have d8 : decide (fs ≤ 4611686018427387904) = false := by simpa using d7
                        have HX8 : Hid (stand l = false) := HE9.out (by rw [HFT.out, d8]; simp)
                        go_wp2_with fail
                        all_goals (go_ret; exact ⟨by rw [HE8.out HX8.out]; rfl, HBX.out⟩)
                      · have y1 : decide (0 ≤ fb) = true := by simpa using d1
                        have y2 : decide (fb ≤ 1152921504606846976) = true := by simpa using d3
                        have y3 : decide (0 ≤ fs) = true := by simpa using d5
                        have y4 : decide (fs ≤ 4611686018427387904) = true := by simpa using d7
                        have HOK : Hid (fileE ⟨fp, ft, fb, fs⟩ = 0) := HOF.out (by rw [HFT.out, j0, y1, y2, y3, y4]; rfl)
                        cases i with
                        | zero =>
                          go_upto_region 17 with fail
                          try rw [hwx]
                          clear hwx
                          refine wp_region_noPanic ?_
                          refine wp_region_held_drew (S := fun _ => True) (by kernel_rfl) trivial (fun hHeld => ?_)
                          refine wpAnyH_take (i := 0) (oi := { dst := some 78, op := _, type := _, pos := _, after := _, guard := _ }) (v := ?vx32) rfl (by kernel_rfl) (by kernel_rfl) (by kernel_rfl) (fun _ _ _ h => h) (Or.inl ⟨by rfl, ?hyx32⟩) (by assumption) ?restx32
                          case hyx32 => (intro w hSw; (try dsimp only at hSw); go_simp; try with_reducible rfl)
                          try simp only [Act.put, List.setIfInBounds_toArray, List.set_cons_zero, List.set_cons_succ]
                          refine wpAnyH_take (i := 1) (oi := { dst := some 79, op := _, type := _, pos := _, after := _, guard := _ }) (v := ?vx33) rfl (by kernel_rfl) (by kernel_rfl) (by kernel_rfl) (fun _ _ _ h => h) (Or.inl ⟨by rfl, ?hyx33⟩) (by assumption) ?restx33
                          case hyx33 => (intro w hSw; (try dsimp only at hSw); go_simp; try with_reducible rfl)
                          try simp only [Act.put, List.setIfInBounds_toArray, List.set_cons_zero, List.set_cons_succ]
                          refine wpAnyH_take (i := 2) (oi := { dst := some 80, op := _, type := _, pos := _, after := _, guard := _ }) (v := ?vx34) rfl (by kernel_rfl) (by kernel_rfl) (by kernel_rfl) (fun _ _ _ h => h) (Or.inl ⟨by rfl, ?hyx34⟩) (by assumption) ?restx34
                          case hyx34 => (intro w hSw; (try dsimp only at hSw); go_simp; try with_reducible rfl)
                          try simp only [Act.put, List.setIfInBounds_toArray, List.set_cons_zero, List.set_cons_succ]
                          refine wpAnyH_take (i := 3) (oi := { dst := some 81, op := _, type := _, pos := _, after := _, guard := _ }) (v := undef) rfl (by kernel_rfl) (by kernel_rfl) (by kernel_rfl) (fun _ _ _ h => h) (Or.inr ⟨by rfl, rfl⟩) (by assumption) ?_
                          try simp only [Act.put, List.setIfInBounds_toArray, List.set_cons_zero, List.set_cons_succ]
                          refine wpAnyH_take (i := 4) (oi := { dst := some 82, op := _, type := _, pos := _, after := _, guard := _ }) (v := undef) rfl (by kernel_rfl) (by kernel_rfl) (by kernel_rfl) (fun _ _ _ h => h) (Or.inr ⟨by rfl, rfl⟩) (by assumption) ?_
                          try simp only [Act.put, List.setIfInBounds_toArray, List.set_cons_zero, List.set_cons_succ]
                          refine wpAnyH_take (i := 5) (oi := { dst := some 83, op := _, type := _, pos := _, after := _, guard := _ }) (v := undef) rfl (by kernel_rfl) (by kernel_rfl) (by kernel_rfl) (fun _ _ _ h => h) (Or.inr ⟨by rfl, rfl⟩) (by assumption) ?_
                          try simp only [Act.put, List.setIfInBounds_toArray, List.set_cons_zero, List.set_cons_succ]
                          refine wpAnyH_take (i := 6) (oi := { dst := some 84, op := _, type := _, pos := _, after := _, guard := _ }) (v := undef) rfl (by kernel_rfl) (by kernel_rfl) (by kernel_rfl) (fun _ _ _ h => h) (Or.inr ⟨by rfl, rfl⟩) (by assumption) ?_
                          try simp only [Act.put, List.setIfInBounds_toArray, List.set_cons_zero, List.set_cons_succ]
                          refine wpAnyH_take (i := 7) (oi := { dst := some 85, op := _, type := _, pos := _, after := _, guard := _ }) (v := undef) rfl (by kernel_rfl) (by kernel_rfl) (by kernel_rfl) (fun _ _ _ h => h) (Or.inr ⟨by rfl, rfl⟩) (by assumption) ?_
                          try simp only [Act.put, List.setIfInBounds_toArray, List.set_cons_zero, List.set_cons_succ]
                          refine wpAnyH_take (i := 8) (oi := { dst := some 86, op := _, type := _, pos := _, after := _, guard := _ }) (v := undef) rfl (by kernel_rfl) (by kernel_rfl) (by kernel_rfl) (fun _ _ _ h => h) (Or.inr ⟨by rfl, rfl⟩) (by assumption) ?_
                          try simp only [Act.put, List.setIfInBounds_toArray, List.set_cons_zero, List.set_cons_succ]
                          refine wpAnyH_take (i := 9) (oi := { dst := some 87, op := _, type := _, pos := _, after := _, guard := _ }) (v := undef) rfl (by kernel_rfl) (by kernel_rfl) (by kernel_rfl) (fun _ _ _ h => h) (Or.inr ⟨by rfl, rfl⟩) (by assumption) ?_
                          try simp only [Act.put, List.setIfInBounds_toArray, List.set_cons_zero, List.set_cons_succ]
                          refine wpAnyH_take (i := 10) (oi := { dst := some 88, op := _, type := _, pos := _, after := _, guard := _ }) (v := undef) rfl (by kernel_rfl) (by kernel_rfl) (by kernel_rfl) (fun _ _ _ h => h) (Or.inr ⟨by rfl, rfl⟩) (by assumption) ?_
                          try simp only [Act.put, List.setIfInBounds_toArray, List.set_cons_zero, List.set_cons_succ]
                          refine wpAnyH_take (i := 11) (oi := { dst := some 89, op := _, type := _, pos := _, after := _, guard := _ }) (v := undef) rfl (by kernel_rfl) (by kernel_rfl) (by kernel_rfl) (fun _ _ _ h => h) (Or.inr ⟨by rfl, rfl⟩) (by assumption) ?_
                          try simp only [Act.put, List.setIfInBounds_toArray, List.set_cons_zero, List.set_cons_succ]
                          refine wpAnyH_take (i := 12) (oi := { dst := some 90, op := _, type := _, pos := _, after := _, guard := _ }) (v := undef) rfl (by kernel_rfl) (by kernel_rfl) (by kernel_rfl) (fun _ _ _ h => h) (Or.inr ⟨by rfl, rfl⟩) (by assumption) ?_
                          try simp only [Act.put, List.setIfInBounds_toArray, List.set_cons_zero, List.set_cons_succ]
                          refine wpAnyH_take (i := 13) (oi := { dst := some 91, op := _, type := _, pos := _, after := _, guard := _ }) (v := undef) rfl (by kernel_rfl) (by kernel_rfl) (by kernel_rfl) (fun _ _ _ h => h) (Or.inr ⟨by rfl, rfl⟩) (by assumption) ?_
                          try simp only [Act.put, List.setIfInBounds_toArray, List.set_cons_zero, List.set_cons_succ]
                          refine wpAnyH_take (i := 14) (oi := { dst := some 92, op := _, type := _, pos := _, after := _, guard := _ }) (v := undef) rfl (by kernel_rfl) (by kernel_rfl) (by kernel_rfl) (fun _ _ _ h => h) (Or.inr ⟨by rfl, rfl⟩) (by assumption) ?_
                          try simp only [Act.put, List.setIfInBounds_toArray, List.set_cons_zero, List.set_cons_succ]
                          refine wpAnyH_take (i := 15) (oi := { dst := some 93, op := _, type := _, pos := _, after := _, guard := _ }) (v := undef) rfl (by kernel_rfl) (by kernel_rfl) (by kernel_rfl) (fun _ _ _ h => h) (Or.inr ⟨by rfl, rfl⟩) (by assumption) ?_
                          try simp only [Act.put, List.setIfInBounds_toArray, List.set_cons_zero, List.set_cons_succ]
                          refine wpAnyH_take (i := 16) (oi := { dst := some 94, op := _, type := _, pos := _, after := _, guard := _ }) (v := undef) rfl (by kernel_rfl) (by kernel_rfl) (by kernel_rfl) (fun _ _ _ h => h) (Or.inr ⟨by rfl, rfl⟩) (by assumption) ?_
                          try simp only [Act.put, List.setIfInBounds_toArray, List.set_cons_zero, List.set_cons_succ]
                          refine wpAnyH_take (i := 17) (oi := { dst := some 95, op := _, type := _, pos := _, after := _, guard := _ }) (v := undef) rfl (by kernel_rfl) (by kernel_rfl) (by kernel_rfl) (fun _ _ _ h => h) (Or.inr ⟨by rfl, rfl⟩) (by assumption) ?_
                          try simp only [Act.put, List.setIfInBounds_toArray, List.set_cons_zero, List.set_cons_succ]
                          refine wpAnyH_take (i := 18) (oi := { dst := some 96, op := _, type := _, pos := _, after := _, guard := _ }) (v := undef) rfl (by kernel_rfl) (by kernel_rfl) (by kernel_rfl) (fun _ _ _ h => h) (Or.inr ⟨by rfl, rfl⟩) (by assumption) ?_
                          try simp only [Act.put, List.setIfInBounds_toArray, List.set_cons_zero, List.set_cons_succ]
                          refine wpAnyH_take (i := 19) (oi := { dst := some 97, op := _, type := _, pos := _, after := _, guard := _ }) (v := undef) rfl (by kernel_rfl) (by kernel_rfl) (by kernel_rfl) (fun _ _ _ h => h) (Or.inr ⟨by rfl, rfl⟩) (by assumption) ?_
                          try simp only [Act.put, List.setIfInBounds_toArray, List.set_cons_zero, List.set_cons_succ]
                          refine wpAnyH_take (i := 20) (oi := { dst := some 98, op := _, type := _, pos := _, after := _, guard := _ }) (v := undef) rfl (by kernel_rfl) (by kernel_rfl) (by kernel_rfl) (fun _ _ _ h => h) (Or.inr ⟨by rfl, rfl⟩) (by assumption) ?_
                          try simp only [Act.put, List.setIfInBounds_toArray, List.set_cons_zero, List.set_cons_succ]
                          refine wpAnyH_take (i := 21) (oi := { dst := some 99, op := _, type := _, pos := _, after := _, guard := _ }) (v := undef) rfl (by kernel_rfl) (by kernel_rfl) (by kernel_rfl) (fun _ _ _ h => h) (Or.inr ⟨by rfl, rfl⟩) (by assumption) ?_
                          try simp only [Act.put, List.setIfInBounds_toArray, List.set_cons_zero, List.set_cons_succ]
                          refine wpAnyH_take (i := 22) (oi := { dst := some 100, op := _, type := _, pos := _, after := _, guard := _ }) (v := undef) rfl (by kernel_rfl) (by kernel_rfl) (by kernel_rfl) (fun _ _ _ h => h) (Or.inr ⟨by rfl, rfl⟩) (by assumption) ?_
                          try simp only [Act.put, List.setIfInBounds_toArray, List.set_cons_zero, List.set_cons_succ]
                          refine wpAnyH_take (i := 23) (oi := { dst := some 101, op := _, type := _, pos := _, after := _, guard := _ }) (v := undef) rfl (by kernel_rfl) (by kernel_rfl) (by kernel_rfl) (fun _ _ _ h => h) (Or.inr ⟨by rfl, rfl⟩) (by assumption) ?_
                          try simp only [Act.put, List.setIfInBounds_toArray, List.set_cons_zero, List.set_cons_succ]
                          refine wpAnyH_take (i := 24) (oi := { dst := some 102, op := _, type := _, pos := _, after := _, guard := _ }) (v := ?vx35) rfl (by kernel_rfl) (by kernel_rfl) (by kernel_rfl) (fun _ _ _ h => h) (Or.inl ⟨by rfl, ?hyx35⟩) (by assumption) ?restx35
                          case hyx35 => (intro w hSw; (try dsimp only at hSw); go_simp; try with_reducible rfl)
                          try simp only [Act.put, List.setIfInBounds_toArray, List.set_cons_zero, List.set_cons_succ]
                          refine wpAnyH_done (by kernel_rfl) ?_ _
                          refine NoPanic.normal ?_
                          go_wp2_with fail
                          go_roundw
                          case rel => exact ⟨1, by omega, by go_num, HNX.out HOK.out (fun j h => by omega), bstep HBX.out (bd1 _)⟩
                          case measure => simp [intOf]; omega
                        | succ k =>
                          have hkl : k < l.length := by rw [HFN.out]; omega
                          have HPA : Hid (∀ W', Below w.heap.size w W' → W'.cell? ⟨b, off + k * 4, none⟩ = some (.string (bs l[k].path))) := fun W' hW => by
                            obtain ⟨b9, o9, e9, _, c0, _⟩ := FS.at HFF.out hW hkl
                            cases e9
                            exact c0
                          have hpl := B.out.2.2 l[k] (List.getElem_mem hkl)
                          have HFO : Hid (fol l[k].path fp = true → fileE ⟨fp, ft, fb, fs⟩ = 0 → (∀ j, (h : j < k + 1 + 1) → (h2 : j < l.length) → fileE l[j] = 0) ∧ ∀ j, (h : j + 1 < k + 1 + 1) → (h2 : j + 1 < l.length) → fol l[j].path l[j + 1].path = true) := fun h1 h2 => HNX.out h2 (fun j h h3 => by obtain rfl : j = k := (by omega); exact h1)
                          obtain ⟨pp, hpp⟩ : ∃ pp, l[k].path = pp := ⟨_, rfl⟩
                          rw [hpp] at HPA hpl HFO
                          have HN8 : Hid (fol pp fp = false → stand l = false) := fun h => HNF.out k rfl hkl (by rw [hpp]; exact h)
                          clear hpp
                          have HCP := hid_of (fun W' => rpath13_any pp fp W' (by omega) (by omega))
                          have HAB := hid_of (fun W' => rabove13_any pp fp W' (by omega) (by omega))
                          have k0 : (0 : Int) < ((k + 1 : Nat) : Int) := by omega
                          have k1 : IntKind.i64.wrap (((k + 1 : Nat) : Int) - 1) = (k : Int) := by rw [IntKind.wrap_i64]; omega
                          have k2 : ((k + 1 : Nat) : Int) - 1 = (k : Int) := by omega
                          have k5 : IntKind.i64.wrap (k : Int) = (k : Int) := by rw [IntKind.wrap_i64]; omega
                          have k3 : (0 : Int) ≤ (k : Int) := by omega
                          have k4 : (k : Int) < (fn : Int) := by omega
                          go_upto_region 17 with fail
                          try rw [hwx]
                          clear hwx
                          have HS : Hid (∀ W', Below wx.heap.size wx W' → W'.cell? ⟨b, off + k * 4, none⟩ = some (.string (bs pp)) ∧ W'.cell? ⟨wq.heap.size, 0, none⟩ = some (.string (bs fp))) := fun W' hW => ⟨HPA.out W' (bstep HBX.out hW), (HFX.out W' hW).1⟩
                          obtain ⟨s1, s2⟩ := HS.out _ (bd1 wx)
                          refine wp_region_noPanic ?_
                          refine wp_region_held_drew (S := fun W' => W'.cell? ⟨b, off + k * 4, none⟩ = some (.string (bs pp)) ∧ W'.cell? ⟨wq.heap.size, 0, none⟩ = some (.string (bs fp))) (by kernel_rfl) (by exact HS.out _ (bd1 wx)) (fun hHeld => ?_)
                          refine wpAnyH_take (i := 0) (oi := { dst := some 78, op := _, type := _, pos := _, after := _, guard := _ }) (v := ?vx36) rfl (by kernel_rfl) (by kernel_rfl) (by kernel_rfl) (fun _ _ _ h => h) (Or.inl ⟨by rfl, ?hyx36⟩) (by assumption) ?restx36
                          case hyx36 => (intro w hSw; (try dsimp only at hSw); go_simp; try with_reducible rfl)
                          try simp only [Act.put, List.setIfInBounds_toArray, List.set_cons_zero, List.set_cons_succ]
                          refine wpAnyH_take (i := 1) (oi := { dst := some 79, op := _, type := _, pos := _, after := _, guard := _ }) (v := ?vx37) rfl (by kernel_rfl) (by kernel_rfl) (by kernel_rfl) (fun _ _ _ h => h) (Or.inl ⟨by rfl, ?hyx37⟩) (by assumption) ?restx37
                          case hyx37 => (intro w hSw; (try dsimp only at hSw); go_simp; try with_reducible rfl)
                          try simp only [Act.put, List.setIfInBounds_toArray, List.set_cons_zero, List.set_cons_succ]
                          refine wpAnyH_take (i := 2) (oi := { dst := some 80, op := _, type := _, pos := _, after := _, guard := _ }) (v := ?vx38) rfl (by kernel_rfl) (by kernel_rfl) (by kernel_rfl) (fun _ _ _ h => h) (Or.inl ⟨by rfl, ?hyx38⟩) (by assumption) ?restx38
                          case hyx38 => (intro w hSw; (try dsimp only at hSw); go_simp; try with_reducible rfl)
                          try simp only [Act.put, List.setIfInBounds_toArray, List.set_cons_zero, List.set_cons_succ]
                          refine wpAnyH_take (i := 3) (oi := { dst := some 81, op := _, type := _, pos := _, after := _, guard := _ }) (v := ?vx39) rfl (by kernel_rfl) (by kernel_rfl) (by kernel_rfl) (fun _ _ _ h => h) (Or.inl ⟨by rfl, ?hyx39⟩) (by assumption) ?restx39
                          case hyx39 => (intro w hSw; (try dsimp only at hSw); go_simp; try with_reducible rfl)
                          try simp only [Act.put, List.setIfInBounds_toArray, List.set_cons_zero, List.set_cons_succ]
                          refine wpAnyH_take (i := 4) (oi := { dst := some 82, op := _, type := _, pos := _, after := _, guard := _ }) (v := ?vx40) rfl (by kernel_rfl) (by kernel_rfl) (by kernel_rfl) (fun _ _ _ h => h) (Or.inl ⟨by rfl, ?hyx40⟩) (by assumption) ?restx40
                          case hyx40 => (intro w hSw; (try dsimp only at hSw); go_simp; try with_reducible rfl)
                          try simp only [Act.put, List.setIfInBounds_toArray, List.set_cons_zero, List.set_cons_succ]
                          refine wpAnyH_take (i := 5) (oi := { dst := some 83, op := _, type := _, pos := _, after := _, guard := _ }) (v := ?vx41) rfl (by kernel_rfl) (by kernel_rfl) (by kernel_rfl) (fun _ _ _ h => h) (Or.inl ⟨by rfl, ?hyx41⟩) (by assumption) ?restx41
                          case hyx41 => (intro w hSw; (try dsimp only at hSw); go_simp; try with_reducible rfl)
                          try simp only [Act.put, List.setIfInBounds_toArray, List.set_cons_zero, List.set_cons_succ]
                          refine wpAnyH_take (i := 6) (oi := { dst := some 84, op := _, type := _, pos := _, after := _, guard := _ }) (v := ?vx42) rfl (by kernel_rfl) (by kernel_rfl) (by kernel_rfl) (fun _ _ _ h => h) (Or.inl ⟨by rfl, ?hyx42⟩) (by assumption) ?restx42
                          case hyx42 => (intro w hSw; (try dsimp only at hSw); go_simp; try with_reducible rfl)
                          try simp only [Act.put, List.setIfInBounds_toArray, List.set_cons_zero, List.set_cons_succ]
                          refine wpAnyH_take (i := 7) (oi := { dst := some 85, op := _, type := _, pos := _, after := _, guard := _ }) (v := ?vx43) rfl (by kernel_rfl) (by kernel_rfl) (by kernel_rfl) (fun _ _ _ h => h) (Or.inl ⟨by rfl, ?hyx43⟩) (by assumption) ?restx43
                          case hyx43 => (intro w hSw; (try dsimp only at hSw); go_simp; try with_reducible rfl)
                          try simp only [Act.put, List.setIfInBounds_toArray, List.set_cons_zero, List.set_cons_succ]
                          refine wpAnyH_take (i := 8) (oi := { dst := some 86, op := _, type := _, pos := _, after := _, guard := _ }) (v := ?vx44) rfl (by kernel_rfl) (by kernel_rfl) (by kernel_rfl) (fun _ _ _ h => h) (Or.inl ⟨by rfl, ?hyx44⟩) (by assumption) ?restx44
                          case hyx44 => (intro w hSw; (try dsimp only at hSw); go_simp; try with_reducible rfl)
                          try simp only [Act.put, List.setIfInBounds_toArray, List.set_cons_zero, List.set_cons_succ]
                          refine wpAnyH_take (i := 9) (oi := { dst := some 87, op := _, type := _, pos := _, after := _, guard := _ }) (v := ?vx45) rfl (by kernel_rfl) (by kernel_rfl) (by kernel_rfl) (fun _ _ _ h => h) (Or.inl ⟨by rfl, ?hyx45⟩) (by assumption) ?restx45
                          case hyx45 => (intro w hSw; (try dsimp only at hSw); go_simp; try with_reducible rfl)
                          try simp only [Act.put, List.setIfInBounds_toArray, List.set_cons_zero, List.set_cons_succ]
                          refine wpAnyH_take (i := 10) (oi := { dst := some 88, op := _, type := _, pos := _, after := _, guard := _ }) (v := ?vx46) rfl (by kernel_rfl) (by kernel_rfl) (by kernel_rfl) (fun _ _ _ h => h) (Or.inl ⟨by rfl, ?hyx46⟩) (by assumption) ?restx46
                          case hyx46 => (intro w hSw; (try dsimp only at hSw); go_simp; try with_reducible rfl)
                          try simp only [Act.put, List.setIfInBounds_toArray, List.set_cons_zero, List.set_cons_succ]
                          refine wpAnyH_ready (rs := [11]) (by kernel_rfl) (by simp) ?_
                          refine AllReadyH.cons (o := { dst := some 89, op := _, type := _, pos := _, after := _, guard := _ }) rfl (fun K hK => ?_) AllReadyH.nil
                          go_simp
                          with_reducible refine (HCP.out wx.drew).mono ?_
                          rintro e z1 ⟨rfl, hb⟩
                          have HZ1 : Hid (Below wx.heap.size wx z1) := bstep (bd1 wx) hb
                          clear hb
                          refine hK.out _ _ (HS.out z1 HZ1.out) (fun hHeld => ?_)
                          clear hK K
                          try simp only [List.setIfInBounds_toArray, List.set_cons_zero, List.set_cons_succ]
                          have HFL : Hid (fol pp fp = (decide (cmpP (pcs pp) (pcs fp) < 0) && !abvV pp fp)) := rfl
                          obtain ⟨cv, hcv⟩ : ∃ cv, cmpP (pcs pp) (pcs fp) = cv := ⟨_, rfl⟩
                          rw [hcv] at HFL ⊢
                          clear hcv
                          by_cases hcz : 0 ≤ cv
                          · have hc2 : decide (0 ≤ cv) = true := by simpa using hcz
                            refine wpAnyH_take (i := 12) (oi := { dst := some 90, op := _, type := _, pos := _, after := _, guard := _ }) (v := ?vx47) rfl (by kernel_rfl) (by kernel_rfl) (by kernel_rfl) (fun _ _ _ h => h) (Or.inl ⟨by rfl, ?hyx47⟩) (by assumption) ?restx47
                            case hyx47 => (intro w hSw; (try dsimp only at hSw); go_simp; try with_reducible rfl)
                            try simp only [Act.put, List.setIfInBounds_toArray, List.set_cons_zero, List.set_cons_succ]
                            refine wpAnyH_take (i := 13) (oi := { dst := some 91, op := _, type := _, pos := _, after := _, guard := _ }) (v := ?vx48) rfl (by kernel_rfl) (by kernel_rfl) (by kernel_rfl) (fun _ _ _ h => h) (Or.inl ⟨by rfl, ?hyx48⟩) (by assumption) ?restx48
                            case hyx48 => (intro w hSw; (try dsimp only at hSw); go_simp; try with_reducible rfl)
                            try simp only [Act.put, List.setIfInBounds_toArray, List.set_cons_zero, List.set_cons_succ]
                            refine wpAnyH_take (i := 14) (oi := { dst := some 92, op := _, type := _, pos := _, after := _, guard := _ }) (v := undef) rfl (by kernel_rfl) (by kernel_rfl) (by kernel_rfl) (fun _ _ _ h => h) (Or.inr ⟨by rfl, rfl⟩) (by assumption) ?_
                            try simp only [Act.put, List.setIfInBounds_toArray, List.set_cons_zero, List.set_cons_succ]
                            refine wpAnyH_take (i := 15) (oi := { dst := some 93, op := _, type := _, pos := _, after := _, guard := _ }) (v := undef) rfl (by kernel_rfl) (by kernel_rfl) (by kernel_rfl) (fun _ _ _ h => h) (Or.inr ⟨by rfl, rfl⟩) (by assumption) ?_
                            try simp only [Act.put, List.setIfInBounds_toArray, List.set_cons_zero, List.set_cons_succ]
                            refine wpAnyH_take (i := 16) (oi := { dst := some 94, op := _, type := _, pos := _, after := _, guard := _ }) (v := undef) rfl (by kernel_rfl) (by kernel_rfl) (by kernel_rfl) (fun _ _ _ h => h) (Or.inr ⟨by rfl, rfl⟩) (by assumption) ?_
                            try simp only [Act.put, List.setIfInBounds_toArray, List.set_cons_zero, List.set_cons_succ]
                            refine wpAnyH_take (i := 17) (oi := { dst := some 95, op := _, type := _, pos := _, after := _, guard := _ }) (v := undef) rfl (by kernel_rfl) (by kernel_rfl) (by kernel_rfl) (fun _ _ _ h => h) (Or.inr ⟨by rfl, rfl⟩) (by assumption) ?_
                            try simp only [Act.put, List.setIfInBounds_toArray, List.set_cons_zero, List.set_cons_succ]
                            refine wpAnyH_take (i := 18) (oi := { dst := some 96, op := _, type := _, pos := _, after := _, guard := _ }) (v := undef) rfl (by kernel_rfl) (by kernel_rfl) (by kernel_rfl) (fun _ _ _ h => h) (Or.inr ⟨by rfl, rfl⟩) (by assumption) ?_
                            try simp only [Act.put, List.setIfInBounds_toArray, List.set_cons_zero, List.set_cons_succ]
                            refine wpAnyH_take (i := 19) (oi := { dst := some 97, op := _, type := _, pos := _, after := _, guard := _ }) (v := undef) rfl (by kernel_rfl) (by kernel_rfl) (by kernel_rfl) (fun _ _ _ h => h) (Or.inr ⟨by rfl, rfl⟩) (by assumption) ?_
                            try simp only [Act.put, List.setIfInBounds_toArray, List.set_cons_zero, List.set_cons_succ]
                            refine wpAnyH_take (i := 20) (oi := { dst := some 98, op := _, type := _, pos := _, after := _, guard := _ }) (v := undef) rfl (by kernel_rfl) (by kernel_rfl) (by kernel_rfl) (fun _ _ _ h => h) (Or.inr ⟨by rfl, rfl⟩) (by assumption) ?_
                            try simp only [Act.put, List.setIfInBounds_toArray, List.set_cons_zero, List.set_cons_succ]
                            refine wpAnyH_take (i := 21) (oi := { dst := some 99, op := _, type := _, pos := _, after := _, guard := _ }) (v := undef) rfl (by kernel_rfl) (by kernel_rfl) (by kernel_rfl) (fun _ _ _ h => h) (Or.inr ⟨by rfl, rfl⟩) (by assumption) ?_
                            try simp only [Act.put, List.setIfInBounds_toArray, List.set_cons_zero, List.set_cons_succ]
                            refine wpAnyH_take (i := 22) (oi := { dst := some 100, op := _, type := _, pos := _, after := _, guard := _ }) (v := undef) rfl (by kernel_rfl) (by kernel_rfl) (by kernel_rfl) (fun _ _ _ h => h) (Or.inr ⟨by rfl, rfl⟩) (by assumption) ?_
                            try simp only [Act.put, List.setIfInBounds_toArray, List.set_cons_zero, List.set_cons_succ]
                            refine wpAnyH_take (i := 23) (oi := { dst := some 101, op := _, type := _, pos := _, after := _, guard := _ }) (v := ?vx49) rfl (by kernel_rfl) (by kernel_rfl) (by kernel_rfl) (fun _ _ _ h => h) (Or.inl ⟨by rfl, ?hyx49⟩) (by assumption) ?restx49
                            case hyx49 => (intro w hSw; (try dsimp only at hSw); go_simp; try with_reducible rfl)
                            try simp only [Act.put, List.setIfInBounds_toArray, List.set_cons_zero, List.set_cons_succ]
                            refine wpAnyH_take (i := 24) (oi := { dst := some 102, op := _, type := _, pos := _, after := _, guard := _ }) (v := ?vx50) rfl (by kernel_rfl) (by kernel_rfl) (by kernel_rfl) (fun _ _ _ h => h) (Or.inl ⟨by rfl, ?hyx50⟩) (by assumption) ?restx50
                            case hyx50 => (intro w hSw; (try dsimp only at hSw); go_simp; try with_reducible rfl)
                            try simp only [Act.put, List.setIfInBounds_toArray, List.set_cons_zero, List.set_cons_succ]
                            refine wpAnyH_done (by kernel_rfl) ?_ _
                            refine NoPanic.normal ?_
                            have HX8 : Hid (stand l = false) := HN8.out (by rw [HFL.out, show decide (cv < 0) = false from by simpa using hcz]; rfl)
                            go_wp2_with fail
                            go_ret
                            exact ⟨by rw [HE8.out HX8.out]; rfl, bstep HBX.out HZ1.out⟩
                          · have hc2 : decide (0 ≤ cv) = false := by simpa using hcz
                            have hc3 : decide (cv < 0) = true := by simpa using hcz
                            refine wpAnyH_take (i := 12) (oi := { dst := some 90, op := _, type := _, pos := _, after := _, guard := _ }) (v := ?vx51) rfl (by kernel_rfl) (by kernel_rfl) (by kernel_rfl) (fun _ _ _ h => h) (Or.inl ⟨by rfl, ?hyx51⟩) (by assumption) ?restx51
                            case hyx51 => (intro w hSw; (try dsimp only at hSw); go_simp; try with_reducible rfl)
                            try simp only [Act.put, List.setIfInBounds_toArray, List.set_cons_zero, List.set_cons_succ]
                            refine wpAnyH_take (i := 13) (oi := { dst := some 91, op := _, type := _, pos := _, after := _, guard := _ }) (v := ?vx52) rfl (by kernel_rfl) (by kernel_rfl) (by kernel_rfl) (fun _ _ _ h => h) (Or.inl ⟨by rfl, ?hyx52⟩) (by assumption) ?restx52
                            case hyx52 => (intro w hSw; (try dsimp only at hSw); go_simp; try with_reducible rfl)
                            try simp only [Act.put, List.setIfInBounds_toArray, List.set_cons_zero, List.set_cons_succ]
                            refine wpAnyH_take (i := 14) (oi := { dst := some 92, op := _, type := _, pos := _, after := _, guard := _ }) (v := ?vx53) rfl (by kernel_rfl) (by kernel_rfl) (by kernel_rfl) (fun _ _ _ h => h) (Or.inl ⟨by rfl, ?hyx53⟩) (by assumption) ?restx53
                            case hyx53 => (intro w hSw; (try dsimp only at hSw); go_simp; try with_reducible rfl)
                            try simp only [Act.put, List.setIfInBounds_toArray, List.set_cons_zero, List.set_cons_succ]
                            refine wpAnyH_take (i := 15) (oi := { dst := some 93, op := _, type := _, pos := _, after := _, guard := _ }) (v := ?vx54) rfl (by kernel_rfl) (by kernel_rfl) (by kernel_rfl) (fun _ _ _ h => h) (Or.inl ⟨by rfl, ?hyx54⟩) (by assumption) ?restx54
                            case hyx54 => (intro w hSw; (try dsimp only at hSw); go_simp; try with_reducible rfl)
                            try simp only [Act.put, List.setIfInBounds_toArray, List.set_cons_zero, List.set_cons_succ]
                            refine wpAnyH_take (i := 16) (oi := { dst := some 94, op := _, type := _, pos := _, after := _, guard := _ }) (v := ?vx55) rfl (by kernel_rfl) (by kernel_rfl) (by kernel_rfl) (fun _ _ _ h => h) (Or.inl ⟨by rfl, ?hyx55⟩) (by assumption) ?restx55
                            case hyx55 => (intro w hSw; (try dsimp only at hSw); go_simp; try with_reducible rfl)
                            try simp only [Act.put, List.setIfInBounds_toArray, List.set_cons_zero, List.set_cons_succ]
                            refine wpAnyH_take (i := 17) (oi := { dst := some 95, op := _, type := _, pos := _, after := _, guard := _ }) (v := ?vx56) rfl (by kernel_rfl) (by kernel_rfl) (by kernel_rfl) (fun _ _ _ h => h) (Or.inl ⟨by rfl, ?hyx56⟩) (by assumption) ?restx56
                            case hyx56 => (intro w hSw; (try dsimp only at hSw); go_simp; try with_reducible rfl)
                            try simp only [Act.put, List.setIfInBounds_toArray, List.set_cons_zero, List.set_cons_succ]
                            refine wpAnyH_take (i := 18) (oi := { dst := some 96, op := _, type := _, pos := _, after := _, guard := _ }) (v := ?vx57) rfl (by kernel_rfl) (by kernel_rfl) (by kernel_rfl) (fun _ _ _ h => h) (Or.inl ⟨by rfl, ?hyx57⟩) (by assumption) ?restx57
                            case hyx57 => (intro w hSw; (try dsimp only at hSw); go_simp; try with_reducible rfl)
                            try simp only [Act.put, List.setIfInBounds_toArray, List.set_cons_zero, List.set_cons_succ]
                            refine wpAnyH_take (i := 19) (oi := { dst := some 97, op := _, type := _, pos := _, after := _, guard := _ }) (v := ?vx58) rfl (by kernel_rfl) (by kernel_rfl) (by kernel_rfl) (fun _ _ _ h => h) (Or.inl ⟨by rfl, ?hyx58⟩) (by assumption) ?restx58
                            case hyx58 => (intro w hSw; (try dsimp only at hSw); go_simp; try with_reducible rfl)
                            try simp only [Act.put, List.setIfInBounds_toArray, List.set_cons_zero, List.set_cons_succ]
                            refine wpAnyH_take (i := 20) (oi := { dst := some 98, op := _, type := _, pos := _, after := _, guard := _ }) (v := ?vx59) rfl (by kernel_rfl) (by kernel_rfl) (by kernel_rfl) (fun _ _ _ h => h) (Or.inl ⟨by rfl, ?hyx59⟩) (by assumption) ?restx59
                            case hyx59 => (intro w hSw; (try dsimp only at hSw); go_simp; try with_reducible rfl)
                            try simp only [Act.put, List.setIfInBounds_toArray, List.set_cons_zero, List.set_cons_succ]
                            refine wpAnyH_take (i := 21) (oi := { dst := some 99, op := _, type := _, pos := _, after := _, guard := _ }) (v := ?vx60) rfl (by kernel_rfl) (by kernel_rfl) (by kernel_rfl) (fun _ _ _ h => h) (Or.inl ⟨by rfl, ?hyx60⟩) (by assumption) ?restx60
                            case hyx60 => (intro w hSw; (try dsimp only at hSw); go_simp; try with_reducible rfl)
                            try simp only [Act.put, List.setIfInBounds_toArray, List.set_cons_zero, List.set_cons_succ]
                            refine wpAnyH_ready (rs := [22]) (by kernel_rfl) (by simp) ?_
                            refine AllReadyH.cons (o := { dst := some 100, op := _, type := _, pos := _, after := _, guard := _ }) rfl (fun K hK => ?_) AllReadyH.nil
                            go_simp
                            with_reducible refine (HAB.out z1).mono ?_
                            rintro e z2 ⟨rfl, rfl⟩
                            refine hK.out _ _ (HS.out _ HZ1.out) (fun hHeld => ?_)
                            clear hK K
                            try simp only [List.setIfInBounds_toArray, List.set_cons_zero, List.set_cons_succ]
                            obtain ⟨av, hav⟩ : ∃ av, abvV pp fp = av := ⟨_, rfl⟩
                            rw [hav, hc3] at HFL
                            rw [hav]
                            clear hav
                            refine wpAnyH_take (i := 23) (oi := { dst := some 101, op := _, type := _, pos := _, after := _, guard := _ }) (v := ?vx61) rfl (by kernel_rfl) (by kernel_rfl) (by kernel_rfl) (fun _ _ _ h => h) (Or.inl ⟨by rfl, ?hyx61⟩) (by assumption) ?restx61
                            case hyx61 => (intro w hSw; (try dsimp only at hSw); go_simp; try with_reducible rfl)
                            try simp only [Act.put, List.setIfInBounds_toArray, List.set_cons_zero, List.set_cons_succ]
                            refine wpAnyH_take (i := 24) (oi := { dst := some 102, op := _, type := _, pos := _, after := _, guard := _ }) (v := ?vx62) rfl (by kernel_rfl) (by kernel_rfl) (by kernel_rfl) (fun _ _ _ h => h) (Or.inl ⟨by rfl, ?hyx62⟩) (by assumption) ?restx62
                            case hyx62 => (intro w hSw; (try dsimp only at hSw); go_simp; try with_reducible rfl)
                            try simp only [Act.put, List.setIfInBounds_toArray, List.set_cons_zero, List.set_cons_succ]
                            refine wpAnyH_done (by kernel_rfl) ?_ _
                            refine NoPanic.normal ?_
                            cases av with
                            | true =>
                              have HX8 : Hid (stand l = false) := HN8.out (by rw [HFL.out]; rfl)
                              go_wp2_with fail
                              go_ret
                              exact ⟨by rw [HE8.out HX8.out]; rfl, bstep HBX.out HZ1.out⟩
                            | false =>
                              have HX9 := hid_of (HFO.out (by rw [HFL.out]; rfl) HOK.out)
                              go_wp2_with fail
                              go_roundw
                              case rel => exact ⟨k + 1 + 1, by omega, by go_num, HX9.out, bstep HBX.out HZ1.out⟩
                              case measure => simp [intOf]; omega
              · have i0 : ft.isEmpty = false := by cases ft; exact absurd rfl d0; rfl
                rw [i0] at e1
                have j0 : (ft == []) = false := by simpa using d0
                clear d0 i0
                have HX8 : Hid (stand l = false) := HE9.out (by rw [HFT.out, j0]; rfl)
                go_wp2_with fail
                all_goals (go_ret; exact ⟨by rw [HE8.out HX8.out]; rfl, HBX.out⟩)
          · obtain rfl : i = fn := by omega
            have HV : Hid (validE l = 0) := by
              show validE l = 0
              rw [validE_zero]
              unfold stand
              rw [Bool.and_eq_true, Bool.and_eq_true, List.all_eq_true]
              refine ⟨⟨by rw [HFN.out]; simpa using h5, fun f hf => ?_⟩, (chain_adj l).2 (fun j h => X7.out.1.2 j (by have := HFN.out; omega) h)⟩
              obtain ⟨j, hj, rfl⟩ := List.getElem_of_mem hf
              simpa using X7.out.1.1 j (by have := HFN.out; omega) hj
            go_wp2_with fail
            go_ret
            exact ⟨by rw [HV.out]; rfl, X7.out.2⟩
end Go.Proofs.YtlkkmcibjhoneaaGreatDoor
