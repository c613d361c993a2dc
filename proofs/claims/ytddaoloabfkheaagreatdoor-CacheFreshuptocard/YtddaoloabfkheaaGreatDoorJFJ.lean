/-
  The document's lists: the walk.
  What stands while the document reads a target.
-/
import Derived.Test.YtddaoloabfkheaaGreatDoorJRlst
namespace Go.Proofs.YtddaoloabfkheaaGreatDoor
open Go.RowKit

/-- what the document's list leaves -/
def LsR (w : World) (g : Nat) (p : List UInt8) (E S : Int) (L : List Tk) (i : Nat) (l : List Tg) (t : Tg) (h : List (List UInt8)) (f : List UInt8) (R : List Tg × Int) (e : Ending) (w' : World) : Prop :=
  ∃ v, e = .returned v ∧ Only [g] w w' ∧
    ((∃ u j, Own w.heap.size w' v (ftx f u) ∧ RX w' g p E L j (-1) ∧ i < j ∧ j ≤ L.length ∧ go p E S (.fl l u h) (L.drop j) = R ∧ Oth f t u ∧ (∀ y ∈ u.deps, okL y = true) ∧ (ftx f u).length ≤ 64) ∨
     (∃ z j, 0 ≤ z ∧ Own w.heap.size w' v [] ∧ RX w' g p E L j z ∧ R = ([], z)))
set_option maxRecDepth 100000 in
set_option maxHeartbeats 16000000 in
theorem rlist54_any {w : World} {g i : Nat} {p f : List UInt8} {E S : Int} {L : List Tk} {l : List Tg} {t : Tg} {h : List (List UInt8)} {R : List Tg × Int} (hx : RX w g p E L i (-1)) (hT : ∀ k ∈ L, TkOk k) (hL : L.length ≤ 5000) (hE : 0 ≤ E) (hp : okP p = true) (hf : isF f = true) (ht : ftx f t = []) (hD : ∀ y ∈ t.deps, okL y = true) (hi : i ≤ L.length) (hR : go p E S (.eq l t h f) (L.drop i) = R) :
    Calls Tryz.prog 81 #[.pointer (some ⟨g, 0, none⟩), .string (bs f)] w (LsR w g p E S L i l t h f R) := by
  have hgl := hx.lt
  have HT : Hid (∀ k ∈ L, TkOk k) := hT
  have HX : Hid (RX w g p E L i (-1)) := hx
  have HR : Hid (go p E S (.eq l t h f) (L.drop i) = R) := hR
  have HF : Hid (isF f = true ∧ ftx f t = [] ∧ (∀ y ∈ t.deps, okL y = true) ∧ okP p = true ∧ 0 ≤ E) := ⟨hf, ht, hD, hp, hE⟩
  have HFp : Hid (∀ j, 0 ≤ fp L j E) := fun j => fp_nonneg hE hT
  have HBD : Hid (∀ (W : World) (z : Int) (j : Nat), 0 ≤ z → RX W g p E L j z → ∀ q : Int, Calls Tryz.prog 80 #[.pointer (some ⟨g, 0, none⟩), .int .i64 q] W fun e w' => e = .returned (.tuple #[]) ∧ RX w' g p E L j z ∧ Only [g] W w') := fun W z j hz hW q => rtake_bad hW hz
  clear hx hT hR hf ht hD hp hE
  go_enter Tryz.func81, Tryz.ntmps81
  go_wp2_with fail
  refine (rtake_any (q := 7) HX.out (by omega)).mono ?_
  rintro e w1 ⟨rfl, hx1, ho1⟩
  have X1 : Hid ((RX w1 g p E L (i + 1) (-1) ∧ i < L.length ∧ go p E S (.bg l t h f) (L.drop (i + 1)) = R) ∨ (∃ z, 0 ≤ z ∧ RX w1 g p E L i z ∧ R = ([], z))) := by
    rcases hx1 with ⟨hn, hx1⟩ | ⟨hn, hx1⟩
    · obtain ⟨hj, hk⟩ := nx_true hn
      refine .inl ⟨hx1, hj, ?_⟩
      rw [← HR.out, go_st hj (st' := .bg l t h f) (by simp only [stp, if_pos hk])]
    · refine .inr ⟨_, HFp.out i, hx1, ?_⟩
      rw [← HR.out, go_fp rfl (fun hj => by simp only [stp, if_neg (nx_false hn hj)])]
  have O1 : Hid (Only [g] w w1) := ho1
  clear hx1 ho1 HX HR
  go_wp2_with fail
  have CT2 : Calls Tryz.prog 80 #[.pointer (some ⟨g, 0, none⟩), .int .i64 4] w1 fun e w' => e = .returned (.tuple #[]) ∧ ((RX w' g p E L (i + 2) (-1) ∧ i + 1 < L.length ∧ go p E S (.i0 l t h f) (L.drop (i + 2)) = R) ∨ (∃ z j, 0 ≤ z ∧ RX w' g p E L j z ∧ R = ([], z))) ∧ Only [g] w1 w' := by
    rcases X1.out with ⟨hx, hj0, hr⟩ | ⟨z, hz, hx, hr⟩
    · refine (rtake_any (q := 4) hx (by omega)).mono ?_
      rintro e w2 ⟨rfl, hx2, ho2⟩
      refine ⟨rfl, ?_, ho2⟩
      rcases hx2 with ⟨hn, hx2⟩ | ⟨hn, hx2⟩
      · obtain ⟨hj, hk⟩ := nx_true hn
        refine .inl ⟨hx2, hj, ?_⟩
        rw [← hr, go_st hj (st' := .i0 l t h f) (by simp only [stp, if_pos hk])]
      · refine .inr ⟨_, _, HFp.out (i + 1), hx2, ?_⟩
        rw [← hr, go_fp rfl (fun hj => by simp only [stp, if_neg (nx_false hn hj)])]
    · refine (HBD.out _ z i hz hx 4).mono ?_
      rintro e w2 ⟨rfl, hx2, ho2⟩
      exact ⟨rfl, .inr ⟨z, i, hz, hx2, hr⟩, ho2⟩
  refine CT2.mono ?_
  rintro e w2 ⟨rfl, hx2, ho2⟩
  have O2 : Hid (Only [g] w w2) := O1.out.trans ho2
  clear X1 O1 CT2 ho2
  rcases hx2 with ⟨hx2, hj2, hr2⟩ | ⟨z, j, hz, hx2, hr2⟩
  rotate_left
  · have X2 : Hid (RX w2 g p E L j z ∧ R = ([], z)) := ⟨hx2, hr2⟩
    clear hr2
    go_wp2_with fail
    refine (rnext_bad hx2 hz).mono ?_
    rintro e w3 ⟨rfl, n, rfl⟩
    obtain ⟨a, c, c1, c2, c3, c4, _, _, _, _, _⟩ := (hx2.drew n).cells
    have d1 : decide (z < 0) = false := by simp; omega
    have d2 : ¬ z < 0 := by omega
    have HZ : Hid (0 ≤ z) := hz
    clear hx2 hz
    go_wp2_with fail
    refine wp_loop_rounds 1 ?_
    rw [rounds_succ]
    go_wp2_with fail
    go_ret
    exact ⟨_, rfl, O2.out.trans (Only.dr n), .inr ⟨z, j, HZ.out, Own.nil _ _, X2.out.1.drew n, X2.out.2⟩⟩
  have X2 : Hid (RX w2 g p E L (i + 2) (-1) ∧ go p E S (.i0 l t h f) (L.drop (i + 2)) = R) := ⟨hx2, hr2⟩
  clear hx2 hr2
  go_wp2_with fail
  refine (rnext_any (q := 5) X2.out.1).mono ?_
  rintro e w3 ⟨rfl, n, rfl⟩
  have X3 : Hid (RX (w2.drewN n) g p E L (i + 2) (-1) ∧ Only [g] w (w2.drewN n)) := ⟨X2.out.1.drew n, O2.out.trans (Only.dr n)⟩
  cases h5 : nx L (i + 2) 5
  rotate_left
  · obtain ⟨hj, hk⟩ := nx_true h5
    have R3 : Hid (go p E S (.fl l t h) (L.drop (i + 2 + 1)) = R) := by
      show go _ _ _ _ _ = R
      rw [← X2.out.2, go_st hj (st' := .fl l t h) (by simp only [stp, if_pos hk])]
    obtain ⟨a, c, c1, c2, c3, c4, f2, f3, f4, _, _⟩ := X3.out.1.cells
    have HX4 : Hid (RX ((w2.drewN n).setCell ⟨g, 2, none⟩ (.int .i64 (((i + 2 : Nat) : Int) + 1))) g p E L (i + 2 + 1) (-1)) := rset_i X3.out.1
    obtain ⟨m, hm⟩ : ∃ m, i + 2 = m := ⟨_, rfl⟩
    rw [hm] at c2 HX4 R3 hj
    have HM : Hid (i + 2 = m) := hm
    have hml : m ≤ 5000 := by omega
    clear h5 hk X2 hm
    go_wp2_with fail
    go_ret
    refine ⟨_, rfl, X3.out.2.trans (Only.set _ _ _ _), .inl ⟨t, m + 1, ?_, HX4.out, by have := HM.out; omega, by omega, R3.out, Oth.refl _ _, HF.out.2.2.1, ?_⟩⟩
    · rw [HF.out.2.1]; exact Own.nil _ _
    · rw [HF.out.2.1]; simp
  have R3 : Hid (go p E S (.it l t h f) (L.drop (i + 2)) = R) := by
    show go _ _ _ _ _ = R
    rw [← X2.out.2]
    by_cases hj : i + 2 < L.length
    · rw [List.drop_eq_getElem_cons hj, go_i0 (nx_false h5 hj)]
    · rw [List.drop_eq_nil_of_le (by omega)]; rfl
  obtain ⟨w3, hw3⟩ : ∃ w3, w2.drewN n = w3 := ⟨_, rfl⟩
  rw [hw3] at X3
  rw [hw3]
  clear h5 X2 O2 hw3
  go_wp2_with fail
  go_loopw [5] (fun v wr => Only [g] w wr ∧ ((∃ u j, Own w.heap.size wr v (ftx f u) ∧ RX wr g p E L j (-1) ∧ i < j ∧ j ≤ L.length ∧ go p E S (.it l u h f) (L.drop j) = R ∧ Oth f t u ∧ (∀ y ∈ u.deps, okL y = true) ∧ (ftx f u).length ≤ 64) ∨ (∃ z j A, 0 ≤ z ∧ Own w.heap.size wr v A ∧ RX wr g p E L j z ∧ R = ([], z)))) (fun v _ => 66 - slen v)
  case atStart => exact ⟨X3.out.2, .inl ⟨t, i + 2, by rw [HF.out.2.1]; exact Own.nil _ _, X3.out.1, by omega, by omega, R3.out, Oth.refl _ _, HF.out.2.2.1, by rw [HF.out.2.1]; simp⟩⟩
  case round =>
    obtain ⟨hor, hrel⟩ := hrel
    have O4 : Hid (Only [g] w wr) := hor
    have hsr : w.heap.size ≤ wr.heap.size := hor.size
    clear hor X3 R3
    rcases hrel with ⟨u, j, hown, hxr, hij, hjl, hRr, hoth, hdo, h64⟩ | ⟨z, j, A, hz, hown, hxr, hRz⟩
    rotate_left
    · obtain ⟨a, c, c1, c2, c3, c4, _, _, _, _, _⟩ := hxr.cells
      have d1 : decide (z < 0) = false := by simp; omega
      have d2 : ¬ z < 0 := by omega
      have X4 : Hid (0 ≤ z ∧ RX wr g p E L j z ∧ R = ([], z)) := ⟨hz, hxr, hRz⟩
      clear hz hown hxr hRz
      go_wp2_with fail
      go_ret
      exact ⟨_, rfl, O4.out, .inr ⟨z, j, X4.out.1, Own.nil _ _, X4.out.2.1, X4.out.2.2⟩⟩
    obtain ⟨av, cv, hv⟩ := hown.frm
    obtain ⟨nv, hnv⟩ : ∃ nv, (ftx f u).length = nv := ⟨_, rfl⟩
    rw [hnv] at hv h64
    subst hv
    have HNV : Hid ((ftx f u).length = nv) := hnv
    have HO : Hid (Own w.heap.size wr (.slice av nv cv) (ftx f u)) := hown
    have X4 : Hid (RX wr g p E L j (-1) ∧ go p E S (.it l u h f) (L.drop j) = R ∧ Oth f t u ∧ (∀ y ∈ u.deps, okL y = true)) := ⟨hxr, hRr, hoth, hdo⟩
    obtain ⟨a, c, c1, c2, c3, c4, _, _, _, _, _⟩ := hxr.cells
    clear hown hxr hRr hoth hdo hnv
    go_wp2_with fail
    refine (rnext_any (q := 1) X4.out.1).mono ?_
    rintro e w4 ⟨rfl, n4, rfl⟩
    have X5 : Hid (RX (wr.drewN n4) g p E L j (-1) ∧ Only [g] w (wr.drewN n4)) := ⟨X4.out.1.drew n4, O4.out.trans (Only.dr n4)⟩
    cases h1 : nx L j 1
    · have RZ : Hid (R = ([], fp L j E)) := by
        show R = _
        rw [← X4.out.2.1, go_fp rfl (fun hj => by simp only [stp, if_neg (nx_false h1 hj)])]
      clear h1
      go_wp2_with fail
      refine (rfault_any X5.out.1).mono ?_
      rintro e w5 ⟨rfl, hx5, ho5⟩
      have X6 : Hid (RX w5 g p E L j (fp L j E) ∧ Only [g] w w5) := ⟨hx5, X5.out.2.trans ho5⟩
      clear hx5 ho5
      go_wp2_with fail
      go_ret
      exact ⟨_, rfl, X6.out.2, .inr ⟨_, j, HFp.out j, Own.nil _ _, X6.out.1, RZ.out⟩⟩
    obtain ⟨hj, hk⟩ := nx_true h1
    have hk0 := HT.out _ (List.getElem_mem hj)
    have hwo : wo L j = L[j].text := wo_text hj hk
    obtain ⟨I, hI⟩ : ∃ I, rit p f (wo L j) = I := ⟨_, rfl⟩
    have HIt : Hid (Calls Tryz.prog 102 #[.pointer (some ⟨g, 0, none⟩), .string (bs f)] (wr.drewN n4) fun e w' => e = .returned (.tuple #[.string (bs I.1), .bool I.2]) ∧ Below (wr.drewN n4).heap.size (wr.drewN n4) w') := by
      rw [← hI]; exact ritem_any X5.out.1 HF.out.2.2.2.1 (by rw [hwo]; exact hk0.ne) (by rw [hwo]; exact hk0.len)
    have HAdd : Hid (if (I.2 && !(ftx f u).contains I.1 && decide (nv < 64)) = true then ∃ u', addI p f u L[j].text = some u' ∧ ftx f u' = ftx f u ++ [I.1] ∧ Oth f u u' ∧ (∀ y ∈ u'.deps, okL y = true) else addI p f u L[j].text = none) := by
      have := addI_rit (p := p) (x := L[j].text) HF.out.1 X4.out.2.2.2
      rw [hwo] at hI
      rw [hI, HNV.out] at this; exact this
    have HStep : Hid (∀ u', addI p f u L[j].text = some u' → go p E S (.sp l u' h f) (L.drop (j + 1)) = R) := fun u' hu' => by
      rw [← X4.out.2.1, go_st hj (st' := .sp l u' h f) (by simp only [stp, if_pos hk, hu']; rfl)]
    have HNone : Hid (addI p f u L[j].text = none → R = ([], fp L j E)) := fun hn => by
      rw [← X4.out.2.1, go_fp rfl (fun hj => by simp only [stp, if_pos hk, hn]; rfl)]
    obtain ⟨I1, I2⟩ := I
    simp only at HIt HAdd
    generalize L[j].text = tx at *
    clear hI h1 hk hk0 hwo
    go_wp2_with fail
    refine HIt.out.mono ?_
    rintro e w5 ⟨rfl, hb5⟩
    have X6 : Hid (RX w5 g p E L j (-1) ∧ Only [g] w w5 ∧ Own w.heap.size w5 (.slice av nv cv) (ftx f u)) := ⟨X5.out.1.later hb5, X5.out.2.trans (Only.of_below hb5 _), (HO.out.later (bd _ n4)).later hb5⟩
    have HHas : Hid (Calls Tryz.prog 79 #[.slice av nv cv, .string (bs I1)] w5 fun e w' => e = .returned (.bool ((ftx f u).contains I1)) ∧ w' = w5) := has_any (own_ss X6.out.2.2) I1 (by rw [HNV.out]; omega)
    clear hb5 HIt X5
    obtain ⟨Cn, hCn⟩ : ∃ Cn, (ftx f u).contains I1 = Cn := ⟨_, rfl⟩
    rw [hCn] at HHas HAdd
    clear hCn
    have FAULT : Hid (R = ([], fp L j E) → ∀ (W : World), RX W g p E L j (-1) ∧ Only [g] w W → Calls Tryz.prog 42 #[.pointer (some ⟨g, 0, none⟩)] W fun e w' => e = .returned (.tuple #[]) ∧ RX w' g p E L j (fp L j E) ∧ Only [g] w w' ∧ R = ([], fp L j E)) := fun hz W hW => (rfault_any hW.1).mono fun e w' ⟨h1, h2, h3⟩ => ⟨h1, h2, hW.2.trans h3, hz⟩
    cases I2
    · have RZ : Hid (R = ([], fp L j E)) := HNone.out (by have := HAdd.out; simpa using this)
      go_wp2_with fail
      refine (FAULT.out RZ.out _ ⟨X6.out.1, X6.out.2.1⟩).mono ?_
      rintro e w6 ⟨rfl, h1, h2, h3⟩
      have X7 : Hid (RX w6 g p E L j (fp L j E) ∧ Only [g] w w6 ∧ R = ([], fp L j E)) := ⟨h1, h2, h3⟩
      clear h1 h2 h3
      go_wp2_with fail
      go_ret
      exact ⟨_, rfl, X7.out.2.1, .inr ⟨_, j, HFp.out j, Own.nil _ _, X7.out.1, X7.out.2.2⟩⟩
    cases Cn
    rotate_left
    · have RZ : Hid (R = ([], fp L j E)) := HNone.out (by have := HAdd.out; simpa using this)
      go_wp2_with fail
      refine HHas.out.mono ?_
      rintro e w5' ⟨rfl, hw⟩
      obtain rfl : w5 = w5' := hw.symm
      go_wp2_with fail
      refine (FAULT.out RZ.out _ ⟨X6.out.1, X6.out.2.1⟩).mono ?_
      rintro e w6 ⟨rfl, h1, h2, h3⟩
      have X7 : Hid (RX w6 g p E L j (fp L j E) ∧ Only [g] w w6 ∧ R = ([], fp L j E)) := ⟨h1, h2, h3⟩
      clear h1 h2 h3
      go_wp2_with fail
      go_ret
      exact ⟨_, rfl, X7.out.2.1, .inr ⟨_, j, HFp.out j, Own.nil _ _, X7.out.1, X7.out.2.2⟩⟩
    by_cases h64' : nv < 64
    rotate_left
    · obtain rfl : nv = 64 := by omega
      have RZ : Hid (R = ([], fp L j E)) := HNone.out (by have := HAdd.out; simpa using this)
      go_wp2_with fail
      refine HHas.out.mono ?_
      rintro e w5' ⟨rfl, hw⟩
      obtain rfl : w5 = w5' := hw.symm
      go_wp2_with fail
      refine (FAULT.out RZ.out _ ⟨X6.out.1, X6.out.2.1⟩).mono ?_
      rintro e w6 ⟨rfl, h1, h2, h3⟩
      have X7 : Hid (RX w6 g p E L j (fp L j E) ∧ Only [g] w w6 ∧ R = ([], fp L j E)) := ⟨h1, h2, h3⟩
      clear h1 h2 h3
      go_wp2_with fail
      go_ret
      exact ⟨_, rfl, X7.out.2.1, .inr ⟨_, j, HFp.out j, Own.nil _ _, X7.out.1, X7.out.2.2⟩⟩
    obtain ⟨u', hu1, hu2, hu3, hu4⟩ : ∃ u', addI p f u tx = some u' ∧ ftx f u' = ftx f u ++ [I1] ∧ Oth f u u' ∧ (∀ y ∈ u'.deps, okL y = true) := by
      have := HAdd.out
      rw [if_pos (by simp [h64'])] at this; exact this
    have HU : Hid (ftx f u' = ftx f u ++ [I1] ∧ Oth f t u' ∧ (∀ y ∈ u'.deps, okL y = true) ∧ go p E S (.sp l u' h f) (L.drop (j + 1)) = R) := ⟨hu2, X4.out.2.2.1.trans hu3, hu4, HStep.out u' hu1⟩
    have n1 : ((nv : Int) == 64) = false := by rw [beq_eq_false_iff_ne]; omega
    have n2 : ¬ ((nv : Int) = 64) := by omega
    have n3 : (nv == 64) = false := by rw [beq_eq_false_iff_ne]; omega
    clear hu1 hu2 hu3 hu4 HAdd HStep HNone FAULT
    go_wp2_with fail
    refine HHas.out.mono ?_
    rintro e w5' ⟨rfl, hw⟩
    obtain rfl : w5 = w5' := hw.symm
    have hs5 : w.heap.size ≤ w5.heap.size := X6.out.2.1.size
    go_wp2_with (first
      | (at_builtin; refine app_S I1 X6.out.2.2 (by have := HNV.out; omega) (by omega) rfl (.tmp 52) (.tmp 54) rfl rfl rfl ?_; intro v9 w9 hO9 hB9 hN9 hs9 hw9; have O9 : Hid (Own w.heap.size w9 v9 (ftx f u')) := (by show Own _ _ _ _; rw [HU.out.1]; exact hO9); have X9 : Hid (RX w9 g p E L j (-1) ∧ Only [g] w w9) := ⟨X6.out.1.below hB9 hgl, only_below X6.out.2.1 hB9 (Nat.le_refl _)⟩; obtain ⟨a, c, c1, c2, c3, c4, f2, f3, f4, _, _⟩ := X9.out.1.cells; clear hO9 hB9 hN9 hw9))
    have X10 : Hid (RX (w9.setCell ⟨g, 2, none⟩ (.int .i64 ((j : Int) + 1))) g p E L (j + 1) (-1) ∧ Only [g] w (w9.setCell ⟨g, 2, none⟩ (.int .i64 ((j : Int) + 1)))) := ⟨rset_i X9.out.1, X9.out.2.trans (Only.set _ _ _ _)⟩
    have O10 : Hid (Own w.heap.size (w9.setCell ⟨g, 2, none⟩ (.int .i64 ((j : Int) + 1))) v9 (ftx f u')) := O9.out.only (Only.set _ _ _ _) (fun b hb hm => by have := (O9.out.lt hb).1; simp only [List.mem_singleton] at hm; omega)
    obtain ⟨wx, hwx⟩ : ∃ wx, w9.setCell ⟨g, 2, none⟩ (.int .i64 ((j : Int) + 1)) = wx := ⟨_, rfl⟩
    rw [hwx] at X10 O10
    rw [hwx]
    have HL9 : Hid ((ftx f u').length = nv + 1) := by show (ftx f u').length = nv + 1; rw [HU.out.1, List.length_append, HNV.out]; rfl
    obtain ⟨a9, c9, hv9⟩ := O10.out.frm
    rw [HL9.out] at hv9
    subst hv9
    clear hwx O9 X9 c1 c2 c3 c4 f2 f3 f4
    refine (rnext_any (q := 5) X10.out.1).mono ?_
    rintro e w11 ⟨rfl, n11, rfl⟩
    have X11 : Hid (RX (wx.drewN n11) g p E L (j + 1) (-1) ∧ Only [g] w (wx.drewN n11) ∧ Own w.heap.size (wx.drewN n11) (.slice a9 (nv + 1) c9) (ftx f u')) := ⟨X10.out.1.drew n11, X10.out.2.trans (Only.dr n11), O10.out.later (bd _ n11)⟩
    cases h5 : nx L (j + 1) 5
    rotate_left
    · obtain ⟨hj', hk'⟩ := nx_true h5
      have R6 : Hid (go p E S (.fl l u' h) (L.drop (j + 1 + 1)) = R) := by
        show go _ _ _ _ _ = R
        rw [← HU.out.2.2.2, go_st hj' (st' := .fl l u' h) (by simp only [stp, if_pos hk'])]
      obtain ⟨a, c, c1, c2, c3, c4, f2, f3, f4, _, _⟩ := X11.out.1.cells
      have X12 : Hid (RX ((wx.drewN n11).setCell ⟨g, 2, none⟩ (.int .i64 (((j + 1 : Nat) : Int) + 1))) g p E L (j + 1 + 1) (-1) ∧ Only [g] w ((wx.drewN n11).setCell ⟨g, 2, none⟩ (.int .i64 (((j + 1 : Nat) : Int) + 1))) ∧ Own w.heap.size ((wx.drewN n11).setCell ⟨g, 2, none⟩ (.int .i64 (((j + 1 : Nat) : Int) + 1))) (.slice a9 (nv + 1) c9) (ftx f u')) := ⟨rset_i X11.out.1, X11.out.2.1.trans (Only.set _ _ _ _), X11.out.2.2.only (Only.set _ _ _ _) (fun b hb hm => by have := (X11.out.2.2.lt hb).1; simp only [List.mem_singleton] at hm; omega)⟩
      obtain ⟨m, hm⟩ : ∃ m, j + 1 = m := ⟨_, rfl⟩
      rw [hm] at c2 X12 R6 hj'
      have HM : Hid (j + 1 = m) := hm
      clear h5 hk' hm X10 X11
      go_wp2_with fail
      go_ret
      exact ⟨_, rfl, X12.out.2.1, .inl ⟨u', m + 1, X12.out.2.2, X12.out.1, by have := HM.out; omega, by omega, R6.out, HU.out.2.1, HU.out.2.2.1, by rw [HL9.out]; omega⟩⟩
    have HN5 : Hid (nx L (j + 1) 5 = false) := h5
    clear h5
    go_wp2_with fail
    refine (rtake_any (q := 6) X11.out.1 (by omega)).mono ?_
    rintro e w12 ⟨rfl, hx12, ho12⟩
    have O12 : Hid (Own w.heap.size w12 (.slice a9 (nv + 1) c9) (ftx f u') ∧ Only [g] w w12) := ⟨X11.out.2.2.only ho12 (fun b hb hm => by have := (X11.out.2.2.lt hb).1; simp only [List.mem_singleton] at hm; omega), X11.out.2.1.trans ho12⟩
    have X12 : Hid ((RX w12 g p E L (j + 1 + 1) (-1) ∧ j + 1 < L.length ∧ go p E S (.it l u' h f) (L.drop (j + 1 + 1)) = R) ∨ (0 ≤ fp L (j + 1) E ∧ RX w12 g p E L (j + 1) (fp L (j + 1) E) ∧ R = ([], fp L (j + 1) E))) := by
      rcases hx12 with ⟨hn, hx⟩ | ⟨hn, hx⟩
      · obtain ⟨hj', hk'⟩ := nx_true hn
        refine .inl ⟨hx, hj', ?_⟩
        rw [← HU.out.2.2.2, go_st hj' (st' := .it l u' h f) (by simp only [stp, if_neg (nx_false HN5.out hj'), if_pos hk'])]
      · refine .inr ⟨HFp.out _, hx, ?_⟩
        rw [← HU.out.2.2.2, go_fp rfl (fun hj' => by simp only [stp, if_neg (nx_false HN5.out hj'), if_neg (nx_false hn hj')])]
    clear hx12 ho12 X11 X10
    go_wp2_with fail
    go_roundw
    case rel =>
      refine ⟨O12.out.2, ?_⟩
      rcases X12.out with ⟨h1, h2, h3⟩ | ⟨h1, h2, h3⟩
      · exact .inl ⟨u', _, O12.out.1, h1, by omega, by omega, h3, HU.out.2.1, HU.out.2.2.1, by rw [HL9.out]; omega⟩
      · exact .inr ⟨_, _, _, h1, O12.out.1, h2, h3⟩
    case measure => (simp [slen]; omega)
end Go.Proofs.YtddaoloabfkheaaGreatDoor

namespace Go.Proofs.YtddaoloabfkheaaGreatDoor
open Go.RowKit

/-- what stands while a target is read -/
structure FJ (w : World) (g gT : Nat) (vh : Value) (H : List (List UInt8)) (tv : Tv) (t : Tg) (wr : World) : Prop where
  h : Own w.heap.size wr vh H
  b : TB wr gT tv
  o : TOwn w.heap.size wr tv t
  only : Only [g, gT] w wr
  ap : ∀ u ∈ tv.vals, Ap vh u
theorem FJ.later {w wr w' : World} {g gT : Nat} {vh : Value} {H : List (List UInt8)} {tv : Tv} {t : Tg} (h : FJ w g gT vh H tv t wr) (hb : Below wr.heap.size wr w') : FJ w g gT vh H tv t w' :=
  ⟨h.h.later hb, h.b.later hb, h.o.later hb, h.only.trans (Only.of_below hb _), h.ap⟩
theorem FJ.tok {w wr w' : World} {g gT : Nat} {vh : Value} {H : List (List UInt8)} {tv : Tv} {t : Tg} (h : FJ w g gT vh H tv t wr) (ho : Only [g] wr w') (hg : g < w.heap.size) (hne : gT ≠ g) : FJ w g gT vh H tv t w' := by
  refine ⟨h.h.only ho fun k hk hm => ?_, h.b.only ho (by simpa using hne), h.o.only ho fun u hu k hk hm => ?_, h.only.trans (ho.mono (by simp)), h.ap⟩
  · have := (h.h.lt hk).1; simp only [List.mem_singleton] at hm; omega
  · have := (h.o.lt u hu k hk).1; simp only [List.mem_singleton] at hm; omega
/-- a word more among those that were there -/
theorem FJ.had {w wr w' : World} {g gT : Nat} {vh vh' : Value} {H H' : List (List UInt8)} {tv : Tv} {t : Tg} (h : FJ w g gT vh H tv t wr) (ho : Own w.heap.size w' vh' H') (hb : Below w.heap.size wr w') (hn : Only vh.ownBlock.toList wr w') (hw : vh'.ownBlock = vh.ownBlock ∨ ∃ k, vh'.ownBlock = some k ∧ wr.heap.size ≤ k) (_hg : g < w.heap.size) (hgT : gT < w.heap.size) : FJ w g gT vh' H' tv t w' := by
  refine ⟨ho, h.b.below hb hgT, h.o.only hn fun u hu k hk hm => ?_, only_below h.only hb (Nat.le_refl _), fun u hu k hk hk' => ?_⟩
  · rw [Option.mem_toList] at hm
    exact h.ap u hu k hm hk
  · rcases hw with hw | ⟨k', hw, hk2⟩
    · exact h.ap u hu k (hw ▸ hk) hk'
    · have := (h.o.lt u hu k hk').2
      rw [hw] at hk; injection hk with hk; omega
theorem FJ.setS {w wr w' : World} {g gT : Nat} {vh : Value} {H : List (List UInt8)} {tv : Tv} {t : Tg} (h : FJ w g gT vh H tv t wr) (ho : Only [g] wr w') (hg : g < gT) (hgT : gT < w.heap.size) {a : Option Addr} {n c : Nat} {A : List (List UInt8)} (hA : Own wr.heap.size w' (.slice a n c) A) :
    FJ w g gT vh H { tv with sa := a, sn := n, sc := c } { t with srcs := A } (w'.setCell ⟨gT, 1, none⟩ (.slice a n c)) := by
  have h1 := h.tok ho (by omega) (by omega)
  have hsz := h.only.size
  have new : ∀ u ∈ vh :: tv.vals, Ap (.slice a n c) u := fun u hu k hk hk' => by
    have h2 := (hA.lt hk).1
    rcases List.mem_cons.1 hu with rfl | hu
    · have := (h.h.lt hk').2; omega
    · have := (h.o.lt u hu k hk').2; omega
  have hs : Only [gT] w' (w'.setCell ⟨gT, 1, none⟩ (.slice a n c)) := Only.set _ _ _ _
  have far : ∀ (v : Value), (∀ k, v.ownBlock = some k → w.heap.size ≤ k) → ∀ k, v.ownBlock = some k → k ∉ [gT] := fun v hv k hk hm => by have := hv k hk; simp only [List.mem_singleton] at hm; omega
  refine ⟨h1.h.only hs (far _ fun k hk => (h1.h.lt hk).1), h1.b.set1 a n c, ⟨h1.o.name, (hA.mono hsz).only hs (far _ fun k hk => by have := (hA.lt hk).1; omega), h1.o.d.only hs (far _ fun k hk => (h1.o.d.lt hk).1), h1.o.e.only hs (far _ fun k hk => (h1.o.e.lt hk).1), new _ (by simp [Tv.vals, Tv.d]), new _ (by simp [Tv.vals, Tv.e]), h1.o.de⟩, set_only h1.only (by simp) _ _, fun u hu => ?_⟩
  simp only [Tv.vals, List.mem_cons, List.mem_nil_iff, or_false] at hu
  rcases hu with rfl | rfl | rfl
  · exact (new vh (by simp)).symm
  · exact h.ap _ (by simp [Tv.vals, Tv.d])
  · exact h.ap _ (by simp [Tv.vals, Tv.e])
theorem FJ.setE {w wr w' : World} {g gT : Nat} {vh : Value} {H : List (List UInt8)} {tv : Tv} {t : Tg} (h : FJ w g gT vh H tv t wr) (ho : Only [g] wr w') (hg : g < gT) (hgT : gT < w.heap.size) {a : Option Addr} {n c : Nat} {A : List (List UInt8)} (hA : Own wr.heap.size w' (.slice a n c) A) :
    FJ w g gT vh H { tv with ea := a, en := n, ec := c } { t with see := A } (w'.setCell ⟨gT, 3, none⟩ (.slice a n c)) := by
  have h1 := h.tok ho (by omega) (by omega)
  have hsz := h.only.size
  have new : ∀ u ∈ vh :: tv.vals, Ap (.slice a n c) u := fun u hu k hk hk' => by
    have h2 := (hA.lt hk).1
    rcases List.mem_cons.1 hu with rfl | hu
    · have := (h.h.lt hk').2; omega
    · have := (h.o.lt u hu k hk').2; omega
  have hs : Only [gT] w' (w'.setCell ⟨gT, 3, none⟩ (.slice a n c)) := Only.set _ _ _ _
  have far : ∀ (v : Value), (∀ k, v.ownBlock = some k → w.heap.size ≤ k) → ∀ k, v.ownBlock = some k → k ∉ [gT] := fun v hv k hk hm => by have := hv k hk; simp only [List.mem_singleton] at hm; omega
  refine ⟨h1.h.only hs (far _ fun k hk => (h1.h.lt hk).1), h1.b.set3 a n c, ⟨h1.o.name, h1.o.s.only hs (far _ fun k hk => (h1.o.s.lt hk).1), h1.o.d.only hs (far _ fun k hk => (h1.o.d.lt hk).1), (hA.mono hsz).only hs (far _ fun k hk => by have := (hA.lt hk).1; omega), h1.o.sd, (new _ (by simp [Tv.vals, Tv.s])).symm, (new _ (by simp [Tv.vals, Tv.d])).symm⟩, set_only h1.only (by simp) _ _, fun u hu => ?_⟩
  simp only [Tv.vals, List.mem_cons, List.mem_nil_iff, or_false] at hu
  rcases hu with rfl | rfl | rfl
  · exact h.ap _ (by simp [Tv.vals, Tv.s])
  · exact h.ap _ (by simp [Tv.vals, Tv.d])
  · exact (new vh (by simp)).symm
theorem FJ.addD {w wr w' : World} {g gT : Nat} {vh : Value} {H : List (List UInt8)} {tv : Tv} {t : Tg} (h : FJ w g gT vh H tv t wr) (hgT : gT < w.heap.size) {a : Option Addr} {n c : Nat} {D : List Lb} (hO : OwnL w.heap.size w' (.slice a n c) D) (hB : Below w.heap.size wr w') (hN : Only (Value.slice tv.da tv.dn tv.dc).ownBlock.toList wr w') (hw : (Value.slice a n c).ownBlock = (Value.slice tv.da tv.dn tv.dc).ownBlock ∨ ∃ k, (Value.slice a n c).ownBlock = some k ∧ wr.heap.size ≤ k) :
    FJ w g gT vh H { tv with da := a, dn := n, dc := c } { t with deps := D } (w'.setCell ⟨gT, 2, none⟩ (.slice a n c)) := by
  have hs : Only [gT] w' (w'.setCell ⟨gT, 2, none⟩ (.slice a n c)) := Only.set _ _ _ _
  have far : ∀ (v : Value), (∀ k, v.ownBlock = some k → w.heap.size ≤ k) → ∀ k, v.ownBlock = some k → k ∉ [gT] := fun v hv k hk hm => by have := hv k hk; simp only [List.mem_singleton] at hm; omega
  have apd : ∀ u : Value, Ap u tv.d → ∀ k, u.ownBlock = some k → k ∉ (Value.slice tv.da tv.dn tv.dc).ownBlock.toList := fun u hu k hk hm => by
    rw [Option.mem_toList] at hm
    exact hu k hk hm
  have new : ∀ u : Value, Ap u tv.d → (∀ k, u.ownBlock = some k → k < wr.heap.size) → Ap u (.slice a n c) := fun u hu hl k hk hk' => by
    rcases hw with hw | ⟨j, hw, hj⟩
    · rw [hw] at hk'; exact hu k hk hk'
    · rw [hw] at hk'; injection hk' with hk'; have := hl k hk; omega
  have a1 : Ap vh tv.d := h.ap _ (by simp [Tv.vals])
  have a2 : Ap tv.s tv.d := h.o.sd
  have a3 : Ap tv.e tv.d := h.o.de.symm
  refine ⟨(h.h.only hN (apd _ a1)).only hs (far _ fun k hk => (h.h.lt hk).1), (h.b.below hB hgT).set2 a n c, ⟨h.o.name, (h.o.s.only hN (apd _ a2)).only hs (far _ fun k hk => (h.o.s.lt hk).1), hO.only hs (far _ fun k hk => (hO.lt hk).1), (h.o.e.only hN (apd _ a3)).only hs (far _ fun k hk => (h.o.e.lt hk).1), new _ a2 (fun k hk => (h.o.s.lt hk).2), h.o.se, (new _ a3 (fun k hk => (h.o.e.lt hk).2)).symm⟩, set_only (only_below h.only hB (Nat.le_refl _)) (by simp) _ _, fun u hu => ?_⟩
  simp only [Tv.vals, List.mem_cons, List.mem_nil_iff, or_false] at hu
  rcases hu with rfl | rfl | rfl
  · exact h.ap _ (by simp [Tv.vals, Tv.s])
  · exact new _ a1 (fun k hk => (h.h.lt hk).2)
  · exact h.ap _ (by simp [Tv.vals, Tv.e])
end Go.Proofs.YtddaoloabfkheaaGreatDoor
