/-
  The lists of a target: sources.
-/
import Derived.Test.YtddaoloabfkheaaGreatDoorJListP
namespace Go.Proofs.YtddaoloabfkheaaGreatDoor
open Go.RowKit

theorem addI_S (p : List UInt8) (t : Tg) (A : List (List UInt8)) (x : List UInt8) : addI p wSrcs { t with srcs := A } x = if (srcW p x && decide (A.length < 64) && !A.contains x) = true then some { t with srcs := A ++ [x] } else none := by
  unfold addI
  rw [if_pos rfl]
/-- the list is read through: what is laid, or where it is given up -/
def LsS (w : World) (g : Nat) (p : List UInt8) (E S : Int) (L : List Tk) (l : List Tg) (t : Tg) (h : List (List UInt8)) (R : List Tg × Int) (e : Ending) (w' : World) : Prop :=
  (∃ v A L', e = .returned v ∧ Own w.heap.size w' v A ∧ RQ w' g p E L' ∧ (∀ k ∈ L', k ∈ L) ∧ L'.length + 3 ≤ L.length ∧ go p E S (.fl l { t with srcs := A } h) L' = R ∧ Only [g] w w') ∨
  (∃ z, e = flt z ∧ R = ([], z) ∧ Only [g] w w')

set_option maxRecDepth 100000 in
set_option maxHeartbeats 8000000 in
theorem listS_any {w : World} {g : Nat} {p : List UInt8} {E S : Int} {L : List Tk} {l : List Tg} {t : Tg} {h : List (List UInt8)} {R : List Tg × Int} (hq : RQ w g p E L) (hT : ∀ k ∈ L, TkOk k) (hL : L.length ≤ 5000) (ht : t.srcs = []) (hR : go p E S (.eq l t h wSrcs) L = R) (hE : Ev w) (hg : 4 ≤ g) (hp : p.length ≤ 120) :
    Calls Tryz.prog 150 #[.pointer (some ⟨g, 0, none⟩), .func (.func 151) #[.pointer (some ⟨g, 0, none⟩)] #[]] w (LsS w g p E S L l t h R) := by
  have HT : Hid (∀ k ∈ L, TkOk k) := hT
  have HI : Hid (∀ (W : World) (x : List UInt8), Ev W → W.cell? ⟨g, 0, none⟩ = some (.string (bs p)) → g < W.heap.size → x.length ≤ 4096 → Calls Tryz.prog 151 #[.pointer (some ⟨g, 0, none⟩), .string (bs x)] W fun e w' => e = .returned (.tuple #[.string (bs x), .bool (srcW p x)]) ∧ Below W.heap.size W w') := fun W x hW hc hl hx => source_any x hW hc hl (by omega) (by omega)
  have HE : Hid (Ev w) := hE
  have HR : Hid (go p E S (.eq l t h wSrcs) L = R) := hR
  have HQ : Hid (RQ w g p E L) := hq
  have hgl := hq.lt
  have et : t = { t with srcs := [] } := by rw [← ht]
  have HTT : Hid (t = { t with srcs := [] }) := et
  clear hT hE hR hq et ht
  go_enter Tryz.func150, Tryz.ntmps150
  go_wp2_with fail
  refine (take_any (q := 7) HQ.out (by omega)).mono ?_
  rintro e w1 (⟨k1, r1, rfl, hk1, rfl, hq1, ho1⟩ | ⟨z, rfl, hb, hbad⟩)
  rotate_left
  · exact ⟨rfl, .inr ⟨z, rfl, by rw [← HR.out]; exact go_bad (fun k hk => by simp [stp, hk]) rfl hbad, Only.of_below hb _⟩⟩
  have R1 : Hid (go p E S (.bg l t h wSrcs) r1 = R) := by
    have := HR.out
    simp only [go, stp, if_pos hk1] at this; exact this
  have X1 : Hid (RQ w1 g p E r1 ∧ Only [g] w w1) := ⟨hq1, ho1⟩
  simp only [List.length_cons] at hL
  unfold Tk.val
  clear hk1 hq1 ho1 HR HQ
  go_wp2_with fail
  refine (take_any (q := 4) X1.out.1 (by omega)).mono ?_
  rintro e w2 (⟨k2, r2, rfl, hk2, rfl, hq2, ho2⟩ | ⟨z, rfl, hb, hbad⟩)
  rotate_left
  · exact ⟨rfl, .inr ⟨z, rfl, by rw [← R1.out]; exact go_bad (fun k hk => by simp [stp, hk]) rfl hbad, X1.out.2.trans (Only.of_below hb _)⟩⟩
  have R2 : Hid (go p E S (.i0 l t h wSrcs) r2 = R) := by
    have := R1.out
    simp only [go, stp, if_pos hk2] at this; exact this
  have X2 : Hid (RQ w2 g p E r2 ∧ Only [g] w w2) := ⟨hq2, X1.out.2.trans ho2⟩
  simp only [List.length_cons] at hL
  unfold Tk.val
  clear hk2 hq2 ho2 R1 X1
  go_wp2_with fail
  refine (passed_any (q := 5) X2.out.1 (by omega)).mono ?_
  rintro e w3 (⟨k3, r3, rfl, hk3, rfl, hq3, ho3⟩ | ⟨k3, r3, rfl, hk3, rfl, hb3⟩ | ⟨rfl, rfl, hb3⟩)
  rotate_left
  rotate_left
  · exact ⟨rfl, .inr ⟨_, rfl, by rw [← R2.out]; rfl, X2.out.2.trans (Only.of_below hb3 _)⟩⟩
  · have R3 : Hid (go p E S (.fl l { t with srcs := [] } h) r3 = R) := by
      have := R2.out
      simp only [go, stp, if_pos hk3] at this
      rw [HTT.out] at this; exact this
    have X3 : Hid (RQ w3 g p E r3 ∧ Only [g] w w3) := ⟨hq3, X2.out.2.trans ho3⟩
    simp only [List.length_cons] at hL
    clear hk3 hq3 ho3 R2 X2 HI
    go_wp2_with fail
    go_ret
    exact .inl ⟨_, [], r3, rfl, Own.nil _ _, X3.out.1, fun k hk => by simp [hk], by simp, R3.out, X3.out.2⟩
  have R3 : Hid (go p E S (.it l { t with srcs := [] } h wSrcs) (k3 :: r3) = R) := by
    have := R2.out
    rw [HTT.out, go_i0 hk3] at this; exact this
  have X3 : Hid (RQ w3 g p E (k3 :: r3) ∧ Only [g] w w3) := ⟨X2.out.1.later hb3, X2.out.2.trans (Only.of_below hb3 _)⟩
  have hs3 : w.heap.size ≤ w3.heap.size := X3.out.2.size
  clear hk3 hb3 R2 X2 HTT
  go_wp2_with fail
  go_loopw [5] (fun v wr => ∃ (A : List (List UInt8)) (Lr : List Tk), A.length ≤ 64 ∧ Own w.heap.size wr v A ∧ RQ wr g p E Lr ∧ Only [g] w wr ∧ go p E S (.it l { t with srcs := A } h wSrcs) Lr = R ∧ (∀ k ∈ Lr, k ∈ k1 :: k2 :: k3 :: r3) ∧ Lr.length + 2 ≤ (k1 :: k2 :: k3 :: r3).length) (fun v _ => 65 - slen v)
  case atStart => exact ⟨[], k3 :: r3, by simp, Own.nil _ _, X3.out.1, X3.out.2, R3.out, fun k hk => List.mem_cons_of_mem _ (List.mem_cons_of_mem _ hk), by simp⟩
  case round =>
    obtain ⟨A, Lr, hA, hown, hqr, hor, hRr, hmem, hlen⟩ := hrel
    clear R3 X3 hs3
    have HO : Hid (Own w.heap.size wr u5 A) := hown
    have X4 : Hid (RQ wr g p E Lr ∧ Only [g] w wr) := ⟨hqr, hor⟩
    have R4 : Hid (go p E S (.it l { t with srcs := A } h wSrcs) Lr = R) := hRr
    have M4 : Hid (∀ k ∈ Lr, k ∈ k1 :: k2 :: k3 :: r3) := hmem
    simp only [List.length_cons] at hlen hL
    have hsr : w.heap.size ≤ wr.heap.size := hor.size
    have hgr : g < wr.heap.size := by omega
    clear hown hqr hor hRr hmem
    go_wp2_with fail
    refine (take_any (q := 1) X4.out.1 (by omega)).mono ?_
    rintro e w5 (⟨k, r, rfl, hk, rfl, hq5, ho5⟩ | ⟨z, rfl, hb, hbad⟩)
    rotate_left
    · exact ⟨rfl, .inr ⟨z, rfl, by rw [← R4.out]; exact go_bad (fun k hk => by simp [stp, hk]) rfl hbad, X4.out.2.trans (Only.of_below hb _)⟩⟩
    have hk0 : TkOk k := HT.out k (M4.out k (by simp))
    have X5 : Hid (RQ w5 g p E r ∧ Only [g] w w5) := ⟨hq5, X4.out.2.trans ho5⟩
    have O5 : Hid (Own w.heap.size w5 u5 A) := HO.out.only ho5 (fun b hb hm => by have := (HO.out.lt hb).1; simp only [List.mem_singleton] at hm; omega)
    have hs5 : wr.heap.size ≤ w5.heap.size := ho5.size
    simp only [List.length_cons] at hlen
    unfold Tk.val
    obtain ⟨gt, hgt⟩ : ∃ gt, w5.heap.size = gt := ⟨_, rfl⟩
    obtain ⟨w5a, hw5a⟩ : ∃ w5a, w5.alloc (.cells #[.int .i64 k.kind, .string (bs k.text), .int .i64 k.at'] 188) = w5a := ⟨_, rfl⟩
    have hb5 : Below w5.heap.size w5 w5a := by rw [← hw5a]; exact balloc _ _
    have hs5a : gt + 1 = w5a.heap.size := by rw [← hw5a, ← hgt]; simp
    have X5a : Hid (RQ w5a g p E r ∧ Only [g] w w5a) := ⟨X5.out.1.later hb5, X5.out.2.trans (Only.of_below hb5 _)⟩
    have O5a : Hid (Own w.heap.size w5a u5 A) := O5.out.later hb5
    have t0 : w5a.cell? ⟨gt, 0, none⟩ = some (.int .i64 k.kind) := by rw [← hw5a, ← hgt]; simp
    have t1 : w5a.cell? ⟨gt, 1, none⟩ = some (.string (bs k.text)) := by rw [← hw5a, ← hgt]; simp
    have t2 : w5a.cell? ⟨gt, 2, none⟩ = some (.int .i64 k.at') := by rw [← hw5a, ← hgt]; simp
    have HW : Hid (w5.alloc (.cells #[.int .i64 k.kind, .string (bs k.text), .int .i64 k.at'] 188) = w5a ∧ w5.heap.size = gt) := ⟨hw5a, hgt⟩
    obtain ⟨vq, hvq, _, _⟩ := X5a.out.1.rd
    have HIx : Hid (Calls Tryz.prog 151 #[.pointer (some ⟨g, 0, none⟩), .string (bs k.text)] w5a fun e w' => e = .returned (.tuple #[.string (bs k.text), .bool (srcW p k.text)]) ∧ Below w5a.heap.size w5a w') := HI.out w5a k.text (HE.out.only X5a.out.2 (by simpa using hg)) hvq.cells.1 hvq.lt hk0.len
    clear hvq
    have R5 : Hid ((match addI p wSrcs { t with srcs := A } k.text with | none => (([], k.at') : List Tg × Int) | some u => go p E S (.sp l u h wSrcs) r) = R) := by
      have := R4.out
      simp only [go, stp, if_pos hk] at this
      rw [← this]
      cases addI p wSrcs { t with srcs := A } k.text <;> rfl
    rw [addI_S] at R5
    clear hq5 ho5 hw5a hb5 hk HI X4 X5 O5 R4 HO hgt
    go_wp2_with fail
    rw [HW.out.1, HW.out.2]
    go_wp2_with fail
    refine HIx.out.mono ?_
    rintro e w6 ⟨rfl, hb6⟩
    have O6 : Hid (Own w.heap.size w6 u5 A) := O5a.out.later hb6
    have X6 : Hid (RQ w6 g p E r ∧ Only [g] w w6) := ⟨X5a.out.1.later hb6, X5a.out.2.trans (Only.of_below hb6 _)⟩
    have hs6 : w5a.heap.size ≤ w6.heap.size := hb6.size
    have hgt6 : gt < w5a.heap.size := by omega
    replace t0 := (hb6.cell (p := ⟨gt, 0, none⟩) hgt6).trans t0
    replace t1 := (hb6.cell (p := ⟨gt, 1, none⟩) hgt6).trans t1
    replace t2 := (hb6.cell (p := ⟨gt, 2, none⟩) hgt6).trans t2
    have HCN : Hid (∀ W : World, Calls Tryz.prog 129 #[.agg #[.int .i64 k.kind, .string (bs k.text), .int .i64 k.at'], .bool false] W fun e w' => e = flt k.at' ∧ Below W.heap.size W w') := fun W => check_no k W
    have HCY : Hid (∀ W : World, Calls Tryz.prog 129 #[.agg #[.int .i64 k.kind, .string (bs k.text), .int .i64 k.at'], .bool true] W fun e w' => e = .returned (.tuple #[]) ∧ Below W.heap.size W w') := fun W => check_ok k W
    clear hb6 O5a X5a HIx HW

    obtain ⟨av, cv, hv⟩ := O6.out.frm
    subst hv
    obtain ⟨nA, hnA⟩ : ∃ nA, A.length = nA := ⟨_, rfl⟩
    have HNA : Hid (A.length = nA) := hnA
    rw [hnA] at hA R5 ⊢
    clear hnA
    have HCo : Hid (Calls Tryz.prog 149 #[.slice av nA cv, .string (bs k.text)] w6.drew fun e w' => e = .returned (.bool (A.contains k.text)) ∧ w' = w6.drew) := by have := containsS_any (own_ss (O6.out.later (bd1 _))) k.text (by rw [HNA.out]; omega); rw [HNA.out] at *; exact this
    obtain ⟨Cn, hCn⟩ : ∃ Cn, A.contains k.text = Cn := ⟨_, rfl⟩
    rw [hCn] at R5 HCo
    clear hCn
    cases hok : srcW p k.text
    · rw [hok] at R5
      obtain rfl : ([], k.at') = R := by have := R5.out; simpa using this
      clear hok R5 HCo
      go_wp2_with fail
      refine wp_region_held_drew (S := fun w' => w'.cell? ⟨gt, 0, none⟩ = some (.int .i64 k.kind) ∧ w'.cell? ⟨gt, 1, none⟩ = some (.string (bs k.text)) ∧ w'.cell? ⟨gt, 2, none⟩ = some (.int .i64 k.at')) (by kernel_rfl) ⟨t0, t1, t2⟩ (fun hHeld => ?_)
      refine wpAnyH_take (i := 0) (oi := { dst := some 24, op := _, type := _, pos := _, after := _, guard := _ }) (v := ?vx1) rfl (by kernel_rfl) (by kernel_rfl) (by kernel_rfl) (fun _ _ _ h => h) (Or.inl ⟨by rfl, ?hyx1⟩) (by assumption) ?restx1
      case hyx1 => (intro w hSw; (try dsimp only at hSw); go_simp; try with_reducible rfl)
      try simp only [Act.put, List.setIfInBounds_toArray, List.set_cons_zero, List.set_cons_succ]
      refine wpAnyH_take (i := 1) (oi := { dst := some 25, op := _, type := _, pos := _, after := _, guard := _ }) (v := ?vx2) rfl (by kernel_rfl) (by kernel_rfl) (by kernel_rfl) (fun _ _ _ h => h) (Or.inl ⟨by rfl, ?hyx2⟩) (by assumption) ?restx2
      case hyx2 => (intro w hSw; (try dsimp only at hSw); go_simp; try with_reducible rfl)
      try simp only [Act.put, List.setIfInBounds_toArray, List.set_cons_zero, List.set_cons_succ]
      refine wpAnyH_take (i := 2) (oi := { dst := some 26, op := _, type := _, pos := _, after := _, guard := _ }) (v := ?vx3) rfl (by kernel_rfl) (by kernel_rfl) (by kernel_rfl) (fun _ _ _ h => h) (Or.inl ⟨by rfl, ?hyx3⟩) (by assumption) ?restx3
      case hyx3 => (intro w hSw; (try dsimp only at hSw); go_simp; try with_reducible rfl)
      try simp only [Act.put, List.setIfInBounds_toArray, List.set_cons_zero, List.set_cons_succ]
      refine wpAnyH_take (i := 3) (oi := { dst := some 27, op := _, type := _, pos := _, after := _, guard := _ }) (v := undef) rfl (by kernel_rfl) (by kernel_rfl) (by kernel_rfl) (fun _ _ _ h => h) (Or.inr ⟨by rfl, rfl⟩) (by assumption) ?_
      try simp only [Act.put, List.setIfInBounds_toArray, List.set_cons_zero, List.set_cons_succ]
      refine wpAnyH_take (i := 4) (oi := { dst := some 28, op := _, type := _, pos := _, after := _, guard := _ }) (v := undef) rfl (by kernel_rfl) (by kernel_rfl) (by kernel_rfl) (fun _ _ _ h => h) (Or.inr ⟨by rfl, rfl⟩) (by assumption) ?_
      try simp only [Act.put, List.setIfInBounds_toArray, List.set_cons_zero, List.set_cons_succ]
      refine wpAnyH_take (i := 5) (oi := { dst := some 29, op := _, type := _, pos := _, after := _, guard := _ }) (v := undef) rfl (by kernel_rfl) (by kernel_rfl) (by kernel_rfl) (fun _ _ _ h => h) (Or.inr ⟨by rfl, rfl⟩) (by assumption) ?_
      try simp only [Act.put, List.setIfInBounds_toArray, List.set_cons_zero, List.set_cons_succ]
      refine wpAnyH_take (i := 6) (oi := { dst := some 30, op := _, type := _, pos := _, after := _, guard := _ }) (v := ?vx4) rfl (by kernel_rfl) (by kernel_rfl) (by kernel_rfl) (fun _ _ _ h => h) (Or.inl ⟨by rfl, ?hyx4⟩) (by assumption) ?restx4
      case hyx4 => (intro w hSw; (try dsimp only at hSw); go_simp; try with_reducible rfl)
      try simp only [Act.put, List.setIfInBounds_toArray, List.set_cons_zero, List.set_cons_succ]
      refine wpAnyH_take (i := 7) (oi := { dst := some 31, op := _, type := _, pos := _, after := _, guard := _ }) (v := ?vx5) rfl (by kernel_rfl) (by kernel_rfl) (by kernel_rfl) (fun _ _ _ h => h) (Or.inl ⟨by rfl, ?hyx5⟩) (by assumption) ?restx5
      case hyx5 => (intro w hSw; (try dsimp only at hSw); go_simp; try with_reducible rfl)
      try simp only [Act.put, List.setIfInBounds_toArray, List.set_cons_zero, List.set_cons_succ]
      refine wpAnyH_take (i := 8) (oi := { dst := some 32, op := _, type := _, pos := _, after := _, guard := _ }) (v := undef) rfl (by kernel_rfl) (by kernel_rfl) (by kernel_rfl) (fun _ _ _ h => h) (Or.inr ⟨by rfl, rfl⟩) (by assumption) ?_
      try simp only [Act.put, List.setIfInBounds_toArray, List.set_cons_zero, List.set_cons_succ]
      refine wpAnyH_take (i := 9) (oi := { dst := some 33, op := _, type := _, pos := _, after := _, guard := _ }) (v := undef) rfl (by kernel_rfl) (by kernel_rfl) (by kernel_rfl) (fun _ _ _ h => h) (Or.inr ⟨by rfl, rfl⟩) (by assumption) ?_
      try simp only [Act.put, List.setIfInBounds_toArray, List.set_cons_zero, List.set_cons_succ]
      refine wpAnyH_take (i := 10) (oi := { dst := some 34, op := _, type := _, pos := _, after := _, guard := _ }) (v := undef) rfl (by kernel_rfl) (by kernel_rfl) (by kernel_rfl) (fun _ _ _ h => h) (Or.inr ⟨by rfl, rfl⟩) (by assumption) ?_
      try simp only [Act.put, List.setIfInBounds_toArray, List.set_cons_zero, List.set_cons_succ]
      refine wpAnyH_take (i := 11) (oi := { dst := some 35, op := _, type := _, pos := _, after := _, guard := _ }) (v := undef) rfl (by kernel_rfl) (by kernel_rfl) (by kernel_rfl) (fun _ _ _ h => h) (Or.inr ⟨by rfl, rfl⟩) (by assumption) ?_
      try simp only [Act.put, List.setIfInBounds_toArray, List.set_cons_zero, List.set_cons_succ]
      refine wpAnyH_take (i := 12) (oi := { dst := some 36, op := _, type := _, pos := _, after := _, guard := _ }) (v := ?vx6) rfl (by kernel_rfl) (by kernel_rfl) (by kernel_rfl) (fun _ _ _ h => h) (Or.inl ⟨by rfl, ?hyx6⟩) (by assumption) ?restx6
      case hyx6 => (intro w hSw; (try dsimp only at hSw); go_simp; try with_reducible rfl)
      try simp only [Act.put, List.setIfInBounds_toArray, List.set_cons_zero, List.set_cons_succ]
      refine wpAnyH_ready (rs := [13]) (by kernel_rfl) (by simp) ?_
      refine AllReadyH.cons (o := { dst := some 37, op := _, type := _, pos := _, after := _, guard := _ }) rfl (fun K hK => ?_) AllReadyH.nil
      go_simp
      refine (HCN.out _).mono ?_
      rintro e w8 ⟨rfl, hb8⟩
      exact ⟨rfl, .inr ⟨_, rfl, rfl, X6.out.2.trans (Only.of_below (bstep (bd1 _) hb8) _)⟩⟩
    rw [hok] at R5
    clear hok
    by_cases h64 : nA < 64
    rotate_left
    · have d1 : decide ((nA : Int) < 64) = false := by simp; omega
      have d2 : ¬ ((nA : Int) < 64) := by omega
      obtain rfl : ([], k.at') = R := by
        have := R5.out
        rw [decide_eq_false h64] at this; simpa using this
      clear R5 HCo
      go_wp2_with fail
      refine wp_region_held_drew (S := fun w' => w'.cell? ⟨gt, 0, none⟩ = some (.int .i64 k.kind) ∧ w'.cell? ⟨gt, 1, none⟩ = some (.string (bs k.text)) ∧ w'.cell? ⟨gt, 2, none⟩ = some (.int .i64 k.at')) (by kernel_rfl) ⟨t0, t1, t2⟩ (fun hHeld => ?_)
      refine wpAnyH_take (i := 0) (oi := { dst := some 24, op := _, type := _, pos := _, after := _, guard := _ }) (v := ?vx7) rfl (by kernel_rfl) (by kernel_rfl) (by kernel_rfl) (fun _ _ _ h => h) (Or.inl ⟨by rfl, ?hyx7⟩) (by assumption) ?restx7
      case hyx7 => (intro w hSw; (try dsimp only at hSw); go_simp; try with_reducible rfl)
      try simp only [Act.put, List.setIfInBounds_toArray, List.set_cons_zero, List.set_cons_succ]
      refine wpAnyH_take (i := 1) (oi := { dst := some 25, op := _, type := _, pos := _, after := _, guard := _ }) (v := ?vx8) rfl (by kernel_rfl) (by kernel_rfl) (by kernel_rfl) (fun _ _ _ h => h) (Or.inl ⟨by rfl, ?hyx8⟩) (by assumption) ?restx8
      case hyx8 => (intro w hSw; (try dsimp only at hSw); go_simp; try with_reducible rfl)
      try simp only [Act.put, List.setIfInBounds_toArray, List.set_cons_zero, List.set_cons_succ]
      refine wpAnyH_take (i := 2) (oi := { dst := some 26, op := _, type := _, pos := _, after := _, guard := _ }) (v := ?vx9) rfl (by kernel_rfl) (by kernel_rfl) (by kernel_rfl) (fun _ _ _ h => h) (Or.inl ⟨by rfl, ?hyx9⟩) (by assumption) ?restx9
      case hyx9 => (intro w hSw; (try dsimp only at hSw); go_simp; try with_reducible rfl)
      try simp only [Act.put, List.setIfInBounds_toArray, List.set_cons_zero, List.set_cons_succ]
      refine wpAnyH_take (i := 3) (oi := { dst := some 27, op := _, type := _, pos := _, after := _, guard := _ }) (v := ?vx10) rfl (by kernel_rfl) (by kernel_rfl) (by kernel_rfl) (fun _ _ _ h => h) (Or.inl ⟨by rfl, ?hyx10⟩) (by assumption) ?restx10
      case hyx10 => (intro w hSw; (try dsimp only at hSw); go_simp; try with_reducible rfl)
      try simp only [Act.put, List.setIfInBounds_toArray, List.set_cons_zero, List.set_cons_succ]
      refine wpAnyH_take (i := 4) (oi := { dst := some 28, op := _, type := _, pos := _, after := _, guard := _ }) (v := ?vx11) rfl (by kernel_rfl) (by kernel_rfl) (by kernel_rfl) (fun _ _ _ h => h) (Or.inl ⟨by rfl, ?hyx11⟩) (by assumption) ?restx11
      case hyx11 => (intro w hSw; (try dsimp only at hSw); go_simp; try with_reducible rfl)
      try simp only [Act.put, List.setIfInBounds_toArray, List.set_cons_zero, List.set_cons_succ]
      refine wpAnyH_take (i := 5) (oi := { dst := some 29, op := _, type := _, pos := _, after := _, guard := _ }) (v := ?vx12) rfl (by kernel_rfl) (by kernel_rfl) (by kernel_rfl) (fun _ _ _ h => h) (Or.inl ⟨by rfl, ?hyx12⟩) (by assumption) ?restx12
      case hyx12 => (intro w hSw; (try dsimp only at hSw); go_simp; try with_reducible rfl)
      try simp only [Act.put, List.setIfInBounds_toArray, List.set_cons_zero, List.set_cons_succ]
      refine wpAnyH_take (i := 6) (oi := { dst := some 30, op := _, type := _, pos := _, after := _, guard := _ }) (v := ?vx13) rfl (by kernel_rfl) (by kernel_rfl) (by kernel_rfl) (fun _ _ _ h => h) (Or.inl ⟨by rfl, ?hyx13⟩) (by assumption) ?restx13
      case hyx13 => (intro w hSw; (try dsimp only at hSw); go_simp; try with_reducible rfl)
      try simp only [Act.put, List.setIfInBounds_toArray, List.set_cons_zero, List.set_cons_succ]
      refine wpAnyH_take (i := 7) (oi := { dst := some 31, op := _, type := _, pos := _, after := _, guard := _ }) (v := ?vx14) rfl (by kernel_rfl) (by kernel_rfl) (by kernel_rfl) (fun _ _ _ h => h) (Or.inl ⟨by rfl, ?hyx14⟩) (by assumption) ?restx14
      case hyx14 => (intro w hSw; (try dsimp only at hSw); go_simp; try with_reducible rfl)
      try simp only [Act.put, List.setIfInBounds_toArray, List.set_cons_zero, List.set_cons_succ]
      refine wpAnyH_take (i := 8) (oi := { dst := some 32, op := _, type := _, pos := _, after := _, guard := _ }) (v := undef) rfl (by kernel_rfl) (by kernel_rfl) (by kernel_rfl) (fun _ _ _ h => h) (Or.inr ⟨by rfl, rfl⟩) (by assumption) ?_
      try simp only [Act.put, List.setIfInBounds_toArray, List.set_cons_zero, List.set_cons_succ]
      refine wpAnyH_take (i := 9) (oi := { dst := some 33, op := _, type := _, pos := _, after := _, guard := _ }) (v := undef) rfl (by kernel_rfl) (by kernel_rfl) (by kernel_rfl) (fun _ _ _ h => h) (Or.inr ⟨by rfl, rfl⟩) (by assumption) ?_
      try simp only [Act.put, List.setIfInBounds_toArray, List.set_cons_zero, List.set_cons_succ]
      refine wpAnyH_take (i := 10) (oi := { dst := some 34, op := _, type := _, pos := _, after := _, guard := _ }) (v := undef) rfl (by kernel_rfl) (by kernel_rfl) (by kernel_rfl) (fun _ _ _ h => h) (Or.inr ⟨by rfl, rfl⟩) (by assumption) ?_
      try simp only [Act.put, List.setIfInBounds_toArray, List.set_cons_zero, List.set_cons_succ]
      refine wpAnyH_take (i := 11) (oi := { dst := some 35, op := _, type := _, pos := _, after := _, guard := _ }) (v := undef) rfl (by kernel_rfl) (by kernel_rfl) (by kernel_rfl) (fun _ _ _ h => h) (Or.inr ⟨by rfl, rfl⟩) (by assumption) ?_
      try simp only [Act.put, List.setIfInBounds_toArray, List.set_cons_zero, List.set_cons_succ]
      refine wpAnyH_take (i := 12) (oi := { dst := some 36, op := _, type := _, pos := _, after := _, guard := _ }) (v := ?vx15) rfl (by kernel_rfl) (by kernel_rfl) (by kernel_rfl) (fun _ _ _ h => h) (Or.inl ⟨by rfl, ?hyx15⟩) (by assumption) ?restx15
      case hyx15 => (intro w hSw; (try dsimp only at hSw); go_simp; try with_reducible rfl)
      try simp only [Act.put, List.setIfInBounds_toArray, List.set_cons_zero, List.set_cons_succ]
      refine wpAnyH_ready (rs := [13]) (by kernel_rfl) (by simp) ?_
      refine AllReadyH.cons (o := { dst := some 37, op := _, type := _, pos := _, after := _, guard := _ }) rfl (fun K hK => ?_) AllReadyH.nil
      go_simp
      refine (HCN.out _).mono ?_
      rintro e w8 ⟨rfl, hb8⟩
      exact ⟨rfl, .inr ⟨_, rfl, rfl, X6.out.2.trans (Only.of_below (bstep (bd1 _) hb8) _)⟩⟩
    have d1 : decide ((nA : Int) < 64) = true := by simp; omega
    have d2 : (nA : Int) < 64 := by omega
    rw [decide_eq_true h64] at R5
    cases Cn
    rotate_left
    · obtain rfl : ([], k.at') = R := by have := R5.out; simpa using this
      clear R5
      go_wp2_with fail
      refine wp_region_held_drew (S := fun w' => w'.cell? ⟨gt, 0, none⟩ = some (.int .i64 k.kind) ∧ w'.cell? ⟨gt, 1, none⟩ = some (.string (bs k.text)) ∧ w'.cell? ⟨gt, 2, none⟩ = some (.int .i64 k.at')) (by kernel_rfl) ⟨t0, t1, t2⟩ (fun hHeld => ?_)
      refine wpAnyH_take (i := 0) (oi := { dst := some 24, op := _, type := _, pos := _, after := _, guard := _ }) (v := ?vx16) rfl (by kernel_rfl) (by kernel_rfl) (by kernel_rfl) (fun _ _ _ h => h) (Or.inl ⟨by rfl, ?hyx16⟩) (by assumption) ?restx16
      case hyx16 => (intro w hSw; (try dsimp only at hSw); go_simp; try with_reducible rfl)
      try simp only [Act.put, List.setIfInBounds_toArray, List.set_cons_zero, List.set_cons_succ]
      refine wpAnyH_take (i := 1) (oi := { dst := some 25, op := _, type := _, pos := _, after := _, guard := _ }) (v := ?vx17) rfl (by kernel_rfl) (by kernel_rfl) (by kernel_rfl) (fun _ _ _ h => h) (Or.inl ⟨by rfl, ?hyx17⟩) (by assumption) ?restx17
      case hyx17 => (intro w hSw; (try dsimp only at hSw); go_simp; try with_reducible rfl)
      try simp only [Act.put, List.setIfInBounds_toArray, List.set_cons_zero, List.set_cons_succ]
      refine wpAnyH_take (i := 2) (oi := { dst := some 26, op := _, type := _, pos := _, after := _, guard := _ }) (v := ?vx18) rfl (by kernel_rfl) (by kernel_rfl) (by kernel_rfl) (fun _ _ _ h => h) (Or.inl ⟨by rfl, ?hyx18⟩) (by assumption) ?restx18
      case hyx18 => (intro w hSw; (try dsimp only at hSw); go_simp; try with_reducible rfl)
      try simp only [Act.put, List.setIfInBounds_toArray, List.set_cons_zero, List.set_cons_succ]
      refine wpAnyH_take (i := 3) (oi := { dst := some 27, op := _, type := _, pos := _, after := _, guard := _ }) (v := ?vx19) rfl (by kernel_rfl) (by kernel_rfl) (by kernel_rfl) (fun _ _ _ h => h) (Or.inl ⟨by rfl, ?hyx19⟩) (by assumption) ?restx19
      case hyx19 => (intro w hSw; (try dsimp only at hSw); go_simp; try with_reducible rfl)
      try simp only [Act.put, List.setIfInBounds_toArray, List.set_cons_zero, List.set_cons_succ]
      refine wpAnyH_take (i := 4) (oi := { dst := some 28, op := _, type := _, pos := _, after := _, guard := _ }) (v := ?vx20) rfl (by kernel_rfl) (by kernel_rfl) (by kernel_rfl) (fun _ _ _ h => h) (Or.inl ⟨by rfl, ?hyx20⟩) (by assumption) ?restx20
      case hyx20 => (intro w hSw; (try dsimp only at hSw); go_simp; try with_reducible rfl)
      try simp only [Act.put, List.setIfInBounds_toArray, List.set_cons_zero, List.set_cons_succ]
      refine wpAnyH_take (i := 5) (oi := { dst := some 29, op := _, type := _, pos := _, after := _, guard := _ }) (v := ?vx21) rfl (by kernel_rfl) (by kernel_rfl) (by kernel_rfl) (fun _ _ _ h => h) (Or.inl ⟨by rfl, ?hyx21⟩) (by assumption) ?restx21
      case hyx21 => (intro w hSw; (try dsimp only at hSw); go_simp; try with_reducible rfl)
      try simp only [Act.put, List.setIfInBounds_toArray, List.set_cons_zero, List.set_cons_succ]
      refine wpAnyH_take (i := 6) (oi := { dst := some 30, op := _, type := _, pos := _, after := _, guard := _ }) (v := ?vx22) rfl (by kernel_rfl) (by kernel_rfl) (by kernel_rfl) (fun _ _ _ h => h) (Or.inl ⟨by rfl, ?hyx22⟩) (by assumption) ?restx22
      case hyx22 => (intro w hSw; (try dsimp only at hSw); go_simp; try with_reducible rfl)
      try simp only [Act.put, List.setIfInBounds_toArray, List.set_cons_zero, List.set_cons_succ]
      refine wpAnyH_take (i := 7) (oi := { dst := some 31, op := _, type := _, pos := _, after := _, guard := _ }) (v := ?vx23) rfl (by kernel_rfl) (by kernel_rfl) (by kernel_rfl) (fun _ _ _ h => h) (Or.inl ⟨by rfl, ?hyx23⟩) (by assumption) ?restx23
      case hyx23 => (intro w hSw; (try dsimp only at hSw); go_simp; try with_reducible rfl)
      try simp only [Act.put, List.setIfInBounds_toArray, List.set_cons_zero, List.set_cons_succ]
      refine wpAnyH_take (i := 8) (oi := { dst := some 32, op := _, type := _, pos := _, after := _, guard := _ }) (v := ?vx24) rfl (by kernel_rfl) (by kernel_rfl) (by kernel_rfl) (fun _ _ _ h => h) (Or.inl ⟨by rfl, ?hyx24⟩) (by assumption) ?restx24
      case hyx24 => (intro w hSw; (try dsimp only at hSw); go_simp; try with_reducible rfl)
      try simp only [Act.put, List.setIfInBounds_toArray, List.set_cons_zero, List.set_cons_succ]
      refine wpAnyH_take (i := 9) (oi := { dst := some 33, op := _, type := _, pos := _, after := _, guard := _ }) (v := ?vx25) rfl (by kernel_rfl) (by kernel_rfl) (by kernel_rfl) (fun _ _ _ h => h) (Or.inl ⟨by rfl, ?hyx25⟩) (by assumption) ?restx25
      case hyx25 => (intro w hSw; (try dsimp only at hSw); go_simp; try with_reducible rfl)
      try simp only [Act.put, List.setIfInBounds_toArray, List.set_cons_zero, List.set_cons_succ]
      refine wpAnyH_ready (rs := [10]) (by kernel_rfl) (by simp) ?_
      refine AllReadyH.cons (o := { dst := some 34, op := _, type := _, pos := _, after := _, guard := _ }) rfl (fun K hK => ?_) AllReadyH.nil
      go_simp
      refine HCo.out.mono ?_
      rintro e w7 ⟨rfl, hw7⟩
      subst hw7
      refine hK.out _ _ hHeld (fun hHeld => ?_)
      clear hK K
      try simp only [Act.put, List.setIfInBounds_toArray, List.set_cons_zero, List.set_cons_succ]
      refine wpAnyH_take (i := 11) (oi := { dst := some 35, op := _, type := _, pos := _, after := _, guard := _ }) (v := ?vx26) rfl (by kernel_rfl) (by kernel_rfl) (by kernel_rfl) (fun _ _ _ h => h) (Or.inl ⟨by rfl, ?hyx26⟩) (by assumption) ?restx26
      case hyx26 => (intro w hSw; (try dsimp only at hSw); go_simp; try with_reducible rfl)
      try simp only [Act.put, List.setIfInBounds_toArray, List.set_cons_zero, List.set_cons_succ]
      refine wpAnyH_take (i := 12) (oi := { dst := some 36, op := _, type := _, pos := _, after := _, guard := _ }) (v := ?vx27) rfl (by kernel_rfl) (by kernel_rfl) (by kernel_rfl) (fun _ _ _ h => h) (Or.inl ⟨by rfl, ?hyx27⟩) (by assumption) ?restx27
      case hyx27 => (intro w hSw; (try dsimp only at hSw); go_simp; try with_reducible rfl)
      try simp only [Act.put, List.setIfInBounds_toArray, List.set_cons_zero, List.set_cons_succ]
      refine wpAnyH_ready (rs := [13]) (by kernel_rfl) (by simp) ?_
      refine AllReadyH.cons (o := { dst := some 37, op := _, type := _, pos := _, after := _, guard := _ }) rfl (fun K hK => ?_) AllReadyH.nil
      go_simp
      refine (HCN.out _).mono ?_
      rintro e w8 ⟨rfl, hb8⟩
      exact ⟨rfl, .inr ⟨_, rfl, rfl, X6.out.2.trans (Only.of_below (bstep (bd1 _) hb8) _)⟩⟩
    · have R6 : Hid (go p E S (.sp l { t with srcs := A ++ [k.text] } h wSrcs) r = R) := by
        show go _ _ _ _ _ = R
        have := R5.out; simpa using this
      clear R5
      go_wp2_with fail
      refine wp_region_held_drew (S := fun w' => w'.cell? ⟨gt, 0, none⟩ = some (.int .i64 k.kind) ∧ w'.cell? ⟨gt, 1, none⟩ = some (.string (bs k.text)) ∧ w'.cell? ⟨gt, 2, none⟩ = some (.int .i64 k.at')) (by kernel_rfl) ⟨t0, t1, t2⟩ (fun hHeld => ?_)
      refine wpAnyH_take (i := 0) (oi := { dst := some 24, op := _, type := _, pos := _, after := _, guard := _ }) (v := ?vx28) rfl (by kernel_rfl) (by kernel_rfl) (by kernel_rfl) (fun _ _ _ h => h) (Or.inl ⟨by rfl, ?hyx28⟩) (by assumption) ?restx28
      case hyx28 => (intro w hSw; (try dsimp only at hSw); go_simp; try with_reducible rfl)
      try simp only [Act.put, List.setIfInBounds_toArray, List.set_cons_zero, List.set_cons_succ]
      refine wpAnyH_take (i := 1) (oi := { dst := some 25, op := _, type := _, pos := _, after := _, guard := _ }) (v := ?vx29) rfl (by kernel_rfl) (by kernel_rfl) (by kernel_rfl) (fun _ _ _ h => h) (Or.inl ⟨by rfl, ?hyx29⟩) (by assumption) ?restx29
      case hyx29 => (intro w hSw; (try dsimp only at hSw); go_simp; try with_reducible rfl)
      try simp only [Act.put, List.setIfInBounds_toArray, List.set_cons_zero, List.set_cons_succ]
      refine wpAnyH_take (i := 2) (oi := { dst := some 26, op := _, type := _, pos := _, after := _, guard := _ }) (v := ?vx30) rfl (by kernel_rfl) (by kernel_rfl) (by kernel_rfl) (fun _ _ _ h => h) (Or.inl ⟨by rfl, ?hyx30⟩) (by assumption) ?restx30
      case hyx30 => (intro w hSw; (try dsimp only at hSw); go_simp; try with_reducible rfl)
      try simp only [Act.put, List.setIfInBounds_toArray, List.set_cons_zero, List.set_cons_succ]
      refine wpAnyH_take (i := 3) (oi := { dst := some 27, op := _, type := _, pos := _, after := _, guard := _ }) (v := ?vx31) rfl (by kernel_rfl) (by kernel_rfl) (by kernel_rfl) (fun _ _ _ h => h) (Or.inl ⟨by rfl, ?hyx31⟩) (by assumption) ?restx31
      case hyx31 => (intro w hSw; (try dsimp only at hSw); go_simp; try with_reducible rfl)
      try simp only [Act.put, List.setIfInBounds_toArray, List.set_cons_zero, List.set_cons_succ]
      refine wpAnyH_take (i := 4) (oi := { dst := some 28, op := _, type := _, pos := _, after := _, guard := _ }) (v := ?vx32) rfl (by kernel_rfl) (by kernel_rfl) (by kernel_rfl) (fun _ _ _ h => h) (Or.inl ⟨by rfl, ?hyx32⟩) (by assumption) ?restx32
      case hyx32 => (intro w hSw; (try dsimp only at hSw); go_simp; try with_reducible rfl)
      try simp only [Act.put, List.setIfInBounds_toArray, List.set_cons_zero, List.set_cons_succ]
      refine wpAnyH_take (i := 5) (oi := { dst := some 29, op := _, type := _, pos := _, after := _, guard := _ }) (v := ?vx33) rfl (by kernel_rfl) (by kernel_rfl) (by kernel_rfl) (fun _ _ _ h => h) (Or.inl ⟨by rfl, ?hyx33⟩) (by assumption) ?restx33
      case hyx33 => (intro w hSw; (try dsimp only at hSw); go_simp; try with_reducible rfl)
      try simp only [Act.put, List.setIfInBounds_toArray, List.set_cons_zero, List.set_cons_succ]
      refine wpAnyH_take (i := 6) (oi := { dst := some 30, op := _, type := _, pos := _, after := _, guard := _ }) (v := ?vx34) rfl (by kernel_rfl) (by kernel_rfl) (by kernel_rfl) (fun _ _ _ h => h) (Or.inl ⟨by rfl, ?hyx34⟩) (by assumption) ?restx34
      case hyx34 => (intro w hSw; (try dsimp only at hSw); go_simp; try with_reducible rfl)
      try simp only [Act.put, List.setIfInBounds_toArray, List.set_cons_zero, List.set_cons_succ]
      refine wpAnyH_take (i := 7) (oi := { dst := some 31, op := _, type := _, pos := _, after := _, guard := _ }) (v := ?vx35) rfl (by kernel_rfl) (by kernel_rfl) (by kernel_rfl) (fun _ _ _ h => h) (Or.inl ⟨by rfl, ?hyx35⟩) (by assumption) ?restx35
      case hyx35 => (intro w hSw; (try dsimp only at hSw); go_simp; try with_reducible rfl)
      try simp only [Act.put, List.setIfInBounds_toArray, List.set_cons_zero, List.set_cons_succ]
      refine wpAnyH_take (i := 8) (oi := { dst := some 32, op := _, type := _, pos := _, after := _, guard := _ }) (v := ?vx36) rfl (by kernel_rfl) (by kernel_rfl) (by kernel_rfl) (fun _ _ _ h => h) (Or.inl ⟨by rfl, ?hyx36⟩) (by assumption) ?restx36
      case hyx36 => (intro w hSw; (try dsimp only at hSw); go_simp; try with_reducible rfl)
      try simp only [Act.put, List.setIfInBounds_toArray, List.set_cons_zero, List.set_cons_succ]
      refine wpAnyH_take (i := 9) (oi := { dst := some 33, op := _, type := _, pos := _, after := _, guard := _ }) (v := ?vx37) rfl (by kernel_rfl) (by kernel_rfl) (by kernel_rfl) (fun _ _ _ h => h) (Or.inl ⟨by rfl, ?hyx37⟩) (by assumption) ?restx37
      case hyx37 => (intro w hSw; (try dsimp only at hSw); go_simp; try with_reducible rfl)
      try simp only [Act.put, List.setIfInBounds_toArray, List.set_cons_zero, List.set_cons_succ]
      refine wpAnyH_ready (rs := [10]) (by kernel_rfl) (by simp) ?_
      refine AllReadyH.cons (o := { dst := some 34, op := _, type := _, pos := _, after := _, guard := _ }) rfl (fun K hK => ?_) AllReadyH.nil
      go_simp
      refine HCo.out.mono ?_
      rintro e w7 ⟨rfl, hw7⟩
      subst hw7
      refine hK.out _ _ hHeld (fun hHeld => ?_)
      clear hK K
      try simp only [Act.put, List.setIfInBounds_toArray, List.set_cons_zero, List.set_cons_succ]
      refine wpAnyH_take (i := 11) (oi := { dst := some 35, op := _, type := _, pos := _, after := _, guard := _ }) (v := ?vx38) rfl (by kernel_rfl) (by kernel_rfl) (by kernel_rfl) (fun _ _ _ h => h) (Or.inl ⟨by rfl, ?hyx38⟩) (by assumption) ?restx38
      case hyx38 => (intro w hSw; (try dsimp only at hSw); go_simp; try with_reducible rfl)
      try simp only [Act.put, List.setIfInBounds_toArray, List.set_cons_zero, List.set_cons_succ]
      refine wpAnyH_take (i := 12) (oi := { dst := some 36, op := _, type := _, pos := _, after := _, guard := _ }) (v := ?vx39) rfl (by kernel_rfl) (by kernel_rfl) (by kernel_rfl) (fun _ _ _ h => h) (Or.inl ⟨by rfl, ?hyx39⟩) (by assumption) ?restx39
      case hyx39 => (intro w hSw; (try dsimp only at hSw); go_simp; try with_reducible rfl)
      try simp only [Act.put, List.setIfInBounds_toArray, List.set_cons_zero, List.set_cons_succ]
      refine wpAnyH_ready (rs := [13]) (by kernel_rfl) (by simp) ?_
      refine AllReadyH.cons (o := { dst := some 37, op := _, type := _, pos := _, after := _, guard := _ }) rfl (fun K hK => ?_) AllReadyH.nil
      go_simp
      refine (HCY.out _).mono ?_
      rintro e w8 ⟨rfl, hb8⟩
      have hb8' : Below w6.heap.size w6 w8 := bstep (bd1 _) hb8
      have O8 : Hid (Own w.heap.size w8 (.slice av nA cv) A) := HNA.out ▸ O6.out.later hb8'
      have X8 : Hid (RQ w8 g p E r ∧ Only [g] w w8) := ⟨X6.out.1.later hb8', X6.out.2.trans (Only.of_below hb8' _)⟩
      have hs8 : w.heap.size ≤ w8.heap.size := X8.out.2.size
      have KS8 := cells3 hb8' (by omega) t0 t1 t2
      clear hb8 hb8' t0 t1 t2
      refine hK.out _ _ KS8 (fun hHeld => ?_)
      clear hK K
      try simp only [Act.put, List.setIfInBounds_toArray, List.set_cons_zero, List.set_cons_succ]
      obtain ⟨t0, t1, t2⟩ := KS8
      clear hHeld
      refine wpAnyH_done (by kernel_rfl) ?_ _
      go_wp2_with (first
        | (at_builtin; refine app_S k.text O8.out (by have := HNA.out; omega) (by omega) rfl (.tmp 38) (.tmp 40) rfl rfl rfl ?_; intro v9 w9 hO9 hB9 hN9 hs9 hw9; have O9 : Hid (Own w.heap.size w9 v9 (A ++ [k.text])) := hO9; have X9 : Hid (RQ w9 g p E r ∧ Only [g] w w9) := ⟨X8.out.1.below hB9 hgl, only_below X8.out.2 hB9 (Nat.le_refl _)⟩; clear hO9 hB9 hN9 hw9))
      refine (passed_any (q := 5) X9.out.1 (by omega)).mono ?_
      rintro e w10 (⟨k', r', rfl, hk', rfl, hq', ho'⟩ | ⟨k', r', rfl, hk', rfl, hb'⟩ | ⟨rfl, rfl, hb'⟩)
      · have R7 : Hid (go p E S (.fl l { t with srcs := A ++ [k.text] } h) r' = R) := by
          have := R6.out
          simp only [go, stp, if_pos hk'] at this; exact this
        have O10 : Hid (Own w.heap.size w10 v9 (A ++ [k.text])) := O9.out.only ho' (fun b hb hm => by have := (O9.out.lt hb).1; simp only [List.mem_singleton] at hm; omega)
        have X10 : Hid (RQ w10 g p E r' ∧ Only [g] w w10) := ⟨hq', X9.out.2.trans ho'⟩
        simp only [List.length_cons] at hlen
        clear hk' hq' ho'
        go_wp2_with fail
        go_ret
        exact .inl ⟨_, _, r', rfl, O10.out, X10.out.1, fun q hq => M4.out q (by simp [hq]), by simp only [List.length_cons]; omega, R7.out, X10.out.2⟩
      · have X10 : Hid (RQ w10 g p E (k' :: r') ∧ Only [g] w w10) := ⟨X9.out.1.later hb', X9.out.2.trans (Only.of_below hb' _)⟩
        have O10 : Hid (Own w.heap.size w10 v9 (A ++ [k.text])) := O9.out.later hb'
        have hs10 := hb'.size
        simp only [List.length_cons] at hlen
        clear hb'
        go_wp2_with fail
        refine (take_any (q := 6) X10.out.1 (by simp only [List.length_cons]; omega)).mono ?_
        rintro e w11 (⟨k'', r'', e1, hk'', rfl, hq'', ho''⟩ | ⟨z, rfl, hb, hbad⟩)
        · injection e1 with e1 e2
          subst e1 e2
          have R7 : Hid (go p E S (.it l { t with srcs := A ++ [k.text] } h wSrcs) r' = R) := by
            have := R6.out
            simp only [go, stp, if_neg hk', if_pos hk''] at this; exact this
          have O11 : Hid (Own w.heap.size w11 v9 (A ++ [k.text])) := O10.out.only ho'' (fun b hb hm => by have := (O10.out.lt hb).1; simp only [List.mem_singleton] at hm; omega)
          have X11 : Hid (RQ w11 g p E r' ∧ Only [g] w w11) := ⟨hq'', X10.out.2.trans ho''⟩
          obtain ⟨a9, c9, hv9⟩ := O11.out.frm
          have HL9 : Hid ((A ++ [k.text]).length = nA + 1) := by show (A ++ [k.text]).length = nA + 1; rw [List.length_append, HNA.out]; rfl
          rw [HL9.out] at hv9
          subst hv9
          unfold Tk.val
          clear hk' hk'' hq'' ho''
          go_wp2_with fail
          go_roundw
          case rel => exact ⟨_, r', by rw [HL9.out]; omega, O11.out, X11.out.1, X11.out.2, R7.out, fun q hq => M4.out q (by simp [hq]), by simp only [List.length_cons]; omega⟩
          case measure => (have := HNA.out; simp [slen]; omega)
        · refine ⟨rfl, .inr ⟨z, rfl, ?_, X10.out.2.trans (Only.of_below hb _)⟩⟩
          rcases hbad with ⟨e1, _⟩ | ⟨k'', r'', e1, hk'', rfl⟩
          · cases e1
          · injection e1 with e1 e2
            subst e1 e2
            rw [← R6.out]
            simp only [go, stp, if_neg hk', if_neg hk'']
      · exact ⟨rfl, .inr ⟨_, rfl, by rw [← R6.out]; rfl, X9.out.2.trans (Only.of_below hb' _)⟩⟩
end Go.Proofs.YtddaoloabfkheaaGreatDoor
