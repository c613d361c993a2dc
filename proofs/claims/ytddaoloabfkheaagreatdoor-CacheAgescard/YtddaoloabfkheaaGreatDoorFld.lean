/-
  A target's fields.
-/
import Derived.Test.YtddaoloabfkheaaGreatDoorFldP
namespace Go.Proofs.YtddaoloabfkheaaGreatDoor
open Go.RowKit

theorem c_srcs : (ByteArray.mk #[115, 114, 99, 115]).toList = wSrcs := ByteArray.toList_mk wSrcs
theorem c_deps : (ByteArray.mk #[100, 101, 112, 115]).toList = wDeps := ByteArray.toList_mk wDeps
theorem c_see : (ByteArray.mk #[115, 101, 101]).toList = wSee := ByteArray.toList_mk wSee
/-- the fields are read through, or it is given up -/
def LsF (w : World) (g gT : Nat) (p : List UInt8) (E S : Int) (L : List Tk) (l : List Tg) (R : List Tg × Int) (e : Ending) (w' : World) : Prop :=
  (∃ tv t L', e = .returned (.tuple #[]) ∧ TB w' gT tv ∧ TOwn w.heap.size w' tv t ∧ RQ w' g p E L' ∧ (∀ k ∈ L', k ∈ L) ∧ L'.length < L.length ∧ go p E S (.top (l ++ [t])) L' = R ∧ Only [g, gT] w w') ∨
  (∃ z, e = flt z ∧ R = ([], z) ∧ Only [g, gT] w w')
set_option maxRecDepth 100000 in
set_option maxHeartbeats 16000000 in
theorem fields_any {w : World} {g gT : Nat} {p : List UInt8} {E S : Int} {L : List Tk} {l : List Tg} {n : List UInt8} {R : List Tg × Int} (hq : RQ w g p E L) (hTB : TB w gT ⟨n, none, 0, 0, none, 0, 0, none, 0, 0⟩) (hT : ∀ k ∈ L, TkOk k) (hL : L.length ≤ 5000) (hR : go p E S (.fl l ⟨n, [], [], []⟩ []) L = R) (hE : Ev w) (hg : 4 ≤ g) (hgT : g < gT) (hp : p.length ≤ 120) :
    Calls Tryz.prog 131 #[.pointer (some ⟨g, 0, none⟩), .pointer (some ⟨gT, 0, none⟩)] w (LsF w g gT p E S L l R) := by
  have hmf : ∀ (fn : Fn) (first cap : Array Value) (w : World), (Instr.makeFunc fn first cap).run Tryz.prog w = .ok (.func fn first cap) w := fun _ _ _ _ => rfl
  have HT : Hid (∀ k ∈ L, TkOk k) := hT
  have HE : Hid (Ev w) := hE
  have HR : Hid (go p E S (.fl l ⟨n, [], [], []⟩ []) L = R) := hR
  have hgTw := hTB.lt
  have F0 : Hid (FI w g gT p E (.slice none 0 0) [] ⟨n, none, 0, 0, none, 0, 0, none, 0, 0⟩ ⟨n, [], [], []⟩ L w) :=
    ⟨Own.nil _ _, hTB, ⟨rfl, Own.nil _ _, OwnL.nil _ _, Own.nil _ _, fun k hk => by simp [Tv.s, Value.ownBlock] at hk, fun k hk => by simp [Tv.s, Value.ownBlock] at hk, fun k hk => by simp [Tv.d, Value.ownBlock] at hk⟩, hq, Only.refl _ _, fun u hu k hk => by simp [Value.ownBlock] at hk⟩
  clear hT hE hR hq hTB
  go_enter Tryz.func131, Tryz.ntmps131
  go_wp2_with fail
  go_loopw [4] (fun v wr => ∃ (H : List (List UInt8)) (tv : Tv) (t : Tg) (Lr : List Tk), FI w g gT p E v H tv t Lr wr ∧ go p E S (.fl l t H) Lr = R ∧ (∀ k ∈ Lr, k ∈ L) ∧ Lr.length ≤ L.length ∧ Hd H t) (fun v _ => 4 - slen v)
  case atStart => exact ⟨[], _, _, L, F0.out, HR.out, fun k hk => hk, Nat.le_refl _, ⟨rfl, fun _ => rfl, fun _ => rfl, fun _ => rfl⟩⟩
  case round =>
    obtain ⟨H, tv, t, Lr, hF, hRr, hmem, hlen, hHd⟩ := hrel
    clear F0 HR
    have F4 : Hid (FI w g gT p E u4 H tv t Lr wr) := hF
    have R4 : Hid (go p E S (.fl l t H) Lr = R) := hRr
    have M4 : Hid (∀ k ∈ Lr, k ∈ L) := hmem
    have HH : Hid (Hd H t) := hHd
    have hsr : w.heap.size ≤ wr.heap.size := hF.only.size
    clear hF hRr hmem hHd
    go_wp2_with fail
    refine (passed_any (q := 3) F4.out.q (by omega)).mono ?_
    rintro e w5 (⟨k, r, rfl, hk, rfl, hq5, ho5⟩ | ⟨k, r, rfl, hk, rfl, hb5⟩ | ⟨rfl, rfl, hb5⟩)
    rotate_left
    rotate_left
    · exact ⟨rfl, .inr ⟨_, rfl, by rw [← R4.out]; rfl, F4.out.only.trans (Only.of_below hb5 _)⟩⟩
    · have R5 : Hid (go p E S (.top (l ++ [t])) r = R) := by
        have := R4.out
        simp only [go, stp, if_pos hk] at this; exact this
      have F5 : Hid (FI w g gT p E u4 H tv t r w5) := F4.out.tok ho5 hq5 (by omega) (by omega)
      simp only [List.length_cons] at hlen
      clear hk hq5 ho5 R4
      go_wp2_with fail
      exact ⟨rfl, _, results_none rfl _ _ _, .inl ⟨tv, t, r, rfl, F5.out.b, F5.out.o, F5.out.q, fun q hq => M4.out q (by simp [hq]), by omega, R5.out, F5.out.only⟩⟩
    have F5 : Hid (FI w g gT p E u4 H tv t (k :: r) w5) := F4.out.later hb5
    have hs5 : wr.heap.size ≤ w5.heap.size := hb5.size
    have HK3 : Hid (k.kind ≠ 3) := hk
    clear hk hb5 F4
    go_wp2_with fail
    refine (take_any (q := 1) F5.out.q (by omega)).mono ?_
    rintro e w6 (⟨k', r', e1, hk1, rfl, hq6, ho6⟩ | ⟨z, rfl, hb, hbad⟩)
    rotate_left
    · refine ⟨rfl, .inr ⟨z, rfl, ?_, F5.out.only.trans (Only.of_below hb _)⟩⟩
      rcases hbad with ⟨e1, _⟩ | ⟨k'', r'', e1, hk'', rfl⟩
      · cases e1
      · injection e1 with e1 e2
        subst e1 e2
        rw [← R4.out]
        have : ¬ (k.kind = 1 ∧ H.contains k.text = false ∧ isF k.text = true) := fun h => hk'' h.1
        simp only [go, stp, if_neg HK3.out, if_neg this]
    injection e1 with e1 e2
    subst e1 e2
    have hk0 : TkOk k := HT.out k (M4.out k (by simp))
    have F6 : Hid (FI w g gT p E u4 H tv t r w6) := F5.out.tok ho6 hq6 (by omega) (by omega)
    have hs6 : w5.heap.size ≤ w6.heap.size := ho6.size
    have R5 : Hid ((if H.contains k.text = false ∧ isF k.text = true then go p E S (.eq l t (H ++ [k.text]) k.text) r else ([], k.at')) = R) := by
      show (if H.contains k.text = false ∧ isF k.text = true then go p E S (.eq l t (H ++ [k.text]) k.text) r else ([], k.at')) = R
      have := R4.out
      simp only [go, stp, if_neg HK3.out] at this
      rw [← this]
      by_cases hc : H.contains k.text = false ∧ isF k.text = true
      · rw [if_pos hc, if_pos ⟨hk1, hc.1, hc.2⟩]
      · rw [if_neg hc, if_neg (fun h => hc h.2)]
    simp only [List.length_cons] at hlen
    unfold Tk.val
    obtain ⟨gt, hgt⟩ : ∃ gt, w6.heap.size = gt := ⟨_, rfl⟩
    obtain ⟨wa, hwa⟩ : ∃ wa, w6.alloc (.cells #[.int .i64 k.kind, .string (bs k.text), .int .i64 k.at'] 188) = wa := ⟨_, rfl⟩
    have hba : Below w6.heap.size w6 wa := by rw [← hwa]; exact balloc _ _
    have hsa : gt + 1 = wa.heap.size := by rw [← hwa, ← hgt]; simp
    have Fa : Hid (FI w g gT p E u4 H tv t r wa) := F6.out.later hba
    have t0 : wa.cell? ⟨gt, 0, none⟩ = some (.int .i64 k.kind) := by rw [← hwa, ← hgt]; simp
    have t1 : wa.cell? ⟨gt, 1, none⟩ = some (.string (bs k.text)) := by rw [← hwa, ← hgt]; simp
    have t2 : wa.cell? ⟨gt, 2, none⟩ = some (.int .i64 k.at') := by rw [← hwa, ← hgt]; simp
    have HW : Hid (w6.alloc (.cells #[.int .i64 k.kind, .string (bs k.text), .int .i64 k.at'] 188) = wa ∧ w6.heap.size = gt) := ⟨hwa, hgt⟩
    have HCN : Hid (∀ W : World, Calls Tryz.prog 129 #[.agg #[.int .i64 k.kind, .string (bs k.text), .int .i64 k.at'], .bool false] W fun e w' => e = flt k.at' ∧ Below W.heap.size W w') := fun W => check_no k W
    have HCY : Hid (∀ W : World, Calls Tryz.prog 129 #[.agg #[.int .i64 k.kind, .string (bs k.text), .int .i64 k.at'], .bool true] W fun e w' => e = .returned (.tuple #[]) ∧ Below W.heap.size W w') := fun W => check_ok k W
    obtain ⟨ah0, ch0, hvh0⟩ := Fa.out.h.frm
    obtain ⟨nH, hnH⟩ : ∃ nH, H.length = nH := ⟨_, rfl⟩
    have HNH : Hid (H.length = nH) := hnH
    rw [hnH] at hvh0
    subst hvh0
    have hnH3 : nH ≤ 3 := by rw [← hnH, HH.out.len]; exact cnt_le H
    have HCo : Hid (Calls Tryz.prog 149 #[.slice ah0 nH ch0, .string (bs k.text)] wa.drew fun e w' => e = .returned (.bool (H.contains k.text)) ∧ w' = wa.drew) := containsS_any (own_ss (Fa.out.later (bd1 _)).h) k.text (by rw [hnH]; omega)
    have hgs : w6.heap.size ≤ gt := by omega
    have HV : Hid (∀ j, (Value.slice ah0 nH ch0).ownBlock = some j → j < gt) := fun j hj => by have := (F6.out.h.lt hj).2; omega
    clear hq6 ho6 hwa hba hk1 F5 F6 R4 hgt hnH
    go_wp2_with fail
    rw [HW.out.1, HW.out.2]
    cases hC : H.contains k.text
    rotate_left
    · obtain rfl : ([], k.at') = R := by have := R5.out; rw [hC] at this; simpa using this
      rw [hC] at HCo
      clear hC R5
      go_wp2_with fail
      refine wp_region_held_drew (S := fun w' => w'.cell? ⟨gt, 0, none⟩ = some (.int .i64 k.kind) ∧ w'.cell? ⟨gt, 1, none⟩ = some (.string (bs k.text)) ∧ w'.cell? ⟨gt, 2, none⟩ = some (.int .i64 k.at')) (by kernel_rfl) ⟨t0, t1, t2⟩ (fun hHeld => ?_)
      refine wpAnyH_take (i := 0) (oi := { dst := some 11, op := _, type := _, pos := _, after := _, guard := _ }) (v := ?vx1) rfl (by kernel_rfl) (by kernel_rfl) (by kernel_rfl) (fun _ _ _ h => h) (Or.inl ⟨by rfl, ?hyx1⟩) (by assumption) ?restx1
      case hyx1 => (intro w hSw; (try dsimp only at hSw); go_simp; try with_reducible rfl)
      try simp only [Act.put, List.setIfInBounds_toArray, List.set_cons_zero, List.set_cons_succ]
      refine wpAnyH_take (i := 1) (oi := { dst := some 12, op := _, type := _, pos := _, after := _, guard := _ }) (v := ?vx2) rfl (by kernel_rfl) (by kernel_rfl) (by kernel_rfl) (fun _ _ _ h => h) (Or.inl ⟨by rfl, ?hyx2⟩) (by assumption) ?restx2
      case hyx2 => (intro w hSw; (try dsimp only at hSw); go_simp; try with_reducible rfl)
      try simp only [Act.put, List.setIfInBounds_toArray, List.set_cons_zero, List.set_cons_succ]
      refine wpAnyH_take (i := 2) (oi := { dst := some 13, op := _, type := _, pos := _, after := _, guard := _ }) (v := ?vx3) rfl (by kernel_rfl) (by kernel_rfl) (by kernel_rfl) (fun _ _ _ h => h) (Or.inl ⟨by rfl, ?hyx3⟩) (by assumption) ?restx3
      case hyx3 => (intro w hSw; (try dsimp only at hSw); go_simp; try with_reducible rfl)
      try simp only [Act.put, List.setIfInBounds_toArray, List.set_cons_zero, List.set_cons_succ]
      refine wpAnyH_take (i := 3) (oi := { dst := some 14, op := _, type := _, pos := _, after := _, guard := _ }) (v := ?vx4) rfl (by kernel_rfl) (by kernel_rfl) (by kernel_rfl) (fun _ _ _ h => h) (Or.inl ⟨by rfl, ?hyx4⟩) (by assumption) ?restx4
      case hyx4 => (intro w hSw; (try dsimp only at hSw); go_simp; try with_reducible rfl)
      try simp only [Act.put, List.setIfInBounds_toArray, List.set_cons_zero, List.set_cons_succ]
      refine wpAnyH_ready (rs := [4]) (by kernel_rfl) (by simp) ?_
      refine AllReadyH.cons (o := { dst := some 15, op := _, type := _, pos := _, after := _, guard := _ }) rfl (fun K hK => ?_) AllReadyH.nil
      go_simp
      refine HCo.out.mono ?_
      rintro e w7 ⟨rfl, hw7⟩
      subst hw7
      refine hK.out _ _ hHeld (fun hHeld => ?_)
      clear hK K
      try simp only [Act.put, List.setIfInBounds_toArray, List.set_cons_zero, List.set_cons_succ]
      refine wpAnyH_take (i := 5) (oi := { dst := some 16, op := _, type := _, pos := _, after := _, guard := _ }) (v := ?vx5) rfl (by kernel_rfl) (by kernel_rfl) (by kernel_rfl) (fun _ _ _ h => h) (Or.inl ⟨by rfl, ?hyx5⟩) (by assumption) ?restx5
      case hyx5 => (intro w hSw; (try dsimp only at hSw); go_simp; try with_reducible rfl)
      try simp only [Act.put, List.setIfInBounds_toArray, List.set_cons_zero, List.set_cons_succ]
      refine wpAnyH_ready (rs := [6]) (by kernel_rfl) (by simp) ?_
      refine AllReadyH.cons (o := { dst := some 17, op := _, type := _, pos := _, after := _, guard := _ }) rfl (fun K hK => ?_) AllReadyH.nil
      go_simp
      refine (HCN.out _).mono ?_
      rintro e w8 ⟨rfl, hb8⟩
      exact ⟨rfl, .inr ⟨_, rfl, rfl, Fa.out.only.trans (Only.of_below (bstep (bd1 _) hb8) _)⟩⟩
    · have HNo : Hid (H.contains k.text = false) := hC
      rw [hC] at HCo R5
      clear hC
      go_wp2_with fail
      refine wp_region_held_drew (S := fun w' => w'.cell? ⟨gt, 0, none⟩ = some (.int .i64 k.kind) ∧ w'.cell? ⟨gt, 1, none⟩ = some (.string (bs k.text)) ∧ w'.cell? ⟨gt, 2, none⟩ = some (.int .i64 k.at')) (by kernel_rfl) ⟨t0, t1, t2⟩ (fun hHeld => ?_)
      refine wpAnyH_take (i := 0) (oi := { dst := some 11, op := _, type := _, pos := _, after := _, guard := _ }) (v := ?vx6) rfl (by kernel_rfl) (by kernel_rfl) (by kernel_rfl) (fun _ _ _ h => h) (Or.inl ⟨by rfl, ?hyx6⟩) (by assumption) ?restx6
      case hyx6 => (intro w hSw; (try dsimp only at hSw); go_simp; try with_reducible rfl)
      try simp only [Act.put, List.setIfInBounds_toArray, List.set_cons_zero, List.set_cons_succ]
      refine wpAnyH_take (i := 1) (oi := { dst := some 12, op := _, type := _, pos := _, after := _, guard := _ }) (v := ?vx7) rfl (by kernel_rfl) (by kernel_rfl) (by kernel_rfl) (fun _ _ _ h => h) (Or.inl ⟨by rfl, ?hyx7⟩) (by assumption) ?restx7
      case hyx7 => (intro w hSw; (try dsimp only at hSw); go_simp; try with_reducible rfl)
      try simp only [Act.put, List.setIfInBounds_toArray, List.set_cons_zero, List.set_cons_succ]
      refine wpAnyH_take (i := 2) (oi := { dst := some 13, op := _, type := _, pos := _, after := _, guard := _ }) (v := ?vx8) rfl (by kernel_rfl) (by kernel_rfl) (by kernel_rfl) (fun _ _ _ h => h) (Or.inl ⟨by rfl, ?hyx8⟩) (by assumption) ?restx8
      case hyx8 => (intro w hSw; (try dsimp only at hSw); go_simp; try with_reducible rfl)
      try simp only [Act.put, List.setIfInBounds_toArray, List.set_cons_zero, List.set_cons_succ]
      refine wpAnyH_take (i := 3) (oi := { dst := some 14, op := _, type := _, pos := _, after := _, guard := _ }) (v := ?vx9) rfl (by kernel_rfl) (by kernel_rfl) (by kernel_rfl) (fun _ _ _ h => h) (Or.inl ⟨by rfl, ?hyx9⟩) (by assumption) ?restx9
      case hyx9 => (intro w hSw; (try dsimp only at hSw); go_simp; try with_reducible rfl)
      try simp only [Act.put, List.setIfInBounds_toArray, List.set_cons_zero, List.set_cons_succ]
      refine wpAnyH_ready (rs := [4]) (by kernel_rfl) (by simp) ?_
      refine AllReadyH.cons (o := { dst := some 15, op := _, type := _, pos := _, after := _, guard := _ }) rfl (fun K hK => ?_) AllReadyH.nil
      go_simp
      refine HCo.out.mono ?_
      rintro e w7 ⟨rfl, hw7⟩
      subst hw7
      refine hK.out _ _ hHeld (fun hHeld => ?_)
      clear hK K
      try simp only [Act.put, List.setIfInBounds_toArray, List.set_cons_zero, List.set_cons_succ]
      refine wpAnyH_take (i := 5) (oi := { dst := some 16, op := _, type := _, pos := _, after := _, guard := _ }) (v := ?vx10) rfl (by kernel_rfl) (by kernel_rfl) (by kernel_rfl) (fun _ _ _ h => h) (Or.inl ⟨by rfl, ?hyx10⟩) (by assumption) ?restx10
      case hyx10 => (intro w hSw; (try dsimp only at hSw); go_simp; try with_reducible rfl)
      try simp only [Act.put, List.setIfInBounds_toArray, List.set_cons_zero, List.set_cons_succ]
      refine wpAnyH_ready (rs := [6]) (by kernel_rfl) (by simp) ?_
      refine AllReadyH.cons (o := { dst := some 17, op := _, type := _, pos := _, after := _, guard := _ }) rfl (fun K hK => ?_) AllReadyH.nil
      go_simp
      refine (HCY.out _).mono ?_
      rintro e w8 ⟨rfl, hb8⟩
      have hb8' : Below wa.heap.size wa w8 := bstep (bd1 _) hb8
      have F8 : Hid (FI w g gT p E (.slice ah0 nH ch0) H tv t r w8) := Fa.out.later hb8'
      have hs8 : wa.heap.size ≤ w8.heap.size := hb8'.size
      have KS8 := cells3 hb8' (by omega) t0 t1 t2
      clear hb8 hb8' t0 t1 t2
      refine hK.out _ _ KS8 (fun hHeld => ?_)
      clear hK K
      try simp only [Act.put, List.setIfInBounds_toArray, List.set_cons_zero, List.set_cons_succ]
      obtain ⟨t0, t1, t2⟩ := KS8
      clear hHeld
      refine wpAnyH_done (by kernel_rfl) ?_ _
      have x1 := bs_toList k.text
      have x2 := c_srcs
      have x3 := c_deps
      have x4 := c_see
      have HO8 : Hid (Own w.heap.size w8 (.slice ah0 nH ch0) H) := F8.out.h
      have hgt8 : gt < w8.heap.size := by omega
      have T8 : Hid (w8.cell? ⟨gt, 0, none⟩ = some (.int .i64 k.kind) ∧ w8.cell? ⟨gt, 1, none⟩ = some (.string (bs k.text)) ∧ w8.cell? ⟨gt, 2, none⟩ = some (.int .i64 k.at')) := ⟨t0, t1, t2⟩
      by_cases hw : k.text = wSrcs
      · have q1 : (k.text == wSrcs) = true := by rw [hw]; decide
        have R6 : Hid (go p E S (.eq l t (H ++ [k.text]) k.text) r = R) := by
          have := R5.out
          rw [if_pos ⟨by simp, by rw [hw]; decide⟩] at this; exact this
        have HWd : Hid (k.text = wSrcs) := hw
        clear R5 hw
        go_wp2_with (first
          | (at_builtin; refine app_S k.text HO8.out (by have := HNH.out; omega) (by omega) rfl (.tmp 18) (.tmp 21) rfl rfl rfl ?_; intro v9 w9 hO9 hB9 hN9 hs9 hw9; have F9 : Hid (FI w g gT p E v9 (H ++ [k.text]) tv t r w9) := F8.out.had hO9 hB9 hN9 hw9 (by omega) hgTw; have hnot : gt ∉ (Value.slice ah0 nH ch0).ownBlock.toList := (fun hm => by rw [Option.mem_toList] at hm; have := HV.out gt hm; omega); have t0 := (only_cell (p := ⟨gt, 0, none⟩) hN9 hgt8 hnot).trans T8.out.1; have t1 := (only_cell (p := ⟨gt, 1, none⟩) hN9 hgt8 hnot).trans T8.out.2.1; have t2 := (only_cell (p := ⟨gt, 2, none⟩) hN9 hgt8 hnot).trans T8.out.2.2; clear hO9 hB9 hN9 hw9 hnot))
        have hw := HWd.out
        rw [hw] at F9 R6 HNo
        have hno : H.contains wSrcs = false := HNo.out
        have HLs : Hid (Calls Tryz.prog 150 #[.pointer (some ⟨g, 0, none⟩), .func (.func 151) #[.pointer (some ⟨g, 0, none⟩)] #[]] w9 (LsS w9 g p E S r l t (H ++ [wSrcs]) R)) := listS_any F9.out.q (fun q hq => HT.out q (M4.out q (by simp [hq]))) (by omega) (HH.out.s hno) R6.out (HE.out.only F9.out.only (by simp; omega)) hg hp
        clear R6
        refine HLs.out.mono ?_
        rintro e w10 (⟨v, A, L', rfl, hA, hq10, hm10, hl10, hR10, ho10⟩ | ⟨z, rfl, hz, ho10⟩)
        rotate_left
        · exact ⟨rfl, .inr ⟨z, rfl, hz, F9.out.only.trans (ho10.mono (by simp))⟩⟩
        obtain ⟨a9, c9, hv9⟩ := hA.frm
        obtain ⟨n9, hn9⟩ : ∃ n9, A.length = n9 := ⟨_, rfl⟩
        rw [hn9] at hv9
        subst hv9
        have F10 : Hid (FI w g gT p E v9 (H ++ [wSrcs]) { tv with sa := a9, sn := n9, sc := c9 } { t with srcs := A } L' (w10.setCell ⟨gT, 1, none⟩ (.slice a9 n9 c9))) := F9.out.setS ho10 hq10 hgT hgTw hA
        have R10 : Hid (go p E S (.fl l { t with srcs := A } (H ++ [wSrcs])) L' = R) := hR10
        have M10 : Hid (∀ q ∈ L', q ∈ L) := fun q hq => M4.out q (by simp [hm10 q hq])
        have HH10 : Hid (Hd (H ++ [wSrcs]) { t with srcs := A }) := HH.out.addS hno A
        have hl10' : L'.length < L.length := by omega
        obtain ⟨cz1, cz2, cz3, cz4, fz1, fz2, fz3⟩ := (F9.out.b.only ho10 (by simp; omega)).cells
        obtain ⟨ah, ch, hvh⟩ := F10.out.h.frm
        have HLn : Hid ((H ++ [wSrcs]).length = nH + 1) := by show (H ++ [wSrcs]).length = nH + 1; rw [List.length_append, HNH.out]; rfl
        rw [HLn.out] at hvh
        subst hvh
        clear hA hq10 hm10 hl10 hR10 ho10 hn9 F9 HLs hno
        go_wp2_with fail
        go_roundw
        case rel => exact ⟨_, _, _, L', F10.out, R10.out, M10.out, by omega, HH10.out⟩
        case measure => (have := HNH.out; have := cnt_le (H ++ [wSrcs]); have := HH10.out.len; have := HLn.out; simp [slen]; omega)
      by_cases hw2 : k.text = wDeps
      · have q1 : (k.text == wSrcs) = false := by simpa using hw
        have q2 : (k.text == wDeps) = true := by rw [hw2]; decide
        have R6 : Hid (go p E S (.eq l t (H ++ [k.text]) k.text) r = R) := by
          have := R5.out
          rw [if_pos ⟨by simp, by rw [hw2]; decide⟩] at this; exact this
        have HWd : Hid (k.text = wDeps) := hw2
        clear R5 hw hw2
        go_wp2_with (first
          | (at_builtin; refine app_S k.text HO8.out (by have := HNH.out; omega) (by omega) rfl (.tmp 18) (.tmp 21) rfl rfl rfl ?_; intro v9 w9 hO9 hB9 hN9 hs9 hw9; have F9 : Hid (FI w g gT p E v9 (H ++ [k.text]) tv t r w9) := F8.out.had hO9 hB9 hN9 hw9 (by omega) hgTw; have hnot : gt ∉ (Value.slice ah0 nH ch0).ownBlock.toList := (fun hm => by rw [Option.mem_toList] at hm; have := HV.out gt hm; omega); have t0 := (only_cell (p := ⟨gt, 0, none⟩) hN9 hgt8 hnot).trans T8.out.1; have t1 := (only_cell (p := ⟨gt, 1, none⟩) hN9 hgt8 hnot).trans T8.out.2.1; have t2 := (only_cell (p := ⟨gt, 2, none⟩) hN9 hgt8 hnot).trans T8.out.2.2; clear hO9 hB9 hN9 hw9 hnot))
        have hw := HWd.out
        rw [hw] at F9 R6 HNo
        have hno : H.contains wDeps = false := HNo.out
        have HLs : Hid (Calls Tryz.prog 152 #[.pointer (some ⟨g, 0, none⟩), .func (.func 153) #[.pointer (some ⟨g, 0, none⟩)] #[]] w9 (LsD w9 g p E S r l t (H ++ [wDeps]) R)) := listD_any F9.out.q (fun q hq => HT.out q (M4.out q (by simp [hq]))) (by omega) (HH.out.d hno) R6.out (HE.out.only F9.out.only (by simp; omega)) hg hp
        clear R6
        refine HLs.out.mono ?_
        rintro e w10 (⟨v, A, L', rfl, hA, hq10, hm10, hl10, hR10, ho10⟩ | ⟨z, rfl, hz, ho10⟩)
        rotate_left
        · exact ⟨rfl, .inr ⟨z, rfl, hz, F9.out.only.trans (ho10.mono (by simp))⟩⟩
        obtain ⟨a9, c9, hv9⟩ := hA.frm
        obtain ⟨n9, hn9⟩ : ∃ n9, A.length = n9 := ⟨_, rfl⟩
        rw [hn9] at hv9
        subst hv9
        have F10 : Hid (FI w g gT p E v9 (H ++ [wDeps]) { tv with da := a9, dn := n9, dc := c9 } { t with deps := A } L' (w10.setCell ⟨gT, 2, none⟩ (.slice a9 n9 c9))) := F9.out.setD ho10 hq10 hgT hgTw hA
        have R10 : Hid (go p E S (.fl l { t with deps := A } (H ++ [wDeps])) L' = R) := hR10
        have M10 : Hid (∀ q ∈ L', q ∈ L) := fun q hq => M4.out q (by simp [hm10 q hq])
        have HH10 : Hid (Hd (H ++ [wDeps]) { t with deps := A }) := HH.out.addD hno A
        have hl10' : L'.length < L.length := by omega
        obtain ⟨cz1, cz2, cz3, cz4, fz1, fz2, fz3⟩ := (F9.out.b.only ho10 (by simp; omega)).cells
        obtain ⟨ah, ch, hvh⟩ := F10.out.h.frm
        have HLn : Hid ((H ++ [wDeps]).length = nH + 1) := by show (H ++ [wDeps]).length = nH + 1; rw [List.length_append, HNH.out]; rfl
        rw [HLn.out] at hvh
        subst hvh
        clear hA hq10 hm10 hl10 hR10 ho10 hn9 F9 HLs hno
        go_wp2_with fail
        go_roundw
        case rel => exact ⟨_, _, _, L', F10.out, R10.out, M10.out, by omega, HH10.out⟩
        case measure => (have := HNH.out; have := cnt_le (H ++ [wDeps]); have := HH10.out.len; have := HLn.out; simp [slen]; omega)
      by_cases hw3 : k.text = wSee
      · have q1 : (k.text == wSrcs) = false := by simpa using hw
        have q2 : (k.text == wDeps) = false := by simpa using hw2
        have q3 : (k.text == wSee) = true := by rw [hw3]; decide
        have R6 : Hid (go p E S (.eq l t (H ++ [k.text]) k.text) r = R) := by
          have := R5.out
          rw [if_pos ⟨by simp, by rw [hw3]; decide⟩] at this; exact this
        have HWd : Hid (k.text = wSee) := hw3
        clear R5 hw hw2 hw3
        go_wp2_with (first
          | (at_builtin; refine app_S k.text HO8.out (by have := HNH.out; omega) (by omega) rfl (.tmp 18) (.tmp 21) rfl rfl rfl ?_; intro v9 w9 hO9 hB9 hN9 hs9 hw9; have F9 : Hid (FI w g gT p E v9 (H ++ [k.text]) tv t r w9) := F8.out.had hO9 hB9 hN9 hw9 (by omega) hgTw; have hnot : gt ∉ (Value.slice ah0 nH ch0).ownBlock.toList := (fun hm => by rw [Option.mem_toList] at hm; have := HV.out gt hm; omega); have t0 := (only_cell (p := ⟨gt, 0, none⟩) hN9 hgt8 hnot).trans T8.out.1; have t1 := (only_cell (p := ⟨gt, 1, none⟩) hN9 hgt8 hnot).trans T8.out.2.1; have t2 := (only_cell (p := ⟨gt, 2, none⟩) hN9 hgt8 hnot).trans T8.out.2.2; clear hO9 hB9 hN9 hw9 hnot))
        have hw := HWd.out
        rw [hw] at F9 R6 HNo
        have hno : H.contains wSee = false := HNo.out
        have HLs : Hid (Calls Tryz.prog 150 #[.pointer (some ⟨g, 0, none⟩), .func (.func 154) #[] #[]] w9 (LsE w9 g p E S r l t (H ++ [wSee]) R)) := listE_any F9.out.q (fun q hq => HT.out q (M4.out q (by simp [hq]))) (by omega) (HH.out.e hno) R6.out (HE.out.only F9.out.only (by simp; omega)) hg hp
        clear R6
        refine HLs.out.mono ?_
        rintro e w10 (⟨v, A, L', rfl, hA, hq10, hm10, hl10, hR10, ho10⟩ | ⟨z, rfl, hz, ho10⟩)
        rotate_left
        · exact ⟨rfl, .inr ⟨z, rfl, hz, F9.out.only.trans (ho10.mono (by simp))⟩⟩
        obtain ⟨a9, c9, hv9⟩ := hA.frm
        obtain ⟨n9, hn9⟩ : ∃ n9, A.length = n9 := ⟨_, rfl⟩
        rw [hn9] at hv9
        subst hv9
        have F10 : Hid (FI w g gT p E v9 (H ++ [wSee]) { tv with ea := a9, en := n9, ec := c9 } { t with see := A } L' (w10.setCell ⟨gT, 3, none⟩ (.slice a9 n9 c9))) := F9.out.setE ho10 hq10 hgT hgTw hA
        have R10 : Hid (go p E S (.fl l { t with see := A } (H ++ [wSee])) L' = R) := hR10
        have M10 : Hid (∀ q ∈ L', q ∈ L) := fun q hq => M4.out q (by simp [hm10 q hq])
        have HH10 : Hid (Hd (H ++ [wSee]) { t with see := A }) := HH.out.addE hno A
        have hl10' : L'.length < L.length := by omega
        obtain ⟨cz1, cz2, cz3, cz4, fz1, fz2, fz3⟩ := (F9.out.b.only ho10 (by simp; omega)).cells
        obtain ⟨ah, ch, hvh⟩ := F10.out.h.frm
        have HLn : Hid ((H ++ [wSee]).length = nH + 1) := by show (H ++ [wSee]).length = nH + 1; rw [List.length_append, HNH.out]; rfl
        rw [HLn.out] at hvh
        subst hvh
        clear hA hq10 hm10 hl10 hR10 ho10 hn9 F9 HLs hno
        go_wp2_with fail
        go_roundw
        case rel => exact ⟨_, _, _, L', F10.out, R10.out, M10.out, by omega, HH10.out⟩
        case measure => (have := HNH.out; have := cnt_le (H ++ [wSee]); have := HH10.out.len; have := HLn.out; simp [slen]; omega)
      · have q1 : (k.text == wSrcs) = false := by simpa using hw
        have q2 : (k.text == wDeps) = false := by simpa using hw2
        have q3 : (k.text == wSee) = false := by simpa using hw3
        obtain rfl : ([], k.at') = R := by
          have := R5.out
          rw [if_neg (fun h => by have := h.2; simp [isF, hw, hw2, hw3] at this)] at this; exact this
        clear R5 hw hw2 hw3
        go_wp2_with (first
          | (at_builtin; refine app_S k.text HO8.out (by have := HNH.out; omega) (by omega) rfl (.tmp 18) (.tmp 21) rfl rfl rfl ?_; intro v9 w9 hO9 hB9 hN9 hs9 hw9; have F9 : Hid (FI w g gT p E v9 (H ++ [k.text]) tv t r w9) := F8.out.had hO9 hB9 hN9 hw9 (by omega) hgTw; have hnot : gt ∉ (Value.slice ah0 nH ch0).ownBlock.toList := (fun hm => by rw [Option.mem_toList] at hm; have := HV.out gt hm; omega); have t0 := (only_cell (p := ⟨gt, 0, none⟩) hN9 hgt8 hnot).trans T8.out.1; have t1 := (only_cell (p := ⟨gt, 1, none⟩) hN9 hgt8 hnot).trans T8.out.2.1; have t2 := (only_cell (p := ⟨gt, 2, none⟩) hN9 hgt8 hnot).trans T8.out.2.2; clear hO9 hB9 hN9 hw9 hnot))
        refine (HCN.out _).mono ?_
        rintro e w10 ⟨rfl, hb10⟩
        exact ⟨rfl, .inr ⟨_, rfl, rfl, F9.out.only.trans (Only.of_below hb10 _)⟩⟩
end Go.Proofs.YtddaoloabfkheaaGreatDoor
