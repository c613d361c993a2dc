/-
  The law's does: Append.
-/
import Derived.Test.YtlkkmcibjhoneaaGreatDoorEb
namespace Go.Proofs.YtlkkmcibjhoneaaGreatDoor
open Go.RowKit
attribute [local go_sem] Oper.semAt_some

theorem BS.stay2 {w w' : World} {v : Value} {l : List UInt8} (h : BS w v l) (hs : l ≠ [] → ∀ k, v.ownBlock = some k → w'.heap[k]? = w.heap[k]?) : BS w' v l := by
  by_cases h0 : l = []
  · subst h0
    rcases h with h | ⟨b, off, cap, rfl, _⟩
    · exact .inl h
    · exact .inl ⟨⟨_, _, rfl⟩, rfl⟩
  · rcases h with h | ⟨b, off, cap, rfl, hc, hlt, hcell⟩
    · exact .inl h
    · have e := hs h0 b rfl
      refine .inr ⟨b, off, cap, rfl, hc, ?_, fun i u hu => (cell_stay e _).trans (hcell i u hu)⟩
      have : w'.heap[b]? = some (w.heap[b]'hlt) := by rw [e, Array.getElem?_eq_getElem hlt]
      exact (Array.getElem?_eq_some_iff.1 this).1
theorem set_midB (a : List UInt8) (m : Nat) (x : UInt8) (hm : 0 < m) : (a ++ List.replicate m 0).set a.length x = a ++ [x] ++ List.replicate (m - 1) 0 := by
  obtain ⟨k, rfl⟩ : ∃ k, m = k + 1 := ⟨m - 1, by omega⟩
  simp [List.replicate_succ]
theorem take_snocB (l : List UInt8) (k : Nat) (h : k < l.length) : l.take (k + 1) = l.take k ++ [l[k]] := List.take_succ_eq_append_getElem h
theorem rep_drop (k : Nat) (l : List UInt8) (h : k < l.length) : (List.replicate k (238 : UInt8) ++ l.drop k).set k 238 = List.replicate (k + 1) 238 ++ l.drop (k + 1) := by
  rw [List.drop_eq_getElem_cons h, List.set_append_right _ _ (by simp), List.length_replicate, Nat.sub_self, List.set_cons_zero, List.replicate_succ']
  simp

set_option maxRecDepth 100000 in
set_option maxHeartbeats 16000000 in
theorem does5 {TA : World → (Nat → Prop) → Nat → TT → Prop} (C : TcP TA) {P : Nat → Prop} {B : Nat} {w W : World} {c d : Nat} {T : TT} (h : B2 TA P B w W c T d T) (hz : TSz 3999999 T) (ho : TOk T) {nn bl sz : Int} {p q tx ob : List UInt8} {ua : Option Addr} {uc : Nat}
    (hv : BS W (.slice ua ob.length uc) ob) (hvP : ob ≠ [] → ∀ k, (Value.slice ua ob.length uc).ownBlock = some k → P k) (hl : ob.length ≤ 4000000) :
    Calls Tryz.prog 35 #[.pointer (some ⟨c, 0, none⟩), .pointer (some ⟨d, 0, none⟩), .agg #[.int .i64 5, .string (bs p), .string (bs q), .string (bs tx), .int .i64 bl, .int .i64 sz, .slice ua ob.length uc, .int .i64 nn]] W fun e w' => e = .returned (.bool true) ∧ B2 TA P B w w' c (T.ap ob).1 d (T.ap ob).1 := by
  obtain ⟨L, hL⟩ : ∃ L, ob.length = L := ⟨_, rfl⟩
  rw [hL] at hv hvP hl ⊢
  have H : Hid (B2 TA P B w W c T d T) := h
  have HZ : Hid (TSz 3999999 T ∧ TOk T) := ⟨hz, ho⟩
  have HL : Hid (ob.length = L) := hL
  have HV : Hid (BS W (.slice ua L uc) ob ∧ (ob ≠ [] → ∀ k, (Value.slice ua L uc).ownBlock = some k → P k)) := ⟨hv, hvP⟩
  clear h hz ho hL hv hvP
  obtain ⟨R, hR⟩ : ∃ R, T.ap ob = R := ⟨_, rfl⟩
  have HR : Hid (T.ap ob = R) := hR
  rw [hR]
  clear hR
  obtain ⟨M, hM⟩ : ∃ M, L + 40 = M := ⟨_, rfl⟩
  have hMI : (L : Int) + 40 = (M : Int) := by omega
  go_enter Tryz.func35, Tryz.ntmps35
  go_wp2_with fail
  obtain ⟨g5, hg5⟩ : ∃ g5, W.heap.size = g5 := ⟨_, rfl⟩
  obtain ⟨w0, hw0⟩ : ∃ w0, W.alloc (.cells #[.int .i64 5, .string (bs p), .string (bs q), .string (bs tx), .int .i64 bl, .int .i64 sz, .slice ua L uc, .int .i64 nn] 34) = w0 := ⟨_, rfl⟩
  have hbk : w0.heap[g5]? = some (.cells #[.int .i64 5, .string (bs p), .string (bs q), .string (bs tx), .int .i64 bl, .int .i64 sz, .slice ua L uc, .int .i64 nn] 34 (0, 0)) := by rw [← hw0, ← hg5]; exact heap_alloc_new _ _
  have hb0 : Below W.heap.size W w0 := hw0 ▸ balloc _ _
  have X0 : Hid (B2 TA (fun k => P k ∨ k = g5) B w w0 c T d T) := H.out.later C hb0 (by
    rintro k (h | h)
    · exact .inl h
    · exact .inr ⟨by omega, by have := (Array.getElem?_eq_some_iff.1 hbk).1; omega⟩)
  have HBK : Hid (w0.heap[g5]? = some (.cells #[.int .i64 5, .string (bs p), .string (bs q), .string (bs tx), .int .i64 bl, .int .i64 sz, .slice ua L uc, .int .i64 nn] 34 (0, 0))) := hbk
  have k0 : w0.cell? ⟨g5, 0, none⟩ = some (.int .i64 5) := by simp [World.cell?, hbk]
  have k6 : w0.cell? ⟨g5, 6, none⟩ = some (.slice ua L uc) := by simp [World.cell?, hbk]
  have HPW : Hid ((∀ k, P k → k < g5) ∧ B ≤ g5) := by
    obtain ⟨_, _, _, _, _, h4, _, _, _, _, h8⟩ := H.out
    exact ⟨fun k hk => by have := (h8 k hk).2.2; omega, by omega⟩
  have HV0 : Hid (BS w0 (.slice ua L uc) ob) := HV.out.1.later hb0
  rw [hw0, hg5]
  clear hb0 hw0 hbk H hg5
  obtain ⟨gb, hgb⟩ : ∃ gb, w0.heap.size = gb := ⟨_, rfl⟩
  have hmk0 := run_make_row' (P := Tryz.prog) 32 5 (.int .u8 0) 1 und32 info5 rfl .i64 .i64 M (by omega) (by omega) w0
  obtain ⟨w1, hw1⟩ : ∃ w1, w0.alloc (.cells (madeCells #[.int .u8 0] M) 5) = w1 := ⟨_, rfl⟩
  rw [hw1, hgb] at hmk0
  have hmk : Sem.run Tryz.prog (Instr.makeSlice 32 (.int .i64 (M : Int)) (.int .i64 (M : Int))) w0 = .ok (.slice (some ⟨gb, 0, none⟩) M M) w1 := hmk0
  have hbl1 : Below w0.heap.size w0 w1 := hw1 ▸ balloc _ _
  have h5lt : g5 < gb := by rw [← hgb]; exact (Array.getElem?_eq_some_iff.1 HBK.out).1
  have H1 : Hid (B2 TA (fun k => P k ∨ k = g5 ∨ k = gb) B w w1 c T d T ∧ w1.heap[g5]? = some (.cells #[.int .i64 5, .string (bs p), .string (bs q), .string (bs tx), .int .i64 bl, .int .i64 sz, .slice ua L uc, .int .i64 nn] 34 (0, 0)) ∧ OwnB gb w1 (.slice (some ⟨gb, 0, none⟩) M M) (List.replicate M 0) ∧ BS w1 (.slice ua L uc) ob) := by
    refine ⟨X0.out.later C hbl1 ?_, by rw [hbl1.block g5 (by omega)]; exact HBK.out, ?_, HV0.out.later hbl1⟩
    · rintro k (h | h | h)
      · exact .inl (.inl h)
      · exact .inl (.inr h)
      · exact .inr ⟨by omega, by rw [h, ← hw1, ← hgb]; simp⟩
    · rw [← hw1, ← hgb]
      refine ⟨by rw [bc_length]; simp, .inr ⟨w0.heap.size, M, _, by simp, Nat.le_refl _, heap_alloc_new w0 _, by simp, by unfold maxLen; omega, by simp [size_madeCells], ?_⟩⟩
      rw [toList_madeCells_one]
      simp [bc]
  have H5G : Hid (g5 < gb) := h5lt
  have hwM : wrap64 ((L : Int) + 40) = (M : Int) := by rw [IntWalk.wrap64_in _ (by omega)]; exact hMI
  have hwM2 : IntKind.i64.wrap ((L : Int) + 40) = (M : Int) := by rw [IntWalk.i64_left]; exact hwM
  clear hmk0 hw1 hbl1 X0 HBK HV0 hgb h5lt hMI
  go_wp2_with fail
  rw [hmk]
  clear hwM hwM2 k0 k6
  go_wp2_with fail
  clear hmk
  rename_i hKK
  have HK_ : Hid _ := hKK
  clear hKK
  have HC5 : Hid (∀ W' : World, W'.heap[g5]? = some (.cells #[.int .i64 5, .string (bs p), .string (bs q), .string (bs tx), .int .i64 bl, .int .i64 sz, .slice ua L uc, .int .i64 nn] 34 (0, 0)) → W'.cell? ⟨g5, 6, none⟩ = some (.slice ua L uc)) := fun W' h => by simp [World.cell?, h]
  go_loopw [8] (fun i wr => ∃ k : Nat, k ≤ L ∧ i = .int .i64 k ∧ B2 TA (fun k => P k ∨ k = g5 ∨ k = gb) B w wr c T d T ∧ wr.heap[g5]? = some (.cells #[.int .i64 5, .string (bs p), .string (bs q), .string (bs tx), .int .i64 bl, .int .i64 sz, .slice ua L uc, .int .i64 nn] 34 (0, 0)) ∧ OwnB gb wr (.slice (some ⟨gb, 0, none⟩) M M) (ob.take k ++ List.replicate (M - k) 0) ∧ BS wr (.slice ua L uc) ob) (fun i _ => L - (intOf i).toNat)
  case atStart => exact ⟨0, by omega, rfl, by rw [List.take_zero, List.nil_append]; exact H1.out⟩
  case round =>
    obtain ⟨k, hk, rfl, x1, x2, x3, x4⟩ := hrel
    have c6 := HC5.out _ x2
    by_cases hlt : k < L
    · have hkl : k < ob.length := by have := HL.out; omega
      have hkl2 : (ob.take k).length = k := by rw [List.length_take]; omega
      obtain ⟨e0, e1⟩ := ownB_cell x3 k (by simp; omega)
      obtain ⟨ba, bo, bc_, ee, -, hbb, hbc⟩ : ∃ b off cap, Value.slice ua L uc = .slice (some ⟨b, off, none⟩) ob.length cap ∧ ob.length ≤ cap ∧ b < wr.heap.size ∧ ∀ i u, (bc ob)[i]? = some u → wr.cell? ⟨b, off + i, none⟩ = some u := by
        rcases x4 with ⟨_, h0⟩ | h
        · rw [h0] at hkl; simp at hkl
        · exact h
      injection ee with ee _ _
      subst ee
      obtain ⟨u, hu⟩ : ∃ u, ob[k]'hkl = u := ⟨_, rfl⟩
      have e2 := hbc k (.int .u8 u.toNat) (by rw [bc_get, List.getElem?_eq_getElem hkl, hu]; rfl)
      have hne : ba ≠ gb := fun e => by have := HPW.out.1 ba (HV.out.2 (by rintro rfl; simp at hkl) ba rfl); have := H5G.out; omega
      have HS : Hid (B2 TA (fun k => P k ∨ k = g5 ∨ k = gb) B w (wr.setCell ⟨gb, k, none⟩ (.int .u8 u.toNat)) c T d T ∧ (wr.setCell ⟨gb, k, none⟩ (.int .u8 u.toNat)).heap[g5]? = some (.cells #[.int .i64 5, .string (bs p), .string (bs q), .string (bs tx), .int .i64 bl, .int .i64 sz, .slice (some ⟨ba, bo, none⟩) L uc, .int .i64 nn] 34 (0, 0)) ∧ OwnB gb (wr.setCell ⟨gb, k, none⟩ (.int .u8 u.toNat)) (.slice (some ⟨gb, 0, none⟩) M M) (ob.take (k + 1) ++ List.replicate (M - (k + 1)) 0) ∧ BS (wr.setCell ⟨gb, k, none⟩ (.int .u8 u.toNat)) (.slice (some ⟨ba, bo, none⟩) L uc) ob) := by
        have hon : Only [gb] wr (wr.setCell ⟨gb, k, none⟩ (.int .u8 u.toNat)) := Only.set _ _ _ _
        refine ⟨x1.write C (.inr (.inr rfl)) (by have := HPW.out.2; have := H5G.out; omega) hon, by rw [hon.block g5 (Array.getElem?_eq_some_iff.1 x2).1 (by have := H5G.out; simp; omega)]; exact x2, ?_, x4.stay hon.size (fun hb0 j hj => set_other _ _ _ _ (fun e => ?_))⟩
        · have h1 := ownB_set x3 k u
          have h2 := set_midB (ob.take k) (M - k) u (by omega)
          rw [hkl2] at h2
          rw [h2] at h1
          rw [take_snocB ob k hkl, hu, show M - (k + 1) = M - k - 1 by omega]
          exact h1
        · have : ba = j := by simpa [Value.ownBlock] using hj
          omega
      obtain ⟨uu, huu⟩ : ∃ uu, u.toNat = uu := ⟨_, rfl⟩
      rw [huu] at e2 HS
      obtain ⟨z, hz0⟩ : ∃ z : Nat, ((ob.take k ++ List.replicate (M - k) 0)[k]'(by simp; omega)).toNat = z := ⟨_, rfl⟩
      rw [hz0] at e0
      have i1 : (0 : Int) ≤ (k : Int) := by omega
      have i2 : (k : Int) < (L : Int) := by omega
      have i3 : (k : Int) < (M : Int) := by omega
      clear x1 x2 x3 x4 hbc hu huu hz0
      go_wp2_with fail
      go_roundw
      case rel => exact ⟨k + 1, by omega, by go_num, HS.out⟩
      case measure => simp [intOf]; omega
    · obtain rfl : L = k := by omega
      have H2 : Hid (B2 TA (fun k => P k ∨ k = g5 ∨ k = gb) B w wr c T d T ∧ wr.heap[g5]? = some (.cells #[.int .i64 5, .string (bs p), .string (bs q), .string (bs tx), .int .i64 bl, .int .i64 sz, .slice ua L uc, .int .i64 nn] 34 (0, 0)) ∧ OwnB gb wr (.slice (some ⟨gb, 0, none⟩) M M) (ob ++ List.replicate 40 0) ∧ BS wr (.slice ua L uc) ob) := by
        refine ⟨x1, x2, ?_, x4⟩
        rw [List.take_of_length_le (by have := HL.out; omega), show M - L = 40 by omega] at x3
        exact x3
      clear x1 x2 x3 x4
      go_wp2_with fail
      refine HK_.out _ _ ?_
      clear HK_ c6
      refine wp_seq_k fun KK hKK => ?_
      have HK3 : Hid _ := hKK
      clear hKK
      refine wp_region_noPanic ?_
      have Hd : Hid (B2 TA (fun k => P k ∨ k = g5 ∨ k = gb) B w wr.drew c T d T ∧ wr.drew.heap[g5]? = some (.cells #[.int .i64 5, .string (bs p), .string (bs q), .string (bs tx), .int .i64 bl, .int .i64 sz, .slice ua L uc, .int .i64 nn] 34 (0, 0)) ∧ OwnB gb wr.drew (.slice (some ⟨gb, 0, none⟩) M M) (ob ++ List.replicate 40 0) ∧ BS wr.drew (.slice ua L uc) ob) := by
        have hb := (Below.refl wr.heap.size wr).drew
        exact ⟨H2.out.1.lat C hb, H2.out.2.1, H2.out.2.2.1.later hb, H2.out.2.2.2.later hb⟩
      have z1 : (L : Int) ≤ (M : Int) := by omega
      have z0 : (0 : Int) ≤ (L : Int) := by omega
      have q1 : ((bs ob).toList == (bs ob).toList) = true := by simp
      have hRR : (R.2 == R.2) = true := by simp
      have HTK : Hid (∀ W' : World, OwnB gb W' (.slice (some ⟨gb, 0, none⟩) M M) (ob ++ List.replicate 40 0) → BS W' (.slice (some ⟨gb, 0, none⟩) L M) ob) := fun W' h => by
        have := h.bs.take L (by rw [List.length_append, HL.out]; omega)
        rwa [List.take_left' HL.out] at this
      have HST : Hid (∀ F W', TA W' F c T → (∀ k, (fun k => P k ∨ k = g5 ∨ k = gb) k → ¬ F k) → BS W' (.slice (some ⟨gb, 0, none⟩) L M) ob → Calls Tryz.prog 20 #[.pointer (some ⟨c, 0, none⟩), .slice (some ⟨gb, 0, none⟩) L M] W' fun e w' => e = .returned (.int .i64 R.2) ∧ TA w' (nwF F W' w') c R.1 ∧ OnlyP F W' w') := fun F W' h hP hb => (C.app h (HZ.out.1.mono (by omega)) hb (fun _ k hk => hP k (.inr (.inr (by simpa [Value.ownBlock] using hk.symm)))) (by rw [HL.out]; exact hl)).mono (fun e w' h => by rw [HR.out] at h; exact h)
      have HSR : Hid (∀ G W', RT W' G d T → (∀ k, (fun k => P k ∨ k = g5 ∨ k = gb) k → ¬ G k) → BS W' (.slice ua L uc) ob → Calls Tryz.prog 38 #[.pointer (some ⟨d, 0, none⟩), .slice ua L uc] W' fun e w' => e = .returned (.int .i64 R.2) ∧ RT w' (nwF G W' w') d R.1 ∧ OnlyP G W' w') := fun G W' h hP hb => (rappend_any h (HZ.out.1.mono (by omega)) HZ.out.2 hb (fun hb0 k hk => hP k (.inl (HV.out.2 hb0 k hk))) (by rw [HL.out]; exact hl)).mono (fun e w' h => by rw [HR.out] at h; exact h)
      clear H2 H1
      refine wp_region_held_drew (S := fun W' => W'.cell? ⟨g5, 6, none⟩ = some (.slice ua L uc)) (by kernel_rfl) (HC5.out _ Hd.out.2.1) (fun hHeld => ?_)
      refine wpAnyH_take (i := 0) (oi := { dst := some 83, op := _, type := _, pos := _, after := _, guard := _ }) (v := ?vx1) rfl (by kernel_rfl) (by kernel_rfl) (by kernel_rfl) (fun _ _ _ h => h) (Or.inl ⟨by rfl, ?hyx1⟩) (by assumption) ?restx1
      case hyx1 => (intro w hSw; (try dsimp only at hSw); go_simp; try with_reducible rfl)
      try simp only [Act.put, List.setIfInBounds_toArray, List.set_cons_zero, List.set_cons_succ]
      refine wpAnyH_take (i := 1) (oi := { dst := some 84, op := _, type := _, pos := _, after := _, guard := _ }) (v := ?vx2) rfl (by kernel_rfl) (by kernel_rfl) (by kernel_rfl) (fun _ _ _ h => h) (Or.inl ⟨by rfl, ?hyx2⟩) (by assumption) ?restx2
      case hyx2 => (intro w hSw; (try dsimp only at hSw); go_simp; try with_reducible rfl)
      try simp only [Act.put, List.setIfInBounds_toArray, List.set_cons_zero, List.set_cons_succ]
      refine wpAnyH_take (i := 2) (oi := { dst := some 85, op := _, type := _, pos := _, after := _, guard := _ }) (v := ?vx3) rfl (by kernel_rfl) (by kernel_rfl) (by kernel_rfl) (fun _ _ _ h => h) (Or.inl ⟨by rfl, ?hyx3⟩) (by assumption) ?restx3
      case hyx3 => (intro w hSw; (try dsimp only at hSw); go_simp; try with_reducible rfl)
      try simp only [Act.put, List.setIfInBounds_toArray, List.set_cons_zero, List.set_cons_succ]
      refine wpAnyH_take (i := 3) (oi := { dst := some 86, op := _, type := _, pos := _, after := _, guard := _ }) (v := ?vx4) rfl (by kernel_rfl) (by kernel_rfl) (by kernel_rfl) (fun _ _ _ h => h) (Or.inl ⟨by rfl, ?hyx4⟩) (by assumption) ?restx4
      case hyx4 => (intro w hSw; (try dsimp only at hSw); go_simp; try with_reducible rfl)
      try simp only [Act.put, List.setIfInBounds_toArray, List.set_cons_zero, List.set_cons_succ]
      refine wpAnyH_take (i := 4) (oi := { dst := some 87, op := _, type := _, pos := _, after := _, guard := _ }) (v := ?vx5) rfl (by kernel_rfl) (by kernel_rfl) (by kernel_rfl) (fun _ _ _ h => h) (Or.inl ⟨by rfl, ?hyx5⟩) (by assumption) ?restx5
      case hyx5 => (intro w hSw; (try dsimp only at hSw); go_simp; try with_reducible rfl)
      try simp only [Act.put, List.setIfInBounds_toArray, List.set_cons_zero, List.set_cons_succ]
      refine wpAnyH_take (i := 5) (oi := { dst := some 88, op := _, type := _, pos := _, after := _, guard := _ }) (v := ?vx6) rfl (by kernel_rfl) (by kernel_rfl) (by kernel_rfl) (fun _ _ _ h => h) (Or.inl ⟨by rfl, ?hyx6⟩) (by assumption) ?restx6
      case hyx6 => (intro w hSw; (try dsimp only at hSw); go_simp; try with_reducible rfl)
      try simp only [Act.put, List.setIfInBounds_toArray, List.set_cons_zero, List.set_cons_succ]
      refine wpAnyH_take (i := 8) (oi := { dst := some 91, op := _, type := _, pos := _, after := _, guard := _ }) (v := ?vx7) rfl (by kernel_rfl) (by kernel_rfl) (by kernel_rfl) (fun _ _ _ h => h) (Or.inl ⟨by rfl, ?hyx7⟩) (by assumption) ?restx7
      case hyx7 => (intro w hSw; (try dsimp only at hSw); go_simp; try with_reducible rfl)
      try simp only [Act.put, List.setIfInBounds_toArray, List.set_cons_zero, List.set_cons_succ]
      refine wpAnyH_take (i := 9) (oi := { dst := some 92, op := _, type := _, pos := _, after := _, guard := _ }) (v := ?vx8) rfl (by kernel_rfl) (by kernel_rfl) (by kernel_rfl) (fun _ _ _ h => h) (Or.inl ⟨by rfl, ?hyx8⟩) (by assumption) ?restx8
      case hyx8 => (intro w hSw; (try dsimp only at hSw); go_simp; try with_reducible rfl)
      try simp only [Act.put, List.setIfInBounds_toArray, List.set_cons_zero, List.set_cons_succ]
      refine wpAnyH_take (i := 10) (oi := { dst := some 93, op := _, type := _, pos := _, after := _, guard := _ }) (v := ?vx9) rfl (by kernel_rfl) (by kernel_rfl) (by kernel_rfl) (fun _ _ _ h => h) (Or.inl ⟨by rfl, ?hyx9⟩) (by assumption) ?restx9
      case hyx9 => (intro w hSw; (try dsimp only at hSw); go_simp; try with_reducible rfl)
      try simp only [Act.put, List.setIfInBounds_toArray, List.set_cons_zero, List.set_cons_succ]
      refine wpAnyH_ready (rs := [6]) (by kernel_rfl) (by simp) ?_
      refine AllReadyH.cons (o := { dst := some 89, op := _, type := _, pos := _, after := _, guard := _ }) rfl (fun K hK => ?_) AllReadyH.nil
      go_simp
      (with_reducible refine (Hd.out.1.stT (Q := fun e _ => e = .returned (.int .i64 R.2)) (R := R.1) (fun F h hP => HST.out F _ h hP (HTK.out _ Hd.out.2.2.1))).mono ?_)
      rintro e w3 ⟨rfl, x1, hp1⟩
      have H3 : Hid (B2 TA (fun k => P k ∨ k = g5 ∨ k = gb) B w w3 c R.1 d T ∧ w3.heap[g5]? = some (.cells #[.int .i64 5, .string (bs p), .string (bs q), .string (bs tx), .int .i64 bl, .int .i64 sz, .slice ua L uc, .int .i64 nn] 34 (0, 0)) ∧ OwnB gb w3 (.slice (some ⟨gb, 0, none⟩) M M) (ob ++ List.replicate 40 0) ∧ BS w3 (.slice ua L uc) ob) := by
        refine ⟨x1, (hp1 g5 (.inr (.inl rfl))).trans Hd.out.2.1, row_stay Hd.out.2.2.1 (fun k hk => hp1 k (.inr (.inr (by simpa [Value.ownBlock] using hk.symm)))), ?_⟩
        exact Hd.out.2.2.2.stay2 (fun hb0 k hk => hp1 k (.inl (HV.out.2 hb0 k hk)))
      clear x1 hp1
      refine hK.out _ _ (HC5.out _ H3.out.2.1) (fun hHeld => ?_)
      clear hK K
      try simp only [List.setIfInBounds_toArray, List.set_cons_zero, List.set_cons_succ]
      refine wpAnyH_ready (rs := [7]) (by kernel_rfl) (by simp) ?_
      refine AllReadyH.cons (o := { dst := some 90, op := _, type := _, pos := _, after := _, guard := _ }) rfl (fun K hK => ?_) AllReadyH.nil
      go_simp
      (with_reducible refine (num_any _ _).mono ?_)
      rintro e wx ⟨rfl, rfl⟩
      refine hK.out _ _ (HC5.out _ H3.out.2.1) (fun hHeld => ?_)
      clear hK K
      try simp only [List.setIfInBounds_toArray, List.set_cons_zero, List.set_cons_succ]
      refine wpAnyH_ready (rs := [11]) (by kernel_rfl) (by simp) ?_
      refine AllReadyH.cons (o := { dst := some 94, op := _, type := _, pos := _, after := _, guard := _ }) rfl (fun K hK => ?_) AllReadyH.nil
      go_simp
      (with_reducible refine (H3.out.1.stR C (Q := fun e _ => e = .returned (.int .i64 R.2)) (R := R.1) (fun G h hP => HSR.out G _ h hP H3.out.2.2.2)).mono ?_)
      rintro e w4 ⟨rfl, x1, hp1⟩
      have H4 : Hid (B2 TA (fun k => P k ∨ k = g5 ∨ k = gb) B w w4 c R.1 d R.1 ∧ w4.heap[g5]? = some (.cells #[.int .i64 5, .string (bs p), .string (bs q), .string (bs tx), .int .i64 bl, .int .i64 sz, .slice ua L uc, .int .i64 nn] 34 (0, 0)) ∧ OwnB gb w4 (.slice (some ⟨gb, 0, none⟩) M M) (ob ++ List.replicate 40 0) ∧ BS w4 (.slice ua L uc) ob) := by
        refine ⟨x1, (hp1 g5 (.inr (.inl rfl))).trans H3.out.2.1, row_stay H3.out.2.2.1 (fun k hk => hp1 k (.inr (.inr (by simpa [Value.ownBlock] using hk.symm)))), ?_⟩
        exact H3.out.2.2.2.stay2 (fun hb0 k hk => hp1 k (.inl (HV.out.2 hb0 k hk)))
      clear x1 hp1
      refine hK.out _ _ (HC5.out _ H4.out.2.1) (fun hHeld => ?_)
      clear hK K
      try simp only [List.setIfInBounds_toArray, List.set_cons_zero, List.set_cons_succ]
      refine wpAnyH_take (i := 12) (oi := { dst := some 95, op := _, type := _, pos := _, after := _, guard := _ }) (v := ?vx10) rfl (by kernel_rfl) (by kernel_rfl) (by kernel_rfl) (fun _ _ _ h => h) (Or.inl ⟨by rfl, ?hyx10⟩) (by assumption) ?restx10
      case hyx10 => (intro w hSw; (try dsimp only at hSw); go_simp; try with_reducible rfl)
      try simp only [Act.put, List.setIfInBounds_toArray, List.set_cons_zero, List.set_cons_succ]
      refine wpAnyH_take (i := 13) (oi := { dst := some 96, op := _, type := _, pos := _, after := _, guard := _ }) (v := ?vx11) rfl (by kernel_rfl) (by kernel_rfl) (by kernel_rfl) (fun _ _ _ h => h) (Or.inl ⟨by rfl, ?hyx11⟩) (by assumption) ?restx11
      case hyx11 => (intro w hSw; (try dsimp only at hSw); go_simp; try with_reducible rfl)
      try simp only [Act.put, List.setIfInBounds_toArray, List.set_cons_zero, List.set_cons_succ]
      refine wpAnyH_take (i := 14) (oi := { dst := some 97, op := _, type := _, pos := _, after := _, guard := _ }) (v := ?vx12) rfl (by kernel_rfl) (by kernel_rfl) (by kernel_rfl) (fun _ _ _ h => h) (Or.inl ⟨by rfl, ?hyx12⟩) (by assumption) ?restx12
      case hyx12 => (intro w hSw; (try dsimp only at hSw); go_simp; try with_reducible rfl)
      try simp only [Act.put, List.setIfInBounds_toArray, List.set_cons_zero, List.set_cons_succ]
      refine wpAnyH_take (i := 15) (oi := { dst := some 98, op := _, type := _, pos := _, after := _, guard := _ }) (v := ?vx13) rfl (by kernel_rfl) (by kernel_rfl) (by kernel_rfl) (fun _ _ _ h => h) (Or.inl ⟨by rfl, ?hyx13⟩) (by assumption) ?restx13
      case hyx13 => (intro w hSw; (try dsimp only at hSw); go_simp; try with_reducible rfl)
      try simp only [Act.put, List.setIfInBounds_toArray, List.set_cons_zero, List.set_cons_succ]
      refine wpAnyH_take (i := 16) (oi := { dst := some 99, op := _, type := _, pos := _, after := _, guard := _ }) (v := ?vx14) rfl (by kernel_rfl) (by kernel_rfl) (by kernel_rfl) (fun _ _ _ h => h) (Or.inl ⟨by rfl, ?hyx14⟩) (by assumption) ?restx14
      case hyx14 => (intro w hSw; (try dsimp only at hSw); go_simp; try with_reducible rfl)
      try simp only [Act.put, List.setIfInBounds_toArray, List.set_cons_zero, List.set_cons_succ]
      refine wpAnyH_take (i := 17) (oi := { dst := some 100, op := _, type := _, pos := _, after := _, guard := _ }) (v := ?vx15) rfl (by kernel_rfl) (by kernel_rfl) (by kernel_rfl) (fun _ _ _ h => h) (Or.inl ⟨by rfl, ?hyx15⟩) (by assumption) ?restx15
      case hyx15 => (intro w hSw; (try dsimp only at hSw); go_simp; try with_reducible rfl)
      try simp only [Act.put, List.setIfInBounds_toArray, List.set_cons_zero, List.set_cons_succ]
      refine wpAnyH_take (i := 18) (oi := { dst := some 101, op := _, type := _, pos := _, after := _, guard := _ }) (v := ?vx16) rfl (by kernel_rfl) (by kernel_rfl) (by kernel_rfl) (fun _ _ _ h => h) (Or.inl ⟨by rfl, ?hyx16⟩) (by assumption) ?restx16
      case hyx16 => (intro w hSw; (try dsimp only at hSw); go_simp; try with_reducible rfl)
      try simp only [Act.put, List.setIfInBounds_toArray, List.set_cons_zero, List.set_cons_succ]
      refine wpAnyH_take (i := 20) (oi := { dst := some 103, op := _, type := _, pos := _, after := _, guard := _ }) (v := ?vx17) rfl (by kernel_rfl) (by kernel_rfl) (by kernel_rfl) (fun _ _ _ h => h) (Or.inl ⟨by rfl, ?hyx17⟩) (by assumption) ?restx17
      case hyx17 => (intro w hSw; (try dsimp only at hSw); go_simp; try with_reducible rfl)
      try simp only [Act.put, List.setIfInBounds_toArray, List.set_cons_zero, List.set_cons_succ]
      refine wpAnyH_take (i := 21) (oi := { dst := some 104, op := _, type := _, pos := _, after := _, guard := _ }) (v := ?vx18) rfl (by kernel_rfl) (by kernel_rfl) (by kernel_rfl) (fun _ _ _ h => h) (Or.inl ⟨by rfl, ?hyx18⟩) (by assumption) ?restx18
      case hyx18 => (intro w hSw; (try dsimp only at hSw); go_simp; try with_reducible rfl)
      try simp only [Act.put, List.setIfInBounds_toArray, List.set_cons_zero, List.set_cons_succ]
      refine wpAnyH_ready (rs := [19, 22]) (by kernel_rfl) (by simp) ?_
      refine AllReadyH.cons (o := { dst := some 102, op := _, type := _, pos := _, after := _, guard := _ }) rfl (fun K hK => ?_) (AllReadyH.cons (o := { dst := some 105, op := _, type := _, pos := _, after := _, guard := _ }) rfl (fun K hK => ?_) AllReadyH.nil)
      · go_simp
        rw [show (convert 32 9 (.slice (some ⟨gb, 0, none⟩) L M)).run Tryz.prog w4 = .ok (.string (bs ob)) w4 from conv_bs (HTK.out _ H4.out.2.2.1)]
        go_simp
        refine hK.out _ _ (HC5.out _ H4.out.2.1) (fun hHeld => ?_)
        clear hK K
        try simp only [List.setIfInBounds_toArray, List.set_cons_zero, List.set_cons_succ]
        refine wpAnyH_ready (rs := [22]) (by kernel_rfl) (by simp) ?_
        refine AllReadyH.cons (o := { dst := some 105, op := _, type := _, pos := _, after := _, guard := _ }) rfl (fun K hK => ?_) AllReadyH.nil
        go_simp
        rw [show (convert 32 9 (.slice ua L uc)).run Tryz.prog w4 = .ok (.string (bs ob)) w4 from conv_bs (H4.out.2.2.2)]
        go_simp
        refine hK.out _ _ (HC5.out _ H4.out.2.1) (fun hHeld => ?_)
        clear hK K
        try simp only [List.setIfInBounds_toArray, List.set_cons_zero, List.set_cons_succ]
        refine wpAnyH_take (i := 23) (oi := { dst := some 106, op := _, type := _, pos := _, after := _, guard := _ }) (v := ?vx19) rfl (by kernel_rfl) (by kernel_rfl) (by kernel_rfl) (fun _ _ _ h => h) (Or.inl ⟨by rfl, ?hyx19⟩) (by assumption) ?restx19
        case hyx19 => (intro w hSw; (try dsimp only at hSw); go_simp; try with_reducible rfl)
        try simp only [Act.put, List.setIfInBounds_toArray, List.set_cons_zero, List.set_cons_succ]
        refine wpAnyH_take (i := 24) (oi := { dst := some 107, op := _, type := _, pos := _, after := _, guard := _ }) (v := ?vx20) rfl (by kernel_rfl) (by kernel_rfl) (by kernel_rfl) (fun _ _ _ h => h) (Or.inl ⟨by rfl, ?hyx20⟩) (by assumption) ?restx20
        case hyx20 => (intro w hSw; (try dsimp only at hSw); go_simp; try with_reducible rfl)
        try simp only [Act.put, List.setIfInBounds_toArray, List.set_cons_zero, List.set_cons_succ]
        refine wpAnyH_take (i := 25) (oi := { dst := some 9, op := _, type := _, pos := _, after := _, guard := _ }) (v := ?vx21) rfl (by kernel_rfl) (by kernel_rfl) (by kernel_rfl) (fun _ _ _ h => h) (Or.inl ⟨by rfl, ?hyx21⟩) (by assumption) ?restx21
        case hyx21 => (intro w hSw; (try dsimp only at hSw); go_simp; try with_reducible rfl)
        try simp only [Act.put, List.setIfInBounds_toArray, List.set_cons_zero, List.set_cons_succ]
        refine wpAnyH_done (by kernel_rfl) ?_ _
        refine NoPanic.normal ?_
        clear hHeld
        refine HK3.out _ _ ?_
        clear HK3
        go_wp2_with fail
        rename_i hKK
        have HK_ : Hid _ := hKK
        clear hKK
        have hlen : Hid ((ob ++ List.replicate 40 (0 : UInt8)).length = M) := show (ob ++ List.replicate 40 (0 : UInt8)).length = M by rw [List.length_append, List.length_replicate, HL.out]; exact hM
        go_loopw [9, 10] (fun s9 i wr => ∃ k : Nat, k ≤ M ∧ s9 = .bool true ∧ i = .int .i64 k ∧ B2 TA (fun k => P k ∨ k = g5 ∨ k = gb) B w wr c R.1 d R.1 ∧ wr.heap[g5]? = some (.cells #[.int .i64 5, .string (bs p), .string (bs q), .string (bs tx), .int .i64 bl, .int .i64 sz, .slice ua L uc, .int .i64 nn] 34 (0, 0)) ∧ OwnB gb wr (.slice (some ⟨gb, 0, none⟩) M M) (List.replicate k 238 ++ (ob ++ List.replicate 40 0).drop k) ∧ BS wr (.slice ua L uc) ob) (fun _ i _ => M - (intOf i).toNat)
        case atStart => exact ⟨0, by omega, rfl, rfl, by rw [List.replicate_zero, List.nil_append, List.drop_zero]; exact H4.out⟩
        case round =>
          obtain ⟨k, hk, rfl, rfl, x1, x2, x3, x4⟩ := hrel
          have c6 := HC5.out _ x2
          by_cases hlt : k < M
          · have hkl : k < (ob ++ List.replicate 40 0).length := by have := hlen.out; omega
            have hkl2 : k < (List.replicate k (238 : UInt8) ++ (ob ++ List.replicate 40 0).drop k).length := by rw [List.length_append, List.length_replicate, List.length_drop]; omega
            obtain ⟨e0, e1⟩ := ownB_cell x3 k hkl2
            have hHS : B2 TA (fun k => P k ∨ k = g5 ∨ k = gb) B w (wr.setCell ⟨gb, k, none⟩ (.int .u8 (238 : UInt8).toNat)) c R.1 d R.1 ∧ (wr.setCell ⟨gb, k, none⟩ (.int .u8 (238 : UInt8).toNat)).heap[g5]? = some (.cells #[.int .i64 5, .string (bs p), .string (bs q), .string (bs tx), .int .i64 bl, .int .i64 sz, .slice ua L uc, .int .i64 nn] 34 (0, 0)) ∧ OwnB gb (wr.setCell ⟨gb, k, none⟩ (.int .u8 (238 : UInt8).toNat)) (.slice (some ⟨gb, 0, none⟩) M M) (List.replicate (k + 1) 238 ++ (ob ++ List.replicate 40 0).drop (k + 1)) ∧ BS (wr.setCell ⟨gb, k, none⟩ (.int .u8 (238 : UInt8).toNat)) (.slice ua L uc) ob := by
              have hon : Only [gb] wr (wr.setCell ⟨gb, k, none⟩ (.int .u8 (238 : UInt8).toNat)) := Only.set _ _ _ _
              refine ⟨x1.write C (.inr (.inr rfl)) (by have := HPW.out.2; have := H5G.out; omega) hon, by rw [hon.block g5 (Array.getElem?_eq_some_iff.1 x2).1 (by have := H5G.out; simp; omega)]; exact x2, ?_, x4.stay hon.size (fun hb0 j hj => set_other _ _ _ _ (fun e => ?_))⟩
              · have h1 := ownB_set x3 k 238
                rw [rep_drop k _ hkl] at h1
                exact h1
              · have := HPW.out.1 j (HV.out.2 hb0 j hj)
                have := H5G.out
                omega
            have HS : Hid (B2 TA (fun k => P k ∨ k = g5 ∨ k = gb) B w (wr.setCell ⟨gb, k, none⟩ (.int .u8 238)) c R.1 d R.1 ∧ (wr.setCell ⟨gb, k, none⟩ (.int .u8 238)).heap[g5]? = some (.cells #[.int .i64 5, .string (bs p), .string (bs q), .string (bs tx), .int .i64 bl, .int .i64 sz, .slice ua L uc, .int .i64 nn] 34 (0, 0)) ∧ OwnB gb (wr.setCell ⟨gb, k, none⟩ (.int .u8 238)) (.slice (some ⟨gb, 0, none⟩) M M) (List.replicate (k + 1) 238 ++ (ob ++ List.replicate 40 0).drop (k + 1)) ∧ BS (wr.setCell ⟨gb, k, none⟩ (.int .u8 238)) (.slice ua L uc) ob) := hHS
            have hget : (List.replicate k (238 : UInt8) ++ (ob ++ List.replicate 40 0).drop k)[k]'hkl2 = (ob ++ List.replicate 40 0)[k]'hkl := by
              rw [List.getElem_append_right (by simp)]
              simp
            rw [hget] at e0
            have i1 : (0 : Int) ≤ (k : Int) := by omega
            have i2 : (k : Int) < (M : Int) := by omega
            clear x1 x2 x3 x4 hHS hget
            by_cases hkL : k < L
            · have i3 : (k : Int) < (L : Int) := by omega
              obtain ⟨z, hz0⟩ : ∃ z : Nat, ((ob ++ List.replicate 40 0)[k]'hkl).toNat = z := ⟨_, rfl⟩
              rw [hz0] at e0
              clear hz0
              go_wp2_with fail
              go_roundw
              case rel => exact ⟨k + 1, by omega, rfl, by go_num, HS.out⟩
              case measure => simp [intOf]; omega
            · have i3 : ¬ (k : Int) < (L : Int) := by omega
              have hz0 : ((ob ++ List.replicate 40 0)[k]'hkl).toNat = 0 := by
                rw [List.getElem_append_right (by have := HL.out; omega), List.getElem_replicate]
                rfl
              rw [hz0] at e0
              clear hz0
              go_wp2_with fail
              go_roundw
              case rel => exact ⟨k + 1, by omega, rfl, by go_num, HS.out⟩
              case measure => simp [intOf]; omega
          · obtain rfl : M = k := by omega
            have XE : Hid (B2 TA (fun k => P k ∨ k = g5 ∨ k = gb) B w wr c R.1 d R.1) := x1
            clear x1 x2 x3 x4
            go_wp2_with fail
            refine HK_.out _ _ ?_
            go_wp2_with fail
            go_ret
            exact ⟨rfl, XE.out.less (fun k h => .inl h)⟩
      · go_simp
        rw [show (convert 32 9 (.slice ua L uc)).run Tryz.prog w4 = .ok (.string (bs ob)) w4 from conv_bs (H4.out.2.2.2)]
        go_simp
        refine hK.out _ _ (HC5.out _ H4.out.2.1) (fun hHeld => ?_)
        clear hK K
        try simp only [List.setIfInBounds_toArray, List.set_cons_zero, List.set_cons_succ]
        refine wpAnyH_ready (rs := [19]) (by kernel_rfl) (by simp) ?_
        refine AllReadyH.cons (o := { dst := some 102, op := _, type := _, pos := _, after := _, guard := _ }) rfl (fun K hK => ?_) AllReadyH.nil
        go_simp
        rw [show (convert 32 9 (.slice (some ⟨gb, 0, none⟩) L M)).run Tryz.prog w4 = .ok (.string (bs ob)) w4 from conv_bs (HTK.out _ H4.out.2.2.1)]
        go_simp
        refine hK.out _ _ (HC5.out _ H4.out.2.1) (fun hHeld => ?_)
        clear hK K
        try simp only [List.setIfInBounds_toArray, List.set_cons_zero, List.set_cons_succ]
        refine wpAnyH_take (i := 23) (oi := { dst := some 106, op := _, type := _, pos := _, after := _, guard := _ }) (v := ?vx22) rfl (by kernel_rfl) (by kernel_rfl) (by kernel_rfl) (fun _ _ _ h => h) (Or.inl ⟨by rfl, ?hyx22⟩) (by assumption) ?restx22
        case hyx22 => (intro w hSw; (try dsimp only at hSw); go_simp; try with_reducible rfl)
        try simp only [Act.put, List.setIfInBounds_toArray, List.set_cons_zero, List.set_cons_succ]
        refine wpAnyH_take (i := 24) (oi := { dst := some 107, op := _, type := _, pos := _, after := _, guard := _ }) (v := ?vx23) rfl (by kernel_rfl) (by kernel_rfl) (by kernel_rfl) (fun _ _ _ h => h) (Or.inl ⟨by rfl, ?hyx23⟩) (by assumption) ?restx23
        case hyx23 => (intro w hSw; (try dsimp only at hSw); go_simp; try with_reducible rfl)
        try simp only [Act.put, List.setIfInBounds_toArray, List.set_cons_zero, List.set_cons_succ]
        refine wpAnyH_take (i := 25) (oi := { dst := some 9, op := _, type := _, pos := _, after := _, guard := _ }) (v := ?vx24) rfl (by kernel_rfl) (by kernel_rfl) (by kernel_rfl) (fun _ _ _ h => h) (Or.inl ⟨by rfl, ?hyx24⟩) (by assumption) ?restx24
        case hyx24 => (intro w hSw; (try dsimp only at hSw); go_simp; try with_reducible rfl)
        try simp only [Act.put, List.setIfInBounds_toArray, List.set_cons_zero, List.set_cons_succ]
        refine wpAnyH_done (by kernel_rfl) ?_ _
        refine NoPanic.normal ?_
        clear hHeld
        refine HK3.out _ _ ?_
        clear HK3
        go_wp2_with fail
        rename_i hKK
        have HK_ : Hid _ := hKK
        clear hKK
        have hlen : Hid ((ob ++ List.replicate 40 (0 : UInt8)).length = M) := show (ob ++ List.replicate 40 (0 : UInt8)).length = M by rw [List.length_append, List.length_replicate, HL.out]; exact hM
        go_loopw [9, 10] (fun s9 i wr => ∃ k : Nat, k ≤ M ∧ s9 = .bool true ∧ i = .int .i64 k ∧ B2 TA (fun k => P k ∨ k = g5 ∨ k = gb) B w wr c R.1 d R.1 ∧ wr.heap[g5]? = some (.cells #[.int .i64 5, .string (bs p), .string (bs q), .string (bs tx), .int .i64 bl, .int .i64 sz, .slice ua L uc, .int .i64 nn] 34 (0, 0)) ∧ OwnB gb wr (.slice (some ⟨gb, 0, none⟩) M M) (List.replicate k 238 ++ (ob ++ List.replicate 40 0).drop k) ∧ BS wr (.slice ua L uc) ob) (fun _ i _ => M - (intOf i).toNat)
        case atStart => exact ⟨0, by omega, rfl, rfl, by rw [List.replicate_zero, List.nil_append, List.drop_zero]; exact H4.out⟩
        case round =>
          obtain ⟨k, hk, rfl, rfl, x1, x2, x3, x4⟩ := hrel
          have c6 := HC5.out _ x2
          by_cases hlt : k < M
          · have hkl : k < (ob ++ List.replicate 40 0).length := by have := hlen.out; omega
            have hkl2 : k < (List.replicate k (238 : UInt8) ++ (ob ++ List.replicate 40 0).drop k).length := by rw [List.length_append, List.length_replicate, List.length_drop]; omega
            obtain ⟨e0, e1⟩ := ownB_cell x3 k hkl2
            have hHS : B2 TA (fun k => P k ∨ k = g5 ∨ k = gb) B w (wr.setCell ⟨gb, k, none⟩ (.int .u8 (238 : UInt8).toNat)) c R.1 d R.1 ∧ (wr.setCell ⟨gb, k, none⟩ (.int .u8 (238 : UInt8).toNat)).heap[g5]? = some (.cells #[.int .i64 5, .string (bs p), .string (bs q), .string (bs tx), .int .i64 bl, .int .i64 sz, .slice ua L uc, .int .i64 nn] 34 (0, 0)) ∧ OwnB gb (wr.setCell ⟨gb, k, none⟩ (.int .u8 (238 : UInt8).toNat)) (.slice (some ⟨gb, 0, none⟩) M M) (List.replicate (k + 1) 238 ++ (ob ++ List.replicate 40 0).drop (k + 1)) ∧ BS (wr.setCell ⟨gb, k, none⟩ (.int .u8 (238 : UInt8).toNat)) (.slice ua L uc) ob := by
              have hon : Only [gb] wr (wr.setCell ⟨gb, k, none⟩ (.int .u8 (238 : UInt8).toNat)) := Only.set _ _ _ _
              refine ⟨x1.write C (.inr (.inr rfl)) (by have := HPW.out.2; have := H5G.out; omega) hon, by rw [hon.block g5 (Array.getElem?_eq_some_iff.1 x2).1 (by have := H5G.out; simp; omega)]; exact x2, ?_, x4.stay hon.size (fun hb0 j hj => set_other _ _ _ _ (fun e => ?_))⟩
              · have h1 := ownB_set x3 k 238
                rw [rep_drop k _ hkl] at h1
                exact h1
              · have := HPW.out.1 j (HV.out.2 hb0 j hj)
                have := H5G.out
                omega
            have HS : Hid (B2 TA (fun k => P k ∨ k = g5 ∨ k = gb) B w (wr.setCell ⟨gb, k, none⟩ (.int .u8 238)) c R.1 d R.1 ∧ (wr.setCell ⟨gb, k, none⟩ (.int .u8 238)).heap[g5]? = some (.cells #[.int .i64 5, .string (bs p), .string (bs q), .string (bs tx), .int .i64 bl, .int .i64 sz, .slice ua L uc, .int .i64 nn] 34 (0, 0)) ∧ OwnB gb (wr.setCell ⟨gb, k, none⟩ (.int .u8 238)) (.slice (some ⟨gb, 0, none⟩) M M) (List.replicate (k + 1) 238 ++ (ob ++ List.replicate 40 0).drop (k + 1)) ∧ BS (wr.setCell ⟨gb, k, none⟩ (.int .u8 238)) (.slice ua L uc) ob) := hHS
            have hget : (List.replicate k (238 : UInt8) ++ (ob ++ List.replicate 40 0).drop k)[k]'hkl2 = (ob ++ List.replicate 40 0)[k]'hkl := by
              rw [List.getElem_append_right (by simp)]
              simp
            rw [hget] at e0
            have i1 : (0 : Int) ≤ (k : Int) := by omega
            have i2 : (k : Int) < (M : Int) := by omega
            clear x1 x2 x3 x4 hHS hget
            by_cases hkL : k < L
            · have i3 : (k : Int) < (L : Int) := by omega
              obtain ⟨z, hz0⟩ : ∃ z : Nat, ((ob ++ List.replicate 40 0)[k]'hkl).toNat = z := ⟨_, rfl⟩
              rw [hz0] at e0
              clear hz0
              go_wp2_with fail
              go_roundw
              case rel => exact ⟨k + 1, by omega, rfl, by go_num, HS.out⟩
              case measure => simp [intOf]; omega
            · have i3 : ¬ (k : Int) < (L : Int) := by omega
              have hz0 : ((ob ++ List.replicate 40 0)[k]'hkl).toNat = 0 := by
                rw [List.getElem_append_right (by have := HL.out; omega), List.getElem_replicate]
                rfl
              rw [hz0] at e0
              clear hz0
              go_wp2_with fail
              go_roundw
              case rel => exact ⟨k + 1, by omega, rfl, by go_num, HS.out⟩
              case measure => simp [intOf]; omega
          · obtain rfl : M = k := by omega
            have XE : Hid (B2 TA (fun k => P k ∨ k = g5 ∨ k = gb) B w wr c R.1 d R.1) := x1
            clear x1 x2 x3 x4
            go_wp2_with fail
            refine HK_.out _ _ ?_
            go_wp2_with fail
            go_ret
            exact ⟨rfl, XE.out.less (fun k h => .inl h)⟩
end Go.Proofs.YtlkkmcibjhoneaaGreatDoor
