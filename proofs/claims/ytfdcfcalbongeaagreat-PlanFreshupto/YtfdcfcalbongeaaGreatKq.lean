/-
  The landed plan: Dirty answers what was changed by hand and is in the way.
-/
import Derived.Test.YtfdcfcalbongeaaGreatKo
import Derived.Test.YtfdcfcalbongeaaGreatJKl
import Derived.Test.YtfdcfcalbongeaaGreatKj
import Derived.Test.YtfdcfcalbongeaaGreatPk
namespace Go.Proofs.YtfdcfcalbongeaaGreat
open Go.RowKit
attribute [local go_sem] Oper.semAt_some

theorem mkS_paths {old now : List Fl} {s : Sp} (h : s ∈ mkS old now) : s.p ∈ old.map Fl.path ∨ s.p ∈ nds old ∨ s.p ∈ nds now ∨ s.p ∈ now.map Fl.path := by
  rw [mk_parts] at h
  simp only [List.mem_append, List.mem_map, List.mem_reverse] at h
  rcases h with ⟨p, hp, rfl⟩ | ⟨p, hp, rfl⟩ | ⟨p, hp, rfl⟩ | ⟨f, hf, rfl⟩
  · exact .inl ((List.mem_filter.1 hp).1)
  · exact .inr (.inl ((List.mem_filter.1 hp).1))
  · exact .inr (.inr (.inl ((List.mem_filter.1 hp).1)))
  · exact .inr (.inr (.inr (List.mem_map.2 ⟨f, (List.mem_filter.1 hf).1, rfl⟩)))
theorem tch_smK {old now : List Fl} (ho : validE old = 0) (hn : validE now = 0) : Sm (tch (mkS old now)) := by
  obtain ⟨o1, o2, o3, o4⟩ := fuN ho
  obtain ⟨n1, n2, n3, n4⟩ := fuN hn
  refine ⟨by have := tch_len (mkS old now); have := mkS_lenK o1 n1 o2 n2; omega, fun x hx => ?_⟩
  obtain ⟨s, hs, _, rfl⟩ := mem_tch.1 hx
  rcases mkS_paths hs with h | h | h | h
  · exact (paths_sm o1 o2).each _ h
  · exact (nds_lenK o1 o2).1.each _ h
  · exact (nds_lenK n1 n2).1.each _ h
  · exact (paths_sm n1 n2).each _ h
theorem chg_len {files old : List Fl} (pf : ∀ f ∈ files, f.path.length ≤ 1500000) (po : ∀ f ∈ old, f.path.length ≤ 1500000) {x : List UInt8} (h : chg files old x = true) : x.length ≤ 1500000 := by
  have := chg_mem h
  rw [List.mem_append, List.mem_map, List.mem_map] at this
  rcases this with ⟨f, hf, rfl⟩ | ⟨f, hf, rfl⟩
  · exact pf f hf
  · exact po f hf
theorem filt_snoc (q : List UInt8 → Bool) (C : List (List UInt8)) (k : Nat) (hk : k < C.length) : (C.take (k + 1)).filter q = (C.take k).filter q ++ (if q C[k] then [C[k]] else []) := by
  rw [List.take_succ_eq_append_getElem hk, List.filter_append]
  congr 1
  cases h : q C[k] <;> simp [h]
set_option maxHeartbeats 16000000 in
set_option maxRecDepth 100000 in
theorem ldirty_ok {w : World} {vf vo vn : Value} {files old now : List Fl} (hf : FS w vf files) (ho : FS w vo old) (hn : FS w vn now) (sf : Fsz files) (so : Fsz old) (sn : Fsz now) (vo0 : validE old = 0) (vn0 : validE now = 0) :
    Calls Tryz.prog 7 #[vf, vo, vn] w fun e w' => ∃ v, e = .returned (.tuple #[v, .int .i64 0]) ∧ OwT w.heap.size w' v (drt files old now) ∧ Below w.heap.size w w' := by
  have HM : Hid (Calls Tryz.prog 6 #[vo, vn] w fun e w' => ∃ v, e = .returned (.tuple #[v, .int .i64 0]) ∧ OwS w.heap.size w' v (mkS old now) ∧ Below w.heap.size w w') := lmake_ok ho hn so.sm sn.sm vo0 vn0
  have HI : Hid (FS w vf files ∧ FS w vo old ∧ Fsz files ∧ Fsz old) := ⟨hf, ho, sf, so⟩
  have hml : (mkS old now).length ≤ 1000000 := by
    obtain ⟨o1, o2, o3, o4⟩ := fuN vo0
    obtain ⟨n1, n2, n3, n4⟩ := fuN vn0
    exact mkS_lenK o1 n1 o2 n2
  obtain ⟨T, hT⟩ : ∃ T, hds (norm (tch (mkS old now))) = T := ⟨_, rfl⟩
  have HT : Hid (hds (norm (tch (mkS old now))) = T ∧ Sm T ∧ Up T ∧ Sm (tch (mkS old now)) ∧ (mkS old now).length ≤ 1000000 ∧ validE old = 0 ∧ validE now = 0) := by
    have h1 := tch_smK vo0 vn0
    exact ⟨hT, by rw [← hT]; exact h1.norm.hds, by rw [← hT]; exact hds_up (up_norm _), h1, hml, vo0, vn0⟩
  clear hf ho hn sf so sn vo0 vn0 hml hT
  go_enter Tryz.func7, Tryz.ntmps7
  go_wp2_with fail
  refine HM.out.mono ?_
  rintro e w1 ⟨vs, rfl, h1, hb1⟩
  have H1 : Hid (PS w1 vs (mkS old now) ∧ Below w.heap.size w w1) := ⟨h1.ps, hb1⟩
  clear h1 hb1 HM
  go_wp2_with fail
  refine (ltouched_any H1.out.1 HT.out.2.2.2.2.1).mono ?_
  rintro e w2 ⟨vt, rfl, h2, hb2⟩
  have HC : Hid (Calls Tryz.prog 26 #[vt] w2 fun e w' => ∃ v', e = .returned v' ∧ Own w2.heap.size w' v' T ∧ Below w1.heap.size w2 w') := by
    have := ltops_any h2 HT.out.2.2.2.1 hb2.size
    rw [HT.out.1] at this
    exact this
  have H2 : Hid (Below w1.heap.size w1 w2 ∧ Below w.heap.size w w1) := ⟨hb2, H1.out.2⟩
  clear h2 hb2 H1
  go_wp2_with fail
  refine HC.out.mono ?_
  rintro e w3 ⟨v3, rfl, h3, hb3⟩
  have H3 : Hid (Own w2.heap.size w3 v3 T ∧ Below w.heap.size w w3) := ⟨h3, bstep H2.out.2 (below_trans H2.out.1 hb3)⟩
  clear h3 hb3 H2 HC
  go_wp2_with fail
  refine (lchanged_any (HI.out.1.later H3.out.2) (HI.out.2.1.later H3.out.2) HI.out.2.2.1.len HI.out.2.2.2.len HI.out.2.2.1.pl HI.out.2.2.2.pl).mono ?_
  rintro e w4 ⟨v4, C, rfl, h4, hnd, hmem, hcl, hb4⟩
  obtain ⟨a, c, n, hn, rfl, ca⟩ := h4.bs.form'
  have CA : Hid (∀ k, (hk : k < C.length) → ∃ b off, a = some ⟨b, off, none⟩ ∧ b < w4.heap.size ∧ w4.cell? ⟨b, off + k, none⟩ = some (.string (bs C[k]))) := ca
  have HN : Hid (n = C.length) := hn
  have hnl : n ≤ 3000000 := by omega
  have H4 : Hid (Own w2.heap.size w4 v3 T ∧ Below w.heap.size w w4 ∧ C.Nodup ∧ (∀ x, x ∈ C ↔ chg files old x = true)) := ⟨H3.out.1.later hb4, bstep H3.out.2 hb4, hnd, hmem⟩
  clear h4 hnd hmem hcl hb4 ca hn H3
  obtain ⟨B, hB⟩ : ∃ B, w4.heap.size = B := ⟨_, rfl⟩
  have HB : Hid (w4.heap.size = B ∧ w.heap.size ≤ B) := ⟨hB, by have := H4.out.2.1.size; omega⟩
  clear hB
  go_wp2_with fail
  go_loopw [11, 30] (fun o i wr => ∃ k : Nat, k ≤ n ∧ i = .int .i64 k ∧ Own B wr o ((C.take k).filter (itwB T)) ∧ Below w4.heap.size w4 wr) (fun _ i _ => n - (intOf i).toNat)
  case atStart => exact ⟨0, Nat.zero_le _, rfl, Own.nil _ _, Below.refl _ _⟩
  case round =>
    obtain ⟨k, hk, rfl, ho, hbw⟩ := hrel
    have HO : Hid (Own B wr u11 ((C.take k).filter (itwB T)) ∧ Below w4.heap.size w4 wr) := ⟨ho, hbw⟩
    have hzo : B ≤ wr.heap.size := by have := hbw.size; have := HB.out.1; omega
    clear ho hbw
    by_cases hlt : k < n
    · have hkl : k < C.length := by have := HN.out; omega
      obtain ⟨b, off, ea, hbl, d0⟩ := CA.out k hkl
      subst ea
      have d0 := (HO.out.2.cell (p := ⟨b, off + k, none⟩) hbl).trans d0
      have hts := filt_snoc (itwB T) C k hkl
      have hll : ((C.take k).filter (itwB T)).length + 1 ≤ 8796093022208 := by have := List.length_filter_le (itwB T) (C.take k); rw [List.length_take] at this; omega
      have hpl := chg_len HI.out.2.2.1.pl HI.out.2.2.2.pl ((H4.out.2.2.2 _).1 (List.getElem_mem hkl))
      have k1 : (0 : Int) ≤ (k : Int) := by omega
      have k2 : (k : Int) < (n : Int) := by omega
      obtain ⟨p, hp⟩ : ∃ p, C[k] = p := ⟨_, rfl⟩
      rw [hp] at d0 hts hpl
      obtain ⟨X, hX⟩ : ∃ X, (C.take k).filter (itwB T) = X := ⟨_, rfl⟩
      rw [hX] at HO hts hll
      have hit := litw_any p (H4.out.1.later HO.out.2) HT.out.2.1 HT.out.2.2.1 hpl
      obtain ⟨q, hq⟩ : ∃ q, itwB T p = q := ⟨_, rfl⟩
      rw [hq] at hit hts
      have HS : Hid (Calls Tryz.prog 29 #[.string (bs p), v3] wr fun e w' => e = .returned (.bool q) ∧ Below wr.heap.size wr w') := hit
      have HTk : Hid ((C.take (k + 1)).filter (itwB T) = X ++ (if q then [p] else []) ∧ X.length + 1 ≤ 8796093022208) := ⟨hts, hll⟩
      clear hts hll hp hX hbl hit hq hpl
      go_wp2_with fail
      refine HS.out.mono ?_
      rintro e w5 ⟨rfl, hb5⟩
      have HO1 : Hid (Own B w5 u11 X ∧ Below w4.heap.size w4 w5) := ⟨HO.out.1.later hb5, bstep HO.out.2 hb5⟩
      have hz1 : B ≤ w5.heap.size := Nat.le_trans hzo hb5.size
      clear hb5 d0
      cases q with
      | false =>
        have HT2 : Hid ((C.take (k + 1)).filter (itwB T) = X) := by show _ = _; have := HTk.out.1; simpa using this
        go_wp2_with fail
        go_roundw
        case rel => exact ⟨k + 1, by omega, by go_num, by rw [HT2.out]; exact HO1.out.1, HO1.out.2⟩
        case measure => simp [intOf]; omega
      | true =>
        have HT2 : Hid ((C.take (k + 1)).filter (itwB T) = X ++ [p]) := by show _ = _; have := HTk.out.1; simpa using this
        go_wp2_with (at_builtin; refine app_one (base := B) p HO1.out.1 HTk.out.2 hz1 rfl (.tmp 37) (.tmp 39) rfl rfl rfl ?_; intro v6 w6 ho6 hb6 hbs6 _ _; have O6 : Hid (Own B w6 v6 (X ++ [p]) ∧ Below w4.heap.size w4 w6) := ⟨ho6, below_trans HO1.out.2 (by rw [HB.out.1]; exact hb6)⟩; clear ho6 hb6 hbs6)
        go_roundw
        case rel => exact ⟨k + 1, by omega, by go_num, by rw [HT2.out]; exact O6.out.1, O6.out.2⟩
        case measure => simp [intOf]; omega
    · obtain rfl : k = n := by omega
      have HE : Hid (Own B wr u11 (C.filter (itwB T)) ∧ Below w4.heap.size w4 wr) := by
        have := HO.out
        rw [List.take_of_length_le (by have := HN.out; omega)] at this
        exact this
      have HSo : Hid (Calls Tryz.prog 30 #[u11, .func (.func 31) #[] #[]] wr fun e w' => e = .returned (.tuple #[]) ∧ ∃ ts, ts.Perm (C.filter (itwB T)) ∧ ts.Pairwise (fun a b => cf a b ≤ 0) ∧ Own B w' u11 ts ∧ Below B wr w') :=
        sort_any HE.out.1 (by have := List.length_filter_le (itwB T) C; have := HN.out; omega) (fun x hx => by
          have := chg_len HI.out.2.2.1.pl HI.out.2.2.2.pl ((H4.out.2.2.2 _).1 ((List.mem_filter.1 hx).1))
          omega) hzo
      go_wp2_with fail
      refine HSo.out.mono ?_
      rintro e w6 ⟨rfl, ts, hpm, hso, ho6, hb6⟩
      have hdr : ts = drt files old now := by
        refine drt_of HT.out.2.2.2.2.2.1 HT.out.2.2.2.2.2.2 H4.out.2.2.1 H4.out.2.2.2 ?_ hso
        rw [HT.out.1]
        exact hpm
      have HF : Hid (OwT w.heap.size w6 u11 (drt files old now) ∧ Below w.heap.size w w6) := by
        rw [← hdr]
        refine ⟨OwR.own (ho6.mono HB.out.2), bstep H4.out.2.1 (below_trans HE.out.2 ?_)⟩
        rw [HB.out.1]
        exact hb6
      clear hpm hso ho6 hb6 hdr
      go_wp2_with fail
      go_ret2
      exact ⟨_, rfl, HF.out.1, HF.out.2⟩
set_option maxHeartbeats 4000000 in
set_option maxRecDepth 100000 in
theorem ldirty_any {w : World} {vf vo vn : Value} {files old now : List Fl} (hf : FS w vf files) (ho : FS w vo old) (hn : FS w vn now) (sf : Fsz files) (so : Fsz old) (sn : Fsz now) :
    Calls Tryz.prog 7 #[vf, vo, vn] w fun e w' => ∃ v, e = .returned (.tuple #[v, .int .i64 (mkE old now)]) ∧ OwT w.heap.size w' v (if mkE old now = 0 then drt files old now else []) ∧ Below w.heap.size w w' := by
  by_cases h0 : mkE old now = 0
  · obtain ⟨h1, h2⟩ := mke_zero.1 h0
    rw [h0, if_pos rfl]
    exact ldirty_ok hf ho hn sf so sn h1 h2
  · have hm := lmake_any ho hn so.sm sn.sm
    rw [if_neg h0] at hm ⊢
    obtain ⟨E, hE⟩ : ∃ E, mkE old now = E := ⟨_, rfl⟩
    rw [hE] at h0 hm ⊢
    have HM : Hid (Calls Tryz.prog 6 #[vo, vn] w fun e w' => ∃ v, e = .returned (.tuple #[v, .int .i64 E]) ∧ OwS w.heap.size w' v [] ∧ Below w.heap.size w w') := hm
    have h2b : (E == 0) = false := by simpa using h0
    clear hf ho hn sf so sn hE hm
    go_enter Tryz.func7, Tryz.ntmps7
    go_wp2_with fail
    refine HM.out.mono ?_
    rintro e w1 ⟨vs, rfl, h1, hb1⟩
    have H1 : Hid (Below w.heap.size w w1) := hb1
    clear h1 hb1 HM
    go_wp2_with fail
    go_ret2
    exact ⟨_, rfl, OwR.nil _ _ _ _, H1.out⟩
theorem pcP : PcP where
  mak := fun ho hn so sn => lmake_any ho hn so.sm sn.sm
  dty := ldirty_any
end Go.Proofs.YtfdcfcalbongeaaGreat
