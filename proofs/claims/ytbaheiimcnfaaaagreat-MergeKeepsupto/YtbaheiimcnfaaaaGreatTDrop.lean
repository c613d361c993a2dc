/-
  A file taken out.
-/
import Derived.Test.YtbaheiimcnfaaaaGreatJTDropW
namespace Go.Proofs.YtbaheiimcnfaaaaGreat
open Go.RowKit

theorem ownD_at {L : List Fl} {f : Fl} {k : Nat} (hk : k + 1 = (pp f).length) : ownD L f ((pp f).take k) = sz f + own L ((pp f).take k) := by
  unfold ownD
  rw [if_pos]
  rw [List.dropLast_eq_take]; congr 1; omega
theorem ownD_off {L : List Fl} {f : Fl} {k : Nat} (hk : k + 1 < (pp f).length) : ownD L f ((pp f).take k) = own L ((pp f).take k) := by
  unfold ownD
  rw [if_neg, Nat.zero_add]
  intro e
  have := congrArg List.length e
  rw [take_len (by omega)] at this
  simp at this; omega

set_option maxRecDepth 100000 in
set_option maxHeartbeats 4000000 in
theorem drop_any {w : World} {F : Nat → Prop} {t N : Nat} {L : List Fl} (h : TR w F t L N) (hz : Szs L) (p : List UInt8) (hp : p.length ≤ 1000000000) :
    Calls Tryz.prog 51 #[.pointer (some ⟨t, 0, none⟩), .string (bs p)] w fun e w' => e = .returned (.int .i64 (dropE L p)) ∧ Left w w' F t (outF p L) N := by
  have q1 := eqP
  rcases drop_nod h.good p with ⟨e1, e2⟩ | ⟨f, hf, hfp, e1, e2⟩
  · obtain ⟨A, M, h1, h2⟩ := h.open
    have H : Hid (TR w F t L N ∧ Hp w A M N F (st L) (keys (st L)) ∧ TB w t (A []) ∧ p.length ≤ 1000000000) := ⟨h, h1, h2, hp⟩
    have HP : Hid (filP A L p = .pointer none) := by
      show _ = _
      unfold filP
      cases e : nod L p with
      | none => rfl
      | some d =>
        cases d with
        | dir c a o => rfl
        | file s => exact absurd e (e2 s)
    rw [(dropE_none e1).1, (dropE_none e1).2]
    clear h h1 h2 hz hp e1 e2
    go_enter Tryz.func51, Tryz.ntmps51
    go_wp2_with fail
    refine (file0 H.out.1.good H.out.2.1 H.out.2.2.1 p H.out.2.2.2).mono ?_
    rintro e w1 ⟨rfl, hb1⟩
    rw [HP.out]
    have HB : Hid (Below w.heap.size w w1) := hb1
    clear hb1
    go_wp2_with fail
    go_ret
    exact ⟨rfl, Left.same H.out.1 HB.out (Nat.le_refl _)⟩
  · rw [e2]
    have hperm := outF_perm h.good.apart hf
    rw [hfp] at hperm
    obtain ⟨L', hL'⟩ : ∃ L', outF p L = L' := ⟨_, rfl⟩
    rw [hL'] at hperm ⊢
    have h' := h.perm hperm
    have hzf := hz f hf
    have hok := h.good.ok hf
    obtain ⟨A, M, h1, h2⟩ := h'.open
    have hpp : pp f = pcs p := by unfold pp; rw [hfp]
    have htot : ∀ q, tot L' q ≤ 2361183241434822606848 := fun q => tot_small h'.good.tail (fun g hg => hz g (hperm.mem_iff.2 (by simp [hg]))) q
    obtain ⟨z, hzz⟩ : ∃ z, sz f = z := ⟨_, rfl⟩
    rw [hzz] at hzf
    rw [hfp] at hok
    have hnod : nod (f :: L') p = some (.file z) := by
      unfold nod
      rw [hok, if_pos rfl, ← hpp, st_cons_at, hzz]
    have HP : Hid (filP A (f :: L') p = .pointer (some ⟨A (pcs p), 0, none⟩)) := by show _ = _; unfold filP; rw [hnod]
    have H : Hid (TR w F t (f :: L') N ∧ Hp w A M N F (st (f :: L')) (keys (st (f :: L'))) ∧ TB w t (A []) ∧ p.length ≤ 1000000000 ∧ pp f = pcs p ∧ sz f = z ∧ (∀ q, tot L' q ≤ 2361183241434822606848) ∧ okP p = true ∧ GoodT (f :: L')) := ⟨h', h1, h2, hp, hpp, hzz, htot, hok, h'.good⟩
    have hpl := (okP_len hok).2
    rw [← dep_eq] at hpl
    have hpl2 := (okP_len hok).1
    clear h h' h1 h2 hz hf hfp e1 e2 hperm hL' hok hpp htot hzz hnod hp
    go_enter Tryz.func51, Tryz.ntmps51
    go_wp2_with fail
    refine (file0 H.out.2.2.2.2.2.2.2.2 H.out.2.1 H.out.2.2.1 p H.out.2.2.2.1).mono ?_
    rintro e w1 ⟨rfl, hb1⟩
    rw [HP.out]
    have HB1 : Hid (Below w.heap.size w w1) := hb1
    have t0 := (H.out.2.2.1.later hb1).cell
    clear hb1
    go_wp2_with fail
    refine (split_any p _ (by omega)).mono ?_
    rintro e w2 ⟨v, rfl, ho2, hb2⟩
    obtain ⟨a0, c0, rfl, _⟩ := ho2.bs.form
    rename_i q2
    clear q2
    have H2 : Hid (Own w1.heap.size w2 (.slice a0 (pcs p).length c0) (pcs p) ∧ Below w.heap.size w w2) := ⟨ho2, bstep HB1.out hb2⟩
    clear ho2 hb2 t0
    obtain ⟨n, hn⟩ : ∃ n, (pcs p).length = n := ⟨_, rfl⟩
    rw [hn] at hpl ⊢
    have HN : Hid ((pcs p).length = n ∧ (pp f).length = n) := ⟨hn, by rw [H.out.2.2.2.2.1]; exact hn⟩
    clear hn
    go_wp2_with fail
    go_loopw [6, 22] (fun x i wr => ∃ (k : Nat), k ≤ n ∧ i = .int .i64 k ∧ x = .pointer (some ⟨A ((pp f).take k), 0, none⟩) ∧ Hp wr A M N F (midD L' f k) (keyD L' f k) ∧ AK w2 wr ∧ OnlyP F w wr) (fun _ i _ => n - (intOf i).toNat)
    case atStart =>
      refine ⟨0, by omega, rfl, rfl, (H.out.2.1.later H2.out.2).congr (midD_start L' f).symm ?_, AK.refl _, OnlyP.of_below H2.out.2 F⟩
      funext q m
      rw [keyD_start]; rfl
    case round =>
      obtain ⟨k, hk, rfl, rfl, hh, hak, hop⟩ := hrel
      have HH : Hid (Hp wr A M N F (midD L' f k) (keyD L' f k) ∧ AK w2 wr ∧ OnlyP F w wr) := ⟨hh, hak, hop⟩
      clear hh hak hop
      by_cases hlt : k < n
      · have hkf : k < (pp f).length := by have := HN.out.2; omega
        have hkp : k < (pcs p).length := by have := HN.out.1; omega
        obtain ⟨b, off, ea, hbw, d0⟩ := SS.at ((H2.out.1.ak HH.out.2.1).bs) (Below.refl _ _) hkp
        subst ea
        have hxl := pcs_each p H.out.2.2.2.2.2.2.2.1 hkp
        have hsn := take_snocT hkf
        have hxx : (pcs p)[k]'hkp = (pp f)[k]'hkf := by congr 1; exact H.out.2.2.2.2.1.symm
        rw [hxx] at d0 hxl
        have ed := midD_at (L := L') H.out.2.2.2.2.2.2.2.2 (i := k) (j := k) (Nat.le_refl _) hkf
        have ef := midD_leaf L' f k
        have hdrop := keyD_drop (L := L') H.out.2.2.2.2.2.2.2.2 hkf
        have hkx : keyD L' f k ((pp f).take k) ((pp f)[k]'hkf) = true := by
          rw [keyD_old hkf, hsn]
          by_cases hl : k + 1 < (pp f).length
          · rw [st_cons_pre H.out.2.2.2.2.2.2.2.2 (take_pre hl)]; rfl
          · rw [List.take_of_length_le (by omega), st_cons_at]; rfl
        obtain ⟨x, hx⟩ : ∃ x, (pp f)[k]'hkf = x := ⟨_, rfl⟩
        rw [hx] at d0 hxl hsn hdrop hkx
        clear hx hxx
        have hclear := keyD_clear (L := L') hkf
        have hstay := keyD_stay (L := L') H.out.2.2.2.2.2.2.2.2 hkf
        have hnext := midD_next (L := L') hkf
        have hoth : ∀ y m, y ≠ (pp f).take k → keyD L' f (k + 1) y m = keyD L' f k y m := fun y m hy => keyD_other hy m
        obtain ⟨q, hq⟩ : ∃ q, (pp f).take k = q := ⟨_, rfl⟩
        obtain ⟨q1, hq1⟩ : ∃ q1, (pp f).take (k + 1) = q1 := ⟨_, rfl⟩
        rw [hq] at hsn ed hdrop hclear hstay hnext hoth hkx ⊢
        rw [hq1] at hsn hdrop hstay
        rw [H.out.2.2.2.2.2.1] at ed ef
        have hcl := cnt_lt H.out.2.2.2.2.2.2.2.2 q
        have hcl1 := cnt_lt H.out.2.2.2.2.2.2.2.2 q1
        have htl := H.out.2.2.2.2.2.2.1 q
        have hqq : q1 ≠ q := by
          intro e
          rw [← hsn] at e
          have := congrArg List.length e
          simp at this
        obtain ⟨P, hP⟩ : ∃ P, pp f = P := ⟨_, rfl⟩
        have hPq : P ≠ q := by
          intro e
          have h1 := congrArg List.length (hP.trans e)
          rw [← hq, take_len (by omega)] at h1; omega
        obtain ⟨c, hc⟩ : ∃ c, cnt L' q = c := ⟨_, rfl⟩
        obtain ⟨a, ha⟩ : ∃ a, tot L' q = a := ⟨_, rfl⟩
        obtain ⟨o, ho⟩ : ∃ o, (if (pp f).dropLast = q then z else 0) + own L' q = o := ⟨_, rfl⟩
        rw [hc, ha, ho] at ed
        rw [hc] at hcl hclear hnext
        rw [ha] at htl hnext
        have HO : Hid ((if (pp f).dropLast = q then z else 0) + own L' q = o) := ho
        rw [hP] at ef
        have hpv := H.out.2.2.2.2.1
        rw [hP] at hpv
        have HQ : Hid (q ++ [x] = q1 ∧ q1 ≠ q ∧ P ≠ q ∧ (pp f).take k = q ∧ (pp f).take (k + 1) = q1 ∧ pp f = P ∧ pcs p = P) := ⟨hsn, hqq, hPq, hq, hq1, hP, hpv.symm⟩
        have HNX : Hid (upd (midD L' f k) q (some (.dir c a (own L' q))) = midD L' f (k + 1)) := hnext
        have HK : Hid ((∀ y m, y ≠ q → keyD L' f (k + 1) y m = keyD L' f k y m) ∧ (c = 0 → ∀ m, keyD L' f (k + 1) q m = false) ∧ ((k + 1 < (pp f).length → cnt L' q1 = 0) → ∀ m, keyD L' f (k + 1) q m = if m = x then false else keyD L' f k q m) ∧ (k + 1 < (pp f).length → 0 < cnt L' q1 → ∀ m, keyD L' f (k + 1) q m = keyD L' f k q m)) := ⟨hoth, hclear, hdrop, hstay⟩
        have HED : Hid (midD L' f k q = some (.dir (1 + c) (z + a) o) ∧ midD L' f k P = some (.file z)) := ⟨ed, ef⟩
        have HDD : Hid (ND wr (A q) (some (M q)) (1 + c) (z + a) o ∧ MP wr N (M q) (fun m => if keyD L' f k q m then some (A (q ++ [m])) else none) ∧ F (A q) ∧ F (M q)) := HH.out.1.dirs q _ _ _ ed
        have HFN : Hid (ND wr (A P) none 1 z 0) := (HH.out.1.files P _ ef).1
        have hl := HDD.out.2.1.look hxl false
        simp only [hkx, if_true, pv, Bool.false_eq_true, if_false, hsn] at hl
        rw [hpv.symm]
        obtain ⟨y0, _⟩ := HDD.out.1.cells
        obtain ⟨_, f1, f2, f3, _⟩ := HFN.out.cells
        rw [Nat.div_eq_of_lt (show z < 18446744073709551616 by omega)] at f2
        rw [Nat.mod_eq_of_lt (show z < 18446744073709551616 by omega)] at f3
        have k1 : (0 : Int) ≤ (k : Int) := by omega
        have k2 : (k : Int) < (n : Int) := by omega
        clear hoth hclear hdrop hstay hnext hkx ed ef hq hq1 hP ho hc ha hsn hqq hPq f1 hpv
        go_wp2_with fail
        refine (lessZ HDD.out.1 (by omega) (by omega) (by omega) (by omega) (by omega)).mono ?_
        rintro e w4 ⟨rfl, hn4, ho4⟩
        rw [show 1 + c - 1 = c by omega, show z + a - z = a by omega] at hn4
        have H4 : Hid (Hp w4 A M N F (upd (midD L' f k) q (some (.dir c a o))) (keyD L' f k) ∧ AK w2 w4 ∧ OnlyP F w w4 ∧ ND w4 (A q) (some (M q)) c a o) := by
          refine ⟨HH.out.1.set HED.out.1 ho4 hn4, HH.out.2.1.trans (AK.node ho4 HDD.out.1), HH.out.2.2.step ho4 ?_, hn4⟩
          intro i hi
          simp only [List.mem_singleton] at hi
          subst hi
          exact .inl HDD.out.2.2.1
        have HM4 : Hid (MP w4 N (M q) (fun m => if keyD L' f k q m then some (A (q ++ [m])) else none)) := (H4.out.1.dirs q _ _ _ (upd_at _ _ _)).2.1
        obtain ⟨g0, g1, _⟩ := hn4.cells
        clear hn4 ho4 hl y0 d0 f2 f3
        by_cases hlast : k + 1 = n
        · have hPq1 : P = q1 := by
            have h1 := HQ.out.2.2.2.2.1
            have h2 := HQ.out.2.2.2.2.2.1
            rw [List.take_of_length_le (by have := HN.out.2; omega), h2] at h1; exact h1
          subst hPq1
          have hd2 : (if (pp f).dropLast = q then z else 0) = z := by
            rw [if_pos]
            rw [List.dropLast_eq_take, ← HQ.out.2.2.2.1]; congr 1; have := HN.out.2; omega
          have HOO : Hid (z + own L' q = o) := by have := HO.out; rw [hd2] at this; exact this
          clear hd2
          obtain ⟨_, j1, j2, j3, _⟩ := (H4.out.1.files P z (by rw [upd_ne _ _ HQ.out.2.1]; exact HED.out.2)).1.cells
          by_cases hc0 : c = 0
          · subst hc0
            have HX4 : Hid (∀ W, Only [M q] w4 W → Calls Tryz.prog 84 #[.pointer (some ⟨A P, 0, none⟩)] W fun e w' => e = .returned (.bool true) ∧ w' = W) := by
              intro W hW
              have hnx := (H4.out.1.files P z (by rw [upd_ne _ _ HQ.out.2.1]; exact HED.out.2)).1
              have hne : A P ≠ M q := hnx.ne HM4.out
              exact isFile_any (hnx.block (hW.block _ hnx.lt (by simpa using hne)))
            go_wp2_with (refine wp_clear HM4.out rfl _ rfl rfl ?_; intro w5 hm5 ho5 hz5)
            have H5 : Hid (Hp w5 A M N F (upd (midD L' f k) q (some (.dir 0 a o))) (keyD L' f (k + 1)) ∧ AK w2 w5 ∧ OnlyP F w w5 ∧ Only [M q] w4 w5) := by
              have hqd : upd (midD L' f k) q (some (.dir 0 a o)) q = some (.dir 0 a o) := upd_at _ _ _
              refine ⟨H4.out.1.setMap hqd ho5 (hm5.congr fun m => ?_) HK.out.1, H4.out.2.1.trans (AK.map ho5 HM4.out), H4.out.2.2.1.step ho5 ?_, ho5⟩
              · have := HK.out.2.1 (by simp) m; simp [this]
              · intro i hi
                simp only [List.mem_singleton] at hi
                subst hi
                exact .inl HDD.out.2.2.2
            clear hm5 ho5 hz5 g0 g1
            refine (HX4.out _ H5.out.2.2.2).mono ?_
            rintro e w6 ⟨rfl, hw6⟩
            subst hw6

            have hnd5 := (H5.out.1.dirs q _ _ _ (upd_at _ _ _)).1
            have hnf5 := (H5.out.1.files P z (by rw [upd_ne _ _ HQ.out.2.1]; exact HED.out.2)).1
            have hFA := (H5.out.1.dirs q _ _ _ (upd_at _ _ _)).2.2.1
            have HPL : Hid (∀ W, Calls Tryz.prog 85 #[.agg #[.int .u64 (o / 18446744073709551616 : Nat), .int .u64 (o % 18446744073709551616 : Nat)], .agg #[.int .u64 0, .int .u64 z]] W fun e W' => e = .returned (.agg #[.int .u64 (own L' q / 18446744073709551616 : Nat), .int .u64 (own L' q % 18446744073709551616 : Nat)]) ∧ Below W.heap.size W W') := by
              intro W
              have hol : own L' q ≤ 2361183241434822606848 := Nat.le_trans (own_le H.out.2.2.2.2.2.2.2.2.tail.ne) (H.out.2.2.2.2.2.2.1 q)
              have := minusT_any o z (by have := HOO.out; omega) (by have := HOO.out; omega) W
              rw [sumv_small (z := z) (by omega), show o - z = own L' q by have := HOO.out; omega] at this
              exact this
            obtain ⟨g, hgg⟩ : ∃ g, A q = g := ⟨_, rfl⟩
            obtain ⟨r, hrr⟩ : ∃ r, A P = r := ⟨_, rfl⟩
            have hnc := hnd5.nc
            rw [hgg] at hnc ⊢
            rw [hrr] at hnf5 ⊢
            obtain ⟨ph, hph⟩ : ∃ x, o / 18446744073709551616 = x := ⟨_, rfl⟩
            obtain ⟨pl, hpl2⟩ : ∃ x, o % 18446744073709551616 = x := ⟨_, rfl⟩
            obtain ⟨rh, hrh⟩ : ∃ x, own L' q / 18446744073709551616 = x := ⟨_, rfl⟩
            obtain ⟨rl, hrl⟩ : ∃ x, own L' q % 18446744073709551616 = x := ⟨_, rfl⟩
            rw [hph, hpl2] at hnc HPL
            rw [hrh, hrl] at HPL
            have HNC : Hid (NC w6 g (some (M q)) 0 (a / 18446744073709551616) (a % 18446744073709551616) ph pl ∧ A q = g ∧ own L' q / 18446744073709551616 = rh ∧ own L' q % 18446744073709551616 = rl ∧ ND w6 (A q) (some (M q)) 0 a o ∧ F (A q) ∧ A P = r) := ⟨hnc, hgg, hrh, hrl, hnd5, hFA, hrr⟩
            obtain ⟨_, _, _, _, c4, c5⟩ := hnc.cells
            obtain ⟨_, _, b2, b3, _⟩ := hnf5.cells
            rw [Nat.div_eq_of_lt (show z < 18446744073709551616 by omega)] at b2
            rw [Nat.mod_eq_of_lt (show z < 18446744073709551616 by omega)] at b3
            have f4 := hnc.soft 4
            have f5 := hnc.soft 5
            have hgl := hnc.lt
            have hrl2 := hnf5.lt
            have HF : Hid (w6.frozen? ⟨g, 4, none⟩ = false ∧ w6.frozen? ⟨g, 5, none⟩ = false ∧ g < w6.heap.size) := ⟨f4, f5, hgl⟩
            clear hnc hgg hrr hph hpl2 hrh hrl hnd5 hnf5 hFA
            go_wp2_with fail
            go_region_with (go_at_call 85; refine (HPL.out _).mono ?_; rintro e w7 ⟨rfl, hb7⟩; have m4 : w7.frozen? ⟨g, 4, none⟩ = false := (hb7.frozen (p := ⟨g, 4, none⟩) HF.out.2.2).trans HF.out.1; have m5 : w7.frozen? ⟨g, 5, none⟩ = false := (hb7.frozen (p := ⟨g, 5, none⟩) HF.out.2.2).trans HF.out.2.1; have e4 : w7.cell? ⟨g, 4, none⟩ = some (.int .u64 ph) := (hb7.cell (p := ⟨g, 4, none⟩) HF.out.2.2).trans c4; have e5 : w7.cell? ⟨g, 5, none⟩ = some (.int .u64 pl) := (hb7.cell (p := ⟨g, 5, none⟩) HF.out.2.2).trans c5)
            all_goals
              have hb8 : Below w6.heap.size w6 w7 := bstep (Below.refl _ _).drew hb7
              obtain ⟨w8, hw8⟩ : ∃ w8, (w7.setCell ⟨g, 4, none⟩ (.int .u64 rh)).setCell ⟨g, 5, none⟩ (.int .u64 rl) = w8 := ⟨_, rfl⟩
              have H8 : Hid (Hp w8 A M N F (midD L' f (k + 1)) (keyD L' f (k + 1)) ∧ AK w2 w8 ∧ OnlyP F w w8) := by
                have ho8 : Only [g] w6 w8 := by
                  rw [← hw8]
                  exact (Only.of_below hb8 _).trans ((Only.set _ _ _ _).trans (Only.set _ _ _ _))
                have hn8 : NC w8 g (some (M q)) 0 (a / 18446744073709551616) (a % 18446744073709551616) rh rl := by
                  rw [← hw8]
                  exact (HNC.out.1.later hb8).own rh rl
                obtain ⟨_, e1, e2, e3, e4', e5', _⟩ := HNC.out
                rw [← e1] at ho8 hn8
                have hn9 : ND w8 (A q) (some (M q)) 0 a (own L' q) := ⟨by rw [e2, e3]; exact hn8.blk⟩
                have hset := H5.out.1.set (upd_at _ _ _) ho8 hn9
                rw [upd_upd, HNX.out] at hset
                refine ⟨hset, H5.out.2.1.trans (AK.node ho8 e4'), H5.out.2.2.1.step ho8 ?_⟩
                intro i hi
                simp only [List.mem_singleton] at hi
                subst hi
                exact .inl e5'
              rw [hw8]
              clear hw8 hb7 hb8 m4 m5 e4 e5
              have er := HNC.out.2.2.2.2.2.2
              subst er
              go_wp2_with fail
              go_roundw
              case rel => exact ⟨k + 1, by omega, by go_num, by rw [HQ.out.2.2.2.2.1], H8.out.1, H8.out.2.1, H8.out.2.2⟩
              case measure => simp [intOf]; omega
          · have hcb : ((c : Int) == 0) = false := by rw [beq_eq_false_iff_ne]; omega
            have HX4 : Hid (∀ W, Only [M q] w4 W → Calls Tryz.prog 84 #[.pointer (some ⟨A P, 0, none⟩)] W fun e w' => e = .returned (.bool true) ∧ w' = W) := by
              intro W hW
              have hnx := (H4.out.1.files P z (by rw [upd_ne _ _ HQ.out.2.1]; exact HED.out.2)).1
              have hne : A P ≠ M q := hnx.ne HM4.out
              exact isFile_any (hnx.block (hW.block _ hnx.lt (by simpa using hne)))
            go_wp2_with (at_delete; refine wp_del HM4.out hxl rfl _ _ rfl rfl rfl ?_; intro w5 hm5 ho5 hz5)
            have H5 : Hid (Hp w5 A M N F (upd (midD L' f k) q (some (.dir c a o))) (keyD L' f (k + 1)) ∧ AK w2 w5 ∧ OnlyP F w w5 ∧ Only [M q] w4 w5) := by
              have hqd : upd (midD L' f k) q (some (.dir c a o)) q = some (.dir c a o) := upd_at _ _ _
              refine ⟨H4.out.1.setMap hqd ho5 (hm5.congr fun m => ?_) HK.out.1, H4.out.2.1.trans (AK.map ho5 HM4.out), H4.out.2.2.1.step ho5 ?_, ho5⟩
              · have := HK.out.2.2.1 (fun h => by have := HN.out.2; omega) m; simp only [this]; by_cases e : m = x <;> simp [e]
              · intro i hi
                simp only [List.mem_singleton] at hi
                subst hi
                exact .inl HDD.out.2.2.2
            clear hm5 ho5 hz5 g0 g1
            refine (HX4.out _ H5.out.2.2.2).mono ?_
            rintro e w6 ⟨rfl, hw6⟩
            subst hw6

            have hnd5 := (H5.out.1.dirs q _ _ _ (upd_at _ _ _)).1
            have hnf5 := (H5.out.1.files P z (by rw [upd_ne _ _ HQ.out.2.1]; exact HED.out.2)).1
            have hFA := (H5.out.1.dirs q _ _ _ (upd_at _ _ _)).2.2.1
            have HPL : Hid (∀ W, Calls Tryz.prog 85 #[.agg #[.int .u64 (o / 18446744073709551616 : Nat), .int .u64 (o % 18446744073709551616 : Nat)], .agg #[.int .u64 0, .int .u64 z]] W fun e W' => e = .returned (.agg #[.int .u64 (own L' q / 18446744073709551616 : Nat), .int .u64 (own L' q % 18446744073709551616 : Nat)]) ∧ Below W.heap.size W W') := by
              intro W
              have hol : own L' q ≤ 2361183241434822606848 := Nat.le_trans (own_le H.out.2.2.2.2.2.2.2.2.tail.ne) (H.out.2.2.2.2.2.2.1 q)
              have := minusT_any o z (by have := HOO.out; omega) (by have := HOO.out; omega) W
              rw [sumv_small (z := z) (by omega), show o - z = own L' q by have := HOO.out; omega] at this
              exact this
            obtain ⟨g, hgg⟩ : ∃ g, A q = g := ⟨_, rfl⟩
            obtain ⟨r, hrr⟩ : ∃ r, A P = r := ⟨_, rfl⟩
            have hnc := hnd5.nc
            rw [hgg] at hnc ⊢
            rw [hrr] at hnf5 ⊢
            obtain ⟨ph, hph⟩ : ∃ x, o / 18446744073709551616 = x := ⟨_, rfl⟩
            obtain ⟨pl, hpl2⟩ : ∃ x, o % 18446744073709551616 = x := ⟨_, rfl⟩
            obtain ⟨rh, hrh⟩ : ∃ x, own L' q / 18446744073709551616 = x := ⟨_, rfl⟩
            obtain ⟨rl, hrl⟩ : ∃ x, own L' q % 18446744073709551616 = x := ⟨_, rfl⟩
            rw [hph, hpl2] at hnc HPL
            rw [hrh, hrl] at HPL
            have HNC : Hid (NC w6 g (some (M q)) c (a / 18446744073709551616) (a % 18446744073709551616) ph pl ∧ A q = g ∧ own L' q / 18446744073709551616 = rh ∧ own L' q % 18446744073709551616 = rl ∧ ND w6 (A q) (some (M q)) c a o ∧ F (A q) ∧ A P = r) := ⟨hnc, hgg, hrh, hrl, hnd5, hFA, hrr⟩
            obtain ⟨_, _, _, _, c4, c5⟩ := hnc.cells
            obtain ⟨_, _, b2, b3, _⟩ := hnf5.cells
            rw [Nat.div_eq_of_lt (show z < 18446744073709551616 by omega)] at b2
            rw [Nat.mod_eq_of_lt (show z < 18446744073709551616 by omega)] at b3
            have f4 := hnc.soft 4
            have f5 := hnc.soft 5
            have hgl := hnc.lt
            have hrl2 := hnf5.lt
            have HF : Hid (w6.frozen? ⟨g, 4, none⟩ = false ∧ w6.frozen? ⟨g, 5, none⟩ = false ∧ g < w6.heap.size) := ⟨f4, f5, hgl⟩
            clear hnc hgg hrr hph hpl2 hrh hrl hnd5 hnf5 hFA
            go_wp2_with fail
            go_region_with (go_at_call 85; refine (HPL.out _).mono ?_; rintro e w7 ⟨rfl, hb7⟩; have m4 : w7.frozen? ⟨g, 4, none⟩ = false := (hb7.frozen (p := ⟨g, 4, none⟩) HF.out.2.2).trans HF.out.1; have m5 : w7.frozen? ⟨g, 5, none⟩ = false := (hb7.frozen (p := ⟨g, 5, none⟩) HF.out.2.2).trans HF.out.2.1; have e4 : w7.cell? ⟨g, 4, none⟩ = some (.int .u64 ph) := (hb7.cell (p := ⟨g, 4, none⟩) HF.out.2.2).trans c4; have e5 : w7.cell? ⟨g, 5, none⟩ = some (.int .u64 pl) := (hb7.cell (p := ⟨g, 5, none⟩) HF.out.2.2).trans c5)
            all_goals
              have hb8 : Below w6.heap.size w6 w7 := bstep (Below.refl _ _).drew hb7
              obtain ⟨w8, hw8⟩ : ∃ w8, (w7.setCell ⟨g, 4, none⟩ (.int .u64 rh)).setCell ⟨g, 5, none⟩ (.int .u64 rl) = w8 := ⟨_, rfl⟩
              have H8 : Hid (Hp w8 A M N F (midD L' f (k + 1)) (keyD L' f (k + 1)) ∧ AK w2 w8 ∧ OnlyP F w w8) := by
                have ho8 : Only [g] w6 w8 := by
                  rw [← hw8]
                  exact (Only.of_below hb8 _).trans ((Only.set _ _ _ _).trans (Only.set _ _ _ _))
                have hn8 : NC w8 g (some (M q)) c (a / 18446744073709551616) (a % 18446744073709551616) rh rl := by
                  rw [← hw8]
                  exact (HNC.out.1.later hb8).own rh rl
                obtain ⟨_, e1, e2, e3, e4', e5', _⟩ := HNC.out
                rw [← e1] at ho8 hn8
                have hn9 : ND w8 (A q) (some (M q)) c a (own L' q) := ⟨by rw [e2, e3]; exact hn8.blk⟩
                have hset := H5.out.1.set (upd_at _ _ _) ho8 hn9
                rw [upd_upd, HNX.out] at hset
                refine ⟨hset, H5.out.2.1.trans (AK.node ho8 e4'), H5.out.2.2.1.step ho8 ?_⟩
                intro i hi
                simp only [List.mem_singleton] at hi
                subst hi
                exact .inl e5'
              rw [hw8]
              clear hw8 hb7 hb8 m4 m5 e4 e5
              have er := HNC.out.2.2.2.2.2.2
              subst er
              go_wp2_with fail
              go_roundw
              case rel => exact ⟨k + 1, by omega, by go_num, by rw [HQ.out.2.2.2.2.1], H8.out.1, H8.out.2.1, H8.out.2.2⟩
              case measure => simp [intOf]; omega
        · have hkl1 : k + 1 < (pp f).length := by have := HN.out.2; omega
          have hd2 : (if (pp f).dropLast = q then z else 0) = 0 := by
            rw [if_neg]
            intro e
            have h1 := congrArg List.length (e.trans HQ.out.2.2.2.1.symm)
            rw [take_len (by omega)] at h1
            simp at h1; omega
          have hoo := HO.out
          rw [hd2, Nat.zero_add] at hoo
          rw [hoo] at HNX
          clear hd2 hoo
          have e1 := midD_at (L := L') H.out.2.2.2.2.2.2.2.2 (i := k) (j := k + 1) (by omega) hkl1
          rw [HQ.out.2.2.2.2.1] at e1
          have hnd1 := (H4.out.1.dirs q1 _ _ _ (by rw [upd_ne _ _ HQ.out.2.1]; exact e1)).1
          obtain ⟨i0, i1, _⟩ := hnd1.cells
          have HI : Hid (ND w4 (A q1) (some (M q1)) (1 + cnt L' q1) (sz f + tot L' q1) ((if (pp f).dropLast = q1 then sz f else 0) + own L' q1)) := hnd1
          obtain ⟨d, hd⟩ : ∃ d, cnt L' q1 = d := ⟨_, rfl⟩
          rw [hd] at i1 HK hcl1
          have HD : Hid (cnt L' q1 = d) := hd
          clear e1 hnd1 hd i0
          by_cases hc0 : c = 0
          · subst hc0
            have HX4 : Hid (∀ W, Only [M q] w4 W → Calls Tryz.prog 84 #[.pointer (some ⟨A q1, 0, none⟩)] W fun e w' => e = .returned (.bool false) ∧ w' = W) := by
              intro W hW
              have hnx := HI.out
              have hne : A q1 ≠ M q := hnx.ne HM4.out
              exact isFile_any (hnx.block (hW.block _ hnx.lt (by simpa using hne)))
            go_wp2_with (refine wp_clear HM4.out rfl _ rfl rfl ?_; intro w5 hm5 ho5 hz5)
            have H5 : Hid (Hp w5 A M N F (upd (midD L' f k) q (some (.dir 0 a o))) (keyD L' f (k + 1)) ∧ AK w2 w5 ∧ OnlyP F w w5 ∧ Only [M q] w4 w5) := by
              have hqd : upd (midD L' f k) q (some (.dir 0 a o)) q = some (.dir 0 a o) := upd_at _ _ _
              refine ⟨H4.out.1.setMap hqd ho5 (hm5.congr fun m => ?_) HK.out.1, H4.out.2.1.trans (AK.map ho5 HM4.out), H4.out.2.2.1.step ho5 ?_, ho5⟩
              · have := HK.out.2.1 (by simp) m; simp [this]
              · intro i hi
                simp only [List.mem_singleton] at hi
                subst hi
                exact .inl HDD.out.2.2.2
            clear hm5 ho5 hz5 g0 g1
            refine (HX4.out _ H5.out.2.2.2).mono ?_
            rintro e w6 ⟨rfl, hw6⟩
            subst hw6

            go_wp2_with fail
            go_roundw
            case rel => exact ⟨k + 1, by omega, by go_num, by rw [HQ.out.2.2.2.2.1], H5.out.1.congr HNX.out rfl, H5.out.2.1, H5.out.2.2.1⟩
            case measure => simp [intOf]; omega
          · have hcb : ((c : Int) == 0) = false := by rw [beq_eq_false_iff_ne]; omega
            by_cases hd0 : d = 0
            · subst hd0
              have HX4 : Hid (∀ W, Only [M q] w4 W → Calls Tryz.prog 84 #[.pointer (some ⟨A q1, 0, none⟩)] W fun e w' => e = .returned (.bool false) ∧ w' = W) := by
                intro W hW
                have hnx := HI.out
                have hne : A q1 ≠ M q := hnx.ne HM4.out
                exact isFile_any (hnx.block (hW.block _ hnx.lt (by simpa using hne)))
              go_wp2_with (at_delete; refine wp_del HM4.out hxl rfl _ _ rfl rfl rfl ?_; intro w5 hm5 ho5 hz5)
              have H5 : Hid (Hp w5 A M N F (upd (midD L' f k) q (some (.dir c a o))) (keyD L' f (k + 1)) ∧ AK w2 w5 ∧ OnlyP F w w5 ∧ Only [M q] w4 w5) := by
                have hqd : upd (midD L' f k) q (some (.dir c a o)) q = some (.dir c a o) := upd_at _ _ _
                refine ⟨H4.out.1.setMap hqd ho5 (hm5.congr fun m => ?_) HK.out.1, H4.out.2.1.trans (AK.map ho5 HM4.out), H4.out.2.2.1.step ho5 ?_, ho5⟩
                · have := HK.out.2.2.1 (fun _ => by simp) m; simp only [this]; by_cases e : m = x <;> simp [e]
                · intro i hi
                  simp only [List.mem_singleton] at hi
                  subst hi
                  exact .inl HDD.out.2.2.2
              clear hm5 ho5 hz5 g0 g1
              refine (HX4.out _ H5.out.2.2.2).mono ?_
              rintro e w6 ⟨rfl, hw6⟩
              subst hw6

              go_wp2_with fail
              go_roundw
              case rel => exact ⟨k + 1, by omega, by go_num, by rw [HQ.out.2.2.2.2.1], H5.out.1.congr HNX.out rfl, H5.out.2.1, H5.out.2.2.1⟩
              case measure => simp [intOf]; omega
            · have hdb : ((((1 + d : Nat) : Int)) == 1) = false := by rw [beq_eq_false_iff_ne]; omega
              have HX4 : Hid (∀ W, w4 = W → Calls Tryz.prog 84 #[.pointer (some ⟨A q1, 0, none⟩)] W fun e w' => e = .returned (.bool false) ∧ w' = W) := by
                rintro W rfl
                exact isFile_any HI.out
              go_wp2_with fail
              refine (HX4.out _ rfl).mono ?_
              rintro e w6 ⟨rfl, hw5⟩
              subst hw5
              have hkk : keyD L' f k = keyD L' f (k + 1) := by
                funext y m
                by_cases e : y = q
                · rw [e, HK.out.2.2.2 hkl1 (by omega) m]
                · exact (HK.out.1 y m e).symm
              have H5 : Hid (Hp w6 A M N F (upd (midD L' f k) q (some (.dir c a o))) (keyD L' f (k + 1)) ∧ AK w2 w6 ∧ OnlyP F w w6) := ⟨H4.out.1.congr rfl hkk, H4.out.2.1, H4.out.2.2.1⟩
              clear hkk g0 g1

              go_wp2_with fail
              go_roundw
              case rel => exact ⟨k + 1, by omega, by go_num, by rw [HQ.out.2.2.2.2.1], H5.out.1.congr HNX.out rfl, H5.out.2.1, H5.out.2.2⟩
              case measure => simp [intOf]; omega
      · obtain rfl : k = n := by omega
        go_wp2_with fail
        go_ret
        have e2 := HN.out.2
        have hh := HH.out.1
        rw [← e2] at hh
        have hfin : Hp wr A M N F (st L') (keys (st L')) := hh.less (fun q d hd => midD_end H.out.2.2.2.2.2.2.2.2 hd) (fun q m => keyD_end H.out.2.2.2.2.2.2.2.2 q m)
        refine ⟨rfl, ⟨⟨H.out.2.2.2.2.2.2.2.2.tail, ⟨A, M, hfin.wider (fun i hi => .inl hi) (Nat.le_refl _), ((H.out.2.2.1.later H2.out.2).ak HH.out.2.1).blk⟩, .inl H.out.1.own, fun i hi => ?_⟩, (AK.of_below H2.out.2).trans HH.out.2.1, HH.out.2.2⟩⟩
        rcases hi with hi | hi
        · exact Nat.lt_of_lt_of_le (H.out.1.lt i hi) HH.out.2.2.size
        · exact hi.2
end Go.Proofs.YtbaheiimcnfaaaaGreat
