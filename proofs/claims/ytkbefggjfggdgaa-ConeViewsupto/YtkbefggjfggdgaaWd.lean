/-
  wider: each cone in turn gives way to the directory above it.
-/
import Derived.Test.YtkbefggjfggdgaaCv
import Derived.Test.YtkbefggjfggdgaaFq
namespace Go.Proofs.Ytkbefggjfggdgaa
open Go.RowKit

theorem wid_len {d : List UInt8} : ∀ {k : List (List UInt8)} {b : Bool}, (wid d b k).length ≤ k.length
  | [], _ => by simp [wid]
  | c :: r, b => by
    have h1 := wid_len (d := d) (k := r) (b := b)
    have h2 := wid_len (d := d) (k := r) (b := true)
    unfold wid
    split
    · split
      · simp only [List.length_cons]; omega
      · simp only [List.length_cons]; omega
    · simp only [List.length_cons]; omega
theorem Sm.wid {d : List UInt8} {k : List (List UInt8)} (h : Sm k) (hd : d.length ≤ 1000000000) (b : Bool) : Sm (wid d b k) :=
  ⟨Nat.le_trans wid_len h.len, fun x hx => by
    rcases wid_mem hx with ⟨rfl, _⟩ | ⟨hk, _⟩
    · exact hd
    · exact h.each x hk⟩

set_option maxRecDepth 100000 in
set_option maxHeartbeats 4000000 in
theorem wider_any (C : CC) {w : World} {v0 v1 v2 : Value} {l V : List Fl} {k : List (List UInt8)} (hl : FS w v0 l) (sl : FSm l) (hk : SS w v1 k) (sk : Sm k) (hv : FS w v2 V) (sv : FSm V)
    (hok : validE l = 0) (hkk : coneE k = 0) (hV : V = l.filter fun f => shw k f.path) :
    Calls Try.prog 15 #[v0, v1, v2] w fun e w' => e = .returned (.bool true) ∧ Below w.heap.size w w' := by
  obtain ⟨a1, c1, n1, hn1, rfl, -⟩ := hk.form'
  obtain ⟨a2, c2, rfl⟩ : ∃ a c, v2 = .slice a V.length c := by obtain ⟨a, c, h, _⟩ := hv.form; exact ⟨a, c, h⟩
  obtain ⟨n2, hn2⟩ : ∃ n2, V.length = n2 := ⟨_, rfl⟩
  rw [hn2] at hv ⊢
  have HC : Hid CC := C
  have H0 : Hid (FS w v0 l ∧ FSm l ∧ SS w (.slice a1 n1 c1) k ∧ Sm k ∧ FS w (.slice a2 n2 c2) V ∧ FSm V) := ⟨hl, sl, hk, sk, hv, sv⟩
  have H1 : Hid (validE l = 0 ∧ coneE k = 0 ∧ V = l.filter fun f => shw k f.path) := ⟨hok, hkk, hV⟩
  have HN : Hid (n1 = k.length ∧ n2 = V.length) := ⟨hn1, hn2.symm⟩
  have hnl : n1 ≤ 4000000 := by rw [hn1]; exact sk.len
  have hnv : n2 ≤ 1000000000 := by rw [← hn2]; exact sv.len
  obtain ⟨G, hG⟩ : ∃ G, w.heap.size = G := ⟨_, rfl⟩
  have hga : w.heap.size ≤ G := by omega
  clear hl sl hk sk hv sv hok hkk hV hn1 hn2 C
  go_enter Try.func15, Try.ntmps15
  go_wp2_with fail
  go_loopw [7] (fun i wr => ∃ t : Nat, t ≤ n1 ∧ i = .int .i64 t ∧ Below G w wr) (fun i _ => n1 - (intOf i).toNat)
  case atStart => exact ⟨0, Nat.zero_le _, rfl, Below.refl _ _⟩
  case round =>
    obtain ⟨i, hi, rfl, hbw⟩ := hrel
    have HW : Hid (Below G w wr) := hbw
    have hz : G ≤ wr.heap.size := by have := hbw.size; omega
    have HS : Hid (FS wr v0 l ∧ SS wr (.slice a1 n1 c1) k ∧ FS wr (.slice a2 n2 c2) V) := by
      rw [← hG] at hbw
      exact ⟨H0.out.1.later hbw, H0.out.2.2.1.later hbw, H0.out.2.2.2.2.1.later hbw⟩
    clear hbw
    by_cases hlt : i < n1
    · have hlt2 : i < k.length := by have := HN.out.1; omega
      obtain ⟨a0, c0, e0, c00⟩ := HS.out.2.1.form
      injection e0 with e1 e2 e3
      subst e1 e3
      obtain ⟨g1, o1, rfl, hg1, d1⟩ := c00 i hlt2
      have hpl := H0.out.2.2.2.1.at hlt2
      obtain ⟨c, hc⟩ : ∃ c, k[i]'hlt2 = c := ⟨_, rfl⟩
      have HCk : Hid (c ∈ k) := by rw [← hc]; exact List.getElem_mem _
      rw [hc] at d1 hpl
      have HPL : Hid (c.length ≤ 1000000000) := hpl
      clear hc hpl c00 e2
      go_wp2_with fail
      refine (dir_any c _ (by have := HPL.out; omega)).mono ?_
      rintro e wd ⟨rfl, ed⟩
      rw [ed]
      clear ed
      obtain ⟨d, hd⟩ : ∃ d, dir c = d := ⟨_, rfl⟩
      rw [hd]
      have HD : Hid (dir c = d ∧ d.length ≤ 1000000000) := ⟨hd, by rw [← hd]; have := dir_len c; have := HPL.out; omega⟩
      clear hd d1
      go_upto_region 6 with fail
      obtain ⟨v9, hv9⟩ : ∃ v9, Value.slice none 0 0 = v9 := ⟨_, rfl⟩
      have HV9 : Hid (Own wr.heap.size wr v9 []) := by rw [← hv9]; exact Own.nil _ _
      rw [hv9]
      clear hv9
      go_wp2_with fail
      obtain ⟨B, hB⟩ : ∃ B, wr.heap.size = B := ⟨_, rfl⟩
      obtain ⟨KW, hKW⟩ : ∃ KW : World → Prop, ∀ wi, KW wi ↔ Below B wr wi := ⟨fun wi => Below B wr wi, fun _ => Iff.rfl⟩
      have HKW : Hid (KW wr ∧ (∀ wi wj, KW wi → Below B wi wj → KW wj) ∧ (∀ wi, KW wi → B ≤ wi.heap.size ∧ SS wi (.slice (some ⟨g1, o1, none⟩) n1 c1) k ∧ FS wi v0 l ∧ FS wi (.slice a2 n2 c2) V ∧ Below G w wi)) := by
        refine (⟨(hKW wr).2 (Below.refl _ _), fun wi wj h1 h2 => (hKW wj).2 (below_trans ((hKW wi).1 h1) h2), fun wi h1 => ?_⟩ : _ ∧ _ ∧ _)
        have h2 := (hKW wi).1 h1
        have h3 := h2.size
        have h4 : Below G w wi := below_trans HW.out (below_mono h2 (by omega))
        rw [← hB] at h2
        exact ⟨by omega, HS.out.2.1.later h2, HS.out.1.later h2, HS.out.2.2.later h2, h4⟩
      rw [hB] at HV9
      clear hKW HW HS
      go_loopw [9, 10, 11] (fun m dn j wi => ∃ (t : Nat) (M : List (List UInt8)) (b : Bool), t ≤ n1 ∧ j = .int .i64 t ∧ dn = .bool b ∧ Own B wi m M ∧ M ++ wid d b (k.drop t) = wid d false k ∧ KW wi) (fun _ _ j _ => n1 - (intOf j).toNat)
      case atStart => exact ⟨0, [], false, Nat.zero_le _, rfl, rfl, HV9.out, rfl, HKW.out.1⟩
      case round =>
        obtain ⟨t, M, b, ht, rfl, rfl, ho, he, hkw⟩ := hrel
        have HO : Hid (Own B wr u9 M) := ho
        have HE : Hid (M ++ wid d b (k.drop t) = wid d false k) := he
        have HKi : Hid (KW wr) := hkw
        have hz2 : B ≤ wr.heap.size := (HKW.out.2.2 _ hkw).1
        have HM : Hid (M.length + 1 ≤ 8796093022208) := by
          have h1 : M.length ≤ (wid d false k).length := by rw [← he, List.length_append]; omega
          have h2 := wid_len (d := d) (k := k) (b := false)
          have h3 := HN.out.1
          show M.length + 1 ≤ 8796093022208
          omega
        clear ho he hkw
        by_cases htl : t < n1
        · have ht2 : t < k.length := by have := HN.out.1; omega
          obtain ⟨a0, c0, e0, c00⟩ := (HKW.out.2.2 _ HKi.out).2.1.form
          injection e0 with e1 e2 e3
          subst e1 e3
          obtain ⟨g2, o2, e4, hg2, d2⟩ := c00 t ht2
          injection e4 with e4
          injection e4 with e5 e6
          subst e5 e6
          have hpl := H0.out.2.2.2.1.at ht2
          have hu : wid d b (k.drop t) = if (decide ((k[t]'ht2) = d) || abvV d (k[t]'ht2)) = true then (if b then wid d true (k.drop (t + 1)) else d :: wid d true (k.drop (t + 1))) else (k[t]'ht2) :: wid d b (k.drop (t + 1)) := by
            rw [List.drop_eq_getElem_cons ht2]; rfl
          obtain ⟨x, hx⟩ : ∃ x, k[t]'ht2 = x := ⟨_, rfl⟩
          simp only [hx] at d2 hpl hu
          have HXL : Hid (x.length ≤ 1000000000) := hpl
          have HU : Hid (wid d b (k.drop t) = if (decide (x = d) || abvV d x) = true then (if b then wid d true (k.drop (t + 1)) else d :: wid d true (k.drop (t + 1))) else x :: wid d b (k.drop (t + 1))) := hu
          have t1 : (bs d).toList = d := bs_toList _
          have t2 : (bs x).toList = x := bs_toList _
          clear hx hpl hu c00 e2
          by_cases hxd : x = d
          · subst hxd
            have hw : (decide (x = x) || abvV x x) = true := by simp
            cases b with
            | false =>
              have HE5 : Hid ((M ++ [x]) ++ wid x true (k.drop (t + 1)) = wid x false k) := by
                show _ = _; rw [← HE.out, HU.out, hw]; simp
              clear HE HU
              go_wp2_with (at_builtin; refine app_one (base := B) (v := u9) (l := M) x HO.out HM.out (HKW.out.2.2 _ HKi.out).1 rfl (.tmp 48) (.tmp 50) rfl rfl rfl ?_; intro v5 w5 o5 b5 _ _ _)
              have HO5 : Hid (Own B w5 v5 (M ++ [x])) := o5
              have HK5 : Hid (KW w5) := HKW.out.2.1 _ _ HKi.out b5
              clear o5 b5
              go_wp2_with fail
              go_roundw
              case rel => exact ⟨t + 1, _, _, by omega, by go_num, rfl, HO5.out, HE5.out, HK5.out⟩
              case measure => simp [intOf]; omega
            | true =>
              have HE5 : Hid (M ++ wid x true (k.drop (t + 1)) = wid x false k) := by
                show _ = _; rw [← HE.out, HU.out, hw]; simp
              have HO5 : Hid (Own B wr u9 M) := HO.out
              have HK5 : Hid (KW wr) := HKi.out
              clear HE HU
              go_wp2_with fail
              go_roundw
              case rel => exact ⟨t + 1, _, _, by omega, by go_num, rfl, HO5.out, HE5.out, HK5.out⟩
              case measure => simp [intOf]; omega
          · have t3 : (x == d) = false := by rw [beq_eq_false_iff_ne]; exact hxd
            have HXD : Hid (decide (x = d) = false) := decide_eq_false hxd
            clear hxd
            go_wp2_with fail
            refine (above_any d x _ (by have := HD.out.2; omega) (by have := HXL.out; omega)).mono ?_
            rintro e w4 ⟨rfl, b4⟩
            have HK4 : Hid (KW w4) := HKW.out.2.1 _ _ HKi.out (below_mono b4.below' hz2)
            have HO4 : Hid (Own B w4 u9 M) := HO.out.later b4.below'
            have d4 : w4.cell? ⟨g1, o1 + t, none⟩ = some (.string (bs x)) := by rw [b4.below'.cell (p := ⟨g1, o1 + t, none⟩) hg2]; exact d2
            clear b4 d2
            cases hab : abvV d x with
            | true =>
              have HW3 : Hid ((decide (x = d) || abvV d x) = true) := by show _ = _; rw [hab]; simp
              clear hab
              cases b with
              | false =>
                have HE5 : Hid ((M ++ [d]) ++ wid d true (k.drop (t + 1)) = wid d false k) := by
                  show _ = _; rw [← HE.out, HU.out, HW3.out]; simp
                clear HE HU
                go_wp2_with (at_builtin; refine app_one (base := B) (v := u9) (l := M) d HO4.out HM.out (HKW.out.2.2 _ HK4.out).1 rfl (.tmp 48) (.tmp 50) rfl rfl rfl ?_; intro v5 w5 o5 b5 _ _ _)
                have HO5 : Hid (Own B w5 v5 (M ++ [d])) := o5
                have HK5 : Hid (KW w5) := HKW.out.2.1 _ _ HK4.out b5
                clear o5 b5
                go_wp2_with fail
                go_roundw
                case rel => exact ⟨t + 1, _, _, by omega, by go_num, rfl, HO5.out, HE5.out, HK5.out⟩
                case measure => simp [intOf]; omega
              | true =>
                have HE5 : Hid (M ++ wid d true (k.drop (t + 1)) = wid d false k) := by
                  show _ = _; rw [← HE.out, HU.out, HW3.out]; simp
                have HO5 : Hid (Own B w4 u9 M) := HO4.out
                have HK5 : Hid (KW w4) := HK4.out
                clear HE HU
                go_wp2_with fail
                go_roundw
                case rel => exact ⟨t + 1, _, _, by omega, by go_num, rfl, HO5.out, HE5.out, HK5.out⟩
                case measure => simp [intOf]; omega
            | false =>
              have HW3 : Hid ((decide (x = d) || abvV d x) = false) := by show _ = _; rw [hab, HXD.out]; rfl
              have HE5 : Hid ((M ++ [x]) ++ wid d b (k.drop (t + 1)) = wid d false k) := by
                show _ = _; rw [← HE.out, HU.out, HW3.out]; simp
              clear hab HE HU
              go_wp2_with (at_builtin; refine app_one (base := B) (v := u9) (l := M) x HO4.out HM.out (HKW.out.2.2 _ HK4.out).1 rfl (.tmp 52) (.tmp 57) rfl rfl rfl ?_; intro v5 w5 o5 b5 _ _ _)
              have HO5 : Hid (Own B w5 v5 (M ++ [x])) := o5
              have HK5 : Hid (KW w5) := HKW.out.2.1 _ _ HK4.out b5
              clear o5 b5
              go_wp2_with fail
              go_roundw
              case rel => exact ⟨t + 1, _, _, by omega, by go_num, rfl, HO5.out, HE5.out, HK5.out⟩
              case measure => simp [intOf]; omega
        · have hm : M = wid d false k := by
            have h1 := HE.out
            rw [List.drop_eq_nil_of_le (by have := HN.out.1; omega)] at h1
            simpa [wid] using h1
          subst hm
          have hvw := viw_wider H1.out.1 H1.out.2.1 HCk.out
          rw [HD.out.1, ← H1.out.2.2] at hvw
          have HSM : Hid (Sm (wid d false k)) := H0.out.2.2.2.1.wid HD.out.2 false
          have HVW : Hid ((viw l (wid d false k)).2 = 0 ∧ V.length ≤ (viw l (wid d false k)).1.length ∧ ∀ f ∈ V, shw (wid d false k) f.path = true) := hvw
          clear hvw HE HM
          go_wp2_with fail
          refine (HC.out.view (HKW.out.2.2 _ HKi.out).2.2.1 H0.out.2.1 HO.out.bs HSM.out).mono ?_
          rintro e w6 ⟨v6, rfl, o6, b6⟩
          rw [HVW.out.1]
          obtain ⟨a6, c6, rfl⟩ := o6.form
          obtain ⟨n6, hn6⟩ : ∃ n6, (viw l (wid d false k)).1.length = n6 := ⟨_, rfl⟩
          rw [hn6]
          have hnn : decide (n6 < n2) = false := decide_eq_false (by have h1 := HVW.out.2.1; have h2 := HN.out.2; omega)
          have hnm : ¬ n6 < n2 := of_decide_eq_false hnn
          have HK6 : Hid (KW w6) := HKW.out.2.1 _ _ HKi.out (below_mono b6 hz2)
          have HO6 : Hid (SS w6 u9 (wid d false k)) := HO.out.bs.later b6
          clear o6 b6 hn6
          go_wp2_with fail
          refine (num_any 0 _).mono ?_
          rintro e w7 ⟨rfl, e7⟩
          rw [e7]
          clear e7
          go_wp2_with fail
          go_loopw [14] (fun j wi => ∃ s : Nat, s ≤ n2 ∧ j = .int .i64 s ∧ SS wi u9 (wid d false k) ∧ KW wi) (fun j _ => n2 - (intOf j).toNat)
          case atStart => exact ⟨0, Nat.zero_le _, rfl, HO6.out, HK6.out⟩
          case round =>
            obtain ⟨y, hy, rfl, hos, hkw⟩ := hrel
            have HOs : Hid (SS wr u9 (wid d false k)) := hos
            have HKs : Hid (KW wr) := hkw
            have hz3 : B ≤ wr.heap.size := (HKW.out.2.2 _ hkw).1
            clear hos hkw
            by_cases hyl : y < n2
            · have hy2 : y < V.length := by have := HN.out.2; omega
              have hfs := (HKW.out.2.2 _ HKs.out).2.2.2.1
              rw [HN.out.2] at hfs
              obtain ⟨g3, o3, ea, hg3, f0, f1, f2, f3⟩ := FS.at hfs (Below.refl _ wr) hy2
              subst ea
              have hsh := HVW.out.2.2 _ (List.getElem_mem hy2)
              have hfl := (H0.out.2.2.2.2.2.at hy2).path
              obtain ⟨f, hf⟩ : ∃ f, V[y]'hy2 = f := ⟨_, rfl⟩
              rw [hf] at f0 hsh hfl
              have HSH : Hid (shw (wid d false k) f.path = true ∧ f.path.length ≤ 1000000000) := ⟨hsh, hfl⟩
              clear hf hsh hfl f1 f2 f3 hfs
              go_wp2_with fail
              refine (HC.out.shows f.path HOs.out HSM.out HSH.out.2).mono ?_
              rintro e w8 ⟨rfl, b8⟩
              rw [HSH.out.1]
              have HK8 : Hid (KW w8) := HKW.out.2.1 _ _ HKs.out (below_mono b8 hz3)
              have HO8 : Hid (SS w8 u9 (wid d false k)) := HOs.out.later b8
              clear b8
              go_wp2_with fail
              go_roundw
              case rel => exact ⟨y + 1, by omega, by go_num, HO8.out, HK8.out⟩
              case measure => simp [intOf]; omega
            · have HB9 : Hid (Below G w wr) := (HKW.out.2.2 _ HKs.out).2.2.2.2
              go_wp2_with fail
              go_roundw
              case rel => exact ⟨i + 1, by omega, by go_num, HB9.out⟩
              case measure => simp [intOf]; omega
    · go_wp2_with fail
      go_ret
      exact ⟨rfl, by rw [hG]; exact HW.out⟩
end Go.Proofs.Ytkbefggjfggdgaa
