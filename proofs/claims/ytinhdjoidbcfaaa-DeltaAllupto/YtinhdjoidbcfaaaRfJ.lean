/-
  The document: two deltas made one.
-/
import Derived.Test.YtinhdjoidbcfaaaRfG
namespace Go.Proofs.Ytinhdjoidbcfaaa
open Go.RowKit

theorem OwnC.grown {G : Nat} {w0 w w' : World} {v : Value} {l : List Ch} (hb : Below G w0 w) (h : OwnC G w v l) (hg : w.grownBy w' v.ownBlock) (hz : G ≤ w.heap.size) : Below G w0 w' :=
  hb.grown hg (by omega) (fun k hk => (h.lt hk).1)
set_option maxRecDepth 100000 in
set_option maxHeartbeats 8000000 in
theorem rjoin_any {w : World} {va vb : Value} {d e : List Ch} (hd : CS w va d) (he : CS w vb e) (sd : CSk d) (se : CSk e) :
    Calls Try.prog 25 #[va, vb] w fun x w' => ∃ v', x = .returned (.tuple #[v', .int .i64 (jnE d e)]) ∧ OwnC w.heap.size w' v' ((jnO d e).getD []) ∧ Below w.heap.size w w' := by
  obtain ⟨R, hR⟩ : ∃ R, jnO d e = R := ⟨_, rfl⟩
  obtain ⟨er, her⟩ : ∃ er, jnE d e = er := ⟨_, rfl⟩
  rw [hR, her]
  have HER : Hid (er = if R.isSome then 0 else 9) := by show er = _; rw [← her, ← hR]; rfl
  clear her
  have HV1 : Hid (∀ W, Below w.heap.size w W → Calls Try.prog 23 #[va] W fun x w' => x = .returned (.bool (vd d)) ∧ Below w.heap.size w w') := fun W hW => (rvalid_d (hd.later hW) sd).mono fun _ _ h => ⟨h.1, bstep hW h.2⟩
  have HV2 : Hid (∀ W, Below w.heap.size w W → Calls Try.prog 23 #[vb] W fun x w' => x = .returned (.bool (vd e)) ∧ Below w.heap.size w w') := fun W hW => (rvalid_d (he.later hW) se).mono fun _ _ h => ⟨h.1, bstep hW h.2⟩
  have HP1 : Hid (∀ W, Below w.heap.size w W → Calls Try.prog 28 #[va] W fun x w' => ∃ v', x = .returned v' ∧ Own W.heap.size w' v' (pths d) ∧ Below W.heap.size W w') := fun W hW => rpaths_any (hd.later hW) (by have := sd.len; omega)
  have HP2 : Hid (∀ W, Below w.heap.size w W → Calls Try.prog 28 #[vb] W fun x w' => ∃ v', x = .returned v' ∧ Own W.heap.size w' v' (pths e) ∧ Below W.heap.size W w') := fun W hW => rpaths_any (he.later hW) (by have := se.len; omega)
  have HF1 : Hid (∀ W p, Below w.heap.size w W → Calls Try.prog 43 #[va, .string (bs p)] W fun x w' => x = .returned (.tuple #[((lk Ch.path d p).getD zc).val, .bool (lk Ch.path d p).isSome]) ∧ Below W.heap.size W w') := fun W p hW => rchange_any p (hd.later hW) (by have := sd.len; omega)
  have HF2 : Hid (∀ W p, Below w.heap.size w W → Calls Try.prog 43 #[vb, .string (bs p)] W fun x w' => x = .returned (.tuple #[((lk Ch.path e p).getD zc).val, .bool (lk Ch.path e p).isSome]) ∧ Below W.heap.size W w') := fun W p hW => rchange_any p (he.later hW) (by have := se.len; omega)
  have HLL : Hid ((pths d).length ≤ 1048576 ∧ (pths e).length ≤ 1048576) := ⟨by rw [paths_len]; exact sd.len, by rw [paths_len]; exact se.len⟩
  have HSK : Hid (Sk (pths d ++ pths e)) := by
    refine ⟨by rw [List.length_append]; have := HLL.out; omega, fun x hx => ?_⟩
    rcases List.mem_append.1 hx with hx | hx
    · obtain ⟨c, hc, rfl⟩ := List.mem_map.1 hx; exact (sd.each c hc).path
    · obtain ⟨c, hc, rfl⟩ := List.mem_map.1 hx; exact (se.each c hc).path
  obtain ⟨a1, c1, hva⟩ := hd.shape
  obtain ⟨a2, c2, hvb⟩ := he.shape
  obtain ⟨n1, hn1⟩ : ∃ n, d.length = n := ⟨_, rfl⟩
  obtain ⟨n2, hn2⟩ : ∃ n, e.length = n := ⟨_, rfl⟩
  rw [hn1] at hva
  rw [hn2] at hvb
  subst hva hvb
  clear hd he sd se hn1 hn2
  cases h1 : vd d
  · rw [h1] at HV1
    have HR : Hid (R = none) := by show R = none; rw [← hR]; unfold jnO; rw [h1]; rfl
    clear hR h1
    go_enter Try.func25, Try.ntmps25
    go_wp2_with fail
    refine (HV1.out _ (Below.refl _ _)).mono ?_
    rintro x w1 ⟨rfl, hb1⟩
    have HB : Hid (Below w.heap.size w w1) := hb1
    clear hb1
    go_wp2_with fail
    go_ret2
    refine ⟨.slice none 0 0, ?_, ?_, HB.out⟩
    · rw [HER.out, HR.out]; rfl
    · rw [HR.out]; exact OwnC.nil _ _
  cases h2 : vd e
  · rw [h1] at HV1
    rw [h2] at HV2
    have HR : Hid (R = none) := by show R = none; rw [← hR]; unfold jnO; rw [h1, h2]; rfl
    clear hR h1 h2
    go_enter Try.func25, Try.ntmps25
    go_wp2_with fail
    refine (HV1.out _ (Below.refl _ _)).mono ?_
    rintro x w1 ⟨rfl, hb1⟩
    have HB : Hid (Below w.heap.size w w1) := hb1
    clear hb1
    go_wp2_with fail
    refine (HV2.out _ HB.out).mono ?_
    rintro x w2 ⟨rfl, hb1⟩
    have HB2 : Hid (Below w.heap.size w w2) := hb1
    clear hb1
    go_wp2_with fail
    go_ret2
    refine ⟨.slice none 0 0, ?_, ?_, HB2.out⟩
    · rw [HER.out, HR.out]; rfl
    · rw [HR.out]; exact OwnC.nil _ _
  rw [h1] at HV1
  rw [h2] at HV2
  obtain ⟨L, hL⟩ : ∃ L, norm (pths d ++ pths e) = L := ⟨_, rfl⟩
  have HR : Hid ((rjl d e (L.drop 0)).map ([] ++ ·) = R) := by
    show (rjl d e (L.drop 0)).map ([] ++ ·) = R
    rw [← hR, ← hL]; unfold jnO; rw [h1, h2, List.drop_zero, rjl_eq ((vd_iff d).1 h1) ((vd_iff e).1 h2)]; simp
  have HL : Hid (norm (pths d ++ pths e) = L ∧ L.length ≤ 2097152) := ⟨hL, by rw [← hL]; have h3 := norm_len (pths d ++ pths e); have := HLL.out; rw [List.length_append] at h3; omega⟩
  clear hR h1 h2 hL
  go_enter Try.func25, Try.ntmps25
  go_wp2_with fail
  refine (HV1.out _ (Below.refl _ _)).mono ?_
  rintro x w1 ⟨rfl, hb1⟩
  have HB1 : Hid (Below w.heap.size w w1) := hb1
  clear hb1
  go_wp2_with fail
  refine (HV2.out _ HB1.out).mono ?_
  rintro x w2 ⟨rfl, hb1⟩
  have HB2 : Hid (Below w.heap.size w w2) := hb1
  clear hb1
  go_wp2_with fail
  refine (HP1.out _ HB2.out).mono ?_
  rintro x w3 ⟨v3, rfl, ho3, hb3⟩
  have HO3 : Hid (Own w.heap.size w3 v3 (pths d)) := ho3.mono HB2.out.size
  have HB3 : Hid (Below w.heap.size w w3) := bstep HB2.out hb3
  clear ho3 hb3
  go_wp2_with (first | (at_builtin; refine app_strs (base := w.heap.size) (l := []) (k := pths d) (Own.nil _ _) (HO3.out.bs.src und35) (by have := HLL.out; simp; omega) HB3.out.size rfl (.tmp 21) (.tmp 23) rfl rfl rfl ?_; intro v4 w4 ho4 hg4 hv4))
  have HO4 : Hid (Own w.heap.size w4 v4 (pths d)) := ho4
  have HB4 : Hid (Below w.heap.size w w4) := HB3.out.grown hg4 HB3.out.size (by intro k hk; cases hk)
  clear ho4 hg4 hv4
  go_wp2_with fail
  refine (HP2.out _ HB4.out).mono ?_
  rintro x w5 ⟨v5, rfl, ho5, hb5⟩
  have HO5 : Hid (Own w.heap.size w5 v4 (pths d)) := HO4.out.later hb5
  have HS5 : Hid (SS w5 v5 (pths e)) := ho5.bs
  have HB5 : Hid (Below w.heap.size w w5) := bstep HB4.out hb5
  clear ho5 hb5
  go_wp2_with (first | (at_builtin; refine app_strs (base := w.heap.size) (l := pths d) (k := pths e) HO5.out (HS5.out.src und35) (by have := HLL.out; omega) HB5.out.size rfl (.tmp 25) (.tmp 27) rfl rfl rfl ?_; intro v6 w6 ho6 hg6 hv6))
  have HO6 : Hid (Own w.heap.size w6 v6 (pths d ++ pths e)) := ho6
  have HB6 : Hid (Below w.heap.size w w6) := HB5.out.grown hg6 HB5.out.size (fun k hk => (HO5.out.lt hk).1)
  clear ho6 hg6 hv6
  go_wp2_with fail
  refine (rnorm_any HO6.out.bs HSK.out).mono ?_
  rintro x w7 ⟨v7, rfl, hol, hb7⟩
  rw [HL.out.1] at hol
  have HB7 : Hid (Below w.heap.size w w7) := bstep HB6.out hb7
  obtain ⟨al, cl, m, hm, rfl, cal⟩ := hol.bs.form'
  have CL : Hid (∀ k, (hk : k < L.length) → ∃ b off, al = some ⟨b, off, none⟩ ∧ b < w7.heap.size ∧ w7.cell? ⟨b, off + k, none⟩ = some (.string (bs L[k]))) := cal
  have HM : Hid (m = L.length) := hm
  have hml : m ≤ 2097152 := by rw [hm]; exact HL.out.2
  clear hb7 hol cal hm HO6 HB6 HS5 HO5 HB5 HO4 HB4 HO3 HB3 HB2 HB1
  obtain ⟨G, hG⟩ : ∃ G, w7.heap.size = G := ⟨_, rfl⟩
  go_wp2_with fail
  go_loopw [7, 8] (fun o i wr => ∃ (k : Nat) (J : List Ch), k ≤ m ∧ i = .int .i64 k ∧ OwnC G wr o J ∧ Below G w7 wr ∧ (rjl d e (L.drop k)).map (J ++ ·) = R ∧ J.length ≤ k) (fun _ i _ => m - (intOf i).toNat)
  case atStart => exact ⟨0, [], Nat.zero_le _, rfl, OwnC.nil _ _, Below.refl _ _, HR.out, Nat.le_refl _⟩
  case round =>
    obtain ⟨k, J, hk, rfl, ho, hbw, hr, hz⟩ := hrel
    have HO : Hid (OwnC G wr u7 J) := ho
    have HB : Hid (Below G w7 wr) := hbw
    have HRk : Hid ((rjl d e (L.drop k)).map (J ++ ·) = R) := hr
    have HZ : Hid (J.length ≤ k) := hz
    have hzo : G ≤ wr.heap.size := by have := hbw.size; omega
    have HBw : Hid (Below w.heap.size w wr) := below_trans HB7.out (below_mono HB.out (by rw [← hG]; exact HB7.out.size))
    clear ho hbw hr hz
    by_cases hlt : k < m
    · have hkl : k < L.length := by have := HM.out; omega
      obtain ⟨gl, ol, rfl, hgl0, c0⟩ := CL.out k hkl
      have hgl : gl < wr.heap.size := by omega
      have hglG : gl < G := by omega
      have HS : Hid (((jq (lk Ch.path d (L[k]'hkl)).isSome (lk Ch.path e (L[k]'hkl)).isSome ((lk Ch.path d (L[k]'hkl)).getD zc) ((lk Ch.path e (L[k]'hkl)).getD zc)).bind fun o => (rjl d e (L.drop (k + 1))).map (o.toList ++ ·)).map (J ++ ·) = R) := by
        have h1 := HRk.out
        rw [rjl_step d e L k hkl, jp_jq] at h1; exact h1
      obtain ⟨p, hp⟩ : ∃ p, L[k]'hkl = p := ⟨_, rfl⟩
      rw [hp] at c0 HS
      have cl0 : wr.cell? ⟨gl, ol + k, none⟩ = some (.string (bs p)) := by rw [HB.out.cell (p := ⟨gl, ol + k, none⟩) hglG]; exact c0
      clear c0 hp hgl0 HRk
      have HN : Hid (∀ o, jq (lk Ch.path d p).isSome (lk Ch.path e p).isSome ((lk Ch.path d p).getD zc) ((lk Ch.path e p).getD zc) = some o → (rjl d e (L.drop (k + 1))).map ((J ++ o.toList) ++ ·) = R) := fun o ho => by
        have h1 := HS.out
        rw [ho] at h1
        rw [← h1]
        simp only [Option.bind_some, Option.map_map]
        congr 1
        funext r
        simp
      have HNN : Hid (jq (lk Ch.path d p).isSome (lk Ch.path e p).isSome ((lk Ch.path d p).getD zc) ((lk Ch.path e p).getD zc) = none → R = none) := fun ho => by
        have h1 := HS.out
        rw [ho] at h1
        rw [← h1]; rfl
      clear HS
      have k1 : (0 : Int) ≤ (k : Int) := by omega
      have k2 : (k : Int) < (m : Int) := by omega
      have HFa : Hid (∀ W, Below w.heap.size w W → Calls Try.prog 43 #[.slice a1 n1 c1, .string (bs p)] W fun x w' => x = .returned (.tuple #[((lk Ch.path d p).getD zc).val, .bool (lk Ch.path d p).isSome]) ∧ Below W.heap.size W w') := fun W => HF1.out W p
      have HFb : Hid (∀ W, Below w.heap.size w W → Calls Try.prog 43 #[.slice a2 n2 c2, .string (bs p)] W fun x w' => x = .returned (.tuple #[((lk Ch.path e p).getD zc).val, .bool (lk Ch.path e p).isSome]) ∧ Below W.heap.size W w') := fun W => HF2.out W p
      generalize (lk Ch.path d p).getD zc = x at *
      generalize (lk Ch.path e p).getD zc = y at *
      generalize (lk Ch.path d p).isSome = u at *
      generalize (lk Ch.path e p).isSome = v at *
      obtain ⟨p1, h1, i1, ⟨q1, t1, b1, s1⟩, ⟨r1, y1, d1, z1⟩⟩ := x
      obtain ⟨p2, h2, i2, ⟨q2, t2, b2, s2⟩, ⟨r2, y2, d2, z2⟩⟩ := y
      simp only [Ch.val] at HFa HFb
      go_wp2_with fail
      refine (HFa.out _ HBw.out).mono ?_
      rintro e1 w3 ⟨rfl, hb3⟩
      have HB3 : Hid (Below wr.heap.size wr w3) := hb3
      have cl3 : w3.cell? ⟨gl, ol + k, none⟩ = some (.string (bs p)) := (hb3.cell (p := ⟨gl, ol + k, none⟩) hgl).trans cl0
      have hgl3 : gl < w3.heap.size := Nat.lt_of_lt_of_le hgl hb3.size
      clear hb3
      go_wp2_with fail
      refine (HFb.out _ (bstep (bstep HBw.out HB3.out) (balloc _ _))).mono ?_
      rintro e1 w4 ⟨rfl, hb4⟩
      obtain ⟨ga, hga⟩ : ∃ ga, w3.heap.size = ga := ⟨_, rfl⟩
      rw [hga]
      have HA4 : Hid (RC w4 ga ⟨p1, h1, i1, ⟨q1, t1, b1, s1⟩, ⟨r1, y1, d1, z1⟩⟩ ∧ Below wr.heap.size wr w4) := ⟨by rw [← hga]; exact (RC.new w3 ⟨p1, h1, i1, ⟨q1, t1, b1, s1⟩, ⟨r1, y1, d1, z1⟩⟩).later hb4, bstep (bstep HB3.out (balloc _ _)) hb4⟩
      have hga0 : wr.heap.size ≤ ga := by rw [← hga]; exact HB3.out.size
      have hga4 : ga < w4.heap.size := HA4.out.1.lt
      have hz4 : G ≤ w4.heap.size := by have := HA4.out.2.size; omega
      clear hb4 hga cl3 hgl3 HB3 cl0 hgl
      obtain ⟨e40, e41, e42, e43, e44, e45, e46, e47, e48, e49, e410⟩ := HA4.out.1.cb
      simp only [Nat.zero_add] at e40 e41 e42 e43 e44 e45 e46 e47 e48 e49 e410
      have HX4 : Hid (RC (w4.alloc (.cells #[.string (bs p2), .bool h2, .bool i2, .string (bs q2), .string (bs t2), .int .i64 b2, .int .i64 s2, .string (bs r2), .string (bs y2), .int .i64 d2, .int .i64 z2] 42)) ga ⟨p1, h1, i1, ⟨q1, t1, b1, s1⟩, ⟨r1, y1, d1, z1⟩⟩) := HA4.out.1.later (balloc _ _)
      have HY4 : Hid (RC (w4.alloc (.cells #[.string (bs p2), .bool h2, .bool i2, .string (bs q2), .string (bs t2), .int .i64 b2, .int .i64 s2, .string (bs r2), .string (bs y2), .int .i64 d2, .int .i64 z2] 42)) w4.heap.size ⟨p2, h2, i2, ⟨q2, t2, b2, s2⟩, ⟨r2, y2, d2, z2⟩⟩) := RC.new w4 ⟨p2, h2, i2, ⟨q2, t2, b2, s2⟩, ⟨r2, y2, d2, z2⟩⟩
      have HNE : Hid (w4.heap.size ≠ ga) := by show _ ≠ _; omega
      have HBA : Hid (Below wr.heap.size wr (w4.alloc (.cells #[.string (bs p2), .bool h2, .bool i2, .string (bs q2), .string (bs t2), .int .i64 b2, .int .i64 s2, .string (bs r2), .string (bs y2), .int .i64 d2, .int .i64 z2] 42))) := bstep HA4.out.2 (balloc _ _)
      have qg := guard_run
      cases u
      · -- not in d
        have hn := HN.out (some ⟨p2, h2, i2, ⟨q2, t2, b2, s2⟩, ⟨r2, y2, d2, z2⟩⟩) rfl
        have HR2 : Hid ((rjl d e (L.drop (k + 1))).map ((J ++ [(⟨p2, h2, i2, ⟨q2, t2, b2, s2⟩, ⟨r2, y2, d2, z2⟩⟩ : Ch)]) ++ ·) = R) := hn
        clear hn HN HNN
        go_wp2_with (first | (at_builtin; go_loud (refine app_chs (base := G) (l := J) (k := [(⟨p2, h2, i2, ⟨q2, t2, b2, s2⟩, ⟨r2, y2, d2, z2⟩⟩ : Ch)]) ((HO.out.later HBA.out).later (balloc _ _)) (src_ch2 w4 _ ⟨p2, h2, i2, ⟨q2, t2, b2, s2⟩, ⟨r2, y2, d2, z2⟩⟩) (by have := HZ.out; simp; omega) (by simp; omega) rfl (.tmp 97) (.tmp 99) rfl rfl rfl ?_); intro v7 w7' ho7 hg7 hv7))
        have H2 : Hid (OwnC G w7' v7 (J ++ [(⟨p2, h2, i2, ⟨q2, t2, b2, s2⟩, ⟨r2, y2, d2, z2⟩⟩ : Ch)]) ∧ Below G w7 w7') := ⟨ho7, (below_trans HB.out (below_mono (bstep HBA.out (balloc _ _)) hzo)).grown hg7 (by simp; omega) (fun k hk => (HO.out.lt hk).1)⟩
        clear ho7 hg7 hv7
        go_wp2_with fail
        go_roundw
        case rel => exact ⟨k + 1, _, by omega, by go_num, H2.out.1, H2.out.2, HR2.out, by have := HZ.out; simp; omega⟩
        case measure => simp [intOf]; omega
      · cases v
        · have hn := HN.out (some ⟨p1, h1, i1, ⟨q1, t1, b1, s1⟩, ⟨r1, y1, d1, z1⟩⟩) rfl
          have HR2 : Hid ((rjl d e (L.drop (k + 1))).map ((J ++ [(⟨p1, h1, i1, ⟨q1, t1, b1, s1⟩, ⟨r1, y1, d1, z1⟩⟩ : Ch)]) ++ ·) = R) := hn
          clear hn HN HNN
          go_wp2_with (first | (at_builtin; go_loud (refine app_chs (base := G) (l := J) (k := [(⟨p1, h1, i1, ⟨q1, t1, b1, s1⟩, ⟨r1, y1, d1, z1⟩⟩ : Ch)]) ((HO.out.later HBA.out).later (balloc _ _)) (src_ch2 w4 _ ⟨p1, h1, i1, ⟨q1, t1, b1, s1⟩, ⟨r1, y1, d1, z1⟩⟩) (by have := HZ.out; simp; omega) (by simp; omega) rfl (.tmp 93) (.tmp 95) rfl rfl rfl ?_); intro v7 w7' ho7 hg7 hv7))
          have H2 : Hid (OwnC G w7' v7 (J ++ [(⟨p1, h1, i1, ⟨q1, t1, b1, s1⟩, ⟨r1, y1, d1, z1⟩⟩ : Ch)]) ∧ Below G w7 w7') := ⟨ho7, (below_trans HB.out (below_mono (bstep HBA.out (balloc _ _)) hzo)).grown hg7 (by simp; omega) (fun k hk => (HO.out.lt hk).1)⟩
          clear ho7 hg7 hv7
          go_wp2_with fail
          go_roundw
          case rel => exact ⟨k + 1, _, by omega, by go_num, H2.out.1, H2.out.2, HR2.out, by have := HZ.out; simp; omega⟩
          case measure => simp [intOf]; omega
        · by_cases huv : h2 = i1
          · subst huv
            obtain ⟨f, hf⟩ : ∃ f, feq ⟨q2, t2, b2, s2⟩ ⟨r1, y1, d1, z1⟩ = f := ⟨_, rfl⟩
            cases f
            · have hq : ∀ w, (binOp .neq 40 (.agg #[.string (bs q2), .string (bs t2), .int .i64 b2, .int .i64 s2]) (.agg #[.string (bs r1), .string (bs y1), .int .i64 d1, .int .i64 z1])).run Try.prog w = .ok (.bool true) w := fun w => by rw [neq_run, hf]; rfl
              have HRn : Hid (R = none) := HNN.out (by simp [jq, hf])
              clear hf HN HNN
              go_wp2_with fail
              go_ret2
              refine ⟨.slice none 0 0, ?_, ?_, bstep HBw.out HBA.out⟩
              · rw [HER.out, HRn.out]; rfl
              · rw [HRn.out]; exact OwnC.nil _ _
            · have hq : ∀ w, (binOp .neq 40 (.agg #[.string (bs q2), .string (bs t2), .int .i64 b2, .int .i64 s2]) (.agg #[.string (bs r1), .string (bs y1), .int .i64 d1, .int .i64 z1])).run Try.prog w = .ok (.bool false) w := fun w => by rw [neq_run, hf]; rfl
              by_cases hiv : h1 = i2
              · subst hiv
                obtain ⟨g, hg⟩ : ∃ g, feq ⟨q1, t1, b1, s1⟩ ⟨r2, y2, d2, z2⟩ = g := ⟨_, rfl⟩
                cases g
                · have hq2 : ∀ w, (binOp .neq 40 (.agg #[.string (bs q1), .string (bs t1), .int .i64 b1, .int .i64 s1]) (.agg #[.string (bs r2), .string (bs y2), .int .i64 d2, .int .i64 z2])).run Try.prog w = .ok (.bool true) w := fun w => by rw [neq_run, hg]; rfl
                  have hn := HN.out (some ⟨p1, h1, h1, ⟨q1, t1, b1, s1⟩, ⟨r2, y2, d2, z2⟩⟩) (by simp [jq, hf, hg])
                  have HR2 : Hid ((rjl d e (L.drop (k + 1))).map ((J ++ [(⟨p1, h1, h1, ⟨q1, t1, b1, s1⟩, ⟨r2, y2, d2, z2⟩⟩ : Ch)]) ++ ·) = R) := hn
                  clear hn HN HNN hf hg
                  go_wp2_with (first | (refine store_has HX4.out h1 rfl (.tmp 72) (.tmp 71) rfl rfl rfl ?_; intro w5 R5 B5 O5; have Y5 := O5 _ _ HY4.out HNE.out; obtain ⟨e50, e51, e52, e53, e54, e55, e56, e57, e58, e59, e510⟩ := Y5.cb; simp only [Nat.zero_add] at e50 e51 e52 e53 e54 e55 e56 e57 e58 e59 e510) | (refine store_new R5 ⟨r2, y2, d2, z2⟩ rfl (.tmp 75) (.tmp 74) rfl rfl rfl ?_; intro w6 R6 B6 O6; obtain ⟨e60, e61, e62, e63, e64, e65, e66, e67, e68, e69, e610⟩ := R6.cb; simp only [Nat.zero_add] at e60 e61 e62 e63 e64 e65 e66 e67 e68 e69 e610; clear e50 e51 e52 e53 e54 e55 e56 e57 e58 e59 e510 e40 e41 e42 e43 e44 e45 e46 e47 e48 e49 e410; change Hid _))
                  have HB8 : Hid (Below wr.heap.size wr w6) := B6 _ _ (B5 _ _ HBA.out hga0) hga0
                  have hga6 : ga < w6.heap.size := R6.lt
                  clear R5 B5 O5 R6 B6 O6 Y5 HX4 HY4 HBA HA4 hq
                  unfold Hid
                  go_wp2_with (first | (at_builtin; go_loud (refine app_chs (base := G) (l := J) (k := [(⟨p1, h1, h1, ⟨q1, t1, b1, s1⟩, ⟨r2, y2, d2, z2⟩⟩ : Ch)]) ((HO.out.later HB8.out).later (balloc _ _)) (src_ch w6 ⟨p1, h1, h1, ⟨q1, t1, b1, s1⟩, ⟨r2, y2, d2, z2⟩⟩) (by have := HZ.out; simp; omega) (by have := HB8.out.size; simp; omega) rfl (.tmp 88) (.tmp 90) rfl rfl rfl ?_); intro v7 w7' ho7 hg7 hv7))
                  have H2 : Hid (OwnC G w7' v7 (J ++ [(⟨p1, h1, h1, ⟨q1, t1, b1, s1⟩, ⟨r2, y2, d2, z2⟩⟩ : Ch)]) ∧ Below G w7 w7') := ⟨ho7, (below_trans HB.out (below_mono (bstep HB8.out (balloc _ _)) hzo)).grown hg7 (by have := HB8.out.size; simp; omega) (fun k hk => (HO.out.lt hk).1)⟩
                  clear ho7 hg7 hv7
                  go_wp2_with fail
                  go_roundw
                  case rel => exact ⟨k + 1, _, by omega, by go_num, H2.out.1, H2.out.2, HR2.out, by have := HZ.out; simp; omega⟩
                  case measure => simp [intOf]; omega
                · have hq2 : ∀ w, (binOp .neq 40 (.agg #[.string (bs q1), .string (bs t1), .int .i64 b1, .int .i64 s1]) (.agg #[.string (bs r2), .string (bs y2), .int .i64 d2, .int .i64 z2])).run Try.prog w = .ok (.bool false) w := fun w => by rw [neq_run, hg]; rfl
                  have hn := HN.out none (by simp [jq, hf, hg])
                  have HR2 : Hid ((rjl d e (L.drop (k + 1))).map ((J ++ []) ++ ·) = R) := hn
                  clear hn HN HNN hf hg
                  go_wp2_with (first | (refine store_has HX4.out h1 rfl (.tmp 72) (.tmp 71) rfl rfl rfl ?_; intro w5 R5 B5 O5; have Y5 := O5 _ _ HY4.out HNE.out; obtain ⟨e50, e51, e52, e53, e54, e55, e56, e57, e58, e59, e510⟩ := Y5.cb; simp only [Nat.zero_add] at e50 e51 e52 e53 e54 e55 e56 e57 e58 e59 e510) | (refine store_new R5 ⟨r2, y2, d2, z2⟩ rfl (.tmp 75) (.tmp 74) rfl rfl rfl ?_; intro w6 R6 B6 O6; obtain ⟨e60, e61, e62, e63, e64, e65, e66, e67, e68, e69, e610⟩ := R6.cb; simp only [Nat.zero_add] at e60 e61 e62 e63 e64 e65 e66 e67 e68 e69 e610; clear e50 e51 e52 e53 e54 e55 e56 e57 e58 e59 e510 e40 e41 e42 e43 e44 e45 e46 e47 e48 e49 e410; change Hid _))
                  have HB8 : Hid (Below wr.heap.size wr w6) := B6 _ _ (B5 _ _ HBA.out hga0) hga0
                  clear R5 B5 O5 R6 B6 O6 Y5 HX4 HY4 HBA HA4 hq
                  unfold Hid
                  go_wp2_with fail
                  go_roundw
                  case rel => exact ⟨k + 1, J, by omega, by go_num, HO.out.later HB8.out, below_trans HB.out (below_mono HB8.out hzo), by simpa using HR2.out, by have := HZ.out; omega⟩
                  case measure => simp [intOf]; omega
              · have hx : (h1 != i2) = true := by simpa using hiv
                have hy : (h1 == i2) = false := by simpa using hiv
                have hn := HN.out (some ⟨p1, h1, i2, ⟨q1, t1, b1, s1⟩, ⟨r2, y2, d2, z2⟩⟩) (by simp [jq, hf, hiv])
                have HR2 : Hid ((rjl d e (L.drop (k + 1))).map ((J ++ [(⟨p1, h1, i2, ⟨q1, t1, b1, s1⟩, ⟨r2, y2, d2, z2⟩⟩ : Ch)]) ++ ·) = R) := hn
                clear hn HN HNN hf
                go_wp2_with (first | (refine store_has HX4.out i2 rfl (.tmp 72) (.tmp 71) rfl rfl rfl ?_; intro w5 R5 B5 O5; have Y5 := O5 _ _ HY4.out HNE.out; obtain ⟨e50, e51, e52, e53, e54, e55, e56, e57, e58, e59, e510⟩ := Y5.cb; simp only [Nat.zero_add] at e50 e51 e52 e53 e54 e55 e56 e57 e58 e59 e510) | (refine store_new R5 ⟨r2, y2, d2, z2⟩ rfl (.tmp 75) (.tmp 74) rfl rfl rfl ?_; intro w6 R6 B6 O6; obtain ⟨e60, e61, e62, e63, e64, e65, e66, e67, e68, e69, e610⟩ := R6.cb; simp only [Nat.zero_add] at e60 e61 e62 e63 e64 e65 e66 e67 e68 e69 e610; clear e50 e51 e52 e53 e54 e55 e56 e57 e58 e59 e510 e40 e41 e42 e43 e44 e45 e46 e47 e48 e49 e410; change Hid _))
                have HB8 : Hid (Below wr.heap.size wr w6) := B6 _ _ (B5 _ _ HBA.out hga0) hga0
                have hga6 : ga < w6.heap.size := R6.lt
                clear R5 B5 O5 R6 B6 O6 Y5 HX4 HY4 HBA HA4 hq
                unfold Hid
                go_wp2_with (first | (at_builtin; go_loud (refine app_chs (base := G) (l := J) (k := [(⟨p1, h1, i2, ⟨q1, t1, b1, s1⟩, ⟨r2, y2, d2, z2⟩⟩ : Ch)]) ((HO.out.later HB8.out).later (balloc _ _)) (src_ch w6 ⟨p1, h1, i2, ⟨q1, t1, b1, s1⟩, ⟨r2, y2, d2, z2⟩⟩) (by have := HZ.out; simp; omega) (by have := HB8.out.size; simp; omega) rfl (.tmp 88) (.tmp 90) rfl rfl rfl ?_); intro v7 w7' ho7 hg7 hv7))
                have H2 : Hid (OwnC G w7' v7 (J ++ [(⟨p1, h1, i2, ⟨q1, t1, b1, s1⟩, ⟨r2, y2, d2, z2⟩⟩ : Ch)]) ∧ Below G w7 w7') := ⟨ho7, (below_trans HB.out (below_mono (bstep HB8.out (balloc _ _)) hzo)).grown hg7 (by have := HB8.out.size; simp; omega) (fun k hk => (HO.out.lt hk).1)⟩
                clear ho7 hg7 hv7
                go_wp2_with fail
                go_roundw
                case rel => exact ⟨k + 1, _, by omega, by go_num, H2.out.1, H2.out.2, HR2.out, by have := HZ.out; simp; omega⟩
                case measure => simp [intOf]; omega
          · have hx : (h2 != i1) = true := by simpa using huv
            have hy : (h2 == i1) = false := by simpa using huv
            have HRn : Hid (R = none) := HNN.out (by simp [jq, huv])
            clear HN HNN
            go_wp2_with fail
            go_ret2
            refine ⟨.slice none 0 0, ?_, ?_, bstep HBw.out HBA.out⟩
            · rw [HER.out, HRn.out]; rfl
            · rw [HRn.out]; exact OwnC.nil _ _
    · obtain rfl : k = m := by omega
      have HE : Hid (R = some J) := by
        have h1 := HRk.out
        rw [List.drop_eq_nil_of_le (by have := HM.out; omega)] at h1
        show R = some J
        rw [← h1]; simp [rjl]
      clear HRk
      go_wp2_with fail
      go_ret2
      refine ⟨u7, ?_, ?_, HBw.out⟩
      · rw [HER.out, HE.out]; rfl
      · rw [HE.out]; exact HO.out.mono (by rw [← hG]; exact HB7.out.size)
end Go.Proofs.Ytinhdjoidbcfaaa
