/-
  All six of any files and any changes: the law, walked.
-/
import Derived.Test.YtinhdjoidbcfaaaLent
namespace Go.Proofs.Ytinhdjoidbcfaaa
open Go.RowKit

/-- small files, small changes -/
structure TF (l : List Fl) : Prop where
  sm : FSm l
  sk : FSk l
  len : l.length ≤ 1048576
  path : ∀ f ∈ l, f.path.length ≤ 1048576
structure TC (l : List Ch) : Prop where
  sm : CSm l
  sk : CSk l
  len : l.length ≤ 1048576
/-- what was answered, and where -/
structure AK (w w0 : World) (S : Nat → Prop) (v13 v14 v16 v18 v19 v21 v23 : Value) (a b : List Fl) (d e : List Ch) : Prop where
  bel : Below w.heap.size w w0
  c13 : CS w0 v13 (dif a b)
  f14 : FS w0 v14 (apl a d).1
  f16 : FS w0 v16 (apl a d).1
  c18 : CS w0 v18 (inv d)
  c19 : CS w0 v19 ((jnO d e).getD [])
  c21 : CS w0 v21 ((jnO d e).getD [])
  s23 : SS w0 v23 (pths d)
  n13 : ∀ k, v13.ownBlock = some k → ¬ S k
  n14 : ∀ k, v14.ownBlock = some k → ¬ S k
  n16 : ∀ k, v16.ownBlock = some k → ¬ S k
  n18 : ∀ k, v18.ownBlock = some k → ¬ S k
  n19 : ∀ k, v19.ownBlock = some k → ¬ S k
  n21 : ∀ k, v21.ownBlock = some k → ¬ S k
  n23 : ∀ k, v23.ownBlock = some k → ¬ S k
  sge : ∀ k, S k → w.heap.size ≤ k

set_option maxRecDepth 100000 in
set_option maxHeartbeats 16000000 in
theorem all_any {w : World} {va vb vc vd' : Value} {a b : List Fl} {d e : List Ch} (ha : FS w va a) (hb : FS w vb b) (hd : CS w vc d) (he : CS w vd' e) (ta : TF a) (tb : TF b) (td : TC d) (te : TC e) :
    Calls Try.prog 6 #[va, vb, vc, vd'] w fun x w' => x = .returned (.bool true) ∧ Below w.heap.size w w' := by
  obtain ⟨na, hna⟩ : ∃ n, a.length = n := ⟨_, rfl⟩
  obtain ⟨nb, hnb⟩ : ∃ n, b.length = n := ⟨_, rfl⟩
  obtain ⟨nd, hnd⟩ : ∃ n, d.length = n := ⟨_, rfl⟩
  obtain ⟨ne, hne⟩ : ∃ n, e.length = n := ⟨_, rfl⟩
  obtain ⟨nx, hnx⟩ : ∃ n, na + 20 = n := ⟨_, rfl⟩
  obtain ⟨ny, hny⟩ : ∃ n, nb + 20 = n := ⟨_, rfl⟩
  obtain ⟨np, hnp⟩ : ∃ n, nd + 20 = n := ⟨_, rfl⟩
  obtain ⟨nq, hnq⟩ : ∃ n, ne + 20 = n := ⟨_, rfl⟩
  have HT : Hid (TF a ∧ TF b ∧ TC d ∧ TC e) := ⟨ta, tb, td, te⟩
  have HLN : Hid (a.length = na ∧ b.length = nb ∧ d.length = nd ∧ e.length = ne) := ⟨hna, hnb, hnd, hne⟩
  have H0 : Hid (FS w va a ∧ FS w vb b ∧ CS w vc d ∧ CS w vd' e) := ⟨ha, hb, hd, he⟩
  have zna : na ≤ 1048576 := hna ▸ ta.len
  have znb : nb ≤ 1048576 := hnb ▸ tb.len
  have znd : nd ≤ 1048576 := hnd ▸ td.len
  have zne : ne ≤ 1048576 := hne ▸ te.len
  have HLa : Hid (∀ W, Below w.heap.size w W → Calls Try.prog 21 #[va] W fun x w' => ∃ g c, x = .returned (.slice (some ⟨g, 0, none⟩) nx c) ∧ nx ≤ c ∧ OwnF W.heap.size w' (.slice (some ⟨g, 0, none⟩) nx c) (lentF a) ∧ Below W.heap.size W w') := fun W hW => by
    rw [← hnx, ← hna]; exact lentF_any (ha.later hW) (by omega)
  have HLb : Hid (∀ W, Below w.heap.size w W → Calls Try.prog 21 #[vb] W fun x w' => ∃ g c, x = .returned (.slice (some ⟨g, 0, none⟩) ny c) ∧ ny ≤ c ∧ OwnF W.heap.size w' (.slice (some ⟨g, 0, none⟩) ny c) (lentF b) ∧ Below W.heap.size W w') := fun W hW => by
    rw [← hny, ← hnb]; exact lentF_any (hb.later hW) (by omega)
  have HLd : Hid (∀ W, Below w.heap.size w W → Calls Try.prog 22 #[vc] W fun x w' => ∃ g c, x = .returned (.slice (some ⟨g, 0, none⟩) np c) ∧ np ≤ c ∧ OwnC W.heap.size w' (.slice (some ⟨g, 0, none⟩) np c) (lentC d) ∧ Below W.heap.size W w') := fun W hW => by
    rw [← hnp, ← hnd]; exact lentC_any (hd.later hW) (by omega)
  have HLe : Hid (∀ W, Below w.heap.size w W → Calls Try.prog 22 #[vd'] W fun x w' => ∃ g c, x = .returned (.slice (some ⟨g, 0, none⟩) nq c) ∧ nq ≤ c ∧ OwnC W.heap.size w' (.slice (some ⟨g, 0, none⟩) nq c) (lentC e) ∧ Below W.heap.size W w') := fun W hW => by
    rw [← hnq, ← hne]; exact lentC_any (he.later hW) (by omega)
  have HFx : Hid (∀ (W : World) (g c : Nat), FS W (.slice (some ⟨g, 0, none⟩) nx c) (lentF a) → FS W (.slice (some ⟨g, 0, none⟩) na c) a) := fun W g c h => by rw [← hna]; exact FS.front h
  have HFy : Hid (∀ (W : World) (g c : Nat), FS W (.slice (some ⟨g, 0, none⟩) ny c) (lentF b) → FS W (.slice (some ⟨g, 0, none⟩) nb c) b) := fun W g c h => by rw [← hnb]; exact FS.front h
  have HFp : Hid (∀ (W : World) (g c : Nat), CS W (.slice (some ⟨g, 0, none⟩) np c) (lentC d) → CS W (.slice (some ⟨g, 0, none⟩) nd c) d) := fun W g c h => by rw [← hnd]; exact CS.front h
  have HFq : Hid (∀ (W : World) (g c : Nat), CS W (.slice (some ⟨g, 0, none⟩) nq c) (lentC e) → CS W (.slice (some ⟨g, 0, none⟩) ne c) e) := fun W g c h => by rw [← hne]; exact CS.front h
  obtain ⟨a1, c1, hva⟩ : ∃ x c, va = .slice x a.length c := by obtain ⟨a, c, h, _⟩ := ha.form; exact ⟨a, c, h⟩
  obtain ⟨a2, c2, hvb⟩ : ∃ x c, vb = .slice x b.length c := by obtain ⟨a, c, h, _⟩ := hb.form; exact ⟨a, c, h⟩
  obtain ⟨a3, c3, hvc⟩ := hd.shape
  obtain ⟨a4, c4, hvd⟩ := he.shape
  rw [hna] at hva
  rw [hnb] at hvb
  rw [hnd] at hvc
  rw [hne] at hvd
  clear ha hb hd he ta tb td te hna hnb hnd hne
  subst hva hvb hvc hvd
  go_enter Try.func6, Try.ntmps6
  go_wp2_with fail
  refine (HLa.out _ (Below.refl _ _)).mono ?_
  rintro x w1 ⟨gx, cx, rfl, hcx, ho, hb⟩
  have HX1 : Hid (OwnF w.heap.size w1 (.slice (some ⟨gx, 0, none⟩) nx cx) (lentF a) ∧ Below w.heap.size w w1) := ⟨ho, hb⟩
  clear ho hb
  go_wp2_with fail
  refine (HLb.out _ HX1.out.2).mono ?_
  rintro x w2 ⟨gy, cy, rfl, hcy, ho, hb⟩
  have HY1 : Hid (OwnF w1.heap.size w2 (.slice (some ⟨gy, 0, none⟩) ny cy) (lentF b) ∧ Below w1.heap.size w1 w2) := ⟨ho, hb⟩
  clear ho hb
  go_wp2_with fail
  refine (HLd.out _ (bstep HX1.out.2 HY1.out.2)).mono ?_
  rintro x w3 ⟨gp, cp, rfl, hcp, ho, hb⟩
  have HP1 : Hid (OwnC w2.heap.size w3 (.slice (some ⟨gp, 0, none⟩) np cp) (lentC d) ∧ Below w2.heap.size w2 w3) := ⟨ho, hb⟩
  clear ho hb
  go_wp2_with fail
  refine (HLe.out _ (bstep HX1.out.2 (bstep HY1.out.2 HP1.out.2))).mono ?_
  rintro x w4 ⟨gq, cq, rfl, hcq, ho, hb⟩
  have HQ1 : Hid (OwnC w3.heap.size w4 (.slice (some ⟨gq, 0, none⟩) nq cq) (lentC e) ∧ Below w3.heap.size w3 w4) := ⟨ho, hb⟩
  clear ho hb
  have HB4 : Hid (Below w.heap.size w w4) := bstep HX1.out.2 (bstep HY1.out.2 (bstep HP1.out.2 HQ1.out.2))
  have HX4 : Hid (FS w4 (.slice (some ⟨gx, 0, none⟩) nx cx) (lentF a)) := HX1.out.1.fs.later (bstep HY1.out.2 (bstep HP1.out.2 HQ1.out.2))
  have HY4 : Hid (FS w4 (.slice (some ⟨gy, 0, none⟩) ny cy) (lentF b)) := HY1.out.1.fs.later (bstep HP1.out.2 HQ1.out.2)
  have HP4 : Hid (CS w4 (.slice (some ⟨gp, 0, none⟩) np cp) (lentC d)) := HP1.out.1.cs.later HQ1.out.2
  have HQ4 : Hid (CS w4 (.slice (some ⟨gq, 0, none⟩) nq cq) (lentC e)) := HQ1.out.1.cs
  have HGB : Hid ((w.heap.size ≤ gx ∧ gx < w1.heap.size) ∧ (w1.heap.size ≤ gy ∧ gy < w2.heap.size) ∧ (w2.heap.size ≤ gp ∧ gp < w3.heap.size) ∧ (w3.heap.size ≤ gq ∧ gq < w4.heap.size)) := ⟨HX1.out.1.lt rfl, HY1.out.1.lt rfl, HP1.out.1.lt rfl, HQ1.out.1.lt rfl⟩
  have HG4 : Hid (Gr w4 ⟨40, 4, .slice (some ⟨gx, 0, none⟩) nx cx, nx⟩ ∧ Gr w4 ⟨40, 4, .slice (some ⟨gy, 0, none⟩) ny cy, ny⟩ ∧ Gr w4 ⟨42, 11, .slice (some ⟨gp, 0, none⟩) np cp, np⟩ ∧ Gr w4 ⟨42, 11, .slice (some ⟨gq, 0, none⟩) nq cq, nq⟩) := by
    refine ⟨⟨fc (lentF a), ?_⟩, ⟨fc (lentF b), ?_⟩, ⟨cc (lentC d), ?_⟩, ⟨cc (lentC e), ?_⟩⟩
    · have h := (HX1.out.1.later (bstep HY1.out.2 (bstep HP1.out.2 HQ1.out.2))).mono (Nat.zero_le _); unfold OwnF at h; rw [lentF_len, HLN.out.1, hnx] at h; exact h
    · have h := (HY1.out.1.later (bstep HP1.out.2 HQ1.out.2)).mono (Nat.zero_le _); unfold OwnF at h; rw [lentF_len, HLN.out.2.1, hny] at h; exact h
    · have h := (HP1.out.1.later HQ1.out.2).mono (Nat.zero_le _); unfold OwnC at h; rw [lentC_len, HLN.out.2.2.1, hnp] at h; exact h
    · have h := HQ1.out.1.mono (Nat.zero_le _); unfold OwnC at h; rw [lentC_len, HLN.out.2.2.2, hnq] at h; exact h
  have HSZ : Hid (w.heap.size ≤ w1.heap.size ∧ w1.heap.size ≤ w2.heap.size ∧ w2.heap.size ≤ w3.heap.size ∧ w3.heap.size ≤ w4.heap.size) := ⟨HX1.out.2.size, HY1.out.2.size, HP1.out.2.size, HQ1.out.2.size⟩
  clear HX1 HY1 HP1 HQ1
  have ka : na ≤ cx := by omega
  have kb : nb ≤ cy := by omega
  have kd : nd ≤ cp := by omega
  have ke : ne ≤ cq := by omega
  have ia : (na : Int) ≤ (cx : Int) := by omega
  have ib : (nb : Int) ≤ (cy : Int) := by omega
  have id' : (nd : Int) ≤ (cp : Int) := by omega
  have ie : (ne : Int) ≤ (cq : Int) := by omega
  have ja : (0 : Int) ≤ (na : Int) := by omega
  have jb : (0 : Int) ≤ (nb : Int) := by omega
  have jd : (0 : Int) ≤ (nd : Int) := by omega
  have je : (0 : Int) ≤ (ne : Int) := by omega
  go_wp2_with fail
  refine (alive_any _).mono ?_
  rintro x w5 ⟨rfl, hb⟩
  have B5 : Hid (Below w4.heap.size w4 w5) := hb
  clear hb
  go_wp2_with fail
  refine (valid_d (HFp.out _ _ _ (HP4.out.later B5.out)) HT.out.2.2.1.sm).mono ?_
  rintro x w6 ⟨rfl, hb⟩
  have B6 : Hid (Below w4.heap.size w4 w6) := bstep B5.out hb
  clear hb
  go_wp2_with fail
  refine (rvalid_d (H0.out.2.2.1.later (bstep HB4.out B6.out)) HT.out.2.2.1.sk).mono ?_
  rintro x w7 ⟨rfl, hb⟩
  have B7 : Hid (Below w4.heap.size w4 w7) := bstep B6.out hb
  clear hb
  generalize hbv : vd d = bv
  clear hbv
  have e1 : (bv != bv) = false := by simp
  have e2 : (bv == bv) = true := by simp
  go_wp2_with fail
  have HD : Hid (Calls Try.prog 13 #[.slice (some ⟨gx, 0, none⟩) na cx, .slice (some ⟨gy, 0, none⟩) nb cy] w7.drew fun x w' => ∃ v', x = .returned v' ∧ OwnC w4.heap.size w' v' (dif a b) ∧ Below w4.heap.size w4 w') := (diff_any (HFx.out _ _ _ (HX4.out.later B7.out.drew)) (HFy.out _ _ _ (HY4.out.later B7.out.drew)) HT.out.1.sm HT.out.2.1.sm).mono fun _ _ h => by
    obtain ⟨v, h1, h2, h3⟩ := h
    exact ⟨v, h1, h2.mono B7.out.drew.size, bstep B7.out.drew h3⟩
  go_region_held3 (fun _ => True) (trivial) (first | (go_at_call 13; with_reducible refine HD.out.mono ?_; rintro x w8 ⟨v13, rfl, ho8, hb8⟩))
  have HD8 : Hid (OwnC w4.heap.size w8 v13 (dif a b) ∧ Below w4.heap.size w4 w8) := ⟨ho8, hb8⟩
  clear ho8 hb8 HD
  obtain ⟨E, hE⟩ : ∃ E, (apl a d).2 = E := ⟨_, rfl⟩
  have HEE : Hid ((apl a d).2 = E) := hE
  clear hE
  go_wp2_with fail
  have HD : Hid (Calls Try.prog 7 #[.slice (some ⟨gx, 0, none⟩) na cx, .slice (some ⟨gp, 0, none⟩) nd cp] w8.drew fun x w' => ∃ v', x = .returned (.tuple #[v', .int .i64 E]) ∧ OwnF w4.heap.size w' v' (apl a d).1 ∧ Below w8.heap.size w8 w') := (apply_any (HFx.out _ _ _ (HX4.out.later HD8.out.2.drew)) (HFp.out _ _ _ (HP4.out.later HD8.out.2.drew)) HT.out.1.sm HT.out.2.2.1.sm).mono fun _ _ h => by
    obtain ⟨v, h1, h2, h3⟩ := h
    exact ⟨v, by rw [← HEE.out]; exact h1, h2.mono HD8.out.2.drew.size, bstep (Below.refl _ _).drew h3⟩
  go_region_held3 (fun _ => True) (trivial) (first | (go_at_call 7; with_reducible refine HD.out.mono ?_; rintro x w9 ⟨v14, rfl, ho9, hb9⟩))
  have HD9 : Hid (OwnC w4.heap.size w9 v13 (dif a b) ∧ OwnF w4.heap.size w9 v14 (apl a d).1 ∧ Below w4.heap.size w4 w9) := ⟨HD8.out.1.later hb9, ho9, bstep HD8.out.2 hb9⟩
  clear ho9 hb9 HD HD8
  go_wp2_with fail
  refine (rapply_any (H0.out.1.later (bstep HB4.out HD9.out.2.2)) (H0.out.2.2.1.later (bstep HB4.out HD9.out.2.2)) HT.out.1.sk HT.out.2.2.1.sk HT.out.1.len HT.out.1.path).mono ?_
  rintro x w10 ⟨v16, rfl, ho, hb⟩
  rw [HEE.out]
  have HD10 : Hid (OwnC w4.heap.size w10 v13 (dif a b) ∧ OwnF w4.heap.size w10 v14 (apl a d).1 ∧ OwnF w4.heap.size w10 v16 (apl a d).1 ∧ Below w4.heap.size w4 w10) := ⟨HD9.out.1.later hb, HD9.out.2.1.later hb, ho.mono HD9.out.2.2.size, bstep HD9.out.2.2 hb⟩
  clear ho hb HD9
  go_wp2_with fail
  refine (invert_any (HFp.out _ _ _ (HP4.out.later HD10.out.2.2.2)) (by have := HT.out.2.2.1.len; omega)).mono ?_
  rintro x w11 ⟨v18, rfl, ho, hb⟩
  have HD11 : Hid (OwnC w4.heap.size w11 v13 (dif a b) ∧ OwnF w4.heap.size w11 v14 (apl a d).1 ∧ OwnF w4.heap.size w11 v16 (apl a d).1 ∧ OwnC w4.heap.size w11 v18 (inv d) ∧ Below w4.heap.size w4 w11) := ⟨HD10.out.1.later hb, HD10.out.2.1.later hb, HD10.out.2.2.1.later hb, ho.mono HD10.out.2.2.2.size, bstep HD10.out.2.2.2 hb⟩
  clear ho hb HD10
  obtain ⟨F, hF⟩ : ∃ F, jnE d e = F := ⟨_, rfl⟩
  have HFF : Hid (jnE d e = F) := hF
  clear hF
  go_wp2_with fail
  have HD : Hid (Calls Try.prog 8 #[.slice (some ⟨gp, 0, none⟩) nd cp, .slice (some ⟨gq, 0, none⟩) ne cq] w11.drew fun x w' => ∃ v', x = .returned (.tuple #[v', .int .i64 F]) ∧ OwnC w4.heap.size w' v' ((jnO d e).getD []) ∧ Below w11.heap.size w11 w') := (join_any (HFp.out _ _ _ (HP4.out.later HD11.out.2.2.2.2.drew)) (HFq.out _ _ _ (HQ4.out.later HD11.out.2.2.2.2.drew)) HT.out.2.2.1.sm HT.out.2.2.2.sm (by have := HT.out.2.2.1.len; have := HT.out.2.2.2.len; omega)).mono fun _ _ h => by
    obtain ⟨v, h1, h2, h3⟩ := h
    exact ⟨v, by rw [← HFF.out]; exact h1, h2.mono HD11.out.2.2.2.2.drew.size, bstep (Below.refl _ _).drew h3⟩
  go_region_held3 (fun _ => True) (trivial) (first | (go_at_call 8; with_reducible refine HD.out.mono ?_; rintro x w12 ⟨v19, rfl, ho12, hb12⟩))
  have HD12 : Hid (OwnC w4.heap.size w12 v13 (dif a b) ∧ OwnF w4.heap.size w12 v14 (apl a d).1 ∧ OwnF w4.heap.size w12 v16 (apl a d).1 ∧ OwnC w4.heap.size w12 v18 (inv d) ∧ OwnC w4.heap.size w12 v19 ((jnO d e).getD []) ∧ Below w4.heap.size w4 w12) := ⟨HD11.out.1.later hb12, HD11.out.2.1.later hb12, HD11.out.2.2.1.later hb12, HD11.out.2.2.2.1.later hb12, ho12, bstep HD11.out.2.2.2.2 hb12⟩
  clear ho12 hb12 HD HD11
  go_wp2_with fail
  refine (rjoin_any (H0.out.2.2.1.later (bstep HB4.out HD12.out.2.2.2.2.2)) (H0.out.2.2.2.later (bstep HB4.out HD12.out.2.2.2.2.2)) HT.out.2.2.1.sk HT.out.2.2.2.sk).mono ?_
  rintro x w13 ⟨v21, rfl, ho, hb⟩
  rw [HFF.out]
  have HD13 : Hid (OwnC w4.heap.size w13 v13 (dif a b) ∧ OwnF w4.heap.size w13 v14 (apl a d).1 ∧ OwnF w4.heap.size w13 v16 (apl a d).1 ∧ OwnC w4.heap.size w13 v18 (inv d) ∧ OwnC w4.heap.size w13 v19 ((jnO d e).getD []) ∧ OwnC w4.heap.size w13 v21 ((jnO d e).getD []) ∧ Below w4.heap.size w4 w13) := ⟨HD12.out.1.later hb, HD12.out.2.1.later hb, HD12.out.2.2.1.later hb, HD12.out.2.2.2.1.later hb, HD12.out.2.2.2.2.1.later hb, ho.mono HD12.out.2.2.2.2.2.size, bstep HD12.out.2.2.2.2.2 hb⟩
  clear ho hb HD12
  go_wp2_with fail
  refine (paths_any (HFp.out _ _ _ (HP4.out.later HD13.out.2.2.2.2.2.2)) (by have := HT.out.2.2.1.len; omega)).mono ?_
  rintro x w14 ⟨v23, rfl, ho, hb⟩
  have HD14 : Hid (OwnC w4.heap.size w14 v13 (dif a b) ∧ OwnF w4.heap.size w14 v14 (apl a d).1 ∧ OwnF w4.heap.size w14 v16 (apl a d).1 ∧ OwnC w4.heap.size w14 v18 (inv d) ∧ OwnC w4.heap.size w14 v19 ((jnO d e).getD []) ∧ OwnC w4.heap.size w14 v21 ((jnO d e).getD []) ∧ Own w4.heap.size w14 v23 (pths d) ∧ Below w4.heap.size w4 w14) := ⟨HD13.out.1.later hb, HD13.out.2.1.later hb, HD13.out.2.2.1.later hb, HD13.out.2.2.2.1.later hb, HD13.out.2.2.2.2.1.later hb, HD13.out.2.2.2.2.2.1.later hb, ho.mono HD13.out.2.2.2.2.2.2.size, bstep HD13.out.2.2.2.2.2.2 hb⟩
  clear ho hb HD13
  have HB14 : Hid (Below w4.heap.size w4 w14) := HD14.out.2.2.2.2.2.2.2
  have B14 : Hid (Below w14.heap.size w14 w14) := Below.refl _ _
  go_wp2_with fail
  refine (HLa.out _ (bstep HB4.out (bstep HB14.out B14.out))).mono ?_
  rintro x y1 ⟨gy1, cy1, rfl, _, ho, hb⟩
  have By1 : Hid (Below w14.heap.size w14 y1) := bstep B14.out hb
  have Ly1 := ho.fs
  have L'y1 : Hid _ := Ly1
  clear ho hb Ly1
  go_wp2_with fail
  refine (files_any (HX4.out.later (bstep HB14.out By1.out)) L'y1.out (by rw [lentF_len]; have := HLN.out.1; omega)).mono ?_
  rintro x y2 ⟨rfl, hb⟩
  rw [leq_self]
  have By2 : Hid (Below w14.heap.size w14 y2) := bstep By1.out hb
  clear hb L'y1
  go_wp2_with fail
  refine (HLb.out _ (bstep HB4.out (bstep HB14.out By2.out))).mono ?_
  rintro x y3 ⟨gy3, cy3, rfl, _, ho, hb⟩
  have By3 : Hid (Below w14.heap.size w14 y3) := bstep By2.out hb
  have Ly3 := ho.fs
  have L'y3 : Hid _ := Ly3
  clear ho hb Ly3
  go_wp2_with fail
  refine (files_any (HY4.out.later (bstep HB14.out By3.out)) L'y3.out (by rw [lentF_len]; have := HLN.out.2.1; omega)).mono ?_
  rintro x y4 ⟨rfl, hb⟩
  rw [leq_self]
  have By4 : Hid (Below w14.heap.size w14 y4) := bstep By3.out hb
  clear hb L'y3
  go_wp2_with fail
  refine (HLd.out _ (bstep HB4.out (bstep HB14.out By4.out))).mono ?_
  rintro x y5 ⟨gy5, cy5, rfl, _, ho, hb⟩
  have By5 : Hid (Below w14.heap.size w14 y5) := bstep By4.out hb
  have Ly5 := ho.cs
  have L'y5 : Hid _ := Ly5
  clear ho hb Ly5
  go_wp2_with fail
  refine (changes_any (HP4.out.later (bstep HB14.out By5.out)) L'y5.out (by rw [lentC_len]; have := HLN.out.2.2.1; omega)).mono ?_
  rintro x y6 ⟨rfl, hb⟩
  rw [lceq_self]
  have By6 : Hid (Below w14.heap.size w14 y6) := bstep By5.out hb
  clear hb L'y5
  go_wp2_with fail
  refine (HLe.out _ (bstep HB4.out (bstep HB14.out By6.out))).mono ?_
  rintro x y7 ⟨gy7, cy7, rfl, _, ho, hb⟩
  have By7 : Hid (Below w14.heap.size w14 y7) := bstep By6.out hb
  have Ly7 := ho.cs
  have L'y7 : Hid _ := Ly7
  clear ho hb Ly7
  go_wp2_with fail
  refine (changes_any (HQ4.out.later (bstep HB14.out By7.out)) L'y7.out (by rw [lentC_len]; have := HLN.out.2.2.2; omega)).mono ?_
  rintro x y8 ⟨rfl, hb⟩
  rw [lceq_self]
  have By8 : Hid (Below w14.heap.size w14 y8) := bstep By7.out hb
  clear hb L'y7
  obtain ⟨w0, hw0⟩ : ∃ w0, w0 = y8 := ⟨_, rfl⟩
  rw [← hw0] at By8 ⊢
  clear hw0 By1 By2 By3 By4 By5 By6 By7 B14
  obtain ⟨S, hS⟩ : ∃ S : Nat → Prop, S = fun k => w.heap.size ≤ k ∧ k < w4.heap.size := ⟨_, rfl⟩
  have HF : Hid (AK w w0 S v13 v14 v16 v18 v19 v21 v23 a b d e ∧ MK w0 w0 S (rw4 ⟨40, 4, .slice (some ⟨gx, 0, none⟩) nx cx, nx⟩ ⟨40, 4, .slice (some ⟨gy, 0, none⟩) ny cy, ny⟩ ⟨42, 11, .slice (some ⟨gp, 0, none⟩) np cp, np⟩ ⟨42, 11, .slice (some ⟨gq, 0, none⟩) nq cq, nq⟩)) := by
    have t0 := By8.out
    have t4 : Below w4.heap.size w4 w0 := bstep HB14.out t0
    have no : ∀ k, w4.heap.size ≤ k → ¬ S k := fun k hk hs => by rw [hS] at hs; have := hs.2; omega
    have zz := HSZ.out
    have gg := HGB.out
    refine ⟨⟨bstep HB4.out t4, HD14.out.1.cs.later t0, HD14.out.2.1.fs.later t0, HD14.out.2.2.1.fs.later t0, HD14.out.2.2.2.1.cs.later t0, HD14.out.2.2.2.2.1.cs.later t0, HD14.out.2.2.2.2.2.1.cs.later t0, HD14.out.2.2.2.2.2.2.1.bs.later t0,
      fun k hk => no k (HD14.out.1.lt hk).1, fun k hk => no k (HD14.out.2.1.lt hk).1, fun k hk => no k (HD14.out.2.2.1.lt hk).1, fun k hk => no k (HD14.out.2.2.2.1.lt hk).1, fun k hk => no k (HD14.out.2.2.2.2.1.lt hk).1, fun k hk => no k (HD14.out.2.2.2.2.2.1.lt hk).1, fun k hk => no k (HD14.out.2.2.2.2.2.2.1.lt hk).1, fun k hk => by rw [hS] at hk; exact hk.1⟩, ⟨?_, ?_, ?_, fun _ _ _ => rfl, Nat.le_refl _, rfl, rfl, rfl⟩⟩
    · intro i hi
      match i, hi with
      | 0, _ => exact HG4.out.1.only (Only.of_below t4 []) (by simp)
      | 1, _ => exact HG4.out.2.1.only (Only.of_below t4 []) (by simp)
      | 2, _ => exact HG4.out.2.2.1.only (Only.of_below t4 []) (by simp)
      | 3, _ => exact HG4.out.2.2.2.only (Only.of_below t4 []) (by simp)
    · intro i j hi hj hij k h1 h2
      match i, hi, j, hj with
      | 0, _, 0, _ => exact absurd rfl hij
      | 0, _, 1, _ => simp only [rw4, Value.ownBlock, Option.some.injEq] at h1 h2; omega
      | 0, _, 2, _ => simp only [rw4, Value.ownBlock, Option.some.injEq] at h1 h2; omega
      | 0, _, 3, _ => simp only [rw4, Value.ownBlock, Option.some.injEq] at h1 h2; omega
      | 1, _, 0, _ => simp only [rw4, Value.ownBlock, Option.some.injEq] at h1 h2; omega
      | 1, _, 1, _ => exact absurd rfl hij
      | 1, _, 2, _ => simp only [rw4, Value.ownBlock, Option.some.injEq] at h1 h2; omega
      | 1, _, 3, _ => simp only [rw4, Value.ownBlock, Option.some.injEq] at h1 h2; omega
      | 2, _, 0, _ => simp only [rw4, Value.ownBlock, Option.some.injEq] at h1 h2; omega
      | 2, _, 1, _ => simp only [rw4, Value.ownBlock, Option.some.injEq] at h1 h2; omega
      | 2, _, 2, _ => exact absurd rfl hij
      | 2, _, 3, _ => simp only [rw4, Value.ownBlock, Option.some.injEq] at h1 h2; omega
      | 3, _, 0, _ => simp only [rw4, Value.ownBlock, Option.some.injEq] at h1 h2; omega
      | 3, _, 1, _ => simp only [rw4, Value.ownBlock, Option.some.injEq] at h1 h2; omega
      | 3, _, 2, _ => simp only [rw4, Value.ownBlock, Option.some.injEq] at h1 h2; omega
      | 3, _, 3, _ => exact absurd rfl hij
    · intro i hi k hk
      rw [hS]
      match i, hi with
      | 0, _ => simp only [rw4, Value.ownBlock, Option.some.injEq] at hk; exact .inl ⟨by omega, by omega⟩
      | 1, _ => simp only [rw4, Value.ownBlock, Option.some.injEq] at hk; exact .inl ⟨by omega, by omega⟩
      | 2, _ => simp only [rw4, Value.ownBlock, Option.some.injEq] at hk; exact .inl ⟨by omega, by omega⟩
      | 3, _ => simp only [rw4, Value.ownBlock, Option.some.injEq] at hk; exact .inl ⟨by omega, by omega⟩
  clear HX4 HY4 HP4 HQ4 HD14 HG4 HGB HB14 By8 hS B5 B6 B7
  go_wp2_with fail
  go_loopw [24] (fun s wr => ∃ k : Nat, k ≤ nx ∧ s = .int .i64 k ∧ MK w0 wr S (rw4 ⟨40, 4, .slice (some ⟨gx, 0, none⟩) nx cx, nx⟩ ⟨40, 4, .slice (some ⟨gy, 0, none⟩) ny cy, ny⟩ ⟨42, 11, .slice (some ⟨gp, 0, none⟩) np cp, np⟩ ⟨42, 11, .slice (some ⟨gq, 0, none⟩) nq cq, nq⟩)) (fun s _ => nx - (intOf s).toNat)
  case atStart => exact ⟨0, by omega, rfl, HF.out.2⟩
  case round =>
    obtain ⟨k, hk, rfl, hm⟩ := hrel
    have HK : Hid (MK w0 wr S (rw4 ⟨40, 4, .slice (some ⟨gx, 0, none⟩) nx cx, nx⟩ ⟨40, 4, .slice (some ⟨gy, 0, none⟩) ny cy, ny⟩ ⟨42, 11, .slice (some ⟨gp, 0, none⟩) np cp, np⟩ ⟨42, 11, .slice (some ⟨gq, 0, none⟩) nq cq, nq⟩)) := hm
    clear hm
    by_cases hlt : k < nx
    · obtain ⟨g, eg, hgl, hc⟩ := Gr.cell (HK.out.g 0 (by omega)) hlt
      injection eg with eg
      injection eg with eg
      subst eg
      have KK : Hid (∀ j, j < 4 → (∃ x, wr.cell? ⟨gx, k * 4 + j, none⟩ = some x) ∧ wr.frozen? ⟨gx, k * 4 + j, none⟩ = false) := hc
      clear hc
      obtain ⟨⟨x0, c0⟩, f0⟩ := KK.out 0 (by omega)
      obtain ⟨⟨x1, c1⟩, f1⟩ := KK.out 1 (by omega)
      obtain ⟨⟨x2, c2⟩, f2⟩ := KK.out 2 (by omega)
      obtain ⟨⟨x3, c3⟩, f3⟩ := KK.out 3 (by omega)
      simp only [Nat.add_zero] at c0 f0 c1 f1 c2 f2 c3 f3
      have k1 : (0 : Int) ≤ (k : Int) := by omega
      have k2 : (k : Int) < (nx : Int) := by omega
      go_wp2_with fail
      go_roundw
      case rel => exact ⟨k + 1, by omega, by go_num, HK.out.step0 ((HK.out.g 0 (by omega)).set4 _ _ _ _ _ _ _ _ _) (only_s4 _ _ _ _ _ _ _ _ _ _) (.inl rfl)⟩
      case measure => simp [intOf]; omega
    · obtain rfl : nx = k := by omega
      have HX0 : Hid (MK w0 wr S (rw4 ⟨40, 4, .slice (some ⟨gx, 0, none⟩) nx cx, nx⟩ ⟨40, 4, .slice (some ⟨gy, 0, none⟩) ny cy, ny⟩ ⟨42, 11, .slice (some ⟨gp, 0, none⟩) np cp, np⟩ ⟨42, 11, .slice (some ⟨gq, 0, none⟩) nq cq, nq⟩)) := HK.out
      clear HK
      obtain ⟨wx0, hwx0⟩ : ∃ wx, wx = wr := ⟨_, rfl⟩
      rw [← hwx0] at HX0 ⊢
      clear hwx0
      go_wp2_with fail
      go_loopw [25] (fun s wr => ∃ k : Nat, k ≤ ny ∧ s = .int .i64 k ∧ MK w0 wr S (rw4 ⟨40, 4, .slice (some ⟨gx, 0, none⟩) nx cx, nx⟩ ⟨40, 4, .slice (some ⟨gy, 0, none⟩) ny cy, ny⟩ ⟨42, 11, .slice (some ⟨gp, 0, none⟩) np cp, np⟩ ⟨42, 11, .slice (some ⟨gq, 0, none⟩) nq cq, nq⟩)) (fun s _ => ny - (intOf s).toNat)
      case atStart => exact ⟨0, by omega, rfl, HX0.out⟩
      case round =>
        obtain ⟨k, hk, rfl, hm⟩ := hrel
        have HK : Hid (MK w0 wr S (rw4 ⟨40, 4, .slice (some ⟨gx, 0, none⟩) nx cx, nx⟩ ⟨40, 4, .slice (some ⟨gy, 0, none⟩) ny cy, ny⟩ ⟨42, 11, .slice (some ⟨gp, 0, none⟩) np cp, np⟩ ⟨42, 11, .slice (some ⟨gq, 0, none⟩) nq cq, nq⟩)) := hm
        clear hm
        by_cases hlt : k < ny
        · obtain ⟨g, eg, hgl, hc⟩ := Gr.cell (HK.out.g 1 (by omega)) hlt
          injection eg with eg
          injection eg with eg
          subst eg
          have KK : Hid (∀ j, j < 4 → (∃ x, wr.cell? ⟨gy, k * 4 + j, none⟩ = some x) ∧ wr.frozen? ⟨gy, k * 4 + j, none⟩ = false) := hc
          clear hc
          obtain ⟨⟨x0, c0⟩, f0⟩ := KK.out 0 (by omega)
          obtain ⟨⟨x1, c1⟩, f1⟩ := KK.out 1 (by omega)
          obtain ⟨⟨x2, c2⟩, f2⟩ := KK.out 2 (by omega)
          obtain ⟨⟨x3, c3⟩, f3⟩ := KK.out 3 (by omega)
          simp only [Nat.add_zero] at c0 f0 c1 f1 c2 f2 c3 f3
          have k1 : (0 : Int) ≤ (k : Int) := by omega
          have k2 : (k : Int) < (ny : Int) := by omega
          go_wp2_with fail
          go_roundw
          case rel => exact ⟨k + 1, by omega, by go_num, HK.out.step1 ((HK.out.g 1 (by omega)).set4 _ _ _ _ _ _ _ _ _) (only_s4 _ _ _ _ _ _ _ _ _ _) (.inl rfl)⟩
          case measure => simp [intOf]; omega
        · obtain rfl : ny = k := by omega
          have HX1 : Hid (MK w0 wr S (rw4 ⟨40, 4, .slice (some ⟨gx, 0, none⟩) nx cx, nx⟩ ⟨40, 4, .slice (some ⟨gy, 0, none⟩) ny cy, ny⟩ ⟨42, 11, .slice (some ⟨gp, 0, none⟩) np cp, np⟩ ⟨42, 11, .slice (some ⟨gq, 0, none⟩) nq cq, nq⟩)) := HK.out
          clear HK
          obtain ⟨wx1, hwx1⟩ : ∃ wx, wx = wr := ⟨_, rfl⟩
          rw [← hwx1] at HX1 ⊢
          clear hwx1
          go_wp2_with fail
          go_loopw [26] (fun s wr => ∃ k : Nat, k ≤ np ∧ s = .int .i64 k ∧ MK w0 wr S (rw4 ⟨40, 4, .slice (some ⟨gx, 0, none⟩) nx cx, nx⟩ ⟨40, 4, .slice (some ⟨gy, 0, none⟩) ny cy, ny⟩ ⟨42, 11, .slice (some ⟨gp, 0, none⟩) np cp, np⟩ ⟨42, 11, .slice (some ⟨gq, 0, none⟩) nq cq, nq⟩)) (fun s _ => np - (intOf s).toNat)
          case atStart => exact ⟨0, by omega, rfl, HX1.out⟩
          case round =>
            obtain ⟨k, hk, rfl, hm⟩ := hrel
            have HK : Hid (MK w0 wr S (rw4 ⟨40, 4, .slice (some ⟨gx, 0, none⟩) nx cx, nx⟩ ⟨40, 4, .slice (some ⟨gy, 0, none⟩) ny cy, ny⟩ ⟨42, 11, .slice (some ⟨gp, 0, none⟩) np cp, np⟩ ⟨42, 11, .slice (some ⟨gq, 0, none⟩) nq cq, nq⟩)) := hm
            clear hm
            by_cases hlt : k < np
            · obtain ⟨g, eg, hgl, hc⟩ := Gr.cell (HK.out.g 2 (by omega)) hlt
              injection eg with eg
              injection eg with eg
              subst eg
              have KK : Hid (∀ j, j < 11 → (∃ x, wr.cell? ⟨gp, k * 11 + j, none⟩ = some x) ∧ wr.frozen? ⟨gp, k * 11 + j, none⟩ = false) := hc
              clear hc
              obtain ⟨⟨x0, c0⟩, f0⟩ := KK.out 0 (by omega)
              obtain ⟨⟨x1, c1⟩, f1⟩ := KK.out 1 (by omega)
              obtain ⟨⟨x2, c2⟩, f2⟩ := KK.out 2 (by omega)
              obtain ⟨⟨x3, c3⟩, f3⟩ := KK.out 3 (by omega)
              obtain ⟨⟨x4, c4⟩, f4⟩ := KK.out 4 (by omega)
              obtain ⟨⟨x5, c5⟩, f5⟩ := KK.out 5 (by omega)
              obtain ⟨⟨x6, c6⟩, f6⟩ := KK.out 6 (by omega)
              obtain ⟨⟨x7, c7⟩, f7⟩ := KK.out 7 (by omega)
              obtain ⟨⟨x8, c8⟩, f8⟩ := KK.out 8 (by omega)
              obtain ⟨⟨x9, c9⟩, f9⟩ := KK.out 9 (by omega)
              obtain ⟨⟨x10, c10⟩, f10⟩ := KK.out 10 (by omega)
              simp only [Nat.add_zero] at c0 f0 c1 f1 c2 f2 c3 f3 c4 f4 c5 f5 c6 f6 c7 f7 c8 f8 c9 f9 c10 f10
              have k1 : (0 : Int) ≤ (k : Int) := by omega
              have k2 : (k : Int) < (np : Int) := by omega
              go_wp2_with fail
              go_roundw
              case rel => exact ⟨k + 1, by omega, by go_num, HK.out.step2 ((HK.out.g 2 (by omega)).set11 _ _ _ _ _ _ _ _ _ _ _ _ _ _ _ _ _ _ _ _ _ _ _) (only_s11 _ _ _ _ _ _ _ _ _ _ _ _ _ _ _ _ _ _ _ _ _ _ _ _) (.inl rfl)⟩
              case measure => simp [intOf]; omega
            · obtain rfl : np = k := by omega
              have HX2 : Hid (MK w0 wr S (rw4 ⟨40, 4, .slice (some ⟨gx, 0, none⟩) nx cx, nx⟩ ⟨40, 4, .slice (some ⟨gy, 0, none⟩) ny cy, ny⟩ ⟨42, 11, .slice (some ⟨gp, 0, none⟩) np cp, np⟩ ⟨42, 11, .slice (some ⟨gq, 0, none⟩) nq cq, nq⟩)) := HK.out
              clear HK
              obtain ⟨wx2, hwx2⟩ : ∃ wx, wx = wr := ⟨_, rfl⟩
              rw [← hwx2] at HX2 ⊢
              clear hwx2
              go_wp2_with fail
              go_loopw [27] (fun s wr => ∃ k : Nat, k ≤ nq ∧ s = .int .i64 k ∧ MK w0 wr S (rw4 ⟨40, 4, .slice (some ⟨gx, 0, none⟩) nx cx, nx⟩ ⟨40, 4, .slice (some ⟨gy, 0, none⟩) ny cy, ny⟩ ⟨42, 11, .slice (some ⟨gp, 0, none⟩) np cp, np⟩ ⟨42, 11, .slice (some ⟨gq, 0, none⟩) nq cq, nq⟩)) (fun s _ => nq - (intOf s).toNat)
              case atStart => exact ⟨0, by omega, rfl, HX2.out⟩
              case round =>
                obtain ⟨k, hk, rfl, hm⟩ := hrel
                have HK : Hid (MK w0 wr S (rw4 ⟨40, 4, .slice (some ⟨gx, 0, none⟩) nx cx, nx⟩ ⟨40, 4, .slice (some ⟨gy, 0, none⟩) ny cy, ny⟩ ⟨42, 11, .slice (some ⟨gp, 0, none⟩) np cp, np⟩ ⟨42, 11, .slice (some ⟨gq, 0, none⟩) nq cq, nq⟩)) := hm
                clear hm
                by_cases hlt : k < nq
                · obtain ⟨g, eg, hgl, hc⟩ := Gr.cell (HK.out.g 3 (by omega)) hlt
                  injection eg with eg
                  injection eg with eg
                  subst eg
                  have KK : Hid (∀ j, j < 11 → (∃ x, wr.cell? ⟨gq, k * 11 + j, none⟩ = some x) ∧ wr.frozen? ⟨gq, k * 11 + j, none⟩ = false) := hc
                  clear hc
                  obtain ⟨⟨x0, c0⟩, f0⟩ := KK.out 0 (by omega)
                  obtain ⟨⟨x1, c1⟩, f1⟩ := KK.out 1 (by omega)
                  obtain ⟨⟨x2, c2⟩, f2⟩ := KK.out 2 (by omega)
                  obtain ⟨⟨x3, c3⟩, f3⟩ := KK.out 3 (by omega)
                  obtain ⟨⟨x4, c4⟩, f4⟩ := KK.out 4 (by omega)
                  obtain ⟨⟨x5, c5⟩, f5⟩ := KK.out 5 (by omega)
                  obtain ⟨⟨x6, c6⟩, f6⟩ := KK.out 6 (by omega)
                  obtain ⟨⟨x7, c7⟩, f7⟩ := KK.out 7 (by omega)
                  obtain ⟨⟨x8, c8⟩, f8⟩ := KK.out 8 (by omega)
                  obtain ⟨⟨x9, c9⟩, f9⟩ := KK.out 9 (by omega)
                  obtain ⟨⟨x10, c10⟩, f10⟩ := KK.out 10 (by omega)
                  simp only [Nat.add_zero] at c0 f0 c1 f1 c2 f2 c3 f3 c4 f4 c5 f5 c6 f6 c7 f7 c8 f8 c9 f9 c10 f10
                  have k1 : (0 : Int) ≤ (k : Int) := by omega
                  have k2 : (k : Int) < (nq : Int) := by omega
                  go_wp2_with fail
                  go_roundw
                  case rel => exact ⟨k + 1, by omega, by go_num, HK.out.step3 ((HK.out.g 3 (by omega)).set11 _ _ _ _ _ _ _ _ _ _ _ _ _ _ _ _ _ _ _ _ _ _ _) (only_s11 _ _ _ _ _ _ _ _ _ _ _ _ _ _ _ _ _ _ _ _ _ _ _ _) (.inl rfl)⟩
                  case measure => simp [intOf]; omega
                · obtain rfl : nq = k := by omega
                  have HX3 : Hid (MK w0 wr S (rw4 ⟨40, 4, .slice (some ⟨gx, 0, none⟩) nx cx, nx⟩ ⟨40, 4, .slice (some ⟨gy, 0, none⟩) ny cy, ny⟩ ⟨42, 11, .slice (some ⟨gp, 0, none⟩) np cp, np⟩ ⟨42, 11, .slice (some ⟨gq, 0, none⟩) nq cq, nq⟩)) := HK.out
                  clear HK
                  obtain ⟨wx3, hwx3⟩ : ∃ wx, wx = wr := ⟨_, rfl⟩
                  rw [← hwx3] at HX3 ⊢
                  clear hwx3
                  have HST : Hid (St w0 wx3 S) := HX3.out.st
                  have HBW : Hid (Below w.heap.size w wx3) := by
                    have hm := HX3.out
                    refine ⟨hm.os.trans HF.out.1.bel.os, hm.tape.trans HF.out.1.bel.tape, hm.output.trans HF.out.1.bel.output, Nat.le_trans HF.out.1.bel.size hm.sz, fun k hk => ?_⟩
                    rw [hm.fr k (Nat.lt_of_lt_of_le hk HF.out.1.bel.size) (fun hs => by have := HF.out.1.sge k hs; omega)]
                    exact HF.out.1.bel.block k hk
                  have HA : Hid (CS wx3 v13 (dif a b) ∧ FS wx3 v14 (apl a d).1 ∧ FS wx3 v16 (apl a d).1 ∧ CS wx3 v18 (inv d) ∧ CS wx3 v19 ((jnO d e).getD []) ∧ CS wx3 v21 ((jnO d e).getD []) ∧ SS wx3 v23 (pths d)) := ⟨HF.out.1.c13.st HST.out HF.out.1.n13, HF.out.1.f14.st HST.out (fun k hk => .inr (HF.out.1.n14 k hk)), HF.out.1.f16.st HST.out (fun k hk => .inr (HF.out.1.n16 k hk)), HF.out.1.c18.st HST.out HF.out.1.n18, HF.out.1.c19.st HST.out HF.out.1.n19, HF.out.1.c21.st HST.out HF.out.1.n21, HF.out.1.s23.st HST.out HF.out.1.n23⟩
                  clear HX0 HX1 HX2 HX3 HF HST
                  go_wp2_with fail
                  refine (rdiff_any (H0.out.1.later HBW.out) (H0.out.2.1.later HBW.out) HT.out.1.sk HT.out.2.1.sk HT.out.1.len HT.out.2.1.len HT.out.1.path HT.out.2.1.path).mono ?_
                  rintro x z1 ⟨u1, rfl, ho, hb⟩
                  have Z1 : Hid (Below wx3.heap.size wx3 z1 ∧ CS z1 u1 (dif a b)) := ⟨hb, ho.cs⟩
                  clear ho hb
                  go_wp2_with fail
                  refine (changes_any (HA.out.1.later Z1.out.1) Z1.out.2 (by have := dif_len a b; omega)).mono ?_
                  rintro x z2 ⟨rfl, hb⟩
                  rw [lceq_self]
                  have Z2 : Hid (Below wx3.heap.size wx3 z2) := bstep Z1.out.1 hb
                  clear hb Z1
                  go_wp2_with fail
                  refine (files_any (HA.out.2.1.later Z2.out) (HA.out.2.2.1.later Z2.out) (by have := (fsm_apl HT.out.1.sm HT.out.2.2.1.sm).len; omega)).mono ?_
                  rintro x z3 ⟨rfl, hb⟩
                  rw [leq_self]
                  have Z3 : Hid (Below wx3.heap.size wx3 z3) := bstep Z2.out hb
                  clear hb Z2
                  go_wp2_with fail
                  refine (num_any _ _).mono ?_
                  rintro x z4 ⟨rfl, rfl⟩
                  have i1 : ((E : Int) == E) = true := by simp
                  go_wp2_with fail
                  refine (rinvert_any (H0.out.2.2.1.later (bstep HBW.out Z3.out)) (by have := HT.out.2.2.1.len; omega)).mono ?_
                  rintro x z5 ⟨u5, rfl, ho, hb⟩
                  have Z5 : Hid (Below wx3.heap.size wx3 z5 ∧ CS z5 u5 (inv d)) := ⟨bstep Z3.out hb, ho.cs⟩
                  clear ho hb Z3
                  go_wp2_with fail
                  refine (changes_any (HA.out.2.2.2.1.later Z5.out.1) Z5.out.2 (by rw [invert_len]; have := HT.out.2.2.1.len; omega)).mono ?_
                  rintro x z6 ⟨rfl, hb⟩
                  rw [lceq_self]
                  have Z6 : Hid (Below wx3.heap.size wx3 z6) := bstep Z5.out.1 hb
                  clear hb Z5
                  go_wp2_with fail
                  refine (changes_any (HA.out.2.2.2.2.1.later Z6.out) (HA.out.2.2.2.2.2.1.later Z6.out) (csm_jn HT.out.2.2.1.sm HT.out.2.2.2.sm (by have := HT.out.2.2.1.len; have := HT.out.2.2.2.len; omega)).len).mono ?_
                  rintro x z7 ⟨rfl, hb⟩
                  rw [lceq_self]
                  have Z7 : Hid (Below wx3.heap.size wx3 z7) := bstep Z6.out hb
                  clear hb Z6
                  go_wp2_with fail
                  refine (num_any _ _).mono ?_
                  rintro x z8 ⟨rfl, rfl⟩
                  have i2 : ((F : Int) == F) = true := by simp
                  go_wp2_with fail
                  refine (rpaths_any (H0.out.2.2.1.later (bstep HBW.out Z7.out)) (by have := HT.out.2.2.1.len; omega)).mono ?_
                  rintro x z9 ⟨u9, rfl, ho, hb⟩
                  have Z9 : Hid (Below wx3.heap.size wx3 z9 ∧ SS z9 u9 (pths d)) := ⟨bstep Z7.out hb, ho.bs⟩
                  clear ho hb Z7
                  go_wp2_with fail
                  refine (texts_any (HA.out.2.2.2.2.2.2.later Z9.out.1) Z9.out.2 (by rw [paths_len]; have := HT.out.2.2.1.len; omega)).mono ?_
                  rintro x z10 ⟨rfl, hb⟩
                  rw [decide_eq_true rfl]
                  have Z10 : Hid (Below w.heap.size w z10) := bstep HBW.out (bstep Z9.out.1 hb)
                  clear hb Z9
                  go_wp2_with fail
                  go_ret
                  exact ⟨rfl, Z10.out⟩
end Go.Proofs.Ytinhdjoidbcfaaa
