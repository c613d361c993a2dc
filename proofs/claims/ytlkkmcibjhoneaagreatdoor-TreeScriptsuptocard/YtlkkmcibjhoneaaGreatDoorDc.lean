/-
  The document's tree: Append, Mkdir, Rmdir.
-/
import Derived.Test.YtlkkmcibjhoneaaGreatDoorJGd
namespace Go.Proofs.YtlkkmcibjhoneaaGreatDoor
open Go.RowKit

theorem BS.only' {F : Nat → Prop} {w w' : World} {v : Value} {l : List UInt8} (h : BS w v l) (ho : OnlyP F w w') (hn : l ≠ [] → ∀ k, v.ownBlock = some k → ¬ F k) : BS w' v l := by
  rcases h with h | ⟨b, off, cap, rfl, hc, hlt, hcell⟩
  · exact .inl h
  · exact .inr ⟨b, off, cap, rfl, hc, Nat.lt_of_lt_of_le hlt ho.size, fun i u hu => (cell_stay (ho.block b hlt (hn (by rintro rfl; simp [bc] at hu) b rfl)) _).trans (hcell i u hu)⟩
theorem cnt_keep (T : TT) (b : List UInt8) : (T.cnt b).1.jl = T.jl ∧ (T.cnt b).1.ds = T.ds ∧ (T.cnt b).1.fs = T.fs := by
  unfold TT.cnt
  split
  · exact ⟨rfl, rfl, rfl⟩
  · split
    · exact ⟨rfl, rfl, rfl⟩
    · split
      · exact ⟨rfl, rfl, rfl⟩
      · exact ⟨rfl, rfl, rfl⟩
theorem hold {P : Prop} (h : Hid P) : P := h.out
theorem frz_block {w w' : World} {c i : Nat} (h : w'.heap[c]? = w.heap[c]?) (hf : w.frozen? ⟨c, i, none⟩ = false) : w'.frozen? ⟨c, i, none⟩ = false := by
  unfold World.frozen? at hf ⊢
  simp only [h]
  exact hf
/-- behind the count: what is at hand -/
theorem RT.open2 {w : World} {F : Nat → Prop} {c : Nat} {T : TT} (h : RT w F c T) : ∃ vj, w.cell? ⟨c, 2, none⟩ = some vj ∧ OwnB 0 w vj T.jl ∧ (∀ k, vj.ownBlock = some k → F k) ∧ w.frozen? ⟨c, 2, none⟩ = false := by
  obtain ⟨vf, vd, vj, vt, h1, h2, h3, h4, h5⟩ := h
  exact ⟨vj, h1.cell.2.2.1, h4.j.1, h4.j.2, h1.cell.2.2.2.2.2.2.2 2⟩
theorem RT.open1 {w : World} {F : Nat → Prop} {c : Nat} {T : TT} (h : RT w F c T) : ∃ vd, w.cell? ⟨c, 1, none⟩ = some vd ∧ Own 0 w vd T.ds ∧ (∀ k, vd.ownBlock = some k → F k) ∧ w.frozen? ⟨c, 1, none⟩ = false := by
  obtain ⟨vf, vd, vj, vt, h1, h2, h3, h4, h5⟩ := h
  exact ⟨vd, h1.cell.2.1, h4.d.1, h4.d.2, h1.cell.2.2.2.2.2.2.2 1⟩
theorem RT.open0 {w : World} {F : Nat → Prop} {c : Nat} {T : TT} (h : RT w F c T) : ∃ vf, w.cell? ⟨c, 0, none⟩ = some vf ∧ OwnF 0 w vf T.fs ∧ (∀ k, vf.ownBlock = some k → F k) ∧ w.frozen? ⟨c, 0, none⟩ = false := by
  obtain ⟨vf, vd, vj, vt, h1, h2, h3, h4, h5⟩ := h
  exact ⟨vf, h1.cell.1, h4.f.1, h4.f.2, h1.cell.2.2.2.2.2.2.2 0⟩
/-- a new row is laid in the tree -/
theorem RT.putJ {w w1 w3 : World} {F : Nat → Prop} {c : Nat} {T : TT} {v : Value} {l : List UInt8} (h1 : RT w1 (nwF F w w1) c T) (o1 : OnlyP F w w1) (hb : Below w1.heap.size w1 w3) (hv : OwnB w1.heap.size w3 v l) :
    RT (w3.setCell ⟨c, 2, none⟩ v) (nwF F w (w3.setCell ⟨c, 2, none⟩ v)) c { T with jl := l } ∧ OnlyP F w (w3.setCell ⟨c, 2, none⟩ v) := by
  have hz := o1.size
  have hz3 := hb.size
  have h3 : RT w3 (nwF F w w3) c T := (h1.later hb).wider (by rintro k (h | h); exact .inl h; exact .inr ⟨h.1, by omega⟩) (by rintro k (h | h); exact Nat.lt_of_lt_of_le (h1.lt k (.inl h)) hz3; exact h.2)
  have o3 : OnlyP F w w3 := o1.trans (OnlyP.of_below hb F) (fun _ _ h => h)
  exact RSt.set h3 o3 (h3.setJ (hv.mono (Nat.zero_le _)) (fun k hk => .inr (by have := hv.lt hk; omega)) (fun _ h => h) h3.lt)
theorem RT.putD {w w1 w3 : World} {F : Nat → Prop} {c : Nat} {T : TT} {v : Value} {l : List (List UInt8)} (h1 : RT w1 (nwF F w w1) c T) (o1 : OnlyP F w w1) (hb : Below w1.heap.size w1 w3) (hv : Own w1.heap.size w3 v l) :
    RT (w3.setCell ⟨c, 1, none⟩ v) (nwF F w (w3.setCell ⟨c, 1, none⟩ v)) c { T with ds := l } ∧ OnlyP F w (w3.setCell ⟨c, 1, none⟩ v) := by
  have hz := o1.size
  have hz3 := hb.size
  have h3 : RT w3 (nwF F w w3) c T := (h1.later hb).wider (by rintro k (h | h); exact .inl h; exact .inr ⟨h.1, by omega⟩) (by rintro k (h | h); exact Nat.lt_of_lt_of_le (h1.lt k (.inl h)) hz3; exact h.2)
  have o3 : OnlyP F w w3 := o1.trans (OnlyP.of_below hb F) (fun _ _ h => h)
  exact RSt.set h3 o3 (h3.setD (hv.mono (Nat.zero_le _)) (fun k hk => .inr (by have := hv.lt hk; omega)) (fun _ h => h) h3.lt)
theorem RT.putF {w w1 w3 : World} {F : Nat → Prop} {c : Nat} {T : TT} {v : Value} {l : List Fl} (h1 : RT w1 (nwF F w w1) c T) (o1 : OnlyP F w w1) (hb : Below w1.heap.size w1 w3) (hv : OwnF w1.heap.size w3 v l) :
    RT (w3.setCell ⟨c, 0, none⟩ v) (nwF F w (w3.setCell ⟨c, 0, none⟩ v)) c { T with fs := l } ∧ OnlyP F w (w3.setCell ⟨c, 0, none⟩ v) := by
  have hz := o1.size
  have hz3 := hb.size
  have h3 : RT w3 (nwF F w w3) c T := (h1.later hb).wider (by rintro k (h | h); exact .inl h; exact .inr ⟨h.1, by omega⟩) (by rintro k (h | h); exact Nat.lt_of_lt_of_le (h1.lt k (.inl h)) hz3; exact h.2)
  have o3 : OnlyP F w w3 := o1.trans (OnlyP.of_below hb F) (fun _ _ h => h)
  exact RSt.set h3 o3 (h3.setF (hv.mono (Nat.zero_le _)) (fun k hk => .inr (by have := hv.lt hk; omega)) (fun _ h => h) h3.lt)
set_option maxRecDepth 100000 in
set_option maxHeartbeats 4000000 in
theorem rappend_any {w : World} {F : Nat → Prop} {c : Nat} {T : TT} (h : RT w F c T) (hz : TSz 4000000 T) (ho : TOk T) {v : Value} {b : List UInt8} (hv : BS w v b) (hvF : b ≠ [] → ∀ k, v.ownBlock = some k → ¬ F k) (hb : b.length ≤ 4000000) :
    Calls Tryz.prog 38 #[.pointer (some ⟨c, 0, none⟩), v] w (RSt w F c (T.ap b)) := by
  have H : Hid (RT w F c T ∧ TSz 4000000 T ∧ TOk T) := ⟨h, hz, ho⟩
  have hj := hz.nj
  clear h hz ho
  obtain ⟨R, hR⟩ : ∃ R, T.ap b = R := ⟨_, rfl⟩
  rw [hR]
  have HR : Hid (T.ap b = R) := hR
  have HV : Hid (BS w v b ∧ (b ≠ [] → ∀ k, v.ownBlock = some k → ¬ F k)) := ⟨hv, hvF⟩
  clear hR hv hvF
  go_enter Tryz.func38, Tryz.ntmps38
  go_wp2_with fail
  refine (counted_any H.out.1 H.out.2.1 H.out.2.2 HV.out.1 HV.out.2 hb).mono ?_
  rintro e w1 ⟨rfl, h1, o1⟩
  have H1 : Hid (RT w1 (nwF F w w1) c (T.cnt b).1 ∧ OnlyP F w w1) := ⟨h1, o1⟩
  have HV1 : Hid (BS w1 v b) := HV.out.1.only' o1 HV.out.2
  clear h1 o1
  cases hc : (T.cnt b).2 with
  | false =>
    go_wp2_with fail
    go_ret
    rw [← HR.out, show T.ap b = _ from step_not hc]
    exact ⟨rfl, H1.out⟩
  | true =>
    obtain ⟨vj, c2, oj, kj, f2⟩ := H1.out.1.open2
    rw [(cnt_keep T b).1] at oj
    have OJ : Hid (OwnB 0 w1 vj T.jl) := oj
    have hc1 := H1.out.1.lt c H1.out.1.mem
    have HC1 : Hid (c < w1.heap.size) := hc1
    have C2 : Hid (w1.cell? ⟨c, 2, none⟩ = some vj ∧ w1.frozen? ⟨c, 2, none⟩ = false) := ⟨c2, f2⟩
    clear oj kj hc1
    go_wp2_with (first
      | (at_builtin; refine app_bytes (base := w1.heap.size) (l := []) (k := T.jl) (OwnB.nil _ _) (OJ.out.bs.src und32) (by simp; omega) (Nat.le_refl _) rfl (.tmp 10) (.tmp 14) rfl rfl rfl ?_; intro v2 w2 k1 k2 k3; have K2 : Hid (OwnB w1.heap.size w2 v2 T.jl ∧ Below w1.heap.size w1 w2) := ⟨k1, grown_none k2⟩; clear k1 k2 k3)
      | (at_builtin; apply hold))
    unfold Hid
    refine app_bytes (base := w1.heap.size) (l := T.jl) (k := b) K2.out.1 ((HV1.out.later K2.out.2).src und32) (by omega) K2.out.2.size rfl (.tmp 17) (.tmp 18) rfl rfl rfl ?_
    intro v3 w3 k1 k2 k3
    obtain ⟨va, vc, rfl⟩ := k1.len
    have K3 : Hid (OwnB w1.heap.size w3 (.slice va (T.jl ++ b).length vc) (T.jl ++ b) ∧ Below w1.heap.size w1 w3) := ⟨k1, K2.out.2.grown k2 K2.out.2.size (fun k hk => (K2.out.1.lt hk).1)⟩
    have e2 : w3.cell? ⟨c, 2, none⟩ = some vj := (K3.out.2.cell (p := ⟨c, 2, none⟩) HC1.out).trans C2.out.1
    have g2 : w3.frozen? ⟨c, 2, none⟩ = false := frz_block (K3.out.2.block c HC1.out) C2.out.2
    generalize (T.jl ++ b).length = nn at *
    clear k1 k2 k3
    go_wp2_with fail
    go_ret
    rw [← HR.out, show T.ap b = _ from step_do hc]
    refine ⟨rfl, ?_⟩
    have := RT.putJ H1.out.1 H1.out.2 K3.out.2 K3.out.1
    have e : (apG b (T.cnt b).1).1 = { (T.cnt b).1 with jl := T.jl ++ b } := by unfold apG; rw [(cnt_keep T b).1]
    rw [e]
    exact this
/-- the directories' row is written behind its end, and then another one is laid -/
theorem RT.growD {w w1 w2 w3 : World} {F : Nat → Prop} {c : Nat} {T : TT} {v vd : Value} {l : List (List UInt8)} (h1 : RT w1 (nwF F w w1) c T) (o1 : OnlyP F w w1) (hd : w1.cell? ⟨c, 1, none⟩ = some vd)
    (hg : OnlyP (fun k => vd.ownBlock = some k) w1 w2) (hb : Below w2.heap.size w2 w3) (hv : Own w2.heap.size w3 v l) :
    RT (w3.setCell ⟨c, 1, none⟩ v) (nwF F w (w3.setCell ⟨c, 1, none⟩ v)) c { T with ds := l } ∧ OnlyP F w (w3.setCell ⟨c, 1, none⟩ v) := by
  have hz := o1.size
  have hz2 := hg.size
  have hz3 := hb.size
  obtain ⟨vf, vd', vj, vt, r1, r2, r3, r4, r5⟩ := h1
  obtain rfl : vd' = vd := by
    have := r1.cell.2.1
    rw [hd] at this
    exact (Option.some.inj this).symm
  have hs : ∀ k, nwF F w w1 k → vd'.ownBlock ≠ some k → w3.heap[k]? = w1.heap[k]? := fun k hk hn => by
    have := r3 k hk
    rw [hb.block k (by omega), hg.block k this hn]
  have nc : vd'.ownBlock ≠ some c := row_ne r4.d.1 r1 (by decide)
  have nf : ∀ k, vf.ownBlock = some k → vd'.ownBlock ≠ some k := fun k hk => ss_ne2 r4.f.1 r4.d.1 k hk
  have nj : ∀ k, vj.ownBlock = some k → vd'.ownBlock ≠ some k := fun k hk => bs_ne2 r4.j.1 r4.d.1 k hk
  have nt : ∀ k, vt.ownBlock = some k → vd'.ownBlock ≠ some k := fun k hk => bs_ne2 r4.t.1 r4.d.1 k hk
  have hcs := hs c r2 nc
  have q1 : RC w3 c vf vd' vj T.st T.sp T.dn vt := r1.stay hcs
  have hsz : (w3.setCell ⟨c, 1, none⟩ v).heap.size = w3.heap.size := size_set _ _ _ _
  have hF : ∀ k, nwF F w w1 k → nwF F w w3 k := by
    rintro k (h | h)
    · exact .inl h
    · exact .inr ⟨h.1, by omega⟩
  have q2 : RR w3 (nwF F w w3) vf v vj vt T.fs l T.jl T.tn :=
    ⟨⟨row_stay r4.f.1 fun k hk => hs k (r4.f.2 k hk) (nf k hk), fun k hk => hF k (r4.f.2 k hk)⟩, ⟨hv.mono (Nat.zero_le _), fun k hk => .inr (by have := hv.lt hk; omega)⟩,
     ⟨row_stay r4.j.1 fun k hk => hs k (r4.j.2 k hk) (nj k hk), fun k hk => hF k (r4.j.2 k hk)⟩, ⟨row_stay r4.t.1 fun k hk => hs k (r4.t.2 k hk) (nt k hk), fun k hk => hF k (r4.t.2 k hk)⟩⟩
  have e : nwF F w (w3.setCell ⟨c, 1, none⟩ v) = nwF F w w3 := by unfold nwF; rw [hsz]
  have o3 : OnlyP F w w3 := (o1.trans hg (fun k hk h => by
    rcases r4.d.2 k h with h | h
    · exact h
    · omega)).trans (OnlyP.of_below hb F) (fun _ _ h => h)
  rw [e]
  refine ⟨⟨vf, v, vj, vt, q1.set1, hF c r2, ?_, q2.set q1, r5⟩, o3.trans (OnlyP.set (F := nwF F w w3) _ _ _ _ (hF c r2)) ?_⟩
  · rintro k (h | h)
    · rw [hsz]; have := r3 k (.inl h); omega
    · rw [hsz]; exact h.2
  · rintro i hi (h | h)
    · exact h
    · omega
set_option maxRecDepth 100000 in
set_option maxHeartbeats 4000000 in
theorem rmkdir_any {w : World} {F : Nat → Prop} {c : Nat} {T : TT} (h : RT w F c T) (hz : TSz 3999999 T) (ho : TOk T) (p : List UInt8) (hp : p.length ≤ 4000000) :
    Calls Tryz.prog 67 #[.pointer (some ⟨c, 0, none⟩), .string (bs p)] w (RSt w F c (T.mk' p)) := by
  have H : Hid (RT w F c T ∧ TSz 3999999 T ∧ TOk T) := ⟨h, hz, ho⟩
  clear h hz ho
  obtain ⟨R, hR⟩ : ∃ R, T.mk' p = R := ⟨_, rfl⟩
  rw [hR]
  have HR : Hid (T.mk' p = R) := hR
  clear hR
  go_enter Tryz.func67, Tryz.ntmps67
  go_wp2_with fail
  refine (counted_any H.out.1 (H.out.2.1.mono (by omega)) H.out.2.2 (nil_bs w) (nil_no F) (by simp)).mono ?_
  rintro e w1 ⟨rfl, h1, o1⟩
  have H1 : Hid (RT w1 (nwF F w w1) c (T.cnt []).1 ∧ OnlyP F w w1) := ⟨h1, o1⟩
  clear h1 o1
  cases hc : (T.cnt []).2 with
  | false =>
    go_wp2_with fail
    go_ret
    rw [← HR.out, show T.mk' p = _ from step_not hc]
    exact ⟨rfl, H1.out⟩
  | true =>
    obtain ⟨T1, hT1⟩ : ∃ T1, (T.cnt []).1 = T1 := ⟨_, rfl⟩
    have hz2 : Hid (TSz 4000000 T1) := hT1 ▸ H.out.2.1.cnt []
    have ok1 : Hid (TOk T1) := hT1 ▸ H.out.2.2.cnt []
    have HT : Hid ((T.cnt []).1 = T1) := hT1
    rw [hT1] at H1
    go_wp2_with fail
    refine (rvalid_any p w1 (by omega)).mono ?_
    rintro e w2 ⟨rfl, hb2⟩
    have H2 : Hid (RT w2 (nwF F w w2) c T1 ∧ OnlyP F w w2) := by
      have hz := hb2.size
      exact ⟨(H1.out.1.later hb2).wider (by rintro k (h | h); exact .inl h; exact .inr ⟨h.1, by omega⟩) (by rintro k (h | h); exact Nat.lt_of_lt_of_le (H1.out.1.lt k (.inl h)) hz; exact h.2), H1.out.2.trans (OnlyP.of_below hb2 F) (fun _ _ h => h)⟩
    clear H1 hb2 hT1
    have NO : Hid (mkB T1 p = false → .returned (.int .i64 16) = Ending.returned (.int .i64 R.2) ∧ RT w2 (nwF F w w2) c R.1 ∧ OnlyP F w w2) := fun hm => by
      rw [← HR.out, show T.mk' p = _ from step_do hc, HT.out]
      unfold mkG
      rw [if_neg (by rw [hm]; decide)]
      exact ⟨rfl, H2.out⟩
    rcases hb1 : okP p with _ | _
    · go_wp2_with fail
      go_ret
      exact NO.out (by unfold mkB; rw [hb1]; rfl)
    · go_wp2_with fail
      refine (rfile_any H2.out.1 hz2.out p).mono ?_
      rintro e wq ⟨r, rfl, rfl, hf⟩
      have hfh := hf.has
      clear hf
      rcases hbf : hasF T1.fs p with _ | _
      · rw [hbf] at hfh
        have hr0 : ¬ 0 ≤ r := of_decide_eq_false hfh
        go_wp2_with fail
        refine (risdir_any H2.out.1 hz2.out p).mono ?_
        rintro e wq ⟨rfl, rfl⟩
        rcases hb3 : hasD T1.ds p with _ | _
        · go_wp2_with fail
          refine (rdir_any p _ (by omega)).mono ?_
          rintro e wq ⟨rfl, rfl⟩
          go_wp2_with fail
          refine (risdir_any H2.out.1 hz2.out (dir p)).mono ?_
          rintro e wq ⟨rfl, rfl⟩
          rcases hb4 : hasD T1.ds (dir p) with _ | _
          · go_wp2_with fail
            go_ret
            exact NO.out (by unfold mkB; rw [hb1, hbf, hb3, hb4]; rfl)
          · have YES : Hid (mkB T1 p = true) := by unfold mkB; rw [hb1, hbf, hb3, hb4]; rfl
            clear NO hb1 hbf hb3 hb4 hfh hr0
            obtain ⟨vd, c1, od, kd, f1⟩ := H2.out.1.open1
            have OD : Hid (Own 0 wq vd T1.ds) := od
            have HC1 : Hid (c < wq.heap.size ∧ vd.ownBlock ≠ some c) := ⟨H2.out.1.lt c H2.out.1.mem, by
              obtain ⟨_, _, _, _, r1, _, _, r4, _⟩ := H2.out.1
              have := r1.cell.2.1
              rw [c1] at this
              obtain rfl := Option.some.inj this
              exact row_ne r4.d.1 r1 (by decide)⟩
            have C1 : Hid (wq.cell? ⟨c, 1, none⟩ = some vd ∧ wq.frozen? ⟨c, 1, none⟩ = false) := ⟨c1, f1⟩
            have hnd : T1.ds.length ≤ 3999999 := by rw [← HT.out, (cnt_keep T []).2.1]; exact H.out.2.1.nd
            clear od kd f1
            go_wp2_with (at_builtin; apply hold)
            unfold Hid
            refine app_one (base := 0) (l := T1.ds) p OD.out (by omega) (Nat.zero_le _) rfl (.tmp 33) (.tmp 35) rfl rfl rfl ?_
            intro v2 w3 k1 k2 k3 k4 k5
            have K3 : Hid (Own 0 w3 v2 (T1.ds ++ [p]) ∧ OnlyP (fun k => vd.ownBlock = some k) wq w3) := ⟨k1, ⟨k4.os, k4.tape, k4.output, k4.size, fun k hk hn => k4.block k hk (fun e => hn e.symm)⟩⟩
            clear k1 k2 k3 k4 k5
            go_wp2_with fail
            refine (rnorm_any K3.out.1.ss ⟨by simp; omega, fun x hx => ?_⟩).mono ?_
            · rcases List.mem_append.1 hx with h | h
              · exact Nat.le_trans (okP_len (ok1.out.de x h).2).1 (by decide)
              · simp at h
                rw [h]; omega
            rintro e w4 ⟨v4, rfl, ho4, hb4⟩
            rw [norm_snoc, norm_up ok1.out.du] at ho4
            obtain ⟨a4, c4, rfl⟩ := ho4.len
            have K4 : Hid (Own w3.heap.size w4 (.slice a4 (ins p T1.ds).length c4) (ins p T1.ds) ∧ Below w3.heap.size w3 w4) := ⟨ho4, hb4⟩
            clear ho4 hb4
            generalize (ins p T1.ds).length = nn at *
            have hbk : w4.heap[c]? = wq.heap[c]? := by
              rw [K4.out.2.block c (Nat.lt_of_lt_of_le HC1.out.1 K3.out.2.size), K3.out.2.block c HC1.out.1 HC1.out.2]
            have e1 : w4.cell? ⟨c, 1, none⟩ = some vd := (cell_stay hbk 1).trans C1.out.1
            have g1 : w4.frozen? ⟨c, 1, none⟩ = false := frz_block hbk C1.out.2
            clear hbk
            go_wp2_with fail
            go_ret
            rw [← HR.out, show T.mk' p = _ from step_do hc, HT.out]
            unfold mkG
            rw [if_pos YES.out]
            exact ⟨rfl, RT.growD H2.out.1 H2.out.2 C1.out.1 K3.out.2 K4.out.2 K4.out.1⟩
        · go_wp2_with fail
          go_ret
          exact NO.out (by unfold mkB; rw [hb1, hbf, hb3]; rfl)
      · rw [hbf] at hfh
        have hr0 : 0 ≤ r := of_decide_eq_true hfh
        go_wp2_with fail
        go_ret
        exact NO.out (by unfold mkB; rw [hb1, hbf]; rfl)
end Go.Proofs.YtlkkmcibjhoneaaGreatDoor
