/-
  The document: a delta applied.
-/
import Derived.Test.YtinhdjoidbcfaaaRfG
namespace Go.Proofs.Ytinhdjoidbcfaaa
open Go.RowKit

theorem OwnF.under {base B : Nat} {w w' : World} {v : Value} {l : List Fl} (h : OwnF base w v l) (hb : Below B w w') (hv : ∀ k, v.ownBlock = some k → k < B) : OwnF base w' v l := by
  rcases h with ⟨h0, h | ⟨g, cap, cur, rfl, hb', hg, hr⟩⟩
  · exact ⟨h0, .inl h⟩
  · exact ⟨h0, .inr ⟨g, cap, cur, rfl, hb', (hb.block g (hv g rfl)).trans hg, hr⟩⟩
def fit1 (a : List Fl) (c : Ch) : Bool := ((lk Fl.path a c.path).isSome == c.had) && feq ((lk Fl.path a c.path).getD zf) c.old
theorem fitA_eq (a : List Fl) (d : List Ch) : fitA a d = (d.drop 0).all (fit1 a) := rfl
theorem lsc_mem {p : List UInt8} : ∀ {d : List Ch} {s : Fl × Bool}, (lsc p d s).1 = s.1 ∨ ∃ c ∈ d, (lsc p d s).1 = c.new
  | [], _ => .inl rfl
  | c :: d, s => by
    show (lsc p d (if c.path = p then (c.new, c.has) else s)).1 = s.1 ∨ ∃ x ∈ c :: d, (lsc p d (if c.path = p then (c.new, c.has) else s)).1 = x.new
    by_cases h : c.path = p
    · rw [if_pos h]
      rcases lsc_mem (p := p) (d := d) (s := (c.new, c.has)) with e | ⟨x, hx, e⟩
      · exact .inr ⟨c, by simp, e⟩
      · exact .inr ⟨x, by simp [hx], e⟩
    · rw [if_neg h]
      rcases lsc_mem (p := p) (d := d) (s := s) with e | ⟨x, hx, e⟩
      · exact .inl e
      · exact .inr ⟨x, by simp [hx], e⟩
theorem zf_sk : Fsk zf := ⟨by simp [zf], by simp [zf], by simp [zf], by simp [zf], by simp [zf], by simp [zf]⟩
theorem rout_sk {a : List Fl} {d : List Ch} (ha : FSk a) (hd : CSk d) (hl : (norm (fpths a ++ pths d)).length ≤ 4194304) : FSk (rout a d) := by
  refine ⟨Nat.le_trans (fm_len _ _) hl, fun f hf => ?_⟩
  obtain ⟨p, _, hp⟩ := List.mem_filterMap.1 hf
  unfold sel at hp
  simp only [po] at hp
  split at hp
  · injection hp with hp
    rw [← hp]
    rcases lsc_mem (p := p) (d := d) (s := ((lk Fl.path a p).getD zf, (lk Fl.path a p).isSome)) with e | ⟨x, hx, e⟩
    · rw [e]
      simp only
      cases h : lk Fl.path a p with
      | none => exact zf_sk
      | some g => exact ha.each g (lk_some h).1
    · rw [e]; exact (hd.each x hx).new
  · simp at hp

set_option maxRecDepth 100000 in
set_option maxHeartbeats 8000000 in
theorem rapply_any {w : World} {va vb : Value} {a : List Fl} {d : List Ch} (ha : FS w va a) (hb : CS w vb d) (sa : FSk a) (sb : CSk d) (la : a.length ≤ 1048576) (ea : ∀ f ∈ a, f.path.length ≤ 1048576) :
    Calls Try.prog 24 #[va, vb] w fun x w' => ∃ v', x = .returned (.tuple #[v', .int .i64 (apl a d).2]) ∧ OwnF w.heap.size w' v' (apl a d).1 ∧ Below w.heap.size w w' := by
  rw [← rapl_eq]
  obtain ⟨A, hA⟩ : ∃ A, rapl a d = A := ⟨_, rfl⟩
  rw [hA]
  have HA : Hid (A = if stand a then (if vd d && fitA a d && stand (rout a d) then (rout a d, 0) else ([], 9)) else ([], validE a)) := hA.symm
  clear hA
  have HV1 : Hid (∀ W, Below w.heap.size w W → Calls Try.prog 40 #[va] W fun x w' => x = .returned (.int .i64 (validE a)) ∧ Below w.heap.size w w') := fun W hW => (rsnap_any (ha.later hW) sa).mono fun _ _ h => ⟨h.1, bstep hW h.2⟩
  have HV2 : Hid (∀ W, Below w.heap.size w W → Calls Try.prog 23 #[vb] W fun x w' => x = .returned (.bool (vd d)) ∧ Below w.heap.size w w') := fun W hW => (rvalid_d (hb.later hW) sb).mono fun _ _ h => ⟨h.1, bstep hW h.2⟩
  have HF1 : Hid (∀ W p, Below w.heap.size w W → Calls Try.prog 41 #[va, .string (bs p)] W fun x w' => x = .returned (.tuple #[((lk Fl.path a p).getD zf).val, .bool (lk Fl.path a p).isSome]) ∧ Below W.heap.size W w') := fun W p hW => rat_any p (ha.later hW) (by omega)
  have HLL : Hid (a.length ≤ 1048576 ∧ d.length ≤ 1048576) := ⟨la, sb.len⟩
  have HSK : Hid (Sk (fpths a ++ pths d)) := by
    refine ⟨by rw [List.length_append, fpths_len, paths_len]; have := HLL.out; omega, fun x hx => ?_⟩
    rcases List.mem_append.1 hx with hx | hx
    · obtain ⟨f, hf, rfl⟩ := List.mem_map.1 hx; exact ea f hf
    · obtain ⟨c, hc, rfl⟩ := List.mem_map.1 hx; exact (sb.each c hc).path
  obtain ⟨L, hL⟩ : ∃ L, norm (fpths a ++ pths d) = L := ⟨_, rfl⟩
  have HL : Hid (norm (fpths a ++ pths d) = L ∧ L.length ≤ 2097152) := ⟨hL, by rw [← hL]; have h3 := norm_len (fpths a ++ pths d); have := HLL.out; rw [List.length_append, fpths_len, paths_len] at h3; omega⟩
  have HOK : Hid (FSk (rout a d)) := rout_sk sa sb (by have := HL.out; rw [this.1]; omega)
  have HRO : Hid (rout a d = L.filterMap (sel a d)) := by show _ = _; rw [← hL]; rfl
  have H1 : Hid (FS w va a) := ha
  have H2 : Hid (CS w vb d) := hb
  obtain ⟨a1, c1, hva⟩ : ∃ x c, va = .slice x a.length c := by obtain ⟨a, c, h, _⟩ := ha.form; exact ⟨a, c, h⟩
  obtain ⟨a2, c2, hvb⟩ := hb.shape
  have H1' : Hid (FS w (.slice a1 a.length c1) a) := hva ▸ H1.out
  have H2' : Hid (CS w (.slice a2 d.length c2) d) := hvb ▸ H2.out
  obtain ⟨n, hn⟩ : ∃ n, a.length = n := ⟨_, rfl⟩
  obtain ⟨m, hm⟩ : ∃ n, d.length = n := ⟨_, rfl⟩
  rw [hn] at hva la
  rw [hm] at hvb
  have lb : m ≤ 1048576 := by rw [← hm]; exact sb.len
  have HN : Hid (a.length = n) := hn
  have HM : Hid (d.length = m) := hm
  clear H1 H2
  subst hva hvb
  clear ha hb sa sb ea hn hm hL
  cases h1 : stand a
  · have hE := valid_no h1
    have HR : Hid (A = ([], validE a)) := by show A = _; rw [HA.out, h1]; rfl
    generalize validE a = E at *
    clear h1
    go_enter Try.func24, Try.ntmps24
    go_wp2_with fail
    refine (HV1.out _ (Below.refl _ _)).mono ?_
    rintro x w1 ⟨rfl, hb1⟩
    have HB : Hid (Below w.heap.size w w1) := hb1
    clear hb1
    go_wp2_with fail
    go_ret2
    refine ⟨.slice none 0 0, ?_, ?_, HB.out⟩
    · rw [HR.out]; rfl
    · rw [HR.out]; exact OwnF.nil _ _
  rw [(validE_zero a).2 h1] at HV1
  rw [h1] at HA
  clear h1
  cases h2 : vd d
  · have HR : Hid (A = ([], 9)) := by show A = _; rw [HA.out, h2]; rfl
    rw [h2] at HV2
    clear h2
    go_enter Try.func24, Try.ntmps24
    go_wp2_with fail
    refine (HV1.out _ (Below.refl _ _)).mono ?_
    rintro x w1 ⟨rfl, hb1⟩
    have HB : Hid (Below w.heap.size w w1) := hb1
    clear hb1
    go_wp2_with fail
    refine (HV2.out _ HB.out).mono ?_
    rintro x w2 ⟨rfl, hb1⟩
    have HB2 : Hid (Below w.heap.size w w2) := hb1
    clear hb1
    go_wp2_with fail
    go_ret2
    refine ⟨.slice none 0 0, ?_, ?_, HB2.out⟩
    · rw [HR.out]; rfl
    · rw [HR.out]; exact OwnF.nil _ _
  rw [h2] at HV2
  have HA2 : Hid (A = if fitA a d && stand (rout a d) then (rout a d, 0) else ([], 9)) := by show A = _; rw [HA.out, h2]; rfl
  clear h2 HA
  go_enter Try.func24, Try.ntmps24
  go_wp2_with fail
  refine (HV1.out _ (Below.refl _ _)).mono ?_
  rintro x w1 ⟨rfl, hb1⟩
  have HB1 : Hid (Below w.heap.size w w1) := hb1
  clear hb1
  go_wp2_with fail
  refine (HV2.out _ HB1.out).mono ?_
  rintro x w2 ⟨rfl, hb1⟩
  have HB2 : Hid (Below w.heap.size w w2) := hb1
  clear hb1
  go_wp2_with fail
  go_loopw [7, 8] (fun o i wr => ∃ k : Nat, k ≤ n ∧ i = .int .i64 k ∧ Own w.heap.size wr o (fpths (a.take k)) ∧ Below w.heap.size w wr) (fun _ i _ => n - (intOf i).toNat)
  case atStart => exact ⟨0, by omega, rfl, Own.nil _ _, HB2.out⟩
  case round =>
    obtain ⟨k, hk, rfl, ho, hb⟩ := hrel
    have HO : Hid (Own w.heap.size wr u7 (fpths (a.take k))) := ho
    have HB : Hid (Below w.heap.size w wr) := hb
    clear ho hb
    by_cases hlt : k < n
    · have hkl : k < a.length := by have := HN.out; omega
      obtain ⟨b, off, ea, hbw, d0, _⟩ := FS.at H1'.out HB.out hkl
      subst ea
      have HT : Hid (fpths (a.take (k + 1)) = fpths (a.take k) ++ [(a[k]'hkl).path]) := fpths_take a k hkl
      generalize (a[k]'hkl).path = p at d0 HT
      have HZ : Hid ((fpths (a.take k)).length + 1 ≤ 8796093022208) := by show _ ≤ _; rw [fpths_len]; simp; omega
      generalize fpths (a.take k) = I at *
      have k1 : (0 : Int) ≤ (k : Int) := by omega
      have k2 : (k : Int) < (n : Int) := by omega
      have hz : w.heap.size ≤ wr.heap.size := HB.out.size
      go_wp2_with (at_builtin; refine app_one (base := w.heap.size) p HO.out HZ.out hz rfl (.tmp 31) (.tmp 37) rfl rfl rfl ?_; intro v' w' ho hbw hbs' hgr hat)
      have H2 : Hid (Own w.heap.size w' v' (I ++ [p]) ∧ Below w.heap.size w w') := ⟨ho, below_trans HB.out hbw⟩
      clear ho hbw hgr hat
      go_wp2_with fail
      go_roundw
      case rel => exact ⟨k + 1, by omega, by go_num, by rw [HT.out]; exact H2.out.1, H2.out.2⟩
      case measure => simp [intOf]; omega
    · obtain rfl : k = n := by omega
      have HE : Hid (Own w.heap.size wr u7 (fpths a ++ pths (d.take 0))) := by
        have h1 := HO.out
        rw [List.take_of_length_le (by have := HN.out; omega)] at h1
        show Own w.heap.size wr u7 (fpths a ++ pths (d.take 0))
        simpa [pths] using h1
      clear HO
      obtain ⟨w3, hw3⟩ : ∃ w3, w3 = wr := ⟨_, rfl⟩
      subst hw3
      go_wp2_with fail
      go_loopw [7, 9] (fun o i wr => ∃ j : Nat, j ≤ m ∧ i = .int .i64 j ∧ Own w.heap.size wr o (fpths a ++ pths (d.take j)) ∧ Below w.heap.size w wr ∧ (d.drop j).all (fit1 a) = fitA a d) (fun _ i _ => m - (intOf i).toNat)
      case atStart => exact ⟨0, by omega, rfl, HE.out, HB.out, rfl⟩
      case round =>
        obtain ⟨j, hj, rfl, ho, hb, hfit⟩ := hrel
        have HO : Hid (Own w.heap.size wr u7 (fpths a ++ pths (d.take j))) := ho
        have HB : Hid (Below w.heap.size w wr) := hb
        have HF : Hid ((d.drop j).all (fit1 a) = fitA a d) := hfit
        clear ho hb hfit
        by_cases hlt : j < m
        · have hkl : j < d.length := by have := HM.out; omega
          obtain ⟨b, off, ea, hbw, _, d0, d1, d2, d3, d4, d5, d6, d7, d8, d9, d10⟩ := CS.at H2'.out HB.out hkl
          subst ea
          have hbr : b < wr.heap.size := Nat.lt_of_lt_of_le hbw HB.out.size
          have HT : Hid (fpths a ++ pths (d.take (j + 1)) = (fpths a ++ pths (d.take j)) ++ [(d[j]'hkl).path]) := by show _ = _; rw [paths_take d j hkl, List.append_assoc]
          have HF2 : Hid ((fit1 a (d[j]'hkl) && (d.drop (j + 1)).all (fit1 a)) = fitA a d) := by
            have h1 := HF.out
            rw [all_step' d _ j hkl] at h1; exact h1
          have HZ : Hid ((fpths a ++ pths (d.take j)).length + 1 ≤ 8796093022208) := by show _ ≤ _; rw [List.length_append, fpths_len, paths_len]; have := HN.out; simp; omega
          clear HF
          generalize fpths a ++ pths (d.take j) = I at *
          generalize hf : d[j] = f at d0 d1 d2 d3 d4 d5 d6 d7 d8 d9 d10 HT HF2
          clear hf
          obtain ⟨p, hh, hs, ⟨q, t, bl, s⟩, ⟨r1, y, dd, z⟩⟩ := f
          simp only at d0 d1 d2 d3 d4 d5 d6 d7 d8 d9 d10 HT
          have k1 : (0 : Int) ≤ (j : Int) := by omega
          have k2 : (j : Int) < (m : Int) := by omega
          have hz : w.heap.size ≤ wr.heap.size := HB.out.size
          have HFa : Hid (∀ W, Below w.heap.size w W → Calls Try.prog 41 #[.slice a1 k c1, .string (bs p)] W fun x w' => x = .returned (.tuple #[((lk Fl.path a p).getD zf).val, .bool (lk Fl.path a p).isSome]) ∧ Below W.heap.size W w') := fun W => HF1.out W p
          have HF3 : Hid (((((lk Fl.path a p).isSome == hh) && feq ((lk Fl.path a p).getD zf) ⟨q, t, bl, s⟩) && (d.drop (j + 1)).all (fit1 a)) = fitA a d) := HF2.out
          clear HF2
          generalize (lk Fl.path a p).getD zf = x at *
          generalize (lk Fl.path a p).isSome = u at *
          obtain ⟨p1, t1, b1, s1⟩ := x
          simp only [Fl.val] at HFa
          go_wp2_with fail
          refine (HFa.out _ HB.out).mono ?_
          rintro e w4 ⟨rfl, hb4⟩
          have HB4 : Hid (Below wr.heap.size wr w4) := hb4
          clear hb4
          go_wp2_with fail
          obtain ⟨W, hW⟩ : ∃ W, w4.alloc (.cells #[.string (bs p1), .string (bs t1), .int .i64 b1, .int .i64 s1] 40) = W := ⟨_, rfl⟩
          rw [hW]
          obtain ⟨gx, hgx⟩ : ∃ g, w4.heap.size = g := ⟨_, rfl⟩
          rw [hgx]
          have HR1 : Hid (RB W gx ⟨p1, t1, b1, s1⟩) := by show RB W gx _; rw [← hW, ← hgx]; exact RB.new w4 ⟨p1, t1, b1, s1⟩
          have HBW : Hid (Below wr.heap.size wr W) := by show Below _ _ _; rw [← hW]; exact bstep HB4.out (balloc _ _)
          have hgxW : gx < W.heap.size := HR1.out.lt
          have hbW : b < W.heap.size := Nat.lt_of_lt_of_le hbr HBW.out.size
          clear hW hgx HB4
          obtain ⟨x0, x1, x2, x3, _⟩ := HR1.out.cells
          simp only at x0 x1 x2 x3
          have v0 : ∀ X : GW W, X.it.cell? ⟨gx, 0, none⟩ = some (.string (bs p1)) := fun X => X.cell hgxW x0
          have v1 : ∀ X : GW W, X.it.cell? ⟨gx, 1, none⟩ = some (.string (bs t1)) := fun X => X.cell hgxW x1
          have v2 : ∀ X : GW W, X.it.cell? ⟨gx, 2, none⟩ = some (.int .i64 b1) := fun X => X.cell hgxW x2
          have v3 : ∀ X : GW W, X.it.cell? ⟨gx, 3, none⟩ = some (.int .i64 s1) := fun X => X.cell hgxW x3
          have y1 : ∀ X : GW W, X.it.cell? ⟨b, off + j * 11 + 1, none⟩ = some (.bool hh) := fun X => X.cell hbW ((HBW.out.cell (p := ⟨b, _, none⟩) hbr).trans d1)
          have y3 : ∀ X : GW W, X.it.cell? ⟨b, off + j * 11 + 3, none⟩ = some (.string (bs q)) := fun X => X.cell hbW ((HBW.out.cell (p := ⟨b, _, none⟩) hbr).trans d3)
          have y4 : ∀ X : GW W, X.it.cell? ⟨b, off + j * 11 + 4, none⟩ = some (.string (bs t)) := fun X => X.cell hbW ((HBW.out.cell (p := ⟨b, _, none⟩) hbr).trans d4)
          have y5 : ∀ X : GW W, X.it.cell? ⟨b, off + j * 11 + 5, none⟩ = some (.int .i64 bl) := fun X => X.cell hbW ((HBW.out.cell (p := ⟨b, _, none⟩) hbr).trans d5)
          have y6 : ∀ X : GW W, X.it.cell? ⟨b, off + j * 11 + 6, none⟩ = some (.int .i64 s) := fun X => X.cell hbW ((HBW.out.cell (p := ⟨b, _, none⟩) hbr).trans d6)
          have xne := gw_ne W
          have qg := guard_run
          clear x0 x1 x2 x3 d1 d2 d3 d4 d5 d6 d7 d8 d9 d10
          by_cases huv : u = hh
          · subst huv
            obtain ⟨e, he⟩ : ∃ e, feq ⟨p1, t1, b1, s1⟩ ⟨q, t, bl, s⟩ = e := ⟨_, rfl⟩
            cases e
            · have hq : ∀ w, (binOp .neq 40 (.agg #[.string (bs p1), .string (bs t1), .int .i64 b1, .int .i64 s1]) (.agg #[.string (bs q), .string (bs t), .int .i64 bl, .int .i64 s])).run Try.prog w = .ok (.bool true) w := fun w => by rw [neq_run, he]; rfl
              have HAn : Hid (A = ([], 9)) := by show A = _; rw [HA2.out, ← HF3.out, he]; simp
              clear he HF3
              refine wp_region_grow (by kernel_rfl) (by kernel_rfl) ?_
              repeat (go_big_quiet_step (fail))
              refine wpQuiet_nil ?_
              rintro w5 ⟨⟨w5, bx⟩, rfl⟩
              have HB5 : Hid (Below w.heap.size w w5) := bstep (bstep HB.out HBW.out) bx
              clear bx v0 v1 v2 v3 y1 y3 y4 y5 y6 xne
              go_wp2_with fail
              go_ret2
              refine ⟨.slice none 0 0, ?_, ?_, HB5.out⟩
              · rw [HAn.out]; rfl
              · rw [HAn.out]; exact OwnF.nil _ _
            · have hq : ∀ w, (binOp .neq 40 (.agg #[.string (bs p1), .string (bs t1), .int .i64 b1, .int .i64 s1]) (.agg #[.string (bs q), .string (bs t), .int .i64 bl, .int .i64 s])).run Try.prog w = .ok (.bool false) w := fun w => by rw [neq_run, he]; rfl
              have HF4 : Hid ((d.drop (j + 1)).all (fit1 a) = fitA a d) := by have h1 := HF3.out; rw [he] at h1; show _ = _; rw [← h1]; simp
              clear he HF3
              refine wp_region_grow (by kernel_rfl) (by kernel_rfl) ?_
              repeat (go_big_quiet_step (fail))
              refine wpQuiet_nil ?_
              rintro w5 ⟨⟨w5, bx⟩, rfl⟩
              have HB5 : Hid (Below wr.heap.size wr w5) := bstep HBW.out bx
              clear bx v0 v1 v2 v3 y1 y3 y4 y5 y6 xne
              have e0 : w5.cell? ⟨b, off + j * 11, none⟩ = some (.string (bs p)) := (HB5.out.cell (p := ⟨b, _, none⟩) hbr).trans d0
              have hz5 : w.heap.size ≤ w5.heap.size := by have := HB5.out.size; omega
              have HO5 : Hid (Own w.heap.size w5 u7 I) := HO.out.later HB5.out
              go_wp2_with (at_builtin; refine app_one (base := w.heap.size) p HO5.out HZ.out hz5 rfl (.tmp 71) (.tmp 77) rfl rfl rfl ?_; intro v' w' ho hbw' hbs' hgr hat)
              have H2 : Hid (Own w.heap.size w' v' (I ++ [p]) ∧ Below w.heap.size w w') := ⟨ho, below_trans (bstep HB.out HB5.out) hbw'⟩
              clear ho hbw' hgr hat
              go_wp2_with fail
              go_roundw
              case rel => exact ⟨j + 1, by omega, by go_num, by rw [HT.out]; exact H2.out.1, H2.out.2, HF4.out⟩
              case measure => simp [intOf]; omega
          · have hx : (u != hh) = true := by simpa using huv
            have hy : (u == hh) = false := by simpa using huv
            have HAn : Hid (A = ([], 9)) := by show A = _; rw [HA2.out, ← HF3.out, hy]; simp
            clear HF3
            refine wp_region_grow (by kernel_rfl) (by kernel_rfl) ?_
            repeat (go_big_quiet_step (fail))
            refine wpQuiet_nil ?_
            rintro w5 ⟨⟨w5, bx⟩, rfl⟩
            have HB5 : Hid (Below w.heap.size w w5) := bstep (bstep HB.out HBW.out) bx
            clear bx v0 v1 v2 v3 y1 y3 y4 y5 y6 xne
            go_wp2_with fail
            go_ret2
            refine ⟨.slice none 0 0, ?_, ?_, HB5.out⟩
            · rw [HAn.out]; rfl
            · rw [HAn.out]; exact OwnF.nil _ _
        · obtain rfl : j = m := by omega
          have HE : Hid (Own w.heap.size wr u7 (fpths a ++ pths d)) := by
            have h1 := HO.out
            show Own w.heap.size wr u7 (fpths a ++ pths d)
            rwa [List.take_of_length_le (by have := HM.out; omega)] at h1
          have HA3 : Hid (A = if stand (rout a d) then (rout a d, 0) else ([], 9)) := by
            show A = _
            have h1 := HF.out
            rw [List.drop_eq_nil_of_le (by have := HM.out; omega)] at h1
            rw [HA2.out, ← h1]; rfl
          clear HO HF HA2
          go_wp2_with fail
          refine (rnorm_any HE.out.bs HSK.out).mono ?_
          rintro e w4 ⟨v4, rfl, hol, hb4⟩
          rw [HL.out.1] at hol
          have HB4 : Hid (Below w.heap.size w w4) := bstep HB.out hb4
          obtain ⟨al, cl, ml, hm, rfl, cal⟩ := hol.bs.form'
          have CL : Hid (∀ k, (hk : k < L.length) → ∃ b off, al = some ⟨b, off, none⟩ ∧ b < w4.heap.size ∧ w4.cell? ⟨b, off + k, none⟩ = some (.string (bs L[k]))) := cal
          have HML : Hid (ml = L.length) := hm
          have hml : ml ≤ 2097152 := by rw [hm]; exact HL.out.2
          clear hb4 hol cal hm HE HB
          obtain ⟨G, hG⟩ : ∃ G, w4.heap.size = G := ⟨_, rfl⟩
          go_wp2_with fail
          go_loopw [12, 13] (fun o i wr => ∃ k : Nat, k ≤ ml ∧ i = .int .i64 k ∧ OwnF G wr o ((L.take k).filterMap (sel a d)) ∧ Below G w4 wr) (fun _ i _ => ml - (intOf i).toNat)
          case atStart => exact ⟨0, Nat.zero_le _, rfl, OwnF.nil _ _, Below.refl _ _⟩
          case round =>
            obtain ⟨i, hi, rfl, ho, hbw⟩ := hrel
            have HO : Hid (OwnF G wr u12 ((L.take i).filterMap (sel a d))) := ho
            have HB : Hid (Below G w4 wr) := hbw
            have hzo : G ≤ wr.heap.size := by have := hbw.size; omega
            clear ho hbw
            have HBw : Hid (Below w.heap.size w wr) := below_trans HB4.out (below_mono HB.out (by rw [← hG]; exact HB4.out.size))
            by_cases hlt3 : i < ml
            · have hkl : i < L.length := by have := HML.out; omega
              obtain ⟨gl, ol, rfl, hgl0, c0⟩ := CL.out i hkl
              have hgl : gl < wr.heap.size := by omega
              have hglG : gl < G := by omega
              have HT : Hid ((L.take (i + 1)).filterMap (sel a d) = (L.take i).filterMap (sel a d) ++ (sel a d (L[i]'hkl)).toList) := fm_take _ L i hkl
              obtain ⟨p, hp⟩ : ∃ p, L[i]'hkl = p := ⟨_, rfl⟩
              rw [hp] at c0 HT
              have HZ : Hid (((L.take i).filterMap (sel a d)).length ≤ i) := by have := fm_len (sel a d) (L.take i); show _ ≤ _; simp at this ⊢; omega
              have cl0 : wr.cell? ⟨gl, ol + i, none⟩ = some (.string (bs p)) := by rw [HB.out.cell (p := ⟨gl, ol + i, none⟩) hglG]; exact c0
              clear c0 hp hgl0
              generalize (L.take i).filterMap (sel a d) = I at *
              have k1 : (0 : Int) ≤ (i : Int) := by omega
              have k2 : (i : Int) < (ml : Int) := by omega
              obtain ⟨S, hS⟩ : ∃ S, lsc p d ((lk Fl.path a p).getD zf, (lk Fl.path a p).isSome) = S := ⟨_, rfl⟩
              have HSel : Hid (sel a d p = po S.2 S.1) := by show _ = _; rw [← hS]; rfl
              have HS0 : Hid (lsc p (d.drop 0) ((lk Fl.path a p).getD zf, (lk Fl.path a p).isSome) = S) := hS
              clear hS
              have HFa : Hid (∀ W, Below w.heap.size w W → Calls Try.prog 41 #[.slice a1 k c1, .string (bs p)] W fun x w' => x = .returned (.tuple #[((lk Fl.path a p).getD zf).val, .bool (lk Fl.path a p).isSome]) ∧ Below W.heap.size W w') := fun W => HF1.out W p
              generalize (lk Fl.path a p).getD zf = x at *
              generalize (lk Fl.path a p).isSome = u at *
              obtain ⟨p1, t1, b1, s1⟩ := x
              simp only [Fl.val] at HFa
              go_wp2_with fail
              refine (HFa.out _ HBw.out).mono ?_
              rintro e w5 ⟨rfl, hb5⟩
              have HB5 : Hid (Below wr.heap.size wr w5) := hb5
              clear hb5
              go_wp2_with fail
              obtain ⟨W, hW⟩ : ∃ W, w5.alloc (.cells #[.string (bs p1), .string (bs t1), .int .i64 b1, .int .i64 s1] 40) = W := ⟨_, rfl⟩
              rw [hW]
              obtain ⟨gx, hgx⟩ : ∃ g, w5.heap.size = g := ⟨_, rfl⟩
              rw [hgx]
              have HR1 : Hid (RB W gx ⟨p1, t1, b1, s1⟩) := by show RB W gx _; rw [← hW, ← hgx]; exact RB.new w5 ⟨p1, t1, b1, s1⟩
              have HBW : Hid (Below wr.heap.size wr W) := by show Below _ _ _; rw [← hW]; exact bstep HB5.out (balloc _ _)
              have hgx0 : wr.heap.size ≤ gx := by rw [← hgx]; exact HB5.out.size
              clear hW hgx HB5
              have HOW : Hid (OwnF G W u12 I) := HO.out.later HBW.out
              have HOL : Hid (∀ k, u12.ownBlock = some k → G ≤ k ∧ k < wr.heap.size) := fun k hk => HO.out.lt hk
              have clW : W.cell? ⟨gl, ol + i, none⟩ = some (.string (bs p)) := (HBW.out.cell (p := ⟨gl, ol + i, none⟩) hgl).trans cl0
              have hwG : w.heap.size ≤ G := by rw [← hG]; exact HB4.out.size
              have HWw : Hid (Below w.heap.size w W) := bstep HBw.out HBW.out
              have t0 := bs_toList p
              go_loopw [15, 16] (fun o i wr => ∃ (jj : Nat) (s : Fl × Bool), jj ≤ j ∧ i = .int .i64 jj ∧ o = .bool s.2 ∧ RB wr gx s.1 ∧ Below gx W wr ∧ lsc p (d.drop jj) s = S) (fun _ i _ => j - (intOf i).toNat)
              case atStart => exact ⟨0, (⟨p1, t1, b1, s1⟩, u), Nat.zero_le _, rfl, rfl, HR1.out, Below.refl _ _, HS0.out⟩
              case round =>
                obtain ⟨h, ss, hh, rfl, rfl, hrb, hbx, hls⟩ := hrel
                have HRB : Hid (RB wr gx ss.1) := hrb
                have HBX : Hid (Below gx W wr) := hbx
                have HLS : Hid (lsc p (d.drop h) ss = S) := hls
                clear hrb hbx hls
                by_cases hlt4 : h < j
                · have hdl : h < d.length := by have := HM.out; omega
                  have HBd : Hid (Below w.heap.size w wr) := below_trans HWw.out (below_mono HBX.out (by omega))
                  obtain ⟨b, off, ea, hbw, _, d0, d1, d2, d3, d4, d5, d6, d7, d8, d9, d10⟩ := CS.at H2'.out HBd.out hdl
                  subst ea
                  have HLS2 : Hid (lsc p (d.drop (h + 1)) (if (d[h]'hdl).path = p then ((d[h]'hdl).new, (d[h]'hdl).has) else ss) = S) := by
                    have h1 := HLS.out
                    rw [lsc_step p d ss h hdl] at h1; exact h1
                  generalize hf : d[h] = f at d0 d1 d2 d3 d4 d5 d6 d7 d8 d9 d10 HLS2
                  clear hf HLS
                  obtain ⟨pc, hhc, hsc, ⟨q, t, bl, s⟩, ⟨r1, y, dd, z⟩⟩ := f
                  simp only at d0 d1 d2 d3 d4 d5 d6 d7 d8 d9 d10 HLS2
                  have k3 : (0 : Int) ≤ (h : Int) := by omega
                  have k4 : (h : Int) < (j : Int) := by omega
                  have cl1 : wr.cell? ⟨gl, ol + i, none⟩ = some (.string (bs p)) := (HBX.out.cell (p := ⟨gl, ol + i, none⟩) (by show gl < gx; omega)).trans clW
                  have t1' := bs_toList pc
                  by_cases hpq : pc = p
                  · have hd : (pc == p) = true := by simpa using hpq
                    have HPQ : Hid (pc = p) := hpq
                    clear hpq
                    go_wp2_with fail
                    go_region
                    have HRd : Hid (RB wr.drew gx ss.1) := ⟨HRB.out.blk⟩
                    go_wp2_with (first | (refine store_file HRd.out ⟨r1, y, dd, z⟩ rfl (.tmp 14) (.tmp 116) rfl rfl rfl ?_; intro w7 R7 B7; have HB7 : Hid (Below wr.drew.heap.size wr.drew w7 → True) := fun _ => trivial; have d2' : w7.cell? ⟨b, off + h * 11 + 2, none⟩ = some (.bool hsc) := ((B7 gx wr ((Below.refl gx wr).drew) (Nat.le_refl _)).cell (p := ⟨b, off + h * 11 + 2, none⟩) (by show b < gx; omega)).trans d2))
                    have HB8 : Hid (Below gx W w7) := B7 gx W (HBX.out.drew) (Nat.le_refl _)
                    have HR8 : Hid (RB w7 gx ⟨r1, y, dd, z⟩) := R7
                    clear R7 B7 HB7 d2'
                    go_roundw
                    case rel => exact ⟨h + 1, (⟨r1, y, dd, z⟩, hsc), by omega, by go_num, rfl, HR8.out, HB8.out, by have h1 := HLS2.out; rw [if_pos HPQ.out] at h1; exact h1⟩
                    case measure => simp [intOf]; omega
                  · have hd : (pc == p) = false := by simpa using hpq
                    have HPQ : Hid (¬ pc = p) := hpq
                    clear hpq
                    go_wp2_with fail
                    go_region
                    go_wp2_with fail
                    go_roundw
                    case rel => exact ⟨h + 1, ss, by omega, by go_num, rfl, ⟨HRB.out.blk⟩, HBX.out.drew, by have h1 := HLS2.out; rw [if_neg HPQ.out] at h1; exact h1⟩
                    case measure => simp [intOf]; omega
                · obtain rfl : h = j := by omega
                  have HSS : Hid (ss = S) := by
                    have h1 := HLS.out
                    rw [List.drop_eq_nil_of_le (by have := HM.out; omega)] at h1; exact h1
                  clear HLS HS0
                  have HSel2 : Hid (sel a d p = po ss.2 ss.1) := by rw [HSel.out, ← HSS.out]; exact rfl
                  clear HSel HSS
                  obtain ⟨⟨p6, t6, b6, s6⟩, ok⟩ := ss
                  simp only at HRB HSel2
                  obtain ⟨x0, x1, x2, x3, _⟩ := HRB.out.cells
                  simp only at x0 x1 x2 x3
                  have hgxr : gx < wr.heap.size := HRB.out.lt
                  have HOr : Hid (OwnF G wr u12 I) := HOW.out.under HBX.out (fun k hk => by have := (HOL.out k hk).2; omega)
                  have HBr : Hid (Below G w4 wr) := below_trans HB.out (below_trans (below_mono HBW.out hzo) (below_mono HBX.out (by omega)))
                  have hzr : G ≤ wr.heap.size := by have h1 := HBr.out.size; rw [hG] at h1; exact h1
                  cases ok
                  · go_wp2_with fail
                    go_roundw
                    case rel => exact ⟨i + 1, by omega, by go_num, by rw [HT.out, HSel2.out]; simpa [po] using HOr.out, HBr.out⟩
                    case measure => simp [intOf]; omega
                  · go_wp2_with (first | (at_builtin; refine app_files (base := G) (l := I) (k := [(⟨p6, t6, b6, s6⟩ : Fl)]) (HOr.out.later (balloc _ _)) (src_file wr ⟨p6, t6, b6, s6⟩) (by have := HZ.out; simp; omega) (by simp; omega) rfl (.tmp 123) (.tmp 125) rfl rfl rfl ?_; intro v7 w7 ho7 hg7 hv7))
                    have H2 : Hid (OwnF G w7 v7 (I ++ [(⟨p6, t6, b6, s6⟩ : Fl)]) ∧ Below G w4 w7) := ⟨ho7, (below_trans HBr.out (below_mono (balloc _ _) hzr)).grown hg7 (by simp; omega) (fun k hk => (HOL.out k hk).1)⟩
                    clear ho7 hg7 hv7
                    go_wp2_with fail
                    go_roundw
                    case rel => exact ⟨i + 1, by omega, by go_num, by rw [HT.out, HSel2.out]; exact H2.out.1, H2.out.2⟩
                    case measure => simp [intOf]; omega
            · obtain rfl : i = ml := by omega
              have HE : Hid (OwnF G wr u12 (rout a d)) := by
                have h1 := HO.out
                rw [HML.out, List.take_length, ← HRO.out] at h1; exact h1
              clear HO
              have HVo : Hid (Calls Try.prog 40 #[u12] wr fun x w' => x = .returned (.int .i64 (validE (rout a d))) ∧ Below wr.heap.size wr w') := rsnap_any HE.out.fs HOK.out
              cases hs : stand (rout a d)
              · have hE := valid_no hs
                have HAn : Hid (A = ([], 9)) := by show A = _; rw [HA3.out, hs]; rfl
                generalize validE (rout a d) = E at *
                go_wp2_with fail
                refine HVo.out.mono ?_
                rintro x w6 ⟨rfl, hb6⟩
                have HB6 : Hid (Below w.heap.size w w6) := bstep HBw.out hb6
                clear hb6
                go_wp2_with fail
                go_ret2
                refine ⟨.slice none 0 0, ?_, ?_, HB6.out⟩
                · rw [HAn.out]; rfl
                · rw [HAn.out]; exact OwnF.nil _ _
              · rw [(validE_zero _).2 hs] at HVo
                have HAn : Hid (A = (rout a d, 0)) := by show A = _; rw [HA3.out, hs]; rfl
                go_wp2_with fail
                refine HVo.out.mono ?_
                rintro x w6 ⟨rfl, hb6⟩
                have HB6 : Hid (Below w.heap.size w w6) := bstep HBw.out hb6
                have HO6 : Hid (OwnF w.heap.size w6 u12 (rout a d)) := (HE.out.later hb6).mono (by rw [← hG]; exact HB4.out.size)
                clear hb6
                go_wp2_with fail
                go_ret2
                refine ⟨u12, ?_, ?_, HB6.out⟩
                · rw [HAn.out]; rfl
                · rw [HAn.out]; exact HO6.out
end Go.Proofs.Ytinhdjoidbcfaaa
