/-
  The document: what parts two snapshots.
-/
import Derived.Test.YtinhdjoidbcfaaaRfF
import Derived.Test.YtinhdjoidbcfaaaDif
import Derived.Laws.CopyRow
namespace Go.Proofs.Ytinhdjoidbcfaaa
open Go.RowKit

theorem grow_cell {w V : World} {ob : Option Nat} {o : Obj} (h : (w.alloc o).drew.grownBy V ob) {g off : Nat} {v : Value} (hg : g < w.heap.size) (hne : ob ≠ some g) (hc : w.cell? ⟨g, off, none⟩ = some v) : V.cell? ⟨g, off, none⟩ = some v :=
  h.cell (((balloc w o).drew.cell (p := ⟨g, off, none⟩) hg).trans hc) (fun e => hne e.symm)
theorem gd_go {a b : List Fl} {p : List UInt8} (h : ((lk Fl.path a p).isSome == (lk Fl.path b p).isSome && feq ((lk Fl.path a p).getD zf) ((lk Fl.path b p).getD zf)) = false) : gd a b p = some ⟨p, (lk Fl.path a p).isSome, (lk Fl.path b p).isSome, (lk Fl.path a p).getD zf, (lk Fl.path b p).getD zf⟩ := by
  unfold gd dlt
  rw [oeq_eq, h]; rfl
theorem gd_no {a b : List Fl} {p : List UInt8} (h : ((lk Fl.path a p).isSome == (lk Fl.path b p).isSome && feq ((lk Fl.path a p).getD zf) ((lk Fl.path b p).getD zf)) = true) : gd a b p = none := by
  unfold gd dlt
  rw [oeq_eq, h]; rfl

set_option maxRecDepth 100000 in
set_option maxHeartbeats 8000000 in
theorem rdiff_any {w : World} {va vb : Value} {a b : List Fl} (ha : FS w va a) (hb : FS w vb b) (sa : FSk a) (sb : FSk b) (la : a.length ≤ 1048576) (lb : b.length ≤ 1048576) (ea : ∀ f ∈ a, f.path.length ≤ 1048576) (eb : ∀ f ∈ b, f.path.length ≤ 1048576) :
    Calls Try.prog 26 #[va, vb] w fun e w' => ∃ v', e = .returned v' ∧ OwnC w.heap.size w' v' (dif a b) ∧ Below w.heap.size w w' := by
  rw [← rdif_eq]
  have HV1 : Hid (∀ W, Below w.heap.size w W → Calls Try.prog 40 #[va] W fun x w' => x = .returned (.int .i64 (validE a)) ∧ Below w.heap.size w w') := fun W hW => (rsnap_any (ha.later hW) sa).mono fun _ _ h => ⟨h.1, bstep hW h.2⟩
  have HV2 : Hid (∀ W, Below w.heap.size w W → Calls Try.prog 40 #[vb] W fun x w' => x = .returned (.int .i64 (validE b)) ∧ Below w.heap.size w w') := fun W hW => (rsnap_any (hb.later hW) sb).mono fun _ _ h => ⟨h.1, bstep hW h.2⟩
  have HAL : Hid (∀ W, Below w.heap.size w W → Calls Try.prog 44 #[va, vb] W fun e w' => ∃ v', e = .returned v' ∧ Own W.heap.size w' v' (rall a b) ∧ Below w.heap.size w w') := fun W hW => (rall_any (ha.later hW) (hb.later hW) la lb ea eb).mono fun _ _ h => by obtain ⟨v, h1, h2, h3⟩ := h; exact ⟨v, h1, h2, bstep hW h3⟩
  have HF1 : Hid (∀ W p, Below w.heap.size w W → Calls Try.prog 41 #[va, .string (bs p)] W fun e w' => e = .returned (.tuple #[((lk Fl.path a p).getD zf).val, .bool (lk Fl.path a p).isSome]) ∧ Below W.heap.size W w') := fun W p hW => rat_any p (ha.later hW) (by omega)
  have HF2 : Hid (∀ W p, Below w.heap.size w W → Calls Try.prog 41 #[vb, .string (bs p)] W fun e w' => e = .returned (.tuple #[((lk Fl.path b p).getD zf).val, .bool (lk Fl.path b p).isSome]) ∧ Below W.heap.size W w') := fun W p hW => rat_any p (hb.later hW) (by omega)
  have HRL : Hid ((rall a b).length ≤ 2097152) := by
    show (norm _).length ≤ _
    have := norm_len (fpths a ++ fpths b)
    rw [List.length_append, fpths_len, fpths_len] at this; omega
  obtain ⟨a1, c1, hva⟩ : ∃ x c, va = .slice x a.length c := by obtain ⟨a, c, h, _⟩ := ha.form; exact ⟨a, c, h⟩
  obtain ⟨a2, c2, hvb⟩ : ∃ x c, vb = .slice x b.length c := by obtain ⟨a, c, h, _⟩ := hb.form; exact ⟨a, c, h⟩
  obtain ⟨n1, hn1⟩ : ∃ n, a.length = n := ⟨_, rfl⟩
  obtain ⟨n2, hn2⟩ : ∃ n, b.length = n := ⟨_, rfl⟩
  rw [hn1] at hva
  rw [hn2] at hvb
  subst hva hvb
  clear ha hb sa sb ea eb la lb hn1 hn2
  cases h1 : stand a
  · have hE := valid_no h1
    have HR : Hid (rdif a b = []) := by show _ = _; unfold rdif; rw [h1]; rfl
    generalize validE a = E at *
    clear h1
    go_enter Try.func26, Try.ntmps26
    go_wp2_with fail
    refine (HV1.out _ (Below.refl _ _)).mono ?_
    rintro x w1 ⟨rfl, hb1⟩
    have HB : Hid (Below w.heap.size w w1) := hb1
    clear hb1
    go_wp2_with fail
    go_ret
    exact ⟨.slice none 0 0, rfl, by rw [HR.out]; exact OwnC.nil _ _, HB.out⟩
  cases h2 : stand b
  · have hE := valid_no h2
    have HR : Hid (rdif a b = []) := by show _ = _; unfold rdif; rw [h1, h2]; rfl
    rw [(validE_zero a).2 h1] at HV1
    generalize validE b = E at *
    clear h1 h2
    go_enter Try.func26, Try.ntmps26
    go_wp2_with fail
    refine (HV1.out _ (Below.refl _ _)).mono ?_
    rintro x w1 ⟨rfl, hb1⟩
    have HB : Hid (Below w.heap.size w w1) := hb1
    clear hb1
    go_wp2_with fail
    refine (HV2.out _ HB.out).mono ?_
    rintro x w2 ⟨rfl, hb1⟩
    have HB2 : Hid (Below w.heap.size w w2) := hb1
    clear hb1
    go_wp2_with fail
    go_ret
    exact ⟨.slice none 0 0, rfl, by rw [HR.out]; exact OwnC.nil _ _, HB2.out⟩
  rw [(validE_zero a).2 h1] at HV1
  rw [(validE_zero b).2 h2] at HV2
  have HR : Hid (rdif a b = (rall a b).filterMap (gd a b)) := by show _ = _; unfold rdif; rw [h1, h2]; rfl
  rw [HR.out]
  clear h1 h2 HR
  generalize rall a b = L at *
  go_enter Try.func26, Try.ntmps26
  go_wp2_with fail
  refine (HV1.out _ (Below.refl _ _)).mono ?_
  rintro x w1 ⟨rfl, hb1⟩
  have HB1 : Hid (Below w.heap.size w w1) := hb1
  clear hb1
  go_wp2_with fail
  refine (HV2.out _ HB1.out).mono ?_
  rintro x w1' ⟨rfl, hb1⟩
  have HB1' : Hid (Below w.heap.size w w1') := hb1
  clear hb1
  go_wp2_with fail
  refine (HAL.out _ HB1'.out).mono ?_
  rintro x w2 ⟨v6, rfl, hol, hb1⟩
  have HB2 : Hid (Below w.heap.size w w2) := hb1
  obtain ⟨al, cl, m, hm, rfl, cal⟩ := hol.bs.form'
  have CL : Hid (∀ k, (hk : k < L.length) → ∃ b off, al = some ⟨b, off, none⟩ ∧ b < w2.heap.size ∧ w2.cell? ⟨b, off + k, none⟩ = some (.string (bs L[k]))) := cal
  have HM : Hid (m = L.length) := hm
  have hml : m ≤ 2097152 := by rw [hm]; exact HRL.out
  clear hb1 hol cal hm
  obtain ⟨G, hG⟩ : ∃ G, w2.heap.size = G := ⟨_, rfl⟩
  go_wp2_with fail
  go_loopw [5, 7] (fun o i wr => ∃ k : Nat, k ≤ m ∧ i = .int .i64 k ∧ OwnC G wr o ((L.take k).filterMap (gd a b)) ∧ Below G w2 wr) (fun _ i _ => m - (intOf i).toNat)
  case atStart => exact ⟨0, Nat.zero_le _, rfl, OwnC.nil _ _, Below.refl _ _⟩
  case round =>
    obtain ⟨k, hk, rfl, ho, hbw⟩ := hrel
    have HO : Hid (OwnC G wr u5 ((L.take k).filterMap (gd a b))) := ho
    have HB : Hid (Below G w2 wr) := hbw
    have hzo : G ≤ wr.heap.size := by have := hbw.size; omega
    clear ho hbw
    by_cases hlt : k < m
    · have hkl : k < L.length := by have := HM.out; omega
      obtain ⟨gl, ol, rfl, hgl0, c0⟩ := CL.out k hkl
      have hgl : gl < wr.heap.size := by omega
      have hglG : gl < G := by omega
      have HT : Hid ((L.take (k + 1)).filterMap (gd a b) = (L.take k).filterMap (gd a b) ++ (gd a b (L[k]'hkl)).toList) := fm_take _ L k hkl
      obtain ⟨p, hp⟩ : ∃ p, L[k]'hkl = p := ⟨_, rfl⟩
      rw [hp] at c0 HT
      have HZ : Hid (((L.take k).filterMap (gd a b)).length ≤ k) := by have := fm_len (gd a b) (L.take k); show _ ≤ _; simp at this ⊢; omega
      have cl0 : wr.cell? ⟨gl, ol + k, none⟩ = some (.string (bs p)) := by rw [HB.out.cell (p := ⟨gl, ol + k, none⟩) hglG]; exact c0
      have HBw : Hid (Below w.heap.size w wr) := below_trans HB2.out (below_mono HB.out (by rw [← hG]; exact HB2.out.size))
      clear c0 hp hgl0
      generalize (L.take k).filterMap (gd a b) = I at *
      have k1 : (0 : Int) ≤ (k : Int) := by omega
      have k2 : (k : Int) < (m : Int) := by omega
      have HG1 : Hid (((lk Fl.path a p).isSome == (lk Fl.path b p).isSome && feq ((lk Fl.path a p).getD zf) ((lk Fl.path b p).getD zf)) = false → gd a b p = some ⟨p, (lk Fl.path a p).isSome, (lk Fl.path b p).isSome, (lk Fl.path a p).getD zf, (lk Fl.path b p).getD zf⟩) := gd_go
      have HG2 : Hid (((lk Fl.path a p).isSome == (lk Fl.path b p).isSome && feq ((lk Fl.path a p).getD zf) ((lk Fl.path b p).getD zf)) = true → gd a b p = none) := gd_no
      have HFa : Hid (∀ W, Below w.heap.size w W → Calls Try.prog 41 #[.slice a1 n1 c1, .string (bs p)] W fun e w' => e = .returned (.tuple #[((lk Fl.path a p).getD zf).val, .bool (lk Fl.path a p).isSome]) ∧ Below W.heap.size W w') := fun W => HF1.out W p
      have HFb : Hid (∀ W, Below w.heap.size w W → Calls Try.prog 41 #[.slice a2 n2 c2, .string (bs p)] W fun e w' => e = .returned (.tuple #[((lk Fl.path b p).getD zf).val, .bool (lk Fl.path b p).isSome]) ∧ Below W.heap.size W w') := fun W => HF2.out W p
      generalize gd a b p = g at *
      generalize (lk Fl.path a p).getD zf = x at *
      generalize (lk Fl.path b p).getD zf = y at *
      generalize (lk Fl.path a p).isSome = u at *
      generalize (lk Fl.path b p).isSome = v at *
      obtain ⟨p1, t1, b1, s1⟩ := x
      obtain ⟨p2, t2, b2, s2⟩ := y
      simp only [Fl.val] at HFa HFb
      go_wp2_with fail
      refine (HFa.out _ HBw.out).mono ?_
      rintro e w3 ⟨rfl, hb3⟩
      have HB3 : Hid (Below wr.heap.size wr w3) := hb3
      have cl3 : w3.cell? ⟨gl, ol + k, none⟩ = some (.string (bs p)) := (hb3.cell (p := ⟨gl, ol + k, none⟩) hgl).trans cl0
      have hgl3 : gl < w3.heap.size := Nat.lt_of_lt_of_le hgl hb3.size
      clear hb3
      go_wp2_with fail
      refine (HFb.out _ (bstep (bstep HBw.out HB3.out) (balloc _ _))).mono ?_
      rintro e w4 ⟨rfl, hb4⟩
      obtain ⟨ga, hga⟩ : ∃ ga, w3.heap.size = ga := ⟨_, rfl⟩
      rw [hga]
      have HA4 : Hid (RB w4 ga ⟨p1, t1, b1, s1⟩ ∧ Below wr.heap.size wr w4) := ⟨by rw [← hga]; exact (RB.new w3 ⟨p1, t1, b1, s1⟩).later hb4, bstep (bstep HB3.out (balloc _ _)) hb4⟩
      have hga0 : wr.heap.size ≤ ga := by rw [← hga]; exact HB3.out.size
      have hga4 : ga < w4.heap.size := HA4.out.1.lt
      clear hb4 hga cl3 hgl3 HB3
      obtain ⟨z0, z1, z2, z3, _⟩ := HA4.out.1.cells
      have cl4 : w4.cell? ⟨gl, ol + k, none⟩ = some (.string (bs p)) := (HA4.out.2.cell (p := ⟨gl, ol + k, none⟩) hgl).trans cl0
      simp only at z0 z1 z2 z3
      have q2 := guard_run
      by_cases huv : u = v
      · subst huv
        obtain ⟨e, he⟩ : ∃ e, feq ⟨p1, t1, b1, s1⟩ ⟨p2, t2, b2, s2⟩ = e := ⟨_, rfl⟩
        cases e
        · have hq : ∀ w, (binOp .neq 40 (.agg #[.string (bs p1), .string (bs t1), .int .i64 b1, .int .i64 s1]) (.agg #[.string (bs p2), .string (bs t2), .int .i64 b2, .int .i64 s2])).run Try.prog w = .ok (.bool true) w := fun w => by rw [neq_run, he]; rfl
          have hg := HG1.out (by rw [he]; simp)
          subst hg
          clear he HG1 HG2
          simp only [Option.toList_some] at HT
          go_wp2_with fail
          obtain ⟨W, hW⟩ : ∃ W, w4.alloc (.cells #[.string (bs p2), .string (bs t2), .int .i64 b2, .int .i64 s2] 40) = W := ⟨_, rfl⟩
          rw [hW]
          obtain ⟨gb, hgb⟩ : ∃ gb, w4.heap.size = gb := ⟨_, rfl⟩
          rw [hgb]
          have HR1 : Hid (RB W ga ⟨p1, t1, b1, s1⟩) := by show RB W ga _; rw [← hW]; exact HA4.out.1.later (balloc _ _)
          have HR2 : Hid (RB W gb ⟨p2, t2, b2, s2⟩) := by show RB W gb _; rw [← hW, ← hgb]; exact RB.new w4 ⟨p2, t2, b2, s2⟩
          have HBW : Hid (Below wr.heap.size wr W) := by show Below _ _ _; rw [← hW]; exact bstep HA4.out.2 (balloc _ _)
          have hgaW : ga < W.heap.size := HR1.out.lt
          have hgbW : gb < W.heap.size := HR2.out.lt
          have hglW : gl < W.heap.size := Nat.lt_of_lt_of_le hgl HBW.out.size
          have HGE : Hid (wr.heap.size ≤ ga ∧ wr.heap.size ≤ gb) := ⟨hga0, by show wr.heap.size ≤ gb; rw [← hgb]; exact HA4.out.2.size⟩
          clear hW hgb hga4 HA4 z0 z1 z2 z3 cl4
          have cl := (HBW.out.cell (p := ⟨gl, ol + k, none⟩) hgl).trans cl0
          obtain ⟨x0, x1, x2, x3, _⟩ := HR1.out.cells
          obtain ⟨y0, y1, y2, y3, _⟩ := HR2.out.cells
          simp only at x0 x1 x2 x3 y0 y1 y2 y3
          have HOW : Hid (OwnC G W u5 I) := HO.out.later HBW.out
          have HA : Hid (∀ (V : World), (W.alloc (.cells #[.string (bs p), .bool u, .bool u, .string (bs p1), .string (bs t1), .int .i64 b1, .int .i64 s1, .string (bs p2), .string (bs t2), .int .i64 b2, .int .i64 s2] 42)).drew.grownBy V u5.ownBlock → Below G w2 V ∧ (V.cell? ⟨gl, ol + k, none⟩ = some (.string (bs p)) ∧ V.cell? ⟨ga, 0, none⟩ = some (.string (bs p1)) ∧ V.cell? ⟨ga, 1, none⟩ = some (.string (bs t1)) ∧ V.cell? ⟨ga, 2, none⟩ = some (.int .i64 b1) ∧ V.cell? ⟨ga, 3, none⟩ = some (.int .i64 s1) ∧ V.cell? ⟨gb, 0, none⟩ = some (.string (bs p2)) ∧ V.cell? ⟨gb, 1, none⟩ = some (.string (bs t2)) ∧ V.cell? ⟨gb, 2, none⟩ = some (.int .i64 b2) ∧ V.cell? ⟨gb, 3, none⟩ = some (.int .i64 s2))) := fun V hV => by
            have hlt5 : ∀ k, u5.ownBlock = some k → G ≤ k ∧ k < wr.heap.size := fun k hk => HO.out.lt hk
            have hn1 : u5.ownBlock ≠ some ga := fun e => by have := (hlt5 _ e).2; have := HGE.out.1; omega
            have hn2 : u5.ownBlock ≠ some gb := fun e => by have := (hlt5 _ e).2; have := HGE.out.2; omega
            have hn3 : u5.ownBlock ≠ some gl := fun e => by have := (hlt5 _ e).1; omega
            refine ⟨(below_trans HB.out (below_mono (bstep HBW.out (balloc W _).drew) hzo)).grown hV (by have := HBW.out.size; simp; omega) (fun k hk => (hlt5 k hk).1), grow_cell hV hglW hn3 cl, grow_cell hV hgaW hn1 x0, grow_cell hV hgaW hn1 x1, grow_cell hV hgaW hn1 x2, grow_cell hV hgaW hn1 x3, grow_cell hV hgbW hn2 y0, grow_cell hV hgbW hn2 y1, grow_cell hV hgbW hn2 y2, grow_cell hV hgbW hn2 y3⟩
          go_region_held3 (fun w' => w'.cell? ⟨gl, ol + k, none⟩ = some (.string (bs p)) ∧ w'.cell? ⟨ga, 0, none⟩ = some (.string (bs p1)) ∧ w'.cell? ⟨ga, 1, none⟩ = some (.string (bs t1)) ∧ w'.cell? ⟨ga, 2, none⟩ = some (.int .i64 b1) ∧ w'.cell? ⟨ga, 3, none⟩ = some (.int .i64 s1) ∧ w'.cell? ⟨gb, 0, none⟩ = some (.string (bs p2)) ∧ w'.cell? ⟨gb, 1, none⟩ = some (.string (bs t2)) ∧ w'.cell? ⟨gb, 2, none⟩ = some (.int .i64 b2) ∧ w'.cell? ⟨gb, 3, none⟩ = some (.int .i64 s2)) (first | (with_reducible exact KS.2) | go_keep) (first | (refine step_app_chs rfl (.tmp 55) (.tmp 65) rfl G I [(⟨p, u, u, ⟨p1, t1, b1, s1⟩, ⟨p2, t2, b2, s2⟩⟩ : Ch)] u5 _ rfl rfl (HOW.out.later (balloc _ _).drew) (src_ch_d W (⟨p, u, u, ⟨p1, t1, b1, s1⟩, ⟨p2, t2, b2, s2⟩⟩ : Ch)) (by have := HZ.out; simp; omega) (by have := HBW.out.size; show G ≤ _; simp; omega) ?_; intro v6 w6 ho6 hg6 hv6; have KS := HA.out w6 hg6))
          have H2 : Hid (OwnC G w6 v6 (I ++ [(⟨p, u, u, ⟨p1, t1, b1, s1⟩, ⟨p2, t2, b2, s2⟩⟩ : Ch)]) ∧ Below G w2 w6) := ⟨ho6, KS.1⟩
          clear ho6 hg6 hv6 KS
          go_wp2_with fail
          go_roundw
          case rel => exact ⟨k + 1, by omega, by go_num, by rw [HT.out]; exact H2.out.1, H2.out.2⟩
          case measure => simp [intOf]; omega
        · have hq : ∀ w, (binOp .neq 40 (.agg #[.string (bs p1), .string (bs t1), .int .i64 b1, .int .i64 s1]) (.agg #[.string (bs p2), .string (bs t2), .int .i64 b2, .int .i64 s2])).run Try.prog w = .ok (.bool false) w := fun w => by rw [neq_run, he]; rfl
          have hg := HG2.out (by rw [he]; simp)
          subst hg
          clear he HG1 HG2
          simp only [Option.toList_none, List.append_nil] at HT
          go_wp2_with fail
          go_roundw
          case rel => exact ⟨k + 1, by omega, by go_num, by rw [HT.out]; exact HO.out.later (bstep HA4.out.2 (balloc _ _)), below_trans HB.out (below_mono (bstep HA4.out.2 (balloc _ _)) hzo)⟩
          case measure => simp [intOf]; omega
      · have hx : (u != v) = true := by simpa using huv
        have hy : (u == v) = false := by simpa using huv
        have hg := HG1.out (by have : (u == v) = false := by simpa using huv
                               rw [this]; rfl)
        subst hg
        clear HG1 HG2
        simp only [Option.toList_some] at HT
        go_wp2_with fail
        obtain ⟨W, hW⟩ : ∃ W, w4.alloc (.cells #[.string (bs p2), .string (bs t2), .int .i64 b2, .int .i64 s2] 40) = W := ⟨_, rfl⟩
        rw [hW]
        obtain ⟨gb, hgb⟩ : ∃ gb, w4.heap.size = gb := ⟨_, rfl⟩
        rw [hgb]
        have HR1 : Hid (RB W ga ⟨p1, t1, b1, s1⟩) := by show RB W ga _; rw [← hW]; exact HA4.out.1.later (balloc _ _)
        have HR2 : Hid (RB W gb ⟨p2, t2, b2, s2⟩) := by show RB W gb _; rw [← hW, ← hgb]; exact RB.new w4 ⟨p2, t2, b2, s2⟩
        have HBW : Hid (Below wr.heap.size wr W) := by show Below _ _ _; rw [← hW]; exact bstep HA4.out.2 (balloc _ _)
        have hgaW : ga < W.heap.size := HR1.out.lt
        have hgbW : gb < W.heap.size := HR2.out.lt
        have hglW : gl < W.heap.size := Nat.lt_of_lt_of_le hgl HBW.out.size
        have HGE : Hid (wr.heap.size ≤ ga ∧ wr.heap.size ≤ gb) := ⟨hga0, by show wr.heap.size ≤ gb; rw [← hgb]; exact HA4.out.2.size⟩
        clear hW hgb hga4 HA4 z0 z1 z2 z3 cl4
        have cl := (HBW.out.cell (p := ⟨gl, ol + k, none⟩) hgl).trans cl0
        obtain ⟨x0, x1, x2, x3, _⟩ := HR1.out.cells
        obtain ⟨y0, y1, y2, y3, _⟩ := HR2.out.cells
        simp only at x0 x1 x2 x3 y0 y1 y2 y3
        have HOW : Hid (OwnC G W u5 I) := HO.out.later HBW.out
        have HA : Hid (∀ (V : World), (W.alloc (.cells #[.string (bs p), .bool u, .bool v, .string (bs p1), .string (bs t1), .int .i64 b1, .int .i64 s1, .string (bs p2), .string (bs t2), .int .i64 b2, .int .i64 s2] 42)).drew.grownBy V u5.ownBlock → Below G w2 V ∧ (V.cell? ⟨gl, ol + k, none⟩ = some (.string (bs p)) ∧ V.cell? ⟨ga, 0, none⟩ = some (.string (bs p1)) ∧ V.cell? ⟨ga, 1, none⟩ = some (.string (bs t1)) ∧ V.cell? ⟨ga, 2, none⟩ = some (.int .i64 b1) ∧ V.cell? ⟨ga, 3, none⟩ = some (.int .i64 s1) ∧ V.cell? ⟨gb, 0, none⟩ = some (.string (bs p2)) ∧ V.cell? ⟨gb, 1, none⟩ = some (.string (bs t2)) ∧ V.cell? ⟨gb, 2, none⟩ = some (.int .i64 b2) ∧ V.cell? ⟨gb, 3, none⟩ = some (.int .i64 s2))) := fun V hV => by
          have hlt5 : ∀ k, u5.ownBlock = some k → G ≤ k ∧ k < wr.heap.size := fun k hk => HO.out.lt hk
          have hn1 : u5.ownBlock ≠ some ga := fun e => by have := (hlt5 _ e).2; have := HGE.out.1; omega
          have hn2 : u5.ownBlock ≠ some gb := fun e => by have := (hlt5 _ e).2; have := HGE.out.2; omega
          have hn3 : u5.ownBlock ≠ some gl := fun e => by have := (hlt5 _ e).1; omega
          refine ⟨(below_trans HB.out (below_mono (bstep HBW.out (balloc W _).drew) hzo)).grown hV (by have := HBW.out.size; simp; omega) (fun k hk => (hlt5 k hk).1), grow_cell hV hglW hn3 cl, grow_cell hV hgaW hn1 x0, grow_cell hV hgaW hn1 x1, grow_cell hV hgaW hn1 x2, grow_cell hV hgaW hn1 x3, grow_cell hV hgbW hn2 y0, grow_cell hV hgbW hn2 y1, grow_cell hV hgbW hn2 y2, grow_cell hV hgbW hn2 y3⟩
        go_region_held3 (fun w' => w'.cell? ⟨gl, ol + k, none⟩ = some (.string (bs p)) ∧ w'.cell? ⟨ga, 0, none⟩ = some (.string (bs p1)) ∧ w'.cell? ⟨ga, 1, none⟩ = some (.string (bs t1)) ∧ w'.cell? ⟨ga, 2, none⟩ = some (.int .i64 b1) ∧ w'.cell? ⟨ga, 3, none⟩ = some (.int .i64 s1) ∧ w'.cell? ⟨gb, 0, none⟩ = some (.string (bs p2)) ∧ w'.cell? ⟨gb, 1, none⟩ = some (.string (bs t2)) ∧ w'.cell? ⟨gb, 2, none⟩ = some (.int .i64 b2) ∧ w'.cell? ⟨gb, 3, none⟩ = some (.int .i64 s2)) (first | (with_reducible exact KS.2) | go_keep) (first | (refine step_app_chs rfl (.tmp 55) (.tmp 65) rfl G I [(⟨p, u, v, ⟨p1, t1, b1, s1⟩, ⟨p2, t2, b2, s2⟩⟩ : Ch)] u5 _ rfl rfl (HOW.out.later (balloc _ _).drew) (src_ch_d W (⟨p, u, v, ⟨p1, t1, b1, s1⟩, ⟨p2, t2, b2, s2⟩⟩ : Ch)) (by have := HZ.out; simp; omega) (by have := HBW.out.size; show G ≤ _; simp; omega) ?_; intro v6 w6 ho6 hg6 hv6; have KS := HA.out w6 hg6))
        have H2 : Hid (OwnC G w6 v6 (I ++ [(⟨p, u, v, ⟨p1, t1, b1, s1⟩, ⟨p2, t2, b2, s2⟩⟩ : Ch)]) ∧ Below G w2 w6) := ⟨ho6, KS.1⟩
        clear ho6 hg6 hv6 KS
        go_wp2_with fail
        go_roundw
        case rel => exact ⟨k + 1, by omega, by go_num, by rw [HT.out]; exact H2.out.1, H2.out.2⟩
        case measure => simp [intOf]; omega
    · obtain rfl : k = m := by omega
      have HE : Hid (OwnC G wr u5 (L.filterMap (gd a b))) := by
        have h1 := HO.out
        rw [HM.out, List.take_length] at h1; exact h1
      clear HO
      go_wp2_with fail
      go_ret
      exact ⟨_, rfl, HE.out.mono (by rw [← hG]; exact HB2.out.size), below_trans HB2.out (below_mono HB.out (by rw [← hG]; exact HB2.out.size))⟩

theorem run_storeVar_at (w : World) (g o : Nat) (t ty : TypeId) (cur cells : Array Value) (v : Value) (hv : v.cells = cells) (hg : w.heap[g]? = some (.cells cur t (0, 0))) (hi : (Try.prog.info? ty).map (·.size) = some cells.size) (hl : o + cells.size ≤ cur.size) (h1 : ∀ u ∈ cells.toList, u.oneCell' = true) :
    (storeVar ty ⟨g, o, none⟩ v).run Try.prog w = .ok () (w.setRow g (cur.toList.take o ++ cells.toList ++ cur.toList.drop (o + cells.size)).toArray) := by
  have := run_storeCells_at (P := Try.prog) g o t cells.toList 0 cur w hg (by simpa using hl) h1
  simp only [Nat.add_zero, Array.length_toList] at this
  cases hq : Try.prog.info? ty with
  | none => simp [hq] at hi
  | some i =>
    have hs : cells.size = i.size := by simp [hq] at hi; omega
    simp [storeVar, sizeOf, typeInfo, hq, hv, hs, this]
theorem setRow_below {B : Nat} {w0 w : World} {g : Nat} (h : Below B w0 w) (hg : B ≤ g) (cs : Array Value) : Below B w0 (w.setRow g cs) := bsetRow h hg cs
theorem RC.other {w : World} {g k : Nat} {c : Ch} (h : RC w k c) (hne : k ≠ g) (cs : Array Value) : RC (w.setRow g cs) k c := ⟨(setRow_other w g k cs hne).trans h.blk⟩
theorem RB.other {w : World} {g k : Nat} {c : Fl} (h : RB w k c) (hne : k ≠ g) (cs : Array Value) : RB (w.setRow g cs) k c := ⟨(setRow_other w g k cs hne).trans h.blk⟩
/-- c.Has = b -/
theorem store_has {w : World} {g : Nat} {c : Ch} (h : RC w g c) (b : Bool) {ops : Array Oper} {rest : List Oper} {o : Oper} {a : Act} {Q : Exit → Act → World → Prop} (hgd : o.guard = none) (x y : Operand) (ho : o.op = .store 4 x y)
    (hx : a.eval x = .pointer (some ⟨g, 2, none⟩)) (hy : a.eval y = .bool b)
    (hK : ∀ w', RC w' g ⟨c.path, c.had, b, c.old, c.new⟩ → (∀ B w0, Below B w0 w → B ≤ g → Below B w0 w') → (∀ k d, RC w k d → k ≠ g → RC w' k d) → wpList Try.prog ops Q rest (a.put o.dst undef) w') : wpList Try.prog ops Q (o :: rest) a w :=
  wpList_plain hgd fun _ hK' => by
    have e := run_storeVar_at w g 2 42 4 _ #[.bool b] (.bool b) rfl h.blk (by kernel_rfl) (by simp) (by simp [Value.oneCell'])
    unfold Oper.wp execOp
    simp only [ho, hx, hy, Instr.storeAt, Instr.sureAddr, Sem.run_bind, Sem.run_pure, Result.andThen_ok, e]
    exact hK' _ _ (hK _ ⟨(setRow_heap w g _ _ 42 (0, 0) h.blk).trans rfl⟩ (fun B w0 hb hg => bsetRow hb hg _) (fun k d hk hne => hk.other hne _))
/-- c.New = f -/
theorem store_new {w : World} {g : Nat} {c : Ch} (h : RC w g c) (f : Fl) {ops : Array Oper} {rest : List Oper} {o : Oper} {a : Act} {Q : Exit → Act → World → Prop} (hgd : o.guard = none) (x y : Operand) (ho : o.op = .store 40 x y)
    (hx : a.eval x = .pointer (some ⟨g, 7, none⟩)) (hy : a.eval y = f.val)
    (hK : ∀ w', RC w' g ⟨c.path, c.had, c.has, c.old, f⟩ → (∀ B w0, Below B w0 w → B ≤ g → Below B w0 w') → (∀ k d, RC w k d → k ≠ g → RC w' k d) → wpList Try.prog ops Q rest (a.put o.dst undef) w') : wpList Try.prog ops Q (o :: rest) a w :=
  wpList_plain hgd fun _ hK' => by
    have e := run_storeVar_at w g 7 42 40 _ #[.string (bs f.path), .string (bs f.text), .int .i64 f.blob, .int .i64 f.size] f.val rfl h.blk (by kernel_rfl) (by simp) (by simp [Value.oneCell'])
    unfold Oper.wp execOp
    simp only [ho, hx, hy, Instr.storeAt, Instr.sureAddr, Sem.run_bind, Sem.run_pure, Result.andThen_ok, e]
    exact hK' _ _ (hK _ ⟨(setRow_heap w g _ _ 42 (0, 0) h.blk).trans rfl⟩ (fun B w0 hb hg => bsetRow hb hg _) (fun k d hk hne => hk.other hne _))
/-- a file in a block of its own is written over -/
theorem store_file {w : World} {g : Nat} {c : Fl} (h : RB w g c) (f : Fl) {ops : Array Oper} {rest : List Oper} {o : Oper} {a : Act} {Q : Exit → Act → World → Prop} (hgd : o.guard = none) (x y : Operand) (ho : o.op = .store 40 x y)
    (hx : a.eval x = .pointer (some ⟨g, 0, none⟩)) (hy : a.eval y = f.val)
    (hK : ∀ w', RB w' g f → (∀ B w0, Below B w0 w → B ≤ g → Below B w0 w') → wpList Try.prog ops Q rest (a.put o.dst undef) w') : wpList Try.prog ops Q (o :: rest) a w :=
  wpList_plain hgd fun _ hK' => by
    have e := run_storeVar_at w g 0 40 40 _ #[.string (bs f.path), .string (bs f.text), .int .i64 f.blob, .int .i64 f.size] f.val rfl h.blk (by kernel_rfl) (by simp) (by simp [Value.oneCell'])
    unfold Oper.wp execOp
    simp only [ho, hx, hy, Instr.storeAt, Instr.sureAddr, Sem.run_bind, Sem.run_pure, Result.andThen_ok, e]
    exact hK' _ _ (hK _ ⟨(setRow_heap w g _ _ 40 (0, 0) h.blk).trans rfl⟩ (fun B w0 hb hg => bsetRow hb hg _))
/-- the document's one change behind the other, by what was found -/
def jq (u v : Bool) (x y : Ch) : Option (Option Ch) :=
  if u && v then
    (if y.had != x.has || !feq y.old x.new then none
    else some (if x.had != y.has || !feq x.old y.new then some ⟨x.path, x.had, y.has, x.old, y.new⟩ else none))
  else if u then some (some x) else some (some y)
theorem jp_jq (x y : Option Ch) : jp x y = jq x.isSome y.isSome (x.getD zc) (y.getD zc) := by
  cases x <;> cases y <;> rfl
end Go.Proofs.Ytinhdjoidbcfaaa
