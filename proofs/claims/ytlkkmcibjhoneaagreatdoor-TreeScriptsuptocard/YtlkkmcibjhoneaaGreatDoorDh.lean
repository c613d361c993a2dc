/-
  The document's tree: New.
-/
import Derived.Test.YtlkkmcibjhoneaaGreatDoorDg
namespace Go.Proofs.YtlkkmcibjhoneaaGreatDoor
open Go.RowKit

def slen : Value → Nat
  | .string b => b.size
  | _ => 0
/-- the new tree alone -/
structure NX (w W : World) (d : Nat) (S : TT) : Prop where
  n : RT W (fun k => w.heap.size ≤ k ∧ k < W.heap.size) d S
  b : Below w.heap.size w W
theorem NX.later {w W W' : World} {d : Nat} {S : TT} (h : NX w W d S) (hb : Below W.heap.size W W') : NX w W' d S := by
  have hz := hb.size
  exact ⟨(h.n.later hb).wider (fun k hk => ⟨hk.1, by omega⟩) (fun k hk => hk.2), bstep h.b hb⟩
theorem NX.app {w W W' : World} {d : Nat} {S : TT} {v vd : Value} {l : List (List UInt8)} (h : NX w W d S) (hc : W.cell? ⟨d, 1, none⟩ = some vd)
    (hg : W.grownBy W' vd.ownBlock) (hv : Own 0 W' v l) (hk : v.ownBlock = vd.ownBlock ∨ v.ownBlock = some (W.heap.size + 1)) : NX w (W'.setCell ⟨d, 1, none⟩ v) d { S with ds := l } := by
  obtain ⟨vf, vd', vj, vt, r1, r2, r3, r4, r5⟩ := h.n
  obtain rfl : vd' = vd := by
    have := r1.cell.2.1
    rw [hc] at this
    exact (Option.some.inj this).symm
  have hz := hg.size
  have hge := r2.1
  have hzW := h.b.size
  have nc : vd'.ownBlock ≠ some d := row_ne r4.d.1 r1 (by decide)
  have nf : ∀ i, vf.ownBlock = some i → some i ≠ vd'.ownBlock := fun i hi e => ss_ne2 r4.f.1 r4.d.1 i hi e.symm
  have nj : ∀ i, vj.ownBlock = some i → some i ≠ vd'.ownBlock := fun i hi e => bs_ne2 r4.j.1 r4.d.1 i hi e.symm
  have nt : ∀ i, vt.ownBlock = some i → some i ≠ vd'.ownBlock := fun i hi e => bs_ne2 r4.t.1 r4.d.1 i hi e.symm
  have q1 := r1.stay (w' := W') (hg.block d r1.lt (fun e => nc e.symm))
  have hs : (W'.setCell ⟨d, 1, none⟩ v).heap.size = W'.heap.size := size_set _ _ _ _
  have hF : ∀ i, (w.heap.size ≤ i ∧ i < W.heap.size) → w.heap.size ≤ i ∧ i < W'.heap.size := fun i hi => ⟨hi.1, by omega⟩
  have q2 : RR W' (fun k => w.heap.size ≤ k ∧ k < W'.heap.size) vf v vj vt S.fs l S.jl S.tn :=
    ⟨⟨row_stay r4.f.1 fun i hi => hg.block i (r4.f.2 i hi).2 (nf i hi), fun i hi => hF i (r4.f.2 i hi)⟩,
     ⟨hv, fun i hi => by
        have hl := (hv.lt hi).2
        rcases hk with e | e
        · exact hF i (r4.d.2 i (e ▸ hi))
        · rw [e] at hi
          have := Option.some.inj hi
          omega⟩, ⟨row_stay r4.j.1 fun i hi => hg.block i (r4.j.2 i hi).2 (nj i hi), fun i hi => hF i (r4.j.2 i hi)⟩, ⟨row_stay r4.t.1 fun i hi => hg.block i (r4.t.2 i hi).2 (nt i hi), fun i hi => hF i (r4.t.2 i hi)⟩⟩
  have hb : Below w.heap.size w W' := h.b.grown hg hzW (fun i hi => (r4.d.2 i hi).1)
  refine ⟨?_, hb.setCell (p := ⟨d, 1, none⟩) hge _⟩
  rw [hs]
  exact ⟨vf, v, vj, vt, q1.set1, ⟨hge, by have := r1.lt; omega⟩, fun i hi => by rw [hs]; exact hi.2, q2.set q1, r5⟩
theorem NX.putD {w W W' : World} {d : Nat} {S : TT} {v : Value} {l : List (List UInt8)} (h : NX w W d S) (hb : Below W.heap.size W W') (hv : Own W.heap.size W' v l) : NX w (W'.setCell ⟨d, 1, none⟩ v) d { S with ds := l } := by
  have h' := h.later hb
  have hz : (W'.setCell ⟨d, 1, none⟩ v).heap.size = W'.heap.size := size_set _ _ _ _
  have hzW := h.b.size
  refine ⟨?_, h'.b.setCell (p := ⟨d, 1, none⟩) h.n.mem.1 _⟩
  have := h'.n.setD (F' := fun k => w.heap.size ≤ k ∧ k < W'.heap.size) (hv.mono (Nat.zero_le _)) (fun k hk => by have := hv.lt hk; omega) (fun _ h => h) (fun k h => h.2)
  rw [hz]; exact this
theorem NX.putF {w W W' : World} {d : Nat} {S : TT} {v : Value} {l : List Fl} (h : NX w W d S) (hb : Below W.heap.size W W') (hv : OwnF W.heap.size W' v l) : NX w (W'.setCell ⟨d, 0, none⟩ v) d { S with fs := l } := by
  have h' := h.later hb
  have hz : (W'.setCell ⟨d, 0, none⟩ v).heap.size = W'.heap.size := size_set _ _ _ _
  have hzW := h.b.size
  refine ⟨?_, h'.b.setCell (p := ⟨d, 0, none⟩) h.n.mem.1 _⟩
  have := h'.n.setF (F' := fun k => w.heap.size ≤ k ∧ k < W'.heap.size) (hv.mono (Nat.zero_le _)) (fun k hk => by have := hv.lt hk; omega) (fun _ h => h) (fun k h => h.2)
  rw [hz]; exact this
theorem upl_len : ∀ (n : Nat) {p : List UInt8}, p.length ≤ n → (upl p).length ≤ n
  | n, p, h => by
    by_cases e : p = []
    · subst e; simp [upl_nil]
    · have hlt := dir_lt e
      have hp := List.length_pos_iff.2 e
      obtain ⟨m, rfl⟩ : ∃ m, n = m + 1 := ⟨n - 1, by omega⟩
      rw [upl_cons e, List.length_cons]
      have := upl_len m (p := dir p) (by omega)
      omega
theorem fm_len {l : List Fl} (h : ∀ f ∈ l, f.path.length ≤ 120) : (l.flatMap (fun f => upl (dir f.path))).length ≤ l.length * 120 := by
  induction l with
  | nil => simp
  | cons f l ih =>
    have h1 := h f (by simp)
    have h2 := ih (fun g hg => h g (by simp [hg]))
    have h3 : (dir f.path).length ≤ 120 := by
      by_cases e : f.path = []
      · rw [e, dir_nil]; simp
      · have := dir_lt e; omega
    have h4 := upl_len 120 h3
    rw [List.flatMap_cons, List.length_append, List.length_cons]
    omega
set_option maxRecDepth 100000 in
set_option maxHeartbeats 16000000 in
theorem rnew_any {w : World} {vl : Value} {l : List Fl} (hl : FS w vl l) (hm : l.length ≤ 4000000 ∧ (∀ f ∈ l, Fok f) ∧ ∀ f ∈ l, f.path.length ≤ 100000000) :
    Calls Tryz.prog 34 #[vl] w fun e w' => Below w.heap.size w w' ∧ ((validE l = 0 ∧ ∃ c, e = .returned (.tuple #[.pointer (some ⟨c, 0, none⟩), .int .i64 0]) ∧ RT w' (fun k => w.heap.size ≤ k ∧ k < w'.heap.size) c (newT l))
      ∨ (validE l ≠ 0 ∧ e = .returned (.tuple #[.pointer none, .int .i64 (validE l)]))) := by
  obtain ⟨la, lc, hvl, -⟩ := hl.form
  subst hvl
  obtain ⟨N, hN⟩ : ∃ N, l.length = N := ⟨_, rfl⟩
  have HL' : Hid (FS w (.slice la l.length lc) l) := hl
  rw [hN] at hl ⊢
  have HL : Hid (FS w (.slice la N lc) l) := hl
  clear hl
  obtain ⟨ec, hec⟩ : ∃ ec, validE l = ec := ⟨_, rfl⟩
  have HEC : Hid (validE l = ec) := hec
  have hst : ec = 0 → N ≤ 512 ∧ ∀ f ∈ l, f.path.length ≤ 120 := fun h => by
    obtain ⟨h1, h2, _⟩ := stand_iff.1 ((validE_zero l).1 (hec.trans h))
    exact ⟨by omega, fun f hf => (okP_len (fileE_path (h2 f hf)).2).1⟩
  rw [hec]
  clear hec
  go_enter Tryz.func34, Tryz.ntmps34
  go_wp2_with fail
  refine (rsnap13_any HL.out hm).mono ?_
  rintro e w1 ⟨rfl, hb1⟩
  rw [HEC.out]
  have B1 : Hid (Below w.heap.size w w1) := hb1
  clear hb1
  by_cases h0 : ec = 0
  · obtain ⟨hN5, hp⟩ := hst h0
    subst h0
    clear hst
    have HP : Hid (∀ f ∈ l, f.path.length ≤ 120) := hp
    clear hp
    go_wp2_with (at_builtin; apply hold)
    unfold Hid
    obtain ⟨d, hd⟩ : ∃ d, w1.heap.size = d := ⟨_, rfl⟩
    obtain ⟨w2, hw2⟩ : ∃ w2, w1.alloc (.cells #[.slice none 0 0, .slice none 0 0, .slice none 0 0, .int .i64 0, .int .i64 0, .bool false, .slice none 0 0] 103) = w2 := ⟨_, rfl⟩
    have rc0 : RC w2 d (.slice none 0 0) (.slice none 0 0) (.slice none 0 0) 0 0 false (.slice none 0 0) := by rw [← hw2, ← hd]; exact heap_alloc_new _ _
    have hb2 : Below w1.heap.size w1 w2 := hw2 ▸ balloc _ _
    have hge : w.heap.size ≤ d := by rw [← hd]; exact B1.out.size
    have X2 : Hid (NX w w2 d ⟨[], [], [], 0, 0, false, []⟩) := ⟨⟨_, _, _, _, rc0, ⟨hge, rc0.lt⟩, fun k hk => hk.2, ⟨⟨OwnF.nil _ _, fun k hk => by cases hk⟩, ⟨Own.nil _ _, fun k hk => by cases hk⟩, ⟨OwnB.nil _ _, fun k hk => by cases hk⟩, ⟨OwnB.nil _ _, fun k hk => by cases hk⟩⟩, fun _ => rfl⟩, bstep B1.out hb2⟩
    rw [hw2, hd]
    clear rc0 hb2 hge hw2 hd
    refine app_files (base := w2.heap.size) (l := []) (k := l) (OwnF.nil _ _) (HL.out.later X2.out.b).src (by simp; omega) (Nat.le_refl _) rfl (.tmp 19) (.tmp 20) rfl rfl rfl ?_
    intro v3 w3 k1 k2 k3
    obtain ⟨va, vc, rfl⟩ := k1.form
    have hbg := grown_none k2
    have X3 : Hid (NX w (w3.setCell ⟨d, 0, none⟩ (.slice va ([] ++ l).length vc)) d ⟨l, [], [], 0, 0, false, []⟩) := X2.out.putF hbg k1
    obtain ⟨vf, c0, _, _, f0⟩ := X2.out.n.open0
    have e0 : w3.cell? ⟨d, 0, none⟩ = some vf := (hbg.cell (p := ⟨d, 0, none⟩) X2.out.n.mem.2).trans c0
    have g0 : w3.frozen? ⟨d, 0, none⟩ = false := frz_block (hbg.block d X2.out.n.mem.2) f0
    generalize ([] ++ l).length = nl at *
    clear k1 k2 k3 hbg c0 f0 X2
    go_wp2_with fail
    clear e0 g0
    obtain ⟨w4, hw4⟩ : ∃ w4, w3.setCell ⟨d, 0, none⟩ (.slice va nl vc) = w4 := ⟨_, rfl⟩
    rw [hw4] at X3 ⊢
    clear hw4
    rename_i hKK
    have HK_ : Hid _ := hKK
    clear hKK
    go_loopw [6] (fun i wr => ∃ k : Nat, k ≤ N ∧ i = .int .i64 k ∧ NX w wr d ⟨l, (l.take k).flatMap (fun f => upl (dir f.path)), [], 0, 0, false, []⟩) (fun i _ => N - (intOf i).toNat)
    case atStart => exact ⟨0, by omega, rfl, X3.out⟩
    case round =>
      obtain ⟨k, hk, rfl, hx⟩ := hrel
      obtain ⟨wo, hwo⟩ : ∃ wo, wo = wr := ⟨_, rfl⟩
      subst hwo
      have Hx : Hid (NX w wo d ⟨l, (l.take k).flatMap (fun f => upl (dir f.path)), [], 0, 0, false, []⟩) := hx
      clear hx
      by_cases hlt : k < N
      · have hkl : k < l.length := by omega
        obtain ⟨b, off, ea, hbw, d0, -, -, -⟩ := FS.at HL'.out Hx.out.b hkl
        subst ea
        obtain ⟨q, hq⟩ : ∃ q, (l[k]'hkl).path = q := ⟨_, rfl⟩
        rw [hq] at d0
        have hql : q.length ≤ 120 := hq ▸ HP.out _ (List.getElem_mem hkl)
        have hqe : (l.take (k + 1)).flatMap (fun f => upl (dir f.path)) = (l.take k).flatMap (fun f => upl (dir f.path)) ++ upl (dir q) := by
          rw [List.take_succ_eq_append_getElem hkl, List.flatMap_append]
          simp [hq]
        have HQ : Hid ((l.take (k + 1)).flatMap (fun f => upl (dir f.path)) = (l.take k).flatMap (fun f => upl (dir f.path)) ++ upl (dir q)) := hqe
        clear hqe
        have hdq : (dir q).length ≤ 120 := by
          by_cases e : q = []
          · rw [e, dir_nil]; simp
          · have := dir_lt e; omega
        have HAL : Hid (((l.take (k + 1)).flatMap (fun f => upl (dir f.path))).length ≤ 100000) := by
          have := fm_len (l := l.take (k + 1)) (fun f hf => HP.out f (List.mem_of_mem_take hf))
          rw [List.length_take] at this
          show _ ≤ 100000
          omega
        have i1 : (0 : Int) ≤ (k : Int) := by omega
        have i2 : (k : Int) < (N : Int) := by omega
        clear hq
        go_wp2_with fail
        refine (rdir_any q _ (by omega)).mono ?_
        rintro e wq ⟨rfl, rfl⟩
        go_wp2_with fail
        go_loopw [7] (fun s wr => ∃ (p : List UInt8) (acc : List (List UInt8)), s = .string (bs p) ∧ p.length ≤ 120 ∧ acc ++ upl p = (l.take (k + 1)).flatMap (fun f => upl (dir f.path)) ∧ NX w wr d ⟨l, acc, [], 0, 0, false, []⟩) (fun s _ => slen s)
        case atStart => exact ⟨_, _, rfl, hdq, HQ.out.symm, Hx.out⟩
        case round =>
          obtain ⟨p, acc, rfl, hpl, hacc, hx⟩ := hrel
          have Hy : Hid (NX w wr d ⟨l, acc, [], 0, 0, false, []⟩ ∧ acc ++ upl p = (l.take (k + 1)).flatMap (fun f => upl (dir f.path))) := ⟨hx, hacc⟩
          have hal : acc.length ≤ 100000 := by
            have h1 := HAL.out
            rw [← hacc, List.length_append] at h1
            omega
          clear hx hacc
          have t1 : (bs p).toList = p := bs_toList _
          by_cases hpe : p = []
          · subst hpe
            have HE : Hid (acc = (l.take (k + 1)).flatMap (fun f => upl (dir f.path))) := by have := Hy.out.2; rw [upl_nil, List.append_nil] at this; exact this
            go_wp2_with fail
            go_roundw
            case rel => exact ⟨k + 1, by omega, by go_num, HE.out ▸ Hy.out.1⟩
            case measure => simp [intOf]; omega
          · have hpn : (p == []) = false := by simpa using hpe
            have hpn2 : (p != []) = true := by simpa using hpe
            have HU : Hid (acc ++ [p] ++ upl (dir p) = (l.take (k + 1)).flatMap (fun f => upl (dir f.path)) ∧ (dir p).length < p.length) := ⟨by rw [← Hy.out.2, upl_cons hpe]; simp, dir_lt hpe⟩
            obtain ⟨vd, c1, od, kd, f1⟩ := Hy.out.1.n.open1
            have OD : Hid (Own 0 wr vd acc ∧ wr.cell? ⟨d, 1, none⟩ = some vd ∧ wr.frozen? ⟨d, 1, none⟩ = false) := ⟨od, c1, f1⟩
            have HC1 : Hid (d < wr.heap.size ∧ vd.ownBlock ≠ some d) := ⟨Hy.out.1.n.mem.2, by
              obtain ⟨_, _, _, _, r1, _, _, r4, _⟩ := Hy.out.1.n
              have := r1.cell.2.1
              rw [c1] at this
              obtain rfl := Option.some.inj this
              exact row_ne r4.d.1 r1 (by decide)⟩
            clear od kd f1 hpe
            go_wp2_with (at_builtin; apply hold)
            unfold Hid
            refine app_one (base := 0) (l := acc) p OD.out.1 (by omega) (Nat.zero_le _) rfl (.tmp 42) (.tmp 44) rfl rfl rfl ?_
            intro v2 w5 k1 k2 k3 k4 k5
            obtain ⟨ga, gc, rfl⟩ := k1.len
            have X5 : Hid (NX w (w5.setCell ⟨d, 1, none⟩ (.slice ga (acc ++ [p]).length gc)) d ⟨l, acc ++ [p], [], 0, 0, false, []⟩) := Hy.out.1.app OD.out.2.1 k4 k1 k5
            have hbk : w5.heap[d]? = wr.heap[d]? := k4.block d HC1.out.1 (fun e => HC1.out.2 e.symm)
            have e1 : w5.cell? ⟨d, 1, none⟩ = some vd := (cell_stay hbk 1).trans OD.out.2.1
            have g1 : w5.frozen? ⟨d, 1, none⟩ = false := frz_block hbk OD.out.2.2
            generalize (acc ++ [p]).length = nn at *
            clear k1 k2 k3 k4 k5 hbk c1
            go_wp2_with fail
            refine (rdir_any p _ (by omega)).mono ?_
            rintro e wq ⟨rfl, rfl⟩
            go_wp2_with fail
            go_roundw
            case rel => exact ⟨_, _, rfl, by have := HU.out.2; omega, HU.out.1, X5.out⟩
            case measure => have := HU.out.2; show (bs (dir p)).size < (bs p).size; rw [bs_size, bs_size]; exact this
      · obtain rfl : N = k := by omega
        rw [← hN, List.take_length] at Hx
        obtain ⟨acc, hacc⟩ : ∃ acc, l.flatMap (fun f => upl (dir f.path)) = acc := ⟨_, rfl⟩
        have HA : Hid (nds l = norm acc ∧ acc.length ≤ 100000 ∧ ∀ x ∈ acc, x.length ≤ 120) := by
          refine ⟨by unfold nds; rw [hacc], ?_, fun x hx => ?_⟩
          · have := fm_len HP.out
            rw [hacc] at this
            omega
          · rw [← hacc] at hx
            obtain ⟨f, hf, hx⟩ := List.mem_flatMap.1 hx
            have ok := (stand_iff.1 ((validE_zero l).1 HEC.out)).2.1 f hf
            have hu := ((mem_upl _ (Nat.le_refl _) (okP_dir (fileE_path ok).2)).1 hx).2
            rcases hu with rfl | hu
            · exact (okP_len (okP_dir (fileE_path ok).2)).1
            · exact (okP_len (okP_abv _ (Nat.le_refl _) (okP_dir (fileE_path ok).2) hu)).1
        rw [hacc] at Hx
        clear hacc
        go_wp2_with fail
        refine HK_.out _ _ ?_
        clear HK_
        obtain ⟨vd, c1, od, kd, f1⟩ := Hx.out.n.open1
        have OD : Hid (Own 0 wo vd acc ∧ wo.cell? ⟨d, 1, none⟩ = some vd ∧ wo.frozen? ⟨d, 1, none⟩ = false) := ⟨od, c1, f1⟩
        have HC1 : Hid (d < wo.heap.size) := Hx.out.n.mem.2
        clear od kd f1
        go_wp2_with fail
        refine (rnorm_any OD.out.1.ss ⟨by have := HA.out.2.1; omega, fun x hx => Nat.le_trans (HA.out.2.2 x hx) (by decide)⟩).mono ?_
        rintro e w6 ⟨v6, rfl, ho6, hb6⟩
        obtain ⟨ga, gc, rfl⟩ := ho6.len
        have X6 : Hid (NX w (w6.setCell ⟨d, 1, none⟩ (.slice ga (norm acc).length gc)) d ⟨l, norm acc, [], 0, 0, false, []⟩) := Hx.out.putD hb6 ho6
        have hbk : w6.heap[d]? = wo.heap[d]? := hb6.block d HC1.out
        have e1 : w6.cell? ⟨d, 1, none⟩ = some vd := (cell_stay hbk 1).trans OD.out.2.1
        have g1 : w6.frozen? ⟨d, 1, none⟩ = false := frz_block hbk OD.out.2.2
        generalize (norm acc).length = nn at *
        clear ho6 hb6 hbk c1
        go_wp2_with fail
        go_ret2
        refine ⟨X6.out.b, d, rfl, ?_⟩
        have := X6.out.n
        unfold newT
        rw [HA.out.1]
        exact this
  · have h0b : (ec == 0) = false := by simpa using h0
    have h0c : (ec != 0) = true := by simpa using h0
    go_wp2_with fail
    go_ret2
    exact ⟨B1.out, .inr ⟨h0, rfl⟩⟩
end Go.Proofs.YtlkkmcibjhoneaaGreatDoor
