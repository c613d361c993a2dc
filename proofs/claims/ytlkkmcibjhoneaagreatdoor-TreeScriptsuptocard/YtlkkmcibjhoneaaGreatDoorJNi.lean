/-
  The landed tree: Write.
  The landed tree: Append, Clear.
-/
import Derived.Test.YtlkkmcibjhoneaaGreatDoorJNh
namespace Go.Proofs.YtlkkmcibjhoneaaGreatDoor
open Go.RowKit Go.Maps

set_option maxRecDepth 100000 in
set_option maxHeartbeats 16000000 in
theorem write_any {w : World} {F : Nat → Prop} {c : Nat} {T : TT} (h : LT w F c T) (hz : TSz 4000000 T) (f : Fl) (hf : Fok f) :
    Calls Tryz.prog 32 #[.pointer (some ⟨c, 0, none⟩), f.val] w (StP LT w F c (T.wr f)) := by
  obtain ⟨mf, md, vj, vt, lf, h, hF, hl⟩ := h
  have HFL : Hid ((∀ k, LB c mf md vj vt k → F k) ∧ (∀ k, F k → k < w.heap.size)) := ⟨hF, hl⟩
  have HS : Hid (∀ W, LX W c mf md vj vt lf T → Calls Tryz.prog 51 #[.pointer (some ⟨c, 0, none⟩)] W fun e w' => e = .returned (.bool (!(T.cnt []).2)) ∧ StX W c mf md vj vt (T.cnt []).1 w') := fun W hW => stops_any hW hz.ns
  obtain ⟨R, hR⟩ : ∃ R, T.wr f = R := ⟨_, rfl⟩
  obtain ⟨U, hU⟩ : ∃ U, (T.cnt []).1 = U := ⟨_, rfl⟩
  have HU : Hid (U.fs.length + U.ds.length ≤ 100000000) := by rw [← hU, (cnt_same T).1, (cnt_same T).2]; have := hz.nf; have := hz.nd; show T.fs.length + T.ds.length ≤ 100000000; omega
  rw [hU] at HS
  rw [hR]
  have e1 : (T.cnt []).2 = false → R = (U, 15) := fun e => by rw [← hR, ← hU]; exact step_not e
  have e2 : (T.cnt []).2 = true → R = wrG f U := fun e => by rw [← hR, ← hU]; exact step_do e
  have HR : Hid (((T.cnt []).2 = false → R = (U, 15)) ∧ ((T.cnt []).2 = true → R = wrG f U)) := ⟨e1, e2⟩
  obtain ⟨r, i⟩ := R
  have H : Hid (LX w c mf md vj vt lf T) := h
  have HP : Hid (Lk f.path ∧ f.path.length ≤ 9223372036854775807 ∧ Fok f) := ⟨by have := hf.path; unfold Lk; omega, by have := hf.path; omega, hf⟩
  clear hf
  clear h hF hl hR hU hz e1 e2
  obtain ⟨fp, ft, fb, fz⟩ := f
  obtain ⟨ec, hec⟩ : ∃ ec, fileE ⟨fp, ft, fb, fz⟩ = ec := ⟨_, rfl⟩
  have HEC : Hid (fileE ⟨fp, ft, fb, fz⟩ = ec) := hec
  obtain ⟨w0, hw0⟩ : ∃ w0, w.alloc (.cells #[.string (bs fp), .string (bs ft), .int .i64 fb, .int .i64 fz] 31) = w0 := ⟨_, rfl⟩
  have hb0 : Below w.heap.size w w0 := by rw [← hw0]; exact balloc _ _
  have hg0 : w0.heap[w.heap.size]? = some (.cells #[.string (bs fp), .string (bs ft), .int .i64 fb, .int .i64 fz] 31 (0, 0)) := by rw [← hw0]; exact heap_alloc_new _ _
  obtain ⟨y0, y1, y2, y3⟩ := cellsF hg0
  obtain ⟨g, hg⟩ : ∃ g, w.heap.size = g := ⟨_, rfl⟩
  have H0 : Hid (Below w.heap.size w w0 ∧ w0.heap[g]? = some (.cells #[.string (bs fp), .string (bs ft), .int .i64 fb, .int .i64 fz] 31 (0, 0)) ∧ w.heap.size = g) := ⟨hb0, by rw [← hg]; exact hg0, hg⟩
  rw [hg] at y0 y1 y2 y3
  clear hb0 hg0 hec
  simp only [Fl.val]
  go_enter Tryz.func32, Tryz.ntmps32
  go_wp2_with fail
  clear hw0
  refine (gw_file' ⟨fp, ft, fb, fz⟩ HP.out.2.2 _).mono ?_
  rintro e wa ⟨rfl, hba⟩
  rw [HEC.out]
  have Xa : Hid (Below w.heap.size w wa ∧ wa.heap[g]? = some (.cells #[.string (bs fp), .string (bs ft), .int .i64 fb, .int .i64 fz] 31 (0, 0))) := ⟨bstep H0.out.1 hba, (hba.block g (Array.getElem?_eq_some_iff.1 H0.out.2.1).1).trans H0.out.2.1⟩
  clear hba
  go_wp2_with fail
  refine (HS.out _ (H.out.later Xa.out.1)).mono ?_
  rintro e w1 ⟨rfl, lf', hx1, ho1⟩
  have hgc : g ≠ c := by
    have := H.out.clt
    have := H0.out.2.2
    omega
  have X1 : Hid (LX w1 c mf md vj vt lf' U ∧ Only [c, mf, md] w w1 ∧ w1.heap[g]? = some (.cells #[.string (bs fp), .string (bs ft), .int .i64 fb, .int .i64 fz] 31 (0, 0))) := ⟨hx1, (Only.of_below Xa.out.1 _).trans (only_c ho1), (ho1.block g (Array.getElem?_eq_some_iff.1 Xa.out.2).1 (by simpa using hgc)).trans Xa.out.2⟩
  clear hx1 ho1 HS Xa hgc y0 y1 y2 y3
  cases hc : (T.cnt []).2 with
  | false =>
    have er := HR.out.1 hc
    injection er with er1 er2
    subst er1 er2
    go_wp2_with fail
    go_ret
    exact ⟨rfl, LX.fin HFL.out.1 HFL.out.2 X1.out.1 X1.out.2.1⟩
  | true =>
    have ER : Hid ((r, i) = wrG ⟨fp, ft, fb, fz⟩ U) := HR.out.2 hc
    clear HR hc
    by_cases he : ec = 0
    case neg =>
      have hne1 : (ec == 0) = false := by simpa using he
      have hne2 : (ec != 0) = true := by simpa using he
      have ed : i = ec ∧ r = U := by
        have := ER.out
        unfold wrG at this
        rw [HEC.out, if_neg he] at this
        injection this with h1 h2
        exact ⟨h2, h1⟩
      obtain ⟨rfl, rfl⟩ := ed
      clear he
      go_wp2_with fail
      go_ret
      exact ⟨rfl, LX.fin HFL.out.1 HFL.out.2 X1.out.1 X1.out.2.1⟩
    subst he
    have no : wrB U ⟨fp, ft, fb, fz⟩ = false → i = 16 ∧ r = U := fun e => by
      have := ER.out
      unfold wrG at this
      rw [if_pos HEC.out, if_neg (by simp [e])] at this
      injection this with h1 h2
      exact ⟨h2, h1⟩
    have NO : Hid (wrB U ⟨fp, ft, fb, fz⟩ = false → i = 16 ∧ r = U) := no
    clear no
    obtain ⟨y0, y1, y2, y3⟩ := cellsF X1.out.2.2
    obtain ⟨z0, z1, z2, z3, z4, z5⟩ := X1.out.1.ev.cells
    obtain ⟨a, ha⟩ : ∃ a, hasF U.fs fp = a := ⟨_, rfl⟩
    obtain ⟨b, hb⟩ : ∃ b, hasD U.ds fp = b := ⟨_, rfl⟩
    have HA : Hid (∀ W : World, Below w1.heap.size w1 W → Calls Tryz.prog 58 #[.pointer (some ⟨c, 0, none⟩), .string (bs fp)] W fun e w' => e = .returned (.agg #[.bool a, .bool b]) ∧ Below W.heap.size W w') := X1.out.1.asks fp HP.out.1 ha hb
    have AB : Hid (hasF U.fs fp = a ∧ hasD U.ds fp = b) := ⟨ha, hb⟩
    have hq : ∀ W, (binOp .eql 95 (.agg #[.bool a, .bool b]) (.agg #[.bool false, .bool true])).run Tryz.prog W = .ok (.bool (!a && b)) W := fun W => by
      have := eql_there a b false true W
      rw [this]; cases a <;> cases b <;> rfl
    clear ha hb
    go_wp2_with fail
    go_region_with (go_at_call 58; refine (HA.out _ (Below.refl _ _).drew).mono ?_; rintro e w2 ⟨rfl, hb4⟩; have hb5 : Below w1.heap.size w1 w2 := bstep (Below.refl _ _).drew hb4; have X2 : Hid (LX w2 c mf md vj vt lf' U ∧ Only [c, mf, md] w w2 ∧ w2.heap[g]? = some (.cells #[.string (bs fp), .string (bs ft), .int .i64 fb, .int .i64 fz] 31 (0, 0))) := ⟨X1.out.1.later hb5, X1.out.2.1.trans (Only.of_below hb5 _), (hb5.block g (Array.getElem?_eq_some_iff.1 X1.out.2.2).1).trans X1.out.2.2⟩; obtain ⟨x0, x1, x2, x3, x4, x5⟩ := X2.out.1.ev.cells; obtain ⟨v0, v1, v2, v3⟩ := cellsF X2.out.2.2; clear hb4 hb5)
    all_goals
      clear HA hq z0 z1 z2 z3 z4 z5 y0 y1 y2 y3
      have hab : (!a && b) = b := by
        cases b with
        | false => simp
        | true =>
          cases a with
          | false => rfl
          | true =>
            exfalso
            obtain ⟨f, hf, e⟩ := hasF_iff.1 AB.out.1
            rcases hasD_iff.1 AB.out.2 with e0 | e0
            · exact absurd (e.trans e0) (fileE_path (X2.out.1.ok.fe f hf)).1
            · exact absurd (e ▸ e0) (X2.out.1.ok.no f hf)
      cases hv : (!a && b) with
      | true =>
        obtain ⟨rfl, rfl⟩ := NO.out (by
          have h2 := AB.out.2
          rw [hab] at hv
          rw [hv] at h2
          simp [wrB, h2])
        clear hv hab
        go_wp2_with fail
        go_ret
        exact ⟨rfl, LX.fin HFL.out.1 HFL.out.2 X2.out.1 X2.out.2.1⟩
      | false =>
        have hbf : b = false := hab.symm.trans hv
        subst hbf
        clear hv hab
        obtain ⟨a2, ha2⟩ : ∃ a, hasF U.fs (dir fp) = a := ⟨_, rfl⟩
        obtain ⟨b2, hb2⟩ : ∃ b, hasD U.ds (dir fp) = b := ⟨_, rfl⟩
        have HA2 : Hid (∀ W : World, Below w2.heap.size w2 W → Calls Tryz.prog 58 #[.pointer (some ⟨c, 0, none⟩), .string (bs (dir fp))] W fun e w' => e = .returned (.agg #[.bool a2, .bool b2]) ∧ Below W.heap.size W w') := X2.out.1.asks (dir fp) (lk_dir HP.out.1) ha2 hb2
        have AB2 : Hid (hasF U.fs (dir fp) = a2 ∧ hasD U.ds (dir fp) = b2) := ⟨ha2, hb2⟩
        have hq2 : ∀ W, (binOp .neq 95 (.agg #[.bool a2, .bool b2]) (.agg #[.bool false, .bool true])).run Tryz.prog W = .ok (.bool (a2 || !b2)) W := fun W => by
          have := neq_there a2 b2 false true W
          rw [this]; cases a2 <;> cases b2 <;> rfl
        clear ha2 hb2
        go_wp2_with fail
        go_region_with (first | (go_at_call 25; refine (dir_any fp _ HP.out.2.1).mono ?_; rintro e wq ⟨rfl, rfl⟩) | (go_at_call 58; refine (HA2.out _ (Below.refl _ _).drew).mono ?_; rintro e w4 ⟨rfl, hb4⟩; have hb5 : Below w2.heap.size w2 w4 := bstep (Below.refl _ _).drew hb4; have X4 : Hid (LX w4 c mf md vj vt lf' U ∧ Only [c, mf, md] w w4 ∧ w4.heap[g]? = some (.cells #[.string (bs fp), .string (bs ft), .int .i64 fb, .int .i64 fz] 31 (0, 0))) := ⟨X2.out.1.later hb5, X2.out.2.1.trans (Only.of_below hb5 _), (hb5.block g (Array.getElem?_eq_some_iff.1 X2.out.2.2).1).trans X2.out.2.2⟩; obtain ⟨y0, y1, y2, y3, y4, y5⟩ := X4.out.1.ev.cells; obtain ⟨u0, u1, u2, u3⟩ := cellsF X4.out.2.2; clear hb4 hb5))
        all_goals
          clear HA2 hq2 x0 x1 x2 x3 x4 x5 y0 y1 y2 y3 y4 y5 v0 v1 v2 v3
          cases hab2 : (a2 || !b2) with
          | true =>
            obtain ⟨rfl, rfl⟩ := NO.out (by
              have h1 := AB2.out.1
              have h2 := AB2.out.2
              cases b2 with
              | false => unfold wrB; rw [h2]; simp
              | true =>
                have ha : a2 = true := by cases a2 <;> simp_all
                rw [ha] at h1
                obtain ⟨f, hf, e⟩ := hasF_iff.1 h1
                have hn := X4.out.1.ok.no f hf
                rcases hasD_iff.1 h2 with e0 | e0
                · exact absurd (e.trans e0) (fileE_path (X4.out.1.ok.fe f hf)).1
                · exact absurd (e ▸ e0) hn)
            clear hab2
            go_wp2_with fail
            go_ret
            exact ⟨rfl, LX.fin HFL.out.1 HFL.out.2 X4.out.1 X4.out.2.1⟩
          | false =>
            have hb2 : b2 = true := by cases a2 <;> cases b2 <;> simp_all
            have hwb : wrB U ⟨fp, ft, fb, fz⟩ = true := by
              have h2 := AB.out.2
              have h3 := AB2.out.2
              unfold wrB
              rw [h2, h3, hb2]
              rfl
            have ed : i = 0 ∧ r = { U with fs := insF ⟨fp, ft, fb, fz⟩ U.fs } := by
              have := ER.out
              unfold wrG at this
              rw [if_pos HEC.out, if_pos hwb] at this
              injection this with h1 h2
              exact ⟨h2, h1⟩
            obtain ⟨rfl, rfl⟩ := ed
            have HM : Hid (wrB U ⟨fp, ft, fb, fz⟩ = true) := hwb
            clear hab2 hb2 hwb
            go_wp2_with fail
            refine (addFile_any X4.out.1 ⟨fp, ft, fb, fz⟩ HEC.out HM.out HU.out).mono ?_
            rintro e w5 ⟨rfl, h5, o5⟩
            have X5 : Hid (LX w5 c mf md vj vt lf' { U with fs := insF ⟨fp, ft, fb, fz⟩ U.fs } ∧ Only [c, mf, md] w w5) := ⟨h5, X4.out.2.1.trans (only_m o5)⟩
            clear h5 o5
            go_wp2_with fail
            go_ret
            exact ⟨rfl, LX.fin HFL.out.1 HFL.out.2 X5.out.1 X5.out.2⟩
end Go.Proofs.YtlkkmcibjhoneaaGreatDoor

namespace Go.Proofs.YtlkkmcibjhoneaaGreatDoor
open Go.RowKit Go.Maps

theorem cnt_b (T : TT) (b : List UInt8) : (T.cnt b).2 = (T.cnt []).2 ∧ (T.cnt b).1 = if (T.cnt []).2 = false ∧ T.dn = false then { (T.cnt []).1 with tn := b } else (T.cnt []).1 := by
  unfold TT.cnt
  split
  · simp
  · split
    · simp
    · split
      · rename_i h; simp [h]
      · rename_i h; simp [h]
theorem own5_lt {base : Nat} {w : World} {v : Value} {l : List UInt8} (h : OwnB base w v l) {k : Nat} (hk : v.ownBlock = some k) : k < w.heap.size := by
  obtain ⟨a, _, e⟩ := ownB_cells h hk; exact e
section
variable {w w3 : World} {c mf md : Nat} {vj vt vn : Value} {lf : Int} {T : TT}
/-- the journal anew, and its place written -/
theorem LX.putJ (h : LX w c mf md vj vt lf T) {l : List UInt8} (hg : w.grownBy w3 vj.ownBlock) (ho : OwnB 0 w3 vn l) (hv : vn.ownBlock = vj.ownBlock ∨ vn.ownBlock = none ∨ ∃ k, vn.ownBlock = some k ∧ w.heap.size ≤ k) :
    LX (w3.setCell ⟨c, 2, none⟩ vn) c mf md vn vt lf { T with jl := l } ∧ (∀ k, k < w.heap.size → k ≠ c → vj.ownBlock ≠ some k → (w3.setCell ⟨c, 2, none⟩ vn).heap[k]? = w.heap[k]?) := by
  have hs : ∀ k, LB c mf md vj vt k → vj.ownBlock ≠ some k → w3.heap[k]? = w.heap[k]? := fun k hk hn => hg.block k (h.blt k hk) (fun e => hn e.symm)
  have ⟨n1, n2⟩ := h.cm
  have hcj : vj.ownBlock ≠ some c := fun e => (h.row_ne h.jo c e).1 rfl
  have hc3 : w3.heap[c]? = _ := (hs c (.inl rfl) hcj).trans h.blk
  have hne : ∀ k, k ≠ c → (w3.setCell ⟨c, 2, none⟩ vn).heap[k]? = w3.heap[k]? := fun k hk => set_other w3 c 2 vn hk
  have hall : ∀ k, LB c mf md vj vt k → vj.ownBlock ≠ some k → k ≠ c → (w3.setCell ⟨c, 2, none⟩ vn).heap[k]? = w.heap[k]? := fun k hk h1 h2 => (hne k h2).trans (hs k hk h1)
  have hvc : ∀ k, vn.ownBlock = some k → k ≠ c := by
    rintro k hk rfl
    rcases hv with e | e | ⟨k', e, hk'⟩
    · rw [e] at hk; exact hcj hk
    · rw [e] at hk; cases hk
    · rw [e] at hk; cases hk; have := h.clt; omega
  have hfr : ∀ k, k < w.heap.size → k ≠ c → vj.ownBlock ≠ some k → (w3.setCell ⟨c, 2, none⟩ vn).heap[k]? = w.heap[k]? := fun k hk h1 h2 => (hne k h1).trans (hg.block k hk (fun e => h2 e.symm))
  refine ⟨⟨?_, h.fl.block (hall mf (.inr (.inl rfl)) (fun e => (h.row_ne h.jo mf e).2.1 rfl) (Ne.symm n1)), h.dr.block (hall md (.inr (.inr (.inl rfl))) (fun e => (h.row_ne h.jo md e).2.2 rfl) (Ne.symm n2)), row_stay ho (fun k hk => hne k (hvc k hk)), row_stay h.ton (fun k hk => hall k (.inr (.inr (.inr (.inr hk)))) (fun e => h.nj k e hk) (h.row_ne h.ton k hk).1), h.rel, ⟨h.low.1, h.low.2.1, h.low.2.2.1, ?_⟩, h.nm, ?_, ⟨h.ok.fe, h.ok.fu, h.ok.du, h.ok.de, h.ok.fd, h.ok.dd, h.ok.no, h.ok.sp0, h.ok.dn1, h.ok.tn0⟩, ?_⟩, hfr⟩
  · rw [heap_setCell _ _ _ _ hc3]; simp
  · intro k hk
    rcases hv with e | e | ⟨k', e, hk'⟩
    · rw [e] at hk; exact h.low.2.2.2 k hk
    · rw [e] at hk; cases hk
    · rw [e] at hk; cases hk; have := h.ev.big; omega
  · intro k hk hk2
    rcases hv with e | e | ⟨k', e, hk'⟩
    · rw [e] at hk; exact h.nj k hk hk2
    · rw [e] at hk; cases hk
    · rw [e] at hk; cases hk; have := own5_lt h.ton hk2; omega
  · have hb := h.ev.big
    have a0 : ∀ i, i < 4 → (w3.setCell ⟨c, 2, none⟩ vn).heap[i]? = w.heap[i]? := fun i hi => hfr i (by omega) (by have := h.low.1; omega) (fun e => by have := h.low.2.2.2 i e; omega)
    exact ⟨(a0 0 (by omega)).trans h.ev.n, (a0 1 (by omega)).trans h.ev.d, (a0 2 (by omega)).trans h.ev.f, by rw [size_set]; exact Nat.le_trans hb hg.size⟩
/-- what a stopped Append leaves -/
theorem LX.putT (h : LX w c mf md vj vt lf T) {l : List UInt8} (hb : Below w.heap.size w w3) (ho : OwnB w.heap.size w3 vn l) (hdn : T.dn = true) :
    LX (w3.setCell ⟨c, 6, none⟩ vn) c mf md vj vn lf { T with tn := l } ∧ Only [c] w (w3.setCell ⟨c, 6, none⟩ vn) := by
  have h3 := h.later hb
  have ⟨n1, n2⟩ := h.cm
  have hon : Only [c] w (w3.setCell ⟨c, 6, none⟩ vn) := (Only.of_below hb _).trans (Only.set _ _ _ _)
  have hne : ∀ k, k ≠ c → (w3.setCell ⟨c, 6, none⟩ vn).heap[k]? = w3.heap[k]? := fun k hk => set_other w3 c 6 vn hk
  have hvk : ∀ k, vn.ownBlock = some k → w.heap.size ≤ k := fun k hk => (ho.lt hk).1
  refine ⟨⟨?_, h3.fl.block (hne mf (Ne.symm n1)), h3.dr.block (hne md (Ne.symm n2)), row_stay h3.jo (fun k hk => hne k (h3.row_ne h3.jo k hk).1), row_stay (ho.mono (Nat.zero_le _)) (fun k hk => hne k (by have := hvk k hk; have := h.clt; omega)), h.rel, h.low, h.nm, fun k hk hk2 => ?_, ⟨h.ok.fe, h.ok.fu, h.ok.du, h.ok.de, h.ok.fd, h.ok.dd, h.ok.no, h.ok.sp0, h.ok.dn1, fun e => ?_⟩, h.ev.only hon (by simpa using h.low.1)⟩, hon⟩
  · rw [heap_setCell _ _ _ _ h3.blk]; simp
  · have := hvk k hk2
    have := own5_lt h.jo hk
    omega
  · exact absurd (hdn.symm.trans e) (by decide)
end
set_option maxRecDepth 100000 in
set_option maxHeartbeats 8000000 in
theorem clear_any {w : World} {F : Nat → Prop} {c : Nat} {T : TT} (h : LT w F c T) (hz : TSz 4000000 T) :
    Calls Tryz.prog 19 #[.pointer (some ⟨c, 0, none⟩)] w (StP LT w F c T.cl) := by
  obtain ⟨mf, md, vj, vt, lf, h, hF, hl⟩ := h
  have HFL : Hid ((∀ k, LB c mf md vj vt k → F k) ∧ (∀ k, F k → k < w.heap.size)) := ⟨hF, hl⟩
  have HS : Hid (Calls Tryz.prog 51 #[.pointer (some ⟨c, 0, none⟩)] w fun e w' => e = .returned (.bool (!(T.cnt []).2)) ∧ StX w c mf md vj vt (T.cnt []).1 w') := stops_any h hz.ns
  obtain ⟨R, hR⟩ : ∃ R, T.cl = R := ⟨_, rfl⟩
  obtain ⟨U, hU⟩ : ∃ U, (T.cnt []).1 = U := ⟨_, rfl⟩
  rw [hU] at HS
  rw [hR]
  have HR : Hid (((T.cnt []).2 = false → R = (U, 15)) ∧ ((T.cnt []).2 = true → R = clG U)) := ⟨fun e => by rw [← hR, ← hU]; exact step_not e, fun e => by rw [← hR, ← hU]; exact step_do e⟩
  obtain ⟨r, i⟩ := R
  clear h hF hl hR hU hz
  go_enter Tryz.func19, Tryz.ntmps19
  go_wp2_with fail
  refine HS.out.mono ?_
  rintro e w1 ⟨rfl, lf', hx1, ho1⟩
  have X1 : Hid (LX w1 c mf md vj vt lf' U ∧ Only [c] w w1) := ⟨hx1, ho1⟩
  obtain ⟨c0, c1, c2, -⟩ := hx1.cells
  have f2 := hx1.soft 2
  clear hx1 ho1 HS c0 c1
  cases hc : (T.cnt []).2 with
  | false =>
    have er := HR.out.1 hc
    injection er with er1 er2
    subst er1 er2
    go_wp2_with fail
    go_ret
    exact ⟨rfl, LX.fin HFL.out.1 HFL.out.2 X1.out.1 (only_c X1.out.2)⟩
  | true =>
    have er := HR.out.2 hc
    unfold clG at er
    injection er with er1 er2
    subst er1 er2
    go_wp2_with fail
    go_ret
    obtain ⟨hx, hfr⟩ := X1.out.1.putJ (w3 := w1) (vn := .slice none 0 0) (l := []) ⟨rfl, rfl, rfl, Nat.le_refl _, fun _ _ _ => rfl⟩ (OwnB.nil _ _) (.inr (.inl rfl))
    have hsz : (w1.setCell ⟨c, 2, none⟩ (.slice none 0 0)).heap.size = w1.heap.size := size_set _ _ _ _
    refine ⟨rfl, ⟨mf, md, _, vt, lf', hx, ?_, ?_⟩, ?_⟩
    · rintro k (e | e | e | e | e)
      · exact .inl (HFL.out.1 k (.inl e))
      · exact .inl (HFL.out.1 k (.inr (.inl e)))
      · exact .inl (HFL.out.1 k (.inr (.inr (.inl e))))
      · cases e
      · exact .inl (HFL.out.1 k (.inr (.inr (.inr (.inr e)))))
    · exact lt_nw HFL.out.2 (by rw [hsz]; exact X1.out.2.size)
    · have o1 : OnlyP F w w1 := (LX.fin HFL.out.1 HFL.out.2 X1.out.1 (only_c X1.out.2)).2
      exact o1.trans (OnlyP.set (F := F) _ _ _ _ (HFL.out.1 c (.inl rfl))) (fun _ _ h => h)
set_option maxRecDepth 100000 in
set_option maxHeartbeats 8000000 in
theorem append_any {w : World} {F : Nat → Prop} {c : Nat} {T : TT} (h : LT w F c T) (hz : TSz 4000000 T) {v : Value} {b : List UInt8} (hv : BS w v b) (hvF : b ≠ [] → ∀ k, v.ownBlock = some k → ¬ F k) (hb : b.length ≤ 4000000) :
    Calls Tryz.prog 20 #[.pointer (some ⟨c, 0, none⟩), v] w (StP LT w F c (T.ap b)) := by
  obtain ⟨mf, md, vj, vt, lf, h, hF, hl⟩ := h
  have HFL : Hid ((∀ k, LB c mf md vj vt k → F k) ∧ (∀ k, F k → k < w.heap.size)) := ⟨hF, hl⟩
  have HS : Hid (Calls Tryz.prog 51 #[.pointer (some ⟨c, 0, none⟩)] w fun e w' => e = .returned (.bool (!(T.cnt []).2)) ∧ StX w c mf md vj vt (T.cnt []).1 w') := stops_any h hz.ns
  obtain ⟨R, hR⟩ : ∃ R, T.ap b = R := ⟨_, rfl⟩
  obtain ⟨U, hU⟩ : ∃ U, (T.cnt []).1 = U := ⟨_, rfl⟩
  obtain ⟨k1, k2⟩ := cnt_b T b
  rw [hU] at HS k2
  rw [hR]
  have hud : (T.cnt []).2 = false → U.dn = true := fun e => by
    rw [← hU]
    unfold TT.cnt at e ⊢
    split at e
    · cases e
    · rename_i h1
      rw [if_neg h1]
      split at e
      · cases e
      · rename_i h2
        rw [if_neg h2]
        split
        · rename_i h3; simpa using h3
        · rfl
  have hjl : U.jl = T.jl := by rw [← hU]; exact (cnt_keep T []).1
  have HR : Hid (((T.cnt []).2 = false → R = (if T.dn = false then { U with tn := b } else U, 15)) ∧ ((T.cnt []).2 = true → R = ({ U with jl := T.jl ++ b }, 0)) ∧ ((T.cnt []).2 = false → U.dn = true) ∧ T.jl.length ≤ 4000000 ∧ U.jl = T.jl) := ⟨fun e => by
      rw [← hR, show T.ap b = _ from step_not (k1.trans e), k2, e]; simp, fun e => by
      rw [← hR, show T.ap b = _ from step_do (k1.trans e), k2, if_neg (by simp [e])]; unfold apG; rw [hjl], hud, hz.nj, hjl⟩
  have HV : Hid (BS w v b ∧ (b ≠ [] → ∀ k, v.ownBlock = some k → ¬ F k) ∧ b.length ≤ 4000000) := ⟨hv, hvF, hb⟩
  obtain ⟨c0', c1', c2', c3', c4', c5', -⟩ := h.cells
  obtain ⟨r, i⟩ := R
  clear h hF hl hR hU hz k1 k2 hv hvF hud hjl c0' c1' c2' c3' c4'
  go_enter Tryz.func20, Tryz.ntmps20
  go_wp2_with fail
  refine HS.out.mono ?_
  rintro e w1 ⟨rfl, lf', hx1, ho1⟩
  have o1 : OnlyP F w w1 := (LX.fin HFL.out.1 HFL.out.2 hx1 (only_c ho1)).2
  have X1 : Hid (LX w1 c mf md vj vt lf' U ∧ Only [c] w w1 ∧ OnlyP F w w1 ∧ BS w1 v b) := ⟨hx1, ho1, o1, HV.out.1.only' o1 HV.out.2.1⟩
  obtain ⟨c0, c1, c2, c3, c4, c5, c6⟩ := hx1.cells
  have f2 := hx1.soft 2
  clear hx1 ho1 HS c0 c1 c3 c4 c5 o1 c5'
  cases hc : (T.cnt []).2 with
  | true =>
    have er := HR.out.2.1 hc
    injection er with er1 er2
    subst er1 er2
    have JL : Hid (OwnB 0 w1 vj T.jl ∧ T.jl.length + b.length ≤ 140737488355328) := ⟨HR.out.2.2.2.2 ▸ X1.out.1.jo, by have := HR.out.2.2.2.1; omega⟩
    clear hc
    go_wp2_with (at_builtin; apply hold)
    unfold Hid
    refine app_bytes (base := 0) (l := T.jl) (k := b) JL.out.1 (X1.out.2.2.2.src und32) JL.out.2 (Nat.zero_le _) rfl (.tmp 18) (.tmp 19) rfl rfl rfl ?_
    intro vn w3 g1 g2 g3
    obtain ⟨va, vc, e0⟩ := g1.len
    obtain ⟨nn, hnn⟩ : ∃ nn, (T.jl ++ b).length = nn := ⟨_, rfl⟩
    rw [hnn] at e0
    subst e0
    clear hnn
    have hcj : vj.ownBlock ≠ some c := fun e => (X1.out.1.row_ne X1.out.1.jo c e).1 rfl
    have hc3 := (g2.block c X1.out.1.clt (fun e => hcj e.symm)).trans X1.out.1.blk
    have e2 := (cellsC hc3).2.2.1
    have e3 := frzC hc3 2
    have G : Hid (OwnB 0 w3 (.slice va nn vc) (T.jl ++ b) ∧ w1.grownBy w3 vj.ownBlock ∧ ((Value.slice va nn vc).ownBlock = vj.ownBlock ∨ (Value.slice va nn vc).ownBlock = some w1.heap.size)) := ⟨g1, g2, g3⟩
    clear g1 g2 g3 hcj hc3
    go_wp2_with fail
    go_ret
    have hvn : (Value.slice va nn vc).ownBlock = vj.ownBlock ∨ (Value.slice va nn vc).ownBlock = none ∨ ∃ k, (Value.slice va nn vc).ownBlock = some k ∧ w1.heap.size ≤ k := G.out.2.2.elim .inl (fun e => .inr (.inr ⟨_, e, Nat.le_refl _⟩))
    obtain ⟨hx, hfr⟩ := X1.out.1.putJ G.out.2.1 G.out.1 hvn
    have hsz : (w3.setCell ⟨c, 2, none⟩ (.slice va nn vc)).heap.size = w3.heap.size := size_set _ _ _ _
    have hz1 := X1.out.2.1.size
    have hz3 := G.out.2.1.size
    refine ⟨rfl, ⟨mf, md, _, vt, lf', hx, ?_, ?_⟩, ?_⟩
    · rintro k (e | e | e | e | e)
      · exact .inl (HFL.out.1 k (.inl e))
      · exact .inl (HFL.out.1 k (.inr (.inl e)))
      · exact .inl (HFL.out.1 k (.inr (.inr (.inl e))))
      · rcases G.out.2.2 with e2 | e2
        · exact .inl (HFL.out.1 k (.inr (.inr (.inr (.inl (e2 ▸ e))))))
        · have hk := own5_lt G.out.1 e
          rw [e2] at e
          cases e
          exact .inr ⟨hz1, by rw [hsz]; exact hk⟩
      · exact .inl (HFL.out.1 k (.inr (.inr (.inr (.inr e)))))
    · exact lt_nw HFL.out.2 (by rw [hsz]; omega)
    · refine X1.out.2.2.1.trans (b := w1) (G := fun k => k = c ∨ vj.ownBlock = some k) ⟨?_, ?_, ?_, by rw [hsz]; exact hz3, fun k hk hn => hfr k hk (fun e => hn (.inl e)) (fun e => hn (.inr e))⟩ (fun k hk hg => ?_)
      · exact G.out.2.1.os
      · exact G.out.2.1.tape
      · exact G.out.2.1.output
      · rcases hg with e | e
        · exact HFL.out.1 k (.inl e)
        · exact HFL.out.1 k (.inr (.inr (.inr (.inl e))))
  | false =>
    have er := HR.out.1 hc
    have hdn := HR.out.2.2.1 hc
    cases hd : T.dn with
    | true =>
      rw [hd] at er
      injection er with er1 er2
      simp only [Bool.true_eq_false, if_false] at er1
      subst er1 er2
      clear hc hdn
      go_wp2_with fail
      go_ret
      exact ⟨rfl, LX.fin HFL.out.1 HFL.out.2 X1.out.1 (only_c X1.out.2.1)⟩
    | false =>
      rw [hd] at er
      injection er with er1 er2
      simp only [if_true] at er1
      have ER : Hid (r = { U with tn := b } ∧ U.dn = true) := ⟨er1, hdn⟩
      subst er2
      clear hc hdn er1
      go_wp2_with fail
      refine (cloneB_any X1.out.2.2.2 (by have := HV.out.2.2; omega)).mono ?_
      rintro e w2 ⟨vn, rfl, h1, h2⟩
      obtain ⟨va, vc, e0⟩ := h1.len
      obtain ⟨nn, hnn⟩ : ∃ nn, b.length = nn := ⟨_, rfl⟩
      rw [hnn] at e0
      subst e0
      clear hnn
      have hc3 := (h2.block c X1.out.1.clt).trans X1.out.1.blk
      have e6 := (cellsC hc3).2.2.2.2.2.2
      have e7 := frzC hc3 6
      have G : Hid (OwnB w1.heap.size w2 (.slice va nn vc) b ∧ Below w1.heap.size w1 w2) := ⟨h1, h2⟩
      clear h1 h2 hc3
      go_wp2_with fail
      go_ret
      obtain ⟨hx, hon⟩ := X1.out.1.putT G.out.2 G.out.1 ER.out.2
      rw [ER.out.1]
      have hon2 : Only [c, mf, md] w (w2.setCell ⟨c, 6, none⟩ (.slice va nn vc)) := only_c (X1.out.2.1.trans hon)
      refine ⟨rfl, ⟨mf, md, vj, _, lf', hx, ?_, lt_nw HFL.out.2 hon2.size⟩, (LX.fin (vt := vt) HFL.out.1 HFL.out.2 (X1.out.1.later (Below.refl _ _)) (only_c X1.out.2.1)).2.trans (G := fun k => k = c) ⟨hon.os, hon.tape, hon.output, hon.size, fun k hk hn => hon.block k hk (by simpa using hn)⟩ (fun k _ e => HFL.out.1 k (.inl e))⟩
      rintro k (e | e | e | e | e)
      · exact .inl (HFL.out.1 k (.inl e))
      · exact .inl (HFL.out.1 k (.inr (.inl e)))
      · exact .inl (HFL.out.1 k (.inr (.inr (.inl e))))
      · exact .inl (HFL.out.1 k (.inr (.inr (.inr (.inl e)))))
      · have := G.out.1.lt e
        have := X1.out.2.1.size
        exact .inr ⟨by omega, by rw [size_set]; omega⟩
end Go.Proofs.YtlkkmcibjhoneaaGreatDoor
