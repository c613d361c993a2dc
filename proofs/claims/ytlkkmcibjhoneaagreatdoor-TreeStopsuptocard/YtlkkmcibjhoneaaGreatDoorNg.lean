/-
  The landed tree: Write.
-/
import Derived.Test.YtlkkmcibjhoneaaGreatDoorNd
namespace Go.Proofs.YtlkkmcibjhoneaaGreatDoor
open Go.RowKit Go.Maps

set_option maxRecDepth 100000 in
set_option maxHeartbeats 16000000 in
theorem write_any {w : World} {F : Nat → Prop} {c : Nat} {T : TT} (h : LT w F c T) (hz : TSz 4000000 T) (f : Fl) (hf : Fok f) :
    Calls Tryz.prog 32 #[.pointer (some ⟨c, 0, none⟩), f.val] w (StP LT w F c (T.wr f)) := by
  obtain ⟨mf, md, vj, vt, lf, h, hF, hl⟩ := h
  have HFL : Hid ((∀ k, LB c mf md vj vt k → F k) ∧ (∀ k, F k → k < w.heap.size)) := ⟨hF, hl⟩
  have HS : Hid (∀ W, LX W c mf md vj vt lf T → Calls Tryz.prog 51 #[.pointer (some ⟨c, 0, none⟩)] W fun e w' => e = .returned (.bool (!(T.cnt []).2)) ∧ StX W c mf md vj vt (T.cnt []).1 w') := fun W hW => stops_any hW hz.ns
  obtain ⟨R, hR⟩ : ∃ R, T.wr f = R := ⟨_, rfl⟩
  obtain ⟨U, hU⟩ : ∃ U, (T.cnt []).1 = U := ⟨_, rfl⟩
  have HU : Hid (U.fs.length + U.ds.length ≤ 100000000) := by rw [← hU, (cnt_same T).1, (cnt_same T).2]; have := hz.nf; have := hz.nd; show T.fs.length + T.ds.length ≤ 100000000; omega
  rw [hU] at HS
  rw [hR]
  have e1 : (T.cnt []).2 = false → R = (U, 15) := fun e => by rw [← hR, ← hU]; exact step_not e
  have e2 : (T.cnt []).2 = true → R = wrG f U := fun e => by rw [← hR, ← hU]; exact step_do e
  have HR : Hid (((T.cnt []).2 = false → R = (U, 15)) ∧ ((T.cnt []).2 = true → R = wrG f U)) := ⟨e1, e2⟩
  obtain ⟨r, i⟩ := R
  have H : Hid (LX w c mf md vj vt lf T) := h
  have HP : Hid (Lk f.path ∧ f.path.length ≤ 9223372036854775807 ∧ Fok f) := ⟨by have := hf.path; unfold Lk; omega, by have := hf.path; omega, hf⟩
  clear hf
  clear h hF hl hR hU hz e1 e2
  obtain ⟨fp, ft, fb, fz⟩ := f
  obtain ⟨ec, hec⟩ : ∃ ec, fileE ⟨fp, ft, fb, fz⟩ = ec := ⟨_, rfl⟩
  have HEC : Hid (fileE ⟨fp, ft, fb, fz⟩ = ec) := hec
  obtain ⟨w0, hw0⟩ : ∃ w0, w.alloc (.cells #[.string (bs fp), .string (bs ft), .int .i64 fb, .int .i64 fz] 31) = w0 := ⟨_, rfl⟩
  have hb0 : Below w.heap.size w w0 := by rw [← hw0]; exact balloc _ _
  have hg0 : w0.heap[w.heap.size]? = some (.cells #[.string (bs fp), .string (bs ft), .int .i64 fb, .int .i64 fz] 31 (0, 0)) := by rw [← hw0]; exact heap_alloc_new _ _
  obtain ⟨y0, y1, y2, y3⟩ := cellsF hg0
  obtain ⟨g, hg⟩ : ∃ g, w.heap.size = g := ⟨_, rfl⟩
  have H0 : Hid (Below w.heap.size w w0 ∧ w0.heap[g]? = some (.cells #[.string (bs fp), .string (bs ft), .int .i64 fb, .int .i64 fz] 31 (0, 0)) ∧ w.heap.size = g) := ⟨hb0, by rw [← hg]; exact hg0, hg⟩
  rw [hg] at y0 y1 y2 y3
  clear hb0 hg0 hec
  simp only [Fl.val]
  go_enter Tryz.func32, Tryz.ntmps32
  go_wp2_with fail
  clear hw0
  refine (gw_file' ⟨fp, ft, fb, fz⟩ HP.out.2.2 _).mono ?_
  rintro e wa ⟨rfl, hba⟩
  rw [HEC.out]
  have Xa : Hid (Below w.heap.size w wa ∧ wa.heap[g]? = some (.cells #[.string (bs fp), .string (bs ft), .int .i64 fb, .int .i64 fz] 31 (0, 0))) := ⟨bstep H0.out.1 hba, (hba.block g (Array.getElem?_eq_some_iff.1 H0.out.2.1).1).trans H0.out.2.1⟩
  clear hba
  go_wp2_with fail
  refine (HS.out _ (H.out.later Xa.out.1)).mono ?_
  rintro e w1 ⟨rfl, lf', hx1, ho1⟩
  have hgc : g ≠ c := by
    have := H.out.clt
    have := H0.out.2.2
    omega
  have X1 : Hid (LX w1 c mf md vj vt lf' U ∧ Only [c, mf, md] w w1 ∧ w1.heap[g]? = some (.cells #[.string (bs fp), .string (bs ft), .int .i64 fb, .int .i64 fz] 31 (0, 0))) := ⟨hx1, (Only.of_below Xa.out.1 _).trans (only_c ho1), (ho1.block g (Array.getElem?_eq_some_iff.1 Xa.out.2).1 (by simpa using hgc)).trans Xa.out.2⟩
  clear hx1 ho1 HS Xa hgc y0 y1 y2 y3
  cases hc : (T.cnt []).2 with
  | false =>
    have er := HR.out.1 hc
    injection er with er1 er2
    subst er1 er2
    go_wp2_with fail
    go_ret
    exact ⟨rfl, LX.fin HFL.out.1 HFL.out.2 X1.out.1 X1.out.2.1⟩
  | true =>
    have ER : Hid ((r, i) = wrG ⟨fp, ft, fb, fz⟩ U) := HR.out.2 hc
    clear HR hc
    by_cases he : ec = 0
    case neg =>
      have hne1 : (ec == 0) = false := by simpa using he
      have hne2 : (ec != 0) = true := by simpa using he
      have ed : i = ec ∧ r = U := by
        have := ER.out
        unfold wrG at this
        rw [HEC.out, if_neg he] at this
        injection this with h1 h2
        exact ⟨h2, h1⟩
      obtain ⟨rfl, rfl⟩ := ed
      clear he
      go_wp2_with fail
      go_ret
      exact ⟨rfl, LX.fin HFL.out.1 HFL.out.2 X1.out.1 X1.out.2.1⟩
    subst he
    have no : wrB U ⟨fp, ft, fb, fz⟩ = false → i = 16 ∧ r = U := fun e => by
      have := ER.out
      unfold wrG at this
      rw [if_pos HEC.out, if_neg (by simp [e])] at this
      injection this with h1 h2
      exact ⟨h2, h1⟩
    have NO : Hid (wrB U ⟨fp, ft, fb, fz⟩ = false → i = 16 ∧ r = U) := no
    clear no
    obtain ⟨y0, y1, y2, y3⟩ := cellsF X1.out.2.2
    obtain ⟨z0, z1, z2, z3, z4, z5⟩ := X1.out.1.ev.cells
    obtain ⟨a, ha⟩ : ∃ a, hasF U.fs fp = a := ⟨_, rfl⟩
    obtain ⟨b, hb⟩ : ∃ b, hasD U.ds fp = b := ⟨_, rfl⟩
    have HA : Hid (∀ W : World, Below w1.heap.size w1 W → Calls Tryz.prog 58 #[.pointer (some ⟨c, 0, none⟩), .string (bs fp)] W fun e w' => e = .returned (.agg #[.bool a, .bool b]) ∧ Below W.heap.size W w') := X1.out.1.asks fp HP.out.1 ha hb
    have AB : Hid (hasF U.fs fp = a ∧ hasD U.ds fp = b) := ⟨ha, hb⟩
    have hq : ∀ W, (binOp .eql 95 (.agg #[.bool a, .bool b]) (.agg #[.bool false, .bool true])).run Tryz.prog W = .ok (.bool (!a && b)) W := fun W => by
      have := eql_there a b false true W
      rw [this]; cases a <;> cases b <;> rfl
    clear ha hb
    go_wp2_with fail
    go_region_with (go_at_call 58; refine (HA.out _ (Below.refl _ _).drew).mono ?_; rintro e w2 ⟨rfl, hb4⟩; have hb5 : Below w1.heap.size w1 w2 := bstep (Below.refl _ _).drew hb4; have X2 : Hid (LX w2 c mf md vj vt lf' U ∧ Only [c, mf, md] w w2 ∧ w2.heap[g]? = some (.cells #[.string (bs fp), .string (bs ft), .int .i64 fb, .int .i64 fz] 31 (0, 0))) := ⟨X1.out.1.later hb5, X1.out.2.1.trans (Only.of_below hb5 _), (hb5.block g (Array.getElem?_eq_some_iff.1 X1.out.2.2).1).trans X1.out.2.2⟩; obtain ⟨x0, x1, x2, x3, x4, x5⟩ := X2.out.1.ev.cells; obtain ⟨v0, v1, v2, v3⟩ := cellsF X2.out.2.2; clear hb4 hb5)
    all_goals
      clear HA hq z0 z1 z2 z3 z4 z5 y0 y1 y2 y3
      have hab : (!a && b) = b := by
        cases b with
        | false => simp
        | true =>
          cases a with
          | false => rfl
          | true =>
            exfalso
            obtain ⟨f, hf, e⟩ := hasF_iff.1 AB.out.1
            rcases hasD_iff.1 AB.out.2 with e0 | e0
            · exact absurd (e.trans e0) (fileE_path (X2.out.1.ok.fe f hf)).1
            · exact absurd (e ▸ e0) (X2.out.1.ok.no f hf)
      cases hv : (!a && b) with
      | true =>
        obtain ⟨rfl, rfl⟩ := NO.out (by
          have h2 := AB.out.2
          rw [hab] at hv
          rw [hv] at h2
          simp [wrB, h2])
        clear hv hab
        go_wp2_with fail
        go_ret
        exact ⟨rfl, LX.fin HFL.out.1 HFL.out.2 X2.out.1 X2.out.2.1⟩
      | false =>
        have hbf : b = false := hab.symm.trans hv
        subst hbf
        clear hv hab
        obtain ⟨a2, ha2⟩ : ∃ a, hasF U.fs (dir fp) = a := ⟨_, rfl⟩
        obtain ⟨b2, hb2⟩ : ∃ b, hasD U.ds (dir fp) = b := ⟨_, rfl⟩
        have HA2 : Hid (∀ W : World, Below w2.heap.size w2 W → Calls Tryz.prog 58 #[.pointer (some ⟨c, 0, none⟩), .string (bs (dir fp))] W fun e w' => e = .returned (.agg #[.bool a2, .bool b2]) ∧ Below W.heap.size W w') := X2.out.1.asks (dir fp) (lk_dir HP.out.1) ha2 hb2
        have AB2 : Hid (hasF U.fs (dir fp) = a2 ∧ hasD U.ds (dir fp) = b2) := ⟨ha2, hb2⟩
        have hq2 : ∀ W, (binOp .neq 95 (.agg #[.bool a2, .bool b2]) (.agg #[.bool false, .bool true])).run Tryz.prog W = .ok (.bool (a2 || !b2)) W := fun W => by
          have := neq_there a2 b2 false true W
          rw [this]; cases a2 <;> cases b2 <;> rfl
        clear ha2 hb2
        go_wp2_with fail
        go_region_with (first | (go_at_call 25; refine (dir_any fp _ HP.out.2.1).mono ?_; rintro e wq ⟨rfl, rfl⟩) | (go_at_call 58; refine (HA2.out _ (Below.refl _ _).drew).mono ?_; rintro e w4 ⟨rfl, hb4⟩; have hb5 : Below w2.heap.size w2 w4 := bstep (Below.refl _ _).drew hb4; have X4 : Hid (LX w4 c mf md vj vt lf' U ∧ Only [c, mf, md] w w4 ∧ w4.heap[g]? = some (.cells #[.string (bs fp), .string (bs ft), .int .i64 fb, .int .i64 fz] 31 (0, 0))) := ⟨X2.out.1.later hb5, X2.out.2.1.trans (Only.of_below hb5 _), (hb5.block g (Array.getElem?_eq_some_iff.1 X2.out.2.2).1).trans X2.out.2.2⟩; obtain ⟨y0, y1, y2, y3, y4, y5⟩ := X4.out.1.ev.cells; obtain ⟨u0, u1, u2, u3⟩ := cellsF X4.out.2.2; clear hb4 hb5))
        all_goals
          clear HA2 hq2 x0 x1 x2 x3 x4 x5 y0 y1 y2 y3 y4 y5 v0 v1 v2 v3
          cases hab2 : (a2 || !b2) with
          | true =>
            obtain ⟨rfl, rfl⟩ := NO.out (by
              have h1 := AB2.out.1
              have h2 := AB2.out.2
              cases b2 with
              | false => unfold wrB; rw [h2]; simp
              | true =>
                have ha : a2 = true := by cases a2 <;> simp_all
                rw [ha] at h1
                obtain ⟨f, hf, e⟩ := hasF_iff.1 h1
                have hn := X4.out.1.ok.no f hf
                rcases hasD_iff.1 h2 with e0 | e0
                · exact absurd (e.trans e0) (fileE_path (X4.out.1.ok.fe f hf)).1
                · exact absurd (e ▸ e0) hn)
            clear hab2
            go_wp2_with fail
            go_ret
            exact ⟨rfl, LX.fin HFL.out.1 HFL.out.2 X4.out.1 X4.out.2.1⟩
          | false =>
            have hb2 : b2 = true := by cases a2 <;> cases b2 <;> simp_all
            have hwb : wrB U ⟨fp, ft, fb, fz⟩ = true := by
              have h2 := AB.out.2
              have h3 := AB2.out.2
              unfold wrB
              rw [h2, h3, hb2]
              rfl
            have ed : i = 0 ∧ r = { U with fs := insF ⟨fp, ft, fb, fz⟩ U.fs } := by
              have := ER.out
              unfold wrG at this
              rw [if_pos HEC.out, if_pos hwb] at this
              injection this with h1 h2
              exact ⟨h2, h1⟩
            obtain ⟨rfl, rfl⟩ := ed
            have HM : Hid (wrB U ⟨fp, ft, fb, fz⟩ = true) := hwb
            clear hab2 hb2 hwb
            go_wp2_with fail
            refine (addFile_any X4.out.1 ⟨fp, ft, fb, fz⟩ HEC.out HM.out HU.out).mono ?_
            rintro e w5 ⟨rfl, h5, o5⟩
            have X5 : Hid (LX w5 c mf md vj vt lf' { U with fs := insF ⟨fp, ft, fb, fz⟩ U.fs } ∧ Only [c, mf, md] w w5) := ⟨h5, X4.out.2.1.trans (only_m o5)⟩
            clear h5 o5
            go_wp2_with fail
            go_ret
            exact ⟨rfl, LX.fin HFL.out.1 HFL.out.2 X5.out.1 X5.out.2⟩
end Go.Proofs.YtlkkmcibjhoneaaGreatDoor
