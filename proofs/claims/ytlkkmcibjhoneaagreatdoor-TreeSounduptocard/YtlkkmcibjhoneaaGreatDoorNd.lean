/-
  The landed tree: Mkdir.
-/
import Derived.Test.YtlkkmcibjhoneaaGreatDoorJDb
namespace Go.Proofs.YtlkkmcibjhoneaaGreatDoor
open Go.RowKit Go.Maps

/-- a tree of the program's -/
def LT (w : World) (F : Nat → Prop) (c : Nat) (T : TT) : Prop := ∃ mf md vj vt lf, LX w c mf md vj vt lf T ∧ (∀ k, LB c mf md vj vt k → F k) ∧ (∀ k, F k → k < w.heap.size)
section
variable {w w' : World} {c mf md : Nat} {vj vt : Value} {lf : Int} {T T' : TT} {F : Nat → Prop}
theorem lt_nw (hl : ∀ k, F k → k < w.heap.size) (hs : w.heap.size ≤ w'.heap.size) : ∀ k, nwF F w w' k → k < w'.heap.size := by
  rintro k (h | h)
  · exact Nat.lt_of_lt_of_le (hl k h) hs
  · exact h.2
/-- what a step leaves, the rows where they were -/
theorem LX.fin (hF : ∀ k, LB c mf md vj vt k → F k) (hl : ∀ k, F k → k < w.heap.size) (h : LX w' c mf md vj vt lf T') (ho : Only [c, mf, md] w w') : LT w' (nwF F w w') c T' ∧ OnlyP F w w' :=
  ⟨⟨mf, md, vj, vt, lf, h, fun k hk => .inl (hF k hk), lt_nw hl ho.size⟩, ⟨ho.os, ho.tape, ho.output, ho.size, fun k hk hn => ho.block k hk (fun hm => hn (by
    simp only [List.mem_cons, List.not_mem_nil, or_false] at hm
    rcases hm with e | e | e
    · exact hF k (.inl e)
    · exact hF k (.inr (.inl e))
    · exact hF k (.inr (.inr (.inl e)))))⟩⟩
theorem only_c (h : Only [c] w w') : Only [c, mf, md] w w' := h.wide (by simp)
theorem only_m (h : Only [mf, md] w w') : Only [c, mf, md] w w' := h.wide (fun k hk => by simp only [List.mem_cons, List.not_mem_nil, or_false] at hk ⊢; exact .inr hk)
theorem hf_dir {p : List UInt8} (h : p.length ≤ 4000000) : Lk p ∧ p.length ≤ 9223372036854775807 := ⟨by unfold Lk; omega, by omega⟩
end
theorem cnt_same (T : TT) : (T.cnt []).1.fs = T.fs ∧ (T.cnt []).1.ds = T.ds := by
  unfold TT.cnt
  split
  · exact ⟨rfl, rfl⟩
  · split
    · exact ⟨rfl, rfl⟩
    · split <;> exact ⟨rfl, rfl⟩
set_option maxRecDepth 100000 in
set_option maxHeartbeats 16000000 in
theorem mkdir_any {w : World} {F : Nat → Prop} {c : Nat} {T : TT} (h : LT w F c T) (hz : TSz 4000000 T) (p : List UInt8) (hp : p.length ≤ 4000000) :
    Calls Tryz.prog 28 #[.pointer (some ⟨c, 0, none⟩), .string (bs p)] w (StP LT w F c (T.mk' p)) := by
  obtain ⟨mf, md, vj, vt, lf, h, hF, hl⟩ := h
  have HFL : Hid ((∀ k, LB c mf md vj vt k → F k) ∧ (∀ k, F k → k < w.heap.size)) := ⟨hF, hl⟩
  have HS : Hid (Calls Tryz.prog 51 #[.pointer (some ⟨c, 0, none⟩)] w fun e w' => e = .returned (.bool (!(T.cnt []).2)) ∧ StX w c mf md vj vt (T.cnt []).1 w') := stops_any h hz.ns
  obtain ⟨R, hR⟩ : ∃ R, T.mk' p = R := ⟨_, rfl⟩
  obtain ⟨U, hU⟩ : ∃ U, (T.cnt []).1 = U := ⟨_, rfl⟩
  have HU : Hid (U.fs.length + U.ds.length ≤ 100000000) := by rw [← hU, (cnt_same T).1, (cnt_same T).2]; have := hz.nf; have := hz.nd; show T.fs.length + T.ds.length ≤ 100000000; omega
  have HP : Hid (Lk p ∧ p.length ≤ 9223372036854775807) := hf_dir hp
  rw [hU] at HS
  rw [hR]
  have e1 : (T.cnt []).2 = false → R = (U, 15) := fun e => by rw [← hR, ← hU]; exact step_not e
  have e2 : (T.cnt []).2 = true → R = mkG p U := fun e => by rw [← hR, ← hU]; exact step_do e
  have HR : Hid (((T.cnt []).2 = false → R = (U, 15)) ∧ ((T.cnt []).2 = true → R = mkG p U)) := ⟨e1, e2⟩
  obtain ⟨r, i⟩ := R
  clear h hF hl hR hU hz e1 e2
  go_enter Tryz.func28, Tryz.ntmps28
  go_wp2_with fail
  refine HS.out.mono ?_
  rintro e w1 ⟨rfl, lf', hx1, ho1⟩
  have X1 : Hid (LX w1 c mf md vj vt lf' U ∧ Only [c] w w1) := ⟨hx1, ho1⟩
  clear hx1 ho1 HS
  cases hc : (T.cnt []).2 with
  | false =>
    have er := HR.out.1 hc
    injection er with er1 er2
    subst er1 er2
    go_wp2_with fail
    go_ret
    exact ⟨rfl, LX.fin HFL.out.1 HFL.out.2 X1.out.1 (only_c X1.out.2)⟩
  | true =>
    have er : (r, i) = mkG p U := HR.out.2 hc
    have ER : Hid ((r, i) = mkG p U) := er
    clear HR hc er
    go_wp2_with fail
    refine (valid_any p _ (by omega)).mono ?_
    rintro e w2 ⟨rfl, hb2⟩
    have X2 : Hid (LX w2 c mf md vj vt lf' U ∧ Only [c, mf, md] w w2) := ⟨X1.out.1.later hb2, (only_c X1.out.2).trans (Only.of_below hb2 _)⟩
    clear hb2 X1
    have no : mkB U p = false → i = 16 ∧ r = U := fun e => by
      have := ER.out
      unfold mkG at this
      rw [if_neg (by simp [e])] at this
      injection this with h1 h2
      exact ⟨h2, h1⟩
    have NO : Hid (mkB U p = false → i = 16 ∧ r = U) := no
    clear no
    cases hok : okP p with
    | false =>
      obtain ⟨rfl, rfl⟩ := NO.out (by simp [mkB, hok])
      go_wp2_with fail
      go_ret
      exact ⟨rfl, LX.fin HFL.out.1 HFL.out.2 X2.out.1 X2.out.2⟩
    | true =>
      have OK : Hid (okP p = true) := hok
      clear hok
      obtain ⟨a, ha⟩ : ∃ a, hasF U.fs p = a := ⟨_, rfl⟩
      obtain ⟨b, hb⟩ : ∃ b, hasD U.ds p = b := ⟨_, rfl⟩
      have HA : Hid (∀ W : World, Below w2.heap.size w2 W → Calls Tryz.prog 58 #[.pointer (some ⟨c, 0, none⟩), .string (bs p)] W fun e w' => e = .returned (.agg #[.bool a, .bool b]) ∧ Below W.heap.size W w') := X2.out.1.asks p HP.out.1 ha hb
      have AB : Hid (hasF U.fs p = a ∧ hasD U.ds p = b) := ⟨ha, hb⟩
      obtain ⟨z0, z1, z2, z3, -⟩ := X2.out.1.ev.cells
      have hq : ∀ W, (binOp .neq 95 (.agg #[.bool a, .bool b]) (.agg #[.bool false, .bool false])).run Tryz.prog W = .ok (.bool (a || b)) W := fun W => by
        have := neq_there a b false false W
        rw [this]; cases a <;> cases b <;> rfl
      clear ha hb
      go_wp2_with fail
      go_region_with (go_at_call 58; refine (HA.out _ (Below.refl _ _).drew).mono ?_; rintro e w3 ⟨rfl, hb3⟩; have X3 : Hid (LX w3 c mf md vj vt lf' U ∧ Only [c, mf, md] w w3) := ⟨X2.out.1.later (bstep (Below.refl _ _).drew hb3), X2.out.2.trans (Only.of_below (bstep (Below.refl _ _).drew hb3) _)⟩; obtain ⟨x0, x1, x2, x3, -⟩ := X3.out.1.ev.cells; clear hb3)
      all_goals
        clear HA hq z0 z1 z2 z3
        cases hab : (a || b) with
        | true =>
          obtain ⟨rfl, rfl⟩ := NO.out (by have h1 := AB.out.1; have h2 := AB.out.2; unfold mkB; rw [h1, h2]; cases a <;> cases b <;> simp_all)
          go_wp2_with fail
          go_ret
          exact ⟨rfl, LX.fin HFL.out.1 HFL.out.2 X3.out.1 X3.out.2⟩
        | false =>
          have hab' : a = false ∧ b = false := by cases a <;> cases b <;> simp_all
          obtain ⟨rfl, rfl⟩ := hab'
          clear hab
          obtain ⟨a2, ha2⟩ : ∃ a, hasF U.fs (dir p) = a := ⟨_, rfl⟩
          obtain ⟨b2, hb2⟩ : ∃ b, hasD U.ds (dir p) = b := ⟨_, rfl⟩
          have HA2 : Hid (∀ W : World, Below w3.heap.size w3 W → Calls Tryz.prog 58 #[.pointer (some ⟨c, 0, none⟩), .string (bs (dir p))] W fun e w' => e = .returned (.agg #[.bool a2, .bool b2]) ∧ Below W.heap.size W w') := X3.out.1.asks (dir p) (lk_dir HP.out.1) ha2 hb2
          have AB2 : Hid (hasF U.fs (dir p) = a2 ∧ hasD U.ds (dir p) = b2) := ⟨ha2, hb2⟩
          have hq2 : ∀ W, (binOp .neq 95 (.agg #[.bool a2, .bool b2]) (.agg #[.bool false, .bool true])).run Tryz.prog W = .ok (.bool (a2 || !b2)) W := fun W => by
            have := neq_there a2 b2 false true W
            rw [this]; cases a2 <;> cases b2 <;> rfl
          clear ha2 hb2
          go_wp2_with fail
          go_region_with (first | (go_at_call 25; refine (dir_any p _ HP.out.2).mono ?_; rintro e wq ⟨rfl, rfl⟩) | (go_at_call 58; refine (HA2.out _ (Below.refl _ _).drew).mono ?_; rintro e w4 ⟨rfl, hb4⟩; have X4 : Hid (LX w4 c mf md vj vt lf' U ∧ Only [c, mf, md] w w4) := ⟨X3.out.1.later (bstep (Below.refl _ _).drew hb4), X3.out.2.trans (Only.of_below (bstep (Below.refl _ _).drew hb4) _)⟩; obtain ⟨y0, y1, y2, y3, -⟩ := X4.out.1.ev.cells; clear hb4))
          all_goals
            clear HA2 hq2 x0 x1 x2 x3
            cases hab2 : (a2 || !b2) with
            | true =>
              obtain ⟨rfl, rfl⟩ := NO.out (by
                have h1 := AB2.out.1
                have h2 := AB2.out.2
                cases b2 with
                | false => unfold mkB; rw [h2]; simp
                | true =>
                  have ha : a2 = true := by cases a2 <;> simp_all
                  rw [ha] at h1
                  obtain ⟨f, hf, e⟩ := hasF_iff.1 h1
                  have hn := X4.out.1.ok.no f hf
                  rcases hasD_iff.1 h2 with e0 | e0
                  · exact absurd (e.trans e0) (fileE_path (X4.out.1.ok.fe f hf)).1
                  · exact absurd (e ▸ e0) hn)
              go_wp2_with fail
              go_ret
              exact ⟨rfl, LX.fin HFL.out.1 HFL.out.2 X4.out.1 X4.out.2⟩
            | false =>
              have hb2 : b2 = true := by cases a2 <;> cases b2 <;> simp_all
              have hmk : mkB U p = true := by
                have h1 := AB.out.1
                have h2 := AB.out.2
                have h3 := AB2.out.2
                have h4 := OK.out
                unfold mkB
                rw [h1, h2, h3, h4, hb2]
                rfl
              have ed : i = 0 ∧ r = { U with ds := ins p U.ds } := by
                have := ER.out
                unfold mkG at this
                rw [if_pos hmk] at this
                injection this with h1 h2
                exact ⟨h2, h1⟩
              obtain ⟨rfl, rfl⟩ := ed
              have HM : Hid (mkB U p = true) := hmk
              clear hab2 hb2 hmk
              go_wp2_with fail
              refine (addDir_any X4.out.1 p HM.out HU.out).mono ?_
              rintro e w5 ⟨rfl, h5, o5⟩
              have X5 : Hid (LX w5 c mf md vj vt lf' { U with ds := ins p U.ds } ∧ Only [c, mf, md] w w5) := ⟨h5, X4.out.2.trans (only_m o5)⟩
              clear h5 o5
              go_wp2_with fail
              go_ret
              exact ⟨rfl, LX.fin HFL.out.1 HFL.out.2 X5.out.1 X5.out.2⟩
end Go.Proofs.YtlkkmcibjhoneaaGreatDoor
