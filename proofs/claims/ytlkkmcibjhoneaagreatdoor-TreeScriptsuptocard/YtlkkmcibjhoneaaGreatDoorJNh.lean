/-
  The landed tree: Mkdir.
  The landed tree: the journal; Stop, Steps.
-/
import Derived.Test.YtlkkmcibjhoneaaGreatDoorJNc
import Derived.Test.YtlkkmcibjhoneaaGreatDoorJGd
import Derived.Test.YtlkkmcibjhoneaaGreatDoorDc
namespace Go.Proofs.YtlkkmcibjhoneaaGreatDoor
open Go.RowKit Go.Maps

/-- a tree of the program's -/
def LT (w : World) (F : Nat → Prop) (c : Nat) (T : TT) : Prop := ∃ mf md vj vt lf, LX w c mf md vj vt lf T ∧ (∀ k, LB c mf md vj vt k → F k) ∧ (∀ k, F k → k < w.heap.size)
section
variable {w w' : World} {c mf md : Nat} {vj vt : Value} {lf : Int} {T T' : TT} {F : Nat → Prop}
theorem lt_nw (hl : ∀ k, F k → k < w.heap.size) (hs : w.heap.size ≤ w'.heap.size) : ∀ k, nwF F w w' k → k < w'.heap.size := by
  rintro k (h | h)
  · exact Nat.lt_of_lt_of_le (hl k h) hs
  · exact h.2
/-- what a step leaves, the rows where they were -/
theorem LX.fin (hF : ∀ k, LB c mf md vj vt k → F k) (hl : ∀ k, F k → k < w.heap.size) (h : LX w' c mf md vj vt lf T') (ho : Only [c, mf, md] w w') : LT w' (nwF F w w') c T' ∧ OnlyP F w w' :=
  ⟨⟨mf, md, vj, vt, lf, h, fun k hk => .inl (hF k hk), lt_nw hl ho.size⟩, ⟨ho.os, ho.tape, ho.output, ho.size, fun k hk hn => ho.block k hk (fun hm => hn (by
    simp only [List.mem_cons, List.not_mem_nil, or_false] at hm
    rcases hm with e | e | e
    · exact hF k (.inl e)
    · exact hF k (.inr (.inl e))
    · exact hF k (.inr (.inr (.inl e)))))⟩⟩
theorem only_c (h : Only [c] w w') : Only [c, mf, md] w w' := h.wide (by simp)
theorem only_m (h : Only [mf, md] w w') : Only [c, mf, md] w w' := h.wide (fun k hk => by simp only [List.mem_cons, List.not_mem_nil, or_false] at hk ⊢; exact .inr hk)
theorem hf_dir {p : List UInt8} (h : p.length ≤ 4000000) : Lk p ∧ p.length ≤ 9223372036854775807 := ⟨by unfold Lk; omega, by omega⟩
end
theorem cnt_same (T : TT) : (T.cnt []).1.fs = T.fs ∧ (T.cnt []).1.ds = T.ds := by
  unfold TT.cnt
  split
  · exact ⟨rfl, rfl⟩
  · split
    · exact ⟨rfl, rfl⟩
    · split <;> exact ⟨rfl, rfl⟩
set_option maxRecDepth 100000 in
set_option maxHeartbeats 16000000 in
theorem mkdir_any {w : World} {F : Nat → Prop} {c : Nat} {T : TT} (h : LT w F c T) (hz : TSz 4000000 T) (p : List UInt8) (hp : p.length ≤ 4000000) :
    Calls Tryz.prog 28 #[.pointer (some ⟨c, 0, none⟩), .string (bs p)] w (StP LT w F c (T.mk' p)) := by
  obtain ⟨mf, md, vj, vt, lf, h, hF, hl⟩ := h
  have HFL : Hid ((∀ k, LB c mf md vj vt k → F k) ∧ (∀ k, F k → k < w.heap.size)) := ⟨hF, hl⟩
  have HS : Hid (Calls Tryz.prog 51 #[.pointer (some ⟨c, 0, none⟩)] w fun e w' => e = .returned (.bool (!(T.cnt []).2)) ∧ StX w c mf md vj vt (T.cnt []).1 w') := stops_any h hz.ns
  obtain ⟨R, hR⟩ : ∃ R, T.mk' p = R := ⟨_, rfl⟩
  obtain ⟨U, hU⟩ : ∃ U, (T.cnt []).1 = U := ⟨_, rfl⟩
  have HU : Hid (U.fs.length + U.ds.length ≤ 100000000) := by rw [← hU, (cnt_same T).1, (cnt_same T).2]; have := hz.nf; have := hz.nd; show T.fs.length + T.ds.length ≤ 100000000; omega
  have HP : Hid (Lk p ∧ p.length ≤ 9223372036854775807) := hf_dir hp
  rw [hU] at HS
  rw [hR]
  have e1 : (T.cnt []).2 = false → R = (U, 15) := fun e => by rw [← hR, ← hU]; exact step_not e
  have e2 : (T.cnt []).2 = true → R = mkG p U := fun e => by rw [← hR, ← hU]; exact step_do e
  have HR : Hid (((T.cnt []).2 = false → R = (U, 15)) ∧ ((T.cnt []).2 = true → R = mkG p U)) := ⟨e1, e2⟩
  obtain ⟨r, i⟩ := R
  clear h hF hl hR hU hz e1 e2
  go_enter Tryz.func28, Tryz.ntmps28
  go_wp2_with fail
  refine HS.out.mono ?_
  rintro e w1 ⟨rfl, lf', hx1, ho1⟩
  have X1 : Hid (LX w1 c mf md vj vt lf' U ∧ Only [c] w w1) := ⟨hx1, ho1⟩
  clear hx1 ho1 HS
  cases hc : (T.cnt []).2 with
  | false =>
    have er := HR.out.1 hc
    injection er with er1 er2
    subst er1 er2
    go_wp2_with fail
    go_ret
    exact ⟨rfl, LX.fin HFL.out.1 HFL.out.2 X1.out.1 (only_c X1.out.2)⟩
  | true =>
    have er : (r, i) = mkG p U := HR.out.2 hc
    have ER : Hid ((r, i) = mkG p U) := er
    clear HR hc er
    go_wp2_with fail
    refine (valid_any p _ (by omega)).mono ?_
    rintro e w2 ⟨rfl, hb2⟩
    have X2 : Hid (LX w2 c mf md vj vt lf' U ∧ Only [c, mf, md] w w2) := ⟨X1.out.1.later hb2, (only_c X1.out.2).trans (Only.of_below hb2 _)⟩
    clear hb2 X1
    have no : mkB U p = false → i = 16 ∧ r = U := fun e => by
      have := ER.out
      unfold mkG at this
      rw [if_neg (by simp [e])] at this
      injection this with h1 h2
      exact ⟨h2, h1⟩
    have NO : Hid (mkB U p = false → i = 16 ∧ r = U) := no
    clear no
    cases hok : okP p with
    | false =>
      obtain ⟨rfl, rfl⟩ := NO.out (by simp [mkB, hok])
      go_wp2_with fail
      go_ret
      exact ⟨rfl, LX.fin HFL.out.1 HFL.out.2 X2.out.1 X2.out.2⟩
    | true =>
      have OK : Hid (okP p = true) := hok
      clear hok
      obtain ⟨a, ha⟩ : ∃ a, hasF U.fs p = a := ⟨_, rfl⟩
      obtain ⟨b, hb⟩ : ∃ b, hasD U.ds p = b := ⟨_, rfl⟩
      have HA : Hid (∀ W : World, Below w2.heap.size w2 W → Calls Tryz.prog 58 #[.pointer (some ⟨c, 0, none⟩), .string (bs p)] W fun e w' => e = .returned (.agg #[.bool a, .bool b]) ∧ Below W.heap.size W w') := X2.out.1.asks p HP.out.1 ha hb
      have AB : Hid (hasF U.fs p = a ∧ hasD U.ds p = b) := ⟨ha, hb⟩
      obtain ⟨z0, z1, z2, z3, -⟩ := X2.out.1.ev.cells
      have hq : ∀ W, (binOp .neq 95 (.agg #[.bool a, .bool b]) (.agg #[.bool false, .bool false])).run Tryz.prog W = .ok (.bool (a || b)) W := fun W => by
        have := neq_there a b false false W
        rw [this]; cases a <;> cases b <;> rfl
      clear ha hb
      go_wp2_with fail
      go_region_with (go_at_call 58; refine (HA.out _ (Below.refl _ _).drew).mono ?_; rintro e w3 ⟨rfl, hb3⟩; have X3 : Hid (LX w3 c mf md vj vt lf' U ∧ Only [c, mf, md] w w3) := ⟨X2.out.1.later (bstep (Below.refl _ _).drew hb3), X2.out.2.trans (Only.of_below (bstep (Below.refl _ _).drew hb3) _)⟩; obtain ⟨x0, x1, x2, x3, -⟩ := X3.out.1.ev.cells; clear hb3)
      all_goals
        clear HA hq z0 z1 z2 z3
        cases hab : (a || b) with
        | true =>
          obtain ⟨rfl, rfl⟩ := NO.out (by have h1 := AB.out.1; have h2 := AB.out.2; unfold mkB; rw [h1, h2]; cases a <;> cases b <;> simp_all)
          go_wp2_with fail
          go_ret
          exact ⟨rfl, LX.fin HFL.out.1 HFL.out.2 X3.out.1 X3.out.2⟩
        | false =>
          have hab' : a = false ∧ b = false := by cases a <;> cases b <;> simp_all
          obtain ⟨rfl, rfl⟩ := hab'
          clear hab
          obtain ⟨a2, ha2⟩ : ∃ a, hasF U.fs (dir p) = a := ⟨_, rfl⟩
          obtain ⟨b2, hb2⟩ : ∃ b, hasD U.ds (dir p) = b := ⟨_, rfl⟩
          have HA2 : Hid (∀ W : World, Below w3.heap.size w3 W → Calls Tryz.prog 58 #[.pointer (some ⟨c, 0, none⟩), .string (bs (dir p))] W fun e w' => e = .returned (.agg #[.bool a2, .bool b2]) ∧ Below W.heap.size W w') := X3.out.1.asks (dir p) (lk_dir HP.out.1) ha2 hb2
          have AB2 : Hid (hasF U.fs (dir p) = a2 ∧ hasD U.ds (dir p) = b2) := ⟨ha2, hb2⟩
          have hq2 : ∀ W, (binOp .neq 95 (.agg #[.bool a2, .bool b2]) (.agg #[.bool false, .bool true])).run Tryz.prog W = .ok (.bool (a2 || !b2)) W := fun W => by
            have := neq_there a2 b2 false true W
            rw [this]; cases a2 <;> cases b2 <;> rfl
          clear ha2 hb2
          go_wp2_with fail
          go_region_with (first | (go_at_call 25; refine (dir_any p _ HP.out.2).mono ?_; rintro e wq ⟨rfl, rfl⟩) | (go_at_call 58; refine (HA2.out _ (Below.refl _ _).drew).mono ?_; rintro e w4 ⟨rfl, hb4⟩; have X4 : Hid (LX w4 c mf md vj vt lf' U ∧ Only [c, mf, md] w w4) := ⟨X3.out.1.later (bstep (Below.refl _ _).drew hb4), X3.out.2.trans (Only.of_below (bstep (Below.refl _ _).drew hb4) _)⟩; obtain ⟨y0, y1, y2, y3, -⟩ := X4.out.1.ev.cells; clear hb4))
          all_goals
            clear HA2 hq2 x0 x1 x2 x3
            cases hab2 : (a2 || !b2) with
            | true =>
              obtain ⟨rfl, rfl⟩ := NO.out (by
                have h1 := AB2.out.1
                have h2 := AB2.out.2
                cases b2 with
                | false => unfold mkB; rw [h2]; simp
                | true =>
                  have ha : a2 = true := by cases a2 <;> simp_all
                  rw [ha] at h1
                  obtain ⟨f, hf, e⟩ := hasF_iff.1 h1
                  have hn := X4.out.1.ok.no f hf
                  rcases hasD_iff.1 h2 with e0 | e0
                  · exact absurd (e.trans e0) (fileE_path (X4.out.1.ok.fe f hf)).1
                  · exact absurd (e ▸ e0) hn)
              go_wp2_with fail
              go_ret
              exact ⟨rfl, LX.fin HFL.out.1 HFL.out.2 X4.out.1 X4.out.2⟩
            | false =>
              have hb2 : b2 = true := by cases a2 <;> cases b2 <;> simp_all
              have hmk : mkB U p = true := by
                have h1 := AB.out.1
                have h2 := AB.out.2
                have h3 := AB2.out.2
                have h4 := OK.out
                unfold mkB
                rw [h1, h2, h3, h4, hb2]
                rfl
              have ed : i = 0 ∧ r = { U with ds := ins p U.ds } := by
                have := ER.out
                unfold mkG at this
                rw [if_pos hmk] at this
                injection this with h1 h2
                exact ⟨h2, h1⟩
              obtain ⟨rfl, rfl⟩ := ed
              have HM : Hid (mkB U p = true) := hmk
              clear hab2 hb2 hmk
              go_wp2_with fail
              refine (addDir_any X4.out.1 p HM.out HU.out).mono ?_
              rintro e w5 ⟨rfl, h5, o5⟩
              have X5 : Hid (LX w5 c mf md vj vt lf' { U with ds := ins p U.ds } ∧ Only [c, mf, md] w w5) := ⟨h5, X4.out.2.trans (only_m o5)⟩
              clear h5 o5
              go_wp2_with fail
              go_ret
              exact ⟨rfl, LX.fin HFL.out.1 HFL.out.2 X5.out.1 X5.out.2⟩
end Go.Proofs.YtlkkmcibjhoneaaGreatDoor

namespace Go.Proofs.YtlkkmcibjhoneaaGreatDoor
open Go.RowKit Go.Maps

theorem row_empty5 (w : World) : (w.alloc (.cells #[] 5)).ownsRow w.heap.size 5 1 (.slice (some ⟨w.heap.size, 0, none⟩) 0 0) 0 [] :=
  ⟨by simp, .inr ⟨w.heap.size, 0, #[], rfl, Nat.le_refl _, heap_alloc_new w _, Nat.le_refl _, by unfold maxLen; omega, by simp, by simp⟩⟩
set_option maxRecDepth 100000 in
set_option maxHeartbeats 1000000 in
theorem cloneB_any {w : World} {v : Value} {l : List UInt8} (h : BS w v l) (hl : l.length ≤ 100000000) :
    Calls Tryz.prog 50 #[v] w fun e w' => ∃ v', e = .returned v' ∧ OwnB w.heap.size w' v' l ∧ Below w.heap.size w w' := by
  have H : Hid (BS w v l ∧ l.length ≤ 100000000) := ⟨h, hl⟩
  have q : ∀ (w : World) (a : Option Addr) (n c n' c' : Nat), (binOp .eql 32 (.slice a n c) (.slice none n' c')).run Tryz.prog w = .ok (.bool a.isNone) w := fun w a n c n' c' => Lib.run_eql_slice_nil w _ _ a n c n' c' und32
  obtain ⟨a, c, hvv⟩ : ∃ a c, v = .slice a l.length c := by
    rcases h with ⟨⟨a, c, rfl⟩, rfl⟩ | ⟨g, off, c, rfl, _⟩
    · exact ⟨a, c, rfl⟩
    · exact ⟨_, c, rfl⟩
  cases a with
  | none =>
    obtain rfl : l = [] := by
      rcases h with ⟨_, e⟩ | ⟨g, off, c', e, _⟩
      · exact e
      · rw [e] at hvv; cases hvv
    subst hvv
    clear h hl H
    go_enter Tryz.func50, Tryz.ntmps50
    go_wp2_with fail
    go_ret
    exact ⟨_, rfl, OwnB.nil _ _, Below.refl _ _⟩
  | some a =>
    obtain ⟨n, hn⟩ : ∃ n, l.length = n := ⟨_, rfl⟩
    have HN : Hid (l.length = n) := hn
    rw [hn] at hvv
    subst hvv
    clear h hl hn
    go_enter Tryz.func50, Tryz.ntmps50
    go_wp2_with (first | (at_builtin; refine app_bytes (base := w.heap.size) (l := []) (k := l) (row_empty5 w) ((H.out.1.later (balloc _ _)).src und32) (by have := H.out.2; simp; omega) (by simp) rfl (.tmp 5) (.tmp 6) rfl rfl rfl ?_; intro v' w' h1 h2 h3))
    go_ret
    refine ⟨v', rfl, h1, ?_⟩
    exact ((Below.refl _ _).alloc (Nat.le_refl _) _).grown h2 (by simp) (fun k hk => by simp [Value.ownBlock] at hk; omega)
section
variable {w w' : World} {c mf md : Nat} {vj vt : Value} {lf : Int} {T : TT} {F : Nat → Prop}
theorem LT.stay (h : LT w F c T) (hs : w.heap.size ≤ w'.heap.size) (hk : ∀ k, F k → w'.heap[k]? = w.heap[k]?) (hev : Ev w') : LT w' F c T := by
  obtain ⟨mf, md, vj, vt, lf, h1, h2, h3⟩ := h
  exact ⟨mf, md, vj, vt, lf, h1.stay (fun k hb => hk k (h2 k hb)) hev, h2, fun k hk => Nat.lt_of_lt_of_le (h3 k hk) hs⟩
theorem LT.wider {F' : Nat → Prop} (h : LT w F c T) (hF : ∀ k, F k → F' k) (hl : ∀ k, F' k → k < w.heap.size) : LT w F' c T := by
  obtain ⟨mf, md, vj, vt, lf, h1, h2, h3⟩ := h
  exact ⟨mf, md, vj, vt, lf, h1, fun k hk => hF k (h2 k hk), hl⟩
end
set_option maxRecDepth 100000 in
set_option maxHeartbeats 4000000 in
theorem journal_any {w : World} {F : Nat → Prop} {c : Nat} {T : TT} (h : LT w F c T) (hz : TSz 4000000 T) :
    Calls Tryz.prog 18 #[.pointer (some ⟨c, 0, none⟩)] w fun e w' => ∃ v, e = .returned v ∧ OwnB w.heap.size w' v T.jl ∧ Below w.heap.size w w' := by
  obtain ⟨mf, md, vj, vt, lf, h, hF, hl⟩ := h
  obtain ⟨c0, c1, c2, -⟩ := h.cells
  have HC : Hid (Calls Tryz.prog 50 #[vj] w fun e w' => ∃ v', e = .returned v' ∧ OwnB w.heap.size w' v' T.jl ∧ Below w.heap.size w w') := cloneB_any h.jo.bs (by have := hz.nj; omega)
  clear h hF hl hz c0 c1
  go_enter Tryz.func18, Tryz.ntmps18
  go_wp2_with fail
  refine HC.out.mono ?_
  rintro e w1 ⟨v, rfl, h1, h2⟩
  go_wp2_with fail
  go_ret
  exact ⟨v, rfl, h1, h2⟩
set_option maxRecDepth 100000 in
set_option maxHeartbeats 4000000 in
theorem steps_any {w : World} {F : Nat → Prop} {c : Nat} {T : TT} (h : LT w F c T) :
    Calls Tryz.prog 12 #[.pointer (some ⟨c, 0, none⟩)] w fun e w' => e = .returned (.int .i64 T.st) ∧ Below w.heap.size w w' := by
  obtain ⟨mf, md, vj, vt, lf, h, hF, hl⟩ := h
  obtain ⟨c0, c1, c2, c3, -⟩ := h.cells
  clear h hF hl c0 c1 c2
  go_enter Tryz.func12, Tryz.ntmps12
  go_wp2_with fail
  go_ret
  exact ⟨rfl, Below.refl _ _⟩
set_option maxRecDepth 100000 in
set_option maxHeartbeats 4000000 in
theorem lstop_any {w : World} {F : Nat → Prop} {c : Nat} {T : TT} (h : LT w F c T) (n : Int) (h0 : -9223372036854775808 ≤ n) (h1 : n ≤ 9223372036854775807) :
    Calls Tryz.prog 10 #[.pointer (some ⟨c, 0, none⟩), .int .i64 n] w fun e w' => e = .returned (.tuple #[]) ∧ LT w' (nwF F w w') c (T.stop n) ∧ OnlyP F w w' := by
  obtain ⟨mf, md, vj, vt, lf, h, hF, hl⟩ := h
  obtain ⟨c0, c1, c2, c3, c4, c5, c6⟩ := h.cells
  have f4 := h.soft 4
  have HFL : Hid ((∀ k, LB c mf md vj vt k → F k) ∧ (∀ k, F k → k < w.heap.size)) := ⟨hF, hl⟩
  have H : Hid (LX w c mf md vj vt lf T) := h
  have HN : Hid (-9223372036854775808 ≤ n ∧ n ≤ 9223372036854775807) := ⟨h0, h1⟩
  obtain ⟨R, hR⟩ : ∃ R, T.stop n = R := ⟨_, rfl⟩
  rw [hR]
  have HR : Hid (T.stop n = R) := hR
  have L4 := h.lc.set4 (st' := n)
  have L4' : Hid (LC (w.setCell ⟨c, 4, none⟩ (.int .i64 n)) c (.map (some mf)) (.map (some md)) vj T.st n T.dn vt) := L4
  clear h hF hl h0 h1 hR c0 c1 c2 c3 c6 L4
  cases hd : T.dn with
  | true =>
    rw [hd] at c5
    go_enter Tryz.func10, Tryz.ntmps10
    go_wp2_with fail
    refine ⟨rfl, _, results_none rfl _ _ _, rfl, ?_⟩
    have e : R = T := by rw [← HR.out]; unfold TT.stop; rw [if_pos hd]
    rw [e]
    exact LX.fin HFL.out.1 HFL.out.2 H.out (Only.refl _ _)
  | false =>
    rw [hd] at c5
    go_enter Tryz.func10, Tryz.ntmps10
    go_wp2_with fail
    refine ⟨rfl, _, results_none rfl _ _ _, rfl, ?_⟩
    have hok := H.out.ok.stop n
    rw [← HR.out]
    unfold TT.stop at hok ⊢
    rw [if_neg (by simp [hd])] at hok ⊢
    refine LX.fin HFL.out.1 HFL.out.2 (H.out.put (lf' := n) (Only.set _ _ _ _) ?_ rfl rfl rfl rfl ⟨HN.out.1, HN.out.2, fun e => ?_, fun _ => ?_⟩ hok) (only_c (Only.set _ _ _ _))
    · have := L4'.out
      unfold LC at this
      rw [this]
    · exact absurd (hd.symm.trans e) (by decide)
    · show n < 1 ∧ (if 1 ≤ n then n else 0) = 0 ∨ 1 ≤ n ∧ (if 1 ≤ n then n else 0) = n
      by_cases h : 1 ≤ n
      · exact .inr ⟨h, if_pos h⟩
      · exact .inl ⟨by omega, if_neg h⟩
end Go.Proofs.YtlkkmcibjhoneaaGreatDoor
