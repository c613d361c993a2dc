/-
  The landed tree: Delete.
  The landed tree: Rmdir.
-/
import Derived.Test.YtlkkmcibjhoneaaGreatDoorJNh
namespace Go.Proofs.YtlkkmcibjhoneaaGreatDoor
open Go.RowKit Go.Maps

set_option maxRecDepth 100000 in
set_option maxHeartbeats 16000000 in
theorem delete_any {w : World} {F : Nat → Prop} {c : Nat} {T : TT} (h : LT w F c T) (hz : TSz 4000000 T) (p : List UInt8) (hp : p.length ≤ 4000000) :
    Calls Tryz.prog 29 #[.pointer (some ⟨c, 0, none⟩), .string (bs p)] w (StP LT w F c (T.dl p)) := by
  obtain ⟨mf, md, vj, vt, lf, h, hF, hl⟩ := h
  have HFL : Hid ((∀ k, LB c mf md vj vt k → F k) ∧ (∀ k, F k → k < w.heap.size)) := ⟨hF, hl⟩
  have HS : Hid (∀ W, LX W c mf md vj vt lf T → Calls Tryz.prog 51 #[.pointer (some ⟨c, 0, none⟩)] W fun e w' => e = .returned (.bool (!(T.cnt []).2)) ∧ StX W c mf md vj vt (T.cnt []).1 w') := fun W hW => stops_any hW hz.ns
  obtain ⟨R, hR⟩ : ∃ R, T.dl p = R := ⟨_, rfl⟩
  obtain ⟨U, hU⟩ : ∃ U, (T.cnt []).1 = U := ⟨_, rfl⟩
  have HU : Hid (U.fs.length + U.ds.length ≤ 100000000) := by rw [← hU, (cnt_same T).1, (cnt_same T).2]; have := hz.nf; have := hz.nd; show T.fs.length + T.ds.length ≤ 100000000; omega
  rw [hU] at HS
  rw [hR]
  have e1 : (T.cnt []).2 = false → R = (U, 15) := fun e => by rw [← hR, ← hU]; exact step_not e
  have e2 : (T.cnt []).2 = true → R = dlG p U := fun e => by rw [← hR, ← hU]; exact step_do e
  have HR : Hid (((T.cnt []).2 = false → R = (U, 15)) ∧ ((T.cnt []).2 = true → R = dlG p U)) := ⟨e1, e2⟩
  obtain ⟨r, i⟩ := R
  have H : Hid (LX w c mf md vj vt lf T) := h
  have HP : Hid (Lk p ∧ p.length ≤ 9223372036854775807) := hf_dir hp
  clear h hF hl hR hU hz e1 e2
  go_enter Tryz.func29, Tryz.ntmps29
  go_wp2_with fail
  refine (HS.out _ H.out).mono ?_
  rintro e w1 ⟨rfl, lf', hx1, ho1⟩
  have X1 : Hid (LX w1 c mf md vj vt lf' U ∧ Only [c, mf, md] w w1) := ⟨hx1, only_c ho1⟩
  clear hx1 ho1 HS
  cases hc : (T.cnt []).2 with
  | false =>
    have er := HR.out.1 hc
    injection er with er1 er2
    subst er1 er2
    go_wp2_with fail
    go_ret
    exact ⟨rfl, LX.fin HFL.out.1 HFL.out.2 X1.out.1 X1.out.2⟩
  | true =>
    have ER : Hid ((r, i) = dlG p U) := HR.out.2 hc
    clear HR hc
    obtain ⟨z0, z1, z2, z3, z4, z5⟩ := X1.out.1.ev.cells
    obtain ⟨a, ha⟩ : ∃ a, hasF U.fs p = a := ⟨_, rfl⟩
    obtain ⟨b, hb⟩ : ∃ b, hasD U.ds p = b := ⟨_, rfl⟩
    have HA : Hid (∀ W : World, Below w1.heap.size w1 W → Calls Tryz.prog 58 #[.pointer (some ⟨c, 0, none⟩), .string (bs p)] W fun e w' => e = .returned (.agg #[.bool a, .bool b]) ∧ Below W.heap.size W w') := X1.out.1.asks p HP.out.1 ha hb
    have AB : Hid (hasF U.fs p = a ∧ hasD U.ds p = b) := ⟨ha, hb⟩
    have hq : ∀ W, (binOp .neq 95 (.agg #[.bool a, .bool b]) (.agg #[.bool true, .bool false])).run Tryz.prog W = .ok (.bool (!a || b)) W := fun W => by
      have := neq_there a b true false W
      rw [this]; cases a <;> cases b <;> rfl
    clear ha hb
    go_wp2_with fail
    go_region_with (go_at_call 58; refine (HA.out _ (Below.refl _ _).drew).mono ?_; rintro e w2 ⟨rfl, hb4⟩; have X2 : Hid (LX w2 c mf md vj vt lf' U ∧ Only [c, mf, md] w w2) := ⟨X1.out.1.later (bstep (Below.refl _ _).drew hb4), X1.out.2.trans (Only.of_below (bstep (Below.refl _ _).drew hb4) _)⟩; obtain ⟨X20, X21, X22, X23, X24, X25⟩ := X2.out.1.ev.cells; clear hb4)
    all_goals
      clear HA hq z0 z1 z2 z3 z4 z5
      have hab : (!a || b) = !a := by
        cases a with
        | false => rfl
        | true =>
          cases b with
          | false => rfl
          | true =>
            exfalso
            obtain ⟨f, hf, e⟩ := hasF_iff.1 AB.out.1
            rcases hasD_iff.1 AB.out.2 with e0 | e0
            · exact absurd (e.trans e0) (fileE_path (X2.out.1.ok.fe f hf)).1
            · exact absurd (e ▸ e0) (X2.out.1.ok.no f hf)
      cases hv : (!a || b) with
      | true =>
        have ha0 : a = false := by rw [hab] at hv; simpa using hv
        subst ha0
        clear hv
        have ed : i = 16 ∧ r = U := by
          have := ER.out
          have h1 := AB.out.1
          unfold dlG at this
          rw [if_neg (by simp [h1])] at this
          injection this with h1 h2
          exact ⟨h2, h1⟩
        obtain ⟨rfl, rfl⟩ := ed
        clear hab
        go_wp2_with fail
        go_ret
        exact ⟨rfl, LX.fin HFL.out.1 HFL.out.2 X2.out.1 X2.out.2⟩
      | false =>
        have ha0 : a = true := by rw [hab] at hv; simpa using hv
        subst ha0
        have hb0 : b = false := by simpa using hv
        subst hb0
        clear hv
        have ed : i = 0 ∧ r = { U with fs := U.fs.filter (fun f => !(f.path == p)) } := by
          have := ER.out
          have h1 := AB.out.1
          unfold dlG at this
          rw [if_pos h1] at this
          injection this with h1 h2
          exact ⟨h2, h1⟩
        obtain ⟨rfl, rfl⟩ := ed
        have hf1 := AB.out.1
        have hdd : hasD U.ds (dir p) = true := by
          obtain ⟨f, hf, e⟩ := hasF_iff.1 hf1
          rw [← e]; exact X2.out.1.ok.fd f hf
        have hok : TOk ({ U with fs := U.fs.filter (fun f => !(f.path == p)) } : TT) := by
          have := X2.out.1.ok.dlG p
          unfold dlG at this
          rw [if_pos hf1] at this
          exact this
        obtain ⟨w3, r3, m3, o3, s3⟩ := X2.out.1.fl.del HP.out.1 0
        have q3 : (fF U.fs p).isSome = true := by rw [fF_has]; exact hf1
        rw [q3] at m3
        obtain ⟨k0, k1, -⟩ := X2.out.1.cells
        have y1 : w3.cell? ⟨c, 1, none⟩ = some (.map (some md)) := (cell_stay (o3.block c X2.out.1.clt (by simpa using X2.out.1.cm.1)) 1).trans k1
        have d3 : MP cI w3.drew md (dF U.fs U.ds) (U.ds.length + 1) := (X2.out.1.dr.block (o3.block md X2.out.1.dr.lt (by simpa using (Ne.symm X2.out.1.nm)))).later (Below.refl _ _).drew
        obtain ⟨n, hn⟩ : ∃ n, cin U.fs U.ds (dir p) = n := ⟨_, rfl⟩
        have hle := cin_le U.fs U.ds (dir p)
        have gd : dF U.fs U.ds (dir p) = some (n : Int) := by unfold dF; rw [if_pos hdd, hn]
        have l4 := d3.look (lk_dir HP.out.1) false
        simp only [gd, at_, Option.getD_some] at l4
        have hl4 : (Instr.lookup 71 (.map (some md)) (.string (bs (dir p))) false).run Tryz.prog w3.drew = .ok (.int .i64 n) w3.drew := l4
        obtain ⟨w4, r4, m4, o4, s4⟩ := d3.store (lk_dir HP.out.1) (by have := HU.out; omega) ((n : Int) - 1)
        simp only [gd, Option.isSome_some, if_true] at m4
        have hr4 : (Instr.mapUpdate 71 (.map (some md)) (.string (bs (dir p))) (.int .i64 (IntKind.i64.wrap ((n : Int) - 1)))).run Tryz.prog w3.drew = .ok () w4 := by
          rw [wrapIn (by omega) (by have := HU.out; omega)]; exact r4
        have hr3 : (Builtin.delete_ #[70, 9] 0 #[.map (some mf), .string (bs p)]).run Tryz.prog w2 = .ok (.tuple #[]) w3 := r3
        have ho : Only [mf, md] w2 w4 := (o3.wide (by simp)).trans ((Only.of_below ((Below.refl w3.heap.size w3).drew) [mf, md]).trans (o4.wide (by simp)))
        have X4 : Hid (LX w4 c mf md vj vt lf' { U with fs := U.fs.filter (fun f => !(f.path == p)) } ∧ Only [c, mf, md] w w4) := by
          refine ⟨X2.out.1.maps ho ?_ ?_ rfl hok, X2.out.2.trans (only_m ho)⟩
          · have e4 : w4.heap[mf]? = w3.heap[mf]? := o4.block mf (by show mf < w3.heap.size; exact m3.lt) (by simpa using X2.out.1.nm)
            have hlen := len_del X2.out.1.ok.fu hf1
            show MP cF w4 mf (fF (U.fs.filter (fun f => !(f.path == p)))) (U.fs.filter (fun f => !(f.path == p))).length
            rw [hlen]
            exact (m3.block e4).congr (fun k _ => (fF_del U.fs p k).symm)
          · refine m4.congr (fun k _ => ?_)
            have := dF_dl X2.out.1.ok hf1 hdd k
            rw [hn] at this
            exact this
        clear hab hf1 hdd hok r3 m3 o3 s3 q3 k1 d3 hn hle gd l4 r4 m4 o4 s4 ho
        go_wp2_with fail
        refine wp_region_noPanic ?_
        go_region_with (go_at_call 25; refine (dir_any p _ HP.out.2).mono ?_; rintro e wq ⟨rfl, rfl⟩)
        all_goals
          refine NoPanic.normal ?_
          go_wp2_with fail
          go_ret
          exact ⟨rfl, LX.fin HFL.out.1 HFL.out.2 X4.out.1 X4.out.2⟩
end Go.Proofs.YtlkkmcibjhoneaaGreatDoor

namespace Go.Proofs.YtlkkmcibjhoneaaGreatDoor
open Go.RowKit Go.Maps

set_option maxRecDepth 100000 in
set_option maxHeartbeats 16000000 in
theorem rmdir_any {w : World} {F : Nat → Prop} {c : Nat} {T : TT} (h : LT w F c T) (hz : TSz 4000000 T) (p : List UInt8) (hp : p.length ≤ 4000000) :
    Calls Tryz.prog 33 #[.pointer (some ⟨c, 0, none⟩), .string (bs p)] w (StP LT w F c (T.rm p)) := by
  obtain ⟨mf, md, vj, vt, lf, h, hF, hl⟩ := h
  have HFL : Hid ((∀ k, LB c mf md vj vt k → F k) ∧ (∀ k, F k → k < w.heap.size)) := ⟨hF, hl⟩
  have HS : Hid (∀ W, LX W c mf md vj vt lf T → Calls Tryz.prog 51 #[.pointer (some ⟨c, 0, none⟩)] W fun e w' => e = .returned (.bool (!(T.cnt []).2)) ∧ StX W c mf md vj vt (T.cnt []).1 w') := fun W hW => stops_any hW hz.ns
  obtain ⟨R, hR⟩ : ∃ R, T.rm p = R := ⟨_, rfl⟩
  obtain ⟨U, hU⟩ : ∃ U, (T.cnt []).1 = U := ⟨_, rfl⟩
  have HU : Hid (U.fs.length + U.ds.length ≤ 100000000) := by rw [← hU, (cnt_same T).1, (cnt_same T).2]; have := hz.nf; have := hz.nd; show T.fs.length + T.ds.length ≤ 100000000; omega
  rw [hU] at HS
  rw [hR]
  have e1 : (T.cnt []).2 = false → R = (U, 15) := fun e => by rw [← hR, ← hU]; exact step_not e
  have e2 : (T.cnt []).2 = true → R = rmG p U := fun e => by rw [← hR, ← hU]; exact step_do e
  have HR : Hid (((T.cnt []).2 = false → R = (U, 15)) ∧ ((T.cnt []).2 = true → R = rmG p U)) := ⟨e1, e2⟩
  obtain ⟨r, i⟩ := R
  have H : Hid (LX w c mf md vj vt lf T) := h
  have HP : Hid (Lk p ∧ p.length ≤ 9223372036854775807) := hf_dir hp
  clear h hF hl hR hU hz e1 e2
  go_enter Tryz.func33, Tryz.ntmps33
  go_wp2_with fail
  refine (HS.out _ H.out).mono ?_
  rintro e w1 ⟨rfl, lf', hx1, ho1⟩
  have X1 : Hid (LX w1 c mf md vj vt lf' U ∧ Only [c, mf, md] w w1) := ⟨hx1, only_c ho1⟩
  clear hx1 ho1 HS
  cases hc : (T.cnt []).2 with
  | false =>
    have er := HR.out.1 hc
    injection er with er1 er2
    subst er1 er2
    go_wp2_with fail
    go_ret
    exact ⟨rfl, LX.fin HFL.out.1 HFL.out.2 X1.out.1 X1.out.2⟩
  | true =>
    have ER : Hid ((r, i) = rmG p U) := HR.out.2 hc
    clear HR hc
    have no : rmB U p = false → i = 16 ∧ r = U := fun e => by
      have := ER.out
      unfold rmG at this
      rw [if_neg (by simp [e])] at this
      injection this with h1 h2
      exact ⟨h2, h1⟩
    have NO : Hid (rmB U p = false → i = 16 ∧ r = U) := no
    clear no
    by_cases hp0 : p = []
    · subst hp0
      obtain ⟨rfl, rfl⟩ := NO.out (by simp [rmB])
      have hs0 : ((bs []).toList == []) = true := by rw [bs_toList]; rfl
      go_wp2_with fail
      go_ret
      exact ⟨rfl, LX.fin HFL.out.1 HFL.out.2 X1.out.1 X1.out.2⟩
    have hs0 : ((bs p).toList == []) = false := by rw [bs_toList]; simpa using hp0
    have HP0 : Hid (p ≠ []) := hp0
    obtain ⟨z0, z1, z2, z3, z4, z5⟩ := X1.out.1.ev.cells
    obtain ⟨a, ha⟩ : ∃ a, hasF U.fs p = a := ⟨_, rfl⟩
    obtain ⟨b, hb⟩ : ∃ b, hasD U.ds p = b := ⟨_, rfl⟩
    have HA : Hid (∀ W : World, Below w1.heap.size w1 W → Calls Tryz.prog 58 #[.pointer (some ⟨c, 0, none⟩), .string (bs p)] W fun e w' => e = .returned (.agg #[.bool a, .bool b]) ∧ Below W.heap.size W w') := X1.out.1.asks p HP.out.1 ha hb
    have AB : Hid (hasF U.fs p = a ∧ hasD U.ds p = b) := ⟨ha, hb⟩
    have hq : ∀ W, (binOp .neq 95 (.agg #[.bool a, .bool b]) (.agg #[.bool false, .bool true])).run Tryz.prog W = .ok (.bool (a || !b)) W := fun W => by
      have := neq_there a b false true W
      rw [this]; cases a <;> cases b <;> rfl
    clear ha hb hp0
    go_wp2_with fail
    go_region_with (go_at_call 58; refine (HA.out _ (Below.refl _ _).drew).mono ?_; rintro e w2 ⟨rfl, hb4⟩; have X2 : Hid (LX w2 c mf md vj vt lf' U ∧ Only [c, mf, md] w w2) := ⟨X1.out.1.later (bstep (Below.refl _ _).drew hb4), X1.out.2.trans (Only.of_below (bstep (Below.refl _ _).drew hb4) _)⟩; obtain ⟨X20, X21, X22, X23, X24, X25⟩ := X2.out.1.ev.cells; clear hb4)
    all_goals
      clear HA hq z0 z1 z2 z3 z4 z5
      cases hv : (a || !b) with
      | true =>
        obtain ⟨rfl, rfl⟩ := NO.out (by
          have h2 := AB.out.2
          cases b with
          | false => simp [rmB, h2]
          | true =>
            have ha : a = true := by simpa using hv
            have h1 := AB.out.1
            rw [ha] at h1
            obtain ⟨f, hf, e⟩ := hasF_iff.1 h1
            rcases hasD_iff.1 h2 with e0 | e0
            · exact absurd e0 HP0.out
            · exact absurd (e ▸ e0) (X2.out.1.ok.no f hf))
        clear hv
        go_wp2_with fail
        go_ret
        exact ⟨rfl, LX.fin HFL.out.1 HFL.out.2 X2.out.1 X2.out.2⟩
      | false =>
        have hb0 : b = true := by cases a <;> cases b <;> simp_all
        subst hb0
        have hm : p ∈ U.ds := (hasD_iff.1 AB.out.2).resolve_left HP0.out
        obtain ⟨k0, k1, -⟩ := X2.out.1.cells
        obtain ⟨m, hmc⟩ : ∃ m, cin U.fs U.ds p = m := ⟨_, rfl⟩
        have gp : dF U.fs U.ds p = some (m : Int) := by unfold dF; rw [if_pos AB.out.2, hmc]
        have lp := X2.out.1.dr.look HP.out.1 false
        simp only [gp, at_, Option.getD_some] at lp
        have hlp : (Instr.lookup 71 (.map (some md)) (.string (bs p)) false).run Tryz.prog w2 = .ok (.int .i64 m) w2 := lp
        have MC : Hid (cin U.fs U.ds p = m ∧ p ∈ U.ds) := ⟨hmc, hm⟩
        clear lp gp hmc hm hv
        by_cases h0 : m = 0
        · subst h0
          have hrm : rmB U p = true := by
            have h1 := AB.out.2
            have h2 := HP0.out
            unfold rmB
            rw [h1, cin_emp.2 MC.out.1]
            simpa using h2
          have ed : i = 0 ∧ r = { U with ds := U.ds.filter (fun d => !(d == p)) } := by
            have := ER.out
            unfold rmG at this
            rw [if_pos hrm] at this
            injection this with h1 h2
            exact ⟨h2, h1⟩
          obtain ⟨rfl, rfl⟩ := ed
          have hok : TOk ({ U with ds := U.ds.filter (fun d => !(d == p)) } : TT) := by
            have := X2.out.1.ok.rmG p
            unfold rmG at this
            rw [if_pos hrm] at this
            exact this
          have hdd := X2.out.1.ok.dd p MC.out.2
          obtain ⟨w3, r3, m3, o3, s3⟩ := X2.out.1.dr.del HP.out.1 0
          have q3 : (dF U.fs U.ds p).isSome = true := by rw [dF_has]; exact AB.out.2
          rw [q3] at m3
          have y1 : w3.cell? ⟨c, 1, none⟩ = some (.map (some md)) := (cell_stay (o3.block c X2.out.1.clt (by simpa using X2.out.1.cm.2)) 1).trans k1
          have d3 := m3.later (Below.refl w3.heap.size w3).drew
          obtain ⟨n, hn⟩ : ∃ n, cin U.fs U.ds (dir p) = n := ⟨_, rfl⟩
          have hle := cin_le U.fs U.ds (dir p)
          have gd : (if dir p = p then none else dF U.fs U.ds (dir p)) = some (n : Int) := by
            rw [if_neg (dir_ne HP0.out)]; unfold dF; rw [if_pos hdd, hn]
          have l4 := d3.look (lk_dir HP.out.1) false
          simp only [gd, at_, Option.getD_some] at l4
          have hl4 : (Instr.lookup 71 (.map (some md)) (.string (bs (dir p))) false).run Tryz.prog w3.drew = .ok (.int .i64 n) w3.drew := l4
          obtain ⟨w4, r4, m4, o4, s4⟩ := d3.store (lk_dir HP.out.1) (by have := HU.out; simp only [if_true]; omega) ((n : Int) - 1)
          simp only [gd, Option.isSome_some, if_true] at m4
          have hr4 : (Instr.mapUpdate 71 (.map (some md)) (.string (bs (dir p))) (.int .i64 (IntKind.i64.wrap ((n : Int) - 1)))).run Tryz.prog w3.drew = .ok () w4 := by
            rw [wrapIn (by omega) (by have := HU.out; omega)]; exact r4
          have hr3 : (Builtin.delete_ #[71, 9] 0 #[.map (some md), .string (bs p)]).run Tryz.prog w2 = .ok (.tuple #[]) w3 := r3
          have ho : Only [mf, md] w2 w4 := (o3.wide (by simp)).trans ((Only.of_below ((Below.refl w3.heap.size w3).drew) [mf, md]).trans (o4.wide (by simp)))
          have X4 : Hid (LX w4 c mf md vj vt lf' { U with ds := U.ds.filter (fun d => !(d == p)) } ∧ Only [c, mf, md] w w4) := by
            refine ⟨X2.out.1.maps ho ?_ ?_ rfl hok, X2.out.2.trans (only_m ho)⟩
            · have e3 := o3.block mf X2.out.1.fl.lt (by simpa using X2.out.1.nm)
              have e4 : w4.heap[mf]? = w3.heap[mf]? := o4.block mf (by show mf < w3.heap.size; rw [s3]; exact X2.out.1.fl.lt) (by simpa using X2.out.1.nm)
              exact X2.out.1.fl.block (e4.trans e3)
            · have hlen := len_rm X2.out.1.ok.du MC.out.2
              show MP cI w4 md (dF U.fs (U.ds.filter (fun d => !(d == p)))) ((U.ds.filter (fun d => !(d == p))).length + 1)
              rw [show (U.ds.filter (fun d => !(d == p))).length + 1 = U.ds.length + 1 - 1 by omega]
              refine m4.congr (fun k _ => ?_)
              have := dF_rm X2.out.1.ok MC.out.2 k
              rw [hn] at this
              exact this
          clear hrm hok hdd r3 m3 o3 s3 q3 d3 hn hle gd l4 r4 m4 o4 s4 ho
          go_wp2_with fail
          refine wp_region_noPanic ?_
          go_region_with (go_at_call 25; refine (dir_any p _ HP.out.2).mono ?_; rintro e wq ⟨rfl, rfl⟩)
          all_goals
            refine NoPanic.normal ?_
            go_wp2_with fail
            go_ret
            exact ⟨rfl, LX.fin HFL.out.1 HFL.out.2 X4.out.1 X4.out.2⟩
        · have hpos : decide ((0 : Int) < (m : Int)) = true := by simp; omega
          have hpos2 : (0 : Int) < (m : Int) := by omega
          obtain ⟨rfl, rfl⟩ := NO.out (by
            have h1 := MC.out.1
            have : emp U p = false := by
              rw [Bool.eq_false_iff]
              intro e
              rw [cin_emp, h1] at e
              exact h0 e
            simp [rmB, this])
          clear h0
          go_wp2_with fail
          go_ret
          exact ⟨rfl, LX.fin HFL.out.1 HFL.out.2 X2.out.1 X2.out.2⟩
end Go.Proofs.YtlkkmcibjhoneaaGreatDoor
