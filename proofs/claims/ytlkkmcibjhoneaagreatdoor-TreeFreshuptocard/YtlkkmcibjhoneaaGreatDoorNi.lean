/-
  The landed tree: Append, Clear.
-/
import Derived.Test.YtlkkmcibjhoneaaGreatDoorJOb
namespace Go.Proofs.YtlkkmcibjhoneaaGreatDoor
open Go.RowKit Go.Maps

theorem cnt_b (T : TT) (b : List UInt8) : (T.cnt b).2 = (T.cnt []).2 ∧ (T.cnt b).1 = if (T.cnt []).2 = false ∧ T.dn = false then { (T.cnt []).1 with tn := b } else (T.cnt []).1 := by
  unfold TT.cnt
  split
  · simp
  · split
    · simp
    · split
      · rename_i h; simp [h]
      · rename_i h; simp [h]
theorem own5_lt {base : Nat} {w : World} {v : Value} {l : List UInt8} (h : OwnB base w v l) {k : Nat} (hk : v.ownBlock = some k) : k < w.heap.size := by
  obtain ⟨a, _, e⟩ := ownB_cells h hk; exact e
section
variable {w w3 : World} {c mf md : Nat} {vj vt vn : Value} {lf : Int} {T : TT}
/-- the journal anew, and its place written -/
theorem LX.putJ (h : LX w c mf md vj vt lf T) {l : List UInt8} (hg : w.grownBy w3 vj.ownBlock) (ho : OwnB 0 w3 vn l) (hv : vn.ownBlock = vj.ownBlock ∨ vn.ownBlock = none ∨ ∃ k, vn.ownBlock = some k ∧ w.heap.size ≤ k) :
    LX (w3.setCell ⟨c, 2, none⟩ vn) c mf md vn vt lf { T with jl := l } ∧ (∀ k, k < w.heap.size → k ≠ c → vj.ownBlock ≠ some k → (w3.setCell ⟨c, 2, none⟩ vn).heap[k]? = w.heap[k]?) := by
  have hs : ∀ k, LB c mf md vj vt k → vj.ownBlock ≠ some k → w3.heap[k]? = w.heap[k]? := fun k hk hn => hg.block k (h.blt k hk) (fun e => hn e.symm)
  have ⟨n1, n2⟩ := h.cm
  have hcj : vj.ownBlock ≠ some c := fun e => (h.row_ne h.jo c e).1 rfl
  have hc3 : w3.heap[c]? = _ := (hs c (.inl rfl) hcj).trans h.blk
  have hne : ∀ k, k ≠ c → (w3.setCell ⟨c, 2, none⟩ vn).heap[k]? = w3.heap[k]? := fun k hk => set_other w3 c 2 vn hk
  have hall : ∀ k, LB c mf md vj vt k → vj.ownBlock ≠ some k → k ≠ c → (w3.setCell ⟨c, 2, none⟩ vn).heap[k]? = w.heap[k]? := fun k hk h1 h2 => (hne k h2).trans (hs k hk h1)
  have hvc : ∀ k, vn.ownBlock = some k → k ≠ c := by
    rintro k hk rfl
    rcases hv with e | e | ⟨k', e, hk'⟩
    · rw [e] at hk; exact hcj hk
    · rw [e] at hk; cases hk
    · rw [e] at hk; cases hk; have := h.clt; omega
  have hfr : ∀ k, k < w.heap.size → k ≠ c → vj.ownBlock ≠ some k → (w3.setCell ⟨c, 2, none⟩ vn).heap[k]? = w.heap[k]? := fun k hk h1 h2 => (hne k h1).trans (hg.block k hk (fun e => h2 e.symm))
  refine ⟨⟨?_, h.fl.block (hall mf (.inr (.inl rfl)) (fun e => (h.row_ne h.jo mf e).2.1 rfl) (Ne.symm n1)), h.dr.block (hall md (.inr (.inr (.inl rfl))) (fun e => (h.row_ne h.jo md e).2.2 rfl) (Ne.symm n2)), row_stay ho (fun k hk => hne k (hvc k hk)), row_stay h.ton (fun k hk => hall k (.inr (.inr (.inr (.inr hk)))) (fun e => h.nj k e hk) (h.row_ne h.ton k hk).1), h.rel, ⟨h.low.1, h.low.2.1, h.low.2.2.1, ?_⟩, h.nm, ?_, ⟨h.ok.fe, h.ok.fu, h.ok.du, h.ok.de, h.ok.fd, h.ok.dd, h.ok.no, h.ok.sp0, h.ok.dn1, h.ok.tn0⟩, ?_⟩, hfr⟩
  · rw [heap_setCell _ _ _ _ hc3]; simp
  · intro k hk
    rcases hv with e | e | ⟨k', e, hk'⟩
    · rw [e] at hk; exact h.low.2.2.2 k hk
    · rw [e] at hk; cases hk
    · rw [e] at hk; cases hk; have := h.ev.big; omega
  · intro k hk hk2
    rcases hv with e | e | ⟨k', e, hk'⟩
    · rw [e] at hk; exact h.nj k hk hk2
    · rw [e] at hk; cases hk
    · rw [e] at hk; cases hk; have := own5_lt h.ton hk2; omega
  · have hb := h.ev.big
    have a0 : ∀ i, i < 4 → (w3.setCell ⟨c, 2, none⟩ vn).heap[i]? = w.heap[i]? := fun i hi => hfr i (by omega) (by have := h.low.1; omega) (fun e => by have := h.low.2.2.2 i e; omega)
    exact ⟨(a0 0 (by omega)).trans h.ev.n, (a0 1 (by omega)).trans h.ev.d, (a0 2 (by omega)).trans h.ev.f, by rw [size_set]; exact Nat.le_trans hb hg.size⟩
/-- what a stopped Append leaves -/
theorem LX.putT (h : LX w c mf md vj vt lf T) {l : List UInt8} (hb : Below w.heap.size w w3) (ho : OwnB w.heap.size w3 vn l) (hdn : T.dn = true) :
    LX (w3.setCell ⟨c, 6, none⟩ vn) c mf md vj vn lf { T with tn := l } ∧ Only [c] w (w3.setCell ⟨c, 6, none⟩ vn) := by
  have h3 := h.later hb
  have ⟨n1, n2⟩ := h.cm
  have hon : Only [c] w (w3.setCell ⟨c, 6, none⟩ vn) := (Only.of_below hb _).trans (Only.set _ _ _ _)
  have hne : ∀ k, k ≠ c → (w3.setCell ⟨c, 6, none⟩ vn).heap[k]? = w3.heap[k]? := fun k hk => set_other w3 c 6 vn hk
  have hvk : ∀ k, vn.ownBlock = some k → w.heap.size ≤ k := fun k hk => (ho.lt hk).1
  refine ⟨⟨?_, h3.fl.block (hne mf (Ne.symm n1)), h3.dr.block (hne md (Ne.symm n2)), row_stay h3.jo (fun k hk => hne k (h3.row_ne h3.jo k hk).1), row_stay (ho.mono (Nat.zero_le _)) (fun k hk => hne k (by have := hvk k hk; have := h.clt; omega)), h.rel, h.low, h.nm, fun k hk hk2 => ?_, ⟨h.ok.fe, h.ok.fu, h.ok.du, h.ok.de, h.ok.fd, h.ok.dd, h.ok.no, h.ok.sp0, h.ok.dn1, fun e => ?_⟩, h.ev.only hon (by simpa using h.low.1)⟩, hon⟩
  · rw [heap_setCell _ _ _ _ h3.blk]; simp
  · have := hvk k hk2
    have := own5_lt h.jo hk
    omega
  · exact absurd (hdn.symm.trans e) (by decide)
end
set_option maxRecDepth 100000 in
set_option maxHeartbeats 8000000 in
theorem clear_any {w : World} {F : Nat → Prop} {c : Nat} {T : TT} (h : LT w F c T) (hz : TSz 4000000 T) :
    Calls Tryz.prog 19 #[.pointer (some ⟨c, 0, none⟩)] w (StP LT w F c T.cl) := by
  obtain ⟨mf, md, vj, vt, lf, h, hF, hl⟩ := h
  have HFL : Hid ((∀ k, LB c mf md vj vt k → F k) ∧ (∀ k, F k → k < w.heap.size)) := ⟨hF, hl⟩
  have HS : Hid (Calls Tryz.prog 51 #[.pointer (some ⟨c, 0, none⟩)] w fun e w' => e = .returned (.bool (!(T.cnt []).2)) ∧ StX w c mf md vj vt (T.cnt []).1 w') := stops_any h hz.ns
  obtain ⟨R, hR⟩ : ∃ R, T.cl = R := ⟨_, rfl⟩
  obtain ⟨U, hU⟩ : ∃ U, (T.cnt []).1 = U := ⟨_, rfl⟩
  rw [hU] at HS
  rw [hR]
  have HR : Hid (((T.cnt []).2 = false → R = (U, 15)) ∧ ((T.cnt []).2 = true → R = clG U)) := ⟨fun e => by rw [← hR, ← hU]; exact step_not e, fun e => by rw [← hR, ← hU]; exact step_do e⟩
  obtain ⟨r, i⟩ := R
  clear h hF hl hR hU hz
  go_enter Tryz.func19, Tryz.ntmps19
  go_wp2_with fail
  refine HS.out.mono ?_
  rintro e w1 ⟨rfl, lf', hx1, ho1⟩
  have X1 : Hid (LX w1 c mf md vj vt lf' U ∧ Only [c] w w1) := ⟨hx1, ho1⟩
  obtain ⟨c0, c1, c2, -⟩ := hx1.cells
  have f2 := hx1.soft 2
  clear hx1 ho1 HS c0 c1
  cases hc : (T.cnt []).2 with
  | false =>
    have er := HR.out.1 hc
    injection er with er1 er2
    subst er1 er2
    go_wp2_with fail
    go_ret
    exact ⟨rfl, LX.fin HFL.out.1 HFL.out.2 X1.out.1 (only_c X1.out.2)⟩
  | true =>
    have er := HR.out.2 hc
    unfold clG at er
    injection er with er1 er2
    subst er1 er2
    go_wp2_with fail
    go_ret
    obtain ⟨hx, hfr⟩ := X1.out.1.putJ (w3 := w1) (vn := .slice none 0 0) (l := []) ⟨rfl, rfl, rfl, Nat.le_refl _, fun _ _ _ => rfl⟩ (OwnB.nil _ _) (.inr (.inl rfl))
    have hsz : (w1.setCell ⟨c, 2, none⟩ (.slice none 0 0)).heap.size = w1.heap.size := size_set _ _ _ _
    refine ⟨rfl, ⟨mf, md, _, vt, lf', hx, ?_, ?_⟩, ?_⟩
    · rintro k (e | e | e | e | e)
      · exact .inl (HFL.out.1 k (.inl e))
      · exact .inl (HFL.out.1 k (.inr (.inl e)))
      · exact .inl (HFL.out.1 k (.inr (.inr (.inl e))))
      · cases e
      · exact .inl (HFL.out.1 k (.inr (.inr (.inr (.inr e)))))
    · exact lt_nw HFL.out.2 (by rw [hsz]; exact X1.out.2.size)
    · have o1 : OnlyP F w w1 := (LX.fin HFL.out.1 HFL.out.2 X1.out.1 (only_c X1.out.2)).2
      exact o1.trans (OnlyP.set (F := F) _ _ _ _ (HFL.out.1 c (.inl rfl))) (fun _ _ h => h)
set_option maxRecDepth 100000 in
set_option maxHeartbeats 8000000 in
theorem append_any {w : World} {F : Nat → Prop} {c : Nat} {T : TT} (h : LT w F c T) (hz : TSz 4000000 T) {v : Value} {b : List UInt8} (hv : BS w v b) (hvF : b ≠ [] → ∀ k, v.ownBlock = some k → ¬ F k) (hb : b.length ≤ 4000000) :
    Calls Tryz.prog 20 #[.pointer (some ⟨c, 0, none⟩), v] w (StP LT w F c (T.ap b)) := by
  obtain ⟨mf, md, vj, vt, lf, h, hF, hl⟩ := h
  have HFL : Hid ((∀ k, LB c mf md vj vt k → F k) ∧ (∀ k, F k → k < w.heap.size)) := ⟨hF, hl⟩
  have HS : Hid (Calls Tryz.prog 51 #[.pointer (some ⟨c, 0, none⟩)] w fun e w' => e = .returned (.bool (!(T.cnt []).2)) ∧ StX w c mf md vj vt (T.cnt []).1 w') := stops_any h hz.ns
  obtain ⟨R, hR⟩ : ∃ R, T.ap b = R := ⟨_, rfl⟩
  obtain ⟨U, hU⟩ : ∃ U, (T.cnt []).1 = U := ⟨_, rfl⟩
  obtain ⟨k1, k2⟩ := cnt_b T b
  rw [hU] at HS k2
  rw [hR]
  have hud : (T.cnt []).2 = false → U.dn = true := fun e => by
    rw [← hU]
    unfold TT.cnt at e ⊢
    split at e
    · cases e
    · rename_i h1
      rw [if_neg h1]
      split at e
      · cases e
      · rename_i h2
        rw [if_neg h2]
        split
        · rename_i h3; simpa using h3
        · rfl
  have hjl : U.jl = T.jl := by rw [← hU]; exact (cnt_keep T []).1
  have HR : Hid (((T.cnt []).2 = false → R = (if T.dn = false then { U with tn := b } else U, 15)) ∧ ((T.cnt []).2 = true → R = ({ U with jl := T.jl ++ b }, 0)) ∧ ((T.cnt []).2 = false → U.dn = true) ∧ T.jl.length ≤ 4000000 ∧ U.jl = T.jl) := ⟨fun e => by
      rw [← hR, show T.ap b = _ from step_not (k1.trans e), k2, e]; simp, fun e => by
      rw [← hR, show T.ap b = _ from step_do (k1.trans e), k2, if_neg (by simp [e])]; unfold apG; rw [hjl], hud, hz.nj, hjl⟩
  have HV : Hid (BS w v b ∧ (b ≠ [] → ∀ k, v.ownBlock = some k → ¬ F k) ∧ b.length ≤ 4000000) := ⟨hv, hvF, hb⟩
  obtain ⟨c0', c1', c2', c3', c4', c5', -⟩ := h.cells
  obtain ⟨r, i⟩ := R
  clear h hF hl hR hU hz k1 k2 hv hvF hud hjl c0' c1' c2' c3' c4'
  go_enter Tryz.func20, Tryz.ntmps20
  go_wp2_with fail
  refine HS.out.mono ?_
  rintro e w1 ⟨rfl, lf', hx1, ho1⟩
  have o1 : OnlyP F w w1 := (LX.fin HFL.out.1 HFL.out.2 hx1 (only_c ho1)).2
  have X1 : Hid (LX w1 c mf md vj vt lf' U ∧ Only [c] w w1 ∧ OnlyP F w w1 ∧ BS w1 v b) := ⟨hx1, ho1, o1, HV.out.1.only' o1 HV.out.2.1⟩
  obtain ⟨c0, c1, c2, c3, c4, c5, c6⟩ := hx1.cells
  have f2 := hx1.soft 2
  clear hx1 ho1 HS c0 c1 c3 c4 c5 o1 c5'
  cases hc : (T.cnt []).2 with
  | true =>
    have er := HR.out.2.1 hc
    injection er with er1 er2
    subst er1 er2
    have JL : Hid (OwnB 0 w1 vj T.jl ∧ T.jl.length + b.length ≤ 140737488355328) := ⟨HR.out.2.2.2.2 ▸ X1.out.1.jo, by have := HR.out.2.2.2.1; omega⟩
    clear hc
    go_wp2_with (at_builtin; apply hold)
    unfold Hid
    refine app_bytes (base := 0) (l := T.jl) (k := b) JL.out.1 (X1.out.2.2.2.src und32) JL.out.2 (Nat.zero_le _) rfl (.tmp 18) (.tmp 19) rfl rfl rfl ?_
    intro vn w3 g1 g2 g3
    obtain ⟨va, vc, e0⟩ := g1.len
    obtain ⟨nn, hnn⟩ : ∃ nn, (T.jl ++ b).length = nn := ⟨_, rfl⟩
    rw [hnn] at e0
    subst e0
    clear hnn
    have hcj : vj.ownBlock ≠ some c := fun e => (X1.out.1.row_ne X1.out.1.jo c e).1 rfl
    have hc3 := (g2.block c X1.out.1.clt (fun e => hcj e.symm)).trans X1.out.1.blk
    have e2 := (cellsC hc3).2.2.1
    have e3 := frzC hc3 2
    have G : Hid (OwnB 0 w3 (.slice va nn vc) (T.jl ++ b) ∧ w1.grownBy w3 vj.ownBlock ∧ ((Value.slice va nn vc).ownBlock = vj.ownBlock ∨ (Value.slice va nn vc).ownBlock = some w1.heap.size)) := ⟨g1, g2, g3⟩
    clear g1 g2 g3 hcj hc3
    go_wp2_with fail
    go_ret
    have hvn : (Value.slice va nn vc).ownBlock = vj.ownBlock ∨ (Value.slice va nn vc).ownBlock = none ∨ ∃ k, (Value.slice va nn vc).ownBlock = some k ∧ w1.heap.size ≤ k := G.out.2.2.elim .inl (fun e => .inr (.inr ⟨_, e, Nat.le_refl _⟩))
    obtain ⟨hx, hfr⟩ := X1.out.1.putJ G.out.2.1 G.out.1 hvn
    have hsz : (w3.setCell ⟨c, 2, none⟩ (.slice va nn vc)).heap.size = w3.heap.size := size_set _ _ _ _
    have hz1 := X1.out.2.1.size
    have hz3 := G.out.2.1.size
    refine ⟨rfl, ⟨mf, md, _, vt, lf', hx, ?_, ?_⟩, ?_⟩
    · rintro k (e | e | e | e | e)
      · exact .inl (HFL.out.1 k (.inl e))
      · exact .inl (HFL.out.1 k (.inr (.inl e)))
      · exact .inl (HFL.out.1 k (.inr (.inr (.inl e))))
      · rcases G.out.2.2 with e2 | e2
        · exact .inl (HFL.out.1 k (.inr (.inr (.inr (.inl (e2 ▸ e))))))
        · have hk := own5_lt G.out.1 e
          rw [e2] at e
          cases e
          exact .inr ⟨hz1, by rw [hsz]; exact hk⟩
      · exact .inl (HFL.out.1 k (.inr (.inr (.inr (.inr e)))))
    · exact lt_nw HFL.out.2 (by rw [hsz]; omega)
    · refine X1.out.2.2.1.trans (b := w1) (G := fun k => k = c ∨ vj.ownBlock = some k) ⟨?_, ?_, ?_, by rw [hsz]; exact hz3, fun k hk hn => hfr k hk (fun e => hn (.inl e)) (fun e => hn (.inr e))⟩ (fun k hk hg => ?_)
      · exact G.out.2.1.os
      · exact G.out.2.1.tape
      · exact G.out.2.1.output
      · rcases hg with e | e
        · exact HFL.out.1 k (.inl e)
        · exact HFL.out.1 k (.inr (.inr (.inr (.inl e))))
  | false =>
    have er := HR.out.1 hc
    have hdn := HR.out.2.2.1 hc
    cases hd : T.dn with
    | true =>
      rw [hd] at er
      injection er with er1 er2
      simp only [Bool.true_eq_false, if_false] at er1
      subst er1 er2
      clear hc hdn
      go_wp2_with fail
      go_ret
      exact ⟨rfl, LX.fin HFL.out.1 HFL.out.2 X1.out.1 (only_c X1.out.2.1)⟩
    | false =>
      rw [hd] at er
      injection er with er1 er2
      simp only [if_true] at er1
      have ER : Hid (r = { U with tn := b } ∧ U.dn = true) := ⟨er1, hdn⟩
      subst er2
      clear hc hdn er1
      go_wp2_with fail
      refine (cloneB_any X1.out.2.2.2 (by have := HV.out.2.2; omega)).mono ?_
      rintro e w2 ⟨vn, rfl, h1, h2⟩
      obtain ⟨va, vc, e0⟩ := h1.len
      obtain ⟨nn, hnn⟩ : ∃ nn, b.length = nn := ⟨_, rfl⟩
      rw [hnn] at e0
      subst e0
      clear hnn
      have hc3 := (h2.block c X1.out.1.clt).trans X1.out.1.blk
      have e6 := (cellsC hc3).2.2.2.2.2.2
      have e7 := frzC hc3 6
      have G : Hid (OwnB w1.heap.size w2 (.slice va nn vc) b ∧ Below w1.heap.size w1 w2) := ⟨h1, h2⟩
      clear h1 h2 hc3
      go_wp2_with fail
      go_ret
      obtain ⟨hx, hon⟩ := X1.out.1.putT G.out.2 G.out.1 ER.out.2
      rw [ER.out.1]
      have hon2 : Only [c, mf, md] w (w2.setCell ⟨c, 6, none⟩ (.slice va nn vc)) := only_c (X1.out.2.1.trans hon)
      refine ⟨rfl, ⟨mf, md, vj, _, lf', hx, ?_, lt_nw HFL.out.2 hon2.size⟩, (LX.fin (vt := vt) HFL.out.1 HFL.out.2 (X1.out.1.later (Below.refl _ _)) (only_c X1.out.2.1)).2.trans (G := fun k => k = c) ⟨hon.os, hon.tape, hon.output, hon.size, fun k hk hn => hon.block k hk (by simpa using hn)⟩ (fun k _ e => HFL.out.1 k (.inl e))⟩
      rintro k (e | e | e | e | e)
      · exact .inl (HFL.out.1 k (.inl e))
      · exact .inl (HFL.out.1 k (.inr (.inl e)))
      · exact .inl (HFL.out.1 k (.inr (.inr (.inl e))))
      · exact .inl (HFL.out.1 k (.inr (.inr (.inr (.inl e)))))
      · have := G.out.1.lt e
        have := X1.out.2.1.size
        exact .inr ⟨by omega, by rw [size_set]; omega⟩
end Go.Proofs.YtlkkmcibjhoneaaGreatDoor
