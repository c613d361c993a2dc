/-
  What parts two snapshots, applied, turned back, joined: plain lists.
-/
import Derived.Test.YtinhdjoidbcfaaaDl
namespace Go.Proofs.Ytinhdjoidbcfaaa

/-! what parts two snapshots -/
def dif (a b : List Fl) : List Ch := if stand a && stand b then (mrg (inv (frm a)) (frm b)).getD [] else []
theorem dlt_self (p : List UInt8) (x : Option Fl) : dlt p x x = none := by unfold dlt; rw [oeq_self]; rfl
theorem dlt_ne (p : List UInt8) {x y : Option Fl} (h : x ≠ y) : dlt p x y = some (ch p x y) := by unfold dlt; rw [oeq_not h]; rfl
theorem at_none (p : List UInt8) : at' p none := fun _ e => by simp at e
theorem dif_spec {a b : List Fl} (ha : stand a = true) (hb : stand b = true) : mrg (inv (frm a)) (frm b) = some (dif a b) ∧ Dl (dif a b) ∧ ∀ p, lk Ch.path (dif a b) p = dlt p (lk Fl.path a p) (lk Fl.path b p) := by
  have hA := (frm_dl ha).inv
  have hB := frm_dl hb
  have eA : ∀ p, lk Ch.path (inv (frm a)) p = (lk Fl.path a p).map fun f => ch p (some f) none := fun p => by
    rw [lk_inv, lk_frm]; cases lk Fl.path a p <;> rfl
  obtain ⟨r, h1, h2, h3⟩ := mrg_ok hA hB (fun p x y hx hy => by
    rw [eA] at hx
    rw [lk_frm] at hy
    obtain ⟨f, hf, rfl⟩ := Option.map_eq_some_iff.1 hx
    obtain ⟨g, hg, rfl⟩ := Option.map_eq_some_iff.1 hy
    rw [fo_ch (pathOk_ne (lk_ok ha hf)) (at_none p) (at_none p)]
    simp [oeq])
  have e : dif a b = r := by unfold dif; rw [ha, hb, h1]; rfl
  rw [e]
  refine ⟨h1, h2, fun p => ?_⟩
  rw [h3, eA, lk_frm]
  have ax : at' p (lk Fl.path a p) := lk_at
  have bx : at' p (lk Fl.path b p) := lk_at
  cases ea : lk Fl.path a p with
  | none =>
    cases eb : lk Fl.path b p with
    | none => rw [dlt_self]; rfl
    | some g => rw [dlt_ne p (by simp)]; rfl
  | some f =>
    have hp := pathOk_ne (lk_ok ha ea)
    rw [ea] at ax
    cases eb : lk Fl.path b p with
    | none => rw [dlt_ne p (by simp)]; rfl
    | some g =>
      rw [eb] at bx
      simp only [Option.map_some, cb]
      rw [fo_ch hp (at_none p) (at_none p)]
      simp only [oeq, if_true, Option.bind_some]
      show (if feq ((some f : Option Fl).getD zf) ((some g : Option Fl).getD zf) = true then none else some (ch p (some f) (some g))) = dlt p (some f) (some g)
      rw [feq_getD hp ax bx]; rfl
theorem dif_len (a b : List Fl) : (dif a b).length ≤ 1024 := by
  by_cases h : stand a = true ∧ stand b = true
  · obtain ⟨h1, _⟩ := dif_spec h.1 h.2
    have := mrg_len _ _ _ _ (Nat.le_refl _) h1
    have l1 := stand_len h.1
    have l2 := stand_len h.2
    simp only [inv, frm, List.length_map] at this
    omega
  · have : dif a b = [] := by unfold dif; rw [if_neg (by simpa using h)]
    rw [this]; simp

/-! applied -/
def cutF (p : List UInt8) (l : List Fl) : List Fl := l.filter fun f => !(f.path == p)
def insF (f : Fl) : List Fl → List Fl
  | [] => [f]
  | g :: l => if cf g.path f.path < 0 then g :: insF f l else f :: g :: l
def stp (l : List Fl) (c : Ch) : List Fl :=
  let m := if c.had then cutF c.path l else l
  if c.has then insF c.new m else m
def res (a : List Fl) (d : List Ch) : List Fl := d.foldl stp a
/-- do the old files stand in a? -/
def fitA (a : List Fl) (d : List Ch) : Bool := d.all fun c => ((lk Fl.path a c.path).isSome == c.had) && feq ((lk Fl.path a c.path).getD zf) c.old
def apl (a : List Fl) (d : List Ch) : List Fl × Int :=
  if stand a then (if vd d && fitA a d && stand (res a d) then (res a d, 0) else ([], 9)) else ([], validE a)
theorem lk_cut (p : List UInt8) (l : List Fl) (q : List UInt8) : lk Fl.path (cutF p l) q = if q = p then none else lk Fl.path l q := by
  induction l with
  | nil => simp [cutF, lk]
  | cons f l ih =>
    unfold cutF at ih ⊢
    by_cases hf : f.path = p
    · rw [List.filter_cons_of_neg (by simp [hf]), ih]
      by_cases hq : q = p
      · simp [hq]
      · simp only [lk]; rw [if_neg hq, if_neg hq, if_neg (by rw [hf]; exact Ne.symm hq)]
    · rw [List.filter_cons_of_pos (by simp [hf])]
      simp only [lk]
      rw [ih]
      by_cases hq : q = p
      · rw [if_neg (by rw [hq]; exact hf), if_pos hq, if_pos hq]
      · rw [if_neg hq, if_neg hq]
theorem up_cut (p : List UInt8) {l : List Fl} (h : RUp Fl.path l) : RUp Fl.path (cutF p l) := List.Pairwise.filter _ h
theorem ins_spec (f : Fl) : ∀ (l : List Fl), RUp Fl.path l → lk Fl.path l f.path = none → RUp Fl.path (insF f l) ∧ ∀ q, lk Fl.path (insF f l) q = if q = f.path then some f else lk Fl.path l q
  | [], _, _ => ⟨by simp [insF, RUp], fun q => by simp only [insF, lk]; by_cases h : q = f.path <;> simp [h, eq_comm]⟩
  | g :: l, h, hn => by
    have hne : g.path ≠ f.path := (lk_none.1 hn) g (by simp)
    have hn' : lk Fl.path l f.path = none := lk_none.2 fun x hx => (lk_none.1 hn) x (by simp [hx])
    obtain ⟨i1, i2⟩ := ins_spec f l h.tail hn'
    unfold insF
    by_cases hc : cf g.path f.path < 0
    · rw [if_pos hc]
      refine ⟨i1.cons fun p hp => ?_, fun q => ?_⟩
      · rw [i2] at hp
        by_cases e : p = f.path
        · rw [e]; exact hc
        · rw [if_neg e] at hp
          obtain ⟨x, hx, rfl⟩ := lk_isSome.1 hp
          exact h.head hx
      · simp only [lk]
        rw [i2]
        by_cases e : g.path = q
        · rw [if_pos e, if_pos e, if_neg (by rw [← e]; exact hne)]
        · rw [if_neg e, if_neg e]
    · rw [if_neg hc]
      have hfg : cf f.path g.path < 0 := by
        rcases cf_range g.path f.path with k | k | k
        · omega
        · exact absurd (cf_zero.1 k) hne
        · rw [cf_neg]; omega
      refine ⟨h.cons fun p hp => ?_, fun q => ?_⟩
      · obtain ⟨x, hx, rfl⟩ := lk_isSome.1 hp
        rcases List.mem_cons.1 hx with rfl | hx
        · exact hfg
        · exact cf_trans hfg (h.head hx)
      · show (if f.path = q then some f else lk Fl.path (g :: l) q) = _
        by_cases e : q = f.path
        · rw [if_pos e.symm, if_pos e]
        · rw [if_neg (Ne.symm e), if_neg e]
theorem fit_at {a : List Fl} {d : List Ch} (hd : Dl d) (h : fitA a d = true) {p : List UInt8} {x y : Option Fl} (e : lk Ch.path d p = some (ch p x y)) : lk Fl.path a p = x := by
  obtain ⟨h1, h2⟩ := lk_some e
  have h3 := (List.all_eq_true.1 h) _ h1
  obtain ⟨x', y', e', hp, hx, hy, _⟩ := hd.at e
  simp only [ch, Bool.and_eq_true, beq_iff_eq, feq_iff] at h3
  have hx' : at' p x := by
    have : x = x' := by
      simp only [ch, Ch.mk.injEq] at e'
      have h4 := e'.2.1
      have h5 := e'.2.2.2.1
      cases x with
      | none => cases x' with
        | none => rfl
        | some _ => simp at h4
      | some f => cases x' with
        | none => simp at h4
        | some g => simp at h5; rw [h5]
    rw [this]; exact hx
  exact (getD_inj (pathOk_ne hp) lk_at hx').1 h3.2
theorem fit_of {a : List Fl} {d : List Ch} (hd : Dl d) (h : ∀ p x y, lk Ch.path d p = some (ch p x y) → lk Fl.path a p = x) : fitA a d = true := by
  refine List.all_eq_true.2 fun c hc => ?_
  have e := lk_mem hd.up hc
  obtain ⟨x, y, e', _⟩ := hd.at e
  have h1 := h c.path x y (e.trans (congrArg some e'))
  obtain ⟨p, u, v, o, n⟩ := c
  simp only [ch, Ch.mk.injEq, true_and] at e'
  obtain ⟨e1, e2, e3, e4⟩ := e'
  simp only at h1 ⊢
  rw [h1, e1, e3]; simp [feq_self]
theorem po_ch (p : List UInt8) (x y : Option Fl) : po (ch p x y).has (ch p x y).new = y := by cases y <;> rfl
theorem stp_spec {a : List Fl} {p : List UInt8} {x y : Option Fl} (ha : RUp Fl.path a) (hx : lk Fl.path a p = x) (hy : at' p y) : RUp Fl.path (stp a (ch p x y)) ∧ ∀ q, lk Fl.path (stp a (ch p x y)) q = if q = p then y else lk Fl.path a q := by
  obtain ⟨m, hm⟩ : ∃ m, m = (if (ch p x y).had then cutF p a else a) := ⟨_, rfl⟩
  have e : stp a (ch p x y) = if (ch p x y).has then insF (ch p x y).new m else m := by rw [hm]; rfl
  rw [e]
  have hm1 : RUp Fl.path m ∧ ∀ q, lk Fl.path m q = if q = p then none else lk Fl.path a q := by
    rw [hm]
    cases x with
    | none =>
      refine ⟨ha, fun q => ?_⟩
      by_cases h : q = p
      · rw [if_pos h, h]; exact hx
      · rw [if_neg h]; rfl
    | some f => exact ⟨up_cut p ha, lk_cut p a⟩
  cases y with
  | none =>
    refine ⟨hm1.1, fun q => ?_⟩
    exact hm1.2 q
  | some g =>
    have hg := hy g rfl
    obtain ⟨i1, i2⟩ := ins_spec g m hm1.1 (by rw [hm1.2, if_pos hg])
    refine ⟨i1, fun q => ?_⟩
    show lk Fl.path (insF g m) q = _
    rw [i2, hg]
    by_cases h : q = p
    · rw [if_pos h, if_pos h]
    · rw [if_neg h, if_neg h, hm1.2, if_neg h]
theorem res_spec : ∀ (d : List Ch) (a : List Fl), RUp Fl.path a → Dl d → fitA a d = true → RUp Fl.path (res a d) ∧ ∀ q, lk Fl.path (res a d) q = match lk Ch.path d q with | some c => po c.has c.new | none => lk Fl.path a q
  | [], a, ha, _, _ => ⟨ha, fun q => rfl⟩
  | c :: d, a, ha, hd, hf => by
    obtain ⟨x, y, e, hp, hx, hy, hne⟩ := hd.at (lk_mem hd.up (x := c) (by simp))
    have hax : lk Fl.path a c.path = x := fit_at hd hf (p := c.path) (y := y) (by rw [← e]; exact lk_mem hd.up (by simp))
    obtain ⟨s1, s2⟩ := stp_spec ha hax hy
    rw [← e] at s1 s2
    have hf' : fitA (stp a c) d = true := fit_of hd.tail fun p u v h => by
      have hpc : p ≠ c.path := by
        rintro rfl
        rw [lk_tail_self hd.up] at h; simp at h
      rw [s2, if_neg hpc]
      refine fit_at hd hf (y := v) ?_
      simp only [lk]; rw [if_neg (Ne.symm hpc)]; exact h
    obtain ⟨r1, r2⟩ := res_spec d (stp a c) s1 hd.tail hf'
    refine ⟨r1, fun q => ?_⟩
    show lk Fl.path (res (stp a c) d) q = _
    rw [r2]
    simp only [lk]
    by_cases hq : c.path = q
    · rw [if_pos hq]
      subst hq
      rw [lk_tail_self hd.up]
      show lk Fl.path (stp a c) c.path = po c.has c.new
      rw [s2, if_pos rfl]
      have := po_ch c.path x y
      rw [← e] at this
      exact this.symm
    · rw [if_neg hq]
      cases lk Ch.path d q with
      | some c' => rfl
      | none => show lk Fl.path (stp a c) q = _; rw [s2, if_neg (Ne.symm hq)]

/-! a delta that is too long -/
theorem nodup_len : ∀ (l m : List (List UInt8)), l.Nodup → (∀ x ∈ l, x ∈ m) → l.length ≤ m.length
  | [], _, _, _ => by simp
  | x :: l, m, h, hs => by
    have hx : x ∈ m := hs x (by simp)
    have hd := List.nodup_cons.1 h
    have := nodup_len l (m.erase x) hd.2 fun y hy => by
      have hyx : y ≠ x := fun e => hd.1 (e ▸ hy)
      exact (List.mem_erase_of_ne hyx).2 (hs y (by simp [hy]))
    have h2 := List.length_erase_of_mem hx
    have h3 : 0 < m.length := List.length_pos_of_mem hx
    simp only [List.length_cons]; omega
theorem up_nodup {l : List (List UInt8)} (h : Up l) : l.Nodup := List.Pairwise.imp (fun h => lt_ne h) h
theorem part_len {α : Type} (p : α → Bool) : ∀ (l : List α), l.length = (l.filter p).length + (l.filter fun x => !p x).length
  | [] => rfl
  | x :: l => by
    have := part_len p l
    cases h : p x <;> simp [h] <;> omega
theorem long_not {a : List Fl} {d : List Ch} (ha : stand a = true) (hd : Dl d) (hf : fitA a d = true) (hl : 1024 < d.length) : stand (res a d) = false := by
  cases hs : stand (res a d) with
  | false => rfl
  | true =>
    exfalso
    obtain ⟨r1, r2⟩ := res_spec d a (stand_up ha) hd hf
    have l1 := stand_len ha
    have l2 := stand_len hs
    have e := part_len (fun c : Ch => c.had) d
    have m1 : (d.filter fun c => c.had).length ≤ a.length := by
      have h1 := nodup_len ((d.filter fun c => c.had).map Ch.path) (a.map Fl.path) (up_nodup (RUp.keys (key := Ch.path) (List.Pairwise.filter _ hd.up))) fun p hp => by
        obtain ⟨c, hc, rfl⟩ := List.mem_map.1 hp
        obtain ⟨hc1, hc2⟩ := List.mem_filter.1 hc
        have hk := lk_mem hd.up hc1
        obtain ⟨x, y, e', _⟩ := hd.at hk
        have h2 : lk Fl.path a c.path = x := fit_at hd hf (hk.trans (congrArg some e'))
        have h3 : x.isSome = true := by
          have := hc2; rw [e'] at this; exact this
        rw [← h2] at h3
        obtain ⟨f, hf1, hf2⟩ := lk_isSome.1 h3
        rw [← hf2]; exact List.mem_map.2 ⟨f, hf1, rfl⟩
      simpa using h1
    have m2 : (d.filter fun c => !c.had).length ≤ (res a d).length := by
      have h1 := nodup_len ((d.filter fun c => !c.had).map Ch.path) ((res a d).map Fl.path) (up_nodup (RUp.keys (key := Ch.path) (List.Pairwise.filter _ hd.up))) fun p hp => by
        obtain ⟨c, hc, rfl⟩ := List.mem_map.1 hp
        obtain ⟨hc1, hc2⟩ := List.mem_filter.1 hc
        have hk := lk_mem hd.up hc1
        obtain ⟨x, y, e', hp', hx, hy, hne⟩ := hd.at hk
        have h2 := r2 c.path
        rw [hk] at h2
        have h3 : x = none := by
          rw [e'] at hc2
          cases x with
          | none => rfl
          | some _ => simp [ch] at hc2
        have h4 := po_ch c.path x y
        rw [← e'] at h4
        have h5 : (lk Fl.path (res a d) c.path).isSome = true := by
          rw [h2]
          show (po c.has c.new).isSome = true
          rw [h4]
          cases y with
          | none => exact absurd h3 hne
          | some _ => rfl
        obtain ⟨f, hf1, hf2⟩ := lk_isSome.1 h5
        rw [← hf2]; exact List.mem_map.2 ⟨f, hf1, rfl⟩
      simpa using h1
    omega

/-! what follows -/
theorem apl_zero {a : List Fl} {d : List Ch} {b : List Fl} (h : apl a d = (b, 0)) : stand a = true ∧ Dl d ∧ fitA a d = true ∧ stand b = true ∧ res a d = b := by
  unfold apl at h
  cases ha : stand a with
  | false =>
    rw [ha] at h
    simp only [Bool.false_eq_true, if_false, Prod.mk.injEq] at h
    have := (validE_zero a).1 h.2
    rw [this] at ha; simp at ha
  | true =>
    rw [ha] at h
    simp only [if_true] at h
    split at h
    · rename_i hc
      simp only [Bool.and_eq_true] at hc
      simp only [Prod.mk.injEq, and_true] at h
      refine ⟨rfl, (vd_iff d).1 hc.1.1, hc.1.2, ?_, h⟩
      rw [← h]; exact hc.2
    · simp at h
theorem apl_of {a b : List Fl} {d : List Ch} (ha : stand a = true) (hb : stand b = true) (hd : Dl d) (hf : fitA a d = true) (hr : res a d = b) : apl a d = (b, 0) := by
  unfold apl
  rw [ha, (vd_iff d).2 hd, hf, hr, hb]; rfl
theorem apl_bad {a : List Fl} {d : List Ch} (h : (apl a d).2 ≠ 0) : (apl a d).1 = [] ∧ ((apl a d).2 = 7 ∨ (apl a d).2 = 8 ∨ (apl a d).2 = 9) := by
  unfold apl at h ⊢
  cases ha : stand a with
  | false =>
    refine ⟨rfl, ?_⟩
    show validE a = 7 ∨ validE a = 8 ∨ validE a = 9
    unfold validE
    rw [ha]
    split <;> simp
  | true =>
    rw [ha] at h
    simp only [if_true] at h ⊢
    split
    · rename_i hc; rw [if_pos hc] at h; simp at h
    · exact ⟨rfl, .inr (.inr rfl)⟩
/-- Diff leads -/
theorem dif_leads {a b : List Fl} (ha : stand a = true) (hb : stand b = true) : apl a (dif a b) = (b, 0) := by
  obtain ⟨_, hd, hl⟩ := dif_spec ha hb
  have hf : fitA a (dif a b) = true := fit_of hd fun p x y h => by
    have h1 := h
    rw [hl] at h
    unfold dlt at h
    split at h
    · simp at h
    · injection h with h
      obtain ⟨x', y', e', hp, hx, hy, _⟩ := hd.at h1
      simp only [ch, Ch.mk.injEq, true_and] at h e'
      refine (getD_inj (pathOk_ne hp) lk_at ?_).1 h.2.2.1
      intro g hg
      subst hg
      cases x' with
      | none => simp at e'
      | some g' => have := e'.2.2.1; simp at this; rw [this]; exact hx g' rfl
  obtain ⟨r1, r2⟩ := res_spec _ a (stand_up ha) hd hf
  refine apl_of ha hb hd hf (r1.ext (stand_up hb) fun p => ?_)
  rw [r2, hl]
  by_cases e : lk Fl.path a p = lk Fl.path b p
  · rw [e, dlt_self]
  · rw [dlt_ne p e]; exact po_ch p _ _
/-- what leads is Diff -/
theorem leads_dif {a b : List Fl} {d : List Ch} (h : apl a d = (b, 0)) : dif a b = d := by
  obtain ⟨ha, hd, hf, hb, hr⟩ := apl_zero h
  obtain ⟨_, hD, hl⟩ := dif_spec ha hb
  obtain ⟨r1, r2⟩ := res_spec d a (stand_up ha) hd hf
  rw [hr] at r2
  refine hD.up.ext hd.up fun p => ?_
  rw [hl, r2 p]
  cases e : lk Ch.path d p with
  | none => exact dlt_self p _
  | some c =>
    obtain ⟨x, y, rfl, hp, hx, hy, hne⟩ := hd.at e
    simp only
    rw [po_ch, fit_at hd hf e, dlt_ne p hne]
theorem dif_inv {a b : List Fl} (ha : stand a = true) (hb : stand b = true) : inv (dif a b) = dif b a := by
  obtain ⟨_, hd, hl⟩ := dif_spec ha hb
  obtain ⟨_, hD, hL⟩ := dif_spec hb ha
  refine hd.inv.up.ext hD.up fun p => ?_
  rw [lk_inv, hl, hL]
  by_cases e : lk Fl.path a p = lk Fl.path b p
  · rw [e, dlt_self]; rfl
  · rw [dlt_ne p e, dlt_ne p (Ne.symm e)]; rfl
theorem dif_join {a b c : List Fl} (ha : stand a = true) (hb : stand b = true) (hc : stand c = true) : mrg (dif a b) (dif b c) = some (dif a c) := by
  obtain ⟨_, h1, k1⟩ := dif_spec ha hb
  obtain ⟨_, h2, k2⟩ := dif_spec hb hc
  obtain ⟨_, h3, k3⟩ := dif_spec ha hc
  have key : ∀ p, lk Fl.path a p ≠ lk Fl.path b p → p ≠ [] := fun p h => by
    cases e : lk Fl.path a p with
    | some f => exact pathOk_ne (lk_ok ha e)
    | none =>
      cases e' : lk Fl.path b p with
      | some f => exact pathOk_ne (lk_ok hb e')
      | none => rw [e, e'] at h; exact absurd rfl h
  obtain ⟨r, m1, m2, m3⟩ := mrg_ok h1 h2 (fun p x y hx hy => by
    rw [k1] at hx
    rw [k2] at hy
    unfold dlt at hx hy
    split at hx
    · simp at hx
    · rename_i e1
      split at hy
      · simp at hy
      · injection hx with hx
        injection hy with hy
        subst hx hy
        have hp := key p (fun e => by rw [e, oeq_self] at e1; simp at e1)
        rw [fo_ch hp lk_at lk_at, oeq_self]; simp)
  rw [m1]
  congr 1
  refine m2.up.ext h3.up fun p => ?_
  rw [m3, k1, k2, k3]
  by_cases e1 : lk Fl.path a p = lk Fl.path b p
  · rw [e1, dlt_self]; rfl
  · have hp := key p e1
    by_cases e2 : lk Fl.path b p = lk Fl.path c p
    · rw [e2, dlt_self, cb_none]
    · rw [dlt_ne p e1, dlt_ne p e2]
      simp only [cb]
      rw [fo_ch hp lk_at lk_at, oeq_self]
      simp only [if_true, Option.bind_some]
      show (if feq ((lk Fl.path a p).getD zf) ((lk Fl.path c p).getD zf) = true then none else some (ch p (lk Fl.path a p) (lk Fl.path c p))) = _
      rw [feq_getD hp lk_at lk_at]; rfl
theorem dif_same {a : List Fl} (ha : stand a = true) : dif a a = [] := by
  obtain ⟨_, h1, k1⟩ := dif_spec ha ha
  refine h1.up.ext (m := []) List.Pairwise.nil fun p => ?_
  rw [k1, dlt_self]; rfl
theorem dif_none {a b : List Fl} (ha : stand a = true) (hb : stand b = true) : dif a b = [] ↔ a = b := by
  constructor
  · intro h
    have h1 := dif_leads ha hb
    rw [h] at h1
    obtain ⟨_, _, _, _, h2⟩ := apl_zero h1
    exact h2
  · rintro rfl; exact dif_same ha
/-- outside of its paths -/
theorem dif_out {a b : List Fl} (ha : stand a = true) (hb : stand b = true) {f : Fl} (hf : f ∈ a) (hn : f.path ∉ (dif a b).map Ch.path) : lk Fl.path b f.path = some f := by
  obtain ⟨_, h1, k1⟩ := dif_spec ha hb
  have e : lk Ch.path (dif a b) f.path = none := lk_none.2 fun c hc e => hn (List.mem_map.2 ⟨c, hc, e⟩)
  rw [k1] at e
  by_cases h : lk Fl.path a f.path = lk Fl.path b f.path
  · rw [← h]; exact lk_mem (stand_up ha) hf
  · rw [dlt_ne _ h] at e; simp at e
end Go.Proofs.Ytinhdjoidbcfaaa
