/-
  An entry taken off the bytes.
-/
import Derived.Test.YtddaoloabfkheaaGreatDoorJZn
namespace Go.Proofs.YtddaoloabfkheaaGreatDoor
open Go.RowKit

theorem textS_at {m : Int} {s r : List UInt8} (hs : (s.length : Int) ≤ m) (hl : s.length < 4294967296) : textS m (txB s ++ r) = (s, 0, r) := by
  have e4 : (txB s ++ r).take 4 = le 4 s.length := by
    unfold txB
    rw [List.append_assoc]
    have := List.take_left (l₁ := le 4 s.length) (l₂ := s ++ r)
    rwa [le_length] at this
  have ed : (txB s ++ r).drop 4 = s ++ r := by
    unfold txB
    rw [List.append_assoc]
    have := List.drop_left (l₁ := le 4 s.length) (l₂ := s ++ r)
    rwa [le_length] at this
  have hlen : (txB s ++ r).length = 4 + s.length + r.length := by rw [List.length_append, txB_len]
  unfold textS
  rw [e4, num_le4 hl, if_neg (by omega), if_neg (by omega), if_neg (by omega), ed, ← List.drop_drop, ed]
  simp
theorem le_num : ∀ (l : List UInt8), le l.length (num l) = l := by
  intro l
  refine num_inj (by rw [le_length]) ?_
  rw [num_le]
  exact Nat.mod_eq_of_lt (num_lt l)
theorem textS_ok {m : Int} {l : List UInt8} (h : (textS m l).2.1 = 0) : l = txB (textS m l).1 ++ (textS m l).2.2 ∧ ((textS m l).1.length : Int) ≤ m := by
  by_cases h1 : l.length < 4
  · unfold textS at h; rw [if_pos h1] at h; cases h
  by_cases h2 : m < num (l.take 4)
  · unfold textS at h; rw [if_neg h1, if_pos h2] at h; cases h
  by_cases h3 : l.length - 4 < num (l.take 4)
  · unfold textS at h; rw [if_neg h1, if_neg h2, if_pos h3] at h; cases h
  have e : textS m l = ((l.drop 4).take (num (l.take 4)), 0, l.drop (4 + num (l.take 4))) := by unfold textS; rw [if_neg h1, if_neg h2, if_neg h3]
  rw [e]
  have hlen : ((l.drop 4).take (num (l.take 4))).length = num (l.take 4) := by rw [List.length_take, List.length_drop]; omega
  refine ⟨?_, by show (((l.drop 4).take (num (l.take 4))).length : Int) ≤ m; rw [hlen]; omega⟩
  show l = txB ((l.drop 4).take (num (l.take 4))) ++ l.drop (4 + num (l.take 4))
  unfold txB
  rw [hlen]
  have h4 : le 4 (num (l.take 4)) = l.take 4 := by
    have := le_num (l.take 4)
    rwa [show (l.take 4).length = 4 by rw [List.length_take]; omega] at this
  rw [h4, List.append_assoc, ← List.drop_drop, List.take_append_drop, List.take_append_drop]
/-- what take answers -/
def TkP (F : Nat → Prop) (c g d : Nat) (K : List Lb) (l : List UInt8) (w : World) (e : Ending) (w' : World) : Prop :=
  ∃ R, e = .returned (.bool R) ∧ OnlyP (fun k => F k ∨ k = g) w w' ∧
    (R = true → ∃ x l', l = entB x ++ l' ∧ OKK (K ++ [x]) ∧ CA w' (nwF F w w') c (K ++ [x]) ∧ RDo w' g d l') ∧
    (R = false → ∀ x l', x ∉ K → rgt x.pkg = true → x.name.length ≤ 4096 → l ≠ entB x ++ l')
theorem entB_three (x : Lb) : entB x = txB x.pkg ++ (txB x.name ++ saB (prsM (dir x.pkg) x.name).1 (prsM (dir x.pkg) x.name).2) := by
  unfold entB
  rw [← List.append_assoc]
  exact enB_said x _ _
theorem putK_snoc {K : List Lb} {k : Lb} (hk : k ∉ K) (hl : K.length < 512) : putK K k = K ++ [k] := by
  unfold putK
  rw [List.erase_of_not_mem hk, if_neg (by omega)]
theorem OnlyP.of_grown {F : Nat → Prop} {w w' : World} {g : Nat} (h : w.grownBy w' (some g)) (hF : F g) : OnlyP F w w' :=
  ⟨h.os, h.tape, h.output, h.size, fun k hk hn => h.block k hk (fun e => by injection e with e; subst e; exact hn hF)⟩

set_option maxRecDepth 100000 in
set_option maxHeartbeats 8000000 in
theorem ctake_any {w : World} {F : Nat → Prop} {c g d : Nat} {K : List Lb} {l : List UInt8} (hC : CA w F c K) (hR : RDo w g d l) (hg : ¬ F g) (hd : ¬ F d) (hE : ∀ W, OnlyP (fun k => F k ∨ k = g) w W → Ev W) (hK : K.length < 512) : Calls Tryz.prog 36 #[.pointer (some ⟨c, 0, none⟩), .pointer (some ⟨g, 0, none⟩)] w (TkP F c g d K l w) := by
  obtain ⟨s1, hs1⟩ : ∃ s, textS 120 l = s := ⟨_, rfl⟩
  obtain ⟨p, e1, l1⟩ := s1
  have T1 : Hid (Calls Tryz.prog 71 #[.pointer (some ⟨g, 0, none⟩), .int .i64 120] w fun e w' => e = .returned (.tuple #[.string (bs p), .int .i64 e1]) ∧ RDo w' g d l1 ∧ w.grownBy w' (some g)) := by
    have := text_any' hR 120
    rw [hs1] at this
    exact this
  have HS1 : Hid (textS 120 l = (p, e1, l1)) := hs1
  by_cases h1 : e1 = 0
  rotate_left
  · have k1 : (e1 == 0) = false := by simpa using h1
    have HF : Hid (∀ w', OnlyP (fun k => F k ∨ k = g) w w' → TkP F c g d K l w (.returned (.bool false)) w') := fun w' ho => by
      refine ⟨false, rfl, ho, (fun e => by cases e), fun _ x l' _ hr _ e => ?_⟩
      rw [entB_three, List.append_assoc] at e
      have hp := rgt_len hr
      have := textS_at (m := 120) (r := (txB x.name ++ saB (prsM (dir x.pkg) x.name).1 (prsM (dir x.pkg) x.name).2) ++ l') (s := x.pkg) (by omega) (by omega)
      rw [← e, HS1.out] at this
      injection this with _ h2
      injection h2 with h2 _
      exact h1 h2
    have h1n : ¬ e1 = 0 := h1
    clear hC hR hg hd hE hK hs1 h1
    go_enter Tryz.func36, Tryz.ntmps36
    go_wp2_with fail
    refine T1.out.mono ?_
    rintro e w1 ⟨rfl, _, hg1⟩
    have H1 : Hid (w.grownBy w1 (some g)) := hg1
    clear hg1
    go_wp2_with fail
    go_ret
    exact HF.out _ (OnlyP.of_grown H1.out (.inr rfl))
  subst h1
  obtain ⟨hl1, hp1⟩ := textS_ok (m := 120) (l := l) (by rw [hs1])
  rw [hs1] at hl1 hp1
  simp only at hl1 hp1
  obtain ⟨s2, hs2⟩ : ∃ s, textS 4096 l1 = s := ⟨_, rfl⟩
  obtain ⟨t, e2, l2⟩ := s2
  have T2 : Hid (∀ W, RDo W g d l1 → Calls Tryz.prog 71 #[.pointer (some ⟨g, 0, none⟩), .int .i64 4096] W fun e w' => e = .returned (.tuple #[.string (bs t), .int .i64 e2]) ∧ RDo w' g d l2 ∧ W.grownBy w' (some g)) := fun W hW => by
    have := text_any' hW 4096
    rw [hs2] at this
    exact this
  have HL1 : Hid (∀ x l', rgt x.pkg = true → l = entB x ++ l' → x.pkg = p ∧ l1 = txB x.name ++ (saB (prsM (dir x.pkg) x.name).1 (prsM (dir x.pkg) x.name).2 ++ l')) := fun x l' hr e => by
    rw [entB_three, List.append_assoc, List.append_assoc] at e
    rw [e] at hl1
    have hp := rgt_len hr
    obtain ⟨a1, a2⟩ := txB_pre (by omega) (by omega) hl1
    exact ⟨a1, a2.symm⟩
  by_cases h2 : e2 = 0
  rotate_left
  · have k1 : (e2 == 0) = false := by simpa using h2
    have HF : Hid (∀ w', OnlyP (fun k => F k ∨ k = g) w w' → TkP F c g d K l w (.returned (.bool false)) w') := fun w' ho => by
      refine ⟨false, rfl, ho, (fun e => by cases e), fun _ x l' _ hr hx e => ?_⟩
      obtain ⟨_, e3⟩ := HL1.out x l' hr e
      have := textS_at (m := 4096) (r := saB (prsM (dir x.pkg) x.name).1 (prsM (dir x.pkg) x.name).2 ++ l') (s := x.name) (by omega) (by omega)
      rw [← e3, hs2] at this
      injection this with _ h3
      injection h3 with h3 _
      exact h2 h3
    have h2n : ¬ e2 = 0 := h2
    clear hC hR hg hd hE hK hs1 h2 hl1 hp1
    go_enter Tryz.func36, Tryz.ntmps36
    go_wp2_with fail
    refine T1.out.mono ?_
    rintro e w1 ⟨rfl, hr1, hg1⟩
    have H1 : Hid (RDo w1 g d l1 ∧ w.grownBy w1 (some g)) := ⟨hr1, hg1⟩
    clear hr1 hg1
    go_wp2_with fail
    refine (T2.out _ H1.out.1).mono ?_
    rintro e w2 ⟨rfl, _, hg2⟩
    have H2 : Hid (w.grownBy w2 (some g)) := grownBy_trans H1.out.2 hg2
    clear hg2
    go_wp2_with fail
    go_ret
    exact HF.out _ (OnlyP.of_grown H2.out (.inr rfl))
  subst h2
  obtain ⟨hl2, hp2⟩ := textS_ok (m := 4096) (l := l1) (by rw [hs2])
  rw [hs2] at hl2 hp2
  simp only at hl2 hp2
  have HL2 : Hid (∀ x l', rgt x.pkg = true → x.name.length ≤ 4096 → l = entB x ++ l' → x = ⟨p, t⟩ ∧ l2 = saB (prsM (dir p) t).1 (prsM (dir p) t).2 ++ l') := fun x l' hr hx e => by
    obtain ⟨e3, e4⟩ := HL1.out x l' hr e
    rw [hl2] at e4
    obtain ⟨a1, a2⟩ := txB_pre (by omega) (by omega) e4
    obtain ⟨xp, xn⟩ := x
    simp only at e3 a1 a2
    subst e3 a1
    exact ⟨rfl, a2⟩
  have HLE : Hid (l = txB p ++ (txB t ++ l2)) := by show _ = _; rw [← hl2]; exact hl1
  have HCs : Hid (∀ W, w.grownBy W (some g) → CA W F c K) := fun W hW => hC.stay hW.size (fun k hk => hW.block k (hC.lt k hk) (fun e => by injection e with e; subst e; exact hg hk))
  have hpl : p.length ≤ 120 := by omega
  have htl : t.length ≤ 4096 := by omega
  -- the key is looked for
  by_cases hk : (⟨p, t⟩ : Lb) ∈ K
  · have HFI : Hid (∀ W, w.grownBy W (some g) → Calls Tryz.prog 24 #[.pointer (some ⟨c, 0, none⟩), .agg #[.string (bs p), .string (bs t)]] W fun e w' => e = .returned (.int .i64 (kix K ⟨p, t⟩)) ∧ Below W.heap.size W w') := fun W hW => by
      obtain ⟨v, ll, T, h1, h2, _, _⟩ := (HCs.out W hW).it
      rw [h2]
      exact find_any h1 (by have := hC.ok.len; rw [h2] at this; simp at this; omega) ⟨p, t⟩
    have hki : 0 ≤ kix K ⟨p, t⟩ := by unfold kix; rw [if_pos hk]; omega
    generalize kix K ⟨p, t⟩ = i at *
    have HF : Hid (∀ w', OnlyP (fun k => F k ∨ k = g) w w' → TkP F c g d K l w (.returned (.bool false)) w') := fun w' ho => by
      refine ⟨false, rfl, ho, (fun e => by cases e), fun _ x l' hn hr hx e => ?_⟩
      obtain ⟨e3, _⟩ := HL2.out x l' hr hx e
      rw [e3] at hn
      exact hn hk
    clear hC hR hg hd hE hK hs1 hs2 hl1 hp1 hl2 hp2 hpl htl hk
    go_enter Tryz.func36, Tryz.ntmps36
    go_wp2_with fail
    refine T1.out.mono ?_
    rintro e w1 ⟨rfl, hr1, hg1⟩
    have H1 : Hid (RDo w1 g d l1 ∧ w.grownBy w1 (some g)) := ⟨hr1, hg1⟩
    clear hr1 hg1
    go_wp2_with fail
    refine (T2.out _ H1.out.1).mono ?_
    rintro e w2 ⟨rfl, hr2, hg2⟩
    have H2 : Hid (w.grownBy w2 (some g)) := grownBy_trans H1.out.2 hg2
    clear hr2 hg2
    go_wp2_with fail
    refine (HFI.out _ H2.out).mono ?_
    rintro e w3 ⟨rfl, hb3⟩
    have H3 : Hid (OnlyP (fun k => F k ∨ k = g) w w3) := (OnlyP.of_grown H2.out (.inr rfl)).trans (OnlyP.of_below hb3 (fun _ => False)) (fun k _ h => h.elim)
    clear hb3
    go_wp2_with fail
    go_ret
    exact HF.out _ H3.out
  have HFI : Hid (∀ W, w.grownBy W (some g) → Calls Tryz.prog 24 #[.pointer (some ⟨c, 0, none⟩), .agg #[.string (bs p), .string (bs t)]] W fun e w' => e = .returned (.int .i64 (-1)) ∧ Below W.heap.size W w') := fun W hW => by
    obtain ⟨v, ll, T, h1, h2, _, _⟩ := (HCs.out W hW).it
    have := find_any h1 (by have := hC.ok.len; rw [h2] at this; simp at this; omega) ⟨p, t⟩
    rw [← h2, show kix K ⟨p, t⟩ = -1 by unfold kix; rw [if_neg hk]] at this
    exact this
  have HPut : Hid (∀ W, w.grownBy W (some g) → ∀ W2, Below W.heap.size W W2 → Calls Tryz.prog 10 #[.pointer (some ⟨c, 0, none⟩), .string (bs p), .string (bs t)] W2 (PuP F c K p t W2)) := fun W hW W2 hb => by
    have hca := HCs.out W hW
    refine cput_any (hca.stay hb.size (fun k hk => hb.block k (hca.lt k hk))) (hE W2 ?_) p t (by omega) (by omega)
    exact (OnlyP.of_grown hW (.inr rfl)).trans (OnlyP.of_below hb (fun _ => False)) (fun k _ h => h.elim)
  by_cases hr : rgt p = true
  rotate_left
  · have hpc : pcod p t = 7 := pcod_bad (by simpa using hr)
    unfold PuP at HPut
    rw [hpc] at HPut
    have HF : Hid (∀ w', OnlyP (fun k => F k ∨ k = g) w w' → TkP F c g d K l w (.returned (.bool false)) w') := fun w' ho => by
      refine ⟨false, rfl, ho, (fun e => by cases e), fun _ x l' hn hrx hx e => ?_⟩
      obtain ⟨e3, _⟩ := HL2.out x l' hrx hx e
      rw [e3] at hrx
      exact hr hrx
    clear hC hR hg hd hE hK hs1 hs2 hl1 hp1 hl2 hp2 hpl htl hk hpc hr
    go_enter Tryz.func36, Tryz.ntmps36
    go_wp2_with fail
    refine T1.out.mono ?_
    rintro e w1 ⟨rfl, hr1, hg1⟩
    have H1 : Hid (RDo w1 g d l1 ∧ w.grownBy w1 (some g)) := ⟨hr1, hg1⟩
    clear hr1 hg1
    go_wp2_with fail
    refine (T2.out _ H1.out.1).mono ?_
    rintro e w2 ⟨rfl, hr2, hg2⟩
    have H2 : Hid (w.grownBy w2 (some g)) := grownBy_trans H1.out.2 hg2
    clear hr2 hg2
    go_wp2_with fail
    refine (HFI.out _ H2.out).mono ?_
    rintro e w3 ⟨rfl, hb3⟩
    have H3 : Hid (Below w2.heap.size w2 w3 ∧ OnlyP (fun k => F k ∨ k = g) w w3) := ⟨hb3, (OnlyP.of_grown H2.out (.inr rfl)).trans (OnlyP.of_below hb3 (fun _ => False)) (fun k _ h => h.elim)⟩
    clear hb3
    go_wp2_with fail
    refine (HPut.out _ H2.out _ H3.out.1).mono ?_
    rintro e w4 ⟨rfl, _, ho4⟩
    have H4 : Hid (OnlyP (fun k => F k ∨ k = g) w w4) := H3.out.2.trans ho4 (fun k _ h => .inl h)
    clear ho4
    go_wp2_with fail
    go_ret
    exact HF.out _ H4.out
  · have hpc : pcod p t = 0 := pcod_ok hr (by omega)
    have hput : putA K p t = K ++ [⟨p, t⟩] := by unfold putA; rw [if_pos hpc, putK_snoc hk hK]
    have HOk : Hid (OKK (K ++ [⟨p, t⟩])) := by
      have := hC.ok.put (k := ⟨p, t⟩) hr htl
      rw [putK_snoc hk hK] at this
      exact this
    unfold PuP at HPut
    rw [hpc, hput] at HPut
    have hKl := hC.ok.len
    have HYO : Hid (∀ W F', CA W F' c (K ++ [⟨p, t⟩]) → ∃ x : En, Calls Tryz.prog 72 #[.pointer (some ⟨c, 0, none⟩)] W (fun e w' => e = .returned x.val ∧ Below W.heap.size W w') ∧ ∀ W2, Below W.heap.size W W2 → Calls Tryz.prog 69 #[x.val] W2 (BtP W2 (saB (prsM (dir p) t).1 (prsM (dir p) t).2))) := fun W F' hW => by
      obtain ⟨v, ll, T, h1, h2, _, _⟩ := hW.it
      obtain ⟨l0, x, rfl⟩ : ∃ l0 x, ll = l0 ++ [x] := by
        rcases List.eq_nil_or_concat ll with e | ⟨l0, x, e⟩
        · subst e; simp at h2
        · exact ⟨l0, x, by simpa using e⟩
      have hf := h1.tf x (by simp)
      rw [List.map_append] at h2
      have h3 := List.append_inj' h2 rfl
      have hx : x.key = ⟨p, t⟩ := by simpa using h3.2.symm
      have hl0 : l0.length = K.length := by have := congrArg List.length h3.1; simpa using this.symm
      refine ⟨x, youngest_any h1 (by omega), fun W2 hb => ?_⟩
      have h5 := said_any x ((hf.g.read).later hb) (prsM_tbd _ _)
      have e1 : x.p = p := congrArg Lb.pkg hx
      have e2 : x.t = t := congrArg Lb.name hx
      rw [hf.z, e1, e2] at h5
      exact h5
    have HSL : Hid ((saB (prsM (dir p) t).1 (prsM (dir p) t).2).length ≤ 1000000000000) := by
      show _ ≤ _
      have := (prsM_tbd (dir p) t).flat
      unfold saB
      simp only [List.length_append, le_length]
      omega
    have HFin : Hid (∀ R w4 w' l', RDo w' g d l' → CA w4 (nwF F w w4) c (K ++ [⟨p, t⟩]) → OnlyP (fun k => F k ∨ k = g) w w4 → g < w.heap.size → OnlyP (fun k => k = g) w4 w' → (R = true → l2 = saB (prsM (dir p) t).1 (prsM (dir p) t).2 ++ l') → (R = false → ∀ r, l2 ≠ saB (prsM (dir p) t).1 (prsM (dir p) t).2 ++ r) → TkP F c g d K l w (.returned (.bool R)) w') := by
      intro R w4 w' l' hrd hca ho hgw ho' hT hFf
      refine ⟨R, rfl, ho.trans ho' (fun k _ h => .inr h), fun e => ?_, fun e x r _ hrx hx he => ?_⟩
      · refine ⟨⟨p, t⟩, l', ?_, HOk.out, ?_, hrd⟩
        · rw [HLE.out, hT e, entB_three]; simp
        · refine (hca.stay ho'.size (fun k hk => ho'.block k (hca.lt k hk) (fun e => ?_))).wider (fun k hk => ?_) (fun k hk => ?_)
          · subst e
            rcases hk with hk | hk
            · exact hg hk
            · omega
          · rcases hk with hk | hk
            · exact .inl hk
            · exact .inr ⟨hk.1, Nat.lt_of_lt_of_le hk.2 ho'.size⟩
          · rcases hk with hk | hk
            · exact Nat.lt_of_lt_of_le (hC.lt k hk) (Nat.le_trans ho.size ho'.size)
            · exact hk.2
      · obtain ⟨_, e4⟩ := HL2.out x r hrx hx he
        exact hFf e r e4
    have HRs : Hid (∀ W W', RDo W g d l2 → OnlyP F W W' → RDo W' g d l2) := fun W W' h1 h2 => h1.stay h2.size (h2.block g h1.lt.1 hg) (h2.block d h1.lt.2.1 hd)
    have HGw : Hid (g < w.heap.size) := hR.lt.1
    generalize saB (prsM (dir p) t).1 (prsM (dir p) t).2 = sb at *
    clear hC hR hE hK hs1 hs2 hl1 hp1 hl2 hp2 hpl htl hk hpc hr hput hKl
    go_enter Tryz.func36, Tryz.ntmps36
    go_wp2_with fail
    refine T1.out.mono ?_
    rintro e w1 ⟨rfl, hr1, hg1⟩
    have H1 : Hid (RDo w1 g d l1 ∧ w.grownBy w1 (some g)) := ⟨hr1, hg1⟩
    clear hr1 hg1
    go_wp2_with fail
    refine (T2.out _ H1.out.1).mono ?_
    rintro e w2 ⟨rfl, hr2, hg2⟩
    have H2 : Hid (w.grownBy w2 (some g) ∧ RDo w2 g d l2) := ⟨grownBy_trans H1.out.2 hg2, hr2⟩
    clear hr2 hg2
    go_wp2_with fail
    refine (HFI.out _ H2.out.1).mono ?_
    rintro e w3 ⟨rfl, hb3⟩
    have H3 : Hid (Below w2.heap.size w2 w3 ∧ OnlyP (fun k => F k ∨ k = g) w w3 ∧ RDo w3 g d l2) := ⟨hb3, (OnlyP.of_grown H2.out.1 (.inr rfl)).trans (OnlyP.of_below hb3 (fun _ => False)) (fun k _ h => h.elim), H2.out.2.later hb3⟩
    clear hb3
    go_wp2_with fail
    refine (HPut.out _ H2.out.1 _ H3.out.1).mono ?_
    rintro e w4 ⟨rfl, hc4, ho4⟩
    have H4 : Hid (OnlyP (fun k => F k ∨ k = g) w w4 ∧ CA w4 (nwF F w w4) c (K ++ [⟨p, t⟩]) ∧ RDo w4 g d l2) := by
      refine ⟨H3.out.2.1.trans ho4 (fun k _ h => .inl h), ?_, HRs.out _ _ H3.out.2.2 ho4⟩
      refine hc4.wider (fun k hk => ?_) (fun k hk => ?_)
      · rcases hk with hk | hk
        · exact .inl hk
        · exact .inr ⟨Nat.le_trans H3.out.2.1.size hk.1, hk.2⟩
      · rcases hk with hk | hk
        · exact hc4.lt k (.inl hk)
        · exact hk.2
    clear hc4 ho4
    obtain ⟨x, hy1, hy2⟩ := HYO.out w4 _ H4.out.2.1
    have HY1 : Hid (Calls Tryz.prog 72 #[.pointer (some ⟨c, 0, none⟩)] w4 (fun e w' => e = .returned x.val ∧ Below w4.heap.size w4 w')) := hy1
    have HY2 : Hid (∀ W2, Below w4.heap.size w4 W2 → Calls Tryz.prog 69 #[x.val] W2 (BtP W2 sb)) := hy2
    clear hy1 hy2
    obtain ⟨xp, xt, xa, xn, xc, xz⟩ := x
    simp only [En.val] at HY1 HY2
    go_wp2_with fail
    refine HY1.out.mono ?_
    rintro e w5 ⟨rfl, hb5⟩
    have H5 : Hid (Below w4.heap.size w4 w5) := hb5
    clear hb5
    go_wp2_with fail
    refine (HY2.out _ H5.out).mono ?_
    rintro e w6 ⟨v6, rfl, ho6, hb6⟩
    have H6 : Hid (Below w4.heap.size w4 w6 ∧ BS w6 v6 sb ∧ v6.ownBlock ≠ some g) := ⟨bstep H5.out hb6, ho6.bs, fun e => by
      have := (World.ownsRow.lt ho6 g e).1
      have := H4.out.2.2.lt.1
      have := H5.out.size
      omega⟩
    clear ho6 hb6
    go_wp2_with fail
    refine (follows_any (H4.out.2.2.later H6.out.1) H6.out.2.1 H6.out.2.2 HSL.out).mono ?_
    rintro e w7 ⟨R, l', rfl, hr7, hg7, hT7, hF7⟩
    have H7 : Hid (TkP F c g d K l w (.returned (.bool R)) w7) := HFin.out R w4 w7 l' hr7 H4.out.2.1 H4.out.1 HGw.out ((OnlyP.of_below H6.out.1 _).trans (OnlyP.of_grown (F := fun k => k = g) hg7 rfl) (fun k _ h => h)) hT7 hF7
    clear hr7 hg7 hT7 hF7
    go_wp2_with fail
    go_ret
    exact H7.out
end Go.Proofs.YtddaoloabfkheaaGreatDoor
