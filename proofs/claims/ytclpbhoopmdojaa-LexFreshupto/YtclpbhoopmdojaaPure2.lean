/-
  Plain lists: where tokens stand, and what lies between them.
-/
import Derived.Test.YtclpbhoopmdojaaPure
namespace Go.Proofs.Ytclpbhoopmdojaa

theorem wl_all : ∀ (r : List UInt8), (∀ x ∈ r.take (wl r), inW x = true) ∧ (∀ c q, r.drop (wl r) = c :: q → inW c = false)
  | [] => ⟨by simp, by simp⟩
  | d :: r => by
    have ih := wl_all r
    by_cases h : inW d = true
    · have e : wl (d :: r) = wl r + 1 := by rw [wl, if_pos h, Nat.add_comm]
      rw [e, List.take_succ_cons, List.drop_succ_cons]
      refine ⟨fun x hx => ?_, ih.2⟩
      rcases List.mem_cons.1 hx with rfl | hx
      · exact h
      · exact ih.1 x hx
    · have e : wl (d :: r) = 0 := by rw [wl, if_neg h]
      rw [e]
      refine ⟨by simp, fun c q hc => ?_⟩
      simp only [List.drop_zero, List.cons.injEq] at hc
      obtain ⟨rfl, _⟩ := hc
      simpa using h
/-- the six others, by their kinds -/
theorem mark_at (c : UInt8) (h : mkd c ≠ 0) : ([123, 125, 91, 93, 44, 61] : List UInt8).drop (mkd c - 2) = c :: ([123, 125, 91, 93, 44, 61] : List UInt8).drop (mkd c - 1) ∧ 2 ≤ mkd c ∧ mkd c ≤ 7 :=
  u8_all (P := fun c => mkd c ≠ 0 → ([123, 125, 91, 93, 44, 61] : List UInt8).drop (mkd c - 2) = c :: ([123, 125, 91, 93, 44, 61] : List UInt8).drop (mkd c - 1) ∧ 2 ≤ mkd c ∧ mkd c ≤ 7) (by decide +kernel) c h

/-- a token, and how it stands in a text behind a place -/
structure Stands (s : List UInt8) (f p m κ : Nat) (x : List UInt8) : Prop where
  fp : f ≤ p
  pm : p + m ≤ s.length
  m1 : 1 ≤ m
  len : x.length = m
  text : x = (s.drop p).take m
  gap : blk false ((s.drop f).take (p - f)) = (true, false)
  k1 : 1 ≤ κ
  k7 : κ ≤ 7
  mark : κ ≠ 1 → 2 ≤ κ ∧ x = (([123, 125, 91, 93, 44, 61] : List UInt8).drop (κ - 2)).take 1
  word : κ = 1 → ∀ c ∈ x, inW c = true
  next : κ = 1 → (h : p + m < s.length) → inW s[p + m] = false

theorem tg_stands {s : List UInt8} {f : Nat} {t : Tk} {R : List Tk} {E : Int} (h : tg (s.drop f) f = (t :: R, E)) (hf : f ≤ s.length) :
    ∃ p m κ : Nat, t.kind = κ ∧ t.at' = p ∧ Stands s f p m κ t.text ∧ tg (s.drop (p + m)) (p + m) = (R, E) := by
  unfold tg at h
  rw [List.drop_drop] at h
  have hg := gp_le false (s.drop f)
  have hb := blk_gp false (s.drop f)
  obtain ⟨p, hp⟩ : ∃ p, f + gp false (s.drop f) = p := ⟨_, rfl⟩
  rw [hp] at h
  rw [List.length_drop] at hg hb
  have hpf : gp false (s.drop f) = p - f := by omega
  rw [hpf] at hb
  by_cases hlt : p < s.length
  · rw [List.drop_eq_getElem_cons hlt] at h
    by_cases hk : kd s[p] = 0
    · rw [tq_bad hk] at h; simp at h
    · rw [tq_tok hk] at h
      simp only [Prod.mk.injEq, List.cons.injEq] at h
      obtain ⟨⟨rfl, hR⟩, hE⟩ := h
      have hle := tl_le s[p] (s.drop (p + 1))
      rw [List.length_drop] at hle
      obtain ⟨b1, b2⟩ := hb
      have b3 := b2 (by omega)
      refine ⟨p, 1 + tl s[p] (s.drop (p + 1)), kd s[p], rfl, rfl, ⟨by omega, by omega, by omega, ?_, ?_, ?_, by omega, kd_le _, fun h1 => ?_, fun h1 => ?_, fun h1 h2 => ?_⟩, ?_⟩
      · simp only [List.length_cons, List.length_take, List.length_drop]; omega
      · rw [List.drop_eq_getElem_cons hlt, Nat.add_comm 1, List.take_succ_cons]
      · exact Prod.ext b1 b3
      · have hw : inW s[p] = false := by
          cases hw : inW s[p]
          · rfl
          · exact absurd (kd_word hw) h1
        have hm : kd s[p] = mkd s[p] := by unfold kd; rw [hw]; simp
        rw [hm] at hk ⊢
        obtain ⟨m1, m2, _⟩ := mark_at s[p] hk
        refine ⟨m2, ?_⟩
        rw [m1]
        show s[p] :: List.take (tl s[p] (List.drop (p + 1) s)) (List.drop (p + 1) s) = [s[p]]
        unfold tl
        rw [hw]
        simp
      · have hw : inW s[p] = true := by
          cases hw : inW s[p]
          · exfalso
            have : kd s[p] = mkd s[p] := by unfold kd; rw [hw]; simp
            rw [this] at h1
            have := (mark_at s[p] (by omega)).2.1
            omega
          · rfl
        intro c hc
        unfold tl at hc
        rw [hw, if_pos rfl] at hc
        rcases List.mem_cons.1 hc with rfl | hc
        · exact hw
        · exact (wl_all _).1 c hc
      · have hw : inW s[p] = true := by
          cases hw : inW s[p]
          · exfalso
            have : kd s[p] = mkd s[p] := by unfold kd; rw [hw]; simp
            rw [this] at h1
            have := (mark_at s[p] (by omega)).2.1
            omega
          · rfl
        have e : tl s[p] (s.drop (p + 1)) = wl (s.drop (p + 1)) := by unfold tl; rw [hw, if_pos rfl]
        refine (wl_all (s.drop (p + 1))).2 _ (s.drop (p + (1 + tl s[p] (s.drop (p + 1))) + 1)) ?_
        rw [← e, List.drop_drop, ← List.drop_eq_getElem_cons h2]
        congr 1; omega
      · rw [List.drop_drop] at hR hE
        rw [show p + 1 + tl s[p] (s.drop (p + 1)) = p + (1 + tl s[p] (s.drop (p + 1))) by omega] at hR hE
        exact Prod.ext hR hE
  · rw [List.drop_of_length_le (by omega), tq_nil] at h; simp at h
/-- behind the last token -/
theorem tg_last {s : List UInt8} {f : Nat} {E : Int} (h : tg (s.drop f) f = ([], E)) (hf : f ≤ s.length) :
    (E = -1 ∧ (blk false (s.drop f)).1 = true) ∨ ∃ p : Nat, ∃ hp : p < s.length, E = p ∧ f ≤ p ∧ blk false ((s.drop f).take (p - f)) = (true, false) ∧ kd s[p] = 0 ∧ s[p] ≠ 35 ∧ isB s[p] = false := by
  have h0 := h
  unfold tg at h
  rw [List.drop_drop] at h
  have hg := gp_le false (s.drop f)
  have hb := blk_gp false (s.drop f)
  obtain ⟨p, hp⟩ : ∃ p, f + gp false (s.drop f) = p := ⟨_, rfl⟩
  rw [hp] at h
  rw [List.length_drop] at hg hb
  have hpf : gp false (s.drop f) = p - f := by omega
  rw [hpf] at hb
  by_cases hlt : p < s.length
  · have hh : (s.drop f).drop (gp false (s.drop f)) = s[p] :: s.drop (p + 1) := by rw [List.drop_drop, hp, List.drop_eq_getElem_cons hlt]
    have hne := gp_head false (s.drop f) hh
    rw [List.drop_eq_getElem_cons hlt] at h
    by_cases hk : kd s[p] = 0
    · rw [tq_bad hk] at h
      simp only [Prod.mk.injEq, true_and] at h
      exact .inr ⟨p, hlt, h.symm, by omega, Prod.ext hb.1 (hb.2 (by omega)), hk, hne.1, hne.2⟩
    · rw [tq_tok hk] at h; simp at h
  · rw [List.drop_of_length_le (by omega), tq_nil] at h
    simp only [Prod.mk.injEq, true_and] at h
    refine .inl ⟨h.symm, ?_⟩
    have := hb.1
    rw [List.take_of_length_le (by rw [List.length_drop]; omega)] at this
    exact this
/-- where it ends -/
theorem tg_end : ∀ (R : List Tk) (s : List UInt8) (f : Nat) (E : Int), tg (s.drop f) f = (R, E) → f ≤ s.length → E = -1 ∨ ∃ p : Nat, p < s.length ∧ E = p
  | [], s, f, E, h, hf => by
    rcases tg_last h hf with ⟨h1, _⟩ | ⟨p, hp, h1, _⟩
    · exact .inl h1
    · exact .inr ⟨p, hp, h1⟩
  | t :: R, s, f, E, h, hf => by
    obtain ⟨p, m, κ, _, _, hs, h2⟩ := tg_stands h hf
    exact tg_end R s (p + m) E h2 hs.pm
end Go.Proofs.Ytclpbhoopmdojaa
