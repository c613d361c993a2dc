/-
  The order, worked out by counting: plain lists.
-/
import Derived.Test.YtjohhmfncemknaaHq
namespace Go.Proofs.Ytjohhmfncemknaa

/-- how many ends are not told yet; those of b's that still wait count b too -/
def wt (out : Lb → List Lb) (T pend : List Lb) (a : Lb) : Nat := (out a).countP (fun c => !decide (c ∈ T)) + (if a ∈ pend then 1 else 0)
structure GF (ns : List Lb) (out : Lb → List Lb) : Prop where
  nd : ns.Nodup
  up : ∀ a, UpL (out a)
  sub : ∀ a b, b ∈ out a → a ∈ ns ∧ b ∈ ns
theorem GR.gf {w : World} {F : Nat → Prop} {g : Nat} {ns : List Lb} {out : Lb → List Lb} (h : GR w F g ns out) : GF ns out := ⟨h.nd, h.up, h.sub⟩
theorem GF.eg {ns : List Lb} {out : Lb → List Lb} (h : GF ns out) (a b : Lb) : (a, b) ∈ Eg ns out ↔ b ∈ out a := by
  unfold Eg
  rw [List.mem_flatMap]
  constructor
  · rintro ⟨x, _, hx⟩
    obtain ⟨y, hy, e⟩ := List.mem_map.1 hx
    injection e with e1 e2
    subst e1 e2
    exact hy
  · intro hb
    exact ⟨a, (h.sub a b hb).1, List.mem_map.2 ⟨b, hb, rfl⟩⟩
structure OI (ns : List Lb) (out : Lb → List Lb) (T fl pend : List Lb) : Prop where
  nd : T.Nodup
  sub : ∀ a ∈ T, a ∈ ns
  cl : ∀ a ∈ T, ∀ c ∈ out a, c ∈ T
  fnd : fl.Nodup
  fm : ∀ a, a ∈ fl ↔ a ∈ ns ∧ a ∉ T ∧ wt out T pend a = 0
  od : Gs.ord (rs ns) (Eg ns out) = Gs.ordF (rs ns) (Eg ns out) ((rs ns).length - T.length) T
  ln : T.length ≤ (rs ns).length
theorem countP_zero {l T : List Lb} : l.countP (fun c => !decide (c ∈ T)) = 0 ↔ ∀ c ∈ l, c ∈ T := by
  rw [List.countP_eq_zero]
  constructor
  · intro h c hc
    have := h c hc
    simpa using this
  · intro h c hc
    simp [h c hc]
theorem find_least {l : List Lb} (hl : UpL l) {p : Lb → Bool} {b : Lb} (hb : b ∈ l) (hp : p b = true) (hm : ∀ x ∈ l, p x = true → leL b x) : l.find? p = some b := by
  induction l with
  | nil => simp at hb
  | cons y r ih =>
    obtain ⟨h1, h2⟩ := List.pairwise_cons.1 hl
    rw [List.find?_cons]
    by_cases hpy : p y = true
    · rw [hpy]
      rcases List.mem_cons.1 hb with rfl | hbr
      · rfl
      · have h3 := hm y (by simp) hpy
        have h4 := h1 b hbr
        unfold leL at h3
        rw [h4] at h3; cases h3
    · have : p y = false := by simpa using hpy
      rw [this]
      rcases List.mem_cons.1 hb with rfl | hbr
      · rw [this] at hp; cases hp
      · exact ih h2 hbr (fun x hx => hm x (by simp [hx]))
theorem OI.cand {ns : List Lb} {out : Lb → List Lb} (g : GF ns out) {T fl : List Lb} (h : OI ns out T fl []) (a : Lb) (ha : a ∈ ns) : (!decide (a ∈ T) && Gs.rdy (Eg ns out) T a) = true ↔ a ∈ fl := by
  rw [h.fm a]
  simp only [Bool.and_eq_true, Bool.not_eq_true', decide_eq_false_iff_not, Gs.rdy_iff, wt]
  have e : (if a ∈ ([] : List Lb) then 1 else 0) = 0 := by simp
  rw [e, Nat.add_zero, countP_zero]
  constructor
  · rintro ⟨h1, h2⟩
    exact ⟨ha, h1, fun c hc => h2 c ((g.eg a c).2 hc)⟩
  · rintro ⟨_, h1, h2⟩
    exact ⟨h1, fun c hc => h2 c ((g.eg a c).1 hc)⟩
theorem OI.nxt {ns : List Lb} {out : Lb → List Lb} (g : GF ns out) {T fl : List Lb} (h : OI ns out T fl []) {b : Lb} (hb : b ∈ fl) (hm : ∀ x ∈ fl, leL b x) : Gs.nxt (rs ns) (Eg ns out) T = some b := by
  have hbn := ((h.fm b).1 hb).1
  refine find_least (Gs.ris_up stoL ns) ((Gs.mem_ris b ns).2 hbn) ((h.cand g b hbn).2 hb) (fun x hx hp => hm x ?_)
  exact (h.cand g x ((Gs.mem_ris x ns).1 hx)).1 hp
theorem OI.last {ns : List Lb} {out : Lb → List Lb} (g : GF ns out) {T : List Lb} (h : OI ns out T [] []) : Gs.ord (rs ns) (Eg ns out) = if T.length < (rs ns).length then none else some T := by
  rw [h.od]
  split
  · rename_i hlt
    obtain ⟨k, hk⟩ : ∃ k, (rs ns).length - T.length = k + 1 := ⟨(rs ns).length - T.length - 1, by omega⟩
    rw [hk]
    unfold Gs.ordF
    have : Gs.nxt (rs ns) (Eg ns out) T = none := by
      unfold Gs.nxt
      rw [List.find?_eq_none]
      intro x hx hp
      have := (h.cand g x ((Gs.mem_ris x ns).1 hx)).1 hp
      simp at this
    rw [this]
  · rename_i hlt
    rw [show (rs ns).length - T.length = 0 by omega]
    rfl
theorem nodup_sub_len {T ns : List Lb} (h : T.Nodup) (hs : ∀ a ∈ T, a ∈ ns) : T.length ≤ (rs ns).length := Gs.nodup_sub T (rs ns) h (fun x hx => (Gs.mem_ris x ns).2 (hs x hx))
theorem countP_snoc {l T : List Lb} {b : Lb} (hl : l.Nodup) (hb : b ∉ T) : l.countP (fun c => !decide (c ∈ T)) = l.countP (fun c => !decide (c ∈ T ++ [b])) + (if b ∈ l then 1 else 0) := by
  induction l with
  | nil => simp
  | cons x r ih =>
    obtain ⟨h1, h2⟩ := List.nodup_cons.1 hl
    have ih := ih h2
    rw [List.countP_cons, List.countP_cons, ih]
    by_cases hx : x = b
    · subst hx
      simp [hb, h1]
    · have hbx : b ≠ x := fun e => hx e.symm
      by_cases hT : x ∈ T
      · simp [hT, hbx]
      · simp [hT, hx, hbx]; omega
theorem OI.pop {ns : List Lb} {out : Lb → List Lb} (g : GF ns out) {T fl : List Lb} (h : OI ns out T fl []) {b : Lb} (hm : ∀ x ∈ fl, leL b x) {fl' : List Lb} (hp : (fl' ++ [b]).Perm fl) {P : List Lb} (hP : ∀ a, a ∈ P ↔ b ∈ out a) :
    OI ns out (T ++ [b]) fl' P ∧ (∀ a, wt out (T ++ [b]) P a = wt out T [] a) ∧ ∀ a ∈ P, a ∈ ns ∧ a ∉ T ++ [b] := by
  have hb : b ∈ fl := hp.mem_iff.1 (by simp)
  obtain ⟨hbn, hbT, hbw⟩ := (h.fm b).1 hb
  have hrb : ∀ c ∈ out b, c ∈ T := by
    unfold wt at hbw
    exact countP_zero.1 (by omega)
  have hw : ∀ a, wt out (T ++ [b]) P a = wt out T [] a := by
    intro a
    unfold wt
    rw [countP_snoc (Gs.Ris.nodup stoL (g.up a)) hbT]
    have e1 : (if a ∈ ([] : List Lb) then 1 else 0) = 0 := by simp
    rw [e1, Nat.add_zero]
    congr 1
    by_cases hx : b ∈ out a
    · rw [if_pos ((hP a).2 hx), if_pos hx]
    · rw [if_neg (fun e => hx ((hP a).1 e)), if_neg hx]
  have hnd : (fl' ++ [b]).Nodup := hp.nodup_iff.2 h.fnd
  have hndT : (T ++ [b]).Nodup := by
    rw [List.nodup_append]
    refine ⟨h.nd, by simp, ?_⟩
    intro x hx y hy
    have : y = b := by simpa using hy
    subst this
    rintro rfl
    exact hbT hx
  have hsubT : ∀ a ∈ T ++ [b], a ∈ ns := by
    intro a ha
    rcases List.mem_append.1 ha with ha | ha
    · exact h.sub a ha
    · have : a = b := by simpa using ha
      rw [this]; exact hbn
  have hlen := nodup_sub_len hndT hsubT
  refine ⟨⟨hndT, hsubT, ?_, (List.nodup_append.1 hnd).1, ?_, ?_, hlen⟩, hw, ?_⟩
  · intro a ha c hc
    rcases List.mem_append.1 ha with ha | ha
    · exact List.mem_append.2 (.inl (h.cl a ha c hc))
    · have : a = b := by simpa using ha
      subst this
      exact List.mem_append.2 (.inl (hrb c hc))
  · intro a
    rw [hw a]
    have h1 : a ∈ fl ↔ a ∈ fl' ∨ a = b := by rw [← hp.mem_iff]; simp
    have h2 : a ∈ fl' → a ≠ b := by
      intro ha e
      exact (List.nodup_append.1 hnd).2.2 a ha b (by simp) e
    rw [show (a ∉ T ++ [b]) ↔ (a ∉ T ∧ a ≠ b) by simp]
    constructor
    · intro ha
      obtain ⟨x1, x2, x3⟩ := (h.fm a).1 (h1.2 (.inl ha))
      exact ⟨x1, ⟨x2, h2 ha⟩, x3⟩
    · rintro ⟨x1, ⟨x2, x3⟩, x4⟩
      rcases h1.1 ((h.fm a).2 ⟨x1, x2, x4⟩) with h5 | h5
      · exact h5
      · exact absurd h5 x3
  · rw [h.od]
    have hl2 : (T ++ [b]).length = T.length + 1 := by simp
    rw [hl2] at hlen ⊢
    obtain ⟨k, hk⟩ : ∃ k, (rs ns).length - T.length = k + 1 := ⟨(rs ns).length - T.length - 1, by omega⟩
    rw [hk, show (rs ns).length - (T.length + 1) = k by omega]
    conv => lhs; unfold Gs.ordF
    rw [h.nxt g hb hm]
  · intro a ha
    have hba := (hP a).1 ha
    refine ⟨(g.sub a b hba).1, ?_⟩
    intro e
    rcases List.mem_append.1 e with e | e
    · exact hbT (h.cl a e b hba)
    · have : a = b := by simpa using e
      subst this
      exact hbT (hrb a hba)
theorem wt_cons {out : Lb → List Lb} {T P : List Lb} {a : Lb} (ha : a ∉ P) : wt out T (a :: P) a = wt out T P a + 1 ∧ ∀ x, x ≠ a → wt out T (a :: P) x = wt out T P x := by
  unfold wt
  refine ⟨by simp [ha], fun x hx => by simp [hx]⟩
theorem OI.more {ns : List Lb} {out : Lb → List Lb} {T fl P : List Lb} {a : Lb} (h : OI ns out T fl (a :: P)) (ha : a ∉ P) (han : a ∈ ns) (haT : a ∉ T) :
    (wt out T P a ≠ 0 → OI ns out T fl P) ∧ (wt out T P a = 0 → ∀ fl' : List Lb, fl'.Perm (fl ++ [a]) → OI ns out T fl' P) := by
  obtain ⟨w1, w2⟩ := wt_cons (out := out) (T := T) ha
  have hna : a ∉ fl := by
    intro e
    have := ((h.fm a).1 e).2.2
    omega
  refine ⟨fun h0 => ⟨h.nd, h.sub, h.cl, h.fnd, fun x => ?_, h.od, h.ln⟩, fun h0 fl' hp => ⟨h.nd, h.sub, h.cl, ?_, fun x => ?_, h.od, h.ln⟩⟩
  · by_cases hx : x = a
    · subst hx
      constructor
      · intro e; exact absurd e hna
      · rintro ⟨_, _, e⟩; exact absurd e h0
    · rw [h.fm x, w2 x hx]
  · rw [hp.nodup_iff, List.nodup_append]
    refine ⟨h.fnd, by simp, ?_⟩
    intro x hx y hy
    have : y = a := by simpa using hy
    subst this
    rintro rfl
    exact hna hx
  · rw [hp.mem_iff, List.mem_append]
    by_cases hx : x = a
    · subst hx
      constructor
      · intro _; exact ⟨han, haT, h0⟩
      · intro _; right; simp
    · rw [h.fm x, w2 x hx]
      simp [hx]
theorem OI.start {ns : List Lb} {out : Lb → List Lb} {fl : List Lb} (hf : fl.Nodup) (hm : ∀ a, a ∈ fl ↔ a ∈ ns ∧ out a = []) : OI ns out [] fl [] := by
  refine ⟨List.nodup_nil, by simp, by simp, hf, fun a => ?_, rfl, by simp⟩
  rw [hm a]
  unfold wt
  have e : (out a).countP (fun c => !decide (c ∈ ([] : List Lb))) = (out a).length := by simp
  rw [e]
  simp
theorem wt_start (out : Lb → List Lb) (a : Lb) : wt out [] [] a = (out a).length := by simp [wt]
end Go.Proofs.Ytjohhmfncemknaa
