/-
  What is parsed is good: it is printed, and each part of it parses again.
-/
import Derived.Test.YtemoplpfndnklaaGreatDoorPw
import Derived.Test.YtemoplpfndnklaaGreatDoorWrt
import Derived.Test.YtemoplpfndnklaaGreatDoorJBkA
namespace Go.Proofs.YtemoplpfndnklaaGreatDoor

/-- a word -/
def Wd (x : List UInt8) : Prop := x ≠ [] ∧ ∀ c ∈ x, inW c = true
theorem okB_w {c : UInt8} (h : okB c = true) : inW c = true := by
  revert h
  exact u8_all (P := fun c => okB c = true → inW c = true) (by decide +kernel) c
theorem okC_w {x : List UInt8} (h : okC x = true) : Wd x := by
  unfold okC at h
  simp only [Bool.and_eq_true, Bool.not_eq_true', List.all_eq_true] at h
  refine ⟨fun e => ?_, fun c hc => okB_w (h.2 c hc)⟩
  rw [e] at h; simp at h
theorem okP_w {x : List UInt8} (h : okP x = true) : ∀ c ∈ x, inW c = true := by
  intro c hc
  unfold okP at h
  simp only [Bool.and_eq_true, List.all_eq_true] at h
  rcases sp_mem x c hc with rfl | ⟨y, hy, hcy⟩
  · decide
  · by_cases h0 : x = []
    · subst h0; cases hc
    · have : y ∈ pcs x := by unfold pcs; rw [if_neg h0]; exact hy
      exact (okC_w (h.2 y this)).2 c hcy
theorem prt_w {x : Lb} (h : okL x = true) : Wd (prt x) := by
  unfold okL at h
  simp only [Bool.and_eq_true] at h
  refine ⟨by simp [prt], fun c hc => ?_⟩
  simp only [prt, List.mem_cons, List.mem_append] at hc
  rcases hc with rfl | rfl | hc | rfl | hc
  · decide
  · decide
  · exact okP_w h.1 c hc
  · decide
  · exact (okC_w h.2).2 c hc
/-- a target as it is parsed -/
structure GT (p : List UInt8) (t : Tg) : Prop where
  name : okC t.name = true
  srcs : ∀ x ∈ t.srcs, srcW p x = true ∧ Wd x
  srcsN : t.srcs.Nodup
  srcsL : t.srcs.length ≤ 64
  deps : ∀ x ∈ t.deps, okL x = true
  depsN : t.deps.Nodup
  depsL : t.deps.length ≤ 64
  see : ∀ x ∈ t.see, ser x = true ∧ Wd x
  seeN : t.see.Nodup
  seeL : t.see.length ≤ 64
structure GL (p : List UInt8) (l : List Tg) : Prop where
  each : ∀ t ∈ l, GT p t
  names : (l.map Tg.name).Nodup
  len : l.length ≤ 64
theorem GT.new {p n : List UInt8} (h : okC n = true) : GT p ⟨n, [], [], []⟩ := ⟨h, by simp, by simp, by simp, by simp, by simp, by simp, by simp, by simp, by simp⟩
theorem hasN_iff {l : List Tg} {n : List UInt8} : hasN l n = false ↔ n ∉ l.map Tg.name := by
  unfold hasN
  rw [Bool.eq_false_iff]
  simp
theorem GL.nil (p : List UInt8) : GL p [] := ⟨by simp, by simp, by simp⟩
theorem GL.snoc {p : List UInt8} {l : List Tg} {t : Tg} (h : GL p l) (ht : GT p t) (hn : hasN l t.name = false) (hl : l.length < 64) : GL p (l ++ [t]) := by
  refine ⟨fun x hx => ?_, ?_, by simp; omega⟩
  · rcases List.mem_append.1 hx with hx | hx
    · exact h.each x hx
    · simp at hx; rw [hx]; exact ht
  · rw [List.map_append, List.nodup_append]
    refine ⟨h.names, by simp, fun a ha b hb => ?_⟩
    simp at hb
    rintro rfl
    rw [hb] at ha
    exact hasN_iff.1 hn ha
theorem snoc_nodup {α : Type} {l : List α} {x : α} (h : l.Nodup) (hx : x ∉ l) : (l ++ [x]).Nodup := by
  rw [List.nodup_append]
  refine ⟨h, by simp, fun a ha b hb => ?_⟩
  simp at hb
  rintro rfl
  rw [hb] at ha; exact hx ha
theorem inn_ok {p w : List UInt8} (h : (inn p w).2 = 0) : okL (inn p w).1 = true := by
  unfold inn at h ⊢
  split at h
  · rename_i h1
    rw [if_pos h1]
    split at h
    · rename_i h2
      rw [if_pos h2, (chk_len h).2]; exact (chk_len h).1
    · rename_i h2
      rw [if_neg h2]
      unfold prs at h ⊢
      split at h
      · rename_i h3
        rw [if_pos h3, (chk_len h).2]; exact (chk_len h).1
      · cases h
  · cases h
theorem GT.add {p f w : List UInt8} {t u : Tg} (h : GT p t) (hw : Wd w) (ha : addI p f t w = some u) : GT p u ∧ u.name = t.name := by
  unfold addI at ha
  split at ha
  · split at ha
    · rename_i h1
      simp only [Bool.and_eq_true, Bool.not_eq_true', decide_eq_true_eq] at h1
      injection ha with ha; subst ha
      refine ⟨⟨h.name, fun x hx => ?_, snoc_nodup h.srcsN (by simpa using h1.2), by simp; omega, h.deps, h.depsN, h.depsL, h.see, h.seeN, h.seeL⟩, rfl⟩
      rcases List.mem_append.1 hx with hx | hx
      · exact h.srcs x hx
      · simp at hx; rw [hx]; exact ⟨h1.1.1, hw⟩
    · cases ha
  · split at ha
    · split at ha
      · rename_i h1
        simp only [Bool.and_eq_true, Bool.not_eq_true', decide_eq_true_eq] at h1
        injection ha with ha; subst ha
        refine ⟨⟨h.name, h.srcs, h.srcsN, h.srcsL, fun x hx => ?_, snoc_nodup h.depsN (by simpa using h1.2), by simp; omega, h.see, h.seeN, h.seeL⟩, rfl⟩
        rcases List.mem_append.1 hx with hx | hx
        · exact h.deps x hx
        · simp at hx; rw [hx]; exact inn_ok h1.1.1
      · cases ha
    · split at ha
      · rename_i h1
        simp only [Bool.and_eq_true, Bool.not_eq_true', decide_eq_true_eq] at h1
        injection ha with ha; subst ha
        refine ⟨⟨h.name, h.srcs, h.srcsN, h.srcsL, h.deps, h.depsN, h.depsL, fun x hx => ?_, snoc_nodup h.seeN (by simpa using h1.2), by simp; omega⟩, rfl⟩
        rcases List.mem_append.1 hx with hx | hx
        · exact h.see x hx
        · simp at hx; rw [hx]; exact ⟨h1.1.1, hw⟩
      · cases ha
/-- what stands while a text is read -/
def Iv (p : List UInt8) : St → Prop
  | .top l => GL p l
  | .nm l => GL p l ∧ l.length < 64
  | .op l n => GL p l ∧ l.length < 64 ∧ okC n = true ∧ hasN l n = false
  | .fl l t _ | .eq l t _ _ | .bg l t _ _ | .i0 l t _ _ | .it l t _ _ | .sp l t _ _ => GL p l ∧ l.length < 64 ∧ GT p t ∧ hasN l t.name = false
theorem Iv.step {p : List UInt8} {st st' : St} {k : Tk} (h : Iv p st) (hk : k.kind = 1 → Wd k.text) (hs : stp p st k = some st') : Iv p st' := by
  cases st with
  | top l =>
    simp only [stp] at hs
    split at hs
    · rename_i h1; injection hs with hs; subst hs; exact ⟨h, h1.2.2⟩
    · cases hs
  | nm l =>
    simp only [stp] at hs
    split at hs
    · rename_i h1; injection hs with hs; subst hs; exact ⟨h.1, h.2, h1.2⟩
    · cases hs
  | op l n =>
    simp only [stp] at hs
    split at hs
    · injection hs with hs; subst hs; exact ⟨h.1, h.2.1, GT.new h.2.2.1, h.2.2.2⟩
    · cases hs
  | fl l t d =>
    simp only [stp] at hs
    split at hs
    · injection hs with hs; subst hs; exact h.1.snoc h.2.2.1 h.2.2.2 h.2.1
    · split at hs
      · injection hs with hs; subst hs; exact h
      · cases hs
  | eq l t d f =>
    simp only [stp] at hs
    split at hs
    · injection hs with hs; subst hs; exact h
    · cases hs
  | bg l t d f =>
    simp only [stp] at hs
    split at hs
    · injection hs with hs; subst hs; exact h
    · cases hs
  | i0 l t d f =>
    simp only [stp] at hs
    split at hs
    · injection hs with hs; subst hs; exact h
    · split at hs
      · rename_i h1
        rw [Option.map_eq_some_iff] at hs
        obtain ⟨u, hu, rfl⟩ := hs
        obtain ⟨g1, g2⟩ := h.2.2.1.add (hk h1) hu
        exact ⟨h.1, h.2.1, g1, by rw [g2]; exact h.2.2.2⟩
      · cases hs
  | it l t d f =>
    simp only [stp] at hs
    split at hs
    · rename_i h1
      rw [Option.map_eq_some_iff] at hs
      obtain ⟨u, hu, rfl⟩ := hs
      obtain ⟨g1, g2⟩ := h.2.2.1.add (hk h1) hu
      exact ⟨h.1, h.2.1, g1, by rw [g2]; exact h.2.2.2⟩
    · cases hs
  | sp l t d f =>
    simp only [stp] at hs
    split at hs
    · injection hs with hs; subst hs; exact h
    · split at hs
      · injection hs with hs; subst hs; exact h
      · cases hs
theorem go_good {p : List UInt8} {E S : Int} (hE : 0 ≤ E) : ∀ (L : List Tk) (st : St), Iv p st → (∀ k ∈ L, (k.kind = 1 → Wd k.text) ∧ 0 ≤ k.at') → (go p E S st L).2 = -1 → GL p (go p E S st L).1
  | [], st, h, _, hr => by
    unfold go at hr ⊢
    cases st with
    | top l =>
      simp only [fin] at hr ⊢
      split at hr
      · simp only at hr; omega
      · rename_i h1; rw [if_neg h1]; exact h
    | _ => simp only [fin] at hr; omega
  | k :: r, st, h, hk, hr => by
    unfold go at hr ⊢
    cases hs : stp p st k with
    | none => rw [hs] at hr; simp only at hr; have := (hk k (by simp)).2; omega
    | some st' =>
      rw [hs] at hr
      exact go_good hE r st' (h.step (hk k (by simp)).1 hs) (fun x hx => hk x (by simp [hx])) hr
theorem wl_in : ∀ (r : List UInt8), ∀ x ∈ r.take (wl r), inW x = true
  | [], x, h => by simp at h
  | c :: r, x, h => by
    unfold wl at h
    split at h
    · rename_i hc
      rw [show 1 + wl r = wl r + 1 from by omega, List.take_succ_cons] at h
      rcases List.mem_cons.1 h with rfl | h
      · exact hc
      · exact wl_in r x h
    · simp at h
theorem tq_word : ∀ (n : Nat) (r : List UInt8) (m : Nat), r.length ≤ n → ∀ k ∈ (tq r m).1, (k.kind = 1 → Wd k.text) ∧ 0 ≤ k.at'
  | 0, r, m, h, k, hk => by
    have : r = [] := List.eq_nil_of_length_eq_zero (by omega)
    subst this
    rw [tq_nil] at hk
    simp at hk
  | n + 1, [], m, h, k, hk => by rw [tq_nil] at hk; simp at hk
  | n + 1, c :: q, m, h, k, hk => by
    by_cases h0 : kd c = 0
    · rw [tq_bad h0] at hk; simp at hk
    · rw [tq_tok h0] at hk
      rcases List.mem_cons.1 hk with rfl | hk
      · refine ⟨fun h1 => ⟨by simp, fun x hx => ?_⟩, by simp⟩
        have hc : inW c = true := by
          cases hc : inW c
          · have h2 : kd c = mkd c := by unfold kd; rw [hc]; rfl
            have h3 : kd c = 1 := by simp only at h1; omega
            have h4 : mkd c ≠ 1 := u8_all (P := fun c => mkd c ≠ 1) (by decide +kernel) c
            omega
          · rfl
        rcases List.mem_cons.1 hx with rfl | hx
        · exact hc
        · unfold ktl at hx; rw [if_pos hc] at hx; exact wl_in q x hx
      · unfold tg at hk
        refine tq_word n _ _ ?_ k hk
        simp only [List.length_drop, List.length_cons] at h ⊢; omega
theorem toks_word (s : List UInt8) : ∀ k ∈ (toks s).1, (k.kind = 1 → Wd k.text) ∧ 0 ≤ k.at' := by
  unfold toks tg
  exact tq_word _ _ _ (Nat.le_refl _)
theorem prsM_ok {p s : List UInt8} (h : (prsM p s).2 = -1) : okP p = true := by
  cases hp : okP p
  · unfold prsM at h; rw [if_neg (by rw [hp]; decide)] at h; cases h
  · rfl
theorem prsM_short {p s : List UInt8} (h : (prsM p s).2 = -1) : s.length ≤ 4096 := by
  by_cases hs : s.length ≤ 4096
  · exact hs
  · unfold prsM at h; rw [if_pos (prsM_ok (by unfold prsM; exact h)), if_neg hs] at h; cases h
theorem prsM_good {p s : List UInt8} (h : (prsM p s).2 = -1) : GL p (prsM p s).1 := by
  have hp := prsM_ok h
  have hs := prsM_short h
  unfold prsM at h ⊢
  rw [if_pos hp, if_pos hs] at h ⊢
  exact go_good (endE_nonneg s) _ _ (GL.nil p) (toks_word s) h

/-! ### what is printed parses -/
def addA (p f : List UInt8) : Tg → List (List UInt8) → Option Tg
  | t, [] => some t
  | t, x :: r => match addI p f t x with
    | none => none
    | some u => addA p f u r
theorem tg_lf (r : List UInt8) (n : Nat) : tg (10 :: r) n = tg r (n + 1) := tg_blank (by decide)
theorem items {p : List UInt8} {E : Int} {l : List Tg} {h : List (List UInt8)} {f : List UInt8} : ∀ (L : List (List UInt8)) (t u : Tg) (r : List UInt8) (n : Nat), L ≠ [] → (∀ x ∈ L, Wd x) → addA p f t L = some u →
    gob p E (.it l t h f) (tg (jnw L ++ 93 :: r) n) = gob p E (.fl l u h) (tg r (n + (jnw L).length + 1))
  | [], t, u, r, n, h0, _, _ => absurd rfl h0
  | [x], t, u, r, n, _, hw, ha => by
    obtain ⟨w0, w1⟩ := hw x (by simp)
    unfold addA at ha
    cases hx : addI p f t x with
    | none => rw [hx] at ha; cases ha
    | some v =>
      rw [hx] at ha
      simp only [addA] at ha
      injection ha with ha; subst ha
      show gob p E _ (tg (x ++ 93 :: r) n) = _
      rw [tg_word w0 w1 (nw 93 (by decide) _), gob_some (st' := .sp l v h f) _ (by simp [stp, hx]), tg_mark _ _ (by decide), gob_some (st' := .fl l v h) _ (by simp [stp, mkd])]
      rfl
  | x :: y :: L, t, u, r, n, _, hw, ha => by
    obtain ⟨w0, w1⟩ := hw x (by simp)
    unfold addA at ha
    cases hx : addI p f t x with
    | none => rw [hx] at ha; cases ha
    | some v =>
      rw [hx] at ha
      simp only at ha
      have e : jnw (x :: y :: L) ++ 93 :: r = x ++ 44 :: 32 :: (jnw (y :: L) ++ 93 :: r) := by rw [jnw]; simp
      have e2 : (jnw (x :: y :: L)).length = x.length + 2 + (jnw (y :: L)).length := by rw [jnw]; simp; omega
      rw [e, tg_word w0 w1 (nw 44 (by decide) _), gob_some (st' := .sp l v h f) _ (by simp [stp, hx]), tg_mark _ _ (by decide), gob_some (st' := .it l v h f) _ (by simp [stp, mkd]), tg_sp,
        items (y :: L) v u r _ (by simp) (fun z hz => hw z (by simp [hz])) ha, e2]
      congr 2
      omega
theorem i0_it {p : List UInt8} {E : Int} {l : List Tg} {h : List (List UInt8)} {f : List UInt8} {t : Tg} {x r : List UInt8} {n : Nat} (hx : Wd x) (hr : ∀ c q, r = c :: q → inW c = false) :
    gob p E (.i0 l t h f) (tg (x ++ r) n) = gob p E (.it l t h f) (tg (x ++ r) n) := by
  rw [tg_word hx.1 hx.2 hr, gob_pre, gob_pre]
  simp [stp]
theorem jnw_head : ∀ (x : List UInt8) (L : List (List UInt8)) (r : List UInt8), ∃ q, jnw (x :: L) ++ 93 :: r = x ++ q ∧ ∀ c q', q = c :: q' → inW c = false
  | x, [], r => ⟨93 :: r, rfl, nw 93 (by decide) _⟩
  | x, y :: L, r => ⟨44 :: 32 :: (jnw (y :: L) ++ 93 :: r), by rw [jnw]; simp, nw 44 (by decide) _⟩
theorem field_run {p : List UInt8} {E : Int} {l : List Tg} {h : List (List UInt8)} {f : List UInt8} {t u : Tg} (L : List (List UInt8)) (r : List UInt8) (n : Nat) (hf : isF f = true) (hh : h.contains f = false) (hw : ∀ x ∈ L, Wd x) (ha : addA p f t L = some u) :
    ∃ h', (∀ g, (g == f) = false → h.contains g = false → h'.contains g = false) ∧ gob p E (.fl l t h) (tg (fld f L ++ r) n) = gob p E (.fl l u h') (tg r (n + (fld f L).length)) := by
  obtain ⟨f1, f2, _⟩ := isF_word hf
  cases L with
  | nil =>
    simp only [addA] at ha
    injection ha with ha; subst ha
    exact ⟨h, fun g _ hg => hg, by simp [fld]⟩
  | cons x L =>
    refine ⟨h ++ [f], fun g hg hg2 => ?_, ?_⟩
    · rw [← Bool.not_eq_true] at hg2 ⊢
      simp only [List.contains_iff_mem, List.mem_append, List.mem_singleton] at hg2 ⊢
      rintro (h1 | h1)
      · exact hg2 h1
      · rw [h1] at hg; simp at hg
    · have e : fld f (x :: L) ++ r = 32 :: 32 :: (f ++ 32 :: 61 :: 32 :: 91 :: (jnw (x :: L) ++ 93 :: (10 :: r))) := by simp [fld]
      have e2 : (fld f (x :: L)).length = f.length + (jnw (x :: L)).length + 8 := by simp [fld]; omega
      obtain ⟨q, eq, hq⟩ := jnw_head x L (10 :: r)
      rw [e, tg_sp, tg_sp, tg_word f2 f1 (nw 32 (by decide) _), gob_some (st' := .eq l t (h ++ [f]) f) _ (by simp only [stp]; rw [if_neg (by decide), if_pos ⟨trivial, hh, hf⟩]), tg_sp, tg_mark _ _ (by decide), gob_some (st' := .bg l t (h ++ [f]) f) _ (by simp [stp, mkd]), tg_sp,
        tg_mark _ _ (by decide), gob_some (st' := .i0 l t (h ++ [f]) f) _ (by simp [stp, mkd]), eq, i0_it (hw x (by simp)) hq, ← eq, items (x :: L) t u _ _ (by simp) hw ha, tg_lf, e2]
      congr 2
      omega
theorem addA_srcs {p : List UInt8} : ∀ (L : List (List UInt8)) (t : Tg), (∀ x ∈ L, srcW p x = true) → (t.srcs ++ L).Nodup → (t.srcs ++ L).length ≤ 64 → addA p wSrcs t L = some { t with srcs := t.srcs ++ L }
  | [], t, _, _, _ => by simp [addA]
  | x :: L, t, hx, hn, hl => by
    have h1 : addI p wSrcs t x = some { t with srcs := t.srcs ++ [x] } := by
      unfold addI
      rw [if_pos rfl, if_pos]
      simp only [Bool.and_eq_true, Bool.not_eq_true', decide_eq_true_eq]
      refine ⟨⟨hx x (by simp), by simp at hl; omega⟩, ?_⟩
      rw [List.nodup_append] at hn
      rw [← Bool.not_eq_true, List.contains_iff_mem]
      exact fun hm => hn.2.2 x hm x (by simp) rfl
    unfold addA
    rw [h1]
    simp only
    rw [addA_srcs L _ (fun y hy => hx y (by simp [hy])) (by simpa using hn) (by simpa using hl)]
    simp
theorem inn_prt {p : List UInt8} {x : Lb} (hp : okP p = true) (h : okL x = true) : inn p (prt x) = (x, 0) := by
  unfold inn
  rw [if_pos hp, if_neg (by simp [prt]), prs_good h]
theorem addA_deps {p : List UInt8} (hp : okP p = true) : ∀ (L : List Lb) (t : Tg), (∀ x ∈ L, okL x = true) → (t.deps ++ L).Nodup → (t.deps ++ L).length ≤ 64 → addA p wDeps t (L.map prt) = some { t with deps := t.deps ++ L }
  | [], t, _, _, _ => by simp [addA]
  | x :: L, t, hx, hn, hl => by
    have e := inn_prt hp (hx x (by simp))
    have h1 : addI p wDeps t (prt x) = some { t with deps := t.deps ++ [x] } := by
      unfold addI
      rw [if_neg (by decide), if_pos rfl, e, if_pos]
      simp only [Bool.and_eq_true, Bool.not_eq_true', decide_eq_true_eq]
      refine ⟨⟨trivial, by simp at hl; omega⟩, ?_⟩
      rw [List.nodup_append] at hn
      rw [← Bool.not_eq_true, List.contains_iff_mem]
      exact fun hm => hn.2.2 x hm x (by simp) rfl
    rw [List.map_cons]
    unfold addA
    rw [h1]
    simp only
    rw [addA_deps hp L _ (fun y hy => hx y (by simp [hy])) (by simpa using hn) (by simpa using hl)]
    simp
theorem addA_see {p : List UInt8} : ∀ (L : List (List UInt8)) (t : Tg), (∀ x ∈ L, ser x = true) → (t.see ++ L).Nodup → (t.see ++ L).length ≤ 64 → addA p wSee t L = some { t with see := t.see ++ L }
  | [], t, _, _, _ => by simp [addA]
  | x :: L, t, hx, hn, hl => by
    have h1 : addI p wSee t x = some { t with see := t.see ++ [x] } := by
      unfold addI
      rw [if_neg (by decide), if_neg (by decide), if_pos]
      simp only [Bool.and_eq_true, Bool.not_eq_true', decide_eq_true_eq]
      refine ⟨⟨hx x (by simp), by simp at hl; omega⟩, ?_⟩
      rw [List.nodup_append] at hn
      rw [← Bool.not_eq_true, List.contains_iff_mem]
      exact fun hm => hn.2.2 x hm x (by simp) rfl
    unfold addA
    rw [h1]
    simp only
    rw [addA_see L _ (fun y hy => hx y (by simp [hy])) (by simpa using hn) (by simpa using hl)]
    simp
theorem one_run {p : List UInt8} {E : Int} {l : List Tg} {t : Tg} (hp : okP p = true) (ht : GT p t) (hn : hasN l t.name = false) (hl : l.length < 64) (r : List UInt8) (n : Nat) :
    gob p E (.top l) (tg (one t ++ r) n) = gob p E (.top (l ++ [t])) (tg r (n + (one t).length)) := by
  obtain ⟨c0, c1⟩ := okC_w ht.name
  have e : one t ++ r = wTarget ++ 32 :: (t.name ++ 32 :: 123 :: 10 :: (fld wSrcs t.srcs ++ (fld wDeps (t.deps.map prt) ++ (fld wSee t.see ++ 125 :: 10 :: r)))) := by simp [one]
  have e2 := one_len t
  obtain ⟨h1, k1, r1⟩ := field_run (p := p) (E := E) (l := l) (h := []) (t := ⟨t.name, [], [], []⟩) t.srcs (fld wDeps (t.deps.map prt) ++ (fld wSee t.see ++ 125 :: 10 :: r)) (n + 6 + 1 + t.name.length + 1 + 1 + 1) (f := wSrcs) (by decide) rfl (fun x hx => (ht.srcs x hx).2) (addA_srcs t.srcs ⟨t.name, [], [], []⟩ (fun x hx => (ht.srcs x hx).1) (by simpa using ht.srcsN) (by simpa using ht.srcsL))
  obtain ⟨h2, k2, r2⟩ := field_run (p := p) (E := E) (l := l) (h := h1) (t := ⟨t.name, t.srcs, [], []⟩) (t.deps.map prt) (fld wSee t.see ++ 125 :: 10 :: r) (n + 6 + 1 + t.name.length + 1 + 1 + 1 + (fld wSrcs t.srcs).length) (f := wDeps) (by decide) (k1 wDeps (by decide) rfl) (fun x hx => by
    obtain ⟨y, hy, rfl⟩ := List.mem_map.1 hx; exact prt_w (ht.deps y hy)) (addA_deps hp t.deps ⟨t.name, t.srcs, [], []⟩ ht.deps (by simpa using ht.depsN) (by simpa using ht.depsL))
  obtain ⟨h3, k3, r3⟩ := field_run (p := p) (E := E) (l := l) (h := h2) (t := ⟨t.name, t.srcs, t.deps, []⟩) t.see (125 :: 10 :: r) (n + 6 + 1 + t.name.length + 1 + 1 + 1 + (fld wSrcs t.srcs).length + (fld wDeps (t.deps.map prt)).length) (f := wSee) (by decide) (k2 wSee (by decide) (k1 wSee (by decide) rfl)) (fun x hx => (ht.see x hx).2) (addA_see t.see ⟨t.name, t.srcs, t.deps, []⟩ (fun x hx => (ht.see x hx).1) (by simpa using ht.seeN) (by simpa using ht.seeL))
  have e3 : wTarget.length = 6 := rfl
  rw [e, tg_word (by decide) wTarget_w (nw 32 (by decide) _), gob_some (st' := .nm l) _ (by simp [stp, hl]), tg_sp, tg_word c0 c1 (nw 32 (by decide) _), gob_some (st' := .op l t.name) _ (by simp only [stp]; rw [if_pos ⟨trivial, ht.name, hn⟩]), tg_sp,
    tg_mark _ _ (by decide), gob_some (st' := .fl l ⟨t.name, [], [], []⟩ []) _ (by simp [stp, mkd]), tg_lf, e3, r1]
  simp only [List.nil_append] at r2 r3 ⊢
  rw [r2, r3, tg_mark _ _ (by decide), gob_some (st' := .top (l ++ [t])) _ (by simp [stp, mkd]), tg_lf]
  congr 2
  omega
theorem wrt_run {p : List UInt8} {E : Int} (hp : okP p = true) : ∀ (b l : List Tg) (n : Nat), GL p (l ++ b) → gob p E (.top l) (tg (wrt b) n) = (l ++ b, -1)
  | [], l, n, h => by
    rw [wrt, gob_end]
    simp [fin]
  | t :: b, l, n, h => by
    have hl : l.length < 64 := by have := h.len; simp at this; omega
    have hn : hasN l t.name = false := by
      rw [hasN_iff]
      intro hm
      have := h.names
      rw [List.map_append, List.nodup_append] at this
      exact this.2.2 _ hm _ (by simp) rfl
    rw [wrt_cons, one_run hp (h.each t (by simp)) hn hl, wrt_run hp b (l ++ [t]) _ (by simpa using h)]
    simp
theorem prsM_wrt {p : List UInt8} {l : List Tg} (hp : okP p = true) (h : GL p l) (hl : (wrt l).length ≤ 4096) : prsM p (wrt l) = (l, -1) := by
  rw [prsM_gob hp hl, wrt_run hp l [] 0 h]; rfl
theorem GL.sub {p : List UInt8} {l a : List Tg} (h : GL p l) (hs : a.Sublist l) : GL p a :=
  ⟨fun t ht => h.each t (hs.mem ht), h.names.sublist (hs.map _), Nat.le_trans hs.length_le h.len⟩
theorem prM_wrt {p : List UInt8} {l : List Tg} (hp : okP p = true) (h : GL p l) (hl : (wrt l).length ≤ 4096) : prM p l = (wrt l, 0) := by
  unfold prM
  rw [prsM_wrt hp h hl, if_pos hp, if_pos ⟨rfl, rfl⟩]
theorem prM_long {p : List UInt8} {l : List Tg} (hp : okP p = true) (h : (prM p l).2 ≠ 0) : prM p l = ([], 18) := by
  unfold prM at h ⊢
  rw [if_pos hp] at h ⊢
  split at h
  · exact absurd rfl h
  · rename_i h1; rw [if_neg h1]
end Go.Proofs.YtemoplpfndnklaaGreatDoor
