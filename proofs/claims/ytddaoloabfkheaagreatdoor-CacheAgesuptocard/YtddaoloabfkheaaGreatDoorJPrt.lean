/-
  The document's globs are the program's.
  Tokens of words and marks; what Parse answers of a manifest of one word.
  Targets as a text.
  What is parsed is good: it is printed, and each part of it parses again.
  Print.
-/
import Derived.Test.YtddaoloabfkheaaGreatDoorJRd
import Derived.Test.YtddaoloabfkheaaGreatDoorJRefP
import Derived.Test.YtddaoloabfkheaaGreatDoorJSameg
import Derived.Shelf.Strings.BuilderK
namespace Go.Proofs.YtddaoloabfkheaaGreatDoor

/-- the package's directory and a word together -/
def whl (p s : List UInt8) : List UInt8 := if p = [] then s else p ++ 47 :: s
/-- the document's glob -/
def rGlb (p s : List UInt8) : Bool :=
  (decide (base s = s) || !decide (dir s = [])) && (base s).all (fun c => c == 42 || okB c) && decide ((base s).count 42 = 1) && decide ((base s).length ≤ 32) && okP (if base s = s then [] else dir s) && decide ((whl p s).length ≤ 120) && decide ((pcs (whl p s)).length ≤ 12)
def rSrc (p s : List UInt8) : Bool := rGlb p s || (decide ((jn p s).2 = 0) && !decide (s = []) && !(base s == wName))

theorem okB_star : okB 42 = false := by decide
theorem okB_a : okB 97 = true := by decide
theorem rep1_split : ∀ (l : List UInt8), (42 : UInt8) ∈ l → ∃ x y, l = x ++ 42 :: y ∧ (42 : UInt8) ∉ x ∧ rep1 l = x ++ 97 :: y
  | [], h => by simp at h
  | c :: r, h => by
    by_cases hc : c = 42
    · subst hc
      exact ⟨[], r, rfl, by simp, by simp [rep1]⟩
    · have hr : (42 : UInt8) ∈ r := by
        rcases List.mem_cons.1 h with h | h
        · exact absurd h.symm hc
        · exact h
      obtain ⟨x, y, h1, h2, h3⟩ := rep1_split r hr
      refine ⟨c :: x, y, by rw [h1]; rfl, ?_, by rw [rep1, if_neg hc, h3]; rfl⟩
      simp only [List.mem_cons, not_or]
      exact ⟨fun e => hc e.symm, h2⟩
theorem rep1_app : ∀ (a b : List UInt8), rep1 (a ++ b) = if (42 : UInt8) ∈ a then rep1 a ++ b else a ++ rep1 b
  | [], b => by simp
  | c :: r, b => by
    by_cases hc : c = 42
    · subst hc; simp [rep1]
    · have ih := rep1_app r b
      have e : ((42 : UInt8) ∈ c :: r) ↔ (42 : UInt8) ∈ r := by simp [Ne.symm hc]
      rw [List.cons_append, rep1, if_neg hc, ih]
      by_cases h : (42 : UInt8) ∈ r
      · rw [if_pos h, if_pos (e.2 h), rep1, if_neg hc]; rfl
      · rw [if_neg h, if_neg (fun x => h (e.1 x))]; rfl
/-- a component with its star made a letter -/
theorem okC_rep1 {b : List UInt8} (h : (42 : UInt8) ∈ b) : okC (rep1 b) = (b.all (fun c => c == 42 || okB c) && decide (b.count 42 = 1) && decide (b.length ≤ 32)) := by
  obtain ⟨x, y, rfl, hx, hr⟩ := rep1_split b h
  rw [hr]
  have hne : ∀ d : List UInt8, (97 : UInt8) ∉ d → (x ++ 97 :: y == d) = false := fun d hd => by
    rw [beq_eq_false_iff_ne]; intro e; apply hd; rw [← e]; simp
  unfold okC
  rw [hne [] (by simp), hne [46] (by decide), hne [46, 46] (by decide), hne [46, 46, 46] (by decide)]
  have cx : x.count 42 = 0 := List.count_eq_zero.2 hx
  have c1 : (x ++ 42 :: y).count 42 = y.count 42 + 1 := by simp [List.count_append, cx]
  rw [c1]
  have ax : x.all (fun c => c == 42 || okB c) = x.all okB := by
    rw [Bool.eq_iff_iff]; simp only [List.all_eq_true]
    constructor
    · intro h c hc
      have h1 := h c hc
      have : c ≠ 42 := fun e => hx (e ▸ hc)
      simpa [this] using h1
    · intro h c hc; simp [h c hc]
  simp only [List.all_append, List.all_cons, okB_a, Bool.true_and, ax, Bool.not_false, List.length_append, List.length_cons]
  by_cases hy : y.count 42 = 0
  · have ay : y.all (fun c => c == 42 || okB c) = y.all okB := by
      rw [Bool.eq_iff_iff]; simp only [List.all_eq_true]
      constructor
      · intro h c hc
        have h1 := h c hc
        have : c ≠ 42 := fun e => (List.count_eq_zero.1 hy) (e ▸ hc)
        simpa [this] using h1
      · intro h c hc; simp [h c hc]
    rw [ay, hy]
    simp [Bool.and_comm]
  · have h2 : y.all okB = false := by
      rw [Bool.eq_false_iff]
      intro h
      have hm : (42 : UInt8) ∈ y := by
        by_cases hm : (42 : UInt8) ∈ y
        · exact hm
        · exact absurd (List.count_eq_zero.2 hm) hy
      have := List.all_eq_true.1 h 42 hm
      rw [okB_star] at this; cases this
    have h3 : decide (y.count 42 + 1 = 1) = false := by simpa using hy
    rw [h2, h3]; simp
theorem okC_star {b : List UInt8} (h : (42 : UInt8) ∈ b) : okC b = false := by
  unfold okC
  have : b.all okB = false := by
    rw [Bool.eq_false_iff]; intro ha
    have := List.all_eq_true.1 ha 42 h
    rw [okB_star] at this; cases this
  rw [this]; simp

theorem rep1_length : ∀ (l : List UInt8), (rep1 l).length = l.length
  | [] => rfl
  | c :: r => by unfold rep1; split <;> simp [rep1_length r]
theorem rep1_count : ∀ (l : List UInt8), (rep1 l).count 47 = l.count 47
  | [] => rfl
  | c :: r => by
    unfold rep1
    split
    · rename_i h; subst h; simp
    · rw [List.count_cons, List.count_cons, rep1_count r]
theorem rep1_nil (l : List UInt8) : rep1 l = [] ↔ l = [] := by
  constructor
  · intro h
    have := congrArg List.length h
    rw [rep1_length] at this; exact List.eq_nil_of_length_eq_zero this
  · rintro rfl; rfl
theorem dep_rep1 (l : List UInt8) : dep (rep1 l) = dep l := by
  unfold dep
  by_cases h : l = []
  · subst h; rfl
  · rw [if_neg h, if_neg (fun e => h ((rep1_nil l).1 e)), rep1_count]
theorem whl_rep1 (p s : List UInt8) : (whl p (rep1 s)).length = (whl p s).length ∧ (pcs (whl p (rep1 s))).length = (pcs (whl p s)).length := by
  unfold whl
  by_cases hp : p = []
  · rw [if_pos hp, if_pos hp, rep1_length, dep_eq, dep_eq, dep_rep1]; exact ⟨rfl, rfl⟩
  · rw [if_neg hp, if_neg hp]
    refine ⟨by simp [rep1_length], ?_⟩
    rw [dep_eq, dep_eq]
    unfold dep
    rw [if_neg (by simp), if_neg (by simp)]
    simp [rep1_count]
theorem jn0 (p w : List UInt8) (hp : okP p = true) (hw : w ≠ []) : decide ((jn p w).2 = 0) = (okP w && decide ((whl p w).length ≤ 120) && decide ((pcs (whl p w)).length ≤ 12)) := by
  cases ho : okP w
  · rw [jn_bad p w (fun h => by rw [ho] at h; exact absurd h.2 (by simp))]; rfl
  · by_cases h0 : p = []
    · subst h0
      rw [jn_left w ho]
      have := okP_len ho
      have e : whl [] w = w := rfl
      rw [e, dep_eq]
      simp [this.1, this.2]
    · rw [jn_both p w hp ho h0 hw]
      have e : whl p w = p ++ 47 :: w := by unfold whl; rw [if_neg h0]
      rw [e, pcs_append p w h0 hw]
      simp only [List.length_append, List.length_cons, Bool.true_and]
      by_cases hc : p.length + w.length + 1 ≤ 120 ∧ (pcs p).length + (pcs w).length ≤ 12
      · rw [if_pos hc, decide_eq_true (by omega : p.length + (w.length + 1) ≤ 120), decide_eq_true hc.2]; rfl
      · rw [if_neg hc]
        by_cases h1 : p.length + w.length + 1 ≤ 120
        · have h2 : ¬ (pcs p).length + (pcs w).length ≤ 12 := fun h => hc ⟨h1, h⟩
          rw [decide_eq_false h2]; simp
        · rw [decide_eq_false (by omega : ¬ p.length + (w.length + 1) ≤ 120)]; simp
theorem sp_none {b : List UInt8} (h : b.count 47 = 0) : sp b = [b] := sp_one b (List.count_eq_zero.1 h)
theorem base_none {b : List UInt8} (h : b.count 47 = 0) : base b = b := by
  unfold base; rw [lst_none b h]; rfl
theorem name_a {x y : List UInt8} : (x ++ 97 :: y == wName) = false := by
  rw [beq_eq_false_iff_ne]; intro e
  have : (97 : UInt8) ∈ wName := by rw [← e]; simp
  exact absurd this (by decide)
theorem rep1_name {b : List UInt8} (h : (42 : UInt8) ∈ b) : (rep1 b == wName) = false := by
  obtain ⟨x, y, _, _, hr⟩ := rep1_split b h
  rw [hr]; exact name_a
set_option maxRecDepth 100000 in
theorem glb_eq (p s : List UInt8) (hp : okP p = true) : glb p s = rGlb p s := by
  unfold glb rGlb
  by_cases hs : s = []
  · subst hs; simp [base]
  have hs' : rep1 s ≠ [] := fun e => hs ((rep1_nil s).1 e)
  by_cases h42 : (42 : UInt8) ∈ base s
  rotate_left
  · have c0 : (base s).count 42 = 0 := List.count_eq_zero.2 h42
    have e1 : (base s).contains 42 = false := by simpa using h42
    rw [e1, c0]; simp
  have e1 : (base s).contains 42 = true := by simpa using h42
  rw [e1, Bool.true_and]
  unfold lit
  rw [jn0 p (rep1 s) hp hs', (whl_rep1 p s).1, (whl_rep1 p s).2]
  by_cases hC : (whl p s).length ≤ 120 ∧ (pcs (whl p s)).length ≤ 12
  rotate_left
  · by_cases h1 : (whl p s).length ≤ 120
    · rw [decide_eq_false (fun h => hC ⟨h1, h⟩)]; simp
    · rw [decide_eq_false h1]; simp
  rw [decide_eq_true hC.1, decide_eq_true hC.2, Bool.and_true, Bool.and_true, Bool.and_true, Bool.and_true]
  have hl : s.length ≤ 120 ∧ dep s ≤ 12 := by
    have h1 := hC.1
    have h2 := hC.2
    unfold whl at h1 h2
    by_cases h0 : p = []
    · rw [if_pos h0] at h1 h2; rw [dep_eq] at h2; exact ⟨h1, h2⟩
    · rw [if_neg h0] at h1 h2
      rw [pcs_append p s h0 hs] at h2
      simp only [List.length_append, List.length_cons] at h1 h2
      rw [dep_eq s] at h2
      exact ⟨by omega, by omega⟩
  have okr : okP (rep1 s) = (pcs (rep1 s)).all okC := by
    unfold okP
    rw [rep1_length, dep_rep1, decide_eq_true hl.1, decide_eq_true hl.2]; rfl
  rw [okr]
  have pr : pcs (rep1 s) = sp (rep1 s) := by unfold pcs; rw [if_neg hs']
  rw [pr]
  by_cases hc : s.count 47 = 0
  · have hb : base s = s := base_none hc
    rw [hb] at h42 ⊢
    rw [sp_none (by rw [rep1_count]; exact hc), base_none (by rw [rep1_count]; exact hc), rep1_name h42]
    simp only [decide_true, Bool.true_or, Bool.true_and, List.all_cons, List.all_nil, Bool.and_true, Bool.not_false, if_true]
    rw [okC_rep1 h42, show okP [] = true by decide, Bool.and_true]
  · have h0 : 0 ≤ lst s := lst_some s (by omega)
    have hcut := lst_cut s h0
    obtain ⟨d, hd⟩ : ∃ d, s.take (lst s).toNat = d := ⟨_, rfl⟩
    obtain ⟨b, hb⟩ : ∃ b, s.drop (lst s + 1).toNat = b := ⟨_, rfl⟩
    have hbase : base s = b := hb
    have hdir : dir s = d := by unfold dir; rw [if_neg (by omega)]; exact hd
    rw [hd, hb] at hcut
    have hb0 : b.count 47 = 0 := by
      by_cases e : b.count 47 = 0
      · exact e
      · have h1 := lst_some b (by omega)
        have h2 := lst_app d b
        rw [← hcut] at h2
        have h3 : d.length = (lst s).toNat := by
          rw [← hd, List.length_take]
          have := lst_lt s; omega
        omega
    have hne : ¬ base s = s := by
      rw [hbase]; intro e
      have := congrArg List.length e
      rw [hcut] at this; simp at this; omega
    rw [decide_eq_false hne, if_neg hne, hdir, hbase, Bool.false_or]
    rw [hbase] at h42
    by_cases hd42 : (42 : UInt8) ∈ d
    · have e2 : rep1 s = rep1 d ++ 47 :: b := by
        rw [hcut, rep1_app, if_pos hd42]
      rw [e2, sp_append, List.all_append, sp_none hb0]
      have e3 : okP d = false := by
        by_cases hdo : okP d = true
        · exfalso
          have hdn : d ≠ [] := by rintro rfl; simp at hd42
          have ha := okP_all hdo
          unfold pcs at ha
          rw [if_neg hdn] at ha
          rcases sp_mem d 42 hd42 with h1 | ⟨q, hq, h2⟩
          · exact absurd h1 (by decide)
          · have := List.all_eq_true.1 ha q hq
            rw [okC_star h2] at this; cases this
        · simpa using hdo
      rw [e3]
      simp [okC_star h42]
    · have e2 : rep1 s = d ++ 47 :: rep1 b := by
        rw [hcut, rep1_app, if_neg hd42]
        congr 1
      have rb0 : (rep1 b).count 47 = 0 := by rw [rep1_count]; exact hb0
      rw [e2, sp_append, List.all_append, sp_none rb0, base_app, base_none rb0, rep1_name h42]
      simp only [List.all_cons, List.all_nil, Bool.and_true, Bool.not_false]
      rw [okC_rep1 h42]
      by_cases hdn : d = []
      · subst hdn
        have : (sp []).all okC = false := by decide
        rw [this]; simp
      · rw [decide_eq_false hdn]
        have hld : d.length ≤ 120 ∧ dep d ≤ 12 := by
          have h1 := hl.1
          have h2 := hl.2
          rw [hcut] at h1 h2
          simp only [List.length_append, List.length_cons] at h1
          refine ⟨by omega, ?_⟩
          unfold dep at h2 ⊢
          rw [if_neg (by simp)] at h2
          rw [if_neg hdn]
          simp only [List.count_append, List.count_cons] at h2
          omega
        have : okP d = (sp d).all okC := by
          unfold okP pcs
          rw [decide_eq_true hld.1, decide_eq_true hld.2, if_neg hdn]; rfl
        rw [this]
        cases (sp d).all okC <;> simp
theorem src_eq (p s : List UInt8) (hp : okP p = true) (hs : s ≠ []) : rSrc p s = srcW p s := by
  unfold rSrc srcW
  rw [← glb_eq p s hp, decide_eq_false hs]
  unfold lit
  rw [Bool.or_comm]; simp
end Go.Proofs.YtddaoloabfkheaaGreatDoor

namespace Go.Proofs.YtddaoloabfkheaaGreatDoor

def pre (k : Tk) (x : List Tk × Int) : List Tk × Int := (k :: x.1, x.2)
theorem chk_len {l : Lb} (h : (chk l).2 = 0) : okL l = true ∧ (chk l).1 = l := by
  unfold chk at h ⊢
  split at h
  · rename_i h1; rw [if_pos h1]; exact ⟨h1, rfl⟩
  · cases h
theorem okC_len {l : List UInt8} (h : okC l = true) : l.length ≤ 32 := by
  unfold okC at h; simp at h; exact h.1.2
/-- a word that a list takes is short -/
theorem word_len {p F W : List UInt8} {t u : Tg} (h : addI p F t W = some u) : W.length ≤ 300 := by
  unfold addI at h
  split at h
  · split at h
    · rename_i h1
      simp only [Bool.and_eq_true, Bool.not_eq_true', decide_eq_true_eq] at h1
      have h2 := h1.1.1
      have key : ∀ x, lit p x = true → x.length ≤ 120 := fun x hx => by
        unfold lit at hx
        simp only [Bool.and_eq_true, decide_eq_true_eq] at hx
        have h3 := hx.1
        unfold jn at h3
        split at h3
        · rename_i h4; exact (okP_len h4.2).1
        · cases h3
      unfold srcW at h2
      simp only [Bool.or_eq_true] at h2
      rcases h2 with h2 | h2
      · have := key _ h2; omega
      · unfold glb at h2
        simp only [Bool.and_eq_true] at h2
        have := key _ h2.2
        rw [rep1_length] at this; omega
    · cases h
  · split at h
    · split at h
      · rename_i h1
        simp only [Bool.and_eq_true, Bool.not_eq_true', decide_eq_true_eq] at h1
        have h2 := h1.1.1
        unfold inn at h2
        split at h2
        · split at h2
          · have h3 := (chk_len h2).1
            unfold okL at h3
            simp only [Bool.and_eq_true] at h3
            have h5 : (W.drop 1).length ≤ 32 := okC_len h3.2
            rw [List.length_drop] at h5; omega
          · unfold prs at h2
            split at h2
            · have h3 := (chk_len h2).1
              unfold okL at h3
              simp only [Bool.and_eq_true] at h3
              have h4 := (okP_len h3.1).1
              have h5 := okC_len h3.2
              cases hc : csl (W.drop 2)
              · rw [c_hd_all _ hc] at h4; simp at h4; omega
              · have := c_hd_len _ hc; simp at this; omega
            · cases h2
        · cases h2
      · cases h
    · split at h
      · rename_i h1
        simp only [Bool.and_eq_true, Bool.not_eq_true', decide_eq_true_eq] at h1
        have h2 := h1.1.1
        unfold ser at h2
        simp only [Bool.not_eq_true', decide_eq_false_iff_not] at h2
        unfold rdk at h2
        split at h2
        · rename_i h3
          unfold kin at h2 h3
          split at h3
          · rename_i e; rw [e]; decide
          · split at h3
            · rename_i e; rw [e]; decide
            · split at h3
              · rename_i e; rw [e]; decide
              · split at h3
                · split at h3
                  · have := (okP_len h3).1
                    simp [Kd.top] at this; omega
                  · have := (okP_len h3).1
                    simp [Kd.top] at this; omega
                · rename_i a b c d
                  rw [if_neg a, if_neg b, if_neg c, if_neg d] at h2
                  exact absurd rfl h2
        · exact absurd rfl h2
      · cases h
end Go.Proofs.YtddaoloabfkheaaGreatDoor

namespace Go.Proofs.YtddaoloabfkheaaGreatDoor
open Go.RowKit

def one (t : Tg) : List UInt8 := (wTarget ++ [32] ++ t.name ++ [32, 123, 10]) ++ fld wSrcs t.srcs ++ fld wDeps (t.deps.map prt) ++ fld wSee t.see ++ [125, 10]
end Go.Proofs.YtddaoloabfkheaaGreatDoor

namespace Go.Proofs.YtddaoloabfkheaaGreatDoor

/-- a word -/
def Wd (x : List UInt8) : Prop := x ≠ [] ∧ ∀ c ∈ x, inW c = true
/-- a target as it is parsed -/
structure GT (p : List UInt8) (t : Tg) : Prop where
  name : okC t.name = true
  srcs : ∀ x ∈ t.srcs, srcW p x = true ∧ Wd x
  srcsN : t.srcs.Nodup
  srcsL : t.srcs.length ≤ 64
  deps : ∀ x ∈ t.deps, okL x = true
  depsN : t.deps.Nodup
  depsL : t.deps.length ≤ 64
  see : ∀ x ∈ t.see, ser x = true ∧ Wd x
  seeN : t.see.Nodup
  seeL : t.see.length ≤ 64
structure GL (p : List UInt8) (l : List Tg) : Prop where
  each : ∀ t ∈ l, GT p t
  names : (l.map Tg.name).Nodup
  len : l.length ≤ 64
theorem GT.new {p n : List UInt8} (h : okC n = true) : GT p ⟨n, [], [], []⟩ := ⟨h, by simp, by simp, by simp, by simp, by simp, by simp, by simp, by simp, by simp⟩
theorem hasN_iff {l : List Tg} {n : List UInt8} : hasN l n = false ↔ n ∉ l.map Tg.name := by
  unfold hasN
  rw [Bool.eq_false_iff]
  simp
theorem GL.nil (p : List UInt8) : GL p [] := ⟨by simp, by simp, by simp⟩
theorem GL.snoc {p : List UInt8} {l : List Tg} {t : Tg} (h : GL p l) (ht : GT p t) (hn : hasN l t.name = false) (hl : l.length < 64) : GL p (l ++ [t]) := by
  refine ⟨fun x hx => ?_, ?_, by simp; omega⟩
  · rcases List.mem_append.1 hx with hx | hx
    · exact h.each x hx
    · simp at hx; rw [hx]; exact ht
  · rw [List.map_append, List.nodup_append]
    refine ⟨h.names, by simp, fun a ha b hb => ?_⟩
    simp at hb
    rintro rfl
    rw [hb] at ha
    exact hasN_iff.1 hn ha
theorem snoc_nodup {α : Type} {l : List α} {x : α} (h : l.Nodup) (hx : x ∉ l) : (l ++ [x]).Nodup := by
  rw [List.nodup_append]
  refine ⟨h, by simp, fun a ha b hb => ?_⟩
  simp at hb
  rintro rfl
  rw [hb] at ha; exact hx ha
theorem inn_ok {p w : List UInt8} (h : (inn p w).2 = 0) : okL (inn p w).1 = true := by
  unfold inn at h ⊢
  split at h
  · rename_i h1
    rw [if_pos h1]
    split at h
    · rename_i h2
      rw [if_pos h2, (chk_len h).2]; exact (chk_len h).1
    · rename_i h2
      rw [if_neg h2]
      unfold prs at h ⊢
      split at h
      · rename_i h3
        rw [if_pos h3, (chk_len h).2]; exact (chk_len h).1
      · cases h
  · cases h
theorem GT.add {p f w : List UInt8} {t u : Tg} (h : GT p t) (hw : Wd w) (ha : addI p f t w = some u) : GT p u ∧ u.name = t.name := by
  unfold addI at ha
  split at ha
  · split at ha
    · rename_i h1
      simp only [Bool.and_eq_true, Bool.not_eq_true', decide_eq_true_eq] at h1
      injection ha with ha; subst ha
      refine ⟨⟨h.name, fun x hx => ?_, snoc_nodup h.srcsN (by simpa using h1.2), by simp; omega, h.deps, h.depsN, h.depsL, h.see, h.seeN, h.seeL⟩, rfl⟩
      rcases List.mem_append.1 hx with hx | hx
      · exact h.srcs x hx
      · simp at hx; rw [hx]; exact ⟨h1.1.1, hw⟩
    · cases ha
  · split at ha
    · split at ha
      · rename_i h1
        simp only [Bool.and_eq_true, Bool.not_eq_true', decide_eq_true_eq] at h1
        injection ha with ha; subst ha
        refine ⟨⟨h.name, h.srcs, h.srcsN, h.srcsL, fun x hx => ?_, snoc_nodup h.depsN (by simpa using h1.2), by simp; omega, h.see, h.seeN, h.seeL⟩, rfl⟩
        rcases List.mem_append.1 hx with hx | hx
        · exact h.deps x hx
        · simp at hx; rw [hx]; exact inn_ok h1.1.1
      · cases ha
    · split at ha
      · rename_i h1
        simp only [Bool.and_eq_true, Bool.not_eq_true', decide_eq_true_eq] at h1
        injection ha with ha; subst ha
        refine ⟨⟨h.name, h.srcs, h.srcsN, h.srcsL, h.deps, h.depsN, h.depsL, fun x hx => ?_, snoc_nodup h.seeN (by simpa using h1.2), by simp; omega⟩, rfl⟩
        rcases List.mem_append.1 hx with hx | hx
        · exact h.see x hx
        · simp at hx; rw [hx]; exact ⟨h1.1.1, hw⟩
      · cases ha
/-- what stands while a text is read -/
def Iv (p : List UInt8) : St → Prop
  | .top l => GL p l
  | .nm l => GL p l ∧ l.length < 64
  | .op l n => GL p l ∧ l.length < 64 ∧ okC n = true ∧ hasN l n = false
  | .fl l t _ | .eq l t _ _ | .bg l t _ _ | .i0 l t _ _ | .it l t _ _ | .sp l t _ _ => GL p l ∧ l.length < 64 ∧ GT p t ∧ hasN l t.name = false
theorem Iv.step {p : List UInt8} {st st' : St} {k : Tk} (h : Iv p st) (hk : k.kind = 1 → Wd k.text) (hs : stp p st k = some st') : Iv p st' := by
  cases st with
  | top l =>
    simp only [stp] at hs
    split at hs
    · rename_i h1; injection hs with hs; subst hs; exact ⟨h, h1.2.2⟩
    · cases hs
  | nm l =>
    simp only [stp] at hs
    split at hs
    · rename_i h1; injection hs with hs; subst hs; exact ⟨h.1, h.2, h1.2⟩
    · cases hs
  | op l n =>
    simp only [stp] at hs
    split at hs
    · injection hs with hs; subst hs; exact ⟨h.1, h.2.1, GT.new h.2.2.1, h.2.2.2⟩
    · cases hs
  | fl l t d =>
    simp only [stp] at hs
    split at hs
    · injection hs with hs; subst hs; exact h.1.snoc h.2.2.1 h.2.2.2 h.2.1
    · split at hs
      · injection hs with hs; subst hs; exact h
      · cases hs
  | eq l t d f =>
    simp only [stp] at hs
    split at hs
    · injection hs with hs; subst hs; exact h
    · cases hs
  | bg l t d f =>
    simp only [stp] at hs
    split at hs
    · injection hs with hs; subst hs; exact h
    · cases hs
  | i0 l t d f =>
    simp only [stp] at hs
    split at hs
    · injection hs with hs; subst hs; exact h
    · split at hs
      · rename_i h1
        rw [Option.map_eq_some_iff] at hs
        obtain ⟨u, hu, rfl⟩ := hs
        obtain ⟨g1, g2⟩ := h.2.2.1.add (hk h1) hu
        exact ⟨h.1, h.2.1, g1, by rw [g2]; exact h.2.2.2⟩
      · cases hs
  | it l t d f =>
    simp only [stp] at hs
    split at hs
    · rename_i h1
      rw [Option.map_eq_some_iff] at hs
      obtain ⟨u, hu, rfl⟩ := hs
      obtain ⟨g1, g2⟩ := h.2.2.1.add (hk h1) hu
      exact ⟨h.1, h.2.1, g1, by rw [g2]; exact h.2.2.2⟩
    · cases hs
  | sp l t d f =>
    simp only [stp] at hs
    split at hs
    · injection hs with hs; subst hs; exact h
    · split at hs
      · injection hs with hs; subst hs; exact h
      · cases hs
theorem go_good {p : List UInt8} {E S : Int} (hE : 0 ≤ E) : ∀ (L : List Tk) (st : St), Iv p st → (∀ k ∈ L, (k.kind = 1 → Wd k.text) ∧ 0 ≤ k.at') → (go p E S st L).2 = -1 → GL p (go p E S st L).1
  | [], st, h, _, hr => by
    unfold go at hr ⊢
    cases st with
    | top l =>
      simp only [fin] at hr ⊢
      split at hr
      · simp only at hr; omega
      · rename_i h1; rw [if_neg h1]; exact h
    | _ => simp only [fin] at hr; omega
  | k :: r, st, h, hk, hr => by
    unfold go at hr ⊢
    cases hs : stp p st k with
    | none => rw [hs] at hr; simp only at hr; have := (hk k (by simp)).2; omega
    | some st' =>
      rw [hs] at hr
      exact go_good hE r st' (h.step (hk k (by simp)).1 hs) (fun x hx => hk x (by simp [hx])) hr
theorem wl_in : ∀ (r : List UInt8), ∀ x ∈ r.take (wl r), inW x = true
  | [], x, h => by simp at h
  | c :: r, x, h => by
    unfold wl at h
    split at h
    · rename_i hc
      rw [show 1 + wl r = wl r + 1 from by omega, List.take_succ_cons] at h
      rcases List.mem_cons.1 h with rfl | h
      · exact hc
      · exact wl_in r x h
    · simp at h
theorem tq_word : ∀ (n : Nat) (r : List UInt8) (m : Nat), r.length ≤ n → ∀ k ∈ (tq r m).1, (k.kind = 1 → Wd k.text) ∧ 0 ≤ k.at'
  | 0, r, m, h, k, hk => by
    have : r = [] := List.eq_nil_of_length_eq_zero (by omega)
    subst this
    rw [tq_nil] at hk
    simp at hk
  | n + 1, [], m, h, k, hk => by rw [tq_nil] at hk; simp at hk
  | n + 1, c :: q, m, h, k, hk => by
    by_cases h0 : kd c = 0
    · rw [tq_bad h0] at hk; simp at hk
    · rw [tq_tok h0] at hk
      rcases List.mem_cons.1 hk with rfl | hk
      · refine ⟨fun h1 => ⟨by simp, fun x hx => ?_⟩, by simp⟩
        have hc : inW c = true := by
          cases hc : inW c
          · have h2 : kd c = mkd c := by unfold kd; rw [hc]; rfl
            have h3 : kd c = 1 := by simp only at h1; omega
            have h4 : mkd c ≠ 1 := u8_all (P := fun c => mkd c ≠ 1) (by decide +kernel) c
            omega
          · rfl
        rcases List.mem_cons.1 hx with rfl | hx
        · exact hc
        · unfold ktl at hx; rw [if_pos hc] at hx; exact wl_in q x hx
      · unfold tg at hk
        refine tq_word n _ _ ?_ k hk
        simp only [List.length_drop, List.length_cons] at h ⊢; omega
theorem toks_word (s : List UInt8) : ∀ k ∈ (toks s).1, (k.kind = 1 → Wd k.text) ∧ 0 ≤ k.at' := by
  unfold toks tg
  exact tq_word _ _ _ (Nat.le_refl _)
theorem prsM_ok {p s : List UInt8} (h : (prsM p s).2 = -1) : okP p = true := by
  cases hp : okP p
  · unfold prsM at h; rw [if_neg (by rw [hp]; decide)] at h; cases h
  · rfl
theorem prsM_short {p s : List UInt8} (h : (prsM p s).2 = -1) : s.length ≤ 4096 := by
  by_cases hs : s.length ≤ 4096
  · exact hs
  · unfold prsM at h; rw [if_pos (prsM_ok (by unfold prsM; exact h)), if_neg hs] at h; cases h
theorem prsM_good {p s : List UInt8} (h : (prsM p s).2 = -1) : GL p (prsM p s).1 := by
  have hp := prsM_ok h
  have hs := prsM_short h
  unfold prsM at h ⊢
  rw [if_pos hp, if_pos hs] at h ⊢
  exact go_good (endE_nonneg s) _ _ (GL.nil p) (toks_word s) h

/-! ### what is printed parses -/
end Go.Proofs.YtddaoloabfkheaaGreatDoor

namespace Go.Proofs.YtddaoloabfkheaaGreatDoor
open Go.RowKit

theorem prsM_sm (p s : List UInt8) : GSm (prsM p s).1 := by
  obtain ⟨h1, h2⟩ := prsM_64 p s
  exact ⟨by omega, fun t ht => ⟨by have := (h1 t ht).s; omega, by have := (h1 t ht).d; omega, by have := (h1 t ht).e; omega⟩⟩
end Go.Proofs.YtddaoloabfkheaaGreatDoor
