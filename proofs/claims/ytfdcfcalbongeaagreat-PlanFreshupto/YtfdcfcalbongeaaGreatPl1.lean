/-
  A plan, plain: its steps; done on a tree with just the old files they leave just the new ones.
-/
import Derived.Test.YtfdcfcalbongeaaGreatTt3
namespace Go.Proofs.YtfdcfcalbongeaaGreat

structure Sp where
  kind : Int
  p : List UInt8
  f : Fl
def zfP : Fl := ⟨[], [], 0, 0⟩
def sDel (p : List UInt8) : Sp := ⟨1, p, zfP⟩
def sRm (p : List UInt8) : Sp := ⟨2, p, zfP⟩
def sMk (p : List UInt8) : Sp := ⟨3, p, zfP⟩
def sWr (f : Fl) : Sp := ⟨4, f.path, f⟩
/-- has a list a file, just as it is? -/
def hasE (l : List Fl) (f : Fl) : Bool := l.any (fun g => g.path == f.path && g.text == f.text && g.blob == f.blob && g.size == f.size)
theorem hasE_iff {l : List Fl} {f : Fl} : hasE l f = true ↔ f ∈ l := by
  unfold hasE
  rw [List.any_eq_true]
  constructor
  · rintro ⟨g, hg, h⟩
    simp only [Bool.and_eq_true, beq_iff_eq] at h
    obtain ⟨⟨⟨h1, h2⟩, h3⟩, h4⟩ := h
    have : g = f := by cases g; cases f; simp_all
    exact this ▸ hg
  · intro h
    exact ⟨f, h, by simp⟩
def pD (old now : List Fl) : List (List UInt8) := ((old.filter fun f => !hasF now f.path).map Fl.path).reverse
def pR (old now : List Fl) : List (List UInt8) := ((nds old).filter fun d => !decide (d ∈ nds now)).reverse
def pM (old now : List Fl) : List (List UInt8) := (nds now).filter fun d => !decide (d ∈ nds old)
def pW (old now : List Fl) : List Fl := now.filter fun f => !hasE old f
/-- the steps from one view to another -/
def mkS (old now : List Fl) : List Sp := (pD old now).map sDel ++ ((pR old now).map sRm ++ ((pM old now).map sMk ++ (pW old now).map sWr))
/-- a step done on a tree -/
def plO (T : TT) (s : Sp) : TT × Int := if s.kind = 1 then T.dl s.p else if s.kind = 2 then T.rm s.p else if s.kind = 3 then T.mk' s.p else if s.kind = 4 then T.wr s.f else (T, 16)
/-- the steps done, up to the first error -/
def plT : TT → List Sp → TT × Int
  | T, [] => (T, 0)
  | T, s :: r => if (plO T s).2 = 0 then plT (plO T s).1 r else plO T s
theorem plT_ok {T T' : TT} {s : Sp} {r : List Sp} (h : plO T s = (T', 0)) : plT T (s :: r) = plT T' r := by
  rw [plT, h]
  simp
theorem plT_err {T T' : TT} {s : Sp} {r : List Sp} {e : Int} (h : plO T s = (T', e)) (he : e ≠ 0) : plT T (s :: r) = (T', e) := by
  rw [plT, h]
  simp [he]
theorem dl_all : ∀ (ps : List (List UInt8)) {T : TT} (r : List Sp), T.sp = 0 → ps.Nodup → (∀ p ∈ ps, hasF T.fs p = true) →
    plT T (ps.map sDel ++ r) = plT { T with fs := T.fs.filter (fun f => !decide (f.path ∈ ps)), st := T.st + ps.length } r
  | [], T, r, _, _, _ => by
    have e : T.fs.filter (fun f => !decide (f.path ∈ ([] : List (List UInt8)))) = T.fs := List.filter_eq_self.2 (by simp)
    rw [e]
    simp
  | p :: ps, T, r, h0, hn, hh => by
    obtain ⟨hp, hn'⟩ := List.nodup_cons.1 hn
    have e : plO T (sDel p) = ({ T.up 1 with fs := T.fs.filter (fun f => !(f.path == p)) }, 0) := by
      unfold plO sDel
      rw [if_pos rfl, dl_free h0]
      unfold dlG
      rw [if_pos (show hasF (T.up 1).fs p = true from hh p (by simp))]
      rfl
    rw [List.map_cons, List.cons_append, plT_ok e, dl_all ps r (T := { T.up 1 with fs := T.fs.filter (fun f => !(f.path == p)) }) h0 hn' (fun q hq => by
      obtain ⟨f, hf, e⟩ := hasF_iff.1 (hh q (by simp [hq]))
      refine hasF_iff.2 ⟨f, List.mem_filter.2 ⟨hf, ?_⟩, e⟩
      have : f.path ≠ p := fun e' => hp (by rw [← e', e]; exact hq)
      simpa using this)]
    congr 1
    simp only [TT.up, List.filter_filter, List.length_cons]
    congr 1
    · refine List.filter_congr fun f _ => ?_
      by_cases h1 : f.path = p <;> by_cases h2 : f.path ∈ ps <;> simp [h1, h2]
    · omega
theorem rm_all : ∀ (ds : List (List UInt8)) {T : TT} (r : List Sp), T.sp = 0 → ds.Pairwise (fun a b => cf b a < 0) → (∀ d ∈ T.ds, d ≠ [] ∧ okP d = true) →
    (∀ d ∈ ds, d ∈ T.ds ∧ (∀ f ∈ T.fs, dir f.path ≠ d) ∧ ∀ d' ∈ T.ds, dir d' = d → d' ∈ ds) →
    plT T (ds.map sRm ++ r) = plT { T with ds := T.ds.filter (fun d => !decide (d ∈ ds)), st := T.st + ds.length } r
  | [], T, r, _, _, _, _ => by
    have e : T.ds.filter (fun d => !decide (d ∈ ([] : List (List UInt8)))) = T.ds := List.filter_eq_self.2 (by simp)
    rw [e]
    simp
  | p :: ds, T, r, h0, hn, hok, hh => by
    obtain ⟨hp, hn'⟩ := List.pairwise_cons.1 hn
    obtain ⟨hm, hf, hd⟩ := hh p (by simp)
    have hpn := hok p hm
    have hr : rmB (T.up 1) p = true := by
      unfold rmB emp
      simp only [Bool.and_eq_true, Bool.not_eq_true', List.all_eq_true, beq_eq_false_iff_ne]
      refine ⟨⟨hpn.1, hasD_iff.2 (.inr hm)⟩, fun f hf' => hf f hf', fun d' hd' e => ?_⟩
      rcases List.mem_cons.1 (hd d' hd' e) with rfl | h1
      · exact dir_ne hpn.1 e
      · have h2 := abv_cf (abv_dir (hok d' hd').2 (hok d' hd').1)
        rw [e] at h2
        have h3 := hp d' h1
        rw [cf_neg] at h3
        omega
    have e : plO T (sRm p) = ({ T.up 1 with ds := T.ds.filter (fun d => !(d == p)) }, 0) := by
      unfold plO sRm
      rw [if_neg (show ¬ ((2 : Int) = 1) by decide), if_pos rfl, rm_free h0]
      unfold rmG
      rw [if_pos hr]
      rfl
    rw [List.map_cons, List.cons_append, plT_ok e, rm_all ds r (T := { T.up 1 with ds := T.ds.filter (fun d => !(d == p)) }) h0 hn' (fun d hd => hok d (List.mem_filter.1 hd).1) (fun q hq => by
      obtain ⟨m1, m2, m3⟩ := hh q (by simp [hq])
      have hne : q ≠ p := fun e' => by
        have := hp q hq
        rw [e', cf_self] at this
        omega
      refine ⟨List.mem_filter.2 ⟨m1, by simpa using hne⟩, m2, fun d' hd' e => ?_⟩
      obtain ⟨k1, k2⟩ := List.mem_filter.1 hd'
      rcases List.mem_cons.1 (m3 d' k1 e) with h1 | h1
      · rw [h1] at k2
        simp at k2
      · exact h1)]
    congr 1
    simp only [TT.up, List.filter_filter, List.length_cons]
    congr 1
    · refine List.filter_congr fun f _ => ?_
      by_cases h1 : f = p <;> by_cases h2 : f ∈ ds <;> simp [h1, h2]
    · omega
def inss (D : List (List UInt8)) (l : List (List UInt8)) : List (List UInt8) := l.foldl (fun D d => ins d D) D
theorem mem_inss {x : List UInt8} : ∀ {l D : List (List UInt8)}, x ∈ inss D l ↔ x ∈ D ∨ x ∈ l
  | [], D => by simp [inss]
  | d :: l, D => by
    have := @mem_inss x l (ins d D)
    unfold inss at this ⊢
    rw [List.foldl_cons, this, mem_ins, List.mem_cons]
    constructor
    · rintro ((h | h) | h)
      · exact .inr (.inl h)
      · exact .inl h
      · exact .inr (.inr h)
    · rintro (h | h | h)
      · exact .inl (.inr h)
      · exact .inl (.inl h)
      · exact .inr h
theorem up_inss : ∀ {l D : List (List UInt8)}, Up D → Up (inss D l)
  | [], _, h => h
  | d :: l, D, h => up_inss (l := l) (up_ins d D h)
theorem mk_all : ∀ (ds : List (List UInt8)) {T : TT} (r : List Sp), T.sp = 0 → Up ds →
    (∀ d ∈ ds, d ≠ [] ∧ okP d = true ∧ hasF T.fs d = false ∧ d ∉ T.ds ∧ (hasD T.ds (dir d) = true ∨ dir d ∈ ds)) →
    plT T (ds.map sMk ++ r) = plT { T with ds := inss T.ds ds, st := T.st + ds.length } r
  | [], T, r, _, _, _ => by simp [inss]
  | p :: ds, T, r, h0, hn, hh => by
    obtain ⟨hp, hn'⟩ := List.pairwise_cons.1 hn
    obtain ⟨h1, h2, h3, h4, h5⟩ := hh p (by simp)
    have hb : mkB (T.up 1) p = true := by
      unfold mkB
      rw [show (T.up 1).fs = T.fs from rfl, show (T.up 1).ds = T.ds from rfl, h2, h3]
      have e4 : hasD T.ds p = false := by
        cases e : hasD T.ds p with
        | false => rfl
        | true =>
          rcases hasD_iff.1 e with e | e
          · exact absurd e h1
          · exact absurd e h4
      have e5 : hasD T.ds (dir p) = true := by
        rcases h5 with h | h
        · exact h
        · have ha := abv_cf (abv_dir h2 h1)
          rcases List.mem_cons.1 h with e | h
          · exact absurd e (dir_ne h1)
          · have := hp _ h
            rw [cf_neg] at this
            omega
      rw [e4, e5]
      rfl
    have e : plO T (sMk p) = ({ T.up 1 with ds := ins p T.ds }, 0) := by
      unfold plO sMk
      rw [if_neg (show ¬ ((3 : Int) = 1) by decide), if_neg (show ¬ ((3 : Int) = 2) by decide), if_pos rfl, mk_free h0]
      unfold mkG
      rw [if_pos hb]
      rfl
    rw [List.map_cons, List.cons_append, plT_ok e, mk_all ds r (T := { T.up 1 with ds := ins p T.ds }) h0 hn' (fun q hq => by
      obtain ⟨m1, m2, m3, m4, m5⟩ := hh q (by simp [hq])
      have hne : q ≠ p := fun e' => by
        have := hp q hq
        rw [e', cf_self] at this
        omega
      refine ⟨m1, m2, m3, fun hm => ?_, ?_⟩
      · rcases (mem_ins p q _).1 hm with h | h
        · exact hne h
        · exact m4 h
      · rcases m5 with h | h
        · refine .inl (hasD_iff.2 ?_)
          rcases hasD_iff.1 h with h | h
          · exact .inl h
          · exact .inr ((mem_ins _ _ _).2 (.inr h))
        · rcases List.mem_cons.1 h with h | h
          · exact .inl (hasD_iff.2 (.inr ((mem_ins _ _ _).2 (.inl h))))
          · exact .inr h)]
    congr 1
    simp only [TT.up, List.length_cons]
    congr 1
    omega
abbrev FUp (l : List Fl) : Prop := l.Pairwise fun a b => cf a.path b.path < 0
theorem fl_unique : ∀ {a b : List Fl}, FUp a → FUp b → (∀ x, x ∈ a ↔ x ∈ b) → a = b
  | [], [], _, _, _ => rfl
  | [], y :: _, _, _, h => absurd ((h y).2 (by simp)) (by simp)
  | x :: _, [], _, _, h => absurd ((h x).1 (by simp)) (by simp)
  | x :: a, y :: b, ha, hb, h => by
    obtain ⟨a1, a2⟩ := List.pairwise_cons.1 ha
    obtain ⟨b1, b2⟩ := List.pairwise_cons.1 hb
    have e : x = y := by
      rcases List.mem_cons.1 ((h x).1 (by simp)) with e | h1
      · exact e
      · rcases List.mem_cons.1 ((h y).2 (by simp)) with e | h2
        · exact e.symm
        · have k1 := b1 x h1
          have k2 := a1 y h2
          rw [cf_neg] at k1
          omega
    subst e
    congr 1
    refine fl_unique a2 b2 fun z => ⟨fun hz => ?_, fun hz => ?_⟩
    · rcases List.mem_cons.1 ((h z).1 (by simp [hz])) with e | h1
      · have := a1 z hz
        rw [e, cf_self] at this
        omega
      · exact h1
    · rcases List.mem_cons.1 ((h z).2 (by simp [hz])) with e | h1
      · have := b1 z hz
        rw [e, cf_self] at this
        omega
      · exact h1
theorem fl_path {l : List Fl} (h : FUp l) {a b : Fl} (ha : a ∈ l) (hb : b ∈ l) (e : a.path = b.path) : a = b := by
  induction l with
  | nil => cases ha
  | cons x l ih =>
    obtain ⟨h1, h2⟩ := List.pairwise_cons.1 h
    rcases List.mem_cons.1 ha with ea | ka
    · rcases List.mem_cons.1 hb with eb | kb
      · rw [ea, eb]
      · have := h1 b kb
        rw [← e, ea, cf_self] at this
        omega
    · rcases List.mem_cons.1 hb with eb | kb
      · have := h1 a ka
        rw [e, eb, cf_self] at this
        omega
      · exact ih h2 ka kb
theorem insF_iff {f x : Fl} : ∀ {l : List Fl}, FUp l → (x ∈ insF f l ↔ x = f ∨ (x ∈ l ∧ x.path ≠ f.path))
  | [], _ => by simp [insF]
  | g :: r, h => by
    obtain ⟨h1, h2⟩ := List.pairwise_cons.1 h
    have ih := @insF_iff f x r h2
    unfold insF
    split
    · rename_i hl
      rw [List.mem_cons, ih, List.mem_cons]
      have hg : g.path ≠ f.path := fun e => by rw [e, cf_self] at hl; omega
      constructor
      · rintro (rfl | h | h)
        · exact .inr ⟨.inl rfl, hg⟩
        · exact .inl h
        · exact .inr ⟨.inr h.1, h.2⟩
      · rintro (h | ⟨h | h, k⟩)
        · exact .inr (.inl h)
        · exact .inl h
        · exact .inr (.inr ⟨h, k⟩)
    · rename_i hl
      split
      · rename_i he
        rw [List.mem_cons, List.mem_cons]
        constructor
        · rintro (h | h)
          · exact .inl h
          · refine .inr ⟨.inr h, fun e => ?_⟩
            have := h1 x h
            rw [e, he, cf_self] at this
            omega
        · rintro (h | ⟨h | h, k⟩)
          · exact .inl h
          · exact absurd (h ▸ he) k
          · exact .inr h
      · rename_i he
        rw [List.mem_cons]
        have hfg : cf f.path g.path < 0 := by
          rcases cf_tri f.path g.path with h | h | h
          · exact h
          · exact absurd h.symm he
          · exact absurd h hl
        constructor
        · rintro (h | h)
          · exact .inl h
          · refine .inr ⟨h, fun e => ?_⟩
            rcases List.mem_cons.1 h with h | h
            · exact he (h ▸ e)
            · have := cf_trans hfg (h1 x h)
              rw [e, cf_self] at this
              omega
        · rintro (h | h)
          · exact .inl h
          · exact .inr h.1
def insFs (L : List Fl) (l : List Fl) : List Fl := l.foldl (fun L f => insF f L) L
theorem fup_insFs : ∀ {l L : List Fl}, FUp L → FUp (insFs L l)
  | [], _, h => h
  | f :: l, _, h => fup_insFs (l := l) (pw_insF (f := f) h)
theorem mem_insFs {x : Fl} : ∀ {l L : List Fl}, FUp L → FUp l → (x ∈ insFs L l ↔ x ∈ l ∨ (x ∈ L ∧ ∀ f ∈ l, x.path ≠ f.path))
  | [], _, _, _ => by simp [insFs]
  | f :: l, L, h, hl => by
    obtain ⟨h1, h2⟩ := List.pairwise_cons.1 hl
    have := @mem_insFs x l (insF f L) (pw_insF h) h2
    unfold insFs at this ⊢
    rw [List.foldl_cons, this, insF_iff h]
    simp only [List.mem_cons]
    constructor
    · rintro (h | ⟨rfl | h, k⟩)
      · exact .inl (.inr h)
      · exact .inl (.inl rfl)
      · refine .inr ⟨h.1, fun g hg => ?_⟩
        rcases hg with rfl | hg
        · exact h.2
        · exact k g hg
    · rintro ((rfl | h) | ⟨h, k⟩)
      · refine .inr ⟨.inl rfl, fun g hg e => ?_⟩
        have := h1 g hg
        rw [e, cf_self] at this
        omega
      · exact .inl h
      · exact .inr ⟨.inr ⟨h, k f (.inl rfl)⟩, fun g hg => k g (.inr hg)⟩
theorem wr_all : ∀ (fs : List Fl) {T : TT} (r : List Sp), T.sp = 0 → (∀ f ∈ fs, fileE f = 0 ∧ hasD T.ds f.path = false ∧ hasD T.ds (dir f.path) = true) →
    plT T (fs.map sWr ++ r) = plT { T with fs := insFs T.fs fs, st := T.st + fs.length } r
  | [], T, r, _, _ => by simp [insFs]
  | f :: fs, T, r, h0, hh => by
    obtain ⟨h1, h2, h3⟩ := hh f (by simp)
    have e : plO T (sWr f) = ({ T.up 1 with fs := insF f T.fs }, 0) := by
      unfold plO sWr
      rw [if_neg (show ¬ ((4 : Int) = 1) by decide), if_neg (show ¬ ((4 : Int) = 2) by decide), if_neg (show ¬ ((4 : Int) = 3) by decide), if_pos rfl, wr_free h0]
      unfold wrG wrB
      rw [if_pos h1, show (T.up 1).ds = T.ds from rfl, h2, h3]
      rfl
    rw [List.map_cons, List.cons_append, plT_ok e, wr_all fs r (T := { T.up 1 with fs := insF f T.fs }) h0 (fun q hq => hh q (by simp [hq]))]
    congr 1
    simp only [TT.up, List.length_cons]
    congr 1
    omega
theorem nodup_up {l : List (List UInt8)} (h : Up l) : l.Nodup := h.imp fun {a b} hc e => by rw [e, cf_self] at hc; omega
theorem new_parts {l : List Fl} (h : validE l = 0) : (∀ f ∈ l, fileE f = 0) ∧ FUp l ∧ Up (nds l) ∧ (∀ d ∈ nds l, d ≠ [] ∧ okP d = true) ∧ (∀ f ∈ l, hasD (nds l) (dir f.path) = true) ∧ (∀ d ∈ nds l, hasD (nds l) (dir d) = true) ∧ ∀ f ∈ l, f.path ∉ nds l := by
  have k := TOk.new h
  exact ⟨k.fe, k.fu, k.du, k.de, k.fd, k.dd, k.no⟩
/-- the steps done on a tree with just the old files: none is refused, and they leave just the new ones -/
theorem plays {old now : List Fl} (ho : validE old = 0) (hn : validE now = 0) {T : TT} (h0 : T.sp = 0) (hf : T.fs = old) (hd : T.ds = nds old) :
    plT T (mkS old now) = ({ T with fs := now, ds := nds now, st := T.st + (mkS old now).length }, 0) := by
  obtain ⟨o1, o2, o3, o4, o5, o6, o7⟩ := new_parts ho
  obtain ⟨n1, n2, n3, n4, n5, n6, n7⟩ := new_parts hn
  have eF : T.fs.filter (fun f => !decide (f.path ∈ pD old now)) = old.filter (fun f => hasF now f.path) := by
    rw [hf]
    refine List.filter_congr fun f hm => ?_
    cases e : hasF now f.path with
    | true =>
      have : f.path ∉ (old.filter fun f => !hasF now f.path).map Fl.path := fun hm => by
        obtain ⟨g, hg, eg⟩ := List.mem_map.1 hm
        have := (List.mem_filter.1 hg).2
        rw [eg, e] at this
        cases this
      have : f.path ∉ pD old now := fun h => this (List.mem_reverse.1 h)
      simp [this]
    | false =>
      have : f.path ∈ (old.filter fun f => !hasF now f.path).map Fl.path := List.mem_map.2 ⟨f, List.mem_filter.2 ⟨hm, by rw [e]; rfl⟩, rfl⟩
      have : f.path ∈ pD old now := List.mem_reverse.2 this
      simp [this]
  have uD : (pD old now).Nodup := by
    have hu : Up ((old.filter fun f => !hasF now f.path).map Fl.path) := List.pairwise_map.2 (o2.filter _)
    have := nodup_up hu
    unfold pD
    exact List.pairwise_reverse.2 (this.imp fun h => h.symm)
  have mR : ∀ {x}, x ∈ pR old now ↔ x ∈ nds old ∧ x ∉ nds now := fun {x} => by simp [pR]
  have mM : ∀ {x}, x ∈ pM old now ↔ x ∈ nds now ∧ x ∉ nds old := fun {x} => by simp [pM]
  have mW : ∀ {x}, x ∈ pW old now ↔ x ∈ now ∧ x ∉ old := fun {x} => by
    unfold pW
    rw [List.mem_filter]
    cases e : hasE old x with
    | true => simp [hasE_iff.1 e]
    | false =>
      have : x ∉ old := fun h => by rw [hasE_iff.2 h] at e; cases e
      simp [this]
  have mF : ∀ {x}, x ∈ old.filter (fun f => hasF now f.path) ↔ x ∈ old ∧ ∃ g ∈ now, g.path = x.path := fun {x} => by rw [List.mem_filter, hasF_iff]
  unfold mkS
  rw [dl_all _ _ h0 uD (fun p hp => by
    unfold pD at hp
    obtain ⟨f, hm, e⟩ := List.mem_map.1 (List.mem_reverse.1 hp)
    rw [hf]
    exact hasF_iff.2 ⟨f, (List.mem_filter.1 hm).1, e⟩), eF]
  rw [rm_all (T := { T with fs := old.filter (fun f => hasF now f.path), st := T.st + (pD old now).length }) _ _ h0 (by
    unfold pR
    rw [List.pairwise_reverse]
    exact o3.filter _) (by
    show ∀ d ∈ T.ds, _
    rw [hd]
    exact o4) (fun d hm => by
    obtain ⟨m1, m2⟩ := mR.1 hm
    have hdn := (o4 d m1).1
    refine ⟨by rw [← hd] at m1; exact m1, fun f hf' e => ?_, fun d' hd' e => ?_⟩
    · obtain ⟨_, g, hg, eg⟩ := mF.1 hf'
      rcases hasD_iff.1 (n5 g hg) with h | h
      · rw [eg, e] at h
        exact hdn h
      · rw [eg, e] at h
        exact m2 h
    · have hd'' : d' ∈ nds old := by rw [← hd]; exact hd'
      refine mR.2 ⟨hd'', fun h => ?_⟩
      rcases hasD_iff.1 (n6 d' h) with h | h
      · rw [e] at h
        exact hdn h
      · rw [e] at h
        exact m2 h)]
  have eR : T.ds.filter (fun d => !decide (d ∈ pR old now)) = (nds old).filter (fun d => decide (d ∈ nds now)) := by
    rw [hd]
    refine List.filter_congr fun d hm => ?_
    by_cases h : d ∈ nds now
    · have : d ∉ pR old now := fun k => (mR.1 k).2 h
      simp [this, h]
    · have : d ∈ pR old now := mR.2 ⟨hm, h⟩
      simp [this, h]
  simp only [eR]
  rw [mk_all (T := { T with fs := old.filter (fun f => hasF now f.path), ds := (nds old).filter (fun d => decide (d ∈ nds now)), st := T.st + (pD old now).length + (pR old now).length }) (pM old now) _ h0 (up_filter n3 _) (fun d hm => by
    obtain ⟨m1, m2⟩ := mM.1 hm
    refine ⟨(n4 d m1).1, (n4 d m1).2, ?_, fun h => m2 (List.mem_filter.1 h).1, ?_⟩
    · show hasF (old.filter (fun f => hasF now f.path)) d = false
      cases e : hasF (old.filter (fun f => hasF now f.path)) d with
      | false => rfl
      | true =>
        obtain ⟨f, h1, h2⟩ := hasF_iff.1 e
        obtain ⟨_, g, hg, eg⟩ := mF.1 h1
        refine absurd ?_ (n7 g hg)
        rw [eg, h2]
        exact m1
    · rcases hasD_iff.1 (n6 d m1) with h | h
      · exact .inl (hasD_iff.2 (.inl h))
      · by_cases k : dir d ∈ nds old
        · exact .inl (hasD_iff.2 (.inr (List.mem_filter.2 ⟨k, by simpa using h⟩)))
        · exact .inr (mM.2 ⟨h, k⟩))]
  have eM : inss ((nds old).filter (fun d => decide (d ∈ nds now))) (pM old now) = nds now := by
    refine up_unique (up_inss (up_filter o3 _)) n3 fun x => ?_
    rw [mem_inss, mM, List.mem_filter]
    by_cases h : x ∈ nds now <;> by_cases k : x ∈ nds old <;> simp [h, k]
  simp only [eM]
  have hw := wr_all (T := { T with fs := old.filter (fun f => hasF now f.path), ds := nds now, st := T.st + (pD old now).length + (pR old now).length + (pM old now).length }) (pW old now) [] h0 (fun f hm => by
    obtain ⟨m1, _⟩ := mW.1 hm
    refine ⟨n1 f m1, ?_, n5 f m1⟩
    show hasD (nds now) f.path = false
    cases e : hasD (nds now) f.path with
    | false => rfl
    | true =>
      rcases hasD_iff.1 e with e | e
      · exact absurd e (fileE_path (n1 f m1)).1
      · exact absurd e (n7 f m1))
  have eW : insFs (old.filter (fun f => hasF now f.path)) (pW old now) = now := by
    refine fl_unique (fup_insFs (o2.filter _)) n2 fun x => ?_
    rw [mem_insFs (l := pW old now) (o2.filter _) (n2.filter _), mW, mF]
    constructor
    · rintro (h | ⟨⟨h1, g, hg, eg⟩, h2⟩)
      · exact h.1
      · by_cases k : g ∈ old
        · have := fl_path o2 k h1 eg
          exact this ▸ hg
        · exact absurd eg.symm (h2 g (mW.2 ⟨hg, k⟩))
    · intro h
      by_cases k : x ∈ old
      · refine .inr ⟨⟨k, x, h, rfl⟩, fun f hf' e => ?_⟩
        obtain ⟨m1, m2⟩ := mW.1 hf'
        exact m2 (fl_path n2 h m1 e ▸ k)
      · exact .inl ⟨h, k⟩
  rw [List.append_nil] at hw
  rw [hw, plT]
  simp only [eW, List.length_append, List.length_map, Nat.add_assoc]
/-- no step where nothing changes -/
theorem mkS_self (l : List Fl) : mkS l l = [] := by
  unfold mkS
  have h1 : pD l l = [] := by
    unfold pD
    rw [List.filter_eq_nil_iff.2 (fun f hf => by simp [hasF_iff.2 ⟨f, hf, rfl⟩])]
    rfl
  have h2 : pR l l = [] := by
    unfold pR
    rw [List.filter_eq_nil_iff.2 (fun d hd => by simp [hd])]
    rfl
  have h3 : pM l l = [] := by
    unfold pM
    rw [List.filter_eq_nil_iff.2 (fun d hd => by simp [hd])]
  have h4 : pW l l = [] := by
    unfold pW
    rw [List.filter_eq_nil_iff.2 (fun d hd => by simp [hasE_iff.2 hd])]
  rw [h1, h2, h3, h4]
  rfl
end Go.Proofs.YtfdcfcalbongeaaGreat
