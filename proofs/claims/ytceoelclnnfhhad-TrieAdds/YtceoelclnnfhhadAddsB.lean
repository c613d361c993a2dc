/-
  Sums over the files so far; the law's variables.
-/
import Derived.Test.YtceoelclnnfhhadAddsA
namespace Go.Proofs.Ytceoelclnnfhhad
open Go.RowKit

theorem cnt_snoc (f : Fl) (q : Q) : ∀ P : List Fl, cnt (P ++ [f]) q = cnt P q + (if pre q (pp f) then 1 else 0)
  | [] => by simp [cnt]
  | g :: r => by simp only [List.cons_append, cnt, cnt_snoc f q r]; omega
theorem tot_snoc (f : Fl) (q : Q) : ∀ P : List Fl, tot (P ++ [f]) q = tot P q + (if pre q (pp f) then sz f else 0)
  | [] => by simp [tot]
  | g :: r => by simp only [List.cons_append, tot, tot_snoc f q r]; omega
theorem own_snoc (f : Fl) (q : Q) : ∀ P : List Fl, own (P ++ [f]) q = own P q + (if (pp f).dropLast = q then sz f else 0)
  | [] => by simp [own]
  | g :: r => by simp only [List.cons_append, own, own_snoc f q r]; omega
theorem take_next {O : List Fl} {k : Nat} (hk : k < O.length) : O.take (k + 1) = O.take k ++ [O[k]] := by
  rw [List.take_add_one, List.getElem?_eq_getElem hk]; rfl
def cntD (P : List Fl) (d : List UInt8) : Nat := if d = [] then 0 else cnt P (pcs d)
def totD (P : List Fl) (d : List UInt8) : Nat := if d = [] then 0 else tot P (pcs d)
def ownI (P : List Fl) (d : List UInt8) : Nat := if d = [] then 0 else own P (pcs d)
/-- below a directory, by its letters -/
theorem in_iff {p d : List UInt8} (hp : okP p = true) (hd : d ≠ []) : pre (pcs d) (pcs p) = true ↔ ∃ r, r ≠ [] ∧ p = d ++ 47 :: r := by
  constructor
  · intro h
    obtain ⟨n, r, e⟩ := pre_iff.1 h
    have hne : pcs d ≠ [] := fun e => hd ((pcs_eq_nil d).1 e)
    have hn : n ≠ [] := ok_mem (okP_all hp) n (by rw [e]; simp)
    have e2 := join_cut (pcs p) (pcs d).length (by cases h0 : pcs d; exact absurd h0 hne; simp) (by rw [e]; simp)
    rw [join_pcs, e, List.take_left, List.drop_left, join_pcs] at e2
    refine ⟨join (n :: r), fun e3 => ?_, e2⟩
    cases r with
    | nil => exact hn e3
    | cons m r =>
      rw [join_cons n (m :: r) (by simp)] at e3
      simp at e3
  · rintro ⟨r, hr, rfl⟩
    rw [pcs_append d r hd hr]
    have hpr : pcs r ≠ [] := fun e => hr ((pcs_eq_nil r).1 e)
    cases h0 : pcs r with
    | nil => exact absurd h0 hpr
    | cons a b => exact pre_iff.2 ⟨a, b, rfl⟩
theorem sp_len (r : List UInt8) : (sp r).length = r.count 47 + 1 := by
  induction r with
  | nil => rfl
  | cons c l ih =>
    by_cases hc : c = 47
    · subst hc
      have := sp_append [] l
      simp only [List.nil_append] at this
      rw [this]
      simp [sp, ih]
    · have h1 : (sp (c :: l)).length = (sp l).length := by
        simp only [sp]
        rw [if_neg hc]
        cases h : sp l with
        | nil => rw [h] at ih; simp at ih
        | cons a b => simp
      rw [h1, ih]
      simp [hc]
theorem right_in {d r : List UInt8} (hd : d ≠ []) (hr : r ≠ []) : (pcs (d ++ 47 :: r)).dropLast = pcs d ↔ (47 : UInt8) ∉ r := by
  rw [pcs_append d r hd hr]
  have hp : pcs r = sp r := by unfold pcs; rw [if_neg hr]
  have hl := sp_len r
  rw [← hp] at hl
  constructor
  · intro e h
    have := congrArg List.length e
    rw [List.length_dropLast, List.length_append, hl] at this
    have := List.count_pos_iff.2 h
    omega
  · intro h
    rw [List.count_eq_zero.2 h] at hl
    match hpr : pcs r, hl with
    | [x], _ => simp
theorem cntD_next {O : List Fl} {d : List UInt8} {k : Nat} (hk : k < O.length) : cntD (O.take (k + 1)) d = cntD (O.take k) d + (if d ≠ [] ∧ pre (pcs d) (pp O[k]) = true then 1 else 0) := by
  unfold cntD
  rw [take_next hk, cnt_snoc]
  by_cases hd : d = []
  · simp [hd]
  · simp [hd]
theorem totD_next {O : List Fl} {d : List UInt8} {k : Nat} (hk : k < O.length) : totD (O.take (k + 1)) d = totD (O.take k) d + (if d ≠ [] ∧ pre (pcs d) (pp O[k]) = true then sz O[k] else 0) := by
  unfold totD
  rw [take_next hk, tot_snoc]
  by_cases hd : d = []
  · simp [hd]
  · simp [hd]
theorem ownI_next {O : List Fl} {d : List UInt8} {k : Nat} (hk : k < O.length) : ownI (O.take (k + 1)) d = ownI (O.take k) d + (if d ≠ [] ∧ (pp O[k]).dropLast = pcs d then sz O[k] else 0) := by
  unfold ownI
  rw [take_next hk, own_snoc]
  by_cases hd : d = []
  · simp [hd]
  · simp [hd]
theorem tot0_next {O : List Fl} {k : Nat} (hk : k < O.length) (hp : pp O[k] ≠ []) : tot (O.take (k + 1)) [] = tot (O.take k) [] + sz O[k] := by
  rw [take_next hk, tot_snoc, if_pos (pre_nil hp)]
theorem own_le' : ∀ {L : List Fl} (_ : Szs L) (q : Q), own L q ≤ L.length * 4611686018427387904
  | [], _, q => by simp [own]
  | f :: r, h, q => by
    have ih := own_le' (L := r) (fun g hg => h g (by simp [hg])) q
    have hf := h f (by simp)
    simp only [own, List.length_cons]
    split <;> omega
theorem sums_small {O : List Fl} (h : Szs O) (hl : O.length ≤ 512) (d : List UInt8) (k : Nat) (q : Q) : tot (O.take k) q < 4722366482869645213696 ∧ totD (O.take k) d < 4722366482869645213696 ∧ ownI (O.take k) d < 4722366482869645213696 := by
  have hs : Szs (O.take k) := fun f hf => h f (List.mem_of_mem_take hf)
  have hk : (O.take k).length ≤ 512 := by simp; omega
  have h1 := tot_le hs q
  have h2 := tot_le hs (pcs d)
  have h3 := own_le' hs (pcs d)
  unfold totD ownI
  refine ⟨by omega, ?_, ?_⟩
  · split <;> omega
  · split <;> omega

theorem mem_take_succ {L : List (List UInt8)} {j : Nat} (hj : j < L.length) (p : List UInt8) : decide (p ∈ L.take (j + 1)) = (decide (p ∈ L.take j) || (L[j] == p)) := by
  rw [List.take_add_one, List.getElem?_eq_getElem hj, Bool.eq_iff_iff]
  simp only [Option.toList, List.mem_append, List.mem_singleton, decide_eq_true_eq, Bool.or_eq_true, beq_iff_eq]
  exact ⟨fun h => h.elim .inl (fun e => .inr e.symm), fun h => h.elim .inl (fun e => .inr e.symm)⟩
theorem outF_next {O : List Fl} {q : List UInt8} {k : Nat} (hk : k < O.length) : outF q (O.take (k + 1)) = outF q (O.take k) ++ (if O[k].path = q then [] else [O[k]]) := by
  rw [take_next hk]
  unfold outF
  rw [List.filter_append]
  congr 1
  by_cases h : O[k].path = q
  · simp [h]
  · simp [h]
theorem outF_none {O : List Fl} {q : List UInt8} (h : dropE O q ≠ 0) : ∀ f ∈ O, f.path ≠ q := by
  have e := outF_same h
  unfold outF at e
  rw [List.filter_eq_self] at e
  intro f hf
  simpa using e f hf
theorem split_p (p d : List UInt8) : (∃ r, r ≠ [] ∧ d ≠ [] ∧ p = d ++ 47 :: r) ∨
    ((¬ ∃ r, r ≠ [] ∧ d ≠ [] ∧ p = d ++ 47 :: r) ∧ (p.length ≤ d.length + 1 ∨ (d.length + 1 < p.length ∧ p.take d.length ≠ d) ∨ (d.length + 1 < p.length ∧ p.take d.length = d ∧ ∃ c, p[d.length]? = some c ∧ c ≠ 47) ∨ (d.length + 1 < p.length ∧ p.take d.length = d ∧ p[d.length]? = some 47 ∧ d = []))) := by
  by_cases h : ∃ r, r ≠ [] ∧ d ≠ [] ∧ p = d ++ 47 :: r
  · exact .inl h
  · refine .inr ⟨h, ?_⟩
    by_cases h1 : p.length ≤ d.length + 1
    · exact .inl h1
    · right
      have h1' : d.length + 1 < p.length := by omega
      by_cases h2 : p.take d.length = d
      · right
        have hlt : d.length < p.length := by omega
        by_cases h3 : p[d.length] = 47
        · right
          refine ⟨h1', h2, by rw [List.getElem?_eq_getElem hlt, h3], ?_⟩
          apply Classical.byContradiction
          intro hd
          apply h
          refine ⟨p.drop (d.length + 1), fun e => ?_, hd, ?_⟩
          · have := congrArg List.length e
            simp at this; omega
          · have e1 := List.take_append_drop d.length p
            rw [List.drop_eq_getElem_cons hlt, h2, h3] at e1
            exact e1.symm
        · exact .inl ⟨h1', h2, p[d.length], List.getElem?_eq_getElem hlt, h3⟩
      · exact .inl ⟨h1', h2⟩
theorem not_in {p d : List UInt8} (hp : okP p = true) (hne : pcs p ≠ []) (h : ¬ ∃ r, r ≠ [] ∧ d ≠ [] ∧ p = d ++ 47 :: r) : ¬ (d ≠ [] ∧ pre (pcs d) (pcs p) = true) ∧ ¬ (d ≠ [] ∧ (pcs p).dropLast = pcs d) := by
  have key : ¬ (d ≠ [] ∧ pre (pcs d) (pcs p) = true) := by
    rintro ⟨hd, h1⟩
    obtain ⟨r, hr, e⟩ := (in_iff hp hd).1 h1
    exact h ⟨r, hr, hd, e⟩
  exact ⟨key, fun ⟨hd, h1⟩ => key ⟨hd, drop_pre hne h1⟩⟩
/-- a sum by halves in a block of its own -/
structure HB (w : World) (g a : Nat) : Prop where
  blk : w.heap[g]? = some (.cells #[.int .i64 (a / 4611686018427387904 : Nat), .int .i64 (a % 4611686018427387904 : Nat)] 39 (0, 0))
theorem HB.lt {w : World} {g a : Nat} (h : HB w g a) : g < w.heap.size := (Array.getElem?_eq_some_iff.1 h.blk).1
theorem HB.block {w w' : World} {g a : Nat} (h : HB w g a) (e : w'.heap[g]? = w.heap[g]?) : HB w' g a := ⟨e.trans h.blk⟩
theorem HB.later {w w' : World} {g a : Nat} (h : HB w g a) (hb : Below w.heap.size w w') : HB w' g a := h.block (hb.block g h.lt)
theorem HB.cells {w : World} {g a : Nat} (h : HB w g a) : w.cell? ⟨g, 0, none⟩ = some (.int .i64 (a / 4611686018427387904 : Nat)) ∧ w.cell? ⟨g, 1, none⟩ = some (.int .i64 (a % 4611686018427387904 : Nat)) := by
  refine ⟨?_, ?_⟩ <;> simp [World.cell?, h.blk]
theorem HB.soft {w : World} {g a : Nat} (h : HB w g a) (i : Nat) : w.frozen? ⟨g, i, none⟩ = false := by simp [World.frozen?, h.blk]
theorem HB.set {w : World} {g a : Nat} (h : HB w g a) (b : Nat) {x y : Nat} (hx : b / 4611686018427387904 = x) (hy : b % 4611686018427387904 = y) : HB ((w.setCell ⟨g, 0, none⟩ (.int .i64 x)).setCell ⟨g, 1, none⟩ (.int .i64 y)) g b := ⟨by
  subst hx hy
  rw [setCell_heap _ g 1 _ (setCell_heap w g 0 _ h.blk)]; rfl⟩
theorem HB.only {w w' : World} {g g' a : Nat} (h : HB w g a) (ho : Only [g'] w w') (hn : g ≠ g') : HB w' g a := h.block (ho.block g h.lt (by simpa using hn))
theorem TR.other {w w' : World} {F : Nat → Prop} {t N g a : Nat} {L : List Fl} (h : TR w F t L N) (hs : HB w g a) (ho : Only [g] w w') : TR w' F t L N := by
  obtain ⟨h1, ⟨A, M, h2, h3⟩, h4, h5⟩ := h
  have key : ∀ k, k < w.heap.size → k ≠ g → w'.heap[k]? = w.heap[k]? := fun k hk hn => ho.block k hk (by simpa using hn)
  have hnd : ∀ k m c x o, ND w k m c x o → k ≠ g := by
    rintro k m c x o hk rfl
    have := hk.blk.symm.trans hs.blk
    simp at this
  refine ⟨h1, ⟨A, M, ⟨fun q c x o e => ?_, fun q s e => ?_, h2.inj, h2.injM⟩, ?_⟩, h4, fun k hk => Nat.lt_of_lt_of_le (h5 k hk) ho.size⟩
  · obtain ⟨k1, k2, k3, k4⟩ := h2.dirs q c x o e
    refine ⟨k1.block (key _ k1.lt (hnd _ _ _ _ _ k1)), k2.block (key _ k2.lt ?_), k3, k4⟩
    intro e2
    obtain ⟨_, _, ⟨es, clock, hb, _⟩, _⟩ := k2
    rw [e2, hs.blk] at hb; cases hb
  · obtain ⟨k1, k2⟩ := h2.files q s e
    exact ⟨k1.block (key _ k1.lt (hnd _ _ _ _ _ k1)), k2⟩
  · refine (key t (Array.getElem?_eq_some_iff.1 h3).1 ?_).trans h3
    rintro rfl
    have := h3.symm.trans hs.blk
    simp at this
theorem OwnF.other {base : Nat} {w w' : World} {v : Value} {l : List Fl} {g a : Nat} (h : OwnF base w v l) (hs : HB w g a) (ho : Only [g] w w') : OwnF base w' v l := by
  refine h.only ho (fun k hk e => ?_)
  simp only [List.mem_singleton] at e
  subst e
  rcases h with ⟨_, ⟨rfl, _⟩ | ⟨g, cap, cur, rfl, _, hg, _⟩⟩
  · cases hk
  · have : g = k := by simpa [Value.ownBlock] using hk
    subst this
    have := hg.symm.trans hs.blk
    simp at this
theorem Own.other {base : Nat} {w w' : World} {v : Value} {l : List (List UInt8)} {g a : Nat} (h : Own base w v l) (hs : HB w g a) (ho : Only [g] w w') : Own base w' v l := by
  refine h.only ho (fun k hk e => ?_)
  simp only [List.mem_singleton] at e
  subst e
  rcases h with ⟨_, ⟨rfl, _⟩ | ⟨g, cap, cur, rfl, _, hg, _⟩⟩
  · cases hk
  · have : g = k := by simpa [Value.ownBlock] using hk
    subst this
    have := hg.symm.trans hs.blk
    simp at this
theorem AS.other {w wc wd : World} {t N g a : Nat} {T O : List Fl} {v : Value} (h : AS w wc t N T v O) (hs : HB wc g a) (ho : Only [g] wc wd) (hg : w.heap.size ≤ g) : AS w wd t N T v O := by
  obtain ⟨F, h1, h2, h3⟩ := h.tr
  exact ⟨⟨F, h1.other hs ho, h2, h3⟩, h.own.other hs ho, below_trans h.below (ho.below h.below.size (fun k hk => by simp at hk; omega)), h.fok⟩

/-- the law's variables: the tree, its list, all that was walked to, the three sums -/
structure LS (w wc : World) (t N g0 g1 g2 : Nat) (v va : Value) (O : List Fl) (Z : List (List UInt8)) (x y z : Nat) : Prop where
  it : AS w wc t N O v O
  all : Own w.heap.size wc va Z
  b0 : w.heap.size ≤ g0
  b1 : w.heap.size ≤ g1
  b2 : w.heap.size ≤ g2
  d01 : g0 ≠ g1
  d02 : g0 ≠ g2
  d12 : g1 ≠ g2
  s0 : HB wc g0 x
  s1 : HB wc g1 y
  s2 : HB wc g2 z
theorem LS.later {w wc wd : World} {t N g0 g1 g2 : Nat} {v va : Value} {O : List Fl} {Z : List (List UInt8)} {x y z : Nat} (h : LS w wc t N g0 g1 g2 v va O Z x y z) (hb : Below wc.heap.size wc wd) : LS w wd t N g0 g1 g2 v va O Z x y z :=
  ⟨h.it.later hb, h.all.later hb, h.b0, h.b1, h.b2, h.d01, h.d02, h.d12, h.s0.later hb, h.s1.later hb, h.s2.later hb⟩
theorem LS.set0 {w wc wd : World} {t N g0 g1 g2 : Nat} {v va : Value} {O : List Fl} {Z : List (List UInt8)} {x y z x' : Nat} (h : LS w wc t N g0 g1 g2 v va O Z x y z) (ho : Only [g0] wc wd) (hn : HB wd g0 x') : LS w wd t N g0 g1 g2 v va O Z x' y z :=
  ⟨h.it.other h.s0 ho h.b0, h.all.other h.s0 ho, h.b0, h.b1, h.b2, h.d01, h.d02, h.d12, hn, h.s1.only ho h.d01.symm, h.s2.only ho h.d02.symm⟩
theorem LS.set1 {w wc wd : World} {t N g0 g1 g2 : Nat} {v va : Value} {O : List Fl} {Z : List (List UInt8)} {x y z y' : Nat} (h : LS w wc t N g0 g1 g2 v va O Z x y z) (ho : Only [g1] wc wd) (hn : HB wd g1 y') : LS w wd t N g0 g1 g2 v va O Z x y' z :=
  ⟨h.it.other h.s1 ho h.b1, h.all.other h.s1 ho, h.b0, h.b1, h.b2, h.d01, h.d02, h.d12, h.s0.only ho h.d01, hn, h.s2.only ho h.d12.symm⟩
theorem LS.set2 {w wc wd : World} {t N g0 g1 g2 : Nat} {v va : Value} {O : List Fl} {Z : List (List UInt8)} {x y z z' : Nat} (h : LS w wc t N g0 g1 g2 v va O Z x y z) (ho : Only [g2] wc wd) (hn : HB wd g2 z') : LS w wd t N g0 g1 g2 v va O Z x y z' :=
  ⟨h.it.other h.s2 ho h.b2, h.all.other h.s2 ho, h.b0, h.b1, h.b2, h.d01, h.d02, h.d12, h.s0.only ho h.d02, h.s1.only ho h.d12, hn⟩
/-- a sum and a file's size, by letters -/
theorem plus_letters (x s : Nat) (hx : x < 4722366482869645213696) (hs : s ≤ 4611686018427387904) {xh xl rh rl : Nat} (e1 : x / 4611686018427387904 = xh) (e2 : x % 4611686018427387904 = xl) (e3 : (x + s) / 4611686018427387904 = rh) (e4 : (x + s) % 4611686018427387904 = rl) (W : World) :
    Calls Try.prog 9 #[.agg #[.int .i64 xh, .int .i64 xl], .int .i64 s] W fun e w' => e = .returned (.agg #[.int .i64 rh, .int .i64 rl]) ∧ Below W.heap.size W w' := by
  have := hplus_any x s (by omega) hs W
  unfold hv at this
  rw [e1, e2, e3, e4] at this; exact this

section
variable {w wc : World} {t N g0 g1 g2 : Nat} {v va : Value} {O : List Fl} {Z : List (List UInt8)} {x y z : Nat}
theorem LS.size (h : LS w wc t N g0 g1 g2 v va O Z x y z) (d : List UInt8) (hd : d.length ≤ 140737488355328) {S : Int} (hS : cap (tot O (pcs d)) = S) (Y : GW wc) :
    Calls Try.prog 10 #[.pointer (some ⟨t, 0, none⟩), .string (bs d)] Y.it fun e w' => e = .returned (.int .i64 S) ∧ ∃ X : GW wc, w' = X.it := by
  obtain ⟨F, h1, _⟩ := h.it.tr
  refine (tsize_any (h1.later Y.below) d hd).mono ?_
  rintro e w' ⟨rfl, hb⟩
  rw [sizeS_eq h1.good, hS]
  exact ⟨rfl, ⟨w', bstep Y.below hb⟩, rfl⟩
theorem LS.count (h : LS w wc t N g0 g1 g2 v va O Z x y z) (d : List UInt8) (hd : d.length ≤ 140737488355328) {S : Nat} (hS : cnt O (pcs d) = S) (Y : GW wc) :
    Calls Try.prog 12 #[.pointer (some ⟨t, 0, none⟩), .string (bs d)] Y.it fun e w' => e = .returned (.int .i64 S) ∧ ∃ X : GW wc, w' = X.it := by
  obtain ⟨F, h1, _⟩ := h.it.tr
  refine (tcount_any (h1.later Y.below) d hd).mono ?_
  rintro e w' ⟨rfl, hb⟩
  rw [countS_eq h1.good, hS]
  exact ⟨rfl, ⟨w', bstep Y.below hb⟩, rfl⟩
theorem LS.ownT (h : LS w wc t N g0 g1 g2 v va O Z x y z) (d : List UInt8) (hd : d.length ≤ 140737488355328) {S : Int} (hS : cap (own O (pcs d)) = S) (Y : GW wc) :
    Calls Try.prog 13 #[.pointer (some ⟨t, 0, none⟩), .string (bs d)] Y.it fun e w' => e = .returned (.int .i64 S) ∧ ∃ X : GW wc, w' = X.it := by
  obtain ⟨F, h1, _⟩ := h.it.tr
  refine (town_any (h1.later Y.below) d hd).mono ?_
  rintro e w' ⟨rfl, hb⟩
  rw [ownS_eq h1.good, hS]
  exact ⟨rfl, ⟨w', bstep Y.below hb⟩, rfl⟩
theorem cap_grow {w : World} (a : Nat) (ha : a < 4722366482869645213696) {h l : Nat} {S : Int} (e1 : a / 4611686018427387904 = h) (e2 : a % 4611686018427387904 = l) (hS : cap a = S) (Y : GW w) :
    Calls Try.prog 11 #[.agg #[.int .i64 h, .int .i64 l]] Y.it fun e w' => e = .returned (.int .i64 S) ∧ ∃ X : GW w, w' = X.it := by
  have := capped_any a (by omega) Y.it
  unfold hv at this
  rw [e1, e2, hS] at this
  refine this.mono ?_
  rintro e w' ⟨rfl, hb⟩
  exact ⟨rfl, ⟨w', bstep Y.below hb⟩, rfl⟩
end
end Go.Proofs.Ytceoelclnnfhhad
