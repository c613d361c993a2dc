/-
  Plain: what is right in a directory, counted.
  The landed tree in memory; a step counted; what is there at a path.
-/
import Derived.Test.YtlkkmcibjhoneaaGreatDoorTt1
import Derived.Test.YtlkkmcibjhoneaaGreatDoorLm
import Derived.Test.YtlkkmcibjhoneaaGreatDoorDa
namespace Go.Proofs.YtlkkmcibjhoneaaGreatDoor

theorem pw_ne {α : Type} (key : α → List UInt8) : ∀ (l : List α), (l.map key).Nodup → ∀ {x : α}, x ∈ l → ∀ q : α → Bool, l.countP q = (l.filter (fun y => !(key y == key x))).countP q + (if q x then 1 else 0)
  | [], _, x, hx, _ => by cases hx
  | y :: l, h, x, hx, q => by
    rw [List.map_cons, List.nodup_cons] at h
    have hkeep : ∀ z, z ∈ l → key z ≠ key y := fun z hz e => h.1 (by rw [← e]; exact List.mem_map_of_mem hz)
    rcases List.mem_cons.1 hx with rfl | hx
    · have e1 : (x :: l).filter (fun y => !(key y == key x)) = l := by
        rw [List.filter_cons_of_neg (by simp)]
        exact List.filter_eq_self.2 (fun z hz => by simpa using hkeep z hz)
      rw [e1, List.countP_cons]
    · have hne : key y ≠ key x := fun e => hkeep x hx e.symm
      rw [List.filter_cons_of_pos (by simpa using hne), List.countP_cons, List.countP_cons, pw_ne key l h.2 hx q]
      omega
theorem pw_len {α : Type} (key : α → List UInt8) (l : List α) (h : (l.map key).Nodup) {x : α} (hx : x ∈ l) : (l.filter (fun y => !(key y == key x))).length = l.length - 1 := by
  have := pw_ne key l h hx (fun _ => true)
  simp only [List.countP_true, if_true] at this
  omega
/-- the file of a path -/
def fF (fs : List Fl) (k : List UInt8) : Option Fl := fs.find? (fun f => f.path == k)
/-- how much is right in a directory -/
def cin (fs : List Fl) (ds : List (List UInt8)) (k : List UInt8) : Nat := (fs.map Fl.path).countP (fun p => dir p == k) + ds.countP (fun d => dir d == k)
def dF (fs : List Fl) (ds : List (List UInt8)) (k : List UInt8) : Option Int := if hasD ds k then some (cin fs ds k : Int) else none
theorem fF_has (fs : List Fl) (k : List UInt8) : (fF fs k).isSome = hasF fs k := by
  unfold fF hasF
  rw [Bool.eq_iff_iff, List.find?_isSome, List.any_eq_true]
theorem dF_has (fs : List Fl) (ds : List (List UInt8)) (k : List UInt8) : (dF fs ds k).isSome = hasD ds k := by
  unfold dF; split <;> simp_all
theorem ins_perm {p : List UInt8} : ∀ {l : List (List UInt8)}, p ∉ l → (ins p l).Perm (p :: l)
  | [], _ => .refl _
  | y :: l, h => by
    rw [List.mem_cons, not_or] at h
    unfold ins
    split
    · exact .refl _
    · split
      · rename_i e
        exact absurd (cf_zero.1 e) h.1
      · exact ((ins_perm h.2).cons y).trans (.swap _ _ _)
theorem insF_paths {f : Fl} : ∀ {l : List Fl}, l.Pairwise (fun a b => cf a.path b.path < 0) → (if hasF l f.path then (insF f l).map Fl.path = l.map Fl.path else ((insF f l).map Fl.path).Perm (f.path :: l.map Fl.path))
  | [], _ => by simp [hasF, insF]
  | g :: r, h => by
    have hr := List.pairwise_cons.1 h
    unfold insF
    by_cases h1 : cf g.path f.path < 0
    · rw [if_pos h1]
      have hne : ¬ g.path = f.path := fun e => by rw [e, cf_self] at h1; omega
      have ih := insF_paths (f := f) hr.2
      have e : hasF (g :: r) f.path = hasF r f.path := by simp [hasF, hne]
      rw [e]
      split
      · rename_i h2; rw [if_pos h2] at ih; simp [ih]
      · rename_i h2; rw [if_neg h2] at ih
        simpa using (ih.cons g.path).trans (.swap _ _ _)
    · rw [if_neg h1]
      by_cases h2 : g.path = f.path
      · rw [if_pos h2, if_pos (by simp [hasF, h2])]
        simp [h2]
      · rw [if_neg h2]
        have hno : hasF (g :: r) f.path = false := by
          rw [Bool.eq_false_iff]
          intro hh
          obtain ⟨x, hx, e⟩ := hasF_iff.1 hh
          rcases List.mem_cons.1 hx with rfl | hx
          · exact h2 e
          · have := hr.1 x hx
            rw [e] at this
            exact h1 this
        rw [if_neg (by simp [hno])]
        exact .refl _
theorem fF_ins {f : Fl} : ∀ {l : List Fl}, l.Pairwise (fun a b => cf a.path b.path < 0) → ∀ k, fF (insF f l) k = if k = f.path then some f else fF l k
  | [], _, k => by
    by_cases e : k = f.path
    · simp [fF, insF, e]
    · have : ¬ f.path = k := fun h => e h.symm
      simp [fF, insF, e, this]
  | g :: r, h, k => by
    have hr := List.pairwise_cons.1 h
    unfold insF
    by_cases h1 : cf g.path f.path < 0
    · rw [if_pos h1]
      have hne : ¬ g.path = f.path := fun e => by rw [e, cf_self] at h1; omega
      have ih := fF_ins (f := f) hr.2 k
      unfold fF at ih ⊢
      by_cases hk : g.path = k
      · have : ¬ k = f.path := fun e => hne (hk.trans e)
        simp [hk, this]
      · simp [hk, ih]
    · rw [if_neg h1]
      by_cases h2 : g.path = f.path
      · rw [if_pos h2]
        by_cases e : k = f.path
        · simp [fF, e]
        · have e1 : ¬ f.path = k := fun h => e h.symm
          have e2 : ¬ g.path = k := fun h => e1 (h2 ▸ h)
          simp [fF, e, e1, e2]
      · rw [if_neg h2]
        by_cases e : k = f.path
        · simp [fF, e]
        · have e1 : ¬ f.path = k := fun h => e h.symm
          simp [fF, e, e1]
theorem fF_del (l : List Fl) (p k : List UInt8) : fF (l.filter (fun f => !(f.path == p))) k = if k = p then none else fF l k := by
  unfold fF
  rw [List.find?_filter]
  split
  · rename_i e
    subst e
    rw [List.find?_eq_none]
    intro x _
    simp
  · rename_i e
    congr 1
    funext x
    by_cases h : x.path = k
    · simp [h, e]
    · simp [h]
theorem paths_nd {l : List Fl} (h : l.Pairwise (fun a b => cf a.path b.path < 0)) : (l.map Fl.path).Nodup := by
  rw [List.nodup_iff_pairwise_ne, List.pairwise_map]
  exact h.imp (fun {a b} hab e => by rw [e, cf_self] at hab; omega)
theorem up_nd {l : List (List UInt8)} (h : Up l) : l.Nodup := by
  rw [List.nodup_iff_pairwise_ne]
  exact List.Pairwise.imp (fun {a b} hab e => by rw [e, cf_self] at hab; omega) h
/-! ### what a step makes of the counts -/
theorem cin_none {T : TT} (h : TOk T) {p : List UInt8} (hp : hasD T.ds p = false) : cin T.fs T.ds p = 0 := by
  unfold cin
  rw [Nat.add_eq_zero_iff, List.countP_eq_zero, List.countP_eq_zero]
  refine ⟨fun x hx => ?_, fun d hd => ?_⟩
  · obtain ⟨f, hf, rfl⟩ := List.mem_map.1 hx
    have := h.fd f hf
    intro e
    have e' : dir f.path = p := by simpa using e
    rw [e', hp] at this; cases this
  · have := h.dd d hd
    intro e
    have e' : dir d = p := by simpa using e
    rw [e', hp] at this; cases this
theorem cin_dir {fs : List Fl} {ds : List (List UInt8)} {p : List UInt8} (hn : p ∉ ds) (k : List UInt8) : cin fs (ins p ds) k = cin fs ds k + (if dir p = k then 1 else 0) := by
  unfold cin
  rw [(ins_perm hn).countP_eq, List.countP_cons]
  simp only [beq_iff_eq]
  omega
theorem cin_file {fs : List Fl} {ds : List (List UInt8)} {f : Fl} (hu : fs.Pairwise (fun a b => cf a.path b.path < 0)) (k : List UInt8) : cin (insF f fs) ds k = cin fs ds k + (if hasF fs f.path = false ∧ dir f.path = k then 1 else 0) := by
  have := insF_paths (f := f) hu
  unfold cin
  by_cases h : hasF fs f.path = true
  · rw [if_pos h] at this
    rw [this, h]
    simp
  · rw [if_neg h] at this
    have h' : hasF fs f.path = false := by simpa using h
    rw [this.countP_eq, List.countP_cons, h']
    simp only [beq_iff_eq, true_and]
    omega
theorem len_file {fs : List Fl} {f : Fl} (hu : fs.Pairwise (fun a b => cf a.path b.path < 0)) : (insF f fs).length = if hasF fs f.path then fs.length else fs.length + 1 := by
  have := insF_paths (f := f) hu
  split
  · rename_i h; rw [if_pos h] at this; simpa using congrArg List.length this
  · rename_i h; rw [if_neg h] at this; simpa using this.length_eq
theorem cin_del {fs : List Fl} {ds : List (List UInt8)} {p : List UInt8} (hu : fs.Pairwise (fun a b => cf a.path b.path < 0)) (hp : hasF fs p = true) (k : List UInt8) :
    cin fs ds k = cin (fs.filter (fun f => !(f.path == p))) ds k + (if dir p = k then 1 else 0) := by
  obtain ⟨x, hx, rfl⟩ := hasF_iff.1 hp
  unfold cin
  rw [List.countP_map, List.countP_map, pw_ne Fl.path fs (paths_nd hu) hx]
  simp only [Function.comp, beq_iff_eq]
  omega
theorem len_del {fs : List Fl} {p : List UInt8} (hu : fs.Pairwise (fun a b => cf a.path b.path < 0)) (hp : hasF fs p = true) : (fs.filter (fun f => !(f.path == p))).length = fs.length - 1 := by
  obtain ⟨x, hx, rfl⟩ := hasF_iff.1 hp
  exact pw_len Fl.path fs (paths_nd hu) hx
theorem cin_rm {fs : List Fl} {ds : List (List UInt8)} {p : List UInt8} (hu : Up ds) (hp : p ∈ ds) (k : List UInt8) :
    cin fs ds k = cin fs (ds.filter (fun d => !(d == p))) k + (if dir p = k then 1 else 0) := by
  unfold cin
  rw [pw_ne id ds (by simpa using up_nd hu) hp]
  simp only [id, beq_iff_eq]
  omega
theorem len_rm {ds : List (List UInt8)} {p : List UInt8} (hu : Up ds) (hp : p ∈ ds) : (ds.filter (fun d => !(d == p))).length + 1 = ds.length := by
  have := pw_len id ds (by simpa using up_nd hu) hp
  simp only [id] at this
  have := List.length_pos_of_mem hp
  omega
theorem cin_emp {T : TT} {p : List UInt8} : emp T p = true ↔ cin T.fs T.ds p = 0 := by
  unfold emp cin
  rw [Nat.add_eq_zero_iff, List.countP_eq_zero, List.countP_eq_zero, Bool.and_eq_true, List.all_eq_true, List.all_eq_true]
  simp
end Go.Proofs.YtlkkmcibjhoneaaGreatDoor

namespace Go.Proofs.YtlkkmcibjhoneaaGreatDoor
open Go.RowKit Go.Maps

theorem Ev.only {S : List Nat} {w w' : World} (h : Ev w) (hb : Only S w w') (hS : ∀ k ∈ S, 4 ≤ k) : Ev w' := h.below (hb.below h.big hS) (Nat.le_refl _)
/-- what left and down say -/
def LF (sp : Int) (dn : Bool) (lf : Int) : Prop := -9223372036854775808 ≤ lf ∧ lf ≤ 9223372036854775807 ∧ (dn = true → lf = 0 ∧ sp = 1) ∧ (dn = false → lf < 1 ∧ sp = 0 ∨ 1 ≤ lf ∧ sp = lf)
structure LX (w : World) (c mf md : Nat) (vj vt : Value) (lf : Int) (T : TT) : Prop where
  blk : w.heap[c]? = some (.cells #[.map (some mf), .map (some md), vj, .int .i64 T.st, .int .i64 lf, .bool T.dn, vt] 73 (0, 0))
  fl : MP cF w mf (fF T.fs) T.fs.length
  dr : MP cI w md (dF T.fs T.ds) (T.ds.length + 1)
  jo : OwnB 0 w vj T.jl
  ton : OwnB 0 w vt T.tn
  rel : LF T.sp T.dn lf
  low : 4 ≤ c ∧ 4 ≤ mf ∧ 4 ≤ md ∧ ∀ k, vj.ownBlock = some k → 4 ≤ k
  nm : mf ≠ md
  nj : ∀ k, vj.ownBlock = some k → vt.ownBlock ≠ some k
  ok : TOk T
  ev : Ev w
/-- the blocks of a tree -/
abbrev LB (c mf md : Nat) (vj vt : Value) (k : Nat) : Prop := k = c ∨ k = mf ∨ k = md ∨ vj.ownBlock = some k ∨ vt.ownBlock = some k
section
variable {w w' : World} {c mf md : Nat} {vj vt : Value} {lf : Int} {T : TT}
theorem LX.clt (h : LX w c mf md vj vt lf T) : c < w.heap.size := (Array.getElem?_eq_some_iff.1 h.blk).1
theorem LX.cm (h : LX w c mf md vj vt lf T) : c ≠ mf ∧ c ≠ md := by
  obtain ⟨es, ck, e⟩ := h.fl.isMap
  obtain ⟨es', ck', e'⟩ := h.dr.isMap
  refine ⟨?_, ?_⟩
  · rintro rfl; rw [h.blk] at e; cases e
  · rintro rfl; rw [h.blk] at e'; cases e'
theorem ownB_cells {base : Nat} {v : Value} {l : List UInt8} (h : OwnB base w v l) {k : Nat} (hk : v.ownBlock = some k) : ∃ a, w.heap[k]? = some (.cells a 5 (0, 0)) ∧ k < w.heap.size := by
  obtain ⟨b, off, cap, rfl⟩ | e : (∃ b off cap, v = .slice (some ⟨b, off, none⟩) l.length cap) ∨ v.ownBlock = none := by
    rcases h.2 with ⟨rfl, _⟩ | ⟨g, cap, cur, rfl, _⟩
    · exact .inr rfl
    · exact .inl ⟨_, _, _, rfl⟩
  · rcases h.2 with ⟨e, _⟩ | ⟨g, cap', cur, e, hb, hg, _⟩
    · cases e
    · injection e with e _ _
      injection e with e
      simp only [Value.ownBlock, Option.some.injEq] at hk
      have : k = g := by rw [← hk]; exact congrArg Addr.block e
      subst this
      exact ⟨_, hg, (Array.getElem?_eq_some_iff.1 hg).1⟩
  · rw [e] at hk; cases hk
theorem LX.blt (h : LX w c mf md vj vt lf T) : ∀ k, LB c mf md vj vt k → k < w.heap.size := by
  rintro k (rfl | rfl | rfl | hk | hk)
  · exact h.clt
  · exact h.fl.lt
  · exact h.dr.lt
  · obtain ⟨a, _, e⟩ := ownB_cells h.jo hk; exact e
  · obtain ⟨a, _, e⟩ := ownB_cells h.ton hk; exact e
/-- a row of bytes lies apart from all else of the tree -/
theorem LX.row_ne (h : LX w c mf md vj vt lf T) {base : Nat} {v : Value} {l : List UInt8} (ho : OwnB base w v l) : ∀ k, v.ownBlock = some k → k ≠ c ∧ k ≠ mf ∧ k ≠ md := by
  intro k hk
  obtain ⟨a, e, _⟩ := ownB_cells ho hk
  obtain ⟨es, ck, e1⟩ := h.fl.isMap
  obtain ⟨es', ck', e2⟩ := h.dr.isMap
  refine ⟨?_, ?_, ?_⟩
  · rintro rfl; rw [h.blk] at e; cases e
  · rintro rfl; rw [e1] at e; cases e
  · rintro rfl; rw [e2] at e; cases e
theorem LX.stay (h : LX w c mf md vj vt lf T) (hs : ∀ k, LB c mf md vj vt k → w'.heap[k]? = w.heap[k]?) (hev : Ev w') : LX w' c mf md vj vt lf T :=
  ⟨(hs c (.inl rfl)).trans h.blk, h.fl.block (hs mf (.inr (.inl rfl))), h.dr.block (hs md (.inr (.inr (.inl rfl)))), row_stay h.jo (fun k hk => hs k (.inr (.inr (.inr (.inl hk))))), row_stay h.ton (fun k hk => hs k (.inr (.inr (.inr (.inr hk))))), h.rel, h.low, h.nm, h.nj, h.ok, hev⟩
theorem LX.later (h : LX w c mf md vj vt lf T) (hb : Below w.heap.size w w') : LX w' c mf md vj vt lf T := h.stay (fun k hk => hb.block k (h.blt k hk)) (h.ev.later hb)
/-- the tree's own block is written anew -/
theorem LX.put (h : LX w c mf md vj vt lf T) {T' : TT} {lf' : Int} (ho : Only [c] w w') (hb : w'.heap[c]? = some (.cells #[.map (some mf), .map (some md), vj, .int .i64 T'.st, .int .i64 lf', .bool T'.dn, vt] 73 (0, 0)))
    (e1 : T'.fs = T.fs) (e2 : T'.ds = T.ds) (e3 : T'.jl = T.jl) (e4 : T'.tn = T.tn) (hr : LF T'.sp T'.dn lf') (hok : TOk T') : LX w' c mf md vj vt lf' T' := by
  have hs : ∀ k, LB c mf md vj vt k → k ≠ c → w'.heap[k]? = w.heap[k]? := fun k hk hn => ho.block k (h.blt k hk) (by simpa using hn)
  have ⟨n1, n2⟩ := h.cm
  refine ⟨hb, ?_, ?_, ?_, ?_, hr, h.low, h.nm, h.nj, hok, h.ev.only ho (by simpa using h.low.1)⟩
  · rw [e1]; exact h.fl.block (hs mf (.inr (.inl rfl)) (Ne.symm n1))
  · rw [e1, e2]; exact h.dr.block (hs md (.inr (.inr (.inl rfl))) (Ne.symm n2))
  · rw [e3]; exact row_stay h.jo (fun k hk => hs k (.inr (.inr (.inr (.inl hk)))) (h.row_ne h.jo k hk).1)
  · rw [e4]; exact row_stay h.ton (fun k hk => hs k (.inr (.inr (.inr (.inr hk)))) (h.row_ne h.ton k hk).1)
theorem cellsC {a b d e f g i : Value} {t : TypeId} (h : w.heap[c]? = some (.cells #[a, b, d, e, f, g, i] t (0, 0))) : w.cell? ⟨c, 0, none⟩ = some a ∧ w.cell? ⟨c, 1, none⟩ = some b ∧ w.cell? ⟨c, 2, none⟩ = some d ∧ w.cell? ⟨c, 3, none⟩ = some e ∧ w.cell? ⟨c, 4, none⟩ = some f ∧ w.cell? ⟨c, 5, none⟩ = some g ∧ w.cell? ⟨c, 6, none⟩ = some i := by
  simp [World.cell?, h]
theorem frzC {a : Array Value} {t : TypeId} (h : w.heap[c]? = some (.cells a t (0, 0))) (i : Nat) : w.frozen? ⟨c, i, none⟩ = false := by
  simp [World.frozen?, h]
theorem LX.cells (h : LX w c mf md vj vt lf T) : w.cell? ⟨c, 0, none⟩ = some (.map (some mf)) ∧ w.cell? ⟨c, 1, none⟩ = some (.map (some md)) ∧ w.cell? ⟨c, 2, none⟩ = some vj ∧ w.cell? ⟨c, 3, none⟩ = some (.int .i64 T.st) ∧ w.cell? ⟨c, 4, none⟩ = some (.int .i64 lf) ∧ w.cell? ⟨c, 5, none⟩ = some (.bool T.dn) ∧ w.cell? ⟨c, 6, none⟩ = some vt := cellsC h.blk
theorem LX.soft (h : LX w c mf md vj vt lf T) (i : Nat) : w.frozen? ⟨c, i, none⟩ = false := frzC h.blk i
end
end Go.Proofs.YtlkkmcibjhoneaaGreatDoor
