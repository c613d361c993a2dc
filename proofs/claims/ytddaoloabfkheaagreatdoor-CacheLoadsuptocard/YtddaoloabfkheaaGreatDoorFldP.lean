/-
  A target in its block, its lists; its fields.
-/
import Derived.Test.YtddaoloabfkheaaGreatDoorListS
import Derived.Test.YtddaoloabfkheaaGreatDoorListE
import Derived.Test.YtddaoloabfkheaaGreatDoorListD
namespace Go.Proofs.YtddaoloabfkheaaGreatDoor
open Go.RowKit

/-- no memory in common -/
def Ap (a b : Value) : Prop := ∀ k, a.ownBlock = some k → b.ownBlock ≠ some k
theorem Ap.symm {a b : Value} (h : Ap a b) : Ap b a := fun k hb ha => h k ha hb
def Tv.s (t : Tv) : Value := .slice t.sa t.sn t.sc
def Tv.d (t : Tv) : Value := .slice t.da t.dn t.dc
def Tv.e (t : Tv) : Value := .slice t.ea t.en t.ec
def Tv.vals (t : Tv) : List Value := [t.s, t.d, t.e]
/-- a target's block -/
structure TB (w : World) (g : Nat) (t : Tv) : Prop where
  blk : w.heap[g]? = some (.cells #[.string (bs t.name), .slice t.sa t.sn t.sc, .slice t.da t.dn t.dc, .slice t.ea t.en t.ec] 66 (0, 0))
theorem TB.lt {w : World} {g : Nat} {t : Tv} (h : TB w g t) : g < w.heap.size := (Array.getElem?_eq_some_iff.1 h.blk).1
theorem TB.only {S : List Nat} {w w' : World} {g : Nat} {t : Tv} (h : TB w g t) (ho : Only S w w') (hg : g ∉ S) : TB w' g t := ⟨(ho.block g h.lt hg).trans h.blk⟩
theorem TB.later {w w' : World} {g : Nat} {t : Tv} (h : TB w g t) (hb : Below w.heap.size w w') : TB w' g t := h.only (Only.of_below hb []) (by simp)
theorem TB.below {B : Nat} {w w' : World} {g : Nat} {t : Tv} (h : TB w g t) (hb : Below B w w') (hg : g < B) : TB w' g t := ⟨(hb.block g hg).trans h.blk⟩
theorem TB.new (w : World) (t : Tv) : TB (w.alloc t.obj) w.heap.size t := ⟨heap_alloc_new _ _⟩
theorem TB.cells {w : World} {g : Nat} {t : Tv} (h : TB w g t) : w.cell? ⟨g, 0, none⟩ = some (.string (bs t.name)) ∧ w.cell? ⟨g, 1, none⟩ = some (.slice t.sa t.sn t.sc) ∧ w.cell? ⟨g, 2, none⟩ = some (.slice t.da t.dn t.dc) ∧ w.cell? ⟨g, 3, none⟩ = some (.slice t.ea t.en t.ec) ∧
    w.frozen? ⟨g, 1, none⟩ = false ∧ w.frozen? ⟨g, 2, none⟩ = false ∧ w.frozen? ⟨g, 3, none⟩ = false := by
  have hb := h.blk
  exact ⟨by simp [World.cell?, hb], by simp [World.cell?, hb], by simp [World.cell?, hb], by simp [World.cell?, hb], by simp [World.frozen?, hb], by simp [World.frozen?, hb], by simp [World.frozen?, hb]⟩
theorem TB.set1 {w : World} {g : Nat} {t : Tv} (h : TB w g t) (a : Option Addr) (n c : Nat) : TB (w.setCell ⟨g, 1, none⟩ (.slice a n c)) g { t with sa := a, sn := n, sc := c } := by
  refine ⟨?_⟩; rw [heap_setCell _ _ _ _ h.blk]; simp
theorem TB.set2 {w : World} {g : Nat} {t : Tv} (h : TB w g t) (a : Option Addr) (n c : Nat) : TB (w.setCell ⟨g, 2, none⟩ (.slice a n c)) g { t with da := a, dn := n, dc := c } := by
  refine ⟨?_⟩; rw [heap_setCell _ _ _ _ h.blk]; simp
theorem TB.set3 {w : World} {g : Nat} {t : Tv} (h : TB w g t) (a : Option Addr) (n c : Nat) : TB (w.setCell ⟨g, 3, none⟩ (.slice a n c)) g { t with ea := a, en := n, ec := c } := by
  refine ⟨?_⟩; rw [heap_setCell _ _ _ _ h.blk]; simp
/-- a target's lists, of memory of their own -/
structure TOwn (base : Nat) (w : World) (v : Tv) (t : Tg) : Prop where
  name : v.name = t.name
  s : Own base w v.s t.srcs
  d : OwnL base w v.d t.deps
  e : Own base w v.e t.see
  sd : Ap v.s v.d
  se : Ap v.s v.e
  de : Ap v.d v.e
theorem TOwn.only {S : List Nat} {base : Nat} {w w' : World} {v : Tv} {t : Tg} (h : TOwn base w v t) (ho : Only S w w') (hn : ∀ u ∈ v.vals, ∀ k, u.ownBlock = some k → k ∉ S) : TOwn base w' v t :=
  ⟨h.name, h.s.only ho (hn _ (by simp [Tv.vals])), h.d.only ho (hn _ (by simp [Tv.vals])), h.e.only ho (hn _ (by simp [Tv.vals])), h.sd, h.se, h.de⟩
theorem TOwn.later {base : Nat} {w w' : World} {v : Tv} {t : Tg} (h : TOwn base w v t) (hb : Below w.heap.size w w') : TOwn base w' v t := h.only (Only.of_below hb []) (by simp)
theorem TOwn.lt {base : Nat} {w : World} {v : Tv} {t : Tg} (h : TOwn base w v t) : ∀ u ∈ v.vals, ∀ k, u.ownBlock = some k → base ≤ k ∧ k < w.heap.size := by
  intro u hu k hk
  simp only [Tv.vals, List.mem_cons, List.mem_nil_iff, or_false] at hu
  rcases hu with rfl | rfl | rfl
  · exact h.s.lt hk
  · exact h.d.lt hk
  · exact h.e.lt hk
theorem TOwn.mono {base base' : Nat} {w : World} {v : Tv} {t : Tg} (h : TOwn base w v t) (hb : base' ≤ base) : TOwn base' w v t := ⟨h.name, h.s.mono hb, h.d.mono hb, h.e.mono hb, h.sd, h.se, h.de⟩
/-- how many fields were there -/
def cnt (H : List (List UInt8)) : Nat := (H.contains wSrcs).toNat + (H.contains wDeps).toNat + (H.contains wSee).toNat
theorem cnt_le (H : List (List UInt8)) : cnt H ≤ 3 := by
  unfold cnt
  have := Bool.toNat_le (H.contains wSrcs)
  have := Bool.toNat_le (H.contains wDeps)
  have := Bool.toNat_le (H.contains wSee)
  omega
theorem has_app (H : List (List UInt8)) (x y : List UInt8) : (H ++ [x]).contains y = (H.contains y || (y == x)) := by
  rw [List.contains_append]
  congr 1
  simp only [List.contains, List.elem]
  cases (y == x) <;> rfl
theorem cnt_app {H : List (List UInt8)} {x : List UInt8} (h : H.contains x = false) (hx : isF x = true) : cnt (H ++ [x]) = cnt H + 1 := by
  unfold cnt
  rw [has_app, has_app, has_app]
  unfold isF at hx
  simp only [Bool.or_eq_true, beq_iff_eq] at hx
  have n1 : (wSrcs == wDeps) = false := by decide
  have n2 : (wSrcs == wSee) = false := by decide
  have n3 : (wDeps == wSee) = false := by decide
  have n4 : (wDeps == wSrcs) = false := by decide
  have n5 : (wSee == wSrcs) = false := by decide
  have n6 : (wSee == wDeps) = false := by decide
  rcases hx with (rfl | rfl) | rfl
  · rw [h, n4, n5]; simp; omega
  · rw [h, n1, n6]; simp; omega
  · rw [h, n2, n3]; simp
/-- which lists are there -/
structure Hd (H : List (List UInt8)) (t : Tg) : Prop where
  len : H.length = cnt H
  s : H.contains wSrcs = false → t.srcs = []
  d : H.contains wDeps = false → t.deps = []
  e : H.contains wSee = false → t.see = []
theorem Hd.addS {H : List (List UInt8)} {t : Tg} (h : Hd H t) (hn : H.contains wSrcs = false) (A : List (List UInt8)) : Hd (H ++ [wSrcs]) { t with srcs := A } := by
  refine ⟨by rw [cnt_app hn (by decide), List.length_append, h.len]; rfl, fun hc => ?_, fun hc => h.d ?_, fun hc => h.e ?_⟩
  · rw [has_app] at hc; simp at hc
  · rw [has_app] at hc; simp only [Bool.or_eq_false_iff] at hc; exact hc.1
  · rw [has_app] at hc; simp only [Bool.or_eq_false_iff] at hc; exact hc.1
theorem Hd.addD {H : List (List UInt8)} {t : Tg} (h : Hd H t) (hn : H.contains wDeps = false) (A : List Lb) : Hd (H ++ [wDeps]) { t with deps := A } := by
  refine ⟨by rw [cnt_app hn (by decide), List.length_append, h.len]; rfl, fun hc => h.s ?_, fun hc => ?_, fun hc => h.e ?_⟩
  · rw [has_app] at hc; simp only [Bool.or_eq_false_iff] at hc; exact hc.1
  · rw [has_app] at hc; simp at hc
  · rw [has_app] at hc; simp only [Bool.or_eq_false_iff] at hc; exact hc.1
theorem Hd.addE {H : List (List UInt8)} {t : Tg} (h : Hd H t) (hn : H.contains wSee = false) (A : List (List UInt8)) : Hd (H ++ [wSee]) { t with see := A } := by
  refine ⟨by rw [cnt_app hn (by decide), List.length_append, h.len]; rfl, fun hc => h.s ?_, fun hc => h.d ?_, fun hc => ?_⟩
  · rw [has_app] at hc; simp only [Bool.or_eq_false_iff] at hc; exact hc.1
  · rw [has_app] at hc; simp only [Bool.or_eq_false_iff] at hc; exact hc.1
  · rw [has_app] at hc; simp at hc
/-- what stands while a target is read -/
structure FI (w : World) (g gT : Nat) (p : List UInt8) (E : Int) (vh : Value) (H : List (List UInt8)) (tv : Tv) (t : Tg) (L : List Tk) (wr : World) : Prop where
  h : Own w.heap.size wr vh H
  b : TB wr gT tv
  o : TOwn w.heap.size wr tv t
  q : RQ wr g p E L
  only : Only [g, gT] w wr
  ap : ∀ u ∈ tv.vals, Ap vh u
theorem FI.later {w wr w' : World} {g gT : Nat} {p : List UInt8} {E : Int} {vh : Value} {H : List (List UInt8)} {tv : Tv} {t : Tg} {L : List Tk} (h : FI w g gT p E vh H tv t L wr) (hb : Below wr.heap.size wr w') : FI w g gT p E vh H tv t L w' :=
  ⟨h.h.later hb, h.b.later hb, h.o.later hb, h.q.later hb, h.only.trans (Only.of_below hb _), h.ap⟩
theorem FI.tok {w wr w' : World} {g gT : Nat} {p : List UInt8} {E : Int} {vh : Value} {H : List (List UInt8)} {tv : Tv} {t : Tg} {L L' : List Tk} (h : FI w g gT p E vh H tv t L wr) (ho : Only [g] wr w') (hq : RQ w' g p E L') (hg : g < w.heap.size) (hne : gT ≠ g) : FI w g gT p E vh H tv t L' w' := by
  refine ⟨h.h.only ho fun k hk hm => ?_, h.b.only ho (by simpa using hne), h.o.only ho fun u hu k hk hm => ?_, hq, h.only.trans (ho.mono (by simp)), h.ap⟩
  · have := (h.h.lt hk).1; simp only [List.mem_singleton] at hm; omega
  · have := (h.o.lt u hu k hk).1; simp only [List.mem_singleton] at hm; omega
/-- a word more among those that were there -/
theorem FI.had {w wr w' : World} {g gT : Nat} {p : List UInt8} {E : Int} {vh vh' : Value} {H H' : List (List UInt8)} {tv : Tv} {t : Tg} {L : List Tk} (h : FI w g gT p E vh H tv t L wr) (ho : Own w.heap.size w' vh' H') (hb : Below w.heap.size wr w') (hn : Only vh.ownBlock.toList wr w') (hw : vh'.ownBlock = vh.ownBlock ∨ ∃ k, vh'.ownBlock = some k ∧ wr.heap.size ≤ k) (hg : g < w.heap.size) (hgT : gT < w.heap.size) : FI w g gT p E vh' H' tv t L w' := by
  refine ⟨ho, h.b.below hb hgT, h.o.only hn fun u hu k hk hm => ?_, h.q.below hb hg, only_below h.only hb (Nat.le_refl _), fun u hu k hk hk' => ?_⟩
  · rw [Option.mem_toList] at hm
    exact h.ap u hu k hm hk
  · rcases hw with hw | ⟨k', hw, hk2⟩
    · exact h.ap u hu k (hw ▸ hk) hk'
    · have := (h.o.lt u hu k hk').2
      rw [hw] at hk; injection hk with hk; omega
theorem only_cell {S : List Nat} {w w' : World} {p : Addr} (ho : Only S w w') (hp : p.block < w.heap.size) (hn : p.block ∉ S) : w'.cell? p = w.cell? p := by
  unfold World.cell?
  rw [ho.block p.block hp hn]
theorem set_only {g : Nat} {S : List Nat} {w wr : World} (h : Only S w wr) (hg : g ∈ S) (o : Nat) (v : Value) : Only S w (wr.setCell ⟨g, o, none⟩ v) := h.trans ((Only.set _ _ _ _).mono (by simpa using hg))
theorem FI.setS {w wr w' : World} {g gT : Nat} {p : List UInt8} {E : Int} {vh : Value} {H : List (List UInt8)} {tv : Tv} {t : Tg} {L L' : List Tk} (h : FI w g gT p E vh H tv t L wr) (ho : Only [g] wr w') (hq : RQ w' g p E L') (hg : g < gT) (hgT : gT < w.heap.size) {a : Option Addr} {n c : Nat} {A : List (List UInt8)} (hA : Own wr.heap.size w' (.slice a n c) A) :
    FI w g gT p E vh H { tv with sa := a, sn := n, sc := c } { t with srcs := A } L' (w'.setCell ⟨gT, 1, none⟩ (.slice a n c)) := by
  have h1 := h.tok ho hq (by omega) (by omega)
  have hsz := h.only.size
  have new : ∀ u ∈ vh :: tv.vals, Ap (.slice a n c) u := fun u hu k hk hk' => by
    have h2 := (hA.lt hk).1
    rcases List.mem_cons.1 hu with rfl | hu
    · have := (h.h.lt hk').2; omega
    · have := (h.o.lt u hu k hk').2; omega
  have hs : Only [gT] w' (w'.setCell ⟨gT, 1, none⟩ (.slice a n c)) := Only.set _ _ _ _
  have hb : Below gT w' (w'.setCell ⟨gT, 1, none⟩ (.slice a n c)) := (Below.refl _ _).setCell (p := ⟨gT, 1, none⟩) (Nat.le_refl _) _
  have far : ∀ (v : Value), (∀ k, v.ownBlock = some k → w.heap.size ≤ k) → ∀ k, v.ownBlock = some k → k ∉ [gT] := fun v hv k hk hm => by have := hv k hk; simp only [List.mem_singleton] at hm; omega
  refine ⟨h1.h.only hs (far _ fun k hk => (h1.h.lt hk).1), h1.b.set1 a n c, ⟨h1.o.name, (hA.mono hsz).only hs (far _ fun k hk => by have := (hA.lt hk).1; omega), h1.o.d.only hs (far _ fun k hk => (h1.o.d.lt hk).1), h1.o.e.only hs (far _ fun k hk => (h1.o.e.lt hk).1), new _ (by simp [Tv.vals, Tv.d]), new _ (by simp [Tv.vals, Tv.e]), h1.o.de⟩, h1.q.below hb hg, set_only h1.only (by simp) _ _, fun u hu => ?_⟩
  simp only [Tv.vals, List.mem_cons, List.mem_nil_iff, or_false] at hu
  rcases hu with rfl | rfl | rfl
  · exact (new vh (by simp)).symm
  · exact h.ap _ (by simp [Tv.vals, Tv.d])
  · exact h.ap _ (by simp [Tv.vals, Tv.e])
theorem FI.setD {w wr w' : World} {g gT : Nat} {p : List UInt8} {E : Int} {vh : Value} {H : List (List UInt8)} {tv : Tv} {t : Tg} {L L' : List Tk} (h : FI w g gT p E vh H tv t L wr) (ho : Only [g] wr w') (hq : RQ w' g p E L') (hg : g < gT) (hgT : gT < w.heap.size) {a : Option Addr} {n c : Nat} {A : List Lb} (hA : OwnL wr.heap.size w' (.slice a n c) A) :
    FI w g gT p E vh H { tv with da := a, dn := n, dc := c } { t with deps := A } L' (w'.setCell ⟨gT, 2, none⟩ (.slice a n c)) := by
  have h1 := h.tok ho hq (by omega) (by omega)
  have hsz := h.only.size
  have new : ∀ u ∈ vh :: tv.vals, Ap (.slice a n c) u := fun u hu k hk hk' => by
    have h2 := (hA.lt hk).1
    rcases List.mem_cons.1 hu with rfl | hu
    · have := (h.h.lt hk').2; omega
    · have := (h.o.lt u hu k hk').2; omega
  have hs : Only [gT] w' (w'.setCell ⟨gT, 2, none⟩ (.slice a n c)) := Only.set _ _ _ _
  have hb : Below gT w' (w'.setCell ⟨gT, 2, none⟩ (.slice a n c)) := (Below.refl _ _).setCell (p := ⟨gT, 2, none⟩) (Nat.le_refl _) _
  have far : ∀ (v : Value), (∀ k, v.ownBlock = some k → w.heap.size ≤ k) → ∀ k, v.ownBlock = some k → k ∉ [gT] := fun v hv k hk hm => by have := hv k hk; simp only [List.mem_singleton] at hm; omega
  refine ⟨h1.h.only hs (far _ fun k hk => (h1.h.lt hk).1), h1.b.set2 a n c, ⟨h1.o.name, h1.o.s.only hs (far _ fun k hk => (h1.o.s.lt hk).1), (hA.mono hsz).only hs (far _ fun k hk => by have := (hA.lt hk).1; omega), h1.o.e.only hs (far _ fun k hk => (h1.o.e.lt hk).1), (new _ (by simp [Tv.vals, Tv.s])).symm, h1.o.se, new _ (by simp [Tv.vals, Tv.e])⟩, h1.q.below hb hg, set_only h1.only (by simp) _ _, fun u hu => ?_⟩
  simp only [Tv.vals, List.mem_cons, List.mem_nil_iff, or_false] at hu
  rcases hu with rfl | rfl | rfl
  · exact h.ap _ (by simp [Tv.vals, Tv.s])
  · exact (new vh (by simp)).symm
  · exact h.ap _ (by simp [Tv.vals, Tv.e])
theorem FI.setE {w wr w' : World} {g gT : Nat} {p : List UInt8} {E : Int} {vh : Value} {H : List (List UInt8)} {tv : Tv} {t : Tg} {L L' : List Tk} (h : FI w g gT p E vh H tv t L wr) (ho : Only [g] wr w') (hq : RQ w' g p E L') (hg : g < gT) (hgT : gT < w.heap.size) {a : Option Addr} {n c : Nat} {A : List (List UInt8)} (hA : Own wr.heap.size w' (.slice a n c) A) :
    FI w g gT p E vh H { tv with ea := a, en := n, ec := c } { t with see := A } L' (w'.setCell ⟨gT, 3, none⟩ (.slice a n c)) := by
  have h1 := h.tok ho hq (by omega) (by omega)
  have hsz := h.only.size
  have new : ∀ u ∈ vh :: tv.vals, Ap (.slice a n c) u := fun u hu k hk hk' => by
    have h2 := (hA.lt hk).1
    rcases List.mem_cons.1 hu with rfl | hu
    · have := (h.h.lt hk').2; omega
    · have := (h.o.lt u hu k hk').2; omega
  have hs : Only [gT] w' (w'.setCell ⟨gT, 3, none⟩ (.slice a n c)) := Only.set _ _ _ _
  have hb : Below gT w' (w'.setCell ⟨gT, 3, none⟩ (.slice a n c)) := (Below.refl _ _).setCell (p := ⟨gT, 3, none⟩) (Nat.le_refl _) _
  have far : ∀ (v : Value), (∀ k, v.ownBlock = some k → w.heap.size ≤ k) → ∀ k, v.ownBlock = some k → k ∉ [gT] := fun v hv k hk hm => by have := hv k hk; simp only [List.mem_singleton] at hm; omega
  refine ⟨h1.h.only hs (far _ fun k hk => (h1.h.lt hk).1), h1.b.set3 a n c, ⟨h1.o.name, h1.o.s.only hs (far _ fun k hk => (h1.o.s.lt hk).1), h1.o.d.only hs (far _ fun k hk => (h1.o.d.lt hk).1), (hA.mono hsz).only hs (far _ fun k hk => by have := (hA.lt hk).1; omega), h1.o.sd, (new _ (by simp [Tv.vals, Tv.s])).symm, (new _ (by simp [Tv.vals, Tv.d])).symm⟩, h1.q.below hb hg, set_only h1.only (by simp) _ _, fun u hu => ?_⟩
  simp only [Tv.vals, List.mem_cons, List.mem_nil_iff, or_false] at hu
  rcases hu with rfl | rfl | rfl
  · exact h.ap _ (by simp [Tv.vals, Tv.s])
  · exact h.ap _ (by simp [Tv.vals, Tv.d])
  · exact (new vh (by simp)).symm
end Go.Proofs.YtddaoloabfkheaaGreatDoor
