/-
  Lists of texts, each marked with a mark of its own.
  Lists, and longer ones behind a row that grows.
  Lists in memory of their own, one behind the other.
-/
import Derived.Test.YtbaheiimcnfaaaaGreatJOe
import Derived.Laws.BytesArg
namespace Go.Proofs.YtbaheiimcnfaaaaGreat
open Go.RowKit Go.Maps

theorem fundBY : Tryz.prog.underlying 52 = some (.slice 5) := by kernel_rfl
theorem fundB5 : Tryz.prog.underlying 5 = some (.int .u8) := by kernel_rfl
theorem fundB9 : Tryz.prog.underlying 9 = some .string := by kernel_rfl
/-- one byte as a text -/
theorem convW {W : World} {g : Nat} {x : UInt8} (hc : W.cell? ⟨g, 0, none⟩ = some (.int .u8 x.toNat)) : (convert 52 9 (.slice (some ⟨g, 0, none⟩) 1 1)).run Tryz.prog W = .ok (.string (bs [x])) W := by
  have e : strOfNums ([x].map fun b => (b.toNat : Int)) = bs [x] := by
    unfold strOfNums bs
    congr 1
    simp
  rw [← e]
  refine run_convert_bytes_arg (P := Tryz.prog) _ 52 5 fundBY fundB5 g 0 1 1 ([x].map fun b => (b.toNat : Int)) (by simp) (fun i hi => ?_) 9 fundB9
  rcases i with _ | i
  · simpa using hc
  · omega
def mkd (i : Nat) : List UInt8 := [UInt8.ofNat (48 + i)]
/-- the mark of list i -/
def mkc (i : Nat) : List Value := [.string (bs (mkd i))]
def kM (i : Nat) : Knd := ⟨23, 9, 1, mkc i⟩
theorem kM_ok (i : Nat) : KOk (kM i) := ⟨und70, ⟨_, _, info9, rfl, by decide⟩, rfl, Nat.succ_pos _⟩
theorem kM_one (i : Nat) : ∀ u ∈ (kM i).c, u.oneCell' = true := fun u hu => by
  simp only [kM, mkc, List.mem_cons, List.mem_nil_iff, or_false] at hu
  subst hu; rfl
/-- k marks laid -/
def mrk (C : List Value) (i k : Nat) : List Value := rep k (mkc i) ++ C.drop (k * 1)
theorem mrk_zero (C : List Value) (i : Nat) : mrk C i 0 = C := by simp [mrk, rep]
theorem mrk_all {C : List Value} {i n : Nat} (h : C.length = n * 1) : mrk C i n = rep n (mkc i) := by
  unfold mrk
  rw [List.drop_of_length_le (by omega), List.append_nil]
theorem mrk_step {C : List Value} {i k n : Nat} (h : C.length = n * 1) (hk : k < n) : setC (mrk C i k) (k * 1) (mkc i) = mrk C i (k + 1) := by
  unfold mrk
  have hl : (rep k (mkc i)).length = k * 1 := by rw [rep_len]; rfl
  have e : C.drop (k * 1) = C[k * 1]'(by omega) :: C.drop ((k + 1) * 1) := by
    rw [List.drop_eq_getElem_cons (by omega)]
    congr 2
  rw [e, rep_succ]
  simp only [mkc] at hl
  simp only [mkc, setC]
  rw [List.set_append_right _ _ (by omega), hl]
  have e2 : k * 1 - k * 1 = 0 := by omega
  rw [e2, List.set_cons_zero, List.append_assoc, List.singleton_append]
/-- what the lists hold: those ahead of i marked, k marks in list i -/
def CM (C0 : Nat → List Value) (n : Nat → Nat) (i k j : Nat) : List Value := if j < i then rep (n j) (mkc j) else if j = i then mrk (C0 j) j k else C0 j
theorem CM_put {T : Nat} {C0 : Nat → List Value} {n : Nat → Nat} (h : ∀ j, j < T → (C0 j).length = n j * 1) {i k : Nat} (hi : i < T) (hk : k < n i) (j : Nat) (_ : j < T) :
    (if j = i then setC (CM C0 n i k i) (k * 1) (mkc i) else CM C0 n i k j) = CM C0 n i (k + 1) j := by
  by_cases e : j = i
  · subst e
    rw [if_pos rfl]
    unfold CM
    rw [if_neg (by omega), if_pos rfl, if_neg (by omega), if_pos rfl]
    exact mrk_step (h j hi) hk
  · rw [if_neg e]
    unfold CM
    by_cases hj : j < i
    · rw [if_pos hj, if_pos hj]
    · rw [if_neg hj, if_neg e, if_neg hj, if_neg e]
theorem CM_next {T : Nat} {C0 : Nat → List Value} {n : Nat → Nat} (h : ∀ j, j < T → (C0 j).length = n j * 1) {i : Nat} (hi : i < T) (j : Nat) (_ : j < T) : CM C0 n i (n i) j = CM C0 n (i + 1) 0 j := by
  unfold CM
  by_cases h1 : j < i
  · rw [if_pos h1, if_pos (by omega)]
  · rw [if_neg h1]
    by_cases h2 : j = i
    · subst h2
      rw [if_pos rfl, if_pos (by omega), mrk_all (h j hi)]
    · rw [if_neg h2, if_neg (by omega)]
      by_cases h3 : j = i + 1
      · rw [if_pos h3, mrk_zero]
      · rw [if_neg h3]
theorem CM_start (C0 : Nat → List Value) (n : Nat → Nat) (j : Nat) : C0 j = CM C0 n 0 0 j := by
  unfold CM
  rw [if_neg (by omega)]
  by_cases h : j = 0
  · rw [if_pos h, mrk_zero]
  · rw [if_neg h]
theorem CM_end {T : Nat} (C0 : Nat → List Value) (n : Nat → Nat) (j : Nat) (h : j < T) : CM C0 n T 0 j = rep (n j) (mkc j) := by unfold CM; rw [if_pos h]
/-- the lists behind one row, before they are marked -/
structure AL (T : Nat) (W1 w : World) (ag : Nat) (V : Nat → Value) (n : Nat → Nat) (C0 : Nat → List Value) (D0 : Nat → Nat → Prop) : Prop where
  bw : Below W1.heap.size W1 w
  cell : ∀ j, j < T → w.cell? ⟨ag, j, none⟩ = some (V j)
  nag : ∀ j, ¬ D0 j ag
  agl : W1.heap.size ≤ ag
  len : ∀ j, j < T → (C0 j).length = n j * 1
  nl : ∀ j, j < T → n j ≤ 1000000
abbrev QM (T : Nat) (W1 w wr : World) (V : Nat → Value) (n : Nat → Nat) (C : Nat → List Value) (D0 D : Nat → Nat → Prop) : Prop := QN W1.heap.size w wr T kM V n C D0 D
theorem QN.v {T : Nat} {W1 w wr : World} {V : Nat → Value} {n : Nat → Nat} {C : Nat → List Value} {D0 D : Nat → Nat → Prop} (h : QM T W1 w wr V n C D0 D) {i : Nat} (hi : i < T) : ∃ a c, V i = .slice a (n i) c := row_form (h.own i hi)
theorem QN.vp {T : Nat} {W1 w wr : World} {V : Nat → Value} {n : Nat → Nat} {C : Nat → List Value} {D0 D : Nat → Nat → Prop} (h : QM T W1 w wr V n C D0 D) {i : Nat} (hi : i < T) (hn : 0 < n i) : ∃ g c, V i = .slice (some ⟨g, 0, none⟩) (n i) c ∧ n i ≤ c ∧ g < wr.heap.size ∧ (∀ o, wr.frozen? ⟨g, o, none⟩ = false) ∧ ∀ j u, (C i)[j]? = some u → wr.cell? ⟨g, j, none⟩ = some u := by
  have ho := h.own i hi
  obtain ⟨g, c, e, h1, h2, h3⟩ := row_place ho hn
  refine ⟨g, c, e, h1, h3, fun o => ?_, fun j u hu => ?_⟩
  · rcases ho.2 with ⟨e2, h0⟩ | ⟨g', cap, cur, e2, hb, hg, hr⟩
    · rw [e] at e2; cases e2
    · rw [e] at e2
      injection e2 with e2 _ _
      injection e2 with e2
      injection e2 with e2 _ _
      subst e2
      simp [World.frozen?, hg]
  · rw [e] at ho
    have := World.ownsRow.cells ho (g := g) rfl j u hu
    rw [add_lit] at this
    simpa using this
end Go.Proofs.YtbaheiimcnfaaaaGreat

namespace Go.Proofs.YtbaheiimcnfaaaaGreat
open Go.RowKit Go.Maps

theorem und_S2 : Tryz.prog.underlying 51 = some (.slice 23) := by kernel_rfl
theorem info_S2 : (Tryz.prog.info? 23).map (fun i => (i.zero, i.size, i.bytes)) = some (some (.slice none 0 0), 1, 24) := by kernel_rfl
theorem step_app_S2 {ops : Array Oper} {o : Oper} {a : Act} {w : World} {K : Act → World → Prop} {Q : Exit → Act → World → Prop} {E : Prop} (hgd : o.guard = none) (s y : Operand)
    (ho : o.op = .call { callee := .builtin .append, args := #[s, y], argTypes := #[51, 51] }) (base : Nat) (l k : List Value) (v x : Value) (hv : a.eval s = v) (hx : a.eval y = x)
    (hown : w.ownsRow base 23 1 v l.length l) (hs : Src Tryz.prog 1 51 x k.length k w) (hb : l.length + k.length ≤ 1000000) (hbase : base ≤ w.heap.size)
    (h : ∀ v' w', w'.ownsRow base 23 1 v' (l ++ k).length (l ++ k) → Only (bl v) w w' → (v'.ownBlock = v.ownBlock ∨ v'.ownBlock = some w.heap.size) → K (a.put o.dst v') w') :
    if Region.wanted o (yielded ops a.tmps) = true then Oper.wp Tryz.prog o a w K Q else E := by
  have hw : Region.wanted o (yielded ops a.tmps) = true := by simp [Region.wanted, hgd]
  rw [if_pos hw]
  obtain ⟨i0, hi, hz0, hz1, hz2⟩ := info_parts info_S2
  obtain ⟨v', w', hr, h2, h3, h4⟩ := run_append_src (P := Tryz.prog) w base 51 51 o.type 23 i0 _ 1 24 und_S2 hi hz0 hz1 hz2 rfl v l.length l hown x k.length k hs (by simp only [maxLen]; omega) (by omega) hbase
  unfold Oper.wp execOp
  simp only [ho, resolve, invoke, builtin, Sem.run_bind, Sem.run_pure, Result.andThen_ok, List.map_toArray, List.map_cons, List.map_nil, hv, hx, hr]
  exact h v' w' (by rw [List.length_append]; exact h2) (only_grownK h3) h4
theorem src_S2 (w : World) (a : Option Addr) (n c : Nat) : Src Tryz.prog 1 51 (.slice (some ⟨w.heap.size, 0, none⟩) 1 1) [Value.slice a n c].length [.slice a n c] (w.alloc (.cells #[.slice a n c] 23)) := by
  refine Src.ofSlice _ und_S2 ⟨w.heap.size, 0, none⟩ 1 1 [.slice a n c] (by simp) ?_ (fun u hu => ?_)
  · exact World.news_of_block (heap_alloc_new w _)
  · have : u = .slice a n c := by simpa using hu
    rw [this]; rfl
theorem src_M (w : World) (i : Nat) : Src Tryz.prog 1 23 (.slice (some ⟨w.heap.size, 0, none⟩) 1 1) 1 (mkc i) (w.alloc (.cells #[.string (bs (mkd i))] 9)) := by
  refine Src.ofSlice _ und70 ⟨w.heap.size, 0, none⟩ 1 1 (mkc i) (by simp [mkc]) ?_ (kM_one i)
  exact World.news_of_block (heap_alloc_new w _)
/-- the lists marked; kU longer ones, kL of them behind the row lv -/
structure LG (T : Nat) (W1 w0 wr : World) (ag : Nat) (V : Nat → Value) (n : Nat → Nat) (D0 D : Nat → Nat → Prop) (kU kL : Nat) (lv : Value) (U : Nat → Value) : Prop where
  q : QM T W1 w0 wr V n (fun i => rep (n i) (mkc i)) D0 D
  lr : wr.ownsRow W1.heap.size 23 1 lv kL ((List.range kL).map U)
  lb : ∀ g, lv.ownBlock = some g → (∀ i, ¬ D i g) ∧ g ≠ ag ∧ w0.heap.size ≤ g
  own : ∀ i, i < kU → wr.ownsRow W1.heap.size 9 1 (U i) (n i + 1) (rep (n i + 1) (mkc i))
  ud : ∀ i, i < kU → ∀ g, (U i).ownBlock = some g → D i g
section
variable {T : Nat} {W1 w0 wr w' : World} {ag : Nat} {V : Nat → Value} {n : Nat → Nat} {D0 D : Nat → Nat → Prop} {kU kL : Nat} {lv : Value} {U : Nat → Value}
theorem LG.later (h : LG T W1 w0 wr ag V n D0 D kU kL lv U) (hb : Below wr.heap.size wr w') : LG T W1 w0 w' ag V n D0 D kU kL lv U :=
  ⟨h.q.later hb, row_later h.lr hb, h.lb, fun i hi => row_later (h.own i hi) hb, h.ud⟩
/-- list k, one mark longer -/
theorem LG.mid {k : Nat} (h : LG T W1 w0 wr ag V n D0 D k kL lv U) (hkL : kL ≤ k) (hk : k < T) {v : Value} (ho : w'.ownsRow W1.heap.size 9 1 v (n k + 1) (rep (n k + 1) (mkc k))) (hon : Only (bl (V k)) wr w')
    (hw : v.ownBlock = (V k).ownBlock ∨ ∃ b, v.ownBlock = some b ∧ wr.heap.size ≤ b) (hkeep : ∀ u m, wr.ownsRow W1.heap.size 9 1 u m (rep m (mkc k)) → w'.ownsRow W1.heap.size 9 1 u m (rep m (mkc k))) :
    LG T W1 w0 w' ag V n D0 (fun i g => D i g ∨ (i = k ∧ v.ownBlock = some g)) (k + 1) kL lv (fun i => if i = k then v else U i) := by
  have hq := h.q
  have hB := hq.base
  have hs := hq.size
  have hsz := hon.size
  have hvd := hq.vd k hk
  have hoth : ∀ i, i ≠ k → ∀ g, D i g → g ∉ bl (V k) := fun i hi g hd e => hi (hq.inj i k g hd (hvd g (mem_bl.1 e)))
  have hvv : ∀ g, v.ownBlock = some g → D k g ∨ wr.heap.size ≤ g := fun g hg => by
    rcases hw with e | ⟨b, e, hb⟩
    · exact .inl (hvd g (e ▸ hg))
    · rw [e] at hg; injection hg with hg; subst hg; exact .inr hb
  have hlt : ∀ i g, D i g → g < wr.heap.size := fun i g hd => (hq.dlt i g hd).2
  refine ⟨⟨fun i hi => ?_, fun i hi g hg => .inl (hq.vd i hi g hg), fun i j g hi hj => ?_, fun i g hg => ?_, fun i g hg hx => ?_, hB, below_trans hq.below (hon.below (by omega) (fun x hx => (hq.dlt k x (hvd x (mem_bl.1 hx))).1)), fun x hx hn => ?_⟩, ?_, fun g hg => ?_, fun i hi => ?_, fun i hi g hg => ?_⟩
  · by_cases e : i = k
    · subst e; exact hkeep _ _ (hq.own i hi)
    · exact row_only (hq.own i hi) hon (fun b hb => hoth i e b (hq.vd i hi b hb))
  · rcases hi with hi | ⟨rfl, hi⟩ <;> rcases hj with hj | ⟨rfl, hj⟩
    · exact hq.inj i j g hi hj
    · rcases hvv g hj with e | e
      · exact hq.inj i j g hi e
      · have := hlt i g hi; omega
    · rcases hvv g hi with e | e
      · exact hq.inj i j g e hj
      · have := hlt j g hj; omega
    · rfl
  · rcases hg with hg | ⟨rfl, hg⟩
    · have := hq.dlt i g hg; omega
    · exact World.ownsRow.lt ho g hg
  · rcases hg with hg | ⟨rfl, hg⟩
    · exact hq.old i g hg hx
    · rcases hvv g hg with e | e
      · exact hq.old i g e hx
      · omega
  · rw [hon.block x (by omega) (fun e => hn k (hq.old k x (hvd x (mem_bl.1 e)) hx))]; exact hq.kept x hx hn
  · have h1 : (List.range kL).map (fun i => if i = k then v else U i) = (List.range kL).map U := List.map_congr_left (fun i hi => if_neg (by have := List.mem_range.1 hi; omega))
    rw [h1]
    exact row_only h.lr hon (fun g hg e => (h.lb g hg).1 k (hvd g (mem_bl.1 e)))
  · obtain ⟨z1, z2, z3⟩ := h.lb g hg
    refine ⟨fun i hd => ?_, z2, z3⟩
    rcases hd with hd | ⟨rfl, hd⟩
    · exact z1 i hd
    · rcases hvv g hd with e | e
      · exact z1 i e
      · have := (World.ownsRow.lt h.lr g hg).2; omega
  · show World.ownsRow _ _ _ _ (if i = k then v else U i) _ _
    by_cases e : i = k
    · subst e; rw [if_pos rfl]; exact ho
    · rw [if_neg e]
      exact row_only (h.own i (by omega)) hon (fun b hb => hoth i e b (h.ud i (by omega) b hb))
  · have hg2 : (if i = k then v else U i).ownBlock = some g := hg
    by_cases e : i = k
    · subst e; rw [if_pos rfl] at hg2; exact .inr ⟨rfl, hg2⟩
    · rw [if_neg e] at hg2; exact .inl (h.ud i (by omega) g hg2)
/-- and laid behind the row -/
theorem LG.lay {k : Nat} (h : LG T W1 w0 wr ag V n D0 D (k + 1) k lv U) (hag : ag < w0.heap.size) {v : Value} (ho : w'.ownsRow W1.heap.size 23 1 v (k + 1) ((List.range (k + 1)).map U)) (hon : Only (bl lv) wr w')
    (hw : v.ownBlock = lv.ownBlock ∨ ∃ b, v.ownBlock = some b ∧ wr.heap.size ≤ b) : LG T W1 w0 w' ag V n D0 D (k + 1) (k + 1) v U := by
  have hq := h.q
  have hB := hq.base
  have hs := hq.size
  have hsz := hon.size
  have hnd : ∀ i g, D i g → g ∉ bl lv := fun i g hd e => (h.lb g (mem_bl.1 e)).1 i hd
  have hlt : ∀ i g, D i g → g < wr.heap.size := fun i g hd => (hq.dlt i g hd).2
  refine ⟨⟨fun i hi => row_only (hq.own i hi) hon (fun b hb => hnd i b (hq.vd i hi b hb)), hq.vd, hq.inj, fun i g hg => by have := hq.dlt i g hg; omega, hq.old, hB, below_trans hq.below (hon.below (by omega) (fun x hx => (World.ownsRow.lt h.lr x (mem_bl.1 hx)).1)), fun x hx hn => ?_⟩, ho, fun g hg => ?_, fun i hi => row_only (h.own i hi) hon (fun b hb => hnd i b (h.ud i hi b hb)), h.ud⟩
  · rw [hon.block x (by omega) (fun e => by have := (h.lb x (mem_bl.1 e)).2.2; omega)]; exact hq.kept x hx hn
  · rcases hw with e | ⟨b, e, hb⟩
    · exact h.lb g (e ▸ hg)
    · rw [e] at hg
      injection hg with hg
      subst hg
      exact ⟨fun i hd => by have := hlt i b hd; omega, by omega, by omega⟩
end
end Go.Proofs.YtbaheiimcnfaaaaGreat

namespace Go.Proofs.YtbaheiimcnfaaaaGreat
open Go.RowKit Go.Maps

structure OwnAll (B : Nat) (w : World) (V : List Value) (P : List (List (List UInt8))) : Prop where
  len : V.length = P.length
  own : ∀ (j : Nat) (vj : Value) (l : List (List UInt8)), V[j]? = some vj → P[j]? = some l → Own B w vj l
  dis : ∀ (i j : Nat) (vi vj : Value) (k : Nat), V[i]? = some vi → V[j]? = some vj → vi.ownBlock = some k → vj.ownBlock = some k → i = j
section
variable {B B' : Nat} {w w' : World} {v : Value} {V V' : List Value} {P P' : List (List (List UInt8))}
theorem OwnAll.one {l : List (List UInt8)} (h : Own B w v l) : OwnAll B w [v] [l] :=
  ⟨rfl, fun j vj m h1 h2 => by
    rcases j with _ | j
    · simp at h1 h2; subst h1 h2; exact h
    · simp at h1, fun i j vi vj k h1 h2 _ _ => by
    have a := (List.getElem?_eq_some_iff.1 h1).1
    have b := (List.getElem?_eq_some_iff.1 h2).1
    simp at a b
    omega⟩
theorem OwnAll.later (h : OwnAll B w V P) (hb : Below w.heap.size w w') : OwnAll B w' V P := ⟨h.len, fun j vj l h1 h2 => (h.own j vj l h1 h2).later hb, h.dis⟩
theorem OwnAll.mono (h : OwnAll B w V P) (hb : B' ≤ B) : OwnAll B' w V P := ⟨h.len, fun j vj l h1 h2 => (h.own j vj l h1 h2).mono hb, h.dis⟩
theorem OwnAll.at (h : OwnAll B w V P) {j : Nat} {vj : Value} (hj : V[j]? = some vj) : ∃ l, P[j]? = some l ∧ Own B w vj l := by
  have h1 := (List.getElem?_eq_some_iff.1 hj).1
  rw [h.len] at h1
  exact ⟨P[j], List.getElem?_eq_getElem h1, h.own j vj _ hj (List.getElem?_eq_getElem h1)⟩
theorem OwnAll.lt (h : OwnAll B w V P) {j : Nat} {vj : Value} {k : Nat} (hj : V[j]? = some vj) (hk : vj.ownBlock = some k) : B ≤ k ∧ k < w.heap.size := by
  obtain ⟨l, _, h2⟩ := h.at hj
  exact h2.lt hk
/-- further lists, in later memory -/
theorem OwnAll.app (h : OwnAll B w V P) (hb : Below w.heap.size w w') (k : OwnAll B' w' V' P') (hB : w.heap.size ≤ B') (hBB : B ≤ B') : OwnAll B w' (V ++ V') (P ++ P') := by
  have hl := h.len
  have cut : ∀ (j : Nat) (vj : Value), (V ++ V')[j]? = some vj → (j < V.length ∧ V[j]? = some vj) ∨ (V.length ≤ j ∧ V'[j - V.length]? = some vj) := fun j vj hj => by
    rcases Nat.lt_or_ge j V.length with a | a
    · exact .inl ⟨a, by rwa [List.getElem?_append_left a] at hj⟩
    · exact .inr ⟨a, by rwa [List.getElem?_append_right a] at hj⟩
  refine ⟨by simp [h.len, k.len], fun j vj l h1 h2 => ?_, fun i j vi vj b h1 h2 h3 h4 => ?_⟩
  · rcases cut j vj h1 with ⟨a, e⟩ | ⟨a, e⟩
    · rw [List.getElem?_append_left (by omega)] at h2
      exact (h.own j vj l e h2).later hb
    · rw [List.getElem?_append_right (by omega), ← hl] at h2
      exact (k.own _ vj l e h2).mono hBB
  · rcases cut i vi h1 with ⟨a, e⟩ | ⟨a, e⟩ <;> rcases cut j vj h2 with ⟨a', e'⟩ | ⟨a', e'⟩
    · exact h.dis i j vi vj b e e' h3 h4
    · have := h.lt e h3
      have := k.lt e' h4
      omega
    · have := k.lt e h3
      have := h.lt e' h4
      omega
    · have := k.dis _ _ vi vj b e e' h3 h4
      omega
/-- the blocks of list i -/
def dV (V : List Value) (i g : Nat) : Prop := ∃ vi, V[i]? = some vi ∧ vi.ownBlock = some g
def vV (V : List Value) (i : Nat) : Value := V.getD i (.slice none 0 0)
def nP (P : List (List (List UInt8))) (i : Nat) : Nat := (P.getD i []).length
def cP (P : List (List (List UInt8))) (i : Nat) : List Value := sc (P.getD i [])
theorem vV_at {i : Nat} {vi : Value} (h : V[i]? = some vi) : vV V i = vi := by simp [vV, List.getD, h]
theorem OwnAll.qn (h : OwnAll B w V P) (hB : B ≤ w.heap.size) : QN B w w P.length kM (vV V) (nP P) (cP P) (dV V) (dV V) := by
  have get : ∀ i, i < P.length → ∃ vi l, V[i]? = some vi ∧ P[i]? = some l := fun i hi => ⟨_, _, List.getElem?_eq_getElem (by rw [h.len]; exact hi), List.getElem?_eq_getElem hi⟩
  refine ⟨fun i hi => ?_, fun i hi g hg => ?_, fun i j g ⟨vi, a, b⟩ ⟨vj, c, d⟩ => h.dis i j vi vj g a c b d, fun i g ⟨vi, a, b⟩ => h.lt a b, fun i g hg _ => hg, hB, Below.refl _ _, fun _ _ _ => rfl⟩
  · obtain ⟨vi, l, h1, h2⟩ := get i hi
    have h3 := h.own i vi l h1 h2
    rw [vV_at h1]
    simp only [nP, cP, List.getD, h2, Option.getD_some]
    exact h3
  · obtain ⟨vi, l, h1, h2⟩ := get i hi
    rw [vV_at h1] at hg
    exact ⟨vi, h1, hg⟩
end
end Go.Proofs.YtbaheiimcnfaaaaGreat
