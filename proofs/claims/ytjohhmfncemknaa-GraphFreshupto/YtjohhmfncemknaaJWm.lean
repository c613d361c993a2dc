/-
  Twelve labels, their edges as a table, and what is reached.
  Tables in memory; a graph apart from them.
-/
import Derived.Test.YtjohhmfncemknaaHd
namespace Go.Proofs.Ytjohhmfncemknaa
open Go.RowKit Go.Maps

def lab (i : Nat) : Lb := ⟨[UInt8.ofNat (97 + i / 4)], [UInt8.ofNat (97 + i % 4)]⟩
def LL : List Lb := (List.range 12).map lab
theorem LL_len : LL.length = 12 := by decide
theorem LL_get {i : Nat} (h : i < LL.length) : LL[i] = lab i := by simp [LL]
theorem LL_up : UpL LL := by unfold UpL Gs.Ris; decide +kernel
theorem LL_rs : rs LL = LL := Gs.ris_of stoL LL_up
theorem LL_nd : LL.Nodup := Gs.Ris.nodup stoL LL_up
theorem lab_inj : ∀ i, i < 12 → ∀ j, j < 12 → lab i = lab j → i = j := by decide +kernel
theorem mem_LL {x : Lb} : x ∈ LL ↔ ∃ i, i < 12 ∧ x = lab i := by
  unfold LL
  rw [List.mem_map]
  constructor
  · rintro ⟨i, hi, rfl⟩
    exact ⟨i, List.mem_range.1 hi, rfl⟩
  · rintro ⟨i, hi, rfl⟩
    exact ⟨i, List.mem_range.2 hi, rfl⟩
theorem lab_lu (i : Nat) : Lu (lab i) := lu_small (by simp) (by simp)
theorem LL_lu : ∀ x ∈ LL, Lu x := fun x hx => by
  obtain ⟨i, _, rfl⟩ := mem_LL.1 hx
  exact lab_lu i
theorem addN_in {N : List Lb} {a : Lb} (h : a ∈ N) : addN N a = N := by unfold addN; rw [if_pos h]
theorem addN_LL {a b : Nat} (ha : a < 12) (hb : b < 12) : addN (addN LL (lab a)) (lab b) = LL := by
  rw [addN_in (mem_LL.2 ⟨a, ha, rfl⟩), addN_in (mem_LL.2 ⟨b, hb, rfl⟩)]
theorem addN_take : ∀ k, k < 12 → addN (LL.take k) (lab k) = LL.take (k + 1) := by decide +kernel

/-- a table with one cell turned -/
def upd (T : Nat → Nat → Bool) (i j : Nat) (v : Bool) : Nat → Nat → Bool := fun x y => if x = i ∧ y = j then v else T x y
theorem upd_same (T : Nat → Nat → Bool) (i j : Nat) (v : Bool) : upd T i j v i j = v := by simp [upd]
theorem upd_other (T : Nat → Nat → Bool) {i j x y : Nat} (v : Bool) (h : ¬ (x = i ∧ y = j)) : upd T i j v x y = T x y := by simp [upd, h]
/-- edges and their table -/
structure ED (E : List Ee) (D : Nat → Nat → Bool) : Prop where
  em : ∀ x y, (x, y) ∈ E ↔ ∃ i j, D i j = true ∧ x = lab i ∧ y = lab j
  lt : ∀ i j, D i j = true → i < 12 ∧ j < 12
theorem ED.new : ED [] (fun _ _ => false) := ⟨by simp, by simp⟩
section
variable {E : List Ee} {D R : Nat → Nat → Bool}
theorem ED.add (h : ED E D) {a b : Nat} (ha : a < 12) (hb : b < 12) : ED (addE E (lab a, lab b)) (upd D a b true) := by
  refine ⟨fun x y => ?_, fun i j hd => ?_⟩
  · rw [mem_addE, h.em]
    constructor
    · rintro (⟨i, j, hd, h1, h2⟩ | e)
      · refine ⟨i, j, ?_, h1, h2⟩
        by_cases e : i = a ∧ j = b
        · obtain ⟨rfl, rfl⟩ := e; exact upd_same _ _ _ _
        · rw [upd_other _ _ e]; exact hd
      · injection e with e1 e2
        exact ⟨a, b, upd_same _ _ _ _, e1, e2⟩
    · rintro ⟨i, j, hd, h1, h2⟩
      by_cases e : i = a ∧ j = b
      · obtain ⟨rfl, rfl⟩ := e; right; rw [h1, h2]
      · rw [upd_other _ _ e] at hd; exact .inl ⟨i, j, hd, h1, h2⟩
  · by_cases e : i = a ∧ j = b
    · obtain ⟨rfl, rfl⟩ := e; exact ⟨ha, hb⟩
    · rw [upd_other _ _ e] at hd; exact h.lt i j hd
theorem ED.sub (h : ED E D) : ∀ e ∈ E, e.1 ∈ LL ∧ e.2 ∈ LL := by
  rintro ⟨x, y⟩ he
  obtain ⟨i, j, hd, rfl, rfl⟩ := (h.em x y).1 he
  have := h.lt i j hd
  exact ⟨mem_LL.2 ⟨i, this.1, rfl⟩, mem_LL.2 ⟨j, this.2, rfl⟩⟩
theorem ED.flip (h : ED E D) : ED (Gs.flp E) (fun i j => D j i) := by
  refine ⟨fun x y => ?_, fun i j hd => (h.lt j i hd).symm⟩
  rw [Gs.mem_flp, h.em]
  constructor
  · rintro ⟨i, j, hd, h1, h2⟩; exact ⟨j, i, hd, h2, h1⟩
  · rintro ⟨i, j, hd, h1, h2⟩; exact ⟨j, i, hd, h2, h1⟩
theorem ED.edge (h : ED E D) {i j : Nat} (hi : i < 12) (hj : j < 12) : (lab i, lab j) ∈ E ↔ D i j = true := by
  rw [h.em]
  constructor
  · rintro ⟨a, b, hd, h1, h2⟩
    have := h.lt a b hd
    rw [lab_inj i hi a this.1 h1, lab_inj j hj b this.2 h2]; exact hd
  · intro hd; exact ⟨i, j, hd, rfl, rfl⟩
theorem ED.way (h : ED E D) {x y : Lb} (hw : Gs.Way E x y) : ∀ i, i < 12 → x = lab i → ∃ j, j < 12 ∧ y = lab j ∧ (i = j ∨ Gs.Tw D i j) := by
  induction hw with
  | refl => intro i hi e; exact ⟨i, hi, e, .inl rfl⟩
  | step _ hm ih =>
    intro i hi e
    obtain ⟨j, hj, e2, hr⟩ := ih i hi e
    obtain ⟨a, b, hd, e3, e4⟩ := (h.em _ _).1 hm
    have hab := h.lt a b hd
    have : j = a := lab_inj j hj a hab.1 (e2.symm.trans e3)
    subst this
    refine ⟨b, hab.2, e4, .inr ?_⟩
    rcases hr with rfl | hr
    · exact .one hd
    · exact .step hr hd
theorem tw_lt (h : ED E D) {i j : Nat} (hw : Gs.Tw D i j) : i < 12 ∧ j < 12 := by
  induction hw with
  | one hd => exact h.lt _ _ hd
  | step _ hd ih => exact ⟨ih.1, (h.lt _ _ hd).2⟩
theorem ED.way' (h : ED E D) {i j : Nat} (hw : Gs.Tw D i j) : Gs.Way E (lab i) (lab j) := by
  induction hw with
  | one hd => exact .step (.refl _) ((h.em _ _).2 ⟨_, _, hd, rfl, rfl⟩)
  | step _ hd ih => exact .step ih ((h.em _ _).2 ⟨_, _, hd, rfl, rfl⟩)
theorem tw_flip {i j : Nat} (hw : Gs.Tw D i j) : Gs.Tw (fun a b => D b a) j i := by
  induction hw with
  | one hd => exact .one hd
  | step _ hd ih => exact Gs.Tw.trans (.one hd) ih
/-- the table of ways -/
def TR (R D : Nat → Nat → Bool) : Prop := ∀ i j, i < 12 → j < 12 → (R i j = true ↔ Gs.Tw D i j)
theorem TR.flip (h : TR R D) : TR (fun a b => R b a) (fun a b => D b a) := fun i j hi hj => by
  show R j i = true ↔ _
  rw [h j i hj hi]
  exact ⟨tw_flip, fun k => tw_flip k⟩
/-- what is reached from one -/
def toN (R : Nat → Nat → Bool) (i m : Nat) : List Nat := (List.range m).filter (fun j => decide (i = j) || R i j)
def toL (R : Nat → Nat → Bool) (i m : Nat) : List Lb := (toN R i m).map lab
theorem toL_succ (R : Nat → Nat → Bool) (i m : Nat) : toL R i (m + 1) = if (decide (i = m) || R i m) = true then toL R i m ++ [lab m] else toL R i m := by
  unfold toL toN
  rw [List.range_succ, List.filter_append, List.map_append]
  by_cases h : (decide (i = m) || R i m) = true
  · rw [if_pos h, List.filter_cons, if_pos h]; rfl
  · rw [if_neg h, List.filter_cons, if_neg h]; simp
theorem toL_zero (R : Nat → Nat → Bool) (i : Nat) : toL R i 0 = [] := rfl
theorem mem_toL {i m : Nat} {x : Lb} : x ∈ toL R i m ↔ ∃ j, j < m ∧ (i = j ∨ R i j = true) ∧ x = lab j := by
  unfold toL toN
  rw [List.mem_map]
  constructor
  · rintro ⟨j, hj, rfl⟩
    obtain ⟨h1, h2⟩ := List.mem_filter.1 hj
    exact ⟨j, List.mem_range.1 h1, by simpa using h2, rfl⟩
  · rintro ⟨j, h1, h2, rfl⟩
    exact ⟨j, List.mem_filter.2 ⟨List.mem_range.2 h1, by simpa using h2⟩, rfl⟩
theorem toL_up (R : Nat → Nat → Bool) (i : Nat) : UpL (toL R i 12) := by
  have h : (toL R i 12).Sublist LL := List.Sublist.map _ List.filter_sublist
  exact List.Pairwise.sublist h LL_up
theorem toL_len (R : Nat → Nat → Bool) (i m : Nat) : (toL R i m).length ≤ m := by
  unfold toL toN
  rw [List.length_map]
  exact Nat.le_trans (List.length_filter_le _ _) (by simp)
theorem toL_lu (R : Nat → Nat → Bool) (i m : Nat) : ∀ x ∈ toL R i m, Lu x := fun x hx => by
  obtain ⟨j, _, _, rfl⟩ := mem_toL.1 hx
  exact lab_lu j
theorem ED.reach1 (h : ED E D) (hR : TR R D) {i : Nat} (hi : i < 12) : RS LL E [lab i] = toL R i 12 := by
  refine Gs.ris_ext stoL (Gs.ris_up stoL _) (toL_up R i) (fun x => ?_)
  show x ∈ RS LL E [lab i] ↔ _
  rw [mem_RS h.sub, mem_toL]
  constructor
  · rintro ⟨a, ha, _, hw⟩
    have e : a = lab i := by simpa using ha
    subst e
    obtain ⟨j, hj, e2, hr⟩ := h.way hw i hi rfl
    refine ⟨j, hj, ?_, e2⟩
    rcases hr with hr | hr
    · exact .inl hr
    · exact .inr ((hR i j hi hj).2 hr)
  · rintro ⟨j, hj, hr, rfl⟩
    refine ⟨lab i, by simp, mem_LL.2 ⟨i, hi, rfl⟩, ?_⟩
    rcases hr with rfl | hr
    · exact .refl _
    · exact h.way' ((hR i j hi hj).1 hr)
theorem ED.reach2 (h : ED E D) (hR : TR R D) {i : Nat} (hi : i < 12) : RS LL E (toL R i 12) = toL R i 12 := by
  refine Gs.ris_ext stoL (Gs.ris_up stoL _) (toL_up R i) (fun x => ?_)
  show x ∈ RS LL E (toL R i 12) ↔ _
  rw [mem_RS h.sub]
  constructor
  · rintro ⟨a, ha, _, hw⟩
    obtain ⟨k, hk, hr, rfl⟩ := mem_toL.1 ha
    obtain ⟨j, hj, e2, hr2⟩ := h.way hw k hk rfl
    refine mem_toL.2 ⟨j, hj, ?_, e2⟩
    rcases hr2 with rfl | hr2
    · exact hr
    · right
      rcases hr with rfl | hr
      · exact (hR i j hi hj).2 hr2
      · exact (hR i j hi hj).2 (((hR i k hi hk).1 hr).trans hr2)
  · intro hx
    obtain ⟨j, hj, _, rfl⟩ := mem_toL.1 hx
    exact ⟨lab j, hx, mem_LL.2 ⟨j, hj, rfl⟩, .refl _⟩
/-- a circle -/
def circ (R : Nat → Nat → Bool) (m : Nat) : Bool := (List.range m).any (fun i => R i i)
theorem circ_succ (R : Nat → Nat → Bool) (m : Nat) : circ R (m + 1) = (circ R m || R m m) := by simp [circ, List.range_succ]
theorem ED.order (h : ED E D) (hR : TR R D) : (Gs.ord (rs LL) E).isSome = !circ R 12 := by
  rw [LL_rs]
  have hk : (∃ L, Gs.ord LL E = some L) ↔ ∀ a b, (a, b) ∈ E → Gs.Way E b a → False := Gs.ord_some_iff LL_nd (fun a b hm => h.sub (a, b) hm)
  rw [← Option.isSome_iff_exists] at hk
  rw [Bool.eq_iff_iff, hk]
  unfold circ
  rw [Bool.not_eq_true', ← Bool.not_eq_true, List.any_eq_true]
  constructor
  · rintro hc ⟨i, hi, hr⟩
    have hi := List.mem_range.1 hi
    have hw := (hR i i hi hi).1 hr
    cases hw with
    | one hd => exact hc _ _ ((h.em _ _).2 ⟨_, _, hd, rfl, rfl⟩) (.refl _)
    | step hw hd => exact hc _ _ ((h.em _ _).2 ⟨_, _, hd, rfl, rfl⟩) (h.way' hw)
  · intro hc a b hm hw
    obtain ⟨i, j, hd, rfl, rfl⟩ := (h.em a b).1 hm
    have hij := h.lt i j hd
    obtain ⟨k, hk, e, hr⟩ := h.way hw j hij.2 rfl
    have : i = k := lab_inj i hij.1 k hk e
    subst this
    refine hc ⟨i, List.mem_range.2 hij.1, (hR i i hij.1 hij.1).2 ?_⟩
    rcases hr with rfl | hr
    · exact .one hd
    · exact (Gs.Tw.one hd).trans hr
end
/-! ### the order, one by one -/
theorem ordF_take {all : List Lb} {E : List Ee} : ∀ (n : Nat) (told L : List Lb), Gs.ordF all E n told = some L → L.take told.length = told ∧ L.length = told.length + n
  | 0, told, L, h => by
    unfold Gs.ordF at h
    cases h
    simp
  | n + 1, told, L, h => by
    unfold Gs.ordF at h
    cases hn : Gs.nxt all E told with
    | none => rw [hn] at h; cases h
    | some a =>
      rw [hn] at h
      obtain ⟨h1, h2⟩ := ordF_take n (told ++ [a]) L h
      refine ⟨?_, by simp at h2; omega⟩
      have : L.take told.length = (L.take (told ++ [a]).length).take told.length := by rw [List.take_take]; congr 1; simp
      rw [this, h1]; simp
theorem ordF_at {all : List Lb} {E : List Ee} : ∀ (n : Nat) (told L : List Lb), Gs.ordF all E n told = some L → ∀ i, told.length ≤ i → (h : i < L.length) → Gs.nxt all E (L.take i) = some L[i]
  | 0, told, L, h, i, hi, hl => by
    unfold Gs.ordF at h
    cases h
    omega
  | n + 1, told, L, h, i, hi, hl => by
    have h0 := (ordF_take (n + 1) told L h).1
    unfold Gs.ordF at h
    cases hn : Gs.nxt all E told with
    | none => rw [hn] at h; cases h
    | some a =>
      rw [hn] at h
      by_cases e : i = told.length
      · subst e
        rw [h0, hn]
        have h1 := (ordF_take n (told ++ [a]) L h).1
        have h2 : (L.take (told ++ [a]).length)[told.length]? = (told ++ [a])[told.length]? := by rw [h1]
        rw [List.getElem?_take, if_pos (by simp), List.getElem?_eq_getElem hl] at h2
        simpa using h2.symm
      · exact ordF_at n (told ++ [a]) L h i (by simp; omega) hl
theorem ord_at {all : List Lb} {E : List Ee} {L : List Lb} (h : Gs.ord all E = some L) (i : Nat) (hl : i < L.length) : Gs.nxt all E (L.take i) = some L[i] := ordF_at _ _ _ h i (by simp) hl
theorem ord_length {all : List Lb} {E : List Ee} {L : List Lb} (h : Gs.ord all E = some L) : L.length = all.length := by
  have := (ordF_take _ _ _ h).2
  simpa using this
/-- may j be told next? looked at up to m -/
def rdyT (D : Nat → Nat → Bool) (T : Nat → Bool) (j m : Nat) : Bool := !T j && (List.range m).all (fun k => !D j k || T k)
theorem rdyT_zero (D : Nat → Nat → Bool) (T : Nat → Bool) (j : Nat) : rdyT D T j 0 = !T j := by simp [rdyT]
theorem rdyT_succ (D : Nat → Nat → Bool) (T : Nat → Bool) (j m : Nat) : rdyT D T j (m + 1) = (rdyT D T j m && (!D j m || T m)) := by
  unfold rdyT
  rw [List.range_succ, List.all_append, Bool.and_assoc]
  simp
theorem ED.rdy {E : List Ee} {D : Nat → Nat → Bool} (h : ED E D) {T : List Lb} {t : Nat → Bool} (ht : ∀ j, j < 12 → (t j = true ↔ lab j ∈ T)) {j : Nat} (hj : j < 12) : (!decide (lab j ∈ T) && Gs.rdy E T (lab j)) = rdyT D t j 12 := by
  unfold rdyT
  have e1 : decide (lab j ∈ T) = t j := by
    rw [Bool.eq_iff_iff, decide_eq_true_eq, ht j hj]
  rw [e1]
  congr 1
  rw [Bool.eq_iff_iff, Gs.rdy_iff, List.all_eq_true]
  constructor
  · intro hk k hk2
    have hk2 := List.mem_range.1 hk2
    by_cases hd : D j k = true
    · rw [(ht k hk2).2 (hk _ ((h.edge hj hk2).2 hd))]; simp
    · simp [hd]
  · intro hk b hb
    obtain ⟨a, c, hd, e2, rfl⟩ := (h.em _ _).1 hb
    have hac := h.lt a c hd
    have : j = a := lab_inj j hj a hac.1 e2
    subst this
    have := hk c (List.mem_range.2 hac.2)
    rw [hd] at this
    exact (ht c hac.2).1 (by simpa using this)
/-- the least that may be told next -/
theorem ED.least {E : List Ee} {D : Nat → Nat → Bool} (h : ED E D) {T : List Lb} {t : Nat → Bool} (ht : ∀ j, j < 12 → (t j = true ↔ lab j ∈ T)) {x : Lb} (hn : Gs.nxt LL E T = some x) : ∃ b, b < 12 ∧ x = lab b ∧ rdyT D t b 12 = true ∧ ∀ j, j < b → rdyT D t j 12 = false := by
  unfold Gs.nxt at hn
  rw [List.find?_eq_some_iff_getElem] at hn
  obtain ⟨h1, i, hi, e, h2⟩ := hn
  have hi12 : i < 12 := by rw [LL_len] at hi; exact hi
  rw [LL_get] at e
  subst e
  refine ⟨i, hi12, rfl, by rw [← h.rdy ht hi12]; exact h1, fun j hj => ?_⟩
  have := h2 j hj
  rw [LL_get, h.rdy ht (by omega)] at this
  simpa using this
end Go.Proofs.Ytjohhmfncemknaa

namespace Go.Proofs.Ytjohhmfncemknaa
open Go.RowKit Go.Maps

/-- does a statement begin with this region? -/
def beg (n : Nat) : Code → Bool
  | .region m _ _ => m == n
  | .seq a _ => beg n a
  | .block _ c => beg n c
  | .loop c => beg n c
  | .scope c => beg n c
  | _ => false
/-- what stands from there on -/
def suff (n : Nat) : Code → Code
  | .seq a b => if beg n a then .seq a b else suff n b
  | c => c
def GoodE (w : World) (e : Ending) (w' : World) : Prop := e = .returned (.bool true) ∧ Below w.heap.size w w'

/-- a table of twelve times twelve -/
structure TB (W : World) (b : Nat) (T : Nat → Nat → Bool) : Prop where
  it : ∃ cs, W.heap[b]? = some (.cells cs 27 (0, 0)) ∧ cs.size = 144 ∧ ∀ i j, i < 12 → j < 12 → cs[i * 12 + j]? = some (.bool (T i j))
/-- a row of twelve -/
structure TW (W : World) (b : Nat) (T : Nat → Bool) : Prop where
  it : ∃ cs, W.heap[b]? = some (.cells cs 26 (0, 0)) ∧ cs.size = 12 ∧ ∀ j, j < 12 → cs[j]? = some (.bool (T j))
section
variable {W W' : World} {b : Nat} {T : Nat → Nat → Bool} {t : Nat → Bool}
theorem TB.lt (h : TB W b T) : b < W.heap.size := by obtain ⟨cs, h1, _⟩ := h; exact (Array.getElem?_eq_some_iff.1 h1).1
theorem TW.lt (h : TW W b t) : b < W.heap.size := by obtain ⟨cs, h1, _⟩ := h; exact (Array.getElem?_eq_some_iff.1 h1).1
theorem TB.stay (h : TB W b T) (hs : W'.heap[b]? = W.heap[b]?) : TB W' b T := by obtain ⟨cs, h1, h2⟩ := h; exact ⟨cs, hs.trans h1, h2⟩
theorem TW.stay (h : TW W b t) (hs : W'.heap[b]? = W.heap[b]?) : TW W' b t := by obtain ⟨cs, h1, h2⟩ := h; exact ⟨cs, hs.trans h1, h2⟩
theorem TB.later (h : TB W b T) (hb : Below W.heap.size W W') : TB W' b T := h.stay (hb.block b h.lt)
theorem TW.later (h : TW W b t) (hb : Below W.heap.size W W') : TW W' b t := h.stay (hb.block b h.lt)
theorem TB.cell (h : TB W b T) {i j : Nat} (hi : i < 12) (hj : j < 12) : W.cell? ⟨b, i * 12 + j, none⟩ = some (.bool (T i j)) := by
  obtain ⟨cs, h1, h2, h3⟩ := h
  have := h3 i j hi hj
  simp [World.cell?, h1, this]
theorem TB.soft (h : TB W b T) (o : Nat) : W.frozen? ⟨b, o, none⟩ = false := by
  obtain ⟨cs, h1, _⟩ := h
  simp [World.frozen?, h1]
theorem TW.cell (h : TW W b t) {j : Nat} (hj : j < 12) : W.cell? ⟨b, j, none⟩ = some (.bool (t j)) := by
  obtain ⟨cs, h1, h2, h3⟩ := h
  have := h3 j hj
  simp [World.cell?, h1, this]
theorem TW.soft (h : TW W b t) (o : Nat) : W.frozen? ⟨b, o, none⟩ = false := by
  obtain ⟨cs, h1, _⟩ := h
  simp [World.frozen?, h1]
theorem TB.set (h : TB W b T) {i j : Nat} (hi : i < 12) (hj : j < 12) (v : Bool) : TB (W.setCell ⟨b, i * 12 + j, none⟩ (.bool v)) b (upd T i j v) := by
  obtain ⟨cs, h1, h2, h3⟩ := h
  refine ⟨cs.set! (i * 12 + j) (.bool v), ?_, by simp [h2], fun x y hx hy => ?_⟩
  · rw [heap_setCell _ _ _ _ h1]; simp
  · by_cases e : x = i ∧ y = j
    · obtain ⟨rfl, rfl⟩ := e
      rw [upd_same, Array.set!_eq_setIfInBounds, Array.getElem?_setIfInBounds_self, if_pos (by omega)]
    · rw [upd_other _ _ e, Array.set!_eq_setIfInBounds, Array.getElem?_setIfInBounds_ne (by omega)]
      exact h3 x y hx hy
theorem TW.set (h : TW W b t) {j : Nat} (hj : j < 12) (v : Bool) : TW (W.setCell ⟨b, j, none⟩ (.bool v)) b (fun x => if x = j then v else t x) := by
  obtain ⟨cs, h1, h2, h3⟩ := h
  refine ⟨cs.set! j (.bool v), ?_, by simp [h2], fun x hx => ?_⟩
  · rw [heap_setCell _ _ _ _ h1]; simp
  · by_cases e : x = j
    · subst e
      simp [h2, hx]
    · rw [if_neg e, Array.set!_eq_setIfInBounds, Array.getElem?_setIfInBounds_ne (by omega)]
      exact h3 x hx
theorem zero27 : Try.zeroCells27 = Array.replicate 144 (.bool false) := by kernel_rfl
theorem zero26 : ((#[.bool false, .bool false, .bool false, .bool false, .bool false, .bool false, .bool false, .bool false, .bool false, .bool false, .bool false, .bool false]) : Array Value) = Array.replicate 12 (.bool false) := by kernel_rfl
theorem TB.new (W : World) : TB (W.alloc (.cells Try.zeroCells27 27)) W.heap.size (fun _ _ => false) :=
  ⟨Try.zeroCells27, heap_alloc_new _ _, by rw [zero27]; simp, fun i j hi hj => by rw [zero27, Array.getElem?_replicate, if_pos (by omega)]⟩
theorem TW.new (W : World) : TW (W.alloc (.cells #[.bool false, .bool false, .bool false, .bool false, .bool false, .bool false, .bool false, .bool false, .bool false, .bool false, .bool false, .bool false] 26)) W.heap.size (fun _ => false) :=
  ⟨_, heap_alloc_new _ _, by rw [zero26]; simp, fun j hj => by rw [zero26, Array.getElem?_replicate, if_pos (by omega)]⟩
end
/-- all that there is when the edges are laid -/
structure GX (w W : World) (g : Nat) (lv : Value) (rb db : Nat) (N : List Lb) (E : List Ee) (R D : Nat → Nat → Bool) : Prop where
  bel : Below w.heap.size w W
  it : ∃ F ns out, GR W F g ns out ∧ Lnk ns out N E ∧ (∀ k, F k → w.heap.size ≤ k ∧ k ≠ rb ∧ k ≠ db ∧ lv.ownBlock ≠ some k)
  sub : ∀ e ∈ E, e.1 ∈ N ∧ e.2 ∈ N
  ls : OwnL w.heap.size W lv LL
  tr : TB W rb R
  td : TB W db D
  ge : w.heap.size ≤ rb ∧ w.heap.size ≤ db ∧ rb ≠ db ∧ lv.ownBlock ≠ some rb ∧ lv.ownBlock ≠ some db
section
variable {w W W' : World} {g : Nat} {lv : Value} {rb db : Nat} {N : List Lb} {E : List Ee} {R D : Nat → Nat → Bool}
theorem GX.pg (h : GX w W g lv rb db N E R D) : PG w.heap.size W g N E := by
  obtain ⟨F, ns, out, h1, h2, h3⟩ := h.it
  exact ⟨⟨F, ns, out, h1, h2, fun k hk => (h3 k hk).1⟩, h.sub⟩
theorem GX.later (h : GX w W g lv rb db N E R D) (hb : Below W.heap.size W W') : GX w W' g lv rb db N E R D := by
  obtain ⟨F, ns, out, h1, h2, h3⟩ := h.it
  exact ⟨bstep h.bel hb, ⟨F, ns, out, h1.later hb, h2, h3⟩, h.sub, h.ls.later hb, h.tr.later hb, h.td.later hb, h.ge⟩
theorem GX.edge (h : GX w W g lv rb db LL E R D) (hb : Below W.heap.size W W') {a b : Nat} (ha : a < 12) (hb2 : b < 12) :
    Calls Try.prog 9 #[.pointer (some ⟨g, 0, none⟩), (lab a).val, (lab b).val] W' fun e w1 => e = .returned (.tuple #[]) ∧ GX w w1 g lv rb db LL (addE E (lab a, lab b)) R D := by
  have h' := h.later hb
  clear h hb
  obtain ⟨F, ns, out, h1, h2, h3⟩ := h'.it
  have hl := h1.nlen h2
  rw [LL_len] at hl
  refine (edge_any h1 (lab a) (lab b) (lab_lu a) (lab_lu b) (by omega)).mono fun e w1 ⟨k1, k2, k3⟩ => ⟨k1, ?_⟩
  have lk := h2.edge (lab a) (lab b)
  rw [addN_LL ha hb2] at lk
  have hsz := k3.size
  have hbs := h'.bel.size
  have hlr := h'.tr.lt
  have hld := h'.td.lt
  refine ⟨below_trans h'.bel (k3.below hbs (fun k hk => (h3 k hk).1)), ⟨_, _, _, k2, lk, fun k hk => ?_⟩, fun e he => ?_, h'.ls.stay (fun k hk => k3.block k (h'.ls.lt hk).2 (fun hf => (h3 k hf).2.2.2 hk)), h'.tr.stay (k3.block rb hlr (fun hf => (h3 rb hf).2.1 rfl)), h'.td.stay (k3.block db hld (fun hf => (h3 db hf).2.2.1 rfl)), h'.ge⟩
  · rcases hk with hk | hk
    · exact h3 k hk
    · exact ⟨by omega, by omega, by omega, fun e => by have := (h'.ls.lt e).2; omega⟩
  · rcases mem_addE.1 he with he | he
    · exact h'.sub e he
    · subst he; exact ⟨mem_LL.2 ⟨a, ha, rfl⟩, mem_LL.2 ⟨b, hb2, rfl⟩⟩
theorem GX.setR (h : GX w W g lv rb db N E R D) {i j : Nat} (hi : i < 12) (hj : j < 12) (v : Bool) : GX w (W.setCell ⟨rb, i * 12 + j, none⟩ (.bool v)) g lv rb db N E (upd R i j v) D := by
  obtain ⟨F, ns, out, h1, h2, h3⟩ := h.it
  have ho := Only.set W rb (i * 12 + j) (.bool v)
  have hst : ∀ k, k < W.heap.size → k ≠ rb → (W.setCell ⟨rb, i * 12 + j, none⟩ (.bool v)).heap[k]? = W.heap[k]? := fun k hk hn => ho.block k hk (by simpa using hn)
  have hg := h.ge
  have hle : ∀ k, k = rb → w.heap.size ≤ k := fun k hk => by omega
  refine ⟨below_trans h.bel (ho.below h.bel.size (fun k hk => hle k (by simpa using hk))), ⟨F, ns, out, h1.stay ho.size (fun k hk => hst k (h1.lt k hk) (h3 k hk).2.1), h2, h3⟩, h.sub, h.ls.stay (fun k hk => hst k (h.ls.lt hk).2 (fun e => hg.2.2.2.1 (e ▸ hk))), h.tr.set hi hj v, h.td.stay (hst db h.td.lt (Ne.symm hg.2.2.1)), hg⟩
theorem GX.setD (h : GX w W g lv rb db N E R D) {i j : Nat} (hi : i < 12) (hj : j < 12) (v : Bool) : GX w (W.setCell ⟨db, i * 12 + j, none⟩ (.bool v)) g lv rb db N E R (upd D i j v) := by
  obtain ⟨F, ns, out, h1, h2, h3⟩ := h.it
  have ho := Only.set W db (i * 12 + j) (.bool v)
  have hst : ∀ k, k < W.heap.size → k ≠ db → (W.setCell ⟨db, i * 12 + j, none⟩ (.bool v)).heap[k]? = W.heap[k]? := fun k hk hn => ho.block k hk (by simpa using hn)
  have hg := h.ge
  have hle : ∀ k, k = db → w.heap.size ≤ k := fun k hk => by omega
  refine ⟨below_trans h.bel (ho.below h.bel.size (fun k hk => hle k (by simpa using hk))), ⟨F, ns, out, h1.stay ho.size (fun k hk => hst k (h1.lt k hk) (h3 k hk).2.2.1), h2, h3⟩, h.sub, h.ls.stay (fun k hk => hst k (h.ls.lt hk).2 (fun e => hg.2.2.2.2 (e ▸ hk))), h.tr.stay (hst rb h.tr.lt hg.2.2.1), h.td.set hi hj v, hg⟩
end
end Go.Proofs.Ytjohhmfncemknaa
