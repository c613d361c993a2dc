/-
  Lists of several kinds, each in memory of its own from some place on, marked and grown.
-/
import Derived.Test.YtfdcfcalbongeaaGreatJQf
namespace Go.Proofs.YtfdcfcalbongeaaGreat
open Go.RowKit

def bl (v : Value) : List Nat := v.ownBlock.toList
theorem mem_bl {v : Value} {g : Nat} : g ∈ bl v ↔ v.ownBlock = some g := by
  unfold bl
  cases v.ownBlock with
  | none => simp
  | some k => simp [eq_comm]
theorem only_grownR {w w' : World} {g : Nat} (h : w.grownBy w' (some g)) : Only [g] w w' :=
  ⟨h.os, h.tape, h.output, h.size, fun k hk hn => h.block k hk (by
    intro e
    apply hn
    injection e with e
    rw [e]; simp)⟩
/-- a kind of list: its type, its elements', how many cells one has, and the cells of its mark -/
structure Knd where
  ty : TypeId
  e : TypeId
  sz : Nat
  c : List Value
structure KOk (K : Knd) : Prop where
  und : Tryz.prog.underlying K.ty = some (.slice K.e)
  info : ∃ z b, (Tryz.prog.info? K.e).map (fun i => (i.zero, i.size, i.bytes)) = some (some z, K.sz, b) ∧ z.cells.size = K.sz ∧ b ≤ 100
  len : K.c.length = K.sz
  pos : 0 < K.sz
/-- n marks -/
def rep (n : Nat) (c : List Value) : List Value := (List.replicate n c).flatten
theorem rep_succ (n : Nat) (c : List Value) : rep (n + 1) c = rep n c ++ c := by simp [rep, List.replicate_succ']
theorem rep_len (n : Nat) (c : List Value) : (rep n c).length = n * c.length := by
  induction n with
  | zero => simp [rep]
  | succ n ih => rw [rep_succ, List.length_append, ih, Nat.succ_mul]
theorem rep_get {c : List Value} {s : Nat} (hc : c.length = s) : ∀ (n y : Nat), y < n * s → (rep n c)[y]? = c[y % s]?
  | 0, y, h => by simp at h
  | n + 1, y, h => by
    rw [rep_succ]
    by_cases hy : y < n * s
    · rw [List.getElem?_append_left (by rw [rep_len, hc]; exact hy)]
      exact rep_get hc n y hy
    · rw [List.getElem?_append_right (by rw [rep_len, hc]; omega), rep_len, hc]
      rw [Nat.succ_mul] at h
      congr 1
      have e : y = y - n * s + n * s := by omega
      conv => rhs; rw [e]
      rw [Nat.add_mul_mod_self_right, Nat.mod_eq_of_lt (by omega)]
/-- cell j of mark i -/
theorem rep_at {c : List Value} {s : Nat} (hc : c.length = s) {n i j : Nat} (hi : i < n) (hj : j < s) : (rep n c)[i * s + j]? = c[j]? := by
  have h : i * s + j < n * s := by
    have h1 := Nat.mul_le_mul_right s hi
    rw [Nat.succ_mul] at h1
    omega
  rw [rep_get hc n _ h, Nat.add_comm, Nat.add_mul_mod_self_right, Nat.mod_eq_of_lt hj]
/-- the front of a row of marks -/
theorem OwR.sub {e : TypeId} {k base g off n m cap : Nat} {w : World} {c : List Value} (h : OwR e k base w (.slice (some ⟨g, off, none⟩) n cap) n (rep n c)) (hc : c.length = k) (hm : m ≤ n) : OwR e k base w (.slice (some ⟨g, off, none⟩) m cap) m (rep m c) := by
  obtain ⟨cur, _, h2, h3, h4, h5, h6, h7⟩ := h.at
  refine ⟨by rw [rep_len, hc], .inr ⟨g, off, cap, cur, rfl, h2, h3, by omega, h5, h6, fun i u hu => ?_⟩⟩
  have hi := (List.getElem?_eq_some_iff.1 hu).1
  rw [rep_len, hc] at hi
  have hn : m * k ≤ n * k := Nat.mul_le_mul_right k hm
  refine h7 i u ?_
  rw [rep_get hc n i (by omega), ← rep_get hc m i hi]
  exact hu
/-- one mark more -/
theorem run_append_kR {K : Knd} (hK : KOk K) {w : World} {base : Nat} {v : Value} {n : Nat} (x : Value) (ty : TypeId) (hown : OwR K.e K.sz base w v n (rep n K.c))
    (hsrc : Src Tryz.prog K.sz K.ty x 1 K.c w) (hb : n + 1 ≤ 100000000) (hbase : base ≤ w.heap.size) :
    ∃ v' w', (Builtin.append_ #[K.ty, K.ty] ty #[v, x]).run Tryz.prog w = .ok v' w' ∧ OwR K.e K.sz base w' v' (n + 1) (rep (n + 1) K.c) ∧
      ((∃ g off cap, v = .slice (some ⟨g, off, none⟩) n cap ∧ v' = .slice (some ⟨g, off, none⟩) (n + 1) cap ∧ w.grownBy w' (some g)) ∨ (∃ b, v'.ownBlock = some b ∧ w.heap.size ≤ b ∧ Below w.heap.size w w')) := by
  obtain ⟨z, by', hinf, hz1, hby⟩ := hK.info
  obtain ⟨i, hi, hz0, hzs, hz2⟩ := info_parts hinf
  have hbb : (n + 1) * by' ≤ 140737488355328 := by
    have : (n + 1) * by' ≤ 100000000 * 100 := Nat.mul_le_mul hb hby
    omega
  obtain ⟨v', w', hr, h1, h2⟩ := run_app_R (P := Tryz.prog) w base K.ty ty K.e i z hK.und hi hz0 (by rw [hz1, hzs]) v n (rep n K.c) (by rw [hzs]; exact hown) x K.c (by rw [hzs]; exact hsrc) (by simp only [maxLen]; omega) (by rw [hz2]; exact hbb) hbase
  rw [hzs, ← rep_succ] at h1
  exact ⟨v', w', hr, h1, h2⟩
/-- cells laid one behind the other -/
def putC (w : World) (g : Nat) : Nat → List Value → World
  | _, [] => w
  | o, c :: r => putC (w.setCell ⟨g, o, none⟩ c) g (o + 1) r
def setC : List Value → Nat → List Value → List Value
  | l, _, [] => l
  | l, o, c :: r => setC (l.set o c) (o + 1) r
theorem setC_len : ∀ (r l : List Value) (o : Nat), (setC l o r).length = l.length
  | [], _, _ => rfl
  | c :: r, l, o => by rw [setC, setC_len r, List.length_set]
theorem setC_app : ∀ (r a d b : List Value), d.length = r.length → setC (a ++ d ++ b) a.length r = a ++ r ++ b
  | [], a, d, b, h => by
    have : d = [] := List.eq_nil_of_length_eq_zero h
    subst this
    rfl
  | c :: r, a, d, b, h => by
    obtain ⟨x, d, rfl⟩ : ∃ x y, d = x :: y := by
      cases d with
      | nil => simp at h
      | cons x y => exact ⟨x, y, rfl⟩
    rw [setC]
    have e : (a ++ x :: d ++ b).set a.length c = (a ++ [c]) ++ d ++ b := by simp
    rw [e]
    have h2 := setC_app r (a ++ [c]) d b (by simpa using h)
    simp only [List.length_append, List.length_singleton] at h2
    rw [h2]
    simp
theorem putC_only (g : Nat) : ∀ (r : List Value) (w : World) (o : Nat), Only [g] w (putC w g o r)
  | [], _, _ => Only.refl _ _
  | c :: r, w, o => (Only.set w g o c).trans (putC_only g r _ _)
theorem OwR.set1 {e : TypeId} {k base g off n cap : Nat} {w : World} {l : List Value} (h : OwR e k base w (.slice (some ⟨g, off, none⟩) n cap) n l) (o : Nat) (c : Value) :
    OwR e k base (w.setCell ⟨g, off + o, none⟩ c) (.slice (some ⟨g, off, none⟩) n cap) n (l.set o c) := by
  obtain ⟨cur, _, h2, h3, h4, h5, h6, h7⟩ := h.at
  refine ⟨by rw [List.length_set]; exact h.1, .inr ⟨g, off, cap, _, rfl, h2, heap_setCell w g (off + o) c h3, h4, h5, by rw [Array.size_setIfInBounds]; exact h6, fun i u hu => ?_⟩⟩
  have hi := (List.getElem?_eq_some_iff.1 hu).1
  rw [List.length_set] at hi
  have hcur : off + i < cur.size := (Array.getElem?_eq_some_iff.1 (h7 i l[i] (List.getElem?_eq_getElem hi))).1
  by_cases hio : o = i
  · subst hio
    rw [List.getElem?_set_self hi] at hu
    rw [Array.getElem?_setIfInBounds_self_of_lt hcur]
    exact hu
  · rw [List.getElem?_set_ne hio] at hu
    rw [Array.getElem?_setIfInBounds_ne (by omega)]
    exact h7 i u hu
theorem OwR.putC {e : TypeId} {k base g off n cap : Nat} : ∀ (r : List Value) (w : World) (l : List Value) (o : Nat), OwR e k base w (.slice (some ⟨g, off, none⟩) n cap) n l → OwR e k base (putC w g (off + o) r) (.slice (some ⟨g, off, none⟩) n cap) n (setC l o r)
  | [], _, _, _, h => h
  | c :: r, _, _, o, h => OwR.putC r _ _ (o + 1) (h.set1 o c)

/-- T lists of their kinds, each in memory of its own: D i are the blocks of list i -/
structure QX (B : Nat) (w wr : World) (T : Nat) (F : Nat → Knd) (V : Nat → Value) (n : Nat → Nat) (C : Nat → List Value) (D : Nat → Nat → Prop) : Prop where
  own : ∀ i, i < T → OwR (F i).e (F i).sz B wr (V i) (n i) (C i)
  vd : ∀ i, i < T → ∀ g, (V i).ownBlock = some g → D i g
  inj : ∀ i j g, D i g → D j g → i = j
  dlt : ∀ i g, D i g → B ≤ g ∧ g < w.heap.size
  base : B ≤ w.heap.size
  only : ∀ g, g < w.heap.size → (∀ i, ¬ D i g) → wr.heap[g]? = w.heap[g]?
  size : w.heap.size ≤ wr.heap.size
  below : Below B w wr
section
variable {B : Nat} {w wr w' : World} {T : Nat} {F : Nat → Knd} {V U : Nat → Value} {n m : Nat → Nat} {C : Nat → List Value} {D D0 : Nat → Nat → Prop}
theorem QX.later (h : QX B w wr T F V n C D) (hb : Below wr.heap.size wr w') : QX B w w' T F V n C D :=
  ⟨fun i hi => (h.own i hi).later hb, h.vd, h.inj, h.dlt, h.base, fun g hg hn => (hb.block g (Nat.lt_of_lt_of_le hg h.size)).trans (h.only g hg hn), Nat.le_trans h.size hb.size, below_trans h.below (below_mono hb (Nat.le_trans h.base h.size))⟩
/-- what lies in no list's memory stays as it was at first -/
theorem QX.cell (h : QX B w wr T F V n C D) {g o : Nat} {u : Value} (hc : w.cell? ⟨g, o, none⟩ = some u) (hn : ∀ i, ¬ D i g) : wr.cell? ⟨g, o, none⟩ = some u := by
  have hg : g < w.heap.size := World.block_lt_of_cell? w ⟨g, o, none⟩ hc
  rw [World.cell?_of_block (w := w) (h.only g hg hn)]; exact hc
/-- a mark is laid at place o of list k -/
theorem QX.put (h : QX B w wr T F V n C D) {k g off c : Nat} (hk : k < T) (hv : V k = .slice (some ⟨g, off, none⟩) (n k) c) (o : Nat) (r : List Value) :
    QX B w (Go.Proofs.YtfdcfcalbongeaaGreat.putC wr g (off + o) r) T F V n (fun i => if i = k then setC (C k) o r else C i) D := by
  have hd := h.vd k hk g (by rw [hv]; rfl)
  have hdl := h.dlt k g hd
  have ho := putC_only g r wr (off + o)
  refine ⟨fun i hi => ?_, h.vd, h.inj, h.dlt, h.base, fun x hx hn => ?_, by have := h.size; have := ho.size; omega, below_trans h.below (ho.below (Nat.le_trans h.base h.size) (fun x hx => by simp only [List.mem_singleton] at hx; subst hx; exact hdl.1))⟩
  · show OwR _ _ B _ (V i) (n i) (if i = k then setC (C k) o r else C i)
    by_cases e : i = k
    · subst e
      rw [if_pos rfl]
      have h1 := h.own i hi
      rw [hv] at h1 ⊢
      exact OwR.putC r wr _ o h1
    · rw [if_neg e]
      refine (h.own i hi).only ho (fun b hb => ?_)
      simp only [List.mem_singleton]
      rintro rfl
      exact e (h.inj i k b (h.vd i hi b hb) hd)
  · rw [ho.block x (Nat.lt_of_lt_of_le hx h.size) (by simp only [List.mem_singleton]; rintro rfl; exact hn k hd)]
    exact h.only x hx hn
theorem QX.congr {C' : Nat → List Value} (h : QX B w wr T F V n C D) (e : ∀ i, i < T → C i = C' i) : QX B w wr T F V n C' D :=
  ⟨fun i hi => by rw [← e i hi]; exact h.own i hi, h.vd, h.inj, h.dlt, h.base, h.only, h.size, h.below⟩
end
/-- k marks laid -/
def mrk (K : Knd) (C : List Value) (k : Nat) : List Value := rep k K.c ++ C.drop (k * K.sz)
theorem mrk_zero (K : Knd) (C : List Value) : mrk K C 0 = C := by simp [mrk, rep]
theorem mrk_all {K : Knd} {C : List Value} {n : Nat} (h : C.length = n * K.sz) : mrk K C n = rep n K.c := by
  unfold mrk
  rw [List.drop_of_length_le (by omega), List.append_nil]
theorem mrk_step {K : Knd} (hK : K.c.length = K.sz) {C : List Value} {k n : Nat} (h : C.length = n * K.sz) (hk : k < n) : setC (mrk K C k) (k * K.sz) K.c = mrk K C (k + 1) := by
  have hl : (rep k K.c).length = k * K.sz := by rw [rep_len, hK]
  have h1 := Nat.mul_le_mul_right K.sz hk
  rw [Nat.succ_mul] at h1
  have e : C.drop (k * K.sz) = (C.drop (k * K.sz)).take K.sz ++ C.drop ((k + 1) * K.sz) := by
    rw [Nat.succ_mul, ← List.drop_drop]
    exact (List.take_append_drop _ _).symm
  unfold mrk
  rw [e, ← List.append_assoc]
  have h2 := setC_app K.c (rep k K.c) ((C.drop (k * K.sz)).take K.sz) (C.drop ((k + 1) * K.sz)) (by rw [List.length_take, List.length_drop, hK]; omega)
  rw [hl] at h2
  rw [h2, rep_succ]
/-- what the lists hold: those ahead of i marked, k marks in list i -/
def CM (F : Nat → Knd) (C0 : Nat → List Value) (n : Nat → Nat) (i k j : Nat) : List Value := if j < i then rep (n j) (F j).c else if j = i then mrk (F j) (C0 j) k else C0 j
section
variable {F : Nat → Knd} {T : Nat} {C0 : Nat → List Value} {n : Nat → Nat}
theorem CM_put (hF : ∀ j, (F j).c.length = (F j).sz) (h : ∀ j, j < T → (C0 j).length = n j * (F j).sz) {i k : Nat} (hi : i < T) (hk : k < n i) (j : Nat) (_ : j < T) :
    (if j = i then setC (CM F C0 n i k i) (k * (F i).sz) (F i).c else CM F C0 n i k j) = CM F C0 n i (k + 1) j := by
  by_cases e : j = i
  · subst e
    rw [if_pos rfl]
    unfold CM
    rw [if_neg (by omega), if_pos rfl, if_neg (by omega), if_pos rfl]
    exact mrk_step (hF j) (h j hi) hk
  · rw [if_neg e]
    unfold CM
    by_cases hj : j < i
    · rw [if_pos hj, if_pos hj]
    · rw [if_neg hj, if_neg e, if_neg hj, if_neg e]
theorem CM_next (h : ∀ j, j < T → (C0 j).length = n j * (F j).sz) {i : Nat} (hi : i < T) (j : Nat) (_ : j < T) : CM F C0 n i (n i) j = CM F C0 n (i + 1) 0 j := by
  unfold CM
  by_cases h1 : j < i
  · rw [if_pos h1, if_pos (by omega)]
  · rw [if_neg h1]
    by_cases h2 : j = i
    · subst h2
      rw [if_pos rfl, if_pos (by omega), mrk_all (h j hi)]
    · rw [if_neg h2, if_neg (by omega)]
      by_cases h3 : j = i + 1
      · rw [if_pos h3, mrk_zero]
      · rw [if_neg h3]
theorem CM_start (j : Nat) : C0 j = CM F C0 n 0 0 j := by
  unfold CM
  rw [if_neg (by omega)]
  by_cases h : j = 0
  · rw [if_pos h, mrk_zero]
  · rw [if_neg h]
theorem CM_end (j : Nat) (h : j < T) : CM F C0 n T 0 j = rep (n j) (F j).c := by unfold CM; rw [if_pos h]
end
/-- the lists marked, and longer ones of each -/
structure MX (B : Nat) (w wr : World) (T : Nat) (F : Nat → Knd) (V U : Nat → Value) (n m : Nat → Nat) (D0 D : Nat → Nat → Prop) : Prop where
  ov : ∀ i, i < T → OwR (F i).e (F i).sz B wr (V i) (n i) (rep (n i) (F i).c)
  ou : ∀ i, i < T → OwR (F i).e (F i).sz B wr (U i) (m i) (rep (m i) (F i).c)
  le : ∀ i, i < T → n i ≤ m i
  shr : ∀ i, i < T → ∀ g, (V i).ownBlock = some g → (U i).ownBlock = some g → ∃ off cap, V i = .slice (some ⟨g, off, none⟩) (n i) cap ∧ U i = .slice (some ⟨g, off, none⟩) (m i) cap
  vd : ∀ i, i < T → ∀ g, (V i).ownBlock = some g → D i g
  ud : ∀ i, i < T → ∀ g, (U i).ownBlock = some g → D i g
  inj : ∀ i j g, D i g → D j g → i = j
  dlt : ∀ i g, D i g → B ≤ g ∧ g < wr.heap.size
  old : ∀ i g, D i g → g < w.heap.size → D0 i g
  base : B ≤ w.heap.size
  size : w.heap.size ≤ wr.heap.size
  only : ∀ g, g < w.heap.size → (∀ i, ¬ D0 i g) → wr.heap[g]? = w.heap[g]?
  below : Below B w wr
section
variable {B : Nat} {w wr w' : World} {T : Nat} {F : Nat → Knd} {V U : Nat → Value} {n m : Nat → Nat} {D D0 : Nat → Nat → Prop}
theorem QX.mx (h : QX B w wr T F V n (fun i => rep (n i) (F i).c) D) : MX B w wr T F V V n n D D :=
  ⟨h.own, h.own, fun _ _ => Nat.le_refl _, fun i hi g hg _ => by
    rcases (h.own i hi).form with ⟨e, _⟩ | ⟨g', off, c, e, _⟩
    · rw [e] at hg; cases hg
    · have : g' = g := by rw [e] at hg; simpa [Value.ownBlock] using hg
      subst this
      exact ⟨off, c, e, e⟩, h.vd, h.vd, h.inj, fun i g hd => ⟨(h.dlt i g hd).1, Nat.lt_of_lt_of_le (h.dlt i g hd).2 h.size⟩, fun i g hd _ => hd, h.base, h.size, h.only, h.below⟩
theorem MX.later (h : MX B w wr T F V U n m D0 D) (hb : Below wr.heap.size wr w') : MX B w w' T F V U n m D0 D :=
  ⟨fun i hi => (h.ov i hi).later hb, fun i hi => (h.ou i hi).later hb, h.le, h.shr, h.vd, h.ud, h.inj, fun i g hd => ⟨(h.dlt i g hd).1, Nat.lt_of_lt_of_le (h.dlt i g hd).2 hb.size⟩, h.old, h.base, Nat.le_trans h.size hb.size,
    fun g hg hn => (hb.block g (Nat.lt_of_lt_of_le hg h.size)).trans (h.only g hg hn), below_trans h.below (below_mono hb (Nat.le_trans h.base h.size))⟩
theorem MX.cell (h : MX B w wr T F V U n m D0 D) {g o : Nat} {u : Value} (hc : w.cell? ⟨g, o, none⟩ = some u) (hn : ∀ i, ¬ D0 i g) : wr.cell? ⟨g, o, none⟩ = some u := by
  have hg : g < w.heap.size := World.block_lt_of_cell? w ⟨g, o, none⟩ hc
  rw [World.cell?_of_block (w := w) (h.only g hg hn)]; exact hc
/-- a block that is no list's is stored to -/
theorem MX.other (h : MX B w wr T F V U n m D0 D) {S : List Nat} (ho : Only S wr w') (hS : ∀ g, g ∈ S → (∀ i, ¬ D i g) ∧ w.heap.size ≤ g) : MX B w w' T F V U n m D0 D :=
  ⟨fun i hi => (h.ov i hi).only ho fun g hg hm => (hS g hm).1 i (h.vd i hi g hg), fun i hi => (h.ou i hi).only ho fun g hg hm => (hS g hm).1 i (h.ud i hi g hg), h.le, h.shr, h.vd, h.ud, h.inj,
    fun i g hd => ⟨(h.dlt i g hd).1, Nat.lt_of_lt_of_le (h.dlt i g hd).2 ho.size⟩, h.old, h.base, Nat.le_trans h.size ho.size,
    fun g hg hn => (ho.block g (Nat.lt_of_lt_of_le hg h.size) fun hm => by have := (hS g hm).2; omega).trans (h.only g hg hn), below_trans h.below (ho.below (Nat.le_trans h.base h.size) fun g hm => Nat.le_trans h.base (hS g hm).2)⟩
/-- list k, one mark longer -/
theorem MX.app (h : MX B w wr T F V U n m D0 D) (hF : ∀ j, (F j).c.length = (F j).sz) {k : Nat} (hk : k < T) {v : Value} (ho : OwR (F k).e (F k).sz B w' v (m k + 1) (rep (m k + 1) (F k).c))
    (hw : (∃ g off cap, U k = .slice (some ⟨g, off, none⟩) (m k) cap ∧ v = .slice (some ⟨g, off, none⟩) (m k + 1) cap ∧ wr.grownBy w' (some g)) ∨ (∃ b, v.ownBlock = some b ∧ wr.heap.size ≤ b ∧ Below wr.heap.size wr w')) :
    MX B w w' T F V (fun i => if i = k then v else U i) n (fun i => if i = k then m k + 1 else m i) D0 (fun i g => D i g ∨ (i = k ∧ v.ownBlock = some g)) := by
  have hle := h.le k hk
  have key : ∀ i, (fun i => if i = k then m k + 1 else m i) i = if i = k then m k + 1 else m i := fun _ => rfl
  rcases hw with ⟨g, off, cap, hU, hv, hgr⟩ | ⟨b, hb, hbs, hbw⟩
  · have hon : Only [g] wr w' := only_grownR hgr
    have hdk : D k g := h.ud k hk g (by rw [hU]; rfl)
    have hvb : ∀ x, v.ownBlock = some x → x = g := fun x hx => by rw [hv] at hx; simpa [Value.ownBlock] using hx.symm
    have hoth : ∀ i, i ≠ k → ∀ x, D i x → x ∉ [g] := fun i hi x hd hm => by
      simp only [List.mem_singleton] at hm
      subst hm
      exact hi (h.inj i k x hd hdk)
    have hsz := hon.size
    refine ⟨fun i hi => ?_, fun i hi => ?_, fun i hi => ?_, fun i hi x h1 h2 => ?_, fun i hi x hx => .inl (h.vd i hi x hx), fun i hi x hx => ?_, fun i j x h1 h2 => ?_, fun i x hd => ?_, fun i x hd hx => ?_, h.base, Nat.le_trans h.size hsz,
      fun x hx hn => (hon.block x (Nat.lt_of_lt_of_le hx h.size) fun hm => ?_).trans (h.only x hx hn), below_trans h.below (hon.below (Nat.le_trans h.base h.size) fun x hx => ?_)⟩
    · by_cases e : i = k
      · subst e
        by_cases hvg : (V i).ownBlock = some g
        · obtain ⟨off', cap', e1, e2⟩ := h.shr i hi g hvg (by rw [hU]; rfl)
          rw [hU] at e2
          injection e2 with e2 _ e3
          injection e2 with e2
          injection e2 with _ e4 _
          subst e3
          subst e4
          rw [e1]
          rw [hv] at ho
          exact ho.sub (hF i) (by omega)
        · exact (h.ov i hi).only hon fun x hx hm => hvg (by simp only [List.mem_singleton] at hm; subst hm; exact hx)
      · exact (h.ov i hi).only hon fun x hx => hoth i e x (h.vd i hi x hx)
    · show OwR _ _ B w' (if i = k then v else U i) (if i = k then m k + 1 else m i) (rep (if i = k then m k + 1 else m i) (F i).c)
      by_cases e : i = k
      · subst e; simp only [if_true]; exact ho
      · simp only [e, if_false]
        exact (h.ou i hi).only hon fun x hx => hoth i e x (h.ud i hi x hx)
    · show n i ≤ if i = k then m k + 1 else m i
      by_cases e : i = k
      · subst e; rw [if_pos rfl]; omega
      · rw [if_neg e]; exact h.le i hi
    · have h2' : (if i = k then v else U i).ownBlock = some x := h2
      show ∃ off cap, V i = .slice (some ⟨x, off, none⟩) (n i) cap ∧ (if i = k then v else U i) = .slice (some ⟨x, off, none⟩) (if i = k then m k + 1 else m i) cap
      by_cases e : i = k
      · subst e
        simp only [if_true] at h2' ⊢
        have := hvb x h2'
        subst this
        obtain ⟨off', cap', e1, e2⟩ := h.shr i hi x h1 (by rw [hU]; rfl)
        rw [hU] at e2
        injection e2 with e2 _ e3
        injection e2 with e2
        injection e2 with _ e4 _
        subst e3
        subst e4
        exact ⟨off, cap, e1, hv⟩
      · simp only [e, if_false] at h2' ⊢
        exact h.shr i hi x h1 h2'
    · have hx' : (if i = k then v else U i).ownBlock = some x := hx
      by_cases e : i = k
      · subst e; rw [if_pos rfl] at hx'; exact .inr ⟨rfl, hx'⟩
      · rw [if_neg e] at hx'; exact .inl (h.ud i hi x hx')
    · have c : ∀ i, (D i x ∨ (i = k ∧ v.ownBlock = some x)) → D i x := fun i hd => by
        rcases hd with hd | ⟨rfl, hd⟩
        · exact hd
        · have := hvb x hd; subst this; exact hdk
      exact h.inj i j x (c i h1) (c j h2)
    · rcases hd with hd | ⟨rfl, hd⟩
      · exact ⟨(h.dlt i x hd).1, Nat.lt_of_lt_of_le (h.dlt i x hd).2 hsz⟩
      · have := hvb x hd; subst this; exact ⟨(h.dlt i x hdk).1, Nat.lt_of_lt_of_le (h.dlt i x hdk).2 hsz⟩
    · rcases hd with hd | ⟨rfl, hd⟩
      · exact h.old i x hd hx
      · have := hvb x hd; subst this; exact h.old i x hdk hx
    · simp only [List.mem_singleton] at hm
      subst hm
      exact hn k (h.old k x hdk hx)
    · simp only [List.mem_singleton] at hx
      subst hx
      exact (h.dlt k x hdk).1
  · have hvb : ∀ x, v.ownBlock = some x → x = b := fun x hx => by rw [hb] at hx; injection hx with hx; exact hx.symm
    have hbz : b < w'.heap.size := (ho.lt hb).2
    have hM := h.later hbw
    have hB : B ≤ b := Nat.le_trans (Nat.le_trans h.base h.size) hbs
    have hdn : ∀ i x, D i x → x ≠ b := fun i x hd e => by have := (h.dlt i x hd).2; omega
    refine ⟨hM.ov, fun i hi => ?_, fun i hi => ?_, fun i hi x h1 h2 => ?_, fun i hi x hx => .inl (h.vd i hi x hx), fun i hi x hx => ?_, fun i j x h1 h2 => ?_, fun i x hd => ?_, fun i x hd hx => ?_, h.base, hM.size, hM.only, hM.below⟩
    · show OwR _ _ B w' (if i = k then v else U i) (if i = k then m k + 1 else m i) (rep (if i = k then m k + 1 else m i) (F i).c)
      by_cases e : i = k
      · subst e; simp only [if_true]; exact ho
      · simp only [e, if_false]; exact hM.ou i hi
    · show n i ≤ if i = k then m k + 1 else m i
      by_cases e : i = k
      · subst e; rw [if_pos rfl]; omega
      · rw [if_neg e]; exact h.le i hi
    · have h2' : (if i = k then v else U i).ownBlock = some x := h2
      show ∃ off cap, V i = .slice (some ⟨x, off, none⟩) (n i) cap ∧ (if i = k then v else U i) = .slice (some ⟨x, off, none⟩) (if i = k then m k + 1 else m i) cap
      by_cases e : i = k
      · subst e
        rw [if_pos rfl] at h2'
        have := hvb x h2'
        exact absurd this (hdn i x (h.vd i hi x h1))
      · simp only [e, if_false] at h2' ⊢
        exact h.shr i hi x h1 h2'
    · have hx' : (if i = k then v else U i).ownBlock = some x := hx
      by_cases e : i = k
      · subst e; rw [if_pos rfl] at hx'; exact .inr ⟨rfl, hx'⟩
      · rw [if_neg e] at hx'; exact .inl (h.ud i hi x hx')
    · rcases h1 with h1 | ⟨rfl, h1⟩ <;> rcases h2 with h2 | ⟨rfl, h2⟩
      · exact h.inj i j x h1 h2
      · exact absurd (hvb x h2) (hdn i x h1)
      · exact absurd (hvb x h1) (hdn j x h2)
      · rfl
    · rcases hd with hd | ⟨rfl, hd⟩
      · exact hM.dlt i x hd
      · have := hvb x hd; subst this; exact ⟨hB, hbz⟩
    · rcases hd with hd | ⟨rfl, hd⟩
      · exact h.old i x hd hx
      · have := hvb x hd; subst this; have := h.size; omega
end
end Go.Proofs.YtfdcfcalbongeaaGreat
