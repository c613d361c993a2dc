/-
  Lists of several kinds, each in memory of its own, marked and grown.
  What a few Puts leave; bytes with one turned: plain lists.
  The law CacheTrusts.
  The law CacheTrusts: a byte turned.
  Lists marked place by place, and grown: for the law CacheFresh.
  Two answers of targets, all their lists in a table: for the law's spoiled.
-/
import Derived.Test.YtddaoloabfkheaaGreatDoorJOBase
import Derived.Laws.BytesArg
import Derived.Laws.Tables
import Derived.Laws.OwnMore
import Derived.Deep.OwnRows
import Derived.Deep.AppendSrc
import Derived.Deep.RegionLaw
import Derived.Test.YtddaoloabfkheaaGreatDoorJOq
import Derived.Deep.DeepCutAuto
import Derived.Laws.Closers25b
namespace Go.Proofs.YtddaoloabfkheaaGreatDoor
open Go.RowKit

/-- a kind of list: its type, its elements', how many cells one has, and the cells of its mark -/
structure Knd where
  ty : TypeId
  e : TypeId
  sz : Nat
  c : List Value
structure KOk (K : Knd) : Prop where
  und : Tryz.prog.underlying K.ty = some (.slice K.e)
  info : ∃ z b, (Tryz.prog.info? K.e).map (fun i => (i.zero, i.size, i.bytes)) = some (some z, K.sz, b) ∧ z.cells.size = K.sz ∧ b ≤ 100
  len : K.c.length = K.sz
  pos : 0 < K.sz
/-- n marks -/
def rep (n : Nat) (c : List Value) : List Value := (List.replicate n c).flatten
theorem rep_succ (n : Nat) (c : List Value) : rep (n + 1) c = rep n c ++ c := by simp [rep, List.replicate_succ']
theorem rep_len (n : Nat) (c : List Value) : (rep n c).length = n * c.length := by
  induction n with
  | zero => simp [rep]
  | succ n ih => rw [rep_succ, List.length_append, ih, Nat.succ_mul]
theorem rep_get {c : List Value} {s : Nat} (hc : c.length = s) : ∀ (n y : Nat), y < n * s → (rep n c)[y]? = c[y % s]?
  | 0, y, h => by simp at h
  | n + 1, y, h => by
    rw [rep_succ]
    by_cases hy : y < n * s
    · rw [List.getElem?_append_left (by rw [rep_len, hc]; exact hy)]
      exact rep_get hc n y hy
    · rw [List.getElem?_append_right (by rw [rep_len, hc]; omega), rep_len, hc]
      rw [Nat.succ_mul] at h
      congr 1
      have e : y = y - n * s + n * s := by omega
      conv => rhs; rw [e]
      rw [Nat.add_mul_mod_self_right, Nat.mod_eq_of_lt (by omega)]
theorem rep_take {c : List Value} {s : Nat} (hc : c.length = s) {l : List Value} {m : Nat} : l.take (m * s) = rep m c ↔ ∀ y, y < m * s → l[y]? = c[y % s]? := by
  constructor
  · intro h y hy
    have h2 : (l.take (m * s))[y]? = (rep m c)[y]? := by rw [h]
    rw [List.getElem?_take, if_pos hy, rep_get hc m y hy] at h2
    exact h2
  · intro h
    apply List.ext_getElem?
    intro y
    rw [List.getElem?_take]
    by_cases hy : y < m * s
    · rw [if_pos hy, rep_get hc m y hy]; exact h y hy
    · rw [if_neg hy, List.getElem?_eq_none (by rw [rep_len, hc]; omega)]
/-- the block of a value, as a list -/
def bl (v : Value) : List Nat := v.ownBlock.toList
theorem mem_bl {v : Value} {g : Nat} : g ∈ bl v ↔ v.ownBlock = some g := by
  unfold bl
  cases v.ownBlock with
  | none => simp
  | some k => simp [eq_comm]
theorem only_grownK {w w' : World} {row : Option Nat} (h : w.grownBy w' row) : Only row.toList w w' :=
  ⟨h.os, h.tape, h.output, h.size, fun k hk hn => h.block k hk (by
    intro e
    apply hn
    rw [← e]; simp)⟩
theorem row_only {S : List Nat} {base e sz n : Nat} {w w' : World} {v : Value} {l : List Value} (h : w.ownsRow base e sz v n l) (ho : Only S w w') (hn : ∀ k, v.ownBlock = some k → k ∉ S) : w'.ownsRow base e sz v n l := by
  rcases h with ⟨h0, h | ⟨g, cap, cur, rfl, hb, hg, hr⟩⟩
  · exact ⟨h0, .inl h⟩
  · exact ⟨h0, .inr ⟨g, cap, cur, rfl, hb, (ho.block g (Array.getElem?_eq_some_iff.1 hg).1 (hn g rfl)).trans hg, hr⟩⟩
theorem row_later {base e sz n : Nat} {w w' : World} {v : Value} {l : List Value} (h : w.ownsRow base e sz v n l) (hb : Below w.heap.size w w') : w'.ownsRow base e sz v n l := row_only h (Only.of_below hb []) (by simp)
theorem row_form {base e sz n : Nat} {w : World} {v : Value} {l : List Value} (h : w.ownsRow base e sz v n l) : ∃ a c, v = .slice a n c := by
  rcases h.2 with ⟨rfl, rfl⟩ | ⟨g, cap, cur, rfl, _⟩
  · exact ⟨_, _, rfl⟩
  · exact ⟨_, _, rfl⟩
theorem row_place {base e sz n : Nat} {w : World} {v : Value} {l : List Value} (h : w.ownsRow base e sz v n l) (hn : 0 < n) : ∃ g c, v = .slice (some ⟨g, 0, none⟩) n c ∧ n ≤ c ∧ base ≤ g ∧ g < w.heap.size := by
  rcases h.2 with ⟨rfl, rfl⟩ | ⟨g, cap, cur, rfl, hb, hg, hc, _⟩
  · omega
  · exact ⟨g, cap, rfl, hc, hb, (Array.getElem?_eq_some_iff.1 hg).1⟩
theorem below_drew_allocK (w : World) (o : Obj) : Below w.heap.size w (w.drew.alloc o) := (Below.refl _ _).drew.alloc (Nat.le_refl _) o

/-- marks, one more appended: what is marked alike stays so -/
theorem run_append_k {K : Knd} (hK : KOk K) {w : World} {base : Nat} {v : Value} {n : Nat} (x : Value) (ty : TypeId) (hown : w.ownsRow base K.e K.sz v n (rep n K.c))
    (hsrc : Src Tryz.prog K.sz K.ty x 1 K.c w) (hb : n + 1 ≤ 100000000) (hbase : base ≤ w.heap.size) :
    ∃ a c w', (Builtin.append_ #[K.ty, K.ty] ty #[v, x]).run Tryz.prog w = .ok (.slice a (n + 1) c) w' ∧ w'.ownsRow base K.e K.sz (.slice a (n + 1) c) (n + 1) (rep (n + 1) K.c) ∧ Only (bl v) w w' ∧
      ((Value.slice a (n + 1) c).ownBlock = v.ownBlock ∨ ∃ b, (Value.slice a (n + 1) c).ownBlock = some b ∧ w.heap.size ≤ b) ∧ ∀ b' u m, w.ownsRow b' K.e K.sz u m (rep m K.c) → w'.ownsRow b' K.e K.sz u m (rep m K.c) := by
  obtain ⟨z, by', hinf, hz1, hby⟩ := hK.info
  obtain ⟨i, hi, hz0, hzs, hz2⟩ := info_parts hinf
  have hlen := hK.len
  have hbb : (n + 1) * by' ≤ 140737488355328 := by
    have : (n + 1) * by' ≤ 100000000 * 100 := Nat.mul_le_mul hb hby
    omega
  obtain ⟨v2, w2, hr2, h2, hgr, hwh⟩ := run_append_src (P := Tryz.prog) w base K.ty K.ty ty K.e i z K.sz by' hK.und hi hz0 hzs hz2 hz1 v n (rep n K.c) hown x 1 K.c hsrc (by simp only [maxLen]; omega) hbb hbase
  rw [← rep_succ] at h2
  have hkeep : ∀ b' u m, w.ownsRow b' K.e K.sz u m (rep m K.c) → w2.ownsRow b' K.e K.sz u m (rep m K.c) := by
    intro b' u m hu
    rcases hown.2 with ⟨rfl, h0⟩ | ⟨g, cap, cur, rfl, hbg, hg, hnc, hcm, hcs, htake⟩
    · exact row_only hu (only_grownK hgr) (by simp [Value.ownBlock])
    · by_cases hroom : n + 1 ≤ cap
      · have hmul : n * K.sz + K.sz ≤ cap * K.sz := by
          have := Nat.mul_le_mul_right K.sz hroom
          rw [Nat.succ_mul] at this; exact this
        have hfit : n * i.size + K.c.length ≤ cur.size := by rw [hzs, hlen, hcs]; exact hmul
        have hst := run_storeCells_at Tryz.prog g (n * i.size) K.e K.c 0 cur w hg (by simpa using hfit) hsrc.one
        simp only [Nat.add_zero] at hst
        have hr : (Builtin.append_ #[K.ty, K.ty] ty #[.slice (some ⟨g, 0, none⟩) n cap, x]).run Tryz.prog w =
            .ok (.slice (some ⟨g, 0, none⟩) (n + 1) cap) (w.setRow g (cur.toList.take (n * i.size) ++ K.c ++ cur.toList.drop (n * i.size + K.c.length)).toArray) := by
          have hs2 := hsrc
          rw [← hzs] at hs2
          simp [Builtin.append_, run_underlying hK.und, sizeOf, typeInfo, hi, hs2.len, hroom, hs2.cells, Addr.add_lit, hst]
        rw [hr2] at hr
        injection hr with e1 e2
        rcases hu.2 with ⟨rfl, h0⟩ | ⟨g', cap', cur', rfl, hbg', hg', hnc', hcm', hcs', htake'⟩
        · exact ⟨hu.1, .inl ⟨rfl, h0⟩⟩
        · by_cases hgg : g' = g
          · subst hgg
            rw [hg] at hg'
            injection hg' with hg'
            injection hg' with hc1 _ _
            subst hc1
            have hmm : m * K.sz ≤ cur.size := by rw [hcs']; exact Nat.mul_le_mul_right _ hnc'
            have hnn : n * K.sz ≤ cur.size := by rw [hcs]; omega
            have hlt : (cur.toList.take (n * i.size)).length = n * K.sz := by rw [List.length_take, Array.length_toList, hzs]; omega
            refine ⟨hu.1, .inr ⟨g', cap', _, rfl, hbg', by rw [e2]; exact setRow_heap w g' cur _ K.e _ hg, hnc', hcm', ?_, ?_⟩⟩
            · simp only [List.size_toArray, List.length_append, List.length_take, List.length_drop, Array.length_toList]
              omega
            · rw [rep_take hlen] at htake'
              rw [rep_take hlen] at htake
              have hsz : (cur.toList.take (n * i.size) ++ K.c ++ cur.toList.drop (n * i.size + K.c.length)).length = cur.size := by
                simp only [List.length_append, List.length_take, List.length_drop, Array.length_toList]; omega
              rw [rep_take hlen]
              intro y hy
              by_cases h1 : y < n * K.sz
              · rw [List.append_assoc, List.getElem?_append_left (by rw [hlt]; exact h1), List.getElem?_take, if_pos (by rw [hzs]; exact h1)]
                exact htake y h1
              · by_cases h3 : y < n * K.sz + K.sz
                · rw [List.append_assoc, List.getElem?_append_right (by rw [hlt]; omega), List.getElem?_append_left (by rw [hlt, hlen]; omega), hlt]
                  have e : y % K.sz = y - n * K.sz := by
                    have e : y = y - n * K.sz + n * K.sz := by omega
                    rw [e, Nat.add_mul_mod_self_right, Nat.mod_eq_of_lt (by omega), ← e]
                  rw [e]
                · rw [List.getElem?_append_right (by rw [List.length_append, hlt, hlen]; omega), List.length_append, hlt, hlen, List.getElem?_drop, hzs]
                  have e5 : n * K.sz + K.sz + (y - (n * K.sz + K.sz)) = y := by omega
                  rw [e5]
                  exact htake' y hy
          · refine row_only hu (only_grownK hgr) (fun b hb => ?_)
            have hb2 : g' = b := by simpa [Value.ownBlock] using hb
            subst hb2
            simp [Value.ownBlock, hgg]
      · have holds : ∀ j u, (rep n K.c)[j]? = some u → w.cell? ((⟨g, 0, none⟩ : Addr).add j) = some u := hown.cells (g := g) rfl
        have hr := run_append_grow_src (P := Tryz.prog) w K.ty K.ty ty K.e i _ hK.und hi hz0 (some ⟨g, 0, none⟩) n cap (rep n K.c) (run_firstCells_some w.drew i.size n _ n cap _ (by rw [rep_len, hzs, hlen]) (by simpa using holds)) x 1 K.c (by rw [hzs]; exact hsrc) (by omega) (by omega) (growslice_fits (by omega) (by rw [hz2]; exact hbb))
        rw [hr2] at hr
        injection hr with e1 e2
        exact row_later hu (by rw [e2]; exact below_drew_allocK w _)
  obtain ⟨a, c, e3⟩ := row_form h2
  subst e3
  refine ⟨a, c, w2, hr2, h2, only_grownK hgr, ?_, hkeep⟩
  rcases hwh with h | h
  · exact .inl h
  · exact .inr ⟨_, h, Nat.le_refl _⟩
/-- cells laid one behind the other -/
def putC (w : World) (g : Nat) : Nat → List Value → World
  | _, [] => w
  | o, c :: r => putC (w.setCell ⟨g, o, none⟩ c) g (o + 1) r
def setC : List Value → Nat → List Value → List Value
  | l, _, [] => l
  | l, o, c :: r => setC (l.set o c) (o + 1) r
theorem setC_get : ∀ (r l : List Value) (o y : Nat), o + r.length ≤ l.length → (setC l o r)[y]? = if o ≤ y ∧ y < o + r.length then r[y - o]? else l[y]?
  | [], l, o, y, _ => by rw [if_neg (by simp)]; rfl
  | c :: r, l, o, y, h => by
    simp only [List.length_cons] at h ⊢
    rw [setC, setC_get r _ _ y (by rw [List.length_set]; omega)]
    by_cases h1 : y = o
    · subst h1
      rw [if_neg (by omega), if_pos (by omega), List.getElem?_set_self (by omega), Nat.sub_self]; rfl
    · by_cases h2 : o ≤ y ∧ y < o + (r.length + 1)
      · rw [if_pos h2, if_pos (by omega)]
        have e : y - o = (y - (o + 1)) + 1 := by omega
        rw [e, List.getElem?_cons_succ]
      · rw [if_neg h2, if_neg (by omega), List.getElem?_set_ne (by omega)]
theorem putC_only (g : Nat) : ∀ (r : List Value) (w : World) (o : Nat), Only [g] w (putC w g o r)
  | [], _, _ => Only.refl _ _
  | c :: r, w, o => (Only.set w g o c).trans (putC_only g r _ _)
theorem row_putC {base e sz n g cap : Nat} : ∀ (r : List Value) (w : World) (l : List Value) (o : Nat), w.ownsRow base e sz (.slice (some ⟨g, 0, none⟩) n cap) n l → (putC w g o r).ownsRow base e sz (.slice (some ⟨g, 0, none⟩) n cap) n (setC l o r)
  | [], _, _, _, h => h
  | c :: r, _, _, o, h => row_putC r _ _ _ (h.stored o c).1

/-- T lists of their kinds, each in memory of its own: D i are the blocks of list i, D0 i those that it had at first -/
structure QN (B : Nat) (w wr : World) (T : Nat) (F : Nat → Knd) (V : Nat → Value) (n : Nat → Nat) (C : Nat → List Value) (D0 D : Nat → Nat → Prop) : Prop where
  own : ∀ i, i < T → wr.ownsRow B (F i).e (F i).sz (V i) (n i) (C i)
  vd : ∀ i, i < T → ∀ g, (V i).ownBlock = some g → D i g
  inj : ∀ i j g, D i g → D j g → i = j
  dlt : ∀ i g, D i g → B ≤ g ∧ g < wr.heap.size
  old : ∀ i g, D i g → g < w.heap.size → D0 i g
  base : B ≤ w.heap.size
  below : Below B w wr
  kept : ∀ g, g < w.heap.size → (∀ i, ¬ D0 i g) → wr.heap[g]? = w.heap[g]?
section
variable {B : Nat} {w wr w' : World} {T : Nat} {F : Nat → Knd} {V : Nat → Value} {n : Nat → Nat} {C : Nat → List Value} {D0 D : Nat → Nat → Prop}
theorem QN.size (h : QN B w wr T F V n C D0 D) : w.heap.size ≤ wr.heap.size := h.below.size
theorem QN.later (h : QN B w wr T F V n C D0 D) (hb : Below wr.heap.size wr w') : QN B w w' T F V n C D0 D := by
  have hs := h.size
  have hB := h.base
  exact ⟨fun i hi => row_later (h.own i hi) hb, h.vd, h.inj, fun i g hg => by have := h.dlt i g hg; have := hb.size; omega, h.old, hB, below_trans h.below (below_mono hb (by omega)), fun g hg hn => (hb.block g (by omega)).trans (h.kept g hg hn)⟩
/-- what lies in no list's memory stays as it was at first -/
theorem QN.cell (h : QN B w wr T F V n C D0 D) {g o : Nat} {u : Value} (hc : w.cell? ⟨g, o, none⟩ = some u) (hn : ∀ i, ¬ D0 i g) : wr.cell? ⟨g, o, none⟩ = some u := by
  have hg : g < w.heap.size := World.block_lt_of_cell? w ⟨g, o, none⟩ hc
  rw [World.cell?_of_block (w := w) (h.kept g hg hn)]; exact hc
/-- a mark is laid at place m of list k -/
theorem QN.put (h : QN B w wr T F V n C D0 D) {k g c : Nat} (hk : k < T) (hv : V k = .slice (some ⟨g, 0, none⟩) (n k) c) (m : Nat) (r : List Value) :
    QN B w (putC wr g m r) T F V n (fun i => if i = k then setC (C k) m r else C i) D0 D := by
  have hd := h.vd k hk g (by rw [hv]; rfl)
  have hdl := h.dlt k g hd
  have ho := putC_only g r wr m
  have hs := h.size
  have hB := h.base
  refine ⟨fun i hi => ?_, h.vd, h.inj, fun i g' hg' => by have := h.dlt i g' hg'; have := ho.size; omega, h.old, hB, below_trans h.below (ho.below (by omega) (fun x hx => by simp at hx; subst hx; exact hdl.1)), fun x hx hn => ?_⟩
  · show World.ownsRow _ B _ _ (V i) (n i) (if i = k then setC (C k) m r else C i)
    by_cases e : i = k
    · subst e
      rw [if_pos rfl]
      have h1 := h.own i hi
      rw [hv] at h1 ⊢
      exact row_putC r wr _ m h1
    · rw [if_neg e]
      refine row_only (h.own i hi) ho (fun b hb => ?_)
      simp only [List.mem_singleton]
      rintro rfl
      exact e (h.inj i k b (h.vd i hi b hb) hd)
  · rw [ho.block x (by omega) (by simp only [List.mem_singleton]; rintro rfl; exact hn k (h.old k x hd hx))]
    exact h.kept x hx hn
theorem QN.congr {C' : Nat → List Value} (h : QN B w wr T F V n C D0 D) (e : ∀ i, i < T → C i = C' i) : QN B w wr T F V n C' D0 D :=
  ⟨fun i hi => by rw [← e i hi]; exact h.own i hi, h.vd, h.inj, h.dlt, h.old, h.base, h.below, h.kept⟩
end
section
variable {B : Nat} {w wr w' wa : World} {T : Nat} {F : Nat → Knd} {G X : Nat → Nat} {V : Nat → Value} {n : Nat → Nat} {k : Nat} {U : Nat → Value} {m : Nat → Nat} {D0 D : Nat → Nat → Prop}
end
end Go.Proofs.YtddaoloabfkheaaGreatDoor

namespace Go.Proofs.YtddaoloabfkheaaGreatDoor
open Go.RowKit

/-- the keys behind some Puts -/
def ptK (L : List Stp) : List Lb := L.foldl (fun K s => putA K s.p s.t) []
theorem ptK_snoc (L : List Stp) (s : Stp) : ptK (L ++ [s]) = putA (ptK L) s.p s.t := by unfold ptK; rw [List.foldl_append]; rfl
end Go.Proofs.YtddaoloabfkheaaGreatDoor

namespace Go.Proofs.YtddaoloabfkheaaGreatDoor
open Go.RowKit
attribute [local go_sem] Oper.semAt_some

/-- what stands behind the Puts: the cache, the keys, all that is new -/
structure TQ (CA : World → (Nat → Prop) → Nat → List Lb → Prop) (B : Nat) (w : World) (c : Nat) (K : List Lb) : Prop where
  it : ∃ F, CA w F c K ∧ ∀ k, F k → B ≤ k
theorem TQ.later {CA : World → (Nat → Prop) → Nat → List Lb → Prop} (C : CcP CA) {B : Nat} {w w' : World} {c : Nat} {K : List Lb} (h : TQ CA B w c K) (hb : Below w.heap.size w w') : TQ CA B w' c K := by
  obtain ⟨F, h1, h2⟩ := h
  exact ⟨F, C.later h1 hb, h2⟩
theorem TQ.new {CA : World → (Nat → Prop) → Nat → List Lb → Prop} (C : CcP CA) {B : Nat} {w : World} (hB : B ≤ w.heap.size) : Calls Tryz.prog 8 #[] w fun e w' => ∃ c, e = .returned (.pointer (some ⟨c, 0, none⟩)) ∧ TQ CA B w' c [] ∧ Below w.heap.size w w' :=
  (C.new w).mono fun _ _ ⟨c, h1, h2, h3⟩ => ⟨c, h1, ⟨_, h2, fun _ hk => Nat.le_trans hB hk.1⟩, h3⟩
theorem TQ.load {CA : World → (Nat → Prop) → Nat → List Lb → Prop} (C : CcP CA) {w : World} {v : Value} {b : List UInt8} (h : BS w v b) (E : Ev w) (hl : b.length ≤ 4000000000) : Calls Tryz.prog 15 #[v] w fun e w' => Below w.heap.size w w' ∧
    ((∃ K g, OKK K ∧ savB K = b ∧ e = .returned (.tuple #[.pointer (some ⟨g, 0, none⟩), .int .i64 0]) ∧ TQ CA w.heap.size w' g K) ∨ ((∀ K, OKK K → savB K = b → False) ∧ e = .returned (.tuple #[.pointer none, .int .i64 14]))) := by
  refine (C.load h E hl).mono ?_
  rintro e w' ⟨h1, ⟨K, g, h2, h3, h4, h5⟩ | h6⟩
  · exact ⟨h1, .inl ⟨K, g, h2, h3, h4, ⟨_, h5, fun k hk => hk.1⟩⟩⟩
  · exact ⟨h1, .inr h6⟩
/-- what the laws answer -/
def Good (w : World) (e : Ending) (w' : World) : Prop := e = .returned (.bool true) ∧ Below w.heap.size w w'
end Go.Proofs.YtddaoloabfkheaaGreatDoor

namespace Go.Proofs.YtddaoloabfkheaaGreatDoor
open Go.RowKit
attribute [local go_sem] Oper.semAt_some

theorem OwnB.set {base : Nat} {w : World} {g n c : Nat} {b : List UInt8} (h : OwnB base w (.slice (some ⟨g, 0, none⟩) n c) b) (i : Nat) (hi : i < b.length) (y : UInt8) :
    OwnB base (w.setCell ⟨g, i, none⟩ (.int .u8 y.toNat)) (.slice (some ⟨g, 0, none⟩) n c) (b.set i y) ∧ w.cell? ⟨g, i, none⟩ = some (.int .u8 b[i].toNat) ∧ w.frozen? ⟨g, i, none⟩ = false := by
  have hc := World.ownsRow.cells h (g := g) rfl i (.int .u8 b[i].toNat) (by rw [bc_get, List.getElem?_eq_getElem hi]; rfl)
  rw [add_lit, Nat.zero_add] at hc
  rcases h with ⟨h0, ⟨e, _⟩ | ⟨g', cap, cur, e, hb, hg, hn, hm, hs, ht⟩⟩
  · cases e
  · obtain ⟨e1, _, e2, e3⟩ := slice_inj e
    subst e1 e2 e3
    have hl : (b.set i y).length = b.length := List.length_set
    refine ⟨⟨by rw [bc_length, Nat.mul_one], .inr ⟨g', cap, _, by rw [hl], hb, heap_setCell w g' i _ hg, by rw [hl]; exact hn, hm, by rw [Array.size_setIfInBounds]; exact hs, ?_⟩⟩, hc, by simp [World.frozen?, hg]⟩
    rw [Array.toList_setIfInBounds, List.take_set, hl, ht]
    simp only [bc, List.map_set]
theorem savB_le2 {K : List Lb} (h : OKK K) : (savB K).length ≤ 3400000000 := by
  have := h.flat
  rw [savB_hd, List.length_append, hdP_len]
  omega
end Go.Proofs.YtddaoloabfkheaaGreatDoor

namespace Go.Proofs.YtddaoloabfkheaaGreatDoor
open Go.RowKit

/-- x marks, then what was there -/
def pmk (c : List Value) (sz x : Nat) (l : List Value) : List Value := rep x c ++ l.drop (x * sz)
theorem pmk_zero (c : List Value) (sz : Nat) (l : List Value) : pmk c sz 0 l = l := by simp [pmk, rep]
theorem pmk_full {c : List Value} {sz n : Nat} {l : List Value} (h : l.length = n * sz) : pmk c sz n l = rep n c := by
  unfold pmk
  rw [List.drop_eq_nil_of_le (by omega), List.append_nil]
theorem pmk_len {c : List Value} {sz x n : Nat} {l : List Value} (hc : c.length = sz) (h : l.length = n * sz) (hx : x ≤ n) : (pmk c sz x l).length = n * sz := by
  unfold pmk
  rw [List.length_append, rep_len, List.length_drop, hc, h]
  have := Nat.mul_le_mul_right sz hx
  omega
theorem pmk_set {c : List Value} {sz x n : Nat} {l : List Value} (hc : c.length = sz) (h : l.length = n * sz) (hx : x < n) : setC (pmk c sz x l) (x * sz) c = pmk c sz (x + 1) l := by
  have hl := pmk_len hc h (Nat.le_of_lt hx)
  have hm : (x + 1) * sz ≤ n * sz := Nat.mul_le_mul_right sz hx
  have hs : (x + 1) * sz = x * sz + sz := Nat.succ_mul x sz
  refine List.ext_getElem? (fun y => ?_)
  rw [setC_get _ _ _ _ (by rw [hl, hc]; omega), hc]
  unfold pmk
  rw [rep_succ]
  have e1 : (rep x c).length = x * sz := by rw [rep_len, hc]
  by_cases h1 : y < x * sz
  · rw [if_neg (by omega), List.getElem?_append_left (by rw [e1]; exact h1), List.append_assoc, List.getElem?_append_left (by rw [e1]; exact h1)]
  · by_cases h2 : y < x * sz + sz
    · rw [if_pos (by omega), List.append_assoc, List.getElem?_append_right (by rw [e1]; omega), List.getElem?_append_left (by rw [e1, hc]; omega), e1]
    · rw [if_neg (by omega), List.getElem?_append_right (by rw [e1]; omega), List.getElem?_append_right (by rw [List.length_append, e1, hc]; omega), List.getElem?_drop, List.getElem?_drop]
      congr 1
      rw [List.length_append, e1, hc]
      omega
section
variable {B : Nat} {w wr w' : World} {T : Nat} {F : Nat → Knd} {V : Nat → Value} {n : Nat → Nat} {C0 : Nat → List Value} {D0 D : Nat → Nat → Prop}
/-- list i has M i marks at its front -/
abbrev QM (B : Nat) (w wr : World) (T : Nat) (F : Nat → Knd) (V : Nat → Value) (n : Nat → Nat) (C0 : Nat → List Value) (M : Nat → Nat) (D0 D : Nat → Nat → Prop) : Prop := QN B w wr T F V n (fun i => pmk (F i).c (F i).sz (M i) (C0 i)) D0 D
theorem QM.mark {M M' : Nat → Nat} (h : QM B w wr T F V n C0 M D0 D) (hF : ∀ i, i < T → KOk (F i)) (hC : ∀ i, i < T → (C0 i).length = n i * (F i).sz) {j g c : Nat} (hj : j < T) (hv : V j = .slice (some ⟨g, 0, none⟩) (n j) c) (hm : M j < n j) (e1 : M' j = M j + 1) (e2 : ∀ i, i ≠ j → M' i = M i) :
    QM B w (putC wr g (M j * (F j).sz) (F j).c) T F V n C0 M' D0 D := by
  refine (QN.put h hj hv (M j * (F j).sz) (F j).c).congr (fun i hi => ?_)
  by_cases e : i = j
  · subst e
    simp only [if_true]
    rw [pmk_set (hF i hi).len (hC i hi) hm, e1]
  · simp only [e, if_false]
    rw [e2 i e]
theorem QM.congr {M M' : Nat → Nat} (h : QM B w wr T F V n C0 M D0 D) (e : ∀ i, i < T → M i = M' i) : QM B w wr T F V n C0 M' D0 D := QN.congr h (fun i hi => by rw [e i hi])
/-- an append to one of them: all stay -/
theorem QN.grow1 {C : Nat → List Value} (h : QN B w wr T F V n C D0 D) {j : Nat} (hC : j < T → C j = rep (n j) (F j).c) {v v' : Value} (hv : ∀ g, v.ownBlock = some g → D j g) (ho : Only (bl v) wr w')
    (hkeep : ∀ u x, wr.ownsRow B (F j).e (F j).sz u x (rep x (F j).c) → w'.ownsRow B (F j).e (F j).sz u x (rep x (F j).c)) (hv' : v'.ownBlock = v.ownBlock ∨ ∃ b, v'.ownBlock = some b ∧ wr.heap.size ≤ b) (hlt : ∀ b, v'.ownBlock = some b → b < w'.heap.size) :
    ∃ D', QN B w w' T F V n C D0 D' ∧ (∀ i g, D i g → D' i g) ∧ (∀ g, v'.ownBlock = some g → D' j g) ∧ ∀ i g, D' i g → D i g ∨ wr.heap.size ≤ g := by
  have hsz := ho.size
  have hs := h.size
  have hB := h.base
  have hoth : ∀ i, i ≠ j → ∀ g, D i g → g ∉ bl v := fun i hij g hd e => hij (h.inj i j g hd (hv g (mem_bl.1 e)))
  refine ⟨fun i g => D i g ∨ (i = j ∧ wr.heap.size ≤ g ∧ v'.ownBlock = some g), ⟨fun i hi => ?_, fun i hi g hg => .inl (h.vd i hi g hg), ?_, ?_, ?_, hB, below_trans h.below (ho.below (by omega) (fun x hx => (h.dlt j x (hv x (mem_bl.1 hx))).1)), fun x hx hn => ?_⟩, fun i g hg => .inl hg, fun g hg => ?_, ?_⟩
  · by_cases e : i = j
    · subst e
      have := h.own i hi
      rw [hC hi] at this ⊢
      exact hkeep _ _ this
    · exact row_only (h.own i hi) ho (fun b hb => hoth i e b (h.vd i hi b hb))
  · rintro i i' g (h1 | h1) (h2 | h2)
    · exact h.inj i i' g h1 h2
    · have := (h.dlt i g h1).2; omega
    · have := (h.dlt i' g h2).2; omega
    · rw [h1.1, h2.1]
  · rintro i g (h1 | h1)
    · have := h.dlt i g h1; omega
    · have := hlt g h1.2.2; omega
  · rintro i g (h1 | h1) hg
    · exact h.old i g h1 hg
    · omega
  · rw [ho.block x (by omega) (fun e => hn j (h.old j x (hv x (mem_bl.1 e)) hx))]; exact h.kept x hx hn
  · rcases hv' with e | ⟨b, e, hb⟩
    · exact .inl (hv g (e ▸ hg))
    · rw [e] at hg
      injection hg with hg
      subst hg
      exact .inr ⟨rfl, hb, e⟩
  · rintro i g (h1 | h1)
    · exact .inl h1
    · exact .inr h1.2.1
end
end Go.Proofs.YtddaoloabfkheaaGreatDoor

namespace Go.Proofs.YtddaoloabfkheaaGreatDoor
open Go.RowKit

def sMark : List UInt8 := [109, 97, 114, 107]
def sSeen : List UInt8 := [115, 101, 101, 110]
def sDep : List UInt8 := [100, 101, 112]
/-- a target's three lists: sources, deps, seers -/
def tv3 (t : Tv) (f : Nat) : Value := if f = 0 then t.s else if f = 1 then t.d else t.e
def kS : Knd := ⟨63, 9, 1, [.string (bs sMark)]⟩
def kE : Knd := ⟨63, 9, 1, [.string (bs sSeen)]⟩
def kD : Knd := ⟨64, 92, 2, [.string (bs sDep), .string (bs [])]⟩
def kT : Knd := ⟨34, 66, 4, [.string (bs sMark), .slice none 0 0, .slice none 0 0, .slice none 0 0]⟩
theorem kS_ok : KOk kS := ⟨by kernel_rfl, ⟨.string ⟨#[]⟩, 16, by kernel_rfl, rfl, by omega⟩, rfl, by decide⟩
theorem kE_ok : KOk kE := ⟨by kernel_rfl, ⟨.string ⟨#[]⟩, 16, by kernel_rfl, rfl, by omega⟩, rfl, by decide⟩
theorem kD_ok : KOk kD := ⟨by kernel_rfl, ⟨.agg #[.string ⟨#[]⟩, .string ⟨#[]⟩], 32, by kernel_rfl, rfl, by omega⟩, rfl, by decide⟩
theorem kT_ok : KOk kT := ⟨by kernel_rfl, ⟨.agg #[.string ⟨#[]⟩, .slice none 0 0, .slice none 0 0, .slice none 0 0], 88, by kernel_rfl, rfl, by omega⟩, rfl, by decide⟩
/-- the kinds: three for each target, then the two rows -/
def kF (n0 : Nat) (j : Nat) : Knd := if j < 6 * n0 then (if j % 3 = 0 then kS else if j % 3 = 1 then kD else kE) else kT
theorem kF_ok (n0 j : Nat) : KOk (kF n0 j) := by
  unfold kF
  split
  · split
    · exact kS_ok
    · split
      · exact kD_ok
      · exact kE_ok
  · exact kT_ok
/-- the lists: A are the targets of both -/
def kV (n0 : Nat) (A : Nat → Tv) (v0 v1 : Value) (j : Nat) : Value := if j < 6 * n0 then tv3 (A (j / 3)) (j % 3) else if j = 6 * n0 then v0 else v1
/-- what stays: where the lists lie, what the table holds -/
structure SC (w : World) (B n0 ga : Nat) (A : Nat → Tv) (v0 v1 : Value) (n : Nat → Nat) (C0 : Nat → List Value) (D0 : Nat → Nat → Prop) : Prop where
  c0 : w.cell? ⟨ga, 0, none⟩ = some v0
  c1 : w.cell? ⟨ga, 1, none⟩ = some v1
  nga : ∀ i, ¬ D0 i ga
  nl : n0 ≤ 64
  nr : n (6 * n0) = n0 ∧ n (6 * n0 + 1) = n0
  ni : ∀ j, j < 6 * n0 → n j ≤ 64 ∧ ∃ a c, kV n0 A v0 v1 j = .slice a (n j) c
  r0 : C0 (6 * n0) = gc ((List.range n0).map A)
  r1 : C0 (6 * n0 + 1) = gc ((List.range n0).map fun i => A (n0 + i))
  len : ∀ j, j < 6 * n0 + 2 → (C0 j).length = n j * (kF n0 j).sz
section
variable {w wr : World} {B n0 ga : Nat} {A : Nat → Tv} {v0 v1 : Value} {n M : Nat → Nat} {C0 : Nat → List Value} {D0 D : Nat → Nat → Prop}
/-- the answer k -/
abbrev vk (v0 v1 : Value) (k : Nat) : Value := if k = 0 then v0 else v1
theorem kV_row {k : Nat} (hk : k < 2) : kV n0 A v0 v1 (6 * n0 + k) = vk v0 v1 k := by
  unfold kV
  rw [if_neg (by omega)]
  rcases (show k = 0 ∨ k = 1 by omega) with rfl | rfl
  · rw [if_pos (by omega)]; rfl
  · rw [if_neg (by omega)]; rfl
theorem SC.all (S : SC w B n0 ga A v0 v1 n C0 D0) (h : QM B w wr (6 * n0 + 2) (kF n0) (kV n0 A v0 v1) n C0 M D0 D) {k : Nat} (hk : k < 2) : wr.cell? ⟨ga, k, none⟩ = some (vk v0 v1 k) := by
  rcases (show k = 0 ∨ k = 1 by omega) with rfl | rfl
  · exact h.cell S.c0 S.nga
  · exact h.cell S.c1 S.nga
theorem SC.nk (S : SC w B n0 ga A v0 v1 n C0 D0) {k : Nat} (hk : k < 2) : n (6 * n0 + k) = n0 := by
  rcases (show k = 0 ∨ k = 1 by omega) with rfl | rfl
  · exact S.nr.1
  · exact S.nr.2
theorem SC.rowv (S : SC w B n0 ga A v0 v1 n C0 D0) (h : QM B w wr (6 * n0 + 2) (kF n0) (kV n0 A v0 v1) n C0 M D0 D) {k : Nat} (hk : k < 2) : ∃ a c, vk v0 v1 k = .slice a n0 c := by
  obtain ⟨a, c, e⟩ := row_form (h.own (6 * n0 + k) (by omega))
  rw [S.nk hk, kV_row hk] at e
  exact ⟨a, c, e⟩
/-- a target's cells, while its row is unmarked -/
theorem SC.row (S : SC w B n0 ga A v0 v1 n C0 D0) (h : QM B w wr (6 * n0 + 2) (kF n0) (kV n0 A v0 v1) n C0 M D0 D) {k i : Nat} (hk : k < 2) (hi : i < n0) (hM : M (6 * n0 + k) = 0) : ∃ g c, vk v0 v1 k = .slice (some ⟨g, 0, none⟩) n0 c ∧
    wr.cell? ⟨g, i * 4 + 1, none⟩ = some (A (k * n0 + i)).s ∧ wr.cell? ⟨g, i * 4 + 2, none⟩ = some (A (k * n0 + i)).d ∧ wr.cell? ⟨g, i * 4 + 3, none⟩ = some (A (k * n0 + i)).e := by
  have ho := h.own (6 * n0 + k) (by omega)
  have hn := S.nk hk
  have hv := kV_row (n0 := n0) (A := A) (v0 := v0) (v1 := v1) hk
  have hF : kF n0 (6 * n0 + k) = kT := by unfold kF; rw [if_neg (by omega)]
  have hC : C0 (6 * n0 + k) = gc ((List.range n0).map fun i => A (k * n0 + i)) := by
    rcases (show k = 0 ∨ k = 1 by omega) with rfl | rfl
    · simpa using S.r0
    · simpa using S.r1
  simp only [hM, pmk_zero, hn, hv, hF, hC] at ho
  obtain ⟨g, c, e, _⟩ := row_place ho (by omega)
  refine ⟨g, c, e, ?_⟩
  obtain ⟨_, t1, t2, t3⟩ := gc_get ((List.range n0).map fun i => A (k * n0 + i)) i (by simpa using hi)
  simp only [List.getElem_map, List.getElem_range] at t1 t2 t3
  rw [e] at ho
  have cell : ∀ y u, (gc ((List.range n0).map fun i => A (k * n0 + i)))[y]? = some u → wr.cell? ⟨g, y, none⟩ = some u := fun y u hu => by
    have := World.ownsRow.cells ho (g := g) rfl y u hu
    rw [add_lit, Nat.zero_add] at this; exact this
  exact ⟨cell _ _ t1, cell _ _ t2, cell _ _ t3⟩
/-- a place of an inner list -/
theorem SC.spot (S : SC w B n0 ga A v0 v1 n C0 D0) (h : QM B w wr (6 * n0 + 2) (kF n0) (kV n0 A v0 v1) n C0 M D0 D) {j x : Nat} (hj : j < 6 * n0 + 2) (hx : x < n j) (hM : M j ≤ n j) : ∃ g c, kV n0 A v0 v1 j = .slice (some ⟨g, 0, none⟩) (n j) c ∧
    ∀ y, y < n j * (kF n0 j).sz → (∃ u, wr.cell? ⟨g, y, none⟩ = some u ∧ (pmk (kF n0 j).c (kF n0 j).sz (M j) (C0 j))[y]? = some u) ∧ wr.frozen? ⟨g, y, none⟩ = false := by
  have ho := h.own j hj
  obtain ⟨g, c, e, _⟩ := row_place ho (by omega)
  refine ⟨g, c, e, fun y hy => ?_⟩
  have hl := pmk_len (kF_ok n0 j).len (S.len j hj) hM
  simp only [e] at ho
  have hu := World.ownsRow.cells ho (g := g) rfl y _ (List.getElem?_eq_getElem (by rw [hl]; exact hy))
  rw [add_lit, Nat.zero_add] at hu
  refine ⟨⟨_, hu, List.getElem?_eq_getElem (by rw [hl]; exact hy)⟩, ?_⟩
  rcases ho.2 with ⟨e2, _⟩ | ⟨g', cap, cur, e2, _, hg, _⟩
  · cases e2
  · obtain ⟨e3, _, _, _⟩ := slice_inj e2
    subst e3
    simp [World.frozen?, hg]
end
/-- how many marks each list has: all before the target b, of it the lists of the parts that are through, x of the part at hand -/
def mm (n : Nat → Nat) (b ph x : Nat) (j : Nat) : Nat :=
  if j < b then n j else if j = b then (if ph = 0 then x else n j) else if j = b + 2 then (if ph = 1 then x else if ph = 2 then n j else 0) else if j = b + 1 then (if ph = 2 then x else 0) else 0
theorem mm_at0 (n : Nat → Nat) (b x : Nat) : mm n b 0 x b = x := by unfold mm; rw [if_neg (by omega), if_pos rfl, if_pos rfl]
theorem mm_at1 (n : Nat → Nat) (b x : Nat) : mm n b 1 x (b + 2) = x := by unfold mm; rw [if_neg (by omega), if_neg (by omega), if_pos rfl, if_pos rfl]
theorem mm_at2 (n : Nat → Nat) (b x : Nat) : mm n b 2 x (b + 1) = x := by unfold mm; rw [if_neg (by omega), if_neg (by omega), if_neg (by omega), if_pos rfl, if_pos rfl]
theorem mm_a (n : Nat → Nat) (b j : Nat) : mm n b 0 (n b) j = mm n b 1 0 j := by unfold mm; split <;> (try rfl); split <;> simp_all
theorem mm_b (n : Nat → Nat) (b j : Nat) : mm n b 1 (n (b + 2)) j = mm n b 2 0 j := by unfold mm; split <;> (try rfl); split <;> simp_all
theorem mm_c (n : Nat → Nat) (b j : Nat) : mm n b 2 (n (b + 1)) j = mm n (b + 3) 0 0 j := by
  unfold mm
  by_cases h1 : j < b
  · rw [if_pos h1, if_pos (by omega)]
  · rw [if_neg h1]
    by_cases h2 : j = b
    · subst h2; simp
    · rw [if_neg h2]
      by_cases h3 : j = b + 2
      · subst h3; simp
      · rw [if_neg h3]
        by_cases h4 : j = b + 1
        · subst h4; simp
        · rw [if_neg h4, if_neg (by omega)]
          split
          · simp
          · split
            · simp
            · split <;> simp
end Go.Proofs.YtddaoloabfkheaaGreatDoor
