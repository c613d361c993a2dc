/-
  Marks: four lists, each in memory of its own, marked and grown.
-/
import Derived.Test.YtkopjamednedfaaGreatJKn3
import Derived.Test.YtkopjamednedfaaGreatRef
import Derived.Test.YtkopjamednedfaaGreatJCn
import Derived.Test.YtkopjamednedfaaGreatQm
import Derived.Laws.BytesArg
import Derived.Laws.Tables
import Derived.Deep.AppendSrc
import Derived.Deep.RegionLaw
namespace Go.Proofs.YtkopjamednedfaaGreat
open Go.RowKit

/-- the mark of a list -/
def mkS (k : Nat) : List UInt8 := [109, 97, 114, 107, 32, UInt8.ofNat (48 + k), 48]

theorem und42 : Tryz.prog.underlying 42 = some (.slice 5) := by kernel_rfl
theorem und5m : Tryz.prog.underlying 5 = some (.int .u8) := by kernel_rfl
theorem conv2 (w : World) (x y : UInt8) : (convert 42 9 (.slice (some ⟨w.heap.size, 0, none⟩) 2 2)).run Tryz.prog (w.alloc (.cells #[.int .u8 x.toNat, .int .u8 y.toNat] 5)) = .ok (.string ⟨#[x, y]⟩) (w.alloc (.cells #[.int .u8 x.toNat, .int .u8 y.toNat] 5)) := by
  have e : strOfNums ([x, y].map fun b => (b.toNat : Int)) = ⟨#[x, y]⟩ := by
    unfold strOfNums
    congr 1
    simp
  rw [← e]
  refine run_convert_bytes_arg (P := Tryz.prog) _ 42 5 und42 und5m w.heap.size 0 2 2 ([x, y].map fun b => (b.toNat : Int)) (by simp) (fun i hi => ?_) 9 und9
  rcases i with _ | _ | i
  · simp
  · simp
  · omega

set_option maxHeartbeats 1000000 in
set_option maxRecDepth 100000 in
theorem mark_any (k : Nat) (w : World) (hk : k < 4) :
    Calls Tryz.prog 31 #[.int .i64 k] w fun e w' => e = .returned (.string (bs (mkS k))) ∧ Below w.heap.size w w' := by
  have h0 : k = 0 ∨ k = 1 ∨ k = 2 ∨ k = 3 := by omega
  rcases h0 with rfl | rfl | rfl | rfl
  · have hc : (convert 42 9 (.slice (some ⟨w.heap.size, 0, none⟩) 2 2)).run Tryz.prog (w.alloc (.cells #[.int .u8 48, .int .u8 48] 5)) = .ok (.string ⟨#[48, 48]⟩) (w.alloc (.cells #[.int .u8 48, .int .u8 48] 5)) := conv2 w 48 48
    go_enter Tryz.func31, Tryz.ntmps31
    go_wp2_with fail
    go_ret
    exact ⟨rfl, balloc _ _⟩
  · have hc : (convert 42 9 (.slice (some ⟨w.heap.size, 0, none⟩) 2 2)).run Tryz.prog (w.alloc (.cells #[.int .u8 49, .int .u8 48] 5)) = .ok (.string ⟨#[49, 48]⟩) (w.alloc (.cells #[.int .u8 49, .int .u8 48] 5)) := conv2 w 49 48
    go_enter Tryz.func31, Tryz.ntmps31
    go_wp2_with fail
    go_ret
    exact ⟨rfl, balloc _ _⟩
  · have hc : (convert 42 9 (.slice (some ⟨w.heap.size, 0, none⟩) 2 2)).run Tryz.prog (w.alloc (.cells #[.int .u8 50, .int .u8 48] 5)) = .ok (.string ⟨#[50, 48]⟩) (w.alloc (.cells #[.int .u8 50, .int .u8 48] 5)) := conv2 w 50 48
    go_enter Tryz.func31, Tryz.ntmps31
    go_wp2_with fail
    go_ret
    exact ⟨rfl, balloc _ _⟩
  · have hc : (convert 42 9 (.slice (some ⟨w.heap.size, 0, none⟩) 2 2)).run Tryz.prog (w.alloc (.cells #[.int .u8 51, .int .u8 48] 5)) = .ok (.string ⟨#[51, 48]⟩) (w.alloc (.cells #[.int .u8 51, .int .u8 48] 5)) := conv2 w 51 48
    go_enter Tryz.func31, Tryz.ntmps31
    go_wp2_with fail
    go_ret
    exact ⟨rfl, balloc _ _⟩
theorem mark_grow (k : Nat) (hk : k < 4) {w : World} (X : GW w) : Calls Tryz.prog 31 #[.int .i64 k] X.it fun e w' => e = .returned (.string (bs (mkS k))) ∧ ∃ Y : GW w, w' = Y.it :=
  gw_of (fun W => mark_any k W hk) X

/-- the block of a value, as a list -/
def bl (v : Value) : List Nat := v.ownBlock.toList
theorem mem_bl {v : Value} {g : Nat} : g ∈ bl v ↔ v.ownBlock = some g := by
  unfold bl
  cases v.ownBlock with
  | none => simp
  | some k => simp [eq_comm]
theorem only_grownS {w w' : World} {row : Option Nat} (h : w.grownBy w' row) : Only row.toList w w' :=
  ⟨h.os, h.tape, h.output, h.size, fun k hk hn => h.block k hk (by
    intro e
    apply hn
    rw [← e]; simp)⟩
theorem sc_rep (n : Nat) (p : List UInt8) : sc (List.replicate n p) = List.replicate n (.string (bs p)) := by simp [sc]
theorem take_rep {cur : List Value} {m : Nat} {s : Value} : cur.take m = List.replicate m s ↔ ∀ j, j < m → cur[j]? = some s := by
  constructor
  · intro h j hj
    have h2 : (cur.take m)[j]? = (List.replicate m s)[j]? := by rw [h]
    rw [List.getElem?_take, if_pos hj, List.getElem?_replicate, if_pos hj] at h2
    exact h2
  · intro h
    apply List.ext_getElem?
    intro j
    rw [List.getElem?_take, List.getElem?_replicate]
    by_cases hj : j < m
    · rw [if_pos hj, if_pos hj]; exact h j hj
    · rw [if_neg hj, if_neg hj]
theorem sc_set (l : List (List UInt8)) (i : Nat) (p : List UInt8) : sc (l.set i p) = (sc l).set i (.string (bs p)) := by simp [sc]
theorem own_setS {base : Nat} {w : World} {g n cap : Nat} {l : List (List UInt8)} (h : Own base w (.slice (some ⟨g, 0, none⟩) n cap) l) (i : Nat) (p : List UInt8) :
    Own base (w.setCell ⟨g, i, none⟩ (.string (bs p))) (.slice (some ⟨g, 0, none⟩) n cap) (l.set i p) := by
  rcases h.2 with ⟨e, _⟩ | ⟨g', cap', cur, e, hbg, hg, hn, hcm, hcs, htake⟩
  · cases e
  · injection e with e1 e2 e3
    injection e1 with e1
    injection e1 with e1 _ _
    subst e1
    subst e3
    refine ⟨by rw [sc_length, List.length_set]; simp, .inr ⟨g, cap, _, by rw [List.length_set, e2], hbg, heap_setCell w g _ _ hg, by rw [List.length_set]; exact hn, hcm, by simpa using hcs, ?_⟩⟩
    rw [List.length_set, sc_set]
    have h2 : cur.toList.take (l.length * 1) = sc l := htake
    rw [← h2]
    simp only [Array.toList_setIfInBounds, List.take_set]
theorem own_cellS {base : Nat} {w : World} {g n cap : Nat} {l : List (List UInt8)} (h : Own base w (.slice (some ⟨g, 0, none⟩) n cap) l) (i : Nat) (hi : i < l.length) :
    w.cell? ⟨g, i, none⟩ = some (.string (bs l[i])) ∧ w.frozen? ⟨g, i, none⟩ = false ∧ base ≤ g ∧ g < w.heap.size := by
  have hlt := h.lt (k := g) rfl
  have hc := World.ownsRow.cells h (g := g) rfl i (.string (bs l[i])) (by rw [sc_get]; simp [hi])
  rw [add_lit, Nat.zero_add] at hc
  refine ⟨hc, ?_, hlt⟩
  rcases h.2 with ⟨e, _⟩ | ⟨g', cap', cur, e, hbg, hg, _⟩
  · cases e
  · injection e with e1 e2 e3
    injection e1 with e1
    injection e1 with e1 _ _
    subst e1
    simp [World.frozen?, hg]
theorem own_formS {base : Nat} {w : World} {v : Value} {l : List (List UInt8)} (h : Own base w v l) : (v = .slice none 0 0 ∧ l = []) ∨ ∃ g c, v = .slice (some ⟨g, 0, none⟩) l.length c ∧ l.length ≤ c ∧ base ≤ g ∧ g < w.heap.size := by
  rcases h.2 with ⟨rfl, h0⟩ | ⟨g, cap, cur, rfl, hb, hg, hn, _⟩
  · exact .inl ⟨rfl, List.eq_nil_of_length_eq_zero h0⟩
  · exact .inr ⟨g, cap, rfl, hn, hb, (Array.getElem?_eq_some_iff.1 hg).1⟩
theorem below_drew_allocS (w : World) (o : Obj) : Below w.heap.size w (w.drew.alloc o) := (Below.refl _ _).drew.alloc (Nat.le_refl _) o

/-- texts all alike, more of them appended: what is alike stays so -/
theorem run_append_p {w : World} {base : Nat} {v : Value} {n : Nat} {p : List UInt8} (k : List (List UInt8)) (x : Value) (ty : TypeId) (hown : Own base w v (List.replicate n p)) (hk : k = List.replicate k.length p)
    (hsrc : Src Tryz.prog 1 22 x k.length (sc k) w) (hb : n + k.length ≤ 8796093022208) (hbase : base ≤ w.heap.size) :
    ∃ a c w', (Builtin.append_ #[22, 22] ty #[v, x]).run Tryz.prog w = .ok (.slice a (n + k.length) c) w' ∧ Own base w' (.slice a (n + k.length) c) (List.replicate (n + k.length) p) ∧ Only (bl v) w w' ∧
      ((Value.slice a (n + k.length) c).ownBlock = v.ownBlock ∨ ∃ b, (Value.slice a (n + k.length) c).ownBlock = some b ∧ w.heap.size ≤ b) ∧ ∀ b' u m, Own b' w u (List.replicate m p) → Own b' w' u (List.replicate m p) := by
  obtain ⟨i, hi, hz0, hzs, hz2⟩ := info_parts info9
  have hown1 : w.ownsRow base 9 1 v n (sc (List.replicate n p)) := by
    have h := hown
    unfold Own at h
    rw [List.length_replicate] at h
    exact h
  obtain ⟨v2, w2, hr2, h2, hgr, hwh⟩ := run_append_src (P := Tryz.prog) w base 22 22 ty 9 i (.string ByteArray.empty) 1 16 und70 hi hz0 hzs hz2 rfl v n (sc (List.replicate n p)) hown1 x k.length (sc k) hsrc (by simp only [maxLen]; omega) (by omega) hbase
  have hO2 : Own base w2 v2 (List.replicate (n + k.length) p) := by
    have e : List.replicate (n + k.length) p = List.replicate n p ++ k := by
      conv => rhs; rw [hk]
      simp
    rw [e]
    unfold Own
    rw [sc_append, List.length_append, List.length_replicate]; exact h2
  have hkeep : ∀ b' u m, Own b' w u (List.replicate m p) → Own b' w2 u (List.replicate m p) := by
    intro b' u m hu
    rcases hown1.2 with ⟨rfl, h0⟩ | ⟨g, cap, cur, rfl, hbg, hg, hnc, hcm, hcs, htake⟩
    · exact hu.only (only_grownS hgr) (by simp [Value.ownBlock])
    · by_cases hroom : n + k.length ≤ cap
      · have hfit : n * i.size + (sc k).length ≤ cur.size := by rw [hzs, sc_length, hcs]; omega
        have hst := run_storeCells_at Tryz.prog g (n * i.size) 9 (sc k) 0 cur w hg (by simpa using hfit) hsrc.one
        simp only [Nat.add_zero] at hst
        have hr : (Builtin.append_ #[22, 22] ty #[.slice (some ⟨g, 0, none⟩) n cap, x]).run Tryz.prog w =
            .ok (.slice (some ⟨g, 0, none⟩) (n + k.length) cap) (w.setRow g (cur.toList.take (n * i.size) ++ sc k ++ cur.toList.drop (n * i.size + (sc k).length)).toArray) := by
          have hs2 := hsrc
          rw [← hzs] at hs2
          simp [Builtin.append_, run_underlying und70, sizeOf, typeInfo, hi, hs2.len, hroom, hs2.cells, Addr.add_lit, hst]
        rw [hr2] at hr
        injection hr with e1 e2
        rcases hu.2 with ⟨rfl, h0⟩ | ⟨g', cap', cur', rfl, hbg', hg', hnc', hcm', hcs', htake'⟩
        · exact ⟨hu.1, .inl ⟨rfl, h0⟩⟩
        · by_cases hgg : g' = g
          · subst hgg
            rw [hg] at hg'
            injection hg' with hg'
            injection hg' with hc1 _ _
            subst hc1
            refine ⟨hu.1, .inr ⟨g', cap', _, rfl, hbg', by rw [e2]; exact setRow_heap w g' cur _ 9 _ hg, hnc', hcm', ?_, ?_⟩⟩
            · simp only [List.size_toArray, List.length_append, List.length_take, List.length_drop, Array.length_toList]
              omega
            · rw [hzs] at hfit
              rw [hzs, List.length_replicate, Nat.mul_one, sc_rep]
              rw [List.length_replicate, Nat.mul_one, sc_rep, take_rep] at htake'
              rw [Nat.mul_one, sc_rep, take_rep] at htake
              have hkk : ∀ j, j < k.length → (sc k)[j]? = some (.string (bs p)) := fun j hj => by
                rw [hk, sc_rep, List.getElem?_replicate, if_pos hj]
              rw [take_rep]
              intro j hj
              have hl : (cur.toList.take (n * 1)).length = n := by
                rw [List.length_take, Array.length_toList, hcs]; omega
              simp only [sc_length] at hfit
              by_cases h1 : j < n
              · rw [List.append_assoc, List.getElem?_append_left (by omega), List.getElem?_take, if_pos (by omega)]
                exact htake j h1
              · by_cases h2 : j < n + k.length
                · rw [List.append_assoc, List.getElem?_append_right (by omega), List.getElem?_append_left (by rw [sc_length]; omega), hl]
                  exact hkk _ (by omega)
                · rw [List.getElem?_append_right (by rw [List.length_append, hl, sc_length]; omega), List.length_append, hl, sc_length, List.getElem?_drop]
                  have e5 : n * 1 + k.length + (j - (n + k.length)) = j := by omega
                  rw [e5]
                  exact htake' j hj
          · refine hu.only (only_grownS hgr) (fun b hb => ?_)
            injection hb with hb
            subst hb
            simpa [Value.ownBlock] using hgg
      · have holds : ∀ j u, (sc (List.replicate n p))[j]? = some u → w.cell? ((⟨g, 0, none⟩ : Addr).add j) = some u := hown1.cells (g := g) rfl
        have hr := run_append_grow_src (P := Tryz.prog) w 22 22 ty 9 i _ und70 hi hz0 (some ⟨g, 0, none⟩) n cap (sc (List.replicate n p)) (run_firstCells_some w.drew i.size n _ n cap _ (by rw [sc_length, List.length_replicate, hzs]; simp) (by simpa using holds)) x k.length (sc k) (by rw [hzs]; exact hsrc) (by omega) (by omega) (growslice_fits (by omega) (by rw [hz2]; omega))
        rw [hr2] at hr
        injection hr with e1 e2
        exact hu.later (by rw [e2]; exact below_drew_allocS w _)
  obtain ⟨a, c, e3⟩ := hO2.len
  rw [List.length_replicate] at e3
  subst e3
  refine ⟨a, c, w2, hr2, hO2, only_grownS hgr, ?_, hkeep⟩
  rcases hwh with h | h
  · exact .inl h
  · exact .inr ⟨_, h, Nat.le_refl _⟩

/-- what is appended eight times -/
theorem src_eight (w : World) (p : List UInt8) : Src Tryz.prog 1 22 (.slice (some ⟨w.heap.size, 0, none⟩) 8 8) (List.replicate 8 p).length (sc (List.replicate 8 p)) (w.alloc (.cells #[.string (bs p), .string (bs p), .string (bs p), .string (bs p), .string (bs p), .string (bs p), .string (bs p), .string (bs p)] 9)) := by
  refine Src.ofSlice _ und70 ⟨w.heap.size, 0, none⟩ 8 8 (sc (List.replicate 8 p)) (by simp [sc]) ?_ (sc_one _)
  intro j u hu
  rw [sc_get] at hu
  rw [add_lit]
  rcases j with _ | _ | _ | _ | _ | _ | _ | _ | j
  all_goals first | (simp at hu; subst hu; simp) | (simp at hu)

/-- four lists in block ga, each in memory of its own: D i are the blocks of list i -/
structure Q5 (B : Nat) (w wr : World) (ga : Nat) (V : Nat → Value) (L : Nat → List (List UInt8)) (D : Nat → Nat → Prop) : Prop where
  cell : ∀ i, i < 4 → wr.cell? ⟨ga, i, none⟩ = some (V i)
  own : ∀ i, i < 4 → Own B wr (V i) (L i)
  vd : ∀ i, i < 4 → ∀ g, (V i).ownBlock = some g → D i g
  inj : ∀ i j g, D i g → D j g → i = j
  dlt : ∀ i g, D i g → B ≤ g ∧ g < wr.heap.size ∧ g ≠ ga
  galt : ga < wr.heap.size
  base : B ≤ wr.heap.size
  below : Below B w wr
theorem Q5.later {B : Nat} {w wr w' : World} {ga : Nat} {V : Nat → Value} {L : Nat → List (List UInt8)} {D : Nat → Nat → Prop} (h : Q5 B w wr ga V L D) (hb : Below wr.heap.size wr w') : Q5 B w w' ga V L D :=
  ⟨fun i hi => by rw [hb.cell (p := ⟨ga, i, none⟩) h.galt]; exact h.cell i hi, fun i hi => (h.own i hi).later hb, h.vd, h.inj, fun i g hg => by have := h.dlt i g hg; have := hb.size; omega, by have := h.galt; have := hb.size; omega, by have := h.base; have := hb.size; omega, below_trans h.below (below_mono hb h.base)⟩
theorem Q5.put {B : Nat} {w wr : World} {ga : Nat} {V : Nat → Value} {L : Nat → List (List UInt8)} {D : Nat → Nat → Prop} (h : Q5 B w wr ga V L D) {k g n c : Nat} (hk : k < 4) (hv : V k = .slice (some ⟨g, 0, none⟩) n c) (m : Nat) (p : List UInt8) :
    Q5 B w (wr.setCell ⟨g, m, none⟩ (.string (bs p))) ga V (fun i => if i = k then (L k).set m p else L i) D := by
  have hd := h.vd k hk g (by rw [hv]; rfl)
  have hdl := h.dlt k g hd
  have ho := Only.set wr g m (.string (bs p))
  refine ⟨fun i hi => ?_, fun i hi => ?_, h.vd, h.inj, fun i g' hg' => by have := h.dlt i g' hg'; simpa using this, by simpa using h.galt, by simpa using h.base, below_trans h.below (ho.below h.base (fun x hx => by simp at hx; subst hx; exact hdl.1))⟩
  · rw [World.cell?_of_block (w := wr) (ho.block ga h.galt (by simpa using fun e => hdl.2.2 e.symm))]; exact h.cell i hi
  · show Own B _ (V i) (if i = k then (L k).set m p else L i)
    by_cases e : i = k
    · subst e
      rw [if_pos rfl]
      have h1 := h.own i hi
      rw [hv] at h1 ⊢
      exact own_setS h1 m p
    · rw [if_neg e]
      refine (h.own i hi).only ho (fun b hb => ?_)
      simp only [List.mem_singleton]
      rintro rfl
      exact e (h.inj i k b (h.vd i hi b hb) hd)

/-- and the longer ones in block gl -/
structure M5 (B : Nat) (w wr : World) (ga gl : Nat) (V : Nat → Value) (n : Nat → Nat) (k : Nat) (U : Nat → Value) (m : Nat → Nat) (D : Nat → Nat → Prop) : Prop where
  q : Q5 B w wr ga V (fun i => List.replicate (n i) (mkS i)) D
  slot : ∀ i, i < 4 → (∃ v, wr.cell? ⟨gl, i, none⟩ = some v) ∧ wr.frozen? ⟨gl, i, none⟩ = false
  gllt : B ≤ gl ∧ gl < wr.heap.size
  ne : ga ≠ gl
  dgl : ∀ i g, D i g → g ≠ gl
  cell : ∀ i, i < k → wr.cell? ⟨gl, i, none⟩ = some (U i)
  own : ∀ i, i < k → Own B wr (U i) (List.replicate (m i) (mkS i))
  ud : ∀ i, i < k → ∀ g, (U i).ownBlock = some g → D i g
theorem M5.later {B : Nat} {w wr w' : World} {ga gl : Nat} {V : Nat → Value} {n : Nat → Nat} {k : Nat} {U : Nat → Value} {m : Nat → Nat} {D : Nat → Nat → Prop} (h : M5 B w wr ga gl V n k U m D) (hb : Below wr.heap.size wr w') : M5 B w w' ga gl V n k U m D :=
  ⟨h.q.later hb, fun i hi => by
    have hbl := hb.block gl h.gllt.2
    rw [World.cell?_of_block (w := wr) hbl, World.frozen?_of_block (w := wr) hbl]; exact h.slot i hi, ⟨h.gllt.1, Nat.lt_of_lt_of_le h.gllt.2 hb.size⟩, h.ne, h.dgl, fun i hi => by rw [hb.cell (p := ⟨gl, i, none⟩) h.gllt.2]; exact h.cell i hi, fun i hi => (h.own i hi).later hb, h.ud⟩
/-- long[k] is list k -/
theorem M5.start {B : Nat} {w wr : World} {ga gl : Nat} {V : Nat → Value} {n : Nat → Nat} {k : Nat} {U : Nat → Value} {m : Nat → Nat} {D : Nat → Nat → Prop} (h : M5 B w wr ga gl V n k U m D) (hk : k < 4) :
    M5 B w (wr.setCell ⟨gl, k, none⟩ (V k)) ga gl V n (k + 1) (fun i => if i = k then V k else U i) (fun i => if i = k then n k else m i) D := by
  have ho := Only.set wr gl k (V k)
  have hq := h.q
  have hnd : ∀ i g, D i g → g ∉ [gl] := fun i g hd => by simpa using h.dgl i g hd
  refine ⟨⟨fun i hi => ?_, fun i hi => (hq.own i hi).only ho (fun b hb => hnd i b (hq.vd i hi b hb)), hq.vd, hq.inj, fun i g hg => by simpa using hq.dlt i g hg, by simpa using hq.galt, by simpa using hq.base, below_trans hq.below (ho.below hq.base (fun x hx => by simp at hx; subst hx; exact h.gllt.1))⟩, fun i hi => ?_, by simpa using h.gllt, h.ne, h.dgl, fun i hi => ?_, fun i hi => ?_, fun i hi g hg => ?_⟩
  · rw [World.cell?_of_block (w := wr) (ho.block ga hq.galt (by simpa using h.ne))]; exact hq.cell i hi
  · refine ⟨?_, by rw [World.frozen?_setCell]; exact (h.slot i hi).2⟩
    by_cases e : i = k
    · subst e; obtain ⟨u, hu⟩ := (h.slot i hi).1; exact ⟨_, World.cell?_setCell_same _ _ _ hu⟩
    · obtain ⟨u, hu⟩ := (h.slot i hi).1
      exact ⟨u, by rw [World.cell?_setCell_other _ _ _ _ (by intro h; cases h; exact e rfl)]; exact hu⟩
  · show _ = some (if i = k then V k else U i)
    by_cases e : i = k
    · subst e; rw [if_pos rfl]; obtain ⟨u, hu⟩ := (h.slot i hk).1; exact World.cell?_setCell_same _ _ _ hu
    · rw [if_neg e, World.cell?_setCell_other _ _ _ _ (by intro h; cases h; exact e rfl)]; exact h.cell i (by omega)
  · show Own B _ (if i = k then V k else U i) (List.replicate (if i = k then n k else m i) (mkS i))
    by_cases e : i = k
    · subst e; rw [if_pos rfl, if_pos rfl]; exact (hq.own i hk).only ho (fun b hb => hnd i b (hq.vd i hk b hb))
    · rw [if_neg e, if_neg e]; exact (h.own i (by omega)).only ho (fun b hb => hnd i b (h.ud i (by omega) b hb))
  · have hg2 : (if i = k then V k else U i).ownBlock = some g := hg
    by_cases e : i = k
    · subst e; rw [if_pos rfl] at hg2; exact hq.vd i hk g hg2
    · rw [if_neg e] at hg2; exact h.ud i (by omega) g hg2
/-- an append to one of them, or to a list itself: all stay -/
theorem M5.grow {B : Nat} {w wr w2 : World} {ga gl : Nat} {V : Nat → Value} {n : Nat → Nat} {k : Nat} {U : Nat → Value} {m : Nat → Nat} {D : Nat → Nat → Prop} (h : M5 B w wr ga gl V n k U m D) {j : Nat} {v : Value} (hv : ∀ g, v.ownBlock = some g → D j g)
    (ho : Only (bl v) wr w2) (hkeep : ∀ u x, Own B wr u (List.replicate x (mkS j)) → Own B w2 u (List.replicate x (mkS j))) : M5 B w w2 ga gl V n k U m D := by
  have hq := h.q
  have hga : ga ∉ bl v := fun e => (hq.dlt j ga (hv ga (mem_bl.1 e))).2.2 rfl
  have hgl : gl ∉ bl v := fun e => h.dgl j gl (hv gl (mem_bl.1 e)) rfl
  have hsz := ho.size
  have hoth : ∀ i, i ≠ j → ∀ g, D i g → g ∉ bl v := fun i hij g hd e => hij (hq.inj i j g hd (hv g (mem_bl.1 e)))
  refine ⟨⟨fun i hi => ?_, fun i hi => ?_, hq.vd, hq.inj, fun i g hg => by have := hq.dlt i g hg; omega, by have := hq.galt; omega, by have := hq.base; omega, below_trans hq.below (ho.below hq.base (fun x hx => (hq.dlt j x (hv x (mem_bl.1 hx))).1))⟩, fun i hi => ?_, ⟨h.gllt.1, by have := h.gllt.2; omega⟩, h.ne, h.dgl, fun i hi => ?_, fun i hi => ?_, h.ud⟩
  · rw [World.cell?_of_block (w := wr) (ho.block ga hq.galt hga)]; exact hq.cell i hi
  · by_cases e : i = j
    · subst e; exact hkeep _ _ (hq.own i hi)
    · exact (hq.own i hi).only ho (fun b hb => hoth i e b (hq.vd i hi b hb))
  · have hbl := ho.block gl h.gllt.2 hgl
    rw [World.cell?_of_block (w := wr) hbl, World.frozen?_of_block (w := wr) hbl]; exact h.slot i hi
  · rw [World.cell?_of_block (w := wr) (ho.block gl h.gllt.2 hgl)]; exact h.cell i hi
  · by_cases e : i = j
    · subst e; exact hkeep _ _ (h.own i hi)
    · exact (h.own i hi).only ho (fun b hb => hoth i e b (h.ud i hi b hb))
/-- and the longer one is laid down -/
theorem M5.lay {B : Nat} {w wr wa : World} {ga gl : Nat} {V : Nat → Value} {n : Nat → Nat} {k : Nat} {U : Nat → Value} {m : Nat → Nat} {D : Nat → Nat → Prop} (h : M5 B w wr ga gl V n (k + 1) U m D) (hk : k < 4) {v : Value} {x : Nat}
    (ho : Own B wr v (List.replicate x (mkS k))) (hw : v.ownBlock = (U k).ownBlock ∨ ∃ b, v.ownBlock = some b ∧ wa.heap.size ≤ b) (hlt : ∀ i g, D i g → g < wa.heap.size) (hlg : ga < wa.heap.size ∧ gl < wa.heap.size) :
    M5 B w (wr.setCell ⟨gl, k, none⟩ v) ga gl V n (k + 1) (fun i => if i = k then v else U i) (fun i => if i = k then x else m i) (fun i g => D i g ∨ (i = k ∧ v.ownBlock = some g)) := by
  have hs := Only.set wr gl k v
  have hq := h.q
  have hvv : ∀ g, v.ownBlock = some g → D k g ∨ wa.heap.size ≤ g := fun g hg => by
    rcases hw with e | ⟨b, e, hb⟩
    · exact .inl (h.ud k (by omega) g (by rw [← e]; exact hg))
    · rw [e] at hg; injection hg with hg; subst hg; exact .inr hb
  have hvg : ∀ g, v.ownBlock = some g → g ≠ gl ∧ g ≠ ga := fun g hg => by
    rcases hvv g hg with e | e
    · exact ⟨h.dgl k g e, (hq.dlt k g e).2.2⟩
    · omega
  have hvl : ∀ g, v.ownBlock = some g → B ≤ g ∧ g < wr.heap.size := fun g hg => ho.lt hg
  have hnd : ∀ i g, D i g → g ∉ [gl] := fun i g hd => by simpa using h.dgl i g hd
  refine ⟨⟨fun i hi => ?_, fun i hi => (hq.own i hi).only hs (fun b hb => hnd i b (hq.vd i hi b hb)), fun i hi g hg => .inl (hq.vd i hi g hg), fun i j g hi hj => ?_, fun i g hg => ?_, by simpa using hq.galt, by simpa using hq.base, below_trans hq.below (hs.below hq.base (fun x hx => by simp at hx; subst hx; exact h.gllt.1))⟩, fun i hi => ?_, by simpa using h.gllt, h.ne, fun i g hg => ?_, fun i hi => ?_, fun i hi => ?_, fun i hi g hg => ?_⟩
  · rw [World.cell?_of_block (w := wr) (hs.block ga hq.galt (by simpa using h.ne))]; exact hq.cell i hi
  · rcases hi with hi | ⟨rfl, hi⟩ <;> rcases hj with hj | ⟨rfl, hj⟩
    · exact hq.inj i j g hi hj
    · rcases hvv g hj with e | e
      · exact hq.inj i j g hi e
      · have := hlt i g hi; omega
    · rcases hvv g hi with e | e
      · exact hq.inj i j g e hj
      · have := hlt j g hj; omega
    · rfl
  · rcases hg with hg | ⟨rfl, hg⟩
    · simpa using hq.dlt i g hg
    · have h1 := hvl g hg
      have h2 := hvg g hg
      simpa using ⟨h1.1, h1.2, h2.2⟩
  · refine ⟨?_, by rw [World.frozen?_setCell]; exact (h.slot i hi).2⟩
    by_cases e : i = k
    · subst e; obtain ⟨u, hu⟩ := (h.slot i hi).1; exact ⟨_, World.cell?_setCell_same _ _ _ hu⟩
    · obtain ⟨u, hu⟩ := (h.slot i hi).1
      exact ⟨u, by rw [World.cell?_setCell_other _ _ _ _ (by intro h; cases h; exact e rfl)]; exact hu⟩
  · rcases hg with hg | ⟨rfl, hg⟩
    · exact h.dgl i g hg
    · exact (hvg g hg).1
  · show _ = some (if i = k then v else U i)
    by_cases e : i = k
    · subst e; rw [if_pos rfl]; obtain ⟨u, hu⟩ := (h.slot i hk).1; exact World.cell?_setCell_same _ _ _ hu
    · rw [if_neg e, World.cell?_setCell_other _ _ _ _ (by intro h; cases h; exact e rfl)]; exact h.cell i hi
  · show Own B _ (if i = k then v else U i) (List.replicate (if i = k then x else m i) (mkS i))
    by_cases e : i = k
    · subst e; rw [if_pos rfl, if_pos rfl]; exact ho.only hs (fun b hb => by simpa using (hvg b hb).1)
    · rw [if_neg e, if_neg e]; exact (h.own i hi).only hs (fun b hb => hnd i b (h.ud i hi b hb))
  · have hg2 : (if i = k then v else U i).ownBlock = some g := hg
    by_cases e : i = k
    · subst e; rw [if_pos rfl] at hg2; exact .inr ⟨rfl, hg2⟩
    · rw [if_neg e] at hg2; exact .inl (h.ud i hi g hg2)
/-- the call of 'mark', as one operation of a region that draws -/
theorem step_mark {ops : Array Oper} {o : Oper} {a : Act} {w : World} {K : Act → World → Prop} {Q : Exit → Act → World → Prop} {E : Prop} (hgd : o.guard = none) (arg : Operand)
    (ho : o.op = .call { callee := .value (.func 31), args := #[arg], argTypes := #[3] }) (k : Nat) (hk : k < 4) (hv : a.eval arg = .int .i64 k)
    (h : ∀ w', Below w.heap.size w w' → K (a.put o.dst (.string (bs (mkS k)))) w') :
    if Region.wanted o (yielded ops a.tmps) = true then Oper.wp Tryz.prog o a w K Q else E := by
  have hw : Region.wanted o (yielded ops a.tmps) = true := by simp [Region.wanted, hgd]
  rw [if_pos hw]
  have hr : (execOp a.eval o).run Tryz.prog w = .ok (.enter 31 #[.int .i64 k]) w := by
    simp [execOp, ho, resolve, invoke, go_sem]
    cases arg with
    | tmp t => simpa [Act.eval] using hv
    | const v => exact hv
    | global g => exact hv
    | func f => exact hv
  unfold Oper.wp
  rw [hr]
  refine (mark_any k w hk).mono ?_
  rintro e w' ⟨rfl, hb⟩
  exact h w' hb
/-- an append of texts all alike, as one operation of a region that draws -/
theorem step_append_p {ops : Array Oper} {o : Oper} {a : Act} {w : World} {K : Act → World → Prop} {Q : Exit → Act → World → Prop} {E : Prop} (hgd : o.guard = none) (s y : Operand)
    (ho : o.op = .call { callee := .builtin .append, args := #[s, y], argTypes := #[22, 22] }) (base n : Nat) (p : List UInt8) (k : List (List UInt8)) (v x : Value) (hv : a.eval s = v) (hx : a.eval y = x)
    (hown : Own base w v (List.replicate n p)) (hk : k = List.replicate k.length p) (hs : Src Tryz.prog 1 22 x k.length (sc k) w) (hb : n + k.length ≤ 8796093022208) (hbase : base ≤ w.heap.size)
    (h : ∀ A C w', Own base w' (.slice A (n + k.length) C) (List.replicate (n + k.length) p) → Only (bl v) w w' → ((Value.slice A (n + k.length) C).ownBlock = v.ownBlock ∨ ∃ b, (Value.slice A (n + k.length) C).ownBlock = some b ∧ w.heap.size ≤ b) →
      (∀ u m, Own base w u (List.replicate m p) → Own base w' u (List.replicate m p)) → K (a.put o.dst (.slice A (n + k.length) C)) w') :
    if Region.wanted o (yielded ops a.tmps) = true then Oper.wp Tryz.prog o a w K Q else E := by
  have hw : Region.wanted o (yielded ops a.tmps) = true := by simp [Region.wanted, hgd]
  rw [if_pos hw]
  obtain ⟨A, C, w', hr, h1, h2, h3, h4⟩ := run_append_p k x o.type hown hk hs hb hbase
  unfold Oper.wp execOp
  simp only [ho, resolve, invoke, builtin, Sem.run_bind, Sem.run_pure, Result.andThen_ok, List.map_toArray, List.map_cons, List.map_nil, hv, hx, hr]
  exact h A C w' h1 h2 h3 (fun u m hu => h4 base u m hu)
theorem list_rep {α : Type} {l : List α} {n : Nat} {p : α} (hl : l.length = n) (h : ∀ j, j < n → l[j]? = some p) : l = List.replicate n p := by
  apply List.ext_getElem?
  intro j
  rw [List.getElem?_replicate]
  by_cases hj : j < n
  · rw [if_pos hj]; exact h j hj
  · rw [if_neg hj]; exact List.getElem?_eq_none (by omega)
theorem Q5.congr {B : Nat} {w wr : World} {ga : Nat} {V : Nat → Value} {L L' : Nat → List (List UInt8)} {D : Nat → Nat → Prop} (h : Q5 B w wr ga V L D) (e : ∀ i, i < 4 → L i = L' i) : Q5 B w wr ga V L' D :=
  ⟨h.cell, fun i hi => by rw [← e i hi]; exact h.own i hi, h.vd, h.inj, h.dlt, h.galt, h.base, h.below⟩
/-- a region of the text -/
def findReg (n : Nat) : Code → Option Code
  | .region m a b => if m == n then some (.region m a b) else none
  | .seq a b => match findReg n a with
    | some c => some c
    | none => findReg n b
  | .block _ c => findReg n c
  | .loop c => findReg n c
  | .scope c => findReg n c
  | .cond _ a b => match findReg n a with
    | some c => some c
    | none => findReg n b
  | _ => none
/-- its first statement -/
def hd1 : Code → Code
  | .seq a _ => a
  | c => c
/-- and the rest -/
def tl1 : Code → Code
  | .seq _ b => b
  | _ => .skip
/-- what 'marked' answers -/
def GoodM (B : Nat) (w : World) (e : Ending) (w' : World) : Prop := e = .returned (.bool true) ∧ Below B w w'
end Go.Proofs.YtkopjamednedfaaGreat
