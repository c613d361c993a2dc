/-
  A row of files of the call's own: what it holds, written over.
-/
import Derived.Test.YtinhdjoidbcfaaaDif
import Derived.Laws.CopyRow
import Derived.Laws.IdiomCopy
import Derived.Lib.AppendZerosOnto
import Derived.Lib.Overlaps
namespace Go.Proofs.Ytinhdjoidbcfaaa
open Go.RowKit

/-- a block of files: the list, then what lies behind it -/
structure OF (base : Nat) (w : World) (g cap : Nat) (l : List Fl) (rest : List Value) : Prop where
  blk : w.heap[g]? = some (.cells (fc l ++ rest).toArray 40 (0, 0))
  ge : base ≤ g
  cm : cap ≤ maxLen
  sz : l.length * 4 + rest.length = cap * 4
theorem OF.lt {base : Nat} {w : World} {g cap : Nat} {l : List Fl} {rest : List Value} (h : OF base w g cap l rest) : g < w.heap.size := (Array.getElem?_eq_some_iff.1 h.blk).1
theorem OF.len {base : Nat} {w : World} {g cap : Nat} {l : List Fl} {rest : List Value} (h : OF base w g cap l rest) : l.length ≤ cap := by have := h.sz; omega
theorem OF.own {base : Nat} {w : World} {g cap : Nat} {l : List Fl} {rest : List Value} (h : OF base w g cap l rest) : OwnF base w (.slice (some ⟨g, 0, none⟩) l.length cap) l :=
  ⟨fc_length l, .inr ⟨g, cap, _, rfl, h.ge, h.blk, h.len, h.cm, by simp [fc_length]; exact h.sz, by rw [← fc_length]; exact List.take_left⟩⟩
theorem OF.of {base : Nat} {w : World} {v : Value} {l : List Fl} (h : OwnF base w v l) : (v = .slice none 0 0 ∧ l = []) ∨ ∃ g cap rest, v = .slice (some ⟨g, 0, none⟩) l.length cap ∧ OF base w g cap l rest := by
  rcases h.2 with ⟨rfl, h0⟩ | ⟨g, cap, cur, rfl, hb, hg, hn, hm, hs, ht⟩
  · exact .inl ⟨rfl, List.eq_nil_of_length_eq_zero h0⟩
  · refine .inr ⟨g, cap, cur.toList.drop (l.length * 4), rfl, ?_, hb, hm, by simp; omega⟩
    rw [← ht, List.take_append_drop]; simpa using hg
/-- the same block, split elsewhere -/
theorem OF.split {base : Nat} {w : World} {g cap : Nat} {a b : List Fl} {rest : List Value} (h : OF base w g cap (a ++ b) rest) : OF base w g cap a (fc b ++ rest) :=
  ⟨by rw [← List.append_assoc, ← fc_append]; exact h.blk, h.ge, h.cm, by have := h.sz; simp [fc_length] at this ⊢; omega⟩
theorem OF.only {S : List Nat} {base : Nat} {w w' : World} {g cap : Nat} {l : List Fl} {rest : List Value} (h : OF base w g cap l rest) (ho : Only S w w') (hn : g ∉ S) : OF base w' g cap l rest :=
  ⟨(ho.block g h.lt hn).trans h.blk, h.ge, h.cm, h.sz⟩
theorem OF.later {base : Nat} {w w' : World} {g cap : Nat} {l : List Fl} {rest : List Value} (h : OF base w g cap l rest) (hb : Below w.heap.size w w') : OF base w' g cap l rest := h.only (Only.of_below hb []) (by simp)
theorem OF.cell {base : Nat} {w : World} {g cap : Nat} {l : List Fl} {rest : List Value} (h : OF base w g cap l rest) {j : Nat} (hj : j < l.length) :
    w.cell? ⟨g, j * 4, none⟩ = some (.string (bs l[j].path)) ∧ w.cell? ⟨g, j * 4 + 1, none⟩ = some (.string (bs l[j].text)) ∧ w.cell? ⟨g, j * 4 + 2, none⟩ = some (.int .i64 l[j].blob) ∧ w.cell? ⟨g, j * 4 + 3, none⟩ = some (.int .i64 l[j].size) := by
  obtain ⟨a, c, e, hf⟩ := h.own.fs.form
  obtain ⟨b, off, ha, _, h0⟩ := hf j hj
  injection e with e1 _ _
  rw [ha] at e1
  injection e1 with e1
  injection e1 with e2 e3 _
  subst e2 e3
  simpa using h0
theorem OF.soft {base : Nat} {w : World} {g cap : Nat} {l : List Fl} {rest : List Value} (h : OF base w g cap l rest) (o : Nat) : w.frozen? ⟨g, o, none⟩ = false := by
  have hb := h.blk
  simp [World.frozen?, hb]
theorem fc_set : ∀ (l : List Fl) (i : Nat) (f : Fl) (rest : List Value), i < l.length →
    ((((fc l ++ rest).set (i * 4) (.string (bs f.path))).set (i * 4 + 1) (.string (bs f.text))).set (i * 4 + 2) (.int .i64 f.blob)).set (i * 4 + 3) (.int .i64 f.size) = fc (l.set i f) ++ rest
  | g :: l, 0, f, rest, _ => by simp [fc]
  | g :: l, i + 1, f, rest, h => by
    have ih := fc_set l i f rest (by simpa using h)
    rw [show (i + 1) * 4 = i * 4 + 1 + 1 + 1 + 1 by omega]
    simp only [List.set_cons_succ, fc, List.cons_append]
    rw [← ih]
theorem OF.set {base : Nat} {w : World} {g cap : Nat} {l : List Fl} {rest : List Value} (h : OF base w g cap l rest) {i : Nat} (hi : i < l.length) (f : Fl) :
    OF base ((((w.setCell ⟨g, i * 4, none⟩ (.string (bs f.path))).setCell ⟨g, i * 4 + 1, none⟩ (.string (bs f.text))).setCell ⟨g, i * 4 + 2, none⟩ (.int .i64 f.blob)).setCell ⟨g, i * 4 + 3, none⟩ (.int .i64 f.size)) g cap (l.set i f) rest := by
  refine ⟨?_, h.ge, h.cm, by simpa using h.sz⟩
  rw [heap_setCell _ _ _ _ (heap_setCell _ _ _ _ (heap_setCell _ _ _ _ (heap_setCell _ _ _ _ h.blk)))]
  congr 2
  apply Array.toList_inj.1
  simp only [Array.toList_setIfInBounds]
  exact fc_set l i f rest hi
theorem only_set4 (w : World) (g o1 o2 o3 o4 : Nat) (a b c d : Value) : Only [g] w ((((w.setCell ⟨g, o1, none⟩ a).setCell ⟨g, o2, none⟩ b).setCell ⟨g, o3, none⟩ c).setCell ⟨g, o4, none⟩ d) :=
  (Only.set w g o1 a).trans ((Only.set _ g o2 b).trans ((Only.set _ g o3 c).trans (Only.set _ g o4 d)))
theorem only_row (w : World) (g : Nat) (cs : Array Value) : Only [g] w (w.setRow g cs) := ⟨rfl, rfl, rfl, by simp [World.setRow], fun k _ hn => setRow_other w g k cs (by simpa using hn)⟩
theorem OF.row {base : Nat} {w : World} {g cap : Nat} {l : List Fl} {rest : List Value} (h : OF base w g cap l rest) {l' : List Fl} {rest' : List Value} (hs : l'.length * 4 + rest'.length = cap * 4) {cs : Array Value} (hc : cs.toList = fc l' ++ rest') : OF base (w.setRow g cs) g cap l' rest' :=
  ⟨by rw [setRow_heap w g _ cs 40 (0, 0) h.blk]; congr 2; apply Array.toList_inj.1; simpa using hc, h.ge, h.cm, hs⟩

theorem info40 : (Try.prog.info? 40).map (fun i => (i.zero, i.size, i.bytes)) = some (some (.agg #[.string ⟨#[]⟩, .string ⟨#[]⟩, .int .i64 0, .int .i64 0]), 4, 48) := by kernel_rfl
/-- copy of cells into a row of files -/
theorem run_copy_f (w : World) (ty : TypeId) (g o dLen dCap : Nat) (a : Addr) (sLen sCap : Nat) (cur : Array Value) (cs : List Value)
    (hg : w.heap[g]? = some (.cells cur 40 (0, 0))) (hn : cs.length = Nat.min sLen dLen * 4)
    (hsrc : ∀ j v, cs[j]? = some v → w.cell? (a.add j) = some v) (hfit : o + cs.length ≤ cur.size) (h1 : ∀ v ∈ cs, v.oneCell' = true) :
    (Builtin.copy_ #[22, 22] ty #[.slice (some ⟨g, o, none⟩) dLen dCap, .slice (some a) sLen sCap]).run Try.prog w =
      .ok (goInt (Nat.min sLen dLen : Nat)) (w.setRow g (cur.toList.take o ++ cs ++ cur.toList.drop (o + cs.length)).toArray) := by
  have hl := run_loadCells_list (P := Try.prog) w a cs hsrc
  have hst := run_storeCells_at Try.prog g o 40 cs 0 cur w hg (by simpa using hfit) h1
  obtain ⟨i, hq, _, hi, _⟩ := info_parts info40
  simp [Builtin.copy_, run_underlying und22, Builtin.lenOf, Builtin.firstCells, sizeOf, typeInfo, hq, hi, ← hn, hl, hst]
theorem zero_one (n : Nat) : ∀ v ∈ (Builtin.zeroCells (Value.agg #[.string ⟨#[]⟩, .string ⟨#[]⟩, .int .i64 0, .int .i64 0]).cells n).toList, v.oneCell' = true := by
  intro v hv
  unfold Builtin.zeroCells at hv
  simp only [Array.toList_map, List.mem_map] at hv
  obtain ⟨i, _, rfl⟩ := hv
  have h4 : (Value.agg #[.string ⟨#[]⟩, .string ⟨#[]⟩, .int .i64 0, .int .i64 0]).cells.size = 4 := rfl
  rw [h4]
  have h := Nat.mod_lt i (show 0 < 4 by omega)
  generalize i % 4 = k at h
  match k, h with
  | 0, _ => rfl
  | 1, _ => rfl
  | 2, _ => rfl
  | 3, _ => rfl
/-- a part of a row is cleared -/
theorem run_clear_f (w : World) (ty : TypeId) (g o n c : Nat) (cur : Array Value) (hg : w.heap[g]? = some (.cells cur 40 (0, 0))) (hfit : o + n * 4 ≤ cur.size) :
    ∃ w', (Builtin.clear_ #[22] ty #[.slice (some ⟨g, o, none⟩) n c]).run Try.prog w = .ok (.tuple #[]) w' ∧ ∃ zs : List Value, zs.length = n * 4 ∧ w' = w.setRow g (cur.toList.take o ++ zs ++ cur.toList.drop (o + n * 4)).toArray := by
  obtain ⟨i, hq, hz, hi, _⟩ := info_parts info40
  cases n with
  | zero =>
    refine ⟨w, by simp [Builtin.clear_, run_underlying und22], [], rfl, ?_⟩
    simp only [List.append_nil, Nat.zero_mul, Nat.add_zero, List.take_append_drop]
    exact (setRow_self w g cur 40 (0, 0) hg).symm
  | succ n =>
    obtain ⟨zs, hzs⟩ : ∃ zs, (Builtin.zeroCells (Value.agg #[.string ⟨#[]⟩, .string ⟨#[]⟩, .int .i64 0, .int .i64 0]).cells (n + 1)).toList = zs := ⟨_, rfl⟩
    have hl : zs.length = (n + 1) * 4 := by rw [← hzs]; simp [size_zeroCells, Value.cells]
    have h1 : ∀ v ∈ zs, v.oneCell' = true := by
      intro v hv
      rw [← hzs] at hv
      exact zero_one (n + 1) v hv
    have hst := run_storeCells_at Try.prog g o 40 zs 0 cur w hg (by rw [hl]; simpa using hfit) h1
    refine ⟨_, ?_, zs, hl, rfl⟩
    simp only [Nat.add_zero] at hst
    rw [hl] at hst
    simp [Builtin.clear_, run_underlying und22, zeroValue, typeInfo, hq, hz, hzs, hst]
end Go.Proofs.Ytinhdjoidbcfaaa
