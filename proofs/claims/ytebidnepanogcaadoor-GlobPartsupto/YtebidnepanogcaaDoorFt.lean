/-
  fits: has a name these ends?
-/
import Derived.Test.YtebidnepanogcaaDoorCt
import Derived.Deep.OwnRows
import Derived.OwnWalk
namespace Go.Proofs.YtebidnepanogcaaDoor
open Go.RowKit Go.Lib

theorem info5 : (Tryd.prog.info? 5).map (fun i => (i.zero, i.size, i.bytes)) = some (some (.int .u8 0), 1, 1) := by kernel_rfl
theorem sz5 : (Tryd.prog.info? 5).map (·.size) = some 1 := by kernel_rfl
/-- 'copy(dst, s)', the string at least as long as the row -/
theorem run_copy_str {P : Program} (w : World) (dT sT ty elem : TypeId) (g m c : Nat) (s : ByteArray) (cur : Array Value) (t : TypeId)
    (hu : P.underlying dT = some (.slice elem)) (hs : (P.info? elem).map (·.size) = some 1) (hg : w.heap[g]? = some (.cells cur t (0, 0))) (hm : cur.size = m) (hle : m ≤ s.size) :
    (Builtin.copy_ #[dT, sT] ty #[.slice (some ⟨g, 0, none⟩) m c, .string s]).run P w = .ok (goInt m) (w.setRow g (Lib.byteCells (s.data.toList.take m)).toArray) := by
  have hsl : s.data.toList.length = s.size := rfl
  have hlen : (Lib.byteCells (s.data.toList.take m)).length = m := by rw [Lib.byteCells_length, List.length_take]; omega
  have hst := run_storeCells_at P g 0 t (Lib.byteCells (s.data.toList.take m)) 0 cur w hg (by rw [hlen]; omega) (Lib.byteCells_one _)
  have hmin : Nat.min s.size m = m := Nat.min_eq_right hle
  have htk : List.take m (List.map (fun b : UInt8 => Value.int IntKind.u8 (b.toNat : Int)) s.data.toList) = Lib.byteCells (s.data.toList.take m) := by
    rw [← List.map_take]; rfl
  rw [hlen] at hst
  simp only [Nat.add_zero, List.take_zero, List.nil_append, Nat.zero_add] at hst
  rw [List.drop_eq_nil_of_le (by simp; omega), List.append_nil] at hst
  cases hq : P.info? elem with
  | none => simp [hq] at hs
  | some i =>
    simp [Builtin.copy_, run_underlying hu, Builtin.lenOf, Builtin.firstCells, sizeOf, typeInfo, hq, hmin]
    rw [htk, hst]
    simp [Result.andThen]
theorem wpList_copy_str {P : Program} {w : World} {ops : Array Oper} {rest : List Oper} {o : Oper} {a : Act} {Q : Exit → Act → World → Prop} (hgd : o.guard = none) (d s : Operand) (dT sT : TypeId)
    (ho : o.op = .call { callee := .builtin .copy, args := #[d, s], argTypes := #[dT, sT] }) (elem : TypeId) (hu : P.underlying dT = some (.slice elem)) (hsz : (P.info? elem).map (·.size) = some 1)
    (g m c : Nat) (str : ByteArray) (hd : a.eval d = .slice (some ⟨g, 0, none⟩) m c) (hs : a.eval s = .string str)
    (cur : Array Value) (t : TypeId) (hg : w.heap[g]? = some (.cells cur t (0, 0))) (hm : cur.size = m) (l : List UInt8) (hl : str = bs l) (hle : m ≤ l.length)
    (h : ∀ w', Hid (w'.heap[g]? = some (.cells (Lib.byteCells (l.take m)).toArray t (0, 0))) → Hid (Only [g] w w') → wpList P ops Q rest (a.put o.dst (goInt m)) w') : wpList P ops Q (o :: rest) a w := by
  refine wpList_plain hgd fun K hK => ?_
  subst hl
  have hrun := run_copy_str (P := P) w dT sT o.type elem g m c (bs l) cur t hu hsz hg hm hle
  unfold Oper.wp
  simp [execOp, ho, resolve, invoke, builtin, hd, hs, hrun, Result.andThen]
  exact hK _ _ (h _ (setRow_heap w g _ _ t _ hg) (⟨rfl, rfl, rfl, by simp [World.setRow], fun k hk hn => setRow_other w g k _ (by rintro rfl; simp at hn)⟩))

/-- 'bytes.Equal' at this program -/
def ren115 : Go.Shelf.Ren := ⟨fun | 115 => 48 | n => n, fun | 37 => 42 | n => n, fun n => n⟩
theorem lays115 : Lays.nb115 Tryd.prog ren115 := {
  mixed := by kernel_rfl
  f115 := Tryd.func48.trans (congrArg some (by kernel_rfl))
  t4 := Tryd.underlying4
  a4 := Tryd.isAgg4
  z4 := Tryd.sizeOf4
  v4 := Tryd.zeroValue4
  t9 := Tryd.underlying9
  a9 := Tryd.isAgg9
  z9 := Tryd.sizeOf9
  v9 := Tryd.zeroValue9
  t37 := Tryd.underlying42
  a37 := Tryd.isAgg42
  z37 := Tryd.sizeOf42
  v37 := Tryd.zeroValue42
  t5 := Tryd.underlying5
  a5 := Tryd.isAgg5
  z5 := Tryd.sizeOf5
  v5 := Tryd.zeroValue5 }
theorem bytesOf_nums (l : List UInt8) : Lib.bytesOf (nums l) = l := by
  unfold Lib.bytesOf nums
  rw [List.map_map]
  conv => rhs; rw [← List.map_id l]
  apply List.map_congr_left
  intro b _
  simp
theorem BI.bytes {w : World} {p : Option Addr} {n c : Nat} {l : List UInt8} (h : BI w (.slice p n c) l) : n = l.length ∧ Lib.BytesIn w p l.length (nums l) := by
  obtain ⟨p', c', e, h⟩ := h
  injection e with e1 e2 e3
  subst e1 e3
  refine ⟨e2, fun h0 => ?_⟩
  obtain ⟨b, o, rfl, _, hc⟩ := h h0
  refine ⟨b, o, rfl, fun i hi => ?_⟩
  rw [hc i hi]
  simp [nums, List.getD, hi]
theorem equal_bytes {w : World} {u v : Value} {a b : List UInt8} (h1 : BI w u a) (h2 : BI w v b) :
    Calls Tryd.prog 48 #[u, v] w fun e w' => e = .returned (.bool (decide (a = b))) ∧ w' = w := by
  obtain ⟨p, c, rfl, _⟩ := id h1
  obtain ⟨q, d, rfl, _⟩ := id h2
  have := Any.bytes_Equal_all lays115 p q a.length c b.length d (nums a) (nums b) w (by simp [nums]) (by simp [nums]) h1.bytes.2 h2.bytes.2
  rw [bytesOf_nums, bytesOf_nums] at this
  refine Calls.mono this ?_
  rintro e w' ⟨rfl, rfl⟩
  refine ⟨?_, rfl⟩
  by_cases hab : a = b <;> simp [hab]
theorem BI.row {w : World} {g : Nat} {l : List UInt8} {t : TypeId} (h : w.heap[g]? = some (.cells (Lib.byteCells l).toArray t (0, 0))) (c : Nat) : BI w (.slice (some ⟨g, 0, none⟩) l.length c) l := by
  refine ⟨_, _, rfl, fun _ => ⟨g, 0, rfl, (Array.getElem?_eq_some_iff.1 h).1, fun i hi => ?_⟩⟩
  simp [World.cell?, h, Lib.byteCells, hi]
theorem BI.only {S : List Nat} {w w' : World} {v : Value} {l : List UInt8} (h : BI w v l) (ho : Only S w w') (hS : ∀ k ∈ S, v.ownBlock ≠ some k) : BI w' v l := by
  obtain ⟨p, c, rfl, h⟩ := h
  refine ⟨p, c, rfl, fun h0 => ?_⟩
  obtain ⟨b, o, rfl, hlt, hc⟩ := h h0
  have hb : b ∉ S := fun hm => hS b hm (by simp [Value.ownBlock])
  refine ⟨b, o, rfl, Nat.lt_of_lt_of_le hlt ho.size, fun i hi => ?_⟩
  rw [← hc i hi]
  simp only [World.cell?, ho.block b hlt hb]
theorem three (w : World) (o1 o2 o3 : Obj) : (((w.alloc o1).alloc o2).alloc o3).drew.heap[w.heap.size]? = some o1 ∧ (((w.alloc o1).alloc o2).alloc o3).drew.heap[w.heap.size + 1]? = some o2 ∧
    (((w.alloc o1).alloc o2).alloc o3).drew.heap[w.heap.size + 1 + 1]? = some o3 ∧ (((w.alloc o1).alloc o2).alloc o3).drew.heap.size = w.heap.size + 3 ∧ Below w.heap.size w (((w.alloc o1).alloc o2).alloc o3).drew := by
  have z1 : (w.alloc o1).heap.size = w.heap.size + 1 := by simp
  have z2 : ((w.alloc o1).alloc o2).heap.size = w.heap.size + 1 + 1 := by simp
  have b2 := balloc (w.alloc o1) o2
  have b3 := balloc ((w.alloc o1).alloc o2) o3
  refine ⟨?_, ?_, ?_, ?_, ?_⟩
  · show (((w.alloc o1).alloc o2).alloc o3).heap[w.heap.size]? = some o1
    rw [b3.block _ (by omega), b2.block _ (by omega)]; exact heap_alloc_new _ _
  · show (((w.alloc o1).alloc o2).alloc o3).heap[w.heap.size + 1]? = some o2
    rw [b3.block _ (by omega), ← z1]; exact heap_alloc_new _ _
  · show (((w.alloc o1).alloc o2).alloc o3).heap[w.heap.size + 1 + 1]? = some o3
    rw [← z2]; exact heap_alloc_new _ _
  · show (((w.alloc o1).alloc o2).alloc o3).heap.size = _
    simp
  · have h := bstep (bstep (balloc w o1) b2) b3
    exact ⟨h.os, h.tape, h.output, h.size, h.block⟩
end Go.Proofs.YtebidnepanogcaaDoor
