/-
  Byte rows: what a byte slice reads as, what the call owns, append.
-/
import Derived.Test.YtgibjnfaagnbfadGreatDoorPkg3
import Derived.Laws.BytesArg
namespace Go.Proofs.YtgibjnfaagnbfadGreatDoor
open Go.RowKit

/-
  Byte rows: what a byte slice reads as, what the call owns, append from whatever source.
-/

/-- bytes as cells -/
def bc (l : List UInt8) : List Value := l.map fun b => Value.int .u8 b.toNat
theorem bc_length (l : List UInt8) : (bc l).length = l.length := by simp [bc]
theorem bc_append (a b : List UInt8) : bc (a ++ b) = bc a ++ bc b := by simp [bc]
theorem bc_get (l : List UInt8) (i : Nat) : (bc l)[i]? = (l[i]?).map fun b => Value.int .u8 b.toNat := by simp [bc]
theorem bc_one (l : List UInt8) : ∀ u ∈ bc l, u.oneCell' = true := by
  intro u hu
  obtain ⟨_, _, rfl⟩ := List.mem_map.1 hu
  rfl
/-- A byte slice v reads as l in the world w (whatever lies behind its length). -/
def YS (w : World) (v : Value) (l : List UInt8) : Prop :=
  ((∃ a c, v = .slice a 0 c) ∧ l = []) ∨
  ∃ b off cap, v = .slice (some ⟨b, off, none⟩) l.length cap ∧ l.length ≤ cap ∧ b < w.heap.size ∧ ∀ i u, (bc l)[i]? = some u → w.cell? ⟨b, off + i, none⟩ = some u

/-- Owned bytes: a row of the call's own, from block 'base' on. -/
def OwnB (base : Nat) (w : World) (v : Value) (l : List UInt8) : Prop := w.ownsRow base 5 1 v l.length (bc l)

theorem YS.below {w w' : World} {v : Value} {l : List UInt8} {B : Nat} (h : YS w v l) (hb : Below B w w') (hv : ∀ k, v.ownBlock = some k → k < B) : YS w' v l := by
  rcases h with h | ⟨b, off, cap, rfl, hc, hlt, hcell⟩
  · exact .inl h
  · have hbB : b < B := hv b rfl
    refine .inr ⟨b, off, cap, rfl, hc, Nat.lt_of_lt_of_le hlt hb.size, fun i u hu => ?_⟩
    rw [hb.cell (p := ⟨b, off + i, none⟩) hbB]; exact hcell i u hu

theorem YS.later {w w' : World} {v : Value} {l : List UInt8} (h : YS w v l) (hb : Below w.heap.size w w') : YS w' v l := by
  rcases h with h | ⟨b, off, cap, rfl, hc, hlt, hcell⟩
  · exact .inl h
  · refine .inr ⟨b, off, cap, rfl, hc, Nat.lt_of_lt_of_le hlt hb.size, fun i u hu => ?_⟩
    rw [hb.cell (p := ⟨b, off + i, none⟩) hlt]; exact hcell i u hu
theorem YS_nil (w : World) : YS w (.slice none 0 0) [] := .inl ⟨⟨_, _, rfl⟩, rfl⟩

theorem YS.grown {w w' : World} {v : Value} {l : List UInt8} {row : Option Nat} (h : YS w v l) (hg : w.grownBy w' row) (hne : v.ownBlock = none ∨ v.ownBlock ≠ row) : YS w' v l := by
  rcases h with h | ⟨b, off, cap, rfl, hc, hlt, hcell⟩
  · exact .inl h
  · refine .inr ⟨b, off, cap, rfl, hc, Nat.lt_of_lt_of_le hlt hg.size, fun i u hu => ?_⟩
    exact hg.cell (hcell i u hu) (by simpa [Value.ownBlock] using hne)

theorem OwnB.ys {base : Nat} {w : World} {v : Value} {l : List UInt8} (h : OwnB base w v l) : YS w v l := by
  rcases h.2 with ⟨rfl, h0⟩ | ⟨g, cap, cur, rfl, hb, hg, hn, _⟩
  · exact .inl ⟨⟨_, _, rfl⟩, List.eq_nil_of_length_eq_zero h0⟩
  · refine .inr ⟨g, 0, cap, rfl, hn, (Array.getElem?_eq_some_iff.1 hg).1, fun i u hu => ?_⟩
    have := World.ownsRow.cells h (g := g) rfl i u hu
    rw [add_lit] at this; exact this

theorem OwnB.mono {base base' : Nat} {w : World} {v : Value} {l : List UInt8} (h : OwnB base w v l) (hb : base' ≤ base) : OwnB base' w v l := World.ownsRow.mono h hb

theorem OwnB.nil (base : Nat) (w : World) : OwnB base w (.slice none 0 0) [] := World.ownsRow_nil w base 5 1

/-- what a byte slice yields to an append -/
theorem YS.src {w : World} {v : Value} {l : List UInt8} {P : Program} {tx e' : TypeId} (h : YS w v l) (hk : P.underlying tx = some (.slice e')) : Src P 1 tx v l.length (bc l) w := by
  rcases h with ⟨⟨a, c, rfl⟩, rfl⟩ | ⟨b, off, cap, rfl, hc, hlt, hcell⟩
  · cases a with
    | none => exact Src.ofNil w hk c
    | some a => exact Src.ofSlice w hk a 0 c [] (by simp) (fun j u hu => by simp at hu) (fun u hu => by cases hu)
  · exact Src.ofSlice w hk ⟨b, off, none⟩ l.length cap (bc l) (by simp [bc]) (fun j u hu => by rw [add_lit]; exact hcell j u hu) (bc_one l)

theorem und45 : Tryz.prog.underlying 45 = some (.slice 5) := by kernel_rfl
theorem und5 : Tryz.prog.underlying 5 = some (.int .u8) := by kernel_rfl
theorem info5 : (Tryz.prog.info? 5).map (fun i => (i.zero, i.size, i.bytes)) = some (some (.int .u8 0), 1, 1) := by kernel_rfl

/-- append of bytes onto bytes of the call's own -/
theorem app_bytes {w : World} {base : Nat} {v x : Value} {l k : List UInt8} {tx : TypeId} (hown : OwnB base w v l) (hs : Src Tryz.prog 1 tx x k.length (bc k) w) (hb : l.length + k.length ≤ 140737488355328) (hbase : base ≤ w.heap.size)
    {ops : Array Oper} {rest : List Oper} {o : Oper} {a : Act} {Q : Exit → Act → World → Prop} (hgd : o.guard = none) (s y : Operand) 
    (ho : o.op = .call { callee := .builtin .append, args := #[s, y], argTypes := #[45, tx] }) (hv : a.eval s = v) (hx : a.eval y = x)
    (h : ∀ v' w', OwnB base w' v' (l ++ k) → w.grownBy w' v.ownBlock → (v'.ownBlock = v.ownBlock ∨ v'.ownBlock = some w.heap.size) → wpList Tryz.prog ops Q rest (a.put o.dst v') w') :
    wpList Tryz.prog ops Q (o :: rest) a w := by
  obtain ⟨i0, hi, hz0, hz1, hz2⟩ := info_parts info5
  refine wpList_append_src w hgd s y 45 tx ho base 5 i0 (.int .u8 0) 1 1 und45 hi hz0 hz1 hz2 rfl v l.length (bc l) hv hown x k.length (bc k) hx hs (by simp only [maxLen]; omega) (by omega) hbase ?_
  intro v' w' h1 h2 h3
  exact h v' w' (by unfold OwnB; rw [bc_append, List.length_append]; exact h1) h2 h3

theorem conv_bs {w : World} {v : Value} {l : List UInt8} (h : YS w v l) : (convert 45 9 v).run Tryz.prog w = .ok (.string ⟨l.toArray⟩) w := by
  rcases h with ⟨⟨a, c, rfl⟩, rfl⟩ | ⟨b, off, cap, rfl, hc, hlt, hcell⟩
  · cases a with
    | none => exact run_convert_bytes_nil (P := Tryz.prog) w 45 5 und45 und5 0 c 9 und9
    | some a =>
      rw [run_convert_bytes_string w 45 9 5 (some a) 0 c und45 und5 und9, run_bytesToString w a 0 c [] (run_loadCells_list (P := Tryz.prog) w a [] (fun j v hj => by simp at hj))]
      rfl
  · have e : strOfNums (l.map fun b => (b.toNat : Int)) = ⟨l.toArray⟩ := by
      unfold strOfNums
      congr 1
      simp [Function.comp_def]
    rw [← e]
    refine run_convert_bytes_arg (P := Tryz.prog) w 45 5 und45 und5 b off l.length cap (l.map fun b => (b.toNat : Int)) (by simp) (fun i hi => ?_) 9 und9
    rw [hcell i (.int .u8 (l[i].toNat : Int)) (by simp [bc, hi])]
    simp [hi]

theorem src_byte (w : World) (n : Int) (b : UInt8) (h : n = (b.toNat : Int)) : Src Tryz.prog 1 45 (.slice (some ⟨w.heap.size, 0, none⟩) 1 1) 1 (bc [b]) (w.alloc (.cells #[.int .u8 n] 5)) := by
  subst h
  exact Src.ofSlice _ und45 ⟨w.heap.size, 0, none⟩ 1 1 (bc [b]) (by simp [bc]) (cell_one_new w _ 5) (bc_one _)

/-- append of one byte onto bytes of the call's own -/
theorem app_byte {w : World} {base : Nat} {v : Value} {l : List UInt8} {n : Int} (b : UInt8) (hown : OwnB base w v l) (hn : n = (b.toNat : Int)) (hb : l.length + 1 ≤ 140737488355328) (hbase : base ≤ w.heap.size)
    {ops : Array Oper} {rest : List Oper} {o : Oper} {a : Act} {Q : Exit → Act → World → Prop} (hgd : o.guard = none) (s y : Operand) 
    (ho : o.op = .call { callee := .builtin .append, args := #[s, y], argTypes := #[45, 45] }) (hv : a.eval s = v) (hx : a.eval y = .slice (some ⟨w.heap.size, 0, none⟩) 1 1)
    (h : ∀ v' w', OwnB base w' v' (l ++ [b]) → Below base w w' → base ≤ w'.heap.size → w.grownBy w' v.ownBlock → (v'.ownBlock = v.ownBlock ∨ v'.ownBlock = some (w.heap.size + 1)) → wpList Tryz.prog ops Q rest (a.put o.dst v') w') :
    wpList Tryz.prog ops Q (o :: rest) a (w.alloc (.cells #[.int .u8 n] 5)) := by
  refine app_bytes (base := base) (l := l) (k := [b]) (tx := 45) (World.ownsRow.alloc hown _) (src_byte w n b hn) (by simpa using hb) (by simp; omega) hgd s y ho hv hx ?_
  intro v' w' h1 h2 h3
  have hlt := World.ownsRow.lt hown
  have hB : Below base w w' := ((Below.refl _ _).alloc hbase _).grown h2 (by simp; omega) (fun k hk => (hlt k hk).1)
  refine h v' w' h1 hB (Nat.le_trans hbase hB.size) ((World.grownBy_alloc w _ _).trans h2) (by simpa using h3)

theorem OwnB.lt {base : Nat} {w : World} {v : Value} {l : List UInt8} (h : OwnB base w v l) {k : Nat} (hk : v.ownBlock = some k) : base ≤ k ∧ k < w.heap.size := World.ownsRow.lt h k hk
theorem OwnB.later {base : Nat} {w w' : World} {v : Value} {l : List UInt8} (h : OwnB base w v l) (hb : Below w.heap.size w w') : OwnB base w' v l := by
  rcases h with ⟨h0, h | ⟨g, cap, cur, rfl, hbb, hg, hr⟩⟩
  · exact ⟨h0, .inl h⟩
  · exact ⟨h0, .inr ⟨g, cap, cur, rfl, hbb, (hb.block g (Array.getElem?_eq_some_iff.1 hg).1).trans hg, hr⟩⟩
theorem OwnB.len {base : Nat} {w : World} {v : Value} {l : List UInt8} (h : OwnB base w v l) : ∃ a c, v = .slice a l.length c := by
  rcases h.2 with ⟨rfl, h0⟩ | ⟨g, cap, cur, rfl, _⟩
  · exact ⟨none, 0, by rw [h0]⟩
  · exact ⟨_, _, rfl⟩
theorem conv_ys {w : World} {v : Value} {l : List UInt8} (h : YS w v l) : (convert 45 9 v).run Tryz.prog w = .ok (.string (bs l)) w := conv_bs h
/-- append onto bytes of the call's own, as one operation of a region that draws -/
theorem step_app_bytes {ops : Array Oper} {o : Oper} {a : Act} {w : World} {K : Act → World → Prop} {Q : Exit → Act → World → Prop} {E : Prop} (hgd : o.guard = none) (s y : Operand)
    (ho : o.op = .call { callee := .builtin .append, args := #[s, y], argTypes := #[45, 45] }) (base : Nat) (l k : List UInt8) (v x : Value) (hv : a.eval s = v) (hx : a.eval y = x)
    (hown : OwnB base w v l) (hs : Src Tryz.prog 1 45 x k.length (bc k) w) (hb : l.length + k.length ≤ 8796093022208) (hbase : base ≤ w.heap.size)
    (h : ∀ v' w', OwnB base w' v' (l ++ k) → w.grownBy w' v.ownBlock → K (a.put o.dst v') w') :
    if Region.wanted o (yielded ops a.tmps) = true then Oper.wp Tryz.prog o a w K Q else E := by
  have hw : Region.wanted o (yielded ops a.tmps) = true := by simp [Region.wanted, hgd]
  rw [if_pos hw]
  obtain ⟨i0, hi, hz0, hz1, hz2⟩ := info_parts info5
  obtain ⟨v', w', hr, h2, h3, _⟩ := run_append_src (P := Tryz.prog) w base 45 45 o.type 5 i0 (.int .u8 0) 1 1 und45 hi hz0 hz1 hz2 rfl v l.length (bc l) hown x k.length (bc k) hs (by simp only [maxLen]; omega) (by omega) hbase
  unfold Oper.wp execOp
  simp only [ho, resolve, invoke, builtin, Sem.run_bind, Sem.run_pure, Result.andThen_ok, List.map_toArray, List.map_cons, List.map_nil, hv, hx, hr]
  exact h v' w' (by unfold OwnB; rw [bc_append, List.length_append]; exact h2) h3
theorem src_two (w : World) (x y : UInt8) (m n : Int) (hm : m = (x.toNat : Int)) (hn : n = (y.toNat : Int)) : Src Tryz.prog 1 45 (.slice (some ⟨w.heap.size, 0, none⟩) 2 2) [x, y].length (bc [x, y]) (w.alloc (.cells #[.int .u8 m, .int .u8 n] 5)) := by
  subst hm hn
  exact Src.ofSlice _ und45 ⟨w.heap.size, 0, none⟩ 2 2 (bc [x, y]) (by simp [bc]) (World.news_of_block (heap_alloc_new w _)) (bc_one _)
end Go.Proofs.YtgibjnfaagnbfadGreatDoor
