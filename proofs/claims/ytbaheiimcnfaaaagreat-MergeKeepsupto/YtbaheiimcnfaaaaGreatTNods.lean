/-
  Sums, and nodes: the package's small functions.
-/
import Derived.Test.YtbaheiimcnfaaaaGreatTMem
import Derived.Test.YtbaheiimcnfaaaaGreatJNb
import Derived.Laws.Externs
import Derived.Laws.ResultCell
namespace Go.Proofs.YtbaheiimcnfaaaaGreat
open Go.RowKit

/-- a sum as a value -/
def sumv (a : Nat) : Value := .agg #[.int .u64 (a / 18446744073709551616 : Nat), .int .u64 (a % 18446744073709551616 : Nat)]

def sub64E : Array Value → Sem Value := fun args => do
  let (x, y, b) ← Extern.MathBitsCarry.three "Sub64" args
  pure (Extern.MathBitsCarry.pair ((x + Extern.MathBitsCarry.m64 - y - b) % Extern.MathBitsCarry.m64) (if x < y + b then 1 else 0))
theorem run_sub (x y : Nat) (w : World) : (callFunc 115 #[.int .u64 x, .int .u64 y, .int .u64 0]).run Tryz.prog w =
    .ok (.value (.tuple #[.int .u64 (((x + 18446744073709551616 - y) % 18446744073709551616 : Nat) : Int), .int .u64 ((if x < y then 1 else 0 : Nat) : Int)])) w := by
  rw [run_callFunc_extern Tryz.func115 (by kernel_rfl) (by kernel_rfl) (by kernel_rfl) (e := sub64E) (by kernel_rfl)]
  rfl
theorem heap_new2 (w : World) (a b o : Obj) : (((w.alloc a).alloc b).alloc o).heap[w.heap.size + 1 + 1]? = some o := by
  have := heap_alloc_new ((w.alloc a).alloc b) o
  simpa using this
theorem run_add (x y : Nat) (w : World) : (callFunc 134 #[.int .u64 x, .int .u64 y, .int .u64 0]).run Tryz.prog w =
    .ok (.value (.tuple #[.int .u64 (((x + y) % 18446744073709551616 : Nat) : Int), .int .u64 (((x + y) / 18446744073709551616 : Nat) : Int)])) w := by
  rw [run_callFunc_extern Tryz.func134 (by kernel_rfl) (by kernel_rfl) (by kernel_rfl) (e := add64Entry) (by kernel_rfl), run_add64 x y 0 (by omega) (by omega) (by omega) (by omega)]
  simp only [Result.andThen]
  congr 5 <;> omega

set_option maxRecDepth 100000 in
set_option maxHeartbeats 1000000 in
theorem plus0 (ah al bh bl : Nat) (h : ah + bh + 1 < 18446744073709551616) (hs : al + bl < 36893488147419103232) (w : World) :
    Calls Tryz.prog 112 #[.agg #[.int .u64 ah, .int .u64 al], .agg #[.int .u64 bh, .int .u64 bl]] w fun e w' => e = .returned (.agg #[.int .u64 (ah + bh + (al + bl) / 18446744073709551616 : Nat), .int .u64 ((al + bl) % 18446744073709551616 : Nat)]) ∧ Below w.heap.size w w' := by
  obtain ⟨c, hc⟩ : ∃ c, (al + bl) / 18446744073709551616 = c := ⟨_, rfl⟩
  obtain ⟨d, hd⟩ : ∃ d, (al + bl) % 18446744073709551616 = d := ⟨_, rfl⟩
  have hc1 : c ≤ 1 := by omega
  have hadd := run_add al bl
  rw [hc, hd] at hadd ⊢
  have HA : Hid (∀ w, (callFunc 134 #[.int .u64 al, .int .u64 bl, .int .u64 0]).run Tryz.prog w = .ok (.value (.tuple #[.int .u64 (d : Nat), .int .u64 (c : Nat)])) w) := hadd
  clear hadd hc hd hs
  go_enter Tryz.func112, Tryz.ntmps112
  go_wp2
  rw [HA.out]
  rw [Oper.upon_value]
  go_wp2_with fail
  refine bodyPost_ret (results_cell_row rfl _ _ (w.heap.size + 1 + 1) 118 #[.int .u64 ((ah : Int) + bh + c), .int .u64 d] (0, 0) _ rfl ?_ Tryz.underlying118 rfl (by kernel_rfl)) rfl ?_
  · exact heap_new2 _ _ _ _
  · exact ⟨by rfl, bstep (balloc _ _) (bstep (balloc _ _) (balloc _ _))⟩
theorem plus_any (a b : Nat) (h : a + b < 1208925819614629174706176) (w : World) :
    Calls Tryz.prog 112 #[sumv a, sumv b] w fun e w' => e = .returned (sumv (a + b)) ∧ Below w.heap.size w w' := by
  refine (plus0 (a / 18446744073709551616) (a % 18446744073709551616) (b / 18446744073709551616) (b % 18446744073709551616) (by omega) (by omega) w).mono ?_
  rintro e w1 ⟨rfl, hb⟩
  refine ⟨?_, hb⟩
  unfold sumv
  congr 6
  · omega
  · omega

set_option maxRecDepth 100000 in
set_option maxHeartbeats 1000000 in
theorem minus0 (ah al bh bl c d : Nat) (h : bh + c ≤ ah) (ha : ah < 18446744073709551616) (hd : (al + 18446744073709551616 - bl) % 18446744073709551616 = d) (hc : (if al < bl then 1 else 0) = c) (w : World) :
    Calls Tryz.prog 85 #[.agg #[.int .u64 ah, .int .u64 al], .agg #[.int .u64 bh, .int .u64 bl]] w fun e w' => e = .returned (.agg #[.int .u64 ((ah : Int) - bh - c), .int .u64 d]) ∧ Below w.heap.size w w' := by
  have hsub := run_sub al bl
  rw [hc, hd] at hsub
  have HA : Hid (∀ w, (callFunc 115 #[.int .u64 al, .int .u64 bl, .int .u64 0]).run Tryz.prog w = .ok (.value (.tuple #[.int .u64 (d : Nat), .int .u64 (c : Nat)])) w) := hsub
  clear hsub hc hd
  go_enter Tryz.func85, Tryz.ntmps85
  go_wp2
  rw [HA.out]
  rw [Oper.upon_value]
  go_wp2_with fail
  refine bodyPost_ret (results_cell_row rfl _ _ (w.heap.size + 1 + 1) 118 #[.int .u64 ((ah : Int) - bh - c), .int .u64 d] (0, 0) _ rfl ?_ Tryz.underlying118 rfl (by kernel_rfl)) rfl ?_
  · exact heap_new2 _ _ _ _
  · exact ⟨by rfl, bstep (balloc _ _) (bstep (balloc _ _) (balloc _ _))⟩
theorem minusT_any (a b : Nat) (h : b ≤ a) (ha : a < 340282366920938463463374607431768211456) (w : World) :
    Calls Tryz.prog 85 #[sumv a, sumv b] w fun e w' => e = .returned (sumv (a - b)) ∧ Below w.heap.size w w' := by
  have key : ∀ c : Nat, (if a % 18446744073709551616 < b % 18446744073709551616 then 1 else 0) = c → b / 18446744073709551616 + c ≤ a / 18446744073709551616 ∧ ((a / 18446744073709551616 : Nat) : Int) - (b / 18446744073709551616 : Nat) - c = ((a - b) / 18446744073709551616 : Nat) := by
    intro c hc
    split at hc <;> omega
  obtain ⟨c, hc⟩ : ∃ c, (if a % 18446744073709551616 < b % 18446744073709551616 then 1 else 0) = c := ⟨_, rfl⟩
  have hk := key c hc
  refine (minus0 (a / 18446744073709551616) (a % 18446744073709551616) (b / 18446744073709551616) (b % 18446744073709551616) c ((a - b) % 18446744073709551616) hk.1 (by omega) (by omega) hc w).mono ?_
  rintro e w1 ⟨rfl, hb⟩
  refine ⟨?_, hb⟩
  unfold sumv
  rw [hk.2]

set_option maxRecDepth 100000 in
set_option maxHeartbeats 1000000 in
theorem told_any (a : Nat) (w : World) :
    Calls Tryz.prog 91 #[sumv a] w fun e w' => e = .returned (.int .i64 (if a ≤ 9223372036854775807 then (a : Int) else 9223372036854775807)) ∧ Below w.heap.size w w' := by
  have ha : a = 18446744073709551616 * (a / 18446744073709551616) + a % 18446744073709551616 := by omega
  have hl : a % 18446744073709551616 < 18446744073709551616 := by omega
  unfold sumv
  obtain ⟨h, hh⟩ : ∃ h, a / 18446744073709551616 = h := ⟨_, rfl⟩
  obtain ⟨l, hll⟩ : ∃ l, a % 18446744073709551616 = l := ⟨_, rfl⟩
  rw [hh, hll] at ha
  rw [hll] at hl
  rw [hh, hll]
  clear hh hll
  obtain ⟨r, hr⟩ : ∃ r, (if a ≤ 9223372036854775807 then (a : Int) else 9223372036854775807) = r := ⟨_, rfl⟩
  rw [hr]
  have HR : Hid ((if a ≤ 9223372036854775807 then (a : Int) else 9223372036854775807) = r) := hr
  clear hr
  by_cases h0 : 0 < h
  · go_enter Tryz.func91, Tryz.ntmps91
    go_wp2_with fail
    go_ret
    refine ⟨?_, balloc _ _⟩
    rw [← HR.out, if_neg (by omega)]; rfl
  · obtain rfl : h = 0 := by omega
    by_cases h1 : 9223372036854775807 < l
    · go_enter Tryz.func91, Tryz.ntmps91
      go_wp2_with fail
      go_ret
      refine ⟨?_, balloc _ _⟩
      rw [← HR.out, if_neg (by omega)]; rfl
    · go_enter Tryz.func91, Tryz.ntmps91
      go_wp2_with fail
      go_ret
      refine ⟨?_, balloc _ _⟩
      rw [← HR.out, if_pos (by omega)]
      show Ending.returned (.int .i64 (l : Int)) = _
      rw [ha]; simp

/-- the six cells of a node -/
theorem ND.cells {w : World} {g : Nat} {m : Option Nat} {c a o : Nat} (h : ND w g m c a o) : w.cell? ⟨g, 0, none⟩ = some (.map m) ∧ w.cell? ⟨g, 1, none⟩ = some (.int .i64 c) ∧ w.cell? ⟨g, 2, none⟩ = some (.int .u64 (a / 18446744073709551616 : Nat)) ∧ w.cell? ⟨g, 3, none⟩ = some (.int .u64 (a % 18446744073709551616 : Nat)) ∧ w.cell? ⟨g, 4, none⟩ = some (.int .u64 (o / 18446744073709551616 : Nat)) ∧ w.cell? ⟨g, 5, none⟩ = some (.int .u64 (o % 18446744073709551616 : Nat)) := by
  refine ⟨?_, ?_, ?_, ?_, ?_, ?_⟩ <;> simp [World.cell?, h.blk]
theorem ND.soft {w : World} {g : Nat} {m : Option Nat} {c a o : Nat} (h : ND w g m c a o) (i : Nat) : w.frozen? ⟨g, i, none⟩ = false := by
  simp [World.frozen?, h.blk]

theorem eqM (w : World) (x : Option Nat) : (binOp .eql 115 (.map x) (.map none)).run Tryz.prog w = .ok (.bool x.isNone) w := by cases x <;> kernel_rfl
theorem neM (w : World) (x : Option Nat) : (binOp .neq 115 (.map x) (.map none)).run Tryz.prog w = .ok (.bool x.isSome) w := by cases x <;> kernel_rfl
set_option maxRecDepth 100000 in
set_option maxHeartbeats 1000000 in
theorem isFile_any {w : World} {g : Nat} {m : Option Nat} {c a o : Nat} (h : ND w g m c a o) :
    Calls Tryz.prog 84 #[.pointer (some ⟨g, 0, none⟩)] w fun e w' => e = .returned (.bool m.isNone) ∧ w' = w := by
  obtain ⟨c0, _⟩ := h.cells
  have q1 := eqM
  clear h
  go_enter Tryz.func84, Tryz.ntmps84
  go_wp2_with fail
  go_ret
  exact ⟨rfl, rfl⟩
set_option maxRecDepth 100000 in
set_option maxHeartbeats 1000000 in
theorem isDir_any {w : World} {g : Nat} {m : Option Nat} {c a o : Nat} (h : ND w g m c a o) :
    Calls Tryz.prog 121 #[.pointer (some ⟨g, 0, none⟩)] w fun e w' => e = .returned (.bool m.isSome) ∧ w' = w := by
  obtain ⟨c0, _⟩ := h.cells
  have q1 := neM
  clear h
  go_enter Tryz.func121, Tryz.ntmps121
  go_wp2_with fail
  go_ret
  exact ⟨rfl, rfl⟩
set_option maxRecDepth 100000 in
set_option maxHeartbeats 1000000 in
theorem newDir_any (w : World) :
    Calls Tryz.prog 80 #[] w fun e w' => ∃ g b, e = .returned (.pointer (some ⟨g, 0, none⟩)) ∧ ND w' g (some b) 0 0 0 ∧ MP w' 0 b (fun _ => none) ∧ Below w.heap.size w w' ∧ w.heap.size ≤ g ∧ w.heap.size ≤ b := by
  have hmm := @run_makeMap Tryz.prog
  go_enter Tryz.func80, Tryz.ntmps80
  go_wp2_with fail
  go_ret
  refine ⟨w.heap.size + 1, w.heap.size, rfl, ⟨?_⟩, ?_, bstep (balloc _ _) (balloc _ _), by omega, by omega⟩
  · have := heap_alloc_new (w.alloc (.map #[] 0)) (.cells #[.map (some w.heap.size), .int .i64 0, .int .u64 0, .int .u64 0, .int .u64 0, .int .u64 0] 120)
    simpa using this
  · exact (MP.new w).block (Below.heap_alloc _ _ _ (by simp))

theorem setCell_heap (w : World) (g i : Nat) (v : Value) {cur : Array Value} {e : TypeId} {fr : Nat × Nat} (h : w.heap[g]? = some (.cells cur e fr)) : (w.setCell ⟨g, i, none⟩ v).heap[g]? = some (.cells (cur.setIfInBounds i v) e fr) := by
  simp [World.setCell, Array.getElem?_modify, h]

/-- the cells of a node, whatever the numbers -/
structure NC (w : World) (g : Nat) (m : Option Nat) (c h l p q : Nat) : Prop where
  blk : w.heap[g]? = some (.cells #[.map m, .int .i64 c, .int .u64 h, .int .u64 l, .int .u64 p, .int .u64 q] 120 (0, 0))
theorem ND.nc {w : World} {g : Nat} {m : Option Nat} {c a o : Nat} (h : ND w g m c a o) : NC w g m c (a / 18446744073709551616) (a % 18446744073709551616) (o / 18446744073709551616) (o % 18446744073709551616) := ⟨h.blk⟩
theorem NC.lt {w : World} {g : Nat} {m : Option Nat} {c h l p q : Nat} (k : NC w g m c h l p q) : g < w.heap.size := (Array.getElem?_eq_some_iff.1 k.blk).1
theorem NC.block {w w' : World} {g : Nat} {m : Option Nat} {c h l p q : Nat} (k : NC w g m c h l p q) (e : w'.heap[g]? = w.heap[g]?) : NC w' g m c h l p q := ⟨e.trans k.blk⟩
theorem NC.later {w w' : World} {g : Nat} {m : Option Nat} {c h l p q : Nat} (k : NC w g m c h l p q) (hb : Below w.heap.size w w') : NC w' g m c h l p q := k.block (hb.block g k.lt)
theorem NC.cells {w : World} {g : Nat} {m : Option Nat} {c h l p q : Nat} (k : NC w g m c h l p q) : w.cell? ⟨g, 0, none⟩ = some (.map m) ∧ w.cell? ⟨g, 1, none⟩ = some (.int .i64 c) ∧ w.cell? ⟨g, 2, none⟩ = some (.int .u64 h) ∧ w.cell? ⟨g, 3, none⟩ = some (.int .u64 l) ∧ w.cell? ⟨g, 4, none⟩ = some (.int .u64 p) ∧ w.cell? ⟨g, 5, none⟩ = some (.int .u64 q) := by
  refine ⟨?_, ?_, ?_, ?_, ?_, ?_⟩ <;> simp [World.cell?, k.blk]
theorem NC.soft {w : World} {g : Nat} {m : Option Nat} {c h l p q : Nat} (k : NC w g m c h l p q) (i : Nat) : w.frozen? ⟨g, i, none⟩ = false := by
  simp [World.frozen?, k.blk]
theorem NC.count {w : World} {g : Nat} {m : Option Nat} {c h l p q : Nat} (k : NC w g m c h l p q) {z : Int} {c' : Nat} (e : z = c') : NC (w.setCell ⟨g, 1, none⟩ (.int .i64 z)) g m c' h l p q := ⟨by
  subst e
  rw [setCell_heap w g 1 _ k.blk]; rfl⟩
theorem NC.all {w : World} {g : Nat} {m : Option Nat} {c h l p q : Nat} (k : NC w g m c h l p q) (h' l' : Nat) : NC ((w.setCell ⟨g, 2, none⟩ (.int .u64 h')).setCell ⟨g, 3, none⟩ (.int .u64 l')) g m c h' l' p q := ⟨by
  rw [setCell_heap _ g 3 _ (setCell_heap w g 2 _ k.blk)]; rfl⟩
theorem NC.own {w : World} {g : Nat} {m : Option Nat} {c h l p q : Nat} (k : NC w g m c h l p q) (p' q' : Nat) : NC ((w.setCell ⟨g, 4, none⟩ (.int .u64 p')).setCell ⟨g, 5, none⟩ (.int .u64 q')) g m c h l p' q' := ⟨by
  rw [setCell_heap _ g 5 _ (setCell_heap w g 4 _ k.blk)]; rfl⟩
/-- a sum in a block of its own -/
structure SB (w : World) (b h l : Nat) : Prop where
  blk : w.heap[b]? = some (.cells #[.int .u64 h, .int .u64 l] 118 (0, 0))
theorem SB.lt {w : World} {b h l : Nat} (k : SB w b h l) : b < w.heap.size := (Array.getElem?_eq_some_iff.1 k.blk).1
theorem SB.block {w w' : World} {b h l : Nat} (k : SB w b h l) (e : w'.heap[b]? = w.heap[b]?) : SB w' b h l := ⟨e.trans k.blk⟩
theorem SB.later {w w' : World} {b h l : Nat} (k : SB w b h l) (hb : Below w.heap.size w w') : SB w' b h l := k.block (hb.block b k.lt)
theorem SB.cells {w : World} {b h l : Nat} (k : SB w b h l) : w.cell? ⟨b, 0, none⟩ = some (.int .u64 h) ∧ w.cell? ⟨b, 1, none⟩ = some (.int .u64 l) := by
  refine ⟨?_, ?_⟩ <;> simp [World.cell?, k.blk]
theorem SB.new (w : World) (h l : Nat) : SB (w.alloc (.cells #[.int .u64 h, .int .u64 l] 118)) w.heap.size h l := ⟨heap_alloc_new _ _⟩
theorem SB.ne {w : World} {b h l g : Nat} {m : Option Nat} {c h' l' p q : Nat} (k : SB w b h l) (n : NC w g m c h' l' p q) : b ≠ g := by
  rintro rfl
  have := k.blk.symm.trans n.blk
  simp at this

set_option maxRecDepth 100000 in
set_option maxHeartbeats 1000000 in
theorem more0 {w : World} {g : Nat} {m : Option Nat} {c h l p q sh sl rh rl : Nat} (k : NC w g m c h l p q) (hc : c < 9223372036854775807)
    (hp : ∀ w, Calls Tryz.prog 112 #[.agg #[.int .u64 h, .int .u64 l], .agg #[.int .u64 sh, .int .u64 sl]] w fun e w' => e = .returned (.agg #[.int .u64 rh, .int .u64 rl]) ∧ Below w.heap.size w w') :
    Calls Tryz.prog 110 #[.pointer (some ⟨g, 0, none⟩), .agg #[.int .u64 sh, .int .u64 sl]] w fun e w' => e = .returned (.tuple #[]) ∧ NC w' g m (c + 1) rh rl p q ∧ Only [g] w w' := by
  have H : Hid (NC w g m c h l p q) := k
  have HP : Hid (∀ w, Calls Tryz.prog 112 #[.agg #[.int .u64 h, .int .u64 l], .agg #[.int .u64 sh, .int .u64 sl]] w fun e w' => e = .returned (.agg #[.int .u64 rh, .int .u64 rl]) ∧ Below w.heap.size w w') := hp
  obtain ⟨c0, c1, c2, c3, c4, c5⟩ := k.cells
  have f1 := k.soft 1
  have hlt := k.lt
  clear k hp
  go_enter Tryz.func110, Tryz.ntmps110
  go_wp2_with fail
  clear c0 c1 c2 c3 c4 c5 f1
  obtain ⟨w1, hw1⟩ : ∃ w1, (w.setCell ⟨g, 1, none⟩ (.int .i64 ((c : Int) + 1))).alloc (.cells #[.int .u64 sh, .int .u64 sl] 118) = w1 := ⟨_, rfl⟩
  have H1 : Hid (NC w1 g m (c + 1) h l p q ∧ SB w1 w.heap.size sh sl ∧ Only [g] w w1) := by
    have k1 := (H.out.count (z := (c : Int) + 1) (c' := c + 1) (by omega))
    rw [← hw1]
    refine ⟨k1.later (balloc _ _), ?_, (Only.set _ _ _ _).trans (Only.of_below (balloc _ _) _)⟩
    have := SB.new (w.setCell ⟨g, 1, none⟩ (.int .i64 ((c : Int) + 1))) sh sl
    simpa using this
  rw [hw1]
  clear hw1
  obtain ⟨c0, c1, c2, c3, c4, c5⟩ := H1.out.1.cells
  obtain ⟨d0, d1⟩ := H1.out.2.1.cells
  have hg := H1.out.1.lt
  have hb := H1.out.2.1.lt
  have f2 := H1.out.1.soft 2
  have f3 := H1.out.1.soft 3
  have HF : Hid (w1.frozen? ⟨g, 2, none⟩ = false ∧ w1.frozen? ⟨g, 3, none⟩ = false ∧ g < w1.heap.size) := ⟨f2, f3, hg⟩
  go_region_with (go_at_call 112; refine (HP.out _).mono ?_; rintro e w4 ⟨rfl, hb4⟩; have g2 : w4.frozen? ⟨g, 2, none⟩ = false := (hb4.frozen (p := ⟨g, 2, none⟩) HF.out.2.2).trans HF.out.1; have g3 : w4.frozen? ⟨g, 3, none⟩ = false := (hb4.frozen (p := ⟨g, 3, none⟩) HF.out.2.2).trans HF.out.2.1; have e2 : w4.cell? ⟨g, 2, none⟩ = some (.int .u64 h) := (hb4.cell (p := ⟨g, 2, none⟩) HF.out.2.2).trans c2; have e3 : w4.cell? ⟨g, 3, none⟩ = some (.int .u64 l) := (hb4.cell (p := ⟨g, 3, none⟩) HF.out.2.2).trans c3)
  all_goals
    go_end0
    have hb5 : Below w1.heap.size w1 w4 := bstep (Below.refl _ _).drew hb4
    exact ⟨rfl, (H1.out.1.later hb5).all rh rl, H1.out.2.2.trans ((Only.of_below hb5 _).trans ((Only.set _ _ _ _).trans (Only.set _ _ _ _)))⟩
theorem more_any {w : World} {g : Nat} {m : Option Nat} {c a o s : Nat} (h : ND w g m c a o) (hc : c < 9223372036854775807) (hs : a + s < 1208925819614629174706176) :
    Calls Tryz.prog 110 #[.pointer (some ⟨g, 0, none⟩), sumv s] w fun e w' => e = .returned (.tuple #[]) ∧ ND w' g m (c + 1) (a + s) o ∧ Only [g] w w' := by
  refine (more0 h.nc hc (fun w => plus_any a s hs w)).mono ?_
  rintro e w1 ⟨rfl, h1, h2⟩
  exact ⟨rfl, ⟨h1.blk⟩, h2⟩
set_option maxRecDepth 100000 in
set_option maxHeartbeats 1000000 in
theorem less0 {w : World} {g : Nat} {m : Option Nat} {c h l p q sh sl rh rl : Nat} (k : NC w g m c h l p q) (hc : 0 < c) (hc2 : c < 9223372036854775807)
    (hp : ∀ w, Calls Tryz.prog 85 #[.agg #[.int .u64 h, .int .u64 l], .agg #[.int .u64 sh, .int .u64 sl]] w fun e w' => e = .returned (.agg #[.int .u64 rh, .int .u64 rl]) ∧ Below w.heap.size w w') :
    Calls Tryz.prog 83 #[.pointer (some ⟨g, 0, none⟩), .agg #[.int .u64 sh, .int .u64 sl]] w fun e w' => e = .returned (.tuple #[]) ∧ NC w' g m (c - 1) rh rl p q ∧ Only [g] w w' := by
  have H : Hid (NC w g m c h l p q) := k
  have HP : Hid (∀ w, Calls Tryz.prog 85 #[.agg #[.int .u64 h, .int .u64 l], .agg #[.int .u64 sh, .int .u64 sl]] w fun e w' => e = .returned (.agg #[.int .u64 rh, .int .u64 rl]) ∧ Below w.heap.size w w') := hp
  obtain ⟨c0, c1, c2, c3, c4, c5⟩ := k.cells
  have f1 := k.soft 1
  have hlt := k.lt
  clear k hp
  go_enter Tryz.func83, Tryz.ntmps83
  go_wp2_with fail
  clear c0 c1 c2 c3 c4 c5 f1
  obtain ⟨w1, hw1⟩ : ∃ w1, (w.setCell ⟨g, 1, none⟩ (.int .i64 ((c : Int) - 1))).alloc (.cells #[.int .u64 sh, .int .u64 sl] 118) = w1 := ⟨_, rfl⟩
  have H1 : Hid (NC w1 g m (c - 1) h l p q ∧ SB w1 w.heap.size sh sl ∧ Only [g] w w1) := by
    have k1 := (H.out.count (z := (c : Int) - 1) (c' := c - 1) (by omega))
    rw [← hw1]
    refine ⟨k1.later (balloc _ _), ?_, (Only.set _ _ _ _).trans (Only.of_below (balloc _ _) _)⟩
    have := SB.new (w.setCell ⟨g, 1, none⟩ (.int .i64 ((c : Int) - 1))) sh sl
    simpa using this
  rw [hw1]
  clear hw1
  obtain ⟨c0, c1, c2, c3, c4, c5⟩ := H1.out.1.cells
  obtain ⟨d0, d1⟩ := H1.out.2.1.cells
  have hg := H1.out.1.lt
  have hb := H1.out.2.1.lt
  have f2 := H1.out.1.soft 2
  have f3 := H1.out.1.soft 3
  have HF : Hid (w1.frozen? ⟨g, 2, none⟩ = false ∧ w1.frozen? ⟨g, 3, none⟩ = false ∧ g < w1.heap.size) := ⟨f2, f3, hg⟩
  go_region_with (go_at_call 85; refine (HP.out _).mono ?_; rintro e w4 ⟨rfl, hb4⟩; have g2 : w4.frozen? ⟨g, 2, none⟩ = false := (hb4.frozen (p := ⟨g, 2, none⟩) HF.out.2.2).trans HF.out.1; have g3 : w4.frozen? ⟨g, 3, none⟩ = false := (hb4.frozen (p := ⟨g, 3, none⟩) HF.out.2.2).trans HF.out.2.1; have e2 : w4.cell? ⟨g, 2, none⟩ = some (.int .u64 h) := (hb4.cell (p := ⟨g, 2, none⟩) HF.out.2.2).trans c2; have e3 : w4.cell? ⟨g, 3, none⟩ = some (.int .u64 l) := (hb4.cell (p := ⟨g, 3, none⟩) HF.out.2.2).trans c3)
  all_goals
    go_end0
    have hb5 : Below w1.heap.size w1 w4 := bstep (Below.refl _ _).drew hb4
    exact ⟨rfl, (H1.out.1.later hb5).all rh rl, H1.out.2.2.trans ((Only.of_below hb5 _).trans ((Only.set _ _ _ _).trans (Only.set _ _ _ _)))⟩
theorem less_any {w : World} {g : Nat} {m : Option Nat} {c a o s : Nat} (h : ND w g m c a o) (hc : 0 < c) (hc2 : c < 9223372036854775807) (hs : s ≤ a) (ha : a < 340282366920938463463374607431768211456) :
    Calls Tryz.prog 83 #[.pointer (some ⟨g, 0, none⟩), sumv s] w fun e w' => e = .returned (.tuple #[]) ∧ ND w' g m (c - 1) (a - s) o ∧ Only [g] w w' := by
  refine (less0 h.nc hc hc2 (fun w => minusT_any a s hs ha w)).mono ?_
  rintro e w1 ⟨rfl, h1, h2⟩
  exact ⟨rfl, ⟨h1.blk⟩, h2⟩
end Go.Proofs.YtbaheiimcnfaaaaGreat
