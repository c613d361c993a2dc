import Derived.Test.YtpnlajbcbcheeabFull
import Derived.Test.YtpnlajbcbcheeabKnown
import Derived.Laws.BytesArg
namespace Go.Proofs.Ytpnlajbcbcheeab
open Go.RowKit

/-- the mark of a list -/
def mk (k : Nat) : List UInt8 := [109, 97, 114, 107, 32, UInt8.ofNat (48 + k), 48]

theorem und54 : Try.prog.underlying 54 = some (.slice 5) := by kernel_rfl
theorem und5 : Try.prog.underlying 5 = some (.int .u8) := by kernel_rfl
theorem conv2 (w : World) (x y : UInt8) : (convert 54 9 (.slice (some ⟨w.heap.size, 0, none⟩) 2 2)).run Try.prog (w.alloc (.cells #[.int .u8 x.toNat, .int .u8 y.toNat] 5)) = .ok (.string ⟨#[x, y]⟩) (w.alloc (.cells #[.int .u8 x.toNat, .int .u8 y.toNat] 5)) := by
  have e : strOfNums ([x, y].map fun b => (b.toNat : Int)) = ⟨#[x, y]⟩ := by
    unfold strOfNums
    congr 1
    simp
  rw [← e]
  refine run_convert_bytes_arg (P := Try.prog) _ 54 5 und54 und5 w.heap.size 0 2 2 ([x, y].map fun b => (b.toNat : Int)) (by simp) (fun i hi => ?_) 9 und9
  rcases i with _ | _ | i
  · simp
  · simp
  · omega

set_option maxHeartbeats 1000000 in
set_option maxRecDepth 100000 in
theorem mark_any (k : Nat) (w : World) (hk : k < 4) :
    Calls Try.prog 35 #[.int .i64 k] w fun e w' => e = .returned (.string (bs (mk k))) ∧ Below w.heap.size w w' := by
  have h0 : k = 0 ∨ k = 1 ∨ k = 2 ∨ k = 3 := by omega
  rcases h0 with rfl | rfl | rfl | rfl
  · have hc : (convert 54 9 (.slice (some ⟨w.heap.size, 0, none⟩) 2 2)).run Try.prog (w.alloc (.cells #[.int .u8 48, .int .u8 48] 5)) = .ok (.string ⟨#[48, 48]⟩) (w.alloc (.cells #[.int .u8 48, .int .u8 48] 5)) := conv2 w 48 48
    go_enter Try.func35, Try.ntmps35
    go_wp2_with fail
    go_ret
    exact ⟨rfl, balloc _ _⟩
  · have hc : (convert 54 9 (.slice (some ⟨w.heap.size, 0, none⟩) 2 2)).run Try.prog (w.alloc (.cells #[.int .u8 49, .int .u8 48] 5)) = .ok (.string ⟨#[49, 48]⟩) (w.alloc (.cells #[.int .u8 49, .int .u8 48] 5)) := conv2 w 49 48
    go_enter Try.func35, Try.ntmps35
    go_wp2_with fail
    go_ret
    exact ⟨rfl, balloc _ _⟩
  · have hc : (convert 54 9 (.slice (some ⟨w.heap.size, 0, none⟩) 2 2)).run Try.prog (w.alloc (.cells #[.int .u8 50, .int .u8 48] 5)) = .ok (.string ⟨#[50, 48]⟩) (w.alloc (.cells #[.int .u8 50, .int .u8 48] 5)) := conv2 w 50 48
    go_enter Try.func35, Try.ntmps35
    go_wp2_with fail
    go_ret
    exact ⟨rfl, balloc _ _⟩
  · have hc : (convert 54 9 (.slice (some ⟨w.heap.size, 0, none⟩) 2 2)).run Try.prog (w.alloc (.cells #[.int .u8 51, .int .u8 48] 5)) = .ok (.string ⟨#[51, 48]⟩) (w.alloc (.cells #[.int .u8 51, .int .u8 48] 5)) := conv2 w 51 48
    go_enter Try.func35, Try.ntmps35
    go_wp2_with fail
    go_ret
    exact ⟨rfl, balloc _ _⟩

/-- the worlds that have grown out of w -/
structure GW (w : World) where
  it : World
  below : Below w.heap.size w it
theorem gw_ne (w : World) : Nonempty (GW w) := ⟨⟨w, Below.refl _ _⟩⟩
/-- a region that draws its order, whose operations read and whose callees grow memory -/
theorem wp_region_grow {id : Nat} {Q : Exit → Act → World → Prop} {a : Act} {w : World} {l : List Oper} (hm : Try.prog.follows .mixedOrders = true) (hB : Region.lexB .any l.toArray = true)
    (h : wpQuiet Try.prog l.toArray (fun w' => ∃ X : GW w, w' = X.it) (fun a' => ∀ w', (∃ X : GW w, w' = X.it) → Q .normal a' w') l a) : (Code.region id l.toArray true).wp Try.prog Q a w :=
  wp_region_quiet (C := fun w' => ∃ X : GW w, w' = X.it) hm hB ⟨⟨w.drew, (Below.refl _ _).drew⟩, rfl⟩ (by simpa using h)
theorem mark_grow (k : Nat) (hk : k < 4) {w : World} (X : GW w) : Calls Try.prog 35 #[.int .i64 k] X.it fun e w' => e = .returned (.string (bs (mk k))) ∧ ∃ Y : GW w, w' = Y.it :=
  (mark_any k X.it hk).mono fun _ w' ⟨he, hb⟩ => ⟨he, ⟨w', bstep X.below hb⟩, rfl⟩
theorem GW.cell {w : World} (X : GW w) {p : Addr} {v : Value} (hp : p.block < w.heap.size) (h : w.cell? p = some v) : X.it.cell? p = some v := by rw [X.below.cell hp]; exact h

/-- n texts in block g, which may be written -/
def TX (w : World) (g n : Nat) (f : Nat → List UInt8) : Prop := ∀ j, j < n → w.cell? ⟨g, j, none⟩ = some (.string (bs (f j))) ∧ w.frozen? ⟨g, j, none⟩ = false
theorem TX.only {S : List Nat} {w w' : World} {g n : Nat} {f : Nat → List UInt8} (h : TX w g n f) (ho : Only S w w') (hg : g < w.heap.size) (hn : g ∉ S) : TX w' g n f := fun j hj => by
  have hb := ho.block g hg hn
  exact ⟨by rw [World.cell?_of_block (w := w) hb]; exact (h j hj).1, by rw [World.frozen?_of_block (w := w) hb]; exact (h j hj).2⟩
theorem TX.set {w : World} {g n m : Nat} {f : Nat → List UInt8} (h : TX w g n f) (hm : m < n) (p : List UInt8) : TX (w.setCell ⟨g, m, none⟩ (.string (bs p))) g n (fun j => if j = m then p else f j) := fun j hj => by
  refine ⟨?_, by rw [World.frozen?_setCell]; exact (h j hj).2⟩
  show _ = some (Value.string (bs (if j = m then p else f j)))
  by_cases e : j = m
  · subst e; rw [if_pos rfl]; exact World.cell?_setCell_same _ _ _ (h j hj).1
  · rw [if_neg e, World.cell?_setCell_other _ _ _ _ (by intro h; cases h; exact e rfl)]; exact (h j hj).1
theorem TX.congr {w : World} {g n : Nat} {f f' : Nat → List UInt8} (h : TX w g n f) (e : ∀ j, j < n → f j = f' j) : TX w g n f' := fun j hj => by rw [← e j hj]; exact h j hj

/-- the blocks of the four lists -/
def S4 (gb : Nat → Nat) : List Nat := [gb 0, gb 1, gb 2, gb 3]
theorem S4_mem {gb : Nat → Nat} {i : Nat} (h : i < 4) : gb i ∈ S4 gb := by
  have : i = 0 ∨ i = 1 ∨ i = 2 ∨ i = 3 := by omega
  rcases this with rfl | rfl | rfl | rfl <;> simp [S4]
theorem S4_of {gb : Nat → Nat} {g : Nat} (h : g ∈ S4 gb) : ∃ i, i < 4 ∧ g = gb i := by
  simp [S4] at h
  rcases h with h | h | h | h
  · exact ⟨0, by omega, h⟩
  · exact ⟨1, by omega, h⟩
  · exact ⟨2, by omega, h⟩
  · exact ⟨3, by omega, h⟩

/-- the four lists, each full, and the list of them in block ga -/
structure Four (w : World) (ga : Nat) (gb nn : Nat → Nat) : Prop where
  cell : ∀ i, i < 4 → w.cell? ⟨ga, i, none⟩ = some (.slice (some ⟨gb i, 0, none⟩) (nn i) (nn i))
  galt : ga < w.heap.size
  lt : ∀ i, i < 4 → gb i < w.heap.size
  ne : ∀ i, i < 4 → gb i ≠ ga
  inj : ∀ i, i < 4 → ∀ j, j < 4 → gb i = gb j → i = j
  len : ∀ i, i < 4 → nn i ≤ 2000001
theorem Four.only {w w' : World} {ga : Nat} {gb nn : Nat → Nat} {S : List Nat} (h : Four w ga gb nn) (ho : Only S w w') (hS : ga ∉ S) : Four w' ga gb nn :=
  ⟨fun i hi => by rw [World.cell?_of_block (w := w) (ho.block ga h.galt hS)]; exact h.cell i hi, Nat.lt_of_lt_of_le h.galt ho.size, fun i hi => Nat.lt_of_lt_of_le (h.lt i hi) ho.size, h.ne, h.inj, h.len⟩
theorem Four.notin {w : World} {ga : Nat} {gb nn : Nat → Nat} (h : Four w ga gb nn) : ga ∉ S4 gb := fun e => by
  obtain ⟨i, hi, e⟩ := S4_of e
  exact h.ne i hi e.symm
theorem Four.later {w w' : World} {ga : Nat} {gb nn : Nat → Nat} (h : Four w ga gb nn) (hb : Below w.heap.size w w') : Four w' ga gb nn := h.only (Only.of_below hb []) (by simp)

/-- the longer lists in block gl: each full of its mark -/
structure Long (w : World) (gl : Nat) (nn hb cp : Nat → Nat) (n : Nat) : Prop where
  cell : ∀ i, i < n → w.cell? ⟨gl, i, none⟩ = some (.slice (some ⟨hb i, 0, none⟩) (nn i + 16) (cp i))
  text : ∀ i, i < n → ∀ j, j < nn i + 16 → w.cell? ⟨hb i, j, none⟩ = some (.string (bs (mk i)))
  lt : ∀ i, i < n → hb i < w.heap.size
  gllt : gl < w.heap.size
theorem Long.later {w w' : World} {gl : Nat} {nn hb cp : Nat → Nat} {n : Nat} (h : Long w gl nn hb cp n) (hB : Below w.heap.size w w') : Long w' gl nn hb cp n :=
  ⟨fun i hi => by rw [hB.cell (p := ⟨gl, i, none⟩) h.gllt]; exact h.cell i hi, fun i hi j hj => by rw [hB.cell (p := ⟨hb i, j, none⟩) (h.lt i hi)]; exact h.text i hi j hj, fun i hi => Nat.lt_of_lt_of_le (h.lt i hi) hB.size, Nat.lt_of_lt_of_le h.gllt hB.size⟩

/-- what is appended eight times -/
theorem src_eight (w : World) (p : List UInt8) : Src Try.prog 1 26 (.slice (some ⟨w.heap.size, 0, none⟩) 8 8) (List.replicate 8 p).length (sc (List.replicate 8 p)) (w.alloc (.cells #[.string (bs p), .string (bs p), .string (bs p), .string (bs p), .string (bs p), .string (bs p), .string (bs p), .string (bs p)] 9)) := by
  refine Src.ofSlice _ und26 ⟨w.heap.size, 0, none⟩ 8 8 (sc (List.replicate 8 p)) (by simp [sc]) ?_ (sc_one _)
  intro j u hu
  rw [sc_get] at hu
  rw [add_lit]
  rcases j with _ | _ | _ | _ | _ | _ | _ | _ | j
  all_goals first | (simp at hu; subst hu; simp) | (simp at hu)
/-- append onto a full slice, as one operation of a region that draws -/
theorem step_append_full {ops : Array Oper} {o : Oper} {a : Act} {w : World} {K : Act → World → Prop} {Q : Exit → Act → World → Prop} {E : Prop} (hgd : o.guard = none) (s y : Operand)
    (ho : o.op = .call { callee := .builtin .append, args := #[s, y], argTypes := #[26, 26] }) (g n : Nat) (l k : List (List UInt8)) (x : Value) (hv : a.eval s = .slice (some ⟨g, 0, none⟩) n n) (hx : a.eval y = x)
    (hc : ∀ j u, (sc l)[j]? = some u → w.cell? ⟨g, j, none⟩ = some u) (hn : l.length = n) (hs : Src Try.prog 1 26 x k.length (sc k) w) (hk : 0 < k.length) (hb : n + k.length ≤ 8796093022208)
    (h : ∀ d cap w', Own w.heap.size w' (.slice (some ⟨d, 0, none⟩) (n + k.length) cap) (l ++ k) → Below w.heap.size w w' → K (a.put o.dst (.slice (some ⟨d, 0, none⟩) (n + k.length) cap)) w') :
    if Region.wanted o (yielded ops a.tmps) = true then Oper.wp Try.prog o a w K Q else E := by
  have hw : Region.wanted o (yielded ops a.tmps) = true := by simp [Region.wanted, hgd]
  rw [if_pos hw]
  obtain ⟨d, cap, w', hr, h2, h3⟩ := run_append_full w g n o.type l k x hc hn hs hk hb
  unfold Oper.wp execOp
  simp only [ho, resolve, invoke, builtin, Sem.run_bind, Sem.run_pure, Result.andThen_ok, List.map_toArray, List.map_cons, List.map_nil, hv, hx, hr]
  exact h d cap w' h2 h3
/-- append onto a row of the call's own, as one operation of a region that draws -/
theorem step_append_own {ops : Array Oper} {o : Oper} {a : Act} {w : World} {K : Act → World → Prop} {Q : Exit → Act → World → Prop} {E : Prop} (hgd : o.guard = none) (s y : Operand)
    (ho : o.op = .call { callee := .builtin .append, args := #[s, y], argTypes := #[26, 26] }) (base : Nat) (l k : List (List UInt8)) (v x : Value) (hv : a.eval s = v) (hx : a.eval y = x)
    (hown : Own base w v l) (hs : Src Try.prog 1 26 x k.length (sc k) w) (hb : l.length + k.length ≤ 8796093022208) (hbase : base ≤ w.heap.size)
    (h : ∀ v' w', Own base w' v' (l ++ k) → w.grownBy w' v.ownBlock → K (a.put o.dst v') w') :
    if Region.wanted o (yielded ops a.tmps) = true then Oper.wp Try.prog o a w K Q else E := by
  have hw : Region.wanted o (yielded ops a.tmps) = true := by simp [Region.wanted, hgd]
  rw [if_pos hw]
  obtain ⟨i0, hi, hz0, hz1, hz2⟩ := info_parts info9
  obtain ⟨v', w', hr, h2, h3, _⟩ := run_append_src (P := Try.prog) w base 26 26 o.type 9 i0 (.string ByteArray.empty) 1 16 und26 hi hz0 hz1 hz2 rfl v l.length (sc l) hown x k.length (sc k) hs (by simp only [maxLen]; omega) (by omega) hbase
  unfold Oper.wp execOp
  simp only [ho, resolve, invoke, builtin, Sem.run_bind, Sem.run_pure, Result.andThen_ok, List.map_toArray, List.map_cons, List.map_nil, hv, hx, hr]
  exact h v' w' (by unfold Own; rw [sc_append, List.length_append]; exact h2) h3

/-- does a statement begin with this region? -/
def beg20 (n : Nat) : Code → Bool
  | .region m _ _ => m == n
  | .seq a _ => beg20 n a
  | .block _ c => beg20 n c
  | .loop c => beg20 n c
  | .scope c => beg20 n c
  | _ => false
/-- what stands from there on -/
def suff20 (n : Nat) : Code → Code
  | .seq a b => if beg20 n a then .seq a b else suff20 n b
  | c => c
/-- its first statement -/
def hd20 : Code → Code
  | .seq a _ => a
  | c => c
/-- and the rest -/
def tl20 : Code → Code
  | .seq _ b => b
  | _ => .skip
/-- what 'marked' answers -/
def Good2 (S : List Nat) (w : World) (e : Ending) (w' : World) : Prop := e = .returned (.bool true) ∧ Only S w w'
theorem only_below {S : List Nat} {w w1 w2 : World} (h : Only S w w1) (k : Below w1.heap.size w1 w2) : Only S w w2 := h.trans (Only.of_below k S)
end Go.Proofs.Ytpnlajbcbcheeab
