/-
  Entries in memory: rows of cells, lengthened, cleared; slices.Delete of one of them.
  The bytes of lists, of a target, of an entry.
-/
import Derived.Test.YtddaoloabfkheaaGreatDoorJSameg
import Derived.Deep.RegionHeld3
import Derived.Laws.CopyRow
import Derived.Laws.IdiomCopy
import Derived.Deep.RegionLaw
import Derived.Test.YtddaoloabfkheaaGreatDoorZb
import Derived.Test.YtddaoloabfkheaaGreatDoorCf
namespace Go.Proofs.YtddaoloabfkheaaGreatDoor
open Go.RowKit
attribute [local go_sem] Oper.semAt_some

theorem step_app_run {P : Program} {ops : Array Oper} {o : Oper} {a : Act} {w : World} {K : Act → World → Prop} {Q : Exit → Act → World → Prop} {E : Prop} (hg : o.guard = none) (d x : Operand) (dT sT : TypeId)
    (hop : o.op = .call { callee := .builtin .append, args := #[d, x], argTypes := #[dT, sT] }) (v u : Value) (hd : a.eval d = v) (hx : a.eval x = u) {v' : Value} {w' : World} (hr : (Builtin.append_ #[dT, sT] o.type #[v, u]).run P w = .ok v' w') (hK : K (a.put o.dst v') w') :
    if Region.wanted o (yielded ops a.tmps) = true then Oper.wp P o a w K Q else E := by
  have hw : Region.wanted o (yielded ops a.tmps) = true := by simp [Region.wanted, hg]
  rw [if_pos hw]
  unfold Oper.wp execOp
  simp only [hop, resolve, invoke, builtin, Sem.run_bind, Sem.run_pure, Result.andThen_ok, List.map_toArray, List.map_cons, List.map_nil, hd, hx, hr]
  exact hK

/-- a block of cells: those that count, then what lies behind them -/
structure RW (e s base : Nat) (w : World) (g cap : Nat) (cs rest : List Value) : Prop where
  blk : w.heap[g]? = some (.cells (cs ++ rest).toArray e (0, 0))
  ge : base ≤ g
  cm : cap ≤ maxLen
  sz : cs.length + rest.length = cap * s
section
variable {e s base : Nat} {w : World} {g cap : Nat} {cs rest : List Value}
theorem only_row (w : World) (g : Nat) (cs : Array Value) : Only [g] w (w.setRow g cs) := ⟨rfl, rfl, rfl, by simp [World.setRow], fun k _ hn => setRow_other w g k cs (by simpa using hn)⟩
theorem RW.row (h : RW e s base w g cap cs rest) {cs' rest' : List Value} (hs : cs'.length + rest'.length = cap * s) {ar : Array Value} (hc : ar.toList = cs' ++ rest') : RW e s base (w.setRow g ar) g cap cs' rest' :=
  ⟨by rw [setRow_heap w g _ ar e (0, 0) h.blk]; congr 2; apply Array.toList_inj.1; simpa using hc, h.ge, h.cm, hs⟩
theorem RW.again (h : RW e s base w g cap cs rest) {cs' rest' : List Value} (e2 : cs ++ rest = cs' ++ rest') : RW e s base w g cap cs' rest' :=
  ⟨by rw [← e2]; exact h.blk, h.ge, h.cm, by have := h.sz; have := congrArg List.length e2; simp only [List.length_append] at this; omega⟩
theorem RW.cell (h : RW e s base w g cap cs rest) {o : Nat} {u : Value} (hu : (cs ++ rest)[o]? = some u) : w.cell? ⟨g, o, none⟩ = some u := by
  have hb := h.blk
  simp only [World.cell?, hb]
  simpa using hu
variable {P : Program} {T : TypeId}
theorem RW.app (hT : P.underlying T = some (.slice e)) {i0 : TypeInfo} (hi : P.info? e = some i0) (hs : i0.size = s) (h : RW e s base w g cap cs rest) (n : Nat) (sad : Addr) (m c : Nat) (k : List Value) (hk : k.length = m * s)
    (hsrc : ∀ j u, k[j]? = some u → w.cell? (sad.add j) = some u) (hroom : n + m ≤ cap) (h1 : ∀ v ∈ k, v.oneCell' = true) :
    ∃ w', (∀ ty, (Builtin.append_ #[T, T] ty #[.slice (some ⟨g, 0, none⟩) n cap, .slice (some sad) m c]).run P w = .ok (.slice (some ⟨g, 0, none⟩) (n + m) cap) w') ∧ RW e s base w' g cap ((cs ++ rest).take (n * s) ++ k) ((cs ++ rest).drop (n * s + k.length)) ∧ Only [g] w w' := by
  have hsz := h.sz
  have hle : n * s + k.length ≤ cap * s := by rw [hk, ← Nat.add_mul]; exact Nat.mul_le_mul_right s hroom
  refine ⟨w.setRow g ((cs ++ rest).take (n * s) ++ k ++ (cs ++ rest).drop (n * s + k.length)).toArray, fun ty => ?_, h.row (by simp; omega) (by simp), only_row _ _ _⟩
  have := run_append_room (P := P) w T ty e i0 hT hi g n cap _ h.blk sad m c k (by rw [hs]; exact hk) hsrc h1 hroom (by rw [hs]; simp; omega)
  rw [hs] at this
  simpa using this
theorem RW.clear (hT : P.underlying T = some (.slice e)) (h : RW e s base w g cap cs rest) {z : Value} (hz : ∀ w, (zeroValue e).run P w = .ok z w) (hzs : z.cells.size = s) (o n c : Nat) (hfit : o + n * s ≤ cap * s) (h1 : ∀ v ∈ (Builtin.zeroCells z.cells n).toList, v.oneCell' = true) :
    ∃ w', (∀ ty, (Builtin.clear_ #[T] ty #[.slice (some ⟨g, o, none⟩) n c]).run P w = .ok (.tuple #[]) w') ∧ RW e s base w' g cap ((cs ++ rest).take o) ((Builtin.zeroCells z.cells n).toList ++ (cs ++ rest).drop (o + n * s)) ∧ Only [g] w w' := by
  have hsz := h.sz
  have hzl : (Builtin.zeroCells z.cells n).toList.length = n * s := by rw [Array.length_toList, size_zeroCells, hzs]
  cases n with
  | zero =>
    refine ⟨w, fun ty => ?_, h.again ?_, Only.refl _ _⟩
    · simp [Builtin.clear_, run_underlying hT]
    · have : (Builtin.zeroCells z.cells 0).toList = [] := List.eq_nil_of_length_eq_zero (by rw [hzl]; omega)
      rw [this]
      simp
  | succ m =>
    refine ⟨w.setRow g ((cs ++ rest).take o ++ (Builtin.zeroCells z.cells (m + 1)).toList ++ (cs ++ rest).drop (o + (m + 1) * s)).toArray, fun ty => ?_, h.row (by rw [List.length_append, hzl]; simp; omega) (by simp), only_row _ _ _⟩
    have hst := run_storeCells_at P g o e (Builtin.zeroCells z.cells (m + 1)).toList 0 _ w h.blk (by rw [hzl]; simp; omega) h1
    rw [hzl] at hst
    simp only [Nat.add_zero] at hst
    simp [Builtin.clear_, run_underlying hT, hz, hst]
end

/-- an entry as it lies: its path, its text, its targets' slice, its place -/
structure En where
  p : List UInt8
  t : List UInt8
  a : Option Addr
  n : Nat
  c : Nat
  z : Int
def En.val (x : En) : Value := .agg #[.string (bs x.p), .string (bs x.t), .slice x.a x.n x.c, .int .i64 x.z]
def En.key (x : En) : Lb := ⟨x.p, x.t⟩
def ec : List En → List Value
  | [] => []
  | x :: r => .string (bs x.p) :: .string (bs x.t) :: .slice x.a x.n x.c :: .int .i64 x.z :: ec r
theorem ec_length : ∀ l, (ec l).length = l.length * 4
  | [] => rfl
  | f :: r => by simp only [ec, List.length_cons, ec_length r]; omega
theorem ec_append : ∀ a b, ec (a ++ b) = ec a ++ ec b
  | [], b => rfl
  | f :: r, b => by simp [ec, ec_append r b]
theorem ec_one : ∀ (l : List En), ∀ u ∈ ec l, u.oneCell' = true
  | [], u, h => by simp [ec] at h
  | f :: r, u, h => by
    simp only [ec, List.mem_cons] at h
    rcases h with rfl | rfl | rfl | rfl | h
    · rfl
    · rfl
    · rfl
    · rfl
    · exact ec_one r u h
theorem ec_get : ∀ (l : List En) (k : Nat) (h : k < l.length), (ec l)[k * 4]? = some (.string (bs l[k].p)) ∧ (ec l)[k * 4 + 1]? = some (.string (bs l[k].t)) ∧ (ec l)[k * 4 + 2]? = some (.slice l[k].a l[k].n l[k].c) ∧ (ec l)[k * 4 + 3]? = some (.int .i64 l[k].z)
  | f :: r, 0, _ => ⟨rfl, rfl, rfl, rfl⟩
  | f :: r, k + 1, h => by
    have ih := ec_get r k (by simpa using h)
    rw [show (k + 1) * 4 = k * 4 + 4 by omega]
    simp only [ec, List.getElem_cons_succ]
    exact ih
theorem ec_take (l : List En) (k : Nat) (h : k ≤ l.length) (r : List Value) : (ec l ++ r).take (k * 4) = ec (l.take k) := by
  have e : ec l = ec (l.take k) ++ ec (l.drop k) := by rw [← ec_append, List.take_append_drop]
  have hl : (ec (l.take k)).length = k * 4 := by rw [ec_length, List.length_take]; omega
  rw [e, List.append_assoc, List.take_left' hl]
theorem ec_drop (l : List En) (k : Nat) (h : k ≤ l.length) (r : List Value) : (ec l ++ r).drop (k * 4) = ec (l.drop k) ++ r := by
  have e : ec l = ec (l.take k) ++ ec (l.drop k) := by rw [← ec_append, List.take_append_drop]
  have hl : (ec (l.take k)).length = k * 4 := by rw [ec_length, List.length_take]; omega
  rw [e, List.append_assoc, List.drop_left' hl]
def OwnE (base : Nat) (w : World) (v : Value) (l : List En) : Prop := w.ownsRow base 74 4 v l.length (ec l)
theorem OwnE.nil (base : Nat) (w : World) : OwnE base w (.slice none 0 0) [] := World.ownsRow_nil w base 74 4
theorem OwnE.lt {base : Nat} {w : World} {v : Value} {l : List En} (h : OwnE base w v l) {k : Nat} (hk : v.ownBlock = some k) : base ≤ k ∧ k < w.heap.size := World.ownsRow.lt h k hk
theorem OwnE.stay {base : Nat} {w w' : World} {v : Value} {l : List En} (h : OwnE base w v l) (hs : ∀ k, v.ownBlock = some k → w'.heap[k]? = w.heap[k]?) : OwnE base w' v l := by
  rcases h with ⟨h0, h | ⟨g, cap, cur, rfl, hb, hg, hr⟩⟩
  · exact ⟨h0, .inl h⟩
  · exact ⟨h0, .inr ⟨g, cap, cur, rfl, hb, (hs g rfl).trans hg, hr⟩⟩
theorem OwnE.only {S : List Nat} {base : Nat} {w w' : World} {v : Value} {l : List En} (h : OwnE base w v l) (ho : Only S w w') (hn : ∀ k, v.ownBlock = some k → k ∉ S) : OwnE base w' v l :=
  h.stay fun k hk => ho.block k (h.lt hk).2 (hn k hk)
theorem OwnE.later {base : Nat} {w w' : World} {v : Value} {l : List En} (h : OwnE base w v l) (hb : Below w.heap.size w w') : OwnE base w' v l :=
  h.only (Only.of_below hb []) (by simp)
theorem RW.ofE {base : Nat} {w : World} {v : Value} {l : List En} (h : OwnE base w v l) (hl : l ≠ []) : ∃ g cap rest, v = .slice (some ⟨g, 0, none⟩) l.length cap ∧ RW 74 4 base w g cap (ec l) rest := by
  rcases h.2 with ⟨rfl, h0⟩ | ⟨g, cap, cur, rfl, hb, hg, hn, hm, hs, ht⟩
  · exact absurd (List.eq_nil_of_length_eq_zero h0) hl
  · refine ⟨g, cap, cur.toList.drop (l.length * 4), rfl, ?_, hb, hm, by simp [ec_length]; omega⟩
    rw [← ht, List.take_append_drop]; simpa using hg
theorem RW.ownE {base : Nat} {w : World} {g cap : Nat} {l : List En} {rest : List Value} (h : RW 74 4 base w g cap (ec l) rest) : OwnE base w (.slice (some ⟨g, 0, none⟩) l.length cap) l := by
  have hs := h.sz
  rw [ec_length] at hs
  exact ⟨ec_length l, .inr ⟨g, cap, _, rfl, h.ge, h.blk, by omega, h.cm, by simp [ec_length]; exact hs, by rw [← ec_length]; simp⟩⟩
theorem RW.cellE {base : Nat} {w : World} {g cap : Nat} {l : List En} {rest : List Value} (h : RW 74 4 base w g cap (ec l) rest) {j : Nat} (hj : j < l.length) :
    w.cell? ⟨g, j * 4, none⟩ = some (.string (bs l[j].p)) ∧ w.cell? ⟨g, j * 4 + 1, none⟩ = some (.string (bs l[j].t)) ∧ w.cell? ⟨g, j * 4 + 2, none⟩ = some (.slice l[j].a l[j].n l[j].c) ∧ w.cell? ⟨g, j * 4 + 3, none⟩ = some (.int .i64 l[j].z) := by
  obtain ⟨h0, h1, h2, h3⟩ := ec_get l j hj
  have hl := ec_length l
  refine ⟨h.cell ?_, h.cell ?_, h.cell ?_, h.cell ?_⟩
  · rw [List.getElem?_append_left (by omega)]; exact h0
  · rw [List.getElem?_append_left (by omega)]; exact h1
  · rw [List.getElem?_append_left (by omega)]; exact h2
  · rw [List.getElem?_append_left (by omega)]; exact h3
theorem OwnE.form {base : Nat} {w : World} {v : Value} {l : List En} (h : OwnE base w v l) : ∃ a c, v = .slice a l.length c := by
  rcases h.2 with ⟨rfl, h0⟩ | ⟨g, cap, cur, rfl, _⟩
  · exact ⟨_, _, by rw [h0]⟩
  · exact ⟨_, _, rfl⟩
theorem OwnE.at {base : Nat} {w wr : World} {a : Option Addr} {n c : Nat} {l : List En} (h : OwnE base w (.slice a n c) l) (hb : Below w.heap.size w wr) {k : Nat} (hk : k < l.length) : ∃ b, a = some ⟨b, 0, none⟩ ∧ b < w.heap.size ∧
    wr.cell? ⟨b, k * 4, none⟩ = some (.string (bs l[k].p)) ∧ wr.cell? ⟨b, k * 4 + 1, none⟩ = some (.string (bs l[k].t)) ∧ wr.cell? ⟨b, k * 4 + 2, none⟩ = some (.slice l[k].a l[k].n l[k].c) ∧ wr.cell? ⟨b, k * 4 + 3, none⟩ = some (.int .i64 l[k].z) := by
  obtain ⟨g, cap, rest, e, hr⟩ := RW.ofE (h.later hb) (fun e0 => by subst e0; simp at hk)
  injection e with e1 e2 e3
  subst e1
  exact ⟨g, rfl, (h.lt rfl).2, hr.cellE hk⟩
theorem undE : Tryz.prog.underlying 29 = some (.slice 74) := by kernel_rfl
theorem infoE : (Tryz.prog.info? 74).map (fun i => (i.zero, i.size, i.bytes)) = some (some (.agg #[.string ⟨#[]⟩, .string ⟨#[]⟩, .slice none 0 0, .int .i64 0]), 4, 64) := by kernel_rfl
theorem elE : Tryz.prog.elem 29 = 74 := by kernel_rfl
theorem elE' : Tryz.prog.underlying 29 = some (.slice (Tryz.prog.elem 29)) := by kernel_rfl
theorem zeroE : ∀ w, (zeroValue 74).run Tryz.prog w = .ok (.agg #[.string ⟨#[]⟩, .string ⟨#[]⟩, .slice none 0 0, .int .i64 0]) w := fun w => by kernel_rfl
theorem e_hi (g n cap : Nat) (b : Int) (k : Nat) (hk : b = k) (hb : k ≤ cap) (hc : cap ≠ 0) (W : World) : (Instr.slice 29 (.slice (some ⟨g, 0, none⟩) n cap) none (some (.int .i64 b)) none).run Tryz.prog W = .ok (.slice (some ⟨g, 0, none⟩) k cap) W := by
  subst hk
  rw [run_slice_h (P := Tryz.prog) (w := W) 29 _ n cap elE' .i64 (k : Int) (by omega) (by omega), elE, Tryz.sizeOf74]
  simp only [Result.andThen_ok, sliced, Int.toNat_natCast, Option.map_some, Addr.add_lit]
  rw [if_neg hc]
  simp
theorem e_lo (g n cap : Nat) (a : Int) (k : Nat) (hk : a = k) (ha : k ≤ n) (hc : n ≤ cap) : ∃ o, (∀ W, (Instr.slice 29 (.slice (some ⟨g, 0, none⟩) n cap) (some (.int .i64 a)) none none).run Tryz.prog W = .ok (.slice (some ⟨g, o, none⟩) (n - k) (cap - k)) W) ∧ (o = k * 4 ∨ n - k = 0) := by
  subst hk
  by_cases h : k < cap
  · refine ⟨k * 4, fun W => ?_, .inl rfl⟩
    rw [run_slice_l (P := Tryz.prog) (w := W) 29 _ n cap elE' .i64 (k : Int) (by omega) (by omega), elE, Tryz.sizeOf74]
    simp only [Result.andThen_ok, sliced, Int.toNat_natCast, Option.map_some, Addr.add_lit]
    rw [if_neg (by omega), Nat.zero_add]
  · refine ⟨0, fun W => ?_, .inr (by omega)⟩
    rw [run_slice_l (P := Tryz.prog) (w := W) 29 _ n cap elE' .i64 (k : Int) (by omega) (by omega), elE, Tryz.sizeOf74]
    simp only [Result.andThen_ok, sliced, Int.toNat_natCast, Option.map_some, Addr.add_lit]
    rw [if_pos (by omega)]
theorem e_mid (g n cap : Nat) (a b : Int) (k j : Nat) (hk : a = k) (hj : b = j) (hkj : k ≤ j) (hjc : j ≤ cap) (hc : k < cap) (W : World) : (Instr.slice 29 (.slice (some ⟨g, 0, none⟩) n cap) (some (.int .i64 a)) (some (.int .i64 b)) none).run Tryz.prog W = .ok (.slice (some ⟨g, k * 4, none⟩) (j - k) (cap - k)) W := by
  subst hk
  subst hj
  rw [run_slice_lh (P := Tryz.prog) (w := W) 29 _ n cap elE' .i64 .i64 (k : Int) (j : Int) (by omega) (by omega) (by omega), elE, Tryz.sizeOf74]
  simp only [Result.andThen_ok, sliced, Int.toNat_natCast, Option.map_some, Addr.add_lit]
  rw [if_neg (by omega), Nat.zero_add]
theorem zc4_one (n : Nat) : ∀ v ∈ (Builtin.zeroCells (Value.agg #[.string ⟨#[]⟩, .string ⟨#[]⟩, .slice none 0 0, .int .i64 0]).cells n).toList, v.oneCell' = true := by
  intro v hv
  unfold Builtin.zeroCells at hv
  have h3 : (Value.agg #[.string ⟨#[]⟩, .string ⟨#[]⟩, .slice none 0 0, .int .i64 0]).cells = #[.string ⟨#[]⟩, .string ⟨#[]⟩, .slice none 0 0, .int .i64 0] := rfl
  rw [h3] at hv
  simp at hv
  obtain ⟨i, hi, rfl⟩ := hv
  have : i % 4 = 0 ∨ i % 4 = 1 ∨ i % 4 = 2 ∨ i % 4 = 3 := by omega
  rcases this with h | h | h | h <;> rw [h] <;> rfl
set_option maxRecDepth 100000 in
set_option maxHeartbeats 4000000 in
theorem edel_any {base : Nat} {w : World} {g cap : Nat} {l : List En} {rest : List Value} (h : RW 74 4 base w g cap (ec l) rest) (i m : Nat) (hi : i + 1 + m = l.length) (hl : l.length ≤ 4000000) :
    Calls Tryz.prog 60 #[.slice (some ⟨g, 0, none⟩) l.length cap, .int .i64 (i : Int), .int .i64 ((i : Int) + 1)] w fun e w' => e = .returned (.slice (some ⟨g, 0, none⟩) (i + m) cap) ∧ (∃ rest', RW 74 4 base w' g cap (ec (l.take i ++ l.drop (i + 1))) rest') ∧ Only [g] w w' := by
  have hsz := h.sz
  rw [ec_length] at hsz
  have hcm := h.cm
  unfold maxLen at hcm
  obtain ⟨i0, hq, hz0, hz1, hz2⟩ := info_parts infoE
  have hd : RW 74 4 base w.drew g cap (ec l) rest := ⟨h.blk, h.ge, h.cm, h.sz⟩
  obtain ⟨o, hlo, hoo⟩ := e_lo g l.length cap ((i : Int) + 1) (i + 1) (by omega) (by omega) (by omega)
  rw [show l.length - (i + 1) = m by omega] at hlo hoo
  have hdl : (l.drop (i + 1)).length = m := by simp; omega
  obtain ⟨w1, hap, hr1, ho1⟩ := hd.app undE hq hz1 i ⟨g, o, none⟩ m (cap - (i + 1)) (ec (l.drop (i + 1))) (by rw [ec_length, hdl]) (fun t u hu => by
    have ht := (List.getElem?_eq_some_iff.1 hu).1
    rw [ec_length, hdl] at ht
    rcases hoo with rfl | h0
    · rw [add_lit]
      refine hd.cell ?_
      have e1 := ec_drop l (i + 1) (by omega) rest
      have e2 : ((ec l ++ rest).drop ((i + 1) * 4))[t]? = some u := by rw [e1, List.getElem?_append_left (by rw [ec_length, hdl]; exact ht)]; exact hu
      rwa [List.getElem?_drop] at e2
    · subst h0; omega) (by omega) (ec_one _)
  rw [ec_take l i (by omega), ← ec_append] at hr1
  have h1s : (ec (l.take i ++ l.drop (i + 1))).length = (i + m) * 4 := by rw [ec_length]; simp; omega
  obtain ⟨w2, hcl, hr2, ho2⟩ := hr1.clear undE zeroE rfl ((i + m) * 4) 1 (cap - (i + m)) (by omega) (zc4_one _)
  rw [← h1s, List.take_left, h1s] at hr2
  have H2 : Hid ((∃ rest', RW 74 4 base w2 g cap (ec (l.take i ++ l.drop (i + 1))) rest') ∧ Only [g] w w2) := ⟨⟨_, hr2⟩, (Only.drew _ w 1).trans (ho1.trans ho2)⟩
  have hs1 := e_hi g l.length cap (i : Int) i rfl (by omega) (by omega)
  have hs2 := e_mid g (i + m) cap ((i : Int) + m) (l.length : Int) (i + m) l.length (by omega) rfl (by omega) (by omega) (by omega)
  rw [show l.length - (i + m) = 1 by omega] at hs2
  obtain ⟨n, hn⟩ : ∃ n, l.length = n := ⟨_, rfl⟩
  rw [hn] at hi hl hlo hs1 hs2 hsz ⊢
  obtain ⟨D, hD⟩ : ∃ D, Value.slice (some ⟨g, (i + m) * 4, none⟩) 1 (cap - (i + m)) = D := ⟨_, rfl⟩
  rw [hD] at hs2 hcl
  clear h hd hr1 ho1 h1s hr2 ho2 hdl hoo hn hD
  have k1 : ¬ ((i : Int) = (i : Int) + 1) := by omega
  have k2 : (i : Int) + 1 ≤ (n : Int) := by omega
  have k3 : (n : Int) ≤ (cap : Int) := by omega
  have k4 : (0 : Int) ≤ (i : Int) := by omega
  go_enter Tryz.func60, Tryz.ntmps60
  go_wp2_with fail
  go_region_held3 (fun _ => True) (exact trivial) (first | (refine step_app_run rfl (.tmp 22) (.tmp 25) 29 29 rfl (.slice (some ⟨g, 0, none⟩) i cap) (.slice (some ⟨g, o, none⟩) m (cap - (i + 1))) rfl rfl (hap _) ?_))
  go_wp2_with fail
  go_ret
  exact ⟨rfl, H2.out.1, H2.out.2⟩
end Go.Proofs.YtddaoloabfkheaaGreatDoor

namespace Go.Proofs.YtddaoloabfkheaaGreatDoor
open Go.RowKit
theorem hid_of {p : Prop} (h : p) : Hid p := h

set_option maxRecDepth 100000 in
set_option maxHeartbeats 4000000 in
theorem lsS_any {w : World} {v : Value} {l : List (List UInt8)} (h : SS w v l) (hx : ∀ x ∈ l, x.length ≤ 1000000000) (hl : l.length ≤ 100000) (ht : (l.flatMap txB).length ≤ 9000000000) :
    Calls Tryz.prog 114 #[v, .func (.func 30) #[] #[]] w (BtP w (le 4 l.length ++ l.flatMap txB)) := by
  have H : Hid (SS w v l) := h
  have HQ : Hid (∀ x ∈ l, x.length ≤ 1000000000) := hx
  obtain ⟨av, cv, hvv, _⟩ := h.form
  clear h hx
  obtain ⟨n, hn⟩ : ∃ n, l.length = n := ⟨_, rfl⟩
  rw [hn] at hvv hl
  subst hvv
  rw [hn]
  have HN : Hid (l.length = n) := hn
  have HP : Hid (∀ W, Calls Tryz.prog 68 #[.slice none 0 0, .int .u32 (n : Int)] W fun e w' => ∃ v', e = .returned v' ∧ OwnB W.heap.size w' v' ([] ++ le 4 n) ∧ Below W.heap.size W w') := fun W => put32_any (BS_nil W) _ n rfl (by omega) (by simp)
  have HT : Hid ((l.flatMap txB).length ≤ 9000000000) := ht
  have kw : IntKind.u32.wrap (n : Int) = (n : Int) := by rw [IntKind.wrap_u32]; omega
  clear ht hn
  go_enter Tryz.func114, Tryz.ntmps114
  go_wp2_with fail
  refine (HP.out _).mono ?_
  rintro e w1 ⟨v1, rfl, ho1, hb1⟩
  obtain ⟨a1, n1, c1, rfl⟩ := ho1.bs.ones
  have H1 : Hid (RWs w.heap.size (w1.alloc (.cells #[.slice a1 n1 c1] 41)) (.slice (some ⟨w1.heap.size, 0, none⟩) 1 1) [le 4 n] ∧ Below w.heap.size w (w1.alloc (.cells #[.slice a1 n1 c1] 41))) :=
    ⟨(RWs.one ho1).mono hb1.size, bstep hb1 (balloc _ _)⟩
  clear ho1 hb1 kw
  go_wp2_with fail
  go_loopw [5, 15] (fun s5 s15 wr => ∃ (k : Nat) (v0 : Value), v0 = s5 ∧ s15 = .int .i64 k ∧ k ≤ n ∧ RWs w.heap.size wr v0 (le 4 n :: (l.take k).map txB) ∧ Below w.heap.size w wr) (fun _ s15 _ => n - (intOf s15).toNat)
  case atStart => exact ⟨0, _, rfl, rfl, by omega, by simpa using H1.out.1, H1.out.2⟩
  case round =>
    obtain ⟨k, v0, rfl, rfl, hk, ho, hb⟩ := hrel
    have HX : Hid (RWs w.heap.size wr v0 (le 4 n :: (l.take k).map txB) ∧ Below w.heap.size w wr) := ⟨ho, hb⟩
    clear ho hb
    by_cases hlt : k < n
    · have hkl : k < l.length := by rw [HN.out]; exact hlt
      obtain ⟨b, off, ea, hbw, d0⟩ := SS.at H.out HX.out.2 hkl
      subst ea
      obtain ⟨x, hxe⟩ : ∃ x, l[k] = x := ⟨_, rfl⟩
      have HA : Hid (l[k] = x) := hxe
      have HC : Hid (∀ W, Below w.heap.size w W → Calls Tryz.prog 30 #[.string (bs x)] W (BtP W (txB x))) := fun W _ => txrow_any x W (HQ.out x (hxe ▸ List.getElem_mem hkl))
      rw [hxe] at d0
      clear hxe
      have k1 : (k : Int) < (n : Int) := by omega
      have k2 : (0 : Int) ≤ (k : Int) := by omega
      have HL : Hid ((le 4 n :: (l.take k).map txB).length + 1 ≤ 100000000) := by show _ ≤ _; simp; omega
      go_wp2_with fail
      refine (HC.out _ HX.out.2).mono ?_
      rintro e w2 ⟨v2, rfl, ho2, hb2⟩
      obtain ⟨a2, n2, c2, rfl⟩ := ho2.bs.ones
      have H2 : Hid (OwnB wr.heap.size w2 (.slice a2 n2 c2) (txB x) ∧ Below wr.heap.size wr w2) := ⟨ho2.mono (Nat.le_refl _), hb2⟩
      clear ho2 hb2 HC
      go_wp2_with (at_builtin; refine app_RR (w0 := wr) HX.out.1 H2.out.2 H2.out.1 (Nat.le_refl _) HL.out HX.out.2.size rfl (.tmp 19) (.tmp 23) rfl rfl rfl ?_; intro v3 w3 ho3 hb3; have H3 : Hid (RWs w.heap.size w3 v3 (le 4 n :: (l.take k).map txB ++ [txB x]) ∧ Below w.heap.size w2 w3) := ⟨ho3, hb3⟩; clear ho3 hb3)
      go_roundw
      case rel =>
        refine ⟨k + 1, _, rfl, by go_num, by omega, ?_, below_trans (bstep HX.out.2 H2.out.2) H3.out.2⟩
        rw [List.take_succ_eq_append_getElem hkl, List.map_append, List.map_cons, List.map_nil, HA.out]
        exact H3.out.1
      case measure => simp [intOf]; omega
    · obtain rfl : n = k := by omega
      have k1 : ¬ (n : Int) < (n : Int) := by omega
      have HJ : Hid (Calls Tryz.prog 29 #[v0] wr fun e w' => ∃ v', e = .returned v' ∧ OwnB wr.heap.size w' v' (le 4 n :: l.map txB).flatten ∧ Below wr.heap.size wr w') := by
        have hr := HX.out.1
        rw [List.take_of_length_le (by have := HN.out; omega)] at hr
        refine ojoin_any hr.rws ?_ ?_
        · have := HN.out; simp; omega
        · have := HT.out; unfold tot; rw [List.flatten_cons, List.length_append, le_length, ← List.flatMap_def]; omega
      go_wp2_with fail
      refine HJ.out.mono ?_
      rintro e w4 ⟨v4, rfl, ho4, hb4⟩
      have H4 : Hid (OwnB w.heap.size w4 v4 (le 4 n ++ l.flatMap txB) ∧ Below w.heap.size w w4) := ⟨by rw [List.flatMap_def]; exact ho4.mono HX.out.2.size, bstep HX.out.2 hb4⟩
      clear ho4 hb4
      go_wp2_with fail
      go_ret
      exact ⟨_, rfl, H4.out⟩

set_option maxRecDepth 100000 in
set_option maxHeartbeats 4000000 in
theorem lsL_any {w : World} {v : Value} {l : List Lb} (h : LS w v l) (hx : ∀ x ∈ l, x.pkg.length ≤ 1000000000 ∧ x.name.length ≤ 1000000000) (hl : l.length ≤ 100000) (ht : (l.flatMap lbB).length ≤ 9000000000) :
    Calls Tryz.prog 115 #[v, .func (.func 116) #[] #[]] w (BtP w (le 4 l.length ++ l.flatMap lbB)) := by
  have H : Hid (LS w v l) := h
  have HQ : Hid (∀ x ∈ l, x.pkg.length ≤ 1000000000 ∧ x.name.length ≤ 1000000000) := hx
  obtain ⟨av, cv, hvv, _⟩ := h.form
  clear h hx
  obtain ⟨n, hn⟩ : ∃ n, l.length = n := ⟨_, rfl⟩
  rw [hn] at hvv hl
  subst hvv
  rw [hn]
  have HN : Hid (l.length = n) := hn
  have HP : Hid (∀ W, Calls Tryz.prog 68 #[.slice none 0 0, .int .u32 (n : Int)] W fun e w' => ∃ v', e = .returned v' ∧ OwnB W.heap.size w' v' ([] ++ le 4 n) ∧ Below W.heap.size W w') := fun W => put32_any (BS_nil W) _ n rfl (by omega) (by simp)
  have HT : Hid ((l.flatMap lbB).length ≤ 9000000000) := ht
  have kw : IntKind.u32.wrap (n : Int) = (n : Int) := by rw [IntKind.wrap_u32]; omega
  clear ht hn
  go_enter Tryz.func115, Tryz.ntmps115
  go_wp2_with fail
  refine (HP.out _).mono ?_
  rintro e w1 ⟨v1, rfl, ho1, hb1⟩
  obtain ⟨a1, n1, c1, rfl⟩ := ho1.bs.ones
  have H1 : Hid (RWs w.heap.size (w1.alloc (.cells #[.slice a1 n1 c1] 41)) (.slice (some ⟨w1.heap.size, 0, none⟩) 1 1) [le 4 n] ∧ Below w.heap.size w (w1.alloc (.cells #[.slice a1 n1 c1] 41))) :=
    ⟨(RWs.one ho1).mono hb1.size, bstep hb1 (balloc _ _)⟩
  clear ho1 hb1 kw
  go_wp2_with fail
  go_loopw [5, 15] (fun s5 s15 wr => ∃ (k : Nat) (v0 : Value), v0 = s5 ∧ s15 = .int .i64 k ∧ k ≤ n ∧ RWs w.heap.size wr v0 (le 4 n :: (l.take k).map lbB) ∧ Below w.heap.size w wr) (fun _ s15 _ => n - (intOf s15).toNat)
  case atStart => exact ⟨0, _, rfl, rfl, by omega, by simpa using H1.out.1, H1.out.2⟩
  case round =>
    obtain ⟨k, v0, rfl, rfl, hk, ho, hb⟩ := hrel
    have HX : Hid (RWs w.heap.size wr v0 (le 4 n :: (l.take k).map lbB) ∧ Below w.heap.size w wr) := ⟨ho, hb⟩
    clear ho hb
    by_cases hlt : k < n
    · have hkl : k < l.length := by rw [HN.out]; exact hlt
      obtain ⟨b, off, ea, hbw, d0, d1⟩ := LS.at H.out HX.out.2 hkl
      subst ea
      obtain ⟨x, hxe⟩ : ∃ x, l[k] = x := ⟨_, rfl⟩
      have HA : Hid (l[k] = x) := hxe
      have HC : Hid (∀ W, Below w.heap.size w W → Calls Tryz.prog 116 #[.agg #[.string (bs x.pkg), .string (bs x.name)]] W (BtP W (lbB x))) := fun W _ => lbrow_any x W (HQ.out x (hxe ▸ List.getElem_mem hkl)).1 (HQ.out x (hxe ▸ List.getElem_mem hkl)).2
      rw [hxe] at d0 d1
      clear hxe
      have k1 : (k : Int) < (n : Int) := by omega
      have k2 : (0 : Int) ≤ (k : Int) := by omega
      have HL : Hid ((le 4 n :: (l.take k).map lbB).length + 1 ≤ 100000000) := by show _ ≤ _; simp; omega
      go_wp2_with fail
      refine (HC.out _ (bstep HX.out.2 (balloc _ _))).mono ?_
      rintro e w2 ⟨v2, rfl, ho2, hb2⟩
      obtain ⟨a2, n2, c2, rfl⟩ := ho2.bs.ones
      have H2 : Hid (OwnB wr.heap.size w2 (.slice a2 n2 c2) (lbB x) ∧ Below wr.heap.size wr w2) := ⟨ho2.mono (balloc _ _).size, bstep (balloc _ _) hb2⟩
      clear ho2 hb2 HC
      go_wp2_with (at_builtin; refine app_RR (w0 := wr) HX.out.1 H2.out.2 H2.out.1 (Nat.le_refl _) HL.out HX.out.2.size rfl (.tmp 19) (.tmp 23) rfl rfl rfl ?_; intro v3 w3 ho3 hb3; have H3 : Hid (RWs w.heap.size w3 v3 (le 4 n :: (l.take k).map lbB ++ [lbB x]) ∧ Below w.heap.size w2 w3) := ⟨ho3, hb3⟩; clear ho3 hb3)
      go_roundw
      case rel =>
        refine ⟨k + 1, _, rfl, by go_num, by omega, ?_, below_trans (bstep HX.out.2 H2.out.2) H3.out.2⟩
        rw [List.take_succ_eq_append_getElem hkl, List.map_append, List.map_cons, List.map_nil, HA.out]
        exact H3.out.1
      case measure => simp [intOf]; omega
    · obtain rfl : n = k := by omega
      have k1 : ¬ (n : Int) < (n : Int) := by omega
      have HJ : Hid (Calls Tryz.prog 29 #[v0] wr fun e w' => ∃ v', e = .returned v' ∧ OwnB wr.heap.size w' v' (le 4 n :: l.map lbB).flatten ∧ Below wr.heap.size wr w') := by
        have hr := HX.out.1
        rw [List.take_of_length_le (by have := HN.out; omega)] at hr
        refine ojoin_any hr.rws ?_ ?_
        · have := HN.out; simp; omega
        · have := HT.out; unfold tot; rw [List.flatten_cons, List.length_append, le_length, ← List.flatMap_def]; omega
      go_wp2_with fail
      refine HJ.out.mono ?_
      rintro e w4 ⟨v4, rfl, ho4, hb4⟩
      have H4 : Hid (OwnB w.heap.size w4 v4 (le 4 n ++ l.flatMap lbB) ∧ Below w.heap.size w w4) := ⟨by rw [List.flatMap_def]; exact ho4.mono HX.out.2.size, bstep HX.out.2 hb4⟩
      clear ho4 hb4
      go_wp2_with fail
      go_ret
      exact ⟨_, rfl, H4.out⟩

/-- a target that is short enough to be laid -/
structure TgS (t : Tg) : Prop where
  name : t.name.length ≤ 1000000000
  sl : t.srcs.length ≤ 100000
  dl : t.deps.length ≤ 100000
  el : t.see.length ≤ 100000
  all : (tgB t).length ≤ 1000000000
theorem TgS.of {l : List Tg} (h : TBd l) {t : Tg} (ht : t ∈ l) : TgS t := by
  obtain ⟨h1, h2, h3, h4⟩ := h.each t ht
  have h5 := (tgB_pieces t).1
  rw [txB_len] at h5
  exact ⟨by omega, by omega, by omega, by omega, by omega⟩
theorem TgS.txs {t : Tg} (h : TgS t) : (∀ x ∈ t.srcs, x.length ≤ 1000000000) ∧ (t.srcs.flatMap txB).length ≤ 9000000000 ∧ (∀ x ∈ t.see, x.length ≤ 1000000000) ∧ (t.see.flatMap txB).length ≤ 9000000000 ∧ (∀ x ∈ t.deps, x.pkg.length ≤ 1000000000 ∧ x.name.length ≤ 1000000000) ∧ (t.deps.flatMap lbB).length ≤ 9000000000 := by
  have h0 := h.all
  obtain ⟨_, h1, h2, h3⟩ := tgB_pieces t
  have e1 : (t.srcs.flatMap txB).length ≤ (txsB t.srcs).length := by unfold txsB; rw [List.length_append]; omega
  have e2 : (t.see.flatMap txB).length ≤ (txsB t.see).length := by unfold txsB; rw [List.length_append]; omega
  refine ⟨fun x hx => ?_, by omega, fun x hx => ?_, by omega, fun x hx => ?_, by omega⟩
  · have := flat_one txB hx; rw [txB_len] at this; omega
  · have := flat_one txB hx; rw [txB_len] at this; omega
  · have := flat_one lbB hx
    simp only [lbB, List.length_append, txB_len] at this
    omega
theorem tgB_four (t : Tg) : tgB t = txB t.name ++ (le 4 t.srcs.length ++ t.srcs.flatMap txB) ++ (le 4 t.deps.length ++ t.deps.flatMap lbB) ++ (le 4 t.see.length ++ t.see.flatMap txB) := by
  unfold tgB txsB
  simp only [List.append_assoc]

set_option maxRecDepth 100000 in
set_option maxHeartbeats 8000000 in
theorem tgrow_any {w : World} {v : Tv} {t : Tg} (h : TRead w v t) (hs : TgS t) : Calls Tryz.prog 99 #[v.val] w (BtP w (tgB t)) := by
  have hq := hs.txs
  have hfo := tgB_four t
  have HL : Hid ((txB t.name).length + (le 4 t.srcs.length ++ t.srcs.flatMap txB).length + (le 4 t.deps.length ++ t.deps.flatMap lbB).length + (le 4 t.see.length ++ t.see.flatMap txB).length ≤ 10000000000) := by
    show _ ≤ _
    have := hs.all
    rw [hfo] at this
    simp only [List.length_append] at this ⊢
    omega
  rw [hfo]
  have HP : Hid (∀ W, Calls Tryz.prog 30 #[.string (bs t.name)] W (BtP W (txB t.name))) := fun W => txrow_any t.name W hs.name
  have HS : Hid (∀ W, Below w.heap.size w W → Calls Tryz.prog 114 #[.slice v.sa v.sn v.sc, .func (.func 30) #[] #[]] W (BtP W (le 4 t.srcs.length ++ t.srcs.flatMap txB))) := fun W hW => lsS_any (h.s.later hW) hq.1 hs.sl hq.2.1
  have HD : Hid (∀ W, Below w.heap.size w W → Calls Tryz.prog 115 #[.slice v.da v.dn v.dc, .func (.func 116) #[] #[]] W (BtP W (le 4 t.deps.length ++ t.deps.flatMap lbB))) := fun W hW => lsL_any (h.d.later hW) hq.2.2.2.2.1 hs.dl hq.2.2.2.2.2
  have HE : Hid (∀ W, Below w.heap.size w W → Calls Tryz.prog 114 #[.slice v.ea v.en v.ec, .func (.func 30) #[] #[]] W (BtP W (le 4 t.see.length ++ t.see.flatMap txB))) := fun W hW => lsS_any (h.e.later hW) hq.2.2.1 hs.el hq.2.2.2.1
  have hnm := h.name
  clear h hs hq hfo
  obtain ⟨nm, sa, sn, sc, da, dn, dc, ea, en, ec⟩ := v
  simp only at HS HD HE hnm
  subst hnm
  simp only [Tv.val]
  generalize hb1 : txB t.name = b1 at *
  generalize hb2 : le 4 t.srcs.length ++ t.srcs.flatMap txB = b2 at *
  generalize hb3 : le 4 t.deps.length ++ t.deps.flatMap lbB = b3 at *
  generalize hb4 : le 4 t.see.length ++ t.see.flatMap txB = b4 at *
  clear hb1 hb2 hb3 hb4
  generalize t.name = nm at *
  obtain ⟨w0, hw0⟩ : ∃ w0, w.alloc (.cells #[.string (bs nm), .slice sa sn sc, .slice da dn dc, .slice ea en ec] 66) = w0 := ⟨_, rfl⟩
  have x0 : w0.cell? ⟨w.heap.size, 0, none⟩ = some (.string (bs nm)) := by rw [← hw0]; simp
  have x1 : w0.cell? ⟨w.heap.size, 1, none⟩ = some (.slice sa sn sc) := by rw [← hw0]; simp
  have x2 : w0.cell? ⟨w.heap.size, 2, none⟩ = some (.slice da dn dc) := by rw [← hw0]; simp
  have x3 : w0.cell? ⟨w.heap.size, 3, none⟩ = some (.slice ea en ec) := by rw [← hw0]; simp
  have HX : Hid (∀ W, Below w0.heap.size w0 W → W.cell? ⟨w.heap.size, 0, none⟩ = some (.string (bs nm)) ∧ W.cell? ⟨w.heap.size, 1, none⟩ = some (.slice sa sn sc) ∧ W.cell? ⟨w.heap.size, 2, none⟩ = some (.slice da dn dc) ∧ W.cell? ⟨w.heap.size, 3, none⟩ = some (.slice ea en ec)) := fun W hW => by
    have hlt : w.heap.size < w0.heap.size := by rw [← hw0]; simp
    exact ⟨(hW.cell (p := ⟨w.heap.size, 0, none⟩) hlt).trans x0, (hW.cell (p := ⟨w.heap.size, 1, none⟩) hlt).trans x1, (hW.cell (p := ⟨w.heap.size, 2, none⟩) hlt).trans x2, (hW.cell (p := ⟨w.heap.size, 3, none⟩) hlt).trans x3⟩
  have HB : Hid (Below w.heap.size w w0) := by rw [← hw0]; exact balloc _ _
  have HW : Hid (w.alloc (.cells #[.string (bs nm), .slice sa sn sc, .slice da dn dc, .slice ea en ec] 66) = w0) := hw0
  clear hw0
  go_enter Tryz.func99, Tryz.ntmps99
  go_wp2_with fail
  rw [HW.out]
  go_region_held3 (fun w' => w'.cell? ⟨w.heap.size, 0, none⟩ = some (.string (bs nm)) ∧ w'.cell? ⟨w.heap.size, 1, none⟩ = some (.slice sa sn sc) ∧ w'.cell? ⟨w.heap.size, 2, none⟩ = some (.slice da dn dc) ∧ w'.cell? ⟨w.heap.size, 3, none⟩ = some (.slice ea en ec)) (first | (with_reducible exact ⟨x0, x1, x2, x3⟩) | (with_reducible exact HX.out _ (Below.refl _ _).drew) | (with_reducible exact KA.out) | (with_reducible exact KB.out) | (with_reducible exact KC.out) | (with_reducible exact KD.out) | (with_reducible exact KE.out) | go_keep) (first
    | (go_at_call 29; (with_reducible refine (join4 O4.out.1 O4.out.2.1 O4.out.2.2.1 O4.out.2.2.2.1 HL.out).mono ?_); rintro e w5 ⟨v5, rfl, ho5, hb5⟩; have O5 : Hid (OwnB w.heap.size w5 v5 (b1 ++ b2 ++ b3 ++ b4) ∧ Below w.heap.size w w5) := ⟨ho5.mono (Nat.le_trans HB.out.size O4.out.2.2.2.2.size), bstep HB.out (bstep O4.out.2.2.2.2 hb5)⟩; have KE := hid_of (HX.out w5 (bstep O4.out.2.2.2.2 hb5)); clear ho5 hb5)
    | (go_at_call 114; (with_reducible refine (HE.out _ (bstep HB.out O3.out.2.2.2)).mono ?_); rintro e w4 ⟨v4, rfl, ho4, hb4⟩; obtain ⟨a4, n4, c4, rfl⟩ := ho4.bs.ones; have O4 : Hid (BS w4 (.slice a1 n1 c1) b1 ∧ BS w4 (.slice a2 n2 c2) b2 ∧ BS w4 (.slice a3 n3 c3) b3 ∧ BS w4 (.slice a4 n4 c4) b4 ∧ Below w0.heap.size w0 w4) := ⟨O3.out.1.later hb4, O3.out.2.1.later hb4, O3.out.2.2.1.later hb4, ho4.bs, bstep O3.out.2.2.2 hb4⟩; have KD := hid_of (HX.out w4 O4.out.2.2.2.2); clear ho4 hb4)
    | (go_at_call 115; (with_reducible refine (HD.out _ (bstep HB.out O2.out.2.2)).mono ?_); rintro e w3 ⟨v3, rfl, ho3, hb3⟩; obtain ⟨a3, n3, c3, rfl⟩ := ho3.bs.ones; have O3 : Hid (BS w3 (.slice a1 n1 c1) b1 ∧ BS w3 (.slice a2 n2 c2) b2 ∧ BS w3 (.slice a3 n3 c3) b3 ∧ Below w0.heap.size w0 w3) := ⟨O2.out.1.later hb3, O2.out.2.1.later hb3, ho3.bs, bstep O2.out.2.2 hb3⟩; have KC := hid_of (HX.out w3 O3.out.2.2.2); clear ho3 hb3)
    | (go_at_call 114; (with_reducible refine (HS.out _ (bstep HB.out O1.out.2)).mono ?_); rintro e w2 ⟨v2, rfl, ho2, hb2⟩; obtain ⟨a2, n2, c2, rfl⟩ := ho2.bs.ones; have O2 : Hid (BS w2 (.slice a1 n1 c1) b1 ∧ BS w2 (.slice a2 n2 c2) b2 ∧ Below w0.heap.size w0 w2) := ⟨O1.out.1.later hb2, ho2.bs, bstep O1.out.2 hb2⟩; have KB := hid_of (HX.out w2 O2.out.2.2); clear ho2 hb2)
    | (go_at_call 30; (with_reducible refine (HP.out _).mono ?_); rintro e w1 ⟨v1, rfl, ho1, hb1⟩; obtain ⟨a1, n1, c1, rfl⟩ := ho1.bs.ones; have O1 : Hid (BS w1 (.slice a1 n1 c1) b1 ∧ Below w0.heap.size w0 w1) := ⟨ho1.bs, bstep (Below.refl _ _).drew hb1⟩; have KA := hid_of (HX.out w1 O1.out.2); clear ho1 hb1))
  go_wp2_with fail
  go_ret
  exact ⟨_, rfl, O5.out⟩
end Go.Proofs.YtddaoloabfkheaaGreatDoor
