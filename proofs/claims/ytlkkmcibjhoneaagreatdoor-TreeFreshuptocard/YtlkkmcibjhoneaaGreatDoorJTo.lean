/-
  A stopped tree and one that is not, plain: TreeStops; what stays: TreeSound.
  Rows of steps of the call's own.
-/
import Derived.Test.YtlkkmcibjhoneaaGreatDoorTr
import Derived.Test.YtlkkmcibjhoneaaGreatDoorTa1
namespace Go.Proofs.YtlkkmcibjhoneaaGreatDoor

/-- what is told of them is alike -/
structure Al (T U : TT) : Prop where
  fs : T.fs = U.fs
  ds : T.ds = U.ds
  jl : T.jl = U.jl
  st : T.st = U.st
theorem Al.refl (T : TT) : Al T T := ⟨rfl, rfl, rfl, rfl⟩
/-- a call that is a step -/
def isS (o : Opp) : Bool := decide (1 ≤ o.kind) && decide (o.kind ≤ 6)
theorem isS_iff {o : Opp} : isS o = true ↔ 1 ≤ o.kind ∧ o.kind ≤ 6 := by simp [isS]
theorem cnt_done {T : TT} (h : T.sp ≠ 1) (h0 : 0 ≤ T.sp) (b : List UInt8) : T.cnt b = ({ T with st := T.st + 1, sp := if T.sp = 0 then 0 else T.sp - 1 }, true) := by
  unfold TT.cnt
  split
  · rename_i e
    simp [e]
  · rename_i e
    rw [if_pos (by omega)]
/-- the bytes that are torn -/
def trn (o : Opp) : List UInt8 := if o.kind = 5 then o.b else []
theorem opR_step {o : Opp} (h : isS o = true) : ∃ g : TT → TT × Int, (∀ T, opR o T = T.step (trn o) g) ∧ ∀ T U : TT, T.fs = U.fs → T.ds = U.ds → T.jl = U.jl →
    ((g T).1.fs = (g U).1.fs ∧ (g T).1.ds = (g U).1.ds ∧ (g T).1.jl = (g U).1.jl) ∧ (g T).1.st = T.st ∧ (g T).1.sp = T.sp ∧ (g T).1.dn = T.dn ∧ (g T).1.tn = T.tn ∧ (g T).2 = (g U).2 := by
  obtain ⟨h1, h2⟩ := isS_iff.1 h
  unfold opR trn
  rcases (by omega : o.kind = 1 ∨ o.kind = 2 ∨ o.kind = 3 ∨ o.kind = 4 ∨ o.kind = 5 ∨ o.kind = 6) with e | e | e | e | e | e
  · refine ⟨mkG o.p, fun T => by simp [e, TT.mk'], fun T U e1 e2 e3 => ?_⟩
    unfold mkG mkB
    rw [e1, e2]
    split
    · exact ⟨⟨by first | rfl | exact e1, by first | rfl | exact e2, by first | rfl | exact e3⟩, rfl, rfl, rfl, rfl, rfl⟩
    · exact ⟨⟨by first | rfl | exact e1, by first | rfl | exact e2, by first | rfl | exact e3⟩, rfl, rfl, rfl, rfl, rfl⟩
  · refine ⟨wrG o.f, fun T => by simp [e, TT.wr], fun T U e1 e2 e3 => ?_⟩
    unfold wrG wrB
    rw [e2]
    split
    · split
      · exact ⟨⟨by show insF _ T.fs = insF _ U.fs; rw [e1], by first | rfl | exact e2, by first | rfl | exact e3⟩, rfl, rfl, rfl, rfl, rfl⟩
      · exact ⟨⟨by first | rfl | exact e1, by first | rfl | exact e2, by first | rfl | exact e3⟩, rfl, rfl, rfl, rfl, rfl⟩
    · exact ⟨⟨by first | rfl | exact e1, by first | rfl | exact e2, by first | rfl | exact e3⟩, rfl, rfl, rfl, rfl, rfl⟩
  · refine ⟨dlG o.p, fun T => by simp [e, TT.dl], fun T U e1 e2 e3 => ?_⟩
    unfold dlG
    rw [e1]
    split
    · exact ⟨⟨by first | rfl | exact e1, by first | rfl | exact e2, by first | rfl | exact e3⟩, rfl, rfl, rfl, rfl, rfl⟩
    · exact ⟨⟨by first | rfl | exact e1, by first | rfl | exact e2, by first | rfl | exact e3⟩, rfl, rfl, rfl, rfl, rfl⟩
  · refine ⟨rmG o.p, fun T => by simp [e, TT.rm], fun T U e1 e2 e3 => ?_⟩
    unfold rmG rmB emp
    rw [e1, e2]
    split
    · exact ⟨⟨by first | rfl | exact e1, by first | rfl | exact e2, by first | rfl | exact e3⟩, rfl, rfl, rfl, rfl, rfl⟩
    · exact ⟨⟨by first | rfl | exact e1, by first | rfl | exact e2, by first | rfl | exact e3⟩, rfl, rfl, rfl, rfl, rfl⟩
  · refine ⟨apG o.b, fun T => by simp [e, TT.ap], fun T U e1 e2 e3 => ?_⟩
    exact ⟨⟨e1, e2, by show T.jl ++ _ = U.jl ++ _; rw [e3]⟩, rfl, rfl, rfl, rfl, rfl⟩
  · refine ⟨clG, fun T => by simp [e, TT.cl], fun T U e1 e2 e3 => ?_⟩
    exact ⟨⟨by first | rfl | exact e1, by first | rfl | exact e2, by first | rfl | exact e3⟩, rfl, rfl, rfl, rfl, rfl⟩
/-- a step that is done on both -/
theorem op_both {o : Opp} (h : isS o = true) {T U : TT} (ha : Al T U) (hT : T.sp ≠ 1) (hU : U.sp ≠ 1) (h0 : 0 ≤ T.sp) (h1 : 0 ≤ U.sp) :
    Al (opR o T).1 (opR o U).1 ∧ (opR o T).1.sp = (if T.sp = 0 then 0 else T.sp - 1) ∧ (opR o T).1.dn = T.dn ∧ (opR o T).1.tn = T.tn ∧ (opR o T).1.st = T.st + 1 := by
  obtain ⟨g, e, hg⟩ := opR_step h
  rw [e, e]
  unfold TT.step
  rw [cnt_done hT h0, cnt_done hU h1]
  simp only [if_true]
  obtain ⟨⟨a1, a2, a3⟩, b1, b2, b3, b4, _⟩ := hg { T with st := T.st + 1, sp := if T.sp = 0 then 0 else T.sp - 1 } { U with st := U.st + 1, sp := if U.sp = 0 then 0 else U.sp - 1 } ha.fs ha.ds ha.jl
  obtain ⟨_, c1, _⟩ := hg { U with st := U.st + 1, sp := if U.sp = 0 then 0 else U.sp - 1 } { U with st := U.st + 1, sp := if U.sp = 0 then 0 else U.sp - 1 } rfl rfl rfl
  exact ⟨⟨a1, a2, a3, by rw [b1, c1]; show T.st + 1 = U.st + 1; rw [ha.st]⟩, b2, b3, b4, b1⟩
theorem cnt_down {T : TT} (hT : T.sp = 1) (b : List UInt8) : T.cnt b = ({ T with st := T.st + 1, dn := true, tn := if T.dn then T.tn else b }, false) := by
  obtain ⟨fs, ds, jl, st, sp, dn, tn⟩ := T
  simp only at hT
  subst hT
  cases dn <;> simp [TT.cnt]
/-- a step that is not done -/
theorem op_down {o : Opp} (h : isS o = true) {T : TT} (hT : T.sp = 1) : opR o T = ({ T with st := T.st + 1, dn := true, tn := if T.dn then T.tn else trn o }, 15) := by
  obtain ⟨g, e, hg⟩ := opR_step h
  rw [e]
  unfold TT.step
  rw [cnt_down hT]
  rfl
theorem runT_cons (T : TT) (o : Opp) (l : List Opp) : runT T (o :: l) = runT (opR o T).1 l := rfl
theorem runT_app (T : TT) (l m : List Opp) : runT T (l ++ m) = runT (runT T l) m := List.foldl_append
/-- steps that are done on both -/
theorem run_both : ∀ (l : List Opp) {T U : TT}, (∀ o ∈ l, isS o = true) → Al T U → 0 ≤ T.sp → U.sp = 0 → (T.sp = 0 ∨ (l.length : Int) < T.sp) →
    Al (runT T l) (runT U l) ∧ (runT T l).sp = (if T.sp = 0 then 0 else T.sp - l.length) ∧ (runT T l).dn = T.dn ∧ (runT T l).tn = T.tn ∧ (runT T l).st = T.st + l.length ∧ (runT U l).sp = 0
  | [], T, U, _, ha, h0, hU, _ => ⟨ha, by simp [runT], rfl, rfl, rfl, hU⟩
  | o :: l, T, U, hs, ha, h0, hU, hl => by
    have hl' : T.sp = 0 ∨ (l.length : Int) + 1 < T.sp := by simpa using hl
    have ho := hs o (by simp)
    obtain ⟨a1, a2, a3, a4, a5⟩ := op_both ho ha (by omega) (by omega) h0 (by omega)
    obtain ⟨_, b2, _⟩ := op_both ho (Al.refl U) (by omega) (by omega) (by omega) (by omega)
    rw [if_pos hU] at b2
    rw [runT_cons, runT_cons]
    have h1 : 0 ≤ (opR o T).1.sp := by rw [a2]; split <;> omega
    have h2 : (opR o T).1.sp = 0 ∨ (l.length : Int) < (opR o T).1.sp := by
      rw [a2]
      rcases hl' with e | e
      · rw [if_pos e]; exact .inl rfl
      · rw [if_neg (by omega)]; exact .inr (by omega)
    obtain ⟨c1, c2, c3, c4, c5, c6⟩ := run_both l (fun x hx => hs x (by simp [hx])) a1 h1 b2 h2
    refine ⟨c1, ?_, c3.trans a3, c4.trans a4, by rw [c5, a5, List.length_cons]; omega, c6⟩
    rw [c2, a2, List.length_cons]
    rcases hl' with e | e
    · simp [e]
    · rw [if_neg (show ¬ T.sp = 0 by omega), if_neg (show ¬ (T.sp - 1) = 0 by omega)]
      push_cast
      omega
/-- steps that are not done -/
theorem run_down : ∀ (l : List Opp) {T : TT}, (∀ o ∈ l, isS o = true) → T.sp = 1 → T.dn = true → runT T l = { T with st := T.st + l.length }
  | [], T, _, _, _ => rfl
  | o :: l, T, hs, h1, h2 => by
    rw [runT_cons, op_down (hs o (by simp)) h1, run_down l (fun x hx => hs x (by simp [hx])) (by exact h1) rfl]
    simp only [h2, if_true, List.length_cons]
    congr 1
    omega
/-- how many are done -/
def mOf (n : Int) (k : Nat) : Nat := if 1 ≤ n ∧ n ≤ k then (n - 1).toNat else k
/-- what TreeStops asks, plain -/
theorem stops_plain {l : List Fl} {S : List Opp} {n : Int} (hs : ∀ o ∈ S, isS o = true) :
    let T := runT ((newT l).stop n) S
    let U := runT (newT l) (S.take (mOf n S.length))
    T.st = S.length ∧ U.st = mOf n S.length ∧ T.fs = U.fs ∧ T.ds = U.ds ∧ T.jl = U.jl ∧
      ((mOf n S.length = S.length → T.tn = []) ∧ ∀ h : mOf n S.length < S.length, T.tn = trn (S[mOf n S.length]'h) ∧ T.sp = 1 ∧ T.dn = true) := by
  intro T U
  have hst : (newT l).stop n = { newT l with sp := if 1 ≤ n then n else 0 } := rfl
  have ha : Al ((newT l).stop n) (newT l) := ⟨rfl, rfl, rfl, rfl⟩
  by_cases hc : 1 ≤ n ∧ n ≤ S.length
  · have hm : mOf n S.length = (n - 1).toNat := by unfold mOf; rw [if_pos hc]
    have hml : mOf n S.length < S.length := by omega
    obtain ⟨m, hme⟩ : ∃ m, mOf n S.length = m := ⟨_, rfl⟩
    have hsp : ((newT l).stop n).sp = n := by rw [hst]; simp [hc.1]
    obtain ⟨b1, b2, b3, b4, b5, b6⟩ := run_both (S.take m) (fun o ho => hs o (List.mem_of_mem_take ho)) ha (by rw [hsp]; omega) rfl (.inr (by rw [hsp, List.length_take]; omega))
    rw [hsp, if_neg (by omega), List.length_take] at b2
    have b2' : (runT ((newT l).stop n) (S.take m)).sp = 1 := by rw [b2]; omega
    have hdn : ((newT l).stop n).dn = false := rfl
    have hlt : m < S.length := by omega
    have hS : S = S.take m ++ S[m] :: S.drop (m + 1) := by rw [← List.drop_eq_getElem_cons hlt, List.take_append_drop]
    have hT : T = { runT ((newT l).stop n) (S.take m) with st := (runT ((newT l).stop n) (S.take m)).st + 1 + (S.drop (m + 1)).length, dn := true, tn := trn S[m] } := by
      show runT ((newT l).stop n) S = _
      conv => lhs; rw [hS]
      rw [runT_app, runT_cons, op_down (hs _ (List.getElem_mem _)) b2', b3, hdn]
      rw [run_down (S.drop (m + 1)) (fun o ho => hs o (List.mem_of_mem_drop ho)) (by exact b2') rfl]
      rfl
    have hU : U = runT (newT l) (S.take m) := by show runT _ (S.take (mOf n S.length)) = _; rw [hme]
    have hU5 := b1.st
    rw [b5] at hU5
    have h0 : ((newT l).stop n).st = 0 := rfl
    rw [h0, List.length_take] at hU5 b5
    rw [hT, hU]
    refine ⟨?_, ?_, b1.fs, b1.ds, b1.jl, fun e => by omega, fun h => ?_⟩
    · show (runT ((newT l).stop n) (S.take m)).st + 1 + (S.drop (m + 1)).length = S.length
      rw [b5, List.length_drop]
      omega
    · rw [← hU5, hme]; omega
    · refine ⟨?_, b2', rfl⟩
      show trn S[m] = trn S[mOf n S.length]
      simp only [hme]
  · have hm : mOf n S.length = S.length := by unfold mOf; rw [if_neg hc]
    have hsp : ((newT l).stop n).sp = if 1 ≤ n then n else 0 := by rw [hst]
    obtain ⟨b1, b2, b3, b4, b5, b6⟩ := run_both S hs ha (by rw [hsp]; split <;> omega) rfl (by rw [hsp]; split <;> omega)
    have hU : U = runT (newT l) S := by show runT _ (S.take (mOf n S.length)) = _; rw [hm, List.take_length]
    have h0 : ((newT l).stop n).st = 0 := rfl
    rw [h0] at b5
    have hT5 : T.st = S.length := by show (runT _ S).st = _; rw [b5]; omega
    refine ⟨hT5, ?_, by rw [hU]; exact b1.fs, by rw [hU]; exact b1.ds, by rw [hU]; exact b1.jl, fun _ => b4, fun h => by omega⟩
    rw [hU, ← b1.st, hm]
    exact hT5
end Go.Proofs.YtlkkmcibjhoneaaGreatDoor

namespace Go.Proofs.YtlkkmcibjhoneaaGreatDoor
open Go.RowKit

def Opp.cs (o : Opp) (u : Value) : List Value := [.int .i64 o.kind, .string (bs o.p), .string (bs o.f.path), .string (bs o.f.text), .int .i64 o.f.blob, .int .i64 o.f.size, u, .int .i64 o.n]
def oc : List (Opp × Value) → List Value
  | [] => []
  | (o, u) :: r => o.cs u ++ oc r
theorem oc_length : ∀ l, (oc l).length = l.length * 8
  | [] => rfl
  | (o, u) :: r => by simp [oc, Opp.cs, oc_length r]; omega
theorem oc_append : ∀ a b, oc (a ++ b) = oc a ++ oc b
  | [], _ => rfl
  | (o, u) :: r, b => by simp [oc, oc_append r b]
theorem oc_one {l : List (Opp × Value)} (h : ∀ x ∈ l, x.2.oneCell' = true) : ∀ u ∈ oc l, u.oneCell' = true := by
  induction l with
  | nil => intro u hu; cases hu
  | cons x r ih =>
    obtain ⟨o, v⟩ := x
    intro u hu
    rcases List.mem_append.1 hu with hu | hu
    · simp only [Opp.cs, List.mem_cons, List.not_mem_nil, or_false] at hu
      rcases hu with rfl | rfl | rfl | rfl | rfl | rfl | rfl | rfl
      · rfl
      · rfl
      · rfl
      · rfl
      · rfl
      · rfl
      · exact h (o, u) (by simp)
      · rfl
    · exact ih (fun y hy => h y (by simp [hy])) u hu
theorem oc_get : ∀ (l : List (Opp × Value)) (k : Nat) (h : k < l.length), ∀ j, j < 8 → (oc l)[k * 8 + j]? = (l[k].1.cs l[k].2)[j]?
  | (o, u) :: r, 0, _, j, hj => by
    show (o.cs u ++ oc r)[0 * 8 + j]? = _
    rw [List.getElem?_append_left (by simp [Opp.cs]; omega)]
    simp
  | (o, u) :: r, k + 1, h, j, hj => by
    have ih := oc_get r k (by simpa using h) j hj
    show (o.cs u ++ oc r)[(k + 1) * 8 + j]? = _
    rw [List.getElem?_append_right (by simp [Opp.cs]; omega)]
    simp only [List.getElem_cons_succ]
    rw [← ih]
    congr 1
    simp [Opp.cs]; omega
theorem und23 : Tryz.prog.underlying 23 = some (.slice 34) := by kernel_rfl
theorem info34 : (Tryz.prog.info? 34).map (fun i => (i.zero, i.size, i.bytes)) = some (some (.agg #[.int .i64 0, .string ⟨#[]⟩, .string ⟨#[]⟩, .string ⟨#[]⟩, .int .i64 0, .int .i64 0, .slice none 0 0, .int .i64 0]), 8, 104) := by kernel_rfl
def OwnO (base : Nat) (w : World) (v : Value) (l : List (Opp × Value)) : Prop := w.ownsRow base 34 8 v l.length (oc l)
theorem OwnO.nil (base : Nat) (w : World) : OwnO base w (.slice none 0 0) [] := World.ownsRow_nil w base 34 8
theorem OwnO.lt {base : Nat} {w : World} {v : Value} {l : List (Opp × Value)} (h : OwnO base w v l) {k : Nat} (hk : v.ownBlock = some k) : base ≤ k ∧ k < w.heap.size := World.ownsRow.lt h k hk
theorem OwnO.form {base : Nat} {w : World} {v : Value} {l : List (Opp × Value)} (h : OwnO base w v l) : ∃ a c, v = .slice a l.length c ∧ l.length ≤ c := by
  rcases h.2 with ⟨rfl, h0⟩ | ⟨g, cap, cur, rfl, hb, hg, hn, _⟩
  · exact ⟨none, 0, by rw [h0], by omega⟩
  · exact ⟨_, cap, rfl, hn⟩
theorem app_ops {w : World} {base : Nat} {v x : Value} {l k : List (Opp × Value)} (hown : OwnO base w v l) (hs : Src Tryz.prog 8 23 x k.length (oc k) w) (hb : l.length + k.length ≤ 100000000) (hbase : base ≤ w.heap.size)
    {ops : Array Oper} {rest : List Oper} {o : Oper} {a : Act} {Q : Exit → Act → World → Prop} (hgd : o.guard = none) (s y : Operand)
    (ho : o.op = .call { callee := .builtin .append, args := #[s, y], argTypes := #[23, 23] }) (hv : a.eval s = v) (hx : a.eval y = x)
    (h : ∀ v' w', OwnO base w' v' (l ++ k) → w.grownBy w' v.ownBlock → (v'.ownBlock = v.ownBlock ∨ v'.ownBlock = some w.heap.size) → wpList Tryz.prog ops Q rest (a.put o.dst v') w') :
    wpList Tryz.prog ops Q (o :: rest) a w := by
  obtain ⟨i0, hi, hz0, hz1, hz2⟩ := info_parts info34
  refine wpList_append_src w hgd s y 23 23 ho base 34 i0 _ 8 104 und23 hi hz0 hz1 hz2 rfl v l.length (oc l) hv hown x k.length (oc k) hx hs (by simp only [maxLen]; omega) (by omega) hbase ?_
  intro v' w' h1 h2 h3
  exact h v' w' (by unfold OwnO; rw [oc_append, List.length_append]; exact h1) h2 h3
theorem src_op (w : World) (o : Opp) (u : Value) (hu : u.oneCell' = true) : Src Tryz.prog 8 23 (.slice (some ⟨w.heap.size, 0, none⟩) 1 1) [(o, u)].length (oc [(o, u)]) (w.alloc (.cells #[.int .i64 o.kind, .string (bs o.p), .string (bs o.f.path), .string (bs o.f.text), .int .i64 o.f.blob, .int .i64 o.f.size, u, .int .i64 o.n] 34)) := by
  refine Src.ofSlice _ und23 ⟨w.heap.size, 0, none⟩ 1 1 (oc [(o, u)]) (by simp [oc_length]) ?_ (oc_one (by simpa using hu))
  exact World.news_of_block (heap_alloc_new w _)
theorem app_op1 {w : World} {base : Nat} {v : Value} {l : List (Opp × Value)} (p : Opp) (u : Value) (hown : OwnO base w v l) (hu : u.oneCell' = true) (hb : l.length + 1 ≤ 100000000) (hbase : base ≤ w.heap.size)
    {ops : Array Oper} {rest : List Oper} {o : Oper} {a : Act} {Q : Exit → Act → World → Prop} (hgd : o.guard = none) (s y : Operand)
    (ho : o.op = .call { callee := .builtin .append, args := #[s, y], argTypes := #[23, 23] }) (hv : a.eval s = v) (hx : a.eval y = .slice (some ⟨w.heap.size, 0, none⟩) 1 1)
    (h : ∀ v' w', OwnO base w' v' (l ++ [(p, u)]) → Below base w w' → wpList Tryz.prog ops Q rest (a.put o.dst v') w') :
    wpList Tryz.prog ops Q (o :: rest) a (w.alloc (.cells #[.int .i64 p.kind, .string (bs p.p), .string (bs p.f.path), .string (bs p.f.text), .int .i64 p.f.blob, .int .i64 p.f.size, u, .int .i64 p.n] 34)) := by
  refine app_ops (base := base) (l := l) (k := [(p, u)]) (World.ownsRow.alloc hown _) (src_op w p u hu) (by simpa using hb) (by simp; omega) hgd s y ho hv hx ?_
  intro v' w' h1 h2 h3
  have hlt := World.ownsRow.lt hown
  exact h v' w' h1 (((Below.refl _ _).alloc hbase _).grown h2 (by simp; omega) (fun k hk => (hlt k hk).1))
/-- a row of the call's own is a script -/
theorem OwnO.os {base : Nat} {w : World} {v : Value} {l : List (Opp × Value)} {P : Nat → Prop} (h : OwnO base w v l) (hP : ∀ k, P k → k < w.heap.size) (hv : ∀ k, v.ownBlock = some k → P k)
    (hb : ∀ x ∈ l, BS w x.2 x.1.b ∧ (x.1.b ≠ [] → ∀ j, x.2.ownBlock = some j → P j)) : OS P w v (l.map Prod.fst) := by
  rcases h.2 with ⟨rfl, h0⟩ | ⟨g, cap, cur, rfl, hg0, hg, hn, _⟩
  · have : l = [] := List.eq_nil_of_length_eq_zero h0
    subst this
    exact ⟨hP, _, _, rfl, fun k hk => by simp at hk⟩
  · have hc : ∀ i u, (oc l)[i]? = some u → w.cell? ⟨g, i, none⟩ = some u := fun i u hu => by
      have := World.ownsRow.cells h (g := g) rfl i u hu
      rw [add_lit, Nat.zero_add] at this
      exact this
    refine ⟨hP, _, cap, by rw [List.length_map], fun k hk => ?_⟩
    rw [List.length_map] at hk
    have e := oc_get l k hk
    obtain ⟨h1, h2⟩ := hb l[k] (List.getElem_mem _)
    have c : ∀ j, (hj : j < 8) → ∀ u, (l[k].1.cs l[k].2)[j]? = some u → w.cell? ⟨g, 0 + k * 8 + j, none⟩ = some u := fun j hj u hu => by
      rw [Nat.zero_add]
      exact hc _ _ ((e j hj).trans hu)
    refine ⟨g, 0, l[k].2, rfl, hv g rfl, ?_, by rw [List.getElem_map]; exact h2⟩
    rw [List.getElem_map]
    exact ⟨c 0 (by omega) _ rfl, c 1 (by omega) _ rfl, c 2 (by omega) _ rfl, c 3 (by omega) _ rfl, c 4 (by omega) _ rfl, c 5 (by omega) _ rfl, c 6 (by omega) _ rfl, c 7 (by omega) _ rfl, h1⟩
end Go.Proofs.YtlkkmcibjhoneaaGreatDoor
