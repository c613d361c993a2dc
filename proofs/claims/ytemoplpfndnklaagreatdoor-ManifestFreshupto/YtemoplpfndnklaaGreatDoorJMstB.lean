/-
  The mark of a list.
  'marked', 'spoiled': what stands fast
  All lists of texts, all lists of labels of targets.
  'marked': the labels, told
-/
import Derived.Test.YtemoplpfndnklaaGreatDoorMks
import Derived.Test.YtemoplpfndnklaaGreatDoorJBkA
import Derived.BigQuiet
import Derived.Deep.RegionHeld3
import Derived.Test.YtemoplpfndnklaaGreatDoorJSameg
namespace Go.Proofs.YtemoplpfndnklaaGreatDoor
open Go.RowKit

/-- the mark of list number k -/
def mkS (k : Nat) : List UInt8 := [109, 97, 114, 107, 32, UInt8.ofNat (48 + k % 64), UInt8.ofNat (48 + k / 64)]
theorem und87 : Tryz.prog.underlying 87 = some (.slice 5) := by kernel_rfl
theorem und5m : Tryz.prog.underlying 5 = some (.int .u8) := by kernel_rfl
theorem und9m : Tryz.prog.underlying 9 = some .string := by kernel_rfl
theorem conv2 (w : World) (x y : UInt8) : (convert 87 9 (.slice (some ⟨w.heap.size, 0, none⟩) 2 2)).run Tryz.prog (w.alloc (.cells #[.int .u8 x.toNat, .int .u8 y.toNat] 5)) = .ok (.string ⟨#[x, y]⟩) (w.alloc (.cells #[.int .u8 x.toNat, .int .u8 y.toNat] 5)) := by
  have e : strOfNums ([x, y].map fun b => (b.toNat : Int)) = ⟨#[x, y]⟩ := by
    unfold strOfNums
    congr 1
    simp
  rw [← e]
  refine run_convert_bytes_arg (P := Tryz.prog) _ 87 5 und87 und5m w.heap.size 0 2 2 ([x, y].map fun b => (b.toNat : Int)) (by simp) (fun i hi => ?_) 9 und9m
  rcases i with _ | _ | i
  · simp
  · simp
  · omega
set_option maxHeartbeats 1000000 in
set_option maxRecDepth 100000 in
theorem mark_any (k : Nat) (w : World) (hk : k < 600) :
    Calls Tryz.prog 34 #[.int .i64 k] w fun e w' => e = .returned (.string (bs (mkS k))) ∧ Below w.heap.size w w' := by
  obtain ⟨r, hr⟩ : ∃ r, k % 64 = r := ⟨_, rfl⟩
  obtain ⟨q, hq⟩ : ∃ q, k / 64 = q := ⟨_, rfl⟩
  have r1 : Int.tmod (k : Int) 64 = (r : Int) := by rw [← hr]; rw [Int.tmod_eq_emod_of_nonneg (by omega)]; omega
  have q1 : Int.tdiv (k : Int) 64 = (q : Int) := by rw [← hq]; rw [Int.tdiv_eq_ediv_of_nonneg (by omega)]; omega
  have r2 : r < 64 := by omega
  have q2 : q < 16 := by omega
  have hx : (UInt8.ofNat (48 + r)).toNat = 48 + r := by simp; omega
  have hy : (UInt8.ofNat (48 + q)).toNat = 48 + q := by simp; omega
  obtain ⟨x, hxe⟩ : ∃ x, UInt8.ofNat (48 + r) = x := ⟨_, rfl⟩
  obtain ⟨y, hye⟩ : ∃ y, UInt8.ofNat (48 + q) = y := ⟨_, rfl⟩
  rw [hxe] at hx
  rw [hye] at hy
  have hm : mkS k = [109, 97, 114, 107, 32, x, y] := by unfold mkS; rw [hr, hq, hxe, hye]
  rw [hm]
  have hc := conv2 w x y
  rw [hx, hy] at hc
  have HE : Hid (ByteArray.mk #[109, 97, 114, 107, 32] ++ ByteArray.mk #[x, y] = bs [109, 97, 114, 107, 32, x, y]) := bs_app [109, 97, 114, 107, 32] [x, y]
  simp only [Int.natCast_add, Int.cast_ofNat_Int] at hc
  clear hm hr hq hx hy hxe hye
  go_enter Tryz.func34, Tryz.ntmps34
  go_wp2_with fail
  rw [HE.out]
  go_ret
  exact ⟨rfl, balloc _ _⟩
theorem mark_grow (k : Nat) (hk : k < 600) {w : World} (X : GW w) : Calls Tryz.prog 34 #[.int .i64 k] X.it fun e w' => e = .returned (.string (bs (mkS k))) ∧ ∃ Y : GW w, w' = Y.it :=
  gw_of (fun W => mark_any k W hk) X
/-- the call of 'mark', as one operation of a region that draws -/
theorem step_mark {ops : Array Oper} {o : Oper} {a : Act} {w : World} {K : Act → World → Prop} {Q : Exit → Act → World → Prop} {E : Prop} (hgd : o.guard = none) (arg : Operand)
    (ho : o.op = .call { callee := .value (.func 34), args := #[arg], argTypes := #[3] }) (k : Nat) (hk : k < 600) (hv : a.eval arg = .int .i64 k)
    (h : ∀ w', Below w.heap.size w w' → K (a.put o.dst (.string (bs (mkS k)))) w') :
    if Region.wanted o (yielded ops a.tmps) = true then Oper.wp Tryz.prog o a w K Q else E := by
  have hw : Region.wanted o (yielded ops a.tmps) = true := by simp [Region.wanted, hgd]
  rw [if_pos hw]
  have hr : (execOp a.eval o).run Tryz.prog w = .ok (.enter 34 #[.int .i64 k]) w := by
    simp [execOp, ho, resolve, invoke, go_sem]
    cases arg with
    | tmp t => simpa [Act.eval] using hv
    | const v => exact hv
    | global g => exact hv
    | func f => exact hv
  unfold Oper.wp
  rw [hr]
  refine (mark_any k w hk).mono ?_
  rintro e w' ⟨rfl, hb⟩
  exact h w' hb
/-- a region of the text -/
def findReg (n : Nat) : Code → Option Code
  | .region m a b => if m == n then some (.region m a b) else none
  | .seq a b => match findReg n a with
    | some c => some c
    | none => findReg n b
  | .block _ c => findReg n c
  | .loop c => findReg n c
  | .scope c => findReg n c
  | .cond _ a b => match findReg n a with
    | some c => some c
    | none => findReg n b
  | _ => none
/-- the kinds: texts, labels, targets -/
def kS (k : Nat) : Knd := ⟨33, 9, 1, [.string (bs (mkS k))]⟩
def kL (k : Nat) : Knd := ⟨35, 58, 2, [.string (bs (mkS k)), .string (bs [])]⟩
def kG (k : Nat) : Knd := ⟨22, 37, 4, [.string (bs (mkS k)), .slice none 0 0, .slice none 0 0, .slice none 0 0]⟩
theorem und33m : Tryz.prog.underlying 33 = some (.slice 9) := by kernel_rfl
theorem info9m : (Tryz.prog.info? 9).map (fun i => (i.zero, i.size, i.bytes)) = some (some (.string ⟨#[]⟩), 1, 16) := by kernel_rfl
theorem kS_ok (k : Nat) : KOk (kS k) := ⟨und33m, ⟨_, _, info9m, rfl, by decide⟩, rfl, Nat.succ_pos _⟩
theorem kL_ok (k : Nat) : KOk (kL k) := ⟨und_L, ⟨_, _, info_L, rfl, by decide⟩, rfl, Nat.succ_pos _⟩
theorem kG_ok (k : Nat) : KOk (kG k) := ⟨und_G, ⟨_, _, info_G, rfl, by decide⟩, rfl, Nat.succ_pos _⟩
theorem src_of {K : Knd} (hK : KOk K) (w : World) (h1 : ∀ u ∈ K.c, u.oneCell' = true) : Src Tryz.prog K.sz K.ty (.slice (some ⟨w.heap.size, 0, none⟩) 1 1) 1 K.c (w.alloc (.cells K.c.toArray K.e)) := by
  refine Src.ofSlice _ hK.und ⟨w.heap.size, 0, none⟩ 1 1 K.c (by rw [hK.len]; omega) ?_ h1
  exact World.news_of_block (cs := K.c.toArray) (heap_alloc_new w _)
theorem kS_one (k : Nat) : ∀ u ∈ (kS k).c, u.oneCell' = true := fun u hu => by
  simp only [kS, List.mem_cons, List.mem_nil_iff, or_false] at hu
  subst hu; rfl
theorem kL_one (k : Nat) : ∀ u ∈ (kL k).c, u.oneCell' = true := fun u hu => by
  simp only [kL, List.mem_cons, List.mem_nil_iff, or_false] at hu
  rcases hu with rfl | rfl <;> rfl
theorem kG_one (k : Nat) : ∀ u ∈ (kG k).c, u.oneCell' = true := fun u hu => by
  simp only [kG, List.mem_cons, List.mem_nil_iff, or_false] at hu
  rcases hu with rfl | rfl | rfl | rfl <;> rfl
/-- what 'marked' and 'spoiled' answer: all else lies as it was -/
def GoodM (B : Nat) (w : World) (D0 : Nat → Nat → Prop) (e : Ending) (w' : World) : Prop := e = .returned (.bool true) ∧ Below B w w' ∧ ∀ g, g < w.heap.size → (∀ i, ¬ D0 i g) → w'.heap[g]? = w.heap[g]?
end Go.Proofs.YtemoplpfndnklaaGreatDoor

namespace Go.Proofs.YtemoplpfndnklaaGreatDoor
open Go.RowKit

/-- the lists of one table: list number O + k lies at place k of block gt -/
structure Stg (kd : Nat → Knd) (w : World) (T O L gt : Nat) (F : Nat → Knd) (V : Nat → Value) (n : Nat → Nat) (D0 : Nat → Nat → Prop) : Prop where
  hO : O + L ≤ T
  L1 : L ≤ 550
  cells : ∀ k, k < L → w.cell? ⟨gt, k, none⟩ = some (V (O + k))
  nt : ∀ i, ¬ D0 i gt
  nn : ∀ i, n i ≤ 1000000
  fk : ∀ k, k < L → F (O + k) = kd k
theorem row_cell {base e sz n g cap : Nat} {w : World} {c : List Value} (h : w.ownsRow base e sz (.slice (some ⟨g, 0, none⟩) n cap) n (rep n c)) (hc : c.length = sz) (j r : Nat) (hj : j < n) (hr : r < sz) :
    w.cell? ⟨g, j * sz + r, none⟩ = c[r]? ∧ w.frozen? ⟨g, j * sz + r, none⟩ = false := by
  have h1 : j * sz + r < n * sz := by
    have := Nat.mul_le_mul_right sz (show j + 1 ≤ n by omega)
    rw [Nat.succ_mul] at this; omega
  refine ⟨?_, h.frozenAt _⟩
  rw [h.cellAt _ h1, rep_get hc n _ h1]
  congr 1
  rw [Nat.add_comm, Nat.add_mul_mod_self_right, Nat.mod_eq_of_lt hr]
theorem row_any {base e sz n g cap : Nat} {w : World} {c : List Value} (h : w.ownsRow base e sz (.slice (some ⟨g, 0, none⟩) n cap) n c) (j r : Nat) (hj : j < n) (hr : r < sz) :
    (∃ u, w.cell? ⟨g, j * sz + r, none⟩ = some u) ∧ w.frozen? ⟨g, j * sz + r, none⟩ = false := by
  have h1 : j * sz + r < n * sz := by
    have := Nat.mul_le_mul_right sz (show j + 1 ≤ n by omega)
    rw [Nat.succ_mul] at this; omega
  refine ⟨?_, h.frozenAt _⟩
  rw [h.cellAt _ h1]
  have hl : c.length = n * sz := h.1
  exact ⟨c[j * sz + r], List.getElem?_eq_getElem (by omega)⟩
/-- so far marked: the first j elements -/
theorem mk_step {C c : List Value} {sz n j : Nat} (hc : c.length = sz) (hl : C.length = n * sz) (hj : j < n) (h : ∀ y, y < j * sz → C[y]? = c[y % sz]?) : ∀ y, y < (j + 1) * sz → (setC C (j * sz) c)[y]? = c[y % sz]? := by
  have h1 : j * sz + sz ≤ n * sz := by
    have := Nat.mul_le_mul_right sz (show j + 1 ≤ n by omega)
    rw [Nat.succ_mul] at this; omega
  intro y hy
  rw [Nat.succ_mul] at hy
  rw [setC_get c C (j * sz) y (by omega), hc]
  by_cases hy2 : j * sz ≤ y
  · rw [if_pos ⟨hy2, hy⟩]
    have e : y % sz = y - j * sz := by
      have e : y = y - j * sz + j * sz := by omega
      rw [e, Nat.add_mul_mod_self_right, Nat.mod_eq_of_lt (by omega), ← e]
    rw [e]
  · rw [if_neg (by omega)]; exact h y (by omega)
theorem mk_all {C c : List Value} {sz n : Nat} (hc : c.length = sz) (hl : C.length = n * sz) (h : ∀ y, y < n * sz → C[y]? = c[y % sz]?) : C = rep n c := by
  rw [← List.take_of_length_le (Nat.le_of_eq hl), rep_take hc]; exact h
/-- the places of the longer ones -/
def Gm (N gl gw : Nat) (i : Nat) : Nat := if i < N then gl else gw
def Xm (N : Nat) (i : Nat) : Nat := if i < N then i else i - N
def Gc (g : Nat) (_ : Nat) : Nat := g
def Xc (i : Nat) : Nat := i
def Fm (N : Nat) (i : Nat) : Knd := if i < N then kS i else kL (i - N)
theorem made_slot {w : World} {g n i : Nat} {z : Value} {e : TypeId} (h : w.heap[g]? = some (.cells (madeCells #[z] n) e)) (hi : i < n) : (∃ v, w.cell? ⟨g, i, none⟩ = some v) ∧ w.frozen? ⟨g, i, none⟩ = false := by
  have hc : (madeCells #[z] n).toList[i]? = some z := by rw [toList_madeCells_one, List.getElem?_replicate, if_pos hi]
  refine ⟨⟨z, ?_⟩, by simp [World.frozen?, h]⟩
  rw [cell_of_row w g i _ e (0, 0) h]
  simpa using hc
theorem heap_alloc_size (w : World) (o : Obj) : (w.alloc o).heap.size = w.heap.size + 1 := by simp
theorem und44 : Tryz.prog.underlying 44 = some (.slice 33) := by kernel_rfl
theorem und46 : Tryz.prog.underlying 46 = some (.slice 35) := by kernel_rfl
theorem und49 : Tryz.prog.underlying 49 = some (.slice 22) := by kernel_rfl
theorem info33 : (Tryz.prog.info? 33).map (fun i => (i.zero, i.size, i.bytes)) = some (some (.slice none 0 0), 1, 24) := by kernel_rfl
theorem info35 : (Tryz.prog.info? 35).map (fun i => (i.zero, i.size, i.bytes)) = some (some (.slice none 0 0), 1, 24) := by kernel_rfl
theorem info22 : (Tryz.prog.info? 22).map (fun i => (i.zero, i.size, i.bytes)) = some (some (.slice none 0 0), 1, 24) := by kernel_rfl
end Go.Proofs.YtemoplpfndnklaaGreatDoor

namespace Go.Proofs.YtemoplpfndnklaaGreatDoor
open Go.RowKit

def sL (a : List Tv) : List Value := a.flatMap fun t => [t.s, t.e]
def dL (a : List Tv) : List Value := a.map Tv.d
theorem sL_snoc (a : List Tv) (t : Tv) : sL (a ++ [t]) = sL a ++ [t.s, t.e] := by simp [sL]
theorem dL_snoc (a : List Tv) (t : Tv) : dL (a ++ [t]) = dL a ++ [t.d] := by simp [dL]
theorem sL_len (a : List Tv) : (sL a).length = 2 * a.length := by
  induction a with
  | nil => rfl
  | cons t r ih => simp only [sL, List.flatMap_cons, List.length_append, List.length_cons, List.length_nil] at ih ⊢; omega
theorem dL_len (a : List Tv) : (dL a).length = a.length := by simp [dL]
theorem app_V {ty e : TypeId} (und : Tryz.prog.underlying ty = some (.slice e)) (info : (Tryz.prog.info? e).map (fun i => (i.zero, i.size, i.bytes)) = some (some (.slice none 0 0), 1, 24)) {w : World} {base : Nat} {v x : Value} {l k : List Value} (hown : w.ownsRow base e 1 v l.length l) (hs : Src Tryz.prog 1 ty x k.length k w) (hb : l.length + k.length ≤ 100000000) (hbase : base ≤ w.heap.size)
    {ops : Array Oper} {rest : List Oper} {o : Oper} {a : Act} {Q : Exit → Act → World → Prop} (hgd : o.guard = none) (s y : Operand)
    (ho : o.op = .call { callee := .builtin .append, args := #[s, y], argTypes := #[ty, ty] }) (hv : a.eval s = v) (hx : a.eval y = x)
    (h : ∀ v' w', w'.ownsRow base e 1 v' (l ++ k).length (l ++ k) → Below base w w' → Only (bl v) w w' → wpList Tryz.prog ops Q rest (a.put o.dst v') w') :
    wpList Tryz.prog ops Q (o :: rest) a w := by
  obtain ⟨i0, hi, hz0, hz1, hz2⟩ := info_parts info
  refine wpList_append_src w hgd s y ty ty ho base e i0 _ 1 24 und hi hz0 hz1 hz2 rfl v l.length l hv hown x k.length k hx hs (by simp only [maxLen]; omega) (by omega) hbase ?_
  intro v' w' h1 h2 h3
  exact h v' w' (by rw [List.length_append]; exact h1) ((only_grownK h2).below hbase (fun g hg => (hown.lt g (mem_bl.1 hg)).1)) (only_grownK h2)
theorem src_Vb {ty e g : TypeId} (und : Tryz.prog.underlying ty = some (.slice e)) {w : World} {k : List Value} (hb : w.heap[g]? = some (.cells k.toArray e)) (h1 : ∀ u ∈ k, u.oneCell' = true) : Src Tryz.prog 1 ty (.slice (some ⟨g, 0, none⟩) k.length k.length) k.length k w := by
  refine Src.ofSlice _ und ⟨g, 0, none⟩ k.length k.length k (by omega) ?_ h1
  exact World.news_of_block (cs := k.toArray) hb
/-- the same, as one operation of a region that draws -/
theorem step_append_V {ty e : TypeId} (und : Tryz.prog.underlying ty = some (.slice e)) (info : (Tryz.prog.info? e).map (fun i => (i.zero, i.size, i.bytes)) = some (some (.slice none 0 0), 1, 24)) {ops : Array Oper} {o : Oper} {a : Act} {w : World} {J : Act → World → Prop} {Q : Exit → Act → World → Prop} {E : Prop} (hgd : o.guard = none) (s y : Operand)
    (ho : o.op = .call { callee := .builtin .append, args := #[s, y], argTypes := #[ty, ty] }) (base : Nat) (l k : List Value) (v x : Value) (hv : a.eval s = v) (hx : a.eval y = x)
    (hown : w.ownsRow base e 1 v l.length l) (hs : Src Tryz.prog 1 ty x k.length k w) (hb : l.length + k.length ≤ 100000000) (hbase : base ≤ w.heap.size)
    (h : ∀ v' w', w'.ownsRow base e 1 v' (l ++ k).length (l ++ k) → Below base w w' → J (a.put o.dst v') w') :
    if Region.wanted o (yielded ops a.tmps) = true then Oper.wp Tryz.prog o a w J Q else E := by
  have hw : Region.wanted o (yielded ops a.tmps) = true := by simp [Region.wanted, hgd]
  rw [if_pos hw]
  obtain ⟨i0, hi, hz0, hz1, hz2⟩ := info_parts info
  obtain ⟨v', w', hr, h1, h2, h3⟩ := run_append_src (P := Tryz.prog) w base ty ty o.type e i0 _ 1 24 und hi hz0 hz1 hz2 rfl v l.length l hown x k.length k hs (by simp only [maxLen]; omega) (by omega) hbase
  unfold Oper.wp execOp
  simp only [ho, resolve, invoke, builtin, Sem.run_bind, Sem.run_pure, Result.andThen_ok, List.map_toArray, List.map_cons, List.map_nil, hv, hx, hr]
  exact h v' w' (by rw [List.length_append]; exact h1) ((only_grownK h2).below hbase (fun g hg => (hown.lt g (mem_bl.1 hg)).1))
theorem src_V {ty e : TypeId} (und : Tryz.prog.underlying ty = some (.slice e)) (w : World) (k : List Value) (h1 : ∀ u ∈ k, u.oneCell' = true) : Src Tryz.prog 1 ty (.slice (some ⟨w.heap.size, 0, none⟩) k.length k.length) k.length k (w.alloc (.cells k.toArray e)) := by
  refine Src.ofSlice _ und ⟨w.heap.size, 0, none⟩ k.length k.length k (by omega) ?_ h1
  exact World.news_of_block (cs := k.toArray) (heap_alloc_new w _)

set_option maxHeartbeats 4000000 in
set_option maxRecDepth 100000 in
theorem r5ls {lv1 lv2 lv5 lv6 lv7 lv8 lv9 lv10 lv11 lv12 lv13 lv14 lv15 lv16 lv17 lv18 lv19 lv20 lv21 lv22 lv23 lv24 : Value} {wr : World} {b o n c k base : Nat} {sa ea : Option Addr} {sn sc en ec : Nat} {v : Value} {l : List Value} (hlt : k < n) (h1 : wr.cell? ⟨b, o + k * 4 + 1, none⟩ = some (.slice sa sn sc)) (h3 : wr.cell? ⟨b, o + k * 4 + 3, none⟩ = some (.slice ea en ec))
    (HOW : Hid (wr.ownsRow base 33 1 v l.length l)) (hl : l.length ≤ 100000) (hbase : base ≤ wr.heap.size) (Q : Exit → Act → World → Prop)
    (hQ : ∀ (s11 s12 s13 s14 s15 s16 s17 s18 s19 s20 s21 s22 s23 v' : Value) (w2 : World), w2.ownsRow base 33 1 v' (l ++ [Value.slice sa sn sc, Value.slice ea en ec]).length (l ++ [Value.slice sa sn sc, Value.slice ea en ec]) → Below base wr w2 → Q .normal ⟨(.slice (some ⟨b, o, none⟩) n c :: lv1 :: lv2 :: v' :: .int .i64 ((k : Nat) : Int) :: lv5 :: lv6 :: lv7 :: lv8 :: lv9 :: lv10 :: s11 :: s12 :: s13 :: s14 :: s15 :: s16 :: s17 :: s18 :: s19 :: s20 :: s21 :: s22 :: s23 :: lv24 :: []).toArray, []⟩ w2) :
    Code.wp Tryz.prog ((findReg 5 (Tryz.f16.body.getD .skip)).getD .skip) Q ⟨(.slice (some ⟨b, o, none⟩) n c :: lv1 :: lv2 :: v :: .int .i64 ((k : Nat) : Int) :: lv5 :: lv6 :: lv7 :: lv8 :: lv9 :: lv10 :: lv11 :: lv12 :: lv13 :: lv14 :: lv15 :: lv16 :: lv17 :: lv18 :: lv19 :: lv20 :: lv21 :: lv22 :: lv23 :: lv24 :: []).toArray, []⟩ wr := by
  conv => arg 2; whnf
  have HQ : Hid _ := hQ
  clear hQ
  have i0 : (0 : Int) ≤ (k : Int) := by omega
  have i1 : (k : Int) < (n : Int) := by omega
  refine wp_region_noPanic ?_
  go_region_law (refine step_append_V und44 info33 rfl (.tmp 11) (.tmp 22) rfl base l [.slice sa sn sc, .slice ea en ec] v _ rfl rfl (row_later HOW.out (balloc _ _).drew) (src_Vb und44 (w := (wr.alloc (.cells #[.slice sa sn sc, .slice ea en ec] 33)).drew) (k := [.slice sa sn sc, .slice ea en ec]) (heap_alloc_new _ _) (fun u hu => (by simp only [List.mem_cons, List.mem_nil_iff, or_false] at hu; rcases hu with rfl | rfl <;> rfl))) (by simp; omega) (by simp; omega) ?_; intro v' w2 ho9 hb9; have hb8 : Below base wr w2 := below_trans (below_mono (balloc _ _).drew hbase) hb9)
  all_goals exact NoPanic.normal (HQ.out _ _ _ _ _ _ _ _ _ _ _ _ _ v' w2 ho9 hb8)

set_option maxHeartbeats 4000000 in
set_option maxRecDepth 100000 in
theorem lists_any {w : World} {v : Value} {a : List Tv} (h : GS w v a) (hl : a.length ≤ 64) :
    Calls Tryz.prog 16 #[v] w fun e w' => ∃ u, e = .returned u ∧ w'.ownsRow w.heap.size 33 1 u (sL a).length (sL a) ∧ Below w.heap.size w w' := by
  obtain ⟨aa, c, rfl, _⟩ := h.form
  obtain ⟨B, hB⟩ : ∃ B, w.heap.size = B := ⟨_, rfl⟩
  obtain ⟨n, hn⟩ : ∃ n, a.length = n := ⟨_, rfl⟩
  rw [hn] at h hl ⊢
  have HG : Hid (GS w (.slice aa n c) a ∧ w.heap.size = B ∧ a.length = n) := ⟨h, hB, hn⟩
  rw [hB]
  clear h hB hn
  go_enter Tryz.func16, Tryz.ntmps16
  go_wp2_with fail
  go_loopw [3, 4] (fun s i wr => ∃ (k : Nat) (u : Value), u = s ∧ k ≤ n ∧ i = .int .i64 k ∧ wr.ownsRow B 33 1 u (sL (a.take k)).length (sL (a.take k)) ∧ Below B w wr) (fun _ i _ => n - (intOf i).toNat)
  case atStart => exact ⟨0, _, rfl, Nat.zero_le _, rfl, World.ownsRow_nil _ _ _ _, Below.refl _ _⟩
  case round =>
    obtain ⟨k, sv, rfl, hk, rfl, ho, hb⟩ := hrel
    have HO : Hid (wr.ownsRow B 33 1 sv (sL (a.take k)).length (sL (a.take k)) ∧ Below B w wr) := ⟨ho, hb⟩
    clear ho hb
    by_cases hlt : k < n
    · have hb0 : Below w.heap.size w wr := by rw [HG.out.2.1]; exact HO.out.2
      obtain ⟨b, o, rfl, hbl, c0, c1, c2, c3⟩ := HG.out.1.at hb0 (k := k) (by rw [HG.out.2.2]; exact hlt)
      have HL : Hid (sL (a.take (k + 1)) = sL (a.take k) ++ [.slice (a[k]'(by rw [HG.out.2.2]; exact hlt)).sa (a[k]'(by rw [HG.out.2.2]; exact hlt)).sn (a[k]'(by rw [HG.out.2.2]; exact hlt)).sc, .slice (a[k]'(by rw [HG.out.2.2]; exact hlt)).ea (a[k]'(by rw [HG.out.2.2]; exact hlt)).en (a[k]'(by rw [HG.out.2.2]; exact hlt)).ec]) := by
        show _ = _
        rw [List.take_succ_eq_append_getElem (by rw [HG.out.2.2]; exact hlt), sL_snoc]; rfl
      have hll : (sL (a.take k)).length ≤ 100000 := by rw [sL_len, List.length_take]; omega
      have hbs : B ≤ wr.heap.size := by have := hb0.size; have := HG.out.2.1; omega
      generalize (a[k]'(by rw [HG.out.2.2]; exact hlt)) = t at *
      clear c0 c2 hb0
      have HO1 : Hid (wr.ownsRow B 33 1 sv (sL (a.take k)).length (sL (a.take k))) := HO.out.1
      go_wp2_with fail
      refine r5ls (base := B) hlt c1 c3 HO1 hll hbs _ ?_
      intro s11 s12 s13 s14 s15 s16 s17 s18 s19 s20 s21 s22 s23 v' w2 ho9 hb9
      rw [← HL.out] at ho9
      have I1 : Hid (w2.ownsRow B 33 1 v' (sL (a.take (k + 1))).length (sL (a.take (k + 1))) ∧ Below B w w2) := ⟨ho9, below_trans HO.out.2 hb9⟩
      clear ho9 hb9 c1 c3
      go_wp2_with fail
      go_roundw
      case rel => exact ⟨k + 1, _, rfl, hlt, by go_num, I1.out.1, I1.out.2⟩
      case measure => simp [intOf]; omega
    obtain rfl : n = k := by omega
    rw [List.take_of_length_le (Nat.le_of_eq HG.out.2.2)] at HO
    obtain ⟨u1, u2, u3⟩ := row_form HO.out.1
    subst u3
    go_wp2_with fail
    go_ret
    exact ⟨_, rfl, HO.out.1, HO.out.2⟩

set_option maxHeartbeats 4000000 in
set_option maxRecDepth 100000 in
theorem deps_any {w : World} {v : Value} {a : List Tv} (h : GS w v a) (hl : a.length ≤ 64) :
    Calls Tryz.prog 17 #[v] w fun e w' => ∃ u, e = .returned u ∧ w'.ownsRow w.heap.size 35 1 u (dL a).length (dL a) ∧ Below w.heap.size w w' := by
  obtain ⟨aa, c, rfl, _⟩ := h.form
  obtain ⟨B, hB⟩ : ∃ B, w.heap.size = B := ⟨_, rfl⟩
  obtain ⟨n, hn⟩ : ∃ n, a.length = n := ⟨_, rfl⟩
  rw [hn] at h hl ⊢
  have HG : Hid (GS w (.slice aa n c) a ∧ w.heap.size = B ∧ a.length = n) := ⟨h, hB, hn⟩
  rw [hB]
  clear h hB hn
  go_enter Tryz.func17, Tryz.ntmps17
  go_wp2_with fail
  go_loopw [3, 4] (fun s i wr => ∃ (k : Nat) (u : Value), u = s ∧ k ≤ n ∧ i = .int .i64 k ∧ wr.ownsRow B 35 1 u (dL (a.take k)).length (dL (a.take k)) ∧ Below B w wr) (fun _ i _ => n - (intOf i).toNat)
  case atStart => exact ⟨0, _, rfl, Nat.zero_le _, rfl, World.ownsRow_nil _ _ _ _, Below.refl _ _⟩
  case round =>
    obtain ⟨k, sv, rfl, hk, rfl, ho, hb⟩ := hrel
    have HO : Hid (wr.ownsRow B 35 1 sv (dL (a.take k)).length (dL (a.take k)) ∧ Below B w wr) := ⟨ho, hb⟩
    clear ho hb
    by_cases hlt : k < n
    · have hb0 : Below w.heap.size w wr := by rw [HG.out.2.1]; exact HO.out.2
      obtain ⟨b, o, rfl, hbl, c0, c1, c2, c3⟩ := HG.out.1.at hb0 (k := k) (by rw [HG.out.2.2]; exact hlt)
      have HL : Hid (dL (a.take (k + 1)) = dL (a.take k) ++ [.slice (a[k]'(by rw [HG.out.2.2]; exact hlt)).da (a[k]'(by rw [HG.out.2.2]; exact hlt)).dn (a[k]'(by rw [HG.out.2.2]; exact hlt)).dc]) := by
        show _ = _
        rw [List.take_succ_eq_append_getElem (by rw [HG.out.2.2]; exact hlt), dL_snoc]; rfl
      have hll : (dL (a.take k)).length ≤ 100000 := by rw [dL_len, List.length_take]; omega
      have hbs : B ≤ wr.heap.size := by have := hb0.size; have := HG.out.2.1; omega
      generalize (a[k]'(by rw [HG.out.2.2]; exact hlt)) = t at *
      have i0 : (0 : Int) ≤ (k : Int) := by omega
      have i1 : (k : Int) < (n : Int) := by omega
      clear c0 c1 c3 hb0
      obtain ⟨sa, sc, hsv⟩ := row_form HO.out.1
      obtain ⟨ll, hll2⟩ : ∃ ll, (dL (a.take k)).length = ll := ⟨_, rfl⟩
      go_wp2_with (first
        | (at_builtin; refine app_V und46 info35 (base := B) (l := dL (a.take k)) (k := [.slice t.da t.dn t.dc]) (row_later HO.out.1 (balloc _ _)) (src_V und46 _ [.slice t.da t.dn t.dc] (fun u hu => (by simp only [List.mem_cons, List.mem_nil_iff, or_false] at hu; subst hu; rfl))) (by simp; omega) (by simp; omega) rfl (.tmp 11) (.tmp 17) rfl rfl rfl ?_; intro v' w2 ho9 hb9 _; rw [← HL.out] at ho9; have I1 : Hid (w2.ownsRow B 35 1 v' (dL (a.take (k + 1))).length (dL (a.take (k + 1))) ∧ Below B w w2) := ⟨ho9, below_trans HO.out.2 (below_trans (below_mono (balloc _ _) hbs) hb9)⟩; clear ho9 hb9))
      go_roundw
      case rel => exact ⟨k + 1, _, rfl, hlt, by go_num, I1.out.1, I1.out.2⟩
      case measure => simp [intOf]; omega
    obtain rfl : n = k := by omega
    rw [List.take_of_length_le (Nat.le_of_eq HG.out.2.2)] at HO
    obtain ⟨u1, u2, u3⟩ := row_form HO.out.1
    subst u3
    go_wp2_with fail
    go_ret
    exact ⟨_, rfl, HO.out.1, HO.out.2⟩
end Go.Proofs.YtemoplpfndnklaaGreatDoor

namespace Go.Proofs.YtemoplpfndnklaaGreatDoor
open Go.RowKit

set_option maxHeartbeats 4000000 in
set_option maxRecDepth 100000 in
theorem m41 {lv2 lv3 lv4 lv5 lv6 lv7 lv8 lv11 lv12 lv13 lv14 lv15 lv16 lv17 lv18 lv19 lv20 lv21 lv22 lv23 lv24 lv25 lv26 lv27 lv28 lv29 lv30 lv31 lv32 lv33 lv34 lv35 lv36 lv37 lv38 lv39 lv40 lv41 lv42 lv43 lv44 lv45 lv46 lv47 lv48 lv49 lv50 lv51 lv52 lv53 lv54 lv55 lv56 lv57 lv58 lv59 lv60 lv61 lv62 lv63 lv64 lv65 lv66 lv67 lv68 lv69 lv70 lv71 lv72 lv73 lv74 lv75 lv76 lv77 lv78 lv79 lv80 lv81 lv82 lv83 lv84 lv85 lv86 lv87 lv88 lv89 lv90 lv91 lv92 lv93 lv94 lv95 lv96 lv97 lv98 lv99 lv100 lv101 lv102 lv103 lv104 lv105 lv106 lv107 lv108 lv109 lv110 lv111 lv112 lv113 lv114 lv115 lv116 lv117 lv118 lv119 lv120 lv121 lv122 lv123 lv124 lv125 lv126 lv127 lv128 lv129 lv130 lv131 lv132 lv133 lv134 lv135 lv136 lv137 lv138 lv139 lv140 lv141 lv142 lv143 lv144 lv145 lv146 lv147 lv148 lv149 lv150 lv151 lv152 lv153 lv154 lv155 lv156 lv157 lv158 lv159 lv160 lv161 lv162 lv163 lv164 lv165 lv166 lv167 lv168 lv169 lv170 lv171 lv172 lv173 lv174 lv175 lv176 lv177 lv178 lv179 lv180 lv181 lv182 lv183 lv184 lv185 lv186 lv187 lv188 lv189 lv190 lv191 lv192 lv193 lv194 lv195 lv196 lv197 lv198 lv199 lv200 lv201 lv202 lv203 lv204 lv205 lv206 lv207 lv208 lv209 lv210 lv211 lv212 lv213 lv214 lv215 lv216 lv217 lv218 lv219 lv220 lv221 lv222 : Value} {w wc : World} {B N M ga ca gb cb gl gw : Nat} {F : Nat → Knd} {G X : Nat → Nat} {V : Nat → Value} {n : Nat → Nat} {D0 D : Nat → Nat → Prop} {U : Nat → Value} {m : Nat → Nat} (_SS : Hid (Stg kS w (N + M) 0 N ga F V n D0)) (SL : Hid (Stg kL w (N + M) N M gb F V n D0)) (_HGS : Hid (∀ k, k < N → G (0 + k) = gl ∧ X (0 + k) = k)) (HGL : Hid (∀ k, k < M → G (N + k) = gw ∧ X (N + k) = k)) (H : Hid (MN B w wc (N + M) F G X V n (N + M) U m D0 D)) (HM : Hid (∀ i, i < (N + M) → m i = n i + 16)) :
    Code.wp Tryz.prog (suff 41 (Tryz.f15.body.getD .skip)) (bodyPost Tryz.prog Tryz.f15 (GoodM B w D0)) ⟨(.slice (some ⟨ga, 0, none⟩) N ca :: .slice (some ⟨gb, 0, none⟩) M cb :: lv2 :: lv3 :: lv4 :: lv5 :: lv6 :: lv7 :: lv8 :: .slice (some ⟨gl, 0, none⟩) N N :: .slice (some ⟨gw, 0, none⟩) M M :: lv11 :: lv12 :: lv13 :: lv14 :: lv15 :: lv16 :: lv17 :: lv18 :: lv19 :: lv20 :: lv21 :: lv22 :: lv23 :: lv24 :: lv25 :: lv26 :: lv27 :: lv28 :: lv29 :: lv30 :: lv31 :: lv32 :: lv33 :: lv34 :: lv35 :: lv36 :: lv37 :: lv38 :: lv39 :: lv40 :: lv41 :: lv42 :: lv43 :: lv44 :: lv45 :: lv46 :: lv47 :: lv48 :: lv49 :: lv50 :: lv51 :: lv52 :: lv53 :: lv54 :: lv55 :: lv56 :: lv57 :: lv58 :: lv59 :: lv60 :: lv61 :: lv62 :: lv63 :: lv64 :: lv65 :: lv66 :: lv67 :: lv68 :: lv69 :: lv70 :: lv71 :: lv72 :: lv73 :: lv74 :: lv75 :: lv76 :: lv77 :: lv78 :: lv79 :: lv80 :: lv81 :: lv82 :: lv83 :: lv84 :: lv85 :: lv86 :: lv87 :: lv88 :: lv89 :: lv90 :: lv91 :: lv92 :: lv93 :: lv94 :: lv95 :: lv96 :: lv97 :: lv98 :: lv99 :: lv100 :: lv101 :: lv102 :: lv103 :: lv104 :: lv105 :: lv106 :: lv107 :: lv108 :: lv109 :: lv110 :: lv111 :: lv112 :: lv113 :: lv114 :: lv115 :: lv116 :: lv117 :: lv118 :: lv119 :: lv120 :: lv121 :: lv122 :: lv123 :: lv124 :: lv125 :: lv126 :: lv127 :: lv128 :: lv129 :: lv130 :: lv131 :: lv132 :: lv133 :: lv134 :: lv135 :: lv136 :: lv137 :: lv138 :: lv139 :: lv140 :: lv141 :: lv142 :: lv143 :: lv144 :: lv145 :: lv146 :: lv147 :: lv148 :: lv149 :: lv150 :: lv151 :: lv152 :: lv153 :: lv154 :: lv155 :: lv156 :: lv157 :: lv158 :: lv159 :: lv160 :: lv161 :: lv162 :: lv163 :: lv164 :: lv165 :: lv166 :: lv167 :: lv168 :: lv169 :: lv170 :: lv171 :: lv172 :: lv173 :: lv174 :: lv175 :: lv176 :: lv177 :: lv178 :: lv179 :: lv180 :: lv181 :: lv182 :: lv183 :: lv184 :: lv185 :: lv186 :: lv187 :: lv188 :: lv189 :: lv190 :: lv191 :: lv192 :: lv193 :: lv194 :: lv195 :: lv196 :: lv197 :: lv198 :: lv199 :: lv200 :: lv201 :: lv202 :: lv203 :: lv204 :: lv205 :: lv206 :: lv207 :: lv208 :: lv209 :: lv210 :: lv211 :: lv212 :: lv213 :: lv214 :: lv215 :: lv216 :: lv217 :: lv218 :: lv219 :: lv220 :: lv221 :: lv222 :: []).toArray, []⟩ wc := by
  conv => arg 2; whnf
  have L1 := SL.out.L1
  have hOL : N + M ≤ (N + M) := SL.out.hO
  go_wp2_with fail
  go_loopw [17] (fun i wr => ∃ k : Nat, k ≤ M ∧ i = .int .i64 k ∧ Below wc.heap.size wc wr) (fun i _ => M - (intOf i).toNat)
  case atStart => exact ⟨0, by omega, rfl, Below.refl _ _⟩
  case round =>
    obtain ⟨k, hk, rfl, hbw⟩ := hrel
    obtain ⟨wo, hwo⟩ : ∃ wo, wo = wr := ⟨_, rfl⟩
    subst hwo
    have BW : Hid (Below wc.heap.size wc wo) := hbw
    clear hbw
    by_cases hlt : k < M
    · have hk6 : k < 600 := by omega
      have hln := SL.out.nn (N + k)
      obtain ⟨nk, hnk⟩ : ∃ x, n (N + k) = x := ⟨_, rfl⟩
      rw [hnk] at hln
      have HNK : Hid (n (N + k) = nk) := hnk
      clear hnk
      have i0 : (0 : Int) ≤ (k : Int) := by omega
      have i1 : (k : Int) < (M : Int) := by omega
      go_wp2_with fail
      go_loopw [18] (fun j wr => ∃ j' : Nat, j' ≤ nk + 16 ∧ j = .int .i64 j' ∧ Below wc.heap.size wc wr) (fun j _ => nk + 16 - (intOf j).toNat)
      case atStart => exact ⟨0, by omega, rfl, BW.out⟩
      case round =>
        obtain ⟨j, hm, rfl, hbw⟩ := hrel
        have B2 : Hid (Below wc.heap.size wc wr) := hbw
        have L2 := H.out.later hbw
        have hgx := HGL.out k hlt
        have c1 := L2.cell (N + k) (by omega)
        have hg1 := (L2.gllt (N + k) (by omega)).2
        rw [hgx.1, hgx.2] at c1
        rw [hgx.1] at hg1
        have c3 := L2.q.cell (SL.out.cells k hlt) SL.out.nt
        have hg3 : gb < wr.heap.size := Nat.lt_of_lt_of_le (World.block_lt_of_cell? w ⟨gb, k, none⟩ (SL.out.cells k hlt)) L2.q.size
        have o1 := L2.own (N + k) (by omega)
        have o3 := L2.q.own (N + k) (by omega)
        rw [HM.out (N + k) (by omega), SL.out.fk k hlt, HNK.out] at o1
        rw [SL.out.fk k hlt, HNK.out] at o3
        obtain ⟨g1, q1, e1, _, _, hg2⟩ := row_place o1 (by omega)
        rw [e1] at c1 o1
        clear hbw L2 hgx
        by_cases hlt2 : j < nk + 16
        · have c2 : wr.cell? ⟨g1, j * 2, none⟩ = some (.string (bs (mkS k))) := by have := (row_cell o1 rfl j 0 hlt2 (Nat.succ_pos _)).1; simpa [kL] using this
          clear o1 e1
          have j0 : (0 : Int) ≤ (j : Int) := by omega
          have j1 : (j : Int) < (nk : Int) + 16 := by omega
          by_cases hlt3 : j < nk
          · obtain ⟨g2, q2, e2, _, _, hg4⟩ := row_place o3 (by omega)
            rw [e2] at c3 o3
            have c4 : wr.cell? ⟨g2, j * 2, none⟩ = some (.string (bs (mkS k))) := by have := (row_cell o3 rfl j 0 hlt3 (Nat.succ_pos _)).1; simpa [kL] using this
            clear o3 e2
            go_wp2_with fail
            have x1 : ∀ X : GW wr, X.it.cell? ⟨gw, k, none⟩ = some (.slice (some ⟨g1, 0, none⟩) (nk + 16) q1) := fun X => X.cell hg1 c1
            have x2 : ∀ X : GW wr, X.it.cell? ⟨g1, j * 2, none⟩ = some (.string (bs (mkS k))) := fun X => X.cell hg2 c2
            have x3 : ∀ X : GW wr, X.it.cell? ⟨gb, k, none⟩ = some (.slice (some ⟨g2, 0, none⟩) nk q2) := fun X => X.cell hg3 c3
            have x4 : ∀ X : GW wr, X.it.cell? ⟨g2, j * 2, none⟩ = some (.string (bs (mkS k))) := fun X => X.cell hg4 c4
            have xne := gw_ne wr
            refine wp_region_grow (by kernel_rfl) (by kernel_rfl) ?_
            repeat (go_big_quiet_step (exact mark_grow k hk6 _))
            refine wpQuiet_nil ?_
            rintro w' ⟨⟨w', bx⟩, rfl⟩
            go_wp2_with fail
            go_roundw
            case rel => exact ⟨j + 1, by omega, by go_num, bstep B2.out bx⟩
            case measure => simp [intOf]; omega
          · have d3 : decide ((j : Int) < (nk : Int)) = false := by simp; omega
            obtain ⟨a2, q2, e2⟩ := row_form o3
            rw [e2] at c3
            clear o3 e2
            go_wp2_with fail
            have x1 : ∀ X : GW wr, X.it.cell? ⟨gw, k, none⟩ = some (.slice (some ⟨g1, 0, none⟩) (nk + 16) q1) := fun X => X.cell hg1 c1
            have x2 : ∀ X : GW wr, X.it.cell? ⟨g1, j * 2, none⟩ = some (.string (bs (mkS k))) := fun X => X.cell hg2 c2
            have x3 : ∀ X : GW wr, X.it.cell? ⟨gb, k, none⟩ = some (.slice a2 nk q2) := fun X => X.cell hg3 c3
            have xne := gw_ne wr
            refine wp_region_grow (by kernel_rfl) (by kernel_rfl) ?_
            repeat (go_big_quiet_step (exact mark_grow k hk6 _))
            refine wpQuiet_nil ?_
            rintro w' ⟨⟨w', bx⟩, rfl⟩
            go_wp2_with fail
            go_roundw
            case rel => exact ⟨j + 1, by omega, by go_num, bstep B2.out bx⟩
            case measure => simp [intOf]; omega
        · obtain rfl : j = nk + 16 := by omega
          clear o1 o3
          go_wp2_with fail
          go_roundw
          case rel => exact ⟨k + 1, by omega, by go_num, B2.out⟩
          case measure => simp [intOf]; omega
    · obtain rfl : M = k := by omega
      go_wp2_with fail
      go_ret
      have H2 := H.out.later BW.out
      exact ⟨rfl, H2.q.below, H2.q.kept⟩

end Go.Proofs.YtemoplpfndnklaaGreatDoor
