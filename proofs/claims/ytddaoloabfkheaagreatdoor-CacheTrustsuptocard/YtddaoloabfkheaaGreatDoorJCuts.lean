/-
  Rows of texts: what a slice of texts reads as, what the call owns, append from whatever source.
  Sets of texts as rising lists: plain lists.
  The library's cuts: at a colon; a prefix, a suffix.
-/
import Derived.Test.YtddaoloabfkheaaGreatDoorJPath
import Derived.WalkKit
import Derived.WalkSpells
import Derived.WalkLawsBesides
import Derived.Deep.AppendSrc
import Derived.Deep.Upon
import Derived.Deep.Onto
import Derived.Deep.AppendLies
import Derived.Maps.AppendAt
import Derived.Test.YtddaoloabfkheaaGreatDoorJParts
import Derived.Lib.SlicesCompact
namespace Go.Proofs.YtddaoloabfkheaaGreatDoor
open Go.RowKit

/-- texts as cells -/
def sc (l : List (List UInt8)) : List Value := l.map fun p => Value.string (bs p)
theorem sc_append (a b : List (List UInt8)) : sc (a ++ b) = sc a ++ sc b := by simp [sc]
theorem sc_get (l : List (List UInt8)) (i : Nat) : (sc l)[i]? = (l[i]?).map fun p => Value.string (bs p) := by simp [sc]
theorem sc_one (l : List (List UInt8)) : ∀ u ∈ sc l, u.oneCell' = true := by
  intro u hu
  obtain ⟨_, _, rfl⟩ := List.mem_map.1 hu
  rfl

/-- A slice of texts v reads as l in the world w (whatever lies behind its length). -/
def SS (w : World) (v : Value) (l : List (List UInt8)) : Prop :=
  ((∃ a c, v = .slice a 0 c) ∧ l = []) ∨
  ∃ b off cap, v = .slice (some ⟨b, off, none⟩) l.length cap ∧ l.length ≤ cap ∧ b < w.heap.size ∧ ∀ i u, (sc l)[i]? = some u → w.cell? ⟨b, off + i, none⟩ = some u

/-- Owned texts: a row of the call's own, from block 'base' on. -/
def Own (base : Nat) (w : World) (v : Value) (l : List (List UInt8)) : Prop := w.ownsRow base 9 1 v l.length (sc l)

theorem add_lit (b off j : Nat) : (⟨b, off, none⟩ : Addr).add j = ⟨b, off + j, none⟩ := by unfold Addr.add; split <;> simp_all

theorem SS.later {w w' : World} {v : Value} {l : List (List UInt8)} (h : SS w v l) (hb : Below w.heap.size w w') : SS w' v l := by
  rcases h with h | ⟨b, off, cap, rfl, hc, hlt, hcell⟩
  · exact .inl h
  · refine .inr ⟨b, off, cap, rfl, hc, Nat.lt_of_lt_of_le hlt hb.size, fun i u hu => ?_⟩
    rw [hb.cell (p := ⟨b, off + i, none⟩) hlt]; exact hcell i u hu
theorem Own.bs {base : Nat} {w : World} {v : Value} {l : List (List UInt8)} (h : Own base w v l) : SS w v l := by
  rcases h.2 with ⟨rfl, h0⟩ | ⟨g, cap, cur, rfl, hb, hg, hn, _⟩
  · exact .inl ⟨⟨_, _, rfl⟩, List.eq_nil_of_length_eq_zero h0⟩
  · refine .inr ⟨g, 0, cap, rfl, hn, (Array.getElem?_eq_some_iff.1 hg).1, fun i u hu => ?_⟩
    have := World.ownsRow.cells h (g := g) rfl i u hu
    rw [add_lit] at this; exact this

theorem Own.mono {base base' : Nat} {w : World} {v : Value} {l : List (List UInt8)} (h : Own base w v l) (hb : base' ≤ base) : Own base' w v l := World.ownsRow.mono h hb

theorem Own.nil (base : Nat) (w : World) : Own base w (.slice none 0 0) [] := World.ownsRow_nil w base 9 1

/-- what it yields to an append -/
theorem SS.src {w : World} {v : Value} {l : List (List UInt8)} {P : Program} {tx e' : TypeId} (h : SS w v l) (hk : P.underlying tx = some (.slice e')) : Src P 1 tx v l.length (sc l) w := by
  rcases h with ⟨⟨a, c, rfl⟩, rfl⟩ | ⟨b, off, cap, rfl, hc, hlt, hcell⟩
  · cases a with
    | none => exact Src.ofNil w hk c
    | some a => exact Src.ofSlice w hk a 0 c [] (by simp) (fun j u hu => by simp at hu) (fun u hu => by cases hu)
  · exact Src.ofSlice w hk ⟨b, off, none⟩ l.length cap (sc l) (by simp [sc]) (fun j u hu => by rw [add_lit]; exact hcell j u hu) (sc_one l)

section
variable {P : Program} (w : World)

theorem run_append_src (base : Nat) (t tx ty e : TypeId) (i : TypeInfo) (z : Value) (size bytes : Nat) (ht : P.underlying t = some (.slice e)) (hi : P.info? e = some i) (hz : i.zero = some z)
    (hsize : i.size = size) (hby : i.bytes = bytes) (hzs : z.cells.size = size)
    (v : Value) (n : Nat) (xs : List Value) (hown : w.ownsRow base e size v n xs)
    (x : Value) (m : Nat) (news : List Value) (hs : Src P size tx x m news w)
    (h63 : n + m ≤ maxLen) (hbytes : (n + m) * bytes ≤ 140737488355328) (hbase : base ≤ w.heap.size) :
    ∃ v' w', (Builtin.append_ #[t, tx] ty #[v, x]).run P w = .ok v' w' ∧ w'.ownsRow base e size v' (n + m) (xs ++ news) ∧ w.grownBy w' v.ownBlock ∧
      (v'.ownBlock = v.ownBlock ∨ v'.ownBlock = some w.heap.size) := by
  subst hsize
  subst hby
  have hsmall : n + m ≤ 9223372036854775807 := by simp only [maxLen] at h63; omega
  have hlen : (xs ++ news).length = (n + m) * i.size := by rw [List.length_append, hown.1, hs.newsLen, Nat.add_mul]
  have grown : ∀ (old : Nat), old < n + m → ∀ (row : Option Nat),
      (w.drew.alloc (.cells ((xs ++ news).toArray ++ Builtin.zeroCells z.cells (grownCap w (n + m) old e - (n + m))) e)).ownsRow base e i.size
        (.slice (some ⟨w.heap.size, 0, none⟩) (n + m) (grownCap w (n + m) old e)) (n + m) (xs ++ news) ∧
      w.grownBy (w.drew.alloc (.cells ((xs ++ news).toArray ++ Builtin.zeroCells z.cells (grownCap w (n + m) old e - (n + m))) e)) row := by
    intro old ho row
    have hge := grownCap_ge w (n + m) old e
    have hcm : grownCap w (n + m) old e ≤ maxLen := grownCap_le_maxLen w (n + m) old e h63
    refine ⟨⟨hlen, .inr ⟨w.heap.size, _, _, rfl, hbase, heap_alloc_new w.drew _, hge, hcm, ?_, ?_⟩⟩, ⟨rfl, rfl, rfl, by simp, fun k hk _ => Below.heap_alloc w.drew _ k hk⟩⟩
    · simp only [Array.size_append, List.size_toArray, size_zeroCells, hzs, hlen, ← Nat.add_mul]
      congr 1
      omega
    · simp only [Array.toList_append]
      rw [← hlen]
      exact List.take_left
  rcases hown.2 with ⟨rfl, rfl⟩ | ⟨g, cap, cur, rfl, hbg, hg, hnc, hcm, hcs, htake⟩
  · have hx : xs = [] := List.eq_nil_of_length_eq_zero (by simpa using hown.1)
    subst hx
    by_cases hm : m = 0
    · subst hm
      have hn : news = [] := List.eq_nil_of_length_eq_zero (by simpa using hs.newsLen)
      subst hn
      exact ⟨.slice none 0 0, w, run_append_nothing w t tx ty e i ht hi none 0 0 (Nat.le_refl _) x hs, World.ownsRow_nil w base e i.size, ⟨rfl, rfl, rfl, Nat.le_refl _, fun _ _ _ => rfl⟩, Or.inl rfl⟩
    · have hr := run_append_grow_src (P := P) w t tx ty e i z ht hi hz none 0 0 [] (run_firstCells_none w.drew i.size 0 0 0) x m news hs (by omega) (by omega) (growslice_fits (by omega) hbytes)
      have hgr := grown 0 (by omega) (Value.ownBlock (.slice none 0 0))
      exact ⟨_, _, hr, hgr.1, hgr.2, Or.inr rfl⟩
  · by_cases hroom : n + m ≤ cap
    · have hfit : n * i.size + news.length ≤ cur.size := by rw [hs.newsLen, hcs, ← Nat.add_mul]; exact Nat.mul_le_mul_right _ hroom
      have hst := run_storeCells_at P g (n * i.size) e news 0 cur w hg (by simpa using hfit) hs.one
      simp only [Nat.add_zero] at hst
      have hr : (Builtin.append_ #[t, tx] ty #[.slice (some ⟨g, 0, none⟩) n cap, x]).run P w =
          .ok (.slice (some ⟨g, 0, none⟩) (n + m) cap) (w.setRow g (cur.toList.take (n * i.size) ++ news ++ cur.toList.drop (n * i.size + news.length)).toArray) := by
        rcases hs.kind with ⟨e', hk⟩ | hk <;> simp [Builtin.append_, run_underlying ht, run_underlying hk, sizeOf, typeInfo, hi, hs.len, hroom, hs.cells, Addr.add_lit, hst]
      refine ⟨_, _, hr, ⟨hlen, .inr ⟨g, cap, _, rfl, hbg, setRow_heap w g cur _ e _ hg, hroom, hcm, ?_, ?_⟩⟩, ⟨rfl, rfl, rfl, by simp, fun k _ hk => setRow_other w g k _ (fun e => hk (by simp [Value.ownBlock, e]))⟩, Or.inl rfl⟩
      · simp only [List.size_toArray, List.length_append, List.length_take, List.length_drop, Array.length_toList]
        omega
      · rw [htake, ← hlen]
        exact List.take_left
    · have holds : ∀ j u, xs[j]? = some u → w.cell? ((⟨g, 0, none⟩ : Addr).add j) = some u := hown.cells (g := g) rfl
      have hr := run_append_grow_src (P := P) w t tx ty e i z ht hi hz (some ⟨g, 0, none⟩) n cap xs (run_firstCells_some w.drew i.size n _ n cap xs hown.1 (by simpa using holds)) x m news hs (by omega) (by omega) (growslice_fits (by omega) hbytes)
      have hgr := grown cap (by omega) (Value.ownBlock (.slice (some ⟨g, 0, none⟩) n cap))
      exact ⟨_, _, hr, hgr.1, hgr.2, Or.inr rfl⟩

theorem wpList_append_src {ops : Array Oper} {rest : List Oper} {o : Oper} {a : Act} {Q : Exit → Act → World → Prop} (hgd : o.guard = none) (s x : Operand) (t tx : TypeId)
    (ho : o.op = .call { callee := .builtin .append, args := #[s, x], argTypes := #[t, tx] })
    (base : Nat) (e : TypeId) (i : TypeInfo) (z : Value) (size bytes : Nat) (ht : P.underlying t = some (.slice e)) (hi : P.info? e = some i) (hz : i.zero = some z)
    (hsize : i.size = size) (hby : i.bytes = bytes) (hzs : z.cells.size = size)
    (v : Value) (n : Nat) (xs : List Value) (hv : a.eval s = v) (hown : w.ownsRow base e size v n xs)
    (y : Value) (m : Nat) (news : List Value) (hx : a.eval x = y) (hs : Src P size tx y m news w)
    (h63 : n + m ≤ maxLen) (hbytes : (n + m) * bytes ≤ 140737488355328) (hbase : base ≤ w.heap.size)
    (h : ∀ v' w', w'.ownsRow base e size v' (n + m) (xs ++ news) → w.grownBy w' v.ownBlock → (v'.ownBlock = v.ownBlock ∨ v'.ownBlock = some w.heap.size) → wpList P ops Q rest (a.put o.dst v') w') :
    wpList P ops Q (o :: rest) a w := by
  refine wpList_plain hgd fun K hK => ?_
  obtain ⟨v', w', hr, h2, h3, h4⟩ := run_append_src (P := P) w base t tx o.type e i z size bytes ht hi hz hsize hby hzs v n xs hown y m news hs h63 hbytes hbase
  unfold Oper.wp execOp
  simp only [ho, resolve, invoke, builtin, Sem.run_bind, Sem.run_pure, Result.andThen_ok, List.map_toArray, List.map_cons, List.map_nil, hv, hx, hr]
  exact hK _ _ (h v' w' h2 h3 h4)

end

theorem und64 : Tryz.prog.underlying 63 = some (.slice 9) := by kernel_rfl
theorem und9 : Tryz.prog.underlying 9 = some .string := by kernel_rfl
theorem info9 : (Tryz.prog.info? 9).map (fun i => (i.zero, i.size, i.bytes)) = some (some (.string ByteArray.empty), 1, 16) := by kernel_rfl

/-- append of texts onto texts of the call's own -/
theorem app_strs {w : World} {base : Nat} {v x : Value} {l k : List (List UInt8)} (hown : Own base w v l) (hs : Src Tryz.prog 1 63 x k.length (sc k) w) (hb : l.length + k.length ≤ 8796093022208) (hbase : base ≤ w.heap.size)
    {ops : Array Oper} {rest : List Oper} {o : Oper} {a : Act} {Q : Exit → Act → World → Prop} (hgd : o.guard = none) (s y : Operand)
    (ho : o.op = .call { callee := .builtin .append, args := #[s, y], argTypes := #[63, 63] }) (hv : a.eval s = v) (hx : a.eval y = x)
    (h : ∀ v' w', Own base w' v' (l ++ k) → w.grownBy w' v.ownBlock → (v'.ownBlock = v.ownBlock ∨ v'.ownBlock = some w.heap.size) → wpList Tryz.prog ops Q rest (a.put o.dst v') w') :
    wpList Tryz.prog ops Q (o :: rest) a w := by
  obtain ⟨i0, hi, hz0, hz1, hz2⟩ := info_parts info9
  refine wpList_append_src w hgd s y 63 63 ho base 9 i0 (.string ByteArray.empty) 1 16 und64 hi hz0 hz1 hz2 rfl v l.length (sc l) hv hown x k.length (sc k) hx hs (by simp only [maxLen]; omega) (by omega) hbase ?_
  intro v' w' h1 h2 h3
  exact h v' w' (by unfold Own; rw [sc_append, List.length_append]; exact h1) h2 h3

end Go.Proofs.YtddaoloabfkheaaGreatDoor

namespace Go.Proofs.YtddaoloabfkheaaGreatDoor

def hds (l : List (List UInt8)) : List (List UInt8) := l.filter fun x => !l.any fun y => abvV y x
end Go.Proofs.YtddaoloabfkheaaGreatDoor

namespace Go.Proofs.YtddaoloabfkheaaGreatDoor
open Go.RowKit

theorem Own.only {S : List Nat} {base : Nat} {w w' : World} {v : Value} {l : List (List UInt8)} (h : Own base w v l) (ho : Only S w w') (hn : ∀ k, v.ownBlock = some k → k ∉ S) : Own base w' v l := by
  refine ⟨h.1, ?_⟩
  rcases h.2 with ⟨rfl, h0⟩ | ⟨g, cap, cur, rfl, hb, hg, hr⟩
  · exact .inl ⟨rfl, h0⟩
  · exact .inr ⟨g, cap, cur, rfl, hb, by rw [ho.block g (Array.getElem?_eq_some_iff.1 hg).1 (hn g rfl)]; exact hg, hr⟩
theorem Own.later {base : Nat} {w w' : World} {v : Value} {l : List (List UInt8)} (h : Own base w v l) (hb : Below w.heap.size w w') : Own base w' v l :=
  h.only (Only.of_below hb []) (by simp)
theorem Own.lt {base : Nat} {w : World} {v : Value} {l : List (List UInt8)} (h : Own base w v l) {k : Nat} (hk : v.ownBlock = some k) : base ≤ k ∧ k < w.heap.size := World.ownsRow.lt h k hk

theorem cell_one_str (w : World) (u : Value) (k : TypeId) : ∀ j x, [u][j]? = some x → (w.alloc (.cells #[u] k)).cell? ((⟨w.heap.size, 0, none⟩ : Addr).add j) = some x := by
  intro j x hx
  cases j with
  | zero => simp at hx; subst hx; rw [add_lit]; simp
  | succ j => simp at hx
theorem src_one (w : World) (p : List UInt8) : Src Tryz.prog 1 63 (.slice (some ⟨w.heap.size, 0, none⟩) 1 1) [p].length (sc [p]) (w.alloc (.cells #[.string (bs p)] 9)) :=
  Src.ofSlice _ und64 ⟨w.heap.size, 0, none⟩ 1 1 (sc [p]) (by simp [sc]) (cell_one_str w _ 9) (sc_one _)

/-- append of one text onto texts of the call's own -/
theorem app_one {w : World} {base : Nat} {v : Value} {l : List (List UInt8)} (p : List UInt8) (hown : Own base w v l) (hb : l.length + 1 ≤ 8796093022208) (hbase : base ≤ w.heap.size)
    {ops : Array Oper} {rest : List Oper} {o : Oper} {a : Act} {Q : Exit → Act → World → Prop} (hgd : o.guard = none) (s y : Operand)
    (ho : o.op = .call { callee := .builtin .append, args := #[s, y], argTypes := #[63, 63] }) (hv : a.eval s = v) (hx : a.eval y = .slice (some ⟨w.heap.size, 0, none⟩) 1 1)
    (h : ∀ v' w', Own base w' v' (l ++ [p]) → Below base w w' → base ≤ w'.heap.size → w.grownBy w' v.ownBlock → (v'.ownBlock = v.ownBlock ∨ v'.ownBlock = some (w.heap.size + 1)) → wpList Tryz.prog ops Q rest (a.put o.dst v') w') :
    wpList Tryz.prog ops Q (o :: rest) a (w.alloc (.cells #[.string (bs p)] 9)) := by
  refine app_strs (base := base) (l := l) (k := [p]) (World.ownsRow.alloc hown _) (src_one w p) (by simpa using hb) (by simp; omega) hgd s y ho hv hx ?_
  intro v' w' h1 h2 h3
  have hlt := World.ownsRow.lt hown
  have hB : Below base w w' := ((Below.refl _ _).alloc hbase _).grown h2 (by simp; omega) (fun k hk => (hlt k hk).1)
  refine h v' w' h1 hB (Nat.le_trans hbase hB.size) ((World.grownBy_alloc w _ _).trans h2) (by simpa using h3)

theorem SS.form {w : World} {v : Value} {L : List (List UInt8)} (h : SS w v L) : ∃ a c, v = .slice a L.length c ∧ (∀ k, (hk : k < L.length) → ∃ b off, a = some ⟨b, off, none⟩ ∧ b < w.heap.size ∧ w.cell? ⟨b, off + k, none⟩ = some (.string (bs L[k]))) := by
  rcases h with ⟨⟨a, c, rfl⟩, rfl⟩ | ⟨b, off, cap, rfl, hc, hlt, hcell⟩
  · exact ⟨a, c, rfl, fun k hk => by simp at hk⟩
  · exact ⟨_, _, rfl, fun k hk => ⟨b, off, rfl, hlt, hcell k _ (by simp [sc_get, hk])⟩⟩

theorem drop_same {α : Type} [DecidableEq α] {A B : List α} {k : Nat} (ha : k < A.length) (hb : k < B.length) : decide (A.drop k = B.drop k) = (decide (A[k] = B[k]) && decide (A.drop (k + 1) = B.drop (k + 1))) := by
  have e1 := List.drop_eq_getElem_cons ha
  have e2 := List.drop_eq_getElem_cons hb
  rw [Bool.eq_iff_iff]
  simp only [Bool.and_eq_true, decide_eq_true_eq]
  rw [e1, e2, List.cons.injEq]

theorem bstep {a b c : World} (h : Below a.heap.size a b) (k : Below b.heap.size b c) : Below a.heap.size a c := below_trans h (below_mono k h.size)
end Go.Proofs.YtddaoloabfkheaaGreatDoor

namespace Go.Proofs.YtddaoloabfkheaaGreatDoor
open Go.RowKit

set_option maxHeartbeats 1000000 in
set_option maxRecDepth 100000 in
theorem c_indexByte_any (l : List UInt8) (w : World) :
    Calls Tryz.prog 135 #[.string (bs l), .int .u8 58] w fun e w' => e = .returned (.int .i64 (Lib.indexByte l 58)) ∧ w' = w := by
  go_enter Tryz.func135, Tryz.ntmps135
  go_wp2
  rw [run_callFunc_extern Tryz.func155 (by kernel_rfl) (by kernel_rfl) (by kernel_rfl) (e := Extern.BytealgIndexByte.indexByte) (by kernel_rfl), Lib.run_indexByteString]
  simp only [Result.andThen]
  rw [Oper.upon_value]
  go_wp2
  go_ret
  exact ⟨rfl, rfl⟩

set_option maxHeartbeats 2000000 in
set_option maxRecDepth 100000 in
theorem c_index_any (l : List UInt8) (w : World) :
    Calls Tryz.prog 120 #[.string (bs l), .string (bs [58])] w fun e w' => e = .returned (.int .i64 (Lib.indexByte l 58)) ∧ w' = w := by
  have hz : (bs [58]).size = 1 := rfl
  by_cases hl : l = [58]
  · subst hl
    have he : ((bs [58]).toList == (bs [58]).toList) = true := by simp
    go_enter Tryz.func120, Tryz.ntmps120
    go_wp2_with fail
    go_ret
    exact ⟨rfl, rfl⟩
  · have he : ((bs [58]).toList == (bs l).toList) = false := by rw [bs_toList, bs_toList, beq_eq_false_iff_ne]; exact fun e => hl e.symm
    go_enter Tryz.func120, Tryz.ntmps120
    go_wp2_with fail
    refine (c_indexByte_any _ _).mono ?_
    rintro e w1 ⟨rfl, rfl⟩
    go_wp2_with fail
    go_ret
    exact ⟨rfl, rfl⟩

theorem c_extract_hd (l : List UInt8) : (bs l).extract 0 (chd l).length = bs (chd l) := by
  rw [bs_extract]; congr 1; simp [← c_hd_take l]
theorem c_extract_tl (l : List UInt8) (h : csl l = true) : (bs l).extract ((chd l).length + 1) (bs l).size = bs (ctl l) := by
  rw [bs_extract, ← c_tl_drop l h]; congr 1
  rw [bs_size]; have := c_hd_len l h; exact List.take_of_length_le (by omega)

set_option maxHeartbeats 2000000 in
set_option maxRecDepth 100000 in
theorem c_cut0_any (l : List UInt8) (w : World) (hm : l.length ≤ 9223372036854775807) :
    Calls Tryz.prog 108 #[.string (bs l), .string (bs [58])] w fun e w' => e = .returned (.tuple #[.string (bs (chd l)), .string (bs (ctl l)), .bool (csl l)]) ∧ ∃ n, w' = w.drewN n := by
  have hz : (bs [58]).size = 1 := rfl
  have hx := c_indexByte_eq l
  cases h : csl l
  · rw [h] at hx
    simp only [Bool.false_eq_true, if_false] at hx
    rw [c_hd_all l h, c_tl_none l h]
    go_enter Tryz.func108, Tryz.ntmps108
    go_wp2_with fail
    refine (c_index_any _ _).mono ?_
    rintro e w1 ⟨rfl, rfl⟩
    rw [hx]
    go_wp2_with fail
    go_ret3
    exact ⟨rfl, 0, rfl⟩
  · rw [h] at hx
    simp only [if_true] at hx
    have hlen := c_hd_len l h
    have hsz : (bs l).size = l.length := rfl
    obtain ⟨n, hn⟩ : ∃ n, (chd l).length = n := ⟨_, rfl⟩
    have e1 := c_extract_hd l
    have e2 := c_extract_tl l h
    rw [hn] at e1 e2 hx hlen
    rw [hsz] at e2
    have E1 : Hid ((bs l).extract 0 n = bs (chd l)) := e1
    have E2 : Hid ((bs l).extract (n + 1) l.length = bs (ctl l)) := e2
    clear e1 e2
    have c1 : (0 : Int) ≤ ↑n := by omega
    have c2 : (n : Int) ≤ (l.length : Int) := by omega
    have c3 : (0 : Int) ≤ ↑n + 1 := by omega
    have c4 : (n : Int) + 1 ≤ (l.length : Int) := by omega
    go_enter Tryz.func108, Tryz.ntmps108
    go_wp2_with fail
    refine (c_index_any _ _).mono ?_
    rintro e w1 ⟨rfl, rfl⟩
    rw [hx]
    go_wp2_with fail
    go_region
    go_wp2_with fail
    go_ret3
    refine ⟨?_, 1, rfl⟩
    rw [← E1.out, ← E2.out]; rfl

set_option maxRecDepth 100000 in
set_option maxHeartbeats 1000000 in
theorem c_cut_any (l : List UInt8) (w : World) (hm : l.length ≤ 9223372036854775807) :
    Calls Tryz.prog 90 #[.string (bs l), .string (bs [58])] w fun e w' => e = .returned (.tuple #[.string (bs (chd l)), .string (bs (ctl l)), .bool (csl l)]) ∧ ∃ n, w' = w.drewN n := by
  have HM : Hid (l.length ≤ 9223372036854775807) := hm
  clear hm
  go_enter Tryz.func90, Tryz.ntmps90
  go_wp2_with fail
  refine (c_cut0_any _ _ HM.out).mono ?_
  rintro e w1 ⟨rfl, n, rfl⟩
  go_wp2_with fail
  go_ret3
  exact ⟨rfl, n, rfl⟩


theorem take_eq_iff (p l : List UInt8) : (l.take p.length = p ∧ p.length ≤ l.length) ↔ p.isPrefixOf l = true := by
  rw [List.isPrefixOf_iff_prefix, List.prefix_iff_eq_take]
  constructor
  · rintro ⟨h, _⟩; exact h.symm
  · intro h; exact ⟨h.symm, by have := congrArg List.length h; simp at this; omega⟩
theorem beq_bs (a b : List UInt8) : ((bs a).toList == (bs b).toList) = decide (a = b) := by
  rw [bs_toList, bs_toList]
  by_cases h : a = b
  · simp [h]
  · simp [h]

set_option maxRecDepth 100000 in
set_option maxHeartbeats 1000000 in
theorem hasPrefix_any (l p : List UInt8) (w : World) (_hl : l.length ≤ 9223372036854775807) (hp : p.length ≤ 9223372036854775807) :
    Calls Tryz.prog 182 #[.string (bs l), .string (bs p)] w fun e w' => e = .returned (.bool (p.isPrefixOf l)) ∧ w' = w := by
  have z1 : (bs l).size = l.length := rfl
  have z2 : (bs p).size = p.length := rfl
  by_cases h : p.length ≤ l.length
  · have c1 : (p.length : Int) ≤ (l.length : Int) := by omega
    have c2 : (0 : Int) ≤ (p.length : Int) := by omega
    have HE : Hid ((bs l).extract 0 p.length = bs (l.take p.length)) := extract_to l p.length
    have e0 : p.isPrefixOf l = decide (l.take p.length = p) := by
      by_cases h2 : l.take p.length = p
      · rw [(take_eq_iff p l).1 ⟨h2, h⟩]; simp [h2]
      · have : ¬ (p.isPrefixOf l = true) := fun h3 => h2 ((take_eq_iff p l).2 h3).1
        simp only [Bool.not_eq_true] at this
        rw [this]; simp [h2]
    rw [e0]
    have HB : Hid ((((bs l).extract 0 p.length).toList == (bs p).toList) = decide (l.take p.length = p)) := by
      show (_ == _) = _
      rw [HE.out]; exact beq_bs _ _
    clear e0
    go_enter Tryz.func182, Tryz.ntmps182
    go_wp2_with fail
    go_ret
    refine ⟨?_, rfl⟩
    rw [← HB.out]; rfl
  · have e0 : p.isPrefixOf l = false := by
      cases hh : p.isPrefixOf l
      · rfl
      · exact absurd ((take_eq_iff p l).2 hh).2 h
    rw [e0]
    have c1 : ¬ ((p.length : Int) ≤ (l.length : Int)) := by omega
    go_enter Tryz.func182, Tryz.ntmps182
    go_wp2_with fail
    go_ret
    exact ⟨rfl, rfl⟩

set_option maxRecDepth 100000 in
set_option maxHeartbeats 1000000 in
theorem cutPrefix0_any (l p : List UInt8) (w : World) (hl : l.length ≤ 9223372036854775807) (hp : p.length ≤ 9223372036854775807) :
    Calls Tryz.prog 176 #[.string (bs l), .string (bs p)] w fun e w' => e = .returned (.tuple #[.string (bs (if p.isPrefixOf l then l.drop p.length else l)), .bool (p.isPrefixOf l)]) ∧ w' = w := by
  have HP : Hid (∀ w : World, Calls Tryz.prog 182 #[.string (bs l), .string (bs p)] w fun e w' => e = .returned (.bool (p.isPrefixOf l)) ∧ w' = w) := fun w => hasPrefix_any l p w hl hp
  have z1 : (bs l).size = l.length := rfl
  have z2 : (bs p).size = p.length := rfl
  cases h : p.isPrefixOf l
  · rw [h] at HP
    simp only [Bool.false_eq_true, if_false]
    go_enter Tryz.func176, Tryz.ntmps176
    go_wp2_with fail
    refine (HP.out _).mono ?_
    rintro e w1 ⟨rfl, rfl⟩
    go_wp2_with fail
    go_ret2
    exact ⟨rfl, rfl⟩
  · rw [h] at HP
    have hle := ((take_eq_iff p l).2 h).2
    have c1 : (p.length : Int) ≤ (l.length : Int) := by omega
    have c2 : (0 : Int) ≤ (p.length : Int) := by omega
    have HE : Hid ((bs l).extract p.length l.length = bs (l.drop p.length)) := extract_from l p.length
    simp only [if_true]
    go_enter Tryz.func176, Tryz.ntmps176
    go_wp2_with fail
    refine (HP.out _).mono ?_
    rintro e w1 ⟨rfl, rfl⟩
    go_wp2_with fail
    go_ret2
    refine ⟨?_, rfl⟩
    rw [← HE.out]; rfl
set_option maxRecDepth 100000 in
set_option maxHeartbeats 1000000 in
theorem cutPrefix_any (l p : List UInt8) (w : World) (hl : l.length ≤ 9223372036854775807) (hp : p.length ≤ 9223372036854775807) :
    Calls Tryz.prog 168 #[.string (bs l), .string (bs p)] w fun e w' => e = .returned (.tuple #[.string (bs (if p.isPrefixOf l then l.drop p.length else l)), .bool (p.isPrefixOf l)]) ∧ w' = w := by
  have HP : Hid (∀ w : World, Calls Tryz.prog 176 #[.string (bs l), .string (bs p)] w fun e w' => e = .returned (.tuple #[.string (bs (if p.isPrefixOf l then l.drop p.length else l)), .bool (p.isPrefixOf l)]) ∧ w' = w) := fun w => cutPrefix0_any l p w hl hp
  generalize (if p.isPrefixOf l then l.drop p.length else l) = r at *
  generalize p.isPrefixOf l = b at *
  go_enter Tryz.func168, Tryz.ntmps168
  go_wp2_with fail
  refine (HP.out _).mono ?_
  rintro e w1 ⟨rfl, rfl⟩
  go_wp2_with fail
  go_ret2
  exact ⟨rfl, rfl⟩

set_option maxRecDepth 100000 in
set_option maxHeartbeats 1000000 in
theorem hasSuffix_any (l p : List UInt8) (w : World) (hl : l.length ≤ 9223372036854775807) (hp : p.length ≤ 9223372036854775807) :
    Calls Tryz.prog 187 #[.string (bs l), .string (bs p)] w fun e w' => e = .returned (.bool (p.isSuffixOf l)) ∧ w' = w := by
  have z1 : (bs l).size = l.length := rfl
  have z2 : (bs p).size = p.length := rfl
  by_cases h : p.length ≤ l.length
  · obtain ⟨n, hn⟩ : ∃ n, n = l.length - p.length := ⟨_, rfl⟩
    have c0 : (l.length : Int) - (p.length : Int) = (n : Int) := by omega
    have c1 : (p.length : Int) ≤ (l.length : Int) := by omega
    have c2 : (0 : Int) ≤ (n : Int) := by omega
    have c3 : (n : Int) ≤ (l.length : Int) := by omega
    have HE : Hid ((bs l).extract n l.length = bs (l.drop n)) := extract_from l n
    have e0 : p.isSuffixOf l = decide (l.drop n = p) := by
      subst hn
      by_cases h2 : l.drop (l.length - p.length) = p
      · rw [(suffix_iff p l).2 ⟨h, h2⟩]; simp [h2]
      · have : ¬ (p.isSuffixOf l = true) := fun h3 => h2 ((suffix_iff p l).1 h3).2
        simp only [Bool.not_eq_true] at this
        rw [this]; simp [h2]
    rw [e0]
    have HB : Hid ((((bs l).extract n l.length).toList == (bs p).toList) = decide (l.drop n = p)) := by
      show (_ == _) = _
      rw [HE.out]; exact beq_bs _ _
    clear e0 hn
    go_enter Tryz.func187, Tryz.ntmps187
    go_wp2_with fail
    go_ret
    refine ⟨?_, rfl⟩
    rw [← HB.out]; rfl
  · have e0 : p.isSuffixOf l = false := by
      cases hh : p.isSuffixOf l
      · rfl
      · exact absurd ((suffix_iff p l).1 hh).1 h
    rw [e0]
    have c1 : ¬ ((p.length : Int) ≤ (l.length : Int)) := by omega
    go_enter Tryz.func187, Tryz.ntmps187
    go_wp2_with fail
    go_ret
    exact ⟨rfl, rfl⟩

set_option maxRecDepth 100000 in
set_option maxHeartbeats 1000000 in
theorem cutSuffix0_any (l p : List UInt8) (w : World) (hl : l.length ≤ 9223372036854775807) (hp : p.length ≤ 9223372036854775807) :
    Calls Tryz.prog 186 #[.string (bs l), .string (bs p)] w fun e w' => e = .returned (.tuple #[.string (bs (if p.isSuffixOf l then l.take (l.length - p.length) else l)), .bool (p.isSuffixOf l)]) ∧ w' = w := by
  have HP : Hid (∀ w : World, Calls Tryz.prog 187 #[.string (bs l), .string (bs p)] w fun e w' => e = .returned (.bool (p.isSuffixOf l)) ∧ w' = w) := fun w => hasSuffix_any l p w hl hp
  have z1 : (bs l).size = l.length := rfl
  have z2 : (bs p).size = p.length := rfl
  cases h : p.isSuffixOf l
  · rw [h] at HP
    simp only [Bool.false_eq_true, if_false]
    go_enter Tryz.func186, Tryz.ntmps186
    go_wp2_with fail
    refine (HP.out _).mono ?_
    rintro e w1 ⟨rfl, rfl⟩
    go_wp2_with fail
    go_ret2
    exact ⟨rfl, rfl⟩
  · rw [h] at HP
    have hle := ((suffix_iff p l).1 h).1
    obtain ⟨n, hn⟩ : ∃ n, n = l.length - p.length := ⟨_, rfl⟩
    have c0 : (l.length : Int) - (p.length : Int) = (n : Int) := by omega
    have c2 : (0 : Int) ≤ (n : Int) := by omega
    have c3 : (n : Int) ≤ (l.length : Int) := by omega
    rw [← hn]
    have HE : Hid ((bs l).extract 0 n = bs (l.take n)) := extract_to l n
    clear hn
    simp only [if_true]
    go_enter Tryz.func186, Tryz.ntmps186
    go_wp2_with fail
    refine (HP.out _).mono ?_
    rintro e w1 ⟨rfl, rfl⟩
    go_wp2_with fail
    go_ret2
    refine ⟨?_, rfl⟩
    rw [← HE.out]; rfl
set_option maxRecDepth 100000 in
set_option maxHeartbeats 1000000 in
theorem cutSuffix_any (l p : List UInt8) (w : World) (hl : l.length ≤ 9223372036854775807) (hp : p.length ≤ 9223372036854775807) :
    Calls Tryz.prog 183 #[.string (bs l), .string (bs p)] w fun e w' => e = .returned (.tuple #[.string (bs (if p.isSuffixOf l then l.take (l.length - p.length) else l)), .bool (p.isSuffixOf l)]) ∧ w' = w := by
  have HP : Hid (∀ w : World, Calls Tryz.prog 186 #[.string (bs l), .string (bs p)] w fun e w' => e = .returned (.tuple #[.string (bs (if p.isSuffixOf l then l.take (l.length - p.length) else l)), .bool (p.isSuffixOf l)]) ∧ w' = w) := fun w => cutSuffix0_any l p w hl hp
  generalize (if p.isSuffixOf l then l.take (l.length - p.length) else l) = r at *
  generalize p.isSuffixOf l = b at *
  go_enter Tryz.func183, Tryz.ntmps183
  go_wp2_with fail
  refine (HP.out _).mono ?_
  rintro e w1 ⟨rfl, rfl⟩
  go_wp2_with fail
  go_ret2
  exact ⟨rfl, rfl⟩
end Go.Proofs.YtddaoloabfkheaaGreatDoor
