/-
  The library's cuts: at a colon; a prefix, a suffix.
-/
import Derived.Test.YtclbnjfmipifnaaJBase
import Derived.Test.YtclbnjfmipifnaaSets
import Derived.Test.YtclbnjfmipifnaaLab
namespace Go.Proofs.Ytclbnjfmipifnaa
open Go.RowKit

theorem Own.only {S : List Nat} {base : Nat} {w w' : World} {v : Value} {l : List (List UInt8)} (h : Own base w v l) (ho : Only S w w') (hn : ∀ k, v.ownBlock = some k → k ∉ S) : Own base w' v l := by
  refine ⟨h.1, ?_⟩
  rcases h.2 with ⟨rfl, h0⟩ | ⟨g, cap, cur, rfl, hb, hg, hr⟩
  · exact .inl ⟨rfl, h0⟩
  · exact .inr ⟨g, cap, cur, rfl, hb, by rw [ho.block g (Array.getElem?_eq_some_iff.1 hg).1 (hn g rfl)]; exact hg, hr⟩
theorem Own.later {base : Nat} {w w' : World} {v : Value} {l : List (List UInt8)} (h : Own base w v l) (hb : Below w.heap.size w w') : Own base w' v l :=
  h.only (Only.of_below hb []) (by simp)
theorem Own.lt {base : Nat} {w : World} {v : Value} {l : List (List UInt8)} (h : Own base w v l) {k : Nat} (hk : v.ownBlock = some k) : base ≤ k ∧ k < w.heap.size := World.ownsRow.lt h k hk

theorem cell_one_str (w : World) (u : Value) (k : TypeId) : ∀ j x, [u][j]? = some x → (w.alloc (.cells #[u] k)).cell? ((⟨w.heap.size, 0, none⟩ : Addr).add j) = some x := by
  intro j x hx
  cases j with
  | zero => simp at hx; subst hx; rw [add_lit]; simp
  | succ j => simp at hx
theorem src_one (w : World) (p : List UInt8) : Src Try.prog 1 93 (.slice (some ⟨w.heap.size, 0, none⟩) 1 1) [p].length (sc [p]) (w.alloc (.cells #[.string (bs p)] 9)) :=
  Src.ofSlice _ und51 ⟨w.heap.size, 0, none⟩ 1 1 (sc [p]) (by simp [sc]) (cell_one_str w _ 9) (sc_one _)

/-- append of one text onto texts of the call's own -/
theorem app_one {w : World} {base : Nat} {v : Value} {l : List (List UInt8)} (p : List UInt8) (hown : Own base w v l) (hb : l.length + 1 ≤ 8796093022208) (hbase : base ≤ w.heap.size)
    {ops : Array Oper} {rest : List Oper} {o : Oper} {a : Act} {Q : Exit → Act → World → Prop} (hgd : o.guard = none) (s y : Operand)
    (ho : o.op = .call { callee := .builtin .append, args := #[s, y], argTypes := #[93, 93] }) (hv : a.eval s = v) (hx : a.eval y = .slice (some ⟨w.heap.size, 0, none⟩) 1 1)
    (h : ∀ v' w', Own base w' v' (l ++ [p]) → Below base w w' → base ≤ w'.heap.size → w.grownBy w' v.ownBlock → (v'.ownBlock = v.ownBlock ∨ v'.ownBlock = some (w.heap.size + 1)) → wpList Try.prog ops Q rest (a.put o.dst v') w') :
    wpList Try.prog ops Q (o :: rest) a (w.alloc (.cells #[.string (bs p)] 9)) := by
  refine app_strs (base := base) (l := l) (k := [p]) (World.ownsRow.alloc hown _) (src_one w p) (by simpa using hb) (by simp; omega) hgd s y ho hv hx ?_
  intro v' w' h1 h2 h3
  have hlt := World.ownsRow.lt hown
  have hB : Below base w w' := ((Below.refl _ _).alloc hbase _).grown h2 (by simp; omega) (fun k hk => (hlt k hk).1)
  refine h v' w' h1 hB (Nat.le_trans hbase hB.size) ((World.grownBy_alloc w _ _).trans h2) (by simpa using h3)

theorem SS.form {w : World} {v : Value} {L : List (List UInt8)} (h : SS w v L) : ∃ a c, v = .slice a L.length c ∧ (∀ k, (hk : k < L.length) → ∃ b off, a = some ⟨b, off, none⟩ ∧ b < w.heap.size ∧ w.cell? ⟨b, off + k, none⟩ = some (.string (bs L[k]))) := by
  rcases h with ⟨⟨a, c, rfl⟩, rfl⟩ | ⟨b, off, cap, rfl, hc, hlt, hcell⟩
  · exact ⟨a, c, rfl, fun k hk => by simp at hk⟩
  · exact ⟨_, _, rfl, fun k hk => ⟨b, off, rfl, hlt, hcell k _ (by simp [sc_get, hk])⟩⟩

theorem drop_same {α : Type} [DecidableEq α] {A B : List α} {k : Nat} (ha : k < A.length) (hb : k < B.length) : decide (A.drop k = B.drop k) = (decide (A[k] = B[k]) && decide (A.drop (k + 1) = B.drop (k + 1))) := by
  have e1 := List.drop_eq_getElem_cons ha
  have e2 := List.drop_eq_getElem_cons hb
  rw [Bool.eq_iff_iff]
  simp only [Bool.and_eq_true, decide_eq_true_eq]
  rw [e1, e2, List.cons.injEq]

/-- a list of texts that a machine has -/
structure Sm (l : List (List UInt8)) : Prop where
  len : l.length ≤ 4000000
  each : ∀ x ∈ l, x.length ≤ 140737488355328
theorem Sm.norm {l : List (List UInt8)} (h : Sm l) : Sm (norm l) := ⟨Nat.le_trans (norm_len l) h.len, fun x hx => h.each x ((mem_norm x l).1 hx)⟩
theorem Sm.at {l : List (List UInt8)} (h : Sm l) {k : Nat} (hk : k < l.length) : (l[k]'hk).length ≤ 140737488355328 := h.each _ (List.getElem_mem _)
theorem bstep {a b c : World} (h : Below a.heap.size a b) (k : Below b.heap.size b c) : Below a.heap.size a c := below_trans h (below_mono k h.size)
theorem Laid.below' {w w' : World} (h : Laid w w') : Below w.heap.size w w' := h.below

end Go.Proofs.Ytclbnjfmipifnaa

namespace Go.Proofs.Ytclbnjfmipifnaa
open Go.RowKit

set_option maxHeartbeats 1000000 in
set_option maxRecDepth 100000 in
theorem c_indexByte_any (l : List UInt8) (w : World) :
    Calls Try.prog 89 #[.string (bs l), .int .u8 58] w fun e w' => e = .returned (.int .i64 (Lib.indexByte l 58)) ∧ w' = w := by
  go_enter Try.func89, Try.ntmps89
  go_wp2
  rw [run_callFunc_extern Try.func93 (by kernel_rfl) (by kernel_rfl) (by kernel_rfl) (e := Extern.BytealgIndexByte.indexByte) (by kernel_rfl), Lib.run_indexByteString]
  simp only [Result.andThen]
  rw [Oper.upon_value]
  go_wp2
  go_ret
  exact ⟨rfl, rfl⟩

set_option maxHeartbeats 2000000 in
set_option maxRecDepth 100000 in
theorem c_index_any (l : List UInt8) (w : World) :
    Calls Try.prog 88 #[.string (bs l), .string (bs [58])] w fun e w' => e = .returned (.int .i64 (Lib.indexByte l 58)) ∧ w' = w := by
  have hz : (bs [58]).size = 1 := rfl
  by_cases hl : l = [58]
  · subst hl
    have he : ((bs [58]).toList == (bs [58]).toList) = true := by simp
    go_enter Try.func88, Try.ntmps88
    go_wp2_with fail
    go_ret
    exact ⟨rfl, rfl⟩
  · have he : ((bs [58]).toList == (bs l).toList) = false := by rw [bs_toList, bs_toList, beq_eq_false_iff_ne]; exact fun e => hl e.symm
    go_enter Try.func88, Try.ntmps88
    go_wp2_with fail
    refine (c_indexByte_any _ _).mono ?_
    rintro e w1 ⟨rfl, rfl⟩
    go_wp2_with fail
    go_ret
    exact ⟨rfl, rfl⟩

theorem c_extract_hd (l : List UInt8) : (bs l).extract 0 (chd l).length = bs (chd l) := by
  rw [bs_extract]; congr 1; simp [← c_hd_take l]
theorem c_extract_tl (l : List UInt8) (h : csl l = true) : (bs l).extract ((chd l).length + 1) (bs l).size = bs (ctl l) := by
  rw [bs_extract, ← c_tl_drop l h]; congr 1
  rw [bs_size]; have := c_hd_len l h; exact List.take_of_length_le (by omega)

set_option maxHeartbeats 2000000 in
set_option maxRecDepth 100000 in
theorem c_cut0_any (l : List UInt8) (w : World) (hm : l.length ≤ 9223372036854775807) :
    Calls Try.prog 87 #[.string (bs l), .string (bs [58])] w fun e w' => e = .returned (.tuple #[.string (bs (chd l)), .string (bs (ctl l)), .bool (csl l)]) ∧ ∃ n, w' = w.drewN n := by
  have hz : (bs [58]).size = 1 := rfl
  have hx := c_indexByte_eq l
  cases h : csl l
  · rw [h] at hx
    simp only [Bool.false_eq_true, if_false] at hx
    rw [c_hd_all l h, c_tl_none l h]
    go_enter Try.func87, Try.ntmps87
    go_wp2_with fail
    refine (c_index_any _ _).mono ?_
    rintro e w1 ⟨rfl, rfl⟩
    rw [hx]
    go_wp2_with fail
    go_ret3
    exact ⟨rfl, 0, rfl⟩
  · rw [h] at hx
    simp only [if_true] at hx
    have hlen := c_hd_len l h
    have hsz : (bs l).size = l.length := rfl
    obtain ⟨n, hn⟩ : ∃ n, (chd l).length = n := ⟨_, rfl⟩
    have e1 := c_extract_hd l
    have e2 := c_extract_tl l h
    rw [hn] at e1 e2 hx hlen
    rw [hsz] at e2
    have E1 : Hid ((bs l).extract 0 n = bs (chd l)) := e1
    have E2 : Hid ((bs l).extract (n + 1) l.length = bs (ctl l)) := e2
    clear e1 e2
    have c1 : (0 : Int) ≤ ↑n := by omega
    have c2 : (n : Int) ≤ (l.length : Int) := by omega
    have c3 : (0 : Int) ≤ ↑n + 1 := by omega
    have c4 : (n : Int) + 1 ≤ (l.length : Int) := by omega
    go_enter Try.func87, Try.ntmps87
    go_wp2_with fail
    refine (c_index_any _ _).mono ?_
    rintro e w1 ⟨rfl, rfl⟩
    rw [hx]
    go_wp2_with fail
    go_region
    go_wp2_with fail
    go_ret3
    refine ⟨?_, 1, rfl⟩
    rw [← E1.out, ← E2.out]; rfl

set_option maxHeartbeats 1000000 in
theorem c_cut_any (l : List UInt8) (w : World) (hm : l.length ≤ 9223372036854775807) :
    Calls Try.prog 86 #[.string (bs l), .string (bs [58])] w fun e w' => e = .returned (.tuple #[.string (bs (chd l)), .string (bs (ctl l)), .bool (csl l)]) ∧ ∃ n, w' = w.drewN n := by
  have HM : Hid (l.length ≤ 9223372036854775807) := hm
  clear hm
  go_enter Try.func86, Try.ntmps86
  go_wp2_with fail
  refine (c_cut0_any _ _ HM.out).mono ?_
  rintro e w1 ⟨rfl, n, rfl⟩
  go_wp2_with fail
  go_ret3
  exact ⟨rfl, n, rfl⟩


theorem take_eq_iff (p l : List UInt8) : (l.take p.length = p ∧ p.length ≤ l.length) ↔ p.isPrefixOf l = true := by
  rw [List.isPrefixOf_iff_prefix, List.prefix_iff_eq_take]
  constructor
  · rintro ⟨h, _⟩; exact h.symm
  · intro h; exact ⟨h.symm, by have := congrArg List.length h; simp at this; omega⟩
theorem beq_bs (a b : List UInt8) : ((bs a).toList == (bs b).toList) = decide (a = b) := by
  rw [bs_toList, bs_toList]
  by_cases h : a = b
  · simp [h]
  · simp [h]

end Go.Proofs.Ytclbnjfmipifnaa
