/-
  What the library's variables hold; numbers and texts by the library.
-/
import Derived.Test.YtgibjnfaagnbfadGreatDoorHex
import Derived.Test.YtgibjnfaagnbfadGreatDoorShelf2
import Derived.WalkSmall
namespace Go.Proofs.YtgibjnfaagnbfadGreatDoor
open Go.RowKit Go.Sort

theorem gPow : Tryz.prog.globalNamed "internal/strconv.uint64pow10" = some 3 := by kernel_rfl
theorem gSyn : Tryz.prog.globalNamed "strconv.ErrSyntax" = some 1 := by kernel_rfl
theorem gRng : Tryz.prog.globalNamed "strconv.ErrRange" = some 2 := by kernel_rfl
/-- the library's variables, as they lie -/
structure Env (w : World) : Prop where
  tab : Lib.TabIs Tryz.prog w "internal/strconv.uint64pow10" .u64 Lib.pow10Tab
  syn : ∃ tp p, w.var? Tryz.prog "strconv.ErrSyntax" = some #[.iface tp p]
  rng : ∃ tp p, w.var? Tryz.prog "strconv.ErrRange" = some #[.iface tp p]
  max : ∃ m, w.cell? ⟨0, 0, none⟩ = some (.int .i64 m)
  big : 8 ≤ w.heap.size
theorem Env.below {w w' : World} {B : Nat} (h : Env w) (hb : Below B w w') (hB : 8 ≤ B) : Env w' := by
  obtain ⟨tp, p, h1⟩ := h.syn
  obtain ⟨tp2, p2, h2⟩ := h.rng
  obtain ⟨m, h3⟩ := h.max
  exact ⟨var?_below hb gPow (by omega) h.tab, ⟨tp, p, var?_below hb gSyn (by omega) h1⟩, ⟨tp2, p2, var?_below hb gRng (by omega) h2⟩, ⟨m, (hb.cell (p := ⟨0, 0, none⟩) (by show 0 < B; omega)).trans h3⟩, Nat.le_trans h.big hb.size⟩
theorem Env.later {w w' : World} (h : Env w) (hb : Below w.heap.size w w') : Env w' := h.below hb h.big
theorem below_drewN (w : World) (k : Nat) (os : Array Obj) : Below w.heap.size w (grow (w.drewN k) os) :=
  ⟨rfl, rfl, rfl, by simp [grow, World.drewN], fun i hi => by simp only [grow, World.drewN]; exact Array.getElem?_append_left hi⟩

theorem itoa_any (n : Int) (h0 : -9223372036854775808 ≤ n) (h1 : n ≤ 9223372036854775807) (w : World) (E : Env w) :
    Calls Tryz.prog 40 #[.int .i64 n] w fun e w' => e = .returned (.string (bs (Lib.itoa n))) ∧ Below w.heap.size w w' := by
  have hS := Any.strconv_Itoa Tryz.itoaL n h0 h1 w E.tab
  change Calls Tryz.prog 40 _ _ _ at hS
  refine hS.mono ?_
  rintro e w' ⟨rfl, k, os, rfl⟩
  exact ⟨rfl, below_drewN w k os⟩

theorem atoi_any (l : List UInt8) (hl : l.length ≤ 4194304) (w : World) (E : Env w) :
    Calls Tryz.prog 50 #[.string (bs l)] w fun e w' => ∃ v ev, e = .returned (.tuple #[.int .i64 v, ev]) ∧ Below w.heap.size w w' ∧ ((Lib.atoiAll l = .ok v ∧ ev = .nilIface) ∨ ((∀ n, Lib.atoiAll l ≠ .ok n) ∧ ∃ t p, ev = .iface t p)) := by
  have hz : (bs l).size = l.length := rfl
  cases h : Lib.atoiAll l with
  | ok n =>
    have hS := Any.strconv_Atoi_ok Tryz.atoiL (bs l) (by omega) n h w
    change Calls Tryz.prog 50 _ _ _ at hS
    refine hS.mono ?_
    rintro e w' ⟨rfl, hw⟩
    refine ⟨n, .nilIface, rfl, ?_, .inl ⟨rfl, rfl⟩⟩
    rcases hw with rfl | ⟨t, rfl⟩
    · exact Below.refl _ _
    · exact Lib.bytesWorld_below _ _ _
  | «syntax» =>
    obtain ⟨tp, p, hv⟩ := E.syn
    have hS := Any.strconv_Atoi_syntax_var Tryz.atoiL (bs l) (by omega) h tp p w hv
    change Calls Tryz.prog 50 _ _ _ at hS
    refine hS.mono ?_
    rintro e w' ⟨N, rfl, _, _, hb⟩
    exact ⟨_, _, rfl, hb, .inr ⟨fun n hn => (by cases hn), _, _, rfl⟩⟩
  | range =>
    obtain ⟨tp, p, hv⟩ := E.rng
    have hS := Any.strconv_Atoi_range_var Tryz.atoiL (bs l) (by omega) h tp p w hv
    change Calls Tryz.prog 50 _ _ _ at hS
    refine hS.mono ?_
    rintro e w' ⟨N, rfl, _, _, hb⟩
    exact ⟨_, _, rfl, hb, .inr ⟨fun n hn => (by cases hn), _, _, rfl⟩⟩

/-! ### joined with blanks -/
theorem join_blanks : ∀ (L : List (List UInt8)), Lib.join L [32] = blanks L
  | [] => rfl
  | [a] => by rw [Lib.join_one]; rfl
  | a :: b :: r => by
    rw [blanks, ← join_blanks (b :: r), Lib.join_cons, Lib.join_cons]
    simp [Lib.joinTail]
theorem join_any {w : World} {v : Value} {L : List (List UInt8)} (h : SS w v L) (hL : L.length ≤ 4194304) (hb : (blanks L).length ≤ 100000000) :
    Calls Tryz.prog 17 #[v, .string (bs [32])] w fun e w' => e = .returned (.string (bs (blanks L))) ∧ Below w.heap.size w w' := by
  rcases h with ⟨⟨a, c, rfl⟩, rfl⟩ | ⟨b, off, cap, rfl, hc, hlt, hcell⟩
  · have hS := Any.strings_Join_none Tryz.joinL Tryz.joinX a c (bs [32]) w
    change Calls Tryz.prog 17 _ _ _ at hS
    refine hS.mono ?_
    rintro e w' ⟨rfl, rfl⟩
    exact ⟨rfl, Below.refl _ _⟩
  · have em : (L.map bs).map (fun s => s.data.toList) = L := by
      rw [List.map_map]; exact List.map_id'' (fun _ => rfl) L
    have hS := Any.strings_Join Tryz.joinL Tryz.joinX b off cap (L.map bs) (bs [32]) w (fun j x hx => by
      refine hcell j (.string x) ?_
      rw [sc_get]
      rw [List.getElem?_map] at hx
      cases hj : L[j]? with
      | none => rw [hj] at hx; simp at hx
      | some y => rw [hj] at hx; simp at hx; subst hx; rfl) hlt (by simp; omega) (by simpa using hc) (by rw [em]; show (Lib.join L [32]).length ≤ _; rw [join_blanks]; omega)
    rw [em] at hS
    change Calls Tryz.prog 17 _ _ _ at hS
    rw [List.length_map] at hS
    refine hS.mono ?_
    rintro e w' ⟨rfl, hb⟩
    refine ⟨?_, hb⟩
    show Ending.returned (.string (bs (Lib.join L [32]))) = _
    rw [join_blanks]

/-! ### the Builder -/
theorem write_any {w : World} {B b : Nat} {l : List UInt8} (s : List UInt8) (h : Lib.IsBuilder 47 5 B b (Lib.byteCells l) w) (hl : l.length + s.length ≤ 8796093022208) (hB : B ≤ w.heap.size) :
    Calls Tryz.prog 16 #[.pointer (some ⟨b, 0, none⟩), .string (bs s)] w fun e w' => ∃ v, e = .returned v ∧ Lib.IsBuilder 47 5 B b (Lib.byteCells (l ++ s)) w' ∧ Below B w w' := by
  have hz : (bs s).size = s.length := rfl
  have hS := Any.Builder_WriteString (ρ := Tryz.joinL_ren) { Tryz.joinL with } Tryz.joinX B b (Lib.byteCells l) (bs s) w h (by rw [Lib.byteCells_length]; omega) hB
  change Calls Tryz.prog 16 _ _ _ at hS
  refine hS.mono ?_
  rintro e w' ⟨rfl, hk, hb⟩
  refine ⟨_, rfl, .inr ?_, hb⟩
  have e1 : Lib.byteCells (l ++ s) = Lib.byteCells l ++ Lib.strCells (bs s) := by simp [Lib.byteCells, Lib.strCells, bs]
  rw [e1]; exact hk
theorem string_any {w : World} {B b : Nat} {l : List UInt8} (h : Lib.IsBuilder 47 5 B b (Lib.byteCells l) w) (hB : B ≤ w.heap.size) :
    Calls Tryz.prog 19 #[.pointer (some ⟨b, 0, none⟩)] w fun e w' => e = .returned (.string (bs l)) ∧ Below B w w' := by
  have hS := Any.Builder_String_any Tryz.stringL Tryz.stringX B b l w h hB
  change Calls Tryz.prog 19 _ _ _ at hS
  exact hS

/-! ### cut at blanks -/
theorem ib_app (c : UInt8) : ∀ (a b : List UInt8), c ∉ a → Lib.indexByte (a ++ c :: b) c = (a.length : Int)
  | [], b, _ => by simp [Lib.indexByte]
  | x :: r, b, h => by
    have hx : x ≠ c := fun e => h (by simp [e])
    have ih := ib_app c r b (fun e => h (by simp [e]))
    rw [List.cons_append, Lib.indexByte, ih]
    simp [hx]
theorem cut_split (c : UInt8) : ∀ (n : Nat) (l : List UInt8), l.length ≤ n → (c ∉ l) ∨ ∃ a b, l = a ++ c :: b ∧ c ∉ a
  | _, [], _ => .inl (by simp)
  | 0, x :: r, h => by simp at h
  | n + 1, x :: r, h => by
    by_cases hx : x = c
    · exact .inr ⟨[], r, by simp [hx], by simp⟩
    · rcases cut_split c n r (by simpa using h) with h1 | ⟨a, b, h1, h2⟩
      · exact .inl (by simp [h1, Ne.symm hx])
      · exact .inr ⟨x :: a, b, by simp [h1], by simp [h2, Ne.symm hx]⟩
theorem splitK_cut (c : UInt8) : ∀ (n : Nat) (l : List UInt8), l.length ≤ n → Lib.splitK [c] 0 (l.count c) l = cutAt c l
  | n, l, hn => by
    rcases cut_split c l.length l (Nat.le_refl _) with h | ⟨a, b, rfl, h⟩
    · rw [List.count_eq_zero.2 h, cutAt_free c l h]; rfl
    · match n, hn with
      | 0, hn => simp at hn
      | n + 1, hn =>
        have ih := splitK_cut c n b (by simp at hn; omega)
        have e : (a ++ c :: b).count c = b.count c + 1 := by simp [List.count_append, List.count_eq_zero.2 h]
        have hi : Lib.index (a ++ c :: b) [c] = (a.length : Int) := by rw [Lib.index_one]; exact ib_app c a b h
        rw [e, Lib.splitK, hi, cutAt_app c a b h, ← ih]
        have : ((a.length : Int) == -1) = false := by simp
        rw [this]
        simp
theorem split_any (l : List UInt8) (hl : l.length ≤ 4194304) (w : World) (E : Env w) :
    Calls Tryz.prog 29 #[.string (bs l), .string (bs [32])] w fun e w' => ∃ v, e = .returned v ∧ Own w.heap.size w' v (cutAt 32 l) ∧ Below w.heap.size w w' := by
  have hz : (bs l).size = l.length := rfl
  obtain ⟨m, hm⟩ := E.max
  have hS := Any.strings_Split (ρ := Tryz.splitL_ren) { Tryz.splitL with } Tryz.splitL.i9 (bs l) (bs [32]) m w (by omega) hm (by decide)
  change Calls Tryz.prog 29 _ _ _ at hS
  refine hS.mono ?_
  rintro e w' ⟨rfl, rfl⟩
  have hc : Lib.countB (bs l) (bs [32]) = l.count 32 := by
    show Lib.count l [32] = _
    exact Lib.count_one 32 l
  have hd := Lib.splitB_data (bs [32]) 0 (l.count 32) (bs l)
  rw [show (bs [32]).data.toList = [32] from rfl, show (bs l).data.toList = l from rfl, splitK_cut 32 l.length l (Nat.le_refl _)] at hd
  rw [hc]
  have hlen : (cutAt 32 l).length = l.count 32 + 1 := by
    rw [← hd, List.length_map]
    have := Lib.splitB_all (bs [32]) (by decide) 0 (l.count 32) (bs l) hc
    exact this
  have hcs : (Lib.splitB (bs [32]) 0 (l.count 32) (bs l)).map Value.string = sc (cutAt 32 l) := by
    rw [← hd]
    unfold sc
    rw [List.map_map]
    rfl
  refine ⟨_, rfl, ?_, balloc _ _⟩
  have hcount : l.count 32 ≤ l.length := List.count_le_length
  refine ⟨by rw [sc_length]; simp, .inr ⟨w.heap.size, l.count 32 + 1, _, ?_, Nat.le_refl _, heap_alloc_new _ _, ?_, ?_, ?_, ?_⟩⟩
  · rw [hlen]
  · exact Nat.le_of_eq hlen
  · simp only [maxLen]; omega
  · rw [hcs]; simp [sc_length, hlen]
  · rw [hcs]; simp
    exact List.take_of_length_le (by rw [sc_length]; exact Nat.le_refl _)
end Go.Proofs.YtgibjnfaagnbfadGreatDoor
