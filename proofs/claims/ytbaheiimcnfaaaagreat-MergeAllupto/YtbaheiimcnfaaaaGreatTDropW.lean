/-
  delete and clear in a walk; a file less.
-/
import Derived.Test.YtbaheiimcnfaaaaGreatJNe
namespace Go.Proofs.YtbaheiimcnfaaaaGreat
open Go.RowKit

theorem wp_del {w : World} {N b : Nat} {F : List UInt8 → Option Nat} (h : MP w N b F) {k : List UInt8} (hk : k.length ≤ 1000000000)
    {ops : Array Oper} {rest : List Oper} {o : Oper} {a : Act} {Q : Exit → Act → World → Prop} (hg : o.guard = none) (m x : Operand)
    (hop : o.op = Op.call { callee := Callee.builtin Builtin.delete, args := #[m, x], argTypes := #[115, 9] }) (hm : a.eval m = .map (some b)) (hx : a.eval x = .string (bs k))
    (hK : ∀ w', MP w' N b (fun x => if x = k then none else F x) → Only [b] w w' → w'.heap.size = w.heap.size → wpList Tryz.prog ops Q rest (a.put o.dst (.tuple #[])) w') :
    wpList Tryz.prog ops Q (o :: rest) a w := by
  refine wpList_plain hg fun K' hK' => ?_
  obtain ⟨w', hrun, r1, r2, r3⟩ := h.del hk o.type
  unfold Oper.wp
  simp [execOp, hop, resolve, invoke, builtin, hm, hx, hrun, Result.andThen]
  exact hK' _ _ (hK w' r1 r2 r3)
theorem wp_clear {w : World} {N b : Nat} {F : List UInt8 → Option Nat} (h : MP w N b F)
    {ops : Array Oper} {rest : List Oper} {o : Oper} {a : Act} {Q : Exit → Act → World → Prop} (hg : o.guard = none) (m : Operand)
    (hop : o.op = Op.call { callee := Callee.builtin Builtin.clear, args := #[m], argTypes := #[115] }) (hm : a.eval m = .map (some b))
    (hK : ∀ w', MP w' N b (fun _ => none) → Only [b] w w' → w'.heap.size = w.heap.size → wpList Tryz.prog ops Q rest (a.put o.dst (.tuple #[])) w') :
    wpList Tryz.prog ops Q (o :: rest) a w := by
  refine wpList_plain hg fun K' hK' => ?_
  obtain ⟨w', hrun, r1, r2, r3⟩ := h.clear o.type
  unfold Oper.wp
  simp [execOp, hop, resolve, invoke, builtin, hm, hrun, Result.andThen]
  exact hK' _ _ (hK w' r1 r2 r3)

theorem lessZ {w : World} {g : Nat} {m : Option Nat} {c a o z : Nat} (h : ND w g m c a o) (hc : 0 < c) (hc2 : c < 9223372036854775807) (hs : z ≤ a) (ha : a < 340282366920938463463374607431768211456) (hz : z < 18446744073709551616) :
    Calls Tryz.prog 83 #[.pointer (some ⟨g, 0, none⟩), .agg #[.int .u64 0, .int .u64 z]] w fun e w' => e = .returned (.tuple #[]) ∧ ND w' g m (c - 1) (a - z) o ∧ Only [g] w w' := by
  rw [← sumv_small hz]; exact less_any h hc hc2 hs ha

/-- what Drop answers -/
def dropE (L : List Fl) (p : List UInt8) : Int := if (fileAt L (pcs p)).isSome then 0 else 20
theorem dropE_none {L : List Fl} {p : List UInt8} (h : fileAt L (pcs p) = none) : dropE L p = 20 ∧ outF p L = L := by
  refine ⟨by unfold dropE; rw [h]; rfl, ?_⟩
  unfold outF
  refine List.filter_eq_self.2 (fun g hg => ?_)
  simp only [Bool.not_eq_true', beq_eq_false_iff_ne]
  rintro rfl
  exact fileAt_none.1 h g hg rfl
theorem drop_nod {L : List Fl} (hg : GoodT L) (p : List UInt8) : (fileAt L (pcs p) = none ∧ ∀ s, nod L p ≠ some (.file s)) ∨ (∃ f ∈ L, f.path = p ∧ nod L p = some (.file (sz f)) ∧ dropE L p = 0) := by
  cases e : fileAt L (pcs p) with
  | none =>
    left
    refine ⟨rfl, fun s hs => ?_⟩
    unfold nod at hs
    split at hs
    · obtain ⟨f, hf, hp, _⟩ := st_file_inv hs
      exact fileAt_none.1 e f hf hp
    · cases hs
  | some s =>
    right
    obtain ⟨f, hf, hp, rfl⟩ := fileAt_some e
    have hpath : f.path = p := pcs_inj hp
    refine ⟨f, hf, hpath, ?_, by unfold dropE; rw [e]; rfl⟩
    have ho := hg.ok hf
    rw [hpath] at ho
    unfold nod
    rw [ho, if_pos rfl, ← hp]
    exact st_file hg hf

/-- own, ahead of the drop -/
def ownD (L : List Fl) (f : Fl) (q : Q) : Nat := (if (pp f).dropLast = q then sz f else 0) + own L q
/-- one directory on the way: its numbers -/
theorem drop_set {w w' : World} {A M : Q → Nat} {N : Nat} {F : Nat → Prop} {L : List Fl} {f : Fl} {k : Nat} {K : Q → List UInt8 → Bool} {S : Q → Option Nd} {c a o : Nat}
    (h : Hp w A M N F S K) (hS : ∃ d, S = upd (midD L f k) ((pp f).take k) d) (hq : S ((pp f).take k) = some (.dir c a o)) (ho : Only [A ((pp f).take k)] w w') {c' a' o' : Nat} (hn : ND w' (A ((pp f).take k)) (some (M ((pp f).take k))) c' a' o') :
    Hp w' A M N F (upd (midD L f k) ((pp f).take k) (some (.dir c' a' o'))) K := by
  obtain ⟨d, rfl⟩ := hS
  have := h.set hq ho hn
  rw [upd_upd] at this
  exact this
end Go.Proofs.YtbaheiimcnfaaaaGreat
