/-
  The law TreeSound, where what it reads is small: the row, the card.
-/
import Derived.Test.YtlkkmcibjhoneaaGreatDoorJSEq
import Derived.Test.YtlkkmcibjhoneaaGreatDoorSd
import Derived.Test.YtlkkmcibjhoneaaGreatDoorJOm
import Derived.Test.YtlkkmcibjhoneaaGreatDoorCards
import Derived.Test.YtlkkmcibjhoneaaGreatDoorTie
import Derived.WalkKit
import Derived.Deep.DeepHandedRow
import Derived.Deep.DeepWitnessRowRef
namespace Go.Proofs.YtlkkmcibjhoneaaGreatDoor
open Go.ChangeShapes Go.WideShapes Go.ChangeAt Go.RowKit
open Go.ChangeMaps (open_string shut_string)

set_option maxRecDepth 100000 in
theorem treeSound_contract (H : Type) (enc : TypeId × Value → H) (W : World) (base : Nat) (args : Array Value) (ds gs : List (DataW H)) (before : List MemPlace)
    (hval : ∀ (j : Nat) t v, Tryz.f5.params[j]? = some t → args[j]? = some v → Value.okWide Tryz.prog W .any base t v)
    (hW : DataW.Whole enc Tryz.prog Tryz.f5.params.toList Rows.treeSoundSpec.vars false W args.toList ds gs before) (hk : Rows.uptoSmall H (ds ++ gs) = true)
    (hL : laidMetH Tryz.prog laid9 W) (hsh : W.ShapedOpen Tryz.prog) :
    Calls Tryz.prog 5 args W fun e W' => ∃ v, e = .returned v ∧ Rows.treeSoundSpec.post enc Tryz.prog Tryz.f5 false true false false W args v W' := by
  have E : Ev W := env_of hL hsh
  have hW' := hW
  obtain ⟨p, q, hA0, hV, rfl, hfz, hnd⟩ := hW
  have hA : DataW.TrodAll enc Tryz.prog W 0 (fun _ => true) true Tryz.f5.params.toList args.toList ds p := hA0
  rw [Tryz.params5] at hA hval
  obtain ⟨v0, vs0, d0, ds0, p0, q0, hargs, rfl, rfl, h0, r0⟩ := trodAll_cons hA
  obtain ⟨v1, vs1, d1, ds1, p1, q1, rfl, rfl, rfl, h1, r1⟩ := trodAll_cons r0
  obtain ⟨v2, vs2, d2, ds2, p2, q2, rfl, rfl, rfl, h2, r2⟩ := trodAll_cons r1
  obtain ⟨rfl, rfl, rfl⟩ := trodAll_nil r2
  obtain rfl : args = #[v0, v1, v2] := by cases args; simp_all
  obtain ⟨rfl, rfl⟩ := trodVars_none hV
  have hbulk := bulk_bound hk
  simp only [List.append_nil, Rows.uptoBulkAll] at hbulk
  have k0 := h0
  have lt0 : ∀ x ∈ p0, x.block < W.heap.size := by obtain ⟨m, hm⟩ := k0; exact DataW.trod_lt m _ _ _ hm
  obtain ⟨l0, ss0, sm0, ll0, pl0⟩ := upto_files (hval 0 22 v0 rfl rfl) h0 (by omega)
  have k1 := h1
  have lt1 : ∀ x ∈ p1, x.block < W.heap.size := by obtain ⟨m, hm⟩ := k1; exact DataW.trod_lt m _ _ _ hm
  obtain ⟨S1, os1, ok1, op1, om1⟩ := open_ops (hval 1 23 v1 rfl rfl) h1 (by omega)
  obtain ⟨s2, rfl, rfl, rfl, ws2⟩ := open_string Tryz.underlying9 (hval 2 9 v2 rfl rfl) h2
  simp only [Rows.uptoBulk] at hbulk
  obtain ⟨t2, rfl⟩ : ∃ t, s2 = bs t := ⟨s2.data.toList, rfl⟩
  have tl2 : t2.length ≤ 1048576 := by have : (bs t2).data.toList.length = t2.length := rfl; omega
  clear hA0
  refine (tsound_law tcP E ss0 sm0 os1 ok1 (by omega) t2 (by omega)).mono fun e W' ⟨he, bel⟩ => ?_
  subst he
  exact ⟨_, rfl, _, _, _, [], _, [], hW', trodAll_mk1 (shut_bool Tryz.underlying4 _), (trodAll_cons_mk (Below.trod laidOut (by kernel_rfl) (of_decide_eq_true (by kernel_rfl)) k0 bel lt0) (trodAll_cons_mk (Below.trod laidOut (by kernel_rfl) (of_decide_eq_true (by kernel_rfl)) k1 bel lt1) (trodAll_cons_mk (shut_string Tryz.underlying9 ws2) trodAll_mk0))), rfl, bel.frame _, fun h => by cases h⟩

theorem treeSound_met (os : Os) (w0 : World) (h : w0 = { World.holding Tryz.prog os ⟨#[], #[], []⟩ with heap := ((((World.holding Tryz.prog os ⟨#[], #[], []⟩).heap.modify 0 fun | .cells _ t fr => .cells (#[.bool false, .bool false]) t fr | o => o).modify 1 fun | .cells _ t fr => .cells (#[.bool false, .bool true]) t fr | o => o).modify 2 fun | .cells _ t fr => .cells (#[.bool true, .bool false]) t fr | o => o) }) : laidMetH Tryz.prog Rows.treeSoundUptoRow.laid (w0.forCall (fun _ _ => 0) ⟨#[], #[.slice none 0 0, .slice none 0 0, .string .empty], []⟩).memory := by
  subst h
  exact (laidMet_of_run' (l := [("copse/tree.nothing", Rows.laid_copse_tree_nothing), ("copse/tree.directory", Rows.laid_copse_tree_directory), ("copse/tree.file", Rows.laid_copse_tree_file)]) 8 (by kernel_rfl) (by kernel_rfl))
theorem treeSound_reads (os : Os) {H : Type} (enc : TypeId × Value → H) (w0 : World) (h : w0 = { World.holding Tryz.prog os ⟨#[], #[], []⟩ with heap := ((((World.holding Tryz.prog os ⟨#[], #[], []⟩).heap.modify 0 fun | .cells _ t fr => .cells (#[.bool false, .bool false]) t fr | o => o).modify 1 fun | .cells _ t fr => .cells (#[.bool false, .bool true]) t fr | o => o).modify 2 fun | .cells _ t fr => .cells (#[.bool true, .bool false]) t fr | o => o) }) : ∃ places, DataW.whole enc Tryz.prog (w0.forCall (fun _ _ => 0) ⟨#[], #[.slice none 0 0, .slice none 0 0, .string .empty], []⟩).memory Tryz.f5.params.toList Rows.treeSoundSpec.vars false (#[.slice none 0 0, .slice none 0 0, .string .empty] : Array Value).toList 8 = some ([.nil, .nil, .lit (.string [])], [], places) := by
  subst h
  exact ⟨[], by kernel_rfl⟩
set_option maxRecDepth 100000 in
theorem treeSound_lifted (os : Os) (started : os.Started) (H : Type) (enc : TypeId × Value → H) (F : Stop.Interp) :
    ReturnsInHanded {} Tryz.checked os 5 .any ((Rows.OpenSpec.upto Rows.treeSoundSpec).preRow enc Tryz.prog Tryz.f5 Rows.treeSoundUptoRow.domain false Rows.treeSoundUptoRow.laid) (((Rows.OpenSpec.upto Rows.treeSoundSpec).at F).post enc Tryz.prog Tryz.f5 false true false false) := by
  obtain ⟨places, hx⟩ := treeSound_reads os enc _ rfl
  refine returnsInHanded_of_row (C := Tryz.checked) (s := Rows.OpenSpec.upto Rows.treeSoundSpec) own0 started (by kernel_rfl) Tryz.func5
    (witness_row_atRef (enc := enc) (C := Tryz.checked) false _ #[.slice none 0 0, .slice none 0 0, .string .empty] rfl (by kernel_rfl) (by kernel_rfl) (by kernel_rfl)
      (OpenSpec.preRow_of_cond 8 hx (by kernel_rfl) (fun k hk => by cases hk; kernel_rfl) (by kernel_rfl) (treeSound_met os _ rfl))) ?_
  intro W base args ds gs before hval hW _ hcond _ hL hsh _
  exact treeSound_contract H enc W base args ds gs before hval hW (hcond _ rfl) hL hsh
theorem treeSound_upto : Rows.TreeSoundUptoSaid :=
  OpenClaim.holds_of_cond 5 Tryz.f5 rfl rfl rfl rfl rfl rfl rfl ⟨rfl, rfl, rfl, rfl, rfl⟩ rfl rfl rfl rfl rfl (by kernel_rfl) Tryz.func5 (by kernel_rfl)
    (of_decide_eq_true (by kernel_rfl)) (by unfold Func.isWrapper; first | (rw [if_pos (by decide +kernel)]; kernel_rfl) | (rw [if_neg (by decide +kernel)]; exact ⟨rfl, rfl⟩))
    (fun os started H enc _ F => by rw [OpenClaim.pre_eq_preRow]; exact treeSound_lifted os started H enc F)
theorem treeSound_plain (f : FuncId) (fn : Func) (hf : Tryz.pinned.checked.prog.funcNamed "copse/copselaw21.TreeSound" = some f) (hfn : Tryz.pinned.checked.prog.funcs[f]? = some fn) :
    true = Tryz.pinned.checked.prog.looks [] ∧ ∀ (j : Nat) t, fn.params[j]? = some t → Tryz.pinned.checked.prog.wantsStandIn t = false := by
  obtain rfl : f = 5 := Option.some.inj ((show Tryz.prog.funcNamed "copse/copselaw21.TreeSound" = some 5 by kernel_rfl).symm.trans hf) |>.symm
  obtain rfl : fn = Tryz.f5 := (Option.some.inj (Tryz.func5.symm.trans hfn)).symm
  refine ⟨by kernel_rfl, fun j t ht => ?_⟩
  rw [Tryz.params5] at ht
  have hm := Array.mem_of_getElem? ht
  simp only [List.mem_toArray, List.mem_cons, List.mem_nil_iff, or_false] at hm
  rcases hm with rfl | rfl | rfl
  · exact (show Tryz.prog.wantsStandIn 22 = false by kernel_rfl)
  · exact (show Tryz.prog.wantsStandIn 23 = false by kernel_rfl)
  · exact (show Tryz.prog.wantsStandIn 9 = false by kernel_rfl)
theorem treeSound_card : Rows.TreeSoundUptoCardSaid :=
  Claim7.holds_tied_plain_at .later [] _ _ _ _ treeSound_upto (fun _ h => by cases h) (by kernel_rfl) (fun _ h => by cases h) treeSoundUpto_row_tie rfl ⟨rfl, rfl⟩ (by kernel_rfl) rfl treeSound_plain (by kernel_rfl)

#print axioms treeSound_card
end Go.Proofs.YtlkkmcibjhoneaaGreatDoor
