import Derived.Test.YtefhdnhhcgbbjaaBase
import Derived.RegionTactic
namespace Go.Proofs.Ytefhdnhhcgbbjaa
open Go.RowKit

/-- what is ready is not yet done, and what it waits for is -/
theorem ready_iff {md : Region.Mode} {ops : Array Oper} {listed : Array Bool} {i : Nat} (h : i ∈ Region.ready md ops listed) :
    i < ops.size ∧ listed.getD i true = false ∧ ∀ o, ops[i]? = some o → ∀ e ∈ o.after, Region.binds md e = true → listed.getD e.on false = true := by
  simp only [Region.ready, List.mem_filter, List.mem_range, Bool.and_eq_true, Bool.not_eq_true'] at h
  refine ⟨h.1, h.2.1, fun o ho e he hb => ?_⟩
  have h2 := h.2.2
  rw [ho] at h2
  simp only [Option.map_some, Option.getD_some, Array.all_eq_true_iff_forall_mem] at h2
  have := h2 e he
  simpa [hb] using this

/-- what waits for nothing but what stands ahead of it is done at the end -/
theorem all_done {md : Region.Mode} {ops : Array Oper} (hback : ops.toList.zipIdx.all (fun p => p.1.after.all fun e => decide (e.on < p.2)) = true) (listed : Array Bool) (hs : listed.size = ops.size) (hr : Region.ready md ops listed = []) :
    ∀ i, i < ops.size → listed.getD i false = true := by
  intro i
  induction i using Nat.strongRecOn with
  | ind i ih =>
    intro hi
    rcases hb : listed.getD i false with _ | _
    · exfalso
      have hmem : i ∈ Region.ready md ops listed := by
        simp only [Region.ready, List.mem_filter, List.mem_range, Bool.and_eq_true, Bool.not_eq_true']
        refine ⟨hi, ?_, ?_⟩
        · rw [Array.getD_eq_getD_getElem?, Array.getElem?_eq_getElem (by omega)] at hb ⊢
          simpa using hb
        · rw [Array.getElem?_eq_getElem hi]
          simp only [Option.map_some, Option.getD_some, Array.all_eq_true_iff_forall_mem]
          intro e he
          have h1 := List.all_eq_true.1 hback (ops[i], i) (by rw [List.mem_zipIdx_iff_getElem?]; simp [hi])
          have h2 := Array.all_eq_true_iff_forall_mem.1 h1 e he
          simp only [decide_eq_true_eq] at h2
          rw [ih e.on h2 (by omega)]
          simp
      rw [hr] at hmem
      cases hmem
    · rfl

/-- A REGION THAT DRAWS ITS ORDER, BY AN INVARIANT: whatever is done next keeps it. -/
theorem wpAny_inv {P : Program} {md : Region.Mode} {ops : Array Oper} {Q : Exit → Act → World → Prop} (I : Array Bool → Act → World → Prop)
    (hsz : ∀ listed a w, I listed a w → listed.size = ops.size)
    (step : ∀ listed a w, I listed a w → ∀ i o, i ∈ Region.ready md ops listed → ops[i]? = some o →
      ∀ K' : Act → World → Prop, (∀ a w, I (listed.setIfInBounds i true) a w → K' a w) → if Region.wanted o (yielded ops a.tmps) = true then Oper.wp P o a w K' Q else K' (a.put o.dst undef) w)
    (done : ∀ listed a w, I listed a w → (∀ i, i < ops.size → listed.getD i false = true) → Q .normal a w)
    (hback : ops.toList.zipIdx.all (fun p => p.1.after.all fun e => decide (e.on < p.2)) = true) :
    ∀ fuel listed a w, I listed a w → listed.toList.count false ≤ fuel → wpAny P md ops Q fuel listed a w := by
  intro fuel
  have hfalse : ∀ (listed : Array Bool) i, i ∈ Region.ready md ops listed → listed.size = ops.size → ∃ h : i < listed.toList.length, listed.toList[i] = false := by
    intro listed i hi hs
    obtain ⟨h1, h2, _⟩ := ready_iff hi
    refine ⟨by simp; omega, ?_⟩
    rw [Array.getD_eq_getD_getElem?, Array.getElem?_eq_getElem (by omega)] at h2
    simpa using h2
  induction fuel with
  | zero =>
    intro listed a w hI hc
    have hs := hsz _ _ _ hI
    have hr : Region.ready md ops listed = [] := by
      rw [List.eq_nil_iff_forall_not_mem]
      intro i hi
      obtain ⟨h, hf⟩ := hfalse listed i hi hs
      have : 0 < listed.toList.count false := List.count_pos_iff.2 (by rw [← hf]; exact List.getElem_mem h)
      omega
    exact ⟨hr, done _ _ _ hI (all_done hback listed hs hr)⟩
  | succ fuel ih =>
    intro listed a w hI hc
    have hs := hsz _ _ _ hI
    refine ⟨fun hr => done _ _ _ hI (all_done hback listed hs hr), fun i hi => ?_⟩
    obtain ⟨h, hf⟩ := hfalse listed i hi hs
    obtain ⟨h1, _, _⟩ := ready_iff hi
    have ho : ops[i]? = some ops[i] := Array.getElem?_eq_getElem h1
    refine wpOp_step ho fun K' hK => step listed a w hI i _ hi ho K' fun a' w' hI' => hK _ _ (ih _ a' w' hI' ?_)
    rw [Array.toList_setIfInBounds, List.count_set h]
    rw [hf]
    have : 0 < listed.toList.count false := List.count_pos_iff.2 (by rw [← hf]; exact List.getElem_mem h)
    have e1 : ((false == false) : Bool) = true := rfl
    have e2 : ((true == false) : Bool) = false := rfl
    rw [e1, e2, if_pos rfl, if_neg (by simp)]
    omega

end Go.Proofs.Ytefhdnhhcgbbjaa
