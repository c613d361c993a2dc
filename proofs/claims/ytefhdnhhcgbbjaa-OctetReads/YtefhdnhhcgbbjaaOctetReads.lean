import Derived.Test.YtefhdnhhcgbbjaaReadsLaw
import Derived.Test.YtefhdnhhcgbbjaaOpen
import Derived.SizedLaws
import Derived.Deep.SlicePairs
namespace Go.Proofs.Ytefhdnhhcgbbjaa
open Go.ChangeShapes Go.WideShapes Go.ChangeAt Go.RowKit Go.Deep
open Go.ChangeMaps (open_string shut_string)

/-- a byte slice that came in, and its datum's length -/
theorem open_bytes_len {H : Type} {enc : TypeId × Value → H} {W : World} {base : Nat} {v : Value} {d : DataW H} {ps : List MemPlace} (hok : Value.okWide Try.prog W .any base 27 v)
    (h : DataW.Trod enc Try.prog W 0 (fun _ => true) true 27 v d ps) {l : List UInt8} (hb : BS W v l) : l = [] ∨ ∃ elems spare, d = .slice elems spare ∧ elems.length = l.length := by
  obtain ⟨a0, len0, cap0, rfl⟩ := okWide_slice Try.underlying27 hok
  obtain ⟨fuel, hf⟩ := h
  obtain ⟨a', c', e⟩ := hb.form
  injection e with _ e2 _
  rcases open_ints Try.underlying27 Try.underlying5 (by kernel_rfl) hf with ⟨hcs, _⟩ | ⟨x, n, c, zs, hcs, _, hl, hm, hz, hx, hcell, hwz⟩
  · simp [Value.cells] at hcs
    left
    exact List.eq_nil_of_length_eq_zero (by omega)
  · simp [Value.cells] at hcs
    simp at hz
    right
    exact ⟨lits .u8 (zs.take n), lits .u8 (zs.drop n), by simpa using congrArg Prod.fst hx, by simp [lits]; omega⟩

theorem cells58 : Try.prog.cellsOf 58 = 2 := by kernel_rfl
theorem cells3 : Try.prog.cellsOf 3 = 1 := by kernel_rfl

theorem open_script {H : Type} {enc : TypeId × Value → H} {W : World} {base : Nat} {v : Value} {d : DataW H} {ps : List MemPlace} (hok : Value.okWide Try.prog W .any base 52 v)
    (h : DataW.Trod enc Try.prog W 0 (fun _ => true) true 52 v d ps) : ∃ sc, Scr W v sc ∧ (sc = [] ∨ ∃ elems spare, d = .slice elems spare ∧ elems.length = sc.length) := by
  obtain ⟨a0, len0, cap0, rfl⟩ := okWide_slice Try.underlying52 hok
  obtain ⟨fuel, hf⟩ := h
  rcases open_slice_pairs Try.underlying52 Try.underlying58 cells58 rfl rfl cells3 cells3 hf with ⟨hcs, _⟩ | ⟨a, len, cap, m, n, V0, V1, D0, D1, P0, P1, hcs, _, hl, hm, hmm, hx, hcell⟩
  · simp [Value.cells] at hcs
    obtain ⟨rfl, rfl, rfl⟩ := hcs
    exact ⟨[], ⟨none, 0, rfl, by simp, fun i hi => by simp at hi⟩, .inl rfl⟩
  · simp [Value.cells] at hcs
    obtain ⟨rfl, rfl, rfl⟩ := hcs
    simp at hmm
    subst hmm
    have hint : ∀ i, i < m → ∃ z0 z1 : Int, V0 i = .int .i64 z0 ∧ V1 i = .int .i64 z1 := by
      intro i hi
      obtain ⟨_, _, t0, t1⟩ := hcell i hi
      obtain ⟨z0, e0, _, _⟩ := DataW.trod_int Try.underlying3 t0
      obtain ⟨z1, e1, _, _⟩ := DataW.trod_int Try.underlying3 t1
      exact ⟨z0, z1, by simpa using e0, by simpa using e1⟩
    refine ⟨(List.range len0).map fun i => (intOf (V0 i), intOf (V1 i)), ⟨some a, m, by simp, by simpa using hl, fun i hi => ?_⟩, .inr ⟨_, _, by simpa using congrArg Prod.fst hx, by simp⟩⟩
    have hi' : i < len0 := by simpa using hi
    obtain ⟨c0, c1, _, _⟩ := hcell i (by omega)
    obtain ⟨z0, z1, e0, e1⟩ := hint i (by omega)
    obtain ⟨b, off, spot⟩ := a
    have hspot : spot = none := by simpa [Addr.add] using World.cell?_spot (hcell 0 (by omega)).1
    subst hspot
    rw [add_lit] at c0 c1
    refine ⟨b, off, rfl, World.block_lt_of_cell? W _ c0, ?_, ?_⟩
    · rw [c0, e0]; simp [intOf, e0]
    · rw [Nat.add_assoc, c1, e1]; simp [intOf, e1]

theorem bytes5 : Try.prog.bytesOf 5 = 1 := by kernel_rfl
theorem bytes58 : Try.prog.bytesOf 58 = 16 := by kernel_rfl

set_option maxRecDepth 100000 in
theorem reads_lifted (os : Os) (started : os.Started) (H : Type) (enc : TypeId × Value → H) :
    ReturnsInHanded {} Try.checked os 6 .any (Rows.octetReadsSpec.pre6 enc Try.prog Try.f6 Rows.octetReadsRow.domain false) (Rows.octetReadsSpec.post enc Try.prog Try.f6 false true false false) := by
  refine returnsInHanded_of_change_sized (C := Try.checked) own started (by kernel_rfl) Try.func6
    (ChangeSpec.witness6 (enc := enc) (C := Try.checked) false ⟨#[], #[.slice none 0 0, .slice none 0 0, .slice none 0 0], []⟩ 8 (by kernel_rfl) (by kernel_rfl) (by kernel_rfl) (by kernel_rfl)) ?_
  intro W base args ds gs before hval0 hW hcnd hsz0 _
  have hval : ∀ (j : Nat) t v, Try.f6.params[j]? = some t → args[j]? = some v → Value.okWide Try.prog W .any base t v := hval0
  have hsz : (DataW.weightsEach Try.prog (Try.f6.params.toList ++ Rows.octetReadsSpec.plain.varTypes Try.prog) (ds ++ gs)).all (· ≤ reachBytes) = true := hsz0
  have hW' := hW
  obtain ⟨p, q, hA0, hV, rfl, hfz, hnd⟩ := hW
  have hA : DataW.TrodAll enc Try.prog W 0 (fun _ => true) true Try.f6.params.toList args.toList ds p := hA0
  rw [Try.params6] at hA hval hsz
  obtain ⟨v0, vs0, d0, ds0, p0, q0, hargs, rfl, rfl, h0, r0⟩ := trodAll_cons hA
  obtain ⟨v1, vs1, d1, ds1, p1, q1, rfl, rfl, rfl, h1, r1⟩ := trodAll_cons r0
  obtain ⟨v2, vs2, d2, ds2, p2, q2, rfl, rfl, rfl, h2, r2⟩ := trodAll_cons r1
  obtain ⟨rfl, rfl, rfl⟩ := trodAll_nil r2
  obtain rfl : args = #[v0, v1, v2] := by cases args; simp_all
  obtain ⟨rfl, rfl⟩ := trodVars_none hV
  have k0 := h0
  have k1 := h1
  have k2 := h2
  have lt0 : ∀ x ∈ p0, x.block < W.heap.size := by obtain ⟨m, hm⟩ := k0; exact DataW.trod_lt m _ _ _ hm
  have lt1 : ∀ x ∈ p1, x.block < W.heap.size := by obtain ⟨m, hm⟩ := k1; exact DataW.trod_lt m _ _ _ hm
  have lt2 : ∀ x ∈ p2, x.block < W.heap.size := by obtain ⟨m, hm⟩ := k2; exact DataW.trod_lt m _ _ _ hm
  obtain ⟨la, hba, _⟩ := open_bytes (hval 0 27 v0 rfl rfl) h0
  obtain ⟨lb, hbb, _⟩ := open_bytes (hval 1 27 v1 rfl rfl) h1
  obtain ⟨sc, hsc, hscl⟩ := open_script (hval 2 52 v2 rfl rfl) h2
  have b0 : la.length ≤ 140737488351232 := by
    rcases open_bytes_len (hval 0 27 v0 rfl rfl) h0 hba with rfl | ⟨el, sp, rfl, hl⟩
    · simp
    · have := sized_slice hsz (j := 0) (t := 27) (e := 5) rfl rfl Try.underlying27
      rw [bytes5] at this
      simp only [reachBytes] at this
      omega
  have b1 : lb.length ≤ 140737488351232 := by
    rcases open_bytes_len (hval 1 27 v1 rfl rfl) h1 hbb with rfl | ⟨el, sp, rfl, hl⟩
    · simp
    · have := sized_slice hsz (j := 1) (t := 27) (e := 5) rfl rfl Try.underlying27
      rw [bytes5] at this
      simp only [reachBytes] at this
      omega
  have b2 : sc.length ≤ 140737488351232 := by
    rcases hscl with rfl | ⟨el, sp, rfl, hl⟩
    · simp
    · have := sized_slice hsz (j := 2) (t := 52) (e := 58) rfl rfl Try.underlying52
      rw [bytes58] at this
      simp only [reachBytes] at this
      omega
  clear hA0 hval0 hsz0
  refine (reads_walk hba hbb hsc b0 b1 b2).mono fun e W' ⟨he, bel⟩ => ?_
  subst he
  exact ⟨_, rfl, _, _, _, [], _, [], hW', trodAll_mk1 (shut_bool Try.underlying4 _), (trodAll_cons_mk (Below.trod laidOut (by kernel_rfl) (of_decide_eq_true (by kernel_rfl)) k0 bel lt0) (trodAll_cons_mk (Below.trod laidOut (by kernel_rfl) (of_decide_eq_true (by kernel_rfl)) k1 bel lt1) (trodAll_cons_mk (Below.trod laidOut (by kernel_rfl) (of_decide_eq_true (by kernel_rfl)) k2 bel lt2) trodAll_mk0))), rfl, bel.frame _, fun h => by cases h⟩

theorem octetReads_said : Rows.OctetReadsSaid :=
  OpenClaim.holds_of_wide 6 Try.f6 rfl rfl rfl rfl rfl rfl rfl ⟨rfl, rfl, rfl, rfl, rfl⟩ rfl rfl rfl rfl rfl (by kernel_rfl) Try.func6 (by kernel_rfl)
    (of_decide_eq_true (by kernel_rfl)) (by unfold Func.isWrapper; first | (rw [if_pos (by decide +kernel)]; kernel_rfl) | (rw [if_neg (by decide +kernel)]; exact ⟨rfl, rfl⟩))
    (fun os started H enc _ => reads_lifted os started H enc)

#print axioms octetReads_said
end Go.Proofs.Ytefhdnhhcgbbjaa
