/-
  The law GraphWays, whatever came in.
-/
import Derived.Test.YtjohhmfncemknaaW0
import Derived.Test.YtjohhmfncemknaaOpen
namespace Go.Proofs.Ytjohhmfncemknaa
open Go.ChangeShapes Go.WideShapes Go.ChangeAt Go.RowKit Go.Deep

theorem cells34 : Try.prog.cellsOf 34 = 2 := by kernel_rfl

set_option maxRecDepth 100000 in
theorem open_pairs {H : Type} {enc : TypeId × Value → H} {W : World} {base : Nat} {v : Value} {d : DataW H} {ps : List MemPlace} (hok : Value.okWide Try.prog W .any base 22 v)
    (h : DataW.Trod enc Try.prog W 0 (fun _ => true) true 22 v d ps) : ∃ l : List (Int × Int), PS W v l := by
  obtain ⟨a0, len0, cap0, rfl⟩ := okWide_slice Try.underlying22 hok
  obtain ⟨fuel, hf⟩ := h
  rcases open_slice Try.underlying22 hf with ⟨hcs, _⟩ | ⟨a, len, cap, m, n, D, Pl, hcs, _, hl, hm, hmm, hx, hel⟩
  · simp [Value.cells] at hcs
    obtain ⟨rfl, rfl, rfl⟩ := hcs
    exact ⟨[], .inl ⟨⟨_, _, rfl⟩, rfl⟩⟩
  · simp [Value.cells] at hcs
    obtain ⟨rfl, rfl, rfl⟩ := hcs
    simp at hmm
    subst hmm
    have each : ∀ i, i < m → ∃ q : Int × Int, W.cell? (a.add (i * 2)) = some (.int .i64 q.1) ∧ W.cell? (a.add (i * 2 + 1)) = some (.int .i64 q.2) := by
      intro i hi
      obtain ⟨cs', h1, h2⟩ := hel i hi
      rw [cells34] at h1
      obtain ⟨_, hlen, hcell⟩ := World.cells?_some h1
      obtain ⟨xs, k, hk, hxy, _, hxl, hfl⟩ := DataW.trod_struct Try.underlying34 h2
      match xs, hxl, cs', hlen with
      | [y0, y1], _, [v0, v1], _ =>
        have g0 := hfl 0 _ rfl
        have g1 := hfl 1 _ rfl
        simp [cells3'] at g0 g1
        obtain ⟨z0, e0, x0, wz0⟩ := DataW.trod_int Try.underlying3 g0
        obtain ⟨z1, e1, x1, wz1⟩ := DataW.trod_int Try.underlying3 g1
        have c0 := hcell 0 (by simp)
        have c1 := hcell 1 (by simp)
        rw [add_add] at c0 c1
        simp at e0 e1
        subst e0 e1
        exact ⟨(z0, z1), by simpa using c0, by simpa using c1⟩
    have hinh : Inhabited (Int × Int) := ⟨(0, 0)⟩
    obtain ⟨q, hq⟩ := choose_lt (α := Int × Int) each
    refine ⟨(List.range len0).map q, ?_⟩
    by_cases h0 : len0 = 0
    · subst h0
      exact .inl ⟨⟨_, _, rfl⟩, rfl⟩
    · obtain ⟨b, off, spot⟩ := a
      have hspot : spot = none := by simpa [Addr.add] using World.cell?_spot (hq 0 (by omega)).1
      subst hspot
      refine .inr ⟨b, off, m, by simp, by simpa using hl, World.block_lt_of_cell? W _ (by have := (hq 0 (by omega)).1; rw [add_lit] at this; exact this), fun i u hu => ?_⟩
      have hi : i < len0 * 2 := by
        have := (List.getElem?_eq_some_iff.1 hu).1
        rw [pc_length] at this
        simpa using this
      have hj : i / 2 < ((List.range len0).map q).length := by simp; omega
      obtain ⟨t0, t1⟩ := pc_get ((List.range len0).map q) (i / 2) hj
      obtain ⟨u0, u1⟩ := hq (i / 2) (by omega)
      rw [add_lit] at u0 u1
      simp only [List.getElem_map, List.getElem_range] at t0 t1
      have hr : i % 2 = 0 ∨ i % 2 = 1 := by omega
      rcases hr with hr | hr
      · rw [show i / 2 * 2 = i from by omega] at t0 u0
        rw [t0] at hu
        rw [u0]
        exact hu
      · rw [show i / 2 * 2 + 1 = i from by omega] at t1 u1
        rw [t1] at hu
        rw [u1]
        exact hu

set_option maxRecDepth 100000 in
theorem graphWays_lifted (os : Os) (started : os.Started) (H : Type) (enc : TypeId × Value → H) :
    ReturnsInHanded {} Try.checked os 3 .any (Rows.graphWaysSpec.pre6 enc Try.prog Try.f3 Rows.graphWaysRow.domain false) (Rows.graphWaysSpec.post enc Try.prog Try.f3 false true false false) := by
  refine returnsInHanded_of_change_sized (C := Try.checked) own0 started (by kernel_rfl) Try.func3
    (ChangeSpec.witness6 (enc := enc) (C := Try.checked) false ⟨#[], #[.slice none 0 0], []⟩ 8 (by kernel_rfl) (by kernel_rfl) (by kernel_rfl) (by kernel_rfl)) ?_
  intro W base args ds gs before hval0 hW hcnd hsz0 _
  have hval : ∀ (j : Nat) t v, Try.f3.params[j]? = some t → args[j]? = some v → Value.okWide Try.prog W .any base t v := hval0
  have hW' := hW
  obtain ⟨p, q, hA0, hV, rfl, hfz, hnd⟩ := hW
  have hA : DataW.TrodAll enc Try.prog W 0 (fun _ => true) true Try.f3.params.toList args.toList ds p := hA0
  rw [Try.params3] at hA hval
  obtain ⟨v0, vs0, d0, ds0, p0, q0, hargs, rfl, rfl, h0, r0⟩ := trodAll_cons hA
  obtain ⟨rfl, rfl, rfl⟩ := trodAll_nil r0
  obtain rfl : args = #[v0] := by cases args; simp_all
  obtain ⟨rfl, rfl⟩ := trodVars_none hV
  have k0 := h0
  have lt0 : ∀ x ∈ p0, x.block < W.heap.size := by obtain ⟨m, hm⟩ := k0; exact DataW.trod_lt m _ _ _ hm
  obtain ⟨l0, ss0⟩ := open_pairs (hval 0 22 v0 rfl rfl) h0
  clear hA0 hval0 hsz0 hcnd
  refine (gw_law ss0).mono fun e W' ⟨he, bel⟩ => ?_
  subst he
  exact ⟨_, rfl, _, _, _, [], _, [], hW', trodAll_mk1 (shut_bool Try.underlying4 _), (trodAll_cons_mk (Below.trod laidOut (by kernel_rfl) (of_decide_eq_true (by kernel_rfl)) k0 bel lt0) trodAll_mk0), rfl, bel.frame _, fun h => by cases h⟩

theorem graphWays_said : Rows.GraphWaysSaid :=
  OpenClaim.holds_of_wide 3 Try.f3 rfl rfl rfl rfl rfl rfl rfl ⟨rfl, rfl, rfl, rfl, rfl⟩ rfl rfl rfl rfl rfl (by kernel_rfl) Try.func3 (by kernel_rfl)
    (of_decide_eq_true (by kernel_rfl)) (by unfold Func.isWrapper; first | (rw [if_pos (by decide +kernel)]; kernel_rfl) | (rw [if_neg (by decide +kernel)]; exact ⟨rfl, rfl⟩))
    (fun os started H enc _ => graphWays_lifted os started H enc)

#print axioms graphWays_said
end Go.Proofs.Ytjohhmfncemknaa
