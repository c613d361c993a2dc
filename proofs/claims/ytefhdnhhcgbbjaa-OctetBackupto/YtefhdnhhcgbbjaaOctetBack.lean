import Derived.Test.YtefhdnhhcgbbjaaBackLaw
import Derived.Test.YtefhdnhhcgbbjaaOpen
import Derived.Deep.SlicePairs
namespace Go.Proofs.Ytefhdnhhcgbbjaa
open Go.ChangeShapes Go.WideShapes Go.ChangeAt Go.RowKit Go.Deep

theorem cells26 : Try.prog.cellsOf 26 = 3 := by kernel_rfl
theorem cells24 : Try.prog.cellsOf 24 = 1 := by kernel_rfl
theorem cells9 : Try.prog.cellsOf 9 = 1 := by kernel_rfl
theorem cells3' : Try.prog.cellsOf 3 = 1 := by kernel_rfl

/-- an item's datum -/
def It.datum {H : Type} (i : It) : DataW H := .agg [.lit (.int .i64 i.k), .lit (.int .u64 i.x), .lit (.string i.s.data.toList)]

theorem enc_length (i : It) : i.enc.length ≤ 8 + i.s.size := by
  unfold It.enc
  have h1 := le_length
  repeat' split
  all_goals simp only [List.length_append, h1, size_toList]
  all_goals omega

theorem bulk_items {H : Type} (l : List It) : (encs l).length ≤ 2 * Rows.uptoBulkAll (l.map (It.datum (H := H))) := by
  induction l with
  | nil => simp [encs]
  | cons x l ih =>
    have h := enc_length x
    have e : encs (x :: l) = x.enc ++ encs l := by simp [encs]
    rw [e, List.length_append, List.map_cons]
    simp only [Rows.uptoBulkAll, It.datum, Rows.uptoBulk, size_toList] at *
    omega
theorem bulk_item_size {H : Type} (l : List It) : ∀ i ∈ l, i.s.size ≤ Rows.uptoBulkAll (l.map (It.datum (H := H))) := by
  induction l with
  | nil => intro i hi; cases hi
  | cons x l ih =>
    intro i hi
    rw [List.map_cons]
    simp only [Rows.uptoBulkAll]
    rcases List.mem_cons.1 hi with rfl | hi
    · simp only [It.datum, Rows.uptoBulk, size_toList, Rows.uptoBulkAll]
      omega
    · have := ih i hi
      omega

theorem open_items {H : Type} {enc : TypeId × Value → H} {W : World} {base : Nat} {v : Value} {d : DataW H} {ps : List MemPlace} (hok : Value.okWide Try.prog W .any base 22 v)
    (h : DataW.Trod enc Try.prog W 0 (fun _ => true) true 22 v d ps) :
    ∃ l : List It, Itm W v l ∧ (∀ i ∈ l, -9223372036854775808 ≤ i.k ∧ i.k ≤ 9223372036854775807 ∧ i.x < 18446744073709551616) ∧ Rows.uptoBulkAll (l.map (It.datum (H := H))) ≤ Rows.uptoBulk d := by
  obtain ⟨a0, len0, cap0, rfl⟩ := okWide_slice Try.underlying22 hok
  obtain ⟨fuel, hf⟩ := h
  rcases open_slice Try.underlying22 hf with ⟨hcs, _⟩ | ⟨a, len, cap, m, n, D, Pl, hcs, _, hl, hm, hmm, hx, hel⟩
  · simp [Value.cells] at hcs
    obtain ⟨rfl, rfl, rfl⟩ := hcs
    exact ⟨[], .inl ⟨⟨_, _, rfl⟩, rfl⟩, (fun i hi => (by cases hi)), by simp [Rows.uptoBulkAll]⟩
  · simp [Value.cells] at hcs
    obtain ⟨rfl, rfl, rfl⟩ := hcs
    simp at hmm
    subst hmm
    have each : ∀ i, i < m → ∃ q : It, W.cell? (a.add (i * 3)) = some (.int .i64 q.k) ∧ W.cell? (a.add (i * 3 + 1)) = some (.int .u64 q.x) ∧ W.cell? (a.add (i * 3 + 2)) = some (.string q.s) ∧ D i = q.datum ∧
        -9223372036854775808 ≤ q.k ∧ q.k ≤ 9223372036854775807 ∧ q.x < 18446744073709551616 := by
      intro i hi
      obtain ⟨cs', h1, h2⟩ := hel i hi
      rw [cells26] at h1
      obtain ⟨_, hlen, hcell⟩ := World.cells?_some h1
      obtain ⟨xs, k, hk, hxy, _, hxl, hfl⟩ := DataW.trod_struct Try.underlying26 h2
      match xs, hxl, cs', hlen with
      | [y0, y1, y2], _, [v0, v1, v2], _ =>
        have g0 := hfl 0 _ rfl
        have g1 := hfl 1 _ rfl
        have g2 := hfl 2 _ rfl
        simp [cells3', cells24, cells9] at g0 g1 g2
        obtain ⟨z0, e0, x0, wz0⟩ := DataW.trod_int Try.underlying3 g0
        obtain ⟨z1, e1, x1, wz1⟩ := DataW.trod_int Try.underlying24 g1
        obtain ⟨s2, e2, x2, ws2⟩ := DataW.trod_string Try.underlying9 g2
        have c0 := hcell 0 (by simp)
        have c1 := hcell 1 (by simp)
        have c2 := hcell 2 (by simp)
        rw [add_add] at c0 c1 c2
        simp at e0 e1 e2
        subst e0 e1 e2 x0 x1 x2
        have b0 := bounds_i64 wz0
        have b1 := bounds_u64 wz1
        obtain ⟨n1, rfl⟩ := Int.eq_ofNat_of_zero_le b1.1
        simp only [Prod.mk.injEq] at hxy
        exact ⟨⟨z0, n1, s2⟩, by simpa using c0, by simpa using c1, by simpa using c2, by simpa [It.datum] using hxy.1, b0.1, b0.2, by simp only; omega⟩
    have hinh : Inhabited It := ⟨⟨0, 0, .empty⟩⟩
    obtain ⟨q, hq⟩ := choose_lt (α := It) each
    have hD : (List.range len0).map D = (List.range len0).map fun i => (q i).datum := List.map_congr_left (fun i hi => (hq i (by have := List.mem_range.1 hi; omega)).2.2.2.1)
    refine ⟨(List.range len0).map q, ?_, ?_, ?_⟩
    · by_cases h0 : len0 = 0
      · subst h0
        exact .inl ⟨⟨_, _, rfl⟩, rfl⟩
      · obtain ⟨b, off, spot⟩ := a
        have hspot : spot = none := by simpa [Addr.add] using World.cell?_spot (hq 0 (by omega)).1
        subst hspot
        refine .inr ⟨b, off, m, by simp, World.block_lt_of_cell? W _ (by have := (hq 0 (by omega)).1; rw [add_lit] at this; exact this), fun i u hu => ?_⟩
        have hi : i < len0 * 3 := by
          have := (List.getElem?_eq_some_iff.1 hu).1
          rw [icells_length] at this
          simpa using this
        have hj : i / 3 < ((List.range len0).map q).length := by simp; omega
        obtain ⟨t0, t1, t2⟩ := icells_get ((List.range len0).map q) (i / 3) hj
        obtain ⟨u0, u1, u2, _⟩ := hq (i / 3) (by omega)
        rw [add_lit] at u0 u1 u2
        simp only [List.getElem_map, List.getElem_range] at t0 t1 t2
        have hr : i % 3 = 0 ∨ i % 3 = 1 ∨ i % 3 = 2 := by omega
        rcases hr with hr | hr | hr
        · rw [show i / 3 * 3 = i from by omega] at t0 u0
          rw [t0] at hu
          rw [u0]
          exact hu
        · rw [show i / 3 * 3 + 1 = i from by omega] at t1 u1
          rw [t1] at hu
          rw [u1]
          exact hu
        · rw [show i / 3 * 3 + 2 = i from by omega] at t2 u2
          rw [t2] at hu
          rw [u2]
          exact hu
    · intro i hi
      obtain ⟨j, hj, rfl⟩ := List.mem_map.1 hi
      obtain ⟨_, _, _, _, r⟩ := hq j (by have := List.mem_range.1 hj; omega)
      exact r
    · have hd : d = .slice ((List.range len0).map D) ((List.range (m - len0)).map fun j => D (len0 + j)) := by simpa using congrArg Prod.fst hx
      rw [hd, hD]
      simp only [Rows.uptoBulk, List.map_map]
      have e : (List.range len0).map (It.datum (H := H) ∘ q) = (List.range len0).map fun i => (q i).datum := rfl
      rw [e]
      omega

theorem back_contract (H : Type) (enc : TypeId × Value → H) (W : World) (base : Nat) (args : Array Value) (ds gs : List (DataW H)) (before : List MemPlace)
    (hval : ∀ (j : Nat) t v, Try.f3.params[j]? = some t → args[j]? = some v → Value.okWide Try.prog W .any base t v)
    (hW : DataW.Whole enc Try.prog Try.f3.params.toList Rows.octetBackSpec.vars false W args.toList ds gs before) (hk : Rows.uptoSmall H (ds ++ gs) = true) :
    Calls Try.prog 3 args W fun e W' => ∃ v, e = .returned v ∧ Rows.octetBackSpec.post enc Try.prog Try.f3 false true false false W args v W' := by
  have hW' := hW
  obtain ⟨p, q, hA0, hV, rfl, hfz, hnd⟩ := hW
  have hA : DataW.TrodAll enc Try.prog W 0 (fun _ => true) true Try.f3.params.toList args.toList ds p := hA0
  rw [Try.params3] at hA hval
  obtain ⟨v0, vs0, d0, ds0, p0, q0, hargs, rfl, rfl, h0, r0⟩ := trodAll_cons hA
  obtain ⟨rfl, rfl, rfl⟩ := trodAll_nil r0
  obtain rfl : args = #[v0] := by cases args; simp_all
  obtain ⟨rfl, rfl⟩ := trodVars_none hV
  have hbulk := bulk_bound hk
  simp only [List.append_nil, Rows.uptoBulkAll] at hbulk
  have k0 := h0
  have lt0 : ∀ x ∈ p0, x.block < W.heap.size := by obtain ⟨m, hm⟩ := k0; exact DataW.trod_lt m _ _ _ hm
  obtain ⟨l, hit, hfit, hbu⟩ := open_items (hval 0 22 v0 rfl rfl) h0
  have hb1 : Rows.uptoBulkAll (l.map (It.datum (H := H))) ≤ 1048576 := by omega
  have hle := bulk_items (H := H) l
  have hsz := bulk_item_size (H := H) l
  have hlen : l.length ≤ 1048576 := by
    have := bulk_len (l.map (It.datum (H := H)))
    rw [List.length_map] at this
    omega
  clear hA0
  refine (back_walk hit (fun i hi => by obtain ⟨x1, x2, x3⟩ := hfit i hi; exact ⟨x1, x2, x3, by have := hsz i hi; omega⟩) (by omega) (by omega)).mono fun e W' ⟨he, bel⟩ => ?_
  subst he
  exact ⟨_, rfl, _, _, _, [], _, [], hW', trodAll_mk1 (shut_bool Try.underlying4 _), (trodAll_cons_mk (Below.trod laidOut (by kernel_rfl) (of_decide_eq_true (by kernel_rfl)) k0 bel lt0) trodAll_mk0), rfl, bel.frame _, fun h => by cases h⟩

set_option maxRecDepth 100000 in
theorem back_lifted (os : Os) (started : os.Started) (H : Type) (enc : TypeId × Value → H) (F : Stop.Interp) :
    ReturnsInHanded {} Try.checked os 3 .any ((Rows.OpenSpec.upto Rows.octetBackSpec).pre6 enc Try.prog Try.f3 Rows.octetBackUptoRow.domain false) (((Rows.OpenSpec.upto Rows.octetBackSpec).at F).post enc Try.prog Try.f3 false true false false) := by
  refine returnsInHanded_of_cond (C := Try.checked) (s := Rows.OpenSpec.upto Rows.octetBackSpec) (k := Rows.uptoSmall) rfl own started (by kernel_rfl) Try.func3
    (OpenSpec.witness (enc := enc) (C := Try.checked) (s := Rows.OpenSpec.upto Rows.octetBackSpec) (k := Rows.uptoSmall) rfl false ⟨#[], #[.slice none 0 0], []⟩ 8 (by kernel_rfl) (by kernel_rfl) (by kernel_rfl)
      (x := ([.nil], [], [])) (by kernel_rfl) rfl (by kernel_rfl)) ?_
  intro W base args ds gs before hval hW _ hk _
  exact back_contract H enc W base args ds gs before hval hW hk

theorem octetBack_upto : Rows.OctetBackUptoSaid :=
  OpenClaim.holds_of_cond 3 Try.f3 rfl rfl rfl rfl rfl rfl rfl ⟨rfl, rfl, rfl, rfl, rfl⟩ rfl rfl rfl rfl rfl (by kernel_rfl) Try.func3 (by kernel_rfl)
    (of_decide_eq_true (by kernel_rfl)) (by unfold Func.isWrapper; first | (rw [if_pos (by decide +kernel)]; kernel_rfl) | (rw [if_neg (by decide +kernel)]; exact ⟨rfl, rfl⟩))
    (fun os started H enc _ F => back_lifted os started H enc F)

#print axioms octetBack_upto
end Go.Proofs.Ytefhdnhhcgbbjaa
