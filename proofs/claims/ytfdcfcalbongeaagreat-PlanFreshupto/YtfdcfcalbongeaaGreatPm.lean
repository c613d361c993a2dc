/-
  The document's Make.
-/
import Derived.Test.YtfdcfcalbongeaaGreatJWg
import Derived.Test.YtfdcfcalbongeaaGreatJTRef
import Derived.Test.YtfdcfcalbongeaaGreatTRefV
import Derived.OrdersHeld
import Derived.Deep.Cut
namespace Go.Proofs.YtfdcfcalbongeaaGreat
open Go.RowKit
attribute [local go_sem] Oper.semAt_some

theorem step_app_run {P : Program} {ops : Array Oper} {o : Oper} {a : Act} {w : World} {K : Act → World → Prop} {Q : Exit → Act → World → Prop} {E : Prop} (hg : o.guard = none) (d x : Operand) (dT sT : TypeId)
    (hop : o.op = .call { callee := .builtin .append, args := #[d, x], argTypes := #[dT, sT] }) (v u : Value) (hd : a.eval d = v) (hx : a.eval x = u) {v' : Value} {w' : World} (hr : (Builtin.append_ #[dT, sT] o.type #[v, u]).run P w = .ok v' w') (hK : K (a.put o.dst v') w') :
    if Region.wanted o (yielded ops a.tmps) = true then Oper.wp P o a w K Q else E := by
  have hw : Region.wanted o (yielded ops a.tmps) = true := by simp [Region.wanted, hg]
  rw [if_pos hw]
  unfold Oper.wp execOp
  simp only [hop, resolve, invoke, builtin, Sem.run_bind, Sem.run_pure, Result.andThen_ok, List.map_toArray, List.map_cons, List.map_nil, hd, hx, hr]
  exact hK
/-- one step more, as a run -/
theorem arunS {w : World} {base : Nat} {v : Value} {l : List Sp} (s : Sp) (hown : OwS base w v l) (hb : l.length + 1 ≤ 1000000000) (hbase : base ≤ w.heap.size) (ty : TypeId) :
    ∃ v' w', (Builtin.append_ #[23, 23] ty #[v, .slice (some ⟨w.heap.size, 0, none⟩) 1 1]).run Tryz.prog (w.alloc (.cells #[.int .i64 s.kind, .string (bs s.p), .string (bs s.f.path), .string (bs s.f.text), .int .i64 s.f.blob, .int .i64 s.f.size] 42)) = .ok v' w' ∧ OwS base w' v' (l ++ [s]) ∧ Below base w w' := by
  obtain ⟨w1, hw1⟩ : ∃ w1, w.alloc (.cells #[.int .i64 s.kind, .string (bs s.p), .string (bs s.f.path), .string (bs s.f.text), .int .i64 s.f.blob, .int .i64 s.f.size] 42) = w1 := ⟨_, rfl⟩
  obtain ⟨i0, hi, hz0, hz1, hz2⟩ := info_parts info42
  have hblk : w1.heap[w.heap.size]? = some (.cells #[.int .i64 s.kind, .string (bs s.p), .string (bs s.f.path), .string (bs s.f.text), .int .i64 s.f.blob, .int .i64 s.f.size] 42 (0, 0)) := by rw [← hw1]; exact heap_alloc_new _ _
  have hsrc : Src Tryz.prog i0.size 23 (.slice (some ⟨w.heap.size, 0, none⟩) 1 1) 1 (pc [s]) w1 := by
    rw [hz1]
    refine Src.ofSlice _ und23 ⟨w.heap.size, 0, none⟩ 1 1 (pc [s]) (by simp [pc]) (fun j u hu => ?_) (pc_one _)
    rw [add_lit, Nat.zero_add, cell_blkR hblk]
    simpa [pc] using hu
  have hb1 : Below w.heap.size w w1 := by rw [← hw1]; exact balloc _ _
  have hz : w1.heap.size = w.heap.size + 1 := by rw [← hw1]; simp
  have ho1 : OwR 42 i0.size base w1 v l.length (pc l) := by rw [hz1]; exact OwR.later hown hb1
  obtain ⟨v', w', hr, h1, h2⟩ := run_app_R (P := Tryz.prog) w1 base 23 ty 42 i0 _ und23 hi hz0 (by rw [hz1]; rfl) v l.length (pc l) ho1 (.slice (some ⟨w.heap.size, 0, none⟩) 1 1) (pc [s]) hsrc (by unfold maxLen; omega) (by rw [hz2]; omega) (by omega)
  rw [hz1] at h1
  rw [hw1]
  refine ⟨v', w', hr, ?_, ?_⟩
  · unfold OwS
    rw [pc_append, List.length_append]
    exact h1
  · refine below_trans (below_mono hb1 hbase) ?_
    rcases h2 with ⟨g, off, cap, e, _, hg⟩ | ⟨b, _, _, hbb⟩
    · exact (Below.refl _ _).grown hg (by omega) (fun j hj => by
        cases hj
        exact (hown.lt (j := g) (by rw [e]; rfl)).1)
    · exact below_mono hbb (by omega)
theorem hasE_fnd {old : List Fl} (h : FUp old) (f : Fl) : hasE old f = match fnd old f.path with | some g => feq g f | none => false := by
  rw [Bool.eq_iff_iff, hasE_iff]
  cases e : fnd old f.path with
  | none =>
    simp only [Bool.false_eq_true, iff_false]
    intro hf
    have := (fnd_iff h).2 ⟨hf, rfl⟩
    rw [e] at this; cases this
  | some g =>
    have hg := (fnd_iff h).1 e
    rw [feq_iff]
    constructor
    · intro hf
      have := (fnd_iff h).2 ⟨hf, rfl⟩
      rw [e] at this
      exact Option.some.inj this
    · rintro rfl; exact hg.1
/-- what Make answers -/
def MkQ (w : World) (R : List Sp) (e : Ending) (w' : World) : Prop := ∃ v, e = .returned (.tuple #[v, .int .i64 0]) ∧ OwS w.heap.size w' v R ∧ Below w.heap.size w w'
set_option maxRecDepth 100000 in
set_option maxHeartbeats 16000000 in
theorem mk25 {lv2 lv3 lv4 lv5 lv6 lv8 lv9 lv10 lv11 lv12 lv13 lv14 lv15 lv16 lv17 lv18 lv19 lv20 lv21 lv22 lv23 lv24 lv25 lv26 lv27 lv28 lv29 lv30 lv31 lv32 lv33 lv34 lv35 lv36 lv37 lv38 lv39 lv40 lv41 lv42 lv43 lv44 lv45 lv46 lv47 lv48 lv49 lv50 lv51 lv52 lv53 lv54 lv55 lv56 lv57 lv58 lv59 lv60 lv61 lv62 lv63 lv64 lv65 lv66 lv67 lv68 lv69 lv70 lv71 lv72 lv73 lv74 lv75 lv76 lv77 lv78 lv79 lv80 lv81 lv82 lv83 lv84 lv85 lv86 lv87 lv88 lv89 lv90 lv91 lv92 lv93 lv94 lv95 lv96 lv97 lv98 lv99 lv100 lv101 lv102 lv103 lv104 lv105 lv106 lv107 lv108 lv109 lv110 lv111 lv112 lv113 lv114 lv115 lv116 lv117 lv118 lv119 lv120 lv121 lv122 lv123 lv124 lv125 lv126 lv127 lv128 lv129 lv130 lv131 lv132 lv133 lv134 lv135 lv136 lv137 lv138 lv139 lv140 lv141 : Value} {w W : World} {oa na : Option Addr} {oc nc no nn : Nat} {vo : Value} {old now : List Fl} {X R : List Sp} (HF : Hid (FS w (.slice oa no oc) old ∧ FS w (.slice na nn nc) now ∧ old.length = no ∧ now.length = nn)) (HV : Hid (FUp old)) (hno : no ≤ 512) (hnn : nn ≤ 512) (HO : Hid (OwS w.heap.size W vo X ∧ Below w.heap.size w W)) (hX : X.length ≤ 200000) (HR : Hid (X ++ (pW old now).map sWr = R)) :
    Code.wp Tryz.prog (suff 25 (Tryz.f4.body.getD .skip)) (bodyPost Tryz.prog Tryz.f4 (MkQ w R)) ⟨#[.slice oa no oc, .slice na nn nc, lv2, lv3, lv4, lv5, lv6, vo, lv8, lv9, lv10, lv11, lv12, lv13, lv14, lv15, lv16, lv17, lv18, lv19, lv20, lv21, lv22, lv23, lv24, lv25, lv26, lv27, lv28, lv29, lv30, lv31, lv32, lv33, lv34, lv35, lv36, lv37, lv38, lv39, lv40, lv41, lv42, lv43, lv44, lv45, lv46, lv47, lv48, lv49, lv50, lv51, lv52, lv53, lv54, lv55, lv56, lv57, lv58, lv59, lv60, lv61, lv62, lv63, lv64, lv65, lv66, lv67, lv68, lv69, lv70, lv71, lv72, lv73, lv74, lv75, lv76, lv77, lv78, lv79, lv80, lv81, lv82, lv83, lv84, lv85, lv86, lv87, lv88, lv89, lv90, lv91, lv92, lv93, lv94, lv95, lv96, lv97, lv98, lv99, lv100, lv101, lv102, lv103, lv104, lv105, lv106, lv107, lv108, lv109, lv110, lv111, lv112, lv113, lv114, lv115, lv116, lv117, lv118, lv119, lv120, lv121, lv122, lv123, lv124, lv125, lv126, lv127, lv128, lv129, lv130, lv131, lv132, lv133, lv134, lv135, lv136, lv137, lv138, lv139, lv140, lv141], []⟩ W := by
  conv => arg 2; whnf
  have HN : Hid (∀ W', Below w.heap.size w W' → FS W' (.slice na nn nc) now) := fun W' h => HF.out.2.1.later h
  go_wp2_with fail
  go_loopw [7, 15] (fun o i wr => ∃ k : Nat, k ≤ nn ∧ i = .int .i64 k ∧ OwS w.heap.size wr o (X ++ ((now.take k).filter fun f => !hasE old f).map sWr) ∧ Below w.heap.size w wr) (fun _ i _ => nn - (intOf i).toNat)
  case atStart => exact ⟨0, by omega, rfl, by simpa using HO.out.1, HO.out.2⟩
  case round =>
    obtain ⟨k, hk, rfl, ho, hbw0⟩ := hrel
    have OW : Hid (OwS w.heap.size wr u7 (X ++ ((now.take k).filter fun f => !hasE old f).map sWr) ∧ Below w.heap.size w wr) := ⟨ho, hbw0⟩
    have hz := hbw0.size
    clear ho hbw0
    by_cases hlt : k < nn
    · have hkl : k < now.length := by have := HF.out.2.2.2; omega
      obtain ⟨b, off, ea, hbw, d0, d1, d2, d3⟩ := FS.at (c := nc) (by have := HF.out.2.1; rw [← HF.out.2.2.2] at this; exact this) (Below.refl _ w) hkl
      subst ea
      have htk : now.take (k + 1) = now.take k ++ [now[k]] := List.take_succ_eq_append_getElem hkl
      have hef := hasE_fnd HV.out now[k]
      generalize hf : now[k] = f at d0 d1 d2 d3 htk hef
      obtain ⟨p, t, bl, sz⟩ := f
      simp only at d0 d1 d2 d3 hef
      have D0 : Hid (w.cell? ⟨b, off + k * 4, none⟩ = some (.string (bs p)) ∧ w.cell? ⟨b, off + k * 4 + 1, none⟩ = some (.string (bs t)) ∧ w.cell? ⟨b, off + k * 4 + 2, none⟩ = some (.int .i64 bl) ∧ w.cell? ⟨b, off + k * 4 + 3, none⟩ = some (.int .i64 sz)) := ⟨d0, d1, d2, d3⟩
      have HTK : Hid (now.take (k + 1) = now.take k ++ [⟨p, t, bl, sz⟩]) := htk
      have x0 : wr.cell? ⟨b, off + k * 4, none⟩ = some (.string (bs p)) := (OW.out.2.cell (p := ⟨b, off + k * 4, none⟩) hbw).trans d0
      have HFI : Hid (Calls Tryz.prog 13 #[.slice oa no oc, .string (bs p)] wr fun e w' => e = .returned (.tuple #[(fopt (fnd old p)).val, .bool (fnd old p).isSome]) ∧ Below wr.heap.size wr w') := rfind_any p (HF.out.1.later OW.out.2) (by have := HF.out.2.2.1; omega)
      have HL : Hid ((X ++ ((now.take k).filter fun f => !hasE old f).map sWr).length + 1 ≤ 1000000000) := by
        show _ ≤ _
        rw [List.length_append, List.length_map]
        have h1 := List.length_filter_le (fun f => !hasE old f) (now.take k)
        rw [List.length_take] at h1
        omega
      have k1 : (0 : Int) ≤ (k : Int) := by omega
      have k2 : (k : Int) < (nn : Int) := by omega
      have HEF : Hid (hasE old ⟨p, t, bl, sz⟩ = match fnd old p with | some g => feq g ⟨p, t, bl, sz⟩ | none => false) := hef
      clear d0 d1 d2 d3 hf htk hef
      obtain ⟨o, hoo⟩ : ∃ o, fnd old p = o := ⟨_, rfl⟩
      rw [hoo] at HFI HEF
      clear hoo
      have q1 := neq_run
      have q2 := fguard_run
      cases o with
      | none =>
        have HNX : Hid (X ++ ((now.take (k + 1)).filter fun f => !hasE old f).map sWr = X ++ ((now.take k).filter fun f => !hasE old f).map sWr ++ [sWr ⟨p, t, bl, sz⟩]) := by
          show _ = _
          rw [HTK.out, List.filter_append, List.map_append, List.append_assoc]
          have : hasE old ⟨p, t, bl, sz⟩ = false := HEF.out
          simp [this]
        go_wp2_with fail
        refine HFI.out.mono ?_
        rintro e w1 ⟨rfl, hb1⟩
        simp only [fopt, Fl.val, zf, Option.isSome_none]
        have OW1 : Hid (OwS w.heap.size w1 u7 (X ++ ((now.take k).filter fun f => !hasE old f).map sWr) ∧ Below w.heap.size w w1) := ⟨OW.out.1.later hb1, bstep OW.out.2 hb1⟩
        clear hb1 x0
        have yne := gw_ne (w1.alloc (.cells #[.string (bs []), .string (bs []), .int .i64 0, .int .i64 0] 30))
        go_wp2_with fail
        refine wp_region_grow (by kernel_rfl) (by kernel_rfl) ?_
        repeat (go_big_quiet_step (fail))
        refine wpQuiet_nil ?_
        rintro w3 ⟨⟨w3, bx⟩, rfl⟩
        have OW3 : Hid (OwS w.heap.size w3 u7 (X ++ ((now.take k).filter fun f => !hasE old f).map sWr) ∧ Below w.heap.size w w3) := ⟨(OW1.out.1.later (balloc _ _)).later bx, bstep (bstep OW1.out.2 (balloc _ _)) bx⟩
        clear bx yne
        have HE : Hid (∀ W', Below w.heap.size w W' → W'.cell? ⟨b, off + k * 4, none⟩ = some (.string (bs p)) ∧ W'.cell? ⟨b, off + k * 4 + 1, none⟩ = some (.string (bs t)) ∧ W'.cell? ⟨b, off + k * 4 + 2, none⟩ = some (.int .i64 bl) ∧ W'.cell? ⟨b, off + k * 4 + 3, none⟩ = some (.int .i64 sz)) := fun W' hb => ⟨(hb.cell (p := ⟨b, off + k * 4, none⟩) hbw).trans D0.out.1, (hb.cell (p := ⟨b, off + k * 4 + 1, none⟩) hbw).trans D0.out.2.1, (hb.cell (p := ⟨b, off + k * 4 + 2, none⟩) hbw).trans D0.out.2.2.1, (hb.cell (p := ⟨b, off + k * 4 + 3, none⟩) hbw).trans D0.out.2.2.2⟩
        obtain ⟨v9, w9, hr, ho9, hb9⟩ := arunS (sWr ⟨p, t, bl, sz⟩) (OW3.out.1.later (Below.refl _ _).drew) HL.out OW3.out.2.drew.size 23
        have O9 : Hid (OwS w.heap.size w9 v9 (X ++ ((now.take k).filter fun f => !hasE old f).map sWr ++ [sWr ⟨p, t, bl, sz⟩]) ∧ Below w.heap.size w w9) := ⟨ho9, below_trans OW3.out.2.drew hb9⟩
        have OD : Hid (Below w.heap.size w w3.drew) := OW3.out.2.drew
        obtain ⟨wd, hwd⟩ : ∃ x, w3.drew = x := ⟨_, rfl⟩
        rw [hwd] at hr OD
        simp only [sWr] at hr
        clear ho9 hb9
        go_wp2_with fail
        refine wp_region_noPanic ?_
        refine wp_region_held_drew (S := fun W' => W'.cell? ⟨b, off + k * 4, none⟩ = some (.string (bs p)) ∧ W'.cell? ⟨b, off + k * 4 + 1, none⟩ = some (.string (bs t)) ∧ W'.cell? ⟨b, off + k * 4 + 2, none⟩ = some (.int .i64 bl) ∧ W'.cell? ⟨b, off + k * 4 + 3, none⟩ = some (.int .i64 sz)) (by kernel_rfl) (HE.out _ OW3.out.2.drew) (fun hHeld => ?_)
        rw [hwd] at hHeld ⊢
        clear hwd
        refine wpAnyH_take (i := 0) (oi := { dst := some 128, op := _, type := _, pos := _, after := _, guard := _ }) (v := ?vx1) rfl (by kernel_rfl) (by kernel_rfl) (by kernel_rfl) (fun _ _ _ h => h) (Or.inl ⟨by rfl, ?hyx1⟩) (by assumption) ?restx1
        case hyx1 => (intro w hSw; (try dsimp only at hSw); (try obtain ⟨hS1, hS2, hS3, hS4⟩ := hSw); go_simp; try with_reducible rfl)
        try simp only [Act.put, List.setIfInBounds_toArray, List.set_cons_zero, List.set_cons_succ]
        refine wpAnyH_take (i := 1) (oi := { dst := some 129, op := _, type := _, pos := _, after := _, guard := _ }) (v := ?vx2) rfl (by kernel_rfl) (by kernel_rfl) (by kernel_rfl) (fun _ _ _ h => h) (Or.inl ⟨by rfl, ?hyx2⟩) (by assumption) ?restx2
        case hyx2 => (intro w hSw; (try dsimp only at hSw); (try obtain ⟨hS1, hS2, hS3, hS4⟩ := hSw); go_simp; try with_reducible rfl)
        try simp only [Act.put, List.setIfInBounds_toArray, List.set_cons_zero, List.set_cons_succ]
        refine wpAnyH_take (i := 2) (oi := { dst := some 130, op := _, type := _, pos := _, after := _, guard := _ }) (v := ?vx3) rfl (by kernel_rfl) (by kernel_rfl) (by kernel_rfl) (fun _ _ _ h => h) (Or.inl ⟨by rfl, ?hyx3⟩) (by assumption) ?restx3
        case hyx3 => (intro w hSw; (try dsimp only at hSw); (try obtain ⟨hS1, hS2, hS3, hS4⟩ := hSw); go_simp; try with_reducible rfl)
        try simp only [Act.put, List.setIfInBounds_toArray, List.set_cons_zero, List.set_cons_succ]
        refine wpAnyH_take (i := 3) (oi := { dst := some 131, op := _, type := _, pos := _, after := _, guard := _ }) (v := ?vx4) rfl (by kernel_rfl) (by kernel_rfl) (by kernel_rfl) (fun _ _ _ h => h) (Or.inl ⟨by rfl, ?hyx4⟩) (by assumption) ?restx4
        case hyx4 => (intro w hSw; (try dsimp only at hSw); (try obtain ⟨hS1, hS2, hS3, hS4⟩ := hSw); go_simp; try with_reducible rfl)
        try simp only [Act.put, List.setIfInBounds_toArray, List.set_cons_zero, List.set_cons_succ]
        refine wpAnyH_take (i := 4) (oi := { dst := some 132, op := _, type := _, pos := _, after := _, guard := _ }) (v := ?vx5) rfl (by kernel_rfl) (by kernel_rfl) (by kernel_rfl) (fun _ _ _ h => h) (Or.inl ⟨by rfl, ?hyx5⟩) (by assumption) ?restx5
        case hyx5 => (intro w hSw; (try dsimp only at hSw); (try obtain ⟨hS1, hS2, hS3, hS4⟩ := hSw); go_simp; try with_reducible rfl)
        try simp only [Act.put, List.setIfInBounds_toArray, List.set_cons_zero, List.set_cons_succ]
        refine wpAnyH_take (i := 5) (oi := { dst := some 133, op := _, type := _, pos := _, after := _, guard := _ }) (v := ?vx6) rfl (by kernel_rfl) (by kernel_rfl) (by kernel_rfl) (fun _ _ _ h => h) (Or.inl ⟨by rfl, ?hyx6⟩) (by assumption) ?restx6
        case hyx6 => (intro w hSw; (try dsimp only at hSw); (try obtain ⟨hS1, hS2, hS3, hS4⟩ := hSw); go_simp; try with_reducible rfl)
        try simp only [Act.put, List.setIfInBounds_toArray, List.set_cons_zero, List.set_cons_succ]
        refine wpAnyH_take (i := 6) (oi := { dst := some 134, op := _, type := _, pos := _, after := _, guard := _ }) (v := ?vx7) rfl (by kernel_rfl) (by kernel_rfl) (by kernel_rfl) (fun _ _ _ h => h) (Or.inl ⟨by rfl, ?hyx7⟩) (by assumption) ?restx7
        case hyx7 => (intro w hSw; (try dsimp only at hSw); (try obtain ⟨hS1, hS2, hS3, hS4⟩ := hSw); go_simp; try with_reducible rfl)
        try simp only [Act.put, List.setIfInBounds_toArray, List.set_cons_zero, List.set_cons_succ]
        refine wpAnyH_take (i := 7) (oi := { dst := some 135, op := _, type := _, pos := _, after := _, guard := _ }) (v := ?vx8) rfl (by kernel_rfl) (by kernel_rfl) (by kernel_rfl) (fun _ _ _ h => h) (Or.inl ⟨by rfl, ?hyx8⟩) (by assumption) ?restx8
        case hyx8 => (intro w hSw; (try dsimp only at hSw); (try obtain ⟨hS1, hS2, hS3, hS4⟩ := hSw); go_simp; try with_reducible rfl)
        try simp only [Act.put, List.setIfInBounds_toArray, List.set_cons_zero, List.set_cons_succ]
        refine wpAnyH_take (i := 8) (oi := { dst := some 136, op := _, type := _, pos := _, after := _, guard := _ }) (v := ?vx9) rfl (by kernel_rfl) (by kernel_rfl) (by kernel_rfl) (fun _ _ _ h => h) (Or.inl ⟨by rfl, ?hyx9⟩) (by assumption) ?restx9
        case hyx9 => (intro w hSw; (try dsimp only at hSw); (try obtain ⟨hS1, hS2, hS3, hS4⟩ := hSw); go_simp; try with_reducible rfl)
        try simp only [Act.put, List.setIfInBounds_toArray, List.set_cons_zero, List.set_cons_succ]
        refine wpAnyH_take (i := 9) (oi := { dst := some 137, op := _, type := _, pos := _, after := _, guard := _ }) (v := ?vx10) rfl (by kernel_rfl) (by kernel_rfl) (by kernel_rfl) (fun _ _ _ h => h) (Or.inl ⟨by rfl, ?hyx10⟩) (by assumption) ?restx10
        case hyx10 => (intro w hSw; (try dsimp only at hSw); (try obtain ⟨hS1, hS2, hS3, hS4⟩ := hSw); go_simp; try with_reducible rfl)
        try simp only [Act.put, List.setIfInBounds_toArray, List.set_cons_zero, List.set_cons_succ]
        refine wpAnyH_take (i := 10) (oi := { dst := some 138, op := _, type := _, pos := _, after := _, guard := _ }) (v := ?vx11) rfl (by kernel_rfl) (by kernel_rfl) (by kernel_rfl) (fun _ _ _ h => h) (Or.inl ⟨by rfl, ?hyx11⟩) (by assumption) ?restx11
        case hyx11 => (intro w hSw; (try dsimp only at hSw); (try obtain ⟨hS1, hS2, hS3, hS4⟩ := hSw); go_simp; try with_reducible rfl)
        try simp only [Act.put, List.setIfInBounds_toArray, List.set_cons_zero, List.set_cons_succ]
        refine wpAnyH_ready (rs := [11]) (by kernel_rfl) (by simp) ?_
        refine AllReadyH.cons (o := { dst := some 139, op := _, type := _, pos := _, after := _, guard := _ }) rfl (fun K hK => ?_) AllReadyH.nil
        go_simp
        refine hK.out _ _ (HE.out _ (bstep OD.out (balloc _ _))) (fun hHeld => ?_)
        clear hK K
        try simp only [List.setIfInBounds_toArray, List.set_cons_zero, List.set_cons_succ]
        refine wpAnyH_ready (rs := [12]) (by kernel_rfl) (by simp) ?_
        refine AllReadyH.cons (o := { dst := some 140, op := _, type := _, pos := _, after := _, guard := _ }) rfl (fun K hK => ?_) AllReadyH.nil
        refine step_app_run rfl (.tmp 128) (.tmp 139) _ _ rfl _ _ rfl rfl hr ?_
        refine hK.out _ _ (HE.out _ O9.out.2) (fun hHeld => ?_)
        clear hK K
        try simp only [Act.put, List.setIfInBounds_toArray, List.set_cons_zero, List.set_cons_succ]
        refine wpAnyH_take (i := 13) (oi := { dst := some 7, op := _, type := _, pos := _, after := _, guard := _ }) (v := ?vx12) rfl (by kernel_rfl) (by kernel_rfl) (by kernel_rfl) (fun _ _ _ h => h) (Or.inl ⟨by rfl, ?hyx12⟩) (by assumption) ?restx12
        case hyx12 => (intro w hSw; (try dsimp only at hSw); (try obtain ⟨hS1, hS2, hS3, hS4⟩ := hSw); go_simp; try with_reducible rfl)
        try simp only [Act.put, List.setIfInBounds_toArray, List.set_cons_zero, List.set_cons_succ]
        refine wpAnyH_done (by kernel_rfl) ?_ _
        refine NoPanic.normal ?_
        clear hHeld hr
        go_wp2_with fail
        go_roundw
        case rel => exact ⟨k + 1, by omega, by go_num, by rw [HNX.out]; exact O9.out.1, O9.out.2⟩
        case measure => simp [intOf]; omega
      | some g =>
        obtain ⟨p', t', bl', sz'⟩ := g
        go_wp2_with fail
        refine HFI.out.mono ?_
        rintro e w1 ⟨rfl, hb1⟩
        simp only [fopt, Fl.val, Option.isSome_some]
        have OW1 : Hid (OwS w.heap.size w1 u7 (X ++ ((now.take k).filter fun f => !hasE old f).map sWr) ∧ Below w.heap.size w w1) := ⟨OW.out.1.later hb1, bstep OW.out.2 hb1⟩
        clear hb1 x0
        obtain ⟨wa, hwa⟩ : ∃ x, w1.alloc (.cells #[.string (bs p'), .string (bs t'), .int .i64 bl', .int .i64 sz'] 30) = x := ⟨_, rfl⟩
        obtain ⟨ga, hga⟩ : ∃ x, w1.heap.size = x := ⟨_, rfl⟩
        have RB : RBf wa ga ⟨p', t', bl', sz'⟩ := by rw [← hwa, ← hga]; exact RBf.new w1 ⟨p', t', bl', sz'⟩
        have BA : Hid (Below w1.heap.size w1 wa) := hwa ▸ balloc _ _
        have hba := BA.out.size
        have hbz := OW1.out.2.size
        have y0 : ∀ Y : GW wa, Y.it.cell? ⟨ga, 0, none⟩ = some (.string (bs p')) := fun Y => Y.cell RB.lt RB.cells.1
        have y1 : ∀ Y : GW wa, Y.it.cell? ⟨ga, 1, none⟩ = some (.string (bs t')) := fun Y => Y.cell RB.lt RB.cells.2.1
        have y2 : ∀ Y : GW wa, Y.it.cell? ⟨ga, 2, none⟩ = some (.int .i64 bl') := fun Y => Y.cell RB.lt RB.cells.2.2.1
        have y3 : ∀ Y : GW wa, Y.it.cell? ⟨ga, 3, none⟩ = some (.int .i64 sz') := fun Y => Y.cell RB.lt RB.cells.2.2.2.1
        have BWA : Hid (Below w.heap.size w wa) := bstep OW1.out.2 BA.out
        have v0 : ∀ Y : GW wa, Y.it.cell? ⟨b, off + k * 4, none⟩ = some (.string (bs p)) := fun Y => Y.cell (by show b < wa.heap.size; omega) ((BWA.out.cell (p := ⟨b, off + k * 4, none⟩) hbw).trans D0.out.1)
        have v1 : ∀ Y : GW wa, Y.it.cell? ⟨b, off + k * 4 + 1, none⟩ = some (.string (bs t)) := fun Y => Y.cell (by show b < wa.heap.size; omega) ((BWA.out.cell (p := ⟨b, off + k * 4 + 1, none⟩) hbw).trans D0.out.2.1)
        have v2 : ∀ Y : GW wa, Y.it.cell? ⟨b, off + k * 4 + 2, none⟩ = some (.int .i64 bl) := fun Y => Y.cell (by show b < wa.heap.size; omega) ((BWA.out.cell (p := ⟨b, off + k * 4 + 2, none⟩) hbw).trans D0.out.2.2.1)
        have v3 : ∀ Y : GW wa, Y.it.cell? ⟨b, off + k * 4 + 3, none⟩ = some (.int .i64 sz) := fun Y => Y.cell (by show b < wa.heap.size; omega) ((BWA.out.cell (p := ⟨b, off + k * 4 + 3, none⟩) hbw).trans D0.out.2.2.2)
        have yne := gw_ne wa
        have OWA : Hid (OwS w.heap.size wa u7 (X ++ ((now.take k).filter fun f => !hasE old f).map sWr)) := OW1.out.1.later BA.out
        go_wp2_with fail
        clear hwa hga RB
        refine wp_region_grow (by kernel_rfl) (by kernel_rfl) ?_
        repeat (go_big_quiet_step (fail))
        refine wpQuiet_nil ?_
        rintro w3 ⟨⟨w3, bx⟩, rfl⟩
        have OW3 : Hid (OwS w.heap.size w3 u7 (X ++ ((now.take k).filter fun f => !hasE old f).map sWr) ∧ Below w.heap.size w w3) := ⟨OWA.out.later bx, bstep BWA.out bx⟩
        clear bx yne y0 y1 y2 y3 v0 v1 v2 v3
        obtain ⟨x, hx⟩ : ∃ x, feq ⟨p', t', bl', sz'⟩ ⟨p, t, bl, sz⟩ = x := ⟨_, rfl⟩
        rw [hx]
        have HEF2 : Hid (hasE old ⟨p, t, bl, sz⟩ = x) := by have := HEF.out; simp only [hx] at this; exact this
        clear hx
        cases x with
        | true =>
          have HNX : Hid (X ++ ((now.take (k + 1)).filter fun f => !hasE old f).map sWr = X ++ ((now.take k).filter fun f => !hasE old f).map sWr) := by
            show _ = _
            rw [HTK.out, List.filter_append, List.map_append]
            have : hasE old ⟨p, t, bl, sz⟩ = true := HEF2.out
            simp [this]
          go_wp2_with fail
          go_roundw
          case rel => exact ⟨k + 1, by omega, by go_num, by rw [HNX.out]; exact OW3.out.1, OW3.out.2⟩
          case measure => simp [intOf]; omega
        | false =>
          have HNX : Hid (X ++ ((now.take (k + 1)).filter fun f => !hasE old f).map sWr = X ++ ((now.take k).filter fun f => !hasE old f).map sWr ++ [sWr ⟨p, t, bl, sz⟩]) := by
            show _ = _
            rw [HTK.out, List.filter_append, List.map_append, List.append_assoc]
            have : hasE old ⟨p, t, bl, sz⟩ = false := HEF2.out
            simp [this]
          have HE : Hid (∀ W', Below w.heap.size w W' → W'.cell? ⟨b, off + k * 4, none⟩ = some (.string (bs p)) ∧ W'.cell? ⟨b, off + k * 4 + 1, none⟩ = some (.string (bs t)) ∧ W'.cell? ⟨b, off + k * 4 + 2, none⟩ = some (.int .i64 bl) ∧ W'.cell? ⟨b, off + k * 4 + 3, none⟩ = some (.int .i64 sz)) := fun W' hb => ⟨(hb.cell (p := ⟨b, off + k * 4, none⟩) hbw).trans D0.out.1, (hb.cell (p := ⟨b, off + k * 4 + 1, none⟩) hbw).trans D0.out.2.1, (hb.cell (p := ⟨b, off + k * 4 + 2, none⟩) hbw).trans D0.out.2.2.1, (hb.cell (p := ⟨b, off + k * 4 + 3, none⟩) hbw).trans D0.out.2.2.2⟩
          obtain ⟨v9, w9, hr, ho9, hb9⟩ := arunS (sWr ⟨p, t, bl, sz⟩) (OW3.out.1.later (Below.refl _ _).drew) HL.out OW3.out.2.drew.size 23
          have O9 : Hid (OwS w.heap.size w9 v9 (X ++ ((now.take k).filter fun f => !hasE old f).map sWr ++ [sWr ⟨p, t, bl, sz⟩]) ∧ Below w.heap.size w w9) := ⟨ho9, below_trans OW3.out.2.drew hb9⟩
          have OD : Hid (Below w.heap.size w w3.drew) := OW3.out.2.drew
          obtain ⟨wd, hwd⟩ : ∃ x, w3.drew = x := ⟨_, rfl⟩
          rw [hwd] at hr OD
          simp only [sWr] at hr
          clear ho9 hb9
          go_wp2_with fail
          refine wp_region_noPanic ?_
          refine wp_region_held_drew (S := fun W' => W'.cell? ⟨b, off + k * 4, none⟩ = some (.string (bs p)) ∧ W'.cell? ⟨b, off + k * 4 + 1, none⟩ = some (.string (bs t)) ∧ W'.cell? ⟨b, off + k * 4 + 2, none⟩ = some (.int .i64 bl) ∧ W'.cell? ⟨b, off + k * 4 + 3, none⟩ = some (.int .i64 sz)) (by kernel_rfl) (HE.out _ OW3.out.2.drew) (fun hHeld => ?_)
          rw [hwd] at hHeld ⊢
          clear hwd
          refine wpAnyH_take (i := 0) (oi := { dst := some 128, op := _, type := _, pos := _, after := _, guard := _ }) (v := ?vx13) rfl (by kernel_rfl) (by kernel_rfl) (by kernel_rfl) (fun _ _ _ h => h) (Or.inl ⟨by rfl, ?hyx13⟩) (by assumption) ?restx13
          case hyx13 => (intro w hSw; (try dsimp only at hSw); (try obtain ⟨hS1, hS2, hS3, hS4⟩ := hSw); go_simp; try with_reducible rfl)
          try simp only [Act.put, List.setIfInBounds_toArray, List.set_cons_zero, List.set_cons_succ]
          refine wpAnyH_take (i := 1) (oi := { dst := some 129, op := _, type := _, pos := _, after := _, guard := _ }) (v := ?vx14) rfl (by kernel_rfl) (by kernel_rfl) (by kernel_rfl) (fun _ _ _ h => h) (Or.inl ⟨by rfl, ?hyx14⟩) (by assumption) ?restx14
          case hyx14 => (intro w hSw; (try dsimp only at hSw); (try obtain ⟨hS1, hS2, hS3, hS4⟩ := hSw); go_simp; try with_reducible rfl)
          try simp only [Act.put, List.setIfInBounds_toArray, List.set_cons_zero, List.set_cons_succ]
          refine wpAnyH_take (i := 2) (oi := { dst := some 130, op := _, type := _, pos := _, after := _, guard := _ }) (v := ?vx15) rfl (by kernel_rfl) (by kernel_rfl) (by kernel_rfl) (fun _ _ _ h => h) (Or.inl ⟨by rfl, ?hyx15⟩) (by assumption) ?restx15
          case hyx15 => (intro w hSw; (try dsimp only at hSw); (try obtain ⟨hS1, hS2, hS3, hS4⟩ := hSw); go_simp; try with_reducible rfl)
          try simp only [Act.put, List.setIfInBounds_toArray, List.set_cons_zero, List.set_cons_succ]
          refine wpAnyH_take (i := 3) (oi := { dst := some 131, op := _, type := _, pos := _, after := _, guard := _ }) (v := ?vx16) rfl (by kernel_rfl) (by kernel_rfl) (by kernel_rfl) (fun _ _ _ h => h) (Or.inl ⟨by rfl, ?hyx16⟩) (by assumption) ?restx16
          case hyx16 => (intro w hSw; (try dsimp only at hSw); (try obtain ⟨hS1, hS2, hS3, hS4⟩ := hSw); go_simp; try with_reducible rfl)
          try simp only [Act.put, List.setIfInBounds_toArray, List.set_cons_zero, List.set_cons_succ]
          refine wpAnyH_take (i := 4) (oi := { dst := some 132, op := _, type := _, pos := _, after := _, guard := _ }) (v := ?vx17) rfl (by kernel_rfl) (by kernel_rfl) (by kernel_rfl) (fun _ _ _ h => h) (Or.inl ⟨by rfl, ?hyx17⟩) (by assumption) ?restx17
          case hyx17 => (intro w hSw; (try dsimp only at hSw); (try obtain ⟨hS1, hS2, hS3, hS4⟩ := hSw); go_simp; try with_reducible rfl)
          try simp only [Act.put, List.setIfInBounds_toArray, List.set_cons_zero, List.set_cons_succ]
          refine wpAnyH_take (i := 5) (oi := { dst := some 133, op := _, type := _, pos := _, after := _, guard := _ }) (v := ?vx18) rfl (by kernel_rfl) (by kernel_rfl) (by kernel_rfl) (fun _ _ _ h => h) (Or.inl ⟨by rfl, ?hyx18⟩) (by assumption) ?restx18
          case hyx18 => (intro w hSw; (try dsimp only at hSw); (try obtain ⟨hS1, hS2, hS3, hS4⟩ := hSw); go_simp; try with_reducible rfl)
          try simp only [Act.put, List.setIfInBounds_toArray, List.set_cons_zero, List.set_cons_succ]
          refine wpAnyH_take (i := 6) (oi := { dst := some 134, op := _, type := _, pos := _, after := _, guard := _ }) (v := ?vx19) rfl (by kernel_rfl) (by kernel_rfl) (by kernel_rfl) (fun _ _ _ h => h) (Or.inl ⟨by rfl, ?hyx19⟩) (by assumption) ?restx19
          case hyx19 => (intro w hSw; (try dsimp only at hSw); (try obtain ⟨hS1, hS2, hS3, hS4⟩ := hSw); go_simp; try with_reducible rfl)
          try simp only [Act.put, List.setIfInBounds_toArray, List.set_cons_zero, List.set_cons_succ]
          refine wpAnyH_take (i := 7) (oi := { dst := some 135, op := _, type := _, pos := _, after := _, guard := _ }) (v := ?vx20) rfl (by kernel_rfl) (by kernel_rfl) (by kernel_rfl) (fun _ _ _ h => h) (Or.inl ⟨by rfl, ?hyx20⟩) (by assumption) ?restx20
          case hyx20 => (intro w hSw; (try dsimp only at hSw); (try obtain ⟨hS1, hS2, hS3, hS4⟩ := hSw); go_simp; try with_reducible rfl)
          try simp only [Act.put, List.setIfInBounds_toArray, List.set_cons_zero, List.set_cons_succ]
          refine wpAnyH_take (i := 8) (oi := { dst := some 136, op := _, type := _, pos := _, after := _, guard := _ }) (v := ?vx21) rfl (by kernel_rfl) (by kernel_rfl) (by kernel_rfl) (fun _ _ _ h => h) (Or.inl ⟨by rfl, ?hyx21⟩) (by assumption) ?restx21
          case hyx21 => (intro w hSw; (try dsimp only at hSw); (try obtain ⟨hS1, hS2, hS3, hS4⟩ := hSw); go_simp; try with_reducible rfl)
          try simp only [Act.put, List.setIfInBounds_toArray, List.set_cons_zero, List.set_cons_succ]
          refine wpAnyH_take (i := 9) (oi := { dst := some 137, op := _, type := _, pos := _, after := _, guard := _ }) (v := ?vx22) rfl (by kernel_rfl) (by kernel_rfl) (by kernel_rfl) (fun _ _ _ h => h) (Or.inl ⟨by rfl, ?hyx22⟩) (by assumption) ?restx22
          case hyx22 => (intro w hSw; (try dsimp only at hSw); (try obtain ⟨hS1, hS2, hS3, hS4⟩ := hSw); go_simp; try with_reducible rfl)
          try simp only [Act.put, List.setIfInBounds_toArray, List.set_cons_zero, List.set_cons_succ]
          refine wpAnyH_take (i := 10) (oi := { dst := some 138, op := _, type := _, pos := _, after := _, guard := _ }) (v := ?vx23) rfl (by kernel_rfl) (by kernel_rfl) (by kernel_rfl) (fun _ _ _ h => h) (Or.inl ⟨by rfl, ?hyx23⟩) (by assumption) ?restx23
          case hyx23 => (intro w hSw; (try dsimp only at hSw); (try obtain ⟨hS1, hS2, hS3, hS4⟩ := hSw); go_simp; try with_reducible rfl)
          try simp only [Act.put, List.setIfInBounds_toArray, List.set_cons_zero, List.set_cons_succ]
          refine wpAnyH_ready (rs := [11]) (by kernel_rfl) (by simp) ?_
          refine AllReadyH.cons (o := { dst := some 139, op := _, type := _, pos := _, after := _, guard := _ }) rfl (fun K hK => ?_) AllReadyH.nil
          go_simp
          refine hK.out _ _ (HE.out _ (bstep OD.out (balloc _ _))) (fun hHeld => ?_)
          clear hK K
          try simp only [List.setIfInBounds_toArray, List.set_cons_zero, List.set_cons_succ]
          refine wpAnyH_ready (rs := [12]) (by kernel_rfl) (by simp) ?_
          refine AllReadyH.cons (o := { dst := some 140, op := _, type := _, pos := _, after := _, guard := _ }) rfl (fun K hK => ?_) AllReadyH.nil
          refine step_app_run rfl (.tmp 128) (.tmp 139) _ _ rfl _ _ rfl rfl hr ?_
          refine hK.out _ _ (HE.out _ O9.out.2) (fun hHeld => ?_)
          clear hK K
          try simp only [Act.put, List.setIfInBounds_toArray, List.set_cons_zero, List.set_cons_succ]
          refine wpAnyH_take (i := 13) (oi := { dst := some 7, op := _, type := _, pos := _, after := _, guard := _ }) (v := ?vx24) rfl (by kernel_rfl) (by kernel_rfl) (by kernel_rfl) (fun _ _ _ h => h) (Or.inl ⟨by rfl, ?hyx24⟩) (by assumption) ?restx24
          case hyx24 => (intro w hSw; (try dsimp only at hSw); (try obtain ⟨hS1, hS2, hS3, hS4⟩ := hSw); go_simp; try with_reducible rfl)
          try simp only [Act.put, List.setIfInBounds_toArray, List.set_cons_zero, List.set_cons_succ]
          refine wpAnyH_done (by kernel_rfl) ?_ _
          refine NoPanic.normal ?_
          clear hHeld hr
          go_wp2_with fail
          go_roundw
          case rel => exact ⟨k + 1, by omega, by go_num, by rw [HNX.out]; exact O9.out.1, O9.out.2⟩
          case measure => simp [intOf]; omega
    · obtain rfl : k = nn := by omega
      have HE : Hid (OwS w.heap.size wr u7 R ∧ Below w.heap.size w wr) := by
        refine ⟨?_, OW.out.2⟩
        have := OW.out.1
        rw [List.take_of_length_le (by have := HF.out.2.2.2; omega)] at this
        rw [← HR.out]
        exact this
      clear OW
      go_wp2_with fail
      refine bodyPost_ret (results_tmp2 rfl _ _ _) rfl ?_
      exact ⟨_, rfl, HE.out.1, HE.out.2⟩
end Go.Proofs.YtfdcfcalbongeaaGreat
