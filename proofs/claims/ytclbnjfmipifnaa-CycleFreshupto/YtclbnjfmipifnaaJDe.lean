/-
  The document's Node.
  Two edges held against each other.
  The document's Edge.
-/
import Derived.Test.YtclbnjfmipifnaaEw
namespace Go.Proofs.Ytclbnjfmipifnaa
open Go.RowKit Go.Maps

theorem wide_size (w : World) (p : Addr) (v : Value) : (w.setCell p v).heap.size = w.heap.size := by simp [World.setCell]
section
variable {w w3 w4 : World} {F : Nat → Prop} {d : Nat} {N : List Lb} {E : List Ee}
theorem DG.setN (h : DG w F d N E) (hb : Below w.heap.size w w4) {nv v' : Value} {N' : List Lb} (hnv : w.cell? ⟨d, 0, none⟩ = some nv) (ho : OwnL 0 w3 v' N') (hon : Only (bl nv) w4 w3) (hkk : v'.ownBlock = nv.ownBlock ∨ ∃ k, v'.ownBlock = some k ∧ w.heap.size ≤ k)
    (nd : N'.Nodup) (hs : ∀ a ∈ N, a ∈ N') (lu : ∀ a ∈ N', Lu a) (nz : N'.length ≤ 1000000) : w3.cell? ⟨d, 0, none⟩ = some nv ∧ w3.frozen? ⟨d, 0, none⟩ = false ∧ DG (w3.setCell ⟨d, 0, none⟩ v') (nw F w (w3.setCell ⟨d, 0, none⟩ v')) d N' E ∧ OnlyP F w (w3.setCell ⟨d, 0, none⟩ v') := by
  have hdl := h.dlt
  obtain ⟨⟨nv0, ev, h1, h2, h3, h4, h5⟩, own, lt, r1, r2, r3, r4, r5, r6⟩ := h
  have e0 : nv0 = nv := by simpa [World.cell?, h1] using hnv
  subst e0
  have hbl : ∀ k ∈ bl nv0, nv0.ownBlock = some k := fun k hk => by unfold bl at hk; simpa using hk
  have hnd : ∀ k, nv0.ownBlock = some k → k ≠ d := by
    rintro k hk rfl
    obtain ⟨cs, fr, e⟩ := h2.blk hk
    rw [h1] at e
    injection e with e; injection e with _ e _; exact absurd e (by decide)
  have hd3 : w3.heap[d]? = some (.cells #[nv0, ev] 43 (0, 0)) := (hon.block d (Nat.lt_of_lt_of_le hdl hb.size) (fun hm => hnd d (hbl d hm) rfl)).trans ((hb.block d hdl).trans h1)
  have hvd : ∀ k, v'.ownBlock = some k → k ≠ d := by
    rintro k hk rfl
    obtain ⟨cs, fr, e⟩ := ho.blk hk
    rw [hd3] at e
    injection e with e; injection e with _ e _; exact absurd e (by decide)
  have hse := Only.set w3 d 0 v'
  have hes : ∀ k, ev.ownBlock = some k → (w3.setCell ⟨d, 0, none⟩ v').heap[k]? = w.heap[k]? := by
    intro k hk
    obtain ⟨cs, fr, e⟩ := h3.blk hk
    have hkl := (h3.lt hk).2
    have n1 : k ≠ d := by
      rintro rfl
      rw [h1] at e
      injection e with e; injection e with _ e _; exact absurd e (by decide)
    have n2 : k ∉ bl nv0 := by
      intro hm
      obtain ⟨cs', fr', e'⟩ := h2.blk (hbl k hm)
      rw [e] at e'
      injection e' with e'; injection e' with _ e' _; exact absurd e' (by decide)
    have hk4 := Nat.lt_of_lt_of_le hkl hb.size
    exact (hse.block k (Nat.lt_of_lt_of_le hk4 hon.size) (by simpa using n1)).trans ((hon.block k hk4 n2).trans (hb.block k hkl))
  have hsz : w.heap.size ≤ (w3.setCell ⟨d, 0, none⟩ v').heap.size := by rw [wide_size]; exact Nat.le_trans hb.size hon.size
  refine ⟨by simp [World.cell?, hd3], by simp [World.frozen?, hd3], ⟨⟨v', ev, ?_, ho.only hse (fun k hk e => hvd k hk (by simpa using e)), h3.stay hes, fun k hk => ?_, fun k hk => .inl (h5 k hk)⟩, .inl own, ?_, nd, r2, fun e he => ⟨hs _ (r3 e he).1, hs _ (r3 e he).2⟩, lu, nz, r6⟩, ?_⟩
  · rw [heap_setCell _ _ _ _ hd3]; simp
  · have hl := (ho.lt hk).2
    rcases hkk with e | ⟨j, e, hj⟩
    · exact .inl (h4 k (e ▸ hk))
    · rw [hk] at e
      injection e with e
      subst e
      exact .inr ⟨hj, by rw [wide_size]; exact hl⟩
  · rintro k (hk | ⟨_, hk⟩)
    · exact Nat.lt_of_lt_of_le (lt k hk) hsz
    · exact hk
  · refine ((OnlyP.of_below hb F).trans (OnlyP.of_only (F := F) hon (fun k hk _ => h4 k (hbl k hk))) (fun _ _ e => e)).trans (OnlyP.of_only (F := F) hse (fun k hk _ => ?_)) (fun _ _ e => e)
    have : k = d := by simpa using hk
    rw [this]; exact own
theorem DG.nodeX (h : DG w F d N E) (hb : Below w.heap.size w w4) {o : Obj} {nv v' : Value} {a : Lb} (hnv : w.cell? ⟨d, 0, none⟩ = some nv) (ho : OwnL 0 w3 v' (N ++ [a])) (hg : (w4.alloc o).drew.grownBy w3 nv.ownBlock) (hl : v'.ownBlock = nv.ownBlock ∨ v'.ownBlock = some (w4.alloc o).drew.heap.size)
    (nd : (N ++ [a]).Nodup) (lu : Lu a) (nz : N.length + 1 ≤ 1000000) : w3.cell? ⟨d, 0, none⟩ = some nv ∧ w3.frozen? ⟨d, 0, none⟩ = false ∧ Hid (DG (w3.setCell ⟨d, 0, none⟩ v') (nw F w (w3.setCell ⟨d, 0, none⟩ v')) d (N ++ [a]) E ∧ OnlyP F w (w3.setCell ⟨d, 0, none⟩ v')) := by
  have hb2 := bstep hb (balloc w4 o).drew
  obtain ⟨z1, z2, z3, z4⟩ := h.setN hb2 hnv ho (only_grown hg) (by
    rcases hl with hl | hl
    · exact .inl hl
    · exact .inr ⟨_, hl, hb2.size⟩) nd (fun x hx => List.mem_append.2 (.inl hx)) (fun x hx => by
    rcases List.mem_append.1 hx with hx | hx
    · exact h.lu x hx
    · have e : x = a := by simpa using hx
      rw [e]; exact lu) (by simpa using nz)
  exact ⟨z1, z2, z3, z4⟩
end

set_option maxRecDepth 100000 in
set_option maxHeartbeats 4000000 in
theorem dnode_any {w : World} {F : Nat → Prop} {d : Nat} {N : List Lb} {E : List Ee} (h : DG w F d N E) (a : Lb) (ha : Lu a) (hz : N.length + 1 ≤ 1000000) :
    Calls Try.prog 27 #[.pointer (some ⟨d, 0, none⟩), a.val] w fun e w' => e = .returned (.tuple #[]) ∧ DG w' (nw F w w') d (addN N a) E ∧ OnlyP F w w' := by
  obtain ⟨an, cn, ae, ce, c0, _, f0, _, hoN, _⟩ := h.rows
  have H : Hid (DG w F d N E ∧ N.length + 1 ≤ 1000000 ∧ Lu a ∧ OwnL 0 w (.slice an N.length cn) N ∧ w.cell? ⟨d, 0, none⟩ = some (.slice an N.length cn) ∧ d < w.heap.size) := ⟨h, hz, ha, hoN, c0, h.dlt⟩
  have HC : Hid (∀ W, Below w.heap.size w W → Calls Try.prog 12 #[.slice an N.length cn, a.val] W fun e w' => e = .returned (.bool (decide (a ∈ N))) ∧ Below W.heap.size W w') := fun W hb => in_any (hoN.rs.later hb) (by omega) a
  obtain ⟨wA, hwA⟩ : ∃ wA, w.alloc (.cells #[.string (bs a.pkg), .string (bs a.name)] 35) = wA := ⟨_, rfl⟩
  have HA : Hid (Below w.heap.size w wA ∧ RB wA w.heap.size a) := by rw [← hwA]; exact ⟨balloc _ _, RB.new w a⟩
  clear h ha hz hoN c0 f0
  obtain ⟨nl, hnl⟩ : ∃ nl, N.length = nl := ⟨_, rfl⟩
  rw [hnl] at H HC
  have HN : Hid (N.length = nl) := hnl
  clear hnl
  have g0 : ∀ Y : GW wA, Y.it.cell? ⟨d, 0, none⟩ = some (.slice an nl cn) := fun Y => Y.cell (Nat.lt_of_lt_of_le H.out.2.2.2.2.2 HA.out.1.size) ((HA.out.1.cell (p := ⟨d, 0, none⟩) H.out.2.2.2.2.2).trans H.out.2.2.2.2.1)
  obtain ⟨b0, b1, _, _⟩ := HA.out.2.cells
  have x0 : ∀ Y : GW wA, Y.it.cell? ⟨w.heap.size, 0, none⟩ = some (.string (bs a.pkg)) := fun Y => Y.cell HA.out.2.lt b0
  have x1 : ∀ Y : GW wA, Y.it.cell? ⟨w.heap.size, 1, none⟩ = some (.string (bs a.name)) := fun Y => Y.cell HA.out.2.lt b1
  have xne := gw_ne wA
  have k0 : Hid (∀ Y : GW wA, Calls Try.prog 12 #[.slice an nl cn, a.val] Y.it fun e w' => e = .returned (.bool (decide (a ∈ N))) ∧ ∃ X : GW wA, w' = X.it) := fun Y => (HC.out Y.it (bstep HA.out.1 Y.below)).mono fun _ w' ⟨he, hl⟩ => ⟨he, ⟨w', bstep Y.below hl⟩, rfl⟩
  clear b0 b1
  obtain ⟨p, n⟩ := a
  simp only [Lb.val] at *
  go_enter Try.func27, Try.ntmps27
  by_cases hm : (⟨p, n⟩ : Lb) ∈ N
  · have e1 : decide ((⟨p, n⟩ : Lb) ∈ N) = true := by simpa using hm
    rw [e1] at k0
    have HE : Hid (addN N ⟨p, n⟩ = N) := by show addN _ _ = _; unfold addN; rw [if_pos hm]
    clear hm e1
    go_wp2_with fail
    refine wp_region_grow (by kernel_rfl) (by kernel_rfl) ?_
    repeat (go_big_quiet_step (with_reducible exact k0.out _))
    refine wpQuiet_nil ?_
    rintro w4 ⟨⟨w4, bx⟩, rfl⟩
    have HB4 : Hid (Below w.heap.size w w4) := bstep HA.out.1 bx
    clear bx g0 x0 x1 xne k0
    go_wp2_with fail
    go_end0
    refine ⟨rfl, ?_, OnlyP.of_below HB4.out F⟩
    rw [HE.out]
    have h4 := H.out.1.later HB4.out
    exact h4.wider (fun k hk => .inl hk) (fun k hk => by
      rcases hk with hk | hk
      · exact h4.lt k hk
      · exact hk.2)
  · have e1 : decide ((⟨p, n⟩ : Lb) ∈ N) = false := by simpa using hm
    rw [e1] at k0
    have HH : Hid (N.length + 1 ≤ 1000000) := by show N.length + 1 ≤ 1000000; rw [HN.out]; exact H.out.2.1
    have HE : Hid (addN N ⟨p, n⟩ = N ++ [⟨p, n⟩] ∧ (N ++ [(⟨p, n⟩ : Lb)]).Nodup) := by
      have h1 : addN N ⟨p, n⟩ = N ++ [⟨p, n⟩] := by unfold addN; rw [if_neg hm]
      exact ⟨h1, by rw [← h1]; exact addN_nd H.out.1.nd⟩
    clear hm e1
    go_wp2_with fail
    refine wp_region_grow (by kernel_rfl) (by kernel_rfl) ?_
    repeat (go_big_quiet_step (with_reducible exact k0.out _))
    refine wpQuiet_nil ?_
    rintro w4 ⟨⟨w4, bx⟩, rfl⟩
    have HB4 : Hid (Below w.heap.size w w4) := bstep HA.out.1 bx
    have h4 := (HB4.out.cell (p := ⟨d, 0, none⟩) H.out.2.2.2.2.2).trans H.out.2.2.2.2.1
    obtain ⟨b0, b1, _, _⟩ := (HA.out.2.later bx).cells
    simp only at b0 b1
    have h4' := cell_alloc (.cells #[.string (bs p), .string (bs n)] 35) (Nat.lt_of_lt_of_le H.out.2.2.2.2.2 HB4.out.size) h4
    have HO4 : Hid (OwnL 0 w4 (.slice an nl cn) N) := H.out.2.2.2.1.later HB4.out
    clear bx g0 x0 x1 xne k0
    go_wp2_with fail
    go_region_law (refine step_app_L und_L rfl (.tmp 15) (.tmp 17) rfl 0 N [⟨p, n⟩] (.slice an nl cn) _ rfl rfl (own_d HO4.out _) (src_Ld und_L w4 ⟨p, n⟩) (by have := H.out.2.1; have := HN.out; simp; omega) (Nat.zero_le _) ?_; intro v' w3 ho3 hg3 hl3; obtain ⟨z1, z2, HZ⟩ := DG.nodeX H.out.1 HB4.out H.out.2.2.2.2.1 ho3 hg3 hl3 HE.out.2 H.out.2.2.1 HH.out; clear hl3 hg3; obtain ⟨av', cv', hvv'⟩ := ho3.form; subst hvv'; clear ho3)
    all_goals (go_wp2_with fail; go_end0)
    all_goals exact ⟨rfl, by rw [HE.out.1]; simpa using HZ.out.1, by simpa using HZ.out.2⟩
end Go.Proofs.Ytclbnjfmipifnaa

namespace Go.Proofs.Ytclbnjfmipifnaa
open Go.RowKit Go.Maps

theorem equal_at (d : Nat) (w : World) (p t p' t' : List UInt8) :
    (Op.equalIn (d + 2) 35 (.agg #[.string (bs p), .string (bs t)]) (.agg #[.string (bs p'), .string (bs t')])).run Try.prog w = .ok (decide ((⟨p, t⟩ : Lb) = ⟨p', t'⟩)) w := by
  rw [run_equalIn_struct w (d + 1) 35 _ _ st23 held23]
  have h := flds23
  revert h
  generalize (Try.prog.fieldsOf 35).toList = L
  intro h
  have hl : L.length = 2 := by have := congrArg List.length h; simpa using this
  obtain ⟨f0, f1, rfl⟩ : ∃ f0 f1, L = [f0, f1] := by
    rcases L with _ | ⟨f0, _ | ⟨f1, _ | ⟨f2, r⟩⟩⟩
    · simp at hl
    · simp at hl
    · exact ⟨f0, f1, rfl⟩
    · simp at hl
  · simp only [List.map_cons, List.map_nil, List.cons.injEq, Prod.mk.injEq, and_true] at h
    obtain ⟨⟨n0, t0, o0⟩, ⟨n1, t1, o1⟩⟩ := h
    have e9 : ∀ (a c : List UInt8) (w : World), (Op.equalIn (d + 1) 9 (.string (bs a)) (.string (bs c))).run Try.prog w = .ok (a == c) w := fun a c w => by
      have := run_equalIn_string (P := Try.prog) w d 9 (bs a) (bs c) u9
      rw [bs_toList, bs_toList] at this; exact this
    simp only [Op.eqFields, n0, n1, t0, t1, o0, o1]
    have g0 : ("Pkg" : String) ≠ "_" := by decide
    have g1 : ("Name" : String) ≠ "_" := by decide
    simp only [g0, g1, ne_eq, not_false_eq_true, if_true, part, Sem.run_bind, agg9, Result.andThen_ok, Bool.false_eq_true, if_false]
    simp [e9]
    by_cases hp : p = p' <;> by_cases ht : t = t' <;> simp [hp, ht]
theorem st82 : Try.prog.underlying 66 = some (.struct (Try.prog.fieldsOf 66)) := by kernel_rfl
theorem held82 : Try.prog.stoodInHeld 66 = false := by kernel_rfl
theorem guard82 : Try.prog.eqGuardType Try.prog.depth 66 = false := by kernel_rfl
theorem flds82 : (Try.prog.fieldsOf 66).toList.map (fun f => (f.name, f.type, f.offset)) = [("A", 35, 0), ("B", 35, 2)] := by kernel_rfl
/-- an edge as it is held -/
def Ev (e : Ee) : Value := .agg #[.string (bs e.1.pkg), .string (bs e.1.name), .string (bs e.2.pkg), .string (bs e.2.name)]
theorem equal_e (w : World) (a b a' b' : Lb) :
    (Op.equalIn 10000 66 (Ev (a, b)) (Ev (a', b'))).run Try.prog w = .ok (decide (((a, b) : Ee) = (a', b'))) w := by
  unfold Ev
  rw [run_equalIn_struct w 9999 66 _ _ st82 held82]
  have h := flds82
  revert h
  generalize (Try.prog.fieldsOf 66).toList = L
  intro h
  have hl : L.length = 2 := by have := congrArg List.length h; simpa using this
  obtain ⟨f0, f1, rfl⟩ : ∃ f0 f1, L = [f0, f1] := by
    rcases L with _ | ⟨f0, _ | ⟨f1, _ | ⟨f2, r⟩⟩⟩
    · simp at hl
    · simp at hl
    · exact ⟨f0, f1, rfl⟩
    · simp at hl
  · simp only [List.map_cons, List.map_nil, List.cons.injEq, Prod.mk.injEq, and_true] at h
    obtain ⟨⟨n0, t0, o0⟩, ⟨n1, t1, o1⟩⟩ := h
    have e31 : ∀ (a c : Lb) (w : World), (Op.equalIn 9999 35 (.agg #[.string (bs a.pkg), .string (bs a.name)]) (.agg #[.string (bs c.pkg), .string (bs c.name)])).run Try.prog w = .ok (decide (a = c)) w := fun a c w => equal_at 9997 w a.pkg a.name c.pkg c.name
    have h31 := Try.isAgg35
    have s31 := Try.sizeOf35
    simp only [Op.eqFields, n0, n1, t0, t1, o0, o1]
    have g0 : ("A" : String) ≠ "_" := by decide
    have g1 : ("B" : String) ≠ "_" := by decide
    simp [g0, g1, part, h31, s31, e31]
    by_cases hp : a = a' <;> by_cases ht : b = b' <;> simp [hp, ht]
def eeq (a b : Ee) : Bool := decide (a = b)
theorem eql_e (w : World) (a b a' b' : Lb) : (binOp .eql 66 (.agg #[.string (bs a.pkg), .string (bs a.name), .string (bs b.pkg), .string (bs b.name)]) (.agg #[.string (bs a'.pkg), .string (bs a'.name), .string (bs b'.pkg), .string (bs b'.name)])).run Try.prog w = .ok (.bool (eeq (a, b) (a', b'))) w := by
  rw [run_eql_struct]
  have := equal_e w a b a' b'
  unfold Ev at this
  rw [this]; rfl
theorem guard_e (w : World) (op : BinOp) (x y : Operand) (xs ys : Array Value) : (eqGuard op 66 x y (.agg xs) (.agg ys)).run Try.prog w = .ok () w := run_eqGuard_agg w op 66 x y xs ys guard82
end Go.Proofs.Ytclbnjfmipifnaa

namespace Go.Proofs.Ytclbnjfmipifnaa
open Go.RowKit Go.Maps

def addE (E : List Ee) (e : Ee) : List Ee := if e ∈ E then E else E ++ [e]
section
variable {w w3 w4 : World} {F : Nat → Prop} {d : Nat} {N : List Lb} {E : List Ee}
theorem DG.setE (h : DG w F d N E) (hb : Below w.heap.size w w4) {ev v' : Value} {E' : List Ee} (hev : w.cell? ⟨d, 1, none⟩ = some ev) (ho : OwnE 0 w3 v' E') (hon : Only (bl ev) w4 w3) (hkk : v'.ownBlock = ev.ownBlock ∨ ∃ k, v'.ownBlock = some k ∧ w.heap.size ≤ k)
    (nd : E'.Nodup) (hs : ∀ e ∈ E', e.1 ∈ N ∧ e.2 ∈ N) (nz : E'.length ≤ 1000000) : w3.cell? ⟨d, 1, none⟩ = some ev ∧ w3.frozen? ⟨d, 1, none⟩ = false ∧ DG (w3.setCell ⟨d, 1, none⟩ v') (nw F w (w3.setCell ⟨d, 1, none⟩ v')) d N E' ∧ OnlyP F w (w3.setCell ⟨d, 1, none⟩ v') := by
  have hdl := h.dlt
  obtain ⟨⟨nv, ev0, h1, h2, h3, h4, h5⟩, own, lt, r1, r2, r3, r4, r5, r6⟩ := h
  have e0 : ev0 = ev := by simpa [World.cell?, h1] using hev
  subst e0
  have hbl : ∀ k ∈ bl ev0, ev0.ownBlock = some k := fun k hk => by unfold bl at hk; simpa using hk
  have hnd : ∀ k, ev0.ownBlock = some k → k ≠ d := by
    rintro k hk rfl
    obtain ⟨cs, fr, e⟩ := h3.blk hk
    rw [h1] at e
    injection e with e; injection e with _ e _; exact absurd e (by decide)
  have hd3 : w3.heap[d]? = some (.cells #[nv, ev0] 43 (0, 0)) := (hon.block d (Nat.lt_of_lt_of_le hdl hb.size) (fun hm => hnd d (hbl d hm) rfl)).trans ((hb.block d hdl).trans h1)
  have hvd : ∀ k, v'.ownBlock = some k → k ≠ d := by
    rintro k hk rfl
    obtain ⟨cs, fr, e⟩ := ho.blk hk
    rw [hd3] at e
    injection e with e; injection e with _ e _; exact absurd e (by decide)
  have hse := Only.set w3 d 1 v'
  have hes : ∀ k, nv.ownBlock = some k → (w3.setCell ⟨d, 1, none⟩ v').heap[k]? = w.heap[k]? := by
    intro k hk
    obtain ⟨cs, fr, e⟩ := h2.blk hk
    have hkl := (h2.lt hk).2
    have n1 : k ≠ d := by
      rintro rfl
      rw [h1] at e
      injection e with e; injection e with _ e _; exact absurd e (by decide)
    have n2 : k ∉ bl ev0 := by
      intro hm
      obtain ⟨cs', fr', e'⟩ := h3.blk (hbl k hm)
      rw [e] at e'
      injection e' with e'; injection e' with _ e' _; exact absurd e' (by decide)
    have hk4 := Nat.lt_of_lt_of_le hkl hb.size
    exact (hse.block k (Nat.lt_of_lt_of_le hk4 hon.size) (by simpa using n1)).trans ((hon.block k hk4 n2).trans (hb.block k hkl))
  have hsz : w.heap.size ≤ (w3.setCell ⟨d, 1, none⟩ v').heap.size := by rw [wide_size]; exact Nat.le_trans hb.size hon.size
  refine ⟨by simp [World.cell?, hd3], by simp [World.frozen?, hd3], ⟨⟨nv, v', ?_, h2.stay hes, ho.stay (fun k hk => hse.block k (ho.lt hk).2 (by simpa using hvd k hk)), fun k hk => .inl (h4 k hk), fun k hk => ?_⟩, .inl own, ?_, r1, nd, hs, r4, r5, nz⟩, ?_⟩
  · rw [heap_setCell _ _ _ _ hd3]; simp
  · have hl := (ho.lt hk).2
    rcases hkk with e | ⟨j, e, hj⟩
    · exact .inl (h5 k (e ▸ hk))
    · rw [hk] at e
      injection e with e
      subst e
      exact .inr ⟨hj, by rw [wide_size]; exact hl⟩
  · rintro k (hk | ⟨_, hk⟩)
    · exact Nat.lt_of_lt_of_le (lt k hk) hsz
    · exact hk
  · refine ((OnlyP.of_below hb F).trans (OnlyP.of_only (F := F) hon (fun k hk _ => h5 k (hbl k hk))) (fun _ _ e => e)).trans (OnlyP.of_only (F := F) hse (fun k hk _ => ?_)) (fun _ _ e => e)
    have : k = d := by simpa using hk
    rw [this]; exact own
theorem DG.edgeX (h : DG w F d N E) (hb : Below w.heap.size w w4) {o : Obj} {ev v' : Value} {a : Ee} (hev : w.cell? ⟨d, 1, none⟩ = some ev) (ho : OwnE 0 w3 v' (E ++ [a])) (hg : (w4.alloc o).drew.grownBy w3 ev.ownBlock) (hl : v'.ownBlock = ev.ownBlock ∨ v'.ownBlock = some (w4.alloc o).drew.heap.size)
    (nd : (E ++ [a]).Nodup) (hn : a.1 ∈ N ∧ a.2 ∈ N) (nz : E.length + 1 ≤ 1000000) : w3.cell? ⟨d, 1, none⟩ = some ev ∧ w3.frozen? ⟨d, 1, none⟩ = false ∧ Hid (DG (w3.setCell ⟨d, 1, none⟩ v') (nw F w (w3.setCell ⟨d, 1, none⟩ v')) d N (E ++ [a]) ∧ OnlyP F w (w3.setCell ⟨d, 1, none⟩ v')) := by
  have hb2 := bstep hb (balloc w4 o).drew
  obtain ⟨z1, z2, z3, z4⟩ := h.setE hb2 hev ho (only_grown hg) (by
    rcases hl with hl | hl
    · exact .inl hl
    · exact .inr ⟨_, hl, hb2.size⟩) nd (fun x hx => by
    rcases List.mem_append.1 hx with hx | hx
    · exact h.sub x hx
    · have e : x = a := by simpa using hx
      rw [e]; exact hn) (by simpa using nz)
  exact ⟨z1, z2, z3, z4⟩
theorem DG.nw_nw {w2 : World} (h : DG w3 (nw (nw F w w2) w2 w3) d N E) (h1 : w.heap.size ≤ w2.heap.size) (h2 : w2.heap.size ≤ w3.heap.size) : DG w3 (nw F w w3) d N E := by
  have hl := h.lt
  refine h.wider ?_ ?_
  · rintro k ((h | h) | h)
    · exact .inl h
    · exact .inr ⟨h.1, by omega⟩
    · exact .inr ⟨by omega, h.2⟩
  · rintro k (h | h)
    · exact hl k (.inl (.inl h))
    · exact h.2
end
end Go.Proofs.Ytclbnjfmipifnaa
