/-
  Two edges held against each other.
  The document's Edge.
-/
import Derived.Test.YtjohhmfncemknaaDn
namespace Go.Proofs.Ytjohhmfncemknaa
open Go.RowKit Go.Maps

theorem equal_at (d : Nat) (w : World) (p t p' t' : List UInt8) :
    (Op.equalIn (d + 2) 31 (.agg #[.string (bs p), .string (bs t)]) (.agg #[.string (bs p'), .string (bs t')])).run Try.prog w = .ok (decide ((⟨p, t⟩ : Lb) = ⟨p', t'⟩)) w := by
  rw [run_equalIn_struct w (d + 1) 31 _ _ st23 held23]
  have h := flds23
  revert h
  generalize (Try.prog.fieldsOf 31).toList = L
  intro h
  have hl : L.length = 2 := by have := congrArg List.length h; simpa using this
  obtain ⟨f0, f1, rfl⟩ : ∃ f0 f1, L = [f0, f1] := by
    rcases L with _ | ⟨f0, _ | ⟨f1, _ | ⟨f2, r⟩⟩⟩
    · simp at hl
    · simp at hl
    · exact ⟨f0, f1, rfl⟩
    · simp at hl
  · simp only [List.map_cons, List.map_nil, List.cons.injEq, Prod.mk.injEq, and_true] at h
    obtain ⟨⟨n0, t0, o0⟩, ⟨n1, t1, o1⟩⟩ := h
    have e9 : ∀ (a c : List UInt8) (w : World), (Op.equalIn (d + 1) 9 (.string (bs a)) (.string (bs c))).run Try.prog w = .ok (a == c) w := fun a c w => by
      have := run_equalIn_string (P := Try.prog) w d 9 (bs a) (bs c) u9
      rw [bs_toList, bs_toList] at this; exact this
    simp only [Op.eqFields, n0, n1, t0, t1, o0, o1]
    have g0 : ("Pkg" : String) ≠ "_" := by decide
    have g1 : ("Name" : String) ≠ "_" := by decide
    simp only [g0, g1, ne_eq, not_false_eq_true, if_true, part, Sem.run_bind, agg9, Result.andThen_ok, Bool.false_eq_true, if_false]
    simp [e9]
    by_cases hp : p = p' <;> by_cases ht : t = t' <;> simp [hp, ht]
theorem st82 : Try.prog.underlying 82 = some (.struct (Try.prog.fieldsOf 82)) := by kernel_rfl
theorem held82 : Try.prog.stoodInHeld 82 = false := by kernel_rfl
theorem guard82 : Try.prog.eqGuardType Try.prog.depth 82 = false := by kernel_rfl
theorem flds82 : (Try.prog.fieldsOf 82).toList.map (fun f => (f.name, f.type, f.offset)) = [("A", 31, 0), ("B", 31, 2)] := by kernel_rfl
/-- an edge as it is held -/
def Ev (e : Ee) : Value := .agg #[.string (bs e.1.pkg), .string (bs e.1.name), .string (bs e.2.pkg), .string (bs e.2.name)]
theorem equal_e (w : World) (a b a' b' : Lb) :
    (Op.equalIn 10000 82 (Ev (a, b)) (Ev (a', b'))).run Try.prog w = .ok (decide (((a, b) : Ee) = (a', b'))) w := by
  unfold Ev
  rw [run_equalIn_struct w 9999 82 _ _ st82 held82]
  have h := flds82
  revert h
  generalize (Try.prog.fieldsOf 82).toList = L
  intro h
  have hl : L.length = 2 := by have := congrArg List.length h; simpa using this
  obtain ⟨f0, f1, rfl⟩ : ∃ f0 f1, L = [f0, f1] := by
    rcases L with _ | ⟨f0, _ | ⟨f1, _ | ⟨f2, r⟩⟩⟩
    · simp at hl
    · simp at hl
    · exact ⟨f0, f1, rfl⟩
    · simp at hl
  · simp only [List.map_cons, List.map_nil, List.cons.injEq, Prod.mk.injEq, and_true] at h
    obtain ⟨⟨n0, t0, o0⟩, ⟨n1, t1, o1⟩⟩ := h
    have e31 : ∀ (a c : Lb) (w : World), (Op.equalIn 9999 31 (.agg #[.string (bs a.pkg), .string (bs a.name)]) (.agg #[.string (bs c.pkg), .string (bs c.name)])).run Try.prog w = .ok (decide (a = c)) w := fun a c w => equal_at 9997 w a.pkg a.name c.pkg c.name
    have h31 := Try.isAgg31
    have s31 := Try.sizeOf31
    simp only [Op.eqFields, n0, n1, t0, t1, o0, o1]
    have g0 : ("A" : String) ≠ "_" := by decide
    have g1 : ("B" : String) ≠ "_" := by decide
    simp [g0, g1, part, h31, s31, e31]
    by_cases hp : a = a' <;> by_cases ht : b = b' <;> simp [hp, ht]
def eeq (a b : Ee) : Bool := decide (a = b)
theorem eql_e (w : World) (a b a' b' : Lb) : (binOp .eql 82 (.agg #[.string (bs a.pkg), .string (bs a.name), .string (bs b.pkg), .string (bs b.name)]) (.agg #[.string (bs a'.pkg), .string (bs a'.name), .string (bs b'.pkg), .string (bs b'.name)])).run Try.prog w = .ok (.bool (eeq (a, b) (a', b'))) w := by
  rw [run_eql_struct]
  have := equal_e w a b a' b'
  unfold Ev at this
  rw [this]; rfl
theorem guard_e (w : World) (op : BinOp) (x y : Operand) (xs ys : Array Value) : (eqGuard op 82 x y (.agg xs) (.agg ys)).run Try.prog w = .ok () w := run_eqGuard_agg w op 82 x y xs ys guard82
end Go.Proofs.Ytjohhmfncemknaa

namespace Go.Proofs.Ytjohhmfncemknaa
open Go.RowKit Go.Maps

def addE (E : List Ee) (e : Ee) : List Ee := if e ∈ E then E else E ++ [e]
section
variable {w w3 w4 : World} {F : Nat → Prop} {d : Nat} {N : List Lb} {E : List Ee}
theorem DG.setE (h : DG w F d N E) (hb : Below w.heap.size w w4) {ev v' : Value} {E' : List Ee} (hev : w.cell? ⟨d, 1, none⟩ = some ev) (ho : OwnE 0 w3 v' E') (hon : Only (bl ev) w4 w3) (hkk : v'.ownBlock = ev.ownBlock ∨ ∃ k, v'.ownBlock = some k ∧ w.heap.size ≤ k)
    (nd : E'.Nodup) (hs : ∀ e ∈ E', e.1 ∈ N ∧ e.2 ∈ N) (nz : E'.length ≤ 1000000) : w3.cell? ⟨d, 1, none⟩ = some ev ∧ w3.frozen? ⟨d, 1, none⟩ = false ∧ DG (w3.setCell ⟨d, 1, none⟩ v') (nw F w (w3.setCell ⟨d, 1, none⟩ v')) d N E' ∧ OnlyP F w (w3.setCell ⟨d, 1, none⟩ v') := by
  have hdl := h.dlt
  obtain ⟨⟨nv, ev0, h1, h2, h3, h4, h5⟩, own, lt, r1, r2, r3, r4, r5, r6⟩ := h
  have e0 : ev0 = ev := by simpa [World.cell?, h1] using hev
  subst e0
  have hbl : ∀ k ∈ bl ev0, ev0.ownBlock = some k := fun k hk => by unfold bl at hk; simpa using hk
  have hnd : ∀ k, ev0.ownBlock = some k → k ≠ d := by
    rintro k hk rfl
    obtain ⟨cs, fr, e⟩ := h3.blk hk
    rw [h1] at e
    injection e with e; injection e with _ e _; exact absurd e (by decide)
  have hd3 : w3.heap[d]? = some (.cells #[nv, ev0] 48 (0, 0)) := (hon.block d (Nat.lt_of_lt_of_le hdl hb.size) (fun hm => hnd d (hbl d hm) rfl)).trans ((hb.block d hdl).trans h1)
  have hvd : ∀ k, v'.ownBlock = some k → k ≠ d := by
    rintro k hk rfl
    obtain ⟨cs, fr, e⟩ := ho.blk hk
    rw [hd3] at e
    injection e with e; injection e with _ e _; exact absurd e (by decide)
  have hse := Only.set w3 d 1 v'
  have hes : ∀ k, nv.ownBlock = some k → (w3.setCell ⟨d, 1, none⟩ v').heap[k]? = w.heap[k]? := by
    intro k hk
    obtain ⟨cs, fr, e⟩ := h2.blk hk
    have hkl := (h2.lt hk).2
    have n1 : k ≠ d := by
      rintro rfl
      rw [h1] at e
      injection e with e; injection e with _ e _; exact absurd e (by decide)
    have n2 : k ∉ bl ev0 := by
      intro hm
      obtain ⟨cs', fr', e'⟩ := h3.blk (hbl k hm)
      rw [e] at e'
      injection e' with e'; injection e' with _ e' _; exact absurd e' (by decide)
    have hk4 := Nat.lt_of_lt_of_le hkl hb.size
    exact (hse.block k (Nat.lt_of_lt_of_le hk4 hon.size) (by simpa using n1)).trans ((hon.block k hk4 n2).trans (hb.block k hkl))
  have hsz : w.heap.size ≤ (w3.setCell ⟨d, 1, none⟩ v').heap.size := by rw [wide_size]; exact Nat.le_trans hb.size hon.size
  refine ⟨by simp [World.cell?, hd3], by simp [World.frozen?, hd3], ⟨⟨nv, v', ?_, h2.stay hes, ho.stay (fun k hk => hse.block k (ho.lt hk).2 (by simpa using hvd k hk)), fun k hk => .inl (h4 k hk), fun k hk => ?_⟩, .inl own, ?_, r1, nd, hs, r4, r5, nz⟩, ?_⟩
  · rw [heap_setCell _ _ _ _ hd3]; simp
  · have hl := (ho.lt hk).2
    rcases hkk with e | ⟨j, e, hj⟩
    · exact .inl (h5 k (e ▸ hk))
    · rw [hk] at e
      injection e with e
      subst e
      exact .inr ⟨hj, by rw [wide_size]; exact hl⟩
  · rintro k (hk | ⟨_, hk⟩)
    · exact Nat.lt_of_lt_of_le (lt k hk) hsz
    · exact hk
  · refine ((OnlyP.of_below hb F).trans (OnlyP.of_only (F := F) hon (fun k hk _ => h5 k (hbl k hk))) (fun _ _ e => e)).trans (OnlyP.of_only (F := F) hse (fun k hk _ => ?_)) (fun _ _ e => e)
    have : k = d := by simpa using hk
    rw [this]; exact own
theorem DG.edgeX (h : DG w F d N E) (hb : Below w.heap.size w w4) {o : Obj} {ev v' : Value} {a : Ee} (hev : w.cell? ⟨d, 1, none⟩ = some ev) (ho : OwnE 0 w3 v' (E ++ [a])) (hg : (w4.alloc o).drew.grownBy w3 ev.ownBlock) (hl : v'.ownBlock = ev.ownBlock ∨ v'.ownBlock = some (w4.alloc o).drew.heap.size)
    (nd : (E ++ [a]).Nodup) (hn : a.1 ∈ N ∧ a.2 ∈ N) (nz : E.length + 1 ≤ 1000000) : w3.cell? ⟨d, 1, none⟩ = some ev ∧ w3.frozen? ⟨d, 1, none⟩ = false ∧ Hid (DG (w3.setCell ⟨d, 1, none⟩ v') (nw F w (w3.setCell ⟨d, 1, none⟩ v')) d N (E ++ [a]) ∧ OnlyP F w (w3.setCell ⟨d, 1, none⟩ v')) := by
  have hb2 := bstep hb (balloc w4 o).drew
  obtain ⟨z1, z2, z3, z4⟩ := h.setE hb2 hev ho (only_grown hg) (by
    rcases hl with hl | hl
    · exact .inl hl
    · exact .inr ⟨_, hl, hb2.size⟩) nd (fun x hx => by
    rcases List.mem_append.1 hx with hx | hx
    · exact h.sub x hx
    · have e : x = a := by simpa using hx
      rw [e]; exact hn) (by simpa using nz)
  exact ⟨z1, z2, z3, z4⟩
theorem DG.nw_nw {w2 : World} (h : DG w3 (nw (nw F w w2) w2 w3) d N E) (h1 : w.heap.size ≤ w2.heap.size) (h2 : w2.heap.size ≤ w3.heap.size) : DG w3 (nw F w w3) d N E := by
  have hl := h.lt
  refine h.wider ?_ ?_
  · rintro k ((h | h) | h)
    · exact .inl h
    · exact .inr ⟨h.1, by omega⟩
    · exact .inr ⟨by omega, h.2⟩
  · rintro k (h | h)
    · exact hl k (.inl (.inl h))
    · exact h.2
end
end Go.Proofs.Ytjohhmfncemknaa
