/-
  Find.
  A plan, plain: what stands in its way; there and back.
-/
import Derived.Test.YtfdcfcalbongeaaGreatJFx
import Derived.Test.YtfdcfcalbongeaaGreatJLent
import Derived.Test.YtfdcfcalbongeaaGreatPl1
namespace Go.Proofs.YtfdcfcalbongeaaGreat
open Go.RowKit

def fnd (l : List Fl) (J : List UInt8) : Option Fl := l.find? (fun f => decide (f.path = J))
theorem results_ct {P : Program} {fn : Func} {p u : Tmp} {ty : TypeId} (h : fn.results = #[.cell p ty, .tmp u]) (tmps : Array Value) (w : World) (g : Nat) (t : TypeId) (cs : Array Value) (fr : Nat × Nat) (d : TypeDesc)
    (hp : tmps.getD p undef = .pointer (some ⟨g, 0, none⟩)) (hg : w.heap[g]? = some (.cells cs t fr))
    (hu : P.underlying ty = some d) (hd : (match d with | .struct _ | .array _ _ => true | _ => false) = true) (hi : (P.info? ty).map (·.size) = some cs.size) :
    (results fn tmps).run P w = .ok (.tuple #[.agg cs, tmps.getD u undef]) w := by
  rw [results_cell_tmp h]
  rw [hp]
  simp only [asAddr, Sem.run_pure, Result.andThen_ok]
  rw [run_loadVar_row w g t ty cs fr d hg hu hd hi]
  rfl
theorem bset4 {B : Nat} {w w' : World} {g : Nat} (hb : Below B w w') (hg : B ≤ g) (a b c d : Value) :
    Below B w ((((w'.setCell ⟨g, 0, none⟩ a).setCell ⟨g, 1, none⟩ b).setCell ⟨g, 2, none⟩ c).setCell ⟨g, 3, none⟩ d) :=
  (((hb.setCell (p := ⟨g, 0, none⟩) hg _).setCell (p := ⟨g, 1, none⟩) hg _).setCell (p := ⟨g, 2, none⟩) hg _).setCell (p := ⟨g, 3, none⟩) hg _
def zf : Fl := ⟨[], [], 0, 0⟩
structure FQ (l : List Fl) : Prop where
  len : l.length ≤ 4000000
  each : ∀ f ∈ l, Fok f
  path : ∀ f ∈ l, f.path.length ≤ 100000000
theorem FQ.at {l : List Fl} (h : FQ l) {k : Nat} (hk : k < l.length) : Fok l[k] := h.each _ (List.getElem_mem _)
theorem FQ.pat {l : List Fl} (h : FQ l) {k : Nat} (hk : k < l.length) : l[k].path.length ≤ 100000000 := h.path _ (List.getElem_mem _)
theorem FQ.sub {l k : List Fl} (h : FQ l) (hl : k.length ≤ l.length) (hm : ∀ f ∈ k, f ∈ l) : FQ k := ⟨Nat.le_trans hl h.len, fun f hf => h.each f (hm f hf), fun f hf => h.path f (hm f hf)⟩
/-- a file that a call gives, in a block of its own -/
structure RBf (w : World) (g : Nat) (f : Fl) : Prop where
  blk : w.heap[g]? = some (.cells #[.string (bs f.path), .string (bs f.text), .int .i64 f.blob, .int .i64 f.size] 30 (0, 0))
theorem RBf.lt {w : World} {g : Nat} {f : Fl} (h : RBf w g f) : g < w.heap.size := (Array.getElem?_eq_some_iff.1 h.blk).1
theorem RBf.later {w w' : World} {g : Nat} {f : Fl} (h : RBf w g f) (hb : Below w.heap.size w w') : RBf w' g f := ⟨(hb.block g h.lt).trans h.blk⟩
theorem RBf.new (w : World) (f : Fl) : RBf (w.alloc (.cells #[.string (bs f.path), .string (bs f.text), .int .i64 f.blob, .int .i64 f.size] 30)) w.heap.size f := ⟨heap_alloc_new _ _⟩
theorem RBf.cells {w : World} {g : Nat} {f : Fl} (h : RBf w g f) : w.cell? ⟨g, 0, none⟩ = some (.string (bs f.path)) ∧ w.cell? ⟨g, 1, none⟩ = some (.string (bs f.text)) ∧ w.cell? ⟨g, 2, none⟩ = some (.int .i64 f.blob) ∧ w.cell? ⟨g, 3, none⟩ = some (.int .i64 f.size) ∧
    w.frozen? ⟨g, 0, none⟩ = false ∧ w.frozen? ⟨g, 1, none⟩ = false ∧ w.frozen? ⟨g, 2, none⟩ = false ∧ w.frozen? ⟨g, 3, none⟩ = false := by
  have hb := h.blk
  exact ⟨by simp [World.cell?, hb], by simp [World.cell?, hb], by simp [World.cell?, hb], by simp [World.cell?, hb], by simp [World.frozen?, hb], by simp [World.frozen?, hb], by simp [World.frozen?, hb], by simp [World.frozen?, hb]⟩
theorem RBf.set {w : World} {g : Nat} {f : Fl} (h : RBf w g f) (k : Fl) :
    RBf ((((w.setCell ⟨g, 0, none⟩ (.string (bs k.path))).setCell ⟨g, 1, none⟩ (.string (bs k.text))).setCell ⟨g, 2, none⟩ (.int .i64 k.blob)).setCell ⟨g, 3, none⟩ (.int .i64 k.size)) g k := by
  refine ⟨?_⟩
  rw [heap_setCell _ _ _ _ (heap_setCell _ _ _ _ (heap_setCell _ _ _ _ (heap_setCell _ _ _ _ h.blk)))]
  simp
def fopt (o : Option Fl) : Fl := match o with | some f => f | none => zf
theorem fnd_step (l : List Fl) (k : Nat) (h : k < l.length) (p : List UInt8) : fnd (l.drop k) p = if (l[k]'h).path = p then some (l[k]'h) else fnd (l.drop (k + 1)) p := by
  rw [List.drop_eq_getElem_cons h]
  unfold fnd
  rw [List.find?_cons]
  by_cases hp : (l[k]'h).path = p
  · simp [hp]
  · simp [hp]

set_option maxRecDepth 100000 in
set_option maxHeartbeats 4000000 in
theorem find_any {w : World} {v : Value} {l : List Fl} (q : List UInt8) (h : FS w v l) (sm : FQ l) :
    Calls Tryz.prog 43 #[v, .string (bs q)] w fun e w' => e = .returned (.tuple #[(fopt (fnd l q)).val, .bool (fnd l q).isSome]) ∧ Below w.heap.size w w' := by
  obtain ⟨r, hr⟩ : ∃ r, fnd l q = r := ⟨_, rfl⟩
  rw [hr]
  have HR : Hid (fnd (l.drop 0) q = r) := hr
  have H : Hid (FS w v l) := h
  have hlen : l.length ≤ 4000000 := sm.len
  clear hr sm
  obtain ⟨a, c, rfl, _⟩ := h.form
  clear h
  obtain ⟨n, hn⟩ : ∃ n, l.length = n := ⟨_, rfl⟩
  have H' : Hid (FS w (.slice a l.length c) l) := H.out
  clear H
  rw [hn] at hlen ⊢
  have HN : Hid (l.length = n) := hn
  clear hn
  obtain ⟨A, hA⟩ : ∃ A, Value.tuple #[(fopt r).val, .bool r.isSome] = A := ⟨_, rfl⟩
  rw [hA]
  have HA : Hid (Value.tuple #[(fopt r).val, .bool r.isSome] = A) := hA
  clear hA
  rename_i hform
  clear hform
  have hq := bs_toList q
  go_enter Tryz.func43, Tryz.ntmps43
  go_wp2_with fail
  go_loopw [10] (fun i wr => ∃ k : Nat, k ≤ n ∧ i = .int .i64 k ∧ Below w.heap.size w wr ∧ RBf wr w.heap.size zf ∧ fnd (l.drop k) q = r) (fun i _ => n - (intOf i).toNat)
  case atStart => exact ⟨0, by omega, rfl, balloc _ _, RBf.new w zf, HR.out⟩
  case round =>
    obtain ⟨k, hk, rfl, hb, hrb, hl⟩ := hrel
    have HB : Hid (Below w.heap.size w wr) := hb
    have HZ : Hid (RBf wr w.heap.size zf) := hrb
    have HL : Hid (fnd (l.drop k) q = r) := hl
    have hlt0 := hrb.lt
    clear hb hl hrb
    by_cases hlt : k < n
    · have hkl : k < l.length := by have := HN.out; omega
      obtain ⟨b, off, ea, hbw, d0, d1, d2, d3⟩ := FS.at H'.out HB.out hkl
      subst ea
      obtain ⟨f, hf⟩ : ∃ f, l[k] = f := ⟨_, rfl⟩
      rw [hf] at d0 d1 d2 d3
      have HS2 : Hid ((if f.path = q then some f else fnd (l.drop (k + 1)) q) = r) := by
        have h1 := HL.out
        rw [fnd_step l k hkl, hf] at h1; exact h1
      clear hf
      obtain ⟨p, t, bl, s⟩ := f
      simp only at d0 d1 d2 d3 HS2
      have k1 : (0 : Int) ≤ (k : Int) := by omega
      have k2 : (k : Int) < (n : Int) := by omega
      have hp := bs_toList p
      have Z1 : Hid (RBf (wr.alloc (.cells #[.string (bs p), .string (bs t), .int .i64 bl, .int .i64 s] 30)) w.heap.size zf) := HZ.out.later (balloc _ _)
      obtain ⟨z0, z1, z2, z3, y0, y1, y2, y3⟩ := HZ.out.cells
      by_cases hpq : p = q
      · have hd : (p == q) = true := by simpa using hpq
        have HPQ : Hid (p = q) := hpq
        clear hpq
        go_wp2_with fail
        refine bodyPost_ret (results_ct rfl _ _ w.heap.size 30 #[.string (bs p), .string (bs t), .int .i64 bl, .int .i64 s] (0, 0) _ rfl ?_ Tryz.underlying30 rfl (by kernel_rfl)) rfl ?_
        · exact ((HZ.out.set ⟨p, t, bl, s⟩).later (balloc _ _)).blk
        refine ⟨?_, ?_⟩
        · have h1 := HS2.out
          rw [if_pos HPQ.out] at h1
          rw [← HA.out, ← h1]; rfl
        · exact below_trans (bset4 HB.out (Nat.le_refl _) _ _ _ _) (below_mono (balloc _ _) (by have := HB.out.size; simp [World.setCell]; omega))
      · have hd : (p == q) = false := by simpa using hpq
        have HPQ : Hid (¬ p = q) := hpq
        clear hpq
        go_wp2_with fail
        go_roundw
        case rel =>
          refine ⟨k + 1, by omega, by go_num, bstep HB.out (balloc _ _), Z1.out, ?_⟩
          have h1 := HS2.out
          rw [if_neg HPQ.out] at h1
          exact h1
        case measure => simp [intOf]; omega
    · obtain rfl : k = n := by omega
      obtain ⟨z0, z1, z2, z3, y0, y1, y2, y3⟩ := HZ.out.cells
      go_wp2_with fail
      refine bodyPost_ret (results_ct rfl _ _ w.heap.size 30 #[.string (bs []), .string (bs []), .int .i64 0, .int .i64 0] (0, 0) _ rfl ?_ Tryz.underlying30 rfl (by kernel_rfl)) rfl ?_
      · exact (HZ.out.set zf).blk
      refine ⟨?_, bset4 HB.out (Nat.le_refl _) _ _ _ _⟩
      have h1 := HL.out
      rw [List.drop_eq_nil_of_le (by have := HN.out; omega)] at h1
      rw [← HA.out, ← h1]; rfl

end Go.Proofs.YtfdcfcalbongeaaGreat

namespace Go.Proofs.YtfdcfcalbongeaaGreat

def sameO : Option Fl → Option Fl → Bool
  | none, none => true
  | some f, some g => f.path == g.path && f.text == g.text && f.blob == g.blob && f.size == g.size
  | _, _ => false
theorem sameO_iff {a b : Option Fl} : sameO a b = true ↔ a = b := by
  cases a with
  | none => cases b <;> simp [sameO]
  | some f =>
    cases b with
    | none => simp [sameO]
    | some g =>
      cases f
      cases g
      simp [sameO, and_assoc]
/-- changed by hand -/
def chg (files old : List Fl) (p : List UInt8) : Bool := !sameO (fnd files p) (fnd old p)
/-- in the way of a step -/
def stn1 (s : Sp) (p : List UInt8) : Bool := ((s.kind == 1 || s.kind == 4) && (s.p == p || abvV p s.p || abvV s.p p)) || (s.kind == 2 && (s.p == p || abvV s.p p))
def stn (S : List Sp) (p : List UInt8) : Bool := S.any fun s => stn1 s p
/-- the paths that were changed by hand and are in the way -/
def drt (files old now : List Fl) : List (List UInt8) := (norm (files.map Fl.path ++ old.map Fl.path)).filter fun p => chg files old p && stn (mkS old now) p
def mkE (old now : List Fl) : Int := if validE old = 0 then validE now else validE old
theorem chg_self (l : List Fl) (p : List UInt8) : chg l l p = false := by
  unfold chg
  rw [sameO_iff.2 rfl]
  rfl
theorem drt_self (old now : List Fl) : drt old old now = [] := by
  unfold drt
  exact List.filter_eq_nil_iff.2 fun p _ => by simp [chg_self]
theorem up_drt (files old now : List Fl) : Up (drt files old now) := up_filter (up_norm _) _
theorem mem_drt {files old now : List Fl} {p : List UInt8} : p ∈ drt files old now ↔ p ∈ files.map Fl.path ++ old.map Fl.path ∧ chg files old p = true ∧ stn (mkS old now) p = true := by
  unfold drt
  rw [List.mem_filter, mem_norm, Bool.and_eq_true]
/-- of valid files the first one of a path is the one -/
theorem fnd_iff {l : List Fl} (h : FUp l) {f : Fl} {p : List UInt8} : fnd l p = some f ↔ f ∈ l ∧ f.path = p := by
  unfold fnd
  constructor
  · intro e
    exact ⟨List.mem_of_find?_eq_some e, by simpa using List.find?_some e⟩
  · rintro ⟨hm, rfl⟩
    cases e : l.find? fun g => decide (g.path = f.path) with
    | none =>
      have := List.find?_eq_none.1 e f hm
      simp at this
    | some g =>
      have h1 := List.mem_of_find?_eq_some e
      have h2 : g.path = f.path := by simpa using List.find?_some e
      rw [fl_path h h1 hm h2]
theorem fnd_none {l : List Fl} {p : List UInt8} : fnd l p = none ↔ hasF l p = false := by
  unfold fnd hasF
  rw [List.find?_eq_none, ← Bool.not_eq_true, List.any_eq_true]
  constructor
  · rintro h ⟨f, hf, e⟩
    exact h f hf (by simpa using e)
  · intro h f hf e
    exact h ⟨f, hf, by simpa using e⟩
/-- there and back -/
theorem plays_back {old now : List Fl} (ho : validE old = 0) (hn : validE now = 0) :
    let T := newT old
    plT T (mkS old now) = ({ T with fs := now, ds := nds now, st := (mkS old now).length }, 0) ∧
    plT { T with fs := now, ds := nds now, st := (mkS old now).length } (mkS now old) = ({ T with st := (mkS old now).length + (mkS now old).length }, 0) := by
  intro T
  refine ⟨?_, ?_⟩
  · rw [plays ho hn (T := T) rfl rfl rfl]
    simp [T, newT]
  · rw [plays hn ho (T := { T with fs := now, ds := nds now, st := (mkS old now).length }) rfl rfl rfl]
    simp [T, newT]
/-- steps of a kind that there is not -/
theorem plO_no {T : TT} {s : Sp} (h : s.kind < 1 ∨ 4 < s.kind) : plO T s = (T, 16) := by
  unfold plO
  rw [if_neg (by omega), if_neg (by omega), if_neg (by omega), if_neg (by omega)]
/-- a directory, a step that there is not, a directory -/
theorem plays_odd {T : TT} (h0 : T.sp = 0) (a b c : List UInt8) (hac : c ≠ a) : ∃ T', plT T [sMk a, ⟨0, b, zfP⟩, sMk c] = (T', 16) ∧ T'.fs = T.fs ∧ (c ∈ T'.ds ↔ c ∈ T.ds) ∧ plT T [⟨9, [], zfP⟩] = (T, 16) := by
  have h9 : plT T [⟨9, [], zfP⟩] = (T, 16) := plT_err (plO_no (.inr (by decide))) (by decide)
  have hm : plO T (sMk a) = T.mk' a := by
    unfold plO sMk
    rw [if_neg (show ¬ ((3 : Int) = 1) by decide), if_neg (show ¬ ((3 : Int) = 2) by decide), if_pos rfl]
  cases e : mkB T a with
  | false =>
    rw [mk_no h0 e] at hm
    exact ⟨_, plT_err hm (by decide), rfl, Iff.rfl, h9⟩
  | true =>
    have e1 : T.mk' a = ({ T.up 1 with ds := ins a T.ds }, 0) := by
      rw [mk_free h0]
      unfold mkG
      rw [if_pos (show mkB (T.up 1) a = true from e)]
      rfl
    rw [e1] at hm
    refine ⟨_, (plT_ok hm).trans (plT_err (plO_no (.inl (show (0 : Int) < 1 by decide))) (by decide)), rfl, ?_, h9⟩
    show c ∈ ins a T.ds ↔ _
    rw [mem_ins]
    exact ⟨fun h => h.resolve_left hac, .inr⟩
end Go.Proofs.YtfdcfcalbongeaaGreat
