/-
  The landed plan: the first file at each path.
  The landed plan: the paths that were changed by hand.
-/
import Derived.Test.YtfdcfcalbongeaaGreatJKr
import Derived.Test.YtfdcfcalbongeaaGreatJKe
import Derived.Test.YtfdcfcalbongeaaGreatJSEq
import Derived.Test.YtfdcfcalbongeaaGreatSPkg
namespace Go.Proofs.YtfdcfcalbongeaaGreat
open Go.RowKit Go.Maps

theorem MP.cong {w : World} {b cnt : Nat} {F G : List UInt8 → Option Fl} (h : MP cF w b F cnt) (e : ∀ k, F k = G k) : MP cF w b G cnt := h.congr fun k _ => e k
set_option maxHeartbeats 8000000 in
set_option maxRecDepth 100000 in
theorem lfirsts_any {w : World} {v : Value} {l : List Fl} (h : FS w v l) (hl : l.length ≤ 1500000) (hp : ∀ f ∈ l, f.path.length ≤ 1500000) :
    Calls Tryz.prog 45 #[v] w fun e w' => ∃ b cnt, e = .returned (.map (some b)) ∧ MP cF w' b (fnd l) cnt ∧ cnt ≤ 1500000 ∧ Below w.heap.size w w' := by
  obtain ⟨a, c, rfl, _⟩ := h.form
  rename_i hform
  obtain ⟨n, hnn⟩ : ∃ n, l.length = n := ⟨_, rfl⟩
  have H' : Hid (FS w (.slice a l.length c) l) := h
  have HP : Hid (∀ f ∈ l, f.path.length ≤ 1500000) := hp
  clear h hp hform
  rw [hnn] at hl ⊢
  have HN : Hid (l.length = n) := hnn
  clear hnn
  have HM : Hid (MP cF (w.alloc (.map #[] 0)) w.heap.size (fnd (l.take 0)) 0) := (MP.new cF w).cong fun k => rfl
  have hmm := @run_makeMap Tryz.prog
  have hu := cF.und
  go_enter Tryz.func45, Tryz.ntmps45
  go_wp2_with fail
  go_loopw [11] (fun i wr => ∃ k cnt : Nat, k ≤ n ∧ i = .int .i64 k ∧ MP cF wr w.heap.size (fnd (l.take k)) cnt ∧ cnt ≤ k ∧ Below w.heap.size w wr) (fun i _ => n - (intOf i).toNat)
  case atStart => exact ⟨0, 0, Nat.zero_le _, rfl, HM.out, Nat.le_refl _, balloc _ _⟩
  case round =>
    obtain ⟨k, cnt, hk, rfl, hm, hc, hbw⟩ := hrel
    have HO : Hid (MP cF wr w.heap.size (fnd (l.take k)) cnt ∧ cnt ≤ k ∧ Below w.heap.size w wr) := ⟨hm, hc, hbw⟩
    clear hm hc hbw
    by_cases hlt : k < n
    · have hkl : k < l.length := by have := HN.out; omega
      obtain ⟨b, off, ea, hbw, d0, d1, d2, d3⟩ := FS.at H'.out HO.out.2.2 hkl
      subst ea
      have hpl := HP.out _ (List.getElem_mem hkl)
      have hsn : ∀ y, fnd (l.take (k + 1)) y = match fnd (l.take k) y with | some g => some g | none => if l[k].path = y then some l[k] else none := fun y => by
        rw [List.take_succ_eq_append_getElem hkl]
        exact fnd_snoc _ _ _
      have k1 : (0 : Int) ≤ (k : Int) := by omega
      have k2 : (k : Int) < (n : Int) := by omega
      obtain ⟨f, hf⟩ : ∃ f, l[k] = f := ⟨_, rfl⟩
      rw [hf] at d0 d1 d2 d3 hpl hsn
      obtain ⟨p, t, bl, sz⟩ := f
      simp only at d0 d1 d2 d3 hpl hsn
      have hlk : Lk p := by unfold Lk; omega
      obtain ⟨o, ho⟩ : ∃ o, fnd (l.take k) p = o := ⟨_, rfl⟩
      have hl1 := (HO.out.1.later (balloc wr (.cells #[.string (bs p), .string (bs t), .int .i64 bl, .int .i64 sz] 30))).look hlk true
      obtain ⟨z, hz⟩ : ∃ z, at_ cF (fnd (l.take k) p) = z := ⟨_, rfl⟩
      obtain ⟨r, hr⟩ : ∃ r, (fnd (l.take k) p).isSome = r := ⟨_, rfl⟩
      rw [hz, hr] at hl1
      obtain ⟨zp, zt, zb, zs⟩ := z
      have hl2 : (Instr.lookup 69 (.map (some w.heap.size)) (.string (bs p)) true).run Tryz.prog (wr.alloc (.cells #[.string (bs p), .string (bs t), .int .i64 bl, .int .i64 sz] 30)) = .ok (.tuple #[.agg #[.string (bs zp), .string (bs zt), .int .i64 zb, .int .i64 zs], .bool r]) (wr.alloc (.cells #[.string (bs p), .string (bs t), .int .i64 bl, .int .i64 sz] 30)) := hl1
      have hb2 : Below wr.heap.size wr ((wr.alloc (.cells #[.string (bs p), .string (bs t), .int .i64 bl, .int .i64 sz] 30)).alloc (.cells #[.string (bs zp), .string (bs zt), .int .i64 zb, .int .i64 zs] 30)) := bstep (balloc _ _) (balloc _ _)
      have hm2 := HO.out.1.later hb2
      have HO2 : Hid (MP cF ((wr.alloc (.cells #[.string (bs p), .string (bs t), .int .i64 bl, .int .i64 sz] 30)).alloc (.cells #[.string (bs zp), .string (bs zt), .int .i64 zb, .int .i64 zs] 30)) w.heap.size (fnd (l.take k)) cnt ∧ Below w.heap.size w ((wr.alloc (.cells #[.string (bs p), .string (bs t), .int .i64 bl, .int .i64 sz] 30)).alloc (.cells #[.string (bs zp), .string (bs zt), .int .i64 zb, .int .i64 zs] 30))) := ⟨hm2, bstep HO.out.2.2 hb2⟩
      cases r with
      | true =>
        have HT : Hid (∀ y, fnd (l.take k) y = fnd (l.take (k + 1)) y) := fun y => by
          rw [hsn y]
          cases e : fnd (l.take k) y with
          | some g => rfl
          | none =>
            by_cases hy : p = y
            · subst hy
              rw [e] at hr
              cases hr
            · simp [hy]
        clear hl1 hm2 hb2 hsn ho hz hr hf hbw hpl hlk
        go_wp2_with fail
        go_roundw
        case rel => exact ⟨k + 1, cnt, by omega, by go_num, HO2.out.1.cong HT.out, by have := HO.out.2.1; omega, HO2.out.2⟩
        case measure => simp [intOf]; omega
      | false =>
        obtain ⟨w5, hst, hm5, ho5, hs5⟩ := hm2.store hlk (by have := HO.out.2.1; omega) ⟨p, t, bl, sz⟩
        rw [hr, if_neg (by decide)] at hm5
        have hst2 : (Instr.mapUpdate 69 (.map (some w.heap.size)) (.string (bs p)) (.agg #[.string (bs p), .string (bs t), .int .i64 bl, .int .i64 sz])).run Tryz.prog ((wr.alloc (.cells #[.string (bs p), .string (bs t), .int .i64 bl, .int .i64 sz] 30)).alloc (.cells #[.string (bs zp), .string (bs zt), .int .i64 zb, .int .i64 zs] 30)) = .ok () w5 := hst
        have HT : Hid (MP cF w5 w.heap.size (fnd (l.take (k + 1))) (cnt + 1) ∧ Below w.heap.size w w5) := by
          refine ⟨hm5.cong fun y => ?_, ?_⟩
          · rw [hsn y]
            by_cases hy : y = p
            · subst hy
              rw [if_pos rfl]
              cases e : fnd (l.take k) y with
              | some g => rw [e] at hr; cases hr
              | none => simp
            · rw [if_neg hy]
              cases e : fnd (l.take k) y with
              | some g => rfl
              | none => simp [Ne.symm hy]
          · have hb3 := HO2.out.2
            refine ⟨ho5.os.trans hb3.os, ho5.tape.trans hb3.tape, ho5.output.trans hb3.output, ?_, fun i hi => ?_⟩
            · rw [hs5]; exact hb3.size
            · have hz0 := hb3.size
              rw [ho5.block i (by omega) (by simp; omega)]
              exact hb3.block i hi
        obtain ⟨x0, x1, x2, x3⟩ := file_cells (balloc (wr.alloc (.cells #[.string (bs p), .string (bs t), .int .i64 bl, .int .i64 sz] 30)) (.cells #[.string (bs zp), .string (bs zt), .int .i64 zb, .int .i64 zs] 30))
        clear hl1 hm2 hb2 hsn ho hz hr hf hbw hpl hlk hm5 ho5 hs5 hst
        go_wp2_with fail
        go_roundw
        case rel => exact ⟨k + 1, cnt + 1, by omega, by go_num, HT.out.1, by have := HO.out.2.1; omega, HT.out.2⟩
        case measure => simp [intOf]; omega
    · obtain rfl : k = n := by omega
      have HE : Hid (MP cF wr w.heap.size (fnd l) cnt ∧ cnt ≤ 1500000 ∧ Below w.heap.size w wr) := by
        refine ⟨?_, by have := HO.out.2.1; omega, HO.out.2.2⟩
        have := HO.out.1
        rw [List.take_of_length_le (by have := HN.out; omega)] at this
        exact this
      go_wp2_with fail
      go_ret
      exact ⟨w.heap.size, cnt, rfl, HE.out.1, HE.out.2.1, HE.out.2.2⟩
end Go.Proofs.YtfdcfcalbongeaaGreat

namespace Go.Proofs.YtfdcfcalbongeaaGreat
open Go.RowKit Go.Maps
attribute [local go_sem] Oper.semAt_some

theorem chg_iff {files old : List Fl} {p : List UInt8} : chg files old p = true ↔ fnd files p ≠ fnd old p := by
  unfold chg
  rw [Bool.not_eq_true', ← Bool.not_eq_true, sameO_iff]
theorem chg_some {files old : List Fl} {p : List UInt8} {f : Fl} (h : fnd files p = some f) : chg files old p = (!(fnd old p).isSome || !feq (at_ cF (fnd old p)) f) := by
  rw [Bool.eq_iff_iff, chg_iff, h]
  cases e : fnd old p with
  | none => simp
  | some g =>
    have : at_ cF (some g) = g := rfl
    rw [this]
    simp only [Option.isSome_some, Bool.not_true, Bool.false_or, Bool.not_eq_true', ne_eq, Option.some.injEq]
    rw [← Bool.not_eq_true, feq_iff]
    exact ⟨fun h1 h2 => h1 h2.symm, fun h1 h2 => h1 h2.symm⟩
theorem chg_none {files old : List Fl} {p : List UInt8} (h : fnd files p = none) : chg files old p = (fnd old p).isSome := by
  rw [Bool.eq_iff_iff, chg_iff, h]
  cases fnd old p <;> simp
/-- what was gathered of files -/
structure Cg1 (files old : List Fl) (left : List UInt8 → Bool) (C : List (List UInt8)) : Prop where
  nd : C.Nodup
  iff : ∀ x, x ∈ C ↔ (fnd files x).isSome = true ∧ left x = false ∧ chg files old x = true
theorem Cg1.start {files old : List Fl} {left : List UInt8 → Bool} (h : ∀ x, (fnd files x).isSome = true → left x = true) : Cg1 files old left [] :=
  ⟨List.nodup_nil, fun x => by
    constructor
    · intro h; cases h
    · rintro ⟨h1, h2, _⟩
      rw [h x h1] at h2
      cases h2⟩
theorem Cg1.skip {files old : List Fl} {left : List UInt8 → Bool} {C : List (List UInt8)} (h : Cg1 files old left C) {k : List UInt8} (hl : left k = true) (hc : chg files old k = false) : Cg1 files old (fun z => left z && !(z == k)) C :=
  ⟨h.nd, fun x => by
    rw [h.iff x]
    by_cases e : x = k
    · subst e; simp [hc]
    · simp [e]⟩
theorem Cg1.add {files old : List Fl} {left : List UInt8 → Bool} {C : List (List UInt8)} (h : Cg1 files old left C) {k : List UInt8} (hl : left k = true) (hs : (fnd files k).isSome = true) (hc : chg files old k = true) : Cg1 files old (fun z => left z && !(z == k)) (C ++ [k]) := by
  have hn : k ∉ C := fun e => by have := ((h.iff k).1 e).2.1; rw [hl] at this; cases this
  refine ⟨?_, fun x => ?_⟩
  · rw [List.nodup_append]
    refine ⟨h.nd, by simp, ?_⟩
    intro y hy z hz
    have : z = k := by simpa using hz
    subst this
    rintro rfl
    exact hn hy
  · rw [List.mem_append, h.iff x]
    by_cases e : x = k
    · subst e; simp [hs, hc]
    · simp [e]
/-- what was gathered, of old's too -/
structure Cg2 (files old : List Fl) (left : List UInt8 → Bool) (C : List (List UInt8)) : Prop where
  nd : C.Nodup
  iff : ∀ x, x ∈ C ↔ ((fnd files x).isSome = true ∧ chg files old x = true) ∨ ((fnd files x).isSome = false ∧ (fnd old x).isSome = true ∧ left x = false)
theorem Cg1.next {files old : List Fl} {left left2 : List UInt8 → Bool} {C : List (List UInt8)} (h : Cg1 files old left C) (hl : ∀ k, left k = false) (h2 : ∀ x, (fnd old x).isSome = true → left2 x = true) : Cg2 files old left2 C :=
  ⟨h.nd, fun x => by
    rw [h.iff x]
    constructor
    · rintro ⟨h1, _, h3⟩
      exact .inl ⟨h1, h3⟩
    · rintro (⟨h1, h3⟩ | ⟨_, h4, h5⟩)
      · exact ⟨h1, hl x, h3⟩
      · rw [h2 x h4] at h5
        cases h5⟩
theorem Cg2.skip {files old : List Fl} {left : List UInt8 → Bool} {C : List (List UInt8)} (h : Cg2 files old left C) {k : List UInt8} (hs : (fnd files k).isSome = true) : Cg2 files old (fun z => left z && !(z == k)) C :=
  ⟨h.nd, fun x => by
    rw [h.iff x]
    by_cases e : x = k
    · subst e; simp [hs]
    · simp [e]⟩
theorem Cg2.add {files old : List Fl} {left : List UInt8 → Bool} {C : List (List UInt8)} (h : Cg2 files old left C) {k : List UInt8} (hl : left k = true) (hs : (fnd files k).isSome = false) (ho : (fnd old k).isSome = true) : Cg2 files old (fun z => left z && !(z == k)) (C ++ [k]) := by
  have hn : k ∉ C := fun e => by
    rcases (h.iff k).1 e with ⟨h1, _⟩ | ⟨_, _, h1⟩
    · rw [hs] at h1; cases h1
    · rw [hl] at h1; cases h1
  refine ⟨?_, fun x => ?_⟩
  · rw [List.nodup_append]
    refine ⟨h.nd, by simp, ?_⟩
    intro y hy z hz
    have : z = k := by simpa using hz
    subst this
    rintro rfl
    exact hn hy
  · rw [List.mem_append, h.iff x]
    by_cases e : x = k
    · subst e; simp [hs, ho]
    · simp [e]
theorem Cg2.done {files old : List Fl} {left : List UInt8 → Bool} {C : List (List UInt8)} (h : Cg2 files old left C) (hl : ∀ k, left k = false) (x : List UInt8) : x ∈ C ↔ chg files old x = true := by
  rw [h.iff x]
  cases e : fnd files x with
  | some f => simp
  | none =>
    rw [chg_none e]
    simp [hl x]
theorem fnd_lk {l : List Fl} (hp : ∀ f ∈ l, f.path.length ≤ 1500000) (x : List UInt8) (h : (fnd l x).isSome = true) : Lk x := by
  obtain ⟨f, hf⟩ := Option.isSome_iff_exists.1 h
  unfold fnd at hf
  have h1 := hp f (List.mem_of_find?_eq_some hf)
  have h2 : f.path = x := by simpa using List.find?_some hf
  rw [h2] at h1
  unfold Lk
  omega
theorem Own.grownI {base : Nat} {w w' : World} {v : Value} {C : List (List UInt8)} {r : Nat} (h : Own base w v C) (hg : w.grownBy w' (some r)) (hne : v.ownBlock ≠ some r) : Own base w' v C :=
  h.stay fun j hj => hg.block j (h.lt hj).2 (fun e => hne (by rw [hj]; exact e.symm ▸ rfl))
theorem belowI {B : Nat} {w0 w w' : World} {r : Nat} (hb : Below B w0 w) (hB : B ≤ w.heap.size) (hg : w.grownBy w' (some r)) (hr : B ≤ r) : Below B w0 w' :=
  hb.grown hg hB (fun k hk => by cases hk; exact hr)
end Go.Proofs.YtfdcfcalbongeaaGreat
