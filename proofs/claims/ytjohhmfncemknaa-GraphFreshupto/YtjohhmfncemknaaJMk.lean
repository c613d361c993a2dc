/-
  room; what Reach has met.
  Rows and maps that are made.
-/
import Derived.Test.YtjohhmfncemknaaBk
namespace Go.Proofs.Ytjohhmfncemknaa
open Go.RowKit Go.Maps

def cU : Cd Unit where
  R := unitElem
  enc := fun _ => .agg #[]
  d := fun _ => .agg []
  z := ()
  t := 68
  e := 69
  hR _ := unitElem_mk
  inv v y h := ⟨(), (unitElem_inv h).1⟩
  inj _ _ _ := rfl
  und := by kernel_rfl
  zero w := by kernel_rfl

/-- what is met: a map and a row, each in its box -/
structure ME (base : Nat) (Bk Bm : Nat) (M : List Lb) (w : World) : Prop where
  map : ∃ mb, Boxed w Bk 68 (.map (some mb)) ∧ MP cU w mb (fun a => if a ∈ M then some () else none) M.length ∧ base ≤ mb
  row : ∃ v, Boxed w Bm 28 v ∧ OwnL base w v M
  bk : base ≤ Bk
  bm : base ≤ Bm
  nd : M.Nodup
  lu : ∀ a ∈ M, Lu a
theorem ME.later {base Bk Bm : Nat} {M : List Lb} {w w' : World} (h : ME base Bk Bm M w) (hb : Below w.heap.size w w') : ME base Bk Bm M w' := by
  obtain ⟨⟨mb, h1, h2, h3⟩, ⟨v, h4, h5⟩, h6, h7, h8, h9⟩ := h
  exact ⟨⟨mb, (hb.block Bk h1.lt).trans h1, h2.later hb, h3⟩, ⟨v, (hb.block Bm h4.lt).trans h4, h5.later hb⟩, h6, h7, h8, h9⟩

set_option maxRecDepth 100000 in
set_option maxHeartbeats 4000000 in
theorem met_any {base Bk Bm : Nat} {M : List Lb} {w : World} (h : ME base Bk Bm M w) (hbase : base ≤ w.heap.size) (hl : M.length + 1 ≤ 1000000) (a : Lb) (ha : Lu a) :
    Calls Try.prog 31 #[a.val, .pointer (some ⟨Bk, 0, none⟩), .pointer (some ⟨Bm, 0, none⟩)] w fun e w' => e = .returned (.tuple #[]) ∧ ME base Bk Bm (addN M a) w' ∧ Below base w w' := by
  have H : Hid (ME base Bk Bm M w) := h
  obtain ⟨⟨mb, h1, h2, h3⟩, ⟨v, h4, h5⟩, h6, h7, h8, h9⟩ := h
  have hlook : ∀ w' : World, w'.heap[mb]? = w.heap[mb]? → (Instr.lookup 68 (.map (some mb)) a.val true).run Try.prog w' = .ok (.tuple #[.agg #[], .bool (decide (a ∈ M))]) w' := fun w' hw => by
    have := (h2.block hw).look ha true
    by_cases hm : a ∈ M <;> simpa [hm, at_, cU] using this
  have HL : Hid (∀ w' : World, w'.heap[mb]? = w.heap[mb]? → (Instr.lookup 68 (.map (some mb)) a.val true).run Try.prog w' = .ok (.tuple #[.agg #[], .bool (decide (a ∈ M))]) w') := hlook
  have hk := h1.cell
  have hmbl := h2.lt
  have hlb := HL.out (w.alloc (.cells #[.string (bs a.pkg), .string (bs a.name)] 31)) (heap_alloc_old _ _ hmbl)
  have hk1 := cell_alloc (.cells #[.string (bs a.pkg), .string (bs a.name)] 31) h1.lt hk
  by_cases hm : a ∈ M
  · have e1 : decide (a ∈ M) = true := by simp [hm]
    rw [e1] at hlb
    have HE : Hid (addN M a = M) := by show addN M a = M; unfold addN; rw [if_pos hm]
    clear e1 hm h1 h2 h3 h4 h5 h6 h7 h8 h9 hlook hk hmbl hl ha HL
    obtain ⟨p, n⟩ := a
    simp only [Lb.val] at *
    have hbb : Hid (base ≤ w.heap.size) := hbase
    clear hbase
    go_enter Try.func31, Try.ntmps31
    go_wp2_with fail
    go_end0
    have hb : Below w.heap.size w ((w.alloc (.cells #[.string (bs p), .string (bs n)] 31)).alloc (.cells #[] 69)) := bstep (balloc _ _) (balloc _ _)
    exact ⟨rfl, by rw [HE.out]; exact H.out.later hb, below_mono hb hbb.out⟩
  · have e1 : decide (a ∈ M) = false := by simp [hm]
    rw [e1] at hlb
    have HE : Hid (addN M a = M ++ [a]) := by show addN M a = M ++ [a]; unfold addN; rw [if_neg hm]
    have HND : Hid ((M ++ [a]).Nodup ∧ ∀ x ∈ M ++ [a], Lu x) := by
      have h10 := addN_nd (a := a) h8
      rw [HE.out] at h10
      refine ⟨h10, fun x hx => ?_⟩
      rcases List.mem_append.1 hx with hx | hx
      · exact h9 x hx
      · have : x = a := by simpa using hx
        rw [this]; exact ha
    obtain ⟨w1, hw1⟩ : ∃ w1, (w.alloc (.cells #[.string (bs a.pkg), .string (bs a.name)] 31)).alloc (.cells #[] 69) = w1 := ⟨_, rfl⟩
    have hb1 : Below w.heap.size w w1 := by rw [← hw1]; exact bstep (balloc _ _) (balloc _ _)
    have hR1 : RB w1 w.heap.size a := by rw [← hw1]; exact (RB.new w a).later (balloc _ _)
    obtain ⟨w2, hrun, hm2, ho2, hs2⟩ := (h2.later hb1).store ha (by omega) ()
    have e2 : (if (if a ∈ M then some () else none).isSome = true then M.length else M.length + 1) = (M ++ [a]).length := by simp [hm]
    rw [e2] at hm2
    have hmap : ∃ es clock, w.heap[mb]? = some (.map es clock) := by obtain ⟨D, ⟨es, clock, hb, _⟩, _⟩ := h2; exact ⟨es, clock, hb⟩
    obtain ⟨es, clock, hmap⟩ := hmap
    have n1 : Bk ≠ mb := by rintro rfl; rw [show w.heap[Bk]? = _ from h1] at hmap; cases hmap
    have n2 : Bm ≠ mb := by rintro rfl; rw [show w.heap[Bm]? = _ from h4] at hmap; cases hmap
    have n3 : Bk ≠ Bm := by
      rintro rfl
      have := (show w.heap[Bk]? = _ from h1).symm.trans h4
      injection this with this
      injection this with _ this _
      exact absurd this (by decide)
    have hrow : ∀ k, v.ownBlock = some k → ∃ cs fr, w.heap[k]? = some (.cells cs 31 fr) := by
      intro k hk
      rcases OL.of h5 with ⟨e, _⟩ | ⟨q, cap, rest, e, ho⟩
      · rw [e] at hk; cases hk
      · rw [e] at hk
        simp only [Value.ownBlock, Option.some.injEq] at hk
        subst hk
        exact ⟨_, _, ho.blk⟩
    have n4 : ∀ k, v.ownBlock = some k → k ≠ mb ∧ k ≠ Bk ∧ k ≠ Bm := by
      intro k hk
      obtain ⟨cs, fr, e⟩ := hrow k hk
      refine ⟨?_, ?_, ?_⟩
      · rintro rfl; rw [e] at hmap; cases hmap
      · rintro rfl
        have := e.symm.trans h1
        injection this with this
        injection this with _ this _
        exact absurd this (by decide)
      · rintro rfl
        have := e.symm.trans h4
        injection this with this
        injection this with _ this _
        exact absurd this (by decide)
    have b1 : Boxed w2 Bk 68 (.map (some mb)) := (ho2.block Bk (Nat.lt_of_lt_of_le h1.lt hb1.size) (by simpa using n1)).trans ((hb1.block Bk h1.lt).trans h1)
    have b2 : Boxed w2 Bm 28 v := (ho2.block Bm (Nat.lt_of_lt_of_le h4.lt hb1.size) (by simpa using n2)).trans ((hb1.block Bm h4.lt).trans h4)
    have o2 : OwnL base w2 v M := (h5.later hb1).only ho2 (fun k hk => by simpa using (n4 k hk).1)
    have hR2 : RB w2 w.heap.size a := ⟨(ho2.block w.heap.size hR1.lt (by have := h2.lt; simp; omega)).trans hR1.blk⟩
    have hB2 : Below base w w2 := below_trans (below_mono hb1 hbase) (ho2.below (Nat.le_trans hbase hb1.size) (fun k hk => by have e : k = mb := (by simpa using hk); omega))
    have hsz2 : base ≤ w2.heap.size := Nat.le_trans hbase hB2.size
    have HZ : Hid (MP cU w2 mb (fun x => if x ∈ M ++ [a] then some () else none) (M ++ [a]).length ∧ Boxed w2 Bk 68 (.map (some mb)) ∧ Below base w w2 ∧ base ≤ mb ∧ base ≤ Bk ∧ base ≤ Bm ∧ Bk ≠ mb ∧ Bm ≠ mb ∧ Bk ≠ Bm ∧ (∀ k, v.ownBlock = some k → k ≠ mb ∧ k ≠ Bk ∧ k ≠ Bm) ∧ mb < w2.heap.size) := by
      refine ⟨hm2.congr (fun k _ => ?_), b1, hB2, h3, h6, h7, n1, n2, n3, n4, hm2.lt⟩
      by_cases hk : k = a
      · subst hk; simp
      · simp [hk]
    obtain ⟨c0, c1, _, _⟩ := hR2.cells
    have hk2 : w1.cell? ⟨Bk, 0, none⟩ = some (.map (some mb)) := (hb1.cell (p := ⟨Bk, 0, none⟩) h1.lt).trans hk
    have hv2 := b2.cell
    have HO : Hid (OwnL base w2 v M ∧ Boxed w2 Bm 28 v ∧ M.length + 1 ≤ 1000000) := ⟨o2, b2, hl⟩
    have hrun2 : (Instr.mapUpdate 68 (.map (some mb)) a.val (.agg #[])).run Try.prog w1 = .ok () w2 := hrun
    clear hrun
    subst hw1
    obtain ⟨lm, hlm⟩ : ∃ lm, M.length = lm := ⟨_, rfl⟩
    obtain ⟨av, cv, hvv⟩ := o2.form
    rw [hlm] at hvv
    subst hvv
    clear e1 hm h1 h2 h3 h4 h5 h6 h7 h8 h9 hlook hk hmbl hl ha HL hb1 hR1 hm2 ho2 hs2 e2 hmap n1 n2 n3 hrow n4 b1 b2 o2 hR2 hB2 hbase H hlm
    obtain ⟨p, n⟩ := a
    simp only [Lb.val] at *
    go_enter Try.func31, Try.ntmps31
    go_wp2_with (first | (at_builtin; refine app_L1 und_L ⟨p, n⟩ HO.out.1 (by have := HO.out.2.2; omega) hsz2 rfl (.tmp 17) (.tmp 19) rfl rfl rfl ?_; intro v' w3 ho3 hb3 hon3 hs3 hwh3; obtain ⟨av', cv', hvv'⟩ := ho3.form; subst hvv'; have hb4 : Boxed w3 Bm 28 (.slice av lm cv) := (hon3.block Bm HO.out.2.1.lt (fun hm => (HZ.out.2.2.2.2.2.2.2.2.2.1 Bm (by simpa using hm)).2.2 rfl)).trans HO.out.2.1; have hc4 := hb4.cell; have hf4 := hb4.frozen))
    go_end0
    obtain ⟨z1, z2, z3, z4, z5, z6, z7, z8, z9, z10, z11⟩ := HZ.out
    have hon4 := Only.set w3 Bm 0 (.slice av' (M.length + 1) cv')
    have hlen : (M ++ [(⟨p, n⟩ : Lb)]).length = M.length + 1 := by simp
    rw [hlen] at ho3
    have hmb3 : MP cU w3 mb (fun x => if x ∈ M ++ [(⟨p, n⟩ : Lb)] then some () else none) (M ++ [(⟨p, n⟩ : Lb)]).length := z1.only hon3 (fun hm => (z10 mb (by simpa using hm)).1 rfl)
    have hbk3 : Boxed w3 Bk 68 (.map (some mb)) := (hon3.block Bk z2.lt (fun hm => (z10 Bk (by simpa using hm)).2.1 rfl)).trans z2
    refine ⟨rfl, ?_, ?_⟩
    · rw [HE.out]
      refine ⟨⟨mb, (hon4.block Bk hbk3.lt (by simpa using z9)).trans hbk3, hmb3.only hon4 (by simpa using z8.symm), z4⟩, ⟨_, hb4.set _, ?_⟩, z5, z6, HND.out.1, HND.out.2⟩
      refine OwnL.only ho3 hon4 (fun k hk hm => ?_)
      have : k = Bm := by simpa using hm
      subst this
      rcases OL.of ho3 with ⟨e, _⟩ | ⟨q, cap, rest, e, hol⟩
      · rw [e] at hk; cases hk
      · rw [e] at hk
        simp only [Value.ownBlock, Option.some.injEq] at hk
        subst hk
        have := hol.blk.symm.trans hb4
        injection this with this
        injection this with _ this _
        exact absurd this (by decide)
    · exact below_trans z3 (below_trans hb3 (hon4.below (Nat.le_trans (Nat.le_trans hsz2 (Nat.le_refl _)) hon3.size) (fun k hk => by have e : k = Bm := (by simpa using hk); omega)))

set_option maxRecDepth 100000 in
set_option maxHeartbeats 4000000 in
theorem room_any {w : World} {F : Nat → Prop} {g : Nat} {ns : List Lb} {out : Lb → List Lb} (h : GR w F g ns out) {v : Value} {fr : List Lb} (hv : LS w v fr) (hl : fr.length ≤ 4000000) (hu : ∀ x ∈ fr, Lu x) :
    Calls Try.prog 30 #[.pointer (some ⟨g, 0, none⟩), v] w fun e w' => ∃ r : Nat, e = .returned (.int .i64 r) ∧ r ≤ 1000000 ∧ Below w.heap.size w w' := by
  have H : Hid (GR w F g ns out ∧ LS w v fr ∧ ∀ x ∈ fr, Lu x) := ⟨h, hv, hu⟩
  obtain ⟨mm, hmc, _, hml, _, hlen, hlk⟩ := h.map
  have hz := h.sz
  have HLK : Hid (∀ a, Lu a → ∃ v, OwnL 0 w v (out a) ∧ (∀ k, v.ownBlock = some k → F k) ∧ ∀ w' : World, w'.heap[mm]? = w.heap[mm]? → (Instr.lookup 60 (.map (some mm)) a.val false).run Try.prog w' = .ok v w' ∧ (Instr.lookup 60 (.map (some mm)) a.val true).run Try.prog w' = .ok (.tuple #[v, .bool (decide (a ∈ ns))]) w') := hlk
  have HM : Hid (w.cell? ⟨g, 0, none⟩ = some (.map (some mm)) ∧ mm < w.heap.size ∧ g < w.heap.size) := ⟨hmc, hml, h.glt⟩
  have hl1 := hlen w rfl
  obtain ⟨fl, hfl⟩ : ∃ fl, fr.length = fl := ⟨_, rfl⟩
  obtain ⟨av, cv, hvv, _⟩ := hv.form
  rw [hfl] at hvv hl
  subst hvv
  have HFL : Hid (fr.length = fl) := hfl
  obtain ⟨nl, hnl⟩ : ∃ nl, ns.length = nl := ⟨_, rfl⟩
  rw [hnl] at hz hl1
  have HNL : Hid (ns.length = nl) := hnl
  clear hlk hml h hv hu hfl hlen hnl
  go_enter Try.func30, Try.ntmps30
  go_wp2_with fail
  go_loopw [5, 18] (fun s5 s18 wr => ∃ (r k : Nat), s5 = .int .i64 r ∧ s18 = .int .i64 k ∧ r ≤ 1000000 ∧ k ≤ fl ∧ Below w.heap.size w wr) (fun _ s18 _ => fl - (intOf s18).toNat)
  case atStart =>
    refine ⟨min fl nl, 0, ?_, rfl, by omega, by omega, Below.refl _ _⟩
    congr 1
    omega
  case round =>
    obtain ⟨r, k, rfl, rfl, hr, hk, hb⟩ := hrel
    have HB : Hid (Below w.heap.size w wr) := hb
    clear hb
    by_cases hlt : k < fl
    · have hkl : k < fr.length := by rw [HFL.out]; exact hlt
      obtain ⟨b, off, ea, hbw, d0, d1⟩ := LS.at H.out.2.1 HB.out hkl
      subst ea
      obtain ⟨a, hae⟩ : ∃ a, fr[k] = a := ⟨_, rfl⟩
      have hlu : Lu a := by rw [← hae]; exact H.out.2.2 _ (List.getElem_mem hkl)
      rw [hae] at d0 d1
      clear hae
      obtain ⟨va, hva, _, hlook⟩ := HLK.out a hlu
      have hol := H.out.1.olen a
      obtain ⟨ol, hole⟩ : ∃ ol, (out a).length = ol := ⟨_, rfl⟩
      obtain ⟨aa, ca, hvv⟩ := hva.form
      rw [hole] at hvv hol
      subst hvv
      rw [HNL.out] at hol
      obtain ⟨p, n⟩ := a
      simp only at d0 d1
      have hmc3 := cell_alloc (.cells #[.string (bs p), .string (bs n)] 31) (Nat.lt_of_lt_of_le HM.out.2.2 HB.out.size) ((HB.out.cell (p := ⟨g, 0, none⟩) HM.out.2.2).trans HM.out.1)
      have hlook' : (Instr.lookup 60 (.map (some mm)) (.agg #[.string (bs p), .string (bs n)]) false).run Try.prog (wr.alloc (.cells #[.string (bs p), .string (bs n)] 31)).drew = .ok (.slice aa ol ca) (wr.alloc (.cells #[.string (bs p), .string (bs n)] 31)).drew :=
        (hlook (wr.alloc (.cells #[.string (bs p), .string (bs n)] 31)).drew ((heap_alloc_old wr (.cells #[.string (bs p), .string (bs n)] 31) (Nat.lt_of_lt_of_le HM.out.2.1 HB.out.size)).trans (HB.out.block mm HM.out.2.1))).1
      have k1 : (k : Int) < (fl : Int) := by omega
      clear hlook hva hlu hole
      go_wp2_with fail
      go_region
      go_wp2_with fail
      go_roundw
      case rel => exact ⟨max r ol, k + 1, by congr 1; omega, by go_num, by omega, by omega, bstep HB.out (balloc wr _).drew⟩
      case measure => simp [intOf]; omega
    · obtain rfl : fl = k := by omega
      go_wp2_with fail
      go_ret
      exact ⟨r, rfl, hr, HB.out⟩
end Go.Proofs.Ytjohhmfncemknaa

namespace Go.Proofs.Ytjohhmfncemknaa
open Go.RowKit Go.Maps

/-- the cells of a new row -/
def mkC (c : Nat) : Array Value := madeCells (Value.agg #[.string ⟨#[]⟩, .string ⟨#[]⟩]).cells (c * 2)
theorem make_L (c : Nat) (hc : c ≤ 1000000) (w : World) : (Instr.makeSlice 28 (.int .i64 0) (.int .i64 (c : Int))).run Try.prog w = .ok (.slice (some ⟨w.heap.size, 0, none⟩) 0 c) (w.alloc (.cells (mkC c) 31)) := by
  obtain ⟨i0, hi, hz0, hz1, hz2⟩ := info_parts info_L
  have h := run_make (P := Try.prog) w 28 31 i0 _ und_L hi hz0 .i64 .i64 0 (c : Int) (by omega) (by omega) (by rw [hz2]; omega) (by omega)
  rw [hz1] at h
  simpa [mkC] using h
theorem own_L (c : Nat) (hc : c ≤ 1000000) (w : World) : OwnL w.heap.size (w.alloc (.cells (mkC c) 31)) (.slice (some ⟨w.heap.size, 0, none⟩) 0 c) [] := by
  obtain ⟨i0, hi, hz0, hz1, hz2⟩ := info_parts info_L
  obtain ⟨w', h1, h2, h3⟩ := run_make_own (P := Try.prog) w w.heap.size 28 31 i0 _ 2 und_L hi hz0 hz1 .i64 .i64 c (by rw [hz2]; omega) (by unfold maxLen; omega) (Nat.le_refl _)
  rw [make_L c hc w] at h1
  injection h1 with _ h1
  rw [← h1] at h2
  exact h2
theorem make_M {t k e : TypeId} (ht : Try.prog.underlying t = some (.map k e)) (c : Nat) (w : World) : (Instr.makeMap t (some (.int .i64 (c : Int)))).run Try.prog w = .ok (.map (some w.heap.size)) (w.alloc (.map #[] 0)) := by
  simp [Instr.makeMap, run_underlying ht, asInt, asIntOf]
end Go.Proofs.Ytjohhmfncemknaa
