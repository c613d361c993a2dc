/-
  The document's shown and cost.
  The document's cost.
  The document's looks and costs.
-/
import Derived.Test.YtbaheiimcnfaaaaGreatFw
import Derived.Test.YtbaheiimcnfaaaaGreatJKn3
import Derived.Test.YtbaheiimcnfaaaaGreatJTRefV
import Derived.Test.YtbaheiimcnfaaaaGreatJSl
namespace Go.Proofs.YtbaheiimcnfaaaaGreat
open Go.RowKit Go.Maps
attribute [local go_sem] Oper.semAt_some

theorem dir_lenR (l : List UInt8) : (dir l).length ≤ l.length := by
  unfold dir; split
  · simp
  · simp; omega
def nr (d c : List UInt8) : Bool := decide (d = c) || abvV c d || abvV d c
theorem shw_nr (k : List (List UInt8)) (p : List UInt8) : shw k p = (decide (dir p = []) || k.any (nr (dir p))) := rfl
theorem any_at (k : List (List UInt8)) (f : List UInt8 → Bool) (i : Nat) (h : i < k.length) : (k.take (i + 1)).any f = ((k.take i).any f || f k[i]) := by
  rw [List.take_succ_eq_append_getElem h, List.any_append]
  simp
set_option maxRecDepth 100000 in
set_option maxHeartbeats 8000000 in
theorem rshown_any (M : MC) (RD : ∀ (p : List UInt8) (w : World), p.length ≤ 120 → Calls Tryz.prog 109 #[.string (bs p)] w fun e w' => e = .returned (.string (bs (dir p))) ∧ Below w.heap.size w w')
    {w : World} {u : Value} {k : List (List UInt8)} (p : List UInt8) (h : SS w u k) (hs : ∀ c ∈ k, c.length ≤ 120) (hp : p.length ≤ 120) (hl : k.length ≤ 1000000) : Calls Tryz.prog 78 #[u, .string (bs p)] w fun e w' => e = .returned (.bool (shw k p)) ∧ Below w.heap.size w w' := by
  have HDL : Hid ((∀ c ∈ k, c.length ≤ 120) ∧ (dir p).length ≤ 120) := ⟨hs, by have := dir_lenR p; omega⟩
  have HRD := hid_of (RD p w hp)
  obtain ⟨ka, kc, hv, hc⟩ := h.form
  obtain ⟨n, hn⟩ : ∃ n, k.length = n := ⟨_, rfl⟩
  rw [hn] at hv hl
  subst hv
  have HN : Hid (k.length = n) := hn
  have HC : Hid (∀ j, (hj : j < k.length) → ∃ b off, ka = some ⟨b, off, none⟩ ∧ b < w.heap.size ∧ w.cell? ⟨b, off + j, none⟩ = some (.string (bs k[j]))) := hc
  have HW : Hid (shw k p = (decide (dir p = []) || k.any (nr (dir p)))) := shw_nr k p
  clear h hs hp hn hc RD
  go_enter Tryz.func78, Tryz.ntmps78
  go_wp2_with fail
  refine HRD.out.mono ?_
  rintro e w1 ⟨rfl, hb1⟩
  have HB1 : Hid (Below w.heap.size w w1) := hb1
  clear hb1 HRD
  generalize dir p = d at HDL HW ⊢
  go_wp2_with fail
  go_loopw [6] (fun s6 wr => ∃ i : Nat, s6 = .int .i64 i ∧ i ≤ n ∧ (k.take i).any (nr d) = false ∧ Below w.heap.size w wr) (fun s6 _ => n - (intOf s6).toNat)
  case atStart => exact ⟨0, rfl, Nat.zero_le _, rfl, HB1.out⟩
  case round =>
    obtain ⟨i, rfl, hi, hno, hb⟩ := hrel
    have HR : Hid ((k.take i).any (nr d) = false ∧ Below w.heap.size w wr) := ⟨hno, hb⟩
    clear hno hb
    have t2 : (bs d).toList = d := bs_toList _
    by_cases hlt : i < n
    · have i1 : (i : Int) < (n : Int) := by omega
      have i2 : (0 : Int) ≤ (i : Int) := by omega
      have hil : i < k.length := by rw [HN.out]; exact hlt
      obtain ⟨b, off, ea, hbl, c0⟩ := HC.out i hil
      subst ea
      have hst := any_at k (nr d) i hil
      rw [HR.out.1, Bool.false_or] at hst
      have hit : nr d k[i] = true → shw k p = true := fun h => by
        rw [HW.out, Bool.or_eq_true]
        exact .inr (List.any_eq_true.2 ⟨_, List.getElem_mem hil, h⟩)
      have hcl := HDL.out.1 _ (List.getElem_mem hil)
      generalize k[i] = c at c0 hst hit hcl
      have HC0 : Hid (∀ W, Below w.heap.size w W → W.cell? ⟨b, off + i, none⟩ = some (.string (bs c))) := fun W hW => (hW.cell (p := ⟨b, off + i, none⟩) hbl).trans c0
      have HT : Hid ((k.take (i + 1)).any (nr d) = nr d c ∧ (nr d c = true → shw k p = true)) := ⟨hst, hit⟩
      have c1 := HC0.out wr HR.out.2
      have t1 : (bs c).toList = c := bs_toList _
      obtain ⟨q, hq⟩ : ∃ q, (d == c) = q := ⟨_, rfl⟩
      have hq2 : decide (d = c) = q := by rw [← hq]; exact Bool.eq_iff_iff.2 (by simp)
      clear c0 hst hit
      cases q
      · go_wp2_with fail
        refine (M.above c d wr hcl HDL.out.2).mono ?_
        rintro e w2 ⟨rfl, hb2⟩
        have HB2 : Hid (Below w.heap.size w w2) := bstep HR.out.2 hb2
        clear hb2
        obtain ⟨a, ha⟩ : ∃ a, abvV c d = a := ⟨_, rfl⟩
        rw [ha]
        have c2 := HC0.out w2 HB2.out
        cases a
        · go_wp2_with fail
          refine (M.above d c w2 HDL.out.2 hcl).mono ?_
          rintro e w3 ⟨rfl, hb3⟩
          have HB3 : Hid (Below w.heap.size w w3) := bstep HB2.out hb3
          clear hb3
          obtain ⟨a', ha'⟩ : ∃ a', abvV d c = a' := ⟨_, rfl⟩
          rw [ha']
          have hnr : nr d c = a' := by unfold nr; rw [hq2, ha, ha']; rfl
          cases a'
          · go_wp2_with fail
            go_roundw
            case rel => exact ⟨i + 1, by go_num, by omega, HT.out.1.trans hnr, HB3.out⟩
            case measure => simp [intOf]; omega
          · go_wp2_with fail
            go_ret
            exact ⟨by rw [HT.out.2 hnr]; rfl, HB3.out⟩
        · have hnr : nr d c = true := by unfold nr; rw [hq2, ha]; rfl
          go_wp2_with fail
          go_ret
          exact ⟨by rw [HT.out.2 hnr]; rfl, HB2.out⟩
      · have hnr : nr d c = true := by unfold nr; rw [hq2]; rfl
        go_wp2_with fail
        go_ret
        exact ⟨by rw [HT.out.2 hnr]; rfl, HR.out.2⟩
    · obtain rfl : n = i := by omega
      have hfin : shw k p = decide (d = []) := by
        have h1 := HR.out.1
        rw [List.take_of_length_le (by rw [HN.out]; exact Nat.le_refl _)] at h1
        rw [HW.out, h1, Bool.or_false]
      obtain ⟨q, hq⟩ : ∃ q, (d == []) = q := ⟨_, rfl⟩
      have hq2 : decide (d = []) = q := by rw [← hq]; exact Bool.eq_iff_iff.2 (by simp)
      rw [hq2] at hfin
      have HF : Hid (shw k p = q) := hfin
      clear hfin hq2
      go_wp2_with fail
      go_ret
      exact ⟨by rw [HF.out]; rfl, HR.out.2⟩
end Go.Proofs.YtbaheiimcnfaaaaGreat

namespace Go.Proofs.YtbaheiimcnfaaaaGreat
open Go.RowKit Go.Maps
attribute [local go_sem] Oper.semAt_some

theorem sumZ_pos : ∀ l : List Fl, (∀ f ∈ l, 0 ≤ f.size) → 0 ≤ sumZ l
  | [], _ => Int.le_refl 0
  | a :: r, h => by
    have h1 := sumZ_pos r (fun f hf => h f (by simp [hf]))
    have h2 := h a (by simp)
    rw [sumZ_cons]; omega
/-- what the first files are together -/
def gz (l : List Fl) (k : List (List UInt8)) (i : Nat) : Int := sumZ ((l.take i).filter (fun f => shw k f.path))
theorem gz_at (l : List Fl) (k : List (List UInt8)) (i : Nat) (h : i < l.length) : gz l k (i + 1) = gz l k i + (if shw k l[i].path then l[i].size else 0) := by
  unfold gz
  rw [List.take_succ_eq_append_getElem h, List.filter_append, sumZ_app]
  cases e : shw k l[i].path with
  | true => rw [List.filter_cons, if_pos e]; show _ + (l[i].size + 0) = _; rw [if_pos rfl]; omega
  | false => rw [List.filter_cons, if_neg (by simp [e])]; show _ + (0 : Int) = _; rw [if_neg (by simp)]
theorem gz_le {l : List Fl} {k : List (List UInt8)} (hz : ∀ f ∈ l, 0 ≤ f.size) (i : Nat) : 0 ≤ gz l k i ∧ gz l k i ≤ sumZ (l.filter (fun f => shw k f.path)) := by
  refine ⟨sumZ_pos _ (fun f hf => hz f (List.mem_of_mem_take (List.mem_filter.1 hf).1)), ?_⟩
  have e : l.filter (fun f => shw k f.path) = (l.take i).filter (fun f => shw k f.path) ++ (l.drop i).filter (fun f => shw k f.path) := by rw [← List.filter_append, List.take_append_drop]
  rw [e, sumZ_app]
  have := sumZ_pos ((l.drop i).filter (fun f => shw k f.path)) (fun f hf => hz f (List.mem_of_mem_drop (List.mem_filter.1 hf).1))
  unfold gz
  omega
set_option maxRecDepth 100000 in
set_option maxHeartbeats 8000000 in
theorem rcost_any (M : MC) (RD : ∀ (p : List UInt8) (w : World), p.length ≤ 120 → Calls Tryz.prog 109 #[.string (bs p)] w fun e w' => e = .returned (.string (bs (dir p))) ∧ Below w.heap.size w w')
    {w : World} {v u : Value} {l : List Fl} {k : List (List UInt8)} (hf : FS w v l) (h : SS w u k) (hs : ∀ c ∈ k, c.length ≤ 120) (hp : ∀ f ∈ l, f.path.length ≤ 120 ∧ 0 ≤ f.size ∧ f.size ≤ 9223372036854775807) (hl : k.length ≤ 1000000) (hn : l.length ≤ 1000000) :
    Calls Tryz.prog 46 #[v, u] w fun e w' => e = .returned (.int .i64 (cst l k)) ∧ Below w.heap.size w w' := by
  have HX : Hid (FS w v l ∧ SS w u k ∧ (∀ f ∈ l, f.path.length ≤ 120 ∧ 0 ≤ f.size ∧ f.size ≤ 9223372036854775807)) := ⟨hf, h, hp⟩
  have HSH := hid_of (fun W (hW : Below w.heap.size w W) p (hpp : p.length ≤ 120) => rshown_any M RD p (h.later hW) hs hpp hl)
  obtain ⟨fa, fcp, hfv, -⟩ := hf.form
  obtain ⟨n, hfn⟩ : ∃ fn, l.length = fn := ⟨_, rfl⟩
  rw [hfn] at hfv hn
  subst hfv
  obtain ⟨ka, kc, hkv, -⟩ := h.form
  generalize k.length = kn at hkv
  subst hkv
  have HN : Hid (l.length = n) := hfn
  clear hf h hs hp hl hfn RD
  go_enter Tryz.func46, Tryz.ntmps46
  go_wp2_with fail
  go_loopw [5, 6] (fun s5 s6 wr => ∃ i : Nat, s6 = .int .i64 i ∧ s5 = .int .i64 (gz l k i) ∧ i ≤ n ∧ gz l k i ≤ 9223372036854775807 ∧ Below w.heap.size w wr) (fun _ s6 _ => n - (intOf s6).toNat)
  case atStart => exact ⟨0, rfl, rfl, Nat.zero_le _, by unfold gz sumZ; simp, Below.refl _ _⟩
  case round =>
    obtain ⟨i, rfl, rfl, hi, hgm, hb⟩ := hrel
    have HB : Hid (Below w.heap.size w wr) := hb
    clear hb
    have hz : ∀ f ∈ l, 0 ≤ f.size := fun f hf => (HX.out.2.2 f hf).2.1
    obtain ⟨hg0, hg1⟩ := gz_le (k := k) hz i
    by_cases hlt : i < n
    · have i1 : (i : Int) < (n : Int) := by omega
      have i2 : (0 : Int) ≤ (i : Int) := by omega
      have hil : i < l.length := by rw [HN.out]; exact hlt
      have hst := gz_at l k i hil
      obtain ⟨-, hg2⟩ := gz_le (k := k) hz (i + 1)
      have hcst : cst l k = min (sumZ (l.filter (fun f => shw k f.path))) 9223372036854775807 := rfl
      obtain ⟨hpl, hs0, hs1⟩ := HX.out.2.2 _ (List.getElem_mem hil)
      obtain ⟨b, off, ea, hbl, -⟩ := FS.at (by have q := HX.out.1; rw [← HN.out] at q; exact q) HB.out hil
      subst ea
      have HC0 : Hid (∀ W, Below w.heap.size w W → W.cell? ⟨b, off + i * 4, none⟩ = some (.string (bs l[i].path)) ∧ W.cell? ⟨b, off + i * 4 + 3, none⟩ = some (.int .i64 l[i].size)) := fun W hW => by
        obtain ⟨b', off', e', _, d0, _, _, d3⟩ := FS.at (by have q := HX.out.1; rw [← HN.out] at q; exact q) hW hil
        cases e'
        exact ⟨d0, d3⟩
      generalize l[i] = f at hst hpl hs0 hs1 HC0
      obtain ⟨fp, ft, fb, fz⟩ := f
      simp only at hst hpl hs0 hs1 HC0
      obtain ⟨c0, -⟩ := HC0.out wr HB.out
      generalize sumZ (l.filter (fun f => shw k f.path)) = tot at hg1 hg2 hcst
      generalize hgi : gz l k i = g at hst hg0 hg1 hgm ⊢
      have HAR : Hid (fz ≤ 9223372036854775807 ∧ 0 ≤ fz ∧ g ≤ 9223372036854775807 ∧ 0 ≤ g ∧ g ≤ tot ∧ gz l k (i + 1) ≤ tot ∧ cst l k = min tot 9223372036854775807 ∧ gz l k (i + 1) = g + (if shw k fp then fz else 0)) := ⟨hs1, hs0, hgm, hg0, hg1, hg2, hcst, hst⟩
      clear hs1 hs0 hgm hg0 hg1 hg2 hcst hst hgi hz
      go_wp2_with fail
      refine (HSH.out wr HB.out fp hpl).mono ?_
      rintro e w1 ⟨rfl, hb1⟩
      have HB1 : Hid (Below w.heap.size w w1) := bstep HB.out hb1
      clear hb1 c0
      obtain ⟨-, c3⟩ := HC0.out w1 HB1.out
      obtain ⟨q, hq⟩ : ∃ q, shw k fp = q := ⟨_, rfl⟩
      rw [hq] at HAR ⊢
      cases q
      · have HG : Hid (gz l k (i + 1) = g) := by
          show gz l k (i + 1) = g
          have h1 := HAR.out.2.2.2.2.2.2.2
          simpa using h1
        go_wp2_with fail
        go_roundw
        case rel => exact ⟨i + 1, by go_num, by rw [HG.out], by omega, by rw [HG.out]; exact HAR.out.2.2.1, HB1.out⟩
        case measure => simp [intOf]; omega
      · have HG : Hid (gz l k (i + 1) = g + fz ∧ cst l k = min tot 9223372036854775807) := ⟨by have h1 := HAR.out.2.2.2.2.2.2.2; simpa using h1, HAR.out.2.2.2.2.2.2.1⟩
        have HH : Hid (fz ≤ 9223372036854775807 ∧ 0 ≤ fz ∧ g ≤ 9223372036854775807 ∧ 0 ≤ g ∧ g + fz ≤ tot ∧ g ≤ tot) := ⟨HAR.out.1, HAR.out.2.1, HAR.out.2.2.1, HAR.out.2.2.2.1, by rw [← HG.out.1]; exact HAR.out.2.2.2.2.2.1, HAR.out.2.2.2.2.1⟩
        obtain ⟨m, hm⟩ : ∃ m, (9223372036854775807 : Int) - fz = m := ⟨_, rfl⟩
        have w1' : wrap64 (9223372036854775807 - fz) = m := by obtain ⟨a1, a2, _⟩ := HH.out; rw [← hm]; unfold wrap64; omega
        have HMM : Hid ((9223372036854775807 : Int) - fz = m) := hm
        clear hm
        by_cases hov : m < g
        · go_wp2_with fail
          go_ret
          obtain ⟨a1, a2, a3, a4, a5, a6⟩ := HH.out
          have hm := HMM.out
          exact ⟨by rw [HG.out.2, show min tot 9223372036854775807 = 9223372036854775807 from by omega]; rfl, HB1.out⟩
        · obtain ⟨s, hs⟩ : ∃ s, g + fz = s := ⟨_, rfl⟩
          have w2' : wrap64 (g + fz) = s := by obtain ⟨a1, a2, a3, a4, a5, a6⟩ := HH.out; have hm := HMM.out; unfold wrap64; omega
          have HS2 : Hid (g + fz = s ∧ s ≤ 9223372036854775807) := ⟨hs, by obtain ⟨a1, a2, a3, a4, a5, a6⟩ := HH.out; have hm := HMM.out; omega⟩
          clear hs
          go_wp2_with fail
          go_roundw
          case rel => exact ⟨i + 1, by go_num, by rw [HG.out.1, w2', HS2.out.1], by omega, by rw [HG.out.1, HS2.out.1]; exact HS2.out.2, HB1.out⟩
          case measure => simp [intOf]; omega
    · obtain rfl : n = i := by omega
      have hfin : cst l k = gz l k n := by
        have e : gz l k n = sumZ (l.filter (fun f => shw k f.path)) := by
          unfold gz
          rw [List.take_of_length_le (by rw [HN.out]; exact Nat.le_refl _)]
        unfold cst
        rw [← e]
        omega
      have HF : Hid (cst l k = gz l k n) := hfin
      clear hfin hg1
      go_wp2_with fail
      go_ret
      exact ⟨by rw [HF.out]; rfl, HB.out⟩
end Go.Proofs.YtbaheiimcnfaaaaGreat

namespace Go.Proofs.YtbaheiimcnfaaaaGreat
open Go.RowKit Go.Maps
attribute [local go_sem] Oper.semAt_some

/-- the files of a snapshot, for the document -/
structure RefOk (l : List Fl) : Prop where
  each : ∀ f ∈ l, f.path.length ≤ 120 ∧ 0 ≤ f.size ∧ f.size ≤ 9223372036854775807
  len : l.length ≤ 1000000
theorem RefOk.of {l : List Fl} (h : validE l = 0) (sm : FSm l) : RefOk l := by
  obtain ⟨h1, h2, h3⟩ := valid_fls h sm
  exact ⟨fun f hf => ⟨(okP_len (h1 f hf).1).1, (h1 f hf).2.2, by have := h2 f hf; omega⟩, by omega⟩
theorem rat_c {w : World} {u : Value} {k : List (List UInt8)} {p : List UInt8} (h : SS w u k) (sk : Sm k) (hp : p.length ≤ 1000000) (hl : k.length ≤ 1000000) : Calls Tryz.prog 19 #[u, .string (bs p)] w (TwoS w (mat k p)) :=
  rat_any mc_any (fun p w hp => rvalid_any p w (by omega)) p h sk hp hl
theorem rcost_c {w : World} {v u : Value} {l : List Fl} {k : List (List UInt8)} (hf : FS w v l) (h : SS w u k) (ok : RefOk l) (hk : coneE k = 0) (hl : k.length ≤ 1000000) : Calls Tryz.prog 46 #[v, u] w fun e w' => e = .returned (.int .i64 (cst l k)) ∧ Below w.heap.size w w' :=
  rcost_any mc_any (fun p w hp => (rdir_any p w (by omega)).mono fun e w' ⟨h1, h2⟩ => ⟨h1, by rw [h2]; exact Below.refl _ _⟩) hf h (fun c hc => (okP_len ((coneB_iff.1 (coneE_zero.1 hk)).1 c hc)).1) ok.each hl ok.len
set_option maxRecDepth 100000 in
theorem rlooked_any {w : World} {v u : Value} {l : List Fl} {k : List (List UInt8)} (h : FS w v l) (sm : FSm l) (hu : SS w u k) (sk : Sm k) : Calls Tryz.prog 44 #[v, u] w fun e w' => e = .returned (.int .i64 (mErr l k)) ∧ Below w.heap.size w w' := by
  have HV := hid_of (kvalid_any h sm)
  have HC := hid_of (fun W (hW : Below w.heap.size w W) => rcones_any (hu.later hW) sk)
  have HE : Hid (mErr l k = if validE l = 0 then (if coneB k then 0 else 13) else validE l) := rfl
  obtain ⟨e0, he0⟩ : ∃ e0, validE l = e0 := ⟨_, rfl⟩
  obtain ⟨q, hq⟩ : ∃ q, coneB k = q := ⟨_, rfl⟩
  rw [he0, hq] at HE
  rw [he0] at HV
  rw [hq] at HC
  clear h sm hu sk he0 hq
  by_cases h0 : e0 = 0
  · subst h0
    go_enter Tryz.func44, Tryz.ntmps44
    go_wp2_with fail
    refine HV.out.mono ?_
    rintro e w1 ⟨rfl, hb1⟩
    have H1 := hid_of hb1
    clear hb1
    go_wp2_with fail
    refine (HC.out w1 H1.out).mono ?_
    rintro e w2 ⟨rfl, hb2⟩
    have H2 := hid_of (bstep H1.out hb2)
    clear hb2
    cases q
    · go_wp2_with fail
      go_ret
      exact ⟨by rw [HE.out]; rfl, H2.out⟩
    · go_wp2_with fail
      go_ret
      exact ⟨by rw [HE.out]; rfl, H2.out⟩
  · have h0b : (e0 == 0) = false := beq_false_of_ne h0
    rw [if_neg h0] at HE
    go_enter Tryz.func44, Tryz.ntmps44
    go_wp2_with fail
    refine HV.out.mono ?_
    rintro e w1 ⟨rfl, hb1⟩
    have H1 := hid_of hb1
    clear hb1
    go_wp2_with fail
    go_ret
    exact ⟨by rw [HE.out]; rfl, H1.out⟩
set_option maxRecDepth 100000 in
theorem rCost_any {w : World} {v u : Value} {l : List Fl} {k : List (List UInt8)} (h : FS w v l) (sm : FSm l) (hu : SS w u k) (sk : Sm k) (hkl : k.length ≤ 1000000) :
    Calls Tryz.prog 22 #[v, u] w fun e w' => e = .returned (.tuple #[.int .i64 (mcst l k).1, .int .i64 (mcst l k).2]) ∧ Below w.heap.size w w' := by
  have HV := hid_of (rlooked_any h sm hu sk)
  have HC := hid_of (fun (he : mErr l k = 0) W (hW : Below w.heap.size w W) => rcost_c (h.later hW) (hu.later hW) (RefOk.of (mErr_zero.1 he).1 sm) (mErr_zero.1 he).2 hkl)
  have HD : Hid (mcst l k = if mErr l k = 0 then (cst l k, 0) else (0, mErr l k)) := rfl
  obtain ⟨m, hm⟩ : ∃ m, mErr l k = m := ⟨_, rfl⟩
  rw [hm] at HV HC HD
  clear h sm hu sk hm
  by_cases h0 : m = 0
  · subst h0
    rw [if_pos rfl] at HD
    have HC2 := hid_of (fun W hW => HC.out rfl W hW)
    go_enter Tryz.func22, Tryz.ntmps22
    go_wp2_with fail
    refine HV.out.mono ?_
    rintro e w1 ⟨rfl, hb1⟩
    have H1 := hid_of hb1
    clear hb1
    go_wp2_with fail
    refine (HC2.out w1 H1.out).mono ?_
    rintro e w2 ⟨rfl, hb2⟩
    have H2 := hid_of (bstep H1.out hb2)
    clear hb2
    go_wp2_with fail
    go_ret2
    exact ⟨by rw [HD.out]; rfl, H2.out⟩
  · rw [if_neg h0] at HD
    go_enter Tryz.func22, Tryz.ntmps22
    go_wp2_with fail
    refine HV.out.mono ?_
    rintro e w1 ⟨rfl, hb1⟩
    have H1 := hid_of hb1
    clear hb1
    go_wp2_with fail
    go_ret2
    exact ⟨by rw [HD.out]; rfl, H1.out⟩
end Go.Proofs.YtbaheiimcnfaaaaGreat
