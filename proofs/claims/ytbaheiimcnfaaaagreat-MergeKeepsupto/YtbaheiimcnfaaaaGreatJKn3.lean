/-
  Sizes together.
  What the package asks in place of the document's words, as plain lists.
-/
import Derived.Test.YtbaheiimcnfaaaaGreatJPath
import Derived.Test.YtbaheiimcnfaaaaGreatJSPkg2
import Derived.Test.YtbaheiimcnfaaaaGreatJWalk
import Derived.Test.YtbaheiimcnfaaaaGreatJOrd
import Derived.Test.YtbaheiimcnfaaaaGreatJNorm
import Derived.Test.YtbaheiimcnfaaaaGreatJMg2
namespace Go.Proofs.YtbaheiimcnfaaaaGreat
open Go.RowKit Go.Maps
attribute [local go_sem] Oper.semAt_some

set_option maxRecDepth 100000 in
theorem together_any (a b : Int) (w : World) (ha : 0 ≤ a ∧ a ≤ 9223372036854775807) (hb : 0 ≤ b ∧ b ≤ 9223372036854775807) :
    Calls Tryz.prog 47 #[.int .i64 a, .int .i64 b] w fun e w' => e = .returned (.int .i64 (tog a b)) ∧ w' = w := by
  obtain ⟨m, hm⟩ : ∃ m, (9223372036854775807 : Int) - a = m := ⟨_, rfl⟩
  have w1 : wrap64 (9223372036854775807 - a) = m := by rw [← hm]; unfold wrap64; omega
  have HM : Hid ((9223372036854775807 : Int) - a = m) := hm
  by_cases hov : m < b
  · go_enter Tryz.func47, Tryz.ntmps47
    go_wp2_with fail
    go_ret
    refine ⟨?_, rfl⟩
    unfold tog
    rw [HM.out, if_pos hov]
    rfl
  · obtain ⟨s, hs⟩ : ∃ s, a + b = s := ⟨_, rfl⟩
    have w2 : wrap64 (a + b) = s := by rw [← hs]; unfold wrap64; omega
    have HS : Hid (a + b = s) := hs
    clear hs hm ha hb
    go_enter Tryz.func47, Tryz.ntmps47
    go_wp2_with fail
    go_ret
    refine ⟨?_, rfl⟩
    unfold tog
    rw [HM.out, if_neg (by omega), HS.out]
    rfl
def szt (l : List Fl) (i : Nat) : Int := min (sumZ (l.take i)) 9223372036854775807
theorem sumZ_app : ∀ a b : List Fl, sumZ (a ++ b) = sumZ a + sumZ b
  | [], b => by show sumZ b = 0 + sumZ b; omega
  | x :: a, b => by
    rw [List.cons_append, sumZ_cons, sumZ_cons, sumZ_app a b]; omega
theorem szt_pos {l : List Fl} (hz : ∀ f ∈ l, 0 ≤ f.size) (i : Nat) : 0 ≤ szt l i ∧ szt l i ≤ 9223372036854775807 := by
  have := sum_pos (l := l.take i) fun f hf => hz f (List.mem_of_mem_take hf)
  unfold szt
  omega
theorem szt_at {l : List Fl} (hz : ∀ f ∈ l, 0 ≤ f.size ∧ f.size ≤ 9223372036854775807) {i : Nat} (h : i < l.length) : szt l (i + 1) = tog (szt l i) l[i].size := by
  have h1 := sum_pos (l := l.take i) fun f hf => (hz f (List.mem_of_mem_take hf)).1
  have h2 := hz _ (List.getElem_mem h)
  unfold szt tog
  rw [List.take_succ_eq_append_getElem h, sumZ_app]
  have : sumZ [l[i]] = l[i].size := by show l[i].size + 0 = _; omega
  rw [this]
  split <;> omega
set_option maxRecDepth 100000 in
set_option maxHeartbeats 8000000 in
theorem sizes_any {w : World} {v : Value} {l : List Fl} (hf : FS w v l) (hp : ∀ f ∈ l, 0 ≤ f.size ∧ f.size ≤ 9223372036854775807) (hn : l.length ≤ 1000000) :
    Calls Tryz.prog 24 #[v] w fun e w' => e = .returned (.int .i64 (min (sumZ l) 9223372036854775807)) ∧ Below w.heap.size w w' := by
  have HX : Hid (FS w v l ∧ (∀ f ∈ l, 0 ≤ f.size ∧ f.size ≤ 9223372036854775807)) := ⟨hf, hp⟩
  obtain ⟨fa, fcp, hfv, -⟩ := hf.form
  obtain ⟨n, hfn⟩ : ∃ fn, l.length = fn := ⟨_, rfl⟩
  rw [hfn] at hfv hn
  subst hfv
  have HN : Hid (l.length = n) := hfn
  clear hf hp hfn
  go_enter Tryz.func24, Tryz.ntmps24
  go_wp2_with fail
  go_loopw [3, 5, 8] (fun s3 s5 s8 wr => ∃ i : Nat, s8 = .int .i64 i ∧ s3 = .int .i64 (szt l i) ∧ i ≤ n ∧ Below w.heap.size w wr) (fun _ _ s8 _ => n - (intOf s8).toNat)
  case atStart => exact ⟨0, rfl, rfl, Nat.zero_le _, Below.refl _ _⟩
  case round =>
    obtain ⟨i, rfl, rfl, hi, hb⟩ := hrel
    have HB : Hid (Below w.heap.size w wr) := hb
    clear hb
    by_cases hlt : i < n
    · have i1 : (i : Int) < (n : Int) := by omega
      have i2 : (0 : Int) ≤ (i : Int) := by omega
      have hil : i < l.length := by rw [HN.out]; exact hlt
      have HT : Hid (szt l (i + 1) = tog (szt l i) l[i].size ∧ (0 ≤ szt l i ∧ szt l i ≤ 9223372036854775807) ∧ (0 ≤ l[i].size ∧ l[i].size ≤ 9223372036854775807)) := ⟨szt_at HX.out.2 hil, szt_pos (fun f hf => (HX.out.2 f hf).1) i, HX.out.2 _ (List.getElem_mem hil)⟩
      obtain ⟨b, off, ea, hbl, d0, d1, d2, d3⟩ := FS.at (by have q := HX.out.1; rw [← HN.out] at q; exact q) HB.out hil
      subst ea
      generalize l[i] = f at d0 d1 d2 d3 HT
      obtain ⟨fp, ft, fb, fz⟩ := f
      simp only at d0 d1 d2 d3 HT
      go_wp2_with fail
      refine (together_any (szt l i) fz _ HT.out.2.1 HT.out.2.2).mono ?_
      rintro e w1 ⟨rfl, rfl⟩
      rw [← HT.out.1]
      go_wp2_with fail
      go_roundw
      case rel => exact ⟨i + 1, by go_num, rfl, by omega, bstep HB.out (balloc _ _)⟩
      case measure => simp [intOf]; omega
    · obtain rfl : n = i := by omega
      have HF : Hid (szt l n = min (sumZ l) 9223372036854775807) := by
        show szt l n = _
        unfold szt
        rw [List.take_of_length_le (by rw [HN.out]; exact Nat.le_refl _)]
      go_wp2_with fail
      go_ret
      exact ⟨by rw [HF.out]; rfl, HB.out⟩
end Go.Proofs.YtbaheiimcnfaaaaGreat

namespace Go.Proofs.YtbaheiimcnfaaaaGreat
open Go.RowKit

set_option maxRecDepth 100000 in
set_option maxHeartbeats 1000000 in
theorem dir_any (l : List UInt8) (w : World) (hl : l.length ≤ 9223372036854775807) :
    Calls Tryz.prog 60 #[.string (bs l)] w fun e w' => e = .returned (.string (bs (dir l))) ∧ w' = w := by
  have HL : Hid (l.length ≤ 9223372036854775807) := hl
  clear hl
  have hz : (bs l).size = l.length := rfl
  have h2 := lst_lt l
  by_cases h : lst l < 0
  · have hd0 : dir l = [] := by simp [dir, h]
    rw [hd0]
    go_enter Tryz.func60, Tryz.ntmps60
    go_wp2_with fail
    refine (last_any _ _ HL.out).mono ?_
    rintro e w1 ⟨rfl, rfl⟩
    go_wp2_with fail
    go_ret
    exact ⟨rfl, rfl⟩
  · obtain ⟨n, hn⟩ : ∃ n : Nat, lst l = n := ⟨(lst l).toNat, by omega⟩
    have hd0 : dir l = l.take n := by unfold dir; rw [if_neg h, hn]; rfl
    rw [hd0]
    have HE : Hid ((bs l).extract 0 n = bs (l.take n)) := extract_to l n
    rw [hn] at h h2
    go_enter Tryz.func60, Tryz.ntmps60
    go_wp2_with fail
    refine (last_any _ _ HL.out).mono ?_
    rintro e w1 ⟨rfl, rfl⟩
    rw [hn]
    have h3 : n < l.length := by omega
    go_wp2_with fail
    go_ret
    exact ⟨by rw [← HE.out]; rfl, rfl⟩

end Go.Proofs.YtbaheiimcnfaaaaGreat

namespace Go.Proofs.YtbaheiimcnfaaaaGreat
open Go.RowKit

set_option maxHeartbeats 1000000 in
set_option maxRecDepth 100000 in
theorem same_any {w : World} {va vb : Value} {A B : List (List UInt8)} (h1 : SS w va A) (h2 : SS w vb B) (hA : A.length ≤ 9223372036854775807) :
    Calls Tryz.prog 18 #[va, vb] w fun e w' => e = .returned (.bool (decide (A = B))) ∧ ∃ n, w' = w.drewN n := by
  obtain ⟨a, c, rfl, ca⟩ := h1.form
  obtain ⟨b, c', rfl, cb⟩ := h2.form
  have CA : Hid (∀ k, (hk : k < A.length) → ∃ b off, a = some ⟨b, off, none⟩ ∧ b < w.heap.size ∧ w.cell? ⟨b, off + k, none⟩ = some (.string (bs A[k]))) := ca
  have CB : Hid (∀ k, (hk : k < B.length) → ∃ b' off, b = some ⟨b', off, none⟩ ∧ b' < w.heap.size ∧ w.cell? ⟨b', off + k, none⟩ = some (.string (bs B[k]))) := cb
  clear ca cb h1 h2
  by_cases hl : A.length = B.length
  · have e1 : (((A.length : Int)) != (B.length : Int)) = false := by rw [hl]; simp
    obtain ⟨r, hr⟩ : ∃ r, decide (A = B) = r := ⟨_, rfl⟩
    rw [hr]
    have HR : Hid (decide (A.drop 0 = B.drop 0) = r) := hr
    clear hr
    go_enter Tryz.func18, Tryz.ntmps18
    go_wp2_with fail
    go_loopw [5] (fun i wr => ∃ k n : Nat, k ≤ A.length ∧ i = .int .i64 k ∧ wr = w.drewN n ∧ decide (A.drop k = B.drop k) = r) (fun i _ => A.length - (intOf i).toNat)
    case atStart => exact ⟨0, 0, Nat.zero_le _, rfl, rfl, HR.out⟩
    case round =>
      obtain ⟨k, n, hk, rfl, rfl, hd⟩ := hrel
      have HD : Hid (decide (A.drop k = B.drop k) = r) := hd
      clear hd
      by_cases hlt : k < A.length
      · have hlt2 : k < B.length := by omega
        obtain ⟨g1, o1, rfl, hg1, c1⟩ := CA.out k hlt
        obtain ⟨g2, o2, rfl, hg2, c2⟩ := CB.out k hlt2
        have hd := HD.out
        rw [drop_same hlt hlt2] at hd
        by_cases heq : A[k]'hlt = B[k]'hlt2
        · have t1 : (bs (A[k]'hlt)).toList = A[k]'hlt := bs_toList _
          have t2 : (bs (B[k]'hlt2)).toList = A[k]'hlt := by rw [bs_toList, heq]
          have hd2 : decide (A.drop (k + 1) = B.drop (k + 1)) = r := by rw [← hd]; simp [heq]
          have HD2 : Hid (decide (A.drop (k + 1) = B.drop (k + 1)) = r) := hd2
          clear hd hd2
          go_wp2_with fail
          go_region
          go_wp2_with fail
          go_roundw
          case rel => exact ⟨k + 1, n + 1, by omega, by go_num, rfl, HD2.out⟩
          case measure => simp [intOf]; omega
        · have t1 : (bs (A[k]'hlt)).toList = A[k]'hlt := bs_toList _
          have t2 : (bs (B[k]'hlt2)).toList = B[k]'hlt2 := bs_toList _
          have t3 : ((A[k]'hlt) == (B[k]'hlt2)) = false := by rw [beq_eq_false_iff_ne]; exact heq
          have hd2 : false = r := by rw [← hd]; simp [heq]
          subst hd2
          clear hd
          go_wp2_with fail
          go_region
          go_wp2_with fail
          go_ret
          exact ⟨rfl, n + 1, rfl⟩
      · obtain rfl : k = A.length := by omega
        have hd := HD.out
        have hd2 : true = r := by rw [← hd, List.drop_length, hl, List.drop_length]; simp
        subst hd2
        clear hd
        go_wp2_with fail
        go_ret
        exact ⟨rfl, n, rfl⟩
  · have e1 : (((A.length : Int)) != (B.length : Int)) = true := by rw [bne_iff_ne]; omega
    have e2 : decide (A = B) = false := by rw [decide_eq_false_iff_not]; intro e; exact hl (by rw [e])
    rw [e2]
    go_enter Tryz.func18, Tryz.ntmps18
    go_wp2_with fail
    go_ret
    exact ⟨rfl, 0, rfl⟩
end Go.Proofs.YtbaheiimcnfaaaaGreat

namespace Go.Proofs.YtbaheiimcnfaaaaGreat

/-- do pieces agree as deep as both of them go? -/
def inL : List (List UInt8) → List (List UInt8) → Bool
  | a :: r, b :: s => decide (a = b) && inL r s
  | _, _ => true
theorem inL_iff : ∀ a b : List (List UInt8), inL a b = true ↔ (∃ r, b = a ++ r) ∨ (∃ r, a = b ++ r)
  | [], b => by simp [inL]
  | a :: r, [] => by simp [inL]
  | a :: r, b :: s => by
    simp only [inL, Bool.and_eq_true, decide_eq_true_eq, inL_iff r s]
    constructor
    · rintro ⟨rfl, ⟨x, rfl⟩ | ⟨x, rfl⟩⟩
      · exact .inl ⟨x, rfl⟩
      · exact .inr ⟨x, rfl⟩
    · rintro (⟨x, e⟩ | ⟨x, e⟩)
      · simp only [List.cons_append, List.cons.injEq] at e
        exact ⟨e.1.symm, .inl ⟨x, e.2⟩⟩
      · simp only [List.cons_append, List.cons.injEq] at e
        exact ⟨e.1, .inr ⟨x, e.2⟩⟩
theorem inL_pcs (c d : List UInt8) : inL (pcs c) (pcs d) = (decide (d = c) || abvV c d || abvV d c) := by
  rw [Bool.eq_iff_iff, inL_iff]
  simp only [Bool.or_eq_true, decide_eq_true_eq]
  constructor
  · rintro (⟨r, e⟩ | ⟨r, e⟩)
    · by_cases hr : r = []
      · subst hr; rw [List.append_nil] at e; exact .inl (.inl (pcs_inj e))
      · exact .inl (.inr ((abvV_iff _ _).2 ⟨r, hr, e⟩))
    · by_cases hr : r = []
      · subst hr; rw [List.append_nil] at e; exact .inl (.inl (pcs_inj e).symm)
      · exact .inr ((abvV_iff _ _).2 ⟨r, hr, e⟩)
  · rintro ((rfl | h) | h)
    · exact .inl ⟨[], by simp⟩
    · obtain ⟨r, _, e⟩ := (abvV_iff _ _).1 h
      exact .inl ⟨r, e⟩
    · obtain ⟨r, _, e⟩ := (abvV_iff _ _).1 h
      exact .inr ⟨r, e⟩
theorem shD_any (k : List (List UInt8)) (d : List UInt8) (h : d ≠ []) : shD k d = k.any (fun c => inL (pcs c) (pcs d)) := by
  unfold shD
  simp only [inL_pcs]
  simp [h]
theorem inL_step (a b : List (List UInt8)) (i : Nat) (ha : i < a.length) (hb : i < b.length) : inL (a.drop i) (b.drop i) = (decide (a[i]'ha = b[i]'hb) && inL (a.drop (i + 1)) (b.drop (i + 1))) := by
  rw [List.drop_eq_getElem_cons ha, List.drop_eq_getElem_cons hb, inL]
theorem inL_end (a b : List (List UInt8)) (i : Nat) (h : ¬ i < min a.length b.length) : inL (a.drop i) (b.drop i) = true := by
  by_cases ha : a.length ≤ i
  · rw [List.drop_eq_nil_of_le ha]; simp [inL]
  · have hb : b.length ≤ i := by omega
    rw [List.drop_eq_nil_of_le hb]
    cases a.drop i <;> simp [inL]
/-- cones are what Heads leaves as it is -/
theorem hds_same (k : List (List UInt8)) : decide (hds (norm k) = k) = chnP k := by
  rw [Bool.eq_iff_iff, decide_eq_true_eq, chnP_pw]
  constructor
  · intro e
    have hu : Up (hds (norm k)) := hds_up (up_norm k)
    have key : ∀ b ∈ hds (norm k), ∀ a ∈ hds (norm k), abvV a b = false := fun b hb a ha => (mem_hds.1 hb).2 a (mem_hds.1 ha).1
    rw [e] at hu key
    exact (List.Pairwise.and_mem.1 hu).imp (fun ⟨ha, hb, hab⟩ => fol_iff.2 ⟨hab, key _ hb _ ha⟩)
  · intro h
    have hu : Up k := h.imp (fun hab => fol_lt hab)
    rw [norm_up hu]
    refine up_unique (hds_up hu) hu (fun x => ?_)
    rw [mem_hds]
    exact ⟨fun e => e.1, fun e => ⟨e, fun y hy => pw_anti h y hy x e⟩⟩
theorem coneE_eq (k : List (List UInt8)) : coneE k = if (k.any (fun p => !okP p) || !decide (hds (norm k) = k)) = true then 13 else 0 := by
  rw [hds_same]
  unfold coneE coneB
  have : k.any (fun p => !okP p) = !k.all okP := by
    induction k with
    | nil => rfl
    | cons a r ih => simp [ih, Bool.not_and]
  rw [this]
  cases k.all okP <;> cases chnP k <;> rfl
/-- the two between which a directory would stand have the say -/
theorem near_say {k : List (List UInt8)} {d : List UInt8} (hk : k.Pairwise (fun a b => fol a b = true)) (a : Nat) (ha : a ≤ k.length) (h1 : ∀ t (h : t < k.length), t < a → cf (k[t]'h) d < 0) (h2 : ∀ t (h : t < k.length), a ≤ t → ¬ cf (k[t]'h) d < 0) :
    shD ((k.drop (a - 1)).take (min (a + 1) k.length - (a - 1))) d = shD k d := by
  rw [Bool.eq_iff_iff, shD_iff, shD_iff]
  have hin : ∀ t (h : t < k.length), a - 1 ≤ t → t < min (a + 1) k.length → k[t]'h ∈ (k.drop (a - 1)).take (min (a + 1) k.length - (a - 1)) := fun t h h3 h4 => by
    rw [List.mem_iff_getElem]
    exact ⟨t - (a - 1), by rw [List.length_take, List.length_drop]; omega, by rw [List.getElem_take, List.getElem_drop]; congr 1; omega⟩
  have pf : ∀ s t (hs : s < k.length) (ht : t < k.length), s < t → fol (k[s]'hs) (k[t]'ht) = true := fun s t hs ht hst => List.pairwise_iff_getElem.1 hk s t hs ht hst
  constructor
  · rintro (h | ⟨c, hc, e⟩)
    · exact .inl h
    · exact .inr ⟨c, List.mem_of_mem_drop (List.mem_of_mem_take hc), e⟩
  · rintro (h | ⟨c, hc, e⟩)
    · exact .inl h
    · obtain ⟨t, ht, rfl⟩ := List.mem_iff_getElem.1 hc
      rcases e with rfl | e | e
      · have hta : ¬ t < a := fun h => by have := h1 t ht h; rw [cf_self] at this; omega
        by_cases hea : t = a
        · exact .inr ⟨k[t], hin t ht (by omega) (by omega), .inl rfl⟩
        · have h3 := fol_lt (pf a t (by omega) ht (by omega))
          exact absurd h3 (h2 a (by omega) (Nat.le_refl _))
      · have hta : t < a := by
          rcases Nat.lt_or_ge t a with h | h
          · exact h
          · exact absurd (abv_cf e) (h2 t ht h)
        by_cases hea : t = a - 1
        · exact .inr ⟨k[t], hin t ht (by omega) (by omega), .inr (.inl e)⟩
        · have h3 := pf t (a - 1) ht (by omega) (by omega)
          have h4 := abv_between e (fol_lt h3) (h1 (a - 1) (by omega) (by omega))
          rw [(fol_iff.1 h3).2] at h4
          cases h4
      · have hta : a ≤ t := by
          rcases Nat.lt_or_ge t a with h | h
          · have h5 := cf_trans (h1 t ht h) (abv_cf e)
            rw [cf_self] at h5
            omega
          · exact h
        by_cases hea : t = a
        · exact .inr ⟨k[t], hin t ht (by omega) (by omega), .inr (.inr e)⟩
        · have hal : a < k.length := by omega
          refine .inr ⟨k[a], hin a hal (by omega) (by omega), ?_⟩
          rcases cf_tri d (k[a]'hal) with h3 | h3 | h3
          · exact .inr (.inr (abv_between e h3 (fol_lt (pf a t hal ht (by omega)))))
          · exact .inl h3
          · exact absurd h3 (h2 a hal (Nat.le_refl _))
/-- files of one directory that follow one another: from, to -/
structure Run (l : List Fl) where
  lo : Nat
  hi : Nat
  lt : lo < hi
  le : hi ≤ l.length
  one : ∀ i (h : i < l.length), lo ≤ i → i < hi → dir (l[i]'h).path = dir (l[lo]'(by omega)).path
def Run.d {l : List Fl} (r : Run l) : List UInt8 := dir (l[r.lo]'(by have := r.lt; have := r.le; omega)).path
def Run.fs {l : List Fl} (r : Run l) : List Fl := (l.drop r.lo).take (r.hi - r.lo)
theorem Run.fs_len {l : List Fl} (r : Run l) : r.fs.length = r.hi - r.lo := by
  unfold Run.fs
  rw [List.length_take, List.length_drop]
  have := r.le
  omega
/-- what is taken of the runs that have come -/
def tkn {l : List Fl} (k : List (List UInt8)) (rs : List (Run l)) : List Fl := rs.flatMap (fun r => if shD k r.d then r.fs else [])
theorem tkn_snoc {l : List Fl} (k : List (List UInt8)) (rs : List (Run l)) (r : Run l) : tkn k (rs ++ [r]) = tkn k rs ++ (if shD k r.d then r.fs else []) := by
  unfold tkn
  simp
theorem tkn_len {l : List Fl} (k : List (List UInt8)) : ∀ rs : List (Run l), (tkn k rs).length ≤ rs.length * l.length
  | [] => by simp [tkn]
  | r :: rs => by
    have ih := tkn_len k rs
    have e : tkn k (r :: rs) = (if shD k r.d then r.fs else []) ++ tkn k rs := rfl
    rw [e, List.length_append, List.length_cons, Nat.add_mul, Nat.one_mul]
    have : (if shD k r.d then r.fs else ([] : List Fl)).length ≤ l.length := by
      split
      · rw [r.fs_len]; have := r.le; omega
      · simp
    omega
/-- the runs lie one behind the other, up to e -/
def Til {l : List Fl} : List (Run l) → Nat → Nat → Prop
  | [], a, b => a = b
  | r :: rs, a, b => r.lo = a ∧ Til rs r.hi b
theorem Til.snoc {l : List Fl} : ∀ {rs : List (Run l)} {a b : Nat}, Til rs a b → ∀ (r : Run l), r.lo = b → Til (rs ++ [r]) a r.hi
  | [], _, _, h, _, e => ⟨e.trans h.symm, rfl⟩
  | _ :: _, _, _, h, r, e => ⟨h.1, Til.snoc h.2 r e⟩
theorem Til.le {l : List Fl} : ∀ {rs : List (Run l)} {a b : Nat}, Til rs a b → a + rs.length ≤ b
  | [], a, b, h => by
    have : a = b := h
    simp [this]
  | r :: rs, a, b, h => by
    have h1 := Til.le h.2
    have h2 := r.lt
    have h3 := h.1
    rw [List.length_cons]
    omega
theorem filt_run {l : List Fl} (k : List (List UInt8)) (r : Run l) : r.fs.filter (fun f => shw k f.path) = if shD k r.d then r.fs else [] := by
  have hall : ∀ f ∈ r.fs, shw k f.path = shD k r.d := fun f hf => by
    unfold Run.fs at hf
    obtain ⟨i, hi, rfl⟩ := List.mem_iff_getElem.1 hf
    rw [List.length_take, List.length_drop] at hi
    rw [List.getElem_take, List.getElem_drop]
    have hle := r.le
    unfold shw Run.d
    rw [r.one (r.lo + i) (by omega) (by omega) (by omega)]
  by_cases h : shD k r.d = true
  · rw [if_pos h, List.filter_eq_self.2 (fun f hf => by rw [hall f hf, h])]
  · rw [if_neg h, List.filter_eq_nil_iff.2 (fun f hf => by rw [hall f hf]; exact h)]
theorem tkn_til {l : List Fl} (k : List (List UInt8)) : ∀ {rs : List (Run l)} {a b : Nat}, Til rs a b → b ≤ l.length → tkn k rs = ((l.drop a).take (b - a)).filter (fun f => shw k f.path)
  | [], a, b, h, _ => by
    have : a = b := h
    subst this
    simp [tkn]
  | r :: rs, a, b, h, hb => by
    have h1 := Til.le h.2
    have h2 := r.lt
    have h3 := h.1
    have e : tkn k (r :: rs) = (if shD k r.d then r.fs else []) ++ tkn k rs := rfl
    rw [e, tkn_til k h.2 hb, ← filt_run, ← List.filter_append]
    congr 1
    unfold Run.fs
    rw [h3] at h2 ⊢
    have e2 : l.drop r.hi = (l.drop a).drop (r.hi - a) := by rw [List.drop_drop]; congr 1; omega
    rw [e2]
    have e3 : b - a = (r.hi - a) + (b - r.hi) := by omega
    rw [e3, List.take_add]
theorem tkn_all {l : List Fl} (k : List (List UInt8)) {rs : List (Run l)} (h : Til rs 0 l.length) : tkn k rs = l.filter (fun f => shw k f.path) := by
  rw [tkn_til k h (Nat.le_refl _)]
  simp
end Go.Proofs.YtbaheiimcnfaaaaGreat
