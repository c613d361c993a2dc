/-
  The law ManifestParses.
  The document's text of targets.
  The document's Text, Print.
  The document's Print; the law ManifestPrints.
-/
import Derived.Test.YtemoplpfndnklaaGreatDoorRpar
import Derived.Test.YtemoplpfndnklaaGreatDoorJCutg
namespace Go.Proofs.YtemoplpfndnklaaGreatDoor
open Go.RowKit

set_option maxHeartbeats 4000000 in
theorem parLaw {w : World} (p s : List UInt8) (E : Ev w) (hp : p.length ≤ 1000000000) (hs : s.length ≤ 1000000000) :
    Calls Tryz.prog 5 #[.string (bs p), .string (bs s)] w fun e w' => e = .returned (.bool true) ∧ Below w.heap.size w w' := by
  have HP : Hid (Calls Tryz.prog 8 #[.string (bs p), .string (bs s)] w (LsP w (prsM p s))) := parse_any p s E (by omega) (by omega)
  have HQ : Hid (∀ W, Calls Tryz.prog 13 #[.string (bs p), .string (bs s)] W (LsP W (prsM p s))) := fun W => rpars_any p s hp hs
  have HS : Hid (GSm (prsM p s).1) := prsM_sm p s
  obtain ⟨R, hR⟩ : ∃ R, prsM p s = R := ⟨_, rfl⟩
  rw [hR] at HP HQ HS
  obtain ⟨A, z⟩ := R
  have HE : Hid (Ev w) := E
  clear hR E
  go_enter Tryz.func5, Tryz.ntmps5
  go_wp2_with fail
  refine HP.out.mono ?_
  rintro e w1 ⟨v1, rfl, h1, hb1⟩
  have G1 : Hid (GR w1 v1 A ∧ Below w.heap.size w w1) := ⟨h1.read, hb1⟩
  clear h1 hb1
  go_wp2_with fail
  refine (HQ.out _).mono ?_
  rintro e w2 ⟨v2, rfl, h2, hb2⟩
  have G2 : Hid (GR w2 v1 A ∧ GR w2 v2 A ∧ Below w.heap.size w w2) := ⟨G1.out.1.later hb2, h2.read, bstep G1.out.2 hb2⟩
  clear h2 hb2 G1
  go_wp2_with fail
  refine (known_any (HE.out.later G2.out.2.2)).mono ?_
  rintro e w3 ⟨rfl, hb3⟩
  have G3 : Hid (GR w3 v1 A ∧ GR w3 v2 A ∧ Below w.heap.size w w3) := ⟨G2.out.1.later hb3, G2.out.2.1.later hb3, bstep G2.out.2.2 hb3⟩
  clear hb3 G2
  go_wp2_with fail
  refine (same_any G3.out.1 G3.out.2.1 HS.out HS.out).mono ?_
  rintro e w4 ⟨rfl, n, rfl⟩
  rw [decide_eq_true (rfl : A = A)]
  go_wp2_with fail
  go_ret
  exact ⟨rfl, bstep G3.out.2.2 (bd _ _)⟩
end Go.Proofs.YtemoplpfndnklaaGreatDoor

namespace Go.Proofs.YtemoplpfndnklaaGreatDoor
open Go.RowKit

theorem jnw_snoc : ∀ (a : List (List UInt8)) (x : List UInt8), jnw (a ++ [x]) = if a = [] then x else jnw a ++ [44, 32] ++ x
  | [], x => rfl
  | [y], x => by simp [jnw]
  | y :: z :: r, x => by
    have := jnw_snoc (z :: r) x
    rw [if_neg (by simp)] at this
    rw [if_neg (by simp)]
    show jnw (y :: z :: (r ++ [x])) = _
    rw [jnw, show z :: (r ++ [x]) = (z :: r) ++ [x] from rfl, this, jnw]
    simp
theorem jnw_le : ∀ (a b : List (List UInt8)), (jnw a).length ≤ (jnw (a ++ b)).length
  | [], b => by simp [jnw]
  | [x], [] => by simp
  | [x], y :: r => by simp [jnw]
  | x :: y :: r, b => by
    have := jnw_le (y :: r) b
    show (jnw (x :: y :: r)).length ≤ (jnw (x :: y :: (r ++ b))).length
    simp only [jnw, List.length_append]
    have e : (y :: r) ++ b = y :: (r ++ b) := rfl
    rw [e] at this
    omega
theorem jnw_take (L : List (List UInt8)) (k : Nat) : (jnw (L.take k)).length ≤ (jnw L).length := by
  have := jnw_le (L.take k) (L.drop k)
  rwa [List.take_append_drop] at this
theorem jnw_item {L : List (List UInt8)} {k : Nat} (h : k < L.length) : (L[k]).length ≤ (jnw L).length := by
  have h1 := jnw_take L (k + 1)
  rw [List.take_succ_eq_append_getElem h, jnw_snoc] at h1
  split at h1
  · exact h1
  · simp at h1; omega

set_option maxHeartbeats 2000000 in
theorem rfield_any {w : World} {v : Value} {L : List (List UInt8)} (wd : List UInt8) (h : SS w v L) (hw : wd.length ≤ 100) (hL : L.length ≤ 4194304) (hj : (jnw L).length ≤ 900000000) :
    Calls Tryz.prog 57 #[.string (bs wd), v] w fun e w' => e = .returned (.string (bs (fld wd L))) ∧ w' = w := by
  obtain ⟨a, c, rfl, hc⟩ := h.form
  have HC : Hid (∀ k, (hk : k < L.length) → ∃ b off, a = some ⟨b, off, none⟩ ∧ b < w.heap.size ∧ w.cell? ⟨b, off + k, none⟩ = some (.string (bs L[k]))) := hc
  clear h hc
  by_cases h0 : L = []
  · subst h0
    have e1 : fld wd [] = [] := by simp [fld]
    rw [e1]
    clear e1
    go_enter Tryz.func57, Tryz.ntmps57
    go_wp2_with fail
    go_ret
    exact ⟨rfl, rfl⟩
  obtain ⟨hd, hhd⟩ : ∃ hd, [32, 32] ++ wd ++ [32, 61, 32, 91] = hd := ⟨_, rfl⟩
  have HD : Hid (ByteArray.mk #[32, 32] ++ bs wd ++ ByteArray.mk #[32, 61, 32, 91] = bs hd) := by
    show bs [32, 32] ++ bs wd ++ bs [32, 61, 32, 91] = bs hd
    rw [bs_app, bs_app, hhd]
  have hdl : hd.length ≤ 200 := by rw [← hhd]; simp; omega
  have HF : Hid (bs (fld wd L) = bs (hd ++ jnw L) ++ ByteArray.mk #[93, 10]) := by
    show bs (fld wd L) = bs (hd ++ jnw L) ++ bs [93, 10]
    rw [bs_app, fld_eq h0, hhd]
  have HJ : Hid (∀ k, (jnw (L.take k)).length ≤ 900000000) := fun k => Nat.le_trans (jnw_take L k) hj
  have HI : Hid (∀ k, (hk : k < L.length) → (L[k]).length ≤ 900000000) := fun k hk => Nat.le_trans (jnw_item hk) hj
  have HS : Hid (∀ k, (hk : k < L.length) → jnw (L.take (k + 1)) = if k = 0 then L[k] else jnw (L.take k) ++ [44, 32] ++ L[k]) := fun k hk => by
    rw [List.take_succ_eq_append_getElem hk, jnw_snoc]
    by_cases e : k = 0
    · subst e; simp
    · rw [if_neg e, if_neg (by
        intro h; have := congrArg List.length h; simp at this; rcases this with h | h
        · omega
        · exact h0 h)]
  have HL0 : Hid (L ≠ []) := h0
  have hne : L.length ≠ 0 := fun e => h0 (List.eq_nil_of_length_eq_zero e)
  obtain ⟨n, hn⟩ : ∃ n, L.length = n := ⟨_, rfl⟩
  have HN : Hid (L.length = n) := hn
  obtain ⟨T, hT⟩ : ∃ T, bs (fld wd L) = T := ⟨_, rfl⟩
  rw [hT] at HF ⊢
  rw [hn] at hne hL ⊢
  have z1 : (bs wd).size = wd.length := rfl
  have n1 : ((n : Int) == 0) = false := by rw [beq_eq_false_iff_ne]; omega
  have n2 : ¬ ((n : Int) = 0) := by omega
  have n3 : (n == 0) = false := by simpa using hne
  clear hT hn h0 hhd hj
  go_enter Tryz.func57, Tryz.ntmps57
  go_wp2_with fail
  rw [HD.out]
  go_loopw [5, 6] (fun s i wr => ∃ k : Nat, k ≤ n ∧ i = .int .i64 k ∧ s = .string (bs (hd ++ jnw (L.take k))) ∧ wr = w) (fun _ i _ => n - (intOf i).toNat)
  case atStart => exact ⟨0, Nat.zero_le _, rfl, by simp [jnw], rfl⟩
  case round =>
    obtain ⟨k, hk, rfl, rfl, rfl⟩ := hrel
    by_cases hlt : k < n
    rotate_left
    · obtain rfl : k = n := by omega
      have e1 : L.take k = L := by rw [← HN.out, List.take_length]
      rw [e1] at *
      have z2 : (bs (hd ++ jnw L)).size = hd.length + (jnw L).length := by show (hd ++ jnw L).length = _; simp
      have hj2 := HJ.out L.length
      rw [List.take_length] at hj2
      clear e1
      go_wp2_with fail
      go_ret
      exact ⟨by rw [HF.out]; rfl, rfl⟩
    have hkL : k < L.length := by have := HN.out; omega
    obtain ⟨b, off, rfl, hbl, c0⟩ := HC.out k hkL
    have HSk : Hid (jnw (L.take (k + 1)) = if k = 0 then L[k] else jnw (L.take k) ++ [44, 32] ++ L[k]) := HS.out k hkL
    have hil := HI.out k hkL
    have hjk := HJ.out k
    have z2 : (bs (hd ++ jnw (L.take k))).size = hd.length + (jnw (L.take k)).length := by show (hd ++ jnw (L.take k)).length = _; simp
    have z4 : (bs (hd ++ jnw (L.take k)) ++ ByteArray.mk #[44, 32]).size = hd.length + (jnw (L.take k)).length + 2 := by
      show (bs (hd ++ jnw (L.take k)) ++ bs [44, 32]).size = _
      rw [bs_app]; show (hd ++ jnw (L.take k) ++ [44, 32]).length = _; simp; omega
    have z3 : (bs L[k]).size = L[k].length := rfl
    have i1 : (0 : Int) ≤ (k : Int) := by omega
    have i2 : (k : Int) < (n : Int) := by omega
    generalize L[k] = x at *
    by_cases hk0 : k = 0
    · subst hk0
      simp only [Nat.add_zero] at c0
      have HR : Hid (bs (hd ++ jnw (L.take 0)) ++ bs x = bs (hd ++ jnw (L.take (0 + 1)))) := by
        show _ = _
        rw [bs_app, HSk.out, if_pos rfl]; simp [jnw]
      obtain ⟨P, hP⟩ : ∃ P, bs (hd ++ jnw (L.take 0)) = P := ⟨_, rfl⟩
      rw [hP] at HR z2 z4 ⊢
      clear hP
      go_wp2_with fail
      go_roundw
      case rel => exact ⟨0 + 1, by omega, rfl, by rw [← HR.out], trivial⟩
      case measure => simp only [intOf]; omega
    · have HR : Hid (bs (hd ++ jnw (L.take k)) ++ ByteArray.mk #[44, 32] ++ bs x = bs (hd ++ jnw (L.take (k + 1)))) := by
        show bs (hd ++ jnw (L.take k)) ++ bs [44, 32] ++ bs x = _
        rw [bs_app, bs_app, HSk.out, if_neg hk0]; simp
      have i3 : (0 : Int) < (k : Int) := by omega
      obtain ⟨P, hP⟩ : ∃ P, bs (hd ++ jnw (L.take k)) = P := ⟨_, rfl⟩
      rw [hP] at HR z2 z4 ⊢
      clear hP
      go_wp2_with fail
      go_roundw
      case rel => exact ⟨k + 1, hlt, rfl, by rw [← HR.out], trivial⟩
      case measure => simp only [intOf]; omega
end Go.Proofs.YtemoplpfndnklaaGreatDoor

namespace Go.Proofs.YtemoplpfndnklaaGreatDoor
open Go.RowKit

set_option maxHeartbeats 8000000 in
theorem rtext_any {w : World} {v : Value} {l : List Tg} (h : GR w v l) (hm : Wm l) (hu : ∀ t ∈ l, ∀ x ∈ t.deps, Lu x) :
    Calls Tryz.prog 33 #[v] w fun e w' => e = .returned (.string (bs (wrt l))) ∧ Below w.heap.size w w' := by
  obtain ⟨a, hg, hr⟩ := h.it
  obtain ⟨va, vc, rfl, _⟩ := hg.form
  obtain ⟨n, hn⟩ : ∃ n, a.length = n := ⟨_, rfl⟩
  rw [hn] at hg ⊢
  have HG : Hid (GS w (.slice va n vc) a ∧ TsRead w a l ∧ Wm l ∧ (∀ t ∈ l, ∀ x ∈ t.deps, Lu x)) := ⟨hg, hr, hm, hu⟩
  have HN : Hid (a.length = n ∧ l.length = n) := ⟨hn, by rw [← hr.len, hn]⟩
  have hnl : n ≤ 1000000000 := by rw [← hn, hr.len]; exact hm.len
  have HWL : Hid ((wrt l).length ≤ 800000000) := hm.all
  have HB0 : Hid ((ByteArray.mk #[]) = bs (wrt (l.take 0))) := rfl
  clear h hm hg hr hn hu
  go_enter Tryz.func33, Tryz.ntmps33
  go_wp2_with fail
  go_loopw [3, 4] (fun s i wr => ∃ k : Nat, k ≤ n ∧ i = .int .i64 k ∧ s = .string (bs (wrt (l.take k))) ∧ Below w.heap.size w wr) (fun _ i _ => n - (intOf i).toNat)
  case atStart => exact ⟨0, Nat.zero_le _, rfl, rfl, Below.refl _ _⟩
  case round =>
    obtain ⟨k, hk, rfl, rfl, hbw⟩ := hrel
    have HBW : Hid (Below w.heap.size w wr) := hbw
    by_cases hlt : k < n
    rotate_left
    · obtain rfl : k = n := by omega
      have HT : Hid (wrt (l.take k) = wrt l) := by show wrt (l.take k) = wrt l; rw [← HN.out.2, List.take_length]
      rw [HT.out] at *
      clear hbw
      go_wp2_with fail
      go_ret
      exact ⟨rfl, HBW.out⟩
    have ka : k < a.length := by have := HN.out; omega
    have kl : k < l.length := by have := HN.out; omega
    obtain ⟨b1, o1, rfl, h1, _⟩ := HG.out.1.at hbw ka
    have HX : Hid (∀ W : World, Below w.heap.size w W → W.cell? ⟨b1, o1 + k * 4, none⟩ = some (.string (bs a[k].name)) ∧ W.cell? ⟨b1, o1 + k * 4 + 1, none⟩ = some (.slice a[k].sa a[k].sn a[k].sc) ∧ W.cell? ⟨b1, o1 + k * 4 + 2, none⟩ = some (.slice a[k].da a[k].dn a[k].dc) ∧ W.cell? ⟨b1, o1 + k * 4 + 3, none⟩ = some (.slice a[k].ea a[k].en a[k].ec)) := fun W hW => by
      obtain ⟨b', o', he, _, x⟩ := HG.out.1.at hW ka
      injection he with he
      injection he with he1 he2 _
      subst he1 he2
      exact x
    have HTW : Hid (TRead w a[k] l[k]) := HG.out.2.1.get k ka kl
    have hE := HG.out.2.2.1.each _ (List.getElem_mem kl)
    have hLu := HG.out.2.2.2 _ (List.getElem_mem kl)
    have HWk : Hid (wrt (l.take (k + 1)) = wrt (l.take k) ++ one l[k] ∧ (wrt (l.take (k + 1))).length ≤ 800000000) := ⟨wrt_take kl, Nat.le_trans (wrt_take_le l (k + 1)) HWL.out⟩
    have i1 : (0 : Int) ≤ (k : Int) := by omega
    have i2 : (k : Int) < (n : Int) := by omega
    obtain ⟨P, hP⟩ : ∃ P, wrt (l.take k) = P := ⟨_, rfl⟩
    rw [hP] at HWk
    rw [hP]
    generalize l[k] = t at *
    generalize a[k] = tv at *
    have nmt : tv.name = t.name := HTW.out.name
    have hol := one_len t
    have hlen : P.length + (one t).length ≤ 800000000 := by have := HWk.out.2; rw [HWk.out.1, List.length_append] at this; exact this
    have j1 := jnw_fld wSrcs t.srcs
    have j2 := jnw_fld wDeps (t.deps.map prt)
    have j3 := jnw_fld wSee t.see
    have HLu : Hid (∀ x ∈ t.deps, Lu x) := hLu
    obtain ⟨D, hD⟩ : ∃ D, t.deps = D := ⟨_, rfl⟩
    obtain ⟨aD, cD, hvD, _⟩ := HTW.out.d.form
    have hdn : tv.dn = D.length := by have : tv.d = .slice tv.da tv.dn tv.dc := rfl; rw [this] at hvD; injection hvD with _ h2 _; rw [h2, hD]
    obtain ⟨nd, hnd⟩ : ∃ nd, D.length = nd := ⟨_, rfl⟩
    have HND : Hid (D.length = nd ∧ nd ≤ 4194304) := ⟨hnd, by rw [← hnd, ← hD]; exact hE.2.1⟩
    rw [hnd] at hdn
    have hnd4 : nd ≤ 4194304 := HND.out.2
    have HLD : Hid (LS w (.slice tv.da nd tv.dc) D) := by
      have h := HTW.out.d
      have e : tv.d = .slice tv.da nd tv.dc := by show Value.slice tv.da tv.dn tv.dc = _; rw [hdn]
      rw [e, hD] at h; exact h
    rw [hD] at HLu
    obtain ⟨x0, x1, x2, x3⟩ := HX.out wr hbw
    rw [hdn] at x2 HX
    have HE : Hid (t.srcs.length ≤ 4194304 ∧ t.see.length ≤ 4194304) := ⟨hE.1, hE.2.2.1⟩
    have HF2 : Hid (fld wDeps (D.map prt) = fld wDeps (t.deps.map prt)) := by show _ = _; rw [hD]
    clear hP hbw hE hLu hnd hD hvD
    go_wp2_with fail
    go_loopw [5, 6] (fun u i wr => ∃ m : Nat, m ≤ nd ∧ i = .int .i64 m ∧ Own w.heap.size wr u ((D.take m).map prt) ∧ Below w.heap.size w wr) (fun _ i _ => nd - (intOf i).toNat)
    case atStart => exact ⟨0, Nat.zero_le _, rfl, Own.nil _ _, HBW.out⟩
    case round =>
      clear x0 x1 x2 x3
      obtain ⟨m, hm, rfl, hO, hb2⟩ := hrel
      have HO : Hid (Own w.heap.size wr u5 ((D.take m).map prt) ∧ Below w.heap.size w wr) := ⟨hO, hb2⟩
      have hsr := hb2.size
      obtain ⟨x0, x1, x2, x3⟩ := HX.out wr hb2
      clear hO hb2
      obtain ⟨av, cv, hv⟩ := HO.out.1.frm
      obtain ⟨nv, hnv⟩ : ∃ nv, ((D.take m).map prt).length = nv := ⟨_, rfl⟩
      have HNv : Hid (((D.take m).map prt).length = nv) := hnv
      rw [hnv] at hv
      subst hv
      clear hnv
      by_cases hlt2 : m < nd
      · have hmD : m < D.length := by have := HND.out.1; omega
        obtain ⟨b, off, hda, hbl, c0, c1⟩ := HLD.out.at HO.out.2 hmD
        rw [hda] at x2
        have j5 : (0 : Int) ≤ (m : Int) := by omega
        have j6 : (m : Int) < (nd : Int) := by omega
        have HP : Hid (∀ W : World, Calls Tryz.prog 56 #[D[m].val] W fun e w' => e = .returned (.string (bs (prt D[m]))) ∧ Below W.heap.size W w') := fun W => rlprint_any D[m] W (HLu.out _ (List.getElem_mem hmD))
        have HT : Hid ((D.take (m + 1)).map prt = (D.take m).map prt ++ [prt D[m]]) := by
          show (D.take (m + 1)).map prt = _
          rw [List.take_succ_eq_append_getElem hmD, List.map_append]; rfl
        have HLn : Hid (((D.take m).map prt).length ≤ 4194304) := by show ((D.take m).map prt).length ≤ 4194304; simp; omega
        unfold Lb.val at HP
        generalize prt D[m] = T at *
        generalize D[m] = lk at *
        go_wp2_with fail
        refine (HP.out _).mono ?_
        rintro e w1 ⟨rfl, hb1⟩
        have HO1 : Hid (Own w.heap.size w1 (.slice av nv cv) ((D.take m).map prt) ∧ Below w.heap.size w w1) := ⟨HO.out.1.later hb1, bstep HO.out.2 hb1⟩
        have hs1 : w.heap.size ≤ w1.heap.size := HO1.out.2.size
        clear hb1
        go_wp2_with (first
          | (at_builtin; refine app_S T HO1.out.1 (by have := HLn.out; omega) (by omega) rfl (.tmp 23) (.tmp 33) rfl rfl rfl ?_; intro v9 w9 hO9 hB9 hN9 hs9 hw9; have O9 : Hid (Own w.heap.size w9 v9 ((D.take m).map prt ++ [T]) ∧ Below w.heap.size w w9) := ⟨hO9, below_trans HO1.out.2 hB9⟩; clear hO9 hB9 hN9 hw9))
        go_roundw
        case rel => exact ⟨m + 1, hlt2, rfl, by rw [HT.out]; exact O9.out.1, O9.out.2⟩
        case measure => simp only [intOf]; omega
      obtain rfl : m = nd := by omega
      have HT : Hid ((D.take m).map prt = D.map prt) := by show (D.take m).map prt = _; rw [← HND.out.1, List.take_length]
      obtain ⟨f1, hf1⟩ : ∃ f1, fld wSrcs t.srcs = f1 := ⟨_, rfl⟩
      obtain ⟨f2, hf2⟩ : ∃ f2, fld wDeps (t.deps.map prt) = f2 := ⟨_, rfl⟩
      obtain ⟨f3, hf3⟩ : ∃ f3, fld wSee t.see = f3 := ⟨_, rfl⟩
      have h1' := HO.out.2
      have C1 : Hid (∀ q, Calls Tryz.prog 57 #[.string (ByteArray.mk #[115, 114, 99, 115]), .slice tv.sa tv.sn tv.sc] (wr.drewN q) fun e w' => e = .returned (.string (bs f1)) ∧ ∃ r, w' = wr.drewN r) := fun q => by
        have h := rfield_any (w := wr.drewN q) wSrcs ((HTW.out.s.later h1').later (bd _ q)) (by decide) HE.out.1 (by omega)
        rw [hf1] at h
        exact h.mono fun e w' ⟨k1, k2⟩ => ⟨k1, q, k2⟩
      have C2 : Hid (∀ q, Calls Tryz.prog 57 #[.string (ByteArray.mk #[100, 101, 112, 115]), .slice av nv cv] (wr.drewN q) fun e w' => e = .returned (.string (bs f2)) ∧ ∃ r, w' = wr.drewN r) := fun q => by
        have h0 := own_ss (HO.out.1.later (bd _ q))
        rw [HT.out] at h0
        have h := rfield_any (w := wr.drewN q) wDeps h0 (by decide) (by have := HND.out; simp; omega) (by have := jnw_fld wDeps (D.map prt); rw [HF2.out] at this; omega)
        rw [HF2.out, hf2] at h
        exact h.mono fun e w' ⟨k1, k2⟩ => ⟨k1, q, k2⟩
      have C3 : Hid (∀ q, Calls Tryz.prog 57 #[.string (ByteArray.mk #[115, 101, 101]), .slice tv.ea tv.en tv.ec] (wr.drewN q) fun e w' => e = .returned (.string (bs f3)) ∧ ∃ r, w' = wr.drewN r) := fun q => by
        have h := rfield_any (w := wr.drewN q) wSee ((HTW.out.e.later h1').later (bd _ q)) (by decide) HE.out.2 (by omega)
        rw [hf3] at h
        exact h.mono fun e w' ⟨k1, k2⟩ => ⟨k1, q, k2⟩
      have HO2 : Hid (bs P ++ ByteArray.mk #[116, 97, 114, 103, 101, 116, 32] ++ bs tv.name ++ ByteArray.mk #[32, 123, 10] ++ bs f1 ++ bs f2 ++ bs f3 ++ ByteArray.mk #[125, 10] = bs (wrt (l.take (k + 1)))) := by
        show bs P ++ bs [116, 97, 114, 103, 101, 116, 32] ++ bs tv.name ++ bs [32, 123, 10] ++ bs f1 ++ bs f2 ++ bs f3 ++ bs [125, 10] = _
        rw [bs_app, bs_app, bs_app, bs_app, bs_app, bs_app, bs_app, HWk.out.1, nmt, ← hf1, ← hf2, ← hf3]
        unfold one wTarget; simp
      rw [hf1, hf2, hf3] at hol
      have z0 : (bs P).size = P.length := rfl
      have z1 : (bs tv.name).size = tv.name.length := rfl
      have z2 : (bs f1).size = f1.length := rfl
      have z3 : (bs f2).size = f2.length := rfl
      have z4 : (bs f3).size = f3.length := rfl
      have hnl2 : tv.name.length + f1.length + f2.length + f3.length + P.length ≤ 800000000 := by rw [nmt]; omega
      clear hf1 hf2 hf3 h1' hol hlen j1 j2 j3 nmt
      go_wp2_with fail
      go_quiet ((first | (go_at_call 57; with_reducible exact C1.out _) | (go_at_call 57; with_reducible exact C2.out _) | (go_at_call 57; with_reducible exact C3.out _)))
      go_wp2_with fail
      go_roundw
      case rel => exact ⟨k + 1, hlt, rfl, by rw [← HO2.out], bstep HO.out.2 (bd _ _)⟩
      case measure => simp only [intOf]; omega
end Go.Proofs.YtemoplpfndnklaaGreatDoor

namespace Go.Proofs.YtemoplpfndnklaaGreatDoor
open Go.RowKit

set_option maxHeartbeats 4000000 in
theorem rprint9_any {w : World} {v : Value} {l : List Tg} (p : List UInt8) (h : GR w v l) (hm : Wm l) (hu : ∀ t ∈ l, ∀ x ∈ t.deps, Lu x) (hp : p.length ≤ 1000000000) :
    Calls Tryz.prog 14 #[.string (bs p), v] w fun e w' => e = .returned (.tuple #[.string (bs (prM p l).1), .int .i64 (prM p l).2]) ∧ Below w.heap.size w w' := by
  have HV : Hid (Calls Tryz.prog 28 #[.string (bs p)] w fun e w' => e = .returned (.bool (okP p)) ∧ Below w.heap.size w w') := rvalid_any p w hp
  have HWr : Hid (∀ W : World, GR W v l → Calls Tryz.prog 33 #[v] W fun e w' => e = .returned (.string (bs (wrt l))) ∧ Below W.heap.size W w') := fun W hW => rtext_any hW hm hu
  have HPa : Hid (∀ W : World, Calls Tryz.prog 13 #[.string (bs p), .string (bs (wrt l))] W (LsP W (prsM p (wrt l)))) := fun W => rpars_any p (wrt l) hp (by have := hm.all; omega)
  have HEq : Hid (∀ (W : World) (u : Value), GR W u (prsM p (wrt l)).1 → GR W v l → Calls Tryz.prog 10 #[u, v] W fun e w' => e = .returned (.bool (decide ((prsM p (wrt l)).1 = l))) ∧ ∃ n, w' = W.drewN n) := fun W u hu hv => same_any hu hv (prsM_sm _ _) hm.gsm
  have HG : Hid (GR w v l) := h
  have HF : Hid (∀ W, Below w.heap.size w W → GR W v l) := fun W hW => HG.out.later hW
  have hrange := prsM_range p (wrt l)
  obtain ⟨RR, hRR⟩ : ∃ RR, prM p l = RR := ⟨_, rfl⟩
  rw [hRR]
  unfold prM at hRR
  obtain ⟨T, hT⟩ : ∃ T, wrt l = T := ⟨_, rfl⟩
  rw [hT] at HWr HPa HEq hRR hrange
  obtain ⟨Q, hQ⟩ : ∃ Q, prsM p T = Q := ⟨_, rfl⟩
  rw [hQ] at HPa HEq hRR hrange
  obtain ⟨Ql, Qa⟩ := Q
  simp only at HPa HEq hRR hrange
  clear hT hQ h hm hu
  cases hok : okP p
  · rw [hok] at HV hRR
    obtain rfl : ([], (7 : Int)) = RR := by rw [← hRR]; rfl
    clear hok hRR hrange
    go_enter Tryz.func14, Tryz.ntmps14
    go_wp2_with fail
    refine HV.out.mono ?_
    rintro e w1 ⟨rfl, hb1⟩
    have B1 : Hid (Below w.heap.size w w1) := hb1
    clear hb1
    go_wp2_with fail
    go_ret2
    exact ⟨rfl, B1.out⟩
  rw [hok] at HV hRR
  rw [if_pos rfl] at hRR
  clear hok
  by_cases hq : 0 ≤ Qa
  · obtain rfl : ([], (18 : Int)) = RR := by
      rw [← hRR, if_neg (fun h => by have := h.1; omega)]
    have d1 : decide (0 ≤ Qa) = true := by simpa using hq
    clear hRR hrange
    go_enter Tryz.func14, Tryz.ntmps14
    go_wp2_with fail
    refine HV.out.mono ?_
    rintro e w1 ⟨rfl, hb1⟩
    have B1 : Hid (Below w.heap.size w w1) := hb1
    clear hb1
    go_wp2_with fail
    refine (HWr.out _ (HF.out _ B1.out)).mono ?_
    rintro e w2 ⟨rfl, hb2⟩
    have B2 : Hid (Below w.heap.size w w2) := bstep B1.out hb2
    clear hb2
    go_wp2_with fail
    refine (HPa.out _).mono ?_
    rintro e w3 ⟨u, rfl, hu, hb3⟩
    have B3 : Hid (Below w.heap.size w w3) := bstep B2.out hb3
    clear hb3 hu
    go_wp2_with fail
    go_ret2
    exact ⟨rfl, B3.out⟩
  obtain rfl : Qa = -1 := by omega
  cases hs : decide (Ql = l)
  · obtain rfl : ([], (18 : Int)) = RR := by
      rw [← hRR, if_neg (fun h => by rw [h.2] at hs; simp at hs)]
    rw [hs] at HEq
    clear hRR hrange hq hs
    go_enter Tryz.func14, Tryz.ntmps14
    go_wp2_with fail
    refine HV.out.mono ?_
    rintro e w1 ⟨rfl, hb1⟩
    have B1 : Hid (Below w.heap.size w w1) := hb1
    clear hb1
    go_wp2_with fail
    refine (HWr.out _ (HF.out _ B1.out)).mono ?_
    rintro e w2 ⟨rfl, hb2⟩
    have B2 : Hid (Below w.heap.size w w2) := bstep B1.out hb2
    clear hb2
    go_wp2_with fail
    refine (HPa.out _).mono ?_
    rintro e w3 ⟨u, rfl, hu, hb3⟩
    have B3 : Hid (Below w.heap.size w w3 ∧ GR w3 u Ql) := ⟨bstep B2.out hb3, hu.read⟩
    clear hb3 hu
    go_wp2_with fail
    refine (HEq.out _ _ B3.out.2 (HF.out _ B3.out.1)).mono ?_
    rintro e w4 ⟨rfl, n4, rfl⟩
    go_wp2_with fail
    go_ret2
    exact ⟨rfl, bstep B3.out.1 (bd _ _)⟩
  · obtain rfl : (T, (0 : Int)) = RR := by
      rw [← hRR, if_pos ⟨rfl, of_decide_eq_true hs⟩]
    rw [hs] at HEq
    clear hRR hrange hq hs
    go_enter Tryz.func14, Tryz.ntmps14
    go_wp2_with fail
    refine HV.out.mono ?_
    rintro e w1 ⟨rfl, hb1⟩
    have B1 : Hid (Below w.heap.size w w1) := hb1
    clear hb1
    go_wp2_with fail
    refine (HWr.out _ (HF.out _ B1.out)).mono ?_
    rintro e w2 ⟨rfl, hb2⟩
    have B2 : Hid (Below w.heap.size w w2) := bstep B1.out hb2
    clear hb2
    go_wp2_with fail
    refine (HPa.out _).mono ?_
    rintro e w3 ⟨u, rfl, hu, hb3⟩
    have B3 : Hid (Below w.heap.size w w3 ∧ GR w3 u Ql) := ⟨bstep B2.out hb3, hu.read⟩
    clear hb3 hu
    go_wp2_with fail
    refine (HEq.out _ _ B3.out.2 (HF.out _ B3.out.1)).mono ?_
    rintro e w4 ⟨rfl, n4, rfl⟩
    go_wp2_with fail
    go_ret2
    exact ⟨rfl, bstep B3.out.1 (bd _ _)⟩

theorem prM_good {p : List UInt8} {l : List Tg} (h : (prM p l).2 = 0) : (prM p l).1 = wrt l ∧ prsM p (wrt l) = (l, -1) ∧ okP p = true := by
  unfold prM at h ⊢
  split at h
  · rename_i h1
    split at h
    · rename_i h2
      rw [if_pos h1, if_pos h2]
      exact ⟨rfl, Prod.ext h2.2 h2.1, h1⟩
    · cases h
  · cases h

set_option maxHeartbeats 4000000 in
theorem prtLaw {w : World} {v : Value} {l : List Tg} (p : List UInt8) (E : Ev w) (h : GR w v l) (hm : Wm l) (hu : ∀ t ∈ l, ∀ x ∈ t.deps, Lu x) (hp : p.length ≤ 1000000000) :
    Calls Tryz.prog 6 #[.string (bs p), v] w fun e w' => e = .returned (.bool true) ∧ Below w.heap.size w w' := by
  have H1 : Hid (Calls Tryz.prog 14 #[.string (bs p), v] w fun e w' => e = .returned (.tuple #[.string (bs (prM p l).1), .int .i64 (prM p l).2]) ∧ Below w.heap.size w w') := rprint9_any p h hm hu hp
  have H2 : Hid (∀ W : World, Ev W → GR W v l → Calls Tryz.prog 11 #[.string (bs p), v] W fun e w' => e = .returned (.tuple #[.string (bs (prM p l).1), .int .i64 (prM p l).2]) ∧ Below W.heap.size W w') := fun W hW hv => print_any p hW hv hm (by omega)
  have HG : Hid (Ev w ∧ GR w v l) := ⟨E, h⟩
  have HF : Hid (∀ W, Below w.heap.size w W → Ev W ∧ GR W v l) := fun W hW => ⟨HG.out.1.later hW, HG.out.2.later hW⟩
  have HZ : Hid ((prM p l).2 = 0 → (prM p l).1 = wrt l ∧ prsM p (wrt l) = (l, -1) ∧ okP p = true) := prM_good
  have HPa : Hid (∀ W : World, Ev W → Calls Tryz.prog 8 #[.string (bs p), .string (bs (wrt l))] W (LsP W (prsM p (wrt l)))) := fun W hW => parse_any p (wrt l) hW (by omega) (by have := hm.all; omega)
  have HEq : Hid (∀ (W : World) (u : Value), GR W u l → GR W v l → Calls Tryz.prog 10 #[u, v] W fun e w' => e = .returned (.bool (decide (l = l))) ∧ ∃ n, w' = W.drewN n) := fun W u hu hv => same_any hu hv hm.gsm hm.gsm
  rw [decide_eq_true (rfl : l = l)] at HEq
  obtain ⟨s, hs⟩ : ∃ s, (prM p l).1 = s := ⟨_, rfl⟩
  obtain ⟨z, hz⟩ : ∃ z, (prM p l).2 = z := ⟨_, rfl⟩
  rw [hs, hz] at H1 H2 HZ
  clear hs hz E h hm hu
  by_cases h0 : z = 0
  · subst h0
    obtain ⟨rfl, h2, _⟩ := HZ.out rfl
    rw [h2] at HPa
    clear h2
    go_enter Tryz.func6, Tryz.ntmps6
    go_wp2_with fail
    refine H1.out.mono ?_
    rintro e w1 ⟨rfl, hb1⟩
    have B1 : Hid (Below w.heap.size w w1) := hb1
    clear hb1
    go_wp2_with fail
    refine (H2.out _ (HF.out _ B1.out).1 (HF.out _ B1.out).2).mono ?_
    rintro e w2 ⟨rfl, hb2⟩
    have B2 : Hid (Below w.heap.size w w2) := bstep B1.out hb2
    clear hb2
    go_wp2_with fail
    refine (known_any (HF.out _ B2.out).1).mono ?_
    rintro e w3 ⟨rfl, hb3⟩
    have B3 : Hid (Below w.heap.size w w3) := bstep B2.out hb3
    clear hb3
    go_wp2_with fail
    refine (HPa.out _ (HF.out _ B3.out).1).mono ?_
    rintro e w4 ⟨u, rfl, hu, hb4⟩
    have B4 : Hid (Below w.heap.size w w4 ∧ GR w4 u l) := ⟨bstep B3.out hb4, hu.read⟩
    clear hb4 hu
    go_wp2_with fail
    refine (HEq.out _ _ B4.out.2 (HF.out _ B4.out.1).2).mono ?_
    rintro e w5 ⟨rfl, n5, rfl⟩
    go_wp2_with fail
    go_ret
    exact ⟨rfl, bstep B4.out.1 (bd _ _)⟩
  · have n1 : (z == 0) = false := by simpa using h0
    clear HPa HEq HZ
    go_enter Tryz.func6, Tryz.ntmps6
    go_wp2_with fail
    refine H1.out.mono ?_
    rintro e w1 ⟨rfl, hb1⟩
    have B1 : Hid (Below w.heap.size w w1) := hb1
    clear hb1
    go_wp2_with fail
    refine (H2.out _ (HF.out _ B1.out).1 (HF.out _ B1.out).2).mono ?_
    rintro e w2 ⟨rfl, hb2⟩
    have B2 : Hid (Below w.heap.size w w2) := bstep B1.out hb2
    clear hb2
    go_wp2_with fail
    refine (known_any (HF.out _ B2.out).1).mono ?_
    rintro e w3 ⟨rfl, hb3⟩
    have B3 : Hid (Below w.heap.size w w3) := bstep B2.out hb3
    clear hb3
    go_wp2_with fail
    go_ret
    exact ⟨rfl, B3.out⟩
end Go.Proofs.YtemoplpfndnklaaGreatDoor
