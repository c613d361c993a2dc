/-
  The document's sources, and what the next word says.
  The document's lists.
-/
import Derived.Test.YtddaoloabfkheaaGreatDoorGsrc
namespace Go.Proofs.YtddaoloabfkheaaGreatDoor
open Go.RowKit

set_option maxRecDepth 100000 in
set_option maxHeartbeats 2000000 in
theorem rsource_any (p s : List UInt8) (w : World) (hp : p.length ≤ 2000000) (hs : s.length ≤ 2000000) :
    Calls Tryz.prog 117 #[.string (bs p), .string (bs s)] w fun e w' => e = .returned (.bool (rSrc p s)) ∧ Below w.heap.size w w' := by
  have HG : Hid (Calls Tryz.prog 132 #[.string (bs p), .string (bs s)] w fun e w' => e = .returned (.bool (rGlb p s)) ∧ Below w.heap.size w w') := rglob_any p s w hp hs
  have HJ : Hid (∀ W : World, Calls Tryz.prog 133 #[.string (bs p), .string (bs s)] W fun e w' => e = .returned (.tuple #[.string (bs (jn p s).1), .int .i64 (jn p s).2]) ∧ Below W.heap.size W w') := fun W => rjoin_any p s W hp hs
  have HB : Hid (∀ W : World, Calls Tryz.prog 83 #[.string (bs s)] W fun e w' => e = .returned (.string (bs (base s))) ∧ w' = W) := fun W => rbase_any s W (by omega)
  unfold rSrc
  have e1 := bs_toList (base s)
  have e2 := c_name
  have e3 := isE s
  obtain ⟨NN, hNN⟩ : ∃ NN, NN = wName := ⟨_, rfl⟩
  rw [← hNN] at e2 ⊢
  clear hNN hp hs
  cases hg : rGlb p s
  rotate_left
  · rw [hg] at HG
    clear hg
    go_enter Tryz.func117, Tryz.ntmps117
    go_wp2_with fail
    refine HG.out.mono ?_
    rintro e w1 ⟨rfl, hb⟩
    have B1 : Hid (Below w.heap.size w w1) := hb
    clear hb
    go_wp2_with fail
    go_ret
    exact ⟨by simp, B1.out⟩
  rw [hg] at HG
  clear hg
  rw [Bool.false_or]
  generalize (jn p s).1 = j1 at *
  generalize (jn p s).2 = j2 at *
  generalize base s = b at *
  by_cases hj : j2 = 0
  rotate_left
  · have hj1 : (j2 == 0) = false := by rw [beq_eq_false_iff_ne]; exact hj
    have hj2 : (decide (j2 = 0) && !decide (s = []) && !(b == NN)) = false := by simp [hj]
    rw [hj2]
    clear hj2 hj
    go_enter Tryz.func117, Tryz.ntmps117
    go_wp2_with fail
    refine HG.out.mono ?_
    rintro e w1 ⟨rfl, hb⟩
    have B1 : Hid (Below w.heap.size w w1) := hb
    clear hb
    go_wp2_with fail
    refine (HJ.out _).mono ?_
    rintro e w2 ⟨rfl, hb⟩
    have B2 : Hid (Below w.heap.size w w2) := bstep B1.out hb
    clear hb
    go_wp2_with fail
    go_ret
    exact ⟨rfl, B2.out⟩
  subst hj
  by_cases h0 : s = []
  · have i0 : s.isEmpty = true := by rw [h0]; rfl
    rw [i0] at e3
    have hj2 : (decide ((0 : Int) = 0) && !decide (s = []) && !(b == NN)) = false := by simp [h0]
    rw [hj2]
    clear hj2 h0
    go_enter Tryz.func117, Tryz.ntmps117
    go_wp2_with fail
    refine HG.out.mono ?_
    rintro e w1 ⟨rfl, hb⟩
    have B1 : Hid (Below w.heap.size w w1) := hb
    clear hb
    go_wp2_with fail
    refine (HJ.out _).mono ?_
    rintro e w2 ⟨rfl, hb⟩
    have B2 : Hid (Below w.heap.size w w2) := bstep B1.out hb
    clear hb
    go_wp2_with fail
    go_ret
    exact ⟨rfl, B2.out⟩
  · have i0 : s.isEmpty = false := by cases s; exact absurd rfl h0; rfl
    rw [i0] at e3
    have hj2 : (decide ((0 : Int) = 0) && !decide (s = []) && !(b == NN)) = !(b == NN) := by simp [h0]
    rw [hj2]
    clear hj2 h0
    go_enter Tryz.func117, Tryz.ntmps117
    go_wp2_with fail
    refine HG.out.mono ?_
    rintro e w1 ⟨rfl, hb⟩
    have B1 : Hid (Below w.heap.size w w1) := hb
    clear hb
    go_wp2_with fail
    refine (HJ.out _).mono ?_
    rintro e w2 ⟨rfl, hb⟩
    have B2 : Hid (Below w.heap.size w w2) := bstep B1.out hb
    clear hb
    go_wp2_with fail
    refine (HB.out _).mono ?_
    rintro e w3 ⟨rfl, rfl⟩
    go_wp2_with fail
    go_ret
    exact ⟨by simp, B2.out⟩
/-- what a word says, by the document: as a text -/
def rit (p f x : List UInt8) : List UInt8 × Bool := if f = wSrcs then (x, srcW p x) else if f = wSee then (x, ser x) else (prt (inn p x).1, decide ((inn p x).2 = 0))
theorem inn_lu (p x : List UInt8) (hp : p.length ≤ 1000000) (hx : x.length ≤ 1000000) : Lu (inn p x).1 := by
  have hchk : ∀ l : Lb, l.pkg.length ≤ 1000000 → l.name.length ≤ 1000000 → Lu (chk l).1 := fun l h1 h2 => by
    unfold chk; split
    · exact ⟨by simp only; omega, by simp only; omega⟩
    · exact ⟨by simp [zl], by simp [zl]⟩
  have hz : Lu zl := ⟨by simp [zl], by simp [zl]⟩
  unfold inn
  split
  · split
    · exact hchk _ hp (by simp; omega)
    · unfold prs
      split
      · have h1 := c_hd_le (x.drop 2)
        have h2 := c_tl_le (x.drop 2)
        simp only [List.length_drop] at h1 h2
        exact hchk _ (by simp only; omega) (by simp only; omega)
      · exact hz
  · exact hz
set_option maxRecDepth 100000 in
set_option maxHeartbeats 4000000 in
theorem ritem_any {w : World} {g i : Nat} {p f : List UInt8} {E : Int} {L : List Tk} (h : RX w g p E L i (-1)) (hp : okP p = true) (hne : wo L i ≠ []) (hl : (wo L i).length ≤ 4096) :
    Calls Tryz.prog 102 #[.pointer (some ⟨g, 0, none⟩), .string (bs f)] w fun e w' => e = .returned (.tuple #[.string (bs (rit p f (wo L i)).1), .bool (rit p f (wo L i)).2]) ∧ Below w.heap.size w w' := by
  have hpl : p.length ≤ 120 := (okP_len hp).1
  have HWo : Hid (Calls Tryz.prog 41 #[.pointer (some ⟨g, 0, none⟩)] w fun e w' => e = .returned (.string (bs (wo L i))) ∧ ∃ n, w' = w.drewN n) := rword_any h
  have hpk := h.pkg
  have hgl := h.lt
  obtain ⟨x, hx⟩ : ∃ x, wo L i = x := ⟨_, rfl⟩
  rw [hx] at hne hl HWo ⊢
  clear hx
  have HS : Hid (∀ W : World, Calls Tryz.prog 117 #[.string (bs p), .string (bs x)] W fun e w' => e = .returned (.bool (srcW p x)) ∧ Below W.heap.size W w') := fun W => by rw [← src_eq p x hp hne]; exact rsource_any p x W (by omega) (by omega)
  have HE : Hid (∀ W : World, Calls Tryz.prog 118 #[.string (bs x)] W fun e w' => e = .returned (.bool (ser x)) ∧ Below W.heap.size W w') := fun W => rseer_any x W (by omega)
  have HI : Hid (∀ W : World, Calls Tryz.prog 119 #[.string (bs p), .string (bs x)] W fun e w' => e = .returned (pair (inn p x)) ∧ Below W.heap.size W w') := fun W => rin_any p x W (by omega) (by omega)
  have hlu := inn_lu p x (by omega) (by omega)
  have HP : Hid (∀ W : World, Calls Tryz.prog 104 #[(inn p x).1.val] W fun e w' => e = .returned (.string (bs (prt (inn p x).1))) ∧ Below W.heap.size W w') := fun W => rlprint_any _ W hlu
  have x1 := bs_toList f
  have x2 := c_srcs
  have x4 := c_see
  unfold rit
  clear h hlu
  by_cases hf : f = wSrcs
  · have q1 : (f == wSrcs) = true := by rw [hf]; decide
    rw [if_pos hf]
    generalize srcW p x = R at *
    clear hf HP HI HE
    go_enter Tryz.func102, Tryz.ntmps102
    go_wp2_with fail
    refine HWo.out.mono ?_
    rintro e w1 ⟨rfl, n, rfl⟩
    have hpk2 : (w.drewN n).cell? ⟨g, 0, none⟩ = some (.string (bs p)) := hpk
    go_wp2_with fail
    refine (HS.out _).mono ?_
    rintro e w2 ⟨rfl, hb⟩
    have B : Hid (Below w.heap.size w w2) := bstep (bd _ n) hb
    clear hb
    go_wp2_with fail
    go_ret2
    exact ⟨rfl, B.out⟩
  have q1 : (f == wSrcs) = false := by simpa using hf
  rw [if_neg hf]
  by_cases hf2 : f = wSee
  · have q2 : (f == wSee) = true := by rw [hf2]; decide
    rw [if_pos hf2]
    generalize ser x = R at *
    clear hf hf2 HP HI HS
    go_enter Tryz.func102, Tryz.ntmps102
    go_wp2_with fail
    refine HWo.out.mono ?_
    rintro e w1 ⟨rfl, n, rfl⟩
    go_wp2_with fail
    refine (HE.out _).mono ?_
    rintro e w2 ⟨rfl, hb⟩
    have B : Hid (Below w.heap.size w w2) := bstep (bd _ n) hb
    clear hb
    go_wp2_with fail
    go_ret2
    exact ⟨rfl, B.out⟩
  have q2 : (f == wSee) = false := by simpa using hf2
  rw [if_neg hf2]
  clear hf hf2 HE HS
  generalize prt (inn p x).1 = T at *
  generalize inn p x = I at *
  obtain ⟨⟨lp, ln⟩, le⟩ := I
  simp only [pair, Lb.val] at HI HP ⊢
  obtain ⟨R, hR⟩ : ∃ R, decide (le = 0) = R := ⟨_, rfl⟩
  have hR2 : (le == 0) = R := by rw [← hR]; by_cases h : le = 0 <;> simp [h]
  rw [hR]
  clear hR
  go_enter Tryz.func102, Tryz.ntmps102
  go_wp2_with fail
  refine HWo.out.mono ?_
  rintro e w1 ⟨rfl, n, rfl⟩
  have hpk2 : (w.drewN n).cell? ⟨g, 0, none⟩ = some (.string (bs p)) := hpk
  go_wp2_with fail
  refine (HI.out _).mono ?_
  rintro e w2 ⟨rfl, hb⟩
  have B : Hid (Below w.heap.size w w2) := bstep (bd _ n) hb
  clear hb
  go_wp2_with fail
  refine (HP.out _).mono ?_
  rintro e w3 ⟨rfl, hb⟩
  have B3 : Hid (Below w.heap.size w w3) := bstep (bstep B.out (balloc _ _)) hb
  clear hb
  go_wp2_with fail
  go_ret2
  exact ⟨by rw [← hR2]; rfl, B3.out⟩
end Go.Proofs.YtddaoloabfkheaaGreatDoor

namespace Go.Proofs.YtddaoloabfkheaaGreatDoor
open Go.RowKit

theorem go_fp {p : List UInt8} {E S : Int} {st : St} {L : List Tk} {j : Nat} (hf : fin E S st = ([], E)) (h : ∀ hj : j < L.length, stp p st L[j] = none) : go p E S st (L.drop j) = ([], fp L j E) := by
  unfold fp
  by_cases hj : j < L.length
  · rw [dif_pos hj, List.drop_eq_getElem_cons hj]
    simp only [go, h hj]
  · rw [dif_neg hj, List.drop_eq_nil_of_le (by omega)]
    exact hf
theorem go_st {p : List UInt8} {E S : Int} {st st' : St} {L : List Tk} {j : Nat} (hj : j < L.length) (h : stp p st L[j] = some st') : go p E S st (L.drop j) = go p E S st' (L.drop (j + 1)) := by
  rw [List.drop_eq_getElem_cons hj]
  simp only [go, h]
theorem nx_true {L : List Tk} {j : Nat} {q : Int} (h : nx L j q = true) : ∃ hj : j < L.length, L[j].kind = q := by
  unfold nx at h
  by_cases hj : j < L.length
  · rw [dif_pos hj] at h; exact ⟨hj, by simpa using h⟩
  · rw [dif_neg hj] at h; cases h
theorem nx_false {L : List Tk} {j : Nat} {q : Int} (h : nx L j q = false) (hj : j < L.length) : L[j].kind ≠ q := by
  unfold nx at h
  rw [dif_pos hj] at h; simpa using h
theorem fp_nonneg {L : List Tk} {j : Nat} {E : Int} (hE : 0 ≤ E) (hT : ∀ k ∈ L, TkOk k) : 0 ≤ fp L j E := by
  unfold fp
  by_cases hj : j < L.length
  · rw [dif_pos hj]; exact (hT _ (List.getElem_mem hj)).at0
  · rw [dif_neg hj]; exact hE
theorem wo_text {L : List Tk} {j : Nat} (hj : j < L.length) (hk : L[j].kind = 1) : wo L j = L[j].text := by
  unfold wo; rw [dif_pos hj, if_pos hk]
/-- a field's list, as texts -/
def ftx (f : List UInt8) (t : Tg) : List (List UInt8) := if f = wSrcs then t.srcs else if f = wSee then t.see else t.deps.map prt
/-- the other lists are as they were -/
structure Oth (f : List UInt8) (t u : Tg) : Prop where
  name : u.name = t.name
  s : f ≠ wSrcs → u.srcs = t.srcs
  d : f ≠ wDeps → u.deps = t.deps
  e : f ≠ wSee → u.see = t.see
theorem Oth.refl (f : List UInt8) (t : Tg) : Oth f t t := ⟨rfl, fun _ => rfl, fun _ => rfl, fun _ => rfl⟩
theorem Oth.trans {f : List UInt8} {t u v : Tg} (h : Oth f t u) (k : Oth f u v) : Oth f t v := ⟨k.name.trans h.name, fun x => (k.s x).trans (h.s x), fun x => (k.d x).trans (h.d x), fun x => (k.e x).trans (h.e x)⟩
theorem inn_okR {p x : List UInt8} (h : (inn p x).2 = 0) : okL (inn p x).1 = true := by
  have hchk : ∀ l : Lb, (chk l).2 = 0 → okL (chk l).1 = true := fun l hl => by
    unfold chk at hl ⊢
    by_cases ho : okL l = true
    · rw [if_pos ho] at hl ⊢; exact ho
    · rw [if_neg ho] at hl; simp at hl
  unfold inn at h ⊢
  split at h
  · rename_i h1
    rw [if_pos h1]
    split at h
    · rename_i h2
      rw [if_pos h2]; exact hchk _ h
    · rename_i h2
      rw [if_neg h2]
      unfold prs at h ⊢
      split at h
      · rename_i h3; rw [if_pos h3]; exact hchk _ h
      · simp at h
  · simp at h
theorem contains_prt {D : List Lb} {l : Lb} (hD : ∀ x ∈ D, okL x = true) (hl : okL l = true) : (D.map prt).contains (prt l) = D.contains l := by
  rw [Bool.eq_iff_iff]
  simp only [List.contains_iff_mem, List.mem_map]
  constructor
  · rintro ⟨x, hx, he⟩
    rw [← (prt_inj (hD x hx) hl).1 he]; exact hx
  · intro h; exact ⟨l, h, rfl⟩
/-- a word more, by the document's words -/
theorem addI_rit {p f x : List UInt8} {t : Tg} (hf : isF f = true) (hD : ∀ y ∈ t.deps, okL y = true) :
    if ((rit p f x).2 && !(ftx f t).contains (rit p f x).1 && decide ((ftx f t).length < 64)) = true then ∃ u, addI p f t x = some u ∧ ftx f u = ftx f t ++ [(rit p f x).1] ∧ Oth f t u ∧ (∀ y ∈ u.deps, okL y = true) else addI p f t x = none := by
  unfold isF at hf
  simp only [Bool.or_eq_true, beq_iff_eq] at hf
  rcases hf with (rfl | rfl) | rfl
  · have e1 : rit p wSrcs x = (x, srcW p x) := if_pos rfl
    have e2 : ∀ u : Tg, ftx wSrcs u = u.srcs := fun u => if_pos rfl
    rw [e1, e2]
    unfold addI
    rw [if_pos rfl]
    by_cases hc : (srcW p x && !t.srcs.contains x && decide (t.srcs.length < 64)) = true
    · rw [if_pos hc]
      have hc' : (srcW p x && decide (t.srcs.length < 64) && !t.srcs.contains x) = true := by
        simp only [Bool.and_eq_true] at hc ⊢; exact ⟨⟨hc.1.1, hc.2⟩, hc.1.2⟩
      rw [if_pos hc']
      exact ⟨_, rfl, by rw [e2], ⟨rfl, fun h => absurd rfl h, fun _ => rfl, fun _ => rfl⟩, hD⟩
    · rw [if_neg hc]
      rw [if_neg (fun h => hc (by simp only [Bool.and_eq_true] at h ⊢; exact ⟨⟨h.1.1, h.2⟩, h.1.2⟩))]
  · have n1 : ¬ wDeps = wSrcs := by decide
    have n2 : ¬ wDeps = wSee := by decide
    have e1 : rit p wDeps x = (prt (inn p x).1, decide ((inn p x).2 = 0)) := by unfold rit; rw [if_neg n1, if_neg n2]
    have e2 : ∀ u : Tg, ftx wDeps u = u.deps.map prt := fun u => by unfold ftx; rw [if_neg n1, if_neg n2]
    rw [e1, e2]
    unfold addI
    rw [if_neg n1, if_pos rfl, List.length_map]
    by_cases h0 : (inn p x).2 = 0
    · have hcp := contains_prt hD (inn_okR h0)
      rw [hcp]
      by_cases hc : (decide ((inn p x).2 = 0) && !t.deps.contains (inn p x).1 && decide (t.deps.length < 64)) = true
      · rw [if_pos hc]
        have hc' : (decide ((inn p x).2 = 0) && decide (t.deps.length < 64) && !t.deps.contains (inn p x).1) = true := by
          simp only [Bool.and_eq_true] at hc ⊢; exact ⟨⟨hc.1.1, hc.2⟩, hc.1.2⟩
        rw [if_pos hc']
        refine ⟨_, rfl, by rw [e2]; simp, ⟨rfl, fun _ => rfl, fun h => absurd rfl h, fun _ => rfl⟩, ?_⟩
        intro y hy
        rcases List.mem_append.1 hy with hy | hy
        · exact hD y hy
        · simp only [List.mem_singleton] at hy; subst hy; exact inn_okR h0
      · rw [if_neg hc]
        rw [if_neg (fun h => hc (by simp only [Bool.and_eq_true] at h ⊢; exact ⟨⟨h.1.1, h.2⟩, h.1.2⟩))]
    · rw [decide_eq_false h0]
      simp
  · have n1 : ¬ wSee = wSrcs := by decide
    have n3 : ¬ wSee = wDeps := by decide
    have e1 : rit p wSee x = (x, ser x) := by unfold rit; rw [if_neg n1, if_pos rfl]
    have e2 : ∀ u : Tg, ftx wSee u = u.see := fun u => by unfold ftx; rw [if_neg n1, if_pos rfl]
    rw [e1, e2]
    unfold addI
    rw [if_neg n1, if_neg n3]
    by_cases hc : (ser x && !t.see.contains x && decide (t.see.length < 64)) = true
    · rw [if_pos hc]
      have hc' : (ser x && decide (t.see.length < 64) && !t.see.contains x) = true := by
        simp only [Bool.and_eq_true] at hc ⊢; exact ⟨⟨hc.1.1, hc.2⟩, hc.1.2⟩
      rw [if_pos hc']
      exact ⟨_, rfl, by rw [e2], ⟨rfl, fun _ => rfl, fun _ => rfl, fun h => absurd rfl h⟩, hD⟩
    · rw [if_neg hc]
      rw [if_neg (fun h => hc (by simp only [Bool.and_eq_true] at h ⊢; exact ⟨⟨h.1.1, h.2⟩, h.1.2⟩))]
end Go.Proofs.YtddaoloabfkheaaGreatDoor
