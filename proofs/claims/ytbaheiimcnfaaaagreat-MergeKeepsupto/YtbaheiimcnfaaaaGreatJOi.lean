/-
  The law MergeAll.
  The law MergeKeeps: its end.
-/
import Derived.Test.YtbaheiimcnfaaaaGreatJOa
import Derived.Test.YtbaheiimcnfaaaaGreatFw
import Derived.Test.YtbaheiimcnfaaaaGreatJOh
import Derived.Test.YtbaheiimcnfaaaaGreatJNd
namespace Go.Proofs.YtbaheiimcnfaaaaGreat
open Go.RowKit Go.Maps
attribute [local go_sem] Oper.semAt_some

theorem wid_len (p : List UInt8) (k : List (List UInt8)) : (wid p false k).length ≤ k.length := by
  have h := wid_count (d := p) k false
  by_cases e : (k.any (fun c => decide (c = p) || abvV p c)) = true
  · rw [if_pos ⟨rfl, e⟩] at h
    obtain ⟨c, hc, h2⟩ := List.any_eq_true.1 e
    have h3 : 0 < (k.filter (fun c => decide (c = p) || abvV p c)).length := List.length_pos_of_mem (List.mem_filter.2 ⟨hc, h2⟩)
    omega
  · rw [if_neg (fun hh => e hh.2)] at h
    omega
theorem stp_len (l : List Fl) (k : List (List UInt8)) : (stp l k).length ≤ k.length := by
  unfold stp
  split
  · exact Nat.le_refl _
  · exact wid_len _ _
theorem dwnF_len (l : List Fl) (b : Nat) : ∀ (n : Nat) (k : List (List UInt8)), (dwnF l b n k).length ≤ k.length
  | 0, k => Nat.le_refl _
  | n + 1, k => by
    unfold dwnF
    split
    · exact Nat.le_refl _
    · exact Nat.le_trans (dwnF_len l b n _) (stp_len l k)
theorem mat_len (k : List (List UInt8)) (p : List UInt8) : (mat k p).1.length ≤ k.length := by
  unfold mat
  split
  · split
    · exact wid_len _ _
    · simp
  · simp
theorem mstp_len (l : List Fl) (k : List (List UInt8)) : (mstp l k).1.length ≤ k.length := by
  unfold mstp
  split
  · exact stp_len _ _
  · simp
theorem mdwn_len (l : List Fl) (k : List (List UInt8)) (b : Int) : (mdwn l k b).1.length ≤ k.length := by
  unfold mdwn
  split
  · split
    · exact dwnF_len _ _ _ _
    · simp
  · simp
set_option maxRecDepth 100000 in
set_option maxHeartbeats 8000000 in
theorem mall_law {w : World} {lv kv : Value} {l : List Fl} {k : List (List UInt8)} (p : List UInt8) (b : Int) (hf : FS w lv l) (hk : SS w kv k) (sl : FSm l) (sk : Sm k) (hl : l.length ≤ 1000000000) (hkl : k.length ≤ 1000000000) (hp : p.length ≤ 4194304) (hb0 : -9223372036854775808 ≤ b) (hb1 : b ≤ 9223372036854775807) :
    Calls Tryz.prog 5 #[lv, kv, .agg #[.string (bs p), .int .i64 b]] w fun e w' => e = .returned (.bool true) ∧ Below w.heap.size w w' := by
  have HX : Hid (FSm l ∧ Sm k) := ⟨sl, sk⟩
  have HQ := hid_of (And.intro hp (And.intro hb0 hb1))
  have HH := hid_of (fun W => head_any mc_any W)
  have HSM := hid_of (fun W (hW : Below w.heap.size w W) => small_any (hf.later hW) (hk.later hW) hl hkl)
  have HG : Hid (∀ W, Below (w.alloc (.cells #[.string (bs p), .int .i64 b] 43)).heap.size (w.alloc (.cells #[.string (bs p), .int .i64 b] 43)) W → W.cell? ⟨w.heap.size, 0, none⟩ = some (.string (bs p)) ∧ W.cell? ⟨w.heap.size, 1, none⟩ = some (.int .i64 b)) := fun W hW => by
    have hb := (hW.block w.heap.size (by simp)).trans (heap_alloc_new w (.cells #[.string (bs p), .int .i64 b] 43))
    refine ⟨?_, ?_⟩ <;> (simp only [World.cell?, hb]; rfl)
  have B0 := hid_of (balloc w (.cells #[.string (bs p), .int .i64 b] 43))
  obtain ⟨fa, fcp, hfv, -⟩ := hf.form
  generalize l.length = fn at hfv
  subst hfv
  obtain ⟨ka, kcp, hkv, -⟩ := hk.form
  generalize k.length = kn at hkv
  subst hkv
  clear hf hk sl sk hl hkl hp hb0 hb1
  go_enter Tryz.func5, Tryz.ntmps5
  go_wp2_with fail
  generalize hW0 : w.alloc (.cells #[.string (bs p), .int .i64 b] 43) = W0 at HG B0 ⊢
  clear hW0
  generalize hg0 : w.heap.size = g0 at HG ⊢
  refine (HH.out W0).mono ?_
  rintro e w1 ⟨rfl, hb1⟩
  have B1 : Hid (Below W0.heap.size W0 w1) := hb1
  have B1w : Hid (Below w.heap.size w w1) := bstep B0.out hb1
  clear HH hb1
  go_wp2_with fail
  refine (HSM.out w1 B1w.out).mono ?_
  rintro e w2 ⟨⟨x, y, rfl, hfx, hky⟩, hb2⟩
  have HL0 : Hid (FSm (l.take 120) ∧ Sm (k.take 16) ∧ (k.take 16).length ≤ 16) := ⟨HX.out.1.take _, HX.out.2.takes _, by rw [List.length_take]; omega⟩
  have B2 : Hid (Below W0.heap.size W0 w2) := bstep B1.out hb2
  clear hb2 HSM HX
  generalize l.take 120 = L at hfx HL0
  generalize k.take 16 = K at hky HL0
  obtain ⟨la, lc, hx, -⟩ := hfx.form
  obtain ⟨ln, hln⟩ : ∃ ln, L.length = ln := ⟨_, rfl⟩
  rw [hln] at hx
  subst hx
  obtain ⟨qa, qc, hy, -⟩ := hky.form
  obtain ⟨qn, hqn⟩ : ∃ qn, K.length = qn := ⟨_, rfl⟩
  rw [hqn] at hy
  subst hy
  have HF : Hid (∀ W, Below w2.heap.size w2 W → FS W (.slice la ln lc) L) := fun W hW => hfx.later hW
  have HK : Hid (∀ W, Below w2.heap.size w2 W → SS W (.slice qa qn qc) K) := fun W hW => hky.later hW
  have HKL : Hid (K.length ≤ 1000000) := by have := HL0.out.2.2; show K.length ≤ 1000000; omega
  clear hfx hky hln hqn
  obtain ⟨c1, c2, hc⟩ : ∃ c1 c2, mcst L K = (c1, c2) := ⟨_, _, rfl⟩
  obtain ⟨A1, e1, hA1⟩ : ∃ A e, mat K p = (A, e) := ⟨_, _, rfl⟩
  obtain ⟨A2, e2, hA2⟩ : ∃ A e, mstp L K = (A, e) := ⟨_, _, rfl⟩
  obtain ⟨A3, e3, hA3⟩ : ∃ A e, mdwn L K b = (A, e) := ⟨_, _, rfl⟩
  have C2 : Hid (Below w2.heap.size w2 w2) := Below.refl _ _
  have HA1 : Hid (A1.length ≤ 9223372036854775807) := by
    have q := mat_len K p
    rw [hA1] at q
    have := HL0.out.2.2
    show A1.length ≤ _
    simp only at q
    omega
  have HA2 : Hid (A2.length ≤ 9223372036854775807) := by
    have q := mstp_len L K
    rw [hA2] at q
    have := HL0.out.2.2
    show A2.length ≤ _
    simp only at q
    omega
  have HA3 : Hid (A3.length ≤ 9223372036854775807) := by
    have q := mdwn_len L K b
    rw [hA3] at q
    have := HL0.out.2.2
    show A3.length ≤ _
    simp only at q
    omega
  go_wp2_with fail
  refine (mcost_any (HF.out w2 C2.out) HL0.out.1 (HK.out w2 C2.out) HL0.out.2.1).mono ?_
  rintro e w3 ⟨rfl, hb3⟩
  rw [hc]
  simp only
  have C3 := hid_of hb3
  clear hb3
  go_wp2_with fail
  refine (rCost_any (HF.out w3 C3.out) HL0.out.1 (HK.out w3 C3.out) HL0.out.2.1 HKL.out).mono ?_
  rintro e w4 ⟨rfl, hb4⟩
  rw [hc]
  simp only
  have C4 := hid_of (bstep C3.out hb4)
  clear hb4
  obtain ⟨p0, p1⟩ := HG.out w4 (bstep B2.out C4.out)
  go_wp2_with fail
  refine (mat_big p (HK.out w4 C4.out) HL0.out.2.1 HQ.out.1).mono ?_
  intro e w5 h
  unfold TwoS at h
  obtain ⟨v4, rfl, ho, hb⟩ := h
  rw [hA1] at ho ⊢
  simp only at ho ⊢
  have S4 : Hid (SS w5 v4 A1) := ho.bs
  have D4 : Hid (Below w4.heap.size w4 w5) := hb
  have C5 := hid_of (bstep C4.out hb)
  clear ho hb p0 p1
  obtain ⟨p0, p1⟩ := HG.out w5 (bstep B2.out C5.out)
  go_wp2_with fail
  refine (rat_big mc_any (fun p w hp => rvalid_any p w (by omega)) p (HK.out w5 C5.out) HL0.out.2.1 HQ.out.1 HKL.out).mono ?_
  intro e w6 h
  unfold TwoS at h
  obtain ⟨v5, rfl, ho, hb⟩ := h
  rw [hA1] at ho ⊢
  simp only at ho ⊢
  have S5 : Hid (SS w6 v5 A1) := ho.bs
  have D5 : Hid (Below w5.heap.size w5 w6) := hb
  have C6 := hid_of (bstep C5.out hb)
  clear ho hb p0 p1
  obtain ⟨p0, p1⟩ := HG.out w6 (bstep B2.out C6.out)
  go_wp2_with fail
  refine (same_any (S4.out.later D5.out) S5.out HA1.out).mono ?_
  rintro e w7 ⟨rfl, nd, hnd⟩
  have C7 : Hid (Below w2.heap.size w2 w7) := by rw [hnd]; exact bstep C6.out (bd _ _)
  clear hnd p0 p1
  obtain ⟨p0, p1⟩ := HG.out w7 (bstep B2.out C7.out)
  rw [decide_eq_true rfl]
  go_wp2_with fail
  refine (mStep_any (HF.out w7 C7.out) HL0.out.1 (HK.out w7 C7.out) HL0.out.2.1).mono ?_
  intro e w8 h
  unfold TwoS at h
  obtain ⟨v7, rfl, ho, hb⟩ := h
  rw [hA2] at ho ⊢
  simp only at ho ⊢
  have S7 : Hid (SS w8 v7 A2) := ho.bs
  have D7 : Hid (Below w7.heap.size w7 w8) := hb
  have C8 := hid_of (bstep C7.out hb)
  clear ho hb p0 p1
  obtain ⟨p0, p1⟩ := HG.out w8 (bstep B2.out C8.out)
  go_wp2_with fail
  refine (rStep_any (HF.out w8 C8.out) HL0.out.1 (HK.out w8 C8.out) HL0.out.2.1 HKL.out).mono ?_
  intro e w9 h
  unfold TwoR at h
  obtain ⟨v8, rfl, ho, hb⟩ := h
  rw [hA2] at ho ⊢
  simp only at ho ⊢
  have S8 : Hid (SS w9 v8 A2) := ho
  have D8 : Hid (Below w8.heap.size w8 w9) := hb
  have C9 := hid_of (bstep C8.out hb)
  clear ho hb p0 p1
  obtain ⟨p0, p1⟩ := HG.out w9 (bstep B2.out C9.out)
  go_wp2_with fail
  refine (same_any (S7.out.later D8.out) S8.out HA2.out).mono ?_
  rintro e w10 ⟨rfl, nd, hnd⟩
  have C10 : Hid (Below w2.heap.size w2 w10) := by rw [hnd]; exact bstep C9.out (bd _ _)
  clear hnd p0 p1
  obtain ⟨p0, p1⟩ := HG.out w10 (bstep B2.out C10.out)
  rw [decide_eq_true rfl]
  go_wp2_with fail
  refine (mDown_any b (HF.out w10 C10.out) HL0.out.1 (HK.out w10 C10.out) HL0.out.2.1 HQ.out.2.1 HQ.out.2.2).mono ?_
  intro e w11 h
  unfold TwoS at h
  obtain ⟨v10, rfl, ho, hb⟩ := h
  rw [hA3] at ho ⊢
  simp only at ho ⊢
  have S10 : Hid (SS w11 v10 A3) := ho.bs
  have D10 : Hid (Below w10.heap.size w10 w11) := hb
  have C11 := hid_of (bstep C10.out hb)
  clear ho hb p0 p1
  obtain ⟨p0, p1⟩ := HG.out w11 (bstep B2.out C11.out)
  go_wp2_with fail
  refine (rDown_any b (HF.out w11 C11.out) HL0.out.1 (HK.out w11 C11.out) HL0.out.2.1 HKL.out).mono ?_
  intro e w12 h
  unfold TwoR at h
  obtain ⟨v11, rfl, ho, hb⟩ := h
  rw [hA3] at ho ⊢
  simp only at ho ⊢
  have S11 : Hid (SS w12 v11 A3) := ho
  have D11 : Hid (Below w11.heap.size w11 w12) := hb
  have C12 := hid_of (bstep C11.out hb)
  clear ho hb p0 p1
  obtain ⟨p0, p1⟩ := HG.out w12 (bstep B2.out C12.out)
  go_wp2_with fail
  refine (same_any (S10.out.later D11.out) S11.out HA3.out).mono ?_
  rintro e w13 ⟨rfl, nd, hnd⟩
  have C13 : Hid (Below w2.heap.size w2 w13) := by rw [hnd]; exact bstep C12.out (bd _ _)
  clear hnd p0 p1
  obtain ⟨p0, p1⟩ := HG.out w13 (bstep B2.out C13.out)
  rw [decide_eq_true rfl]
  go_wp2_with fail
  go_ret
  exact ⟨by simp, bstep B0.out (bstep B2.out C13.out)⟩
end Go.Proofs.YtbaheiimcnfaaaaGreat

namespace Go.Proofs.YtbaheiimcnfaaaaGreat
open Go.RowKit Go.Maps

attribute [local go_sem] Oper.semAt_some
def GoodK (w : World) (e : Ending) (w' : World) : Prop := e = .returned (.bool true) ∧ Below w.heap.size w w'
def m3F : Fl := ⟨[109, 51], [], 0, 0⟩
/-- what is there before the lists are asked for -/
structure MX (w W1 : World) (la ka : Option Addr) (nl nk lc kc gm cm gf cf dw : Nat) (l : List Fl) (k : List (List UInt8)) (Wv : Nat → Value) (R : Nat → List (List UInt8)) : Prop where
  bel : Below w.heap.size w W1
  ln : l.length = nl
  kn : k.length = nk
  ll : nl ≤ 120
  kl : nk ≤ 16
  fl : FS W1 (.slice la nl lc) l
  ks : SS W1 (.slice ka nk kc) k
  mi : SS W1 (.slice (some ⟨gm, 0, none⟩) (nk + 2) cm) (k ++ [[109, 49], [109, 50]])
  m : SS W1 (.slice (some ⟨gm, 0, none⟩) nk cm) k
  fi : FS W1 (.slice (some ⟨gf, 0, none⟩) (nl + 1) cf) (l ++ [m3F])
  n : FS W1 (.slice (some ⟨gf, 0, none⟩) nl cf) l
  wc : ∀ j, j < 4 → W1.cell? ⟨dw, j, none⟩ = some (Wv j) ∧ SS W1 (Wv j) (R j)
  sl : FSm l
  sk : Sm k
  r1 : R 1 = (mstp l k).1
section
variable {w W1 : World} {la ka : Option Addr} {nl nk lc kc gm cm gf cf dw : Nat} {l : List Fl} {k : List (List UInt8)} {Wv : Nat → Value} {R : Nat → List (List UInt8)} {W : World}
theorem MX.mAt (X : MX w W1 la ka nl nk lc kc gm cm gf cf dw l k Wv R) (hW : Below W1.heap.size W1 W) {i : Nat} {x : List UInt8} (h : (k ++ [[109, 49], [109, 50]])[i]? = some x) : W.cell? ⟨gm, i, none⟩ = some (.string (bs x)) := by
  have hl : (k ++ [[109, 49], [109, 50]]).length = nk + 2 := by simp [X.kn]
  have hm := X.mi
  rw [← hl] at hm
  obtain ⟨h1, h2⟩ := List.getElem?_eq_some_iff.1 h
  obtain ⟨b, off, e, _, hc⟩ := hm.at hW h1
  injection e with e
  injection e with e1 e2
  subst e1 e2
  rw [h2] at hc
  simpa using hc
theorem MX.kAt (X : MX w W1 la ka nl nk lc kc gm cm gf cf dw l k Wv R) (hW : Below W1.heap.size W1 W) {i : Nat} (h : i < nk) : ∃ b off x, ka = some ⟨b, off, none⟩ ∧ W.cell? ⟨b, off + i, none⟩ = some (.string (bs x)) ∧ W.cell? ⟨gm, i, none⟩ = some (.string (bs x)) := by
  have hm := X.ks
  have hn := X.kn
  rw [← hn] at hm h
  obtain ⟨b, off, e, _, hc⟩ := hm.at hW h
  exact ⟨b, off, _, e, hc, X.mAt hW (by rw [List.getElem?_append_left h]; exact List.getElem?_eq_getElem h)⟩
theorem MX.fAt (X : MX w W1 la ka nl nk lc kc gm cm gf cf dw l k Wv R) (hW : Below W1.heap.size W1 W) {i : Nat} {x : Fl} (h : (l ++ [m3F])[i]? = some x) : W.cell? ⟨gf, i * 4, none⟩ = some (.string (bs x.path)) ∧ W.cell? ⟨gf, i * 4 + 1, none⟩ = some (.string (bs x.text)) ∧ W.cell? ⟨gf, i * 4 + 2, none⟩ = some (.int .i64 x.blob) ∧ W.cell? ⟨gf, i * 4 + 3, none⟩ = some (.int .i64 x.size) := by
  have hl : (l ++ [m3F]).length = nl + 1 := by simp [X.ln]
  have hm := X.fi
  rw [← hl] at hm
  obtain ⟨h1, h2⟩ := List.getElem?_eq_some_iff.1 h
  obtain ⟨b, off, e, _, hc⟩ := hm.at hW h1
  injection e with e
  injection e with e1 e2
  subst e1 e2
  rw [h2] at hc
  simpa using hc
theorem MX.lAt (X : MX w W1 la ka nl nk lc kc gm cm gf cf dw l k Wv R) (hW : Below W1.heap.size W1 W) {i : Nat} (h : i < nl) : ∃ (b off : Nat) (x : Fl), la = some ⟨b, off, none⟩ ∧ (W.cell? ⟨b, off + i * 4, none⟩ = some (.string (bs x.path)) ∧ W.cell? ⟨b, off + i * 4 + 1, none⟩ = some (.string (bs x.text)) ∧ W.cell? ⟨b, off + i * 4 + 2, none⟩ = some (.int .i64 x.blob) ∧ W.cell? ⟨b, off + i * 4 + 3, none⟩ = some (.int .i64 x.size)) ∧
    W.cell? ⟨gf, i * 4, none⟩ = some (.string (bs x.path)) ∧ W.cell? ⟨gf, i * 4 + 1, none⟩ = some (.string (bs x.text)) ∧ W.cell? ⟨gf, i * 4 + 2, none⟩ = some (.int .i64 x.blob) ∧ W.cell? ⟨gf, i * 4 + 3, none⟩ = some (.int .i64 x.size) := by
  have hm := X.fl
  have hn := X.ln
  rw [← hn] at hm h
  obtain ⟨b, off, e, _, hc⟩ := hm.at hW h
  exact ⟨b, off, _, e, hc, X.fAt hW (by rw [List.getElem?_append_left h]; exact List.getElem?_eq_getElem h)⟩
end

set_option maxRecDepth 100000 in
set_option maxHeartbeats 16000000 in
theorem p57 {w W1 : World} {la ka : Option Addr} {nl nk lc kc gm cm gf cf dw : Nat} {l : List Fl} {k : List (List UInt8)} {Wv : Nat → Value} {R : Nat → List (List UInt8)} {W : World} {lv2 lv3 lv4 lv5 lv6 lv12 lv13 lv14 lv15 lv16 lv17 lv18 lv19 lv20 lv21 lv22 lv23 lv24 lv25 lv26 lv27 lv28 lv29 lv30 lv31 lv32 lv33 lv34 lv35 lv36 lv37 lv38 lv39 lv40 lv41 lv42 lv43 lv44 lv45 lv46 lv47 lv48 lv49 lv50 lv51 lv52 lv53 lv54 lv55 lv56 lv57 lv58 lv59 lv60 lv61 lv62 lv63 lv64 lv65 lv66 lv67 lv68 lv69 lv70 lv71 lv72 lv73 lv74 lv75 lv76 lv77 lv78 lv79 lv80 lv81 lv82 lv83 lv84 lv85 lv86 lv87 lv88 lv89 lv90 lv91 lv92 lv93 lv94 lv95 lv96 lv97 lv98 lv99 lv100 lv101 lv102 lv103 lv104 lv105 lv106 lv107 lv108 lv109 lv110 lv111 lv112 lv113 lv114 lv115 lv116 lv117 lv118 lv119 lv120 lv121 lv122 lv123 lv124 lv125 lv126 lv127 lv128 lv129 lv130 lv131 lv132 lv133 lv134 lv135 lv136 lv137 lv138 lv139 lv140 lv141 lv142 lv143 lv144 lv145 lv146 lv147 lv148 lv149 lv150 lv151 lv152 lv153 lv154 lv155 lv156 lv157 lv158 lv159 lv160 lv161 lv162 lv163 lv164 lv165 lv166 lv167 lv168 lv169 lv170 lv171 lv172 lv173 lv174 lv175 lv176 lv177 lv178 lv179 lv180 lv181 lv182 lv183 lv184 lv185 lv186 lv187 lv188 lv189 lv190 lv191 lv192 lv193 lv194 lv195 lv196 lv197 lv198 lv199 lv200 lv201 lv202 lv203 lv204 lv205 lv206 lv207 lv208 lv209 lv210 lv211 lv212 lv213 lv214 lv215 lv216 lv217 lv218 lv219 lv220 lv221 lv222 lv223 lv224 lv225 lv226 lv227 lv228 lv229 lv230 lv231 lv232 lv233 lv234 lv235 lv236 lv237 lv238 lv239 lv240 lv241 lv242 lv243 lv244 lv245 lv246 lv247 lv248 lv249 lv250 lv251 lv252 lv253 lv254 lv255 lv256 lv257 lv258 lv259 lv260 lv261 lv262 lv263 lv264 lv265 lv266 lv267 lv268 lv269 lv270 lv271 lv272 lv273 lv274 lv275 lv276 lv277 lv278 lv279 lv280 lv281 lv282 lv283 lv284 lv285 lv286 lv287 lv288 lv289 lv290 lv291 lv292 lv293 lv294 lv295 lv296 lv297 lv298 lv299 lv300 lv301 lv302 lv303 lv304 lv305 lv306 lv307 lv308 lv309 lv310 lv311 lv312 lv313 : Value} (X : Hid (MX w W1 la ka nl nk lc kc gm cm gf cf dw l k Wv R)) (HB : Hid (Below W1.heap.size W1 W)) :
    Code.wp Tryz.prog (suff 57 (Tryz.f4.body.getD .skip)) (bodyPost Tryz.prog Tryz.f4 (GoodK w)) ⟨#[.slice la nl lc, .slice ka nk kc, lv2, lv3, lv4, lv5, lv6, .slice (some ⟨gm, 0, none⟩) (nk + 2) cm, .slice (some ⟨gf, 0, none⟩) (nl + 1) cf, .slice (some ⟨gm, 0, none⟩) nk cm, .slice (some ⟨gf, 0, none⟩) nl cf, .pointer (some ⟨dw, 0, none⟩), lv12, lv13, lv14, lv15, lv16, lv17, lv18, lv19, lv20, lv21, lv22, lv23, lv24, lv25, lv26, lv27, lv28, lv29, lv30, lv31, lv32, lv33, lv34, lv35, lv36, lv37, lv38, lv39, lv40, lv41, lv42, lv43, lv44, lv45, lv46, lv47, lv48, lv49, lv50, lv51, lv52, lv53, lv54, lv55, lv56, lv57, lv58, lv59, lv60, lv61, lv62, lv63, lv64, lv65, lv66, lv67, lv68, lv69, lv70, lv71, lv72, lv73, lv74, lv75, lv76, lv77, lv78, lv79, lv80, lv81, lv82, lv83, lv84, lv85, lv86, lv87, lv88, lv89, lv90, lv91, lv92, lv93, lv94, lv95, lv96, lv97, lv98, lv99, lv100, lv101, lv102, lv103, lv104, lv105, lv106, lv107, lv108, lv109, lv110, lv111, lv112, lv113, lv114, lv115, lv116, lv117, lv118, lv119, lv120, lv121, lv122, lv123, lv124, lv125, lv126, lv127, lv128, lv129, lv130, lv131, lv132, lv133, lv134, lv135, lv136, lv137, lv138, lv139, lv140, lv141, lv142, lv143, lv144, lv145, lv146, lv147, lv148, lv149, lv150, lv151, lv152, lv153, lv154, lv155, lv156, lv157, lv158, lv159, lv160, lv161, lv162, lv163, lv164, lv165, lv166, lv167, lv168, lv169, lv170, lv171, lv172, lv173, lv174, lv175, lv176, lv177, lv178, lv179, lv180, lv181, lv182, lv183, lv184, lv185, lv186, lv187, lv188, lv189, lv190, lv191, lv192, lv193, lv194, lv195, lv196, lv197, lv198, lv199, lv200, lv201, lv202, lv203, lv204, lv205, lv206, lv207, lv208, lv209, lv210, lv211, lv212, lv213, lv214, lv215, lv216, lv217, lv218, lv219, lv220, lv221, lv222, lv223, lv224, lv225, lv226, lv227, lv228, lv229, lv230, lv231, lv232, lv233, lv234, lv235, lv236, lv237, lv238, lv239, lv240, lv241, lv242, lv243, lv244, lv245, lv246, lv247, lv248, lv249, lv250, lv251, lv252, lv253, lv254, lv255, lv256, lv257, lv258, lv259, lv260, lv261, lv262, lv263, lv264, lv265, lv266, lv267, lv268, lv269, lv270, lv271, lv272, lv273, lv274, lv275, lv276, lv277, lv278, lv279, lv280, lv281, lv282, lv283, lv284, lv285, lv286, lv287, lv288, lv289, lv290, lv291, lv292, lv293, lv294, lv295, lv296, lv297, lv298, lv299, lv300, lv301, lv302, lv303, lv304, lv305, lv306, lv307, lv308, lv309, lv310, lv311, lv312, lv313], []⟩ W := by
  conv => arg 2; whnf
  have HC1 := hid_of (mStep_any (X.out.n.later HB.out) X.out.sl (X.out.m.later HB.out) X.out.sk)
  have HLN : Hid ((mstp l k).1.length ≤ 9223372036854775807) := by have := mstp_len l k; have := X.out.kn; have := X.out.kl; show _ ≤ _; omega
  have z1 := X.out.ll
  have z2 := X.out.kl
  refine wp_seq_k fun K hK => ?_
  have HK : Hid _ := hK
  clear hK
  go_wp2_with fail
  refine HC1.out.mono ?_
  rintro e w1 ⟨v1, rfl, ho1, hb1⟩
  have HB1 : Hid (Below W1.heap.size W1 w1) := bstep HB.out hb1
  obtain ⟨a1, c1, hv1⟩ := ho1.len
  obtain ⟨n1, hn1⟩ : ∃ n1, (mstp l k).1.length = n1 := ⟨_, rfl⟩
  rw [hn1] at hv1
  subst hv1
  obtain ⟨q1, q2⟩ := X.out.wc 1 (by omega)
  rw [X.out.r1] at q2
  have HSA : Hid (Calls Tryz.prog 18 #[.slice a1 n1 c1, Wv 1] w1 fun e w' => e = .returned (.bool true) ∧ Below w1.heap.size w1 w') := (same_any ho1.ss (q2.later HB1.out) HLN.out).mono fun e w' ⟨h1, n, h2⟩ => ⟨by rw [h1]; simp, by rw [h2]; exact bd _ _⟩
  have d1 : w1.cell? ⟨dw, 1, none⟩ = some (Wv 1) := by
    rw [HB1.out.cell (World.block_lt_of_cell? W1 ⟨dw, 1, none⟩ q1)]; exact q1
  have m1 : w1.cell? ⟨gm, nk, none⟩ = some (.string { data := #[109, 49] }) := X.out.mAt HB1.out (x := [109, 49]) (by rw [List.getElem?_append_right (by rw [X.out.kn]; exact Nat.le_refl _), X.out.kn, Nat.sub_self]; rfl)
  have m2 : w1.cell? ⟨gm, nk + 1, none⟩ = some (.string { data := #[109, 50] }) := X.out.mAt HB1.out (x := [109, 50]) (by rw [List.getElem?_append_right (by rw [X.out.kn]; omega), X.out.kn, Nat.add_sub_cancel_left]; rfl)
  have m3 : w1.cell? ⟨gf, nl * 4, none⟩ = some (.string { data := #[109, 51] }) := (X.out.fAt HB1.out (x := m3F) (by rw [List.getElem?_append_right (by rw [X.out.ln]; exact Nat.le_refl _), X.out.ln, Nat.sub_self]; rfl)).1
  clear hb1 ho1 hn1 q1 q2 HC1 HB
  have k1 : (nk : Int) < (nk : Int) + 2 := by omega
  have k2 : (nk : Int) + 1 < (nk : Int) + 2 := by omega
  have k3 : (nl : Int) < (nl : Int) + 1 := by omega
  have k4 : (0 : Int) ≤ (nk : Int) := by omega
  have k5 : (0 : Int) ≤ (nl : Int) := by omega
  have k6 : ((nk : Int) + 1).toNat = nk + 1 := by omega
  have k7 : (0 : Int) ≤ (nk : Int) + 1 := by omega
  go_wp2_with fail
  refine HK.out _ _ ?_
  clear HK K
  refine wp_seq_k fun K hK => ?_
  have HK : Hid _ := hK
  clear hK
  go_wp2_with fail
  refine HSA.out.mono ?_
  rintro e w2 ⟨rfl, hb2⟩
  have HB2 : Hid (Below W1.heap.size W1 w2) := bstep HB1.out hb2
  clear hb2 m1 m2 m3 d1
  go_wp2_with fail
  refine HK.out _ _ ?_
  clear HK K
  go_wp2_with fail
  go_ret
  exact ⟨rfl, bstep X.out.bel HB2.out⟩
end Go.Proofs.YtbaheiimcnfaaaaGreat
