/-
  The document's Parts.
-/
import Derived.Test.YtclbnjfmipifnaaFs
import Derived.Test.YtclbnjfmipifnaaDk
namespace Go.Proofs.Ytclbnjfmipifnaa
open Go.RowKit Go.Maps

/-- a list of lists, to be read -/
structure PR (base : Nat) (w : World) (v : Value) (V : List Value) (P : List (List Lb)) : Prop where
  row : w.ownsRow base 32 1 v V.length V
  len : V.length = P.length
  own : ∀ (j : Nat) (vj : Value) (l : List Lb), V[j]? = some vj → P[j]? = some l → OwnL base w vj l
section
variable {base : Nat} {w w' : World} {v : Value} {V : List Value} {P : List (List Lb)}
theorem PL.pr (h : PL base w v V P) : PR base w v V P := ⟨h.row, h.len, h.own⟩
theorem PR.nil (base : Nat) (w : World) : PR base w (.slice none 0 0) [] [] := (PL.nil base w).pr
theorem PR.stay (h : PR base w v V P) (hs : ∀ k, base ≤ k → k < w.heap.size → w'.heap[k]? = w.heap[k]?) : PR base w' v V P :=
  ⟨row_kept h.row (fun k hk => by obtain ⟨a, b, _⟩ := row_tag h.row hk; exact hs k a b), h.len, fun j vj l h1 h2 => row_kept (h.own j vj l h1 h2) (fun k hk => by obtain ⟨a, b, _⟩ := row_tag (h.own j vj l h1 h2) hk; exact hs k a b)⟩
theorem PR.later (h : PR base w v V P) (hb : Below w.heap.size w w') : PR base w' v V P := h.stay (fun k _ hk => hb.block k hk)
theorem PR.mono {base' : Nat} (h : PR base w v V P) (hb : base' ≤ base) : PR base' w v V P := ⟨World.ownsRow.mono h.row hb, h.len, fun j vj l h1 h2 => (h.own j vj l h1 h2).mono hb⟩
theorem PR.aside {S : List Nat} (h : PR base w v V P) (ho : Only S w w') (h1 : ∀ k, v.ownBlock = some k → k ∉ S) (h2 : ∀ (j : Nat) (vj : Value) (k : Nat), V[j]? = some vj → vj.ownBlock = some k → k ∉ S) : PR base w' v V P :=
  ⟨row_only h.row ho h1, h.len, fun j vj l a b => row_only (h.own j vj l a b) ho (fun k hk => h2 j vj k a hk)⟩
theorem PR.at (h : PR base w v V P) {j : Nat} {vj : Value} (hj : V[j]? = some vj) : ∃ l, P[j]? = some l ∧ OwnL base w vj l := by
  have h1 := (List.getElem?_eq_some_iff.1 hj).1
  rw [h.len] at h1
  exact ⟨P[j], List.getElem?_eq_getElem h1, h.own j vj _ hj (List.getElem?_eq_getElem h1)⟩
theorem tag_ne {x y : Value} {l : List Lb} {n : Nat} {L : List Value} (hx : OwnL base w x l) (hy : w.ownsRow base 32 1 y n L) {k : Nat} (h1 : x.ownBlock = some k) (h2 : y.ownBlock = some k) : False := by
  obtain ⟨_, _, c1, t1⟩ := row_tag hx h1
  obtain ⟨_, _, c2, t2⟩ := row_tag hy h2
  exact absurd (tags_ne t1 t2) (by decide)
/-- one more list at the end -/
theorem PR.push (h : PR base w v V P) {o : Obj} {v' u : Value} {l : List Lb} (hu : OwnL base w u l) (hg : (w.alloc o).grownBy w' v.ownBlock) (hr : w'.ownsRow base 32 1 v' (V ++ [u]).length (V ++ [u])) : PR base w' v' (V ++ [u]) (P ++ [l]) := by
  have ho : Only v.ownBlock.toList w w' := only_alloc hg
  have hn : ∀ k, k ∈ v.ownBlock.toList → v.ownBlock = some k := fun k hk => by simpa using hk
  have keep : ∀ {x : Value} {m : List Lb}, OwnL base w x m → OwnL base w' x m := fun {x m} h3 => row_only h3 ho (fun k hk e => by
    obtain ⟨_, _, c1, t1⟩ := row_tag h3 hk
    obtain ⟨_, _, c2, t2⟩ := row_tag h.row (hn k e)
    exact absurd (tags_ne t1 t2) (by decide))
  refine ⟨hr, by simp [h.len], fun j vj m h1 h2 => ?_⟩
  by_cases hj : j < V.length
  · rw [List.getElem?_append_left hj] at h1
    rw [List.getElem?_append_left (by rw [← h.len]; exact hj)] at h2
    exact keep (h.own j vj m h1 h2)
  · have hl : j < (V ++ [u]).length := (List.getElem?_eq_some_iff.1 h1).1
    simp at hl
    have hj2 : j = V.length := by omega
    subst hj2
    rw [List.getElem?_append_right (Nat.le_refl _)] at h1
    rw [h.len, List.getElem?_append_right (Nat.le_refl _)] at h2
    simp at h1 h2
    subst h1 h2
    exact keep hu
end
/-- what of 'there' is also in 'back' -/
def both (R S : List Lb) : List Lb := R.filter (fun x => decide (x ∈ S))
theorem both_step {R S : List Lb} {k : Nat} (hk : k < R.length) {x : Lb} (hx : R[k] = x) : both (R.take (k + 1)) S = both (R.take k) S ++ (if x ∈ S then [x] else []) := by
  unfold both
  rw [List.take_succ_eq_append_getElem hk, List.filter_append, hx]
  by_cases h : x ∈ S <;> simp [h]
theorem both_le (R S : List Lb) (k : Nat) : (both (R.take k) S).length ≤ R.length := by
  refine Nat.le_trans (List.length_filter_le _ _) ?_
  rw [List.length_take]; omega
theorem rch_one {N : List Lb} {E : List Ee} {a x : Lb} (ha : a ∈ N) : Gs.Rch N E [a] x ↔ Gs.Way E a x := by
  unfold Gs.Rch
  constructor
  · rintro ⟨b, hb, _, hw⟩
    rw [List.mem_singleton.1 hb] at hw; exact hw
  · intro hw
    exact ⟨a, by simp, ha, hw⟩
theorem both_part {N : List Lb} {E : List Ee} {a : Lb} (ha : a ∈ N) (hs : ∀ e ∈ E, e.1 ∈ N ∧ e.2 ∈ N) {R S : List Lb} (hR : UpL R) (h1 : ∀ x, x ∈ R ↔ Gs.Rch N E [a] x) (h2 : ∀ x, x ∈ S ↔ Gs.Rch N (Gs.flp E) [a] x) : UpL (both R S) ∧ ∀ y, y ∈ both R S ↔ (y ∈ N ∧ Gs.Mut E a y) := by
  refine ⟨List.Pairwise.sublist List.filter_sublist hR, fun y => ?_⟩
  unfold both
  rw [List.mem_filter]
  simp only [decide_eq_true_eq]
  rw [h1, h2, rch_one ha, rch_one ha]
  constructor
  · rintro ⟨k1, k2⟩
    exact ⟨rch_in hs ((rch_one ha).2 k1), k1, Gs.way_flp.1 k2⟩
  · rintro ⟨_, k1, k2⟩
    exact ⟨k1, Gs.way_flp.2 k2⟩
set_option maxRecDepth 100000 in
set_option maxHeartbeats 16000000 in
theorem dparts_any {w : World} {F : Nat → Prop} {d : Nat} {N : List Lb} {E : List Ee} (h : DG w F d N E) (hz : N.length ≤ 1000) :
    Calls Try.prog 17 #[.pointer (some ⟨d, 0, none⟩)] w fun e w' => ∃ v V P, e = .returned v ∧ PR w.heap.size w' v V P ∧ Gs.Pts ltL N E P ∧ P = Gs.pts ltL N E ∧ Below w.heap.size w w' := by
  obtain ⟨an, cn, ae, ce, h0, h1, _, _, hoN, hoE⟩ := h.rows
  have HR : Hid (Calls Try.prog 20 #[.slice an N.length cn] w fun e w' => ∃ u, e = .returned u ∧ OwnL w.heap.size w' u (rs N) ∧ Below w.heap.size w w') := drising_any hoN.rs (by omega) h.lu
  have H : Hid (DG w F d N E ∧ N.length ≤ 1000) := ⟨h, hz⟩
  obtain ⟨nl, hnl⟩ : ∃ nl, N.length = nl := ⟨_, rfl⟩
  rw [hnl] at h0 HR
  obtain ⟨A, hA⟩ : ∃ A, rs N = A := ⟨_, rfl⟩
  rw [hA] at HR
  have HA : Hid (UpL A ∧ (∀ x, x ∈ A ↔ x ∈ N) ∧ A.length ≤ 1000 ∧ N.length ≤ 1000) := by
    rw [← hA]
    exact ⟨Gs.ris_up stoL N, fun x => Gs.mem_ris _ _, Nat.le_trans (Gs.ris_le _) hz, hz⟩
  clear h h1 hoN hoE hz hnl hA
  go_enter Try.func17, Try.ntmps17
  go_wp2_with fail
  refine HR.out.mono ?_
  rintro e w1 ⟨v1, rfl, ho1, hb1⟩
  obtain ⟨al, hal⟩ : ∃ al, A.length = al := ⟨_, rfl⟩
  obtain ⟨a1, c1, hv1⟩ := ho1.form
  rw [hal] at hv1
  subst hv1
  have HW : Hid (OwnL w.heap.size w1 (.slice a1 al c1) A ∧ Below w.heap.size w w1 ∧ A.length = al) := ⟨ho1, hb1, hal⟩
  have hal2 : al ≤ 1000 := by have := HA.out.2.2.1; omega
  clear ho1 hb1 hal HR h0
  go_wp2_with fail
  go_loopw [4, 5, 6] (fun s4 s5 s6 wr => ∃ (i : Nat) (V : List Value) (P : List (List Lb)) (D : List Lb), s6 = .int .i64 (i : Int) ∧ i ≤ al ∧ PR w1.heap.size wr s4 V P ∧ Gs.PtsK ltL N E A i P ∧ OwnL w1.heap.size wr s5 D ∧ (∀ x, x ∈ D ↔ ∃ p ∈ P, x ∈ p) ∧ D.length ≤ i * 1000 ∧ P.length ≤ i ∧ Below w1.heap.size w1 wr ∧ ∀ (j : Nat) (vj : Value) (k : Nat), V[j]? = some vj → vj.ownBlock = some k → s5.ownBlock ≠ some k) (fun _ _ s6 _ => al - (intOf s6).toNat)
  case atStart => exact ⟨0, [], [], [], rfl, by omega, PR.nil _ _, Gs.PtsK.nil _ _ _ _, OwnL.nil _ _, by simp, by simp, by simp, Below.refl _ _, fun j vj k h => by simp at h⟩
  case round =>
    obtain ⟨i, V, P, D, rfl, hi, hP, hK, hD, hDm, hDl, hPl, hb, hDJ⟩ := hrel
    obtain ⟨a4, c4, hv4⟩ := row_form hP.row
    obtain ⟨vl, hvl⟩ : ∃ vl, V.length = vl := ⟨_, rfl⟩
    rw [hvl] at hv4
    subst hv4
    obtain ⟨a5, c5, hv5⟩ := hD.form
    obtain ⟨dl, hdl⟩ : ∃ dl, D.length = dl := ⟨_, rfl⟩
    rw [hdl] at hv5
    subst hv5
    have HX : Hid (PR w1.heap.size wr (.slice a4 vl c4) V P ∧ Gs.PtsK ltL N E A i P ∧ OwnL w1.heap.size wr (.slice a5 dl c5) D ∧ (∀ x, x ∈ D ↔ ∃ p ∈ P, x ∈ p) ∧ D.length ≤ i * 1000 ∧ P.length ≤ i ∧ Below w1.heap.size w1 wr ∧ V.length = vl ∧ D.length = dl) := ⟨hP, hK, hD, hDm, hDl, hPl, hb, hvl, hdl⟩
    have HDJ : Hid (∀ (j : Nat) (vj : Value) (k : Nat), V[j]? = some vj → vj.ownBlock = some k → (Value.slice a5 dl c5).ownBlock ≠ some k) := hDJ
    have hvl2 : vl ≤ 1000 := by have := hP.len; omega
    have hdl2 : dl ≤ 1000000 := by have : i * 1000 ≤ 1000 * 1000 := Nat.mul_le_mul_right _ (by omega); omega
    clear hP hK hD hDm hDl hPl hb hvl hdl hDJ
    by_cases hlt : i < al
    · have hil : i < A.length := by rw [HW.out.2.2]; exact hlt
      obtain ⟨b, off, ea, hbw, d0, d1⟩ := LS.at HW.out.1.rs HX.out.2.2.2.2.2.2.1 hil
      subst ea
      obtain ⟨a, hae⟩ : ∃ a, A[i] = a := ⟨_, rfl⟩
      rw [hae] at d0 d1
      have HAE : Hid (A[i] = a ∧ a ∈ N) := ⟨hae, (HA.out.2.1 a).1 (by rw [← hae]; exact List.getElem_mem hil)⟩
      have i1 : (i : Int) < (al : Int) := by omega
      have i0 : (0 : Int) ≤ (i : Int) := by omega
      have HIN : Hid (Calls Try.prog 12 #[.slice a5 dl c5, a.val] wr fun e w' => e = .returned (.bool (decide (a ∈ D))) ∧ Below wr.heap.size wr w') := in_any HX.out.2.2.1.rs (by have := HX.out.2.2.2.2.2.2.2.2; omega) a
      have hbl : b < wr.heap.size := Nat.lt_of_lt_of_le hbw HX.out.2.2.2.2.2.2.1.size
      obtain ⟨pk, nm⟩ := a
      simp only [Lb.val] at d0 d1 HIN
      by_cases hin : (⟨pk, nm⟩ : Lb) ∈ D
      · have hin2 : decide ((⟨pk, nm⟩ : Lb) ∈ D) = true := by simp [hin]
        rw [hin2] at HIN
        have HI : Hid ((⟨pk, nm⟩ : Lb) ∈ D) := hin
        clear hin hin2 hae
        go_wp2_with fail
        refine HIN.out.mono ?_
        rintro e w2 ⟨rfl, hb2⟩
        have HB2 : Hid (Below wr.heap.size wr w2) := hb2
        clear hb2 HIN
        go_wp2_with fail
        go_roundw
        case rel =>
          obtain ⟨p, hp, hxp⟩ := (HX.out.2.2.2.1 _).1 HI.out
          refine ⟨i + 1, V, P, D, by go_num, by omega, HX.out.1.later HB2.out, HX.out.2.1.skip hil hp (by rw [HAE.out.1]; exact hxp), HX.out.2.2.1.later HB2.out, HX.out.2.2.2.1, by have := HX.out.2.2.2.2.1; omega, by have := HX.out.2.2.2.2.2.1; omega, bstep HX.out.2.2.2.2.2.2.1 HB2.out, HDJ.out⟩
        case measure => simp [intOf]; omega
      · have hin2 : decide ((⟨pk, nm⟩ : Lb) ∈ D) = false := by simp [hin]
        rw [hin2] at HIN
        have HI : Hid ((⟨pk, nm⟩ : Lb) ∉ D) := hin
        clear hin hin2 hae
        go_wp2_with fail
        refine HIN.out.mono ?_
        rintro e w2 ⟨rfl, hb2⟩
        have HB2 : Hid (Below wr.heap.size wr w2 ∧ DG w2 F d N E) := ⟨hb2, H.out.1.later (bstep HW.out.2.1 (bstep HX.out.2.2.2.2.2.2.1 hb2))⟩
        have e0 := (hb2.cell (p := ⟨b, off + i * 2, none⟩) hbl).trans d0
        have e1 := (hb2.cell (p := ⟨b, off + i * 2 + 1, none⟩) hbl).trans d1
        have HR1 : Hid (Calls Try.prog 13 #[.pointer (some ⟨d, 0, none⟩), .slice (some ⟨w2.heap.size, 0, none⟩) 1 1] (w2.alloc (.cells #[.string (bs pk), .string (bs nm)] 35)) fun e w' => ∃ u R, e = .returned u ∧ OwnL (w2.alloc (.cells #[.string (bs pk), .string (bs nm)] 35)).heap.size w' u R ∧ UpL R ∧ (∀ x, x ∈ R ↔ Gs.Rch N E [⟨pk, nm⟩] x) ∧ Below (w2.alloc (.cells #[.string (bs pk), .string (bs nm)] 35)).heap.size (w2.alloc (.cells #[.string (bs pk), .string (bs nm)] 35)) w') := dreach_any (HB2.out.2.later (balloc _ _)) (ls_one w2 ⟨pk, nm⟩) (by simp)
        have HFW : Hid (wr.cell? ⟨b, off + i * 2, none⟩ = some (.string (bs pk)) ∧ wr.cell? ⟨b, off + i * 2 + 1, none⟩ = some (.string (bs nm))) := ⟨d0, d1⟩
        clear hb2 HIN d0 d1
        go_wp2_with fail
        refine HR1.out.mono ?_
        rintro e w3 ⟨v7, R, rfl, ho7, hR1, hR2, hb3⟩
        obtain ⟨rl, hrl⟩ : ∃ rl, R.length = rl := ⟨_, rfl⟩
        obtain ⟨a7, c7, hv7⟩ := ho7.form
        rw [hrl] at hv7
        subst hv7
        have HB3 : Hid (Below wr.heap.size wr w3 ∧ DG w3 F d N E ∧ LS w3 (.slice a7 rl c7) R ∧ UpL R ∧ (∀ x, x ∈ R ↔ Gs.Rch N E [⟨pk, nm⟩] x) ∧ R.length = rl) := by
          have h9 := bstep (balloc w2 (.cells #[.string (bs pk), .string (bs nm)] 35)) hb3
          exact ⟨bstep HB2.out.1 h9, HB2.out.2.later h9, ho7.rs, hR1, hR2, hrl⟩
        have e0' := (HB3.out.1.cell (p := ⟨b, off + i * 2, none⟩) hbl)
        have hsl : b < w2.heap.size := Nat.lt_of_lt_of_le hbl HB2.out.1.size
        have f0 := ((bstep (balloc w2 (.cells #[.string (bs pk), .string (bs nm)] 35)) hb3).cell (p := ⟨b, off + i * 2, none⟩) hsl).trans e0
        have f1 := ((bstep (balloc w2 (.cells #[.string (bs pk), .string (bs nm)] 35)) hb3).cell (p := ⟨b, off + i * 2 + 1, none⟩) hsl).trans e1
        have hrl2 : rl ≤ 1000 := by
          have h9 := Gs.nodup_sub R N (Gs.Ris.nodup stoL hR1) (fun x hx => rch_in H.out.1.sub ((hR2 x).1 hx))
          have := HA.out.2.2.2
          omega
        clear e0 e1 e0' ho7 hR1 hR2 hb3 hrl HR1
        have HBK : Hid (∀ W, Below w3.heap.size w3 W → Calls Try.prog 34 #[.pointer (some ⟨d, 0, none⟩)] W fun e w' => ∃ gb, e = .returned (.pointer (some ⟨gb, 0, none⟩)) ∧ (∃ G, DG w' G gb N (Gs.flp E)) ∧ Below W.heap.size W w') := fun W hW => (dback_any (HB3.out.2.1.later hW)).mono fun _ _ ⟨k1, k2, k3⟩ => ⟨_, k1, ⟨_, k2⟩, k3⟩
        have HRE : Hid (∀ W gb lv, (∃ G, DG W G gb N (Gs.flp E)) → LS W lv [⟨pk, nm⟩] → Calls Try.prog 13 #[.pointer (some ⟨gb, 0, none⟩), lv] W fun e w' => ∃ u S, e = .returned u ∧ OwnL W.heap.size w' u S ∧ UpL S ∧ (∀ x, x ∈ S ↔ Gs.Rch N (Gs.flp E) [⟨pk, nm⟩] x) ∧ Below W.heap.size W w') := fun W gb lv h1 h2 => by obtain ⟨G, h1⟩ := h1; exact dreach_any h1 h2 (by simp)
        have hb3l : b < w3.heap.size := Nat.lt_of_lt_of_le hbl HB3.out.1.size
        have HLO : Hid (∀ w4 : World, Below (w3.alloc (.cells #[.string (bs pk), .string (bs nm)] 35)).heap.size (w3.alloc (.cells #[.string (bs pk), .string (bs nm)] 35)).drew w4 → LS w4 (.slice (some ⟨w3.heap.size, 0, none⟩) 1 1) [⟨pk, nm⟩]) := fun w4 h => (ls_one w3 ⟨pk, nm⟩).later ⟨h.os, h.tape, h.output, h.size, h.block⟩
        go_wp2_with fail
        go_region_held3 (fun w' => w'.cell? ⟨b, off + i * 2, none⟩ = some (.string (bs pk)) ∧ w'.cell? ⟨b, off + i * 2 + 1, none⟩ = some (.string (bs nm))) (first | (with_reducible exact ⟨f0, f1⟩) | (with_reducible exact KS1.out) | (with_reducible exact KS2.out) | go_keep) (first | (go_at_call 34; (with_reducible refine (HBK.out _ (by first | exact Below.refl _ _ | exact (Below.refl _ _).drew | exact balloc _ _ | exact (balloc _ _).drew)).mono ?_); rintro e w4 ⟨gb, rfl, ⟨G4, hdg⟩, hb4⟩; have HB4 : Hid (Below w3.heap.size w3 w4) := bstep (by first | exact Below.refl _ _ | exact (Below.refl _ _).drew | exact balloc _ _ | exact (balloc _ _).drew) hb4; have KS1 : Hid (w4.cell? ⟨b, off + i * 2, none⟩ = some (.string (bs pk)) ∧ w4.cell? ⟨b, off + i * 2 + 1, none⟩ = some (.string (bs nm))) := ⟨(HB4.out.cell (p := ⟨b, off + i * 2, none⟩) hb3l).trans f0, (HB4.out.cell (p := ⟨b, off + i * 2 + 1, none⟩) hb3l).trans f1⟩; have HDG := hdg; clear hdg; first | (have HLS4 := HLO.out w4 hb4; clear hb4) | clear hb4) | (go_at_call 13; (refine Calls.mono (HRE.out _ _ _ ?_ ?_) ?_); (focus (first | exact ⟨_, HDG⟩ | exact ⟨_, HDG.later (balloc _ _)⟩ | exact ⟨_, HDG.later (Below.refl _ _).drew⟩ | exact ⟨_, HDG.later (balloc _ _).drew⟩)); (focus (first | exact HLS4 | exact ls_one _ _ | exact (ls_one _ _).later (Below.refl _ _).drew)); rintro e w5 ⟨v8, S, rfl, ho8, hS1, hS2, hb5⟩; have HB5 : Hid (Below w3.heap.size w3 w5 ∧ UpL S ∧ (∀ x, x ∈ S ↔ Gs.Rch N (Gs.flp E) [⟨pk, nm⟩] x) ∧ LS w5 v8 S) := ⟨bstep HB4.out (by first | exact hb5 | exact bstep (balloc _ _) hb5 | exact bstep (Below.refl _ _).drew hb5 | exact bstep (balloc _ _).drew hb5), hS1, hS2, ho8.rs⟩; obtain ⟨a8, c8, rfl⟩ := ho8.form; have KS2 : Hid (w5.cell? ⟨b, off + i * 2, none⟩ = some (.string (bs pk)) ∧ w5.cell? ⟨b, off + i * 2 + 1, none⟩ = some (.string (bs nm))) := ⟨((bstep HB3.out.1 HB5.out.1).cell (p := ⟨b, off + i * 2, none⟩) hbl).trans HFW.out.1, ((bstep HB3.out.1 HB5.out.1).cell (p := ⟨b, off + i * 2 + 1, none⟩) hbl).trans HFW.out.2⟩; clear ho8 hS1 hS2 hb5))
        all_goals
          obtain ⟨sl, hsl2⟩ : ∃ sl, S.length = sl := ⟨_, rfl⟩
          rw [hsl2] at HB5 ⊢
          have HSL : Hid (S.length = sl ∧ sl ≤ 100000000) := by
            refine ⟨hsl2, ?_⟩
            have h9 := Gs.nodup_sub S N (Gs.Ris.nodup stoL HB5.out.2.1) (fun x hx => rch_in (by
              intro e he
              obtain ⟨x, y⟩ := e
              rw [Gs.mem_flp] at he
              exact (H.out.1.sub _ he).symm) ((HB5.out.2.2.1 x).1 hx))
            have := HA.out.2.2.2
            omega
          clear hsl2 KS1 KS2 f0 f1
          go_wp2_with fail
          go_loopw [9, 10] (fun s9 s10 wq => ∃ k : Nat, s10 = .int .i64 (k : Int) ∧ k ≤ rl ∧ OwnL w5.heap.size wq s9 (both (R.take k) S) ∧ Below w5.heap.size w5 wq) (fun _ s10 _ => rl - (intOf s10).toNat)
          case atStart => exact ⟨0, rfl, by omega, OwnL.nil _ _, Below.refl _ _⟩
          case round =>
            rename World => wq
            obtain ⟨k, rfl, hk, hQ, hbq⟩ := hrel
            obtain ⟨a9, c9, hv9⟩ := hQ.form
            obtain ⟨ql, hql⟩ : ∃ ql, (both (R.take k) S).length = ql := ⟨_, rfl⟩
            rw [hql] at hv9
            subst hv9
            have HQ : Hid (OwnL w5.heap.size wq (.slice a9 ql c9) (both (R.take k) S) ∧ Below w5.heap.size w5 wq ∧ (both (R.take k) S).length = ql) := ⟨hQ, hbq, hql⟩
            have hql2 : ql ≤ 1000 := by have := both_le R S k; have := HB3.out.2.2.2.2.2; omega
            clear hQ hbq hql
            by_cases hkl : k < rl
            · have hkR : k < R.length := by rw [HB3.out.2.2.2.2.2]; exact hkl
              obtain ⟨b6, off6, ea, hbw6, g0, g1⟩ := LS.at HB3.out.2.2.1 (bstep HB5.out.1 HQ.out.2.1) hkR
              subst ea
              obtain ⟨x, hx⟩ : ∃ x, R[k] = x := ⟨_, rfl⟩
              rw [hx] at g0 g1
              have HXE : Hid (R[k] = x) := hx
              have HIN2 : Hid (Calls Try.prog 12 #[.slice a8 sl c8, x.val] wq fun e w' => e = .returned (.bool (decide (x ∈ S))) ∧ Below wq.heap.size wq w') := in_any (HB5.out.2.2.2.later HQ.out.2.1) (by rw [HSL.out.1]; exact HSL.out.2) x
              have k1 : (k : Int) < (rl : Int) := by omega
              have k0 : (0 : Int) ≤ (k : Int) := by omega
              have hb6l : b6 < wq.heap.size := Nat.lt_of_lt_of_le hbw6 (bstep HB5.out.1 HQ.out.2.1).size
              obtain ⟨pk2, nm2⟩ := x
              simp only [Lb.val] at g0 g1 HIN2
              clear hx
              by_cases hxS : (⟨pk2, nm2⟩ : Lb) ∈ S
              · have hd : decide ((⟨pk2, nm2⟩ : Lb) ∈ S) = true := by simp [hxS]
                rw [hd] at HIN2
                have HST : Hid (both (R.take (k + 1)) S = both (R.take k) S ++ [⟨pk2, nm2⟩]) := by
                  show both (R.take (k + 1)) S = _
                  rw [both_step hkR HXE.out, if_pos hxS]
                clear hd hxS
                go_wp2_with fail
                refine HIN2.out.mono ?_
                rintro e w6 ⟨rfl, hb6⟩
                have g0' := (hb6.cell (p := ⟨b6, off6 + k * 2, none⟩) hb6l).trans g0
                have g1' := (hb6.cell (p := ⟨b6, off6 + k * 2 + 1, none⟩) hb6l).trans g1
                have HO6 : Hid (OwnL w5.heap.size w6 (.slice a9 ql c9) (both (R.take k) S) ∧ Below w5.heap.size w5 w6 ∧ (both (R.take k) S).length + 1 ≤ 100000000 ∧ w5.heap.size ≤ w6.heap.size) := ⟨HQ.out.1.later hb6, bstep HQ.out.2.1 hb6, by have := HQ.out.2.2; omega, (bstep HQ.out.2.1 hb6).size⟩
                clear hb6 HIN2 g0 g1
                go_wp2_with (first | (at_builtin; refine app_L1 und_L ⟨pk2, nm2⟩ HO6.out.1 HO6.out.2.2.1 HO6.out.2.2.2 rfl (.tmp 55) (.tmp 60) rfl rfl rfl ?_; intro v7 w7 ho7 hb7 hon7 hs7 hwh7))
                have HO7 : Hid (OwnL w5.heap.size w7 v7 (both (R.take (k + 1)) S) ∧ Below w5.heap.size w5 w7) := ⟨by rw [HST.out]; exact ho7, below_trans HO6.out.2.1 hb7⟩
                clear ho7 hb7 hon7 hs7 hwh7
                go_wp2_with fail
                go_roundw
                case rel => exact ⟨k + 1, by go_num, by omega, HO7.out.1, HO7.out.2⟩
                case measure => simp [intOf]; omega
              · have hd : decide ((⟨pk2, nm2⟩ : Lb) ∈ S) = false := by simp [hxS]
                rw [hd] at HIN2
                have HST : Hid (both (R.take (k + 1)) S = both (R.take k) S) := by
                  show both (R.take (k + 1)) S = _
                  rw [both_step hkR HXE.out, if_neg hxS, List.append_nil]
                clear hd hxS
                go_wp2_with fail
                refine HIN2.out.mono ?_
                rintro e w6 ⟨rfl, hb6⟩
                have HO6 : Hid (OwnL w5.heap.size w6 (.slice a9 ql c9) (both (R.take k) S) ∧ Below w5.heap.size w5 w6) := ⟨HQ.out.1.later hb6, bstep HQ.out.2.1 hb6⟩
                clear hb6 HIN2 g0 g1
                go_wp2_with fail
                go_roundw
                case rel => exact ⟨k + 1, by go_num, by omega, by rw [HST.out]; exact HO6.out.1, HO6.out.2⟩
                case measure => simp [intOf]; omega
            · obtain rfl : rl = k := by omega
              have HBW : Hid (Below wr.heap.size wr wq ∧ Below wr.heap.size wr w5) := ⟨bstep HB3.out.1 (bstep HB5.out.1 HQ.out.2.1), bstep HB3.out.1 HB5.out.1⟩
              have HE : Hid (both (R.take rl) S = both R S) := by
                show both (R.take rl) S = both R S
                rw [List.take_of_length_le (by rw [HB3.out.2.2.2.2.2]; exact Nat.le_refl _)]
              have HD1 : Hid (OwnL w1.heap.size wq (.slice a5 dl c5) D ∧ D.length + (both (R.take rl) S).length ≤ 100000000 ∧ w1.heap.size ≤ wq.heap.size) := by
                refine ⟨HX.out.2.2.1.later HBW.out.1, ?_, (bstep HX.out.2.2.2.2.2.2.1 HBW.out.1).size⟩
                have h1 := HX.out.2.2.2.2.2.2.2.2
                have h2 := HQ.out.2.2
                omega
              have HPQ : Hid (PR w1.heap.size wq (.slice a4 vl c4) V P ∧ ∀ (j : Nat) (vj : Value) (k : Nat), V[j]? = some vj → vj.ownBlock = some k → k < wq.heap.size) := by
                have h9 := HX.out.1.later HBW.out.1
                exact ⟨h9, fun j vj k h1 h2 => by obtain ⟨l, _, h3⟩ := h9.at h1; exact (row_tag h3 h2).2.1⟩
              have HQB : Hid (∀ k, (Value.slice a9 ql c9).ownBlock = some k → w5.heap.size ≤ k ∧ k < wq.heap.size) := fun k hk => ⟨(row_tag HQ.out.1 hk).1, (row_tag HQ.out.1 hk).2.1⟩
              have HDB : Hid (∀ k, (Value.slice a5 dl c5).ownBlock = some k → k < wr.heap.size) := fun k hk => (row_tag HX.out.2.2.1 hk).2.1
              have HFIN : Hid (∀ (w6 : World) (v6 : Value), OwnL w1.heap.size w6 v6 (D ++ both (R.take rl) S) → wq.grownBy w6 (Value.slice a5 dl c5).ownBlock → (v6.ownBlock = (Value.slice a5 dl c5).ownBlock ∨ v6.ownBlock = some wq.heap.size) → PR w1.heap.size w6 (.slice a4 vl c4) V P ∧ OwnL w1.heap.size w6 (.slice a9 ql c9) (both R S) ∧ Below w1.heap.size w1 w6 ∧ ∀ (j : Nat) (vj : Value) (k : Nat), (V ++ [Value.slice a9 ql c9])[j]? = some vj → vj.ownBlock = some k → v6.ownBlock ≠ some k) := by
                intro w6 v6 h1 h2 h3
                have ho := only_grown h2
                have hm : ∀ k, k ∈ bl (Value.slice a5 dl c5) → (Value.slice a5 dl c5).ownBlock = some k := fun k hk => by unfold bl at hk; simpa using hk
                have hq9 : OwnL w1.heap.size wq (.slice a9 ql c9) (both R S) := by
                  have h9 := HQ.out.1
                  rw [HE.out] at h9
                  exact h9.mono (bstep HX.out.2.2.2.2.2.2.1 HBW.out.2).size
                refine ⟨HPQ.out.1.aside ho (fun k hk e => tag_ne HD1.out.1 HPQ.out.1.row (hm k e) hk) (fun j vj k a b e => HDJ.out j vj k a b (hm k e)), row_only hq9 ho (fun k hk e => ?_), below_trans (bstep HX.out.2.2.2.2.2.2.1 HBW.out.1) ((OnlyP.of_only (F := fun k => w1.heap.size ≤ k) ho (fun k hk _ => (row_tag HD1.out.1 (hm k hk)).1)).below HD1.out.2.2 (fun k hk => hk)), fun j vj k a b e => ?_⟩
                · have := HDB.out k (hm k e)
                  have := (HQB.out k hk).1
                  have := HBW.out.2.size
                  omega
                · by_cases hj : j < V.length
                  · rw [List.getElem?_append_left hj] at a
                    rcases h3 with h3 | h3
                    · exact HDJ.out j vj k a b (h3 ▸ e)
                    · rw [h3] at e
                      injection e with e
                      have := HPQ.out.2 j vj k a b
                      omega
                  · have hl : j < (V ++ [Value.slice a9 ql c9]).length := (List.getElem?_eq_some_iff.1 a).1
                    simp at hl
                    have hj2 : j = V.length := by omega
                    subst hj2
                    rw [List.getElem?_append_right (Nat.le_refl _)] at a
                    simp at a
                    subst a
                    obtain ⟨q1, q2⟩ := HQB.out k b
                    rcases h3 with h3 | h3
                    · rw [h3] at e
                      have := HDB.out k e
                      have := HBW.out.2.size
                      omega
                    · rw [h3] at e
                      injection e with e
                      omega
              have HVL1 : Hid (V.length + 1 ≤ 1000000 ∧ V.length = vl) := ⟨by have := HX.out.2.2.2.2.2.2.2.1; omega, HX.out.2.2.2.2.2.2.2.1⟩
              go_wp2_with (first | (at_builtin; refine app_Lt und_L (base := w1.heap.size) (l := D) (k := both (R.take rl) S) HD1.out.1 (src_own HQ.out.1) HD1.out.2.1 HD1.out.2.2 rfl (.tmp 62) (.tmp 63) rfl rfl rfl ?_; intro v6 w6 ho6 hg6 hv6; obtain ⟨a6, c6, rfl⟩ := ho6.form; have H6 := HFIN.out _ _ ho6 hg6 hv6; have HO6 : Hid (OwnL w1.heap.size w6 (.slice a6 (D ++ both (R.take rl) S).length c6) (D ++ both (R.take rl) S)) := ho6; have H6H : Hid (PR w1.heap.size w6 (.slice a4 vl c4) V P ∧ OwnL w1.heap.size w6 (.slice a9 ql c9) (both R S) ∧ Below w1.heap.size w1 w6 ∧ ∀ (j : Nat) (vj : Value) (k : Nat), (V ++ [Value.slice a9 ql c9])[j]? = some vj → vj.ownBlock = some k → (Value.slice a6 (D ++ both (R.take rl) S).length c6).ownBlock ≠ some k) := H6; clear H6 ho6 hg6 hv6) | (at_builtin; refine app_LL (base := w1.heap.size) (V := V) (.slice a9 ql c9) rfl H6H.out.1.row HVL1.out.1 H6H.out.2.2.1.size rfl rfl (.tmp 65) (.tmp 67) rfl rfl rfl ?_; intro v7 w7 ho7 hg7; obtain ⟨a7x, c7x, rfl⟩ := row_form ho7; have HP7 : Hid (PR w1.heap.size w7 (.slice a7x (V ++ [Value.slice a9 ql c9]).length c7x) (V ++ [Value.slice a9 ql c9]) (P ++ [both R S]) ∧ OwnL w1.heap.size w7 (.slice a6 (D ++ both (R.take rl) S).length c6) (D ++ both (R.take rl) S) ∧ Below w1.heap.size w1 w7) := ⟨H6H.out.1.push H6H.out.2.1 hg7 ho7, row_only HO6.out (only_alloc hg7) (fun k hk e => tag_ne HO6.out H6H.out.1.row hk (by simpa using e)), below_trans H6H.out.2.2.1 ((OnlyP.of_only (F := fun k => w1.heap.size ≤ k) (only_alloc hg7) (fun k hk _ => (row_tag H6H.out.1.row (by simpa using hk)).1)).below H6H.out.2.2.1.size (fun k hk => hk))⟩; clear ho7 hg7))
              go_wp2_with fail
              go_roundw
              case rel =>
                obtain ⟨b1, b2⟩ := both_part HAE.out.2 H.out.1.sub HB3.out.2.2.2.1 HB3.out.2.2.2.2.1 HB5.out.2.2.1
                have hfin := HP7.out
                have hdj := H6H.out.2.2.2
                rw [show (V ++ [Value.slice a9 ql c9]).length = V.length + 1 by simp] at hfin
                rw [show (D ++ both (R.take rl) S).length = D.length + (both (R.take rl) S).length by simp] at hfin hdj
                refine ⟨i + 1, V ++ [Value.slice a9 ql c9], P ++ [both R S], D ++ both (R.take rl) S, by go_num, by omega, hfin.1, ?_, hfin.2.1, fun x => ?_, ?_, by simp; have := HX.out.2.2.2.2.2.1; omega, hfin.2.2, hdj⟩
                · refine HX.out.2.1.add stoL HA.out.1 HA.out.2.1 hil (fun p hp hx => ?_) b1 (fun y => by rw [HAE.out.1]; exact b2 y)
                  rw [HAE.out.1] at hx
                  exact HI.out ((HX.out.2.2.2.1 _).2 ⟨p, hp, hx⟩)
                · rw [List.mem_append, HX.out.2.2.2.1, HE.out]
                  constructor
                  · rintro (⟨p, hp, hx⟩ | hx)
                    · exact ⟨p, by simp [hp], hx⟩
                    · exact ⟨both R S, by simp, hx⟩
                  · rintro ⟨p, hp, hx⟩
                    rcases List.mem_append.1 hp with hp | hp
                    · exact .inl ⟨p, hp, hx⟩
                    · rw [List.mem_singleton.1 hp] at hx; exact .inr hx
                · have h1 := HX.out.2.2.2.2.1
                  have h2 := HQ.out.2.2
                  rw [List.length_append]
                  omega
              case measure => simp [intOf]; omega
    · obtain rfl : al = i := by omega
      go_wp2_with fail
      go_ret
      have h9 : Gs.PtsK ltL N E A A.length P := by rw [HW.out.2.2]; exact HX.out.2.1
      have h10 := h9.done HA.out.2.1
      exact ⟨_, V, P, rfl, HX.out.1.mono HW.out.2.1.size, h10, h10.eq stoL, bstep HW.out.2.1 HX.out.2.2.2.2.2.2.1⟩
end Go.Proofs.Ytclbnjfmipifnaa
