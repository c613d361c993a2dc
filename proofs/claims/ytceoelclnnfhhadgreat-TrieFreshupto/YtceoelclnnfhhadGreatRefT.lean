/-
  The document's tree: a list of files in a block; where a file is; is it a directory?
-/
import Derived.Test.YtceoelclnnfhhadGreatRefV
import Derived.Test.YtceoelclnnfhhadGreatTri5
import Derived.Test.YtceoelclnnfhhadGreatKeep
import Derived.Test.YtceoelclnnfhhadGreatSame
namespace Go.Proofs.YtceoelclnnfhhadGreat
open Go.RowKit

/-- the document's tree in block t -/
structure RT (w : World) (base t : Nat) (L : List Fl) : Prop where
  it : ∃ a c, w.heap[t]? = some (.cells #[.slice a L.length c] 58 (0, 0)) ∧ OwnF base w (.slice a L.length c) L
  big : base ≤ t
  good : Good L
  srt : Srt L
  fok : ∀ f ∈ L, Fok f
theorem RT.lt {w : World} {base t : Nat} {L : List Fl} (h : RT w base t L) : t < w.heap.size := by
  obtain ⟨a, c, h1, _⟩ := h.it
  exact (Array.getElem?_eq_some_iff.1 h1).1
theorem RT.later {w w' : World} {base t : Nat} {L : List Fl} (h : RT w base t L) (hb : Below w.heap.size w w') : RT w' base t L := by
  obtain ⟨a, c, h1, h2⟩ := h.it
  exact ⟨⟨a, c, (hb.block t h.lt).trans h1, h2.later hb⟩, h.big, h.good, h.srt, h.fok⟩
theorem RT.ak {w w' : World} {base t : Nat} {L : List Fl} (h : RT w base t L) (k : AK w w') : RT w' base t L := by
  obtain ⟨a, c, h1, h2⟩ := h.it
  exact ⟨⟨a, c, (k.block _ _ _ _ h1 (by decide)).trans h1, h2.ak k⟩, h.big, h.good, h.srt, h.fok⟩
theorem RT.mono {w : World} {base base' t : Nat} {L : List Fl} (h : RT w base t L) (hb : base' ≤ base) : RT w base' t L := by
  obtain ⟨a, c, h1, h2⟩ := h.it
  exact ⟨⟨a, c, h1, h2.mono hb⟩, Nat.le_trans hb h.big, h.good, h.srt, h.fok⟩
theorem RT.sm {w : World} {base t : Nat} {L : List Fl} (h : RT w base t L) : FSm L := ⟨by have := h.good.len; omega, h.fok⟩
/-- what is loaded of it, in a later world -/
theorem RT.cell {w : World} {base t : Nat} {L : List Fl} (h : RT w base t L) : ∃ a c, (∀ wr, Below w.heap.size w wr → wr.cell? ⟨t, 0, none⟩ = some (.slice a L.length c) ∧ OwnF base wr (.slice a L.length c) L) := by
  obtain ⟨a, c, h1, h2⟩ := h.it
  refine ⟨a, c, fun wr hb => ⟨?_, h2.later hb⟩⟩
  rw [hb.cell (p := ⟨t, 0, none⟩) h.lt]
  simp [World.cell?, h1]

theorem abv_V (a b : List UInt8) : abv (pcs a) (pcs b) = abvV a b := (abvV_eq a b).symm
theorem rabv_any (a b : List UInt8) (w : World) (ha : a.length ≤ 1000000000) (hb : b.length ≤ 1000000000) : Calls Tryz.prog 28 #[.string (bs a), .string (bs b)] w fun e w' => e = .returned (.bool (abvV a b)) ∧ Below w.heap.size w w' := by
  have := rabove_any a b w ha hb
  rw [abv_V] at this; exact this
theorem RT.pathLen {w : World} {base t : Nat} {L : List Fl} (h : RT w base t L) {k : Nat} (hk : k < L.length) : L[k].path.length ≤ 120 := (okP_len (h.good.ok (List.getElem_mem hk))).1

set_option maxRecDepth 100000 in
set_option maxHeartbeats 2000000 in
theorem rat_any {w : World} {base t : Nat} {L : List Fl} (h : RT w base t L) (p : List UInt8) :
    Calls Tryz.prog 67 #[.pointer (some ⟨t, 0, none⟩), .string (bs p)] w fun e w' => (∃ i : Int, e = .returned (.int .i64 i) ∧ ((i = -1 ∧ ∀ f ∈ L, f.path ≠ p) ∨ ∃ (k : Nat) (hk : k < L.length), i = k ∧ L[k].path = p)) ∧ Below w.heap.size w w' := by
  obtain ⟨a, c, hc⟩ := h.cell
  have H : Hid (∀ wr, Below w.heap.size w wr → wr.cell? ⟨t, 0, none⟩ = some (.slice a L.length c) ∧ OwnF base wr (.slice a L.length c) L) := hc
  have hlen := h.good.len
  clear h hc
  obtain ⟨n, hn⟩ : ∃ n, L.length = n := ⟨_, rfl⟩
  have HN : Hid (L.length = n) := hn
  rw [hn] at hlen
  have H' : Hid (∀ wr, Below w.heap.size w wr → wr.cell? ⟨t, 0, none⟩ = some (.slice a n c) ∧ FS wr (.slice a L.length c) L) := fun wr hb => ⟨by rw [← hn]; exact (H.out wr hb).1, (H.out wr hb).2.fs⟩
  clear hn H
  go_enter Tryz.func67, Tryz.ntmps67
  go_wp2_with fail
  go_loopw [5] (fun i wr => ∃ k : Nat, k ≤ n ∧ i = .int .i64 k ∧ Below w.heap.size w wr ∧ ∀ j (hj : j < L.length), j < k → L[j].path ≠ p) (fun i _ => n - (intOf i).toNat)
  case atStart => exact ⟨0, by omega, rfl, Below.refl _ _, fun j hj h => by omega⟩
  case round =>
    obtain ⟨k, hk, rfl, hb, hno⟩ := hrel
    have HB : Hid (Below w.heap.size w wr ∧ ∀ j (hj : j < L.length), j < k → L[j].path ≠ p) := ⟨hb, hno⟩
    have c0 := (H'.out wr hb).1
    clear hb hno
    by_cases hlt : k < n
    · have hkl : k < L.length := by have := HN.out; omega
      obtain ⟨b, off, ea, hbw, d0, _, _, _⟩ := FS.at (H'.out wr HB.out.1).2 (Below.refl _ _) hkl
      subst ea
      have k1 : (0 : Int) ≤ (k : Int) := by omega
      have k2 : (k : Int) < (n : Int) := by omega
      have t1 := bs_toList (L[k].path)
      have t2 := bs_toList p
      by_cases he : L[k].path = p
      · have HE : Hid (L[k].path = p) := he
        have hb2 : (L[k].path == p) = true := by simpa using he
        clear he
        go_wp2_with fail
        go_ret
        exact ⟨⟨k, rfl, .inr ⟨k, hkl, rfl, HE.out⟩⟩, HB.out.1⟩
      · have HE : Hid (L[k].path ≠ p) := he
        have hb2 : (L[k].path == p) = false := by simpa using he
        clear he
        go_wp2_with fail
        go_roundw
        case rel =>
          refine ⟨k + 1, by omega, by go_num, HB.out.1, fun j hj h => ?_⟩
          by_cases e : j = k
          · subst e; exact HE.out
          · exact HB.out.2 j hj (by omega)
        case measure => simp [intOf]; omega
    · obtain rfl : n = k := by omega
      go_wp2_with fail
      go_ret
      refine ⟨⟨-1, rfl, .inl ⟨rfl, fun f hf => ?_⟩⟩, HB.out.1⟩
      obtain ⟨j, hj, e⟩ := List.getElem_of_mem hf
      rw [← e]
      exact HB.out.2 j hj (by have := HN.out; omega)

theorem any_step (L : List Fl) (P : Fl → Bool) (k : Nat) (h : k < L.length) : (L.drop k).any P = (P (L[k]'h) || (L.drop (k + 1)).any P) := by
  rw [List.drop_eq_getElem_cons h]; rfl
set_option maxRecDepth 100000 in
set_option maxHeartbeats 2000000 in
theorem ris_any {w : World} {base t : Nat} {L : List Fl} (h : RT w base t L) (d : List UInt8) (hd : d.length ≤ 4194304) :
    Calls Tryz.prog 25 #[.pointer (some ⟨t, 0, none⟩), .string (bs d)] w fun e w' => e = .returned (.bool (isD L d)) ∧ Below w.heap.size w w' := by
  obtain ⟨r, hr⟩ : ∃ r, isD L d = r := ⟨_, rfl⟩
  rw [hr]
  have HR : Hid (isD L d = r) := hr
  have HT : Hid (RT w base t L ∧ d.length ≤ 4194304) := ⟨h, hd⟩
  obtain ⟨a, c, hc⟩ := h.cell
  have H : Hid (∀ wr, Below w.heap.size w wr → wr.cell? ⟨t, 0, none⟩ = some (.slice a L.length c) ∧ OwnF base wr (.slice a L.length c) L) := hc
  have hlen := h.good.len
  clear h hc hr
  obtain ⟨n, hn⟩ : ∃ n, L.length = n := ⟨_, rfl⟩
  have HN : Hid (L.length = n) := hn
  rw [hn] at hlen
  have H' : Hid (∀ wr, Below w.heap.size w wr → wr.cell? ⟨t, 0, none⟩ = some (.slice a n c) ∧ FS wr (.slice a L.length c) L) := fun wr hb => ⟨by rw [← hn]; exact (H.out wr hb).1, (H.out wr hb).2.fs⟩
  clear hn H
  have ee := isE d
  by_cases h0 : d = []
  · have hde : d.isEmpty = true := by rw [h0]; rfl
    have HR2 : Hid (r = true) := by show _ = _; rw [← HR.out]; unfold isD; rw [h0]; rfl
    rw [hde] at ee
    clear h0 hde
    go_enter Tryz.func25, Tryz.ntmps25
    go_wp2_with fail
    go_ret
    exact ⟨by rw [HR2.out]; rfl, Below.refl _ _⟩
  · have hde : d.isEmpty = false := by
      cases d with
      | nil => exact absurd rfl h0
      | cons x y => rfl
    rw [hde] at ee
    have hd0 : (d == []) = false := by simpa using h0
    have HV : Hid (∀ W : World, Calls Tryz.prog 54 #[.string (bs d)] W fun e w' => e = .returned (.bool (okP d)) ∧ Below W.heap.size W w') := fun W => rvalid_any d W (by omega)
    cases hv : okP d
    · have HR2 : Hid (r = false) := by show _ = _; rw [← HR.out]; unfold isD; rw [hd0, hv]; rfl
      rw [hv] at HV
      clear h0 hde hd0 hv
      go_enter Tryz.func25, Tryz.ntmps25
      go_wp2_with fail
      refine (HV.out _).mono ?_
      rintro e w1 ⟨rfl, hb1⟩
      have HB1 : Hid (Below w.heap.size w w1) := hb1
      clear hb1
      go_wp2_with fail
      go_ret
      exact ⟨by rw [HR2.out]; rfl, HB1.out⟩
    · have HR2 : Hid ((L.drop 0).any (fun f => abvV d f.path) = r) := by show _ = _; rw [← HR.out]; unfold isD; rw [hd0, hv]; rfl
      rw [hv] at HV
      clear h0 hde hd0 hv
      go_enter Tryz.func25, Tryz.ntmps25
      go_wp2_with fail
      refine (HV.out _).mono ?_
      rintro e w1 ⟨rfl, hb1⟩
      have HB1 : Hid (Below w.heap.size w w1) := hb1
      clear hb1
      go_wp2_with fail
      go_loopw [5] (fun i wr => ∃ k : Nat, k ≤ n ∧ i = .int .i64 k ∧ Below w.heap.size w wr ∧ (L.drop k).any (fun f => abvV d f.path) = r) (fun i _ => n - (intOf i).toNat)
      case atStart => exact ⟨0, by omega, rfl, HB1.out, HR2.out⟩
      case round =>
        obtain ⟨k, hk, rfl, hb, hl⟩ := hrel
        have HB : Hid (Below w.heap.size w wr ∧ (L.drop k).any (fun f => abvV d f.path) = r) := ⟨hb, hl⟩
        have c0 := (H'.out wr hb).1
        clear hb hl
        by_cases hlt : k < n
        · have hkl : k < L.length := by have := HN.out; omega
          obtain ⟨b, off, ea, hbw, d0, d1, d2, d3⟩ := FS.at (H'.out wr HB.out.1).2 (Below.refl _ _) hkl
          subst ea
          have HP : Hid (L[k].path.length ≤ 120 ∧ (abvV d L[k].path || (L.drop (k + 1)).any (fun f => abvV d f.path)) = r) := ⟨HT.out.1.pathLen hkl, by rw [← HB.out.2, any_step L _ k hkl]⟩
          obtain ⟨q, hq⟩ : ∃ q, L[k].path = q := ⟨_, rfl⟩
          rw [hq] at d0 HP
          clear hq d1 d2 d3 hkl
          have k1 : (0 : Int) ≤ (k : Int) := by omega
          have k2 : (k : Int) < (n : Int) := by omega
          go_wp2_with fail
          refine (rabv_any d q _ (by omega) (by have := HP.out.1; omega)).mono ?_
          rintro e w2 ⟨rfl, hb2⟩
          have HB2 : Hid (Below w.heap.size w w2) := bstep HB.out.1 hb2
          clear hb2 d0 c0
          cases ha : abvV d q
          · rw [ha] at HP
            clear ha
            go_wp2_with fail
            go_roundw
            case rel => exact ⟨k + 1, by omega, by go_num, HB2.out, by have := HP.out.2; rwa [Bool.false_or] at this⟩
            case measure => simp [intOf]; omega
          · rw [ha] at HP
            clear ha
            go_wp2_with fail
            go_ret
            exact ⟨by have := HP.out.2; rw [Bool.true_or] at this; rw [← this]; rfl, HB2.out⟩
        · obtain rfl : n = k := by omega
          go_wp2_with fail
          go_ret
          refine ⟨?_, HB.out.1⟩
          have h1 := HB.out.2
          rw [List.drop_eq_nil_of_le (by have := HN.out; omega)] at h1
          rw [← h1]; rfl
end Go.Proofs.YtceoelclnnfhhadGreat
