/-
  Which directories are open; the cones near a directory.
-/
import Derived.Test.YtkopjamednedfaaGreatSr
namespace Go.Proofs.YtkopjamednedfaaGreat
open Go.RowKit

theorem dlen (l : List UInt8) : (dir l).length ≤ l.length := by
  unfold dir; split
  · simp
  · simp; omega
theorem SS.len2 {w : World} {v : Value} {L : List (List UInt8)} (h : SS w v L) : ∃ a c, v = .slice a L.length c := by
  obtain ⟨a, c, e, _⟩ := h.form
  exact ⟨a, c, e⟩
set_option maxHeartbeats 2000000 in
set_option maxRecDepth 100000 in
theorem openf_any {w : World} {pb : Nat} {vp : Value} {c : List UInt8} {D : List (List UInt8)} (hb : w.cell? ⟨pb, 0, none⟩ = some vp) (hpb : pb < w.heap.size) (hD : SS w vp D) (hc : c.length ≤ 1000000000) :
    Calls Tryz.prog 43 #[.string (bs c), .pointer (some ⟨pb, 0, none⟩)] w fun e w' => e = .returned (.bool (inL (pcs c) D)) ∧ Below w.heap.size w w' := by
  obtain ⟨a0, c0, rfl⟩ := hD.len2
  obtain ⟨n, hn⟩ : ∃ n, D.length = n := ⟨_, rfl⟩
  rw [hn] at hb hD
  have HD : Hid (SS w (.slice a0 n c0) D) := hD
  have HC : Hid (c.length ≤ 1000000000 ∧ (pcs c).length ≤ 4611686018427387904) := ⟨hc, by have := dep_le c; rw [dep_eq]; omega⟩
  obtain ⟨r, hr⟩ : ∃ r, inL (pcs c) D = r := ⟨_, rfl⟩
  rw [hr]
  have HR : Hid (inL (pcs c) D = r) := hr
  clear hD hc hn hr
  go_enter Tryz.func43, Tryz.ntmps43
  go_wp2_with fail
  go_region_held3 (fun w' => w'.cell? ⟨pb, 0, none⟩ = some (.slice a0 n c0)) (first | (with_reducible exact hb) | (with_reducible exact KS) | (with_reducible exact KS2) | go_keep)
    (first
     | (go_at_call 42; (with_reducible refine (split_any c _ HC.out.1).mono ?_); rintro e w1 ⟨v1, rfl, ho1, hb1⟩; obtain ⟨a1, c1, rfl⟩ := ho1.bs.len2; have hbb : Below w.heap.size w w1 := bstep (Below.refl _ _).drew hb1; have KS : w1.cell? ⟨pb, 0, none⟩ = some (.slice a0 n c0) := (hbb.cell (p := ⟨pb, 0, none⟩) hpb).trans hb)
     | (go_at_call 44; (with_reducible refine (inLine_any ho1.bs (HD.out.later hbb) HC.out.2).mono ?_); rintro e w2 ⟨rfl, hb2⟩; have KS2 : w2.cell? ⟨pb, 0, none⟩ = some (.slice a0 n c0) := (hb2.cell (p := ⟨pb, 0, none⟩) (Nat.lt_of_lt_of_le hpb hbb.size)).trans KS))
  have HB : Hid (Below w.heap.size w w2) := bstep hbb hb2
  clear hbb hb2 ho1 hb1
  go_wp2_with fail
  go_ret
  exact ⟨by rw [← HR.out]; rfl, HB.out⟩
/-- texts that may be taken apart -/
def Sh (k : List (List UInt8)) : Prop := ∀ c ∈ k, c.length ≤ 1000000000
set_option maxHeartbeats 2000000 in
set_option maxRecDepth 100000 in
theorem open_any {w : World} {v : Value} {k : List (List UInt8)} (d : List UInt8) (h : SS w v k) (sm : Sm k) (sh : Sh k) (hd : d.length ≤ 1000000000) :
    Calls Tryz.prog 25 #[v, .string (bs d)] w fun e w' => e = .returned (.bool (shD k d)) ∧ Below w.heap.size w w' := by
  have H : Hid (SS w v k ∧ Sm k ∧ Sh k) := ⟨h, sm, sh⟩
  clear h sm sh
  by_cases h0 : d = []
  · subst h0
    have e1 : shD k [] = true := by simp [shD]
    rw [e1]
    have e2 : (bs []).toList.isEmpty = true := by rw [bs_toList]; rfl
    go_enter Tryz.func25, Tryz.ntmps25
    go_wp2_with fail
    go_ret
    exact ⟨rfl, Below.refl _ _⟩
  · rw [shD_any k d h0]
    have e0 : (bs d).toList = d := bs_toList _
    have e1 : (d == []) = false := by simpa using h0
    have e2 : d.isEmpty = false := by cases d with
      | nil => exact absurd rfl h0
      | cons x r => rfl
    clear h0
    go_enter Tryz.func25, Tryz.ntmps25
    go_wp2_with fail
    refine (split_any d w hd).mono ?_
    rintro e w1 ⟨v1, rfl, ho1, hb1⟩
    obtain ⟨a1, c1, rfl⟩ := ho1.bs.len2
    obtain ⟨n, hn⟩ : ∃ n, (pcs d).length = n := ⟨_, rfl⟩
    rw [hn] at ho1 ⊢
    obtain ⟨w2, hw2⟩ : ∃ w2, w1.alloc (.cells #[.slice a1 n c1] 22) = w2 := ⟨_, rfl⟩
    have HB : Hid (Below w.heap.size w w1 ∧ w1.alloc (.cells #[.slice a1 n c1] 22) = w2) := ⟨hb1, hw2⟩
    have K : Hid (w2.cell? ⟨w1.heap.size, 0, none⟩ = some (.slice a1 n c1) ∧ SS w2 (.slice a1 n c1) (pcs d) ∧ Below w.heap.size w w2 ∧ w1.heap.size < w2.heap.size) := by
      have b1 : Below w1.heap.size w1 w2 := by rw [← hw2]; exact balloc _ _
      exact ⟨by rw [← hw2]; simp, ho1.bs.later b1, below_trans hb1 (below_mono b1 hb1.size), by rw [← hw2]; simp⟩
    clear ho1 hb1 hw2 hn
    go_wp2_with fail
    try rw [HB.out.2]
    refine (containsO_any (pb := w1.heap.size) (fun c => inL (pcs c) (pcs d)) (H.out.1.later K.out.2.2.1) (by have := H.out.2.1.len; omega) (fun x hx W hW => openf_any ((hW.cell (p := ⟨w1.heap.size, 0, none⟩) K.out.2.2.2).trans K.out.1) (Nat.lt_of_lt_of_le K.out.2.2.2 hW.size) (K.out.2.1.later hW) (H.out.2.2 x hx))).mono ?_
    rintro e w3 ⟨rfl, hb3⟩
    have HB3 : Hid (Below w.heap.size w w3) := bstep K.out.2.2.1 hb3
    clear hb3
    go_wp2_with fail
    go_ret
    exact ⟨rfl, HB3.out⟩
theorem SS.nothing (w : World) (a : Option Addr) (n c : Nat) (l : List (List UInt8)) (hn : n = 0) (hl : l = []) : SS w (.slice a n c) l := by
  subst hn
  exact .inl ⟨⟨_, _, rfl⟩, hl⟩
theorem SS.cutv {w : World} {ad : Option Addr} {n c : Nat} {k : List (List UInt8)} (h : SS w (.slice ad n c) k) (hn : k.length = n) (lo hi : Nat) (h1 : lo ≤ hi) (h2 : hi ≤ n) :
    SS w (.slice (ad.map fun x => x.add lo) (hi - lo) (c - lo)) ((k.drop lo).take (hi - lo)) := by
  have hlen : ((k.drop lo).take (hi - lo)).length = hi - lo := by rw [List.length_take, List.length_drop]; omega
  by_cases h0 : lo < hi
  · rcases h with ⟨⟨_, _, _⟩, e⟩ | ⟨b, off, cap, e, hc, hlt, hcell⟩
    · subst e; simp at hn; omega
    · injection e with e1 _ e3
      subst e1; subst e3
      refine .inr ⟨b, off + lo, c - lo, by rw [hlen]; simp [add_lit], by rw [hlen]; omega, hlt, fun i u hu => ?_⟩
      have hi' : i < hi - lo := by
        rcases Nat.lt_or_ge i (hi - lo) with h | h
        · exact h
        · rw [List.getElem?_eq_none (by rw [sc_length, hlen]; exact h)] at hu; cases hu
      have := hcell (lo + i) u (by
        rw [sc_get] at hu ⊢
        rw [← hu, List.getElem?_take_of_lt hi', List.getElem?_drop])
      rw [Nat.add_assoc]; exact this
  · exact SS.nothing _ _ _ _ _ (by omega) (by rw [show hi - lo = 0 by omega]; simp)
end Go.Proofs.YtkopjamednedfaaGreat
