/-
  A file laid into a row at its place: slices.Insert, walked.
-/
import Derived.Test.YtinhdjoidbcfaaaIns
import Derived.Deep.RegionHeld3
namespace Go.Proofs.Ytinhdjoidbcfaaa
open Go.RowKit

theorem mid_list (l : List Fl) (f : Fl) (a : Nat) (ha : a < l.length) : (l.take (a + 1) ++ l.drop a).take a ++ [f] ++ (l.take (a + 1) ++ l.drop a).drop (a + 1) = l.take a ++ f :: l.drop a := by
  have h1 : (l.take (a + 1)).length = a + 1 := by simp; omega
  rw [List.take_append_of_le_length (by omega), List.take_take, Nat.min_eq_left (by omega), List.drop_left' h1]
  simp

set_option maxRecDepth 100000 in
set_option maxHeartbeats 4000000 in
theorem insert_end {base : Nat} {w : World} {v : Value} {l : List Fl} (h : OwnF base w v l) (f : Fl) (vb : Nat) (hv : VB w vb f) (hl : l.length + 1 ≤ 100000000) (hbase : base ≤ w.heap.size) :
    Calls Try.prog 64 #[v, .int .i64 (l.length : Int), .slice (some ⟨vb, 0, none⟩) 1 1] w fun e w' => ∃ v', e = .returned v' ∧ OwnF base w' v' (l ++ [f]) ∧ Only (bl v) w w' ∧ (v'.ownBlock = v.ownBlock ∨ v'.ownBlock = some w.heap.size) := by
  have H : Hid (OwnF base w v l ∧ VB w vb f) := ⟨h, hv⟩
  obtain ⟨ad, cap, rfl⟩ := h.form
  obtain ⟨X, hX⟩ := slice_from _ ad l.length cap rfl l.length (Nat.le_refl _)
  clear h hv
  obtain ⟨n, hn⟩ : ∃ n, l.length = n := ⟨_, rfl⟩
  have HN : Hid (l.length = n) := hn
  have H' : Hid (OwnF base w (.slice ad n cap) l) := by rw [← hn]; exact H.out.1
  have HV : Hid (VB w vb f) := H.out.2
  clear H
  rw [hn] at hX hl ⊢
  clear hn
  go_enter Try.func64, Try.ntmps64
  go_wp2_with (first | (at_builtin; refine app_files (base := base) (l := l) (k := [f]) H'.out HV.out.src (by have := HN.out; simp; omega) hbase rfl (.tmp 23) (.tmp 24) rfl rfl rfl ?_; intro v2 w2 ho2 hg2 hv2))
  go_ret
  exact ⟨v2, rfl, ho2, only_grown hg2, hv2⟩

set_option maxRecDepth 100000 in
set_option maxHeartbeats 4000000 in
theorem insert_room {base : Nat} {w : World} {g cap : Nat} {l : List Fl} {rest : List Value} (h : OF base w g cap l rest) (f : Fl) (vb : Nat) (hv : VB w vb f) (hne : vb ≠ g) (a : Nat) (ha : a < l.length) (hroom : l.length + 1 ≤ cap) (hl : l.length ≤ 100000000) :
    Calls Try.prog 64 #[.slice (some ⟨g, 0, none⟩) l.length cap, .int .i64 (a : Int), .slice (some ⟨vb, 0, none⟩) 1 1] w fun e w' => ∃ v', e = .returned v' ∧ OwnF base w' v' (l.take a ++ f :: l.drop a) ∧ Only [g] w w' ∧ v'.ownBlock = some g := by
  have hcm := h.cm
  unfold maxLen at hcm
  have hd : OF base w.drew g cap l rest := ⟨h.blk, h.ge, h.cm, h.sz⟩
  obtain ⟨w1, hcp1, hof1, ho1⟩ := hd.up a ha hroom (cap - (a + 1)) (cap - a)
  have hvd : VB w.drew vb f := ⟨hv.blk⟩
  have hv1 : VB w1 vb f := hvd.only ho1 (by simpa using hne)
  obtain ⟨w2, hcp2, hof2, ho2⟩ := hof1.copy a (l.length + 1 - a) (cap - a) ⟨vb, 0, none⟩ 1 1 [f] (by show 1 = min _ _; omega) hv1.cells (by simp; omega)
  rw [show a + [f].length = a + 1 from rfl, mid_list l f a ha] at hof2
  have H : Hid (OF base w2 g cap (l.take a ++ f :: l.drop a) (rest.drop 4) ∧ Only [g] w w2) := ⟨hof2, (Only.drew _ w 1).trans (ho1.trans ho2)⟩
  have hlen : (l.take a ++ f :: l.drop a).length = l.length + 1 := by simp; omega
  have HL : Hid ((l.take a ++ f :: l.drop a).length = l.length + 1) := hlen
  obtain ⟨X, hX⟩ := slice_from _ (some ⟨g, 0, none⟩) l.length cap rfl a (by omega)
  have hs0 := slice_hi g 0 l.length cap ((l.length : Int) + 1) (l.length + 1) (by omega) (by omega) (by omega)
  have hs1 := slice_lo g 0 (l.length + 1) cap ((a : Int) + 1) (a + 1) (by omega) (by omega) (by omega)
  have hs2 := slice_lo g 0 (l.length + 1) cap (a : Int) a rfl (by omega) (by omega)
  have hov : ∀ lb cb, (callFunc 78 #[.slice (some ⟨vb, 0, none⟩) 1 1, .slice (some ⟨g, (a + 1) * 4, none⟩) lb cb]).run Try.prog w = .ok (.value (.bool false)) w := fun lb cb => by
    rw [run_callFunc_extern Try.func78 (by kernel_rfl) (by kernel_rfl) (by kernel_rfl) (e := Extern.SlicesOverlaps.overlaps #[22, 22] #[4]) (by kernel_rfl),
      Lib.run_overlaps_apart w 22 4 40 und22 4 Try.sizeOf40 ⟨vb, 0, none⟩ ⟨g, (a + 1) * 4, none⟩ 1 1 lb cb hne 40 40 4 (cap * 4) (by simp [World.shape?, hv.blk]) (by have := h.blk; have := h.sz; simp [World.shape?, h.blk, fc_length]; omega) (by omega) (by simp [World.frozen?, hv.blk]) (by simp [World.frozen?, hv.blk])]
    rfl
  simp only [Nat.zero_add] at hs1 hs2
  obtain ⟨n, hn⟩ : ∃ n, l.length = n := ⟨_, rfl⟩
  rw [hn] at ha hroom hl hcp1 hcp2 HL hX hs0 hs1 hs2 ⊢
  obtain ⟨D1, hD1⟩ : ∃ D1, Value.slice (some ⟨g, (a + 1) * 4, none⟩) (n + 1 - (a + 1)) (cap - (a + 1)) = D1 := ⟨_, rfl⟩
  obtain ⟨D2, hD2⟩ : ∃ D2, Value.slice (some ⟨g, a * 4, none⟩) (n + 1 - a) (cap - a) = D2 := ⟨_, rfl⟩
  have hov2 : (callFunc 78 #[.slice (some ⟨vb, 0, none⟩) 1 1, D1]).run Try.prog w = .ok (.value (.bool false)) w := by rw [← hD1]; exact hov _ _
  rw [hD1] at hcp1 hs1
  rw [hD2] at hcp1 hcp2 hs2
  have KS0 : w.cell? ⟨vb, 0, none⟩ = some (.string (bs f.path)) := by simp [World.cell?, hv.blk]
  have KS1 : w1.cell? ⟨vb, 0, none⟩ = some (.string (bs f.path)) := by simp [World.cell?, hv1.blk]
  clear hn h hv hvd hd hof1 ho1 hv1 hof2 ho2 hlen hov hD1 hD2
  have k1 : ¬ ((a : Int) = (n : Int)) := by omega
  have k2 : ¬ ((cap : Int) < (n : Int) + 1) := by omega
  have k3 : (n : Int) + 1 ≤ (cap : Int) := by omega
  have k4 : IntKind.i64.wrap ((a : Int) + 1) = (a : Int) + 1 := by rw [IntKind.wrap_i64]; omega
  go_enter Try.func64, Try.ntmps64
  go_wp2_with (simp only [hov2])
  go_region_held3 (fun w' => w'.cell? ⟨vb, 0, none⟩ = some (.string (bs f.path))) (first | (with_reducible exact KS1) | go_keep) (first | (refine step_copy_run rfl (.tmp 73) (.tmp 76) 22 22 rfl D1 D2 rfl rfl (hcp1 _) ?_))
  go_wp2_with (first | (at_builtin; refine wpList_copy_run rfl (.tmp 80) (.tmp 81) 22 22 rfl D2 (.slice (some ⟨vb, 0, none⟩) 1 1) rfl rfl (hcp2 _) ?_))
  go_ret
  refine ⟨.slice (some ⟨g, 0, none⟩) (n + 1) cap, rfl, ?_, H.out.2, rfl⟩
  rw [← HL.out]
  exact H.out.1.own

theorem grow_list (l : List Fl) (f : Fl) (a : Nat) (ha : a < l.length) :
    (l.take a ++ List.replicate (l.length + 1 - a) zf).take a ++ [f] ++ (l.take a ++ List.replicate (l.length + 1 - a) zf).drop (a + 1) = l.take a ++ [f] ++ List.replicate (l.length - a) zf := by
  have h1 : (l.take a).length = a := by simp; omega
  rw [List.take_left' h1]
  congr 1
  rw [List.drop_append, h1, List.drop_eq_nil_of_le (by omega), List.drop_replicate]
  simp only [List.nil_append]
  congr 1
  omega
theorem grow_list2 (l : List Fl) (f : Fl) (a : Nat) (ha : a < l.length) :
    (l.take a ++ [f] ++ List.replicate (l.length - a) zf).take (a + 1) ++ l.drop a ++ (l.take a ++ [f] ++ List.replicate (l.length - a) zf).drop (a + 1 + (l.length - a)) = l.take a ++ f :: l.drop a := by
  have h1 : (l.take a ++ [f]).length = a + 1 := by simp; omega
  have h2 : (l.take a ++ [f] ++ List.replicate (l.length - a) zf).length ≤ a + 1 + (l.length - a) := by simp; omega
  rw [List.take_left' h1, List.drop_eq_nil_of_le h2]
  simp
theorem OF.from {base : Nat} {w : World} {g cap : Nat} {l : List Fl} {rest : List Value} (h : OF base w g cap l rest) (a : Nat) (ha : a ≤ l.length) : ∀ j u, (fc (l.drop a))[j]? = some u → w.cell? ((⟨g, a * 4, none⟩ : Addr).add j) = some u := fun j u hu => by
  rw [add_lit]
  have hc := h.blk
  have e : (fc l ++ rest)[a * 4 + j]? = some u := by
    have e1 := fc_drop l a ha rest
    have e2 : ((fc l ++ rest).drop (a * 4))[j]? = some u := by
      rw [e1, List.getElem?_append_left (by have := (List.getElem?_eq_some_iff.1 hu).1; exact this)]; exact hu
    rwa [List.getElem?_drop] at e2
  simp only [World.cell?, hc]
  simpa using e

set_option maxRecDepth 100000 in
set_option maxHeartbeats 4000000 in
theorem insert_grow {base : Nat} {w : World} {g cap : Nat} {l : List Fl} {rest : List Value} (h : OF base w g cap l rest) (f : Fl) (vb : Nat) (hv : VB w vb f) (_hne : vb ≠ g) (a : Nat) (ha : a < l.length) (hroom : cap < l.length + 1) (hl : l.length ≤ 100000000) (hbase : base ≤ w.heap.size) :
    Calls Try.prog 64 #[.slice (some ⟨g, 0, none⟩) l.length cap, .int .i64 (a : Int), .slice (some ⟨vb, 0, none⟩) 1 1] w fun e w' => ∃ v', e = .returned v' ∧ OwnF base w' v' (l.take a ++ f :: l.drop a) ∧ Only [g] w w' ∧ v'.ownBlock = some w.heap.size := by
  have hcm := h.cm
  unfold maxLen at hcm
  have hlc := h.len
  obtain ⟨w1, C, rest1, hap, hof1, hb1⟩ := h.grow a (l.length + 1 - a) (by omega) (by omega) (by omega) (by omega) hbase ((l.length : Int) + 1 - a) (by omega)
  have hC := hof1.len
  have hCm := hof1.cm
  unfold maxLen at hCm
  have hv1 : VB w1 vb f := hv.only (Only.of_below hb1 []) (by simp)
  rw [show a + (l.length + 1 - a) = l.length + 1 by omega] at hap
  have hl1 : (l.take a ++ List.replicate (l.length + 1 - a) zf).length = l.length + 1 := by simp; omega
  rw [hl1] at hC
  obtain ⟨w2, hcp1, hof2, ho2⟩ := hof1.copy a (l.length + 1 - a) (C - a) ⟨vb, 0, none⟩ 1 1 [f] (by show 1 = min _ _; omega) hv1.cells (by rw [hl1]; simp; omega)
  rw [show a + [f].length = a + 1 from rfl, grow_list l f a ha] at hof2
  have hgw := h.lt
  have hg2 : OF base w2.drew g cap l rest := by
    have e1 := (h.later hb1).only ho2 (by simp; omega)
    exact ⟨e1.blk, e1.ge, e1.cm, e1.sz⟩
  have hof2d : OF base w2.drew w.heap.size C (l.take a ++ [f] ++ List.replicate (l.length - a) zf) rest1 := ⟨hof2.blk, hof2.ge, hof2.cm, hof2.sz⟩
  obtain ⟨w3, hcp2, hof3, ho3⟩ := hof2d.copy (a + 1) (l.length + 1 - (a + 1)) (C - (a + 1)) ⟨g, a * 4, none⟩ (l.length - a) (cap - a) (l.drop a) (by rw [List.length_drop]; show _ = min _ _; omega) (hg2.from a (by omega)) (by simp; omega)
  rw [List.length_drop, grow_list2 l f a ha] at hof3
  have HO : Hid (Only [g] w w3) := by
    refine ⟨?_, ?_, ?_, ?_, ?_⟩
    · exact ho3.os.trans (ho2.os.trans hb1.os)
    · exact ho3.tape.trans (ho2.tape.trans hb1.tape)
    · exact ho3.output.trans (ho2.output.trans hb1.output)
    · exact Nat.le_trans hb1.size (Nat.le_trans ho2.size ho3.size)
    · intro k hk hn
      have e1 := hb1.block k hk
      have e2 := ho2.block k (Nat.lt_of_lt_of_le hk hb1.size) (by simp; omega)
      have e3 := ho3.block k (Nat.lt_of_lt_of_le hk (Nat.le_trans hb1.size ho2.size)) (by simp; omega)
      exact e3.trans (e2.trans e1)
  have H : Hid (OF base w3 w.heap.size C (l.take a ++ f :: l.drop a) rest1) := hof3
  have hlen : (l.take a ++ f :: l.drop a).length = l.length + 1 := by simp; omega
  have HL : Hid ((l.take a ++ f :: l.drop a).length = l.length + 1) := hlen
  have hX := slice_lo g 0 l.length cap (a : Int) a rfl (by omega) (by omega)
  have hs0 := slice_hi g 0 l.length cap (a : Int) a rfl (by omega) (by omega)
  have hs1 := slice_lo w.heap.size 0 (l.length + 1) C (a : Int) a rfl (by omega) (by omega)
  have hs2 := slice_lo w.heap.size 0 (l.length + 1) C ((a : Int) + 1) (a + 1) (by omega) (by omega) (by omega)
  simp only [Nat.zero_add] at hs1 hs2 hX
  obtain ⟨n, hn⟩ : ∃ n, l.length = n := ⟨_, rfl⟩
  rw [hn] at ha hroom hl hlc hC hap hcp1 hcp2 HL hX hs0 hs1 hs2 ⊢
  obtain ⟨X, hXX⟩ : ∃ X, Value.slice (some ⟨g, a * 4, none⟩) (n - a) (cap - a) = X := ⟨_, rfl⟩
  obtain ⟨D1, hD1⟩ : ∃ D1, Value.slice (some ⟨w.heap.size, a * 4, none⟩) (n + 1 - a) (C - a) = D1 := ⟨_, rfl⟩
  obtain ⟨D2, hD2⟩ : ∃ D2, Value.slice (some ⟨w.heap.size, (a + 1) * 4, none⟩) (n + 1 - (a + 1)) (C - (a + 1)) = D2 := ⟨_, rfl⟩
  rw [hXX] at hX hcp2
  rw [hD1] at hs1 hcp1
  rw [hD2] at hs2 hcp2
  have hv2 : VB w2 vb f := hv1.only ho2 (by have := hv.lt; simp; omega)
  have hv2d : VB w2.drew vb f := ⟨hv2.blk⟩
  have hv3 : VB w3 vb f := hv2d.only ho3 (by have := hv.lt; simp; omega)
  have KS0 : w2.cell? ⟨vb, 0, none⟩ = some (.string (bs f.path)) := by simp [World.cell?, hv2.blk]
  have KS1 : w3.cell? ⟨vb, 0, none⟩ = some (.string (bs f.path)) := by simp [World.cell?, hv3.blk]
  clear hn h hv hv2 hv2d hv3 hof1 hv1 hof2 ho2 hlen hXX hD1 hD2 hof2d hof3 ho3 hg2 hb1 hl1
  have k1 : ¬ ((a : Int) = (n : Int)) := by omega
  have k2 : (cap : Int) < (n : Int) + 1 := by omega
  have k3 : IntKind.i64.wrap ((n : Int) + 1 - (a : Int)) = (n : Int) + 1 - (a : Int) := by rw [IntKind.wrap_i64]; omega
  have k4 : IntKind.i64.wrap ((a : Int) + 1) = (a : Int) + 1 := by rw [IntKind.wrap_i64]; omega
  go_enter Try.func64, Try.ntmps64
  go_wp2_with (first | (at_builtin; refine Lib.wpList_append_run _ rfl (.tmp 34) (.tmp 39) 22 3 rfl _ _ rfl rfl _ _ (hap _) ?_) | (at_builtin; refine wpList_copy_run rfl (.tmp 43) (.tmp 44) 22 22 rfl D1 (.slice (some ⟨vb, 0, none⟩) 1 1) rfl rfl (hcp1 _) ?_))
  go_region_held3 (fun w' => w'.cell? ⟨vb, 0, none⟩ = some (.string (bs f.path))) (first | (with_reducible exact KS1) | go_keep) (first | (refine step_copy_run rfl (.tmp 50) (.tmp 53) 22 22 rfl D2 X rfl rfl (hcp2 _) ?_))
  go_wp2_with fail
  go_ret
  refine ⟨.slice (some ⟨w.heap.size, 0, none⟩) (n + 1) C, rfl, ?_, HO.out, rfl⟩
  rw [← HL.out]
  exact H.out.own

theorem insert_f {base : Nat} {w : World} {v : Value} {l : List Fl} (h : OwnF base w v l) (f : Fl) (vb : Nat) (hv : VB w vb f) (hne : v.ownBlock ≠ some vb) (a : Nat) (ha : a ≤ l.length) (hl : l.length + 1 ≤ 100000000) (hbase : base ≤ w.heap.size) :
    Calls Try.prog 64 #[v, .int .i64 (a : Int), .slice (some ⟨vb, 0, none⟩) 1 1] w fun e w' => ∃ v', e = .returned v' ∧ OwnF base w' v' (l.take a ++ f :: l.drop a) ∧ Only (bl v) w w' ∧ (v'.ownBlock = v.ownBlock ∨ v'.ownBlock = some w.heap.size) := by
  rcases Nat.lt_or_eq_of_le ha with hlt | rfl
  · rcases OF.of h with ⟨_, rfl⟩ | ⟨g, cap, rest, rfl, hof⟩
    · simp at hlt
    · have hg : vb ≠ g := fun e => hne (by rw [e]; rfl)
      by_cases hroom : l.length + 1 ≤ cap
      · refine (insert_room hof f vb hv hg a hlt hroom (by omega)).mono ?_
        rintro e w' ⟨v', rfl, h1, h2, h3⟩
        exact ⟨v', rfl, h1, h2, .inl h3⟩
      · refine (insert_grow hof f vb hv hg a hlt (by omega) (by omega) hbase).mono ?_
        rintro e w' ⟨v', rfl, h1, h2, h3⟩
        exact ⟨v', rfl, h1, h2, .inr h3⟩
  · refine (insert_end h f vb hv hl hbase).mono ?_
    rintro e w' ⟨v', rfl, h1, h2, h3⟩
    refine ⟨v', rfl, ?_, h2, h3⟩
    rw [List.take_of_length_le (Nat.le_refl _), List.drop_eq_nil_of_le (Nat.le_refl _)]
    exact h1
end Go.Proofs.Ytinhdjoidbcfaaa
