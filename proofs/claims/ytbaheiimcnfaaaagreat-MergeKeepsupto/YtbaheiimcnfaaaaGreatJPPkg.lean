/-
-/
import Derived.Test.YtbaheiimcnfaaaaGreatJKn3
import Derived.Test.YtbaheiimcnfaaaaGreatSets
import Derived.Deep.RegionLaw
import Derived.Deep.RegionHeld3
import Derived.Test.YtbaheiimcnfaaaaGreatJNorm
namespace Go.Proofs.YtbaheiimcnfaaaaGreat
open Go.RowKit

end Go.Proofs.YtbaheiimcnfaaaaGreat

namespace Go.Proofs.YtbaheiimcnfaaaaGreat
open Go.RowKit

theorem SS.tail {w : World} {a : Option Addr} {c n : Nat} {x : List UInt8} {A : List (List UInt8)} (h : SS w (.slice a n c) (x :: A)) :
    ∃ b off, a = some ⟨b, off, none⟩ ∧ b < w.heap.size ∧ n = A.length + 1 ∧ n ≤ c ∧ w.cell? ⟨b, off, none⟩ = some (.string (bs x)) ∧ SS w (.slice (some ⟨b, off, none⟩) 1 c) [x] ∧ SS w (.slice (some ⟨b, off + 1, none⟩) (n - 1) (c - 1)) A := by
  rcases h with ⟨_, h0⟩ | ⟨b, off, cap, e, hc, hlt, hcell⟩
  · cases h0
  · injection e with e1 e2 e3
    subst e1
    subst e3
    have hn : n = A.length + 1 := by simpa using e2
    have hc' : n ≤ c := by simp at hc; omega
    have h0 := hcell 0 (.string (bs x)) (by simp [sc])
    refine ⟨b, off, rfl, hlt, hn, hc', h0, .inr ⟨b, off, c, rfl, by simp; omega, hlt, fun i u hu => ?_⟩, .inr ⟨b, off + 1, c - 1, by rw [hn]; rfl, by omega, hlt, fun i u hu => ?_⟩⟩
    · cases i with
      | zero => simp [sc] at hu; subst hu; exact h0
      | succ i => simp [sc] at hu
    · have := hcell (i + 1) u (by simpa [sc] using hu)
      rw [show off + 1 + i = off + (i + 1) by omega]; exact this

theorem SS.zero {w : World} {p : Option Addr} {n c : Nat} {A : List (List UInt8)} (h : SS w (.slice p n c) A) (hc : n ≤ c) (h0 : c = 0) (p' : Option Addr) (c' : Nat) : SS w (.slice p' n c') A := by
  have hn : n = 0 := by omega
  subst hn
  refine .inl ⟨⟨_, _, rfl⟩, ?_⟩
  obtain ⟨a, c2, e, _⟩ := h.form
  injection e with _ e2 _
  exact List.eq_nil_of_length_eq_zero e2.symm
theorem bdrw {B : Nat} {w w1 : World} (h : Below B w w1) : Below B w w1.drew := ⟨h.os, h.tape, h.output, h.size, h.block⟩

theorem SS.len {w : World} {v : Value} {L : List (List UInt8)} (h : SS w v L) : ∃ a c, v = .slice a L.length c := by
  obtain ⟨a, c, e, _⟩ := h.form
  exact ⟨a, c, e⟩
theorem SS.len' {w : World} {v : Value} {L : List (List UInt8)} (h : SS w v L) : ∃ a c n, n = L.length ∧ v = .slice a n c := by
  obtain ⟨a, c, e, _⟩ := h.form
  exact ⟨a, c, _, rfl, e⟩
theorem SS.own {w : World} {v : Value} {L : List (List UInt8)} (h : SS w v L) {B : Nat} (hB : w.heap.size ≤ B) : ∀ k, v.ownBlock = some k → k < B ∨ L = [] := by
  intro k hk
  rcases h with ⟨⟨a, c, rfl⟩, h0⟩ | ⟨b, off, cap, rfl, hc, hlt, hcell⟩
  · exact .inr h0
  · simp [Value.ownBlock] at hk; subst hk; exact .inl (by omega)
theorem SS.kept {w w' : World} {v : Value} {l : List (List UInt8)} {B : Nat} (h : SS w v l) (hB : w.heap.size ≤ B) (hb : Below B w w') : SS w' v l := by
  rcases h with h | ⟨b, off, cap, rfl, hc, hlt, hcell⟩
  · exact .inl h
  · refine .inr ⟨b, off, cap, rfl, hc, Nat.lt_of_lt_of_le hlt hb.size, fun i u hu => ?_⟩
    rw [hb.cell (p := ⟨b, off + i, none⟩) (by show b < B; omega)]; exact hcell i u hu

end Go.Proofs.YtbaheiimcnfaaaaGreat

namespace Go.Proofs.YtbaheiimcnfaaaaGreat
open Go.RowKit

theorem Sm.som {a b : List (List UInt8)} (i : Bool) (h : Sm a) : Sm (som a b i) :=
  ⟨Nat.le_trans (norm_len _) (Nat.le_trans (List.length_filter_le _ _) h.len), fun x hx => h.each x (by
    cases i
    · exact (mem_mns.1 hx).1
    · exact (mem_met.1 hx).1)⟩
theorem Own.ss {base : Nat} {w : World} {v : Value} {l : List (List UInt8)} (h : Own base w v l) : SS w v l := h.bs

theorem dir_len (l : List UInt8) : (dir l).length ≤ l.length := by
  unfold dir; split
  · simp
  · simp; omega
theorem Sm.dirs {l : List (List UInt8)} (h : Sm l) : Sm (l.map dir) := ⟨by simpa using h.len, fun x hx => by
  obtain ⟨y, hy, rfl⟩ := List.mem_map.1 hx
  exact Nat.le_trans (dir_len y) (h.each y hy)⟩
theorem take_map_succ (L : List (List UInt8)) (k : Nat) (h : k < L.length) : (L.take (k + 1)).map dir = (L.take k).map dir ++ [dir (L[k]'h)] := by
  rw [List.take_add_one, List.getElem?_eq_getElem h, List.map_append]; rfl

theorem SS.form' {w : World} {v : Value} {L : List (List UInt8)} (h : SS w v L) : ∃ a c n, n = L.length ∧ v = .slice a n c ∧ (∀ k, (hk : k < L.length) → ∃ b off, a = some ⟨b, off, none⟩ ∧ b < w.heap.size ∧ w.cell? ⟨b, off + k, none⟩ = some (.string (bs L[k]))) := by
  obtain ⟨a, c, e, hc⟩ := h.form
  exact ⟨a, c, _, rfl, e, hc⟩

theorem take_snoc (L : List (List UInt8)) (k : Nat) (h : k < L.length) : L.take (k + 1) = L.take k ++ [L[k]'h] := by
  rw [List.take_add_one, List.getElem?_eq_getElem h]; rfl
theorem hds_take {L : List (List UInt8)} (hu : Up L) (k : Nat) (h : k < L.length) :
    hds (L.take (k + 1)) = if (match (hds (L.take k)).getLast? with | none => true | some q => !abvV q (L[k]'h)) then hds (L.take k) ++ [L[k]'h] else hds (L.take k) := by
  rw [take_snoc L k h]
  refine hds_snoc ?_
  rw [← take_snoc L k h]
  exact List.Pairwise.sublist (List.take_sublist _ _) hu
theorem hds_len (L : List (List UInt8)) : (hds L).length ≤ L.length := List.length_filter_le _ _
theorem Sm.take {l : List (List UInt8)} (h : Sm l) (k : Nat) : Sm (l.take k) := ⟨by have := h.len; simp; omega, fun x hx => h.each x (List.mem_of_mem_take hx)⟩
theorem Sm.hds {l : List (List UInt8)} (h : Sm l) : Sm (hds l) := ⟨Nat.le_trans (hds_len l) h.len, fun x hx => h.each x (mem_hds.1 hx).1⟩

set_option maxHeartbeats 2000000 in
set_option maxRecDepth 100000 in
theorem heads_any {w : World} {v : Value} {L : List (List UInt8)} (h : SS w v L) (sm : Sm L) :
    Calls Tryz.prog 33 #[v] w fun e w' => ∃ v', e = .returned v' ∧ Own w.heap.size w' v' (hds (norm L)) ∧ Below w.heap.size w w' := by
  have H : Hid (SS w v L ∧ Sm L) := ⟨h, sm⟩
  clear h sm
  obtain ⟨M, hM⟩ : ∃ M, norm L = M := ⟨_, rfl⟩
  rw [hM]
  have HM : Hid (norm L = M ∧ Up M ∧ Sm M) := ⟨hM, by rw [← hM]; exact up_norm _, by rw [← hM]; exact H.out.2.norm⟩
  clear hM
  obtain ⟨G, hG⟩ : ∃ G, w.heap.size = G := ⟨_, rfl⟩
  go_enter Tryz.func33, Tryz.ntmps33
  go_wp2_with fail
  refine (norm_any H.out.1 H.out.2).mono ?_
  rintro e w1 ⟨v1, rfl, ho1, hb1⟩
  rw [HM.out.1] at ho1
  obtain ⟨a, c, n, hn, rfl, ca⟩ := ho1.bs.form'
  have CA : Hid (∀ k, (hk : k < M.length) → ∃ b off, a = some ⟨b, off, none⟩ ∧ b < w1.heap.size ∧ w1.cell? ⟨b, off + k, none⟩ = some (.string (bs M[k]))) := ca
  have HN : Hid (n = M.length) := hn
  have HB1 : Hid (Below G w w1) := by rw [← hG]; exact hb1
  have hz1 : G ≤ w1.heap.size := by have := hb1.size; omega
  have hnl : n ≤ 4000000 := by rw [hn]; exact HM.out.2.2.len
  clear ho1 hb1 ca hn
  obtain ⟨G1, hG1⟩ : ∃ G1, w1.heap.size = G1 := ⟨_, rfl⟩
  go_wp2_with fail
  go_loopw [3, 10] (fun o i wr => ∃ k : Nat, k ≤ n ∧ i = .int .i64 k ∧ Own G1 wr o (hds (M.take k)) ∧ Below G1 w1 wr) (fun _ i _ => n - (intOf i).toNat)
  case atStart => exact ⟨0, Nat.zero_le _, rfl, Own.nil _ _, Below.refl _ _⟩
  case round =>
    obtain ⟨k, hk, rfl, ho, hbw⟩ := hrel
    have HOK : Hid (Own G1 wr u3 (hds (M.take k))) := ho
    have HBW : Hid (Below G1 w1 wr) := hbw
    have hz4 : G1 ≤ wr.heap.size := by have := hbw.size; omega
    clear hbw
    by_cases hlt : k < n
    · have hlt2 : k < M.length := by have := HN.out; omega
      obtain ⟨g1, o1, rfl, hg1, c1⟩ := CA.out k hlt2
      have hsn := hds_take HM.out.2.1 k hlt2
      obtain ⟨p, hp⟩ : ∃ p, M[k]'hlt2 = p := ⟨_, rfl⟩
      have hpl : p.length ≤ 1000000000 := by rw [← hp]; exact HM.out.2.2.at hlt2
      rw [hp] at c1 hsn
      have c2 : wr.cell? ⟨g1, o1 + k, none⟩ = some (.string (bs p)) := by rw [HBW.out.cell (p := ⟨g1, o1 + k, none⟩) (by show g1 < G1; omega)]; exact c1
      have hlz : (hds (M.take k)).length ≤ 4000000 := (HM.out.2.2.take k).hds.len
      have hEach : ∀ x ∈ hds (M.take k), x.length ≤ 1000000000 := (HM.out.2.2.take k).hds.each
      obtain ⟨E, hE⟩ : ∃ E, hds (M.take k) = E := ⟨_, rfl⟩
      obtain ⟨F, hF⟩ : ∃ F, hds (M.take (k + 1)) = F := ⟨_, rfl⟩
      rw [hE] at HOK ho hsn hlz hEach
      rw [hF] at hsn
      have HF : Hid (hds (M.take (k + 1)) = F) := hF
      obtain ⟨a3, c3, m, hm, rfl, ca3⟩ := ho.bs.form'
      have hDl : E.length + 1 ≤ 8796093022208 := by omega
      have HDL : Hid (E.length + 1 ≤ 8796093022208) := hDl
      clear c1 hp hE hF ho hDl
      by_cases hm0 : m = 0
      · have hE0 : E = [] := List.eq_nil_of_length_eq_zero (by omega)
        have HFE : Hid (F = E ++ [p]) := by rw [hsn, hE0]; rfl
        subst hm0
        clear hm hsn hE0 ca3 hEach
        go_wp2_with (at_builtin; refine app_one (base := G1) p HOK.out HDL.out hz4 rfl (.tmp 28) (.tmp 30) rfl rfl rfl ?_; intro v' w' ho hbw hbs' hgr hat)
        have HO5 : Hid (Own G1 w' v' (hds (M.take (k + 1)))) := by rw [HF.out, HFE.out]; exact ho
        have HB5 : Hid (Below G1 w1 w') := below_trans HBW.out hbw
        clear ho hbw hgr hat
        go_wp2_with fail
        go_roundw
        case rel => exact ⟨k + 1, by omega, by go_num, HO5.out, HB5.out⟩
        case measure => simp [intOf]; omega
      · obtain ⟨m1, rfl⟩ : ∃ m1, m = m1 + 1 := ⟨m - 1, by omega⟩
        have hm1 : m1 < E.length := by omega
        obtain ⟨g3, o3, rfl, hg3, c4⟩ := ca3 m1 hm1
        obtain ⟨q, hq⟩ : ∃ q, E[m1]'hm1 = q := ⟨_, rfl⟩
        have hql : q.length ≤ 1000000000 := by rw [← hq]; exact hEach _ (List.getElem_mem _)
        have hgl : E.getLast? = some q := by rw [List.getLast?_eq_getElem?, ← hm, Nat.add_sub_cancel, List.getElem?_eq_getElem hm1, hq]
        rw [hgl] at hsn
        have hsn : F = if (!abvV q p) = true then E ++ [p] else E := hsn
        rw [hq] at c4
        have HM1 : Hid (m1 + 1 = E.length) := hm
        clear hm hgl hq ca3 hEach
        cases hqp : abvV q p with
        | true =>
          rw [hqp] at hsn
          have hfe : F = E := by simpa using hsn
          have HFE : Hid (F = E) := hfe
          clear hsn hfe
          go_wp2_with fail
          refine (above_any q p _ (by omega) (by omega)).mono ?_
          rintro e w2 ⟨rfl, hl2⟩
          rw [hqp]
          have HO5 : Hid (Own G1 w2 (.slice (some ⟨g3, o3, none⟩) (m1 + 1) c3) (hds (M.take (k + 1)))) := by rw [HF.out, HFE.out]; exact HOK.out.later hl2.below
          have HB5 : Hid (Below G1 w1 w2) := below_trans HBW.out (below_mono hl2.below hz4)
          clear hl2 c4 c2
          go_wp2_with fail
          go_roundw
          case rel => exact ⟨k + 1, by omega, by go_num, HO5.out, HB5.out⟩
          case measure => simp [intOf]; omega
        | false =>
          rw [hqp] at hsn
          have hfe : F = E ++ [p] := by simpa using hsn
          have HFE : Hid (F = E ++ [p]) := hfe
          clear hsn hfe
          go_wp2_with fail
          refine (above_any q p _ (by omega) (by omega)).mono ?_
          rintro e w2 ⟨rfl, hl2⟩
          rw [hqp]
          have HO4 : Hid (Own G1 w2 (.slice (some ⟨g3, o3, none⟩) (m1 + 1) c3) E) := HOK.out.later hl2.below
          have HB4 : Hid (Below G1 w1 w2) := below_trans HBW.out (below_mono hl2.below hz4)
          have hz5 : G1 ≤ w2.heap.size := by have := hl2.below.size; omega
          clear hl2 c4 c2
          go_wp2_with (at_builtin; refine app_one (base := G1) p HO4.out HDL.out hz5 rfl (.tmp 28) (.tmp 30) rfl rfl rfl ?_; intro v' w' ho hbw hbs' hgr hat)
          have HO5 : Hid (Own G1 w' v' (hds (M.take (k + 1)))) := by rw [HF.out, HFE.out]; exact ho
          have HB5 : Hid (Below G1 w1 w') := below_trans HB4.out hbw
          clear ho hbw hgr hat
          go_wp2_with fail
          go_roundw
          case rel => exact ⟨k + 1, by omega, by go_num, HO5.out, HB5.out⟩
          case measure => simp [intOf]; omega
    · obtain rfl : k = n := by omega
      have HOE : Hid (Own G1 wr u3 (hds M)) := by
        have := HOK.out
        rw [HN.out, List.take_length] at this; exact this
      clear ho
      go_wp2_with fail
      go_ret
      exact ⟨u3, rfl, by rw [hG]; exact HOE.out.mono (by omega), by rw [hG]; exact below_trans HB1.out (below_mono HBW.out (by omega))⟩
end Go.Proofs.YtbaheiimcnfaaaaGreat
