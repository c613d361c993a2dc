/-
  What the laws of cone ask of the package: its four answers, as plain lists.
  Valid, Cover; what the laws ask of the package.
  The document's example of merging, by plain lists.
-/
import Derived.Test.YtbaheiimcnfaaaaGreatJNorm
import Derived.Test.YtbaheiimcnfaaaaGreatJKn3
import Derived.Test.YtbaheiimcnfaaaaGreatJNb
import Derived.Laws.BitsLemmas
import Derived.Deep.DeepCutAuto
import Derived.Test.YtbaheiimcnfaaaaGreatJMg2
import Derived.Test.YtbaheiimcnfaaaaGreatSPkg2
import Derived.Test.YtbaheiimcnfaaaaGreatVi
import Derived.WalkKit
namespace Go.Proofs.YtbaheiimcnfaaaaGreat
open Go.RowKit

theorem Sm.som {a b : List (List UInt8)} (i : Bool) (h : Sm a) : Sm (som a b i) :=
  ⟨Nat.le_trans (norm_len _) (Nat.le_trans (List.length_filter_le _ _) h.len), fun x hx => h.each x (by
    cases i
    · exact (mem_mns.1 hx).1
    · exact (mem_met.1 hx).1)⟩
theorem Own.ss {base : Nat} {w : World} {v : Value} {l : List (List UInt8)} (h : Own base w v l) : SS w v l := h.bs

theorem dir_len (l : List UInt8) : (dir l).length ≤ l.length := by
  unfold dir; split
  · simp
  · simp; omega
theorem Sm.dirs {l : List (List UInt8)} (h : Sm l) : Sm (l.map dir) := ⟨by simpa using h.len, fun x hx => by
  obtain ⟨y, hy, rfl⟩ := List.mem_map.1 hx
  exact Nat.le_trans (dir_len y) (h.each y hy)⟩
theorem take_map_succ (L : List (List UInt8)) (k : Nat) (h : k < L.length) : (L.take (k + 1)).map dir = (L.take k).map dir ++ [dir (L[k]'h)] := by
  rw [List.take_add_one, List.getElem?_eq_getElem h, List.map_append]; rfl

theorem SS.form' {w : World} {v : Value} {L : List (List UInt8)} (h : SS w v L) : ∃ a c n, n = L.length ∧ v = .slice a n c ∧ (∀ k, (hk : k < L.length) → ∃ b off, a = some ⟨b, off, none⟩ ∧ b < w.heap.size ∧ w.cell? ⟨b, off + k, none⟩ = some (.string (bs L[k]))) := by
  obtain ⟨a, c, e, hc⟩ := h.form
  exact ⟨a, c, _, rfl, e, hc⟩

theorem take_snoc (L : List (List UInt8)) (k : Nat) (h : k < L.length) : L.take (k + 1) = L.take k ++ [L[k]'h] := by
  rw [List.take_add_one, List.getElem?_eq_getElem h]; rfl
theorem hds_take {L : List (List UInt8)} (hu : Up L) (k : Nat) (h : k < L.length) :
    hds (L.take (k + 1)) = if (match (hds (L.take k)).getLast? with | none => true | some q => !abvV q (L[k]'h)) then hds (L.take k) ++ [L[k]'h] else hds (L.take k) := by
  rw [take_snoc L k h]
  refine hds_snoc ?_
  rw [← take_snoc L k h]
  exact List.Pairwise.sublist (List.take_sublist _ _) hu
theorem hds_len (L : List (List UInt8)) : (hds L).length ≤ L.length := List.length_filter_le _ _
theorem Sm.take {l : List (List UInt8)} (h : Sm l) (k : Nat) : Sm (l.take k) := ⟨by have := h.len; simp; omega, fun x hx => h.each x (List.mem_of_mem_take hx)⟩
theorem Sm.hds {l : List (List UInt8)} (h : Sm l) : Sm (hds l) := ⟨Nat.le_trans (hds_len l) h.len, fun x hx => h.each x (mem_hds.1 hx).1⟩

set_option maxHeartbeats 2000000 in
set_option maxRecDepth 100000 in
theorem heads_any {w : World} {v : Value} {L : List (List UInt8)} (h : SS w v L) (sm : Sm L) :
    Calls Tryz.prog 33 #[v] w fun e w' => ∃ v', e = .returned v' ∧ Own w.heap.size w' v' (hds (norm L)) ∧ Below w.heap.size w w' := by
  have H : Hid (SS w v L ∧ Sm L) := ⟨h, sm⟩
  clear h sm
  obtain ⟨M, hM⟩ : ∃ M, norm L = M := ⟨_, rfl⟩
  rw [hM]
  have HM : Hid (norm L = M ∧ Up M ∧ Sm M) := ⟨hM, by rw [← hM]; exact up_norm _, by rw [← hM]; exact H.out.2.norm⟩
  clear hM
  obtain ⟨G, hG⟩ : ∃ G, w.heap.size = G := ⟨_, rfl⟩
  go_enter Tryz.func33, Tryz.ntmps33
  go_wp2_with fail
  refine (norm_any H.out.1 H.out.2).mono ?_
  rintro e w1 ⟨v1, rfl, ho1, hb1⟩
  rw [HM.out.1] at ho1
  obtain ⟨a, c, n, hn, rfl, ca⟩ := ho1.bs.form'
  have CA : Hid (∀ k, (hk : k < M.length) → ∃ b off, a = some ⟨b, off, none⟩ ∧ b < w1.heap.size ∧ w1.cell? ⟨b, off + k, none⟩ = some (.string (bs M[k]))) := ca
  have HN : Hid (n = M.length) := hn
  have HB1 : Hid (Below G w w1) := by rw [← hG]; exact hb1
  have hz1 : G ≤ w1.heap.size := by have := hb1.size; omega
  have hnl : n ≤ 4000000 := by rw [hn]; exact HM.out.2.2.len
  clear ho1 hb1 ca hn
  obtain ⟨G1, hG1⟩ : ∃ G1, w1.heap.size = G1 := ⟨_, rfl⟩
  go_wp2_with fail
  go_loopw [3, 10] (fun o i wr => ∃ k : Nat, k ≤ n ∧ i = .int .i64 k ∧ Own G1 wr o (hds (M.take k)) ∧ Below G1 w1 wr) (fun _ i _ => n - (intOf i).toNat)
  case atStart => exact ⟨0, Nat.zero_le _, rfl, Own.nil _ _, Below.refl _ _⟩
  case round =>
    obtain ⟨k, hk, rfl, ho, hbw⟩ := hrel
    have HOK : Hid (Own G1 wr u3 (hds (M.take k))) := ho
    have HBW : Hid (Below G1 w1 wr) := hbw
    have hz4 : G1 ≤ wr.heap.size := by have := hbw.size; omega
    clear hbw
    by_cases hlt : k < n
    · have hlt2 : k < M.length := by have := HN.out; omega
      obtain ⟨g1, o1, rfl, hg1, c1⟩ := CA.out k hlt2
      have hsn := hds_take HM.out.2.1 k hlt2
      obtain ⟨p, hp⟩ : ∃ p, M[k]'hlt2 = p := ⟨_, rfl⟩
      have hpl : p.length ≤ 1000000000 := by rw [← hp]; exact HM.out.2.2.at hlt2
      rw [hp] at c1 hsn
      have c2 : wr.cell? ⟨g1, o1 + k, none⟩ = some (.string (bs p)) := by rw [HBW.out.cell (p := ⟨g1, o1 + k, none⟩) (by show g1 < G1; omega)]; exact c1
      have hlz : (hds (M.take k)).length ≤ 4000000 := (HM.out.2.2.take k).hds.len
      have hEach : ∀ x ∈ hds (M.take k), x.length ≤ 1000000000 := (HM.out.2.2.take k).hds.each
      obtain ⟨E, hE⟩ : ∃ E, hds (M.take k) = E := ⟨_, rfl⟩
      obtain ⟨F, hF⟩ : ∃ F, hds (M.take (k + 1)) = F := ⟨_, rfl⟩
      rw [hE] at HOK ho hsn hlz hEach
      rw [hF] at hsn
      have HF : Hid (hds (M.take (k + 1)) = F) := hF
      obtain ⟨a3, c3, m, hm, rfl, ca3⟩ := ho.bs.form'
      have hDl : E.length + 1 ≤ 8796093022208 := by omega
      have HDL : Hid (E.length + 1 ≤ 8796093022208) := hDl
      clear c1 hp hE hF ho hDl
      by_cases hm0 : m = 0
      · have hE0 : E = [] := List.eq_nil_of_length_eq_zero (by omega)
        have HFE : Hid (F = E ++ [p]) := by rw [hsn, hE0]; rfl
        subst hm0
        clear hm hsn hE0 ca3 hEach
        go_wp2_with (at_builtin; refine app_one (base := G1) p HOK.out HDL.out hz4 rfl (.tmp 28) (.tmp 30) rfl rfl rfl ?_; intro v' w' ho hbw hbs' hgr hat)
        have HO5 : Hid (Own G1 w' v' (hds (M.take (k + 1)))) := by rw [HF.out, HFE.out]; exact ho
        have HB5 : Hid (Below G1 w1 w') := below_trans HBW.out hbw
        clear ho hbw hgr hat
        go_wp2_with fail
        go_roundw
        case rel => exact ⟨k + 1, by omega, by go_num, HO5.out, HB5.out⟩
        case measure => simp [intOf]; omega
      · obtain ⟨m1, rfl⟩ : ∃ m1, m = m1 + 1 := ⟨m - 1, by omega⟩
        have hm1 : m1 < E.length := by omega
        obtain ⟨g3, o3, rfl, hg3, c4⟩ := ca3 m1 hm1
        obtain ⟨q, hq⟩ : ∃ q, E[m1]'hm1 = q := ⟨_, rfl⟩
        have hql : q.length ≤ 1000000000 := by rw [← hq]; exact hEach _ (List.getElem_mem _)
        have hgl : E.getLast? = some q := by rw [List.getLast?_eq_getElem?, ← hm, Nat.add_sub_cancel, List.getElem?_eq_getElem hm1, hq]
        rw [hgl] at hsn
        have hsn : F = if (!abvV q p) = true then E ++ [p] else E := hsn
        rw [hq] at c4
        have HM1 : Hid (m1 + 1 = E.length) := hm
        clear hm hgl hq ca3 hEach
        cases hqp : abvV q p with
        | true =>
          rw [hqp] at hsn
          have hfe : F = E := by simpa using hsn
          have HFE : Hid (F = E) := hfe
          clear hsn hfe
          go_wp2_with fail
          refine (above_any q p _ (by omega) (by omega)).mono ?_
          rintro e w2 ⟨rfl, hl2⟩
          rw [hqp]
          have HO5 : Hid (Own G1 w2 (.slice (some ⟨g3, o3, none⟩) (m1 + 1) c3) (hds (M.take (k + 1)))) := by rw [HF.out, HFE.out]; exact HOK.out.later hl2.below
          have HB5 : Hid (Below G1 w1 w2) := below_trans HBW.out (below_mono hl2.below hz4)
          clear hl2 c4 c2
          go_wp2_with fail
          go_roundw
          case rel => exact ⟨k + 1, by omega, by go_num, HO5.out, HB5.out⟩
          case measure => simp [intOf]; omega
        | false =>
          rw [hqp] at hsn
          have hfe : F = E ++ [p] := by simpa using hsn
          have HFE : Hid (F = E ++ [p]) := hfe
          clear hsn hfe
          go_wp2_with fail
          refine (above_any q p _ (by omega) (by omega)).mono ?_
          rintro e w2 ⟨rfl, hl2⟩
          rw [hqp]
          have HO4 : Hid (Own G1 w2 (.slice (some ⟨g3, o3, none⟩) (m1 + 1) c3) E) := HOK.out.later hl2.below
          have HB4 : Hid (Below G1 w1 w2) := below_trans HBW.out (below_mono hl2.below hz4)
          have hz5 : G1 ≤ w2.heap.size := by have := hl2.below.size; omega
          clear hl2 c4 c2
          go_wp2_with (at_builtin; refine app_one (base := G1) p HO4.out HDL.out hz5 rfl (.tmp 28) (.tmp 30) rfl rfl rfl ?_; intro v' w' ho hbw hbs' hgr hat)
          have HO5 : Hid (Own G1 w' v' (hds (M.take (k + 1)))) := by rw [HF.out, HFE.out]; exact ho
          have HB5 : Hid (Below G1 w1 w') := below_trans HB4.out hbw
          clear ho hbw hgr hat
          go_wp2_with fail
          go_roundw
          case rel => exact ⟨k + 1, by omega, by go_num, HO5.out, HB5.out⟩
          case measure => simp [intOf]; omega
    · obtain rfl : k = n := by omega
      have HOE : Hid (Own G1 wr u3 (hds M)) := by
        have := HOK.out
        rw [HN.out, List.take_length] at this; exact this
      clear ho
      go_wp2_with fail
      go_ret
      exact ⟨u3, rfl, by rw [hG]; exact HOE.out.mono (by omega), by rw [hG]; exact below_trans HB1.out (below_mono HBW.out (by omega))⟩
end Go.Proofs.YtbaheiimcnfaaaaGreat

namespace Go.Proofs.YtbaheiimcnfaaaaGreat
open Go.RowKit

theorem ss_lit (w : World) (l : List (List UInt8)) (n : Nat) (hn : n = l.length) : SS (w.alloc (.cells (sc l).toArray 9)) (.slice (some ⟨w.heap.size, 0, none⟩) n n) l := by
  subst hn
  refine .inr ⟨w.heap.size, 0, l.length, rfl, Nat.le_refl _, by simp, fun i u hu => ?_⟩
  simp
  simpa using hu

theorem norm_lit : norm [[97, 45, 98], [97, 47, 98], [97]] = [[97], [97, 47, 98], [97, 45, 98]] := by decide
theorem heads_lit : hds (norm [[97, 47, 98], [97]]) = [[97]] := by decide

end Go.Proofs.YtbaheiimcnfaaaaGreat

namespace Go.Proofs.YtbaheiimcnfaaaaGreat
open Go.RowKit

/-- does a statement begin with this region? -/
def beg (n : Nat) : Code → Bool
  | .region m _ _ => m == n
  | .seq a _ => beg n a
  | .block _ c => beg n c
  | .loop c => beg n c
  | .scope c => beg n c
  | _ => false
/-- what stands from there on -/
def suff (n : Nat) : Code → Code
  | .seq a b => if beg n a then .seq a b else suff n b
  | c => c
/-- what the laws answer -/
def Good (w : World) (e : Ending) (w' : World) : Prop := e = .returned (.bool true) ∧ Below w.heap.size w w'

theorem above_grow {w : World} {p q : List UInt8} {r : Bool} (hp : p.length ≤ 1000000000) (hq : q.length ≤ 1000000000) (hr : abvV p q = r) (X : GW w) :
    Calls Tryz.prog 64 #[.string (bs p), .string (bs q)] X.it fun e w' => e = .returned (.bool r) ∧ ∃ Y : GW w, w' = Y.it :=
  (above_any p q X.it (by omega) (by omega)).mono fun _ w' ⟨he, hl⟩ => ⟨by rw [← hr]; exact he, ⟨w', bstep X.below hl.below⟩, rfl⟩
theorem bdN {B : Nat} {w w1 : World} {n : Nat} (h : Below B w w1) : Below B w (w1.drewN n) := ⟨h.os, h.tape, h.output, h.size, h.block⟩
/-- the two lists, and how far the world has grown -/
structure St (w wc : World) (va vb : Value) (A B : List (List UInt8)) : Prop where
  below : Below w.heap.size w wc
  a : SS wc va A
  b : SS wc vb B
  sa : Sm A
  sb : Sm B
theorem St.later {w wc wd : World} {va vb : Value} {A B : List (List UInt8)} (h : St w wc va vb A B) (k : Below wc.heap.size wc wd) : St w wd va vb A B :=
  ⟨bstep h.below k, h.a.later k, h.b.later k, h.sa, h.sb⟩
/-- the five sets -/
structure S5 (wc : World) (A B : List (List UInt8)) (vn vm vu vi vd : Value) : Prop where
  n : SS wc vn (norm A)
  m : SS wc vm (norm B)
  u : SS wc vu (uni A B)
  i : SS wc vi (som A B true)
  d : SS wc vd (som A B false)
theorem S5.later {wc wd : World} {A B : List (List UInt8)} {vn vm vu vi vd : Value} (h : S5 wc A B vn vm vu vi vd) (k : Below wc.heap.size wc wd) : S5 wd A B vn vm vu vi vd :=
  ⟨h.n.later k, h.m.later k, h.u.later k, h.i.later k, h.d.later k⟩
theorem uni_len (A B : List (List UInt8)) (ha : Sm A) (hb : Sm B) : (uni A B).length ≤ 8000000 := by
  have := norm_len (A ++ B)
  have h1 := ha.len
  have h2 := hb.len
  unfold uni
  rw [List.length_append] at this
  omega
theorem uni_each (A B : List (List UInt8)) (ha : Sm A) (hb : Sm B) : ∀ x ∈ uni A B, x.length ≤ 1000000000 := fun x hx => by
  rcases mem_uni.1 hx with h | h
  · exact ha.each x h
  · exact hb.each x h
theorem drs_sm {A : List (List UInt8)} (h : Sm A) : Sm (drs A) := h.dirs.norm
end Go.Proofs.YtbaheiimcnfaaaaGreat

namespace Go.Proofs.YtbaheiimcnfaaaaGreat
open Go.RowKit

end Go.Proofs.YtbaheiimcnfaaaaGreat

namespace Go.Proofs.YtbaheiimcnfaaaaGreat
open Go.RowKit

theorem Sm.sh {k : List (List UInt8)} (h : Sm k) : Sh k := h.each
set_option maxRecDepth 100000 in
theorem noPath_any (p : List UInt8) (w : World) (hp : p.length ≤ 1000000000) : Calls Tryz.prog 31 #[.string (bs p)] w fun e w' => e = .returned (.bool (!okP p)) ∧ Below w.heap.size w w' := by
  obtain ⟨r, hr⟩ : ∃ r, okP p = r := ⟨_, rfl⟩
  rw [hr]
  have HR : Hid (okP p = r) := hr
  clear hr
  go_enter Tryz.func31, Tryz.ntmps31
  go_wp2_with fail
  refine (valid_any p w (by omega)).mono ?_
  rintro e w1 ⟨rfl, hb⟩
  rw [HR.out]
  have HB : Hid (Below w.heap.size w w1) := by first | exact hb | exact hb.below
  clear hb
  cases r
  · go_wp2_with fail
    go_ret
    exact ⟨rfl, HB.out⟩
  · go_wp2_with fail
    go_ret
    exact ⟨rfl, HB.out⟩
set_option maxRecDepth 100000 in
set_option maxHeartbeats 1000000 in
theorem cvalid_any {w : World} {v : Value} {k : List (List UInt8)} (h : SS w v k) (sm : Sm k) : Calls Tryz.prog 11 #[v] w fun e w' => e = .returned (.int .i64 (coneE k)) ∧ Below w.heap.size w w' := by
  have H : Hid (SS w v k ∧ Sm k) := ⟨h, sm⟩
  have HN : Hid (Calls Tryz.prog 30 #[v, .func (.func 31) #[] #[]] w fun e w' => e = .returned (.bool (k.any fun p => !okP p)) ∧ Below w.heap.size w w') :=
    containsN_any (fun p => !okP p) h (by have := sm.len; omega) (fun x hx W _ => noPath_any x W (sm.each x hx))
  rw [coneE_eq]
  obtain ⟨ak, ck, rfl⟩ := h.len2
  obtain ⟨n, hn⟩ : ∃ n, k.length = n := ⟨_, rfl⟩
  rw [hn] at H HN ⊢
  clear h sm hn
  obtain ⟨r, hr⟩ : ∃ r, (k.any fun p => !okP p) = r := ⟨_, rfl⟩
  rw [hr] at HN ⊢
  clear hr
  cases r
  · obtain ⟨s, hs⟩ : ∃ s, decide (hds (norm k) = k) = s := ⟨_, rfl⟩
    rw [hs]
    have HS : Hid (decide (hds (norm k) = k) = s) := hs
    clear hs
    go_enter Tryz.func11, Tryz.ntmps11
    go_wp2_with fail
    refine HN.out.mono ?_
    rintro e w1 ⟨rfl, hb1⟩
    have HB1 : Hid (Below w.heap.size w w1) := hb1
    clear hb1
    go_wp2_with fail
    refine (heads_any (H.out.1.later HB1.out) H.out.2).mono ?_
    rintro e w2 ⟨v2, rfl, ho2, hb2⟩
    obtain ⟨a2, c2, e2⟩ := ho2.bs.len2
    obtain ⟨m, hm⟩ : ∃ m, (hds (norm k)).length = m := ⟨_, rfl⟩
    rw [hm] at e2
    subst e2
    have HO : Hid (SS w2 (.slice a2 m c2) (hds (norm k)) ∧ Below w.heap.size w w2 ∧ (hds (norm k)).length ≤ 9223372036854775807) := ⟨ho2.bs, bstep HB1.out hb2, by
      have h1 := H.out.2.norm.hds.len
      omega⟩
    clear ho2 hb2 hm
    go_wp2_with fail
    refine (equalS_any HO.out.1 (H.out.1.later HO.out.2.1) HO.out.2.2).mono ?_
    rintro e w3 ⟨rfl, q, rfl⟩
    rw [HS.out]
    have HB3 : Hid (Below w.heap.size w (w2.drewN q)) := ⟨HO.out.2.1.os, HO.out.2.1.tape, HO.out.2.1.output, HO.out.2.1.size, HO.out.2.1.block⟩
    cases s
    · go_wp2_with fail
      go_ret
      exact ⟨rfl, HB3.out⟩
    · go_wp2_with fail
      go_ret
      exact ⟨rfl, HB3.out⟩
  · go_enter Tryz.func11, Tryz.ntmps11
    go_wp2_with fail
    refine HN.out.mono ?_
    rintro e w1 ⟨rfl, hb1⟩
    have HB1 : Hid (Below w.heap.size w w1) := hb1
    clear hb1
    go_wp2_with fail
    go_ret
    exact ⟨rfl, HB1.out⟩
end Go.Proofs.YtbaheiimcnfaaaaGreat

namespace Go.Proofs.YtbaheiimcnfaaaaGreat

def mxL : List Fl := [⟨[97, 47, 120, 47, 49], [], 0, 5⟩, ⟨[97, 47, 121, 47, 50], [], 0, 7⟩, ⟨[97, 47, 122, 47, 51], [], 0, 100⟩, ⟨[98, 47, 52], [], 0, 1⟩, ⟨[114], [], 0, 3⟩]
def mxK : List (List UInt8) := [[97, 47, 120], [97, 47, 121], [98]]
theorem mx_valid : validE mxL = 0 := by kernel_rfl
theorem mx_cone : coneE mxK = 0 := by kernel_rfl
theorem mx_cone1 : coneE [[97, 47, 120]] = 0 := by kernel_rfl
theorem mx_cone0 : coneE [] = 0 := by kernel_rfl
theorem mx_bad : coneE [[98], [97]] = 13 := by kernel_rfl
theorem mx_cost : cst mxL [[97, 47, 120]] = 8 := by kernel_rfl
theorem mx_cost0 : cst mxL [] = 3 := by kernel_rfl
theorem mx_at : wid [97] false mxK = [[97], [98]] := by kernel_rfl
theorem mx_step : stp mxL mxK = [[97], [98]] := by kernel_rfl
theorem mx_down : dwn mxL 1 mxK = [[]] := by kernel_rfl
end Go.Proofs.YtbaheiimcnfaaaaGreat
