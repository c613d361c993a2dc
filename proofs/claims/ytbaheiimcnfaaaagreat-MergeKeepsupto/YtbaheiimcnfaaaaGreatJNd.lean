/-
  What the laws of cone ask of the package: its four answers, as plain lists.
  Valid, Cover; what the laws ask of the package.
  The document's example of merging, by plain lists.
  Is each of these files in those? By rising places.
  What the laws of merging ask of the package; the document's example.
  Cones merged at a directory.
-/
import Derived.Test.YtbaheiimcnfaaaaGreatJNb
import Derived.Test.YtbaheiimcnfaaaaGreatJPPkg
import Derived.Laws.BitsLemmas
import Derived.Deep.DeepCutAuto
import Derived.Test.YtbaheiimcnfaaaaGreatJMg2
import Derived.Test.YtbaheiimcnfaaaaGreatJSPkg2
import Derived.Test.YtbaheiimcnfaaaaGreatVi
import Derived.WalkKit
import Derived.BigQuiet
import Derived.Test.YtbaheiimcnfaaaaGreatCv
import Derived.Test.YtbaheiimcnfaaaaGreatJKn3
namespace Go.Proofs.YtbaheiimcnfaaaaGreat
open Go.RowKit

theorem ss_lit (w : World) (l : List (List UInt8)) (n : Nat) (hn : n = l.length) : SS (w.alloc (.cells (sc l).toArray 9)) (.slice (some ⟨w.heap.size, 0, none⟩) n n) l := by
  subst hn
  refine .inr ⟨w.heap.size, 0, l.length, rfl, Nat.le_refl _, by simp, fun i u hu => ?_⟩
  simp
  simpa using hu

theorem norm_lit : norm [[97, 45, 98], [97, 47, 98], [97]] = [[97], [97, 47, 98], [97, 45, 98]] := by decide
theorem heads_lit : hds (norm [[97, 47, 98], [97]]) = [[97]] := by decide

end Go.Proofs.YtbaheiimcnfaaaaGreat

namespace Go.Proofs.YtbaheiimcnfaaaaGreat
open Go.RowKit

/-- does a statement begin with this region? -/
def beg (n : Nat) : Code → Bool
  | .region m _ _ => m == n
  | .seq a _ => beg n a
  | .block _ c => beg n c
  | .loop c => beg n c
  | .scope c => beg n c
  | _ => false
/-- what stands from there on -/
def suff (n : Nat) : Code → Code
  | .seq a b => if beg n a then .seq a b else suff n b
  | c => c
/-- what the laws answer -/
def Good (w : World) (e : Ending) (w' : World) : Prop := e = .returned (.bool true) ∧ Below w.heap.size w w'

theorem above_grow {w : World} {p q : List UInt8} {r : Bool} (hp : p.length ≤ 1000000000) (hq : q.length ≤ 1000000000) (hr : abvV p q = r) (X : GW w) :
    Calls Tryz.prog 64 #[.string (bs p), .string (bs q)] X.it fun e w' => e = .returned (.bool r) ∧ ∃ Y : GW w, w' = Y.it :=
  (above_any p q X.it (by omega) (by omega)).mono fun _ w' ⟨he, hl⟩ => ⟨by rw [← hr]; exact he, ⟨w', bstep X.below hl.below⟩, rfl⟩
theorem bdN {B : Nat} {w w1 : World} {n : Nat} (h : Below B w w1) : Below B w (w1.drewN n) := ⟨h.os, h.tape, h.output, h.size, h.block⟩
/-- the two lists, and how far the world has grown -/
structure St (w wc : World) (va vb : Value) (A B : List (List UInt8)) : Prop where
  below : Below w.heap.size w wc
  a : SS wc va A
  b : SS wc vb B
  sa : Sm A
  sb : Sm B
theorem St.later {w wc wd : World} {va vb : Value} {A B : List (List UInt8)} (h : St w wc va vb A B) (k : Below wc.heap.size wc wd) : St w wd va vb A B :=
  ⟨bstep h.below k, h.a.later k, h.b.later k, h.sa, h.sb⟩
/-- the five sets -/
structure S5 (wc : World) (A B : List (List UInt8)) (vn vm vu vi vd : Value) : Prop where
  n : SS wc vn (norm A)
  m : SS wc vm (norm B)
  u : SS wc vu (uni A B)
  i : SS wc vi (som A B true)
  d : SS wc vd (som A B false)
theorem S5.later {wc wd : World} {A B : List (List UInt8)} {vn vm vu vi vd : Value} (h : S5 wc A B vn vm vu vi vd) (k : Below wc.heap.size wc wd) : S5 wd A B vn vm vu vi vd :=
  ⟨h.n.later k, h.m.later k, h.u.later k, h.i.later k, h.d.later k⟩
theorem uni_len (A B : List (List UInt8)) (ha : Sm A) (hb : Sm B) : (uni A B).length ≤ 8000000 := by
  have := norm_len (A ++ B)
  have h1 := ha.len
  have h2 := hb.len
  unfold uni
  rw [List.length_append] at this
  omega
theorem uni_each (A B : List (List UInt8)) (ha : Sm A) (hb : Sm B) : ∀ x ∈ uni A B, x.length ≤ 1000000000 := fun x hx => by
  rcases mem_uni.1 hx with h | h
  · exact ha.each x h
  · exact hb.each x h
theorem drs_sm {A : List (List UInt8)} (h : Sm A) : Sm (drs A) := h.dirs.norm
end Go.Proofs.YtbaheiimcnfaaaaGreat

namespace Go.Proofs.YtbaheiimcnfaaaaGreat
open Go.RowKit

end Go.Proofs.YtbaheiimcnfaaaaGreat

namespace Go.Proofs.YtbaheiimcnfaaaaGreat
open Go.RowKit

theorem Sm.sh {k : List (List UInt8)} (h : Sm k) : Sh k := h.each
set_option maxRecDepth 100000 in
theorem noPath_any (p : List UInt8) (w : World) (hp : p.length ≤ 1000000000) : Calls Tryz.prog 31 #[.string (bs p)] w fun e w' => e = .returned (.bool (!okP p)) ∧ Below w.heap.size w w' := by
  obtain ⟨r, hr⟩ : ∃ r, okP p = r := ⟨_, rfl⟩
  rw [hr]
  have HR : Hid (okP p = r) := hr
  clear hr
  go_enter Tryz.func31, Tryz.ntmps31
  go_wp2_with fail
  refine (valid_any p w (by omega)).mono ?_
  rintro e w1 ⟨rfl, hb⟩
  rw [HR.out]
  have HB : Hid (Below w.heap.size w w1) := by first | exact hb | exact hb.below
  clear hb
  cases r
  · go_wp2_with fail
    go_ret
    exact ⟨rfl, HB.out⟩
  · go_wp2_with fail
    go_ret
    exact ⟨rfl, HB.out⟩
set_option maxRecDepth 100000 in
set_option maxHeartbeats 1000000 in
theorem cvalid_any {w : World} {v : Value} {k : List (List UInt8)} (h : SS w v k) (sm : Sm k) : Calls Tryz.prog 11 #[v] w fun e w' => e = .returned (.int .i64 (coneE k)) ∧ Below w.heap.size w w' := by
  have H : Hid (SS w v k ∧ Sm k) := ⟨h, sm⟩
  have HN : Hid (Calls Tryz.prog 30 #[v, .func (.func 31) #[] #[]] w fun e w' => e = .returned (.bool (k.any fun p => !okP p)) ∧ Below w.heap.size w w') :=
    containsN_any (fun p => !okP p) h (by have := sm.len; omega) (fun x hx W _ => noPath_any x W (sm.each x hx))
  rw [coneE_eq]
  obtain ⟨ak, ck, rfl⟩ := h.len2
  obtain ⟨n, hn⟩ : ∃ n, k.length = n := ⟨_, rfl⟩
  rw [hn] at H HN ⊢
  clear h sm hn
  obtain ⟨r, hr⟩ : ∃ r, (k.any fun p => !okP p) = r := ⟨_, rfl⟩
  rw [hr] at HN ⊢
  clear hr
  cases r
  · obtain ⟨s, hs⟩ : ∃ s, decide (hds (norm k) = k) = s := ⟨_, rfl⟩
    rw [hs]
    have HS : Hid (decide (hds (norm k) = k) = s) := hs
    clear hs
    go_enter Tryz.func11, Tryz.ntmps11
    go_wp2_with fail
    refine HN.out.mono ?_
    rintro e w1 ⟨rfl, hb1⟩
    have HB1 : Hid (Below w.heap.size w w1) := hb1
    clear hb1
    go_wp2_with fail
    refine (heads_any (H.out.1.later HB1.out) H.out.2).mono ?_
    rintro e w2 ⟨v2, rfl, ho2, hb2⟩
    obtain ⟨a2, c2, e2⟩ := ho2.bs.len2
    obtain ⟨m, hm⟩ : ∃ m, (hds (norm k)).length = m := ⟨_, rfl⟩
    rw [hm] at e2
    subst e2
    have HO : Hid (SS w2 (.slice a2 m c2) (hds (norm k)) ∧ Below w.heap.size w w2 ∧ (hds (norm k)).length ≤ 9223372036854775807) := ⟨ho2.bs, bstep HB1.out hb2, by
      have h1 := H.out.2.norm.hds.len
      omega⟩
    clear ho2 hb2 hm
    go_wp2_with fail
    refine (equalS_any HO.out.1 (H.out.1.later HO.out.2.1) HO.out.2.2).mono ?_
    rintro e w3 ⟨rfl, q, rfl⟩
    rw [HS.out]
    have HB3 : Hid (Below w.heap.size w (w2.drewN q)) := ⟨HO.out.2.1.os, HO.out.2.1.tape, HO.out.2.1.output, HO.out.2.1.size, HO.out.2.1.block⟩
    cases s
    · go_wp2_with fail
      go_ret
      exact ⟨rfl, HB3.out⟩
    · go_wp2_with fail
      go_ret
      exact ⟨rfl, HB3.out⟩
  · go_enter Tryz.func11, Tryz.ntmps11
    go_wp2_with fail
    refine HN.out.mono ?_
    rintro e w1 ⟨rfl, hb1⟩
    have HB1 : Hid (Below w.heap.size w w1) := hb1
    clear hb1
    go_wp2_with fail
    go_ret
    exact ⟨rfl, HB1.out⟩
end Go.Proofs.YtbaheiimcnfaaaaGreat

namespace Go.Proofs.YtbaheiimcnfaaaaGreat

def mxL : List Fl := [⟨[97, 47, 120, 47, 49], [], 0, 5⟩, ⟨[97, 47, 121, 47, 50], [], 0, 7⟩, ⟨[97, 47, 122, 47, 51], [], 0, 100⟩, ⟨[98, 47, 52], [], 0, 1⟩, ⟨[114], [], 0, 3⟩]
def mxK : List (List UInt8) := [[97, 47, 120], [97, 47, 121], [98]]
theorem mx_valid : validE mxL = 0 := by kernel_rfl
theorem mx_cone : coneE mxK = 0 := by kernel_rfl
theorem mx_cone1 : coneE [[97, 47, 120]] = 0 := by kernel_rfl
theorem mx_cone0 : coneE [] = 0 := by kernel_rfl
theorem mx_bad : coneE [[98], [97]] = 13 := by kernel_rfl
theorem mx_cost : cst mxL [[97, 47, 120]] = 8 := by kernel_rfl
theorem mx_cost0 : cst mxL [] = 3 := by kernel_rfl
theorem mx_at : wid [97] false mxK = [[97], [98]] := by kernel_rfl
theorem mx_step : stp mxL mxK = [[97], [98]] := by kernel_rfl
theorem mx_down : dwn mxL 1 mxK = [[]] := by kernel_rfl
end Go.Proofs.YtbaheiimcnfaaaaGreat

namespace Go.Proofs.YtbaheiimcnfaaaaGreat
open Go.RowKit Go.Maps

theorem sub_cons {x y : Fl} {r s : List Fl} (h : (x :: r).Sublist (y :: s)) (hne : feq y x = false) : (x :: r).Sublist s := by
  cases h with
  | cons _ h => exact h
  | cons_cons _ h => rw [feq_self] at hne; cases hne
theorem sub_next {A B : List Fl} {i a : Nat} (hi : i < A.length) (ha : a < B.length) (h : (A.drop i).Sublist (B.drop a)) (hne : feq (B[a]'ha) (A[i]'hi) = false) : (A.drop i).Sublist (B.drop (a + 1)) := by
  rw [List.drop_eq_getElem_cons hi, List.drop_eq_getElem_cons ha] at h
  rw [List.drop_eq_getElem_cons hi]
  exact sub_cons h hne
set_option maxRecDepth 100000 in
set_option maxHeartbeats 4000000 in
theorem wthn_any {w : World} {u v : Value} {A B : List Fl} (h1 : FS w u A) (h2 : FS w v B) (hs : A.Sublist B) (hl : B.length ≤ 100000000) :
    Calls Tryz.prog 14 #[u, v] w fun e w' => e = .returned (.bool true) ∧ Below w.heap.size w w' := by
  have H : Hid (FS w u A ∧ FS w v B ∧ A.Sublist B) := ⟨h1, h2, hs⟩
  obtain ⟨au, cu, hvv, _⟩ := h1.form
  obtain ⟨av, cv, hvv', _⟩ := h2.form
  obtain ⟨n, hn⟩ : ∃ n, A.length = n := ⟨_, rfl⟩
  obtain ⟨m, hm⟩ : ∃ m, B.length = m := ⟨_, rfl⟩
  have hle := hs.length_le
  rw [hn] at hvv hle
  rw [hm] at hvv' hl hle
  subst hvv
  subst hvv'
  have HN : Hid (A.length = n ∧ B.length = m) := ⟨hn, hm⟩
  clear h1 h2 hn hm hs
  have hq := neq_run
  have hg := fguard_run
  go_enter Tryz.func14, Tryz.ntmps14
  go_wp2_with fail
  go_loopw [5, 6] (fun s5 s6 wr => ∃ a i : Nat, s5 = .int .i64 a ∧ s6 = .int .i64 i ∧ i ≤ n ∧ a ≤ m ∧ Below w.heap.size w wr ∧ (A.drop i).Sublist (B.drop a)) (fun _ s6 _ => n - (intOf s6).toNat)
  case atStart => exact ⟨0, 0, rfl, rfl, Nat.zero_le _, Nat.zero_le _, Below.refl _ _, H.out.2.2⟩
  case round =>
    obtain ⟨a, i, rfl, rfl, hi, ha, hb, hsub⟩ := hrel
    have HX : Hid (Below w.heap.size w wr ∧ (A.drop i).Sublist (B.drop a)) := ⟨hb, hsub⟩
    clear hb hsub
    by_cases hlt : i < n
    · have i1 : (i : Int) < (n : Int) := by omega
      have i2 : (0 : Int) ≤ (i : Int) := by omega
      have hil : i < A.length := by rw [HN.out.1]; exact hlt
      go_wp2_with fail
      go_loopw [5] (fun s5 wr => ∃ a : Nat, s5 = .int .i64 a ∧ a ≤ m ∧ Below w.heap.size w wr ∧ (A.drop i).Sublist (B.drop a)) (fun s5 _ => m - (intOf s5).toNat)
      case atStart => exact ⟨a, rfl, ha, HX.out.1, HX.out.2⟩
      case round =>
        obtain ⟨c, rfl, hc, hb, hsub⟩ := hrel
        have hcm : c < m := by
          rcases Nat.lt_or_ge c m with h | h
          · exact h
          · have e0 : B.drop c = [] := List.drop_eq_nil_of_le (by rw [HN.out.2]; exact h)
            rw [e0, List.drop_eq_getElem_cons hil] at hsub
            cases hsub
        have hcl : c < B.length := by rw [HN.out.2]; exact hcm
        have HY : Hid (Below w.heap.size w wr ∧ (A.drop i).Sublist (B.drop c)) := ⟨hb, hsub⟩
        have HNX : Hid (feq B[c] A[i] = false → (A.drop i).Sublist (B.drop (c + 1))) := sub_next hil hcl hsub
        clear hb hsub
        obtain ⟨b1, o1, ea, hb1, d0, d1, d2, d3⟩ := FS.at (by have q := H.out.1; rw [← HN.out.1] at q; exact q) HY.out.1 hil
        subst ea
        obtain ⟨b2, o2, ea, hb2, e0, e1, e2, e3⟩ := FS.at (by have q := H.out.2.1; rw [← HN.out.2] at q; exact q) HY.out.1 hcl
        subst ea
        generalize A[i] = x at d0 d1 d2 d3 HNX
        generalize B[c] = y at e0 e1 e2 e3 HNX
        obtain ⟨x0, x1, x2, x3⟩ := x
        obtain ⟨y0, y1, y2, y3⟩ := y
        simp only at d0 d1 d2 d3 e0 e1 e2 e3
        have k1 : (c : Int) < (m : Int) := by omega
        have k2 : (0 : Int) ≤ (c : Int) := by omega
        obtain ⟨z, hz⟩ : ∃ z, feq ⟨y0, y1, y2, y3⟩ ⟨x0, x1, x2, x3⟩ = z := ⟨_, rfl⟩
        rw [hz] at HNX
        cases z
        · go_wp2_with fail
          go_quiet (fail)
          go_wp2_with fail
          go_roundw
          case rel => exact ⟨c + 1, by go_num, by omega, bstep HY.out.1 (bd _ _), HNX.out trivial⟩
          case measure => simp [intOf]; omega
        · have kne : ¬ (c : Int) = (m : Int) := by omega
          go_wp2_with fail
          go_quiet (fail)
          go_wp2_with fail
          go_roundw
          case rel => exact ⟨c, i + 1, rfl, by go_num, by omega, by omega, bstep HY.out.1 (bd _ _), ((List.drop_sublist_drop_left A (Nat.le_succ i)).trans HY.out.2)⟩
          case measure => simp [intOf]; omega
    · obtain rfl : n = i := by omega
      go_wp2_with fail
      go_ret
      exact ⟨rfl, HX.out.1⟩
end Go.Proofs.YtbaheiimcnfaaaaGreat

namespace Go.Proofs.YtbaheiimcnfaaaaGreat
open Go.RowKit Go.Maps
attribute [local go_sem] Oper.semAt_some

def mErr (l : List Fl) (k : List (List UInt8)) : Int := if validE l = 0 then coneE k else validE l
def mcst (l : List Fl) (k : List (List UInt8)) : Int × Int := if mErr l k = 0 then (cst l k, 0) else (0, mErr l k)
def mat (k : List (List UInt8)) (p : List UInt8) : List (List UInt8) × Int := if coneE k = 0 then (if okP p = true then (wid p false k, 0) else ([], 7)) else ([], 13)
def mstp (l : List Fl) (k : List (List UInt8)) : List (List UInt8) × Int := if mErr l k = 0 then (stp l k, 0) else ([], mErr l k)
def mdwn (l : List Fl) (k : List (List UInt8)) (b : Int) : List (List UInt8) × Int := if mErr l k = 0 then (if 1 ≤ b then (dwn l b.toNat k, 0) else ([], 6)) else ([], mErr l k)
/-- a list and an error -/
def TwoS (w : World) (r : List (List UInt8) × Int) (e : Ending) (w' : World) : Prop := ∃ v, e = .returned (.tuple #[v, .int .i64 r.2]) ∧ Own w.heap.size w' v r.1 ∧ Below w.heap.size w w'
structure MC : Prop where
  cost : ∀ {w : World} {v u : Value} {l : List Fl} {k : List (List UInt8)}, FS w v l → FSm l → SS w u k → Sm k → Calls Tryz.prog 8 #[v, u] w fun e w' => e = .returned (.tuple #[.int .i64 (mcst l k).1, .int .i64 (mcst l k).2]) ∧ Below w.heap.size w w'
  step : ∀ {w : World} {v u : Value} {l : List Fl} {k : List (List UInt8)}, FS w v l → FSm l → SS w u k → Sm k → Calls Tryz.prog 10 #[v, u] w (TwoS w (mstp l k))
  at' : ∀ {w : World} {u : Value} {k : List (List UInt8)} (p : List UInt8), SS w u k → Sm k → p.length ≤ 1000000 → Calls Tryz.prog 15 #[u, .string (bs p)] w (TwoS w (mat k p))
  down : ∀ {w : World} {v u : Value} {l : List Fl} {k : List (List UInt8)} (b : Int), FS w v l → FSm l → SS w u k → Sm k → -9223372036854775808 ≤ b → b ≤ 9223372036854775807 → Calls Tryz.prog 17 #[v, u, .int .i64 b] w (TwoS w (mdwn l k b))
  valid : ∀ {w : World} {u : Value} {k : List (List UInt8)}, SS w u k → Sm k → Calls Tryz.prog 11 #[u] w fun e w' => e = .returned (.int .i64 (coneE k)) ∧ Below w.heap.size w w'
  view : ∀ {w : World} {v u : Value} {l : List Fl} {k : List (List UInt8)}, FS w v l → FSm l → SS w u k → Sm k → Calls Tryz.prog 13 #[v, u] w fun e w' => ∃ v', e = .returned (.tuple #[v', .int .i64 (viw l k).2]) ∧ OwnF w.heap.size w' v' (viw l k).1 ∧ Below w.heap.size w w'
  cones : ∀ {w : World} {u : Value} {k : List (List UInt8)}, SS w u k → Sm k → Calls Tryz.prog 9 #[u] w fun e w' => e = .returned (.bool (coneB k)) ∧ Below w.heap.size w w'
  common : ∀ (a c : List UInt8) (w : World), a.length ≤ 120 → c.length ≤ 120 → Calls Tryz.prog 16 #[.string (bs a), .string (bs c)] w fun e w' => e = .returned (.string (bs (cmn a c))) ∧ Below w.heap.size w w'
  above : ∀ (a c : List UInt8) (w : World), a.length ≤ 120 → c.length ≤ 120 → Calls Tryz.prog 27 #[.string (bs a), .string (bs c)] w fun e w' => e = .returned (.bool (abvV a c)) ∧ Below w.heap.size w w'
theorem fs_block {w : World} {g : Nat} {l : List Fl} {arr : Array Value} {fr : Nat × Nat} (hg : w.heap[g]? = some (.cells arr 45 fr)) (ha : arr = (fc l).toArray) : FS w (.slice (some ⟨g, 0, none⟩) l.length l.length) l := by
  subst ha
  refine .inr ⟨g, 0, l.length, rfl, Nat.le_refl _, (Array.getElem?_eq_some_iff.1 hg).1, fun i u hu => ?_⟩
  simp only [World.cell?, hg]
  simpa using hu
theorem ss_block {w : World} {g : Nat} {l : List (List UInt8)} {arr : Array Value} {fr : Nat × Nat} (hg : w.heap[g]? = some (.cells arr 9 fr)) (ha : arr = (sc l).toArray) : SS w (.slice (some ⟨g, 0, none⟩) l.length l.length) l := by
  subst ha
  refine .inr ⟨g, 0, l.length, rfl, Nat.le_refl _, (Array.getElem?_eq_some_iff.1 hg).1, fun i u hu => ?_⟩
  simp only [World.cell?, hg]
  simpa using hu
theorem Own.slc {base : Nat} {w : World} {v : Value} {l : List (List UInt8)} (h : Own base w v l) : ∃ a c, v = .slice a l.length c := by
  rcases h.2 with ⟨rfl, h0⟩ | ⟨g, cap, cur, rfl, _⟩
  · exact ⟨none, 0, by rw [h0]⟩
  · exact ⟨_, _, rfl⟩
set_option maxRecDepth 100000 in
theorem mx_sm : FSm mxL := by
  have hlen : ∀ f ∈ mxL, f.path.length ≤ 100 ∧ f.text.length ≤ 100 ∧ f.blob = 0 ∧ 0 ≤ f.size ∧ f.size ≤ 100 := by decide
  exact ⟨by decide, fun f hf => by
    obtain ⟨h1, h2, h3, h4, h5⟩ := hlen f hf
    exact ⟨by omega, by omega, by omega, by omega, by omega, by omega⟩⟩
theorem sm_lit {k : List (List UInt8)} (h : k.length ≤ 100) (h2 : k.all (fun x => decide (x.length ≤ 100)) = true) : Sm k :=
  ⟨by omega, fun x hx => by have := List.all_eq_true.1 h2 x hx; rw [decide_eq_true_eq] at this; omega⟩
set_option maxRecDepth 100000 in
set_option maxHeartbeats 4000000 in
theorem example_any (w : World) : Calls Tryz.prog 23 #[] w fun e w' => e = .returned (.slice (some ⟨w.heap.size, 0, none⟩) 5 5) ∧ w' = w.alloc (.cells (fc mxL).toArray 45) := by
  go_enter Tryz.func23, Tryz.ntmps23
  go_wp2_with fail
  go_ret
  exact ⟨rfl, rfl⟩
end Go.Proofs.YtbaheiimcnfaaaaGreat

namespace Go.Proofs.YtbaheiimcnfaaaaGreat
open Go.RowKit Go.Maps
attribute [local go_sem] Oper.semAt_some

theorem cone_up {k : List (List UInt8)} (h : coneE k = 0) : Up k := (coneB_iff.1 (coneE_zero.1 h)).2.imp fun hf => fol_lt hf
theorem RW.of {base : Nat} {w : World} {v : Value} {l : List (List UInt8)} (h : Own base w v l) (hl : l ≠ []) : ∃ g cap rest, v = .slice (some ⟨g, 0, none⟩) l.length cap ∧ RW 9 1 base w g cap (sc l) rest := by
  rcases h.2 with ⟨rfl, h0⟩ | ⟨g, cap, cur, rfl, hb, hg, hn, hm, hs, ht⟩
  · exact absurd (List.eq_nil_of_length_eq_zero h0) hl
  · refine ⟨g, cap, cur.toList.drop (l.length * 1), rfl, ?_, hb, hm, by simp [sc_length]; omega⟩
    rw [← ht, List.take_append_drop]; simpa using hg
theorem rep_run {base : Nat} {w wr : World} {ad : Option Addr} {n c : Nat} {k : List (List UInt8)} (h : Own base w (.slice ad n c) k) (hb : Below w.heap.size w wr) (hn : k.length = n) (hn2 : n ≤ 4000000) (p : List UInt8) (a b : Nat) (hab : a < b) (hbn : b ≤ n) :
    ∃ g, ad = some ⟨g, 0, none⟩ ∧ Calls Tryz.prog 76 #[.slice (some ⟨g, 0, none⟩) n c, .int .i64 (a : Int), .int .i64 (b : Int), .slice (some ⟨wr.heap.size, 0, none⟩) 1 1] (wr.alloc (.cells #[.string (bs p)] 9)) fun e w' => ∃ v', e = .returned v' ∧ v'.ownBlock = some g ∧ Own base w' v' (k.take a ++ p :: k.drop b) ∧ Only [g] w w' := by
  subst hn
  have hkne : k ≠ [] := fun e0 => by subst e0; simp at hbn; omega
  obtain ⟨g, cap, rest, ev, hrw⟩ := RW.of (h.later hb) hkne
  injection ev with ev1 _ ev3
  subst ev1
  subst ev3
  refine ⟨g, rfl, ?_⟩
  have hlt := hrw.lt
  have hne : wr.heap.size ≠ g := by omega
  have q := replace_any (hrw.later (balloc wr (.cells #[.string (bs p)] 9))) p wr.heap.size (heap_alloc_new wr (.cells #[.string (bs p)] 9)) hne a b hab hbn (by omega)
  exact q.mono fun e w' ⟨v', h1, h2, h3, h4⟩ => ⟨v', h1, h2, h3, (Only.of_below (bstep hb (balloc _ _)) _).trans h4⟩
set_option maxRecDepth 100000 in
set_option maxHeartbeats 4000000 in
theorem mergeAt_any {base : Nat} {w : World} {v : Value} {k : List (List UInt8)} (h : Own base w v k) (hk : coneE k = 0) (sm : Sm k) (p : List UInt8) (hp : p.length ≤ 1000000000) :
    Calls Tryz.prog 39 #[v, .string (bs p)] w fun e w' => ∃ v', e = .returned v' ∧ Own base w' v' (wid p false k) ∧ Only v.ownBlock.toList w w' ∧ v'.ownBlock = v.ownBlock := by
  have HS : Hid (Calls Tryz.prog 71 #[v, .string (bs p), .func (.func 72) #[] #[]] w fun e w' => ∃ (a : Nat) (fb : Bool), e = .returned (.tuple #[.int .i64 a, .bool fb]) ∧ Stands k p a ∧ Below w.heap.size w w') := search_any p h.bs (cone_up hk) sm hp
  have H : Hid (Own base w v k ∧ coneE k = 0 ∧ Sm k ∧ p.length ≤ 1000000000) := ⟨h, hk, sm, hp⟩
  have HW : Hid (∀ (a b : Nat), a ≤ b → b ≤ k.length → (∀ i (hi : i < k.length), i < a → cf (k[i]'hi) p < 0) → (∀ i (hi : i < k.length), a ≤ i → 0 ≤ cf (k[i]'hi) p) → (∀ i (hi : i < k.length), a ≤ i → i < b → abvV p (k[i]'hi) = true) → (∀ hi : b < k.length, abvV p (k[b]'hi) = false) → wid p false k = if a = b then k else k.take a ++ p :: k.drop b) := fun a b h1 h2 h3 h4 h5 h6 => wid_run hk h1 h2 h3 (fun i hi h7 h8 => by have := h4 i hi h7; omega) h5 h6
  have HA : Hid (∀ (x : List UInt8) (W : World), x ∈ k → Calls Tryz.prog 64 #[.string (bs p), .string (bs x)] W fun e w' => e = .returned (.bool (abvV p x)) ∧ Below W.heap.size W w') := fun x W hx => (above_any p x W (by omega) (by have := sm.each x hx; omega)).mono fun e w' ⟨h1, h2⟩ => ⟨h1, h2.below⟩
  have hsl := sm.len
  obtain ⟨ad, c, hv, -⟩ := h.bs.form
  obtain ⟨n, hn⟩ : ∃ n, k.length = n := ⟨_, rfl⟩
  rw [hn] at hv hsl
  subst hv
  have HN : Hid (k.length = n) := hn
  clear h hk sm hp hn
  go_enter Tryz.func39, Tryz.ntmps39
  go_wp2_with fail
  refine HS.out.mono ?_
  rintro e w1 ⟨a, fb, rfl, hst, hb1⟩
  obtain ⟨hs1, hs2, hs3⟩ := hst
  rw [HN.out] at hs1
  have H1 : Hid ((∀ t (h : t < k.length), t < a → cf (k[t]'h) p < 0) ∧ (∀ t (h : t < k.length), a ≤ t → 0 ≤ cf (k[t]'h) p) ∧ Below w.heap.size w w1) := ⟨hs2, hs3, hb1⟩
  clear hs2 hs3 hb1
  go_wp2_with fail
  go_loopw [7] (fun s7 wr => ∃ b : Nat, s7 = .int .i64 b ∧ a ≤ b ∧ b ≤ n ∧ (∀ i (hi : i < k.length), a ≤ i → i < b → abvV p (k[i]'hi) = true) ∧ Below w.heap.size w wr) (fun s7 _ => n - (intOf s7).toNat)
  case atStart => exact ⟨a, rfl, Nat.le_refl _, hs1, fun i hi h1 h2 => by omega, H1.out.2.2⟩
  case round =>
    obtain ⟨b, rfl, hab, hbn, hrun, hb⟩ := hrel
    have HX : Hid ((∀ i (hi : i < k.length), a ≤ i → i < b → abvV p (k[i]'hi) = true) ∧ Below w.heap.size w wr) := ⟨hrun, hb⟩
    clear hrun hb
    -- the end of the run
    have HEND : Hid (∀ W : World, Below w.heap.size w W → (∀ hi : b < k.length, abvV p (k[b]'hi) = false) → wid p false k = if a = b then k else k.take a ++ p :: k.drop b) := fun W _ h6 =>
      HW.out a b hab (by rw [HN.out]; exact hbn) H1.out.1 H1.out.2.1 HX.out.1 h6
    by_cases hlt : b < n
    · have i1 : (b : Int) < (n : Int) := by omega
      have i2 : (0 : Int) ≤ (b : Int) := by omega
      have hbl : b < k.length := by rw [HN.out]; exact hlt
      obtain ⟨a', c', e', ca⟩ := (H.out.1.later HX.out.2).bs.form
      injection e' with e1 e2 e3
      subst e1
      subst e3
      clear e2
      obtain ⟨g, off, e4, hg, hcell⟩ := ca b hbl
      subst e4
      have HC : Hid (k[b] ∈ k) := List.getElem_mem hbl
      obtain ⟨x, hx⟩ : ∃ x, k[b] = x := ⟨_, rfl⟩
      have HB : Hid (abvV p x = true → ∀ i (hi : i < k.length), a ≤ i → i < b + 1 → abvV p (k[i]'hi) = true) := fun hxx i hi h1 h2 => by
        by_cases e : i = b
        · subst e; rw [hx]; exact hxx
        · exact HX.out.1 i hi h1 (by omega)
      have HE2 : Hid (abvV p x = false → ∀ hi : b < k.length, abvV p (k[b]'hi) = false) := fun hxx hi => by rw [hx]; exact hxx
      rw [hx] at hcell HC
      clear ca hx
      go_wp2_with fail
      refine (HA.out x wr HC.out).mono ?_
      rintro e w2 ⟨rfl, hb2⟩
      have HBW : Hid (Below w.heap.size w w2) := bstep HX.out.2 hb2
      clear hb2 hcell
      obtain ⟨q, hq0⟩ : ∃ q, abvV p x = q := ⟨_, rfl⟩
      rw [hq0] at HB HE2 ⊢
      clear hq0
      cases q
      · have HF : Hid (wid p false k = if a = b then k else k.take a ++ p :: k.drop b) := HEND.out w2 HBW.out (HE2.out rfl)
        by_cases hq : a = b
        · have HQ : Hid (wid p false k = k) := by
            show _ = _
            rw [HF.out, if_pos hq]
          have q1 : (a : Int) = (b : Int) := by omega
          go_wp2_with fail
          go_ret
          exact ⟨_, rfl, by rw [HQ.out]; exact H.out.1.later HBW.out, Only.of_below HBW.out _, rfl⟩
        · have HQ : Hid (wid p false k = k.take a ++ p :: k.drop b) := by
            show _ = _
            rw [HF.out, if_neg hq]
          have q1 : ¬ ((a : Int) = (b : Int)) := by omega
          obtain ⟨g1, ev1, hrp⟩ := rep_run H.out.1 HBW.out HN.out hsl p a b (by omega) hbn
          first | subst ev1 | (injection ev1 with ev1; injection ev1 with ev4 ev5 _; subst ev4; subst ev5)
          have HRP : Hid (Calls Tryz.prog 76 #[.slice (some ⟨_, 0, none⟩) n c, .int .i64 (a : Int), .int .i64 (b : Int), .slice (some ⟨w2.heap.size, 0, none⟩) 1 1] (w2.alloc (.cells #[.string (bs p)] 9)) fun e w' => ∃ v', e = .returned v' ∧ v'.ownBlock = some _ ∧ Own base w' v' (k.take a ++ p :: k.drop b) ∧ Only [_] w w') := hrp
          clear hrp
          go_wp2_with fail
          refine HRP.out.mono ?_
          rintro e w3 ⟨v3, rfl, hob, hown, ho3⟩
          have HZ := hid_of (And.intro hob (And.intro hown ho3))
          clear hob hown ho3
          go_wp2_with fail
          go_ret
          exact ⟨_, rfl, by rw [HQ.out]; exact HZ.out.2.1, HZ.out.2.2, HZ.out.1⟩
      · have HR : Hid (∀ i (hi : i < k.length), a ≤ i → i < b + 1 → abvV p (k[i]'hi) = true) := HB.out rfl
        go_wp2_with fail
        go_roundw
        case rel => exact ⟨b + 1, by go_num, by omega, by omega, HR.out, HBW.out⟩
        case measure => simp [intOf]; omega
    · have hbn' : ¬ ((b : Int) < (n : Int)) := by omega
      have HF : Hid (wid p false k = if a = b then k else k.take a ++ p :: k.drop b) := HEND.out wr HX.out.2 (fun hi => by have := HN.out; omega)
      have HBW : Hid (Below w.heap.size w wr) := HX.out.2
      by_cases hq : a = b
      · have HQ : Hid (wid p false k = k) := by
          show _ = _
          rw [HF.out, if_pos hq]
        have q1 : (a : Int) = (b : Int) := by omega
        go_wp2_with fail
        go_ret
        exact ⟨_, rfl, by rw [HQ.out]; exact H.out.1.later HBW.out, Only.of_below HBW.out _, rfl⟩
      · have HQ : Hid (wid p false k = k.take a ++ p :: k.drop b) := by
          show _ = _
          rw [HF.out, if_neg hq]
        have q1 : ¬ ((a : Int) = (b : Int)) := by omega
        obtain ⟨g1, ev1, hrp⟩ := rep_run H.out.1 HBW.out HN.out hsl p a b (by omega) hbn
        first | subst ev1 | (injection ev1 with ev1; injection ev1 with ev4 ev5 _; subst ev4; subst ev5)
        have HRP : Hid (Calls Tryz.prog 76 #[.slice (some ⟨_, 0, none⟩) n c, .int .i64 (a : Int), .int .i64 (b : Int), .slice (some ⟨wr.heap.size, 0, none⟩) 1 1] (wr.alloc (.cells #[.string (bs p)] 9)) fun e w' => ∃ v', e = .returned v' ∧ v'.ownBlock = some _ ∧ Own base w' v' (k.take a ++ p :: k.drop b) ∧ Only [_] w w') := hrp
        clear hrp
        go_wp2_with fail
        refine HRP.out.mono ?_
        rintro e w3 ⟨v3, rfl, hob, hown, ho3⟩
        have HZ := hid_of (And.intro hob (And.intro hown ho3))
        clear hob hown ho3
        go_wp2_with fail
        go_ret
        exact ⟨_, rfl, by rw [HQ.out]; exact HZ.out.2.1, HZ.out.2.2, HZ.out.1⟩
end Go.Proofs.YtbaheiimcnfaaaaGreat
