/-
  Valid, Cover; what the laws ask of the package.
-/
import Derived.Test.YtkopjamednedfaaGreatSPkg
import Derived.Test.YtkopjamednedfaaGreatPPkg
import Derived.Laws.BitsLemmas
import Derived.Deep.DeepCutAuto
import Derived.Test.YtkopjamednedfaaGreatOp
namespace Go.Proofs.YtkopjamednedfaaGreat
open Go.RowKit

theorem ss_lit (w : World) (l : List (List UInt8)) (n : Nat) (hn : n = l.length) : SS (w.alloc (.cells (sc l).toArray 9)) (.slice (some ⟨w.heap.size, 0, none⟩) n n) l := by
  subst hn
  refine .inr ⟨w.heap.size, 0, l.length, rfl, Nat.le_refl _, by simp, fun i u hu => ?_⟩
  simp
  simpa using hu

theorem norm_lit : norm [[97, 45, 98], [97, 47, 98], [97]] = [[97], [97, 47, 98], [97, 45, 98]] := by decide
theorem heads_lit : hds (norm [[97, 47, 98], [97]]) = [[97]] := by decide

end Go.Proofs.YtkopjamednedfaaGreat

namespace Go.Proofs.YtkopjamednedfaaGreat
open Go.RowKit

/-- does a statement begin with this region? -/
def beg (n : Nat) : Code → Bool
  | .region m _ _ => m == n
  | .seq a _ => beg n a
  | .block _ c => beg n c
  | .loop c => beg n c
  | .scope c => beg n c
  | _ => false
/-- what stands from there on -/
def suff (n : Nat) : Code → Code
  | .seq a b => if beg n a then .seq a b else suff n b
  | c => c
/-- what the laws answer -/
def Good (w : World) (e : Ending) (w' : World) : Prop := e = .returned (.bool true) ∧ Below w.heap.size w w'

theorem above_grow {w : World} {p q : List UInt8} {r : Bool} (hp : p.length ≤ 1000000000) (hq : q.length ≤ 1000000000) (hr : abvV p q = r) (X : GW w) :
    Calls Tryz.prog 55 #[.string (bs p), .string (bs q)] X.it fun e w' => e = .returned (.bool r) ∧ ∃ Y : GW w, w' = Y.it :=
  (above_any p q X.it (by omega) (by omega)).mono fun _ w' ⟨he, hl⟩ => ⟨by rw [← hr]; exact he, ⟨w', bstep X.below hl.below⟩, rfl⟩
theorem bdN {B : Nat} {w w1 : World} {n : Nat} (h : Below B w w1) : Below B w (w1.drewN n) := ⟨h.os, h.tape, h.output, h.size, h.block⟩
/-- the two lists, and how far the world has grown -/
structure St (w wc : World) (va vb : Value) (A B : List (List UInt8)) : Prop where
  below : Below w.heap.size w wc
  a : SS wc va A
  b : SS wc vb B
  sa : Sm A
  sb : Sm B
theorem St.later {w wc wd : World} {va vb : Value} {A B : List (List UInt8)} (h : St w wc va vb A B) (k : Below wc.heap.size wc wd) : St w wd va vb A B :=
  ⟨bstep h.below k, h.a.later k, h.b.later k, h.sa, h.sb⟩
/-- the five sets -/
structure S5 (wc : World) (A B : List (List UInt8)) (vn vm vu vi vd : Value) : Prop where
  n : SS wc vn (norm A)
  m : SS wc vm (norm B)
  u : SS wc vu (uni A B)
  i : SS wc vi (som A B true)
  d : SS wc vd (som A B false)
theorem S5.later {wc wd : World} {A B : List (List UInt8)} {vn vm vu vi vd : Value} (h : S5 wc A B vn vm vu vi vd) (k : Below wc.heap.size wc wd) : S5 wd A B vn vm vu vi vd :=
  ⟨h.n.later k, h.m.later k, h.u.later k, h.i.later k, h.d.later k⟩
theorem uni_len (A B : List (List UInt8)) (ha : Sm A) (hb : Sm B) : (uni A B).length ≤ 8000000 := by
  have := norm_len (A ++ B)
  have h1 := ha.len
  have h2 := hb.len
  unfold uni
  rw [List.length_append] at this
  omega
theorem uni_each (A B : List (List UInt8)) (ha : Sm A) (hb : Sm B) : ∀ x ∈ uni A B, x.length ≤ 1000000000 := fun x hx => by
  rcases mem_uni.1 hx with h | h
  · exact ha.each x h
  · exact hb.each x h
theorem drs_sm {A : List (List UInt8)} (h : Sm A) : Sm (drs A) := h.dirs.norm
end Go.Proofs.YtkopjamednedfaaGreat

namespace Go.Proofs.YtkopjamednedfaaGreat
open Go.RowKit

theorem Sm.sh {k : List (List UInt8)} (h : Sm k) : Sh k := h.each
set_option maxRecDepth 100000 in
theorem noPath_any (p : List UInt8) (w : World) (hp : p.length ≤ 1000000000) : Calls Tryz.prog 33 #[.string (bs p)] w fun e w' => e = .returned (.bool (!okP p)) ∧ Below w.heap.size w w' := by
  obtain ⟨r, hr⟩ : ∃ r, okP p = r := ⟨_, rfl⟩
  rw [hr]
  have HR : Hid (okP p = r) := hr
  clear hr
  go_enter Tryz.func33, Tryz.ntmps33
  go_wp2_with fail
  refine (valid_any p w (by omega)).mono ?_
  rintro e w1 ⟨rfl, hb⟩
  rw [HR.out]
  have HB : Hid (Below w.heap.size w w1) := by first | exact hb | exact hb.below
  clear hb
  cases r
  · go_wp2_with fail
    go_ret
    exact ⟨rfl, HB.out⟩
  · go_wp2_with fail
    go_ret
    exact ⟨rfl, HB.out⟩
set_option maxRecDepth 100000 in
set_option maxHeartbeats 1000000 in
theorem cvalid_any {w : World} {v : Value} {k : List (List UInt8)} (h : SS w v k) (sm : Sm k) : Calls Tryz.prog 17 #[v] w fun e w' => e = .returned (.int .i64 (coneE k)) ∧ Below w.heap.size w w' := by
  have H : Hid (SS w v k ∧ Sm k) := ⟨h, sm⟩
  have HN : Hid (Calls Tryz.prog 32 #[v, .func (.func 33) #[] #[]] w fun e w' => e = .returned (.bool (k.any fun p => !okP p)) ∧ Below w.heap.size w w') :=
    containsN_any (fun p => !okP p) h (by have := sm.len; omega) (fun x hx W _ => noPath_any x W (sm.each x hx))
  rw [coneE_eq]
  obtain ⟨ak, ck, rfl⟩ := h.len2
  obtain ⟨n, hn⟩ : ∃ n, k.length = n := ⟨_, rfl⟩
  rw [hn] at H HN ⊢
  clear h sm hn
  obtain ⟨r, hr⟩ : ∃ r, (k.any fun p => !okP p) = r := ⟨_, rfl⟩
  rw [hr] at HN ⊢
  clear hr
  cases r
  · obtain ⟨s, hs⟩ : ∃ s, decide (hds (norm k) = k) = s := ⟨_, rfl⟩
    rw [hs]
    have HS : Hid (decide (hds (norm k) = k) = s) := hs
    clear hs
    go_enter Tryz.func17, Tryz.ntmps17
    go_wp2_with fail
    refine HN.out.mono ?_
    rintro e w1 ⟨rfl, hb1⟩
    have HB1 : Hid (Below w.heap.size w w1) := hb1
    clear hb1
    go_wp2_with fail
    refine (heads_any (H.out.1.later HB1.out) H.out.2).mono ?_
    rintro e w2 ⟨v2, rfl, ho2, hb2⟩
    obtain ⟨a2, c2, e2⟩ := ho2.bs.len2
    obtain ⟨m, hm⟩ : ∃ m, (hds (norm k)).length = m := ⟨_, rfl⟩
    rw [hm] at e2
    subst e2
    have HO : Hid (SS w2 (.slice a2 m c2) (hds (norm k)) ∧ Below w.heap.size w w2 ∧ (hds (norm k)).length ≤ 9223372036854775807) := ⟨ho2.bs, bstep HB1.out hb2, by
      have h1 := H.out.2.norm.hds.len
      omega⟩
    clear ho2 hb2 hm
    go_wp2_with fail
    refine (equalS_any HO.out.1 (H.out.1.later HO.out.2.1) HO.out.2.2).mono ?_
    rintro e w3 ⟨rfl, q, rfl⟩
    rw [HS.out]
    have HB3 : Hid (Below w.heap.size w (w2.drewN q)) := ⟨HO.out.2.1.os, HO.out.2.1.tape, HO.out.2.1.output, HO.out.2.1.size, HO.out.2.1.block⟩
    cases s
    · go_wp2_with fail
      go_ret
      exact ⟨rfl, HB3.out⟩
    · go_wp2_with fail
      go_ret
      exact ⟨rfl, HB3.out⟩
  · go_enter Tryz.func17, Tryz.ntmps17
    go_wp2_with fail
    refine HN.out.mono ?_
    rintro e w1 ⟨rfl, hb1⟩
    have HB1 : Hid (Below w.heap.size w w1) := hb1
    clear hb1
    go_wp2_with fail
    go_ret
    exact ⟨rfl, HB1.out⟩
end Go.Proofs.YtkopjamednedfaaGreat
