/-
  Which directories are open; the cones near a directory.
  The directories of a snapshot's files, one by one.
-/
import Derived.Test.YtbaheiimcnfaaaaGreatSr
import Derived.RangeFuncNested
import Derived.RangeFuncBound
import Derived.RangeFuncCalls
import Derived.RangeFuncLeaves
import Derived.Shelf.RegionOpen
import Derived.OwnWalkIn
import Derived.TacticsInMore
import Derived.LoopNIn
import Derived.LoopIn
namespace Go.Proofs.YtbaheiimcnfaaaaGreat
open Go.RowKit

theorem dlen (l : List UInt8) : (dir l).length ≤ l.length := by
  unfold dir; split
  · simp
  · simp; omega
theorem SS.len2 {w : World} {v : Value} {L : List (List UInt8)} (h : SS w v L) : ∃ a c, v = .slice a L.length c := by
  obtain ⟨a, c, e, _⟩ := h.form
  exact ⟨a, c, e⟩
set_option maxHeartbeats 2000000 in
set_option maxRecDepth 100000 in
theorem openf_any {w : World} {pb : Nat} {vp : Value} {c : List UInt8} {D : List (List UInt8)} (hb : w.cell? ⟨pb, 0, none⟩ = some vp) (hpb : pb < w.heap.size) (hD : SS w vp D) (hc : c.length ≤ 1000000000) :
    Calls Tryz.prog 69 #[.string (bs c), .pointer (some ⟨pb, 0, none⟩)] w fun e w' => e = .returned (.bool (inL (pcs c) D)) ∧ Below w.heap.size w w' := by
  obtain ⟨a0, c0, rfl⟩ := hD.len2
  obtain ⟨n, hn⟩ : ∃ n, D.length = n := ⟨_, rfl⟩
  rw [hn] at hb hD
  have HD : Hid (SS w (.slice a0 n c0) D) := hD
  have HC : Hid (c.length ≤ 1000000000 ∧ (pcs c).length ≤ 4611686018427387904) := ⟨hc, by have := dep_le c; rw [dep_eq]; omega⟩
  obtain ⟨r, hr⟩ : ∃ r, inL (pcs c) D = r := ⟨_, rfl⟩
  rw [hr]
  have HR : Hid (inL (pcs c) D = r) := hr
  clear hD hc hn hr
  go_enter Tryz.func69, Tryz.ntmps69
  go_wp2_with fail
  go_region_held3 (fun w' => w'.cell? ⟨pb, 0, none⟩ = some (.slice a0 n c0)) (first | (with_reducible exact hb) | (with_reducible exact KS) | (with_reducible exact KS2) | go_keep)
    (first
     | (go_at_call 68; (with_reducible refine (split_any c _ HC.out.1).mono ?_); rintro e w1 ⟨v1, rfl, ho1, hb1⟩; obtain ⟨a1, c1, rfl⟩ := ho1.bs.len2; have hbb : Below w.heap.size w w1 := bstep (Below.refl _ _).drew hb1; have KS : w1.cell? ⟨pb, 0, none⟩ = some (.slice a0 n c0) := (hbb.cell (p := ⟨pb, 0, none⟩) hpb).trans hb)
     | (go_at_call 70; (with_reducible refine (inLine_any ho1.bs (HD.out.later hbb) HC.out.2).mono ?_); rintro e w2 ⟨rfl, hb2⟩; have KS2 : w2.cell? ⟨pb, 0, none⟩ = some (.slice a0 n c0) := (hb2.cell (p := ⟨pb, 0, none⟩) (Nat.lt_of_lt_of_le hpb hbb.size)).trans KS))
  have HB : Hid (Below w.heap.size w w2) := bstep hbb hb2
  clear hbb hb2 ho1 hb1
  go_wp2_with fail
  go_ret
  exact ⟨by rw [← HR.out]; rfl, HB.out⟩
/-- texts that may be taken apart -/
def Sh (k : List (List UInt8)) : Prop := ∀ c ∈ k, c.length ≤ 1000000000
set_option maxHeartbeats 2000000 in
set_option maxRecDepth 100000 in
theorem open_any {w : World} {v : Value} {k : List (List UInt8)} (d : List UInt8) (h : SS w v k) (sm : Sm k) (sh : Sh k) (hd : d.length ≤ 1000000000) :
    Calls Tryz.prog 36 #[v, .string (bs d)] w fun e w' => e = .returned (.bool (shD k d)) ∧ Below w.heap.size w w' := by
  have H : Hid (SS w v k ∧ Sm k ∧ Sh k) := ⟨h, sm, sh⟩
  clear h sm sh
  by_cases h0 : d = []
  · subst h0
    have e1 : shD k [] = true := by simp [shD]
    rw [e1]
    have e2 : (bs []).toList.isEmpty = true := by rw [bs_toList]; rfl
    go_enter Tryz.func36, Tryz.ntmps36
    go_wp2_with fail
    go_ret
    exact ⟨rfl, Below.refl _ _⟩
  · rw [shD_any k d h0]
    have e0 : (bs d).toList = d := bs_toList _
    have e1 : (d == []) = false := by simpa using h0
    have e2 : d.isEmpty = false := by cases d with
      | nil => exact absurd rfl h0
      | cons x r => rfl
    clear h0
    go_enter Tryz.func36, Tryz.ntmps36
    go_wp2_with fail
    refine (split_any d w hd).mono ?_
    rintro e w1 ⟨v1, rfl, ho1, hb1⟩
    obtain ⟨a1, c1, rfl⟩ := ho1.bs.len2
    obtain ⟨n, hn⟩ : ∃ n, (pcs d).length = n := ⟨_, rfl⟩
    rw [hn] at ho1 ⊢
    obtain ⟨w2, hw2⟩ : ∃ w2, w1.alloc (.cells #[.slice a1 n c1] 23) = w2 := ⟨_, rfl⟩
    have HB : Hid (Below w.heap.size w w1 ∧ w1.alloc (.cells #[.slice a1 n c1] 23) = w2) := ⟨hb1, hw2⟩
    have K : Hid (w2.cell? ⟨w1.heap.size, 0, none⟩ = some (.slice a1 n c1) ∧ SS w2 (.slice a1 n c1) (pcs d) ∧ Below w.heap.size w w2 ∧ w1.heap.size < w2.heap.size) := by
      have b1 : Below w1.heap.size w1 w2 := by rw [← hw2]; exact balloc _ _
      exact ⟨by rw [← hw2]; simp, ho1.bs.later b1, below_trans hb1 (below_mono b1 hb1.size), by rw [← hw2]; simp⟩
    clear ho1 hb1 hw2 hn
    go_wp2_with fail
    try rw [HB.out.2]
    refine (containsO_any (pb := w1.heap.size) (fun c => inL (pcs c) (pcs d)) (H.out.1.later K.out.2.2.1) (by have := H.out.2.1.len; omega) (fun x hx W hW => openf_any ((hW.cell (p := ⟨w1.heap.size, 0, none⟩) K.out.2.2.2).trans K.out.1) (Nat.lt_of_lt_of_le K.out.2.2.2 hW.size) (K.out.2.1.later hW) (H.out.2.2 x hx))).mono ?_
    rintro e w3 ⟨rfl, hb3⟩
    have HB3 : Hid (Below w.heap.size w w3) := bstep K.out.2.2.1 hb3
    clear hb3
    go_wp2_with fail
    go_ret
    exact ⟨rfl, HB3.out⟩
theorem SS.nothing (w : World) (a : Option Addr) (n c : Nat) (l : List (List UInt8)) (hn : n = 0) (hl : l = []) : SS w (.slice a n c) l := by
  subst hn
  exact .inl ⟨⟨_, _, rfl⟩, hl⟩
theorem SS.cutv {w : World} {ad : Option Addr} {n c : Nat} {k : List (List UInt8)} (h : SS w (.slice ad n c) k) (hn : k.length = n) (lo hi : Nat) (h1 : lo ≤ hi) (h2 : hi ≤ n) :
    SS w (.slice (ad.map fun x => x.add lo) (hi - lo) (c - lo)) ((k.drop lo).take (hi - lo)) := by
  have hlen : ((k.drop lo).take (hi - lo)).length = hi - lo := by rw [List.length_take, List.length_drop]; omega
  by_cases h0 : lo < hi
  · rcases h with ⟨⟨_, _, _⟩, e⟩ | ⟨b, off, cap, e, hc, hlt, hcell⟩
    · subst e; simp at hn; omega
    · injection e with e1 _ e3
      subst e1; subst e3
      refine .inr ⟨b, off + lo, c - lo, by rw [hlen]; simp [add_lit], by rw [hlen]; omega, hlt, fun i u hu => ?_⟩
      have hi' : i < hi - lo := by
        rcases Nat.lt_or_ge i (hi - lo) with h | h
        · exact h
        · rw [List.getElem?_eq_none (by rw [sc_length, hlen]; exact h)] at hu; cases hu
      have := hcell (lo + i) u (by
        rw [sc_get] at hu ⊢
        rw [← hu, List.getElem?_take_of_lt hi', List.getElem?_drop])
      rw [Nat.add_assoc]; exact this
  · exact SS.nothing _ _ _ _ _ (by omega) (by rw [show hi - lo = 0 by omega]; simp)
set_option maxHeartbeats 2000000 in
set_option maxRecDepth 100000 in
theorem near_any {w : World} {v : Value} {k : List (List UInt8)} (d : List UInt8) (h : SS w v k) (sm : Sm k) (up : Up k) (hd : d.length ≤ 1000000000) :
    Calls Tryz.prog 37 #[v, .string (bs d)] w fun e w' => ∃ (v' : Value) (a : Nat), e = .returned v' ∧ Stands k d a ∧ SS w' v' ((k.drop (a - 1)).take (min (a + 1) k.length - (a - 1))) ∧ Below w.heap.size w w' := by
  have H : Hid (SS w v k ∧ Sm k ∧ Up k) := ⟨h, sm, up⟩
  obtain ⟨ad, c, rfl⟩ := h.len2
  have hl := sm.len
  have hc : k.length ≤ c ∨ k.length = 0 := by
    rcases h with ⟨_, e⟩ | ⟨b, off, cap, e, h1, _⟩
    · exact .inr (by rw [e]; rfl)
    · injection e with _ _ e; subst e; exact .inl h1
  have hs : k.length = 0 ∨ ∃ b off, ad = some ⟨b, off, none⟩ := by
    rcases h with ⟨_, e⟩ | ⟨b, off, cap, e, h1, _⟩
    · exact .inl (by rw [e]; rfl)
    · injection e with e _ _; exact .inr ⟨b, off, e⟩
  clear h sm up
  go_enter Tryz.func37, Tryz.ntmps37
  go_wp2_with fail
  refine (search_any d H.out.1 H.out.2.2 H.out.2.1 hd).mono ?_
  rintro e w1 ⟨a, fb, rfl, hst, hb1⟩
  have HB : Hid (Stands k d a ∧ Below w.heap.size w w1) := ⟨hst, hb1⟩
  have hal := hst.1
  clear hst hb1
  have HK : Hid (SS w1 (.slice ad k.length c) k) := H.out.1.later HB.out.2
  obtain ⟨n, hn⟩ : ∃ n, k.length = n := ⟨_, rfl⟩
  obtain ⟨lo, hlo⟩ : ∃ lo, a - 1 = lo := ⟨_, rfl⟩
  obtain ⟨hi, hhi⟩ : ∃ hi, min (a + 1) k.length = hi := ⟨_, rfl⟩
  have k0 : IntKind.i64.wrap ((a : Int) - 1) = (a : Int) - 1 := by rw [IntKind.wrap_i64]; omega
  have k1 : max ((a : Int) - 1) 0 = (lo : Int) := by omega
  have k2 : min ((a : Int) + 1) (n : Int) = (hi : Int) := by omega
  have k3 : lo ≤ hi := by omega
  have k4 : hi ≤ n := by omega
  have HE : Hid (k.length = n ∧ a - 1 = lo ∧ min (a + 1) k.length = hi ∧ lo ≤ hi ∧ hi ≤ k.length) := ⟨hn, hlo, hhi, k3, by omega⟩
  rw [hn] at hal hc hs hl
  have HK' : Hid (SS w1 (.slice ad n c) k) := by rw [← hn]; exact HK.out
  rw [hn]
  clear HK hn hlo hhi
  go_wp2_with fail
  · go_ret
    refine ⟨_, rfl, a, HB.out.1, ?_, HB.out.2⟩
    rw [HE.out.2.1, HE.out.2.2.1]
    exact SS.nothing _ _ _ _ _ (by omega) (by rw [show hi - lo = 0 by omega]; simp)
  · go_ret
    refine ⟨_, rfl, a, HB.out.1, ?_, HB.out.2⟩
    rw [HE.out.2.1, HE.out.2.2.1]
    exact HK'.out.cutv HE.out.1 lo hi k3 k4
end Go.Proofs.YtbaheiimcnfaaaaGreat

namespace Go.Proofs.YtbaheiimcnfaaaaGreat
open Go.RowKit
attribute [local go_sem] Oper.semAt_some

/-- what a round keeps: what lay below n₀, and the box of the files -/
structure Kq (n₀ Bl : Nat) (W W' : World) : Prop where
  below : Below n₀ W W'
  box : ∀ o : Obj, o.isCells = true → W.heap[Bl]? = some o → W'.heap[Bl]? = some o
theorem Kq.refl (n₀ Bl : Nat) (W : World) : Kq n₀ Bl W W := ⟨Below.refl _ _, fun _ _ h => h⟩
theorem Kq.trans {n₀ Bl : Nat} {A B C : World} (h : Kq n₀ Bl A B) (k : Kq n₀ Bl B C) : Kq n₀ Bl A C := ⟨h.below.trans k.below, fun o ho e => k.box o ho (h.box o ho e)⟩
/-- a run's files as a slice of them all -/
def Run.v {l : List Fl} (ad : Option Addr) (c : Nat) (r : Run l) : Value := .slice (ad.map fun x => x.add (r.lo * 4)) (r.hi - r.lo) (c - r.lo)
set_option maxRecDepth 100000 in
set_option maxHeartbeats 1000000 in
theorem dirs1_any (ad : Option Addr) (n c : Nat) (w : World) : Calls Tryz.prog 35 #[.slice ad n c] w fun e w' => e = .returned (.func (.func 67) #[] #[.pointer (some ⟨w.heap.size, 0, none⟩)]) ∧ w' = w.alloc (.cells #[.slice ad n c] 22) := by
  go_enter Tryz.func35, Tryz.ntmps35
  go_wp2_with fail
  go_ret
  exact ⟨rfl, rfl⟩
set_option maxRecDepth 100000 in
set_option maxHeartbeats 4000000 in
theorem dirs_stops {w : World} {l : List Fl} {ad : Option Addr} {n c n₀ Bl : Nat} (hn : l.length = n) (hc : n ≤ c) (hsz : n ≤ 1000000) (hp : ∀ f ∈ l, f.path.length ≤ 1000000000) (hbox : w.heap[Bl]? = some (.cells #[.slice ad n c] 22))
    (hA : ∀ k (hk : k < l.length), ∃ b off, ad = some ⟨b, off, none⟩ ∧ b < n₀ ∧ w.cell? ⟨b, off + k * 4, none⟩ = some (.string (bs l[k].path))) (hn0 : n₀ ≤ w.heap.size) (m : Nat) (hm : 2 ≤ m) :
    SeqStopsK Fence.wide m Tryz.prog 67 #[.pointer (some ⟨Bl, 0, none⟩)] (fun r : Run l => #[.string (bs r.d), r.v ad c]) (Kq n₀ Bl) (fun rs => Til rs 0 l.length) (fun _ => True) n w := by
  intro lp J Jx W hW hJ hJx hY h0
  have HA : Hid (∀ W', Kq n₀ Bl W W' → W'.cell? ⟨Bl, 0, none⟩ = some (.slice ad n c) ∧ ∀ k (hk : k < l.length), ∃ b off, ad = some ⟨b, off, none⟩ ∧ W'.cell? ⟨b, off + k * 4, none⟩ = some (.string (bs l[k].path))) := by
    intro W' hK
    have hBl := (Array.getElem?_eq_some_iff.1 hbox).1
    refine ⟨?_, fun k hk => ?_⟩
    · have h1 : W.heap[Bl]? = some (.cells #[.slice ad n c] 22) := (hW.block Bl hBl).trans hbox
      have h2 := hK.box _ rfl h1
      simp [World.cell?, h2]
    · obtain ⟨b, off, ea, hb, hcell⟩ := hA k hk
      refine ⟨b, off, ea, ?_⟩
      rw [hK.below.cell (p := ⟨b, off + k * 4, none⟩) hb, hW.cell (p := ⟨b, off + k * 4, none⟩) (by simp; omega)]
      exact hcell
  have HP : Hid (∀ f ∈ l, f.path.length ≤ 1000000000) := hp
  have HY : Hid (∀ pre x W1, J pre W1 → pre.length < n → YieldAt Fence.wide (m - 1) Tryz.prog lp #[.string (bs x.d), x.v ad c] W1 fun e W' =>
      (e = .returned (.bool true) ∧ J (pre ++ [x]) W' ∧ Kq n₀ Bl W1 W') ∨ (e = .returned (.bool false) ∧ Jx (pre ++ [x]) W')) := hY
  have H0 : Hid (J [] W) := h0
  clear hA hbox hp hY h0 hJ hJx hW hn0
  change CallsIn Fence.wide m Tryz.prog 67 #[.func (.yield lp) #[] #[], .pointer (some ⟨Bl, 0, none⟩)] W _
  refine callsIn_of_wp Tryz.func67 rfl trivial ?_ rfl
  simp only [Tryz.ntmps67, List.size_toArray, List.length_cons, List.length_nil, Nat.reduceAdd, Nat.reduceSub, Array.replicate_succ, Array.replicate_zero, List.push_toArray, List.append_toArray, List.nil_append, List.cons_append]
  gi_wp2_with fail
  gi_loopw [3] (fun p wr => ∃ (pre : List (Run l)) (i : Nat), p = .int .i64 i ∧ i ≤ n ∧ Til pre 0 i ∧ J pre wr ∧ Kq n₀ Bl W wr) (fun p _ => n - (intOf p).toNat)
  case atStart => exact ⟨[], 0, rfl, Nat.zero_le _, rfl, H0.out, Kq.refl _ _ _⟩
  case round =>
    obtain ⟨pre, i, rfl, hin, htil, hJs, hKs⟩ := hrel
    have HJ : Hid (J pre wr) := hJs
    have HT : Hid (Til pre 0 i) := htil
    have HK : Hid (Kq n₀ Bl W wr) := hKs
    clear htil hJs hKs
    have hbx := (HA.out wr HK.out).1
    have HC : Hid (∀ k (hk : k < l.length), ∃ b off, ad = some ⟨b, off, none⟩ ∧ wr.cell? ⟨b, off + k * 4, none⟩ = some (.string (bs l[k].path))) := (HA.out wr HK.out).2
    by_cases hlt : i < n
    · have hil : i < l.length := by omega
      have i0 : (0 : Int) ≤ (i : Int) := by omega
      have i1 : (i : Int) < (n : Int) := by omega
      obtain ⟨b, off, rfl, hci⟩ := HC.out i hil
      obtain ⟨d, hd⟩ : ∃ d, dir l[i].path = d := ⟨_, rfl⟩
      have HD : Hid (dir l[i].path = d) := hd
      have hdi := fun W => dir_any l[i].path W (by have := HP.out _ (List.getElem_mem hil); omega)
      rw [hd] at hdi
      have HDI : Hid (∀ W, Calls Tryz.prog 60 #[.string (bs l[i].path)] W fun e w' => e = .returned (.string (bs d)) ∧ w' = W) := hdi
      clear hd hdi
      gi_wp2_with fail
      refine ⟨trivial, fun _ => by omega, (callsIn_wide.2 (HDI.out _)).mono ?_⟩
      rintro e w1 ⟨rfl, ew1⟩
      subst ew1
      gi_wp2_with fail
      gi_loopw [5] (fun q wr => ∃ j : Nat, q = .int .i64 j ∧ i < j ∧ j ≤ n ∧ (∀ t (h : t < l.length), i ≤ t → t < j → dir l[t].path = dir l[i].path) ∧ wr = w1) (fun q _ => n - (intOf q).toNat)
      case atStart => exact ⟨i + 1, by go_num, by omega, by omega, fun t h h1 h2 => (by have e : t = i := (by omega); subst e; rfl), rfl⟩
      case round =>
        obtain ⟨j, rfl, hij, hjn, hall, ewr⟩ := hrel
        subst ewr
        have HALL : Hid (∀ t (h : t < l.length), i ≤ t → t < j → dir l[t].path = dir l[i].path) := hall
        clear hall
        by_cases hjl : j < n
        · have hjll : j < l.length := by omega
          have j0 : (0 : Int) ≤ (j : Int) := by omega
          have j1 : (j : Int) < (n : Int) := by omega
          obtain ⟨b', off', eb, hcj⟩ := HC.out j hjll
          injection eb with eb
          injection eb with eb1 eb2 _
          subst eb1; subst eb2
          obtain ⟨dj, hdj⟩ : ∃ dj, dir l[j].path = dj := ⟨_, rfl⟩
          have HDJe : Hid (dir l[j].path = dj) := hdj
          have hdi := fun W => dir_any l[j].path W (by have := HP.out _ (List.getElem_mem hjll); omega)
          rw [hdj] at hdi
          have HDJ : Hid (∀ W, Calls Tryz.prog 60 #[.string (bs l[j].path)] W fun e w' => e = .returned (.string (bs dj)) ∧ w' = W) := hdi
          clear hdj hdi
          have t1 : (bs dj).toList = dj := bs_toList _
          have t2 : (bs d).toList = d := bs_toList _
          gi_wp2_with fail
          refine ⟨trivial, fun _ => by omega, (callsIn_wide.2 (HDJ.out _)).mono ?_⟩
          rintro e w2 ⟨rfl, ew2⟩
          subst ew2
          by_cases hdd : dj = d
          · subst hdd
            gi_wp2_with fail
            go_roundw
            case rel =>
              refine ⟨j + 1, by go_num, by omega, by omega, fun t h h1 h2 => ?_, trivial⟩
              by_cases htj : t = j
              · subst htj; rw [HDJe.out, HD.out]
              · exact HALL.out t h h1 (by omega)
            case measure => simp [intOf]; omega
          · have t3 : (dj == d) = false := by simpa using hdd
            clear hdd
            have hrl : i < j := hij
            obtain ⟨r, hr⟩ : ∃ r : Run l, r = ⟨i, j, hij, by omega, fun t h h1 h2 => HALL.out t h h1 h2⟩ := ⟨_, rfl⟩
            have hrd : r.d = d := by rw [hr]; exact HD.out
            have hrv : r.v (some ⟨b, off, none⟩) c = .slice (some ⟨b, off + i * 4, none⟩) (j - i) (c - i) := by rw [hr]; simp [Run.v, add_lit]
            obtain ⟨fn, tmps, assign, body, hy, hR⟩ := HY.out pre r _ HJ.out (by have := HT.out.le; omega)
            simp only [hrd, hrv] at hy
            have HRUN : Hid (Til (pre ++ [r]) 0 j) := by have := HT.out.snoc r (by rw [hr]); rw [hr] at this ⊢; exact this
            clear hr hrd hrv
            have hcl : ¬ c = i := by omega
            have hji : j ≤ c := by omega
            gi_wp2_with fail
            refine ⟨fun _ => by omega, hR.mono ?_⟩
            rintro e W3 (⟨rfl, hJ3, hk3⟩ | ⟨rfl, hJ3⟩)
            · gi_wp2_with fail
              go_roundw
              case rel => exact ⟨_, j, rfl, by omega, HRUN.out, hJ3, HK.out.trans hk3⟩
              case measure => simp [intOf]; omega
            · gi_wp2_with fail
              refine bodyPost_ret (results_none rfl _ _ _) rfl ?_
              exact ⟨⟨_, rfl⟩, .inr ⟨_, trivial, hJ3⟩⟩
        · have hjn2 : ¬ (j : Int) < (n : Int) := by omega
          gi_wp2_with fail
          refine ⟨trivial, ?_⟩
          have hrl : i < j := hij
          obtain ⟨r, hr⟩ : ∃ r : Run l, r = ⟨i, j, hij, by omega, fun t h h1 h2 => HALL.out t h h1 h2⟩ := ⟨_, rfl⟩
          have hrd : r.d = d := by rw [hr]; exact HD.out
          have hrv : r.v (some ⟨b, off, none⟩) c = .slice (some ⟨b, off + i * 4, none⟩) (j - i) (c - i) := by rw [hr]; simp [Run.v, add_lit]
          obtain ⟨fn, tmps, assign, body, hy, hR⟩ := HY.out pre r _ HJ.out (by have := HT.out.le; omega)
          simp only [hrd, hrv] at hy
          have HRUN : Hid (Til (pre ++ [r]) 0 j) := by have := HT.out.snoc r (by rw [hr]); rw [hr] at this ⊢; exact this
          clear hr hrd hrv
          have hcl : ¬ c = i := by omega
          have hji : j ≤ c := by omega
          gi_wp2_with fail
          refine ⟨fun _ => by omega, hR.mono ?_⟩
          rintro e W3 (⟨rfl, hJ3, hk3⟩ | ⟨rfl, hJ3⟩)
          · gi_wp2_with fail
            go_roundw
            case rel => exact ⟨_, j, rfl, by omega, HRUN.out, hJ3, HK.out.trans hk3⟩
            case measure => simp [intOf]; omega
          · gi_wp2_with fail
            refine bodyPost_ret (results_none rfl _ _ _) rfl ?_
            exact ⟨⟨_, rfl⟩, .inr ⟨_, trivial, hJ3⟩⟩
    · obtain rfl : i = n := by omega
      gi_wp2_with fail
      go_end0
      exact ⟨⟨_, rfl⟩, .inl ⟨pre, by rw [hn]; exact HT.out, HJ.out⟩⟩
end Go.Proofs.YtbaheiimcnfaaaaGreat
