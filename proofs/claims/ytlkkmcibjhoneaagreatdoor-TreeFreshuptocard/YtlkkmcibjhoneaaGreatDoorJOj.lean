/-
  The landed tree: Files.
  The document's tree: Crash.
  The landed tree: what Crash calls.
  The landed tree: two rows of bytes joined.
-/
import Derived.Test.YtlkkmcibjhoneaaGreatDoorJOg
import Derived.Test.YtlkkmcibjhoneaaGreatDoorJOb
import Derived.Test.YtlkkmcibjhoneaaGreatDoorJSEq
import Derived.Test.YtlkkmcibjhoneaaGreatDoorJKn2
import Derived.Test.YtlkkmcibjhoneaaGreatDoorJFil
import Derived.Deep.DeepCutAuto
import Derived.Test.YtlkkmcibjhoneaaGreatDoorJFq
import Derived.Deep.RegionHeld3
import Derived.BigQuiet
import Derived.Test.YtlkkmcibjhoneaaGreatDoorFiles
import Derived.OrdersHeld
import Derived.Deep.Cut
import Derived.Test.YtlkkmcibjhoneaaGreatDoorTp
import Derived.Shelf.SlMaps.Clone
import Derived.Lib.AppendZeros
namespace Go.Proofs.YtlkkmcibjhoneaaGreatDoor
open Go.RowKit Go.Maps

/-- the files given out are the files -/
theorem gv_perm {fs : List Fl} (hp : fs.Pairwise (fun a b => cf a.path b.path < 0)) (hl : ∀ f ∈ fs, Lk f.path) {ss : List Fl} (h : GvS (fF fs) ss) : ss.Perm fs := by
  obtain ⟨ks, h1, h2, rfl⟩ := h
  have hn : (fs.map Fl.path).Nodup := List.pairwise_map.2 (hp.imp (fun {a b} h e => by rw [e, cf_self] at h; omega))
  have hk : ks.Perm (fs.map Fl.path) := (List.perm_ext_iff_of_nodup h1 hn).2 fun a => by
    rw [h2 a, fF_has, hasF_iff, List.mem_map]
    exact ⟨fun h => h.2, fun h => ⟨by obtain ⟨f, hf, rfl⟩ := h; exact hl f hf, h⟩⟩
  have he : (fs.map Fl.path).map (gvF (fF fs)) = fs := by
    rw [List.map_map]
    refine (List.map_congr_left (fun f hf => ?_)).trans (List.map_id fs)
    show (fF fs f.path).getD _ = f
    cases e : fF fs f.path with
    | none =>
      have := fF_has fs f.path
      rw [e, hasF_iff.2 ⟨f, hf, rfl⟩] at this
      cases this
    | some f' =>
      unfold fF at e
      have h3 := List.find?_some e
      have h4 := List.mem_of_find?_eq_some e
      exact pair_uniq hp h4 hf (by simpa using h3)
  have := hk.map (gvF (fF fs))
  rw [he] at this
  exact this
set_option maxHeartbeats 2000000 in
theorem sortedF_any {b cnt : Nat} {fs : List Fl} {w : World} (h : MP cF w b (fF fs) cnt) (Bm : Nat) (hBm : Bm < w.heap.size) (hm : w.cell? ⟨Bm, 0, none⟩ = some (.map (some b))) (hns : fs.Pairwise (fun a b => cf a.path b.path < 0)) (hlu : ∀ f ∈ fs, f.path.length ≤ 1000000000) (hN : cnt ≤ 100000000) (hl : fs.length ≤ 100000000) :
    Calls Tryz.prog 45 #[.func (.func 78) #[] #[.pointer (some ⟨Bm, 0, none⟩)], .func (.func 47) #[] #[]] w fun e w' => ∃ (v : Value), e = .returned v ∧ OwnF w.heap.size w' v fs ∧ Below w.heap.size w w' := by
  have HC := hid_b (collectF_any h Bm hBm hm hN)
  have HX : Hid (fs.Pairwise (fun a b => cf a.path b.path < 0) ∧ (∀ f ∈ fs, f.path.length ≤ 1000000000) ∧ fs.length ≤ 100000000) := ⟨hns, hlu, hl⟩
  clear h hBm hm hns hlu hN hl
  go_enter Tryz.func45, Tryz.ntmps45
  go_wp2_with fail
  refine HC.out.mono ?_
  rintro e w1 ⟨v, ss, rfl, hg, hrow, hb⟩
  have hp : ss.Perm fs := gv_perm HX.out.1 (fun f hf => by have := HX.out.2.1 f hf; unfold Lk; omega) hg
  have HS := hid_b (sortF_any hrow (by rw [hp.length_eq]; exact HX.out.2.2) (fun x hx => HX.out.2.1 x (hp.mem_iff.1 hx)) hp HX.out.1 hb.size)
  have HE : Hid (Below w.heap.size w w1) := hb
  clear hg hrow hb hp HC
  go_wp2_with fail
  refine HS.out.mono ?_
  rintro e w2 ⟨rfl, hr2, hb2⟩
  go_wp2_with fail
  go_ret
  exact ⟨v, rfl, hr2, below_trans HE.out hb2⟩
set_option maxRecDepth 100000 in
set_option maxHeartbeats 2000000 in
theorem lfiles_any {w : World} {F : Nat → Prop} {c : Nat} {T : TT} (h : LT w F c T) (hz : TSz 4000000 T) : Calls Tryz.prog 15 #[.pointer (some ⟨c, 0, none⟩)] w fun e w' => ∃ v, e = .returned v ∧ OwnF w.heap.size w' v T.fs ∧ Below w.heap.size w w' := by
  obtain ⟨mf, md, vj, vt, lf, h, hF, hl⟩ := h
  obtain ⟨c0, c1, -⟩ := h.cells
  have hnf := hz.nf
  have HS := hid_b (sortedF_any (h.fl.later (balloc w (.cells #[.map (some mf)] 70))) w.heap.size (by simp) (by simp) h.ok.fu (fun f hf => by
    have := (okP_len (fileE_path (h.ok.fe f hf)).2).1; omega) (by omega) (by omega))
  have HK := hid_b (mvals_any mf w)
  clear h hF hl hz c1 hnf
  go_enter Tryz.func15, Tryz.ntmps15
  go_wp2_with fail
  refine HK.out.mono ?_
  rintro e w1 ⟨rfl, rfl⟩
  go_wp2_with fail
  refine HS.out.mono ?_
  rintro e w2 ⟨v, rfl, hr, hb⟩
  go_wp2_with fail
  go_ret
  exact ⟨v, rfl, hr.mono (by simp), bstep (balloc _ _) hb⟩
end Go.Proofs.YtlkkmcibjhoneaaGreatDoor

namespace Go.Proofs.YtlkkmcibjhoneaaGreatDoor
open Go.RowKit
attribute [local go_sem] Oper.semAt_some

theorem BS.take {w : World} {a : Option Addr} {n c : Nat} {l : List UInt8} (h : BS w (.slice a n c) l) (k : Nat) (hk : k ≤ l.length) : BS w (.slice a k c) (l.take k) := by
  rcases h with ⟨⟨a', c', e⟩, rfl⟩ | ⟨b, off, cap, e, hc, hlt, hcell⟩
  · have : k = 0 := by simpa using hk
    subst this
    exact .inl ⟨⟨_, _, rfl⟩, rfl⟩
  · injection e with e1 e2 e3
    subst e1
    subst e3
    have hl : (l.take k).length = k := by rw [List.length_take]; omega
    refine .inr ⟨b, off, c, by rw [hl], by omega, hlt, fun i u hu => hcell i u ?_⟩
    rw [bc_get] at hu ⊢
    have hi : i < k := by
      by_cases hik : i < k
      · exact hik
      · rw [List.getElem?_eq_none (by rw [hl]; omega)] at hu
        cases hu
    rw [List.getElem?_take_of_lt hi] at hu
    exact hu
end Go.Proofs.YtlkkmcibjhoneaaGreatDoor

namespace Go.Proofs.YtlkkmcibjhoneaaGreatDoor
open Go.RowKit Go.Maps

set_option maxHeartbeats 1000000 in
theorem rest_any (n : Int) (L R : Nat) (hL : L ≤ 4000000) (hR : rst n L = R) (w : World) :
    Calls Tryz.prog 41 #[.int .i64 n, .int .i64 ((L : Int) + 1)] w fun e w' => e = .returned (.int .i64 (R : Int)) ∧ w' = w := by
  have hrt := rst_tmod n L
  rw [hR] at hrt
  obtain ⟨m, hm⟩ : ∃ m : Int, (L : Int) + 1 = m := ⟨_, rfl⟩
  have hm0 : ¬ m = 0 := by omega
  obtain ⟨r, hr⟩ : ∃ r, n.tmod m = r := ⟨_, rfl⟩
  rw [hm, hr] at hrt
  have hb1 : r < m := by rw [← hr]; exact Int.tmod_lt_of_pos n (by omega)
  have hb2 : -m < r := by
    have := Int.tmod_lt_of_pos (-n) (show 0 < m by omega)
    rw [Int.neg_tmod, hr] at this
    omega
  rw [hm]
  have hRm : (R : Int) ≤ 4000000 := by have := rst_le n L; omega
  go_enter Tryz.func41, Tryz.ntmps41
  by_cases hlt : r < 0
  · rw [if_pos hlt] at hrt
    go_wp2_with fail
    go_ret
    refine ⟨?_, rfl⟩
    first | rfl | (simp only [hrt]; done) | (simp [hrt]; done)
  · rw [if_neg hlt] at hrt
    go_wp2_with fail
    go_ret
    refine ⟨?_, rfl⟩
    first | rfl | (simp only [hrt]; done) | (simp [hrt]; done)
theorem und3i : Tryz.prog.underlying 3 = some (.int .i64) := by kernel_rfl
set_option maxHeartbeats 1000000 in
theorem grow_any (n : Nat) (hn : n ≤ 100000000) (w : World) : Calls Tryz.prog 75 #[.slice none 0 0, .int .i64 n] w fun e w' => ∃ v, e = .returned v ∧ OwnB w.heap.size w' v [] ∧ Below w.heap.size w w' := by
  by_cases h0 : n = 0
  · subst h0
    go_enter Tryz.func75, Tryz.ntmps75
    go_wp2_with fail
    go_ret
    exact ⟨_, rfl, OwnB.nil _ _, Below.refl _ _⟩
  · obtain ⟨i0, hi, hz0, hz1, hz2⟩ := info_parts info5
    have hr := fun ty => Lib.run_append_nil_zeros (P := Tryz.prog) w 32 3 ty 5 i0 (.int .u8 0) .i64 .i64 und32 und3i hi hz0 n (by omega) (by omega) (by omega) (by rw [hz2]; omega)
    have HR := hid_b hr
    have hge := grownCap_ge w n 0 5
    have hcm : grownCap w n 0 5 ≤ maxLen := grownCap_le_maxLen w n 0 5 (by unfold maxLen; omega)
    obtain ⟨cp, hcp⟩ : ∃ cp, grownCap w n 0 5 = cp := ⟨_, rfl⟩
    have HO : Hid (∀ W, W = w.drew.alloc (.cells (Builtin.zeroCells (Value.int .u8 0).cells n ++ Builtin.zeroCells (Value.int .u8 0).cells (cp - n)) 5) → OwnB w.heap.size W (.slice (some ⟨w.heap.size, 0, none⟩) 0 cp) [] ∧ Below w.heap.size w W) := by
      rintro W rfl
      refine ⟨⟨rfl, .inr ⟨w.heap.size, cp, _, rfl, Nat.le_refl _, heap_alloc_new w.drew _, Nat.zero_le _, by rw [← hcp]; exact hcm, ?_, rfl⟩⟩, below_drew_alloc w _⟩
      rw [Array.size_append, size_zeroCells, size_zeroCells]
      have : (Value.int .u8 0).cells.size = 1 := rfl
      rw [this]
      omega
    rw [hcp] at HR hge
    have hn0 : ¬ (n : Int) < 0 := by omega
    have hn1 : (0 : Int) < (n : Int) := by omega
    clear hr hi hz0 hz1 hz2 hcm hcp
    go_enter Tryz.func75, Tryz.ntmps75
    go_wp2_with (at_builtin; refine Lib.wpList_append_run _ rfl _ _ _ _ rfl _ _ rfl rfl _ _ (HR.out _) ?_)
    go_ret
    obtain ⟨h1, h2⟩ := HO.out _ rfl
    exact ⟨_, rfl, h1, h2⟩
set_option maxRecDepth 100000 in
set_option maxHeartbeats 2000000 in
theorem mclone42 {w : World} {b : Nat} {es : Array MapEntry} {clock : Nat} (hb : w.heap[b]? = some (.map es clock)) :
    Calls Tryz.prog 42 #[.map (some b)] w fun e w' => e = .returned (.map (some w.heap.size)) ∧ w' = w.alloc (.map es clock) := by
  have hq := fun w => run_eql_map_nil_sl (P := Tryz.prog) w 70 _ _ (some b) cF.und
  go_enter Tryz.func42, Tryz.ntmps42
  go_wp2
  rw [run_callFunc_extern Tryz.func74 (by kernel_rfl) (by kernel_rfl) (by kernel_rfl) (e := Extern.MapsClone.clone) (by kernel_rfl), run_maps_clone_sl w 70 hb]
  simp only [Result.andThen]
  rw [Oper.upon_value]
  go_wp2
  rw [run_typeAssert_map_sl _ 70 20 _ _ _ cF.und]
  simp only [Result.andThen]
  rw [Oper.upon_value]
  go_wp2
  go_ret
  exact ⟨rfl, rfl⟩
set_option maxRecDepth 100000 in
set_option maxHeartbeats 2000000 in
theorem mclone43 {w : World} {b : Nat} {es : Array MapEntry} {clock : Nat} (hb : w.heap[b]? = some (.map es clock)) :
    Calls Tryz.prog 43 #[.map (some b)] w fun e w' => e = .returned (.map (some w.heap.size)) ∧ w' = w.alloc (.map es clock) := by
  have hq := fun w => run_eql_map_nil_sl (P := Tryz.prog) w 71 _ _ (some b) cI.und
  go_enter Tryz.func43, Tryz.ntmps43
  go_wp2
  rw [run_callFunc_extern Tryz.func74 (by kernel_rfl) (by kernel_rfl) (by kernel_rfl) (e := Extern.MapsClone.clone) (by kernel_rfl), run_maps_clone_sl w 71 hb]
  simp only [Result.andThen]
  rw [Oper.upon_value]
  go_wp2
  rw [run_typeAssert_map_sl _ 71 20 _ _ _ cI.und]
  simp only [Result.andThen]
  rw [Oper.upon_value]
  go_wp2
  go_ret
  exact ⟨rfl, rfl⟩
end Go.Proofs.YtlkkmcibjhoneaaGreatDoor

namespace Go.Proofs.YtlkkmcibjhoneaaGreatDoor
open Go.RowKit Go.Maps

set_option maxRecDepth 100000 in
set_option maxHeartbeats 4000000 in
theorem concat_any {w : World} {g : Nat} {va vb : Value} {A B : List UInt8} (hg : g < w.heap.size) (c0 : w.cell? ⟨g, 0, none⟩ = some va) (c1 : w.cell? ⟨g, 1, none⟩ = some vb) (ha : BS w va A) (hb : BS w vb B) (hA : A.length ≤ 8000000) (hB : B.length ≤ 8000000) :
    Calls Tryz.prog 44 #[.slice (some ⟨g, 0, none⟩) 2 2] w fun e w' => ∃ v, e = .returned v ∧ OwnB w.heap.size w' v (A ++ B) ∧ Below w.heap.size w w' := by
  obtain ⟨aa, ac, hva⟩ : ∃ a c, va = .slice a A.length c := by
    rcases ha with ⟨⟨a, c, rfl⟩, rfl⟩ | ⟨g, off, c, rfl, _⟩
    · exact ⟨a, c, rfl⟩
    · exact ⟨_, c, rfl⟩
  obtain ⟨ba, bc_, hvb⟩ : ∃ a c, vb = .slice a B.length c := by
    rcases hb with ⟨⟨a, c, rfl⟩, rfl⟩ | ⟨g, off, c, rfl, _⟩
    · exact ⟨a, c, rfl⟩
    · exact ⟨_, c, rfl⟩
  obtain ⟨na, hna⟩ : ∃ n, A.length = n := ⟨_, rfl⟩
  obtain ⟨nb, hnb⟩ : ∃ n, B.length = n := ⟨_, rfl⟩
  have HS : Hid (BS w va A ∧ BS w vb B ∧ A.length = na ∧ B.length = nb) := ⟨ha, hb, hna, hnb⟩
  have hA' : na ≤ 8000000 := by omega
  have hB' : nb ≤ 8000000 := by omega
  rw [hna] at hva
  rw [hnb] at hvb
  subst hva
  subst hvb
  have HC : Hid (w.cell? ⟨g, 0, none⟩ = some (.slice aa na ac) ∧ w.cell? ⟨g, 1, none⟩ = some (.slice ba nb bc_)) := ⟨c0, c1⟩
  clear ha hb hA hB hna hnb
  have HG : Hid (Calls Tryz.prog 75 #[.slice none 0 0, .int .i64 ((na : Int) + (nb : Int))] w fun e w' => ∃ v, e = .returned v ∧ OwnB w.heap.size w' v [] ∧ Below w.heap.size w w') := by
    have := grow_any (na + nb) (by omega) w
    rw [Int.natCast_add] at this
    exact this
  go_enter Tryz.func44, Tryz.ntmps44
  go_wp2_with fail
  go_loop [3, 11] (fun s i => ∃ k : Nat, k ≤ 2 ∧ i = .int .i64 k ∧ s = .int .i64 (if k = 0 then 0 else if k = 1 then (na : Int) else (na : Int) + (nb : Int))) (fun _ i => 2 - (intOf i).toNat)
  case atStart => exact ⟨0, by omega, rfl, rfl⟩
  case round =>
    obtain ⟨k, hk, rfl, rfl⟩ := hrel
    rcases (show k = 0 ∨ k = 1 ∨ k = 2 by omega) with rfl | rfl | rfl
    · go_wp2_with fail
      go_round
      case rel => exact ⟨1, by omega, rfl, by go_num⟩
      case measure => simp [intOf]
    · go_wp2_with fail
      go_round
      case rel => exact ⟨2, by omega, rfl, by go_num⟩
      case measure => simp [intOf]
    · go_wp2_with fail
      refine HG.out.mono ?_
      rintro e w1 ⟨v, rfl, ho, hb1⟩
      have HI : Hid (OwnB w.heap.size w1 v [] ∧ Below w.heap.size w w1) := ⟨ho, hb1⟩
      clear ho hb1
      go_wp2_with fail
      go_loopw [6, 27] (fun u i wr => ∃ k : Nat, k ≤ 2 ∧ i = .int .i64 k ∧ OwnB w.heap.size wr u (if k = 0 then [] else if k = 1 then A else A ++ B) ∧ Below w.heap.size w wr) (fun _ i _ => 2 - (intOf i).toNat)
      case atStart => exact ⟨0, by omega, rfl, HI.out.1, HI.out.2⟩
      case round =>
        obtain ⟨k, hk, rfl, ho, hbw⟩ := hrel
        have x0 : wr.cell? ⟨g, 0, none⟩ = some (.slice aa na ac) := (hbw.cell (p := ⟨g, 0, none⟩) hg).trans HC.out.1
        have x1 : wr.cell? ⟨g, 1, none⟩ = some (.slice ba nb bc_) := (hbw.cell (p := ⟨g, 1, none⟩) hg).trans HC.out.2
        have hsz := hbw.size
        rcases (show k = 0 ∨ k = 1 ∨ k = 2 by omega) with rfl | rfl | rfl
        · have HO : Hid (OwnB w.heap.size wr u6 [] ∧ Below w.heap.size w wr) := ⟨ho, hbw⟩
          clear ho hbw
          go_wp2_with (at_builtin; refine app_bytes (base := w.heap.size) (l := []) (k := A) HO.out.1 ((HS.out.1.later HO.out.2).src und32) (by have := HS.out.2.2.1; simp; omega) hsz rfl (.tmp 31) (.tmp 32) rfl rfl rfl ?_; intro v' w' h1 h2 h3)
          have HN : Hid (OwnB w.heap.size w' v' A ∧ Below w.heap.size w w') := ⟨h1, HO.out.2.grown h2 hsz (fun j e => (HO.out.1.lt e).1)⟩
          clear h1 h2 h3
          go_wp2_with fail
          go_roundw
          case rel => exact ⟨1, by omega, rfl, HN.out.1, HN.out.2⟩
          case measure => simp [intOf]
        · have HO : Hid (OwnB w.heap.size wr u6 A ∧ Below w.heap.size w wr) := ⟨ho, hbw⟩
          clear ho hbw
          go_wp2_with (at_builtin; refine app_bytes (base := w.heap.size) (l := A) (k := B) HO.out.1 ((HS.out.2.1.later HO.out.2).src und32) (by have := HS.out.2.2; omega) hsz rfl (.tmp 31) (.tmp 32) rfl rfl rfl ?_; intro v' w' h1 h2 h3)
          have HN : Hid (OwnB w.heap.size w' v' (A ++ B) ∧ Below w.heap.size w w') := ⟨h1, HO.out.2.grown h2 hsz (fun j e => (HO.out.1.lt e).1)⟩
          clear h1 h2 h3
          go_wp2_with fail
          go_roundw
          case rel => exact ⟨2, by omega, rfl, HN.out.1, HN.out.2⟩
          case measure => simp [intOf]
        · have HO : Hid (OwnB w.heap.size wr u6 (A ++ B) ∧ Below w.heap.size w wr) := ⟨ho, hbw⟩
          clear ho hbw
          go_wp2_with fail
          go_ret
          exact ⟨_, rfl, HO.out.1, HO.out.2⟩
end Go.Proofs.YtlkkmcibjhoneaaGreatDoor
