import Derived.Test.YtpnlajbcbcheeabRef2
import Derived.Deep.RegionLaw
import Derived.Deep.RegionHeld3
namespace Go.Proofs.Ytpnlajbcbcheeab
open Go.RowKit

/-- append where there is room: the same row, the same capacity -/
theorem run_append_into (w : World) (base g n cap : Nat) (ty : TypeId) (l : List (List UInt8)) (k : List (List UInt8)) (x : Value)
    (hown : Own base w (.slice (some ⟨g, 0, none⟩) n cap) l) (hs : Src Try.prog 1 26 x k.length (sc k) w) (hn : l.length = n) (hroom : n + k.length ≤ cap) :
    ∃ w', (Builtin.append_ #[26, 26] ty #[.slice (some ⟨g, 0, none⟩) n cap, x]).run Try.prog w = .ok (.slice (some ⟨g, 0, none⟩) (n + k.length) cap) w' ∧
      Own base w' (.slice (some ⟨g, 0, none⟩) (n + k.length) cap) (l ++ k) ∧ w.grownBy w' (some g) := by
  obtain ⟨i, hi, hz0, hz1, hz2⟩ := info_parts info9
  subst hn
  rcases hown.2 with ⟨h0, _⟩ | ⟨g', cap', cur, e, hbg, hg, hnc, hcm, hcs, htake⟩
  · cases h0
  injection e with e1 e2 e3
  injection e1 with e1
  injection e1 with e1 _ _
  subst e1
  subst e3
  have hlen : (sc l ++ sc k).length = (l.length + k.length) * 1 := by simp [sc_length]
  have hfit : l.length * i.size + (sc k).length ≤ cur.size := by rw [hz1, sc_length, hcs]; omega
  have hst := run_storeCells_at Try.prog g (l.length * i.size) 9 (sc k) 0 cur w hg (by simpa using hfit) hs.one
  simp only [Nat.add_zero] at hst
  have hr : (Builtin.append_ #[26, 26] ty #[.slice (some ⟨g, 0, none⟩) l.length cap, x]).run Try.prog w =
      .ok (.slice (some ⟨g, 0, none⟩) (l.length + k.length) cap) (w.setRow g (cur.toList.take (l.length * i.size) ++ sc k ++ cur.toList.drop (l.length * i.size + (sc k).length)).toArray) := by
    rw [← hz1] at hs
    simp [Builtin.append_, run_underlying und26, sizeOf, typeInfo, hi, hs.len, hroom, hs.cells, Addr.add_lit, hst]
  refine ⟨_, hr, ⟨by rw [sc_append, List.length_append, sc_length, sc_length, List.length_append]; simp, .inr ⟨g, cap, _, by rw [List.length_append], hbg, setRow_heap w g cur _ 9 _ hg, by rw [List.length_append]; omega, hcm, ?_, ?_⟩⟩, ⟨rfl, rfl, rfl, by simp, fun k' _ hk => setRow_other w g k' _ (fun e => hk (by simp [e]))⟩⟩
  · simp only [List.size_toArray, List.length_append, List.length_take, List.length_drop, Array.length_toList, sc_length, hz1]
    simp only [sc_length, hz1] at hfit
    omega
  · have ht : cur.toList.take (l.length * 1) = sc l := htake
    rw [hz1, ht, sc_append, List.length_append, ← sc_length l, ← sc_length k, ← List.length_append, Nat.mul_one]
    exact List.take_left

/-- append onto a full slice: a new row, nothing else turned -/
theorem run_append_full (w : World) (g n : Nat) (ty : TypeId) (l k : List (List UInt8)) (x : Value)
    (hc : ∀ j u, (sc l)[j]? = some u → w.cell? ⟨g, j, none⟩ = some u) (hn : l.length = n) (hs : Src Try.prog 1 26 x k.length (sc k) w) (hk : 0 < k.length) (hb : n + k.length ≤ 8796093022208) :
    ∃ d cap w', (Builtin.append_ #[26, 26] ty #[.slice (some ⟨g, 0, none⟩) n n, x]).run Try.prog w = .ok (.slice (some ⟨d, 0, none⟩) (n + k.length) cap) w' ∧
      Own w.heap.size w' (.slice (some ⟨d, 0, none⟩) (n + k.length) cap) (l ++ k) ∧ Below w.heap.size w w' := by
  obtain ⟨i, hi, hz0, hz1, hz2⟩ := info_parts info9
  subst hn
  have hr := run_append_grow_src (P := Try.prog) w 26 26 ty 9 i (.string ByteArray.empty) und26 hi hz0 (some ⟨g, 0, none⟩) l.length l.length (sc l)
    (run_firstCells_some w.drew i.size l.length ⟨g, 0, none⟩ l.length l.length (sc l) (by rw [sc_length, hz1]; simp) (fun j u hu => by rw [add_lit, Nat.zero_add]; exact hc j u hu))
    x k.length (sc k) (by rw [hz1]; exact hs) (by omega) (by omega) (growslice_fits (by omega) (by rw [hz2]; omega))
  have hge := grownCap_ge w (l.length + k.length) l.length 9
  have hcm : grownCap w (l.length + k.length) l.length 9 ≤ maxLen := grownCap_le_maxLen w (l.length + k.length) l.length 9 (by simp only [maxLen]; omega)
  refine ⟨_, _, _, hr, ⟨by rw [sc_length]; simp, .inr ⟨w.heap.size, _, _, by rw [List.length_append], Nat.le_refl _, heap_alloc_new w.drew _, by rw [List.length_append]; exact hge, hcm, ?_, ?_⟩⟩, (Below.refl _ _).drew.alloc (Nat.le_refl _) _⟩
  · simp only [Array.size_append, List.size_toArray, size_zeroCells, List.length_append, sc_length, Value.cells]
    simp
    omega
  · rw [Array.toList_append, ← sc_append]
    have e : (l ++ k).length * 1 = (sc (l ++ k)).length := by rw [sc_length, Nat.mul_one]
    rw [e]
    exact List.take_left

/-- the first, as an operation of a list -/
theorem app_into {w : World} {base g n cap : Nat} {l : List (List UInt8)} (p : List UInt8) (hown : Own base w (.slice (some ⟨g, 0, none⟩) n cap) l) (hn : l.length = n) (hroom : n + 1 ≤ cap) (hbase : base ≤ w.heap.size)
    {ops : Array Oper} {rest : List Oper} {o : Oper} {a : Act} {Q : Exit → Act → World → Prop} (hgd : o.guard = none) (s y : Operand)
    (ho : o.op = .call { callee := .builtin .append, args := #[s, y], argTypes := #[26, 26] }) (hv : a.eval s = .slice (some ⟨g, 0, none⟩) n cap) (hx : a.eval y = .slice (some ⟨w.heap.size, 0, none⟩) 1 1)
    (h : ∀ w', Own base w' (.slice (some ⟨g, 0, none⟩) (n + 1) cap) (l ++ [p]) → Below base w w' → w.grownBy w' (some g) → wpList Try.prog ops Q rest (a.put o.dst (.slice (some ⟨g, 0, none⟩) (n + 1) cap)) w') :
    wpList Try.prog ops Q (o :: rest) a (w.alloc (.cells #[.string (bs p)] 9)) := by
  refine wpList_plain hgd fun K hK => ?_
  obtain ⟨w', hr, h2, h3⟩ := run_append_into (w.alloc (.cells #[.string (bs p)] 9)) base g n cap o.type l [p] _ (World.ownsRow.alloc hown _) (src_one w p) hn hroom
  unfold Oper.wp execOp
  simp only [ho, resolve, invoke, builtin, Sem.run_bind, Sem.run_pure, Result.andThen_ok, List.map_toArray, List.map_cons, List.map_nil, hv, hx, hr]
  have hlt := World.ownsRow.lt hown g rfl
  have hB : Below base w w' := ((Below.refl _ _).alloc hbase _).grown h3 (by simp; omega) (fun k hk => by cases hk; exact hlt.1)
  exact hK _ _ (h w' h2 hB ((World.grownBy_alloc w _ _).trans h3))

set_option maxHeartbeats 1000000 in
set_option maxRecDepth 100000 in
theorem splitF_any (l : List UInt8) (w : World) (hm : l.length ≤ 1000000000) :
    Calls Try.prog 10 #[.string (bs l)] w fun e w' => ∃ g, e = .returned (.slice (some ⟨g, 0, none⟩) (pcs l).length (pcs l).length) ∧ Own w.heap.size w' (.slice (some ⟨g, 0, none⟩) (pcs l).length (pcs l).length) (pcs l) ∧ Below w.heap.size w w' := by
  obtain ⟨i0, hi, hz0, hz1, hz2⟩ := info_parts info9
  have hdl := dep_le l
  obtain ⟨d, hd0⟩ : ∃ d, dep l = d := ⟨_, rfl⟩
  rw [hd0] at hdl
  obtain ⟨w1, hmk, hown0, hg0⟩ := run_make_own (P := Try.prog) (w := w) w.heap.size 26 9 i0 (.string ByteArray.empty) 1 und26 hi hz0 hz1 .i64 .i64 d (by rw [hz2]; omega) (by unfold maxLen; omega) (Nat.le_refl _)
  have HO : Hid (Own w.heap.size w1 (.slice (some ⟨w.heap.size, 0, none⟩) 0 d) []) := hown0
  have HB1 : Hid (Below w.heap.size w w1) := (Below.refl _ _).grown hg0 (Nat.le_refl _) (by simp)
  have hz3 : w.heap.size < w1.heap.size := (HO.out.lt (k := w.heap.size) rfl).2
  clear hown0 hg0 hi hz0 hz1 hz2
  have hde := dep_eq l
  rw [hd0] at hde
  obtain ⟨L, hL⟩ : ∃ L, pcs l = L := ⟨_, rfl⟩
  rw [hL]
  rw [hL] at hde
  have HL : Hid ([] ++ left l (!l.isEmpty) = L) := by rw [left_start]; exact hL
  have HD : Hid (L.length = d) := hde
  clear hL hde
  obtain ⟨ma, hma⟩ : ∃ m, (!l.isEmpty) = m := ⟨_, rfl⟩
  rw [hma] at HL
  have HM : Hid (l.length ≤ 1000000000) := hm
  go_enter Try.func10, Try.ntmps10
  go_wp2_with fail
  refine (depth_any _ _ (by omega)).mono ?_
  rintro e w2 ⟨rfl, rfl⟩
  rw [hd0]
  go_wp2_with fail
  refine (begin_any _ _).mono ?_
  rintro e w3 ⟨rfl, hb3⟩
  rw [hma]
  have hz4 := hb3.size
  have HO3 : Hid (Own w2.heap.size w3 (.slice (some ⟨w2.heap.size, 0, none⟩) 0 d) []) := HO.out.later hb3
  have HB3 : Hid (Below w2.heap.size w2 w3) := below_trans HB1.out (below_mono hb3 (by omega))
  clear hb3 hmk
  go_wp2_with fail
  have hz5 : w2.heap.size ≤ w3.heap.size := by omega
  have hz6 : w2.heap.size < w3.heap.size := by omega
  have K0 : Hid (WK (w3.alloc (.cells #[.string (bs l), .bool ma] 43)) w3.heap.size l ma ∧ Below w2.heap.size w2 (w3.alloc (.cells #[.string (bs l), .bool ma] 43)) ∧ Own w2.heap.size (w3.alloc (.cells #[.string (bs l), .bool ma] 43)) (.slice (some ⟨w2.heap.size, 0, none⟩) 0 d) []) := ⟨WK.new _ _ _ _, HB3.out.alloc hz5 _, HO3.out.later (balloc _ _)⟩
  obtain ⟨g0, hg0⟩ : ∃ g, g = w2.heap.size := ⟨_, rfl⟩
  rw [← hg0] at K0 ⊢
  have HG0 : Hid (g0 = w2.heap.size) := hg0
  have hga : g0 ≤ w2.heap.size := by omega
  have hgb : w2.heap.size ≤ g0 := by omega
  clear hg0
  go_loopg [3, 4] (left l ma).length (fun g v p wr => ∃ (gp : Nat) (t : List UInt8) (m : Bool) (n : Nat) (D : List (List UInt8)), p = .pointer (some ⟨gp, 0, none⟩) ∧ g0 < gp ∧ WK wr gp t m ∧ Below g0 w2 wr ∧ v = .slice (some ⟨g0, 0, none⟩) n d ∧ D.length = n ∧ Own g0 wr (.slice (some ⟨g0, 0, none⟩) n d) D ∧ D ++ left t m = L ∧ t.length ≤ l.length ∧ (left t m).length ≤ g)
  case atStart => exact ⟨_, l, ma, 0, [], rfl, by omega, K0.out.1, K0.out.2.1, rfl, rfl, K0.out.2.2, HL.out, Nat.le_refl _, Nat.le_refl _⟩
  case round =>
    obtain ⟨gp, t, m, n, D, rfl, hgp, k, hbw, rfl, hDn, hown, hall, htl, hg⟩ := hrel
    have HX : Hid (WK wr gp t m) := k
    have HB : Hid (Below g0 w2 wr) := hbw
    have HA : Hid (D ++ left t m = L) := hall
    have HG : Hid ((left t m).length ≤ gk) := hg
    have HT : Hid (t.length ≤ l.length) := htl
    have HW : Hid (Own g0 wr (.slice (some ⟨g0, 0, none⟩) n d) D) := hown
    have HN : Hid (D.length = n) := hDn
    obtain ⟨_, x1, _, _, xlt⟩ := k
    clear hbw hall hg htl hown hDn
    cases m
    · have ha := HA.out
      rw [left_false, List.append_nil] at ha
      have hnd : n = d := by rw [← HN.out, ha, HD.out]
      subst hnd
      subst ha
      go_wp2_with fail
      go_ret
      refine ⟨g0, ?_, ?_, ?_⟩
      · rw [HN.out]; rfl
      · rw [HN.out, ← HG0.out]; exact HW.out
      · rw [← HG0.out]; exact HB.out
    · go_wp2_with fail
      refine (next_any HX.out (by have := HT.out; have := HM.out; omega)).mono ?_
      rintro e w4 ⟨rfl, k4, o4⟩
      have HX4 : Hid (WK w4 gp (tl t) (sl t)) := k4
      have hzz := HB.out.size
      have HB4 : Hid (Below g0 w2 w4) := below_trans HB.out (o4.below (by omega) (by simp; omega))
      have HW4 : Hid (Own g0 w4 (.slice (some ⟨g0, 0, none⟩) n d) D) := HW.out.only o4 (by intro k hk; cases hk; simp; omega)
      have hz7 := HB4.out.size
      have hz9 : g0 ≤ w4.heap.size := by omega
      clear o4 x1 k4
      have ha := HA.out
      rw [left_next] at ha
      have HA4 : Hid ((D ++ [hd t]) ++ left (tl t) (sl t) = L) := by show _ = _; rw [← ha]; simp
      have HG4 : Hid ((left (tl t) (sl t)).length < gk) := by have := HG.out; rw [left_next] at this; simp at this; exact this
      have hroom : n + 1 ≤ d := by have h1 := HD.out; have h2 := congrArg List.length ha; have h3 := HN.out; simp at h2; omega
      clear ha
      go_wp2_with (at_builtin; refine app_into (base := g0) (hd t) HW4.out HN.out hroom hz9 rfl (.tmp 12) (.tmp 14) rfl rfl rfl ?_; intro w' ho hbw hgr; obtain ⟨y0, y1, _, _, _⟩ := HX4.out.grown hgr (by simp; omega))
      have hz8 : w4.heap.size ≤ w'.heap.size := hgr.size
      have HB5 : Hid (Below g0 w2 w') := below_trans HB4.out hbw
      have HW5 : Hid (Own g0 w' (.slice (some ⟨g0, 0, none⟩) (n + 1) d) (D ++ [hd t])) := ho
      have hlt5 := (ho.lt (k := g0) rfl).2
      clear ho hbw hgr
      go_roundg (left (tl t) (sl t)).length
      case measure => exact HG4.out
      case rel => exact ⟨_, tl t, sl t, n + 1, D ++ [hd t], rfl, hlt5, WK.new _ _ _ _, HB5.out.alloc (by omega) _, rfl, by rw [List.length_append, HN.out]; rfl, HW5.out.later (balloc _ _), HA4.out, by have := tl_le t; have := HT.out; omega, Nat.le_refl _⟩
end Go.Proofs.Ytpnlajbcbcheeab
