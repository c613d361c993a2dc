/-
  The directories of cones, one by one: the iterator.
-/
import Derived.Test.YtkopjamednedfaaGreatQs
namespace Go.Proofs.YtkopjamednedfaaGreat
open Go.RowKit
attribute [local go_sem] Oper.semAt_some

theorem wr_g2 {j : Nat} (h : j ≤ 200) : IntKind.i64.wrap ((j : Int) + 1 + 1) = ((j + 1 + 1 : Nat) : Int) := by rw [IntKind.wrap_i64]; omega
theorem wr_g {g : Nat} (h : g ≤ 200) : wrap64 ((g : Int) + 1) = ((g + 1 : Nat) : Int) := by unfold wrap64; omega
set_option maxRecDepth 100000 in
set_option maxHeartbeats 4000000 in
theorem dirs_seq {w : World} {k : List (List UInt8)} {ad : Option Addr} {n c n₀ b Bl : Nat} (hk : coneE k = 0) (hn : k.length = n) (hsz : n ≤ 8000000) (hbox : w.heap[Bl]? = some (.cells #[.slice ad n c] 22)) (hbl : Bl ≠ b)
    (hA : KS n₀ w (.slice ad n c) k) (hn0 : n₀ ≤ w.heap.size) (hb0 : b < w.heap.size) (m : Nat) (hm : 2 ≤ m) :
    SeqO m Tryz.prog 56 #[.pointer (some ⟨Bl, 0, none⟩)] (fun x : List UInt8 × Bool => #[.string (bs x.1), .bool x.2]) (Kz n₀ b) (dsR k) w := by
  intro lp J Jx W hW hJ hJx hY h0
  have HA : Hid (∀ W', Kz n₀ b W W' → W'.cell? ⟨Bl, 0, none⟩ = some (.slice ad n c) ∧ KS n₀ W' (.slice ad n c) k ∧ n₀ ≤ W'.heap.size ∧ b < W'.heap.size) := by
    intro W' hK
    have hBl := (Array.getElem?_eq_some_iff.1 hbox).1
    have h1 : W.heap[Bl]? = some (.cells #[.slice ad n c] 22) := (hW.block Bl hBl).trans hbox
    have h2 := hK.same _ _ h1 (by simpa using hbl) (fun c fz e => by cases e)
    have := hW.size
    have := hK.below.size
    exact ⟨by simp [World.cell?, h2], (hA.below (below_mono hW hn0)).below hK.below, by omega, by omega⟩
  have HP : Hid (∀ x ∈ k, x.length ≤ 120 ∧ okP x = true) := fun x hx => by
    have := (coneB_iff.1 (coneE_zero.1 hk)).1 x hx
    exact ⟨(okP_len this).1, this⟩
  have HY : Hid (∀ pre x W1, J pre W1 → (∃ r, dsR k = pre ++ x :: r) → YieldAt Fence.wide (m - 1) Tryz.prog lp #[.string (bs x.1), .bool x.2] W1 fun e W' =>
      (e = .returned (.bool true) ∧ J (pre ++ [x]) W' ∧ Kz n₀ b W1 W') ∨ (e = .returned (.bool false) ∧ Jx W' ∧ KeepsFrom W.heap.size W1 W')) := hY
  have HJ : Hid (OwnFrom W.heap.size J) := hJ
  have H0 : Hid (J [] W) := h0
  have HN : Hid (k.length = n) := hn
  have HW : Hid (b < W.heap.size) := by have := hW.size; show b < _; omega
  clear hA hbox hY h0 hJ hJx hW hn0 hk hn
  change CallsIn Fence.wide m Tryz.prog 56 #[.func (.yield lp) #[] #[], .pointer (some ⟨Bl, 0, none⟩)] W _
  refine callsIn_of_wp Tryz.func56 rfl trivial ?_ rfl
  simp only [Tryz.ntmps56, List.size_toArray, List.length_cons, List.length_nil, Nat.reduceAdd, Nat.reduceSub, Array.replicate_succ, Array.replicate_zero, List.push_toArray, List.append_toArray, List.nil_append, List.cons_append]
  have bk := (HA.out W (Kz.refl _ _ _)).1
  obtain ⟨q, hq⟩ : ∃ q, decide ([] ∈ k) = q := ⟨_, rfl⟩
  have HC : Hid (Calls Tryz.prog 57 #[.slice ad n c, .string (bs [])] W fun e w' => e = .returned (.bool q) ∧ w' = W) := by
    have := containsS_any (HA.out W (Kz.refl _ _ _)).2.1.1 [] (by have := HN.out; omega)
    rw [show k.contains [] = q by rw [← hq]; simp] at this
    exact this
  obtain ⟨fn, tmps, assign, body, hy, hR⟩ := HY.out [] ([], q) W H0.out ⟨dsB [] k, by unfold dsR; rw [hq]; rfl⟩
  have HQ : Hid (dsR k = [([], q)] ++ dsB [] k) := by show _ = _; unfold dsR; rw [hq]; rfl
  change (Instr.yield lp #[.string ⟨#[]⟩, .bool q]).run Tryz.prog W = _ at hy
  clear hq
  gi_wp2_with fail
  refine ⟨trivial, fun _ => by omega, (callsIn_wide.2 HC.out).mono ?_⟩
  rintro e w1 ⟨rfl, ew1⟩
  subst ew1
  gi_wp2_with fail
  refine ⟨fun _ => by omega, hR.mono ?_⟩
  clear hy hR HC bk H0
  rintro e W2 (⟨rfl, hJ2, hk2⟩ | ⟨rfl, hJ2, -⟩)
  · have HK2 : Hid (Kz n₀ b w1 W2) := hk2
    have HJ2 : Hid (J [([], q)] W2) := hJ2
    have bk := (HA.out W2 hk2).1
    clear hJ2 hk2
    gi_wp2_with fail
    clear bk
    gi_loopw [3, 15] (fun s3 s15 wr => ∃ (pre : List (List UInt8 × Bool)) (i : Nat) (last : List UInt8), s15 = .int .i64 i ∧ s3 = .string (bs last) ∧ i ≤ n ∧ last.length ≤ 120 ∧ dsR k = pre ++ dsB last (k.drop i) ∧ J pre wr ∧ Kz n₀ b w1 wr) (fun _ s15 _ => n - (intOf s15).toNat)
    case atStart => exact ⟨_, 0, [], rfl, rfl, Nat.zero_le _, by simp, by rw [List.drop_zero]; exact HQ.out, HJ2.out, HK2.out⟩
    case round =>
      obtain ⟨pre, i, last, rfl, rfl, hin, hll, hdr, hJs, hKs⟩ := hrel
      have HJs : Hid (J pre wr) := hJs
      have HDR : Hid (dsR k = pre ++ dsB last (k.drop i)) := hdr
      have HKs : Hid (Kz n₀ b w1 wr) := hKs
      clear hJs hdr hKs
      by_cases hlt : i < n
      · have hil : i < k.length := by have := HN.out; omega
        have i0 : (0 : Int) ≤ (i : Int) := by omega
        have i1 : (i : Int) < (n : Int) := by omega
        obtain ⟨x, hx⟩ : ∃ x, k[i] = x := ⟨_, rfl⟩
        have HX : Hid (k.drop i = x :: k.drop (i + 1)) := by show _ = _; rw [List.drop_eq_getElem_cons hil, hx]
        obtain ⟨hxl, hxok⟩ := HP.out x (by rw [← hx]; exact List.getElem_mem hil)
        have hcx : ∃ bb off, ad = some ⟨bb, off, none⟩ ∧ wr.cell? ⟨bb, off + i, none⟩ = some (.string (bs x)) := by
          obtain ⟨a', c', e, hf⟩ := (HA.out wr HKs.out).2.1.1.form
          injection e with e1 _ _
          obtain ⟨bb, off, h1, _, h3⟩ := hf i hil
          rw [hx] at h3
          exact ⟨bb, off, e1.trans h1, h3⟩
        obtain ⟨bb, off, rfl, hci⟩ := hcx
        have HOK : Hid (okP x = true) := hxok
        have HSP : Hid (∀ W, Calls Tryz.prog 42 #[.string (bs x)] W fun e w' => ∃ v, e = .returned v ∧ Own W.heap.size w' v (pcs x) ∧ Below W.heap.size W w') := fun W => split_any x W (by omega)
        have HCM : Hid (∀ W, Calls Tryz.prog 59 #[.string (bs last), .string (bs x)] W fun e w' => e = .returned (.string (bs (cmn last x))) ∧ Below W.heap.size W w') := fun W => common_any last x W (by omega) (by omega)
        have HDP : Hid (∀ W, Calls Tryz.prog 58 #[.string (bs (cmn last x))] W fun e w' => e = .returned (.int .i64 (dep (cmn last x) : Nat)) ∧ w' = W) := fun W => depth_any _ W (by have := cmn_le last x; omega)
        clear hx hxok
        gi_wp2_with fail
        refine ⟨trivial, fun _ => by omega, (callsIn_wide.2 (HSP.out _)).mono ?_⟩
        rintro e w3 ⟨v3, rfl, ho3, hb3⟩
        have H3 : Hid (Own w1.heap.size w3 v3 (pcs x) ∧ Kz n₀ b w1 w3 ∧ J pre w3) := ⟨ho3.mono HKs.out.below.size, HKs.out.trans (Kz.of hb3 (HA.out wr HKs.out).2.2.1), ownFrom_below' HJ.out HJs.out hb3⟩
        clear ho3 hb3 hci
        obtain ⟨a3, c3, e3, -⟩ := H3.out.1.bs.form
        obtain ⟨d, hd⟩ : ∃ d, (pcs x).length = d := ⟨_, rfl⟩
        rw [hd] at e3
        subst e3
        gi_wp2_with fail
        refine ⟨trivial, fun _ => by omega, (callsIn_wide.2 (HCM.out _)).mono ?_⟩
        rintro e w4 ⟨rfl, hb4⟩
        have H4 : Hid (Own w1.heap.size w4 (.slice a3 d c3) (pcs x) ∧ Kz n₀ b w1 w4 ∧ J pre w4) := ⟨H3.out.1.later hb4, H3.out.2.1.trans (Kz.of hb4 (HA.out _ H3.out.2.1).2.2.1), ownFrom_below' HJ.out H3.out.2.2 hb4⟩
        clear hb4 H3
        obtain ⟨g, hg⟩ : ∃ g, dep (cmn last x) = g := ⟨_, rfl⟩
        rw [hg] at HDP
        gi_wp2_with fail
        refine ⟨trivial, fun _ => by omega, (callsIn_wide.2 (HDP.out _)).mono ?_⟩
        rintro e w5 ⟨rfl, ew5⟩
        subst ew5
        gi_wp2_with fail
        have hgb : g ≤ 200 := by have := dep_le (cmn last x); have := cmn_le last x; omega
        have hdb : d ≤ 200 := by rw [← hd, dep_eq]; have := dep_le x; omega
        have HD : Hid ((pcs x).length = d ∧ dep x = d) := ⟨hd, by rw [← dep_eq]; exact hd⟩
        have HS : Hid (dsR k = pre ++ (((List.range d).drop g).map (fun j => (join ((pcs x).take (j + 1)), decide (j + 1 = d))) ++ dsB x (k.drop (i + 1)))) := by
          show _ = _
          rw [HDR.out, HX.out, dsB]
          unfold dirB
          rw [HD.out.2, hg]
        clear hd hg HDP HCM HSP
        gi_loopw [7] (fun s7 wr => ∃ (pre' : List (List UInt8 × Bool)) (j : Nat), s7 = .int .i64 ((j + 1 : Nat) : Int) ∧ j ≤ 200 ∧ dsR k = pre' ++ (((List.range d).drop j).map (fun j => (join ((pcs x).take (j + 1)), decide (j + 1 = d))) ++ dsB x (k.drop (i + 1))) ∧ Own w1.heap.size wr (.slice a3 d c3) (pcs x) ∧ Kz n₀ b w1 wr ∧ J pre' wr) (fun s7 _ => d + 1 - (intOf s7).toNat)
        case atStart => exact ⟨pre, g, congrArg (Value.int .i64) (wr_g hgb), hgb, HS.out, H4.out⟩
        case round =>
          obtain ⟨pre', j, rfl, hj2, hdr, ho, hKs, hJs⟩ := hrel
          have HR : Hid (dsR k = pre' ++ (((List.range d).drop j).map (fun j => (join ((pcs x).take (j + 1)), decide (j + 1 = d))) ++ dsB x (k.drop (i + 1))) ∧ Own w1.heap.size wr (.slice a3 d c3) (pcs x) ∧ Kz n₀ b w1 wr ∧ J pre' wr) := ⟨hdr, ho, hKs, hJs⟩
          clear hdr ho hKs hJs
          by_cases hjd : j < d
          · have j1 : (j : Int) + 1 ≤ (d : Int) := by omega
            have j0 : (0 : Int) ≤ (j : Int) + 1 := by omega
            have j3 : (0 : Int) ≤ ((j + 1 : Nat) : Int) := by omega
            obtain ⟨g3, rfl, hdc⟩ : ∃ g3, a3 = some ⟨g3, 0, none⟩ ∧ d ≤ c3 := by
              rcases HR.out.2.1.2 with ⟨_, e⟩ | ⟨g', cap, cur, e, _, _, h3, _⟩
              · have := HD.out.1; omega
              · injection e with e1 e2 e3
                exact ⟨g', e1, by omega⟩
            have j2 : ((j + 1 : Nat) : Int) ≤ (c3 : Int) := by omega
            obtain ⟨y, hy⟩ : ∃ y, join ((pcs x).take (j + 1)) = y := ⟨_, rfl⟩
            have hyl : y.length ≤ 120 := by
              obtain ⟨r, hr⟩ := join_take (pcs x) (j + 1)
              rw [join_pcs, hy] at hr
              have := congrArg List.length hr
              rw [List.length_append] at this
              omega
            have HJN : Hid (Calls Tryz.prog 60 #[.slice (some ⟨g3, 0, none⟩) (j + 1) c3, .string (bs [47])] wr fun e w' => e = .returned (.string (bs y)) ∧ Below wr.heap.size wr w') := by
              have h1 := HR.out.2.1.cut (j + 1) (by have := HD.out.1; omega)
              have h2 := sjoin_any h1.bs (by rw [List.length_take]; omega) (by rw [hy]; omega)
              rw [hy] at h2
              exact h2
            obtain ⟨f, hf⟩ : ∃ f, decide (j + 1 = d) = f := ⟨_, rfl⟩
            have HNX : Hid (dsR k = pre' ++ (y, f) :: (((List.range d).drop (j + 1)).map (fun j => (join ((pcs x).take (j + 1)), decide (j + 1 = d))) ++ dsB x (k.drop (i + 1)))) := by
              show _ = _
              rw [HR.out.1, List.drop_eq_getElem_cons (by simpa using hjd), List.getElem_range, List.map_cons, hy, hf]
              rfl
            have hfe : ((j : Int) + 1 == (d : Int)) = f := by
              rw [← hf, Bool.eq_iff_iff]
              simp
              omega
            clear hy hf
            gi_wp2_with fail
            refine ⟨trivial, fun _ => by omega, (callsIn_wide.2 HJN.out).mono ?_⟩
            rintro e w6 ⟨rfl, hb6⟩
            have H6 : Hid (Own w1.heap.size w6 (.slice (some ⟨g3, 0, none⟩) d c3) (pcs x) ∧ Kz n₀ b w1 w6 ∧ J pre' w6) := ⟨HR.out.2.1.later hb6, HR.out.2.2.1.trans (Kz.of hb6 (HA.out _ HR.out.2.2.1).2.2.1), ownFrom_below' HJ.out HR.out.2.2.2 hb6⟩
            clear hb6 HJN
            obtain ⟨fn, tmps, assign, body, hy, hR⟩ := HY.out pre' (y, f) w6 H6.out.2.2 ⟨_, HNX.out⟩
            simp only at hy
            gi_wp2_with fail
            refine ⟨fun _ => by omega, hR.mono ?_⟩
            clear hy hR
            rintro e W7 (⟨rfl, hJ7, hk7⟩ | ⟨rfl, hJ7, -⟩)
            · have H7 : Hid (Own w1.heap.size W7 (.slice (some ⟨g3, 0, none⟩) d c3) (pcs x) ∧ Kz n₀ b w1 W7 ∧ J (pre' ++ [(y, f)]) W7) := ⟨H6.out.1.others hk7.same HW.out, H6.out.2.1.trans hk7, hJ7⟩
              clear hJ7 hk7 H6
              gi_wp2_with fail
              go_roundw
              case rel => exact ⟨pre' ++ [(y, f)], j + 1, congrArg (Value.int .i64) (by first | rfl | omega | exact wr_g2 hj2), by omega, by rw [HNX.out]; simp, H7.out⟩
              case measure => simp [intOf]; omega
            · gi_wp2_with fail
              refine bodyPost_ret (results_none rfl _ _ _) rfl ?_
              exact ⟨⟨_, rfl⟩, .inr hJ7⟩
          · have hjr : (List.range d).drop j = [] := List.drop_eq_nil_of_le (by simp; omega)
            have j1 : ¬ ((j : Int) + 1 ≤ (d : Int)) := by omega
            have HZ : Hid (dsR k = pre' ++ dsB x (k.drop (i + 1)) ∧ Kz n₀ b w1 wr ∧ J pre' wr) := by
              refine ⟨?_, HR.out.2.2⟩
              have := HR.out.1
              rw [hjr] at this
              simpa using this
            clear hjr
            gi_wp2_with fail
            exact ⟨⟨pre', i + 1, x, rfl, rfl, by omega, hxl, HZ.out.1, HZ.out.2.2, HZ.out.2.1⟩, by simp [intOf]; omega⟩
      · obtain rfl : i = n := by omega
        have hik : k.drop i = [] := List.drop_eq_nil_of_le (by have := HN.out; omega)
        gi_wp2_with fail
        go_end0
        exact ⟨⟨_, rfl⟩, .inl (by rw [HDR.out, hik]; simpa [dsB] using HJs.out)⟩
  · gi_wp2_with fail
    refine bodyPost_ret (results_none rfl _ _ _) rfl ?_
    exact ⟨⟨_, rfl⟩, .inr hJ2⟩
end Go.Proofs.YtkopjamednedfaaGreat
