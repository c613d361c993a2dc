/-
  The document's tree: Write.
-/
import Derived.Test.YtlkkmcibjhoneaaGreatDoorJZa
import Derived.Test.YtlkkmcibjhoneaaGreatDoorZe
import Derived.OrdersHeld
import Derived.Deep.Cut
namespace Go.Proofs.YtlkkmcibjhoneaaGreatDoor
open Go.RowKit
attribute [local go_sem] Oper.semAt_some
theorem fs_one (w : World) (f : Fl) : FS (w.alloc (.cells #[.string (bs f.path), .string (bs f.text), .int .i64 f.blob, .int .i64 f.size] 31)) (.slice (some ⟨w.heap.size, 0, none⟩) 1 1) [f] := by
  refine .inr ⟨w.heap.size, 0, 1, rfl, by simp, by simp, fun i u hu => ?_⟩
  have hn : (w.alloc (.cells #[.string (bs f.path), .string (bs f.text), .int .i64 f.blob, .int .i64 f.size] 31)).heap[w.heap.size]? = some (.cells #[.string (bs f.path), .string (bs f.text), .int .i64 f.blob, .int .i64 f.size] 31 (0, 0)) := heap_alloc_new _ _
  unfold World.cell?; dsimp only; rw [hn]
  simp only [fc] at hu
  simpa [Nat.zero_add] using hu

theorem valid_one (f : Fl) : validE [f] = fileE f := by
  unfold validE fileE stand
  cases h : pathOk f.path
  · simp [h]
  · have : fileE f = if fits f then 0 else 8 := by unfold fileE; rw [h]; rfl
    cases h2 : fits f
    · rw [h2] at this; simp [h, this]
    · rw [h2] at this; simp [h, this, chain]
/-- what is still to be laid -/
def wlk (f : Fl) : List Fl → Bool → List Fl
  | [], ld => if ld then [] else [f]
  | g :: r, ld => (if decide (0 ≤ cf g.path f.path) && !ld then [f] else []) ++ ((if cf g.path f.path = 0 then [] else [g]) ++ wlk f r (ld || decide (0 ≤ cf g.path f.path)))
theorem wlk_true {f : Fl} : ∀ {l : List Fl}, (∀ g ∈ l, 0 < cf g.path f.path) → wlk f l true = l
  | [], _ => rfl
  | g :: r, h => by
    have h1 := h g (by simp)
    unfold wlk
    rw [if_neg (by simp), if_neg (by omega), Bool.true_or, wlk_true (fun x hx => h x (by simp [hx]))]
    rfl
theorem wlk_ins {f : Fl} : ∀ {l : List Fl}, l.Pairwise (fun a b => cf a.path b.path < 0) → wlk f l false = insF f l
  | [], _ => rfl
  | g :: r, h => by
    obtain ⟨h1, h2⟩ := List.pairwise_cons.1 h
    unfold wlk insF
    by_cases hc : cf g.path f.path < 0
    · rw [if_pos hc, if_neg (by simp; omega), if_neg (by omega), decide_eq_false (by omega), Bool.or_false, wlk_ins h2]
      rfl
    · rw [if_neg hc, if_pos (by simp; omega), decide_eq_true (by omega), Bool.false_or]
      have hgt : ∀ x ∈ r, 0 < cf x.path f.path := fun x hx => by
        have hx1 := h1 x hx
        rcases cf_tri x.path f.path with h | h | h
        · exact absurd (cf_trans hx1 h) hc
        · rw [h] at hx1
          exact absurd hx1 hc
        · have := cf_neg f.path x.path
          omega
      rw [wlk_true hgt]
      by_cases he : g.path = f.path
      · rw [if_pos (cf_zero.2 he), if_pos he]; rfl
      · rw [if_neg (fun e => he (cf_zero.1 e)), if_neg he]; rfl

set_option maxRecDepth 100000 in
set_option maxHeartbeats 16000000 in
theorem rwrite_any {w : World} {F : Nat → Prop} {c : Nat} {T : TT} (h : RT w F c T) (hz : TSz 3999999 T) (ho : TOk T) (f : Fl) (hf : Fok f) (hfp : f.path.length ≤ 100000000) :
    Calls Tryz.prog 68 #[.pointer (some ⟨c, 0, none⟩), f.val] w (RSt w F c (T.wr f)) := by
  have H : Hid (RT w F c T ∧ TSz 3999999 T ∧ TOk T ∧ Fok f) := ⟨h, hz, ho, hf⟩
  clear h hz ho hf
  obtain ⟨R, hR⟩ : ∃ R, T.wr f = R := ⟨_, rfl⟩
  rw [hR]
  have HR : Hid (T.wr f = R) := hR
  clear hR
  obtain ⟨fl, hfl⟩ : ∃ fl, f = fl := ⟨_, rfl⟩
  have HFL : Hid (f = fl) := hfl
  obtain ⟨q, tx, bl, sz⟩ := fl
  rw [hfl] at hfp
  rw [show f.val = .agg #[.string (bs q), .string (bs tx), .int .i64 bl, .int .i64 sz] by rw [hfl]; rfl]
  clear hfl
  dsimp only at hfp
  go_enter Tryz.func68, Tryz.ntmps68
  go_wp2_with fail
  obtain ⟨g3, hg3⟩ : ∃ g3, w.heap.size = g3 := ⟨_, rfl⟩
  obtain ⟨w0, hw0⟩ : ∃ w0, w.alloc (.cells #[.string (bs q), .string (bs tx), .int .i64 bl, .int .i64 sz] 31) = w0 := ⟨_, rfl⟩
  have HB0 : Hid (Below w.heap.size w w0 ∧ w0.heap[g3]? = some (.cells #[.string (bs q), .string (bs tx), .int .i64 bl, .int .i64 sz] 31 (0, 0)) ∧ w.heap.size = g3) := ⟨hw0 ▸ balloc _ _, by rw [← hw0, ← hg3]; exact heap_alloc_new _ _, hg3⟩
  rw [hw0, hg3]
  clear hw0 hg3
  refine (counted_any (H.out.1.later HB0.out.1) (H.out.2.1.mono (by omega)) H.out.2.2.1 (nil_bs w0) (nil_no F) (by simp)).mono ?_
  rintro e w1 ⟨rfl, h1, o1⟩
  have hn3 : ¬ F g3 := fun hf => by have := H.out.1.lt g3 hf; have := HB0.out.2.2; omega
  have hl3 : g3 < w0.heap.size := (Array.getElem?_eq_some_iff.1 HB0.out.2.1).1
  have H1 : Hid (RT w1 (nwF F w w1) c (T.cnt []).1 ∧ OnlyP F w w1 ∧ w1.heap[g3]? = some (.cells #[.string (bs q), .string (bs tx), .int .i64 bl, .int .i64 sz] 31 (0, 0))) := by
    have hz0 := HB0.out.1.size
    have hz1 := o1.size
    exact ⟨h1.wider (by rintro k (h | h); exact .inl h; exact .inr ⟨by omega, h.2⟩) (by rintro k (h | h); exact h1.lt k (.inl h); exact h.2), (OnlyP.of_below HB0.out.1 F).trans o1 (fun _ _ h => h), by rw [o1.block g3 hl3 hn3]; exact HB0.out.2.1⟩
  clear h1 o1 hn3 hl3 HB0
  cases hc : (T.cnt []).2 with
  | false =>
    go_wp2_with fail
    go_ret
    rw [← HR.out, show T.wr f = _ from step_not hc]
    exact ⟨rfl, H1.out.1, H1.out.2.1⟩
  | true =>
    obtain ⟨T1, hT1⟩ : ∃ T1, (T.cnt []).1 = T1 := ⟨_, rfl⟩
    have hz2 : Hid (TSz 4000000 T1) := hT1 ▸ H.out.2.1.cnt []
    have ok1 : Hid (TOk T1) := hT1 ▸ H.out.2.2.1.cnt []
    have HT : Hid ((T.cnt []).1 = T1) := hT1
    rw [hT1] at H1
    clear hT1
    have hcl : ∀ W : World, W.heap[g3]? = some (.cells #[.string (bs q), .string (bs tx), .int .i64 bl, .int .i64 sz] 31 (0, 0)) → W.cell? ⟨g3, 0, none⟩ = some (.string (bs q)) ∧ W.cell? ⟨g3, 1, none⟩ = some (.string (bs tx)) ∧ W.cell? ⟨g3, 2, none⟩ = some (.int .i64 bl) ∧ W.cell? ⟨g3, 3, none⟩ = some (.int .i64 sz) := fun W h => ⟨by simp [World.cell?, h], by simp [World.cell?, h], by simp [World.cell?, h], by simp [World.cell?, h]⟩
    have HCL : Hid _ := hcl
    obtain ⟨b0, b1, b2, b3⟩ := hcl w1 H1.out.2.2
    clear hcl
    go_wp2_with fail
    refine (rsnap13_any (l := [f]) (HFL.out ▸ fs_one w1 ⟨q, tx, bl, sz⟩) ⟨by simp, fun x hx => by simp at hx; rw [hx]; exact H.out.2.2.2, fun x hx => by simp at hx; rw [hx, HFL.out]; exact hfp⟩).mono ?_
    rintro e w2 ⟨rfl, hb2⟩
    rw [valid_one]
    have hb12 : Below w1.heap.size w1 w2 := bstep (balloc _ _) hb2
    have H2 : Hid (RT w2 (nwF F w w2) c T1 ∧ OnlyP F w w2 ∧ w2.heap[g3]? = some (.cells #[.string (bs q), .string (bs tx), .int .i64 bl, .int .i64 sz] 31 (0, 0))) := by
      have hz := hb12.size
      have hl3 : g3 < w1.heap.size := (Array.getElem?_eq_some_iff.1 H1.out.2.2).1
      exact ⟨(H1.out.1.later hb12).wider (by rintro k (h | h); exact .inl h; exact .inr ⟨h.1, by omega⟩) (by rintro k (h | h); exact Nat.lt_of_lt_of_le (H1.out.1.lt k (.inl h)) hz; exact h.2), H1.out.2.1.trans (OnlyP.of_below hb12 F) (fun _ _ h => h), by rw [hb12.block g3 hl3]; exact H1.out.2.2⟩
    clear H1 hb2 hb12 b0 b1 b2 b3
    obtain ⟨e0, he0⟩ : ∃ e0, fileE f = e0 := ⟨_, rfl⟩
    have HE0 : Hid (fileE f = e0) := he0
    rw [he0]
    clear he0
    by_cases h0 : e0 = 0
    · subst h0
      have hfile : Hid (T.wr f = if wrB T1 f then ({ T1 with fs := insF f T1.fs }, 0) else (T1, 16)) := by
        show T.step [] (wrG f) = _
        rw [step_do hc, HT.out]
        unfold wrG
        rw [if_pos HE0.out]
      obtain ⟨b0, b1, b2, b3⟩ := HCL.out w2 H2.out.2.2
      go_wp2_with fail
      refine (risdir_any H2.out.1 hz2.out q).mono ?_
      rintro e wq ⟨rfl, rfl⟩
      rcases hb3 : hasD T1.ds q with _ | _
      · go_wp2_with fail
        refine (rdir_any q _ (by omega)).mono ?_
        rintro e wq ⟨rfl, rfl⟩
        go_wp2_with fail
        refine (risdir_any H2.out.1 hz2.out (dir q)).mono ?_
        rintro e wq ⟨rfl, rfl⟩
        rcases hb4 : hasD T1.ds (dir q) with _ | _
        · go_wp2_with fail
          go_ret
          rw [← HR.out, hfile.out, if_neg (by unfold wrB; rw [HFL.out]; simp [hb4])]
          exact ⟨rfl, H2.out.1, H2.out.2.1⟩
        · have yes : wrB T1 f = true := by unfold wrB; rw [HFL.out]; simp [hb3, hb4]
          have YES : Hid (wrB T1 f = true) := yes
          clear hb3 hb4 yes
          go_wp2_with fail
          rename_i hKK
          have HK_ : Hid _ := hKK
          clear hKK
          obtain ⟨vf, c0, of, kf, f0⟩ := H2.out.1.open0
          obtain ⟨va, cap, e⟩ := of.form
          subst e
          obtain ⟨N, hN⟩ : ∃ N, T1.fs.length = N := ⟨_, rfl⟩
          have hfs := of.fs
          rw [hN] at c0
          have HFS : Hid (FS wq (.slice va T1.fs.length cap) T1.fs) := hfs
          have hnf : N ≤ 4000000 := by rw [← hN]; exact hz2.out.nf
          have HNn : Hid (T1.fs.length = N) := hN
          have HC1 : Hid (c < wq.heap.size ∧ g3 < wq.heap.size) := ⟨H2.out.1.lt c H2.out.1.mem, (Array.getElem?_eq_some_iff.1 H2.out.2.2).1⟩
          have C0 : Hid (wq.cell? ⟨c, 0, none⟩ = some (.slice va N cap) ∧ wq.frozen? ⟨c, 0, none⟩ = false) := ⟨c0, f0⟩
          have C3 : Hid (wq.cell? ⟨g3, 0, none⟩ = some (.string (bs q)) ∧ wq.cell? ⟨g3, 1, none⟩ = some (.string (bs tx)) ∧ wq.cell? ⟨g3, 2, none⟩ = some (.int .i64 bl) ∧ wq.cell? ⟨g3, 3, none⟩ = some (.int .i64 sz)) := ⟨b0, b1, b2, b3⟩
          clear of kf f0 hfs hN b0 b1 b2 b3
          go_loopw [6, 7, 8] (fun lv lb i wr => ∃ (k : Nat) (ld : Bool) (acc : List Fl) (x : Value), k ≤ N ∧ x = lv ∧ lb = .bool ld ∧ i = .int .i64 k ∧ acc.length ≤ k + ld.toNat ∧ acc ++ wlk f (T1.fs.drop k) ld = insF f T1.fs ∧ OwnF wq.heap.size wr x acc ∧ Below wq.heap.size wq wr) (fun _ _ i _ => N - (intOf i).toNat)
          case atStart => exact ⟨0, false, [], _, by omega, rfl, rfl, rfl, by simp, by rw [List.drop_zero, List.nil_append]; exact wlk_ins ok1.out.fu, OwnF.nil _ _, Below.refl _ _⟩
          case round =>
            obtain ⟨k, ld, acc, x, hk, rfl, rfl, rfl, hal, haw, hox, hbx⟩ := hrel
            by_cases hlt : k < N
            · have hkl : k < T1.fs.length := by have := HNn.out; omega
              obtain ⟨b, off, ea, hbw, d0, d1, d2, d3⟩ := FS.at HFS.out (Below.refl _ _) hkl
              subst ea
              obtain ⟨g, hg⟩ : ∃ g, T1.fs[k]'hkl = g := ⟨_, rfl⟩
              have hpl : g.path.length ≤ 1000 := hg ▸ (len_of ok1.out).1 _ (List.getElem_mem hkl)
              rw [hg] at d0 d1 d2 d3
              rw [List.drop_eq_getElem_cons hkl, hg] at haw
              obtain ⟨p, pt, pb, ps⟩ := g
              dsimp only at d0 d1 d2 d3 hpl
              obtain ⟨cm, hcm⟩ : ∃ cm, cmpP (pcs p) (pcs q) = cm := ⟨_, rfl⟩
              have HW : Hid (acc ++ ((if decide (0 ≤ cm) && !ld then [f] else []) ++ ((if cm = 0 then [] else [⟨p, pt, pb, ps⟩]) ++ wlk f (T1.fs.drop (k + 1)) (ld || decide (0 ≤ cm)))) = insF f T1.fs) := by
                have h1 : cf p f.path = cm := by rw [HFL.out]; exact hcm
                rw [wlk] at haw
                dsimp only at haw
                rw [h1] at haw
                exact haw
              have HCW : Hid (∀ W', Below wq.heap.size wq W' → W'.cell? ⟨c, 0, none⟩ = some (.slice (some ⟨b, off, none⟩) N cap) ∧ W'.cell? ⟨b, off + k * 4, none⟩ = some (.string (bs p)) ∧ W'.cell? ⟨b, off + k * 4 + 1, none⟩ = some (.string (bs pt)) ∧ W'.cell? ⟨b, off + k * 4 + 2, none⟩ = some (.int .i64 pb) ∧ W'.cell? ⟨b, off + k * 4 + 3, none⟩ = some (.int .i64 ps) ∧ W'.cell? ⟨g3, 0, none⟩ = some (.string (bs q)) ∧ W'.cell? ⟨g3, 1, none⟩ = some (.string (bs tx)) ∧ W'.cell? ⟨g3, 2, none⟩ = some (.int .i64 bl) ∧ W'.cell? ⟨g3, 3, none⟩ = some (.int .i64 sz)) := fun W' hb =>
                ⟨(hb.cell (p := ⟨c, 0, none⟩) HC1.out.1).trans C0.out.1, (hb.cell (p := ⟨b, off + k * 4, none⟩) hbw).trans d0, (hb.cell (p := ⟨b, off + k * 4 + 1, none⟩) hbw).trans d1, (hb.cell (p := ⟨b, off + k * 4 + 2, none⟩) hbw).trans d2, (hb.cell (p := ⟨b, off + k * 4 + 3, none⟩) hbw).trans d3,
                 (hb.cell (p := ⟨g3, 0, none⟩) HC1.out.2).trans C3.out.1, (hb.cell (p := ⟨g3, 1, none⟩) HC1.out.2).trans C3.out.2.1, (hb.cell (p := ⟨g3, 2, none⟩) HC1.out.2).trans C3.out.2.2.1, (hb.cell (p := ⟨g3, 3, none⟩) HC1.out.2).trans C3.out.2.2.2⟩
              have Hwr : Hid (OwnF wq.heap.size wr x acc ∧ Below wq.heap.size wq wr) := ⟨hox, hbx⟩
              have HSV : Hid (∀ W', Below wq.heap.size wq W' → W'.cell? ⟨c, 0, none⟩ = some (.slice (some ⟨b, off, none⟩) N cap) ∧ W'.cell? ⟨b, off + k * 4, none⟩ = some (.string (bs p)) ∧ W'.cell? ⟨g3, 0, none⟩ = some (.string (bs q))) := fun W' hb => ⟨(HCW.out W' hb).1, (HCW.out W' hb).2.1, (HCW.out W' hb).2.2.2.2.2.1⟩
              have i1 : (0 : Int) ≤ (k : Int) := by omega
              have i2 : (k : Int) < (N : Int) := by omega
              have z0 := (HCW.out wr hbx).1
              have HPL : Hid (p.length ≤ 1000000000 ∧ q.length ≤ 1000000000) := ⟨by omega, by omega⟩
              clear d0 d1 d2 d3 hox hbx haw hg hpl
              go_wp2_with fail
              refine wp_region_noPanic ?_
              have hbd : Below wq.heap.size wq wr.drew := Hwr.out.2.drew
              have HBD : Hid (Below wq.heap.size wq wr.drew ∧ OwnF wq.heap.size wr.drew x acc) := ⟨hbd, Hwr.out.1.later (Below.refl _ _).drew⟩
              clear hbd Hwr z0
              refine wp_region_held_drew (S := fun W' => W'.cell? ⟨c, 0, none⟩ = some (.slice (some ⟨b, off, none⟩) N cap) ∧ W'.cell? ⟨b, off + k * 4, none⟩ = some (.string (bs p)) ∧ W'.cell? ⟨g3, 0, none⟩ = some (.string (bs q))) (by kernel_rfl) (HSV.out _ HBD.out.1) (fun hHeld => ?_)
              refine wpAnyH_take (i := 0) (oi := { dst := some 40, op := _, type := _, pos := _, after := _, guard := _ }) (v := ?vx1) rfl (by kernel_rfl) (by kernel_rfl) (by kernel_rfl) (fun _ _ _ h => h) (Or.inl ⟨by rfl, ?hyx1⟩) (by assumption) ?restx1
              case hyx1 => (intro w hSw; (try dsimp only at hSw); go_simp; try with_reducible rfl)
              try simp only [Act.put, List.setIfInBounds_toArray, List.set_cons_zero, List.set_cons_succ]
              refine wpAnyH_take (i := 1) (oi := { dst := some 41, op := _, type := _, pos := _, after := _, guard := _ }) (v := ?vx2) rfl (by kernel_rfl) (by kernel_rfl) (by kernel_rfl) (fun _ _ _ h => h) (Or.inl ⟨by rfl, ?hyx2⟩) (by assumption) ?restx2
              case hyx2 => (intro w hSw; (try dsimp only at hSw); go_simp; try with_reducible rfl)
              try simp only [Act.put, List.setIfInBounds_toArray, List.set_cons_zero, List.set_cons_succ]
              refine wpAnyH_take (i := 2) (oi := { dst := some 42, op := _, type := _, pos := _, after := _, guard := _ }) (v := ?vx3) rfl (by kernel_rfl) (by kernel_rfl) (by kernel_rfl) (fun _ _ _ h => h) (Or.inl ⟨by rfl, ?hyx3⟩) (by assumption) ?restx3
              case hyx3 => (intro w hSw; (try dsimp only at hSw); go_simp; try with_reducible rfl)
              try simp only [Act.put, List.setIfInBounds_toArray, List.set_cons_zero, List.set_cons_succ]
              refine wpAnyH_take (i := 3) (oi := { dst := some 43, op := _, type := _, pos := _, after := _, guard := _ }) (v := ?vx4) rfl (by kernel_rfl) (by kernel_rfl) (by kernel_rfl) (fun _ _ _ h => h) (Or.inl ⟨by rfl, ?hyx4⟩) (by assumption) ?restx4
              case hyx4 => (intro w hSw; (try dsimp only at hSw); go_simp; try with_reducible rfl)
              try simp only [Act.put, List.setIfInBounds_toArray, List.set_cons_zero, List.set_cons_succ]
              refine wpAnyH_take (i := 4) (oi := { dst := some 44, op := _, type := _, pos := _, after := _, guard := _ }) (v := ?vx5) rfl (by kernel_rfl) (by kernel_rfl) (by kernel_rfl) (fun _ _ _ h => h) (Or.inl ⟨by rfl, ?hyx5⟩) (by assumption) ?restx5
              case hyx5 => (intro w hSw; (try dsimp only at hSw); go_simp; try with_reducible rfl)
              try simp only [Act.put, List.setIfInBounds_toArray, List.set_cons_zero, List.set_cons_succ]
              refine wpAnyH_take (i := 5) (oi := { dst := some 45, op := _, type := _, pos := _, after := _, guard := _ }) (v := ?vx6) rfl (by kernel_rfl) (by kernel_rfl) (by kernel_rfl) (fun _ _ _ h => h) (Or.inl ⟨by rfl, ?hyx6⟩) (by assumption) ?restx6
              case hyx6 => (intro w hSw; (try dsimp only at hSw); go_simp; try with_reducible rfl)
              try simp only [Act.put, List.setIfInBounds_toArray, List.set_cons_zero, List.set_cons_succ]
              refine wpAnyH_take (i := 6) (oi := { dst := some 46, op := _, type := _, pos := _, after := _, guard := _ }) (v := ?vx7) rfl (by kernel_rfl) (by kernel_rfl) (by kernel_rfl) (fun _ _ _ h => h) (Or.inl ⟨by rfl, ?hyx7⟩) (by assumption) ?restx7
              case hyx7 => (intro w hSw; (try dsimp only at hSw); go_simp; try with_reducible rfl)
              try simp only [Act.put, List.setIfInBounds_toArray, List.set_cons_zero, List.set_cons_succ]
              refine wpAnyH_take (i := 7) (oi := { dst := some 47, op := _, type := _, pos := _, after := _, guard := _ }) (v := ?vx8) rfl (by kernel_rfl) (by kernel_rfl) (by kernel_rfl) (fun _ _ _ h => h) (Or.inl ⟨by rfl, ?hyx8⟩) (by assumption) ?restx8
              case hyx8 => (intro w hSw; (try dsimp only at hSw); go_simp; try with_reducible rfl)
              try simp only [Act.put, List.setIfInBounds_toArray, List.set_cons_zero, List.set_cons_succ]
              refine wpAnyH_take (i := 8) (oi := { dst := some 48, op := _, type := _, pos := _, after := _, guard := _ }) (v := ?vx9) rfl (by kernel_rfl) (by kernel_rfl) (by kernel_rfl) (fun _ _ _ h => h) (Or.inl ⟨by rfl, ?hyx9⟩) (by assumption) ?restx9
              case hyx9 => (intro w hSw; (try dsimp only at hSw); go_simp; try with_reducible rfl)
              try simp only [Act.put, List.setIfInBounds_toArray, List.set_cons_zero, List.set_cons_succ]
              refine wpAnyH_take (i := 9) (oi := { dst := some 49, op := _, type := _, pos := _, after := _, guard := _ }) (v := ?vx10) rfl (by kernel_rfl) (by kernel_rfl) (by kernel_rfl) (fun _ _ _ h => h) (Or.inl ⟨by rfl, ?hyx10⟩) (by assumption) ?restx10
              case hyx10 => (intro w hSw; (try dsimp only at hSw); go_simp; try with_reducible rfl)
              try simp only [Act.put, List.setIfInBounds_toArray, List.set_cons_zero, List.set_cons_succ]
              refine wpAnyH_ready (rs := [10]) (by kernel_rfl) (by simp) ?_
              refine AllReadyH.cons (o := { dst := some 50, op := _, type := _, pos := _, after := _, guard := _ }) rfl (fun K hK => ?_) AllReadyH.nil
              go_simp
              (with_reducible refine (rcmp_any p q _ HPL.out.1 HPL.out.2).mono ?_)
              rintro e w4 ⟨rfl, hb4⟩
              have Hw4 : Hid (OwnF wq.heap.size w4 x acc ∧ Below wq.heap.size wq w4) := ⟨HBD.out.2.later hb4, HBD.out.1.trans (below_mono hb4 HBD.out.1.size)⟩
              rw [hcm]
              clear hb4
              refine hK.out _ _ (HSV.out _ Hw4.out.2) (fun hHeld => ?_)
              clear hK K
              try simp only [List.setIfInBounds_toArray, List.set_cons_zero, List.set_cons_succ]
              refine wpAnyH_take (i := 11) (oi := { dst := some 9, op := _, type := _, pos := _, after := _, guard := _ }) (v := ?vx11) rfl (by kernel_rfl) (by kernel_rfl) (by kernel_rfl) (fun _ _ _ h => h) (Or.inl ⟨by rfl, ?hyx11⟩) (by assumption) ?restx11
              case hyx11 => (intro w hSw; (try dsimp only at hSw); go_simp; try with_reducible rfl)
              try simp only [Act.put, List.setIfInBounds_toArray, List.set_cons_zero, List.set_cons_succ]
              refine wpAnyH_done (by kernel_rfl) ?_ _
              refine NoPanic.normal ?_
              clear hHeld HBD HSV
              cases ld with
              | false =>
                simp only [Bool.toNat_false, Nat.add_zero] at hal
                rcases (show cm < 0 ∨ cm = 0 ∨ 0 < cm by omega) with sg | sg | sg
                · have s1 : ¬ 0 ≤ cm := by omega
                  have s1d : decide (0 ≤ cm) = false := decide_eq_false s1
                  have s2 : (cm == 0) = false := by simp; omega
                  have s3 : (cm != 0) = true := by simp; omega
                  have heq : (acc ++ [(⟨p, pt, pb, ps⟩ : Fl)]) ++ wlk f (T1.fs.drop (k + 1)) false = insF f T1.fs := by
                    rw [← HW.out, HFL.out]
                    have d1 : decide (0 ≤ cm) = false := by simp; omega
                    rw [d1]
                    simp [show ¬ cm = 0 by omega]
                  have HEQ : Hid ((acc ++ [(⟨p, pt, pb, ps⟩ : Fl)]) ++ wlk f (T1.fs.drop (k + 1)) false = insF f T1.fs) := heq
                  clear heq
                  clear HW
                  obtain ⟨y0, y1, y2, y3, y4, y5, y6, y7, y8⟩ := HCW.out w4 Hw4.out.2
                  go_wp2_with (at_builtin; apply hold)
                  unfold Hid
                  refine app_files (base := wq.heap.size) (l := acc) (k := [⟨p, pt, pb, ps⟩]) (Hw4.out.1.later (balloc _ _)) (src_file w4 ⟨p, pt, pb, ps⟩) (by simp; omega) (by have := Hw4.out.2.size; simp; omega) rfl (.tmp 63) (.tmp 71) rfl rfl rfl ?_
                  intro v5 w5 k1 k2 k3
                  have Hw5 : Hid (OwnF wq.heap.size w5 v5 (acc ++ [⟨p, pt, pb, ps⟩]) ∧ Below wq.heap.size wq w5) := ⟨k1, (Hw4.out.2.trans (below_mono (balloc w4 _) Hw4.out.2.size)).grown k2 (by have := Hw4.out.2.size; simp; omega) (fun k hk => (Hw4.out.1.lt hk).1)⟩
                  clear k1 k2 k3 y0 y1 y2 y3 y4 y5 y6 y7 y8
                  go_wp2_with fail
                  go_roundw
                  case rel => exact ⟨k + 1, false, (acc ++ [(⟨p, pt, pb, ps⟩ : Fl)]), v5, by omega, rfl, rfl, by go_num, by simp; omega, HEQ.out, Hw5.out.1, Hw5.out.2⟩
                  case measure => simp [intOf]; omega
                · subst sg
                  have heq : (acc ++ [(⟨q, tx, bl, sz⟩ : Fl)]) ++ wlk f (T1.fs.drop (k + 1)) true = insF f T1.fs := by
                    rw [← HW.out, HFL.out]
                    have d1 : decide ((0 : Int) ≤ 0) = true := by rfl
                    rw [d1]
                    simp
                  have HEQ : Hid ((acc ++ [(⟨q, tx, bl, sz⟩ : Fl)]) ++ wlk f (T1.fs.drop (k + 1)) true = insF f T1.fs) := heq
                  clear heq
                  clear HW
                  obtain ⟨y0, y1, y2, y3, y4, y5, y6, y7, y8⟩ := HCW.out w4 Hw4.out.2
                  go_wp2_with (at_builtin; apply hold)
                  unfold Hid
                  refine app_files (base := wq.heap.size) (l := acc) (k := [⟨q, tx, bl, sz⟩]) (Hw4.out.1.later (balloc _ _)) (src_file w4 ⟨q, tx, bl, sz⟩) (by simp; omega) (by have := Hw4.out.2.size; simp; omega) rfl (.tmp 57) (.tmp 59) rfl rfl rfl ?_
                  intro v5 w5 k1 k2 k3
                  have Hw5 : Hid (OwnF wq.heap.size w5 v5 (acc ++ [⟨q, tx, bl, sz⟩]) ∧ Below wq.heap.size wq w5) := ⟨k1, (Hw4.out.2.trans (below_mono (balloc w4 _) Hw4.out.2.size)).grown k2 (by have := Hw4.out.2.size; simp; omega) (fun k hk => (Hw4.out.1.lt hk).1)⟩
                  clear k1 k2 k3 y0 y1 y2 y3 y4 y5 y6 y7 y8
                  go_wp2_with fail
                  go_roundw
                  case rel => exact ⟨k + 1, true, (acc ++ [(⟨q, tx, bl, sz⟩ : Fl)]), v5, by omega, rfl, rfl, by go_num, by simp; omega, HEQ.out, Hw5.out.1, Hw5.out.2⟩
                  case measure => simp [intOf]; omega
                · have s1 : 0 ≤ cm := by omega
                  have s1d : decide (0 ≤ cm) = true := decide_eq_true s1
                  have s2 : (cm == 0) = false := by simp; omega
                  have s3 : (cm != 0) = true := by simp; omega
                  have heq : ((acc ++ [(⟨q, tx, bl, sz⟩ : Fl)]) ++ [(⟨p, pt, pb, ps⟩ : Fl)]) ++ wlk f (T1.fs.drop (k + 1)) true = insF f T1.fs := by
                    rw [← HW.out, HFL.out]
                    have d1 : decide (0 ≤ cm) = true := by simp; omega
                    rw [d1]
                    simp [show ¬ cm = 0 by omega]
                  have HEQ : Hid (((acc ++ [(⟨q, tx, bl, sz⟩ : Fl)]) ++ [(⟨p, pt, pb, ps⟩ : Fl)]) ++ wlk f (T1.fs.drop (k + 1)) true = insF f T1.fs) := heq
                  clear heq
                  clear HW
                  obtain ⟨y0, y1, y2, y3, y4, y5, y6, y7, y8⟩ := HCW.out w4 Hw4.out.2
                  go_wp2_with (at_builtin; apply hold)
                  unfold Hid
                  refine app_files (base := wq.heap.size) (l := acc) (k := [⟨q, tx, bl, sz⟩]) (Hw4.out.1.later (balloc _ _)) (src_file w4 ⟨q, tx, bl, sz⟩) (by simp; omega) (by have := Hw4.out.2.size; simp; omega) rfl (.tmp 57) (.tmp 59) rfl rfl rfl ?_
                  intro v5 w5 k1 k2 k3
                  have Hw5 : Hid (OwnF wq.heap.size w5 v5 (acc ++ [⟨q, tx, bl, sz⟩]) ∧ Below wq.heap.size wq w5) := ⟨k1, (Hw4.out.2.trans (below_mono (balloc w4 _) Hw4.out.2.size)).grown k2 (by have := Hw4.out.2.size; simp; omega) (fun k hk => (Hw4.out.1.lt hk).1)⟩
                  clear k1 k2 k3 y0 y1 y2 y3 y4 y5 y6 y7 y8
                  obtain ⟨y0, y1, y2, y3, y4, y5, y6, y7, y8⟩ := HCW.out w5 Hw5.out.2
                  go_wp2_with (at_builtin; apply hold)
                  unfold Hid
                  refine app_files (base := wq.heap.size) (l := (acc ++ [(⟨q, tx, bl, sz⟩ : Fl)])) (k := [⟨p, pt, pb, ps⟩]) (Hw5.out.1.later (balloc _ _)) (src_file w5 ⟨p, pt, pb, ps⟩) (by simp; omega) (by have := Hw5.out.2.size; simp; omega) rfl (.tmp 63) (.tmp 71) rfl rfl rfl ?_
                  intro v6 w6 k1 k2 k3
                  have Hw6 : Hid (OwnF wq.heap.size w6 v6 ((acc ++ [(⟨q, tx, bl, sz⟩ : Fl)]) ++ [⟨p, pt, pb, ps⟩]) ∧ Below wq.heap.size wq w6) := ⟨k1, (Hw5.out.2.trans (below_mono (balloc w5 _) Hw5.out.2.size)).grown k2 (by have := Hw5.out.2.size; simp; omega) (fun k hk => (Hw5.out.1.lt hk).1)⟩
                  clear k1 k2 k3 y0 y1 y2 y3 y4 y5 y6 y7 y8
                  go_wp2_with fail
                  go_roundw
                  case rel => exact ⟨k + 1, true, ((acc ++ [(⟨q, tx, bl, sz⟩ : Fl)]) ++ [(⟨p, pt, pb, ps⟩ : Fl)]), v6, by omega, rfl, rfl, by go_num, by simp; omega, HEQ.out, Hw6.out.1, Hw6.out.2⟩
                  case measure => simp [intOf]; omega
              | true =>
                simp only [Bool.toNat_true] at hal
                rcases (show cm < 0 ∨ cm = 0 ∨ 0 < cm by omega) with sg | sg | sg
                · have s1 : ¬ 0 ≤ cm := by omega
                  have s1d : decide (0 ≤ cm) = false := decide_eq_false s1
                  have s2 : (cm == 0) = false := by simp; omega
                  have s3 : (cm != 0) = true := by simp; omega
                  have heq : (acc ++ [(⟨p, pt, pb, ps⟩ : Fl)]) ++ wlk f (T1.fs.drop (k + 1)) true = insF f T1.fs := by
                    rw [← HW.out, HFL.out]
                    have d1 : decide (0 ≤ cm) = false := by simp; omega
                    rw [d1]
                    simp [show ¬ cm = 0 by omega]
                  have HEQ : Hid ((acc ++ [(⟨p, pt, pb, ps⟩ : Fl)]) ++ wlk f (T1.fs.drop (k + 1)) true = insF f T1.fs) := heq
                  clear heq
                  clear HW
                  obtain ⟨y0, y1, y2, y3, y4, y5, y6, y7, y8⟩ := HCW.out w4 Hw4.out.2
                  go_wp2_with (at_builtin; apply hold)
                  unfold Hid
                  refine app_files (base := wq.heap.size) (l := acc) (k := [⟨p, pt, pb, ps⟩]) (Hw4.out.1.later (balloc _ _)) (src_file w4 ⟨p, pt, pb, ps⟩) (by simp; omega) (by have := Hw4.out.2.size; simp; omega) rfl (.tmp 63) (.tmp 71) rfl rfl rfl ?_
                  intro v5 w5 k1 k2 k3
                  have Hw5 : Hid (OwnF wq.heap.size w5 v5 (acc ++ [⟨p, pt, pb, ps⟩]) ∧ Below wq.heap.size wq w5) := ⟨k1, (Hw4.out.2.trans (below_mono (balloc w4 _) Hw4.out.2.size)).grown k2 (by have := Hw4.out.2.size; simp; omega) (fun k hk => (Hw4.out.1.lt hk).1)⟩
                  clear k1 k2 k3 y0 y1 y2 y3 y4 y5 y6 y7 y8
                  go_wp2_with fail
                  go_roundw
                  case rel => exact ⟨k + 1, true, (acc ++ [(⟨p, pt, pb, ps⟩ : Fl)]), v5, by omega, rfl, rfl, by go_num, by simp; omega, HEQ.out, Hw5.out.1, Hw5.out.2⟩
                  case measure => simp [intOf]; omega
                · subst sg
                  have heq : acc ++ wlk f (T1.fs.drop (k + 1)) true = insF f T1.fs := by
                    rw [← HW.out, HFL.out]
                    have d1 : decide ((0 : Int) ≤ 0) = true := by rfl
                    rw [d1]
                    simp
                  have HEQ : Hid (acc ++ wlk f (T1.fs.drop (k + 1)) true = insF f T1.fs) := heq
                  clear heq
                  clear HW
                  go_wp2_with fail
                  go_roundw
                  case rel => exact ⟨k + 1, true, acc, x, by omega, rfl, rfl, by go_num, by simp; omega, HEQ.out, Hw4.out.1, Hw4.out.2⟩
                  case measure => simp [intOf]; omega
                · have s1 : 0 ≤ cm := by omega
                  have s1d : decide (0 ≤ cm) = true := decide_eq_true s1
                  have s2 : (cm == 0) = false := by simp; omega
                  have s3 : (cm != 0) = true := by simp; omega
                  have heq : (acc ++ [(⟨p, pt, pb, ps⟩ : Fl)]) ++ wlk f (T1.fs.drop (k + 1)) true = insF f T1.fs := by
                    rw [← HW.out, HFL.out]
                    have d1 : decide (0 ≤ cm) = true := by simp; omega
                    rw [d1]
                    simp [show ¬ cm = 0 by omega]
                  have HEQ : Hid ((acc ++ [(⟨p, pt, pb, ps⟩ : Fl)]) ++ wlk f (T1.fs.drop (k + 1)) true = insF f T1.fs) := heq
                  clear heq
                  clear HW
                  obtain ⟨y0, y1, y2, y3, y4, y5, y6, y7, y8⟩ := HCW.out w4 Hw4.out.2
                  go_wp2_with (at_builtin; apply hold)
                  unfold Hid
                  refine app_files (base := wq.heap.size) (l := acc) (k := [⟨p, pt, pb, ps⟩]) (Hw4.out.1.later (balloc _ _)) (src_file w4 ⟨p, pt, pb, ps⟩) (by simp; omega) (by have := Hw4.out.2.size; simp; omega) rfl (.tmp 63) (.tmp 71) rfl rfl rfl ?_
                  intro v5 w5 k1 k2 k3
                  have Hw5 : Hid (OwnF wq.heap.size w5 v5 (acc ++ [⟨p, pt, pb, ps⟩]) ∧ Below wq.heap.size wq w5) := ⟨k1, (Hw4.out.2.trans (below_mono (balloc w4 _) Hw4.out.2.size)).grown k2 (by have := Hw4.out.2.size; simp; omega) (fun k hk => (Hw4.out.1.lt hk).1)⟩
                  clear k1 k2 k3 y0 y1 y2 y3 y4 y5 y6 y7 y8
                  go_wp2_with fail
                  go_roundw
                  case rel => exact ⟨k + 1, true, (acc ++ [(⟨p, pt, pb, ps⟩ : Fl)]), v5, by omega, rfl, rfl, by go_num, by simp; omega, HEQ.out, Hw5.out.1, Hw5.out.2⟩
                  case measure => simp [intOf]; omega
            · obtain rfl : k = N := by omega
              have z0 := (hbx.cell (p := ⟨c, 0, none⟩) HC1.out.1).trans C0.out.1
              rw [List.drop_eq_nil_of_le (by have := HNn.out; omega)] at haw
              have Hwr : Hid (OwnF wq.heap.size wr x acc ∧ Below wq.heap.size wq wr) := ⟨hox, hbx⟩
              clear hox hbx
              go_wp2_with fail
              refine HK_.out _ _ ?_
              clear HK_ z0
              cases ld with
              | true =>
                have HE : Hid (acc = insF f T1.fs) := show acc = insF f T1.fs by simpa [wlk] using haw
                rw [HE.out] at Hwr
                obtain ⟨ga, gc, e⟩ := Hwr.out.1.form
                subst e
                clear hal
                generalize hnn : (insF f T1.fs).length = nn at *
                have hbk : wr.heap[c]? = wq.heap[c]? := Hwr.out.2.block c HC1.out.1
                have e1 := (cell_stay hbk 0).trans C0.out.1
                have g1 : wr.frozen? ⟨c, 0, none⟩ = false := frz_block hbk C0.out.2
                clear hbk
                go_wp2_with fail
                go_ret
                rw [← HR.out, hfile.out, if_pos YES.out]
                exact ⟨rfl, RT.putF H2.out.1 H2.out.2.1 Hwr.out.2 Hwr.out.1⟩
              | false =>
                simp only [Bool.toNat_false, Nat.add_zero] at hal
                have HE : Hid (acc ++ [⟨q, tx, bl, sz⟩] = insF f T1.fs) := show acc ++ [⟨q, tx, bl, sz⟩] = insF f T1.fs by
                  have := haw
                  simp only [wlk] at this
                  rw [HFL.out] at this ⊢
                  simpa using this
                obtain ⟨y0, y1, y2, y3⟩ : wr.cell? ⟨g3, 0, none⟩ = some (.string (bs q)) ∧ wr.cell? ⟨g3, 1, none⟩ = some (.string (bs tx)) ∧ wr.cell? ⟨g3, 2, none⟩ = some (.int .i64 bl) ∧ wr.cell? ⟨g3, 3, none⟩ = some (.int .i64 sz) :=
                  ⟨(Hwr.out.2.cell (p := ⟨g3, 0, none⟩) HC1.out.2).trans C3.out.1, (Hwr.out.2.cell (p := ⟨g3, 1, none⟩) HC1.out.2).trans C3.out.2.1, (Hwr.out.2.cell (p := ⟨g3, 2, none⟩) HC1.out.2).trans C3.out.2.2.1, (Hwr.out.2.cell (p := ⟨g3, 3, none⟩) HC1.out.2).trans C3.out.2.2.2⟩
                go_wp2_with (at_builtin; apply hold)
                unfold Hid
                refine app_files (base := wq.heap.size) (l := acc) (k := [⟨q, tx, bl, sz⟩]) (Hwr.out.1.later (balloc _ _)) (src_file wr ⟨q, tx, bl, sz⟩) (by simp; omega) (by have := Hwr.out.2.size; simp; omega) rfl (.tmp 75) (.tmp 77) rfl rfl rfl ?_
                intro v5 w5 k1 k2 k3
                have Hw5 : Hid (OwnF wq.heap.size w5 v5 (acc ++ [⟨q, tx, bl, sz⟩]) ∧ Below wq.heap.size wq w5) := ⟨k1, (Hwr.out.2.trans (below_mono (balloc wr _) Hwr.out.2.size)).grown k2 (by have := Hwr.out.2.size; simp; omega) (fun k hk => (Hwr.out.1.lt hk).1)⟩
                clear k1 k2 k3 y0 y1 y2 y3
                rw [HE.out] at Hw5
                obtain ⟨ga, gc, e⟩ := Hw5.out.1.form
                subst e
                clear hal
                generalize hnn : (insF f T1.fs).length = nn at *
                have hbk : w5.heap[c]? = wq.heap[c]? := Hw5.out.2.block c HC1.out.1
                have e1 := (cell_stay hbk 0).trans C0.out.1
                have g1 : w5.frozen? ⟨c, 0, none⟩ = false := frz_block hbk C0.out.2
                clear hbk
                go_wp2_with fail
                go_ret
                rw [← HR.out, hfile.out, if_pos YES.out]
                exact ⟨rfl, RT.putF H2.out.1 H2.out.2.1 Hw5.out.2 Hw5.out.1⟩
      · go_wp2_with fail
        go_ret
        rw [← HR.out, hfile.out, if_neg (by unfold wrB; rw [HFL.out]; simp [hb3])]
        exact ⟨rfl, H2.out.1, H2.out.2.1⟩
    · have h0b : (e0 == 0) = false := by simpa using h0
      have h0c : (e0 != 0) = true := by simpa using h0
      go_wp2_with fail
      go_ret
      rw [← HR.out, show T.wr f = T.step [] (wrG f) from rfl, step_do hc, HT.out]
      unfold wrG
      rw [if_neg (by rw [HE0.out]; exact h0), HE0.out]
      exact ⟨rfl, H2.out.1, H2.out.2.1⟩
end Go.Proofs.YtlkkmcibjhoneaaGreatDoor
