/-
  The landed plan: the paths that were changed by hand, gathered.
-/
import Derived.Test.YtfdcfcalbongeaaGreatJKi
namespace Go.Proofs.YtfdcfcalbongeaaGreat
open Go.RowKit Go.Maps
attribute [local go_sem] Oper.semAt_some

theorem RGK.app {w w' : World} {b r N cnt base : Nat} {F : List UInt8 → Option Fl} {left : List UInt8 → Bool} {v : Value} {l : List (List UInt8)} (h : RGK w b r F N left cnt) (ho : Own base w v l) (hg : w.grownBy w' v.ownBlock) : RGK w' b r F N left cnt := by
  refine h.stay (hg.block b h.ltb fun e => ?_) (hg.block r h.lt fun e => h.ne ho e.symm)
  obtain ⟨D, lf, ⟨es, clock, since, seen, c0, k1, k2, k3, k4, k5, k6⟩, h3⟩ := h
  rcases ho.2 with ⟨rfl, _⟩ | ⟨g, cap, cur, rfl, _, hg', _⟩
  · cases e
  · simp only [Value.ownBlock, Option.some.injEq] at e
    subst e
    rw [hg'] at k1
    cases k1
set_option maxHeartbeats 16000000 in
set_option maxRecDepth 100000 in
theorem lchanged_any {w : World} {vf vo : Value} {files old : List Fl} (hf : FS w vf files) (ho : FS w vo old) (lf : files.length ≤ 1500000) (lo : old.length ≤ 1500000) (pf : ∀ f ∈ files, f.path.length ≤ 1500000) (po : ∀ f ∈ old, f.path.length ≤ 1500000) :
    Calls Tryz.prog 28 #[vf, vo] w fun e w' => ∃ v C, e = .returned v ∧ Own w.heap.size w' v C ∧ C.Nodup ∧ (∀ x, x ∈ C ↔ chg files old x = true) ∧ C.length ≤ 3000000 ∧ Below w.heap.size w w' := by
  have HF : Hid (Calls Tryz.prog 45 #[vf] w fun e w' => ∃ b cnt, e = .returned (.map (some b)) ∧ MP cF w' b (fnd files) cnt ∧ cnt ≤ 1500000 ∧ Below w.heap.size w w') := lfirsts_any hf lf pf
  have HO : Hid (∀ W, Below w.heap.size w W → Calls Tryz.prog 45 #[vo] W fun e w' => ∃ b cnt, e = .returned (.map (some b)) ∧ MP cF w' b (fnd old) cnt ∧ cnt ≤ 1500000 ∧ Below W.heap.size W w') := fun W h => lfirsts_any (ho.later h) lo po
  have HL : Hid ((∀ x, (fnd files x).isSome = true → Lk x) ∧ ∀ x, (fnd old x).isSome = true → Lk x) := ⟨fnd_lk pf, fnd_lk po⟩
  clear hf ho lf lo pf po
  go_enter Tryz.func28, Tryz.ntmps28
  go_wp2_with fail
  refine HF.out.mono ?_
  rintro e w1 ⟨bi, ni, rfl, hm1, hc1, hb1⟩
  have H1 : Hid (MP cF w1 bi (fnd files) ni ∧ ni ≤ 1500000 ∧ Below w.heap.size w w1) := ⟨hm1, hc1, hb1⟩
  clear hm1 hc1 hb1 HF
  go_wp2_with fail
  refine (HO.out _ H1.out.2.2).mono ?_
  rintro e w2 ⟨bw, nw, rfl, hm2, hc2, hb2⟩
  have H2 : Hid (MP cF w2 bi (fnd files) ni ∧ MP cF w2 bw (fnd old) nw ∧ ni ≤ 1500000 ∧ nw ≤ 1500000 ∧ Below w.heap.size w w2) := ⟨H1.out.1.later hb2, hm2, H1.out.2.1, hc2, bstep H1.out.2.2 hb2⟩
  clear hm2 hc2 hb2 HO H1
  go_wp2_with (first | (at_range; refine wp_rangeK H2.out.1 rfl _ rfl rfl ?_; intro w3 left0 hrg0 hl0 hb3 hs3))
  go_frame
  obtain ⟨r, hr⟩ : ∃ r, w2.heap.size = r := ⟨_, rfl⟩
  rw [hr] at hrg0 hb3 ⊢
  have H3 : Hid (RGK w3 bi r (fnd files) ni left0 ni ∧ Below r w2 w3 ∧ w2.heap.size = r ∧ w.heap.size ≤ r ∧ ∀ x, (fnd files x).isSome = true → left0 x = true) := ⟨hrg0, hb3, hr, by have := H2.out.2.2.2.2.size; omega, fun x hx => (hl0 x).2 ⟨HL.out.1 x hx, hx⟩⟩
  clear hrg0 hl0 hb3 hs3 hr
  go_loopw [7] (fun u wr => ∃ (left : List UInt8 → Bool) (cn : Nat) (C : List (List UInt8)), RGK wr bi r (fnd files) ni left cn ∧ Cg1 files old left C ∧ Own r wr u C ∧ Below r w2 wr ∧ C.length + cn ≤ ni)
    (fun _ wr => wr.rangeLeft bi r)
  case atStart => exact ⟨_, _, [], H3.out.1, Cg1.start H3.out.2.2.2.2, Own.nil _ _, H3.out.2.1, by simp⟩
  case round =>
    obtain ⟨left, cn, C, hrg, hC, ho, hb, hz⟩ := hrel
    have HX : Hid (RGK wr bi r (fnd files) ni left cn ∧ Cg1 files old left C ∧ Own r wr u7 C ∧ Below r w2 wr ∧ C.length + cn ≤ ni ∧ r ≤ wr.heap.size) := ⟨hrg, hC, ho, hb, hz, by have := hb.size; have := H3.out.2.2.1; omega⟩
    clear hrg hC ho hb hz
    go_wp2_with (first | (at_next; refine wp_nextK HX.out.1 rfl _ rfl rfl ?_ ?_))
    · intro hl
      have HD : Hid (∀ k, left k = false) := hl
      clear hl
      have HWo : Hid (MP cF wr bw (fnd old) nw) := (H2.out.2.1.later (by rw [H3.out.2.2.1]; exact HX.out.2.2.2.1))
      go_wp2_with (first | (at_range; refine wp_rangeK HWo.out rfl _ rfl rfl ?_; intro w5 left5 hrg5 hl5 hb5 hs5))
      go_frame
      obtain ⟨r2, hr2⟩ : ∃ x, wr.heap.size = x := ⟨_, rfl⟩
      rw [hr2] at hrg5 ⊢
      have H5 : Hid (RGK w5 bw r2 (fnd old) nw left5 nw ∧ Cg2 files old left5 C ∧ Own r w5 u7 C ∧ Below r w2 w5 ∧ C.length ≤ ni ∧ r ≤ r2 ∧ r ≤ w5.heap.size) := by
        have hx := HX.out
        refine ⟨hrg5, hx.2.1.next HD.out (fun x h => (hl5 x).2 ⟨HL.out.2 x h, h⟩), hx.2.2.1.later hb5, below_trans hx.2.2.2.1 (below_mono hb5 hx.2.2.2.2.2), by have := hx.2.2.2.2.1; omega, by have := hx.2.2.2.2.2; omega, by have := hx.2.2.2.2.2; omega⟩
      clear hrg5 hl5 hb5 hs5 hr2 HX
      rename World => wA
      go_loopw [7] (fun u wr => ∃ (left : List UInt8 → Bool) (cn : Nat) (C : List (List UInt8)), RGK wr bw r2 (fnd old) nw left cn ∧ Cg2 files old left C ∧ Own r wr u C ∧ Below r w2 wr ∧ C.length + cn ≤ ni + nw)
        (fun _ wr => wr.rangeLeft bw r2)
      case atStart => exact ⟨_, _, C, H5.out.1, H5.out.2.1, H5.out.2.2.1, H5.out.2.2.2.1, by have := H5.out.2.2.2.2.1; omega⟩
      case round =>
        obtain ⟨left, cn, C2, hrg, hC, ho, hb, hz⟩ := hrel
        have HX : Hid (RGK wr bw r2 (fnd old) nw left cn ∧ Cg2 files old left C2 ∧ Own r wr u7 C2 ∧ Below r w2 wr ∧ C2.length + cn ≤ ni + nw ∧ r ≤ wr.heap.size) := ⟨hrg, hC, ho, hb, hz, by have := hb.size; have := H3.out.2.2.1; omega⟩
        clear hrg hC ho hb hz
        go_wp2_with (first | (at_next; refine wp_nextK HX.out.1 rfl _ rfl rfl ?_ ?_))
        · intro hl
          have HE : Hid (Own w.heap.size wr u7 C2 ∧ C2.Nodup ∧ (∀ x, x ∈ C2 ↔ chg files old x = true) ∧ C2.length ≤ 3000000 ∧ Below w.heap.size w wr) := by
            have hx := HX.out
            have h2 := H2.out
            have h3 := H3.out
            refine ⟨hx.2.2.1.mono h3.2.2.2.1, hx.2.1.nd, hx.2.1.done hl, by have := hx.2.2.2.2.1; omega, bstep h2.2.2.2.2 (by rw [h3.2.2.1]; exact hx.2.2.2.1)⟩
          clear hl
          go_wp2_with fail
          go_ret
          exact ⟨_, C2, rfl, HE.out.1, HE.out.2.1, HE.out.2.2.1, HE.out.2.2.2.1, HE.out.2.2.2.2⟩
        · intro k f w4 cn4 hlk hLk hFk hrg4 hlt hg4 hs4 hen
          have hx := HX.out
          have hne := hx.1.ne hx.2.2.1
          have H4 : Hid (RGK w4 bw r2 (fnd old) nw (fun z => left z && !(z == k)) cn4 ∧ Own r w4 u7 C2 ∧ Below r w2 w4 ∧ r ≤ w4.heap.size ∧ cn4 < cn ∧ wr.rangeLeft bw r2 = cn ∧ C2.length + cn ≤ ni + nw ∧ Cg2 files old left C2) := ⟨hrg4, hx.2.2.1.grownI hg4 hne, belowI hx.2.2.2.1 hx.2.2.2.2.2 hg4 H5.out.2.2.2.2.2.1, by rw [hs4]; exact hx.2.2.2.2.2, hlt, hx.1.left_eq, hx.2.2.2.2.1, hx.2.1⟩
          have HK : Hid (left k = true ∧ Lk k ∧ fnd old k = some f) := ⟨hlk, hLk, hFk⟩
          clear hrg4 hg4 hs4 hlk hLk hFk hx hne hlt HX
          obtain ⟨z, hz⟩ : ∃ z, at_ cF (fnd files k) = z := ⟨_, rfl⟩
          obtain ⟨q, hq⟩ : ∃ q, (fnd files k).isSome = q := ⟨_, rfl⟩
          obtain ⟨p, t, bl, sz⟩ := f
          have hm := H2.out.1.later (w' := w4) (by rw [H3.out.2.2.1]; exact H4.out.2.2.1)
          have hl := hm.look HK.out.2.1 true
          rw [hz, hq] at hl
          obtain ⟨zp, zt, zb, zs⟩ := z
          have hl2 : (Instr.lookup 69 (.map (some bi)) (.string (bs k)) true).run Tryz.prog w4 = .ok (.tuple #[.agg #[.string (bs zp), .string (bs zt), .int .i64 zb, .int .i64 zs], .bool q]) w4 := hl
          have HQ : Hid ((fnd files k).isSome = q) := hq
          have HA : Hid (RGK (w4.alloc (.cells #[.string (bs zp), .string (bs zt), .int .i64 zb, .int .i64 zs] 30)) bw r2 (fnd old) nw (fun z => left z && !(z == k)) cn4 ∧ Own r (w4.alloc (.cells #[.string (bs zp), .string (bs zt), .int .i64 zb, .int .i64 zs] 30)) u7 C2 ∧ Below r w2 (w4.alloc (.cells #[.string (bs zp), .string (bs zt), .int .i64 zb, .int .i64 zs] 30)) ∧ r ≤ (w4.alloc (.cells #[.string (bs zp), .string (bs zt), .int .i64 zb, .int .i64 zs] 30)).heap.size) := by
            have hb6 := balloc w4 (.cells #[.string (bs zp), .string (bs zt), .int .i64 zb, .int .i64 zs] 30)
            exact ⟨H4.out.1.later hb6, H4.out.2.1.later hb6, below_trans H4.out.2.2.1 (below_mono hb6 H4.out.2.2.2.1), Nat.le_trans H4.out.2.2.2.1 hb6.size⟩
          clear hm hl hz hq
          have hcl : C2.length + 1 ≤ 8796093022208 := by have := H4.out.2.2.2.2.2.2.1; have := H2.out.2.2.1; have := H2.out.2.2.2.1; omega
          cases q with
          | true =>
            go_wp2_with fail
            go_roundw
            case rel => exact ⟨_, cn4, _, HA.out.1, H4.out.2.2.2.2.2.2.2.skip HQ.out, HA.out.2.1, HA.out.2.2.1, by have := H4.out; omega⟩
            case measure => rw [HA.out.1.left_eq, H4.out.2.2.2.2.2.1]; exact H4.out.2.2.2.2.1
          | false =>
            go_wp2_with (at_builtin; refine app_oneN (base := r) k (by simp) HA.out.2.1 hcl HA.out.2.2.2 rfl (.tmp 57) (.tmp 59) rfl rfl rfl ?_; intro v7 w7 ho7 hb7 hz7 hg7 _; have H7 : Hid (RGK w7 bw r2 (fnd old) nw (fun z => left z && !(z == k)) cn4 ∧ Own r w7 v7 (C2 ++ [k]) ∧ Below r w2 w7) := ⟨HA.out.1.app HA.out.2.1 hg7, ho7, below_trans HA.out.2.2.1 hb7⟩; clear ho7 hb7 hz7 hg7)
            go_roundw
            case rel => exact ⟨_, cn4, _, H7.out.1, H4.out.2.2.2.2.2.2.2.add HK.out.1 HQ.out (by rw [HK.out.2.2]; rfl), H7.out.2.1, H7.out.2.2, by have := H4.out; simp; omega⟩
            case measure => rw [H7.out.1.left_eq, H4.out.2.2.2.2.2.1]; exact H4.out.2.2.2.2.1
    · intro k f w4 cn4 hlk hLk hFk hrg4 hlt hg4 hs4 hen
      have hx := HX.out
      have hne := hx.1.ne hx.2.2.1
      have H4 : Hid (RGK w4 bi r (fnd files) ni (fun z => left z && !(z == k)) cn4 ∧ Own r w4 u7 C ∧ Below r w2 w4 ∧ r ≤ w4.heap.size ∧ cn4 < cn ∧ wr.rangeLeft bi r = cn ∧ C.length + cn ≤ ni ∧ Cg1 files old left C) := ⟨hrg4, hx.2.2.1.grownI hg4 hne, belowI hx.2.2.2.1 hx.2.2.2.2.2 hg4 (Nat.le_refl _), by rw [hs4]; exact hx.2.2.2.2.2, hlt, hx.1.left_eq, hx.2.2.2.2.1, hx.2.1⟩
      have HK : Hid (left k = true ∧ Lk k ∧ fnd files k = some f) := ⟨hlk, hLk, hFk⟩
      clear hrg4 hg4 hs4 hlk hLk hFk hx hne hlt HX
      have hcs := chg_some (old := old) HK.out.2.2
      obtain ⟨z, hz⟩ : ∃ z, at_ cF (fnd old k) = z := ⟨_, rfl⟩
      obtain ⟨q, hq⟩ : ∃ q, (fnd old k).isSome = q := ⟨_, rfl⟩
      obtain ⟨p, t, bl, sz⟩ := f
      have hm := H2.out.2.1.later (w' := w4.alloc (.cells #[.string (bs p), .string (bs t), .int .i64 bl, .int .i64 sz] 30)) (by rw [H3.out.2.2.1]; exact below_trans H4.out.2.2.1 (below_mono (balloc _ _) H4.out.2.2.2.1))
      have hl := hm.look HK.out.2.1 true
      rw [hz, hq] at hl hcs
      obtain ⟨zp, zt, zb, zs⟩ := z
      have hl2 : (Instr.lookup 69 (.map (some bw)) (.string (bs k)) true).run Tryz.prog (w4.alloc (.cells #[.string (bs p), .string (bs t), .int .i64 bl, .int .i64 sz] 30)) = .ok (.tuple #[.agg #[.string (bs zp), .string (bs zt), .int .i64 zb, .int .i64 zs], .bool q]) (w4.alloc (.cells #[.string (bs p), .string (bs t), .int .i64 bl, .int .i64 sz] 30)) := hl
      obtain ⟨b, hb⟩ : ∃ b, feq ⟨zp, zt, zb, zs⟩ ⟨p, t, bl, sz⟩ = b := ⟨_, rfl⟩
      rw [hb] at hcs
      have HCc : Hid (chg files old k = (!q || !b)) := hcs
      clear hcs hm hl hz hq
      obtain ⟨wz, hwz⟩ : ∃ x, (w4.alloc (.cells #[.string (bs p), .string (bs t), .int .i64 bl, .int .i64 sz] 30)).alloc (.cells #[.string (bs zp), .string (bs zt), .int .i64 zb, .int .i64 zs] 30) = x := ⟨_, rfl⟩
      have hbz : Below w4.heap.size w4 wz := by rw [← hwz]; exact bstep (balloc _ _) (balloc _ _)
      have hz1 : w4.heap.size + 1 < wz.heap.size := by rw [← hwz]; simp
      obtain ⟨fx0, fx1, fx2, fx3⟩ := file_cells (balloc (w4.alloc (.cells #[.string (bs p), .string (bs t), .int .i64 bl, .int .i64 sz] 30)) (.cells #[.string (bs zp), .string (bs zt), .int .i64 zb, .int .i64 zs] 30))
      obtain ⟨zx0, zx1, zx2, zx3⟩ := file_cells (w := w4.alloc (.cells #[.string (bs p), .string (bs t), .int .i64 bl, .int .i64 sz] 30)) (p := zp) (t := zt) (bl := zb) (sz := zs) (Below.refl _ _)
      rw [hwz] at fx0 fx1 fx2 fx3 zx0 zx1 zx2 zx3
      have hzz : (w4.alloc (.cells #[.string (bs p), .string (bs t), .int .i64 bl, .int .i64 sz] 30)).heap.size = w4.heap.size + 1 := by simp
      rw [hzz] at zx0 zx1 zx2 zx3
      have OA : Hid (Below w4.heap.size w4 wz) := hbz
      have q1 := neq_run
      have q2 := fguard_run
      have H6 : Hid (RGK wz bi r (fnd files) ni (fun z => left z && !(z == k)) cn4 ∧ Own r wz u7 C ∧ Below r w2 wz ∧ r ≤ wz.heap.size) := ⟨H4.out.1.later hbz, H4.out.2.1.later hbz, below_trans H4.out.2.2.1 (below_mono hbz H4.out.2.2.2.1), Nat.le_trans H4.out.2.2.2.1 hbz.size⟩
      have hz6 := H6.out.2.2.2
      have hcl : C.length + 1 ≤ 8796093022208 := by have := H4.out.2.2.2.2.2.2.1; have := H2.out.2.2.1; omega
      clear hz1 hzz hbz
      cases q with
      | false =>
        go_wp2_with (at_builtin; refine app_one (base := r) k H6.out.2.1 hcl hz6 rfl (.tmp 39) (.tmp 41) rfl rfl rfl ?_; intro v7 w7 ho7 hb7 hz7 hg7 _; have H7 : Hid (RGK w7 bi r (fnd files) ni (fun z => left z && !(z == k)) cn4 ∧ Own r w7 v7 (C ++ [k]) ∧ Below r w2 w7) := ⟨H6.out.1.app H6.out.2.1 hg7, ho7, below_trans H6.out.2.2.1 hb7⟩; clear ho7 hb7 hz7 hg7)
        go_roundw
        case rel => exact ⟨_, cn4, _, H7.out.1, H4.out.2.2.2.2.2.2.2.add HK.out.1 (by rw [HK.out.2.2]; rfl) (by rw [HCc.out]; simp), H7.out.2.1, H7.out.2.2, by have := H4.out; simp; omega⟩
        case measure => rw [H7.out.1.left_eq, H4.out.2.2.2.2.2.1]; exact H4.out.2.2.2.2.1
      | true =>
        cases b with
        | false =>
          go_wp2_with (at_builtin; refine app_one (base := r) k H6.out.2.1 hcl hz6 rfl (.tmp 39) (.tmp 41) rfl rfl rfl ?_; intro v7 w7 ho7 hb7 hz7 hg7 _; have H7 : Hid (RGK w7 bi r (fnd files) ni (fun z => left z && !(z == k)) cn4 ∧ Own r w7 v7 (C ++ [k]) ∧ Below r w2 w7) := ⟨H6.out.1.app H6.out.2.1 hg7, ho7, below_trans H6.out.2.2.1 hb7⟩; clear ho7 hb7 hz7 hg7)
          go_roundw
          case rel => exact ⟨_, cn4, _, H7.out.1, H4.out.2.2.2.2.2.2.2.add HK.out.1 (by rw [HK.out.2.2]; rfl) (by rw [HCc.out]; simp), H7.out.2.1, H7.out.2.2, by have := H4.out; simp; omega⟩
          case measure => rw [H7.out.1.left_eq, H4.out.2.2.2.2.2.1]; exact H4.out.2.2.2.2.1
        | true =>
          go_wp2_with fail
          go_roundw
          case rel => exact ⟨_, cn4, _, H6.out.1, H4.out.2.2.2.2.2.2.2.skip HK.out.1 (by rw [HCc.out]; simp), H6.out.2.1, H6.out.2.2.1, by have := H4.out; omega⟩
          case measure => rw [H6.out.1.left_eq, H4.out.2.2.2.2.2.1]; exact H4.out.2.2.2.2.1
end Go.Proofs.YtfdcfcalbongeaaGreat
