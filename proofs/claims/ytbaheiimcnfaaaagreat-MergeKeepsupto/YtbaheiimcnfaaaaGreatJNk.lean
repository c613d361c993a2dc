/-
  A candidate taken out of the row: slices.Delete.
  Prices: which is the cheaper one.
  The least by a measure.
-/
import Derived.Test.YtbaheiimcnfaaaaGreatJNh
namespace Go.Proofs.YtbaheiimcnfaaaaGreat
open Go.RowKit Go.Maps
attribute [local go_sem] Oper.semAt_some

theorem c_hi (g n cap : Nat) (b : Int) (k : Nat) (hk : b = k) (hb : k ≤ cap) (hc : cap ≠ 0) (W : World) : (Instr.slice 65 (.slice (some ⟨g, 0, none⟩) n cap) none (some (.int .i64 b)) none).run Tryz.prog W = .ok (.slice (some ⟨g, 0, none⟩) k cap) W := by
  subst hk
  rw [run_slice_h (P := Tryz.prog) (w := W) 65 _ n cap el65' .i64 (k : Int) (by omega) (by omega), el65, Tryz.sizeOf87]
  simp only [Result.andThen_ok, sliced, Int.toNat_natCast, Option.map_some, Addr.add_lit]
  rw [if_neg hc]
  simp
theorem c_lo (g n cap : Nat) (a : Int) (k : Nat) (hk : a = k) (ha : k ≤ n) (hc : n ≤ cap) : ∃ o, (∀ W, (Instr.slice 65 (.slice (some ⟨g, 0, none⟩) n cap) (some (.int .i64 a)) none none).run Tryz.prog W = .ok (.slice (some ⟨g, o, none⟩) (n - k) (cap - k)) W) ∧ (o = k * 3 ∨ n - k = 0) := by
  subst hk
  by_cases h : k < cap
  · refine ⟨k * 3, fun W => ?_, .inl rfl⟩
    rw [run_slice_l (P := Tryz.prog) (w := W) 65 _ n cap el65' .i64 (k : Int) (by omega) (by omega), el65, Tryz.sizeOf87]
    simp only [Result.andThen_ok, sliced, Int.toNat_natCast, Option.map_some, Addr.add_lit]
    rw [if_neg (by omega), Nat.zero_add]
  · refine ⟨0, fun W => ?_, .inr (by omega)⟩
    rw [run_slice_l (P := Tryz.prog) (w := W) 65 _ n cap el65' .i64 (k : Int) (by omega) (by omega), el65, Tryz.sizeOf87]
    simp only [Result.andThen_ok, sliced, Int.toNat_natCast, Option.map_some, Addr.add_lit]
    rw [if_pos (by omega)]
theorem c_mid (g n cap : Nat) (a b : Int) (k j : Nat) (hk : a = k) (hj : b = j) (hkj : k ≤ j) (hjc : j ≤ cap) (hc : k < cap) (W : World) : (Instr.slice 65 (.slice (some ⟨g, 0, none⟩) n cap) (some (.int .i64 a)) (some (.int .i64 b)) none).run Tryz.prog W = .ok (.slice (some ⟨g, k * 3, none⟩) (j - k) (cap - k)) W := by
  subst hk
  subst hj
  rw [run_slice_lh (P := Tryz.prog) (w := W) 65 _ n cap el65' .i64 .i64 (k : Int) (j : Int) (by omega) (by omega) (by omega), el65, Tryz.sizeOf87]
  simp only [Result.andThen_ok, sliced, Int.toNat_natCast, Option.map_some, Addr.add_lit]
  rw [if_neg (by omega), Nat.zero_add]
theorem zc3_one (n : Nat) : ∀ v ∈ (Builtin.zeroCells (Value.agg #[.string ⟨#[]⟩, .int .i64 0, .int .i64 0]).cells n).toList, v.oneCell' = true := by
  intro v hv
  unfold Builtin.zeroCells at hv
  have h3 : (Value.agg #[.string ⟨#[]⟩, .int .i64 0, .int .i64 0]).cells = #[.string ⟨#[]⟩, .int .i64 0, .int .i64 0] := rfl
  rw [h3] at hv
  simp at hv
  obtain ⟨i, hi, rfl⟩ := hv
  have : i % 3 = 0 ∨ i % 3 = 1 ∨ i % 3 = 2 := by omega
  rcases this with h | h | h <;> rw [h] <;> rfl
set_option maxRecDepth 100000 in
set_option maxHeartbeats 4000000 in
theorem cdel_any {base : Nat} {w : World} {g cap : Nat} {l : List Cnd} {rest : List Value} (h : RW 87 3 base w g cap (cc l) rest) (i m : Nat) (hi : i + 1 + m = l.length) (hl : l.length ≤ 4000000) :
    Calls Tryz.prog 58 #[.slice (some ⟨g, 0, none⟩) l.length cap, .int .i64 (i : Int), .int .i64 ((i : Int) + 1)] w fun e w' => e = .returned (.slice (some ⟨g, 0, none⟩) (i + m) cap) ∧ (∃ rest', RW 87 3 base w' g cap (cc (l.take i ++ l.drop (i + 1))) rest') ∧ Only [g] w w' := by
  have hsz := h.sz
  rw [cc_length] at hsz
  have hcm := h.cm
  unfold maxLen at hcm
  obtain ⟨i0, hq, hz0, hz1, hz2⟩ := info_parts info87
  have hd : RW 87 3 base w.drew g cap (cc l) rest := ⟨h.blk, h.ge, h.cm, h.sz⟩
  obtain ⟨o, hlo, hoo⟩ := c_lo g l.length cap ((i : Int) + 1) (i + 1) (by omega) (by omega) (by omega)
  rw [show l.length - (i + 1) = m by omega] at hlo hoo
  have hdl : (l.drop (i + 1)).length = m := by simp; omega
  obtain ⟨w1, hap, hr1, ho1⟩ := hd.app und65 hq hz1 i ⟨g, o, none⟩ m (cap - (i + 1)) (cc (l.drop (i + 1))) (by rw [cc_length, hdl]) (fun t u hu => by
    have ht := (List.getElem?_eq_some_iff.1 hu).1
    rw [cc_length, hdl] at ht
    rcases hoo with rfl | h0
    · rw [add_lit]
      refine hd.cell ?_
      have e1 := cc_drop l (i + 1) (by omega) rest
      have e2 : ((cc l ++ rest).drop ((i + 1) * 3))[t]? = some u := by rw [e1, List.getElem?_append_left (by rw [cc_length, hdl]; exact ht)]; exact hu
      rwa [List.getElem?_drop] at e2
    · subst h0; omega) (by omega) (cc_one _)
  rw [cc_take l i (by omega), ← cc_append] at hr1
  have h1s : (cc (l.take i ++ l.drop (i + 1))).length = (i + m) * 3 := by rw [cc_length]; simp; omega
  obtain ⟨w2, hcl, hr2, ho2⟩ := hr1.clear und65 zero87 rfl ((i + m) * 3) 1 (cap - (i + m)) (by omega) (zc3_one _)
  rw [← h1s, List.take_left, h1s] at hr2
  have H2 : Hid ((∃ rest', RW 87 3 base w2 g cap (cc (l.take i ++ l.drop (i + 1))) rest') ∧ Only [g] w w2) := ⟨⟨_, hr2⟩, (Only.drew _ w 1).trans (ho1.trans ho2)⟩
  have hs1 := c_hi g l.length cap (i : Int) i rfl (by omega) (by omega)
  have hs2 := c_mid g (i + m) cap ((i : Int) + m) (l.length : Int) (i + m) l.length (by omega) rfl (by omega) (by omega) (by omega)
  rw [show l.length - (i + m) = 1 by omega] at hs2
  obtain ⟨n, hn⟩ : ∃ n, l.length = n := ⟨_, rfl⟩
  rw [hn] at hi hl hlo hs1 hs2 hsz ⊢
  obtain ⟨D, hD⟩ : ∃ D, Value.slice (some ⟨g, (i + m) * 3, none⟩) 1 (cap - (i + m)) = D := ⟨_, rfl⟩
  rw [hD] at hs2 hcl
  clear h hd hr1 ho1 h1s hr2 ho2 hdl hoo hn hD
  have k1 : ¬ ((i : Int) = (i : Int) + 1) := by omega
  have k2 : (i : Int) + 1 ≤ (n : Int) := by omega
  have k3 : (n : Int) ≤ (cap : Int) := by omega
  have k4 : (0 : Int) ≤ (i : Int) := by omega
  go_enter Tryz.func58, Tryz.ntmps58
  go_wp2_with fail
  go_region_held3 (fun _ => True) (exact trivial) (first | (refine step_app_run rfl (.tmp 22) (.tmp 25) 65 65 rfl (.slice (some ⟨g, 0, none⟩) i cap) (.slice (some ⟨g, o, none⟩) m (cap - (i + 1))) rfl rfl (hap _) ?_))
  go_wp2_with fail
  go_ret
  exact ⟨rfl, H2.out.1, H2.out.2⟩
end Go.Proofs.YtbaheiimcnfaaaaGreat

namespace Go.Proofs.YtbaheiimcnfaaaaGreat
open Go.RowKit Go.Maps
attribute [local go_sem] Oper.semAt_some

theorem hset (w : World) (g i : Nat) (v : Value) {cur : Array Value} {e : TypeId} {fr : Nat × Nat} (h : w.heap[g]? = some (.cells cur e fr)) : (w.setCell ⟨g, i, none⟩ v).heap[g]? = some (.cells (cur.setIfInBounds i v) e fr) := by
  simp [World.setCell, Array.getElem?_modify, h]
def cmpI (a b : Int) : Int := if a < b then -1 else if b < a then 1 else 0
def chp (c d c' d' : Int) : Int := if c = c' then cmpI d' d else cmpI c c'
theorem chp_neg {c d c' d' : Int} : chp c d c' d' < 0 ↔ c < c' ∨ (c = c' ∧ d' < d) := by
  unfold chp cmpI
  split <;> split <;> (try split) <;> omega
set_option maxRecDepth 100000 in
theorem compare_i (a b : Int) (w : World) : Calls Tryz.prog 92 #[.int .i64 a, .int .i64 b] w fun e w' => e = .returned (.int .i64 (cmpI a b)) ∧ w' = w := by
  have hn : ∀ (x : Int) (W : World), Calls Tryz.prog 122 #[.int .i64 x] W fun e w' => e = .returned (.bool false) ∧ w' = W := fun x W => by
    go_enter Tryz.func122, Tryz.ntmps122
    go_wp2_with fail
    go_ret
    exact ⟨by simp, rfl⟩
  have HN := hid_of hn
  clear hn
  have HQ : Hid (cmpI a b = if a < b then -1 else if b < a then 1 else 0) := rfl
  by_cases h1 : a < b
  · go_enter Tryz.func92, Tryz.ntmps92
    go_wp2_with fail
    refine (HN.out a w).mono ?_
    rintro e w1 ⟨rfl, rfl⟩
    go_wp2_with fail
    refine (HN.out b w1).mono ?_
    rintro e w1 ⟨rfl, rfl⟩
    go_wp2_with fail
    go_ret
    rw [HQ.out, if_pos h1]
    exact ⟨rfl, rfl⟩
  · by_cases h2 : b < a
    · go_enter Tryz.func92, Tryz.ntmps92
      go_wp2_with fail
      refine (HN.out a w).mono ?_
      rintro e w1 ⟨rfl, rfl⟩
      go_wp2_with fail
      refine (HN.out b w1).mono ?_
      rintro e w1 ⟨rfl, rfl⟩
      go_wp2_with fail
      go_ret
      rw [HQ.out, if_neg (by omega), if_pos h2]
      exact ⟨rfl, rfl⟩
    · go_enter Tryz.func92, Tryz.ntmps92
      go_wp2_with fail
      refine (HN.out a w).mono ?_
      rintro e w1 ⟨rfl, rfl⟩
      go_wp2_with fail
      refine (HN.out b w1).mono ?_
      rintro e w1 ⟨rfl, rfl⟩
      go_wp2_with fail
      go_ret
      rw [HQ.out, if_neg (by omega), if_neg (by omega)]
      exact ⟨rfl, rfl⟩
set_option maxRecDepth 100000 in
set_option maxHeartbeats 4000000 in
theorem cheaper_any (c d c' d' : Int) (w : World) : Calls Tryz.prog 57 #[.agg #[.int .i64 c, .int .i64 d], .agg #[.int .i64 c', .int .i64 d']] w fun e w' => e = .returned (.int .i64 (chp c d c' d')) ∧ Below w.heap.size w w' := by
  have HC := hid_of (fun a b W => compare_i a b W)
  have HQ : Hid (chp c d c' d' = if c = c' then cmpI d' d else cmpI c c') := rfl
  by_cases h : c = c'
  · go_enter Tryz.func57, Tryz.ntmps57
    go_wp2_with fail
    refine (HC.out _ _ _).mono ?_
    rintro e w1 ⟨rfl, rfl⟩
    go_wp2_with fail
    go_ret
    rw [HQ.out, if_pos h]
    exact ⟨rfl, bstep (balloc _ _) (balloc _ _)⟩
  · go_enter Tryz.func57, Tryz.ntmps57
    go_wp2_with fail
    refine (HC.out _ _ _).mono ?_
    rintro e w1 ⟨rfl, rfl⟩
    go_wp2_with fail
    go_ret
    rw [HQ.out, if_neg h]
    exact ⟨rfl, bstep (balloc _ _) (balloc _ _)⟩
set_option maxRecDepth 100000 in
set_option maxHeartbeats 4000000 in
theorem price_any {w : World} {gm : Nat} {cost : Int} (c : Cnd) (hgm : gm < w.heap.size) (h : w.cell? ⟨gm, 1, none⟩ = some (.int .i64 cost)) (h1 : 0 ≤ cost ∧ cost ≤ 9223372036854775807) (h2 : 0 ≤ c.a ∧ c.a ≤ 9223372036854775807) :
    Calls Tryz.prog 56 #[.pointer (some ⟨gm, 0, none⟩), c.val] w fun e w' => e = .returned (.agg #[.int .i64 (tog cost c.a), .int .i64 c.d]) ∧ Below w.heap.size w w' := by
  obtain ⟨x, d, a⟩ := c
  unfold Cnd.val
  simp only at h2 ⊢
  have HT := hid_of (fun W => together_any cost a W h1 h2)
  clear h1 h2
  go_enter Tryz.func56, Tryz.ntmps56
  go_wp2_with fail
  have hgm2 : ((w.alloc (.cells #[.string (bs x), .int .i64 d, .int .i64 a] 87)).alloc (.cells #[.int .i64 0, .int .i64 0] 90)).cell? ⟨gm, 1, none⟩ = some (.int .i64 cost) := by
    rw [(bstep (balloc w (.cells #[.string (bs x), .int .i64 d, .int .i64 a] 87)) (balloc _ (.cells #[.int .i64 0, .int .i64 0] 90))).cell (p := ⟨gm, 1, none⟩) hgm]
    exact h
  have hb2 : ((w.alloc (.cells #[.string (bs x), .int .i64 d, .int .i64 a] 87)).alloc (.cells #[.int .i64 0, .int .i64 0] 90)).cell? ⟨w.heap.size, 2, none⟩ = some (.int .i64 a) := by simp
  have hb1 : ((w.alloc (.cells #[.string (bs x), .int .i64 d, .int .i64 a] 87)).alloc (.cells #[.int .i64 0, .int .i64 0] 90)).cell? ⟨w.heap.size, 1, none⟩ = some (.int .i64 d) := by simp
  have hr : ((w.alloc (.cells #[.string (bs x), .int .i64 d, .int .i64 a] 87)).alloc (.cells #[.int .i64 0, .int .i64 0] 90)).heap[w.heap.size + 1]? = some (.cells #[.int .i64 0, .int .i64 0] 90 (0, 0)) := by
    have := heap_alloc_new (w.alloc (.cells #[.string (bs x), .int .i64 d, .int .i64 a] 87)) (.cells #[.int .i64 0, .int .i64 0] 90)
    simpa using this
  have hB := bstep (balloc w (.cells #[.string (bs x), .int .i64 d, .int .i64 a] 87)) (balloc _ (.cells #[.int .i64 0, .int .i64 0] 90))
  generalize ((w.alloc (.cells #[.string (bs x), .int .i64 d, .int .i64 a] 87)).alloc (.cells #[.int .i64 0, .int .i64 0] 90)) = W at hgm2 hb2 hb1 hr hB ⊢
  have HB := hid_of hB
  have HR := hid_of hr
  have hr0 : W.cell? ⟨w.heap.size + 1, 0, none⟩ = some (.int .i64 0) := by simp [World.cell?, hr]
  have hr1 : W.cell? ⟨w.heap.size + 1, 1, none⟩ = some (.int .i64 0) := by simp [World.cell?, hr]
  have hf0 : W.frozen? ⟨w.heap.size + 1, 0, none⟩ = false := by simp [World.frozen?, hr]
  have hf1 : W.frozen? ⟨w.heap.size + 1, 1, none⟩ = false := by simp [World.frozen?, hr]
  have hne : gm ≠ w.heap.size + 1 := by omega
  obtain ⟨G, hG⟩ : ∃ G, w.heap.size = G := ⟨_, rfl⟩
  rw [hG] at hb2 hb1 hr0 hr1 hf0 hf1 hne ⊢
  have hKS : ∀ u v : Value, ((W.setCell ⟨G + 1, 0, none⟩ u).setCell ⟨G + 1, 1, none⟩ v).drew.cell? ⟨gm, 1, none⟩ = some (.int .i64 cost) ∧ ((W.setCell ⟨G + 1, 0, none⟩ u).setCell ⟨G + 1, 1, none⟩ v).drew.cell? ⟨G, 2, none⟩ = some (.int .i64 a) ∧ ((W.setCell ⟨G + 1, 0, none⟩ u).setCell ⟨G + 1, 1, none⟩ v).drew.cell? ⟨G, 1, none⟩ = some (.int .i64 d) := fun u v => by
    have ho := (Only.set W (G + 1) 0 u).trans (Only.set _ (G + 1) 1 v)
    have hsz := HB.out.size
    have hlt : G + 1 < W.heap.size := by rw [← hG]; exact (Array.getElem?_eq_some_iff.1 hr).1
    refine ⟨(World.cell?_of_block (ho.block gm (by omega) (by simpa using hne))).trans hgm2, (World.cell?_of_block (ho.block G (by omega) (by simp))).trans hb2, (World.cell?_of_block (ho.block G (by omega) (by simp))).trans hb1⟩
  have HK := hid_of hKS
  clear hB hr h hKS
  go_region_held3 (fun w' => w'.cell? ⟨gm, 1, none⟩ = some (.int .i64 cost) ∧ w'.cell? ⟨G, 2, none⟩ = some (.int .i64 a) ∧ w'.cell? ⟨G, 1, none⟩ = some (.int .i64 d)) (first | (with_reducible exact ⟨hgm2, hb2, hb1⟩) | (exact HK.out _ _) | go_keep) (first | (go_at_call 47; (refine (HT.out _).mono ?_); rintro e w1 ⟨rfl, rfl⟩))
  go_wp2_with fail
  refine bodyPost_ret (results_cell_row rfl _ _ (G + 1) 90 #[.int .i64 (tog cost a), .int .i64 d] (0, 0) _ rfl ?_ Tryz.underlying90 rfl (by kernel_rfl)) rfl ?_
  · have hr := HR.out
    rw [hG] at hr
    show ((W.setCell ⟨G + 1, 0, none⟩ (.int .i64 (tog cost a))).setCell ⟨G + 1, 1, none⟩ (.int .i64 d)).heap[G + 1]? = _
    rw [hset _ _ _ _ (hset _ _ _ _ hr)]
    rfl
  · refine ⟨rfl, ?_⟩
    have ho := ((Only.set W (G + 1) 0 (.int .i64 (tog cost a))).trans (Only.set _ (G + 1) 1 (.int .i64 d))).trans (Only.drew _ _ 1)
    exact below_trans HB.out (ho.below HB.out.size (fun x hx => by simp at hx; omega))
end Go.Proofs.YtbaheiimcnfaaaaGreat

namespace Go.Proofs.YtbaheiimcnfaaaaGreat
open Go.RowKit Go.Maps
attribute [local go_sem] Oper.semAt_some

def plt (cost : Int) (x y : Cnd) : Prop := tog cost x.a < tog cost y.a ∨ (tog cost x.a = tog cost y.a ∧ y.d < x.d)
def Fst (cost : Int) (C : List Cnd) (b i : Nat) : Prop := ∃ hb : b < C.length, (∀ j (hj : j < C.length), j < b → plt cost (C[b]'hb) (C[j]'hj)) ∧ (∀ j (hj : j < C.length), b ≤ j → j < i → ¬ plt cost (C[j]'hj) (C[b]'hb))
theorem Fst.start {cost : Int} {C : List Cnd} (h : C ≠ []) : Fst cost C 0 0 := ⟨List.length_pos_iff.2 h, fun j hj h1 => by omega, fun j hj h1 h2 => by omega⟩
theorem Fst.stay {cost : Int} {C : List Cnd} {b i : Nat} (h : Fst cost C b i) (hi : i < C.length) (hb : b < C.length) (hn : ¬ plt cost (C[i]'hi) (C[b]'hb)) : Fst cost C b (i + 1) := by
  obtain ⟨_, h1, h2⟩ := h
  refine ⟨hb, h1, fun j hj h3 h4 => ?_⟩
  by_cases e : j = i
  · subst e; exact hn
  · exact h2 j hj h3 (by omega)
theorem Fst.next {cost : Int} {C : List Cnd} {b i : Nat} (h : Fst cost C b i) (hi : i < C.length) (hb : b < C.length) (hn : plt cost (C[i]'hi) (C[b]'hb)) : Fst cost C i (i + 1) := by
  obtain ⟨_, h1, h2⟩ := h
  refine ⟨hi, fun j hj h3 => ?_, fun j hj h3 h4 => ?_⟩
  · by_cases e : j < b
    · have := h1 j hj e
      unfold plt at *
      omega
    · have := h2 j hj (by omega) h3
      unfold plt at *
      omega
  · have : j = i := by omega
    subst this
    unfold plt
    omega
def LowB (w : World) (g : Nat) (cost : Int) (C : List Cnd) (b : Nat) : Prop := ∃ hb : b < C.length, w.heap[g]? = some (.cells #[.int .i64 (tog cost (C[b]'hb).a), .int .i64 (C[b]'hb).d] 90 (0, 0))
theorem LowB.later {w w' : World} {g : Nat} {cost : Int} {C : List Cnd} {b : Nat} (h : LowB w g cost C b) (hb : Below w.heap.size w w') : LowB w' g cost C b := by
  obtain ⟨h1, h2⟩ := h
  exact ⟨h1, (hb.block g (Array.getElem?_eq_some_iff.1 h2).1).trans h2⟩
def LeP (w : World) (C : List Cnd) (cost : Int) (e : Ending) (w' : World) : Prop := ∃ b : Nat, e = .returned (.int .i64 b) ∧ Fst cost C b C.length ∧ Below w.heap.size w w'
set_option maxRecDepth 100000 in
set_option maxHeartbeats 4000000 in
theorem least_any {base : Nat} {w : World} {v : Value} {C : List Cnd} {gm : Nat} {cost : Int} (h : OwnC base w v C) (hne : C ≠ []) (hl : C.length ≤ 4000000) (hgm : gm < w.heap.size) (hc : w.cell? ⟨gm, 1, none⟩ = some (.int .i64 cost)) (h1 : 0 ≤ cost ∧ cost ≤ 9223372036854775807) (h2 : ∀ c ∈ C, 0 ≤ c.a ∧ c.a ≤ 9223372036854775807) :
    Calls Tryz.prog 55 #[v, .func (.func 56) #[.pointer (some ⟨gm, 0, none⟩)] #[], .func (.func 57) #[] #[]] w (LeP w C cost) := by
  have HP := hid_of (fun (W : World) (hW : Below w.heap.size w W) (c : Cnd) (hcm : c ∈ C) => price_any (w := W) (gm := gm) (cost := cost) c (Nat.lt_of_lt_of_le hgm hW.size) ((hW.cell (p := ⟨gm, 1, none⟩) hgm).trans hc) h1 (h2 c hcm))
  have HCH := hid_of (fun c d c' d' W => cheaper_any c d c' d' W)
  have HS := hid_of (Fst.start (cost := cost) hne)
  obtain ⟨g, cap, rest, e, hr⟩ := RW.ofC h hne
  have HA : Hid (∀ {W : World}, Below w.heap.size w W → ∀ k, (hk : k < C.length) → W.cell? ⟨g, k * 3, none⟩ = some (.string (bs C[k].p)) ∧ W.cell? ⟨g, k * 3 + 1, none⟩ = some (.int .i64 C[k].d) ∧ W.cell? ⟨g, k * 3 + 2, none⟩ = some (.int .i64 C[k].a)) := fun {W} hW k hk => (hr.later hW).cellC hk
  have h0 : 0 < C.length := List.length_pos_iff.2 hne
  subst e
  obtain ⟨n, hn⟩ : ∃ n, C.length = n := ⟨_, rfl⟩
  rw [hn] at hl ⊢
  have HN : Hid (C.length = n) := hn
  have h0n : 0 < n := by omega
  have k0 : (0 : Int) < (n : Int) := by omega
  clear h hne hr hc h1 h2 hn
  obtain ⟨d0, d1, d2⟩ := HA.out (Below.refl _ w) 0 h0
  rw [Nat.zero_mul] at d0 d1 d2
  have HP0 := hid_of (HP.out w (Below.refl _ _) _ (List.getElem_mem h0))
  have HX : Hid (∃ x, C[0] = x) := ⟨_, rfl⟩
  obtain ⟨x, hx⟩ := HX
  have HX0 := hid_of hx
  rw [hx] at d0 d1 d2 HP0
  clear hx
  obtain ⟨xp, xd, xa⟩ := x
  unfold Cnd.val at HP0
  simp only [Nat.zero_add] at d0 d1 d2 HP0
  go_enter Tryz.func55, Tryz.ntmps55
  go_wp2_with fail
  refine HP0.out.mono ?_
  rintro e w1 ⟨rfl, hb1⟩
  have HB1 := hid_of hb1
  clear hb1 d0 d1 d2
  go_wp2_with fail
  have HL0 : Hid (LowB (w1.alloc (.cells #[.int .i64 (tog cost xa), .int .i64 xd] 90)) w1.heap.size cost C 0 ∧ Below w.heap.size w (w1.alloc (.cells #[.int .i64 (tog cost xa), .int .i64 xd] 90))) := by
    refine ⟨⟨h0, ?_⟩, bstep HB1.out (balloc _ _)⟩
    rw [HX0.out]
    exact heap_alloc_new _ _
  have HGL : Hid (w.heap.size ≤ w1.heap.size) := HB1.out.size
  generalize w1.heap.size = gl at HL0 HGL ⊢
  go_loopw [7, 9, 10, 11, 19] (fun s7 s9 s10 s11 s19 wr => ∃ i b : Nat, s19 = .int .i64 i ∧ s7 = .int .i64 b ∧ i ≤ n ∧ Fst cost C b i ∧ LowB wr gl cost C b ∧ Below w.heap.size w wr) (fun _ _ _ _ s19 _ => n - (intOf s19).toNat)
  case atStart => exact ⟨0, 0, rfl, rfl, Nat.zero_le _, HS.out, HL0.out.1, HL0.out.2⟩
  case round =>
    obtain ⟨i, b, rfl, rfl, hi, hf, hlb, hb⟩ := hrel
    have HR := hid_of (And.intro hf (And.intro hlb hb))
    clear hf hlb hb
    by_cases hlt : i < n
    · have i1 : (i : Int) < (n : Int) := by omega
      have i2 : (0 : Int) ≤ (i : Int) := by omega
      have hil : i < C.length := by rw [HN.out]; exact hlt
      obtain ⟨hbl, hlow⟩ := HR.out.2.1
      obtain ⟨d0, d1, d2⟩ := HA.out HR.out.2.2 i hil
      have HCI := hid_of (List.getElem_mem hil)
      have HNX := hid_of (And.intro (HR.out.1.stay hil hbl) (HR.out.1.next hil hbl))
      have HPL : Hid (∀ x y : Cnd, plt cost x y ↔ chp (tog cost x.a) x.d (tog cost y.a) y.d < 0) := fun x y => chp_neg.symm
      obtain ⟨y, hy⟩ : ∃ y, C[i] = y := ⟨_, rfl⟩
      obtain ⟨z, hz⟩ : ∃ z, C[b] = z := ⟨_, rfl⟩
      have HYZ := hid_of (And.intro hy hz)
      rw [hy] at d0 d1 d2 HNX HCI
      rw [hz] at hlow HNX
      rw [HPL.out] at HNX
      clear hy hz
      obtain ⟨yp, yd, ya⟩ := y
      obtain ⟨zp, zd, za⟩ := z
      simp only at d0 d1 d2 HNX hlow
      have HLW := hid_of hlow
      have HGW : Hid (gl < wr.heap.size) := (Array.getElem?_eq_some_iff.1 hlow).1
      have HPI := hid_of (HP.out (wr.alloc (.cells #[.string (bs yp), .int .i64 yd, .int .i64 ya] 87)) (bstep HR.out.2.2 (balloc _ _)) _ HCI.out)
      unfold Cnd.val at HPI
      simp only at HPI
      clear hlow
      go_wp2_with fail
      refine HPI.out.mono ?_
      rintro e w2 ⟨rfl, hb2⟩
      have HB2 : Hid (Below wr.heap.size wr w2) := bstep (balloc _ _) hb2
      clear hb2 d0 d1 d2
      have hlow2 : (w2.alloc (.cells #[.int .i64 (tog cost ya), .int .i64 yd] 90)).heap[gl]? = some (.cells #[.int .i64 (tog cost za), .int .i64 zd] 90 (0, 0)) := ((bstep HB2.out (balloc w2 (.cells #[.int .i64 (tog cost ya), .int .i64 yd] 90))).block gl HGW.out).trans HLW.out
      have lc0 : (w2.alloc (.cells #[.int .i64 (tog cost ya), .int .i64 yd] 90)).cell? ⟨gl, 0, none⟩ = some (.int .i64 (tog cost za)) := by simp only [World.cell?, hlow2]; rfl
      have lc1 : (w2.alloc (.cells #[.int .i64 (tog cost ya), .int .i64 yd] 90)).cell? ⟨gl, 1, none⟩ = some (.int .i64 zd) := by simp only [World.cell?, hlow2]; rfl
      have HLW2 := hid_of hlow2
      clear hlow2
      go_wp2_with fail
      refine (HCH.out _ _ _ _ _).mono ?_
      rintro e w3 ⟨rfl, hb3⟩
      obtain ⟨q, hq⟩ : ∃ q, chp (tog cost ya) yd (tog cost za) zd = q := ⟨_, rfl⟩
      rw [hq] at HNX ⊢
      have HB3 : Hid (Below w.heap.size w w3 ∧ Below (w2.alloc (.cells #[.int .i64 (tog cost ya), .int .i64 yd] 90)).heap.size (w2.alloc (.cells #[.int .i64 (tog cost ya), .int .i64 yd] 90)) w3) := ⟨bstep HR.out.2.2 (bstep HB2.out (bstep (balloc _ _) hb3)), hb3⟩
      have HLW3 : Hid (w3.heap[gl]? = some (.cells #[.int .i64 (tog cost za), .int .i64 zd] 90 (0, 0))) := (hb3.block gl (Array.getElem?_eq_some_iff.1 HLW2.out).1).trans HLW2.out
      clear hb3 lc0 lc1 hq
      by_cases hq0 : q < 0
      · have HF := hid_of (HNX.out.2 hq0)
        obtain ⟨gy, hgy⟩ : ∃ gy, w2.heap.size = gy := ⟨_, rfl⟩
        have hyb : w3.heap[gy]? = some (.cells #[.int .i64 (tog cost ya), .int .i64 yd] 90 (0, 0)) := by
          rw [← hgy]
          exact (HB3.out.2.block w2.heap.size (by simp)).trans (heap_alloc_new _ _)
        have hlw := HLW3.out
        have y0 : w3.cell? ⟨gy, 0, none⟩ = some (.int .i64 (tog cost ya)) := by simp only [World.cell?, hyb]; rfl
        have y1 : w3.cell? ⟨gy, 1, none⟩ = some (.int .i64 yd) := by simp only [World.cell?, hyb]; rfl
        have l0 : w3.cell? ⟨gl, 0, none⟩ = some (.int .i64 (tog cost za)) := by simp only [World.cell?, hlw]; rfl
        have l1 : w3.cell? ⟨gl, 1, none⟩ = some (.int .i64 zd) := by simp only [World.cell?, hlw]; rfl
        have f0 : w3.frozen? ⟨gl, 0, none⟩ = false := by simp [World.frozen?, hlw]
        have f1 : w3.frozen? ⟨gl, 1, none⟩ = false := by simp [World.frozen?, hlw]
        have HNE : Hid (gl < gy) := by
          show gl < gy
          have := (Array.getElem?_eq_some_iff.1 HLW.out).1
          have := HB2.out.size
          omega
        have hne2 : gl ≠ gy := Nat.ne_of_lt HNE.out
        rw [hgy]
        clear hyb hlw hgy
        go_wp2_with fail
        go_region
        go_wp2_with fail
        go_roundw
        case rel =>
          refine ⟨i + 1, i, by go_num, rfl, by omega, HF.out, ⟨hil, ?_⟩, ?_⟩
          · rw [HYZ.out.1]
            show ((w3.setCell ⟨gl, 0, none⟩ (.int .i64 (tog cost ya))).setCell ⟨gl, 1, none⟩ (.int .i64 yd)).heap[gl]? = _
            rw [hset _ _ _ _ (hset _ _ _ _ HLW3.out)]
            rfl
          · have ho := ((Only.set w3 gl 0 (.int .i64 (tog cost ya))).trans (Only.set _ gl 1 (.int .i64 yd))).trans (Only.drew _ _ 1)
            exact below_trans HB3.out.1 (ho.below HB3.out.1.size (fun x hx => by have := HGL.out; simp at hx; omega))
        case measure => simp [intOf]; omega
      · have HF := hid_of (HNX.out.1 (by omega))
        go_wp2_with fail
        go_roundw
        case rel => exact ⟨i + 1, b, by go_num, rfl, by omega, HF.out, ⟨hbl, by rw [HYZ.out.2]; exact HLW3.out⟩, HB3.out.1⟩
        case measure => simp [intOf]; omega
    · obtain rfl : i = n := by omega
      have HE : Hid (Fst cost C b C.length) := by have q := HR.out.1; rw [← HN.out] at q; exact q
      go_wp2_with fail
      go_ret
      exact ⟨b, rfl, HE.out, HR.out.2.2⟩
end Go.Proofs.YtbaheiimcnfaaaaGreat
