/-
  Candidates in memory.
  A candidate taken out of the row: slices.Delete.
  Prices: which is the cheaper one.
-/
import Derived.Test.YtbaheiimcnfaaaaGreatNc
import Derived.Test.YtbaheiimcnfaaaaGreatJKn3
import Derived.Test.YtbaheiimcnfaaaaGreatSr
import Derived.Test.YtbaheiimcnfaaaaGreatCv
namespace Go.Proofs.YtbaheiimcnfaaaaGreat
open Go.RowKit Go.Maps
attribute [local go_sem] Oper.semAt_some

/-- a candidate: its directory, its depth, what it adds -/
structure Cnd where
  p : List UInt8
  d : Int
  a : Int
def Cnd.val (c : Cnd) : Value := .agg #[.string (bs c.p), .int .i64 c.d, .int .i64 c.a]
def cc : List Cnd → List Value
  | [] => []
  | c :: r => .string (bs c.p) :: .int .i64 c.d :: .int .i64 c.a :: cc r
theorem cc_length : ∀ l, (cc l).length = l.length * 3
  | [] => rfl
  | f :: r => by simp only [cc, List.length_cons, cc_length r]; omega
theorem cc_append : ∀ a b, cc (a ++ b) = cc a ++ cc b
  | [], b => rfl
  | f :: r, b => by simp [cc, cc_append r b]
theorem cc_one : ∀ (l : List Cnd), ∀ u ∈ cc l, u.oneCell' = true
  | [], u, h => by simp [cc] at h
  | f :: r, u, h => by
    simp only [cc, List.mem_cons] at h
    rcases h with rfl | rfl | rfl | h
    · rfl
    · rfl
    · rfl
    · exact cc_one r u h
theorem cc_get : ∀ (l : List Cnd) (k : Nat) (h : k < l.length), (cc l)[k * 3]? = some (.string (bs l[k].p)) ∧ (cc l)[k * 3 + 1]? = some (.int .i64 l[k].d) ∧ (cc l)[k * 3 + 2]? = some (.int .i64 l[k].a)
  | f :: r, 0, _ => ⟨rfl, rfl, rfl⟩
  | f :: r, k + 1, h => by
    have ih := cc_get r k (by simpa using h)
    rw [show (k + 1) * 3 = k * 3 + 3 by omega]
    simp only [cc, List.getElem_cons_succ]
    exact ih
theorem cc_take (l : List Cnd) (k : Nat) (h : k ≤ l.length) (r : List Value) : (cc l ++ r).take (k * 3) = cc (l.take k) := by
  have e : cc l = cc (l.take k) ++ cc (l.drop k) := by rw [← cc_append, List.take_append_drop]
  have hl : (cc (l.take k)).length = k * 3 := by rw [cc_length, List.length_take]; omega
  rw [e, List.append_assoc, List.take_left' hl]
theorem cc_drop (l : List Cnd) (k : Nat) (h : k ≤ l.length) (r : List Value) : (cc l ++ r).drop (k * 3) = cc (l.drop k) ++ r := by
  have e : cc l = cc (l.take k) ++ cc (l.drop k) := by rw [← cc_append, List.take_append_drop]
  have hl : (cc (l.take k)).length = k * 3 := by rw [cc_length, List.length_take]; omega
  rw [e, List.append_assoc, List.drop_left' hl]
def OwnC (base : Nat) (w : World) (v : Value) (l : List Cnd) : Prop := w.ownsRow base 87 3 v l.length (cc l)
theorem OwnC.nil (base : Nat) (w : World) : OwnC base w (.slice none 0 0) [] := World.ownsRow_nil w base 87 3
theorem OwnC.lt {base : Nat} {w : World} {v : Value} {l : List Cnd} (h : OwnC base w v l) {k : Nat} (hk : v.ownBlock = some k) : base ≤ k ∧ k < w.heap.size := World.ownsRow.lt h k hk
theorem OwnC.only {S : List Nat} {base : Nat} {w w' : World} {v : Value} {l : List Cnd} (h : OwnC base w v l) (ho : Only S w w') (hn : ∀ k, v.ownBlock = some k → k ∉ S) : OwnC base w' v l := by
  rcases h with ⟨h0, h | ⟨g, cap, cur, rfl, hb, hg, hr⟩⟩
  · exact ⟨h0, .inl h⟩
  · exact ⟨h0, .inr ⟨g, cap, cur, rfl, hb, (ho.block g (Array.getElem?_eq_some_iff.1 hg).1 (hn g rfl)).trans hg, hr⟩⟩
theorem OwnC.later {base : Nat} {w w' : World} {v : Value} {l : List Cnd} (h : OwnC base w v l) (hb : Below w.heap.size w w') : OwnC base w' v l :=
  h.only (Only.of_below hb []) (by simp)
theorem RW.ofC {base : Nat} {w : World} {v : Value} {l : List Cnd} (h : OwnC base w v l) (hl : l ≠ []) : ∃ g cap rest, v = .slice (some ⟨g, 0, none⟩) l.length cap ∧ RW 87 3 base w g cap (cc l) rest := by
  rcases h.2 with ⟨rfl, h0⟩ | ⟨g, cap, cur, rfl, hb, hg, hn, hm, hs, ht⟩
  · exact absurd (List.eq_nil_of_length_eq_zero h0) hl
  · refine ⟨g, cap, cur.toList.drop (l.length * 3), rfl, ?_, hb, hm, by simp [cc_length]; omega⟩
    rw [← ht, List.take_append_drop]; simpa using hg
theorem RW.ownC {base : Nat} {w : World} {g cap : Nat} {l : List Cnd} {rest : List Value} (h : RW 87 3 base w g cap (cc l) rest) : OwnC base w (.slice (some ⟨g, 0, none⟩) l.length cap) l := by
  have hs := h.sz
  rw [cc_length] at hs
  exact ⟨cc_length l, .inr ⟨g, cap, _, rfl, h.ge, h.blk, by omega, h.cm, by simp [cc_length]; exact hs, by rw [← cc_length]; simp⟩⟩
theorem RW.cellC {base : Nat} {w : World} {g cap : Nat} {l : List Cnd} {rest : List Value} (h : RW 87 3 base w g cap (cc l) rest) {j : Nat} (hj : j < l.length) :
    w.cell? ⟨g, j * 3, none⟩ = some (.string (bs l[j].p)) ∧ w.cell? ⟨g, j * 3 + 1, none⟩ = some (.int .i64 l[j].d) ∧ w.cell? ⟨g, j * 3 + 2, none⟩ = some (.int .i64 l[j].a) := by
  obtain ⟨h0, h1, h2⟩ := cc_get l j hj
  have hl := cc_length l
  refine ⟨h.cell ?_, h.cell ?_, h.cell ?_⟩
  · rw [List.getElem?_append_left (by omega)]; exact h0
  · rw [List.getElem?_append_left (by omega)]; exact h1
  · rw [List.getElem?_append_left (by omega)]; exact h2
theorem OwnC.form {base : Nat} {w : World} {v : Value} {l : List Cnd} (h : OwnC base w v l) : ∃ a c, v = .slice a l.length c := by
  rcases h.2 with ⟨rfl, h0⟩ | ⟨g, cap, cur, rfl, _⟩
  · exact ⟨_, _, by rw [h0]⟩
  · exact ⟨_, _, rfl⟩
theorem und65 : Tryz.prog.underlying 65 = some (.slice 87) := by kernel_rfl
theorem info87 : (Tryz.prog.info? 87).map (fun i => (i.zero, i.size, i.bytes)) = some (some (.agg #[.string ⟨#[]⟩, .int .i64 0, .int .i64 0]), 3, 32) := by kernel_rfl
theorem el65 : Tryz.prog.elem 65 = 87 := by kernel_rfl
theorem el65' : Tryz.prog.underlying 65 = some (.slice (Tryz.prog.elem 65)) := by kernel_rfl
theorem zero87 : ∀ w, (zeroValue 87).run Tryz.prog w = .ok (.agg #[.string ⟨#[]⟩, .int .i64 0, .int .i64 0]) w := fun w => by kernel_rfl
set_option maxRecDepth 100000 in
theorem against_any (c : Cnd) (p : List UInt8) (w : World) (hc : c.p.length ≤ 1000000000) (hp : p.length ≤ 1000000000) : Calls Tryz.prog 97 #[c.val, .string (bs p)] w fun e w' => e = .returned (.int .i64 (cf c.p p)) ∧ Below w.heap.size w w' := by
  obtain ⟨x, d, a⟩ := c
  unfold Cnd.val
  simp only at hc ⊢
  have HC := hid_of (fun W => cmp_any x p W (by omega) (by omega))
  clear hc hp
  go_enter Tryz.func97, Tryz.ntmps97
  go_wp2_with fail
  refine (HC.out _).mono ?_
  rintro e w1 ⟨rfl, hl⟩
  have H1 := hid_of (bstep (balloc w _) hl.below)
  clear hl
  go_wp2_with fail
  go_ret
  exact ⟨rfl, H1.out⟩
def CsP (w : World) (l : List Cnd) (f : List UInt8) (e : Ending) (w' : World) : Prop := ∃ (a : Nat) (fb : Bool), e = .returned (.tuple #[.int .i64 a, .bool fb]) ∧ ((∃ ha : a < l.length, fb = true ∧ (l[a]'ha).p = f) ∨ (fb = false ∧ ∀ c ∈ l, c.p ≠ f)) ∧ Below w.heap.size w w'
set_option maxRecDepth 100000 in
set_option maxHeartbeats 4000000 in
theorem csearch_any {base : Nat} {w : World} {v : Value} {l : List Cnd} (f : List UInt8) (h : OwnC base w v l) (up : l.Pairwise fun a b => cf a.p b.p < 0) (hl : l.length ≤ 4000000) (hs : ∀ c ∈ l, c.p.length ≤ 1000000000) (hf : f.length ≤ 1000000000) :
    Calls Tryz.prog 96 #[v, .string (bs f), .func (.func 97) #[] #[]] w (CsP w l f) := by
  have HU := hid_of up
  have HC := hid_of (fun c (hc : c ∈ l) (W : World) => against_any c f W (hs c hc) hf)
  have HA : Hid (∀ {W : World}, Below w.heap.size w W → ∀ k, (hk : k < l.length) → ∃ ad c b, v = .slice (some ad) l.length c ∧ ad = ⟨b, 0, none⟩ ∧ W.cell? ⟨b, k * 3, none⟩ = some (.string (bs l[k].p)) ∧ W.cell? ⟨b, k * 3 + 1, none⟩ = some (.int .i64 l[k].d) ∧ W.cell? ⟨b, k * 3 + 2, none⟩ = some (.int .i64 l[k].a)) := fun {W} hW k hk => by
    obtain ⟨g, cap, rest, e, hr⟩ := RW.ofC (h.later hW) (fun e0 => by subst e0; simp at hk)
    exact ⟨_, cap, g, e, rfl, hr.cellC hk⟩
  obtain ⟨ad, c, hv⟩ := h.form
  obtain ⟨n, hn⟩ : ∃ n, l.length = n := ⟨_, rfl⟩
  rw [hn] at hv hl
  have HN : Hid (l.length = n) := hn
  subst hv
  clear h up hs hf hn
  go_enter Tryz.func96, Tryz.ntmps96
  go_wp2_with fail
  go_loopw [9, 10] (fun s9 s10 wr => ∃ (a e : Nat), s9 = .int .i64 a ∧ s10 = .int .i64 e ∧ a ≤ e ∧ e ≤ n ∧ (∀ t (h : t < l.length), t < a → cf (l[t]'h).p f < 0) ∧ (∀ t (h : t < l.length), e ≤ t → 0 ≤ cf (l[t]'h).p f) ∧ Below w.heap.size w wr) (fun s9 s10 _ => (intOf s10).toNat - (intOf s9).toNat)
  case atStart => exact ⟨0, n, rfl, rfl, by omega, Nat.le_refl _, fun t h h' => by omega, fun t h h' => by have := HN.out; omega, Below.refl _ _⟩
  case round =>
    obtain ⟨a, e, rfl, rfl, hae, hen, h1, h2, hb⟩ := hrel
    have HX : Hid ((∀ t (h : t < l.length), t < a → cf (l[t]'h).p f < 0) ∧ (∀ t (h : t < l.length), e ≤ t → 0 ≤ cf (l[t]'h).p f)) := ⟨h1, h2⟩
    have HB : Hid (Below w.heap.size w wr) := hb
    clear h1 h2 hb
    by_cases hlt : a < e
    · have k0 : IntKind.i64.wrap ((a : Int) + (e : Int)) = (a : Int) + (e : Int) := by rw [IntKind.wrap_i64]; omega
      obtain ⟨m, hm⟩ : ∃ m : Nat, ((a : Int) + (e : Int)) / 2 = (m : Int) := ⟨(a + e) / 2, by omega⟩
      have hm1 : a ≤ m := by omega
      have hm2 : m < e := by omega
      have k1 : (0 : Int) ≤ (m : Int) := by omega
      have k2 : (m : Int) < (n : Int) := by omega
      have k3 : m < n := by omega
      have hml : m < l.length := by have := HN.out; omega
      obtain ⟨ad', c', b, e1, e2, d0, d1, d2⟩ := HA.out HB.out m hml
      injection e1 with e3 e5 e4
      subst e3
      subst e4
      subst e2
      clear e5
      obtain ⟨o, ho⟩ : ∃ o, cf (l[m]'hml).p f = o := ⟨_, rfl⟩
      have HO : Hid (cf (l[m]'hml).p f = o) := ho
      have HCm := hid_of (HC.out _ (List.getElem_mem hml) wr)
      rw [ho] at HCm
      clear ho
      generalize l[m] = x at d0 d1 d2 HCm
      obtain ⟨xp, xd, xa⟩ := x
      unfold Cnd.val at HCm
      simp only at d0 d1 d2 HCm
      go_wp2_with fail
      refine HCm.out.mono ?_
      rintro e w2 ⟨rfl, bx⟩
      have HB5 : Hid (Below w.heap.size w w2) := bstep HB.out bx
      clear bx d0 d1 d2
      by_cases hoo : o < 0
      · have HOO : Hid (o < 0) := hoo
        go_wp2_with fail
        go_roundw
        case rel =>
          refine ⟨m + 1, e, by go_num, rfl, by omega, hen, fun t h h' => ?_, fun t h h' => by have := HX.out.2 t h h'; omega, HB5.out⟩
          rcases Nat.lt_or_eq_of_le (show t ≤ m by omega) with h3 | rfl
          · have := List.pairwise_iff_getElem.1 HU.out t m h hml h3
            exact cf_trans this (by rw [HO.out]; exact HOO.out)
          · rw [HO.out]; exact HOO.out
        case measure => simp [intOf]; omega
      · have HOO : Hid (0 ≤ o) := by show 0 ≤ o; omega
        go_wp2_with fail
        go_roundw
        case rel =>
          refine ⟨a, m, rfl, rfl, hm1, by omega, HX.out.1, fun t h h' => ?_, HB5.out⟩
          rcases Nat.lt_or_eq_of_le h' with h3 | rfl
          · have := List.pairwise_iff_getElem.1 HU.out m t hml h h3
            rcases Int.lt_or_le (cf l[t].p f) 0 with h4 | h4
            · have h5 := cf_trans this h4
              have h6 := HOO.out
              rw [HO.out] at h5
              omega
            · exact h4
          · rw [HO.out]; exact HOO.out
        case measure => simp [intOf]; omega
    · obtain rfl : a = e := by omega
      by_cases han : a < n
      · have k1 : (0 : Int) ≤ (a : Int) := by omega
        have k2 : (a : Int) < (n : Int) := by omega
        have hml : a < l.length := by have := HN.out; omega
        obtain ⟨ad', c', b, e1, e2, d0, d1, d2⟩ := HA.out HB.out a hml
        injection e1 with e3 e5 e4
        subst e3
        subst e4
        subst e2
        clear e5
        obtain ⟨o, ho⟩ : ∃ o, cf (l[a]'hml).p f = o := ⟨_, rfl⟩
        have HO : Hid (cf (l[a]'hml).p f = o) := ho
        have HCm := hid_of (HC.out _ (List.getElem_mem hml) wr)
        rw [ho] at HCm
        clear ho
        have HP : Hid (o ≠ 0 → ∀ c ∈ l, c.p ≠ f) := fun h0 c hc e => by
          obtain ⟨t, ht, rfl⟩ := List.mem_iff_getElem.1 hc
          have hz : cf l[t].p f = 0 := cf_zero.2 e
          rcases Nat.lt_trichotomy t a with h3 | rfl | h3
          · have := HX.out.1 t ht h3; omega
          · exact h0 (by rw [← HO.out]; exact hz)
          · have h4 := List.pairwise_iff_getElem.1 HU.out a t hml ht h3
            have h5 := HX.out.2 a hml (Nat.le_refl _)
            rw [e] at h4
            omega
        generalize hgx : l[a] = x at d0 d1 d2 HCm
        have HGX := hid_of hgx
        clear hgx
        obtain ⟨xp, xd, xa⟩ := x
        unfold Cnd.val at HCm
        simp only at d0 d1 d2 HCm
        go_wp2_with fail
        refine HCm.out.mono ?_
        rintro e w2 ⟨rfl, bx⟩
        have HB5 : Hid (Below w.heap.size w w2) := bstep HB.out bx
        clear bx d0 d1 d2
        by_cases h0 : o = 0
        · subst h0
          go_wp2_with fail
          go_ret2
          exact ⟨a, true, rfl, .inl ⟨hml, rfl, cf_zero.1 HO.out⟩, HB5.out⟩
        · have HP2 := hid_of (HP.out h0)
          have hq0 : (o == 0) = false := beq_false_of_ne h0
          go_wp2_with fail
          go_ret2
          exact ⟨a, false, rfl, .inr ⟨rfl, HP2.out⟩, HB5.out⟩
      · have k2 : ¬ ((a : Int) < (n : Int)) := by omega
        have HP2 : Hid (∀ c ∈ l, c.p ≠ f) := fun c hc e => by
          obtain ⟨t, ht, rfl⟩ := List.mem_iff_getElem.1 hc
          have hz : cf l[t].p f = 0 := cf_zero.2 e
          have := HX.out.1 t ht (by have := HN.out; omega)
          omega
        go_wp2_with fail
        go_ret2
        exact ⟨a, false, rfl, .inr ⟨rfl, HP2.out⟩, HB.out⟩
end Go.Proofs.YtbaheiimcnfaaaaGreat

namespace Go.Proofs.YtbaheiimcnfaaaaGreat
open Go.RowKit Go.Maps
attribute [local go_sem] Oper.semAt_some

theorem c_hi (g n cap : Nat) (b : Int) (k : Nat) (hk : b = k) (hb : k ≤ cap) (hc : cap ≠ 0) (W : World) : (Instr.slice 65 (.slice (some ⟨g, 0, none⟩) n cap) none (some (.int .i64 b)) none).run Tryz.prog W = .ok (.slice (some ⟨g, 0, none⟩) k cap) W := by
  subst hk
  rw [run_slice_h (P := Tryz.prog) (w := W) 65 _ n cap el65' .i64 (k : Int) (by omega) (by omega), el65, Tryz.sizeOf87]
  simp only [Result.andThen_ok, sliced, Int.toNat_natCast, Option.map_some, Addr.add_lit]
  rw [if_neg hc]
  simp
theorem c_lo (g n cap : Nat) (a : Int) (k : Nat) (hk : a = k) (ha : k ≤ n) (hc : n ≤ cap) : ∃ o, (∀ W, (Instr.slice 65 (.slice (some ⟨g, 0, none⟩) n cap) (some (.int .i64 a)) none none).run Tryz.prog W = .ok (.slice (some ⟨g, o, none⟩) (n - k) (cap - k)) W) ∧ (o = k * 3 ∨ n - k = 0) := by
  subst hk
  by_cases h : k < cap
  · refine ⟨k * 3, fun W => ?_, .inl rfl⟩
    rw [run_slice_l (P := Tryz.prog) (w := W) 65 _ n cap el65' .i64 (k : Int) (by omega) (by omega), el65, Tryz.sizeOf87]
    simp only [Result.andThen_ok, sliced, Int.toNat_natCast, Option.map_some, Addr.add_lit]
    rw [if_neg (by omega), Nat.zero_add]
  · refine ⟨0, fun W => ?_, .inr (by omega)⟩
    rw [run_slice_l (P := Tryz.prog) (w := W) 65 _ n cap el65' .i64 (k : Int) (by omega) (by omega), el65, Tryz.sizeOf87]
    simp only [Result.andThen_ok, sliced, Int.toNat_natCast, Option.map_some, Addr.add_lit]
    rw [if_pos (by omega)]
theorem c_mid (g n cap : Nat) (a b : Int) (k j : Nat) (hk : a = k) (hj : b = j) (hkj : k ≤ j) (hjc : j ≤ cap) (hc : k < cap) (W : World) : (Instr.slice 65 (.slice (some ⟨g, 0, none⟩) n cap) (some (.int .i64 a)) (some (.int .i64 b)) none).run Tryz.prog W = .ok (.slice (some ⟨g, k * 3, none⟩) (j - k) (cap - k)) W := by
  subst hk
  subst hj
  rw [run_slice_lh (P := Tryz.prog) (w := W) 65 _ n cap el65' .i64 .i64 (k : Int) (j : Int) (by omega) (by omega) (by omega), el65, Tryz.sizeOf87]
  simp only [Result.andThen_ok, sliced, Int.toNat_natCast, Option.map_some, Addr.add_lit]
  rw [if_neg (by omega), Nat.zero_add]
theorem zc3_one (n : Nat) : ∀ v ∈ (Builtin.zeroCells (Value.agg #[.string ⟨#[]⟩, .int .i64 0, .int .i64 0]).cells n).toList, v.oneCell' = true := by
  intro v hv
  unfold Builtin.zeroCells at hv
  have h3 : (Value.agg #[.string ⟨#[]⟩, .int .i64 0, .int .i64 0]).cells = #[.string ⟨#[]⟩, .int .i64 0, .int .i64 0] := rfl
  rw [h3] at hv
  simp at hv
  obtain ⟨i, hi, rfl⟩ := hv
  have : i % 3 = 0 ∨ i % 3 = 1 ∨ i % 3 = 2 := by omega
  rcases this with h | h | h <;> rw [h] <;> rfl
set_option maxRecDepth 100000 in
set_option maxHeartbeats 4000000 in
theorem cdel_any {base : Nat} {w : World} {g cap : Nat} {l : List Cnd} {rest : List Value} (h : RW 87 3 base w g cap (cc l) rest) (i m : Nat) (hi : i + 1 + m = l.length) (hl : l.length ≤ 4000000) :
    Calls Tryz.prog 58 #[.slice (some ⟨g, 0, none⟩) l.length cap, .int .i64 (i : Int), .int .i64 ((i : Int) + 1)] w fun e w' => e = .returned (.slice (some ⟨g, 0, none⟩) (i + m) cap) ∧ (∃ rest', RW 87 3 base w' g cap (cc (l.take i ++ l.drop (i + 1))) rest') ∧ Only [g] w w' := by
  have hsz := h.sz
  rw [cc_length] at hsz
  have hcm := h.cm
  unfold maxLen at hcm
  obtain ⟨i0, hq, hz0, hz1, hz2⟩ := info_parts info87
  have hd : RW 87 3 base w.drew g cap (cc l) rest := ⟨h.blk, h.ge, h.cm, h.sz⟩
  obtain ⟨o, hlo, hoo⟩ := c_lo g l.length cap ((i : Int) + 1) (i + 1) (by omega) (by omega) (by omega)
  rw [show l.length - (i + 1) = m by omega] at hlo hoo
  have hdl : (l.drop (i + 1)).length = m := by simp; omega
  obtain ⟨w1, hap, hr1, ho1⟩ := hd.app und65 hq hz1 i ⟨g, o, none⟩ m (cap - (i + 1)) (cc (l.drop (i + 1))) (by rw [cc_length, hdl]) (fun t u hu => by
    have ht := (List.getElem?_eq_some_iff.1 hu).1
    rw [cc_length, hdl] at ht
    rcases hoo with rfl | h0
    · rw [add_lit]
      refine hd.cell ?_
      have e1 := cc_drop l (i + 1) (by omega) rest
      have e2 : ((cc l ++ rest).drop ((i + 1) * 3))[t]? = some u := by rw [e1, List.getElem?_append_left (by rw [cc_length, hdl]; exact ht)]; exact hu
      rwa [List.getElem?_drop] at e2
    · subst h0; omega) (by omega) (cc_one _)
  rw [cc_take l i (by omega), ← cc_append] at hr1
  have h1s : (cc (l.take i ++ l.drop (i + 1))).length = (i + m) * 3 := by rw [cc_length]; simp; omega
  obtain ⟨w2, hcl, hr2, ho2⟩ := hr1.clear und65 zero87 rfl ((i + m) * 3) 1 (cap - (i + m)) (by omega) (zc3_one _)
  rw [← h1s, List.take_left, h1s] at hr2
  have H2 : Hid ((∃ rest', RW 87 3 base w2 g cap (cc (l.take i ++ l.drop (i + 1))) rest') ∧ Only [g] w w2) := ⟨⟨_, hr2⟩, (Only.drew _ w 1).trans (ho1.trans ho2)⟩
  have hs1 := c_hi g l.length cap (i : Int) i rfl (by omega) (by omega)
  have hs2 := c_mid g (i + m) cap ((i : Int) + m) (l.length : Int) (i + m) l.length (by omega) rfl (by omega) (by omega) (by omega)
  rw [show l.length - (i + m) = 1 by omega] at hs2
  obtain ⟨n, hn⟩ : ∃ n, l.length = n := ⟨_, rfl⟩
  rw [hn] at hi hl hlo hs1 hs2 hsz ⊢
  obtain ⟨D, hD⟩ : ∃ D, Value.slice (some ⟨g, (i + m) * 3, none⟩) 1 (cap - (i + m)) = D := ⟨_, rfl⟩
  rw [hD] at hs2 hcl
  clear h hd hr1 ho1 h1s hr2 ho2 hdl hoo hn hD
  have k1 : ¬ ((i : Int) = (i : Int) + 1) := by omega
  have k2 : (i : Int) + 1 ≤ (n : Int) := by omega
  have k3 : (n : Int) ≤ (cap : Int) := by omega
  have k4 : (0 : Int) ≤ (i : Int) := by omega
  go_enter Tryz.func58, Tryz.ntmps58
  go_wp2_with fail
  go_region_held3 (fun _ => True) (exact trivial) (first | (refine step_app_run rfl (.tmp 22) (.tmp 25) 65 65 rfl (.slice (some ⟨g, 0, none⟩) i cap) (.slice (some ⟨g, o, none⟩) m (cap - (i + 1))) rfl rfl (hap _) ?_))
  go_wp2_with fail
  go_ret
  exact ⟨rfl, H2.out.1, H2.out.2⟩
end Go.Proofs.YtbaheiimcnfaaaaGreat

namespace Go.Proofs.YtbaheiimcnfaaaaGreat
open Go.RowKit Go.Maps
attribute [local go_sem] Oper.semAt_some

theorem hset (w : World) (g i : Nat) (v : Value) {cur : Array Value} {e : TypeId} {fr : Nat × Nat} (h : w.heap[g]? = some (.cells cur e fr)) : (w.setCell ⟨g, i, none⟩ v).heap[g]? = some (.cells (cur.setIfInBounds i v) e fr) := by
  simp [World.setCell, Array.getElem?_modify, h]
def cmpI (a b : Int) : Int := if a < b then -1 else if b < a then 1 else 0
def chp (c d c' d' : Int) : Int := if c = c' then cmpI d' d else cmpI c c'
theorem chp_neg {c d c' d' : Int} : chp c d c' d' < 0 ↔ c < c' ∨ (c = c' ∧ d' < d) := by
  unfold chp cmpI
  split <;> split <;> (try split) <;> omega
set_option maxRecDepth 100000 in
theorem compare_i (a b : Int) (w : World) : Calls Tryz.prog 92 #[.int .i64 a, .int .i64 b] w fun e w' => e = .returned (.int .i64 (cmpI a b)) ∧ w' = w := by
  have hn : ∀ (x : Int) (W : World), Calls Tryz.prog 122 #[.int .i64 x] W fun e w' => e = .returned (.bool false) ∧ w' = W := fun x W => by
    go_enter Tryz.func122, Tryz.ntmps122
    go_wp2_with fail
    go_ret
    exact ⟨by simp, rfl⟩
  have HN := hid_of hn
  clear hn
  have HQ : Hid (cmpI a b = if a < b then -1 else if b < a then 1 else 0) := rfl
  by_cases h1 : a < b
  · go_enter Tryz.func92, Tryz.ntmps92
    go_wp2_with fail
    refine (HN.out a w).mono ?_
    rintro e w1 ⟨rfl, rfl⟩
    go_wp2_with fail
    refine (HN.out b w1).mono ?_
    rintro e w1 ⟨rfl, rfl⟩
    go_wp2_with fail
    go_ret
    rw [HQ.out, if_pos h1]
    exact ⟨rfl, rfl⟩
  · by_cases h2 : b < a
    · go_enter Tryz.func92, Tryz.ntmps92
      go_wp2_with fail
      refine (HN.out a w).mono ?_
      rintro e w1 ⟨rfl, rfl⟩
      go_wp2_with fail
      refine (HN.out b w1).mono ?_
      rintro e w1 ⟨rfl, rfl⟩
      go_wp2_with fail
      go_ret
      rw [HQ.out, if_neg (by omega), if_pos h2]
      exact ⟨rfl, rfl⟩
    · go_enter Tryz.func92, Tryz.ntmps92
      go_wp2_with fail
      refine (HN.out a w).mono ?_
      rintro e w1 ⟨rfl, rfl⟩
      go_wp2_with fail
      refine (HN.out b w1).mono ?_
      rintro e w1 ⟨rfl, rfl⟩
      go_wp2_with fail
      go_ret
      rw [HQ.out, if_neg (by omega), if_neg (by omega)]
      exact ⟨rfl, rfl⟩
set_option maxRecDepth 100000 in
set_option maxHeartbeats 4000000 in
theorem cheaper_any (c d c' d' : Int) (w : World) : Calls Tryz.prog 57 #[.agg #[.int .i64 c, .int .i64 d], .agg #[.int .i64 c', .int .i64 d']] w fun e w' => e = .returned (.int .i64 (chp c d c' d')) ∧ Below w.heap.size w w' := by
  have HC := hid_of (fun a b W => compare_i a b W)
  have HQ : Hid (chp c d c' d' = if c = c' then cmpI d' d else cmpI c c') := rfl
  by_cases h : c = c'
  · go_enter Tryz.func57, Tryz.ntmps57
    go_wp2_with fail
    refine (HC.out _ _ _).mono ?_
    rintro e w1 ⟨rfl, rfl⟩
    go_wp2_with fail
    go_ret
    rw [HQ.out, if_pos h]
    exact ⟨rfl, bstep (balloc _ _) (balloc _ _)⟩
  · go_enter Tryz.func57, Tryz.ntmps57
    go_wp2_with fail
    refine (HC.out _ _ _).mono ?_
    rintro e w1 ⟨rfl, rfl⟩
    go_wp2_with fail
    go_ret
    rw [HQ.out, if_neg h]
    exact ⟨rfl, bstep (balloc _ _) (balloc _ _)⟩
set_option maxRecDepth 100000 in
set_option maxHeartbeats 4000000 in
theorem price_any {w : World} {gm : Nat} {cost : Int} (c : Cnd) (hgm : gm < w.heap.size) (h : w.cell? ⟨gm, 1, none⟩ = some (.int .i64 cost)) (h1 : 0 ≤ cost ∧ cost ≤ 9223372036854775807) (h2 : 0 ≤ c.a ∧ c.a ≤ 9223372036854775807) :
    Calls Tryz.prog 56 #[.pointer (some ⟨gm, 0, none⟩), c.val] w fun e w' => e = .returned (.agg #[.int .i64 (tog cost c.a), .int .i64 c.d]) ∧ Below w.heap.size w w' := by
  obtain ⟨x, d, a⟩ := c
  unfold Cnd.val
  simp only at h2 ⊢
  have HT := hid_of (fun W => together_any cost a W h1 h2)
  clear h1 h2
  go_enter Tryz.func56, Tryz.ntmps56
  go_wp2_with fail
  have hgm2 : ((w.alloc (.cells #[.string (bs x), .int .i64 d, .int .i64 a] 87)).alloc (.cells #[.int .i64 0, .int .i64 0] 90)).cell? ⟨gm, 1, none⟩ = some (.int .i64 cost) := by
    rw [(bstep (balloc w (.cells #[.string (bs x), .int .i64 d, .int .i64 a] 87)) (balloc _ (.cells #[.int .i64 0, .int .i64 0] 90))).cell (p := ⟨gm, 1, none⟩) hgm]
    exact h
  have hb2 : ((w.alloc (.cells #[.string (bs x), .int .i64 d, .int .i64 a] 87)).alloc (.cells #[.int .i64 0, .int .i64 0] 90)).cell? ⟨w.heap.size, 2, none⟩ = some (.int .i64 a) := by simp
  have hb1 : ((w.alloc (.cells #[.string (bs x), .int .i64 d, .int .i64 a] 87)).alloc (.cells #[.int .i64 0, .int .i64 0] 90)).cell? ⟨w.heap.size, 1, none⟩ = some (.int .i64 d) := by simp
  have hr : ((w.alloc (.cells #[.string (bs x), .int .i64 d, .int .i64 a] 87)).alloc (.cells #[.int .i64 0, .int .i64 0] 90)).heap[w.heap.size + 1]? = some (.cells #[.int .i64 0, .int .i64 0] 90 (0, 0)) := by
    have := heap_alloc_new (w.alloc (.cells #[.string (bs x), .int .i64 d, .int .i64 a] 87)) (.cells #[.int .i64 0, .int .i64 0] 90)
    simpa using this
  have hB := bstep (balloc w (.cells #[.string (bs x), .int .i64 d, .int .i64 a] 87)) (balloc _ (.cells #[.int .i64 0, .int .i64 0] 90))
  generalize ((w.alloc (.cells #[.string (bs x), .int .i64 d, .int .i64 a] 87)).alloc (.cells #[.int .i64 0, .int .i64 0] 90)) = W at hgm2 hb2 hb1 hr hB ⊢
  have HB := hid_of hB
  have HR := hid_of hr
  have hr0 : W.cell? ⟨w.heap.size + 1, 0, none⟩ = some (.int .i64 0) := by simp [World.cell?, hr]
  have hr1 : W.cell? ⟨w.heap.size + 1, 1, none⟩ = some (.int .i64 0) := by simp [World.cell?, hr]
  have hf0 : W.frozen? ⟨w.heap.size + 1, 0, none⟩ = false := by simp [World.frozen?, hr]
  have hf1 : W.frozen? ⟨w.heap.size + 1, 1, none⟩ = false := by simp [World.frozen?, hr]
  have hne : gm ≠ w.heap.size + 1 := by omega
  obtain ⟨G, hG⟩ : ∃ G, w.heap.size = G := ⟨_, rfl⟩
  rw [hG] at hb2 hb1 hr0 hr1 hf0 hf1 hne ⊢
  have hKS : ∀ u v : Value, ((W.setCell ⟨G + 1, 0, none⟩ u).setCell ⟨G + 1, 1, none⟩ v).drew.cell? ⟨gm, 1, none⟩ = some (.int .i64 cost) ∧ ((W.setCell ⟨G + 1, 0, none⟩ u).setCell ⟨G + 1, 1, none⟩ v).drew.cell? ⟨G, 2, none⟩ = some (.int .i64 a) ∧ ((W.setCell ⟨G + 1, 0, none⟩ u).setCell ⟨G + 1, 1, none⟩ v).drew.cell? ⟨G, 1, none⟩ = some (.int .i64 d) := fun u v => by
    have ho := (Only.set W (G + 1) 0 u).trans (Only.set _ (G + 1) 1 v)
    have hsz := HB.out.size
    have hlt : G + 1 < W.heap.size := by rw [← hG]; exact (Array.getElem?_eq_some_iff.1 hr).1
    refine ⟨(World.cell?_of_block (ho.block gm (by omega) (by simpa using hne))).trans hgm2, (World.cell?_of_block (ho.block G (by omega) (by simp))).trans hb2, (World.cell?_of_block (ho.block G (by omega) (by simp))).trans hb1⟩
  have HK := hid_of hKS
  clear hB hr h hKS
  go_region_held3 (fun w' => w'.cell? ⟨gm, 1, none⟩ = some (.int .i64 cost) ∧ w'.cell? ⟨G, 2, none⟩ = some (.int .i64 a) ∧ w'.cell? ⟨G, 1, none⟩ = some (.int .i64 d)) (first | (with_reducible exact ⟨hgm2, hb2, hb1⟩) | (exact HK.out _ _) | go_keep) (first | (go_at_call 47; (refine (HT.out _).mono ?_); rintro e w1 ⟨rfl, rfl⟩))
  go_wp2_with fail
  refine bodyPost_ret (results_cell_row rfl _ _ (G + 1) 90 #[.int .i64 (tog cost a), .int .i64 d] (0, 0) _ rfl ?_ Tryz.underlying90 rfl (by kernel_rfl)) rfl ?_
  · have hr := HR.out
    rw [hG] at hr
    show ((W.setCell ⟨G + 1, 0, none⟩ (.int .i64 (tog cost a))).setCell ⟨G + 1, 1, none⟩ (.int .i64 d)).heap[G + 1]? = _
    rw [hset _ _ _ _ (hset _ _ _ _ hr)]
    rfl
  · refine ⟨rfl, ?_⟩
    have ho := ((Only.set W (G + 1) 0 (.int .i64 (tog cost a))).trans (Only.set _ (G + 1) 1 (.int .i64 d))).trans (Only.drew _ _ 1)
    exact below_trans HB.out (ho.below HB.out.size (fun x hx => by simp at hx; omega))
end Go.Proofs.YtbaheiimcnfaaaaGreat
