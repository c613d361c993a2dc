/-
  slices.Replace by one text.
-/
import Derived.Test.YtbaheiimcnfaaaaGreatJNb
namespace Go.Proofs.YtbaheiimcnfaaaaGreat
open Go.RowKit

theorem el23 : Tryz.prog.elem 23 = 9 := by kernel_rfl
theorem el23' : Tryz.prog.underlying 23 = some (.slice (Tryz.prog.elem 23)) := by kernel_rfl
theorem sl_lo (g o n cap : Nat) (a : Int) (k : Nat) (hk : a = k) (ha : k ≤ n) (hc : k < cap) (W : World) : (Instr.slice 23 (.slice (some ⟨g, o, none⟩) n cap) (some (.int .i64 a)) none none).run Tryz.prog W = .ok (.slice (some ⟨g, o + k, none⟩) (n - k) (cap - k)) W := by
  subst hk
  rw [run_slice_l (P := Tryz.prog) (w := W) 23 _ n cap el23' .i64 (k : Int) (by omega) (by omega), el23, Tryz.sizeOf9]
  simp only [Result.andThen_ok, sliced, Int.toNat_natCast, Option.map_some, Addr.add_lit]
  rw [if_neg (by omega), Nat.mul_one]
theorem sl_hi (g o n cap : Nat) (b : Int) (k : Nat) (hk : b = k) (hb : k ≤ cap) (hc : cap ≠ 0) (W : World) : (Instr.slice 23 (.slice (some ⟨g, o, none⟩) n cap) none (some (.int .i64 b)) none).run Tryz.prog W = .ok (.slice (some ⟨g, o, none⟩) k cap) W := by
  subst hk
  rw [run_slice_h (P := Tryz.prog) (w := W) 23 _ n cap el23' .i64 (k : Int) (by omega) (by omega), el23, Tryz.sizeOf9]
  simp only [Result.andThen_ok, sliced, Int.toNat_natCast, Option.map_some, Addr.add_lit]
  rw [if_neg hc]
  simp
theorem sl_both (ad : Option Addr) (n cap a b : Nat) (hab : a ≤ b) (hb : b ≤ cap) : ∃ X, ∀ W, (Instr.slice 23 (.slice ad n cap) (some (.int .i64 (a : Int))) (some (.int .i64 (b : Int))) none).run Tryz.prog W = .ok X W := by
  refine ⟨sliced ad a b cap 1, fun W => ?_⟩
  rw [run_slice_lh (P := Tryz.prog) (w := W) 23 _ n cap el23' .i64 .i64 (a : Int) (b : Int) (by omega) (by omega) (by omega), el23, Tryz.sizeOf9]
  rfl
theorem sl_end (g n cap : Nat) (a : Int) (k : Nat) (hk : a = k) (ha : k ≤ n) (hc : n ≤ cap) : ∃ o, (∀ W, (Instr.slice 23 (.slice (some ⟨g, 0, none⟩) n cap) (some (.int .i64 a)) none none).run Tryz.prog W = .ok (.slice (some ⟨g, o, none⟩) (n - k) (cap - k)) W) ∧ (o = k ∨ n - k = 0 ∧ o = 0) := by
  subst hk
  by_cases h : k < cap
  · exact ⟨k, fun W => by have := sl_lo g 0 n cap k k rfl ha h W; simpa using this, .inl rfl⟩
  · refine ⟨0, fun W => ?_, .inr ⟨by omega, rfl⟩⟩
    rw [run_slice_l (P := Tryz.prog) (w := W) 23 _ n cap el23' .i64 (k : Int) (by omega) (by omega), el23, Tryz.sizeOf9]
    simp only [Result.andThen_ok, sliced, Int.toNat_natCast, Option.map_some, Addr.add_lit]
    rw [if_pos (by omega)]
theorem zero9 : ∀ w, (zeroValue 9).run Tryz.prog w = .ok (.string ⟨#[]⟩) w := fun w => by kernel_rfl
theorem zc_one (n : Nat) : ∀ v ∈ (Builtin.zeroCells (Value.string ⟨#[]⟩).cells n).toList, v.oneCell' = true := by
  intro v hv
  unfold Builtin.zeroCells at hv
  simp at hv
  obtain ⟨_, _, rfl⟩ := hv
  simp [Value.cells, Nat.mod_one]
  rfl
theorem sc_take (l : List (List UInt8)) (k : Nat) (h : k ≤ l.length) (r : List Value) : (sc l ++ r).take k = sc (l.take k) := by
  have e : sc l = sc (l.take k) ++ sc (l.drop k) := by rw [← sc_append, List.take_append_drop]
  have hl : (sc (l.take k)).length = k := by rw [sc_length, List.length_take]; omega
  rw [e, List.append_assoc, List.take_left' hl]
theorem sc_drop (l : List (List UInt8)) (k : Nat) (h : k ≤ l.length) (r : List Value) : (sc l ++ r).drop k = sc (l.drop k) ++ r := by
  have e : sc l = sc (l.take k) ++ sc (l.drop k) := by rw [← sc_append, List.take_append_drop]
  have hl : (sc (l.take k)).length = k := by rw [sc_length, List.length_take]; omega
  rw [e, List.append_assoc, List.drop_left' hl]
set_option maxRecDepth 100000 in
set_option maxHeartbeats 4000000 in
theorem replace_end {base : Nat} {w : World} {g cap : Nat} {l : List (List UInt8)} {rest : List Value} (h : RW 9 1 base w g cap (sc l) rest) (p : List UInt8) (vb : Nat) (hv : w.heap[vb]? = some (.cells #[.string (bs p)] 9 (0, 0))) (_hne : vb ≠ g) (i : Nat) (hi : i < l.length) :
    Calls Tryz.prog 76 #[.slice (some ⟨g, 0, none⟩) l.length cap, .int .i64 (i : Int), .int .i64 (l.length : Int), .slice (some ⟨vb, 0, none⟩) 1 1] w fun e w' => e = .returned (.slice (some ⟨g, 0, none⟩) (i + 1) cap) ∧ (∃ rest', RW 9 1 base w' g cap (sc (l.take i ++ [p])) rest') ∧ Only [g] w w' := by
  have hsz := h.sz
  rw [sc_length] at hsz
  have hcm := h.cm
  unfold maxLen at hcm
  obtain ⟨i0, hq, hz0, hz1, hz2⟩ := info_parts info9
  obtain ⟨w1, hap, hr1, ho1⟩ := h.app und70 hq hz1 i ⟨vb, 0, none⟩ 1 1 (sc [p]) rfl (World.news_of_block hv) (by omega) (sc_one _)
  rw [Nat.mul_one, sc_take l i (by omega)] at hr1
  have H1 : Hid (RW 9 1 base w1 g cap (sc (l.take i ++ [p])) ((sc l ++ rest).drop (i + (sc [p]).length)) ∧ Only [g] w w1) := ⟨by rw [sc_append]; exact hr1, ho1⟩
  have h1s : (sc (l.take i ++ [p])).length = i + 1 := by rw [sc_length]; simp; omega
  obtain ⟨X, hX⟩ := sl_both (some ⟨g, 0, none⟩) l.length cap i l.length (by omega) (by omega)
  have hs1 := sl_hi g 0 l.length cap (i : Int) i rfl (by omega) (by omega)
  by_cases hlt : i + 1 < l.length
  · obtain ⟨w2, hcl, hr2, ho2⟩ := H1.out.1.clear und70 zero9 rfl (i + 1) (l.length - (i + 1)) (cap - (i + 1)) (by omega) (zc_one _)
    rw [← h1s, List.take_left, h1s] at hr2
    have H2 : Hid (RW 9 1 base w2 g cap (sc (l.take i ++ [p])) _ ∧ Only [g] w w2) := ⟨hr2, H1.out.2.trans ho2⟩
    have hs2 := sl_lo g 0 l.length cap ((i : Int) + 1) (i + 1) (by omega) (by omega) (by omega)
    simp only [Nat.zero_add] at hs2
    obtain ⟨n, hn⟩ : ∃ n, l.length = n := ⟨_, rfl⟩
    rw [hn] at hi hlt hX hs1 hs2 hcl ⊢
    obtain ⟨D, hD⟩ : ∃ D, Value.slice (some ⟨g, i + 1, none⟩) (n - (i + 1)) (cap - (i + 1)) = D := ⟨_, rfl⟩
    rw [hD] at hs2 hcl
    clear h hv hr1 ho1 h1s hr2 ho2 hsz hn hD
    have k1 : ¬ ((i : Int) = (n : Int)) := by omega
    have k2 : (i : Int) + 1 < (n : Int) := by omega
    go_enter Tryz.func76, Tryz.ntmps76
    go_wp2_with (first | (at_builtin; refine wpList_app_run rfl (.tmp 32) (.tmp 33) 23 23 rfl (.slice (some ⟨g, 0, none⟩) i cap) (.slice (some ⟨vb, 0, none⟩) 1 1) rfl rfl (hap _) ?_))
    go_ret
    exact ⟨rfl, ⟨_, H2.out.1⟩, H2.out.2⟩
  · obtain ⟨n, hn⟩ : ∃ n, l.length = n := ⟨_, rfl⟩
    rw [hn] at hi hlt hX hs1 ⊢
    clear h hv hr1 ho1 h1s hsz hn
    have k1 : ¬ ((i : Int) = (n : Int)) := by omega
    have k2 : ¬ ((i : Int) + 1 < (n : Int)) := by omega
    go_enter Tryz.func76, Tryz.ntmps76
    go_wp2_with (first | (at_builtin; refine wpList_app_run rfl (.tmp 32) (.tmp 33) 23 23 rfl (.slice (some ⟨g, 0, none⟩) i cap) (.slice (some ⟨vb, 0, none⟩) 1 1) rfl rfl (hap _) ?_))
    go_ret
    exact ⟨rfl, ⟨_, H1.out.1⟩, H1.out.2⟩
theorem mid_one (l : List (List UInt8)) (p : List UInt8) (i m : Nat) (j : Nat) (hij : i < j) (hj : j + m = l.length) (A : List Value) (hA : A = sc (l.take i) ++ sc [p]) (B : List Value) :
    (A ++ B).take (i + 1) ++ sc (l.drop j) = sc (l.take i ++ p :: l.drop j) := by
  have h1 : A.length = i + 1 := by rw [hA, ← sc_append, sc_length]; simp; omega
  rw [List.take_left' h1, hA, ← sc_append, ← sc_append]
  simp
set_option maxRecDepth 100000 in
set_option maxHeartbeats 4000000 in
theorem replace_mid {base : Nat} {w : World} {g cap : Nat} {l : List (List UInt8)} {rest : List Value} (h : RW 9 1 base w g cap (sc l) rest) (p : List UInt8) (vb : Nat) (hv : w.heap[vb]? = some (.cells #[.string (bs p)] 9 (0, 0))) (hne : vb ≠ g) (i j m : Nat) (hij : i < j) (hj : j + m = l.length) (hm : 0 < m) (hl : l.length ≤ 1000000000) :
    Calls Tryz.prog 76 #[.slice (some ⟨g, 0, none⟩) l.length cap, .int .i64 (i : Int), .int .i64 (j : Int), .slice (some ⟨vb, 0, none⟩) 1 1] w fun e w' => e = .returned (.slice (some ⟨g, 0, none⟩) (i + 1 + m) cap) ∧ (∃ rest', RW 9 1 base w' g cap (sc (l.take i ++ p :: l.drop j)) rest') ∧ Only [g] w w' := by
  have hsz := h.sz
  rw [sc_length] at hsz
  have hcm := h.cm
  unfold maxLen at hcm
  obtain ⟨i0, hq, hz0, hz1, hz2⟩ := info_parts info9
  have hd : RW 9 1 base w.drew g cap (sc l) rest := ⟨h.blk, h.ge, h.cm, h.sz⟩
  obtain ⟨w1, hc1, hr1, ho1⟩ := hd.copy und70 hq hz1 i (1 + m) (cap - i) ⟨vb, 0, none⟩ 1 1 (sc [p]) (by show 1 = min _ _ * 1; omega) (World.news_of_block (w := w.drew) hv) (by simp [sc_length]; omega) (sc_one _)
  rw [sc_take l i (by omega)] at hr1
  have hd1 : RW 9 1 base w1.drew g cap (sc (l.take i) ++ sc [p]) ((sc l ++ rest).drop (i + (sc [p]).length)) := ⟨hr1.blk, hr1.ge, hr1.cm, hr1.sz⟩
  have h1s : (sc (l.take i) ++ sc [p]).length = i + 1 := by rw [← sc_append, sc_length]; simp; omega
  have hmin : Nat.min m m = m := by show min _ _ = _; omega
  obtain ⟨w2, hc2, hr2, ho2⟩ := hd1.copy und70 hq hz1 (i + 1) m (cap - (i + 1)) ⟨g, j, none⟩ m (cap - j) (sc (l.drop j)) (by rw [sc_length, List.length_drop, hmin]; omega) (fun t u hu => by
    rw [add_lit]
    refine hd1.cell ?_
    have ht := (List.getElem?_eq_some_iff.1 hu).1
    rw [List.getElem?_append_right (by rw [h1s]; omega), h1s, show i + (sc [p]).length = i + 1 from rfl, List.getElem?_drop, show i + 1 + (j + t - (i + 1)) = j + t by omega]
    have e1 := sc_drop l j (by omega) rest
    have e2 : ((sc l ++ rest).drop j)[t]? = some u := by rw [e1, List.getElem?_append_left ht]; exact hu
    rwa [List.getElem?_drop] at e2) (by rw [sc_length, List.length_drop]; omega) (sc_one _)
  rw [hmin] at hc2
  rw [mid_one l p i m j hij hj _ rfl _] at hr2
  have h2s : (sc (l.take i ++ p :: l.drop j)).length = i + 1 + m := by rw [sc_length]; simp; omega
  obtain ⟨o, hso, hoo⟩ := sl_end g l.length cap ((i : Int) + 1 + m) (i + 1 + m) (by omega) (by omega) (by omega)
  obtain ⟨w3, hc3, hr3, ho3⟩ : ∃ w3, (∀ ty, (Builtin.clear_ #[23] ty #[.slice (some ⟨g, o, none⟩) (l.length - (i + 1 + m)) (cap - (i + 1 + m))]).run Tryz.prog w2 = .ok (.tuple #[]) w3) ∧ (∃ rest', RW 9 1 base w3 g cap (sc (l.take i ++ p :: l.drop j)) rest') ∧ Only [g] w2 w3 := by
    rcases hoo with rfl | ⟨e0, rfl⟩
    · obtain ⟨w3, h1, h2, h3⟩ := hr2.clear und70 zero9 rfl (i + 1 + m) (l.length - (i + 1 + m)) (cap - (i + 1 + m)) (by omega) (zc_one _)
      rw [← h2s, List.take_left, h2s] at h2
      exact ⟨w3, h1, ⟨_, h2⟩, h3⟩
    · rw [e0]
      exact ⟨w2, fun ty => by simp [Builtin.clear_, run_underlying und70], ⟨_, hr2⟩, Only.refl _ _⟩
  have H3 : Hid ((∃ rest', RW 9 1 base w3 g cap (sc (l.take i ++ p :: l.drop j)) rest') ∧ Only [g] w w3) := ⟨hr3, (Only.drew _ w 1).trans (ho1.trans ((Only.drew _ w1 1).trans (ho2.trans ho3)))⟩
  obtain ⟨X, hX⟩ := sl_both (some ⟨g, 0, none⟩) l.length cap i j (by omega) (by omega)
  have hs1 := sl_hi g 0 l.length cap (i : Int) i rfl (by omega) (by omega)
  have hs2 := sl_lo g 0 l.length cap (j : Int) j rfl (by omega) (by omega)
  have hs3 := sl_hi g 0 l.length cap ((i : Int) + 1 + m) (i + 1 + m) (by omega) (by omega) (by omega)
  have hs4 := sl_lo g 0 (i + 1 + m) cap (i : Int) i rfl (by omega) (by omega)
  have hs5 := sl_lo g 0 (i + 1 + m) cap ((i : Int) + 1) (i + 1) (by omega) (by omega) (by omega)
  rw [show l.length - j = m by omega] at hs2
  rw [show i + 1 + m - i = 1 + m by omega] at hs4
  rw [show i + 1 + m - (i + 1) = m by omega] at hs5
  simp only [Nat.zero_add] at hs2 hs4 hs5
  obtain ⟨n, hn⟩ : ∃ n, l.length = n := ⟨_, rfl⟩
  rw [hn] at hj hl hX hs1 hs2 hs3 hso hc3 hsz ⊢
  obtain ⟨D, hD⟩ : ∃ D, Value.slice (some ⟨g, o, none⟩) (n - (i + 1 + m)) (cap - (i + 1 + m)) = D := ⟨_, rfl⟩
  rw [hD] at hso hc3
  have k1 : ¬ ((i : Int) = (j : Int)) := by omega
  have k2 : ¬ ((j : Int) = (n : Int)) := by omega
  have k3 : ¬ ((cap : Int) < (i : Int) + 1 + m) := by omega
  have k4 : (i : Int) + 1 + m ≤ (cap : Int) := by omega
  have k5 : (i : Int) + 1 ≤ (j : Int) := by omega
  have k6 : IntKind.i64.wrap ((i : Int) + 1) = (i : Int) + 1 := by rw [IntKind.wrap_i64]; omega
  have k7 : IntKind.i64.wrap ((i : Int) + 1 + m) = (i : Int) + 1 + m := by rw [IntKind.wrap_i64]; omega
  have KS1 : w1.cell? ⟨vb, 0, none⟩ = some (.string (bs p)) := by
    have hvb := (ho1.block vb (Array.getElem?_eq_some_iff.1 hv).1 (by simpa using hne)).trans hv
    simp [World.cell?, hvb]
  have KS2 : w2.cell? ⟨vb, 0, none⟩ = some (.string (bs p)) := by
    have hvb := (ho1.block vb (Array.getElem?_eq_some_iff.1 hv).1 (by simpa using hne)).trans hv
    have hvb2 := (ho2.block vb (Array.getElem?_eq_some_iff.1 hvb).1 (by simpa using hne)).trans hvb
    simp [World.cell?, hvb2]
  clear hn h hv hr1 ho1 hd hd1 h1s hmin ho2 ho3 hr2 hr3 h2s hoo hD
  go_enter Tryz.func76, Tryz.ntmps76
  go_wp2_with fail
  go_region
  go_wp2_with (first | (at_builtin; refine wpList_copy_run rfl (.tmp 95) (.tmp 96) 23 23 rfl (.slice (some ⟨g, i, none⟩) (1 + m) (cap - i)) (.slice (some ⟨vb, 0, none⟩) 1 1) rfl rfl (hc1 _) ?_))
  go_region_held3 (fun w' => w'.cell? ⟨vb, 0, none⟩ = some (.string (bs p))) (first | (with_reducible exact KS1) | (with_reducible exact KS2) | go_keep) (first | (refine step_copy_run rfl (.tmp 103) (.tmp 106) 23 23 rfl (.slice (some ⟨g, i + 1, none⟩) m (cap - (i + 1))) (.slice (some ⟨g, j, none⟩) m (cap - j)) rfl rfl (hc2 _) ?_))
  go_wp2_with fail
  go_ret
  exact ⟨rfl, H3.out.1, H3.out.2⟩
/-- in either place -/
theorem replace_any {base : Nat} {w : World} {g cap : Nat} {l : List (List UInt8)} {rest : List Value} (h : RW 9 1 base w g cap (sc l) rest) (p : List UInt8) (vb : Nat) (hv : w.heap[vb]? = some (.cells #[.string (bs p)] 9 (0, 0))) (hne : vb ≠ g) (i j : Nat) (hij : i < j) (hj : j ≤ l.length) (hl : l.length ≤ 1000000000) :
    Calls Tryz.prog 76 #[.slice (some ⟨g, 0, none⟩) l.length cap, .int .i64 (i : Int), .int .i64 (j : Int), .slice (some ⟨vb, 0, none⟩) 1 1] w fun e w' => ∃ v', e = .returned v' ∧ v'.ownBlock = some g ∧ Own base w' v' (l.take i ++ p :: l.drop j) ∧ Only [g] w w' := by
  have fin : ∀ {w' : World} {rest' : List Value}, RW 9 1 base w' g cap (sc (l.take i ++ p :: l.drop j)) rest' → Own base w' (.slice (some ⟨g, 0, none⟩) (l.take i ++ p :: l.drop j).length cap) (l.take i ++ p :: l.drop j) := fun {w' rest'} hr => by
    have hs := hr.sz
    rw [sc_length] at hs
    exact ⟨by rw [sc_length]; omega, .inr ⟨g, cap, _, rfl, hr.ge, hr.blk, by omega, hr.cm, by simp [sc_length]; simpa using hs, by rw [Nat.mul_one, ← sc_length]; simp⟩⟩
  by_cases e : j = l.length
  · subst e
    refine (replace_end h p vb hv hne i (by omega)).mono ?_
    rintro e w' ⟨rfl, ⟨r, hr⟩, ho⟩
    have e2 : l.take i ++ [p] = l.take i ++ p :: l.drop l.length := by simp
    rw [e2] at hr
    have hlen : (l.take i ++ p :: l.drop l.length).length = i + 1 := by simp; omega
    refine ⟨_, rfl, rfl, ?_, ho⟩
    have := fin hr
    rwa [hlen] at this
  · refine (replace_mid h p vb hv hne i j (l.length - j) hij (by omega) (by omega) hl).mono ?_
    rintro e w' ⟨rfl, ⟨r, hr⟩, ho⟩
    have hlen : (l.take i ++ p :: l.drop j).length = i + 1 + (l.length - j) := by simp; omega
    refine ⟨_, rfl, rfl, ?_, ho⟩
    have := fin hr
    rwa [hlen] at this
end Go.Proofs.YtbaheiimcnfaaaaGreat
