/-
  slices.Replace by one text.
  The package: files together; one found; two lists.
-/
import Derived.Test.YtbaheiimcnfaaaaGreatJNb
namespace Go.Proofs.YtbaheiimcnfaaaaGreat
open Go.RowKit

theorem el23 : Tryz.prog.elem 23 = 9 := by kernel_rfl
theorem el23' : Tryz.prog.underlying 23 = some (.slice (Tryz.prog.elem 23)) := by kernel_rfl
theorem sl_lo (g o n cap : Nat) (a : Int) (k : Nat) (hk : a = k) (ha : k ≤ n) (hc : k < cap) (W : World) : (Instr.slice 23 (.slice (some ⟨g, o, none⟩) n cap) (some (.int .i64 a)) none none).run Tryz.prog W = .ok (.slice (some ⟨g, o + k, none⟩) (n - k) (cap - k)) W := by
  subst hk
  rw [run_slice_l (P := Tryz.prog) (w := W) 23 _ n cap el23' .i64 (k : Int) (by omega) (by omega), el23, Tryz.sizeOf9]
  simp only [Result.andThen_ok, sliced, Int.toNat_natCast, Option.map_some, Addr.add_lit]
  rw [if_neg (by omega), Nat.mul_one]
theorem sl_hi (g o n cap : Nat) (b : Int) (k : Nat) (hk : b = k) (hb : k ≤ cap) (hc : cap ≠ 0) (W : World) : (Instr.slice 23 (.slice (some ⟨g, o, none⟩) n cap) none (some (.int .i64 b)) none).run Tryz.prog W = .ok (.slice (some ⟨g, o, none⟩) k cap) W := by
  subst hk
  rw [run_slice_h (P := Tryz.prog) (w := W) 23 _ n cap el23' .i64 (k : Int) (by omega) (by omega), el23, Tryz.sizeOf9]
  simp only [Result.andThen_ok, sliced, Int.toNat_natCast, Option.map_some, Addr.add_lit]
  rw [if_neg hc]
  simp
theorem sl_both (ad : Option Addr) (n cap a b : Nat) (hab : a ≤ b) (hb : b ≤ cap) : ∃ X, ∀ W, (Instr.slice 23 (.slice ad n cap) (some (.int .i64 (a : Int))) (some (.int .i64 (b : Int))) none).run Tryz.prog W = .ok X W := by
  refine ⟨sliced ad a b cap 1, fun W => ?_⟩
  rw [run_slice_lh (P := Tryz.prog) (w := W) 23 _ n cap el23' .i64 .i64 (a : Int) (b : Int) (by omega) (by omega) (by omega), el23, Tryz.sizeOf9]
  rfl
theorem sl_end (g n cap : Nat) (a : Int) (k : Nat) (hk : a = k) (ha : k ≤ n) (hc : n ≤ cap) : ∃ o, (∀ W, (Instr.slice 23 (.slice (some ⟨g, 0, none⟩) n cap) (some (.int .i64 a)) none none).run Tryz.prog W = .ok (.slice (some ⟨g, o, none⟩) (n - k) (cap - k)) W) ∧ (o = k ∨ n - k = 0 ∧ o = 0) := by
  subst hk
  by_cases h : k < cap
  · exact ⟨k, fun W => by have := sl_lo g 0 n cap k k rfl ha h W; simpa using this, .inl rfl⟩
  · refine ⟨0, fun W => ?_, .inr ⟨by omega, rfl⟩⟩
    rw [run_slice_l (P := Tryz.prog) (w := W) 23 _ n cap el23' .i64 (k : Int) (by omega) (by omega), el23, Tryz.sizeOf9]
    simp only [Result.andThen_ok, sliced, Int.toNat_natCast, Option.map_some, Addr.add_lit]
    rw [if_pos (by omega)]
theorem zero9 : ∀ w, (zeroValue 9).run Tryz.prog w = .ok (.string ⟨#[]⟩) w := fun w => by kernel_rfl
theorem zc_one (n : Nat) : ∀ v ∈ (Builtin.zeroCells (Value.string ⟨#[]⟩).cells n).toList, v.oneCell' = true := by
  intro v hv
  unfold Builtin.zeroCells at hv
  simp at hv
  obtain ⟨_, _, rfl⟩ := hv
  simp [Value.cells, Nat.mod_one]
  rfl
theorem sc_take (l : List (List UInt8)) (k : Nat) (h : k ≤ l.length) (r : List Value) : (sc l ++ r).take k = sc (l.take k) := by
  have e : sc l = sc (l.take k) ++ sc (l.drop k) := by rw [← sc_append, List.take_append_drop]
  have hl : (sc (l.take k)).length = k := by rw [sc_length, List.length_take]; omega
  rw [e, List.append_assoc, List.take_left' hl]
theorem sc_drop (l : List (List UInt8)) (k : Nat) (h : k ≤ l.length) (r : List Value) : (sc l ++ r).drop k = sc (l.drop k) ++ r := by
  have e : sc l = sc (l.take k) ++ sc (l.drop k) := by rw [← sc_append, List.take_append_drop]
  have hl : (sc (l.take k)).length = k := by rw [sc_length, List.length_take]; omega
  rw [e, List.append_assoc, List.drop_left' hl]
set_option maxRecDepth 100000 in
set_option maxHeartbeats 4000000 in
theorem replace_end {base : Nat} {w : World} {g cap : Nat} {l : List (List UInt8)} {rest : List Value} (h : RW 9 1 base w g cap (sc l) rest) (p : List UInt8) (vb : Nat) (hv : w.heap[vb]? = some (.cells #[.string (bs p)] 9 (0, 0))) (_hne : vb ≠ g) (i : Nat) (hi : i < l.length) :
    Calls Tryz.prog 76 #[.slice (some ⟨g, 0, none⟩) l.length cap, .int .i64 (i : Int), .int .i64 (l.length : Int), .slice (some ⟨vb, 0, none⟩) 1 1] w fun e w' => e = .returned (.slice (some ⟨g, 0, none⟩) (i + 1) cap) ∧ (∃ rest', RW 9 1 base w' g cap (sc (l.take i ++ [p])) rest') ∧ Only [g] w w' := by
  have hsz := h.sz
  rw [sc_length] at hsz
  have hcm := h.cm
  unfold maxLen at hcm
  obtain ⟨i0, hq, hz0, hz1, hz2⟩ := info_parts info9
  obtain ⟨w1, hap, hr1, ho1⟩ := h.app und70 hq hz1 i ⟨vb, 0, none⟩ 1 1 (sc [p]) rfl (World.news_of_block hv) (by omega) (sc_one _)
  rw [Nat.mul_one, sc_take l i (by omega)] at hr1
  have H1 : Hid (RW 9 1 base w1 g cap (sc (l.take i ++ [p])) ((sc l ++ rest).drop (i + (sc [p]).length)) ∧ Only [g] w w1) := ⟨by rw [sc_append]; exact hr1, ho1⟩
  have h1s : (sc (l.take i ++ [p])).length = i + 1 := by rw [sc_length]; simp; omega
  obtain ⟨X, hX⟩ := sl_both (some ⟨g, 0, none⟩) l.length cap i l.length (by omega) (by omega)
  have hs1 := sl_hi g 0 l.length cap (i : Int) i rfl (by omega) (by omega)
  by_cases hlt : i + 1 < l.length
  · obtain ⟨w2, hcl, hr2, ho2⟩ := H1.out.1.clear und70 zero9 rfl (i + 1) (l.length - (i + 1)) (cap - (i + 1)) (by omega) (zc_one _)
    rw [← h1s, List.take_left, h1s] at hr2
    have H2 : Hid (RW 9 1 base w2 g cap (sc (l.take i ++ [p])) _ ∧ Only [g] w w2) := ⟨hr2, H1.out.2.trans ho2⟩
    have hs2 := sl_lo g 0 l.length cap ((i : Int) + 1) (i + 1) (by omega) (by omega) (by omega)
    simp only [Nat.zero_add] at hs2
    obtain ⟨n, hn⟩ : ∃ n, l.length = n := ⟨_, rfl⟩
    rw [hn] at hi hlt hX hs1 hs2 hcl ⊢
    obtain ⟨D, hD⟩ : ∃ D, Value.slice (some ⟨g, i + 1, none⟩) (n - (i + 1)) (cap - (i + 1)) = D := ⟨_, rfl⟩
    rw [hD] at hs2 hcl
    clear h hv hr1 ho1 h1s hr2 ho2 hsz hn hD
    have k1 : ¬ ((i : Int) = (n : Int)) := by omega
    have k2 : (i : Int) + 1 < (n : Int) := by omega
    go_enter Tryz.func76, Tryz.ntmps76
    go_wp2_with (first | (at_builtin; refine wpList_app_run rfl (.tmp 32) (.tmp 33) 23 23 rfl (.slice (some ⟨g, 0, none⟩) i cap) (.slice (some ⟨vb, 0, none⟩) 1 1) rfl rfl (hap _) ?_))
    go_ret
    exact ⟨rfl, ⟨_, H2.out.1⟩, H2.out.2⟩
  · obtain ⟨n, hn⟩ : ∃ n, l.length = n := ⟨_, rfl⟩
    rw [hn] at hi hlt hX hs1 ⊢
    clear h hv hr1 ho1 h1s hsz hn
    have k1 : ¬ ((i : Int) = (n : Int)) := by omega
    have k2 : ¬ ((i : Int) + 1 < (n : Int)) := by omega
    go_enter Tryz.func76, Tryz.ntmps76
    go_wp2_with (first | (at_builtin; refine wpList_app_run rfl (.tmp 32) (.tmp 33) 23 23 rfl (.slice (some ⟨g, 0, none⟩) i cap) (.slice (some ⟨vb, 0, none⟩) 1 1) rfl rfl (hap _) ?_))
    go_ret
    exact ⟨rfl, ⟨_, H1.out.1⟩, H1.out.2⟩
theorem mid_one (l : List (List UInt8)) (p : List UInt8) (i m : Nat) (j : Nat) (hij : i < j) (hj : j + m = l.length) (A : List Value) (hA : A = sc (l.take i) ++ sc [p]) (B : List Value) :
    (A ++ B).take (i + 1) ++ sc (l.drop j) = sc (l.take i ++ p :: l.drop j) := by
  have h1 : A.length = i + 1 := by rw [hA, ← sc_append, sc_length]; simp; omega
  rw [List.take_left' h1, hA, ← sc_append, ← sc_append]
  simp
set_option maxRecDepth 100000 in
set_option maxHeartbeats 4000000 in
theorem replace_mid {base : Nat} {w : World} {g cap : Nat} {l : List (List UInt8)} {rest : List Value} (h : RW 9 1 base w g cap (sc l) rest) (p : List UInt8) (vb : Nat) (hv : w.heap[vb]? = some (.cells #[.string (bs p)] 9 (0, 0))) (hne : vb ≠ g) (i j m : Nat) (hij : i < j) (hj : j + m = l.length) (hm : 0 < m) (hl : l.length ≤ 1000000000) :
    Calls Tryz.prog 76 #[.slice (some ⟨g, 0, none⟩) l.length cap, .int .i64 (i : Int), .int .i64 (j : Int), .slice (some ⟨vb, 0, none⟩) 1 1] w fun e w' => e = .returned (.slice (some ⟨g, 0, none⟩) (i + 1 + m) cap) ∧ (∃ rest', RW 9 1 base w' g cap (sc (l.take i ++ p :: l.drop j)) rest') ∧ Only [g] w w' := by
  have hsz := h.sz
  rw [sc_length] at hsz
  have hcm := h.cm
  unfold maxLen at hcm
  obtain ⟨i0, hq, hz0, hz1, hz2⟩ := info_parts info9
  have hd : RW 9 1 base w.drew g cap (sc l) rest := ⟨h.blk, h.ge, h.cm, h.sz⟩
  obtain ⟨w1, hc1, hr1, ho1⟩ := hd.copy und70 hq hz1 i (1 + m) (cap - i) ⟨vb, 0, none⟩ 1 1 (sc [p]) (by show 1 = min _ _ * 1; omega) (World.news_of_block (w := w.drew) hv) (by simp [sc_length]; omega) (sc_one _)
  rw [sc_take l i (by omega)] at hr1
  have hd1 : RW 9 1 base w1.drew g cap (sc (l.take i) ++ sc [p]) ((sc l ++ rest).drop (i + (sc [p]).length)) := ⟨hr1.blk, hr1.ge, hr1.cm, hr1.sz⟩
  have h1s : (sc (l.take i) ++ sc [p]).length = i + 1 := by rw [← sc_append, sc_length]; simp; omega
  have hmin : Nat.min m m = m := by show min _ _ = _; omega
  obtain ⟨w2, hc2, hr2, ho2⟩ := hd1.copy und70 hq hz1 (i + 1) m (cap - (i + 1)) ⟨g, j, none⟩ m (cap - j) (sc (l.drop j)) (by rw [sc_length, List.length_drop, hmin]; omega) (fun t u hu => by
    rw [add_lit]
    refine hd1.cell ?_
    have ht := (List.getElem?_eq_some_iff.1 hu).1
    rw [List.getElem?_append_right (by rw [h1s]; omega), h1s, show i + (sc [p]).length = i + 1 from rfl, List.getElem?_drop, show i + 1 + (j + t - (i + 1)) = j + t by omega]
    have e1 := sc_drop l j (by omega) rest
    have e2 : ((sc l ++ rest).drop j)[t]? = some u := by rw [e1, List.getElem?_append_left ht]; exact hu
    rwa [List.getElem?_drop] at e2) (by rw [sc_length, List.length_drop]; omega) (sc_one _)
  rw [hmin] at hc2
  rw [mid_one l p i m j hij hj _ rfl _] at hr2
  have h2s : (sc (l.take i ++ p :: l.drop j)).length = i + 1 + m := by rw [sc_length]; simp; omega
  obtain ⟨o, hso, hoo⟩ := sl_end g l.length cap ((i : Int) + 1 + m) (i + 1 + m) (by omega) (by omega) (by omega)
  obtain ⟨w3, hc3, hr3, ho3⟩ : ∃ w3, (∀ ty, (Builtin.clear_ #[23] ty #[.slice (some ⟨g, o, none⟩) (l.length - (i + 1 + m)) (cap - (i + 1 + m))]).run Tryz.prog w2 = .ok (.tuple #[]) w3) ∧ (∃ rest', RW 9 1 base w3 g cap (sc (l.take i ++ p :: l.drop j)) rest') ∧ Only [g] w2 w3 := by
    rcases hoo with rfl | ⟨e0, rfl⟩
    · obtain ⟨w3, h1, h2, h3⟩ := hr2.clear und70 zero9 rfl (i + 1 + m) (l.length - (i + 1 + m)) (cap - (i + 1 + m)) (by omega) (zc_one _)
      rw [← h2s, List.take_left, h2s] at h2
      exact ⟨w3, h1, ⟨_, h2⟩, h3⟩
    · rw [e0]
      exact ⟨w2, fun ty => by simp [Builtin.clear_, run_underlying und70], ⟨_, hr2⟩, Only.refl _ _⟩
  have H3 : Hid ((∃ rest', RW 9 1 base w3 g cap (sc (l.take i ++ p :: l.drop j)) rest') ∧ Only [g] w w3) := ⟨hr3, (Only.drew _ w 1).trans (ho1.trans ((Only.drew _ w1 1).trans (ho2.trans ho3)))⟩
  obtain ⟨X, hX⟩ := sl_both (some ⟨g, 0, none⟩) l.length cap i j (by omega) (by omega)
  have hs1 := sl_hi g 0 l.length cap (i : Int) i rfl (by omega) (by omega)
  have hs2 := sl_lo g 0 l.length cap (j : Int) j rfl (by omega) (by omega)
  have hs3 := sl_hi g 0 l.length cap ((i : Int) + 1 + m) (i + 1 + m) (by omega) (by omega) (by omega)
  have hs4 := sl_lo g 0 (i + 1 + m) cap (i : Int) i rfl (by omega) (by omega)
  have hs5 := sl_lo g 0 (i + 1 + m) cap ((i : Int) + 1) (i + 1) (by omega) (by omega) (by omega)
  rw [show l.length - j = m by omega] at hs2
  rw [show i + 1 + m - i = 1 + m by omega] at hs4
  rw [show i + 1 + m - (i + 1) = m by omega] at hs5
  simp only [Nat.zero_add] at hs2 hs4 hs5
  obtain ⟨n, hn⟩ : ∃ n, l.length = n := ⟨_, rfl⟩
  rw [hn] at hj hl hX hs1 hs2 hs3 hso hc3 hsz ⊢
  obtain ⟨D, hD⟩ : ∃ D, Value.slice (some ⟨g, o, none⟩) (n - (i + 1 + m)) (cap - (i + 1 + m)) = D := ⟨_, rfl⟩
  rw [hD] at hso hc3
  have k1 : ¬ ((i : Int) = (j : Int)) := by omega
  have k2 : ¬ ((j : Int) = (n : Int)) := by omega
  have k3 : ¬ ((cap : Int) < (i : Int) + 1 + m) := by omega
  have k4 : (i : Int) + 1 + m ≤ (cap : Int) := by omega
  have k5 : (i : Int) + 1 ≤ (j : Int) := by omega
  have k6 : IntKind.i64.wrap ((i : Int) + 1) = (i : Int) + 1 := by rw [IntKind.wrap_i64]; omega
  have k7 : IntKind.i64.wrap ((i : Int) + 1 + m) = (i : Int) + 1 + m := by rw [IntKind.wrap_i64]; omega
  have KS1 : w1.cell? ⟨vb, 0, none⟩ = some (.string (bs p)) := by
    have hvb := (ho1.block vb (Array.getElem?_eq_some_iff.1 hv).1 (by simpa using hne)).trans hv
    simp [World.cell?, hvb]
  have KS2 : w2.cell? ⟨vb, 0, none⟩ = some (.string (bs p)) := by
    have hvb := (ho1.block vb (Array.getElem?_eq_some_iff.1 hv).1 (by simpa using hne)).trans hv
    have hvb2 := (ho2.block vb (Array.getElem?_eq_some_iff.1 hvb).1 (by simpa using hne)).trans hvb
    simp [World.cell?, hvb2]
  clear hn h hv hr1 ho1 hd hd1 h1s hmin ho2 ho3 hr2 hr3 h2s hoo hD
  go_enter Tryz.func76, Tryz.ntmps76
  go_wp2_with fail
  go_region
  go_wp2_with (first | (at_builtin; refine wpList_copy_run rfl (.tmp 95) (.tmp 96) 23 23 rfl (.slice (some ⟨g, i, none⟩) (1 + m) (cap - i)) (.slice (some ⟨vb, 0, none⟩) 1 1) rfl rfl (hc1 _) ?_))
  go_region_held3 (fun w' => w'.cell? ⟨vb, 0, none⟩ = some (.string (bs p))) (first | (with_reducible exact KS1) | (with_reducible exact KS2) | go_keep) (first | (refine step_copy_run rfl (.tmp 103) (.tmp 106) 23 23 rfl (.slice (some ⟨g, i + 1, none⟩) m (cap - (i + 1))) (.slice (some ⟨g, j, none⟩) m (cap - j)) rfl rfl (hc2 _) ?_))
  go_wp2_with fail
  go_ret
  exact ⟨rfl, H3.out.1, H3.out.2⟩
/-- in either place -/
theorem replace_any {base : Nat} {w : World} {g cap : Nat} {l : List (List UInt8)} {rest : List Value} (h : RW 9 1 base w g cap (sc l) rest) (p : List UInt8) (vb : Nat) (hv : w.heap[vb]? = some (.cells #[.string (bs p)] 9 (0, 0))) (hne : vb ≠ g) (i j : Nat) (hij : i < j) (hj : j ≤ l.length) (hl : l.length ≤ 1000000000) :
    Calls Tryz.prog 76 #[.slice (some ⟨g, 0, none⟩) l.length cap, .int .i64 (i : Int), .int .i64 (j : Int), .slice (some ⟨vb, 0, none⟩) 1 1] w fun e w' => ∃ v', e = .returned v' ∧ v'.ownBlock = some g ∧ Own base w' v' (l.take i ++ p :: l.drop j) ∧ Only [g] w w' := by
  have fin : ∀ {w' : World} {rest' : List Value}, RW 9 1 base w' g cap (sc (l.take i ++ p :: l.drop j)) rest' → Own base w' (.slice (some ⟨g, 0, none⟩) (l.take i ++ p :: l.drop j).length cap) (l.take i ++ p :: l.drop j) := fun {w' rest'} hr => by
    have hs := hr.sz
    rw [sc_length] at hs
    exact ⟨by rw [sc_length]; omega, .inr ⟨g, cap, _, rfl, hr.ge, hr.blk, by omega, hr.cm, by simp [sc_length]; simpa using hs, by rw [Nat.mul_one, ← sc_length]; simp⟩⟩
  by_cases e : j = l.length
  · subst e
    refine (replace_end h p vb hv hne i (by omega)).mono ?_
    rintro e w' ⟨rfl, ⟨r, hr⟩, ho⟩
    have e2 : l.take i ++ [p] = l.take i ++ p :: l.drop l.length := by simp
    rw [e2] at hr
    have hlen : (l.take i ++ p :: l.drop l.length).length = i + 1 := by simp; omega
    refine ⟨_, rfl, rfl, ?_, ho⟩
    have := fin hr
    rwa [hlen] at this
  · refine (replace_mid h p vb hv hne i j (l.length - j) hij (by omega) (by omega) hl).mono ?_
    rintro e w' ⟨rfl, ⟨r, hr⟩, ho⟩
    have hlen : (l.take i ++ p :: l.drop j).length = i + 1 + (l.length - j) := by simp; omega
    refine ⟨_, rfl, rfl, ?_, ho⟩
    have := fin hr
    rwa [hlen] at this
end Go.Proofs.YtbaheiimcnfaaaaGreat

namespace Go.Proofs.YtbaheiimcnfaaaaGreat
open Go.RowKit

theorem fol_step (l : List Fl) (k : Nat) (h : k + 1 < l.length) : chain (l.drop k) = (fol (l[k]'(by omega)).path (l[k + 1]'h).path && chain (l.drop (k + 1))) := by
  rw [List.drop_eq_getElem_cons (by omega : k < l.length), List.drop_eq_getElem_cons h, chain]
theorem all_step (l : List Fl) (P : Fl → Bool) (k : Nat) (h : k < l.length) : (l.drop k).all P = (P (l[k]'h) && (l.drop (k + 1)).all P) := by
  rw [List.drop_eq_getElem_cons h, List.all_cons]
theorem chain_short (l : List Fl) (h : l.length ≤ 1) : chain l = true := by
  match l, h with
  | [], _ => rfl
  | [a], _ => rfl
/-- what is still to be looked at -/
def lookF (l : List Fl) (k : Nat) : Bool := (l.drop k).all (fun f => fileE f == 0) && chain (l.drop (k - 1))
theorem lookF_end (l : List Fl) : lookF l l.length = true := by
  unfold lookF
  rw [List.drop_length, chain_short _ (by simp; omega)]; rfl
theorem lookF_zero (l : List Fl) (h : 0 < l.length) : lookF l 0 = (fileE (l[0]'h) == 0 && lookF l 1) := by
  unfold lookF
  rw [all_step l _ 0 h]
  simp only [Nat.zero_sub, Nat.sub_self, Nat.zero_add, Bool.and_assoc]
theorem lookF_succ (l : List Fl) (k : Nat) (h : k + 1 < l.length) : lookF l (k + 1) = (fileE (l[k + 1]'h) == 0 && (fol (l[k]'(by omega)).path (l[k + 1]'h).path && lookF l (k + 2))) := by
  unfold lookF
  rw [all_step l _ (k + 1) h]
  simp only [Nat.add_sub_cancel, show k + 2 - 1 = k + 1 by omega]
  rw [fol_step l k h]
  cases (fileE l[k + 1] == 0) <;> cases ((l.drop (k + 1 + 1)).all fun f => fileE f == 0) <;> simp

theorem gw_file {w : World} {p t : List UInt8} {b s : Int} {E : Int} (hf : Fok ⟨p, t, b, s⟩) (hE : fileE ⟨p, t, b, s⟩ = E) (X : GW w) :
    Calls Tryz.prog 65 #[.agg #[.string (bs p), .string (bs t), .int .i64 b, .int .i64 s]] X.it fun e w' => e = .returned (.int .i64 E) ∧ ∃ Y : GW w, w' = Y.it :=
  gw_of (fun W => by rw [← hE]; exact file_any ⟨p, t, b, s⟩ W hf) X
theorem gw_fol {w : World} {q p : List UInt8} {c : Bool} (hq : q.length ≤ 1000000000) (hp : p.length ≤ 1000000000) (hc : fol p q = c) (X : GW w) :
    Calls Tryz.prog 101 #[.string (bs q), .string (bs p)] X.it fun e w' => e = .returned (.bool c) ∧ ∃ Y : GW w, w' = Y.it :=
  gw_of (fun W => by rw [← hc]; exact follows_any q p W hq hp) X

set_option maxRecDepth 100000 in
set_option maxHeartbeats 4000000 in
theorem stand_any {w : World} {v : Value} {l : List Fl} (h : FS w v l) (sm : FSm l) : Calls Tryz.prog 66 #[v] w fun e w' => e = .returned (.bool (stand l)) ∧ Below w.heap.size w w' := by
  have e0 : stand l = (decide (l.length ≤ 512) && lookF l 0) := by unfold stand lookF; simp [Bool.and_assoc]
  rw [e0]
  clear e0
  obtain ⟨r, hr⟩ : ∃ r, lookF l 0 = r := ⟨_, rfl⟩
  rw [hr]
  have HR : Hid (lookF l 0 = r) := hr
  have H : Hid (FS w v l) := h
  have SM : Hid (FSm l) := sm
  have hlen : l.length ≤ 1000000000 := sm.len
  clear hr sm
  obtain ⟨a, c, rfl, _⟩ := h.form
  clear h
  obtain ⟨n, hn⟩ : ∃ n, l.length = n := ⟨_, rfl⟩
  rw [hn] at hlen ⊢
  have HN : Hid (l.length = n) := hn
  have H' : Hid (FS w (.slice a l.length c) l) := H.out
  clear H hn
  by_cases h5 : n ≤ 512
  · have hd : decide (n ≤ 512) = true := by simpa using h5
    rw [hd, Bool.true_and]
    go_enter Tryz.func66, Tryz.ntmps66
    go_wp2_with fail
    go_loopw [10] (fun i wr => ∃ k : Nat, k ≤ n ∧ i = .int .i64 k ∧ Below w.heap.size w wr ∧ lookF l k = r) (fun i _ => n - (intOf i).toNat)
    case atStart => exact ⟨0, by omega, rfl, Below.refl _ _, HR.out⟩
    case round =>
      obtain ⟨k, hk, rfl, hb, hl⟩ := hrel
      have HB : Hid (Below w.heap.size w wr) := hb
      have HL : Hid (lookF l k = r) := hl
      clear hb hl
      by_cases hlt : k < n
      · have hkl : k < l.length := by have := HN.out; omega
        obtain ⟨b, off, ea, hbw, d0, d1, d2, d3⟩ := FS.at H'.out HB.out hkl
        subst ea
        have F : Hid (Fok l[k]) := SM.out.at hkl
        have hbr : b < wr.heap.size := Nat.lt_of_lt_of_le hbw HB.out.size
        obtain ⟨f, hf⟩ : ∃ f, l[k] = f := ⟨_, rfl⟩
        rw [hf] at d0 d1 d2 d3 F
        have HFk : Hid (l[k] = f) := hf
        clear hf
        obtain ⟨p, t, bl, s⟩ := f
        simp only at d0 d1 d2 d3
        have k1 : (0 : Int) ≤ (k : Int) := by omega
        have k2 : (k : Int) < (n : Int) := by omega
        obtain ⟨E, hE⟩ : ∃ E, fileE ⟨p, t, bl, s⟩ = E := ⟨_, rfl⟩
        have HEf : Hid (∀ (w : World) (X : GW w), Calls Tryz.prog 65 #[.agg #[.string (bs p), .string (bs t), .int .i64 bl, .int .i64 s]] X.it fun e w' => e = .returned (.int .i64 E) ∧ ∃ Y : GW w, w' = Y.it) := fun _ X => gw_file F.out hE X
        have HE : Hid (fileE (l[k]'hkl) = E) := by rw [HFk.out]; exact hE
        clear hE
        have x0 : ∀ (w' : World), Below wr.heap.size wr w' → ∀ X : GW w', X.it.cell? ⟨b, off + k * 4, none⟩ = some (.string (bs p)) := fun w' hb X => X.cell (Nat.lt_of_lt_of_le hbr hb.size) ((hb.cell (p := ⟨b, off + k * 4, none⟩) hbr).trans d0)
        have X0 : Hid (∀ (w' : World), Below wr.heap.size wr w' → ∀ X : GW w', X.it.cell? ⟨b, off + k * 4, none⟩ = some (.string (bs p))) := x0
        clear x0
        go_wp2_with fail
        obtain ⟨w1, hw1⟩ : ∃ w1, wr.alloc (.cells #[.string (bs p), .string (bs t), .int .i64 bl, .int .i64 s] 45) = w1 := ⟨_, rfl⟩
        have FBn : Hid (FB w1 wr.heap.size ⟨p, t, bl, s⟩) := by rw [← hw1]; exact FB.new wr ⟨p, t, bl, s⟩ 45
        have HB1 : Hid (Below wr.heap.size wr w1) := by rw [← hw1]; exact balloc _ _
        rw [hw1]
        clear hw1 d0 d1 d2 d3
        obtain ⟨c0, c1, c2, c3, hlt1⟩ := FBn.out
        simp only at c0 c1 c2 c3
        have y0 : ∀ X : GW w1, X.it.cell? ⟨wr.heap.size, 0, none⟩ = some (.string (bs p)) := fun X => X.cell hlt1 c0
        have y1 : ∀ X : GW w1, X.it.cell? ⟨wr.heap.size, 1, none⟩ = some (.string (bs t)) := fun X => X.cell hlt1 c1
        have y2 : ∀ X : GW w1, X.it.cell? ⟨wr.heap.size, 2, none⟩ = some (.int .i64 bl) := fun X => X.cell hlt1 c2
        have y3 : ∀ X : GW w1, X.it.cell? ⟨wr.heap.size, 3, none⟩ = some (.int .i64 s) := fun X => X.cell hlt1 c3
        have xne := gw_ne w1
        clear c0 c1 c2 c3 FBn
        by_cases hE0 : E = 0
        · subst hE0
          rcases Nat.eq_zero_or_pos k with hk0 | hk0
          · subst hk0
            refine wp_region_grow (by kernel_rfl) (by kernel_rfl) ?_
            go_big_quiet_step (exact HEf.out _ _)
            repeat (go_big_quiet_step (exact HEf.out _ _))
            refine wpQuiet_nil ?_
            rintro w2 ⟨⟨w2, bx⟩, rfl⟩
            have HB5 : Hid (Below w.heap.size w w2) := bstep (bstep HB.out HB1.out) bx
            clear bx
            go_wp2_with fail
            go_roundw
            case rel => exact ⟨1, by omega, rfl, HB5.out, by have h1 := HL.out; rw [lookF_zero l hkl, HE.out] at h1; simpa using h1⟩
            case measure => simp [intOf]; omega
          · obtain ⟨m, hm⟩ : ∃ m, k = m + 1 := ⟨k - 1, by omega⟩
            have HKM : Hid (k = m + 1) := hm
            have hml : m < l.length := by omega
            obtain ⟨q, hq⟩ : ∃ q, (l[m]'hml).path = q := ⟨_, rfl⟩
            have hql : q.length ≤ 1000000000 := by rw [← hq]; exact (SM.out.at hml).path
            obtain ⟨cc, hcc⟩ : ∃ cc, fol q p = cc := ⟨_, rfl⟩
            have HFol : Hid (∀ (w : World) (X : GW w), Calls Tryz.prog 101 #[.string (bs p), .string (bs q)] X.it fun e w' => e = .returned (.bool cc) ∧ ∃ Y : GW w, w' = Y.it) := fun _ X => gw_fol F.out.path hql hcc X
            have HC : Hid (∀ (h1 : m + 1 < l.length), lookF l (m + 1) = (fileE (l[m + 1]'h1) == 0 && (cc && lookF l (m + 2)))) := fun h1 => by
              have e := lookF_succ l m h1
              have e2 : (l[m + 1]'h1) = ⟨p, t, bl, s⟩ := by
                have := HFk.out
                subst hm
                exact this
              rw [e, e2, hq, hcc]
            have hc0 : wr.cell? ⟨b, off + m * 4, none⟩ = some (.string (bs q)) := by
              obtain ⟨b', off', ea, _, z0, _⟩ := FS.at H'.out HB.out hml
              injection ea with ea
              injection ea with e1 e2
              subst e1 e2
              rw [← hq]; exact z0
            have y4 : ∀ X : GW w1, X.it.cell? ⟨b, off + m * 4, none⟩ = some (.string (bs q)) := fun X => X.cell (p := ⟨b, off + m * 4, none⟩) (Nat.lt_of_lt_of_le hbr HB1.out.size) ((HB1.out.cell (p := ⟨b, off + m * 4, none⟩) hbr).trans hc0)
            have k3 : (m : Int) < (n : Int) := by omega
            have k4 : (0 : Int) ≤ (m : Int) := by omega
            have k6 : (0 : Int) < (k : Int) := by omega
            have k5 : IntKind.i64.wrap ((k : Int) - 1) = (m : Int) := by
              have e : (k : Int) - 1 = (m : Int) := by omega
              rw [e]; exact wrap_small m (by omega)
            clear hc0 hq hcc hm
            refine wp_region_grow (by kernel_rfl) (by kernel_rfl) ?_
            repeat (go_big_quiet_step (fail))
            go_big_quiet_step (exact HEf.out _ _)
            repeat (go_big_quiet_step (fail))
            go_big_quiet_step (exact HFol.out _ _)
            repeat (go_big_quiet_step (fail))
            refine wpQuiet_nil ?_
            rintro w2 ⟨⟨w2, bx⟩, rfl⟩
            have HB5 : Hid (Below w.heap.size w w2) := bstep (bstep HB.out HB1.out) bx
            clear bx y0 y1 y2 y3 y4
            cases cc
            · go_wp2_with fail
              go_ret
              refine ⟨?_, HB5.out⟩
              have h1 := HL.out
              have hkm := HKM.out
              subst hkm
              rw [HC.out hkl] at h1
              simp at h1
              rw [← h1]; rfl
            · go_wp2_with fail
              go_roundw
              case rel =>
                refine ⟨k + 1, by omega, by go_num, HB5.out, ?_⟩
                have h1 := HL.out
                have hkm := HKM.out
                subst hkm
                rw [HC.out hkl] at h1
                have h2 := HE.out
                rw [h2] at h1
                simpa using h1
              case measure => simp [intOf]; omega
        · have hE1 : (E == 0) = false := by simpa using hE0
          have hE2 : (E != 0) = true := by simpa using hE0
          refine wp_region_grow (by kernel_rfl) (by kernel_rfl) ?_
          go_big_quiet_step (exact HEf.out _ _)
          repeat (go_big_quiet_step (exact HEf.out _ _))
          refine wpQuiet_nil ?_
          rintro w2 ⟨⟨w2, bx⟩, rfl⟩
          have HB5 : Hid (Below w.heap.size w w2) := bstep (bstep HB.out HB1.out) bx
          clear bx y0 y1 y2 y3
          go_wp2_with fail
          go_ret
          refine ⟨?_, HB5.out⟩
          have h1 := HL.out
          unfold lookF at h1
          rw [all_step l _ k hkl, HE.out, hE1] at h1
          simp at h1
          rw [← h1]; rfl
      · obtain rfl : k = n := by omega
        go_wp2_with fail
        go_ret
        refine ⟨?_, HB.out⟩
        have h1 := HL.out
        have h2 := HN.out
        subst h2
        rw [lookF_end] at h1
        rw [← h1]; rfl
  · have hd : decide (n ≤ 512) = false := by simpa using h5
    rw [hd, Bool.false_and]
    go_enter Tryz.func66, Tryz.ntmps66
    go_wp2_with fail
    go_ret
    exact ⟨rfl, Below.refl _ _⟩

theorem gw_file' (f : Fl) (hf : Fok f) (w : World) : Calls Tryz.prog 65 #[.agg #[.string (bs f.path), .string (bs f.text), .int .i64 f.blob, .int .i64 f.size]] w fun e w' => e = .returned (.int .i64 (fileE f)) ∧ Below w.heap.size w w' := file_any f w hf

set_option maxRecDepth 100000 in
set_option maxHeartbeats 4000000 in
theorem valid2_any {w : World} {v : Value} {l : List Fl} (h : FS w v l) (sm : FSm l) : Calls Tryz.prog 34 #[v] w fun e w' => e = .returned (.int .i64 (validE l)) ∧ Below w.heap.size w w' := by
  obtain ⟨r, hr⟩ : ∃ r, l.all (fun f => pathOk f.path) = r := ⟨_, rfl⟩
  have e0 : validE l = if r then (if stand l then 0 else 8) else 7 := by unfold validE; rw [hr]
  rw [e0]
  clear e0
  have HR : Hid ((l.drop 0).all (fun f => pathOk f.path) = r) := hr
  have H : Hid (FS w v l) := h
  have SM : Hid (FSm l) := sm
  have hlen : l.length ≤ 1000000000 := sm.len
  clear hr sm
  have HS : Hid (∀ w' : World, Below w.heap.size w w' → Calls Tryz.prog 66 #[v] w' fun e w' => e = .returned (.bool (stand l)) ∧ Below w.heap.size w w') := fun w' hb =>
    (stand_any (H.out.later hb) SM.out).mono fun e w2 ⟨he, h2⟩ => ⟨he, bstep hb h2⟩
  generalize stand l = st at *
  obtain ⟨a, c, rfl, _⟩ := h.form
  clear h
  obtain ⟨n, hn⟩ : ∃ n, l.length = n := ⟨_, rfl⟩
  have H' : Hid (FS w (.slice a l.length c) l) := H.out
  clear H
  rw [hn] at hlen HS ⊢
  have HN : Hid (l.length = n) := hn
  clear hn
  obtain ⟨A, hA⟩ : ∃ A : Int, (if r then (if st then (0 : Int) else 8) else 7) = A := ⟨_, rfl⟩
  rw [hA]
  have HA : Hid ((if r then (if st then (0 : Int) else 8) else 7) = A) := hA
  clear hA
  go_enter Tryz.func34, Tryz.ntmps34
  go_wp2_with fail
  go_loopw [7] (fun i wr => ∃ k : Nat, k ≤ n ∧ i = .int .i64 k ∧ Below w.heap.size w wr ∧ (l.drop k).all (fun f => pathOk f.path) = r) (fun i _ => n - (intOf i).toNat)
  case atStart => exact ⟨0, by omega, rfl, Below.refl _ _, HR.out⟩
  case round =>
    obtain ⟨k, hk, rfl, hb, hl⟩ := hrel
    have HB : Hid (Below w.heap.size w wr) := hb
    have HL : Hid ((l.drop k).all (fun f => pathOk f.path) = r) := hl
    clear hb hl
    by_cases hlt : k < n
    · have hkl : k < l.length := by have := HN.out; omega
      obtain ⟨b, off, ea, hbw, d0, d1, d2, d3⟩ := FS.at H'.out HB.out hkl
      subst ea
      have F : Hid (Fok l[k]) := SM.out.at hkl
      obtain ⟨f, hf⟩ : ∃ f, l[k] = f := ⟨_, rfl⟩
      rw [hf] at d0 d1 d2 d3 F
      have HFk : Hid (l[k] = f) := hf
      clear hf
      have HEf : Hid (∀ (w : World), Calls Tryz.prog 65 #[.agg #[.string (bs f.path), .string (bs f.text), .int .i64 f.blob, .int .i64 f.size]] w fun e w' => e = .returned (.int .i64 (fileE f)) ∧ Below w.heap.size w w') := gw_file' f F.out
      have HE : Hid (pathOk f.path = false ↔ fileE f = 7) := (fileE_seven f).symm
      have HS2 : Hid ((pathOk f.path && (l.drop (k + 1)).all (fun f => pathOk f.path)) = r) := by
        have h1 := HL.out
        rw [all_step l _ k hkl, HFk.out] at h1; exact h1
      obtain ⟨p, t, bl, s⟩ := f
      simp only at d0 d1 d2 d3 HEf HE HS2
      generalize fileE ⟨p, t, bl, s⟩ = E at *
      have k1 : (0 : Int) ≤ (k : Int) := by omega
      have k2 : (k : Int) < (n : Int) := by omega
      go_wp2_with fail
      refine (HEf.out _).mono ?_
      rintro e w2 ⟨rfl, hb2⟩
      have HB2 : Hid (Below w.heap.size w w2) := bstep (bstep HB.out (balloc _ _)) hb2
      clear hb2 d0 d1 d2 d3
      by_cases hE : E = 7
      · subst hE
        go_wp2_with fail
        go_ret
        refine ⟨?_, HB2.out⟩
        have h1 := HS2.out
        rw [HE.out.2 (by simp)] at h1
        obtain rfl : r = false := by simpa using h1.symm
        have h2 := HA.out
        rw [← h2]; rfl
      · go_wp2_with fail
        go_roundw
        case rel =>
          refine ⟨k + 1, by omega, by go_num, HB2.out, ?_⟩
          have h1 := HS2.out
          have h2 : pathOk p = true := by
            cases hp : pathOk p
            · exact absurd (HE.out.1 hp) hE
            · rfl
          rw [h2] at h1; simpa using h1
        case measure => simp [intOf]; omega
    · obtain rfl : k = n := by omega
      have hr : r = true := by
        have h1 := HL.out
        rw [List.drop_eq_nil_of_le (by have := HN.out; omega)] at h1
        exact h1.symm
      subst hr
      go_wp2_with fail
      refine (HS.out _ HB.out).mono ?_
      rintro e w2 ⟨rfl, hb2⟩
      have HB2 : Hid (Below w.heap.size w w2) := hb2
      clear hb2
      cases st
      · go_wp2_with fail
        go_ret
        exact ⟨by have h2 := HA.out; rw [← h2]; rfl, HB2.out⟩
      · go_wp2_with fail
        go_ret
        exact ⟨by have h2 := HA.out; rw [← h2]; rfl, HB2.out⟩
end Go.Proofs.YtbaheiimcnfaaaaGreat
