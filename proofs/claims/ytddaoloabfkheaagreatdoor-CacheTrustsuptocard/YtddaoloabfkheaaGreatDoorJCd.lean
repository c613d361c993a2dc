/-
  The document's Get.
  The document's number and text at a place.
  Bytes that are a cache's, read from the front: plain lists.
-/
import Derived.Test.YtddaoloabfkheaaGreatDoorJCq
import Derived.Test.YtddaoloabfkheaaGreatDoorJSameg
namespace Go.Proofs.YtddaoloabfkheaaGreatDoor
open Go.RowKit

/-- what Get answers -/
def gtK (K : List Lb) (p t : List UInt8) : List Tg × Int × Bool := if (⟨p, t⟩ : Lb) ∈ K then ((prsM (dir p) t).1, (prsM (dir p) t).2, true) else ([], 0, false)
def LsG (w : World) (R : List Tg × Int × Bool) (e : Ending) (w' : World) : Prop := ∃ v, e = .returned (.tuple #[v, .int .i64 R.2.1, .bool R.2.2]) ∧ GOwn w.heap.size w' v R.1 ∧ Below w.heap.size w w'
theorem gtK_sm (K : List Lb) (p t : List UInt8) : GSm (gtK K p t).1 := by
  unfold gtK
  split
  · exact prsM_sm _ _
  · exact ⟨by simp, by simp⟩

set_option maxRecDepth 100000 in
set_option maxHeartbeats 4000000 in
theorem rcget_any {w : World} {F : Nat → Prop} {g : Nat} {K : List Lb} (h : RC w F g K) (p t : List UInt8) (hp : p.length ≤ 1000000000) (ht : t.length ≤ 1000000000) :
    Calls Tryz.prog 51 #[.pointer (some ⟨g, 0, none⟩), .string (bs p), .string (bs t)] w (LsG w (gtK K p t)) := by
  have hgl := h.glt
  obtain ⟨av, cv, hc, hf, hL⟩ := h.row
  have HA : Hid (∀ W : World, Below w.heap.size w W → Calls Tryz.prog 47 #[.pointer (some ⟨g, 0, none⟩), .agg #[.string (bs p), .string (bs t)]] W fun e w' => e = .returned (.int .i64 (kix K ⟨p, t⟩)) ∧ Below W.heap.size W w') := fun W hW => rkat_any ((hW.cell (p := ⟨g, 0, none⟩) hgl).trans hc) (Nat.lt_of_lt_of_le hgl hW.size) (hL.later hW) (by have := h.ok.len; omega) ⟨p, t⟩
  have HD : Hid (∀ W, Calls Tryz.prog 48 #[.string (bs p)] W fun e w' => e = .returned (.string (bs (dir p))) ∧ w' = W) := fun W => rdir_any p W (by omega)
  have hdl := dir_le p
  have HPr : Hid (∀ W, Calls Tryz.prog 17 #[.string (bs (dir p)), .string (bs t)] W (LsP W (prsM (dir p) t))) := fun W => rpars_any (dir p) t (by omega) ht
  have hkr := kix_range K ⟨p, t⟩
  obtain ⟨x, hx⟩ : ∃ x, kix K ⟨p, t⟩ = x := ⟨_, rfl⟩
  rw [hx] at hkr HA
  unfold gtK
  generalize dir p = dp at *
  obtain ⟨R, hR⟩ : ∃ R, prsM dp t = R := ⟨_, rfl⟩
  rw [hR] at HPr ⊢
  obtain ⟨A, z⟩ := R
  clear h hc hf hL hx hR hdl hgl
  rcases hkr with ⟨hm, h1, _⟩ | ⟨hm, rfl⟩
  · rw [if_pos hm]
    have x1 : ¬ x < 0 := by omega
    go_enter Tryz.func51, Tryz.ntmps51
    go_wp2_with fail
    refine (HA.out _ (by first | exact Below.refl _ _ | exact balloc _ _)).mono ?_
    rintro e w1 ⟨rfl, hb1⟩
    have H1 : Hid (Below w.heap.size w w1) := by first | exact hb1 | exact bstep (balloc _ _) hb1
    clear hb1
    go_wp2_with fail
    refine (HD.out _).mono ?_
    rintro e w2 ⟨rfl, rfl⟩
    go_wp2_with fail
    refine (HPr.out _).mono ?_
    rintro e w3 ⟨v3, rfl, ho3, hb3⟩
    have H3 : Hid (GOwn w.heap.size w3 v3 A ∧ Below w.heap.size w w3) := ⟨ho3.mono H1.out.size, bstep H1.out hb3⟩
    clear ho3 hb3
    go_wp2_with fail
    go_ret3
    exact ⟨_, rfl, H3.out.1, H3.out.2⟩
  · rw [if_neg hm]
    go_enter Tryz.func51, Tryz.ntmps51
    go_wp2_with fail
    refine (HA.out _ (by first | exact Below.refl _ _ | exact balloc _ _)).mono ?_
    rintro e w1 ⟨rfl, hb1⟩
    have H1 : Hid (Below w.heap.size w w1) := by first | exact hb1 | exact bstep (balloc _ _) hb1
    clear hb1
    go_wp2_with fail
    go_ret3
    exact ⟨_, rfl, GOwn.nil _ _, H1.out⟩
end Go.Proofs.YtddaoloabfkheaaGreatDoor

namespace Go.Proofs.YtddaoloabfkheaaGreatDoor
open Go.RowKit

theorem BS.at {w : World} {a : Option Addr} {c n : Nat} {l : List UInt8} (h : BS w (.slice a n c) l) {k : Nat} (hk : k < l.length) : ∃ b off, a = some ⟨b, off, none⟩ ∧ b < w.heap.size ∧ w.cell? ⟨b, off + k, none⟩ = some (.int .u8 l[k].toNat) := by
  rcases h with ⟨_, rfl⟩ | ⟨b, off, cap, e, hc, hlt, hcell⟩
  · simp at hk
  · injection e with e1 e2 e3
    subst e1
    refine ⟨b, off, rfl, hlt, hcell k _ ?_⟩
    rw [bc_get, List.getElem?_eq_getElem hk]
    rfl
theorem BS.len {w : World} {v : Value} {l : List UInt8} (h : BS w v l) : ∃ a c, v = .slice a l.length c ∧ l.length ≤ c := by
  rcases h with ⟨⟨a, c, rfl⟩, rfl⟩ | ⟨b, off, cap, rfl, hc, hlt, hcell⟩
  · exact ⟨a, c, rfl, Nat.zero_le _⟩
  · exact ⟨_, cap, rfl, hc⟩

set_option maxRecDepth 100000 in
set_option maxHeartbeats 4000000 in
theorem rnumb_any {w : World} {v : Value} {b : List UInt8} (h : BS w v b) (z : Int) (h1 : -1 ≤ z) (h2 : z ≤ 1000000000000) :
    Calls Tryz.prog 45 #[v, .int .i64 z] w fun e w' => e = .returned (.int .i64 (nmP b z)) ∧ Below w.heap.size w w' := by
  have H : Hid (BS w v b) := h
  obtain ⟨av, cv, hvv, _⟩ := h.len
  obtain ⟨n, hn⟩ : ∃ n, b.length = n := ⟨_, rfl⟩
  rw [hn] at hvv
  subst hvv
  have HN : Hid (b.length = n) := hn
  clear h hn
  have w4 : IntKind.i64.wrap (z + 4) = z + 4 := wrap_small _ (by omega) (by omega)
  by_cases hz : z < 0
  · have HE : Hid (nmP b z = -1) := by show _ = _; unfold nmP; rw [if_pos (.inl hz)]
    rw [HE.out]
    go_enter Tryz.func45, Tryz.ntmps45
    go_wp2_with fail
    go_ret
    exact ⟨rfl, Below.refl _ _⟩
  · by_cases h4 : z + 4 > n
    · have HE : Hid (nmP b z = -1) := by show _ = _; unfold nmP; rw [if_pos (.inr (by rw [HN.out]; exact h4))]
      rw [HE.out]
      go_enter Tryz.func45, Tryz.ntmps45
      go_wp2_with fail
      go_ret
      exact ⟨rfl, Below.refl _ _⟩
    · obtain ⟨k, rfl⟩ : ∃ k : Nat, z = (k : Int) := ⟨z.toNat, by omega⟩
      have hkn : k + 4 ≤ b.length := by rw [HN.out]; omega
      obtain ⟨g, off, ea, hgl, d0⟩ := H.out.at (k := k) (by omega)
      obtain ⟨_, _, ea1, _, d1⟩ := H.out.at (k := k + 1) (by omega)
      obtain ⟨_, _, ea2, _, d2⟩ := H.out.at (k := k + 2) (by omega)
      obtain ⟨_, _, ea3, _, d3⟩ := H.out.at (k := k + 3) (by omega)
      subst ea
      injection ea1 with ea1; injection ea1 with e1 e2; subst e1 e2
      injection ea2 with ea2; injection ea2 with e1 e2; subst e1 e2
      injection ea3 with ea3; injection ea3 with e1 e2; subst e1 e2
      have HE : Hid (nmP b (k : Int) = ((b[k].toNat + 256 * (b[k + 1].toNat + 256 * (b[k + 2].toNat + 256 * b[k + 3].toNat)) : Nat) : Int)) := by
        show _ = _
        unfold nmP
        rw [if_neg (by omega), Int.toNat_natCast]
        have e : (b.drop k).take 4 = [b[k], b[k + 1], b[k + 2], b[k + 3]] := by
          rw [List.drop_eq_getElem_cons (by omega), List.drop_eq_getElem_cons (by omega), List.drop_eq_getElem_cons (by omega), List.drop_eq_getElem_cons (by omega)]
          rfl
        rw [e]
        simp [num]
      have hb0 : b[k].toNat < 256 := b[k].toNat_lt
      have hb1 : b[k + 1].toNat < 256 := b[k + 1].toNat_lt
      have hb2 : b[k + 2].toNat < 256 := b[k + 2].toNat_lt
      have hb3 : b[k + 3].toNat < 256 := b[k + 3].toNat_lt
      rw [HE.out]
      revert d0 d1 d2 d3 hb0 hb1 hb2 hb3
      generalize b[k].toNat = x0
      generalize b[k + 1].toNat = x1
      generalize b[k + 2].toNat = x2
      generalize b[k + 3].toNat = x3
      intro d0 d1 d2 d3 hb0 hb1 hb2 hb3
      clear w4 HE
      have k4 : ¬ (k : Int) < 0 := by omega
      go_enter Tryz.func45, Tryz.ntmps45
      go_wp2_with fail
      go_quiet (fail)
      go_wp2_with fail
      go_ret
      refine ⟨?_, bd _ _⟩
      show Ending.returned (.int .i64 ((x0 : Int) + 256 * x1 + 65536 * x2 + 16777216 * x3)) = _
      rw [show ((x0 : Int) + 256 * x1 + 65536 * x2 + 16777216 * x3) = ((x0 + 256 * (x1 + 256 * (x2 + 256 * x3)) : Nat) : Int) by omega]
theorem nmP_range (b : List UInt8) (z : Int) : -1 ≤ nmP b z ∧ nmP b z < 4294967296 ∧ (0 ≤ nmP b z → 0 ≤ z ∧ z + 4 ≤ b.length) := by
  unfold nmP
  split
  · omega
  · rename_i h
    have := num_lt ((b.drop z.toNat).take 4)
    have h2 : ((b.drop z.toNat).take 4).length = 4 := by rw [List.length_take, List.length_drop]; omega
    rw [h2] at this
    omega
/-- a piece of bytes -/
theorem BS.sub {w : World} {g off n c : Nat} {l : List UInt8} (h : BS w (.slice (some ⟨g, off, none⟩) n c) l) (hn : n = l.length) (i m : Nat) (hi : i + m ≤ l.length) (c' : Nat) (hc : m ≤ c') : BS w (.slice (some ⟨g, off + i, none⟩) m c') ((l.drop i).take m) := by
  have hlen : ((l.drop i).take m).length = m := by rw [List.length_take, List.length_drop]; omega
  rcases h with ⟨⟨a, c2, e⟩, rfl⟩ | ⟨b, off2, cap, e, hc2, hlt, hcell⟩
  · simp at hi
    obtain ⟨rfl, rfl⟩ := hi
    exact .inl ⟨⟨_, _, rfl⟩, by simp⟩
  · injection e with e1 e2 e3
    injection e1 with e1
    injection e1 with e4 e5
    subst e4 e5
    refine .inr ⟨g, off + i, c', by rw [hlen], by rw [hlen]; exact hc, hlt, fun j u hu => ?_⟩
    rw [bc_get] at hu
    have hj : j < m := by
      rcases Nat.lt_or_ge j m with h | h
      · exact h
      · rw [List.getElem?_eq_none (by omega)] at hu; cases hu
    rw [Nat.add_assoc]
    refine hcell (i + j) u ?_
    rw [bc_get, ← hu, List.getElem?_take, if_pos hj, List.getElem?_drop]

theorem slice_both (d off len cap lo hi : Nat) (h1 : lo ≤ hi) (h2 : hi ≤ cap) :
    ∃ so, (0 < hi - lo → so = off + lo) ∧ ∀ (y z : Int), y = (lo : Int) → z = (hi : Int) → ∀ u : World, (Instr.slice 41 (.slice (some ⟨d, off, none⟩) len cap) (some (.int .i64 y)) (some (.int .i64 z)) none).run Tryz.prog u = .ok (.slice (some ⟨d, so, none⟩) (hi - lo) (cap - lo)) u := by
  obtain ⟨i0, hi0, hz0, hz1, hz2⟩ := info_parts info5
  refine ⟨if cap = lo then off else off + lo, fun h => by rw [if_neg (by omega)], fun y z hy hz u => ?_⟩
  subst hy hz
  rw [run_slice_lh (P := Tryz.prog) u 41 (some ⟨d, off, none⟩) len cap (by rw [elem27]; exact und41) .i64 .i64 lo hi (by omega) (by omega) (by omega)]
  have hsz : (sizeOf 5).run Tryz.prog u = .ok 1 u := by simp [sizeOf, typeInfo, hi0, hz1]
  rw [elem27, hsz]
  simp only [Result.andThen_ok, sliced, Int.toNat_natCast, Nat.mul_one, Option.map_some, add_lit]
  by_cases e : cap = lo
  · simp [e]
  · simp [e]
set_option maxRecDepth 100000 in
set_option maxHeartbeats 4000000 in
theorem rtxt_any {w : World} {v : Value} {b : List UInt8} (h : BS w v b) (z : Int) (h1 : -1 ≤ z) (h2 : z ≤ 1000000000000) (hl : b.length ≤ 1000000000000) :
    Calls Tryz.prog 44 #[v, .int .i64 z] w fun e w' => e = .returned (.tuple #[.string (bs (txP b z).1), .int .i64 (txP b z).2]) ∧ Below w.heap.size w w' := by
  have H : Hid (BS w v b) := h
  have HC := rnumb_any h z h1 h2
  obtain ⟨r1, r2, r3⟩ := nmP_range b z
  obtain ⟨R, hR⟩ : ∃ R, txP b z = R := ⟨_, rfl⟩
  rw [hR]
  unfold txP at hR
  obtain ⟨m, hm⟩ : ∃ m, nmP b z = m := ⟨_, rfl⟩
  rw [hm] at HC hR r1 r2 r3
  have HC : Hid (Calls Tryz.prog 45 #[v, .int .i64 z] w fun e w' => e = .returned (.int .i64 m) ∧ Below w.heap.size w w') := HC
  obtain ⟨av, cv, hvv, hcv⟩ := h.len
  obtain ⟨n, hn⟩ : ∃ n, b.length = n := ⟨_, rfl⟩
  rw [hn] at hvv hl hR hcv r3
  subst hvv
  have HN : Hid (b.length = n) := hn
  clear h hn hm
  by_cases hz : m < 0
  · rw [if_pos (.inl hz)] at hR
    subst hR
    go_enter Tryz.func44, Tryz.ntmps44
    go_wp2_with fail
    refine HC.out.mono ?_
    rintro e w1 ⟨rfl, hb1⟩
    have HB : Hid (Below w.heap.size w w1) := hb1
    clear hb1
    go_wp2_with fail
    go_ret2
    exact ⟨rfl, HB.out⟩
  · obtain ⟨k, rfl⟩ : ∃ k : Nat, z = (k : Int) := ⟨z.toNat, by have := r3 (by omega); omega⟩
    obtain ⟨q, rfl⟩ : ∃ q : Nat, m = (q : Int) := ⟨m.toNat, by omega⟩
    have hk4 : k + 4 ≤ n := by have := r3 (by omega); omega
    clear r3 r1
    by_cases h4 : (k : Int) + 4 + q > n
    · rw [if_pos (.inr h4)] at hR
      subst hR
      go_enter Tryz.func44, Tryz.ntmps44
      go_wp2_with fail
      refine HC.out.mono ?_
      rintro e w1 ⟨rfl, hb1⟩
      have HB : Hid (Below w.heap.size w w1) := hb1
      clear hb1
      go_wp2_with fail
      go_ret2
      exact ⟨rfl, HB.out⟩
    · rw [if_neg (by omega)] at hR
      simp only [Int.toNat_natCast] at hR
      subst hR
      obtain ⟨g, off, ea, hgl, _⟩ := H.out.at (k := 0) (by rw [HN.out]; omega)
      subst ea
      obtain ⟨x, hx⟩ : ∃ x, (b.drop (k + 4)).take q = x := ⟨_, rfl⟩
      rw [hx]
      obtain ⟨so, hso, hs⟩ := slice_both g off n cv (k + 4) (k + 4 + q) (by omega) (by omega)
      rw [show k + 4 + q - (k + 4) = q by omega] at hs hso
      have hs := hs ((k : Int) + 4) ((k : Int) + 4 + q) (by omega) (by omega)
      have HV : Hid (∀ W, Below w.heap.size w W → (convert 41 9 (.slice (some ⟨g, so, none⟩) q (cv - (k + 4)))).run Tryz.prog W = .ok (.string (bs x)) W) := fun W hW => by
        have hB : BS w (.slice (some ⟨g, so, none⟩) q (cv - (k + 4))) x := by
          rcases Nat.eq_zero_or_pos q with h0 | h0
          · subst h0
            rw [List.take_zero] at hx
            exact .inl ⟨⟨_, _, rfl⟩, hx.symm⟩
          · rw [hso h0, ← hx]
            exact H.out.sub HN.out.symm (k + 4) q (by rw [HN.out]; omega) (cv - (k + 4)) (by omega)
        exact conv_bs (hB.later hW)
      clear hx hso hgl hcv r2
      have w4 : IntKind.i64.wrap ((k : Int) + 4) = (k : Int) + 4 := wrap_small _ (by omega) (by omega)
      have w5 : IntKind.i64.wrap ((k : Int) + 4 + q) = (k : Int) + 4 + q := wrap_small _ (by omega) (by omega)
      show Calls Tryz.prog 44 _ w fun e w' => e = .returned (.tuple #[.string (bs x), .int .i64 ((k : Int) + 4 + q)]) ∧ Below w.heap.size w w'
      go_enter Tryz.func44, Tryz.ntmps44
      go_wp2_with fail
      refine HC.out.mono ?_
      rintro e w1 ⟨rfl, hb1⟩
      have HB : Hid (Below w.heap.size w w1) := hb1
      have hv := HV.out w1 hb1
      clear hb1
      go_wp2_with fail
      go_ret2
      exact ⟨rfl, HB.out⟩
theorem txP_range (b : List UInt8) (z : Int) : -1 ≤ (txP b z).2 ∧ (txP b z).2 ≤ b.length ∧ (txP b z).1.length ≤ b.length := by
  obtain ⟨r1, r2, r3⟩ := nmP_range b z
  unfold txP
  split
  · exact ⟨by simp, by simp only; omega, by simp⟩
  · rename_i h
    have := r3 (by omega)
    refine ⟨by simp only; omega, by simp only; omega, ?_⟩
    simp only [List.length_take, List.length_drop]
    omega
end Go.Proofs.YtddaoloabfkheaaGreatDoor

namespace Go.Proofs.YtddaoloabfkheaaGreatDoor
open Go.RowKit

/-- the head: how many entries -/
def hdP (n : Nat) : List UInt8 := txB hdW ++ le 4 n
theorem hdP_len (n : Nat) : (hdP n).length = 21 := by unfold hdP; rw [List.length_append, le_length]; rfl
theorem savB_hd (K : List Lb) : savB K = hdP K.length ++ K.flatMap entB := rfl
theorem nmP_le {b : List UInt8} {z : Int} (h : 0 ≤ nmP b z) : (b.drop z.toNat).take 4 = le 4 (nmP b z).toNat := by
  obtain ⟨_, h2, h3⟩ := nmP_range b z
  have h4 := h3 h
  have hl : ((b.drop z.toNat).take 4).length = 4 := by rw [List.length_take, List.length_drop]; omega
  refine num_inj (by rw [hl, le_length]) ?_
  rw [num_le4 (by omega)]
  unfold nmP
  rw [if_neg (by omega), Int.toNat_natCast]
theorem ld_head {K : List Lb} (ok : OKK K) : txP (savB K) 0 = (hdW, 17) ∧ nmP (savB K) 17 = (K.length : Int) := by
  have h1 := txP_at [] hdW (le 4 K.length ++ K.flatMap entB) (by decide)
  have h2 := nmP_at (txB hdW) (K.flatMap entB) (x := K.length) (by have := ok.len; omega)
  have e1 : [] ++ txB hdW ++ (le 4 K.length ++ K.flatMap entB) = savB K := by simp [savB]
  rw [e1] at h1
  exact ⟨h1, h2⟩
theorem txP_hd {b : List UInt8} (h : (txP b 0).1 = hdW) : (txP b 0).2 = 17 ∧ b.take 17 = txB hdW := by
  unfold txP at h ⊢
  split at h
  · simp [hdW] at h
  · rename_i hc
    rw [if_neg hc]
    simp only [Int.zero_add] at *
    obtain ⟨m, hm⟩ : ∃ m : Nat, nmP b 0 = (m : Int) := ⟨(nmP b 0).toNat, by omega⟩
    have hle := nmP_le (b := b) (z := 0) (by omega)
    rw [hm] at h hle hc
    simp only [Int.toNat_natCast, Int.toNat_zero, List.drop_zero, Nat.zero_add] at *
    have hm13 : m = 13 := by
      have := congrArg List.length h
      rw [List.length_take, List.length_drop] at this
      have h13 : hdW.length = 13 := rfl
      omega
    subst hm13
    refine ⟨by rw [hm]; rfl, ?_⟩
    rw [show (17 : Nat) = 4 + 13 from rfl, List.take_add, hle, h]
    rfl
theorem ld_start {b : List UInt8} {n : Nat} (h : (txP b 0).1 = hdW) (hn : nmP b 17 = (n : Int)) : b.take 21 = hdP n ∧ 21 ≤ b.length := by
  have h1 := (txP_hd h).2
  have h2 := nmP_le (b := b) (z := 17) (by omega)
  obtain ⟨_, _, h3⟩ := nmP_range b 17
  rw [hn, Int.toNat_natCast] at h2
  refine ⟨?_, by have := h3 (by omega); omega⟩
  rw [show (21 : Nat) = 17 + 4 from rfl, List.take_add, h1]
  unfold hdP
  rw [← h2]
  rfl

/-- k entries are read: q is the place behind them -/
structure LI (b : List UInt8) (n k : Nat) (Kc : List Lb) (q : Nat) : Prop where
  len : Kc.length = k
  ok : OKK Kc
  kn : k ≤ n
  n5 : n ≤ 512
  pre : b = hdP n ++ Kc.flatMap entB ++ b.drop q
  at_ : q = (hdP n ++ Kc.flatMap entB).length
  lb : q ≤ b.length
theorem LI.start {b : List UInt8} {n : Nat} (h : (txP b 0).1 = hdW) (hn : nmP b 17 = (n : Int)) (h5 : n ≤ 512) : LI b n 0 [] 21 := by
  obtain ⟨h1, h2⟩ := ld_start h hn
  refine ⟨rfl, OKK.nil, Nat.zero_le _, h5, ?_, by simp [hdP_len], h2⟩
  simp only [List.flatMap_nil, List.append_nil]
  rw [← h1, List.take_append_drop]
/-- a cache of these bytes begins with what is read -/
theorem LI.sub {b : List UInt8} {n k q : Nat} {Kc : List Lb} (I : LI b n k Kc q) {K : List Lb} (ok : OKK K) (e : savB K = b) : K.length = n ∧ K.take k = Kc ∧ (K.drop k).flatMap entB = b.drop q := by
  have h1 := I.pre
  have hl := ok.len
  have hkn := I.kn
  have h5 := I.n5
  have e1 : hdP K.length ++ K.flatMap entB = hdP n ++ (Kc.flatMap entB ++ b.drop q) := by rw [← List.append_assoc, ← h1, ← savB_hd]; exact e
  obtain ⟨h2, h3⟩ := app_inj (by rw [hdP_len, hdP_len]) e1
  unfold hdP at h2
  have h4 := List.append_cancel_left h2
  have hn : K.length = n := by rw [← num_le4 (x := K.length) (by omega), ← num_le4 (x := n) (by omega), h4]
  have e2 : (K.take k).flatMap entB ++ (K.drop k).flatMap entB = Kc.flatMap entB ++ b.drop q := by rw [← List.flatMap_append, List.take_append_drop]; exact h3
  obtain ⟨h6, h7⟩ := ents_pre (fun x hx => ⟨ok.rt x (List.mem_of_mem_take hx), ok.tx x (List.mem_of_mem_take hx)⟩) (fun x hx => ⟨I.ok.rt x hx, I.ok.tx x hx⟩) (by rw [List.length_take, I.len]; omega) e2
  exact ⟨hn, h6, h7⟩
/-- where there is a cache of these bytes, the next entry reads as it should -/
theorem LI.next {b : List UInt8} {n k q : Nat} {Kc : List Lb} (I : LI b n k Kc q) (hk : k < n) {K : List Lb} (ok : OKK K) (e : savB K = b) :
    ∃ x : Lb, x ∉ Kc ∧ rgt x.pkg = true ∧ x.name.length ≤ 4096 ∧ txP b q = (x.pkg, ((q + 4 + x.pkg.length : Nat) : Int)) ∧ (txP b ((q + 4 + x.pkg.length : Nat) : Int)).1 = x.name ∧ (b.drop q).take (entB x).length = entB x ∧ q + (entB x).length ≤ b.length := by
  obtain ⟨hn, h1, h2⟩ := I.sub ok e
  have hkl : k < K.length := by omega
  have hx : K[k] ∈ K := List.getElem_mem hkl
  have l1 := rgt_len (ok.rt _ hx)
  have l2 := ok.tx _ hx
  rw [List.drop_eq_getElem_cons hkl, List.flatMap_cons] at h2
  obtain ⟨x, hxe⟩ : ∃ x, K[k] = x := ⟨_, rfl⟩
  have hnx : K[k] ∉ Kc := by
    rw [← h1]
    intro hm
    have hnd := ok.nd
    rw [← List.take_append_drop k K, List.nodup_append] at hnd
    exact hnd.2.2 _ hm K[k] (by rw [List.drop_eq_getElem_cons hkl]; exact List.mem_cons_self) rfl
  have hr := ok.rt _ hx
  rw [hxe] at l1 l2 h2 hnx hr
  have hb : b = hdP n ++ Kc.flatMap entB ++ (entB x ++ (K.drop (k + 1)).flatMap entB) := by rw [h2]; exact I.pre
  have hq := I.at_
  obtain ⟨A, hA⟩ : ∃ A, hdP n ++ Kc.flatMap entB = A := ⟨_, rfl⟩
  rw [hA] at hb hq
  obtain ⟨R, hR⟩ : ∃ R, prsM (dir x.pkg) x.name = R := ⟨_, rfl⟩
  have hE : entB x = txB x.pkg ++ (txB x.name ++ (le 8 (u64 R.2) ++ (le 4 R.1.length ++ R.1.flatMap tgB))) := by unfold entB enB; rw [hR]; simp only [List.append_assoc]
  have t1 := txP_at A x.pkg ((txB x.name ++ (le 8 (u64 R.2) ++ (le 4 R.1.length ++ R.1.flatMap tgB))) ++ (K.drop (k + 1)).flatMap entB) (by omega)
  have t2 := txP_at (A ++ txB x.pkg) x.name ((le 8 (u64 R.2) ++ (le 4 R.1.length ++ R.1.flatMap tgB)) ++ (K.drop (k + 1)).flatMap entB) (by omega)
  have b1 : A ++ txB x.pkg ++ ((txB x.name ++ (le 8 (u64 R.2) ++ (le 4 R.1.length ++ R.1.flatMap tgB))) ++ (K.drop (k + 1)).flatMap entB) = b := by rw [hb, hE]; simp only [List.append_assoc]
  have b2 : A ++ txB x.pkg ++ txB x.name ++ ((le 8 (u64 R.2) ++ (le 4 R.1.length ++ R.1.flatMap tgB)) ++ (K.drop (k + 1)).flatMap entB) = b := by rw [hb, hE]; simp only [List.append_assoc]
  rw [b1, ← hq] at t1
  rw [b2] at t2
  have e3 : (A ++ txB x.pkg).length = q + 4 + x.pkg.length := by rw [List.length_append, txB_len, ← hq]; omega
  rw [e3] at t1 t2
  refine ⟨x, hnx, hr, l2, t1, by rw [t2], ?_, ?_⟩
  · rw [← h2, List.take_left]
  · have := congrArg List.length h2
    rw [List.length_append, List.length_drop] at this
    have := I.lb
    omega
theorem LI.next2 {b : List UInt8} {n k q : Nat} {Kc : List Lb} (I : LI b n k Kc q) (hk : k < n) {p s : List UInt8} {nx ns : Int} (h1 : txP b q = (p, nx)) (h2 : txP b nx = (s, ns)) : ∀ K, OKK K → savB K = b →
    0 ≤ nx ∧ rgt p = true ∧ s.length ≤ 4096 ∧ (⟨p, s⟩ : Lb) ∉ Kc ∧ (b.drop q).take (entB ⟨p, s⟩).length = entB ⟨p, s⟩ ∧ q + (entB ⟨p, s⟩).length ≤ b.length := by
  intro K ok e
  obtain ⟨x, a1, a2, a3, a4, a5, a6, a7⟩ := I.next hk ok e
  obtain ⟨x1, x2⟩ := x
  simp only at a2 a3 a4 a5
  rw [h1] at a4
  injection a4 with a4 a8
  rw [← a8, h2] at a5
  simp only at a5
  subst a4 a5
  exact ⟨by omega, a2, a3, a1, a6, a7⟩
theorem LI.more {b : List UInt8} {n k q : Nat} {Kc : List Lb} (I : LI b n k Kc q) (hk : k < n) {x : Lb} (hn : x ∉ Kc) (hr : rgt x.pkg = true) (ht : x.name.length ≤ 4096) (h : (b.drop q).take (entB x).length = entB x) (hl : q + (entB x).length ≤ b.length) : LI b n (k + 1) (Kc ++ [x]) (q + (entB x).length) := by
  have h5 := I.n5
  refine ⟨by rw [List.length_append, I.len]; rfl, ⟨?_, ?_, ?_, ?_⟩, hk, I.n5, ?_, ?_, hl⟩
  · rw [List.nodup_append]
    refine ⟨I.ok.nd, by simp, ?_⟩
    intro a ha c hc
    have : c = x := by simpa using hc
    subst this
    rintro rfl
    exact hn ha
  · intro y hy
    rcases List.mem_append.1 hy with hy | hy
    · exact I.ok.rt y hy
    · have : y = x := by simpa using hy
      subst this; exact hr
  · intro y hy
    rcases List.mem_append.1 hy with hy | hy
    · exact I.ok.tx y hy
    · have : y = x := by simpa using hy
      subst this; exact ht
  · rw [List.length_append, I.len, List.length_singleton]; omega
  · rw [List.flatMap_append, ← List.append_assoc]
    simp only [List.flatMap_cons, List.flatMap_nil, List.append_nil]
    rw [List.append_assoc _ (entB x), ← List.drop_drop]
    have e : entB x ++ (b.drop q).drop (entB x).length = b.drop q := by
      conv => lhs; lhs; rw [← h]
      exact List.take_append_drop _ _
    rw [e]
    exact I.pre
  · rw [List.flatMap_append, ← List.append_assoc, List.length_append, ← I.at_]
    simp
theorem LI.full {b : List UInt8} {n q : Nat} {Kc : List Lb} (I : LI b n n Kc q) (h : q = b.length) : savB Kc = b := by
  rw [savB_hd, I.len]
  conv => rhs; rw [I.pre]
  rw [h, List.drop_length, List.append_nil]
theorem LI.none {b : List UInt8} {n q : Nat} {Kc : List Lb} (I : LI b n n Kc q) (h : q ≠ b.length) {K : List Lb} (ok : OKK K) (e : savB K = b) : False := by
  obtain ⟨hn, h1, h2⟩ := I.sub ok e
  rw [← hn, List.drop_length] at h2
  have h3 := congrArg List.length h2
  rw [List.length_drop] at h3
  have h4 := I.lb
  simp only [List.flatMap_nil, List.length_nil] at h3
  omega
end Go.Proofs.YtddaoloabfkheaaGreatDoor
