import Derived.Test.YtefhdnhhcgbbjaaKeep
namespace Go.Proofs.Ytefhdnhhcgbbjaa
open Go.RowKit

/-- the number in bytes, the lowest first -/
def num : List UInt8 → Nat
  | [] => 0
  | b :: l => b.toNat + 256 * num l

/-- A reader at block g whose bytes lie in block d; l is left. -/
def RD (w : World) (g d : Nat) (l : List UInt8) : Prop :=
  ∃ off cap, w.cell? ⟨g, 0, none⟩ = some (.slice (some ⟨d, off, none⟩) l.length cap) ∧ w.frozen? ⟨g, 0, none⟩ = false ∧ l.length ≤ cap ∧ g < w.heap.size ∧ d < w.heap.size ∧ d ≠ g ∧ l.length ≤ 140737488355328 ∧
    ∀ i u, (bc l)[i]? = some u → w.cell? ⟨d, off + i, none⟩ = some u

theorem RD.grown {w w' : World} {g d : Nat} {l : List UInt8} {row : Option Nat} (h : RD w g d l) (hg : w.grownBy w' row) (h1 : some g ≠ row) (h2 : some d ≠ row) : RD w' g d l := by
  obtain ⟨off, cap, hc, hf, hl, hgs, hds, hne, hb, hcell⟩ := h
  refine ⟨off, cap, ?_, ?_, hl, Nat.lt_of_lt_of_le hgs hg.size, Nat.lt_of_lt_of_le hds hg.size, hne, hb, fun i u hu => ?_⟩
  · rw [hg.cell_far ⟨g, 0, none⟩ hgs h1]; exact hc
  · rw [hg.frozen_far ⟨g, 0, none⟩ hgs h1]; exact hf
  · rw [hg.cell_far ⟨d, off + i, none⟩ hds h2]; exact hcell i u hu

theorem grown_of_below {w w' : World} (h : Below w.heap.size w w') : w.grownBy w' none := ⟨h.os, h.tape, h.output, h.size, fun k hk _ => h.block k hk⟩
theorem RD.later {w w' : World} {g d : Nat} {l : List UInt8} (h : RD w g d l) (hb : Below w.heap.size w w') : RD w' g d l :=
  h.grown (grown_of_below hb) (by simp) (by simp)

set_option maxHeartbeats 400000 in
theorem left_any {w : World} {g d : Nat} {l : List UInt8} (h : RD w g d l) :
    Calls Try.prog 11 #[.pointer (some ⟨g, 0, none⟩)] w fun e w' => e = .returned (.int .i64 l.length) ∧ w' = w := by
  obtain ⟨off, cap, hc, hf, hl, hgs, hds, hne, hb, hcell⟩ := h
  clear hcell hf hgs hds hne
  go_enter Try.func11, Try.ntmps11
  go_wp2_with fail
  go_ret
  exact ⟨rfl, rfl⟩

set_option maxHeartbeats 400000 in
theorem end_any {w : World} {g d : Nat} {l : List UInt8} (h : RD w g d l) :
    Calls Try.prog 13 #[.pointer (some ⟨g, 0, none⟩)] w fun e w' => e = .returned (.int .i64 (if l = [] then 0 else 12)) ∧ w' = w := by
  have H : Hid (RD w g d l) := h
  clear h
  go_enter Try.func13, Try.ntmps13
  go_wp2_with fail
  refine (left_any H.out).mono ?_
  rintro e w1 ⟨rfl, rfl⟩
  by_cases h0 : l = []
  · subst h0
    go_wp2_with fail
    go_ret
    exact ⟨rfl, rfl⟩
  · have e0 : ((l.length : Int) != 0) = true := by
      have := List.length_pos_iff.2 h0
      rw [bne_iff_ne]; omega
    go_wp2_with fail
    go_ret
    exact ⟨rfl, rfl⟩

theorem Own.form {base d : Nat} {w : World} {v : Value} {l : List UInt8} (h : Own base w v l) (hd : v.ownBlock = some d) :
    ∃ cap, v = .slice (some ⟨d, 0, none⟩) l.length cap ∧ l.length ≤ cap ∧ base ≤ d ∧ d < w.heap.size := by
  rcases h.2 with ⟨rfl, h0⟩ | ⟨g, cap, cur, rfl, hb, hg, hn, _⟩
  · simp [Value.ownBlock] at hd
  · simp [Value.ownBlock] at hd
    subst hd
    exact ⟨cap, rfl, hn, hb, (Array.getElem?_eq_some_iff.1 hg).1⟩

set_option maxHeartbeats 400000 in
theorem newreader_any {w : World} {v : Value} {l : List UInt8} (h : BS w v l) (hm : l.length ≤ 140737488355328) :
    Calls Try.prog 9 #[v] w fun e w' => ∃ g d, e = .returned (.pointer (some ⟨g, 0, none⟩)) ∧ RD w' g d l ∧ w.heap.size ≤ g ∧ w.heap.size ≤ d ∧ Below w.heap.size w w' := by
  have H : Hid (BS w v l) := h
  clear h
  go_enter Try.func9, Try.ntmps9
  go_wp2_with fail
  refine (room_at H.out _ 0 rfl (by omega)).mono ?_
  rintro e w1 ⟨v1, rfl, ho1, ⟨d, hd⟩, hb1⟩
  obtain ⟨cap, rfl, hlc, hbd, hdw⟩ := ho1.form hd
  have HO : Hid (Own w.heap.size w1 (.slice (some ⟨d, 0, none⟩) l.length cap) l) := ho1
  have HB : Hid (Below w.heap.size w w1) := hb1
  have hz := hb1.size
  clear ho1 hb1 hd
  go_wp2_with fail
  go_ret
  refine ⟨w1.heap.size, d, rfl, ⟨0, cap, by simp, by simp, hlc, by simp, by simp; omega, by omega, hm, fun i u hu => ?_⟩, hz, hbd, HB.out.alloc hz _⟩
  have hc := World.ownsRow.cells HO.out (g := d) rfl i u hu
  rw [add_lit] at hc
  rw [Below.cell (B := w1.heap.size) ((Below.refl _ _).alloc (Nat.le_refl _) _) (p := ⟨d, 0 + i, none⟩) hdw]
  exact hc

theorem num_lt : ∀ l : List UInt8, num l < 256 ^ l.length
  | [] => by simp [num]
  | b :: l => by
    have := num_lt l
    have := b.toNat_lt
    simp only [num, List.length_cons, Nat.pow_succ]
    omega
theorem num_lt8 (l : List UInt8) (n : Nat) (h : l.length ≤ n) (hn : n ≤ 7) : num l < 72057594037927936 := by
  have h1 := num_lt l
  have h2 : 256 ^ l.length ≤ 256 ^ 7 := Nat.pow_le_pow_right (by omega) (by omega)
  omega
theorem or_byte (a : Nat) (b : UInt8) : a * 256 ||| b.toNat = b.toNat + 256 * a := by
  have h := Nat.shiftLeft_add_eq_or_of_lt (b := b.toNat) (i := 8) (by have := b.toNat_lt; omega) a
  rw [Nat.shiftLeft_eq, show (2 : Nat) ^ 8 = 256 from rfl] at h
  omega
theorem peek_step (a : Nat) (b : UInt8) (ha : a < 72057594037927936) : bits .or .u64 (IntKind.u64.wrap ((a : Int) * 256)) (IntKind.u64.wrap (b.toNat : Int)) = ((b.toNat + 256 * a : Nat) : Int) := by
  have hb := b.toNat_lt
  have e1 : IntKind.u64.wrap ((a : Int) * 256) = ((a * 256 : Nat) : Int) := by rw [wrap_u64_id _ (by omega) (by omega)]; omega
  rw [e1, wrap_u64_id _ (by omega) (by omega), bits_or_u64_nat _ _ (by omega) (by omega), or_byte]
theorem drop_num (l : List UInt8) (n k : Nat) (hk : k < n) (hn : n ≤ l.length) : num ((l.take n).drop k) = (l[k]'(by omega)).toNat + 256 * num ((l.take n).drop (k + 1)) := by
  rw [List.drop_eq_getElem_cons (by simp; omega)]
  simp [num]

set_option maxHeartbeats 400000 in
theorem peek_ok {w : World} {g d : Nat} {l : List UInt8} (h : RD w g d l) (n : Nat) (hn : n ≤ 8) (hl : n ≤ l.length) :
    Calls Try.prog 32 #[.pointer (some ⟨g, 0, none⟩), .int .i64 n] w fun e w' => e = .returned (.tuple #[.int .u64 (num (l.take n) : Nat), .int .i64 0]) ∧ w' = w := by
  obtain ⟨off, cap, hc, hf, hlc, hgs, hds, hne, hb, hcell⟩ := h
  have HC : Hid (∀ i u, (bc l)[i]? = some u → w.cell? ⟨d, off + i, none⟩ = some u) := hcell
  clear hcell hf hgs hds hne
  go_enter Try.func32, Try.ntmps32
  go_wp2_with fail
  go_loop [6, 7] (fun v i => ∃ k : Nat, k ≤ n ∧ i = .int .i64 ((k : Int) - 1) ∧ v = .int .u64 (num ((l.take n).drop k) : Nat)) (fun _ i => (intOf i + 1).toNat)
  case atStart => exact ⟨n, Nat.le_refl _, rfl, by simp [num]⟩
  case round =>
    obtain ⟨k, hk, rfl, rfl⟩ := hrel
    rcases k with _ | k
    · go_wp2_with fail
      go_ret2
      exact ⟨rfl, rfl⟩
    · have hkl : k < l.length := by omega
      have hcell := HC.out k (.int .u8 (l[k].toNat : Nat)) (by simp [bc_get, hkl])
      have HN : Hid (num ((l.take n).drop k) = l[k].toNat + 256 * num ((l.take n).drop (k + 1))) := drop_num l n k (by omega) hl
      go_wp2_with fail
      go_round
      case rel => exact ⟨k, by omega, by go_num, by rw [peek_step _ _ (num_lt8 _ 7 (by simp; omega) (by omega)), HN.out]⟩
      case measure => simp only [intOf]; omega

set_option maxHeartbeats 400000 in
theorem peek_short {w : World} {g d : Nat} {l : List UInt8} (h : RD w g d l) (n : Nat) (hl : l.length < n) :
    Calls Try.prog 32 #[.pointer (some ⟨g, 0, none⟩), .int .i64 n] w fun e w' => e = .returned (.tuple #[.int .u64 0, .int .i64 11]) ∧ w' = w := by
  obtain ⟨off, cap, hc, hf, hlc, hgs, hds, hne, hb, hcell⟩ := h
  clear hcell hf hgs hds hne
  go_enter Try.func32, Try.ntmps32
  go_wp2_with fail
  go_ret2
  exact ⟨rfl, rfl⟩

/-- the reader's cell is turned: so many bytes are taken -/
theorem RD.take {w : World} {g d : Nat} {l : List UInt8} {off cap : Nat} (h : RD w g d l) (hc : w.cell? ⟨g, 0, none⟩ = some (.slice (some ⟨d, off, none⟩) l.length cap)) (n : Nat) (hn : n ≤ l.length) (off' : Nat) (hoff : n < l.length → off' = off + n) :
    RD (w.setCell ⟨g, 0, none⟩ (.slice (some ⟨d, off', none⟩) (l.length - n) (cap - n))) g d (l.drop n) ∧ w.grownBy (w.setCell ⟨g, 0, none⟩ (.slice (some ⟨d, off', none⟩) (l.length - n) (cap - n))) (some g) := by
  obtain ⟨off0, cap0, hc0, hf, hlc, hgs, hds, hne, hb, hcell⟩ := h
  rw [hc] at hc0
  obtain ⟨_, rfl, _, rfl⟩ := slice_inj (Option.some.inj hc0)
  have hg : w.grownBy (w.setCell ⟨g, 0, none⟩ (.slice (some ⟨d, off', none⟩) (l.length - n) (cap0 - n))) (some g) :=
    ⟨rfl, rfl, rfl, by simp [World.setCell], fun k hk hne => Below.heap_setCell _ _ _ _ (fun e => hne (by simp [e]))⟩
  refine ⟨⟨off', cap0 - n, ?_, ?_, by simp; omega, Nat.lt_of_lt_of_le hgs hg.size, Nat.lt_of_lt_of_le hds hg.size, hne, by simp; omega, fun i u hu => ?_⟩, hg⟩
  · rw [World.cell?_setCell_same _ _ _ hc]; simp
  · simp [hf]
  · rw [hg.cell_far ⟨d, _, none⟩ hds (by simp [hne])]
    rw [bc_get, List.getElem?_drop] at hu
    have hlt : n + i < l.length := by
      rcases Nat.lt_or_ge (n + i) l.length with h | h
      · exact h
      · rw [List.getElem?_eq_none h] at hu; cases hu
    rw [hoff (by omega), Nat.add_assoc]
    exact hcell (n + i) u (by rw [bc_get]; exact hu)

theorem elem27 : Try.prog.elem 27 = 5 := by kernel_rfl
theorem slice_from (d off len cap n : Nat) (h1 : n ≤ len) (h2 : len ≤ cap) :
    ∃ so, (n < len → so = off + n) ∧ ∀ (z : Int), z = (n : Int) → ∀ u : World, (Instr.slice 27 (.slice (some ⟨d, off, none⟩) len cap) (some (.int .i64 z)) none none).run Try.prog u = .ok (.slice (some ⟨d, so, none⟩) (len - n) (cap - n)) u := by
  obtain ⟨i0, hi, hz0, hz1, hz2⟩ := info_parts info5
  refine ⟨if cap = n then off else off + n, fun h => by rw [if_neg (by omega)], fun z hz u => ?_⟩
  subst hz
  rw [run_slice_l (P := Try.prog) u 27 (some ⟨d, off, none⟩) len cap (by rw [elem27]; exact und27) .i64 n (by omega) (by omega)]
  have hsz : (sizeOf 5).run Try.prog u = .ok 1 u := by simp [sizeOf, typeInfo, hi, hz1]
  rw [elem27, hsz]
  simp only [Result.andThen_ok, sliced, Int.toNat_natCast, Nat.mul_one, Option.map_some, add_lit]
  by_cases e : cap = n <;> simp [e]

/-- Number, by definition -/
def numberS (z : Int) (l : List UInt8) : Nat × Int × List UInt8 :=
  if z = 1 ∨ z = 2 ∨ z = 4 ∨ z = 8 then (if z.toNat ≤ l.length then (num (l.take z.toNat), 0, l.drop z.toNat) else (0, 11, l)) else (0, 12, l)

theorem peek_at {w : World} {g d : Nat} {l : List UInt8} (h : RD w g d l) (z : Int) (n : Nat) (hz : z = (n : Int)) (hn : n ≤ 8) (hl : n ≤ l.length) :
    Calls Try.prog 32 #[.pointer (some ⟨g, 0, none⟩), .int .i64 z] w fun e w' => e = .returned (.tuple #[.int .u64 (num (l.take n) : Nat), .int .i64 0]) ∧ w' = w := by
  subst hz
  exact peek_ok h n hn hl
theorem peek_no {w : World} {g d : Nat} {l : List UInt8} (h : RD w g d l) (z : Int) (n : Nat) (hz : z = (n : Int)) (hl : l.length < n) :
    Calls Try.prog 32 #[.pointer (some ⟨g, 0, none⟩), .int .i64 z] w fun e w' => e = .returned (.tuple #[.int .u64 0, .int .i64 11]) ∧ w' = w := by
  subst hz
  exact peek_short h n hl

set_option maxHeartbeats 400000 in
theorem number1 {w : World} {g d : Nat} {l : List UInt8} (h : RD w g d l) (hl : 1 ≤ l.length) :
    Calls Try.prog 30 #[.pointer (some ⟨g, 0, none⟩), .int .i64 1] w fun e w' => e = .returned (.tuple #[.int .u64 (num (l.take 1) : Nat), .int .i64 0]) ∧ RD w' g d (l.drop 1) ∧ w.grownBy w' (some g) := by
  have H : Hid (RD w g d l) := h
  obtain ⟨off, cap, hc, hf, hlc, hgs, hds, hne, hb, hcell⟩ := h
  clear hcell hgs hds hne
  obtain ⟨so, hso, hsl⟩ := slice_from d off l.length cap 1 hl hlc
  have HSO : Hid (1 < l.length → so = off + 1) := hso
  have hsl' := hsl 1 rfl
  clear hso hsl
  go_enter Try.func30, Try.ntmps30
  go_wp2_with fail
  refine (peek_at H.out _ 1 rfl (by omega) hl).mono ?_
  rintro e w1 ⟨rfl, rfl⟩
  go_wp2_with fail
  go_ret2
  exact ⟨rfl, H.out.take hc 1 hl so HSO.out⟩

set_option maxHeartbeats 400000 in
theorem numberNo1 {w : World} {g d : Nat} {l : List UInt8} (h : RD w g d l) (hl : l.length < 1) :
    Calls Try.prog 30 #[.pointer (some ⟨g, 0, none⟩), .int .i64 1] w fun e w' => e = .returned (.tuple #[.int .u64 0, .int .i64 11]) ∧ w' = w := by
  have H : Hid (RD w g d l) := h
  clear h
  go_enter Try.func30, Try.ntmps30
  go_wp2_with fail
  refine (peek_no H.out _ 1 rfl hl).mono ?_
  rintro e w1 ⟨rfl, rfl⟩
  go_wp2_with fail
  go_ret2
  exact ⟨rfl, rfl⟩

set_option maxHeartbeats 400000 in
theorem number2 {w : World} {g d : Nat} {l : List UInt8} (h : RD w g d l) (hl : 2 ≤ l.length) :
    Calls Try.prog 30 #[.pointer (some ⟨g, 0, none⟩), .int .i64 2] w fun e w' => e = .returned (.tuple #[.int .u64 (num (l.take 2) : Nat), .int .i64 0]) ∧ RD w' g d (l.drop 2) ∧ w.grownBy w' (some g) := by
  have H : Hid (RD w g d l) := h
  obtain ⟨off, cap, hc, hf, hlc, hgs, hds, hne, hb, hcell⟩ := h
  clear hcell hgs hds hne
  obtain ⟨so, hso, hsl⟩ := slice_from d off l.length cap 2 hl hlc
  have HSO : Hid (2 < l.length → so = off + 2) := hso
  have hsl' := hsl 2 rfl
  clear hso hsl
  go_enter Try.func30, Try.ntmps30
  go_wp2_with fail
  refine (peek_at H.out _ 2 rfl (by omega) hl).mono ?_
  rintro e w1 ⟨rfl, rfl⟩
  go_wp2_with fail
  go_ret2
  exact ⟨rfl, H.out.take hc 2 hl so HSO.out⟩

set_option maxHeartbeats 400000 in
theorem numberNo2 {w : World} {g d : Nat} {l : List UInt8} (h : RD w g d l) (hl : l.length < 2) :
    Calls Try.prog 30 #[.pointer (some ⟨g, 0, none⟩), .int .i64 2] w fun e w' => e = .returned (.tuple #[.int .u64 0, .int .i64 11]) ∧ w' = w := by
  have H : Hid (RD w g d l) := h
  clear h
  go_enter Try.func30, Try.ntmps30
  go_wp2_with fail
  refine (peek_no H.out _ 2 rfl hl).mono ?_
  rintro e w1 ⟨rfl, rfl⟩
  go_wp2_with fail
  go_ret2
  exact ⟨rfl, rfl⟩

set_option maxHeartbeats 400000 in
theorem number4 {w : World} {g d : Nat} {l : List UInt8} (h : RD w g d l) (hl : 4 ≤ l.length) :
    Calls Try.prog 30 #[.pointer (some ⟨g, 0, none⟩), .int .i64 4] w fun e w' => e = .returned (.tuple #[.int .u64 (num (l.take 4) : Nat), .int .i64 0]) ∧ RD w' g d (l.drop 4) ∧ w.grownBy w' (some g) := by
  have H : Hid (RD w g d l) := h
  obtain ⟨off, cap, hc, hf, hlc, hgs, hds, hne, hb, hcell⟩ := h
  clear hcell hgs hds hne
  obtain ⟨so, hso, hsl⟩ := slice_from d off l.length cap 4 hl hlc
  have HSO : Hid (4 < l.length → so = off + 4) := hso
  have hsl' := hsl 4 rfl
  clear hso hsl
  go_enter Try.func30, Try.ntmps30
  go_wp2_with fail
  refine (peek_at H.out _ 4 rfl (by omega) hl).mono ?_
  rintro e w1 ⟨rfl, rfl⟩
  go_wp2_with fail
  go_ret2
  exact ⟨rfl, H.out.take hc 4 hl so HSO.out⟩

set_option maxHeartbeats 400000 in
theorem numberNo4 {w : World} {g d : Nat} {l : List UInt8} (h : RD w g d l) (hl : l.length < 4) :
    Calls Try.prog 30 #[.pointer (some ⟨g, 0, none⟩), .int .i64 4] w fun e w' => e = .returned (.tuple #[.int .u64 0, .int .i64 11]) ∧ w' = w := by
  have H : Hid (RD w g d l) := h
  clear h
  go_enter Try.func30, Try.ntmps30
  go_wp2_with fail
  refine (peek_no H.out _ 4 rfl hl).mono ?_
  rintro e w1 ⟨rfl, rfl⟩
  go_wp2_with fail
  go_ret2
  exact ⟨rfl, rfl⟩

set_option maxHeartbeats 400000 in
theorem number8 {w : World} {g d : Nat} {l : List UInt8} (h : RD w g d l) (hl : 8 ≤ l.length) :
    Calls Try.prog 30 #[.pointer (some ⟨g, 0, none⟩), .int .i64 8] w fun e w' => e = .returned (.tuple #[.int .u64 (num (l.take 8) : Nat), .int .i64 0]) ∧ RD w' g d (l.drop 8) ∧ w.grownBy w' (some g) := by
  have H : Hid (RD w g d l) := h
  obtain ⟨off, cap, hc, hf, hlc, hgs, hds, hne, hb, hcell⟩ := h
  clear hcell hgs hds hne
  obtain ⟨so, hso, hsl⟩ := slice_from d off l.length cap 8 hl hlc
  have HSO : Hid (8 < l.length → so = off + 8) := hso
  have hsl' := hsl 8 rfl
  clear hso hsl
  go_enter Try.func30, Try.ntmps30
  go_wp2_with fail
  refine (peek_at H.out _ 8 rfl (by omega) hl).mono ?_
  rintro e w1 ⟨rfl, rfl⟩
  go_wp2_with fail
  go_ret2
  exact ⟨rfl, H.out.take hc 8 hl so HSO.out⟩

set_option maxHeartbeats 400000 in
theorem numberNo8 {w : World} {g d : Nat} {l : List UInt8} (h : RD w g d l) (hl : l.length < 8) :
    Calls Try.prog 30 #[.pointer (some ⟨g, 0, none⟩), .int .i64 8] w fun e w' => e = .returned (.tuple #[.int .u64 0, .int .i64 11]) ∧ w' = w := by
  have H : Hid (RD w g d l) := h
  clear h
  go_enter Try.func30, Try.ntmps30
  go_wp2_with fail
  refine (peek_no H.out _ 8 rfl hl).mono ?_
  rintro e w1 ⟨rfl, rfl⟩
  go_wp2_with fail
  go_ret2
  exact ⟨rfl, rfl⟩

set_option maxHeartbeats 400000 in
theorem numberBad {w : World} (p : Value) (z : Int) (hz : ¬ (z = 1 ∨ z = 2 ∨ z = 4 ∨ z = 8)) :
    Calls Try.prog 30 #[p, .int .i64 z] w fun e w' => e = .returned (.tuple #[.int .u64 0, .int .i64 12]) ∧ w' = w := by
  have e1 : (z == 1) = false := by rw [beq_eq_false_iff_ne]; omega
  have e2 : (z == 2) = false := by rw [beq_eq_false_iff_ne]; omega
  have e4 : (z == 4) = false := by rw [beq_eq_false_iff_ne]; omega
  have e8 : (z == 8) = false := by rw [beq_eq_false_iff_ne]; omega
  clear hz
  go_enter Try.func30, Try.ntmps30
  go_wp2_with fail
  go_ret2
  exact ⟨rfl, rfl⟩

theorem grownBy_refl (w : World) (row : Option Nat) : w.grownBy w row := ⟨rfl, rfl, rfl, Nat.le_refl _, fun _ _ _ => rfl⟩

theorem number_any {w : World} {g d : Nat} {l : List UInt8} (h : RD w g d l) (z : Int) :
    Calls Try.prog 30 #[.pointer (some ⟨g, 0, none⟩), .int .i64 z] w fun e w' => e = .returned (.tuple #[.int .u64 (numberS z l).1, .int .i64 (numberS z l).2.1]) ∧ RD w' g d (numberS z l).2.2 ∧ w.grownBy w' (some g) := by
  by_cases hz : z = 1 ∨ z = 2 ∨ z = 4 ∨ z = 8
  · by_cases hl : z.toNat ≤ l.length
    · have hS : numberS z l = (num (l.take z.toNat), 0, l.drop z.toNat) := by unfold numberS; rw [if_pos hz, if_pos hl]
      rw [hS]
      rcases hz with rfl | rfl | rfl | rfl
      · exact number1 h hl
      · exact number2 h hl
      · exact number4 h hl
      · exact number8 h hl
    · have hS : numberS z l = (0, 11, l) := by unfold numberS; rw [if_pos hz, if_neg hl]
      rw [hS]
      have fin : ∀ (e : Ending) (w' : World), (e = .returned (.tuple #[.int .u64 0, .int .i64 11]) ∧ w' = w) → (e = .returned (.tuple #[.int .u64 ((0 : Nat) : Int), .int .i64 11]) ∧ RD w' g d l ∧ w.grownBy w' (some g)) := by
        rintro e w' ⟨rfl, rfl⟩
        exact ⟨rfl, h, grownBy_refl _ _⟩
      rcases hz with rfl | rfl | rfl | rfl
      · exact (numberNo1 h (by simpa using hl)).mono fin
      · exact (numberNo2 h (by simpa using hl)).mono fin
      · exact (numberNo4 h (by simpa using hl)).mono fin
      · exact (numberNo8 h (by simpa using hl)).mono fin
  · have hS : numberS z l = (0, 12, l) := by unfold numberS; rw [if_neg hz]
    rw [hS]
    refine (numberBad _ z hz).mono ?_
    rintro e w' ⟨rfl, rfl⟩
    exact ⟨rfl, h, grownBy_refl _ _⟩

end Go.Proofs.Ytefhdnhhcgbbjaa
