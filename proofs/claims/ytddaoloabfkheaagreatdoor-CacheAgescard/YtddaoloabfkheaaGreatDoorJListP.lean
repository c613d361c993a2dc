/-
  The library's texts: Builder, Join, Replace, Contains; sources of a package.
  What a word says in a list: sources, deps, seers.
  The lists of a target: sources, deps, seers.
-/
import Derived.Test.YtddaoloabfkheaaGreatDoorJAs
import Derived.Test.YtddaoloabfkheaaGreatDoorJJoin
import Derived.Test.YtddaoloabfkheaaGreatDoorJShelf
namespace Go.Proofs.YtddaoloabfkheaaGreatDoor
open Go.RowKit

/-! ### joined with commas -/
/-! ### the first star made a letter -/
theorem rep1_none : ∀ (l : List UInt8), (42 : UInt8) ∉ l → rep1 l = l
  | [], _ => rfl
  | c :: r, h => by
    have hc : c ≠ 42 := fun e => h (by simp [e])
    rw [rep1, if_neg hc, rep1_none r (fun e => h (by simp [e]))]
theorem rep1_some : ∀ (a b : List UInt8), (42 : UInt8) ∉ a → rep1 (a ++ 42 :: b) = a ++ 97 :: b
  | [], b, _ => by simp [rep1]
  | c :: r, b, h => by
    have hc : c ≠ 42 := fun e => h (by simp [e])
    rw [List.cons_append, rep1, if_neg hc, rep1_some r b (fun e => h (by simp [e]))]; rfl
theorem ib_app (c : UInt8) : ∀ (a b : List UInt8), c ∉ a → Lib.indexByte (a ++ c :: b) c = (a.length : Int)
  | [], b, _ => by simp [Lib.indexByte]
  | x :: r, b, h => by
    have hx : x ≠ c := fun e => h (by simp [e])
    have ih := ib_app c r b (fun e => h (by simp [e]))
    rw [List.cons_append, Lib.indexByte, ih]
    simp [hx]
theorem ib_none (c : UInt8) : ∀ (a : List UInt8), c ∉ a → Lib.indexByte a c = -1
  | [], _ => by simp [Lib.indexByte]
  | x :: r, h => by
    have hx : x ≠ c := fun e => h (by simp [e])
    have ih := ib_none c r (fun e => h (by simp [e]))
    rw [Lib.indexByte, ih]
    simp [hx]
theorem cut_split (c : UInt8) : ∀ (n : Nat) (l : List UInt8), l.length ≤ n → (c ∉ l) ∨ ∃ a b, l = a ++ c :: b ∧ c ∉ a
  | _, [], _ => .inl (by simp)
  | 0, x :: r, h => by simp at h
  | n + 1, x :: r, h => by
    by_cases hx : x = c
    · exact .inr ⟨[], r, by simp [hx], by simp⟩
    · rcases cut_split c n r (by simpa using h) with h1 | ⟨a, b, h1, h2⟩
      · exact .inl (by simp [h1, Ne.symm hx])
      · exact .inr ⟨x :: a, b, by simp [h1], by simp [h2, Ne.symm hx]⟩
theorem ib_contains (c : UInt8) (l : List UInt8) : decide (0 ≤ Lib.indexByte l c) = l.contains c := by
  rcases cut_split c l.length l (Nat.le_refl _) with h | ⟨a, b, rfl, h⟩
  · rw [ib_none c l h]; simp [h]
  · rw [ib_app c a b h]; simp
theorem replace_rep1 (l : List UInt8) : Lib.replace l [42] [97] 1 = rep1 l := by
  unfold Lib.replace
  rw [if_neg (by decide)]
  unfold Lib.replaceNum
  rw [Lib.count_one]
  rcases cut_split 42 l.length l (Nat.le_refl _) with h | ⟨a, b, rfl, h⟩
  · rw [List.count_eq_zero.2 h, if_pos (by right; decide), rep1_none l h]; rfl
  · have e : (a ++ 42 :: b).count 42 = b.count 42 + 1 := by simp [List.count_append, List.count_eq_zero.2 h]
    rw [if_neg (by rw [e]; omega), rep1_some a b h]
    show Lib.replaceK [42] [97] (0 + 1) _ = _
    rw [Lib.replaceK_hit _ _ _ _ a.length (by rw [Lib.index_one, ib_app 42 a b h])]
    rw [Lib.replaceK]
    simp
theorem replace_any (l : List UInt8) {w : World} (h : Ev w) (hl : l.length ≤ 1000000000) :
    Calls Tryz.prog 166 #[.string (bs l), .string (bs [42]), .string (bs [97]), .int .i64 1] w fun e w' => e = .returned (.string (bs (rep1 l))) ∧ Below w.heap.size w w' := by
  obtain ⟨m, hm⟩ := h.max
  have hz : (bs l).size = l.length := rfl
  have hcnt : Lib.countB (bs l) (bs [42]) * (bs [97]).size ≤ 2000000000 := by
    have : (bs [97]).size = 1 := rfl
    rw [this, Nat.mul_one]
    have := Lib.count_le l [42]
    show Lib.count l [42] ≤ _
    omega
  have hS := Any.strings_Replace Tryz.lays154 Tryz.Builder_Extra_154 (bs l) (bs [42]) (bs [97]) 1 m w (by omega) hm (by show 1 ≤ 1; omega) (by omega)
  change Calls Tryz.prog 166 _ _ _ at hS
  refine hS.mono ?_
  rintro e w' ⟨rfl, hb⟩
  refine ⟨?_, hb⟩
  show Ending.returned (.string (bs (Lib.replace l [42] [97] 1))) = _
  rw [replace_rep1]

/-! ### has it a star? -/
set_option maxHeartbeats 2000000 in
set_option maxRecDepth 100000 in
theorem star_index (l : List UInt8) (w : World) :
    Calls Tryz.prog 120 #[.string (bs l), .string (bs [42])] w fun e w' => e = .returned (.int .i64 (Lib.indexByte l 42)) ∧ w' = w := by
  have hz : (bs [42]).size = 1 := rfl
  have HI : Hid (∀ w : World, Calls Tryz.prog 135 #[.string (bs l), .int .u8 42] w fun e w' => e = .returned (.int .i64 (Lib.indexByte l 42)) ∧ w' = w) := fun w => indexByte0_any l 42 w
  by_cases hl : l = [42]
  · subst hl
    have he : ((bs [42]).toList == (bs [42]).toList) = true := by simp
    go_enter Tryz.func120, Tryz.ntmps120
    go_wp2_with fail
    go_ret
    exact ⟨rfl, rfl⟩
  · have he : ((bs [42]).toList == (bs l).toList) = false := by rw [bs_toList, bs_toList, beq_eq_false_iff_ne]; exact fun e => hl e.symm
    go_enter Tryz.func120, Tryz.ntmps120
    go_wp2_with fail
    refine (HI.out _).mono ?_
    rintro e w1 ⟨rfl, rfl⟩
    go_wp2_with fail
    go_ret
    exact ⟨rfl, rfl⟩
set_option maxRecDepth 100000 in
theorem star_any (l : List UInt8) (w : World) :
    Calls Tryz.prog 165 #[.string (bs l), .string (bs [42])] w fun e w' => e = .returned (.bool (l.contains 42)) ∧ w' = w := by
  have HI : Hid (∀ w : World, Calls Tryz.prog 120 #[.string (bs l), .string (bs [42])] w fun e w' => e = .returned (.int .i64 (Lib.indexByte l 42)) ∧ w' = w) := fun w => star_index l w
  rw [← ib_contains]
  generalize Lib.indexByte l 42 = n at *
  have HJ : Hid (∀ w : World, Calls Tryz.prog 107 #[.string (bs l), .string (bs [42])] w fun e w' => e = .returned (.int .i64 n) ∧ w' = w) := fun w => by
    go_enter Tryz.func107, Tryz.ntmps107
    go_wp2_with fail
    refine (HI.out _).mono ?_
    rintro e w1 ⟨rfl, rfl⟩
    go_wp2_with fail
    go_ret
    exact ⟨rfl, rfl⟩
  go_enter Tryz.func165, Tryz.ntmps165
  go_wp2_with fail
  refine (HJ.out _).mono ?_
  rintro e w1 ⟨rfl, rfl⟩
  go_wp2_with fail
  go_ret
  exact ⟨rfl, rfl⟩

/-! ### sources, deps, seers -/
theorem c_name : (ByteArray.mk #[84, 65, 82, 71, 69, 84, 83]).toList = wName := ByteArray.toList_mk wName
theorem rep1_len : ∀ (l : List UInt8), (rep1 l).length = l.length
  | [] => rfl
  | c :: r => by unfold rep1; split <;> simp [rep1_len r]
set_option maxRecDepth 100000 in
set_option maxHeartbeats 1000000 in
theorem isLiteral_any (p l : List UInt8) (w : World) (hp : p.length ≤ 1000000000) (hl : l.length ≤ 1000000000) :
    Calls Tryz.prog 159 #[.string (bs p), .string (bs l)] w fun e w' => e = .returned (.bool (lit p l)) ∧ Below w.heap.size w w' := by
  have HJ : Hid (∀ w : World, Calls Tryz.prog 164 #[.string (bs p), .string (bs l)] w fun e w' => e = .returned (.tuple #[.string (bs (jn p l).1), .int .i64 (jn p l).2]) ∧ Below w.heap.size w w') := fun w => join_any p l w (by omega) (by omega)
  have HB : Hid (∀ w : World, Calls Tryz.prog 23 #[.string (bs l)] w fun e w' => e = .returned (.string (bs (base l))) ∧ w' = w) := fun w => base_any l w (by omega)
  unfold lit
  have e1 := bs_toList (base l)
  have e2 := c_name
  obtain ⟨N, hN⟩ : ∃ N, N = wName := ⟨_, rfl⟩
  rw [← hN] at e2 ⊢
  clear hN
  generalize (jn p l).1 = j1 at *
  generalize (jn p l).2 = j2 at *
  generalize base l = b at *
  clear hp hl
  by_cases hj : j2 = 0
  · subst hj
    go_enter Tryz.func159, Tryz.ntmps159
    go_wp2_with fail
    refine (HJ.out _).mono ?_
    rintro e w1 ⟨rfl, hb1⟩
    have B1 : Hid (Below w.heap.size w w1) := hb1
    clear hb1
    go_wp2_with fail
    refine (HB.out _).mono ?_
    rintro e w2 ⟨rfl, rfl⟩
    go_wp2_with fail
    go_ret
    exact ⟨by simp, B1.out⟩
  · have hj1 : (j2 == 0) = false := by rw [beq_eq_false_iff_ne]; exact hj
    have hj2 : (decide (j2 = 0) && !(b == N)) = false := by simp [hj]
    rw [hj2]
    clear hj2
    go_enter Tryz.func159, Tryz.ntmps159
    go_wp2_with fail
    refine (HJ.out _).mono ?_
    rintro e w1 ⟨rfl, hb1⟩
    have B1 : Hid (Below w.heap.size w w1) := hb1
    clear hb1
    go_wp2_with fail
    go_ret
    exact ⟨rfl, B1.out⟩
set_option maxRecDepth 100000 in
set_option maxHeartbeats 1000000 in
theorem isGlob_any (p l : List UInt8) {w : World} (E : Ev w) (hp : p.length ≤ 1000000000) (hl : l.length ≤ 1000000000) :
    Calls Tryz.prog 160 #[.string (bs p), .string (bs l)] w fun e w' => e = .returned (.bool (glb p l)) ∧ Below w.heap.size w w' := by
  have HB : Hid (∀ w : World, Calls Tryz.prog 23 #[.string (bs l)] w fun e w' => e = .returned (.string (bs (base l))) ∧ w' = w) := fun w => base_any l w (by omega)
  have HS : Hid (∀ w : World, Calls Tryz.prog 165 #[.string (bs (base l)), .string (bs [42])] w fun e w' => e = .returned (.bool ((base l).contains 42)) ∧ w' = w) := fun w => star_any (base l) w
  have HR : Hid (Calls Tryz.prog 166 #[.string (bs l), .string (bs [42]), .string (bs [97]), .int .i64 1] w fun e w' => e = .returned (.string (bs (rep1 l))) ∧ Below w.heap.size w w') := replace_any l E hl
  have HL : Hid (∀ w : World, Calls Tryz.prog 159 #[.string (bs p), .string (bs (rep1 l))] w fun e w' => e = .returned (.bool (lit p (rep1 l))) ∧ Below w.heap.size w w') := fun w => isLiteral_any p (rep1 l) w hp (by rw [rep1_len]; exact hl)
  unfold glb
  generalize lit p (rep1 l) = R at *
  generalize rep1 l = q at *
  clear E hp hl
  cases hc : (base l).contains 42
  · rw [hc] at HS
    clear hc
    generalize base l = b at *
    go_enter Tryz.func160, Tryz.ntmps160
    go_wp2_with fail
    refine (HB.out _).mono ?_
    rintro e w1 ⟨rfl, rfl⟩
    go_wp2_with fail
    refine (HS.out _).mono ?_
    rintro e w2 ⟨rfl, rfl⟩
    go_wp2_with fail
    go_ret
    exact ⟨rfl, Below.refl _ _⟩
  · rw [hc] at HS
    clear hc
    generalize base l = b at *
    go_enter Tryz.func160, Tryz.ntmps160
    go_wp2_with fail
    refine (HB.out _).mono ?_
    rintro e w1 ⟨rfl, hw1⟩
    obtain rfl : w = w1 := hw1.symm
    go_wp2_with fail
    refine (HS.out _).mono ?_
    rintro e w2 ⟨rfl, hw2⟩
    obtain rfl : w = w2 := hw2.symm
    go_wp2_with fail
    refine HR.out.mono ?_
    rintro e w3 ⟨rfl, hb3⟩
    have B3 : Hid (Below w.heap.size w w3) := hb3
    clear hb3
    go_wp2_with fail
    refine (HL.out _).mono ?_
    rintro e w4 ⟨rfl, hb4⟩
    have B4 : Hid (Below w.heap.size w w4) := bstep B3.out hb4
    clear hb4
    go_wp2_with fail
    go_ret
    exact ⟨by simp, B4.out⟩
end Go.Proofs.YtddaoloabfkheaaGreatDoor

namespace Go.Proofs.YtddaoloabfkheaaGreatDoor
open Go.RowKit

set_option maxRecDepth 100000 in
set_option maxHeartbeats 1000000 in
theorem source_any {w : World} {g : Nat} {p : List UInt8} (l : List UInt8) (E : Ev w) (hg : w.cell? ⟨g, 0, none⟩ = some (.string (bs p))) (hgl : g < w.heap.size) (hp : p.length ≤ 1000000000) (hl : l.length ≤ 1000000000) :
    Calls Tryz.prog 151 #[.pointer (some ⟨g, 0, none⟩), .string (bs l)] w fun e w' => e = .returned (.tuple #[.string (bs l), .bool (srcW p l)]) ∧ Below w.heap.size w w' := by
  have HL : Hid (Calls Tryz.prog 159 #[.string (bs p), .string (bs l)] w fun e w' => e = .returned (.bool (lit p l)) ∧ Below w.heap.size w w') := isLiteral_any p l w hp hl
  have HG : Hid (∀ W : World, Ev W → Calls Tryz.prog 160 #[.string (bs p), .string (bs l)] W fun e w' => e = .returned (.bool (glb p l)) ∧ Below W.heap.size W w') := fun W hW => isGlob_any p l hW hp hl
  have HE : Hid (Ev w) := E
  clear E hp hl
  unfold srcW
  cases hlit : lit p l
  · rw [hlit] at HL
    generalize glb p l = R at *
    clear hlit
    go_enter Tryz.func151, Tryz.ntmps151
    go_wp2_with fail
    refine HL.out.mono ?_
    rintro e w1 ⟨rfl, hb1⟩
    have hg1 : w1.cell? ⟨g, 0, none⟩ = some (.string (bs p)) := (hb1.cell (p := ⟨g, 0, none⟩) hgl).trans hg
    have HE1 : Hid (Ev w1) := HE.out.later hb1
    have B1 : Hid (Below w.heap.size w w1) := hb1
    clear hb1
    go_wp2_with fail
    refine (HG.out _ HE1.out).mono ?_
    rintro e w2 ⟨rfl, hb2⟩
    have B2 : Hid (Below w.heap.size w w2) := bstep B1.out hb2
    clear hb2
    go_wp2_with fail
    go_ret2
    exact ⟨by simp, B2.out⟩
  · rw [hlit] at HL
    clear hlit
    go_enter Tryz.func151, Tryz.ntmps151
    go_wp2_with fail
    refine HL.out.mono ?_
    rintro e w1 ⟨rfl, hb1⟩
    have B1 : Hid (Below w.heap.size w w1) := hb1
    clear hb1
    go_wp2_with fail
    go_ret2
    exact ⟨by simp, B1.out⟩
set_option maxRecDepth 100000 in
set_option maxHeartbeats 1000000 in
theorem seer97_any (l : List UInt8) (w : World) (hl : l.length ≤ 1000000000) :
    Calls Tryz.prog 154 #[.string (bs l)] w fun e w' => e = .returned (.tuple #[.string (bs l), .bool (ser l)]) ∧ Below w.heap.size w w' := by
  have HS : Hid (Calls Tryz.prog 163 #[.string (bs l)] w fun e w' => e = .returned (.bool (ser l)) ∧ Below w.heap.size w w') := seer_any l w (by omega)
  generalize ser l = R at *
  go_enter Tryz.func154, Tryz.ntmps154
  go_wp2_with fail
  refine HS.out.mono ?_
  rintro e w1 ⟨rfl, hb1⟩
  have B1 : Hid (Below w.heap.size w w1) := hb1
  clear hb1
  go_wp2_with fail
  go_ret2
  exact ⟨rfl, B1.out⟩
set_option maxRecDepth 100000 in
set_option maxHeartbeats 1000000 in
theorem dep_any {w : World} {g : Nat} {p : List UInt8} (l : List UInt8) (hg : w.cell? ⟨g, 0, none⟩ = some (.string (bs p))) (hgl : g < w.heap.size) (hp : p.length ≤ 1000000000) (hl : l.length ≤ 1000000000) :
    Calls Tryz.prog 153 #[.pointer (some ⟨g, 0, none⟩), .string (bs l)] w fun e w' => e = .returned (.tuple #[(inn p l).1.val, .bool (decide ((inn p l).2 = 0))]) ∧ Below w.heap.size w w' := by
  have HI : Hid (∀ W : World, Calls Tryz.prog 162 #[.string (bs p), .string (bs l)] W fun e w' => e = .returned (pair (inn p l)) ∧ Below W.heap.size W w') := fun W => lin_any p l W (by omega) (by omega)
  have hg0 : (w.alloc (.cells #[.string (bs []), .string (bs [])] 92)).cell? ⟨g, 0, none⟩ = some (.string (bs p)) := by rw [World.cell?_alloc_lt _ _ ⟨g, 0, none⟩ hgl]; exact hg
  have HZ : Hid (RB (w.alloc (.cells #[.string (bs []), .string (bs [])] 92)) w.heap.size zl) := RB.new w zl
  generalize inn p l = I at *
  obtain ⟨⟨q, n⟩, er⟩ := I
  simp only [pair, Lb.val] at HI ⊢
  clear hp hl hg
  obtain ⟨R, hR⟩ : ∃ R, decide (er = 0) = R := ⟨_, rfl⟩
  have hR2 : (er == 0) = R := by rw [← hR]; by_cases h : er = 0 <;> simp [h]
  rw [hR]
  clear hR
  have b1 : (⟨#[]⟩ : ByteArray) = bs [] := rfl
  go_enter Tryz.func153, Tryz.ntmps153
  go_wp2_with fail
  refine (HI.out _).mono ?_
  rintro e w1 ⟨rfl, hb1⟩
  have Z1 : Hid (RB w1 w.heap.size zl) := HZ.out.later hb1
  have B1 : Hid (Below w.heap.size w w1) := bstep (balloc w _) hb1
  have hs1 : w.heap.size < w1.heap.size := Z1.out.lt
  have ne : w.heap.size ≠ w1.heap.size := by omega
  obtain ⟨c0, c1, f0, f1⟩ := Z1.out.cells
  have hlt := Z1.out.lt
  clear hb1
  go_wp2_with fail
  refine bodyPost_ret (results_ct rfl _ _ w.heap.size 92 #[.string (bs q), .string (bs n)] (0, 0) _ rfl ?_ Tryz.underlying92 rfl (by kernel_rfl)) rfl ?_
  · exact ((Z1.out.set ⟨q, n⟩).later (balloc _ _)).blk
  refine ⟨by simp [← hR2], below_trans (bset2 B1.out (Nat.le_refl _) _ _) (below_mono (balloc _ _) ?_)⟩
  simp [World.setCell]; omega
end Go.Proofs.YtddaoloabfkheaaGreatDoor

namespace Go.Proofs.YtddaoloabfkheaaGreatDoor
open Go.RowKit

def slen : Value → Nat
  | .slice _ n _ => n
  | _ => 0
/-- what is taken, or why not -/
def badTk (L : List Tk) (q E z : Int) : Prop := (L = [] ∧ z = E) ∨ ∃ k r, L = k :: r ∧ k.kind ≠ q ∧ z = k.at'
theorem take_any {w : World} {g : Nat} {p : List UInt8} {E q : Int} {L : List Tk} (h : RQ w g p E L) (hL : L.length ≤ 1000000) :
    Calls Tryz.prog 128 #[.pointer (some ⟨g, 0, none⟩), .int .i64 q] w fun e w' => (∃ k r, L = k :: r ∧ k.kind = q ∧ e = .returned k.val ∧ RQ w' g p E r ∧ Only [g] w w') ∨ (∃ z, e = flt z ∧ Below w.heap.size w w' ∧ badTk L q E z) := by
  rcases L with _ | ⟨k, r⟩
  · exact (take_end h).mono fun e w' ⟨he, hb⟩ => .inr ⟨E, he, hb, .inl ⟨rfl, rfl⟩⟩
  · by_cases hk : k.kind = q
    · exact (take_ok h hk (by simp at hL; omega)).mono fun e w' ⟨he, hq, ho⟩ => .inl ⟨k, r, rfl, hk, he, hq, ho⟩
    · exact (take_no h hk).mono fun e w' ⟨he, hb⟩ => .inr ⟨k.at', he, hb, .inr ⟨k, r, rfl, hk, rfl⟩⟩
theorem passed_any {w : World} {g : Nat} {p : List UInt8} {E q : Int} {L : List Tk} (h : RQ w g p E L) (hL : L.length ≤ 1000000) :
    Calls Tryz.prog 148 #[.pointer (some ⟨g, 0, none⟩), .int .i64 q] w fun e w' => (∃ k r, L = k :: r ∧ k.kind = q ∧ e = .returned (.bool true) ∧ RQ w' g p E r ∧ Only [g] w w') ∨ (∃ k r, L = k :: r ∧ k.kind ≠ q ∧ e = .returned (.bool false) ∧ Below w.heap.size w w') ∨ (L = [] ∧ e = flt E ∧ Below w.heap.size w w') := by
  rcases L with _ | ⟨k, r⟩
  · exact (passed_end h).mono fun e w' ⟨he, hb⟩ => .inr (.inr ⟨rfl, he, hb⟩)
  · by_cases hk : k.kind = q
    · exact (passed_ok h hk (by simp at hL; omega)).mono fun e w' ⟨he, hq, ho⟩ => .inl ⟨k, r, rfl, hk, he, hq, ho⟩
    · exact (passed_no h hk).mono fun e w' ⟨he, hb⟩ => .inr (.inl ⟨k, r, rfl, hk, he, hb⟩)
theorem go_bad {p : List UInt8} {E S q z : Int} {st : St} {L : List Tk} (h : ∀ k : Tk, k.kind ≠ q → stp p st k = none) (hf : fin E S st = ([], E)) (hb : badTk L q E z) : go p E S st L = ([], z) := by
  rcases hb with ⟨rfl, rfl⟩ | ⟨k, r, rfl, hk, rfl⟩
  · exact hf
  · simp only [go, h k hk]
theorem go_i0 {p : List UInt8} {E S : Int} {l : List Tg} {t : Tg} {h : List (List UInt8)} {f : List UInt8} {k : Tk} {r : List Tk} (hk : k.kind ≠ 5) : go p E S (.i0 l t h f) (k :: r) = go p E S (.it l t h f) (k :: r) := by
  simp only [go, stp, if_neg hk]
theorem own_ss {base : Nat} {w : World} {v : Value} {l : List (List UInt8)} (h : Own base w v l) : SS w v l := Own.bs h
theorem Own.frm {base : Nat} {w : World} {v : Value} {l : List (List UInt8)} (h : Own base w v l) : ∃ a c, v = .slice a l.length c := by
  obtain ⟨a, c, e, _⟩ := (own_ss h).form; exact ⟨a, c, e⟩
theorem OwnL.frm {base : Nat} {w : World} {v : Value} {l : List Lb} (h : OwnL base w v l) : ∃ a c, v = .slice a l.length c := h.form
theorem bd1 (w : World) : Below w.heap.size w w.drew := (Below.refl _ _).drew
theorem cells3 {w0 w1 : World} {f : Nat} {a b c : Value} (hb : Below w0.heap.size w0 w1) (hf : f < w0.heap.size) (c0 : w0.cell? ⟨f, 0, none⟩ = some a) (c1 : w0.cell? ⟨f, 1, none⟩ = some b) (c2 : w0.cell? ⟨f, 2, none⟩ = some c) :
    w1.cell? ⟨f, 0, none⟩ = some a ∧ w1.cell? ⟨f, 1, none⟩ = some b ∧ w1.cell? ⟨f, 2, none⟩ = some c :=
  ⟨(hb.cell (p := ⟨f, 0, none⟩) hf).trans c0, (hb.cell (p := ⟨f, 1, none⟩) hf).trans c1, (hb.cell (p := ⟨f, 2, none⟩) hf).trans c2⟩
theorem cells5 {w0 w1 : World} {f g : Nat} {a b c d e : Value} (hb : Below w0.heap.size w0 w1) (hf : f < w0.heap.size) (hg : g < w0.heap.size) (c0 : w0.cell? ⟨f, 0, none⟩ = some a) (c1 : w0.cell? ⟨f, 1, none⟩ = some b) (c2 : w0.cell? ⟨f, 2, none⟩ = some c) (d0 : w0.cell? ⟨g, 0, none⟩ = some d) (d1 : w0.cell? ⟨g, 1, none⟩ = some e) :
    w1.cell? ⟨f, 0, none⟩ = some a ∧ w1.cell? ⟨f, 1, none⟩ = some b ∧ w1.cell? ⟨f, 2, none⟩ = some c ∧ w1.cell? ⟨g, 0, none⟩ = some d ∧ w1.cell? ⟨g, 1, none⟩ = some e :=
  ⟨(hb.cell (p := ⟨f, 0, none⟩) hf).trans c0, (hb.cell (p := ⟨f, 1, none⟩) hf).trans c1, (hb.cell (p := ⟨f, 2, none⟩) hf).trans c2, (hb.cell (p := ⟨g, 0, none⟩) hg).trans d0, (hb.cell (p := ⟨g, 1, none⟩) hg).trans d1⟩
end Go.Proofs.YtddaoloabfkheaaGreatDoor
