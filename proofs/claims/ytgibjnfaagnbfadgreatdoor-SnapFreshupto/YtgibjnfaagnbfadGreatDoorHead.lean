/-
  The document's examples.
-/
import Derived.Test.YtgibjnfaagnbfadGreatDoorRead
import Derived.Test.YtgibjnfaagnbfadGreatDoorKeep
import Derived.Test.YtgibjnfaagnbfadGreatDoorRefA
namespace Go.Proofs.YtgibjnfaagnbfadGreatDoor
open Go.RowKit

def hf1 : Fl := ⟨tgt, [97, 10], 0, 2⟩
def hf2 : Fl := ⟨[120, 47, 121], [], 7, 0⟩
def hl0 : List Fl := [hf1, hf2]
def ht0 : List UInt8 := [116, 32, 84, 65, 82, 71, 69, 84, 83, 32, 54, 49, 48, 97, 10, 102, 32, 120, 47, 121, 32, 55, 32, 48, 10]
def ht1 : List UInt8 := [102, 32, 120, 32, 48, 55, 32, 48, 10]
theorem h_stand : stand hl0 = true := by decide +kernel
theorem h_valid : validE hl0 = 0 := (validE_zero _).2 h_stand
theorem dec7 : Lib.decDigits 7 = [55] := by rw [Lib.decDigits]; rfl
theorem dec0 : Lib.decDigits 0 = [48] := by rw [Lib.decDigits]; rfl
theorem it7 : Lib.itoa 7 = [55] := by rw [itoa_nat 7 (by decide)]; exact dec7
theorem it0 : Lib.itoa 0 = [48] := by rw [itoa_nat 0 (by decide)]; exact dec0
theorem h_prt : prt hl0 = ht0 := by
  have e2 : line hf2 = [102, 32, 120, 47, 121, 32, 55, 32, 48, 10] := by
    show blanks (wordsOf hf2) ++ [10] = _
    have : wordsOf hf2 = [[102], [120, 47, 121], [55], [48]] := by
      show (if isM hf2.path then _ else [[102], hf2.path, Lib.itoa 7, Lib.itoa 0]) = _
      rw [it7, it0]; decide +kernel
    rw [this]; decide +kernel
  have e1 : line hf1 = [116, 32, 84, 65, 82, 71, 69, 84, 83, 32, 54, 49, 48, 97, 10] := by
    show blanks (wordsOf hf1) ++ [10] = _
    have : wordsOf hf1 = [[116], tgt, [54, 49, 48, 97]] := by
      show (if isM hf1.path then [[116], hf1.path, hexs hf1.text] else _) = _
      rw [if_pos (by decide +kernel)]; decide +kernel
    rw [this]; decide +kernel
  show line hf1 ++ (line hf2 ++ []) = ht0
  rw [e1, e2]; decide +kernel
theorem h_rd0 : rd ht0 = some hl0 := by rw [← h_prt]; exact rd_prt h_stand
theorem h_rd1 : rd ht1 = none := by
  rw [rd_R]
  have e : rdR ht1 = [⟨[120], [], 7, 0⟩] := by
    exact (leq_iff _ _).1 (by decide +kernel)
  rw [e, if_neg]
  rintro ⟨_, h⟩
  have e2 : prt [⟨[120], [], 7, 0⟩] = [102, 32, 120, 32, 55, 32, 48, 10] := by
    show (blanks (wordsOf ⟨[120], [], 7, 0⟩) ++ [10]) ++ [] = _
    have : wordsOf ⟨[120], [], 7, 0⟩ = [[102], [120], [55], [48]] := by
      show (if isM [120] then _ else [[102], [120], Lib.itoa 7, Lib.itoa 0]) = _
      rw [it7, it0]; decide +kernel
    rw [this]; decide +kernel
  rw [e2] at h
  exact absurd h (by decide)
theorem h_fnd : fnd hl0 [120, 47, 121] = some hf2 := by kernel_rfl
theorem h_file : fileE ⟨[97, 47, 47, 98], [], 0, 0⟩ = 7 := by decide +kernel
theorem h_keep : (keep hl0 [[120, 47, 121], [122]]).length = 1 := by decide +kernel

theorem bs_mk (l : List UInt8) : (ByteArray.mk l.toArray) = bs l := rfl
theorem hl0_sm : FSm hl0 := by
  refine ⟨by decide, fun f hf => ?_⟩
  rcases List.mem_cons.1 hf with rfl | hf
  · exact ⟨by decide, by decide, by decide, by decide, by decide, by decide⟩
  · obtain rfl : f = hf2 := by simpa using hf
    exact ⟨by decide, by decide, by decide, by decide, by decide, by decide⟩
theorem fs_new (w : World) (l : List Fl) (k : TypeId) : FS (w.alloc (.cells (fc l).toArray k)) (.slice (some ⟨w.heap.size, 0, none⟩) l.length l.length) l := by
  refine .inr ⟨w.heap.size, 0, l.length, rfl, Nat.le_refl _, by simp, fun i u hu => ?_⟩
  rw [show (0 + i) = i by omega]
  have h := heap_alloc_new w (.cells (fc l).toArray k)
  simp only [World.cell?, h]
  simpa using hu

theorem h_print {w : World} {v : Value} (h : FS w v hl0) (E : Env w) : Calls Tryz.prog 5 #[v] w fun e w' => e = .returned (.tuple #[.string ⟨#[116, 32, 84, 65, 82, 71, 69, 84, 83, 32, 54, 49, 48, 97, 10, 102, 32, 120, 47, 121, 32, 55, 32, 48, 10]⟩, .int .i64 0]) ∧ Below w.heap.size w w' := by
  refine (print_any h hl0_sm E).mono ?_
  rintro e w' ⟨rfl, hb⟩
  rw [h_valid, if_pos rfl, h_prt]
  exact ⟨rfl, hb⟩
theorem h_read0 (w : World) (E : Env w) : Calls Tryz.prog 12 #[.string ⟨#[116, 32, 84, 65, 82, 71, 69, 84, 83, 32, 54, 49, 48, 97, 10, 102, 32, 120, 47, 121, 32, 55, 32, 48, 10]⟩] w fun e w' => ∃ v, e = .returned (.tuple #[v, .int .i64 0]) ∧ OwnF w.heap.size w' v hl0 ∧ Below w.heap.size w w' := by
  refine (read_any ht0 (by decide) w E).mono ?_
  rintro e w' ⟨v, rfl, ho, hb⟩
  rw [h_rd0] at ho ⊢
  exact ⟨v, rfl, ho, hb⟩
theorem h_read1 (w : World) (E : Env w) : Calls Tryz.prog 12 #[.string ⟨#[102, 32, 120, 32, 48, 55, 32, 48, 10]⟩] w fun e w' => ∃ v, e = .returned (.tuple #[v, .int .i64 18]) ∧ Below w.heap.size w w' := by
  refine (read_any ht1 (by decide) w E).mono ?_
  rintro e w' ⟨v, rfl, ho, hb⟩
  rw [h_rd1]
  exact ⟨v, rfl, hb⟩
theorem h_find {w : World} {v : Value} (h : FS w v hl0) : Calls Tryz.prog 10 #[v, .string ⟨#[120, 47, 121]⟩] w fun e w' => e = .returned (.tuple #[.agg #[.string ⟨#[120, 47, 121]⟩, .string ⟨#[]⟩, .int .i64 7, .int .i64 0], .bool true]) ∧ Below w.heap.size w w' := by
  refine (find_any [120, 47, 121] h hl0_sm).mono ?_
  rintro e w' ⟨rfl, hb⟩
  rw [h_fnd]
  exact ⟨rfl, hb⟩
theorem leq_self (l : List Fl) : leq l l = true := (leq_iff l l).2 rfl
theorem h_ksame {w : World} {v u : Value} (h : FS w v hl0) (k : FS w u hl0) : Calls Tryz.prog 14 #[v, u] w fun e w' => e = .returned (.bool true) ∧ Below w.heap.size w w' := by
  refine (ksame_any h k hl0_sm).mono ?_
  rintro e w' ⟨rfl, hb⟩
  rw [leq_self]
  exact ⟨rfl, hb⟩
theorem h_same {w : World} {v u : Value} (h : FS w v hl0) (k : FS w u hl0) : Calls Tryz.prog 11 #[v, u] w fun e w' => e = .returned (.bool true) ∧ Below w.heap.size w w' := by
  refine (same_any h k hl0_sm).mono ?_
  rintro e w' ⟨rfl, hb⟩
  rw [leq_self]
  exact ⟨rfl, hb⟩
theorem h_val {w : World} {v : Value} (h : FS w v hl0) : Calls Tryz.prog 9 #[v] w fun e w' => e = .returned (.int .i64 0) ∧ Below w.heap.size w w' := by
  refine (valid2_any h hl0_sm).mono ?_
  rintro e w' ⟨rfl, hb⟩
  rw [h_valid]
  exact ⟨rfl, hb⟩
theorem h_fil (w : World) : Calls Tryz.prog 15 #[.agg #[.string ⟨#[97, 47, 47, 98]⟩, .string ⟨#[]⟩, .int .i64 0, .int .i64 0]] w fun e w' => e = .returned (.int .i64 7) ∧ Below w.heap.size w w' := by
  refine (file_any ⟨[97, 47, 47, 98], [], 0, 0⟩ w ⟨by decide, by decide, by decide, by decide, by decide, by decide⟩).mono ?_
  rintro e w' ⟨rfl, hb⟩
  rw [h_file]
  exact ⟨rfl, hb⟩
theorem h_keeps {w : World} {v : Value} (h : FS w v hl0) : Calls Tryz.prog 13 #[v, .slice (some ⟨w.heap.size, 0, none⟩) 2 2] (w.alloc (.cells #[.string ⟨#[120, 47, 121]⟩, .string ⟨#[122]⟩] 9)) fun e w' => (∃ a c, e = .returned (.slice a 1 c)) ∧ Below w.heap.size w w' := by
  have hs : SS (w.alloc (.cells #[.string ⟨#[120, 47, 121]⟩, .string ⟨#[122]⟩] 9)) (.slice (some ⟨w.heap.size, 0, none⟩) 2 2) [[120, 47, 121], [122]] := by
    refine .inr ⟨w.heap.size, 0, 2, rfl, Nat.le_refl _, by simp, fun i u hu => ?_⟩
    have h := heap_alloc_new w (.cells #[.string ⟨#[120, 47, 121]⟩, .string ⟨#[122]⟩] 9)
    rw [show (0 + i) = i by omega]
    simp only [World.cell?, h]
    have : sc [[120, 47, 121], [122]] = [.string ⟨#[120, 47, 121]⟩, .string ⟨#[122]⟩] := rfl
    rw [this] at hu
    simpa using hu
  refine (keep_any (h.later (balloc _ _)) hs hl0_sm ⟨by decide, fun x hx => ?_⟩).mono ?_
  · rcases List.mem_cons.1 hx with rfl | hx
    · decide
    · obtain rfl : x = [122] := by simpa using hx
      decide
  · rintro e w' ⟨v', rfl, ho, hb⟩
    obtain ⟨a, c, e⟩ := ho.form
    rw [h_keep] at e
    exact ⟨⟨a, c, by rw [e]⟩, bstep (balloc _ _) hb⟩

set_option maxRecDepth 100000 in
set_option maxHeartbeats 4000000 in
theorem head_any (w : World) (E : Env w) : Calls Tryz.prog 4 #[] w fun e w' => e = .returned (.bool true) ∧ Below w.heap.size w w' := by
  have HE : Hid (Env w) := E
  clear E
  obtain ⟨w1, hw1⟩ : ∃ w1, w.alloc (.cells (fc hl0).toArray 26) = w1 := ⟨_, rfl⟩
  have H1 : Hid (FS w1 (.slice (some ⟨w.heap.size, 0, none⟩) 2 2) hl0 ∧ Below w.heap.size w w1) := by rw [← hw1]; exact ⟨fs_new w hl0 26, balloc _ _⟩
  go_enter Tryz.func4, Tryz.ntmps4
  go_wp2_with fail
  rw [show w.alloc (Obj.cells #[Value.string { data := #[84, 65, 82, 71, 69, 84, 83] }, Value.string { data := #[97, 10] }, Value.int IntKind.i64 0, Value.int IntKind.i64 2, Value.string { data := #[120, 47, 121] }, Value.string { data := #[] }, Value.int IntKind.i64 7, Value.int IntKind.i64 0] 26) = w1 from hw1]
  clear hw1
  refine (h_print H1.out.1 (HE.out.later H1.out.2)).mono ?_
  rintro e w2 ⟨rfl, hb⟩
  have H2 : Hid (FS w2 (.slice (some ⟨w.heap.size, 0, none⟩) 2 2) hl0 ∧ Below w.heap.size w w2) := ⟨H1.out.1.later hb, bstep H1.out.2 hb⟩
  clear hb H1
  go_wp2_with fail
  refine (h_read0 _ (HE.out.later H2.out.2)).mono ?_
  rintro e w3 ⟨v3, rfl, ho, hb⟩
  have H3 : Hid (FS w3 (.slice (some ⟨w.heap.size, 0, none⟩) 2 2) hl0 ∧ Below w.heap.size w w3 ∧ FS w3 v3 hl0) := ⟨H2.out.1.later hb, bstep H2.out.2 hb, ho.fs⟩
  clear hb H2 ho
  go_wp2_with fail
  refine (h_read1 _ (HE.out.later H3.out.2.1)).mono ?_
  rintro e w4 ⟨v4, rfl, hb⟩
  have H4 : Hid (FS w4 (.slice (some ⟨w.heap.size, 0, none⟩) 2 2) hl0 ∧ Below w.heap.size w w4 ∧ FS w4 v3 hl0) := ⟨H3.out.1.later hb, bstep H3.out.2.1 hb, H3.out.2.2.later hb⟩
  clear hb H3
  go_wp2_with fail
  refine (h_find H4.out.1).mono ?_
  rintro e w5 ⟨rfl, hb⟩
  have H5 : Hid (FS w5 (.slice (some ⟨w.heap.size, 0, none⟩) 2 2) hl0 ∧ Below w.heap.size w w5 ∧ FS w5 v3 hl0) := ⟨H4.out.1.later hb, bstep H4.out.2.1 hb, H4.out.2.2.later hb⟩
  clear hb H4
  go_wp2_with fail
  obtain ⟨g, hg⟩ : ∃ g, w5.heap.size = g := ⟨_, rfl⟩
  obtain ⟨w6, hw6⟩ : ∃ w6, w5.alloc (Obj.cells #[Value.string { data := #[120, 47, 121] }, Value.string { data := #[] }, Value.int IntKind.i64 7, Value.int IntKind.i64 0] 26) = w6 := ⟨_, rfl⟩
  have H6 : Hid (FS w6 (.slice (some ⟨w.heap.size, 0, none⟩) 2 2) hl0 ∧ Below w.heap.size w w6 ∧ FS w6 v3 hl0 ∧ FB w6 g hf2) := by
    rw [← hw6, ← hg]
    exact ⟨H5.out.1.later (balloc _ _), bstep H5.out.2.1 (balloc _ _), H5.out.2.2.later (balloc _ _), FB.new w5 hf2 26⟩
  rw [hw6, hg]
  clear hw6 H5
  refine (h_ksame H6.out.2.2.1 H6.out.1).mono ?_
  rintro e w7 ⟨rfl, hb⟩
  have H7 : Hid (FS w7 (.slice (some ⟨w.heap.size, 0, none⟩) 2 2) hl0 ∧ Below w.heap.size w w7 ∧ FB w7 g hf2) := ⟨H6.out.1.later hb, bstep H6.out.2.1 hb, H6.out.2.2.2.later hb⟩
  clear hb H6
  go_wp2_with fail
  refine (h_same H7.out.1 H7.out.1).mono ?_
  rintro e w8 ⟨rfl, hb⟩
  have H8 : Hid (FS w8 (.slice (some ⟨w.heap.size, 0, none⟩) 2 2) hl0 ∧ Below w.heap.size w w8) := ⟨H7.out.1.later hb, bstep H7.out.2.1 hb⟩
  obtain ⟨c0, c1, c2, c3, hlt⟩ := H7.out.2.2.later hb
  simp only [hf2] at c0 c1 c2 c3
  clear hb H7
  go_wp2_with fail
  refine (h_val H8.out.1).mono ?_
  rintro e w9 ⟨rfl, hb⟩
  have H9 : Hid (FS w9 (.slice (some ⟨w.heap.size, 0, none⟩) 2 2) hl0 ∧ Below w.heap.size w w9) := ⟨H8.out.1.later hb, bstep H8.out.2 hb⟩
  clear hb H8
  go_wp2_with fail
  refine (h_fil _).mono ?_
  rintro e w10 ⟨rfl, hb⟩
  have H10 : Hid (FS w10 (.slice (some ⟨w.heap.size, 0, none⟩) 2 2) hl0 ∧ Below w.heap.size w w10) := ⟨H9.out.1.later hb, bstep H9.out.2 hb⟩
  clear hb H9
  go_wp2_with fail
  refine (h_keeps H10.out.1).mono ?_
  rintro e w11 ⟨⟨a, c, rfl⟩, hb⟩
  have H11 : Hid (Below w.heap.size w w11) := bstep H10.out.2 hb
  clear hb H10
  go_wp2_with fail
  go_ret
  exact ⟨rfl, H11.out⟩
end Go.Proofs.YtgibjnfaagnbfadGreatDoor
