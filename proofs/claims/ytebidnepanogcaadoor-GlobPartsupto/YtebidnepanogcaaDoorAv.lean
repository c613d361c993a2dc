/-
  The example of the laws.
-/
import Derived.Test.YtebidnepanogcaaDoorXp
namespace Go.Proofs.YtebidnepanogcaaDoor
open Go.RowKit

def fA : Fl := ⟨[97, 46, 99], [], 0, 0⟩
def fB : Fl := ⟨[120, 47, 98, 46, 99], [], 0, 0⟩
theorem ex0 : exl [fA, fB] (whl [120] [42, 46, 99]) = ([fB], true) := by kernel_rfl
theorem ex1 : valP [120, 47, 42, 46, 99] = true := by decide +kernel
theorem ex2 : starP [42] = true := by decide +kernel
theorem ex3 : starP [97, 46, 99] = false := by decide +kernel
theorem ex4 : mat [42, 46, 99] [46, 99] = true := by decide +kernel
theorem fok0 (f : Fl) (h : f.path.length ≤ 100) (h1 : f.text.length ≤ 100) (h2 : f.blob = 0) (h3 : f.size = 0) : Fok f := ⟨by omega, by omega, by omega, by omega, by omega, by omega⟩
theorem fq0 : FQ [fA, fB] := by
  refine ⟨by simp, fun f hf => ?_, fun f hf => ?_⟩
  · simp only [List.mem_cons, List.not_mem_nil, or_false] at hf
    rcases hf with rfl | rfl
    · exact fok0 _ (by decide) (by decide) rfl rfl
    · exact fok0 _ (by decide) (by decide) rfl rfl
  · simp only [List.mem_cons, List.not_mem_nil, or_false] at hf
    rcases hf with rfl | rfl
    · show (3 : Nat) ≤ _; omega
    · show (5 : Nat) ≤ _; omega
theorem fs_two (w : World) (f g : Fl) : FS (w.alloc (.cells #[.string (bs f.path), .string (bs f.text), .int .i64 f.blob, .int .i64 f.size, .string (bs g.path), .string (bs g.text), .int .i64 g.blob, .int .i64 g.size] 29)) (.slice (some ⟨w.heap.size, 0, none⟩) 2 2) [f, g] := by
  have h : OwnF w.heap.size (w.alloc (.cells #[.string (bs f.path), .string (bs f.text), .int .i64 f.blob, .int .i64 f.size, .string (bs g.path), .string (bs g.text), .int .i64 g.blob, .int .i64 g.size] 29)) (.slice (some ⟨w.heap.size, 0, none⟩) 2 2) [f, g] :=
    World.ownsRow_lit (size := 4) (e := 29) w #[.string (bs f.path), .string (bs f.text), .int .i64 f.blob, .int .i64 f.size, .string (bs g.path), .string (bs g.text), .int .i64 g.blob, .int .i64 g.size] 2 (Nat.le_refl _) (by simp [maxLen]) rfl
  exact h.fs

set_option maxRecDepth 100000 in
set_option maxHeartbeats 4000000 in
theorem alive_any {w : World} (E : Ev w) : Calls Tryd.prog 8 #[] w fun e w' => e = .returned (.bool true) ∧ Below w.heap.size w w' := by
  have HE : Hid (∀ (W : World) (v : Value), Below w.heap.size w W → FS W v [fA, fB] → Calls Tryd.prog 7 #[v, .string (bs [120]), .string (bs [42, 46, 99])] W fun e w' => ∃ u, e = .returned (.tuple #[u, .bool true]) ∧ OwnF W.heap.size w' u [fB] ∧ Below W.heap.size W w') := fun W v hW hv => by
    have := expand_any [120] [42, 46, 99] hv fq0 (E.later hW) (by simp) (by simp)
    rw [ex0] at this; exact this
  have HV : Hid (∀ W : World, Below w.heap.size w W → Calls Tryd.prog 9 #[.string (bs [120, 47, 42, 46, 99])] W fun e w' => e = .returned (.bool true) ∧ Below W.heap.size W w') := fun W hW => by
    have := valP_any [120, 47, 42, 46, 99] (E.later hW) (by simp)
    rw [ex1] at this; exact this
  have HS1 : Hid (∀ W : World, Below w.heap.size w W → Calls Tryd.prog 10 #[.string (bs [42])] W fun e w' => e = .returned (.bool true) ∧ Below W.heap.size W w') := fun W hW => by
    have := starP_any [42] (E.later hW) (by simp)
    rw [ex2] at this; exact this
  have HS2 : Hid (∀ W : World, Below w.heap.size w W → Calls Tryd.prog 10 #[.string (bs [97, 46, 99])] W fun e w' => e = .returned (.bool false) ∧ Below W.heap.size W w') := fun W hW => by
    have := starP_any [97, 46, 99] (E.later hW) (by simp)
    rw [ex3] at this; exact this
  have HM : Hid (∀ W : World, Below w.heap.size w W → Calls Tryd.prog 12 #[.string (bs [42, 46, 99]), .string (bs [46, 99])] W fun e w' => e = .returned (.bool true) ∧ Below W.heap.size W w') := fun W hW => by
    have := mat_any [42, 46, 99] [46, 99] (E.later hW) (by simp) (by simp)
    rw [ex4] at this; exact this
  have eb : (ByteArray.mk #[120, 47, 98, 46, 99]).toList = [120, 47, 98, 46, 99] := ByteArray.toList_mk [120, 47, 98, 46, 99]
  have eb2 : (bs [120, 47, 98, 46, 99]).toList = [120, 47, 98, 46, 99] := bs_toList _
  go_enter Tryd.func8, Tryd.ntmps8
  go_wp2_with fail
  refine (HE.out _ _ (balloc _ _) (fs_two w fA fB)).mono ?_
  rintro e w1 ⟨u, rfl, hu, hb1⟩
  have HB1 : Hid (Below w.heap.size w w1) := bstep (balloc _ _) hb1
  clear hb1
  obtain ⟨a, c, rfl, hf⟩ := hu.fs.form
  obtain ⟨b, off, rfl, _, c0, _⟩ := hf 0 (by simp)
  have c0' : w1.cell? ⟨b, off, none⟩ = some (.string (bs [120, 47, 98, 46, 99])) := by simpa [fB] using c0
  clear hu hf c0
  go_wp2_with fail
  refine (HV.out _ HB1.out).mono ?_
  rintro e w2 ⟨rfl, hb2⟩
  have HB2 : Hid (Below w.heap.size w w2) := bstep HB1.out hb2
  clear hb2
  go_wp2_with fail
  refine (HS1.out _ HB2.out).mono ?_
  rintro e w3 ⟨rfl, hb3⟩
  have HB3 : Hid (Below w.heap.size w w3) := bstep HB2.out hb3
  clear hb3
  go_wp2_with fail
  refine (HS2.out _ HB3.out).mono ?_
  rintro e w4 ⟨rfl, hb4⟩
  have HB4 : Hid (Below w.heap.size w w4) := bstep HB3.out hb4
  clear hb4
  go_wp2_with fail
  refine (HM.out _ HB4.out).mono ?_
  rintro e w5 ⟨rfl, hb5⟩
  have HB5 : Hid (Below w.heap.size w w5) := bstep HB4.out hb5
  clear hb5
  go_wp2_with fail
  go_ret
  exact ⟨rfl, HB5.out⟩
end Go.Proofs.YtebidnepanogcaaDoor
