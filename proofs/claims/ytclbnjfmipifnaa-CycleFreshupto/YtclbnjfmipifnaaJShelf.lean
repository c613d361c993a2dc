/-
  Clone, Out, room.
  The contract of the sort, laid at this program, in plain words.
-/
import Derived.Test.YtclbnjfmipifnaaEd
import Derived.Lib.SliceRun
import Derived.Shelf.SlSortCmp.NoneTotal
import Derived.Test.YtclbnjfmipifnaaProg
namespace Go.Proofs.Ytclbnjfmipifnaa
open Go.RowKit Go.Maps

theorem LS.src {w : World} {v : Value} {l : List Lb} (h : LS w v l) : Src Try.prog 2 32 v l.length (lc l) w := by
  rcases h with ⟨⟨a, c, rfl⟩, rfl⟩ | ⟨b, off, cap, rfl, hc, hlt, hcell⟩
  · cases a with
    | none => exact Src.ofNil w und_L c
    | some a => exact Src.ofSlice w und_L a 0 c [] (by simp) (fun j u hu => by simp at hu) (fun u hu => by cases hu)
  · exact Src.ofSlice w und_L ⟨b, off, none⟩ l.length cap (lc l) (by simp [lc_length]) (fun j u hu => by rw [add_lit]; exact hcell j u hu) (lc_one l)
theorem own_empty (w : World) : OwnL w.heap.size (w.alloc (.cells #[] 35)) (.slice (some ⟨w.heap.size, 0, none⟩) 0 0) [] :=
  ⟨rfl, .inr ⟨w.heap.size, 0, #[], rfl, Nat.le_refl _, heap_alloc_new w _, Nat.le_refl _, by unfold maxLen; omega, rfl, rfl⟩⟩

theorem q28 (w : World) (a : Option Addr) (n c n' c' : Nat) : (binOp .eql 32 (.slice a n c) (.slice none n' c')).run Try.prog w = .ok (.bool a.isNone) w := Lib.run_eql_slice_nil w _ _ a n c n' c' und_L
set_option maxRecDepth 100000 in
set_option maxHeartbeats 2000000 in
theorem clone_any {w : World} {v : Value} {l : List Lb} {base : Nat} (h : OwnL base w v l) (hl : l.length ≤ 1000000) :
    Calls Try.prog 38 #[v] w fun e w' => ∃ v', e = .returned v' ∧ OwnL w.heap.size w' v' l ∧ Below w.heap.size w w' := by
  rcases OL.of h with ⟨rfl, rfl⟩ | ⟨g, cap, rest, rfl, ho⟩
  · have q := q28
    go_enter Try.func38, Try.ntmps38
    go_wp2_with fail
    go_ret
    exact ⟨_, rfl, OwnL.nil _ _, Below.refl _ _⟩
  · have H : Hid (LS w (.slice (some ⟨g, 0, none⟩) l.length cap) l ∧ l.length ≤ 1000000) := ⟨h.rs, hl⟩
    clear h ho hl
    obtain ⟨n, hn⟩ : ∃ n, l.length = n := ⟨_, rfl⟩
    have HN : Hid (l.length = n) := hn
    rw [hn] at H ⊢
    clear hn
    have q := q28
    go_enter Try.func38, Try.ntmps38
    go_wp2_with (first | (at_builtin; refine app_Lt und_L (base := w.heap.size) (l := []) (k := l) (own_empty w) ((H.out.1.later (balloc _ _)).src) (by have := H.out.2; have := HN.out; simp; omega) (by simp) rfl (.tmp 5) (.tmp 6) rfl rfl rfl ?_; intro v' w' h1 h2 h3))
    go_ret
    refine ⟨v', rfl, h1, ?_⟩
    exact ((Below.refl _ _).alloc (Nat.le_refl _) _).grown h2 (by simp) (fun k hk => by simp [Value.ownBlock] at hk; omega)

set_option maxRecDepth 100000 in
set_option maxHeartbeats 2000000 in
theorem out_any {w : World} {F : Nat → Prop} {g : Nat} {ns : List Lb} {out : Lb → List Lb} (h : GR w F g ns out) (a : Lb) (ha : Lu a) :
    Calls Try.prog 21 #[.pointer (some ⟨g, 0, none⟩), a.val] w fun e w' => ∃ v, e = .returned v ∧ OwnL w.heap.size w' v (out a) ∧ Below w.heap.size w w' := by
  have hg := h.glt
  have hol := h.olen a
  have hz := h.sz
  obtain ⟨b, hc, _, hb, _, _, hl⟩ := h.map
  clear h
  obtain ⟨v, hov, _, hlook⟩ := hl a ha
  generalize out a = l at *
  obtain ⟨p, n⟩ := a
  have hR := RB.new w ⟨p, n⟩
  obtain ⟨w0, hw0⟩ : ∃ w0, w.alloc (.cells #[.string (bs p), .string (bs n)] 35) = w0 := ⟨_, rfl⟩
  have hb0 : Below w.heap.size w w0 := by rw [← hw0]; exact balloc _ _
  have HB0 : Hid (Below w.heap.size w w0 ∧ w.alloc (.cells #[.string (bs p), .string (bs n)] 35) = w0) := ⟨hb0, hw0⟩
  have hc1 : w0.cell? ⟨g, 0, none⟩ = some (.map (some b)) := (hb0.cell (p := ⟨g, 0, none⟩) hg).trans hc
  have hl1 : (Instr.lookup 61 (.map (some b)) (.agg #[.string (bs p), .string (bs n)]) false).run Try.prog w0.drew = .ok v w0.drew := (hlook w0.drew (hb0.block b hb)).1
  have hR0 : RB w0 w.heap.size ⟨p, n⟩ := by rw [← hw0]; exact hR
  obtain ⟨c0, c1, _, _⟩ := hR0.cells
  simp only at c0 c1
  have HC : Hid (Calls Try.prog 38 #[v] w0.drew fun e w' => ∃ v', e = .returned v' ∧ OwnL w0.drew.heap.size w' v' l ∧ Below w0.drew.heap.size w0.drew w') := clone_any (hov.later (bstep hb0 (bd w0 1))) (by omega)
  clear hl hlook hov hR hR0 hb0 hw0 hc hb hg hol hz ha
  simp only [Lb.val]
  go_enter Try.func21, Try.ntmps21
  go_wp2_with fail
  rw [HB0.out.2]
  go_region_with (go_at_call 38; refine HC.out.mono ?_; rintro e w1 ⟨v', rfl, hov1, hb1⟩)
  all_goals (go_wp2_with fail; go_ret)
  all_goals (have hs : w.heap.size ≤ w0.heap.size := HB0.out.1.size; exact ⟨_, rfl, hov1.mono hs, bstep HB0.out.1 (bstep (bd w0 1) hb1)⟩)
end Go.Proofs.Ytclbnjfmipifnaa

namespace Go.Proofs
open Go.Shelf
def Try.sortL_ren : Go.Shelf.Ren := ⟨fun | 6 => 46 | 15 => 60 | 14 => 59 | 28 => 73 | 29 => 74 | 20 => 65 | 21 => 66 | 22 => 67 | 23 => 68 | 24 => 69 | 25 => 70 | 26 => 71 | 27 => 72 | 46 => 78 | 47 => 79 | 48 => 80 | 49 => 81 | 50 => 82 | 57 => 85 | n => n, fun | 22 => 32 | 24 => 35 | 25 => 64 | 3 => 3 | 39 => 86 | 0 => 0 | 53 => 107 | 55 => 109 | 4 => 4 | 46 => 101 | 45 => 100 | 50 => 73 | 5 => 5 | 9 => 9 | 66 => 113 | 70 => 117 | 76 => 123 | 77 => 110 | n => n, fun | n => n⟩
theorem Try.sortL : Go.Proofs.SlLaysF0.n6 Try.prog Try.sortL_ren := {
  mixed := by kernel_rfl
  f6 := ⟨Try.f46.name, by decide, Try.func46.trans (congrArg some (by kernel_rfl))⟩
  f14 := ⟨Try.f59.name, by decide, Try.func59.trans (congrArg some (by kernel_rfl))⟩
  f15 := Try.func60.trans (congrArg some (by kernel_rfl))
  f20 := ⟨Try.f65.name, by decide, Try.func65.trans (congrArg some (by kernel_rfl))⟩
  f21 := ⟨Try.f66.name, by decide, Try.func66.trans (congrArg some (by kernel_rfl))⟩
  f22 := ⟨Try.f67.name, by decide, Try.func67.trans (congrArg some (by kernel_rfl))⟩
  f23 := ⟨Try.f68.name, by decide, Try.func68.trans (congrArg some (by kernel_rfl))⟩
  f24 := ⟨Try.f69.name, by decide, Try.func69.trans (congrArg some (by kernel_rfl))⟩
  f25 := ⟨Try.f70.name, by decide, Try.func70.trans (congrArg some (by kernel_rfl))⟩
  f26 := ⟨Try.f71.name, by decide, Try.func71.trans (congrArg some (by kernel_rfl))⟩
  f27 := ⟨Try.f72.name, by decide, Try.func72.trans (congrArg some (by kernel_rfl))⟩
  f28 := Try.func73.trans (congrArg some (by kernel_rfl))
  f29 := Try.func74.trans (congrArg some (by kernel_rfl))
  f46 := ⟨Try.f78.name, by decide, Try.func78.trans (congrArg some (by kernel_rfl))⟩
  f47 := Try.func79.trans (congrArg some (by kernel_rfl))
  f48 := Try.func80.trans (congrArg some (by kernel_rfl))
  f49 := ⟨Try.f81.name, by decide, Try.func81.trans (congrArg some (by kernel_rfl))⟩
  f50 := ⟨Try.f82.name, by decide, Try.func82.trans (congrArg some (by kernel_rfl))⟩
  f57 := ⟨Try.f85.name, by decide, Try.func85.trans (congrArg some (by kernel_rfl))⟩
  t0 := Try.underlying0
  a0 := Try.isAgg0
  z0 := Try.sizeOf0
  v0 := Try.zeroValue0
  t3 := Try.underlying3
  a3 := Try.isAgg3
  z3 := Try.sizeOf3
  v3 := Try.zeroValue3
  t4 := Try.underlying4
  a4 := Try.isAgg4
  z4 := Try.sizeOf4
  v4 := Try.zeroValue4
  t5 := Try.underlying5
  a5 := Try.isAgg5
  z5 := Try.sizeOf5
  v5 := Try.zeroValue5
  t9 := Try.underlying9
  a9 := Try.isAgg9
  z9 := Try.sizeOf9
  v9 := Try.zeroValue9
  t22 := Try.underlying32
  a22 := Try.isAgg32
  z22 := Try.sizeOf32
  v22 := Try.zeroValue32
  t25 := Try.underlying64
  a25 := Try.isAgg64
  z25 := Try.sizeOf64
  v25 := Try.zeroValue64
  t39 := Try.underlying86
  a39 := Try.isAgg86
  z39 := Try.sizeOf86
  v39 := Try.zeroValue86
  t45 := Try.underlying100
  a45 := Try.isAgg100
  z45 := Try.sizeOf100
  v45 := Try.zeroValue100
  t46 := Try.underlying101
  a46 := Try.isAgg101
  z46 := Try.sizeOf101
  v46 := Try.zeroValue101
  t50 := Try.underlying73
  a50 := Try.isAgg73
  z50 := Try.sizeOf73
  v50 := Try.zeroValue73
  t53 := Try.underlying107
  a53 := Try.isAgg107
  z53 := Try.sizeOf107
  v53 := Try.zeroValue107
  t55 := Try.underlying109
  a55 := Try.isAgg109
  z55 := Try.sizeOf109
  v55 := Try.zeroValue109
  t66 := Try.underlying113
  a66 := Try.isAgg113
  z66 := Try.sizeOf113
  v66 := Try.zeroValue113
  t70 := Try.underlying117
  a70 := Try.isAgg117
  z70 := Try.sizeOf117
  v70 := Try.zeroValue117
  t76 := Try.underlying123
  a76 := Try.isAgg123
  z76 := Try.sizeOf123
  v76 := Try.zeroValue123
  t77 := Try.underlying110
  a77 := Try.isAgg110
  z77 := Try.sizeOf110
  v77 := Try.zeroValue110 }
end Go.Proofs
