/-
  Clone, Out, room.
  The contract of the sort, laid at this program, in plain words.
-/
import Derived.Test.YtjohhmfncemknaaEd
import Derived.Lib.SliceRun
import Derived.Shelf.SlSortCmp.NoneTotal
import Derived.Test.YtjohhmfncemknaaProg
namespace Go.Proofs.Ytjohhmfncemknaa
open Go.RowKit Go.Maps

theorem LS.src {w : World} {v : Value} {l : List Lb} (h : LS w v l) : Src Try.prog 2 28 v l.length (lc l) w := by
  rcases h with ⟨⟨a, c, rfl⟩, rfl⟩ | ⟨b, off, cap, rfl, hc, hlt, hcell⟩
  · cases a with
    | none => exact Src.ofNil w und_L c
    | some a => exact Src.ofSlice w und_L a 0 c [] (by simp) (fun j u hu => by simp at hu) (fun u hu => by cases hu)
  · exact Src.ofSlice w und_L ⟨b, off, none⟩ l.length cap (lc l) (by simp [lc_length]) (fun j u hu => by rw [add_lit]; exact hcell j u hu) (lc_one l)
theorem own_empty (w : World) : OwnL w.heap.size (w.alloc (.cells #[] 31)) (.slice (some ⟨w.heap.size, 0, none⟩) 0 0) [] :=
  ⟨rfl, .inr ⟨w.heap.size, 0, #[], rfl, Nat.le_refl _, heap_alloc_new w _, Nat.le_refl _, by unfold maxLen; omega, rfl, rfl⟩⟩

theorem q28 (w : World) (a : Option Addr) (n c n' c' : Nat) : (binOp .eql 28 (.slice a n c) (.slice none n' c')).run Try.prog w = .ok (.bool a.isNone) w := Lib.run_eql_slice_nil w _ _ a n c n' c' und_L
set_option maxRecDepth 100000 in
set_option maxHeartbeats 2000000 in
theorem clone_any {w : World} {v : Value} {l : List Lb} {base : Nat} (h : OwnL base w v l) (hl : l.length ≤ 1000000) :
    Calls Try.prog 33 #[v] w fun e w' => ∃ v', e = .returned v' ∧ OwnL w.heap.size w' v' l ∧ Below w.heap.size w w' := by
  rcases OL.of h with ⟨rfl, rfl⟩ | ⟨g, cap, rest, rfl, ho⟩
  · have q := q28
    go_enter Try.func33, Try.ntmps33
    go_wp2_with fail
    go_ret
    exact ⟨_, rfl, OwnL.nil _ _, Below.refl _ _⟩
  · have H : Hid (LS w (.slice (some ⟨g, 0, none⟩) l.length cap) l ∧ l.length ≤ 1000000) := ⟨h.rs, hl⟩
    clear h ho hl
    obtain ⟨n, hn⟩ : ∃ n, l.length = n := ⟨_, rfl⟩
    have HN : Hid (l.length = n) := hn
    rw [hn] at H ⊢
    clear hn
    have q := q28
    go_enter Try.func33, Try.ntmps33
    go_wp2_with (first | (at_builtin; refine app_Lt und_L (base := w.heap.size) (l := []) (k := l) (own_empty w) ((H.out.1.later (balloc _ _)).src) (by have := H.out.2; have := HN.out; simp; omega) (by simp) rfl (.tmp 5) (.tmp 6) rfl rfl rfl ?_; intro v' w' h1 h2 h3))
    go_ret
    refine ⟨v', rfl, h1, ?_⟩
    exact ((Below.refl _ _).alloc (Nat.le_refl _) _).grown h2 (by simp) (fun k hk => by simp [Value.ownBlock] at hk; omega)

set_option maxRecDepth 100000 in
set_option maxHeartbeats 2000000 in
theorem out_any {w : World} {F : Nat → Prop} {g : Nat} {ns : List Lb} {out : Lb → List Lb} (h : GR w F g ns out) (a : Lb) (ha : Lu a) :
    Calls Try.prog 13 #[.pointer (some ⟨g, 0, none⟩), a.val] w fun e w' => ∃ v, e = .returned v ∧ OwnL w.heap.size w' v (out a) ∧ Below w.heap.size w w' := by
  have hg := h.glt
  have hol := h.olen a
  have hz := h.sz
  obtain ⟨b, hc, _, hb, _, _, hl⟩ := h.map
  clear h
  obtain ⟨v, hov, _, hlook⟩ := hl a ha
  generalize out a = l at *
  obtain ⟨p, n⟩ := a
  have hR := RB.new w ⟨p, n⟩
  obtain ⟨w0, hw0⟩ : ∃ w0, w.alloc (.cells #[.string (bs p), .string (bs n)] 31) = w0 := ⟨_, rfl⟩
  have hb0 : Below w.heap.size w w0 := by rw [← hw0]; exact balloc _ _
  have HB0 : Hid (Below w.heap.size w w0 ∧ w.alloc (.cells #[.string (bs p), .string (bs n)] 31) = w0) := ⟨hb0, hw0⟩
  have hc1 : w0.cell? ⟨g, 0, none⟩ = some (.map (some b)) := (hb0.cell (p := ⟨g, 0, none⟩) hg).trans hc
  have hl1 : (Instr.lookup 60 (.map (some b)) (.agg #[.string (bs p), .string (bs n)]) false).run Try.prog w0.drew = .ok v w0.drew := (hlook w0.drew (hb0.block b hb)).1
  have hR0 : RB w0 w.heap.size ⟨p, n⟩ := by rw [← hw0]; exact hR
  obtain ⟨c0, c1, _, _⟩ := hR0.cells
  simp only at c0 c1
  have HC : Hid (Calls Try.prog 33 #[v] w0.drew fun e w' => ∃ v', e = .returned v' ∧ OwnL w0.drew.heap.size w' v' l ∧ Below w0.drew.heap.size w0.drew w') := clone_any (hov.later (bstep hb0 (bd w0 1))) (by omega)
  clear hl hlook hov hR hR0 hb0 hw0 hc hb hg hol hz ha
  simp only [Lb.val]
  go_enter Try.func13, Try.ntmps13
  go_wp2_with fail
  rw [HB0.out.2]
  go_region_with (go_at_call 33; refine HC.out.mono ?_; rintro e w1 ⟨v', rfl, hov1, hb1⟩)
  all_goals (go_wp2_with fail; go_ret)
  all_goals (have hs : w.heap.size ≤ w0.heap.size := HB0.out.1.size; exact ⟨_, rfl, hov1.mono hs, bstep HB0.out.1 (bstep (bd w0 1) hb1)⟩)
end Go.Proofs.Ytjohhmfncemknaa

namespace Go.Proofs
open Go.Shelf
def Try.sortL_ren : Go.Shelf.Ren := ⟨fun | 6 => 32 | 15 => 49 | 14 => 48 | 28 => 68 | 29 => 69 | 20 => 60 | 21 => 61 | 22 => 62 | 23 => 63 | 24 => 64 | 25 => 65 | 26 => 66 | 27 => 67 | 46 => 75 | 47 => 76 | 48 => 77 | 49 => 78 | 50 => 79 | 57 => 83 | n => n, fun | 22 => 28 | 24 => 31 | 25 => 65 | 3 => 3 | 39 => 87 | 0 => 0 | 53 => 114 | 55 => 116 | 4 => 4 | 46 => 108 | 45 => 107 | 50 => 63 | 5 => 5 | 9 => 9 | 66 => 122 | 70 => 126 | 76 => 132 | 77 => 119 | n => n, fun | n => n⟩
theorem Try.sortL : Go.Proofs.SlLaysF0.n6 Try.prog Try.sortL_ren := {
  mixed := by kernel_rfl
  f6 := ⟨Try.f32.name, by decide, Try.func32.trans (congrArg some (by kernel_rfl))⟩
  f14 := ⟨Try.f48.name, by decide, Try.func48.trans (congrArg some (by kernel_rfl))⟩
  f15 := Try.func49.trans (congrArg some (by kernel_rfl))
  f20 := ⟨Try.f60.name, by decide, Try.func60.trans (congrArg some (by kernel_rfl))⟩
  f21 := ⟨Try.f61.name, by decide, Try.func61.trans (congrArg some (by kernel_rfl))⟩
  f22 := ⟨Try.f62.name, by decide, Try.func62.trans (congrArg some (by kernel_rfl))⟩
  f23 := ⟨Try.f63.name, by decide, Try.func63.trans (congrArg some (by kernel_rfl))⟩
  f24 := ⟨Try.f64.name, by decide, Try.func64.trans (congrArg some (by kernel_rfl))⟩
  f25 := ⟨Try.f65.name, by decide, Try.func65.trans (congrArg some (by kernel_rfl))⟩
  f26 := ⟨Try.f66.name, by decide, Try.func66.trans (congrArg some (by kernel_rfl))⟩
  f27 := ⟨Try.f67.name, by decide, Try.func67.trans (congrArg some (by kernel_rfl))⟩
  f28 := Try.func68.trans (congrArg some (by kernel_rfl))
  f29 := Try.func69.trans (congrArg some (by kernel_rfl))
  f46 := ⟨Try.f75.name, by decide, Try.func75.trans (congrArg some (by kernel_rfl))⟩
  f47 := Try.func76.trans (congrArg some (by kernel_rfl))
  f48 := Try.func77.trans (congrArg some (by kernel_rfl))
  f49 := ⟨Try.f78.name, by decide, Try.func78.trans (congrArg some (by kernel_rfl))⟩
  f50 := ⟨Try.f79.name, by decide, Try.func79.trans (congrArg some (by kernel_rfl))⟩
  f57 := ⟨Try.f83.name, by decide, Try.func83.trans (congrArg some (by kernel_rfl))⟩
  t0 := Try.underlying0
  a0 := Try.isAgg0
  z0 := Try.sizeOf0
  v0 := Try.zeroValue0
  t3 := Try.underlying3
  a3 := Try.isAgg3
  z3 := Try.sizeOf3
  v3 := Try.zeroValue3
  t4 := Try.underlying4
  a4 := Try.isAgg4
  z4 := Try.sizeOf4
  v4 := Try.zeroValue4
  t5 := Try.underlying5
  a5 := Try.isAgg5
  z5 := Try.sizeOf5
  v5 := Try.zeroValue5
  t9 := Try.underlying9
  a9 := Try.isAgg9
  z9 := Try.sizeOf9
  v9 := Try.zeroValue9
  t22 := Try.underlying28
  a22 := Try.isAgg28
  z22 := Try.sizeOf28
  v22 := Try.zeroValue28
  t25 := Try.underlying65
  a25 := Try.isAgg65
  z25 := Try.sizeOf65
  v25 := Try.zeroValue65
  t39 := Try.underlying87
  a39 := Try.isAgg87
  z39 := Try.sizeOf87
  v39 := Try.zeroValue87
  t45 := Try.underlying107
  a45 := Try.isAgg107
  z45 := Try.sizeOf107
  v45 := Try.zeroValue107
  t46 := Try.underlying108
  a46 := Try.isAgg108
  z46 := Try.sizeOf108
  v46 := Try.zeroValue108
  t50 := Try.underlying63
  a50 := Try.isAgg63
  z50 := Try.sizeOf63
  v50 := Try.zeroValue63
  t53 := Try.underlying114
  a53 := Try.isAgg114
  z53 := Try.sizeOf114
  v53 := Try.zeroValue114
  t55 := Try.underlying116
  a55 := Try.isAgg116
  z55 := Try.sizeOf116
  v55 := Try.zeroValue116
  t66 := Try.underlying122
  a66 := Try.isAgg122
  z66 := Try.sizeOf122
  v66 := Try.zeroValue122
  t70 := Try.underlying126
  a70 := Try.isAgg126
  z70 := Try.sizeOf126
  v70 := Try.zeroValue126
  t76 := Try.underlying132
  a76 := Try.isAgg132
  z76 := Try.sizeOf132
  v76 := Try.zeroValue132
  t77 := Try.underlying119
  a77 := Try.isAgg119
  z77 := Try.sizeOf119
  v77 := Try.zeroValue119 }
end Go.Proofs
