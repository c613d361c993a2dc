/-
  A directory's lines; the directories of cones, one by one.
-/
import Derived.Test.YtkopjamednedfaaGreatQm
import Derived.Test.YtkopjamednedfaaGreatSr
import Derived.Test.YtkopjamednedfaaGreatNl
namespace Go.Proofs.YtkopjamednedfaaGreat
open Go.RowKit
attribute [local go_sem] Oper.semAt_some

theorem bs_app (a b : List UInt8) : bs a ++ bs b = bs (a ++ b) := by apply ByteArray.ext; simp [bs]
set_option maxRecDepth 100000 in
set_option maxHeartbeats 1000000 in
theorem show_any (d : List UInt8) (w : World) (hd : d.length ≤ 1000000000) : Calls Tryz.prog 38 #[.string (bs d)] w fun e w' => e = .returned (.string (bs (shwL d))) ∧ w' = w := by
  have he := isE d
  have z1 : (bs d).size = d.length := rfl
  by_cases h : d = []
  · subst h
    go_enter Tryz.func38, Tryz.ntmps38
    go_wp2_with fail
    go_ret
    exact ⟨rfl, rfl⟩
  · have he2 : d.isEmpty = false := by cases d with | nil => exact absurd rfl h | cons _ _ => rfl
    have HE : Hid ((ByteArray.mk #[47]) ++ bs d ++ (ByteArray.mk #[47]) ++ (ByteArray.mk #[10]) = bs (shwL d)) := by
      show _ = _
      rw [show ByteArray.mk #[47] = bs [47] from rfl, show ByteArray.mk #[10] = bs [10] from rfl, bs_app, bs_app, bs_app]
      unfold shwL dl
      rw [if_neg h]
      simp
    go_enter Tryz.func38, Tryz.ntmps38
    go_wp2_with fail
    go_ret
    exact ⟨by rw [HE.out]; rfl, rfl⟩
set_option maxRecDepth 100000 in
set_option maxHeartbeats 1000000 in
theorem hide_any (d : List UInt8) (w : World) (hd : d.length ≤ 1000000000) : Calls Tryz.prog 39 #[.string (bs d)] w fun e w' => e = .returned (.string (bs (hidL d))) ∧ w' = w := by
  have he := isE d
  have z1 : (bs d).size = d.length := rfl
  by_cases h : d = []
  · subst h
    go_enter Tryz.func39, Tryz.ntmps39
    go_wp2_with fail
    go_ret
    exact ⟨rfl, rfl⟩
  · have he2 : d.isEmpty = false := by cases d with | nil => exact absurd rfl h | cons _ _ => rfl
    have HE : Hid ((ByteArray.mk #[33, 47]) ++ bs d ++ (ByteArray.mk #[47]) ++ (ByteArray.mk #[42]) ++ (ByteArray.mk #[47]) ++ (ByteArray.mk #[10]) = bs (hidL d)) := by
      show _ = _
      rw [show ByteArray.mk #[47] = bs [47] from rfl, show ByteArray.mk #[10] = bs [10] from rfl, show ByteArray.mk #[42] = bs [42] from rfl, show ByteArray.mk #[33, 47] = bs [33, 47] from rfl, bs_app, bs_app, bs_app, bs_app, bs_app]
      unfold hidL nl
      rw [if_neg h]
      simp
    go_enter Tryz.func39, Tryz.ntmps39
    go_wp2_with fail
    go_ret
    exact ⟨by rw [HE.out]; rfl, rfl⟩
/-- what a round keeps: what lay below n₀, and all but the Builder's block and rows of bytes -/
structure Kz (n₀ b : Nat) (W W' : World) : Prop where
  below : Below n₀ W W'
  same : Lib.OthersKept 5 (some b) W W'
theorem Kz.refl (n₀ b : Nat) (W : World) : Kz n₀ b W W := ⟨Below.refl _ _, Lib.OthersKept.refl _ _ _⟩
theorem Kz.trans {n₀ b : Nat} {A B C : World} (h : Kz n₀ b A B) (k : Kz n₀ b B C) : Kz n₀ b A C := ⟨h.below.trans k.below, h.same.trans k.same⟩
theorem Kz.of {n₀ b : Nat} {A B : World} (h : Below A.heap.size A B) (hn : n₀ ≤ A.heap.size) : Kz n₀ b A B :=
  ⟨below_mono h hn, fun k _ hk _ _ => (h.block k (Array.getElem?_eq_some_iff.1 hk).1).trans hk⟩
theorem Kz.keeps {n₀ b m : Nat} {A B : World} (h : Kz n₀ b A B) (hb : b < m) : KeepsFrom m A B :=
  ⟨h.below.size, fun k o hk ho hc => h.same k o ho (by simp; omega) (fun c fz e => by rw [e] at hc; cases hc)⟩
theorem Kz.round {n₀ b : Nat} {w : World} (hn : n₀ ≤ w.heap.size) (W1 W3 : World) (l : Nat) (r r' : Loop) (hl : w.heap.size ≤ l) (h1 : W1.heap[l]? = some (.loop r)) (hk : Kz n₀ b (W1.putObj l (.loop r')) W3) (h3 : W3.heap[l]? = some (.loop r')) : Kz n₀ b W1 (W3.putObj l (.loop r)) := by
  have hlt := (Array.getElem?_eq_some_iff.1 h1).1
  have hlt3 := (Array.getElem?_eq_some_iff.1 h3).1
  refine ⟨?_, fun k o ho hkb ht => ?_⟩
  · have x1 : Below n₀ W1 (W1.putObj l (.loop r')) := (Below.refl n₀ W1).grown (grownBy_putObj' W1 l _) (by omega) (fun k e => by cases e; omega)
    have x3 : Below n₀ W3 (W3.putObj l (.loop r)) := (Below.refl n₀ W3).grown (grownBy_putObj' W3 l _) (by omega) (fun k e => by cases e; omega)
    exact (x1.trans hk.below).trans x3
  · by_cases e : k = l
    · subst e
      rw [World.putObj_heap_same hlt3]
      exact h1.symm.trans ho
    · rw [World.putObj_heap_other e]
      exact hk.same k o (by rw [World.putObj_heap_other e]; exact ho) hkb ht
theorem Own.others {B b : Nat} {w w' : World} {v : Value} {l : List (List UInt8)} (h : Own B w v l) (hk : Lib.OthersKept 5 (some b) w w') (hb : b < B) : Own B w' v l := by
  refine ⟨h.1, ?_⟩
  rcases h.2 with ⟨rfl, h0⟩ | ⟨g, cap, cur, rfl, hbg, hg, hr⟩
  · exact .inl ⟨rfl, h0⟩
  · exact .inr ⟨g, cap, cur, rfl, hbg, hk g _ hg (by simp; omega) (fun c fz e => by injection e with _ e2 _; cases e2), hr⟩
theorem grown_of {A B : World} (h : Below A.heap.size A B) : A.grownBy B none := ⟨h.os, h.tape, h.output, h.size, fun k hk _ => h.block k hk⟩
theorem ownFrom_below' {β : Type} {m : Nat} {J : β → World → Prop} (hJ : OwnFrom m J) {s : β} {A B : World} (h : J s A) (hb : Below A.heap.size A B) : J s B := hJ s A B none h (grown_of hb) (fun r e => by cases e)
set_option maxRecDepth 100000 in
set_option maxHeartbeats 1000000 in
theorem dirs0_any (ad : Option Addr) (n c : Nat) (w : World) : Calls Tryz.prog 37 #[.slice ad n c] w fun e w' => e = .returned (.func (.func 56) #[] #[.pointer (some ⟨w.heap.size, 0, none⟩)]) ∧ w' = w.alloc (.cells #[.slice ad n c] 22) := by
  go_enter Tryz.func37, Tryz.ntmps37
  go_wp2_with fail
  go_ret
  exact ⟨rfl, rfl⟩
set_option maxRecDepth 100000 in
set_option maxHeartbeats 1000000 in
theorem lines0_any (ad : Option Addr) (n c : Nat) (w : World) : Calls Tryz.prog 18 #[.slice ad n c] w fun e w' => e = .returned (.func (.func 36) #[] #[.pointer (some ⟨w.heap.size, 0, none⟩)]) ∧ w' = w.alloc (.cells #[.slice ad n c] 22) := by
  go_enter Tryz.func18, Tryz.ntmps18
  go_wp2_with fail
  go_ret
  exact ⟨rfl, rfl⟩
/-- a list of texts below n₀ -/
def KS (n₀ : Nat) (w : World) (v : Value) (k : List (List UInt8)) : Prop := SS w v k ∧ (k = [] ∨ ∀ g, v.ownBlock = some g → g < n₀)
theorem KS.below {n₀ : Nat} {w w' : World} {v : Value} {k : List (List UInt8)} (h : KS n₀ w v k) (hb : Below n₀ w w') : KS n₀ w' v k := by
  refine ⟨?_, h.2⟩
  rcases h.2 with rfl | h2
  · obtain ⟨a, c, e, -⟩ := h.1.form
    exact .inl ⟨⟨a, c, e⟩, rfl⟩
  · exact h.1.below hb h2
theorem KS.of {w : World} {v : Value} {k : List (List UInt8)} (h : SS w v k) : KS w.heap.size w v k := by
  refine ⟨h, ?_⟩
  rcases h with ⟨_, rfl⟩ | ⟨b, off, cap, rfl, _, hlt, _⟩
  · exact .inl rfl
  · exact .inr fun g hg => by simp only [Value.ownBlock, Option.some.injEq] at hg; omega
end Go.Proofs.YtkopjamednedfaaGreat
