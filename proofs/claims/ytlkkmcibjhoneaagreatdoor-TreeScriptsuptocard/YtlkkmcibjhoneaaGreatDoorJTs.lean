/-
  TreeScripts: any step on both; how much they hold; a crash of both.
  The law TreeStops, of the contracts.
-/
import Derived.Test.YtlkkmcibjhoneaaGreatDoorEc
import Derived.Test.YtlkkmcibjhoneaaGreatDoorTp
import Derived.Test.YtlkkmcibjhoneaaGreatDoorJFq
import Derived.OrdersHeld
import Derived.Deep.Cut
namespace Go.Proofs.YtlkkmcibjhoneaaGreatDoor
open Go.RowKit

/-- what a step of a script makes of a tree -/
def opT (o : Opp) (T : TT) : TT := if o.kind = 8 then T.cr o.n else opD o T
/-- how much a tree holds, the journal and what was torn together -/
structure TZ (n : Nat) (T : TT) : Prop where
  nf : T.fs.length ≤ n
  nd : T.ds.length ≤ n
  nj : T.jl.length + T.tn.length ≤ n
  ns : T.st ≤ n
  ef : ∀ f ∈ T.fs, Fok f
  s1 : T.sp ≤ 9223372036854775807
theorem TZ.sz {n : Nat} {T : TT} (h : TZ n T) : TSz n T := ⟨h.nf, h.nd, by have := h.nj; omega, by have := h.nj; omega, h.ns, h.ef, h.s1⟩
theorem TZ.mono {n m : Nat} {T : TT} (h : TZ n T) (hm : n ≤ m) : TZ m T := ⟨Nat.le_trans h.nf hm, Nat.le_trans h.nd hm, Nat.le_trans h.nj hm, Nat.le_trans h.ns hm, h.ef, h.s1⟩
theorem TZ.cr {n : Nat} {T : TT} (h : TZ n T) (k : Int) : TZ n (T.cr k) := by
  refine ⟨h.nf, h.nd, ?_, (by show 0 ≤ n; omega), h.ef, (by show (0 : Int) ≤ _; decide)⟩
  show (T.jl ++ T.tn.take _).length + ([] : List UInt8).length ≤ n
  have := h.nj
  rw [List.length_append, List.length_take]
  simp
  omega
theorem TZ.stop {n : Nat} {T : TT} (h : TZ n T) {k : Int} (hk : k ≤ 9223372036854775807) : TZ n (T.stop k) := by
  unfold TT.stop
  split
  · exact h
  · exact ⟨h.nf, h.nd, h.nj, h.ns, h.ef, by show (if 1 ≤ k then k else 0) ≤ _; split <;> omega⟩
/-- the count -/
theorem cnt_facts {T : TT} (ho : TOk T) (b : List UInt8) : (T.cnt b).1.fs = T.fs ∧ (T.cnt b).1.ds = T.ds ∧ (T.cnt b).1.jl = T.jl ∧ (T.cnt b).1.st = T.st + 1 ∧ (T.cnt b).1.sp ≤ T.sp ∧ ((T.cnt b).2 = true → (T.cnt b).1.tn = T.tn) ∧ (T.cnt b).1.tn.length ≤ T.tn.length + b.length := by
  have h0 := ho.tn0
  have hs := ho.sp0
  unfold TT.cnt
  split
  · exact ⟨rfl, rfl, rfl, rfl, Int.le_refl _, fun _ => rfl, by simp⟩
  · split
    · exact ⟨rfl, rfl, rfl, rfl, by show T.sp - 1 ≤ T.sp; omega, fun _ => rfl, by simp⟩
    · split
      · exact ⟨rfl, rfl, rfl, rfl, Int.le_refl _, fun _ => rfl, by simp⟩
      · exact ⟨rfl, rfl, rfl, rfl, Int.le_refl _, fun h => (by cases h), by show b.length ≤ _; omega⟩
theorem TZ.step {n : Nat} {T : TT} (h : TZ n T) (ho : TOk T) (b : List UInt8) {g : TT → TT × Int}
    (hg : ∀ U, TZ (n + b.length + 1) U → U.jl.length + U.tn.length ≤ n → U.fs.length ≤ n → U.ds.length ≤ n → TZ (n + b.length + 1) (g U).1) : TZ (n + b.length + 1) (T.step b g).1 := by
  obtain ⟨c1, c2, c3, c4, c5, c6, c7⟩ := cnt_facts ho b
  have h1 := h.nf
  have h2 := h.nd
  have h3 := h.nj
  have h4 := h.ns
  have h5 := h.s1
  have hU : TZ (n + b.length + 1) (T.cnt b).1 := ⟨by rw [c1]; omega, by rw [c2]; omega, by rw [c3]; omega, by rw [c4]; omega, by rw [c1]; exact h.ef, by omega⟩
  unfold TT.step
  split
  · rename_i hc
    exact hg _ hU (by rw [c3, c6 hc]; exact h3) (by rw [c1]; exact h1) (by rw [c2]; exact h2)
  · exact hU
theorem TZ.op {n : Nat} {T : TT} (h : TZ n T) (ho : TOk T) {o : Opp} (hk : Ook o) : TZ (n + o.b.length + 1) (opT o T) := by
  have hl : ∀ {U : TT}, TZ n U → TZ (n + o.b.length + 1) U := fun h => h.mono (by omega)
  have h0 : ∀ {U : TT}, TZ (n + ([] : List UInt8).length + 1) U → TZ (n + o.b.length + 1) U := fun h => h.mono (by simp)
  unfold opT
  split
  · exact hl (h.cr _)
  · unfold opD
    split
    · exact hl (h.stop hk.n1)
    · unfold opR
      split
      · refine h0 (h.step ho [] fun U hU _ hf hd => ?_)
        unfold mkG
        split
        · exact ⟨hU.nf, by show (ins _ _).length ≤ _; have := ins_len o.p U.ds; simp; omega, hU.nj, hU.ns, hU.ef, hU.s1⟩
        · exact hU
      · split
        · refine h0 (h.step ho [] fun U hU _ hf hd => ?_)
          unfold wrG
          split
          · split
            · refine ⟨by show (insF _ _).length ≤ _; have := insF_len o.f U.fs; simp; omega, hU.nd, hU.nj, hU.ns, fun x hx => ?_, hU.s1⟩
              rcases mem_insF hx with rfl | hx
              · exact hk.f
              · exact hU.ef x hx
            · exact hU
          · exact hU
        · split
          · refine h0 (h.step ho [] fun U hU _ hf hd => ?_)
            unfold dlG
            split
            · exact ⟨Nat.le_trans (List.length_filter_le _ _) hU.nf, hU.nd, hU.nj, hU.ns, fun x hx => hU.ef x (List.mem_filter.1 hx).1, hU.s1⟩
            · exact hU
          · split
            · refine h0 (h.step ho [] fun U hU _ hf hd => ?_)
              unfold rmG
              split
              · exact ⟨hU.nf, Nat.le_trans (List.length_filter_le _ _) hU.nd, hU.nj, hU.ns, hU.ef, hU.s1⟩
              · exact hU
            · split
              · refine h.step ho o.b fun U hU hj hf hd => ?_
                exact ⟨hU.nf, hU.nd, by show (U.jl ++ o.b).length + U.tn.length ≤ _; rw [List.length_append]; omega, hU.ns, hU.ef, hU.s1⟩
              · split
                · refine h0 (h.step ho [] fun U hU _ hf hd => ?_)
                  exact ⟨hU.nf, hU.nd, by show ([] : List UInt8).length + U.tn.length ≤ _; have := hU.nj; simp; simp at this; omega, hU.ns, hU.ef, hU.s1⟩
                · exact hl h
theorem TOk.opT {T : TT} (h : TOk T) (o : Opp) : TOk (opT o T) := by
  unfold Go.Proofs.YtlkkmcibjhoneaaGreatDoor.opT
  split
  · exact h.cr _
  · unfold opD
    split
    · exact h.stop _
    · exact h.op o
/-- any step but a crash, on both -/
theorem does_any {TA : World → (Nat → Prop) → Nat → TT → Prop} (C : TcP TA) {P : Nat → Prop} {B : Nat} {w W : World} {c d : Nat} {T : TT} (h : B2 TA P B w W c T d T) (hz : TSz 3999999 T) (ho : TOk T) {o : Opp} {ua : Option Addr} {un uc : Nat} (hk : Ook o) (hfp : o.f.path.length ≤ 100000000)
    (hv : BS W (.slice ua un uc) o.b) (hvP : o.b ≠ [] → ∀ k, (Value.slice ua un uc).ownBlock = some k → P k) (h8 : o.kind ≠ 8) :
    Calls Tryz.prog 35 #[.pointer (some ⟨c, 0, none⟩), .pointer (some ⟨d, 0, none⟩), .agg #[.int .i64 o.kind, .string (bs o.p), .string (bs o.f.path), .string (bs o.f.text), .int .i64 o.f.blob, .int .i64 o.f.size, .slice ua un uc, .int .i64 o.n]] W
      fun e w' => e = .returned (.bool true) ∧ B2 TA P B w w' c (opT o T) d (opT o T) := by
  have e8 : opT o T = opD o T := by unfold opT; rw [if_neg h8]
  rw [e8]
  have hun : un = o.b.length := by
    rcases hv with ⟨⟨a, c', e⟩, e0⟩ | ⟨b, off, cap, e, _⟩
    · injection e with _ e2 _
      rw [e2, e0]; rfl
    · injection e with _ e2 _
  subst hun
  have hp := hk.p
  have hf := hk.f
  have hb := hk.b
  have n0 := hk.n0
  have n1 := hk.n1
  obtain ⟨kd, p, ⟨q, tx, bl, sz⟩, b, nn⟩ := o
  dsimp only at *
  unfold opD opR
  dsimp only
  by_cases k1 : kd = 1
  · subst k1
    rw [if_neg (by decide), if_pos rfl]
    exact does1 C h hz ho hp
  rw [if_neg k1]
  by_cases k2 : kd = 2
  · subst k2
    rw [if_neg (by decide), if_pos rfl]
    exact does2 C h hz ho hf hfp
  rw [if_neg k2]
  by_cases k3 : kd = 3
  · subst k3
    rw [if_neg (by decide), if_pos rfl]
    exact does3 C h hz ho hp
  rw [if_neg k3]
  by_cases k4 : kd = 4
  · subst k4
    rw [if_neg (by decide), if_pos rfl]
    exact does4 C h hz ho hp
  rw [if_neg k4]
  by_cases k5 : kd = 5
  · subst k5
    rw [if_neg (by decide), if_pos rfl]
    exact does5 C h hz ho hv hvP hb
  rw [if_neg k5]
  by_cases k6 : kd = 6
  · subst k6
    rw [if_neg (by decide), if_pos rfl]
    exact does6 C h hz ho
  rw [if_neg k6]
  by_cases k7 : kd = 7
  · subst k7
    rw [if_pos rfl]
    exact does7 C h hz ho n0 n1
  rw [if_neg k7]
  exact does0 C h hz ho (by omega)
section
variable {TA : World → (Nat → Prop) → Nat → TT → Prop} {P : Nat → Prop} {B c d : Nat} {w W w1 w2 : World} {T U : TT}
theorem B2.craT (C : TcP TA) (h : B2 TA P B w W c T d T) (hz : TSz 4000000 T) (n : Int) (h0 : -9223372036854775808 ≤ n) (h1 : n ≤ 9223372036854775807) :
    Calls Tryz.prog 13 #[.pointer (some ⟨c, 0, none⟩), .int .i64 n] W fun e w' => ∃ c', e = .returned (.pointer (some ⟨c', 0, none⟩)) ∧ TA w' (fun k => W.heap.size ≤ k ∧ k < w'.heap.size) c' (T.cr n) ∧ Below W.heap.size W w' := by
  obtain ⟨F, G, q1, _⟩ := h
  exact C.cra q1 hz n h0 h1
theorem B2.craR (h : B2 TA P B w W c T d T) (hz : TSz 4000000 T) (hb : Below W.heap.size W w1) (n : Int) :
    Calls Tryz.prog 37 #[.pointer (some ⟨d, 0, none⟩), .int .i64 n] w1 fun e w' => ∃ d', e = .returned (.pointer (some ⟨d', 0, none⟩)) ∧ RT w' (fun k => w1.heap.size ≤ k ∧ k < w'.heap.size) d' (T.cr n) ∧ Below w1.heap.size w1 w' := by
  obtain ⟨F, G, q1, q2, _⟩ := h
  exact rcrash_any (q2.later hb) hz n
/-- both that the crashes gave -/
theorem B2.pair (C : TcP TA) {c' d' : Nat} (hB4 : 4 ≤ B) (hB : Below B w W) (hB' : B ≤ W.heap.size) (h1 : TA w1 (fun k => W.heap.size ≤ k ∧ k < w1.heap.size) c' U) (b1 : Below W.heap.size W w1) (h2 : RT w2 (fun k => w1.heap.size ≤ k ∧ k < w2.heap.size) d' U) (b2 : Below w1.heap.size w1 w2)
    {P' : Nat → Prop} (hP : ∀ k, P' k → k < W.heap.size) : B2 TA P' B w w2 c' U d' U := by
  have z1 := b1.size
  have z2 := b2.size
  refine ⟨_, _, C.later h1 b2, h2, hB.trans (below_mono (bstep b1 b2) hB'), by omega, fun k hk => by omega, fun k hk => by omega, fun k hk hg => by omega, hB4, fun k hk => ?_⟩
  have := hP k hk
  exact ⟨fun h => by omega, fun h => by omega, by omega⟩
end
end Go.Proofs.YtlkkmcibjhoneaaGreatDoor

namespace Go.Proofs.YtlkkmcibjhoneaaGreatDoor
open Go.RowKit

/-- two trees apart from each other and from P -/
def TP (TA : World → (Nat → Prop) → Nat → TT → Prop) (P : Nat → Prop) (B : Nat) (w w1 : World) (c : Nat) (T : TT) (d : Nat) (U : TT) : Prop :=
  ∃ F G, TA w1 F c T ∧ TA w1 G d U ∧ Below B w w1 ∧ B ≤ w1.heap.size ∧ (∀ k, F k → B ≤ k) ∧ (∀ k, G k → B ≤ k) ∧ (∀ k, F k → ¬ G k) ∧ (∀ k, P k → ¬ F k) ∧ (∀ k, P k → ¬ G k) ∧ ∀ k, P k → k < w1.heap.size
section
variable {TA : World → (Nat → Prop) → Nat → TT → Prop} {P : Nat → Prop} {B c d : Nat} {w w1 w2 : World} {T U R : TT}
theorem TP.later (C : TcP TA) (h : TP TA P B w w1 c T d U) (hb : Below w1.heap.size w1 w2) : TP TA P B w w2 c T d U := by
  obtain ⟨F, G, h1, h2, h3, h4, h5, h6, h7, h8, h9, h10⟩ := h
  exact ⟨F, G, C.later h1 hb, C.later h2 hb, h3.trans (below_mono hb h4), Nat.le_trans h4 hb.size, h5, h6, h7, h8, h9, fun k hk => Nat.lt_of_lt_of_le (h10 k hk) hb.size⟩
end
theorem len_bsm (l : List Opp) : l.length ≤ bsm l := by
  unfold bsm
  induction l with
  | nil => simp
  | cons o r ih => simp at ih ⊢; omega
end Go.Proofs.YtlkkmcibjhoneaaGreatDoor
