/-
  The tree that is changed: a program that does nothing falls here.
-/
import Derived.Test.YtlkkmcibjhoneaaGreatDoorJTr
import Derived.Test.YtlkkmcibjhoneaaGreatDoorJMark
namespace Go.Proofs.YtlkkmcibjhoneaaGreatDoor
open Go.RowKit

instance fl_dec : DecidableEq Fl := fun a b => decidable_of_iff _ (feq_iff a b)
def xa : Fl := ⟨[97, 47, 98], [], 1, 0⟩
def xc : Fl := ⟨[99, 47, 100], [], 0, 0⟩
def al0 : TT := newT [xa]
def al1 : TT := (al0.mk' [99]).1
def al2 : TT := (al1.wr xc).1
def al3 : TT := (al2.dl [97, 47, 98]).1
def al4 : TT := (al3.rm [97]).1
def al5 : TT := (al4.ap [1]).1
theorem al_ok : validE [xa] = 0 ∧ (al0.mk' [99]).2 = 0 ∧ (al1.wr xc).2 = 0 ∧ (al2.dl [97, 47, 98]).2 = 0 ∧ (al3.rm [97]).2 = 0 ∧ (al4.ap [1]).2 = 0 ∧ (al5.rm [99]).2 = 16 := by decide +kernel
theorem al_is : al5.fs = [xc] ∧ al5.ds = [[99]] ∧ al5.jl = [1] ∧ al5.st = 5 ∧ (al5.cr 0).st = 0 := by decide +kernel
set_option maxRecDepth 100000 in
theorem num_any (n : Int) (w : World) : Calls Tryz.prog 9 #[.int .i64 n] w fun e w' => e = .returned (.int .i64 n) ∧ w' = w := by
  go_enter Tryz.func9, Tryz.ntmps9
  go_wp2_with fail
  go_ret
  exact ⟨rfl, rfl⟩
theorem ups_len : ∀ (n : Nat) (p : List UInt8), (ups n p).length ≤ n
  | 0, _ => by simp [ups]
  | n + 1, p => by
    have := ups_len n (dir p)
    unfold ups
    split
    · simp
    · simp; omega
theorem flat_len : ∀ l : List Fl, (∀ f ∈ l, f.path.length ≤ 120) → (l.flatMap (fun f => upl (dir f.path))).length ≤ 120 * l.length
  | [], _ => by simp
  | f :: r, h => by
    have ih := flat_len r (fun g hg => h g (by simp [hg]))
    have h1 := ups_len (dir f.path).length (dir f.path)
    have h2 := dir_len f.path
    have h3 := h f (by simp)
    rw [List.flatMap_cons, List.length_append, List.length_cons]
    unfold upl at ih ⊢
    omega
theorem TSz.new {l : List Fl} (hv : validE l = 0) (hm : FSm l) : TSz 70000 (newT l) := by
  obtain ⟨h1, h2, h3⟩ := stand_iff.1 ((validE_zero l).1 hv)
  have h4 := flat_len l (fun f hf => (okP_len (fileE_path (h2 f hf)).2).1)
  have h5 := norm_len (l.flatMap (fun f => upl (dir f.path)))
  exact ⟨by show l.length ≤ _; omega, by show (nds l).length ≤ _; unfold nds; omega, Nat.zero_le _, Nat.zero_le _, Nat.zero_le _, hm.each, by show (0 : Int) ≤ _; decide⟩
theorem fs_lit (w : World) (p t : List UInt8) (b z : Int) : FS (w.alloc (.cells #[.string (bs p), .string (bs t), .int .i64 b, .int .i64 z] 31)) (.slice (some ⟨w.heap.size, 0, none⟩) 1 1) [⟨p, t, b, z⟩] := by
  refine .inr ⟨w.heap.size, 0, 1, rfl, Nat.le_refl _, by simp, fun i u hu => ?_⟩
  have hb := heap_alloc_new w (.cells #[.string (bs p), .string (bs t), .int .i64 b, .int .i64 z] 31)
  revert hb
  generalize w.alloc _ = W
  intro hb
  match i, hu with
  | 0, hu => simp [fc] at hu; subst hu; simp [World.cell?, hb]
  | 1, hu => simp [fc] at hu; subst hu; simp [World.cell?, hb]
  | 2, hu => simp [fc] at hu; subst hu; simp [World.cell?, hb]
  | 3, hu => simp [fc] at hu; subst hu; simp [World.cell?, hb]
  | i + 4, hu => simp [fc] at hu
theorem bs_lit (w : World) (x : UInt8) : BS (w.alloc (.cells #[.int .u8 x.toNat] 5)) (.slice (some ⟨w.heap.size, 0, none⟩) 1 1) [x] := by
  refine .inr ⟨w.heap.size, 0, 1, rfl, Nat.le_refl _, by simp, fun i u hu => ?_⟩
  have hb := heap_alloc_new w (.cells #[.int .u8 x.toNat] 5)
  revert hb
  generalize w.alloc _ = W
  intro hb
  match i, hu with
  | 0, hu => simp [bc] at hu; subst hu; simp [World.cell?, hb]
  | i + 1, hu => simp [bc] at hu
theorem ss_lit1 (w : World) (x : List UInt8) : SS (w.alloc (.cells #[.string (bs x)] 9)) (.slice (some ⟨w.heap.size, 0, none⟩) 1 1) [x] := by
  refine .inr ⟨w.heap.size, 0, 1, rfl, Nat.le_refl _, by simp, fun i u hu => ?_⟩
  have hb := heap_alloc_new w (.cells #[.string (bs x)] 9)
  revert hb
  generalize w.alloc _ = W
  intro hb
  match i, hu with
  | 0, hu => simp [sc] at hu; subst hu; simp [World.cell?, hb]
  | i + 1, hu => simp [sc] at hu
/-- a tree of blocks above B, what was below stays -/
def Tb (TA : World → (Nat → Prop) → Nat → TT → Prop) (B : Nat) (w w1 : World) (c : Nat) (T : TT) : Prop := ∃ F, TA w1 F c T ∧ Below B w w1 ∧ B ≤ w1.heap.size ∧ ∀ k, F k → B ≤ k
theorem Tb.ev {TA : World → (Nat → Prop) → Nat → TT → Prop} {B c : Nat} {w w1 : World} {T : TT} (C : TcP TA) (h : Tb TA B w w1 c T) : Ev w1 := by
  obtain ⟨F, h1, _⟩ := h
  exact C.ev h1
theorem Tb.step {TA : World → (Nat → Prop) → Nat → TT → Prop} {B c : Nat} {w w1 w2 : World} {F : Nat → Prop} {R : TT} (hF : ∀ k, F k → B ≤ k) (hb : Below B w w1) (hz : B ≤ w1.heap.size) (hc : TA w2 (nwF F w1 w2) c R) (ho : OnlyP F w1 w2) : Tb TA B w w2 c R := by
  refine ⟨_, hc, hb.trans (ho.below hz hF), Nat.le_trans hz ho.size, ?_⟩
  rintro k (hk | hk)
  · exact hF k hk
  · exact Nat.le_trans hz hk.1
theorem Tb.later {TA : World → (Nat → Prop) → Nat → TT → Prop} (C : TcP TA) {B c : Nat} {w w1 w2 : World} {T : TT} (h : Tb TA B w w1 c T) (hb : Below w1.heap.size w1 w2) : Tb TA B w w2 c T := by
  obtain ⟨F, h1, h2, h3, h4⟩ := h
  exact ⟨F, C.later h1 hb, h2.trans (below_mono hb h3), Nat.le_trans h3 hb.size, h4⟩
/-- two trees apart -/
def T2 (TA : World → (Nat → Prop) → Nat → TT → Prop) (B : Nat) (w w1 : World) (c : Nat) (T : TT) (d : Nat) (U : TT) : Prop := ∃ F G, TA w1 F c T ∧ TA w1 G d U ∧ Below B w w1 ∧ B ≤ w1.heap.size ∧ (∀ k, F k → B ≤ k) ∧ (∀ k, G k → B ≤ k) ∧ ∀ k, F k → ¬ G k
section
variable {TA : World → (Nat → Prop) → Nat → TT → Prop} {B c d : Nat} {w w1 w2 : World} {T U R : TT}
theorem T2.fst (h : T2 TA B w w1 c T d U) : Tb TA B w w1 c T := by
  obtain ⟨F, G, h1, h2, h3, h4, h5, h6, h7⟩ := h
  exact ⟨F, h1, h3, h4, h5⟩
theorem T2.swap (h : T2 TA B w w1 c T d U) : T2 TA B w w1 d U c T := by
  obtain ⟨F, G, h1, h2, h3, h4, h5, h6, h7⟩ := h
  exact ⟨G, F, h2, h1, h3, h4, h6, h5, fun k hk hf => h7 k hf hk⟩
theorem T2.ev (C : TcP TA) (h : T2 TA B w w1 c T d U) : Ev w1 := by
  obtain ⟨F, G, h1, _⟩ := h
  exact C.ev h1
theorem T2.snd (h : T2 TA B w w1 c T d U) : Tb TA B w w1 d U := h.swap.fst
theorem T2.later (C : TcP TA) (h : T2 TA B w w1 c T d U) (hb : Below w1.heap.size w1 w2) : T2 TA B w w2 c T d U := by
  obtain ⟨F, G, h1, h2, h3, h4, h5, h6, h7⟩ := h
  exact ⟨F, G, C.later h1 hb, C.later h2 hb, h3.trans (below_mono hb h4), Nat.le_trans h4 hb.size, h5, h6, h7⟩
/-- the first is changed -/
theorem T2.step (C : TcP TA) (h : T2 TA B w w1 c T d U) {Q : Ending → World → Prop} {f : FuncId} {args : Array Value}
    (hs : ∀ F, TA w1 F c T → (∀ k, F k → B ≤ k) → Calls Tryz.prog f args w1 fun e w' => Q e w' ∧ TA w' (nwF F w1 w') c R ∧ OnlyP F w1 w') :
    Calls Tryz.prog f args w1 fun e w' => Q e w' ∧ T2 TA B w w' c R d U := by
  obtain ⟨F, G, h1, h2, h3, h4, h5, h6, h7⟩ := h
  refine (hs F h1 h5).mono fun e w2 ⟨hq, hc, ho⟩ => ⟨hq, _, G, hc, C.only h2 ho (fun k hk hf => h7 k hf hk) (C.ev hc), h3.trans (ho.below h4 h5), Nat.le_trans h4 ho.size, ?_, h6, ?_⟩
  · rintro k (hk | hk)
    · exact h5 k hk
    · exact Nat.le_trans h4 hk.1
  · rintro k (hk | hk) hg
    · exact h7 k hk hg
    · have := C.lt h2 k hg
      have := hk.1
      omega
/-- a crash leaves a tree beside it -/
theorem Tb.crash (C : TcP TA) (h : Tb TA B w w1 c T) (hz : TSz 4000000 T) (n : Int) (h0 : -9223372036854775808 ≤ n) (h1 : n ≤ 9223372036854775807) :
    Calls Tryz.prog 13 #[.pointer (some ⟨c, 0, none⟩), .int .i64 n] w1 fun e w' => ∃ d, e = .returned (.pointer (some ⟨d, 0, none⟩)) ∧ T2 TA B w w' c T d (T.cr n) ∧ Below w1.heap.size w1 w' := by
  obtain ⟨F, h2, h3, h4, h5⟩ := h
  refine (C.cra h2 hz n h0 h1).mono ?_
  rintro e w2 ⟨d, rfl, hc, hb⟩
  refine ⟨d, rfl, ⟨F, _, C.later h2 hb, hc, h3.trans (below_mono hb h4), Nat.le_trans h4 hb.size, h5, fun k hk => Nat.le_trans h4 hk.1, fun k hk hg => ?_⟩, hb⟩
  have := C.lt h2 k hk
  have := hg.1
  omega
theorem Tb.steps (C : TcP TA) (h : Tb TA B w w1 c T) (hz : TSz 4000000 T) : Calls Tryz.prog 12 #[.pointer (some ⟨c, 0, none⟩)] w1 fun e w' => e = .returned (.int .i64 T.st) ∧ Below w1.heap.size w1 w' := by
  obtain ⟨F, h2, _⟩ := h
  exact C.sts h2 hz
theorem Tb.dirs (C : TcP TA) (h : Tb TA B w w1 c T) (hz : TSz 4000000 T) : Calls Tryz.prog 17 #[.pointer (some ⟨c, 0, none⟩)] w1 fun e w' => ∃ v, e = .returned v ∧ Oww w1.heap.size w' v T.ds ∧ Below w1.heap.size w1 w' := by
  obtain ⟨F, h2, _⟩ := h
  exact C.drs h2 hz
theorem Tb.jou (C : TcP TA) (h : Tb TA B w w1 c T) (hz : TSz 4000000 T) : Calls Tryz.prog 18 #[.pointer (some ⟨c, 0, none⟩)] w1 fun e w' => ∃ v, e = .returned v ∧ OwnB w1.heap.size w' v T.jl ∧ Below w1.heap.size w1 w' := by
  obtain ⟨F, h2, _⟩ := h
  exact C.jou h2 hz
end
theorem TSz.cr {n : Nat} {T : TT} (h : TSz n T) (k : Int) : TSz (n + n) (T.cr k) := ⟨by have := h.nf; show T.fs.length ≤ _; omega, by have := h.nd; show T.ds.length ≤ _; omega, by
  have h1 := h.nj
  have h2 := h.nt
  show (T.jl ++ T.tn.take _).length ≤ _
  rw [List.length_append, List.length_take]
  omega, Nat.zero_le _, Nat.zero_le _, h.ef, by show (0 : Int) ≤ _; decide⟩
set_option maxRecDepth 100000 in
theorem al_sz : TSz 4000000 al0 ∧ TSz 4000000 al1 ∧ TSz 4000000 al2 ∧ TSz 4000000 al3 ∧ TSz 4000000 al4 ∧ TSz 4000000 al5 := by
  have xm : Fok xa := ⟨by decide, by decide, by decide, by decide, by decide, by decide⟩
  have xm' : Fok xc := ⟨by decide, by decide, by decide, by decide, by decide, by decide⟩
  have h0 : TSz 70000 al0 := TSz.new al_ok.1 ⟨by decide, fun f hf => by simp at hf; subst hf; exact xm⟩
  have hk : ∀ (kd : Int) (p b : List UInt8), kd = 1 ∨ kd = 2 ∨ kd = 3 ∨ kd = 4 ∨ kd = 5 → p.length ≤ 4000000 → b.length ≤ 4000000 → Ook ⟨kd, p, xc, b, 0⟩ := fun kd p b h hp hb => ⟨hp, xm', hb, by show _ ≤ (0 : Int); decide, by show (0 : Int) ≤ _; decide, by show _ ≤ kd; omega, by show kd ≤ _; omega⟩
  have h1 : TSz 70001 al1 := h0.op (hk 1 [99] [] (by omega) (by decide) (by decide))
  have h2 : TSz 70002 al2 := h1.op (hk 2 [] [] (by omega) (by decide) (by decide))
  have h3 : TSz 70003 al3 := h2.op (hk 3 [97, 47, 98] [] (by omega) (by decide) (by decide))
  have h4 : TSz 70004 al4 := h3.op (hk 4 [97] [] (by omega) (by decide) (by decide))
  have h5 : TSz 70006 al5 := h4.op (hk 5 [] [1] (by omega) (by decide) (by decide))
  exact ⟨h0.mono (by decide), h1.mono (by decide), h2.mono (by decide), h3.mono (by decide), h4.mono (by decide), h5.mono (by decide)⟩
theorem al_sz' : (al5.cr 0).st = 0 ∧ TSz 4000000 (al5.cr 0) := ⟨al_is.2.2.2.2, by decide +kernel, by decide +kernel, by decide +kernel, by decide +kernel, by decide +kernel, al_sz.2.2.2.2.2.ef, by decide +kernel⟩
set_option maxHeartbeats 4000000 in
set_option maxRecDepth 100000 in
theorem alive_any {TA : World → (Nat → Prop) → Nat → TT → Prop} (C : TcP TA) (w : World) (E : Ev w) : Calls Tryz.prog 8 #[] w fun e w' => e = .returned (.bool true) ∧ Below w.heap.size w w' := by
  have s1 : (⟨#[97, 47, 98]⟩ : ByteArray) = bs [97, 47, 98] := rfl
  have s2 : (⟨#[]⟩ : ByteArray) = bs [] := rfl
  have s3 : (⟨#[99]⟩ : ByteArray) = bs [99] := rfl
  have s4 : (⟨#[99, 47, 100]⟩ : ByteArray) = bs [99, 47, 100] := rfl
  have s5 : (⟨#[97]⟩ : ByteArray) = bs [97] := rfl
  have HEV : Hid (Ev w) := E
  clear E
  go_enter Tryz.func8, Tryz.ntmps8
  go_wp2_with fail
  refine (C.new (fs_lit w [97, 47, 98] [] 1 0) ⟨by decide, fun f hf => by simp at hf; subst hf; exact ⟨by decide, by decide, by decide, by decide, by decide, by decide⟩⟩ (HEV.out.later (balloc w _))).mono ?_
  rintro e w0 ⟨hb0, ⟨_, t, rfl, hc0⟩ | ⟨hno, _⟩⟩
  case inr => exact absurd al_ok.1 hno
  have hz0 : w.heap.size ≤ w0.heap.size := by have := hb0.size; simp at this; omega
  have H0 : Hid (Tb TA w.heap.size w w0 t al0) := ⟨_, hc0, (balloc w _).trans (below_mono hb0 (by simp)), hz0, fun k hk => by have := hk.1; simp at this; omega⟩
  clear hc0 hb0 hz0
  go_wp2_with (go_at_call 9; refine (num_any _ _).mono ?_; rintro e wq ⟨rfl, rfl⟩)
  obtain ⟨F0, hc0, hb0, hz0, hF0⟩ := H0.out
  refine (C.mkd hc0 al_sz.1 [99] (by decide)).mono ?_
  rintro e w1 ⟨rfl, hc, ho⟩
  rw [show (al0.mk' [99]).2 = 0 from al_ok.2.1]
  have H1 : Hid (Tb TA w.heap.size w w1 t al1) := Tb.step hF0 hb0 hz0 hc ho
  clear hc ho hc0 hb0 hz0 hF0 H0
  go_wp2_with (go_at_call 9; refine (num_any _ _).mono ?_; rintro e wq ⟨rfl, rfl⟩)
  obtain ⟨F1, hc1, hb1, hz1, hF1⟩ := H1.out
  refine (C.wri hc1 al_sz.2.1 xc ⟨by decide, by decide, by decide, by decide, by decide, by decide⟩).mono ?_
  rintro e w2 ⟨rfl, hc, ho⟩
  rw [show (al1.wr xc).2 = 0 from al_ok.2.2.1]
  have H2 : Hid (Tb TA w.heap.size w w2 t al2) := Tb.step hF1 hb1 hz1 hc ho
  clear hc ho hc1 hb1 hz1 hF1 H1
  go_wp2_with (go_at_call 9; refine (num_any _ _).mono ?_; rintro e wq ⟨rfl, rfl⟩)
  obtain ⟨F2, hc2, hb2, hz2, hF2⟩ := H2.out
  refine (C.del hc2 al_sz.2.2.1 [97, 47, 98] (by decide)).mono ?_
  rintro e w3 ⟨rfl, hc, ho⟩
  rw [show (al2.dl [97, 47, 98]).2 = 0 from al_ok.2.2.2.1]
  have H3 : Hid (Tb TA w.heap.size w w3 t al3) := Tb.step hF2 hb2 hz2 hc ho
  clear hc ho hc2 hb2 hz2 hF2 H2
  go_wp2_with (go_at_call 9; refine (num_any _ _).mono ?_; rintro e wq ⟨rfl, rfl⟩)
  obtain ⟨F3, hc3, hb3, hz3, hF3⟩ := H3.out
  refine (C.rmd hc3 al_sz.2.2.2.1 [97] (by decide)).mono ?_
  rintro e w4 ⟨rfl, hc, ho⟩
  rw [show (al3.rm [97]).2 = 0 from al_ok.2.2.2.2.1]
  have H4 : Hid (Tb TA w.heap.size w w4 t al4) := Tb.step hF3 hb3 hz3 hc ho
  clear hc ho hc3 hb3 hz3 hF3 H3
  go_wp2_with (go_at_call 9; refine (num_any _ _).mono ?_; rintro e wq ⟨rfl, rfl⟩)
  obtain ⟨F4, hc4, hb4, hz4, hF4⟩ := H4.out
  refine (C.app (C.later hc4 (balloc _ _)) al_sz.2.2.2.2.1 (bs_lit _ 1) (fun _ k hk hf => by have := C.lt hc4 k hf; simp [Value.ownBlock] at hk; omega) (by decide)).mono ?_
  rintro e w5 ⟨rfl, hc, ho⟩
  rw [show (al4.ap [1]).2 = 0 from al_ok.2.2.2.2.2.1]
  have H5 : Hid (Tb TA w.heap.size w w5 t al5) := Tb.step hF4 (hb4.trans (below_mono (balloc _ _) hz4)) (by simp; omega) hc ho
  clear hc ho hc4 hb4 hz4 hF4 H4
  go_wp2_with (go_at_call 9; refine (num_any _ _).mono ?_; rintro e wq ⟨rfl, rfl⟩)
  obtain ⟨F5, hc5, hb5, hz5, hF5⟩ := H5.out
  refine (C.fil hc5 al_sz.2.2.2.2.2).mono ?_
  rintro e w6 ⟨v6, rfl, ho6, hb6⟩
  rw [al_is.1] at ho6
  have H6 : Hid (Tb TA w.heap.size w w6 t al5 ∧ FS w6 v6 [xc]) := ⟨H5.out.later C hb6, ho6.fs⟩
  clear hc5 hb5 hz5 hF5 H5 ho6 hb6
  go_wp2_with fail
  obtain ⟨F6, hc6, hb6, hz6, hF6⟩ := H6.out.1
  refine (Tb.crash C H6.out.1 al_sz.2.2.2.2.2 0 (by decide) (by decide)).mono ?_
  rintro e w7 ⟨c7, rfl, hc7, hb7⟩
  have H7 : Hid (T2 TA w.heap.size w w7 t al5 c7 (al5.cr 0) ∧ FS w7 v6 [xc]) := ⟨hc7, H6.out.2.later hb7⟩
  clear hc6 hb6 hz6 hF6 H6 hc7 hb7
  have hG := H7.out.2
  obtain ⟨a6, c6, rfl, hpl⟩ := hG.form
  obtain ⟨g6, o6, rfl, hg6, p0, _⟩ := hpl 0 (by simp)
  simp only [Nat.zero_mul, Nat.add_zero, List.getElem_cons_zero] at p0
  rw [show xc.path = [99, 47, 100] from rfl] at p0
  clear hpl hG
  have q1 : ((bs [99, 47, 100]).toList == (bs [99, 47, 100]).toList) = true := by simp
  go_wp2_with fail
  refine (Tb.dirs C H7.out.1.fst al_sz.2.2.2.2.2).mono ?_
  rintro e w8 ⟨v8, rfl, ho8, hb8⟩
  rw [al_is.2.1] at ho8
  have H8 : Hid (T2 TA w.heap.size w w8 t al5 c7 (al5.cr 0) ∧ SS w8 v8 [[99]]) := ⟨H7.out.1.later C hb8, ho8.ss⟩
  clear H7 ho8 hb8 p0
  go_wp2_with fail
  refine (same_any (H8.out.2.later (balloc _ _)) (ss_lit1 _ [99]) (by decide)).mono ?_
  rintro e w9 ⟨rfl, n9, hw9⟩
  have hb9 : Below w8.heap.size w8 w9 := by rw [hw9]; exact bdrewN (balloc w8 _)
  have H9 : Hid (T2 TA w.heap.size w w9 t al5 c7 (al5.cr 0)) := H8.out.1.later C hb9
  clear hb9 hw9 H8
  go_wp2_with fail
  refine (Tb.jou C H9.out.fst al_sz.2.2.2.2.2).mono ?_
  rintro e wa ⟨va, rfl, hoa, hba⟩
  rw [al_is.2.2.1] at hoa
  have HA : Hid (T2 TA w.heap.size w wa t al5 c7 (al5.cr 0)) := H9.out.later C hba
  have hcv : (convert 32 9 va).run Tryz.prog wa = .ok (.string (bs [1])) wa := conv_bs hoa.bs
  have q2 : ((bs [1]).toList == (bs [1]).toList) = true := by simp
  have s6 : (⟨#[1]⟩ : ByteArray) = bs [1] := rfl
  clear H9 hoa hba
  go_wp2_with fail
  refine (Tb.steps C HA.out.fst al_sz.2.2.2.2.2).mono ?_
  rintro e wb ⟨rfl, hbb⟩
  rw [al_is.2.2.2.1]
  have HB : Hid (T2 TA w.heap.size w wb t al5 c7 (al5.cr 0)) := HA.out.later C hbb
  clear HA hbb hcv
  go_wp2_with fail
  refine (T2.step C HB.out (Q := fun e _ => e = .returned (.int .i64 (al5.rm [99]).2)) (fun F h _ => C.rmd h al_sz.2.2.2.2.2 [99] (by decide))).mono ?_
  rintro e wc ⟨rfl, hcc⟩
  rw [show (al5.rm [99]).2 = 16 from al_ok.2.2.2.2.2.2]
  have HC : Hid (T2 TA w.heap.size w wc t (al5.rm [99]).1 c7 (al5.cr 0)) := hcc
  clear HB hcc
  go_wp2_with (go_at_call 9; refine (num_any _ _).mono ?_; rintro e wq ⟨rfl, rfl⟩)
  refine (Tb.steps C HC.out.snd al_sz'.2).mono ?_
  rintro e wd ⟨rfl, hbd⟩
  rw [al_is.2.2.2.2]
  obtain ⟨_, _, hbl, hbz, _⟩ := HC.out.snd.later C hbd
  have HD : Hid (Below w.heap.size w wd) := hbl
  clear HC hbd hbl hbz
  go_wp2_with fail
  go_ret
  exact ⟨rfl, HD.out⟩
end Go.Proofs.YtlkkmcibjhoneaaGreatDoor
