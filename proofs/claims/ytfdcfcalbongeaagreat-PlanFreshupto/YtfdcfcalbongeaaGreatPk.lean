/-
  What the laws ask of the program's plan; the law's first example.
-/
import Derived.Test.YtfdcfcalbongeaaGreatPp
namespace Go.Proofs.YtfdcfcalbongeaaGreat
open Go.RowKit
attribute [local go_sem] Oper.semAt_some

/-- texts of the call's own, from some place of their block on -/
def OwT (base : Nat) (w : World) (v : Value) (l : List (List UInt8)) : Prop := OwR 9 1 base w v l.length (sc l)
theorem OwT.ss {base : Nat} {w : World} {v : Value} {l : List (List UInt8)} (h : OwT base w v l) : SS w v l := by
  rcases h.2 with ⟨rfl, h0⟩ | ⟨g, off, cap, cur, rfl, h2, h3, h4, h5, h6, h7⟩
  · exact .inl ⟨⟨_, _, rfl⟩, List.eq_nil_of_length_eq_zero h0⟩
  · exact .inr ⟨g, off, cap, rfl, h4, (Array.getElem?_eq_some_iff.1 h3).1, fun i u hu => by rw [cell_blkR h3]; exact h7 i u hu⟩
/-- files that a machine has -/
structure Fsz (l : List Fl) : Prop where
  sm : FSm l
  len : l.length ≤ 1500000
  pl : ∀ f ∈ l, f.path.length ≤ 1500000
/-- all that the laws ask of Make and Dirty -/
structure PcP : Prop where
  mak : ∀ {w vo vn old now}, FS w vo old → FS w vn now → Fsz old → Fsz now → Calls Tryz.prog 6 #[vo, vn] w fun e w' => ∃ v, e = .returned (.tuple #[v, .int .i64 (mkE old now)]) ∧ OwS w.heap.size w' v (if mkE old now = 0 then mkS old now else []) ∧ Below w.heap.size w w'
  dty : ∀ {w vf vo vn files old now}, FS w vf files → FS w vo old → FS w vn now → Fsz files → Fsz old → Fsz now → Calls Tryz.prog 7 #[vf, vo, vn] w fun e w' => ∃ v, e = .returned (.tuple #[v, .int .i64 (mkE old now)]) ∧ OwT w.heap.size w' v (if mkE old now = 0 then drt files old now else []) ∧ Below w.heap.size w w'
def kOld : List Fl := [⟨[97, 47, 98, 47, 121], [], 0, 0⟩, ⟨[97, 47, 120], [], 1, 0⟩, ⟨[99], [], 0, 0⟩]
def kNow : List Fl := [⟨[97, 47, 120], [], 2, 0⟩, ⟨[99, 47, 100], [], 0, 0⟩]
def kFil : List Fl := [⟨[97, 47, 98, 47, 121], [], 0, 0⟩, ⟨[97, 47, 120], [], 9, 0⟩, ⟨[99], [], 0, 0⟩]
theorem k_e : mkE kOld kNow = 0 := by decide +kernel
theorem k_m : mkS kOld kNow = [sDel [99], sDel [97, 47, 98, 47, 121], sRm [97, 47, 98], sMk [99], sWr ⟨[97, 47, 120], [], 2, 0⟩, sWr ⟨[99, 47, 100], [], 0, 0⟩] := (sleq_iff _ _).1 (by decide +kernel)
def kS : List Sp := [sDel [99], sDel [97, 47, 98, 47, 121], sRm [97, 47, 98], sMk [99], sWr ⟨[97, 47, 120], [], 2, 0⟩, sWr ⟨[99, 47, 100], [], 0, 0⟩]
theorem k_d : drt kFil kOld kNow = [[97, 47, 120]] := by decide +kernel
theorem k_fok (f : Fl) (h1 : f.path.length ≤ 100) (h2 : f.text.length ≤ 100) (h3 : 0 ≤ f.blob) (h4 : f.blob ≤ 100) (h5 : 0 ≤ f.size) (h6 : f.size ≤ 100) : Fok f := ⟨by omega, by omega, by omega, by omega, by omega, by omega⟩
theorem k_fsz (l : List Fl) (h : l = kOld ∨ l = kNow ∨ l = kFil) : Fsz l := by
  have hf : ∀ f ∈ l, Fok f := fun f hf => by
    rcases h with rfl | rfl | rfl
    · simp only [kOld, List.mem_cons, List.not_mem_nil, or_false] at hf
      rcases hf with rfl | rfl | rfl <;> exact k_fok _ (by decide) (by decide) (by decide) (by decide) (by decide) (by decide)
    · simp only [kNow, List.mem_cons, List.not_mem_nil, or_false] at hf
      rcases hf with rfl | rfl <;> exact k_fok _ (by decide) (by decide) (by decide) (by decide) (by decide) (by decide)
    · simp only [kFil, List.mem_cons, List.not_mem_nil, or_false] at hf
      rcases hf with rfl | rfl | rfl <;> exact k_fok _ (by decide) (by decide) (by decide) (by decide) (by decide) (by decide)
  refine ⟨⟨?_, hf⟩, ?_, ?_⟩
  · rcases h with rfl | rfl | rfl <;> decide
  · rcases h with rfl | rfl | rfl <;> decide
  · rcases h with rfl | rfl | rfl <;> decide
theorem fs_lit (w : World) (l : List Fl) : FS (w.alloc (.cells (fc l).toArray 30)) (.slice (some ⟨w.heap.size, 0, none⟩) l.length l.length) l := by
  refine .inr ⟨w.heap.size, 0, l.length, rfl, Nat.le_refl _, by simp, fun i u hu => ?_⟩
  rw [Nat.zero_add, cell_blkR (heap_alloc_new w _)]
  simpa using hu
set_option maxRecDepth 100000 in
set_option maxHeartbeats 16000000 in
theorem known_any (C : PcP) (w : World) : Calls Tryz.prog 8 #[] w fun e w' => e = .returned (.bool true) ∧ Below w.heap.size w w' := by
  go_enter Tryz.func8, Tryz.ntmps8
  obtain ⟨w1, hw1⟩ : ∃ x, w.alloc (.cells (fc kOld).toArray 30) = x := ⟨_, rfl⟩
  obtain ⟨w2, hw2⟩ : ∃ x, w1.alloc (.cells (fc kNow).toArray 30) = x := ⟨_, rfl⟩
  have f1 : FS w1 (.slice (some ⟨w.heap.size, 0, none⟩) 3 3) kOld := by rw [← hw1]; exact fs_lit w kOld
  have f2 : FS w2 (.slice (some ⟨w1.heap.size, 0, none⟩) 2 2) kNow := by rw [← hw2]; exact fs_lit w1 kNow
  have b1 : Below w.heap.size w w1 := hw1 ▸ balloc _ _
  have b2 : Below w1.heap.size w1 w2 := hw2 ▸ balloc _ _
  have hz1 : w1.heap.size = w.heap.size + 1 := by rw [← hw1]; simp
  rw [hz1] at f2
  have HF : Hid (FS w2 (.slice (some ⟨w.heap.size, 0, none⟩) 3 3) kOld ∧ FS w2 (.slice (some ⟨w.heap.size + 1, 0, none⟩) 2 2) kNow ∧ Below w.heap.size w w2) := ⟨f1.later b2, f2, bstep b1 b2⟩
  have HM : Hid (Calls Tryz.prog 6 #[.slice (some ⟨w.heap.size, 0, none⟩) 3 3, .slice (some ⟨w.heap.size + 1, 0, none⟩) 2 2] w2 fun e w' => ∃ v, e = .returned (.tuple #[v, .int .i64 (mkE kOld kNow)]) ∧ OwS w2.heap.size w' v (if mkE kOld kNow = 0 then mkS kOld kNow else []) ∧ Below w2.heap.size w2 w') := C.mak HF.out.1 HF.out.2.1 (k_fsz _ (.inl rfl)) (k_fsz _ (.inr (.inl rfl)))
  have HW : Hid ((w.alloc (.cells (fc kOld).toArray 30)).alloc (.cells (fc kNow).toArray 30) = w2) := by rw [hw1]; exact hw2
  clear f1 f2 b1 b2 hz1 hw1 hw2
  rw [k_e, if_pos rfl, k_m] at HM
  rw [← HW.out] at HM
  go_wp2_with fail
  refine HM.out.mono ?_
  rw [HW.out]
  rintro e w3 ⟨v, rfl, hs, hb⟩
  obtain ⟨sa, scp, hv⟩ := hs.len
  subst hv
  have H3 : Hid (PS w3 (.slice sa 6 scp) kS ∧ FS w3 (.slice (some ⟨w.heap.size, 0, none⟩) 3 3) kOld ∧ FS w3 (.slice (some ⟨w.heap.size + 1, 0, none⟩) 2 2) kNow ∧ Below w.heap.size w w3) := ⟨hs.ps, HF.out.1.later hb, HF.out.2.1.later hb, bstep HF.out.2.2 hb⟩
  clear hs hb HM HW HF
  obtain ⟨w4, hw4⟩ : ∃ x, w3.alloc (.cells (fc kFil).toArray 30) = x := ⟨_, rfl⟩
  have b4 : Below w3.heap.size w3 w4 := hw4 ▸ balloc _ _
  have f4 : FS w4 (.slice (some ⟨w3.heap.size, 0, none⟩) 3 3) kFil := by rw [← hw4]; exact fs_lit w3 kFil
  have HD : Hid (Calls Tryz.prog 7 #[.slice (some ⟨w3.heap.size, 0, none⟩) 3 3, .slice (some ⟨w.heap.size, 0, none⟩) 3 3, .slice (some ⟨w.heap.size + 1, 0, none⟩) 2 2] w4 fun e w' => ∃ v, e = .returned (.tuple #[v, .int .i64 (mkE kOld kNow)]) ∧ OwT w4.heap.size w' v (if mkE kOld kNow = 0 then drt kFil kOld kNow else []) ∧ Below w4.heap.size w4 w') := C.dty f4 (H3.out.2.1.later b4) (H3.out.2.2.1.later b4) (k_fsz _ (.inr (.inr rfl))) (k_fsz _ (.inl rfl)) (k_fsz _ (.inr (.inl rfl)))
  rw [k_e, if_pos rfl, k_d] at HD
  have HW : Hid (w3.alloc (.cells (fc kFil).toArray 30) = w4) := hw4
  have B4 : Hid (Below w3.heap.size w3 w4) := b4
  clear f4 b4 hw4
  rw [← HW.out] at HD
  go_wp2_with fail
  refine HD.out.mono ?_
  rw [HW.out]
  rintro e w5 ⟨v, rfl, hs, hb⟩
  obtain ⟨da, dcp, hv⟩ := hs.len
  subst hv
  have bb := bstep B4.out hb
  have H5 : Hid (PS w5 (.slice sa 6 scp) kS ∧ SS w5 (.slice da 1 dcp) [[97, 47, 120]] ∧ FS w5 (.slice (some ⟨w.heap.size + 1, 0, none⟩) 2 2) kNow ∧ Below w.heap.size w w5) := ⟨H3.out.1.later bb, hs.ss, H3.out.2.2.1.later bb, bstep H3.out.2.2.2 bb⟩
  clear hs hb HD HW bb B4 H3
  obtain ⟨sg, so, hsa, hsl, p00, p01, p02, p03, p04, p05⟩ := PS.at (l := kS) (k := 0) (c := scp) H5.out.1 (Below.refl _ _) (by decide)
  subst hsa
  obtain ⟨sg', so', hsa, _, p20, p21, p22, p23, p24, p25⟩ := PS.at (l := kS) (k := 2) (c := scp) H5.out.1 (Below.refl _ _) (by decide)
  obtain ⟨rfl, rfl⟩ : sg = sg' ∧ so = so' := by injection hsa with hsa; injection hsa with h1 h2 _; exact ⟨h1, h2⟩
  obtain ⟨sg', so', hsa, _, p50, p51, p52, p53, p54, p55⟩ := PS.at (l := kS) (k := 5) (c := scp) H5.out.1 (Below.refl _ _) (by decide)
  obtain ⟨rfl, rfl⟩ : sg = sg' ∧ so = so' := by injection hsa with hsa; injection hsa with h1 h2 _; exact ⟨h1, h2⟩
  obtain ⟨ng, no, hna, hnl, n0, n1, n2, n3⟩ := FS.at (l := kNow) (k := 1) (c := 2) H5.out.2.2.1 (Below.refl _ _) (by decide)
  obtain ⟨rfl, rfl⟩ : w.heap.size + 1 = ng ∧ 0 = no := by injection hna with hna; injection hna with h1 h2 _; exact ⟨h1, h2⟩
  obtain ⟨_, _, hdv, hdc⟩ := H5.out.2.1.form
  obtain ⟨dg, dof, hda, hdl, d0⟩ := hdc 0 (by decide)
  obtain rfl : da = some ⟨dg, dof, none⟩ := by injection hdv with h1 _ _; rw [h1]; exact hda
  clear hdv hdc hda hna hsa
  simp only [Nat.zero_mul, Nat.add_zero, Nat.zero_add, Nat.reduceMul, Nat.add_assoc, Nat.reduceAdd, List.getElem_cons_zero, List.getElem_cons_succ, sDel, sRm, sWr, zfP, kNow, kS] at p00 p01 p02 p03 p04 p05 p20 p21 p22 p23 p24 p25 p50 p51 p52 p53 p54 p55 n0 n1 n2 n3 d0
  have p00g : ∀ Y : GW w5, Y.it.cell? ⟨sg, so, none⟩ = some (.int .i64 1) := fun Y => Y.cell (by first | exact hsl | exact hnl | exact hdl) p00
  have p01g : ∀ Y : GW w5, Y.it.cell? ⟨sg, so + 1, none⟩ = some (.string (bs [99])) := fun Y => Y.cell (by first | exact hsl | exact hnl | exact hdl) p01
  have p02g : ∀ Y : GW w5, Y.it.cell? ⟨sg, so + 2, none⟩ = some (.string (bs [])) := fun Y => Y.cell (by first | exact hsl | exact hnl | exact hdl) p02
  have p03g : ∀ Y : GW w5, Y.it.cell? ⟨sg, so + 3, none⟩ = some (.string (bs [])) := fun Y => Y.cell (by first | exact hsl | exact hnl | exact hdl) p03
  have p04g : ∀ Y : GW w5, Y.it.cell? ⟨sg, so + 4, none⟩ = some (.int .i64 0) := fun Y => Y.cell (by first | exact hsl | exact hnl | exact hdl) p04
  have p05g : ∀ Y : GW w5, Y.it.cell? ⟨sg, so + 5, none⟩ = some (.int .i64 0) := fun Y => Y.cell (by first | exact hsl | exact hnl | exact hdl) p05
  have p20g : ∀ Y : GW w5, Y.it.cell? ⟨sg, so + 12, none⟩ = some (.int .i64 2) := fun Y => Y.cell (by first | exact hsl | exact hnl | exact hdl) p20
  have p21g : ∀ Y : GW w5, Y.it.cell? ⟨sg, so + 13, none⟩ = some (.string (bs [97, 47, 98])) := fun Y => Y.cell (by first | exact hsl | exact hnl | exact hdl) p21
  have p22g : ∀ Y : GW w5, Y.it.cell? ⟨sg, so + 14, none⟩ = some (.string (bs [])) := fun Y => Y.cell (by first | exact hsl | exact hnl | exact hdl) p22
  have p23g : ∀ Y : GW w5, Y.it.cell? ⟨sg, so + 15, none⟩ = some (.string (bs [])) := fun Y => Y.cell (by first | exact hsl | exact hnl | exact hdl) p23
  have p24g : ∀ Y : GW w5, Y.it.cell? ⟨sg, so + 16, none⟩ = some (.int .i64 0) := fun Y => Y.cell (by first | exact hsl | exact hnl | exact hdl) p24
  have p25g : ∀ Y : GW w5, Y.it.cell? ⟨sg, so + 17, none⟩ = some (.int .i64 0) := fun Y => Y.cell (by first | exact hsl | exact hnl | exact hdl) p25
  have p50g : ∀ Y : GW w5, Y.it.cell? ⟨sg, so + 30, none⟩ = some (.int .i64 4) := fun Y => Y.cell (by first | exact hsl | exact hnl | exact hdl) p50
  have p51g : ∀ Y : GW w5, Y.it.cell? ⟨sg, so + 31, none⟩ = some (.string (bs [99, 47, 100])) := fun Y => Y.cell (by first | exact hsl | exact hnl | exact hdl) p51
  have p52g : ∀ Y : GW w5, Y.it.cell? ⟨sg, so + 32, none⟩ = some (.string (bs [99, 47, 100])) := fun Y => Y.cell (by first | exact hsl | exact hnl | exact hdl) p52
  have p53g : ∀ Y : GW w5, Y.it.cell? ⟨sg, so + 33, none⟩ = some (.string (bs [])) := fun Y => Y.cell (by first | exact hsl | exact hnl | exact hdl) p53
  have p54g : ∀ Y : GW w5, Y.it.cell? ⟨sg, so + 34, none⟩ = some (.int .i64 0) := fun Y => Y.cell (by first | exact hsl | exact hnl | exact hdl) p54
  have p55g : ∀ Y : GW w5, Y.it.cell? ⟨sg, so + 35, none⟩ = some (.int .i64 0) := fun Y => Y.cell (by first | exact hsl | exact hnl | exact hdl) p55
  have n0g : ∀ Y : GW w5, Y.it.cell? ⟨w.heap.size + 1, 4, none⟩ = some (.string (bs [99, 47, 100])) := fun Y => Y.cell (by first | exact hsl | exact hnl | exact hdl) n0
  have n1g : ∀ Y : GW w5, Y.it.cell? ⟨w.heap.size + 1, 5, none⟩ = some (.string (bs [])) := fun Y => Y.cell (by first | exact hsl | exact hnl | exact hdl) n1
  have n2g : ∀ Y : GW w5, Y.it.cell? ⟨w.heap.size + 1, 6, none⟩ = some (.int .i64 0) := fun Y => Y.cell (by first | exact hsl | exact hnl | exact hdl) n2
  have n3g : ∀ Y : GW w5, Y.it.cell? ⟨w.heap.size + 1, 7, none⟩ = some (.int .i64 0) := fun Y => Y.cell (by first | exact hsl | exact hnl | exact hdl) n3
  have d0g : ∀ Y : GW w5, Y.it.cell? ⟨dg, dof, none⟩ = some (.string (bs [97, 47, 120])) := fun Y => Y.cell (by first | exact hsl | exact hnl | exact hdl) d0
  have q1 := seql_run
  have q2 := sguard_run
  have c0 : (⟨#[]⟩ : ByteArray) = bs [] := rfl
  have c1 : (⟨#[99]⟩ : ByteArray) = bs [99] := rfl
  have c2 : (⟨#[97, 47, 98]⟩ : ByteArray) = bs [97, 47, 98] := rfl
  have c3 : (⟨#[99, 47, 100]⟩ : ByteArray) = bs [99, 47, 100] := rfl
  have c4 : (⟨#[97, 47, 120]⟩ : ByteArray) = bs [97, 47, 120] := rfl
  have s1 : seq ⟨1, [99], ⟨[], [], 0, 0⟩⟩ ⟨1, [99], ⟨[], [], 0, 0⟩⟩ = true := (seq_iff _ _).2 rfl
  have s2 : seq ⟨2, [97, 47, 98], ⟨[], [], 0, 0⟩⟩ ⟨2, [97, 47, 98], ⟨[], [], 0, 0⟩⟩ = true := (seq_iff _ _).2 rfl
  have s3 : seq ⟨4, [99, 47, 100], ⟨[99, 47, 100], [], 0, 0⟩⟩ ⟨4, [99, 47, 100], ⟨[99, 47, 100], [], 0, 0⟩⟩ = true := (seq_iff _ _).2 rfl
  have t4 : ((bs [97, 47, 120]).toList == (bs [97, 47, 120]).toList) = true := by simp
  have yne := gw_ne w5
  have B5 : Hid (Below w.heap.size w w5) := H5.out.2.2.2
  clear p00 p01 p02 p03 p04 p05 p20 p21 p22 p23 p24 p25 p50 p51 p52 p53 p54 p55 n0 n1 n2 n3 d0 H5 hsl hnl hdl
  go_wp2_with fail
  refine wp_region_grow (by kernel_rfl) (by kernel_rfl) ?_
  repeat (go_big_quiet_step (fail))
  refine wpQuiet_nil ?_
  rintro w6 ⟨⟨w6, bx⟩, rfl⟩
  have B6 : Hid (Below w.heap.size w w6) := bstep B5.out bx
  clear bx
  go_wp2_with fail
  go_ret
  exact ⟨rfl, B6.out⟩
end Go.Proofs.YtfdcfcalbongeaaGreat
