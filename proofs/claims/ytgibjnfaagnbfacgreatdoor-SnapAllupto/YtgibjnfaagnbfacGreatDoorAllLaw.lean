/-
  The law over every call.
-/
import Derived.Test.YtgibjnfaagnbfacGreatDoorHead
import Derived.Test.YtgibjnfaagnbfacGreatDoorBackPure
import Derived.Test.YtgibjnfaagnbfacGreatDoorRefB
import Derived.Test.YtgibjnfaagnbfacGreatDoorRefC
import Derived.Test.YtgibjnfaagnbfacGreatDoorRefR
namespace Go.Proofs.YtgibjnfaagnbfacGreatDoor
open Go.RowKit

theorem rd_fsm (s : List UInt8) (hs : s.length ≤ 4194304) : FSm ((rd s).getD []) := by
  cases h : rd s with
  | none => exact ⟨by simp, fun f hf => by simp at hf⟩
  | some M =>
    have := rd_some h
    show FSm M
    exact fsm_of this.1 (by rw [this.2]; exact hs)

set_option maxRecDepth 100000 in
set_option maxHeartbeats 8000000 in
theorem all_law {w : World} {va vb : Value} {A B : List Fl} (h1 : FS w va A) (h2 : FS w vb B) (sA : FSm A) (sB : FSm B) (s : List UInt8) (hs : s.length ≤ 4194304) (E : Env w) :
    Calls Tryz.prog 5 #[va, vb, .string (bs s)] w fun e w' => e = .returned (.bool true) ∧ Below w.heap.size w w' := by
  have H : Hid (FS w va A ∧ FS w vb B ∧ FSm A ∧ FSm B ∧ Env w) := ⟨h1, h2, sA, sB, E⟩
  obtain ⟨P, hP⟩ : ∃ P, (if validE A = 0 then prt A else []) = P := ⟨_, rfl⟩
  obtain ⟨V, hV⟩ : ∃ V, validE A = V := ⟨_, rfl⟩
  obtain ⟨V2, hV2⟩ : ∃ V, validE B = V := ⟨_, rfl⟩
  obtain ⟨L, hL⟩ : ∃ L, leq A B = L := ⟨_, rfl⟩
  obtain ⟨C, hC⟩ : ∃ C : Int, (if (rd s).isSome then 0 else 18) = C := ⟨_, rfl⟩
  obtain ⟨R, hR⟩ : ∃ R, (rd s).getD [] = R := ⟨_, rfl⟩
  have RM : Hid (FSm R) := by rw [← hR]; exact rd_fsm s hs
  have K1 : Hid (∀ w' : World, Below w.heap.size w w' → Calls Tryz.prog 11 #[va] w' fun e w'' => e = .returned (.tuple #[.string (bs P), .int .i64 V]) ∧ Below w'.heap.size w' w'') := fun w' hb => by
    rw [← hP, ← hV]; exact print_any (h1.later hb) sA (E.later hb)
  have K2 : Hid (∀ w' : World, Below w.heap.size w w' → Calls Tryz.prog 16 #[va] w' fun e w'' => e = .returned (.tuple #[.string (bs P), .int .i64 V]) ∧ Below w'.heap.size w' w'') := fun w' hb => by
    rw [← hP, ← hV]; exact kprint_any (h1.later hb) sA
  have K3 : Hid (∀ w' : World, Below w.heap.size w w' → Calls Tryz.prog 12 #[.string (bs s)] w' fun e w'' => ∃ v, e = .returned (.tuple #[v, .int .i64 C]) ∧ OwnF w'.heap.size w'' v R ∧ Below w'.heap.size w' w'') := fun w' hb => by
    rw [← hC, ← hR]; exact read_any s hs w' (E.later hb)
  have K4 : Hid (∀ w' : World, Below w.heap.size w w' → Calls Tryz.prog 17 #[.string (bs s)] w' fun e w'' => ∃ v, e = .returned (.tuple #[v, .int .i64 C]) ∧ OwnF w'.heap.size w'' v R ∧ Below w'.heap.size w' w'') := fun w' hb => by
    rw [← hC, ← hR]; exact kread_any s hs w'
  have K5 : Hid (∀ w' : World, Below w.heap.size w w' → Calls Tryz.prog 10 #[va] w' fun e w'' => e = .returned (.int .i64 V) ∧ Below w'.heap.size w' w'') := fun w' hb => by rw [← hV]; exact valid2_any (h1.later hb) sA
  have K6 : Hid (∀ w' : World, Below w.heap.size w w' → Calls Tryz.prog 18 #[va] w' fun e w'' => e = .returned (.int .i64 V) ∧ Below w'.heap.size w' w'') := fun w' hb => by rw [← hV]; exact kvalid_any (h1.later hb) sA
  have K7 : Hid (∀ w' : World, Below w.heap.size w w' → Calls Tryz.prog 10 #[vb] w' fun e w'' => e = .returned (.int .i64 V2) ∧ Below w'.heap.size w' w'') := fun w' hb => by rw [← hV2]; exact valid2_any (h2.later hb) sB
  have K8 : Hid (∀ w' : World, Below w.heap.size w w' → Calls Tryz.prog 18 #[vb] w' fun e w'' => e = .returned (.int .i64 V2) ∧ Below w'.heap.size w' w'') := fun w' hb => by rw [← hV2]; exact kvalid_any (h2.later hb) sB
  have K9 : Hid (∀ w' : World, Below w.heap.size w w' → Calls Tryz.prog 13 #[va, vb] w' fun e w'' => e = .returned (.bool L) ∧ Below w'.heap.size w' w'') := fun w' hb => by rw [← hL]; exact same_any (h1.later hb) (h2.later hb) sA
  have K10 : Hid (∀ w' : World, Below w.heap.size w w' → Calls Tryz.prog 8 #[va, vb] w' fun e w'' => e = .returned (.bool L) ∧ Below w'.heap.size w' w'') := fun w' hb => by rw [← hL]; exact ksame_any (h1.later hb) (h2.later hb) sA
  have K11 : Hid (∀ w' : World, Below w.heap.size w w' → Calls Tryz.prog 13 #[va, va] w' fun e w'' => e = .returned (.bool true) ∧ Below w'.heap.size w' w'') := fun w' hb => by rw [← leq_self A]; exact same_any (h1.later hb) (h1.later hb) sA
  have K12 : Hid (∀ q (w' : World), Below w.heap.size w w' → Calls Tryz.prog 14 #[va, .string (bs q)] w' fun e w'' => e = .returned (.tuple #[(fopt (fnd A q)).val, .bool (fnd A q).isSome]) ∧ Below w'.heap.size w' w'') := fun q w' hb => find_any q (h1.later hb) sA
  have K13 : Hid (∀ q (w' : World), Below w.heap.size w w' → Calls Tryz.prog 19 #[va, .string (bs q)] w' fun e w'' => e = .returned (.tuple #[(fopt (fnd A q)).val, .bool (fnd A q).isSome]) ∧ Below w'.heap.size w' w'') := fun q w' hb => kfind_any q (h1.later hb) sA
  obtain ⟨aa, ca, rfl, _⟩ := h1.form
  obtain ⟨ab, cb, rfl, _⟩ := h2.form
  rename_i q1 q2
  have hlen : B.length ≤ 4194304 := sB.len
  clear hP hV hV2 hL hC hR h1 h2 sA sB E q1 q2 hs
  obtain ⟨n, hn⟩ : ∃ n, B.length = n := ⟨_, rfl⟩
  have H' : Hid (FS w (.slice ab B.length cb) B) := H.out.2.1
  rw [hn] at H hlen K7 K8 K9 K10 ⊢
  have HN : Hid (B.length = n) := hn
  clear hn
  generalize A.length = na at *
  have eP := bs_toList P
  have hPP : (P == P) = true := by simp
  have hVV : (V == V) = true := by simp
  have hV2V : (V2 == V2) = true := by simp
  have hCC : (C == C) = true := by simp
  have hLL : (L == L) = true := by simp
  go_enter Tryz.func5, Tryz.ntmps5
  go_wp2_with fail
  refine (head_any w H.out.2.2.2.2).mono ?_
  rintro e w1 ⟨rfl, hb1⟩
  have HB1 : Hid (Below w.heap.size w w1) := hb1
  clear hb1
  go_wp2_with fail
  refine (K1.out _ HB1.out).mono ?_
  rintro e w2 ⟨rfl, hb⟩
  have HB2 : Hid (Below w.heap.size w w2) := bstep HB1.out hb
  clear hb HB1
  go_wp2_with fail
  refine (K2.out _ HB2.out).mono ?_
  rintro e w3 ⟨rfl, hb⟩
  have HB3 : Hid (Below w.heap.size w w3) := bstep HB2.out hb
  clear hb HB2
  go_wp2_with fail
  refine (K3.out _ HB3.out).mono ?_
  rintro e w4 ⟨v4, rfl, ho, hb⟩
  have HB4 : Hid (Below w.heap.size w w4 ∧ FS w4 v4 R) := ⟨bstep HB3.out hb, ho.fs⟩
  clear hb ho HB3
  go_wp2_with fail
  refine (K4.out _ HB4.out.1).mono ?_
  rintro e w5 ⟨v5, rfl, ho, hb⟩
  have HB5 : Hid (Below w.heap.size w w5 ∧ FS w5 v4 R ∧ FS w5 v5 R) := ⟨bstep HB4.out.1 hb, HB4.out.2.later hb, ho.fs⟩
  clear hb ho HB4
  go_wp2_with fail
  refine (ksame_any HB5.out.2.1 HB5.out.2.2 RM.out).mono ?_
  rintro e w6 ⟨rfl, hb⟩
  rw [leq_self]
  have HB6 : Hid (Below w.heap.size w w6) := bstep HB5.out.1 hb
  clear hb HB5
  go_wp2_with fail
  refine (K5.out _ HB6.out).mono ?_
  rintro e w7 ⟨rfl, hb⟩
  have HB7 : Hid (Below w.heap.size w w7) := bstep HB6.out hb
  clear hb HB6
  go_wp2_with fail
  refine (K6.out _ HB7.out).mono ?_
  rintro e w8 ⟨rfl, hb⟩
  have HB8 : Hid (Below w.heap.size w w8) := bstep HB7.out hb
  clear hb HB7
  go_wp2_with fail
  refine (K7.out _ HB8.out).mono ?_
  rintro e w9 ⟨rfl, hb⟩
  have HB9 : Hid (Below w.heap.size w w9) := bstep HB8.out hb
  clear hb HB8
  go_wp2_with fail
  refine (K8.out _ HB9.out).mono ?_
  rintro e w10 ⟨rfl, hb⟩
  have HB10 : Hid (Below w.heap.size w w10) := bstep HB9.out hb
  clear hb HB9
  go_wp2_with fail
  refine (K9.out _ HB10.out).mono ?_
  rintro e w11 ⟨rfl, hb⟩
  have HB11 : Hid (Below w.heap.size w w11) := bstep HB10.out hb
  clear hb HB10
  go_wp2_with fail
  refine (K10.out _ HB11.out).mono ?_
  rintro e w12 ⟨rfl, hb⟩
  have HB12 : Hid (Below w.heap.size w w12) := bstep HB11.out hb
  clear hb HB11
  go_wp2_with fail
  refine (K11.out _ HB12.out).mono ?_
  rintro e w13 ⟨rfl, hb⟩
  have HB13 : Hid (Below w.heap.size w w13) := bstep HB12.out hb
  clear hb HB12
  go_wp2_with fail
  have q2 := guard_run
  clear hPP hVV hV2V hCC hLL eP
  go_loopw [15] (fun i wr => ∃ k : Nat, k ≤ n ∧ i = .int .i64 k ∧ Below w.heap.size w wr) (fun i _ => n - (intOf i).toNat)
  case atStart => exact ⟨0, by omega, rfl, HB13.out⟩
  case round =>
    rename World => w14
    obtain ⟨k, hk, rfl, hb⟩ := hrel
    have HB14 : Hid (Below w.heap.size w w14) := hb
    clear hb
    by_cases hlt : k < n
    · by_cases hk4 : k < 40
      · have hkl : k < B.length := by have := HN.out; omega
        obtain ⟨b, off, ea, hbw, d0, d1, d2, d3⟩ := FS.at H'.out HB14.out hkl
        subst ea
        have HOK : Hid (Fok (B[k]'hkl)) := H.out.2.2.2.1.at hkl
        obtain ⟨f, hf⟩ : ∃ f, B[k] = f := ⟨_, rfl⟩
        rw [hf] at d0 d1 d2 d3 HOK
        clear hf
        obtain ⟨p, t, bl, sz⟩ := f
        simp only at d0 d1 d2 d3
        obtain ⟨F, hF⟩ : ∃ F, fopt (fnd A p) = F := ⟨_, rfl⟩
        obtain ⟨ok, hok⟩ : ∃ ok, (fnd A p).isSome = ok := ⟨_, rfl⟩
        obtain ⟨e5, he5⟩ : ∃ e5, fileE ⟨p, t, bl, sz⟩ = e5 := ⟨_, rfl⟩
        have J1 : Hid (∀ w' : World, Below w.heap.size w w' → Calls Tryz.prog 14 #[.slice aa na ca, .string (bs p)] w' fun e w'' => e = .returned (.tuple #[F.val, .bool ok]) ∧ Below w'.heap.size w' w'') := fun w' hb => by
          have := K12.out p w' hb
          rwa [hF, hok] at this
        have J2 : Hid (∀ w' : World, Below w.heap.size w w' → Calls Tryz.prog 19 #[.slice aa na ca, .string (bs p)] w' fun e w'' => e = .returned (.tuple #[F.val, .bool ok]) ∧ Below w'.heap.size w' w'') := fun w' hb => by
          have := K13.out p w' hb
          rwa [hF, hok] at this
        have J3 : Hid (∀ W : World, Calls Tryz.prog 20 #[.agg #[.string (bs p), .string (bs t), .int .i64 bl, .int .i64 sz]] W fun e w' => e = .returned (.int .i64 e5) ∧ Below W.heap.size W w') := fun W => by rw [← he5]; exact file_any ⟨p, t, bl, sz⟩ W HOK.out
        have J4 : Hid (∀ W : World, Calls Tryz.prog 21 #[.agg #[.string (bs p), .string (bs t), .int .i64 bl, .int .i64 sz]] W fun e w' => e = .returned (.int .i64 e5) ∧ Below W.heap.size W w') := fun W => by rw [← he5]; exact kfile_any ⟨p, t, bl, sz⟩ W HOK.out
        clear hF hok he5
        obtain ⟨fp, ft, fb, fs⟩ := F
        simp only [Fl.val] at J1 J2
        have hee : (e5 == e5) = true := by simp
        have hoo : (ok == ok) = true := by simp
        have q1 : ∀ W : World, (binOp .neq 35 (.agg #[.string (bs fp), .string (bs ft), .int .i64 fb, .int .i64 fs]) (.agg #[.string (bs fp), .string (bs ft), .int .i64 fb, .int .i64 fs])).run Tryz.prog W = .ok (.bool false) W := fun W => by
          rw [neq_run, feq_self]; rfl
        have k1 : (0 : Int) ≤ (k : Int) := by omega
        have k2 : (k : Int) < (n : Int) := by omega
        have k4 : (k : Int) < 40 := by omega
        go_wp2_with fail
        refine (J1.out _ HB14.out).mono ?_
        rintro e w15 ⟨rfl, hb⟩
        have HB15 : Hid (Below w.heap.size w w15) := bstep HB14.out hb
        have hbr : b < w14.heap.size := Nat.lt_of_lt_of_le hbw HB14.out.size
        have g0 := (hb.cell (p := ⟨b, off + k * 4, none⟩) hbr).trans d0
        have g1 := (hb.cell (p := ⟨b, off + k * 4 + 1, none⟩) hbr).trans d1
        have g2 := (hb.cell (p := ⟨b, off + k * 4 + 2, none⟩) hbr).trans d2
        have g3 := (hb.cell (p := ⟨b, off + k * 4 + 3, none⟩) hbr).trans d3
        have hbr15 : b < w15.heap.size := Nat.lt_of_lt_of_le hbr hb.size
        clear hb d0 d1 d2 d3
        go_wp2_with fail
        obtain ⟨g, hg⟩ : ∃ g, w15.heap.size = g := ⟨_, rfl⟩
        obtain ⟨w16, hw16⟩ : ∃ w16, w15.alloc (.cells #[.string (bs fp), .string (bs ft), .int .i64 fb, .int .i64 fs] 35) = w16 := ⟨_, rfl⟩
        have X16 : Hid (FB w16 g ⟨fp, ft, fb, fs⟩ ∧ Below w15.heap.size w15 w16 ∧ Below w.heap.size w w16) := by
          rw [← hw16, ← hg]; exact ⟨FB.new w15 ⟨fp, ft, fb, fs⟩ 35, balloc _ _, bstep HB15.out (balloc _ _)⟩
        rw [hw16, hg]
        clear hw16 hg
        refine (J2.out _ X16.out.2.2).mono ?_
        rintro e w17 ⟨rfl, hb⟩
        have X17 : Hid (FB w17 g ⟨fp, ft, fb, fs⟩ ∧ Below w15.heap.size w15 w17 ∧ Below w.heap.size w w17) := ⟨X16.out.1.later hb, bstep X16.out.2.1 hb, bstep X16.out.2.2 hb⟩
        clear hb X16
        go_wp2_with fail
        obtain ⟨g', hg⟩ : ∃ g, w17.heap.size = g := ⟨_, rfl⟩
        obtain ⟨w18, hw18⟩ : ∃ w18, w17.alloc (.cells #[.string (bs fp), .string (bs ft), .int .i64 fb, .int .i64 fs] 35) = w18 := ⟨_, rfl⟩
        have X18 : Hid (FB w18 g ⟨fp, ft, fb, fs⟩ ∧ FB w18 g' ⟨fp, ft, fb, fs⟩ ∧ Below w15.heap.size w15 w18 ∧ Below w.heap.size w w18) := by
          rw [← hw18, ← hg]; exact ⟨X17.out.1.later (balloc _ _), FB.new w17 ⟨fp, ft, fb, fs⟩ 35, bstep X17.out.2.1 (balloc _ _), bstep X17.out.2.2 (balloc _ _)⟩
        rw [hw18, hg]
        clear hw18 hg X17
        have y0 : ∀ X : GW w18, X.it.cell? ⟨g, 0, none⟩ = some (.string (bs fp)) := fun X => X.cell X18.out.1.lt X18.out.1.c0
        have y1 : ∀ X : GW w18, X.it.cell? ⟨g, 1, none⟩ = some (.string (bs ft)) := fun X => X.cell X18.out.1.lt X18.out.1.c1
        have y2 : ∀ X : GW w18, X.it.cell? ⟨g, 2, none⟩ = some (.int .i64 fb) := fun X => X.cell X18.out.1.lt X18.out.1.c2
        have y3 : ∀ X : GW w18, X.it.cell? ⟨g, 3, none⟩ = some (.int .i64 fs) := fun X => X.cell X18.out.1.lt X18.out.1.c3
        have v0 : ∀ X : GW w18, X.it.cell? ⟨g', 0, none⟩ = some (.string (bs fp)) := fun X => X.cell X18.out.2.1.lt X18.out.2.1.c0
        have v1 : ∀ X : GW w18, X.it.cell? ⟨g', 1, none⟩ = some (.string (bs ft)) := fun X => X.cell X18.out.2.1.lt X18.out.2.1.c1
        have v2 : ∀ X : GW w18, X.it.cell? ⟨g', 2, none⟩ = some (.int .i64 fb) := fun X => X.cell X18.out.2.1.lt X18.out.2.1.c2
        have v3 : ∀ X : GW w18, X.it.cell? ⟨g', 3, none⟩ = some (.int .i64 fs) := fun X => X.cell X18.out.2.1.lt X18.out.2.1.c3
        have hbr18 : b < w18.heap.size := Nat.lt_of_lt_of_le hbr15 X18.out.2.2.1.size
        have hx : ∀ (o : Nat) (v : Value), w15.cell? ⟨b, o, none⟩ = some v → ∀ X : GW w18, X.it.cell? ⟨b, o, none⟩ = some v := fun o v hv X => X.cell (p := ⟨b, o, none⟩) hbr18 ((X18.out.2.2.1.cell (p := ⟨b, o, none⟩) hbr15).trans hv)
        have x0 := hx _ _ g0
        have x1 := hx _ _ g1
        have x2 := hx _ _ g2
        have x3 := hx _ _ g3
        have xne := gw_ne w18
        have M3 : Hid (∀ X : GW w18, Calls Tryz.prog 20 #[.agg #[.string (bs p), .string (bs t), .int .i64 bl, .int .i64 sz]] X.it fun e w' => e = .returned (.int .i64 e5) ∧ ∃ Y : GW w18, w' = Y.it) := fun X => (J3.out X.it).mono fun _ w' ⟨he, hb⟩ => ⟨he, ⟨w', bstep X.below hb⟩, rfl⟩
        have M4 : Hid (∀ X : GW w18, Calls Tryz.prog 21 #[.agg #[.string (bs p), .string (bs t), .int .i64 bl, .int .i64 sz]] X.it fun e w' => e = .returned (.int .i64 e5) ∧ ∃ Y : GW w18, w' = Y.it) := fun X => (J4.out X.it).mono fun _ w' ⟨he, hb⟩ => ⟨he, ⟨w', bstep X.below hb⟩, rfl⟩
        clear hx g0 g1 g2 g3
        refine wp_region_grow (by kernel_rfl) (by kernel_rfl) ?_
        repeat (go_big_quiet_step (fail))
        go_big_quiet_step (exact M3.out _)
        repeat (go_big_quiet_step (fail))
        go_big_quiet_step (exact M4.out _)
        repeat (go_big_quiet_step (fail))
        refine wpQuiet_nil ?_
        rintro w19 ⟨⟨w19, bx⟩, rfl⟩
        have HB19 : Hid (Below w.heap.size w w19) := bstep X18.out.2.2.2 bx
        clear bx y0 y1 y2 y3 v0 v1 v2 v3 x0 x1 x2 x3
        go_wp2_with fail
        go_roundw
        case rel => exact ⟨k + 1, by omega, by go_num, HB19.out⟩
        case measure => simp [intOf]; omega
      · have k2 : (k : Int) < (n : Int) := by omega
        have k4 : ¬ (k : Int) < 40 := by omega
        go_wp2_with fail
        go_ret
        exact ⟨rfl, HB14.out⟩
    · have k2 : ¬ (k : Int) < (n : Int) := by omega
      go_wp2_with fail
      go_ret
      exact ⟨rfl, HB14.out⟩
end Go.Proofs.YtgibjnfaagnbfacGreatDoor
