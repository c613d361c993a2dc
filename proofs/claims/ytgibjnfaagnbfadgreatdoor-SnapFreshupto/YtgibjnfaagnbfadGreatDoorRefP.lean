/-
  The document's answers: Print.
-/
import Derived.Test.YtgibjnfaagnbfadGreatDoorRefC
import Derived.Test.YtgibjnfaagnbfadGreatDoorRefD
import Derived.Test.YtgibjnfaagnbfadGreatDoorPrint
namespace Go.Proofs.YtgibjnfaagnbfadGreatDoor
open Go.RowKit

theorem src_str (s : List UInt8) (w : World) : Src Tryz.prog 1 9 (.string (bs s)) s.length (bc s) w := Src.ofString w u9 (bs s)
theorem add_run (a b : List UInt8) (h : a.length + b.length ≤ 9223372036854775807) (W : World) : (binOp .add 9 (.string (bs a)) (.string (bs b))).run Tryz.prog W = .ok (.string (bs (a ++ b))) W := by
  have ha : (bs a).size = a.length := rfl
  have hb : (bs b).size = b.length := rfl
  have hn : ¬ 9223372036854775807 < (bs a).size + (bs b).size := by omega
  rw [← bs_app]
  simp [go_sem, hn]
/-- append onto bytes of the call's own, as one operation of a region that draws -/
theorem step_app_tx {ops : Array Oper} {o : Oper} {a : Act} {w : World} {K : Act → World → Prop} {Q : Exit → Act → World → Prop} {E : Prop} {tx : TypeId} (hgd : o.guard = none) (s y : Operand)
    (ho : o.op = .call { callee := .builtin .append, args := #[s, y], argTypes := #[45, tx] }) (base : Nat) (l k : List UInt8) (v x : Value) (hv : a.eval s = v) (hx : a.eval y = x)
    (hown : OwnB base w v l) (hs : Src Tryz.prog 1 tx x k.length (bc k) w) (hb : l.length + k.length ≤ 8796093022208) (hbase : base ≤ w.heap.size)
    (h : ∀ v' w', OwnB base w' v' (l ++ k) → w.grownBy w' v.ownBlock → (v'.ownBlock = v.ownBlock ∨ v'.ownBlock = some w.heap.size) → K (a.put o.dst v') w') :
    if Region.wanted o (yielded ops a.tmps) = true then Oper.wp Tryz.prog o a w K Q else E := by
  have hw : Region.wanted o (yielded ops a.tmps) = true := by simp [Region.wanted, hgd]
  rw [if_pos hw]
  obtain ⟨i0, hi, hz0, hz1, hz2⟩ := info_parts info5
  obtain ⟨v', w', hr, h2, h3, h4⟩ := run_append_src (P := Tryz.prog) w base 45 tx o.type 5 i0 (.int .u8 0) 1 1 und45 hi hz0 hz1 hz2 rfl v l.length (bc l) hown x k.length (bc k) hs (by simp only [maxLen]; omega) (by omega) hbase
  unfold Oper.wp execOp
  simp only [ho, resolve, invoke, builtin, Sem.run_bind, Sem.run_pure, Result.andThen_ok, List.map_toArray, List.map_cons, List.map_nil, hv, hx, hr]
  exact h v' w' (by unfold OwnB; rw [bc_append, List.length_append]; exact h2) h3 h4

/-- bytes of the call's own, beside a file in a box -/
structure BF (base : Nat) (w0 w : World) (v : Value) (g : Nat) (f : Fl) (l : List UInt8) : Prop where
  own : OwnB base w v l
  box : FB w g f
  apart : ∀ k, v.ownBlock = some k → k ≠ g
  bel : Below base w0 w
  low : base ≤ g
theorem FB.grown {w w' : World} {g : Nat} {f : Fl} {r : Option Nat} (h : FB w g f) (hg : w.grownBy w' r) (hr : ∀ k, r = some k → k ≠ g) : FB w' g f := by
  obtain ⟨c0, c1, c2, c3, hlt⟩ := h
  have e : ∀ o v, w.cell? ⟨g, o, none⟩ = some v → w'.cell? ⟨g, o, none⟩ = some v := fun o v hv => by
    rw [← hv]
    simp only [World.cell?]
    rw [hg.block g hlt (fun e => hr g e.symm rfl)]
  exact ⟨e _ _ c0, e _ _ c1, e _ _ c2, e _ _ c3, Nat.lt_of_lt_of_le hlt hg.size⟩
theorem BF.grown {base : Nat} {w0 w w1 w' : World} {v v' : Value} {g : Nat} {f : Fl} {l l' : List UInt8} (h : BF base w0 w v g f l) (hb : Below w.heap.size w w1) (ho : OwnB base w' v' l') (hg : w1.grownBy w' v.ownBlock) (hv : v'.ownBlock = v.ownBlock ∨ v'.ownBlock = some w1.heap.size) : BF base w0 w' v' g f l' := by
  have hlt := h.box.lt
  have hz := hb.size
  refine ⟨ho, (h.box.later hb).grown hg h.apart, fun k hk => ?_, (below_trans h.bel (below_mono hb (by have := h.low; omega))).grown hg (by have := h.low; omega) (fun k hk => (h.own.lt hk).1), h.low⟩
  rcases hv with e | e
  · rw [e] at hk; exact h.apart k hk
  · rw [e] at hk; injection hk with hk; omega

set_option maxRecDepth 100000 in
set_option maxHeartbeats 8000000 in
theorem kprint_any {w : World} {v : Value} {l : List Fl} (h : FS w v l) (sm : FSm l) :
    Calls Tryz.prog 6 #[v] w fun e w' => e = .returned (.tuple #[.string (bs (if validE l = 0 then prt l else [])), .int .i64 (validE l)]) ∧ Below w.heap.size w w' := by
  have H : Hid (FS w v l) := h
  have SM : Hid (FSm l) := sm
  have hlen : l.length ≤ 4194304 := sm.len
  have HV : Hid (Calls Tryz.prog 20 #[v] w fun e w' => e = .returned (.int .i64 (validE l)) ∧ Below w.heap.size w w') := kvalid_any h sm
  clear sm
  by_cases hv : validE l = 0
  · have HS : Hid (∀ f ∈ l, fileE f = 0) := stand_all ((validE_zero l).1 hv)
    have H5 : Hid (l.length ≤ 512) := ((stand_iff l).1 ((validE_zero l).1 hv)).1
    rw [if_pos hv]
    rw [hv] at HV ⊢
    clear hv
    obtain ⟨a, c, rfl, _⟩ := h.form
    rename_i q1
    clear h q1
    obtain ⟨n, hn⟩ : ∃ n, l.length = n := ⟨_, rfl⟩
    have H' : Hid (FS w (.slice a l.length c) l) := H.out
    clear H
    rw [hn] at hlen HV ⊢
    have HN : Hid (l.length = n) := hn
    clear hn
    go_enter Tryz.func6, Tryz.ntmps6
    go_wp2_with fail
    refine HV.out.mono ?_
    rintro e w1 ⟨rfl, hb1⟩
    have HB1 : Hid (Below w.heap.size w w1) := hb1
    clear hb1
    go_wp2_with fail
    go_loopw [5, 6] (fun o i wr => ∃ k : Nat, k ≤ n ∧ i = .int .i64 k ∧ OwnB w.heap.size wr o (prt (l.take k)) ∧ Below w.heap.size w wr) (fun _ i _ => n - (intOf i).toNat)
    case atStart => exact ⟨0, by omega, rfl, by simpa [prt] using OwnB.nil _ _, HB1.out⟩
    case round =>
      rename World => w2
      obtain ⟨k, hk, rfl, ho, hb⟩ := hrel
      have HO : Hid (OwnB w.heap.size w2 u5 (prt (l.take k))) := ho
      have HB : Hid (Below w.heap.size w w2) := hb
      have hz2 := hb.size
      clear ho hb
      by_cases hlt : k < n
      · have hkl : k < l.length := by have := HN.out; omega
        obtain ⟨b, off, ea, hbw, d0, d1, d2, d3⟩ := FS.at H'.out HB.out hkl
        subst ea
        have F : Hid (Fok l[k] ∧ fileE l[k] = 0) := ⟨SM.out.at hkl, HS.out _ (List.getElem_mem _)⟩
        have HP : Hid (prt (l.take (k + 1)) = prt (l.take k) ++ line (l[k]'hkl)) := by
          have e : l.take (k + 1) = l.take k ++ [l[k]'hkl] := by rw [List.take_add_one, List.getElem?_eq_getElem hkl]; rfl
          show prt (l.take (k + 1)) = _
          rw [e, prt_app]
          simp [prt]
        have HPL : Hid ((prt (l.take k)).length ≤ 2500000000000) := prt_take_len HS.out H5.out SM.out k
        obtain ⟨L, hL⟩ : ∃ L, prt (l.take k) = L := ⟨_, rfl⟩
        rw [hL] at HO HP HPL
        clear hL
        obtain ⟨f, hf⟩ : ∃ f, l[k] = f := ⟨_, rfl⟩
        rw [hf] at d0 d1 d2 d3 F HP
        clear hf
        obtain ⟨p, t, bl, s⟩ := f
        simp only at d0 d1 d2 d3
        have hpl : p.length ≤ 4194304 := F.out.1.path
        have htl : t.length ≤ 4194304 := F.out.1.text
        have k1 : (0 : Int) ≤ (k : Int) := by omega
        have k2 : (k : Int) < (n : Int) := by omega
        have HBs : Hid (∀ w : World, Calls Tryz.prog 21 #[.string (bs p)] w fun e w' => e = .returned (.string (bs (base p))) ∧ w' = w) := fun w => rbase_any p w (by omega)
        go_wp2_with fail
        obtain ⟨g, hg⟩ : ∃ g, w2.heap.size = g := ⟨_, rfl⟩
        obtain ⟨w3, hw3⟩ : ∃ w3, w2.alloc (.cells #[.string (bs p), .string (bs t), .int .i64 bl, .int .i64 s] 26) = w3 := ⟨_, rfl⟩
        have B3 : Hid (BF w.heap.size w w3 u5 g ⟨p, t, bl, s⟩ L) := by
          rw [← hw3, ← hg]
          exact ⟨HO.out.later (balloc _ _), FB.new w2 ⟨p, t, bl, s⟩ 26, fun k hk => by have := (HO.out.lt hk).2; omega, bstep HB.out (balloc _ _), hz2⟩
        rw [hw3, hg]
        clear hw3 hg d0 d1 d2 d3
        refine (HBs.out _).mono ?_
        rintro e w4 ⟨rfl, rfl⟩
        have e1 := c_tgt
        have e2 := bs_toList (base p)
        obtain ⟨c0, c1, c2, c3, hlt3⟩ := B3.out.box
        simp only at c0 c1 c2 c3
        have e116 : ({ data := #[116, 32] } : ByteArray) = bs [116, 32] := rfl
        have e102 : ({ data := #[102, 32] } : ByteArray) = bs [102, 32] := rfl
        have e32 : ({ data := #[32] } : ByteArray) = bs [32] := rfl
        cases hm : (base p == tgt)
        · have hM : isM p = false := hm
          have hfit : fits ⟨p, t, bl, s⟩ = true := ((fileE_zero _).1 F.out.2).2
          unfold fits at hfit
          simp only [hM, Bool.false_eq_true, if_false, Bool.and_eq_true, decide_eq_true_eq, beq_iff_eq] at hfit
          obtain ⟨⟨rfl, hb0, hb1⟩, hs0, hs1⟩ := hfit
          obtain ⟨X, hX⟩ : ∃ X, Lib.itoa bl = X := ⟨_, rfl⟩
          obtain ⟨Y, hY⟩ : ∃ Y, Lib.itoa s = Y := ⟨_, rfl⟩
          have hl1 : X.length ≤ 19 := by rw [← hX]; exact itoa_len bl hb0 (by omega)
          have hl2 : Y.length ≤ 19 := by rw [← hY]; exact itoa_len s hs0 (by omega)
          have HD1 : Hid (∀ W : World, Calls Tryz.prog 22 #[.int .i64 bl] W fun e w' => e = .returned (.string (bs X)) ∧ Below W.heap.size W w') := fun W => by
            rw [← hX, itoa_nat bl hb0]
            have := kdecimal_any bl.toNat W (by omega)
            rwa [Int.toNat_of_nonneg hb0] at this
          have HD2 : Hid (∀ W : World, Calls Tryz.prog 22 #[.int .i64 s] W fun e w' => e = .returned (.string (bs Y)) ∧ Below W.heap.size W w') := fun W => by
            rw [← hY, itoa_nat s hs0]
            have := kdecimal_any s.toNat W (by omega)
            rwa [Int.toNat_of_nonneg hs0] at this
          have HLn : Hid (prt (l.take (k + 1)) = L ++ ([102, 32] ++ p ++ [32] ++ X ++ [32] ++ Y) ++ [10]) := by
            show _ = _
            rw [HP.out]
            simp only [line, wordsOf, hM, Bool.false_eq_true, if_false, blanks]
            rw [hX, hY]
            simp
          clear hX hY hb0 hb1 hs0 hs1
          obtain ⟨S5, h5⟩ : ∃ S, [102, 32] ++ p ++ [32] ++ X ++ [32] ++ Y = S := ⟨_, rfl⟩
          rw [h5] at HLn
          have g5 : S5.length = p.length + 4 + X.length + Y.length := by rw [← h5]; simp; omega
          have HS0 : Hid (∀ W : World, Src Tryz.prog 1 9 (.string (bs [102, 32] ++ bs p ++ bs [32] ++ bs X ++ bs [32] ++ bs Y)) S5.length (bc S5) W) := fun W => by rw [bs_app, bs_app, bs_app, bs_app, bs_app, h5]; exact src_str _ _
          have m1 : ¬ 9223372036854775807 < (bs [102, 32]).size + (bs p).size := by show ¬ _ < 2 + p.length; omega
          have m2 : ¬ 9223372036854775807 < (bs [102, 32]).size + (bs p).size + (bs [32]).size := by show ¬ _ < 2 + p.length + 1; omega
          have m3 : ¬ 9223372036854775807 < (bs [102, 32]).size + (bs p).size + (bs [32]).size + (bs X).size := by show ¬ _ < 2 + p.length + 1 + X.length; omega
          have m4 : ¬ 9223372036854775807 < (bs [102, 32]).size + (bs p).size + (bs [32]).size + (bs X).size + (bs [32]).size := by show ¬ _ < 2 + p.length + 1 + X.length + 1; omega
          have m5 : ¬ 9223372036854775807 < (bs [102, 32]).size + (bs p).size + (bs [32]).size + (bs X).size + (bs [32]).size + (bs Y).size := by show ¬ _ < 2 + p.length + 1 + X.length + 1 + Y.length; omega
          clear h5
          have hLl := HPL.out
          have hw4 := B3.out.bel.size
          go_wp2_with fail
          go_region_held3 (fun w' => w'.cell? ⟨g, 0, none⟩ = some (.string (bs p)) ∧ w'.cell? ⟨g, 2, none⟩ = some (.int .i64 bl) ∧ w'.cell? ⟨g, 3, none⟩ = some (.int .i64 s)) (first | go_keep | (exact ⟨(by rw [hb8.cell (p := ⟨g, 0, none⟩) hlt3]; exact c0), (by rw [hb8.cell (p := ⟨g, 2, none⟩) hlt3]; exact c2), (by rw [hb8.cell (p := ⟨g, 3, none⟩) hlt3]; exact c3)⟩) | (have B5 := B3.out.grown hb8 ho5 hg5 hv5; exact ⟨B5.box.1, B5.box.3, B5.box.4⟩)) (first | (go_at_call 22; with_reducible refine (HD1.out _).mono ?_; rintro e w' ⟨rfl, hb9⟩; have hb8 : Below w4.heap.size w4 w' := bstep (Below.refl _ _).drew hb9) | (go_at_call 22; with_reducible refine (HD2.out _).mono ?_; rintro e w' ⟨rfl, hb7⟩; have hb8 : Below w4.heap.size w4 w' := bstep hb8 hb7) | (refine step_app_tx rfl (.tmp 56) (.tmp 69) rfl w.heap.size L S5 u5 _ rfl rfl (B3.out.own.later hb8) (HS0.out _) (by omega) (by have := hb8.size; omega) ?_; intro v5 w5 ho5 hg5 hv5))
          have B5 : Hid (BF w.heap.size w w5 v5 g ⟨p, [], bl, s⟩ (L ++ S5)) := B3.out.grown hb8 ho5 hg5 hv5
          have hw5 := B5.out.bel.size
          clear hb8 hb7 hb9 ho5 hg5 hv5 c0 c1 c2 c3 m1 m2 m3 m4 m5
          go_wp2_with (at_builtin; refine app_byte (base := w.heap.size) 10 B5.out.own rfl (by rw [List.length_append]; omega) (by omega) rfl _ _ rfl rfl rfl ?_; intro v7 w7 ho7 hb7 hz7 hg7 hv7)
          refine ⟨⟨k + 1, by omega, by go_num, by rw [HLn.out]; exact ho7, below_trans B5.out.bel hb7⟩, by simp [intOf]; omega⟩
        · have n1 : (bs [116, 32] ++ bs p).size = p.length + 2 := by rw [bs_app]; show ([116, 32] ++ p).length = _; simp
          have n2 : (bs [32]).size = 1 := rfl
          have n3 : (bs [116, 32]).size = 2 := rfl
          have n4 : (bs p).size = p.length := rfl
          obtain ⟨T0, hT0⟩ : ∃ T, [116, 32] ++ p ++ [32] = T := ⟨_, rfl⟩
          have HS0 : Hid (Src Tryz.prog 1 9 (.string (bs [116, 32] ++ bs p ++ bs [32])) T0.length (bc T0) w4) := by rw [bs_app, bs_app, hT0]; exact src_str _ _
          have HT0 : Hid ([116, 32] ++ p ++ [32] = T0) := hT0
          have hTl : T0.length = p.length + 3 := by rw [← hT0]; simp
          have hLl := HPL.out
          have hw4 := B3.out.bel.size
          go_wp2_with (at_builtin; refine app_bytes (tx := 9) (base := w.heap.size) (l := L) (k := T0) (x := .string (bs [116, 32] ++ bs p ++ bs [32])) B3.out.own HS0.out (by omega) hw4 rfl _ _ rfl rfl rfl ?_; intro v5 w5 ho5 hg5 hv5)
          have B5 : Hid (BF w.heap.size w w5 v5 g ⟨p, t, bl, s⟩ (L ++ T0)) := B3.out.grown (Below.refl _ _) ho5 hg5 hv5
          clear ho5 hg5 hv5 c0 c1 c2 c3 hlt3 n1 n2 n3 n4 HS0
          go_loopw [5, 8] (fun o i wr => ∃ j : Nat, j ≤ t.length ∧ i = .int .i64 j ∧ BF w.heap.size w wr o g ⟨p, t, bl, s⟩ (L ++ T0 ++ hexs (t.take j))) (fun _ i _ => t.length - (intOf i).toNat)
          case atStart => exact ⟨0, by omega, rfl, by simpa [hexs] using B5.out⟩
          case round =>
            rename World => w6
            obtain ⟨j, hj, rfl, hb6⟩ := hrel
            have B6 : Hid (BF w.heap.size w w6 u5 g ⟨p, t, bl, s⟩ (L ++ T0 ++ hexs (t.take j))) := hb6
            obtain ⟨c0, c1, c2, c3, hlt6⟩ := hb6.box
            simp only at c0 c1 c2 c3
            have hw6 := hb6.bel.size
            clear hb6
            have hzt : (bs t).size = t.length := rfl
            have hxl : (hexs (t.take j)).length ≤ 8388608 := by rw [hexs_length]; simp; omega
            by_cases hjt : j < t.length
            · have j1 : (0 : Int) ≤ (j : Int) := by omega
              have j2 : (j : Int) < (t.length : Int) := by omega
              obtain ⟨X, hX⟩ : ∃ X, (t[j]'hjt).toNat = X := ⟨_, rfl⟩
              have hX256 : X < 256 := by rw [← hX]; exact (t[j]'hjt).toNat_lt
              have q1 : ∀ W : World, (Instr.index 9 (.string (bs t)) (.int .i64 (j : Nat))).run Tryz.prog W = .ok (.int .u8 (X : Nat)) W := fun W => by rw [idx_run W t j hjt, hX]
              obtain ⟨Hh, hH⟩ : ∃ H, X / 16 = H := ⟨_, rfl⟩
              obtain ⟨Ll, hLo⟩ : ∃ L, X % 16 = L := ⟨_, rfl⟩
              have q2 : Int.tdiv (X : Int) 16 = (Hh : Int) := by rw [Int.tdiv_eq_ediv_of_nonneg (by omega)]; omega
              have q3 : Int.tmod (X : Int) 16 = (Ll : Int) := by rw [Int.tmod_eq_emod_of_nonneg (by omega)]; omega
              have q6 : IntKind.u8.wrap (Hh : Int) = (Hh : Int) := by rw [IntKind.wrap_u8]; omega
              have q7 : IntKind.u8.wrap (Ll : Int) = (Ll : Int) := by rw [IntKind.wrap_u8]; omega
              obtain ⟨A, hA⟩ : ∃ A, (hx Hh).toNat = A := ⟨_, rfl⟩
              obtain ⟨B, hB⟩ : ∃ B, (hx Ll).toNat = B := ⟨_, rfl⟩
              have q4 : ∀ W : World, (Instr.index 9 (.string ⟨#[48, 49, 50, 51, 52, 53, 54, 55, 56, 57, 97, 98, 99, 100, 101, 102]⟩) (.int .u8 (Hh : Nat))).run Tryz.prog W = .ok (.int .u8 (A : Nat)) W := fun W => by rw [dig_run W Hh (by omega), hA]
              have q5 : ∀ W : World, (Instr.index 9 (.string ⟨#[48, 49, 50, 51, 52, 53, 54, 55, 56, 57, 97, 98, 99, 100, 101, 102]⟩) (.int .u8 (Ll : Nat))).run Tryz.prog W = .ok (.int .u8 (B : Nat)) W := fun W => by rw [dig_run W Ll (by omega), hB]
              have HE : Hid (hexs (t.take (j + 1)) = hexs (t.take j) ++ [hx Hh, hx Ll]) := by
                have e : t.take (j + 1) = t.take j ++ [t[j]'hjt] := by rw [List.take_add_one, List.getElem?_eq_getElem hjt]; rfl
                show hexs (t.take (j + 1)) = _
                rw [e, hexs_app, hexs, hexs, hX, hH, hLo]
              have HAB : Hid ((A : Int) = ((hx Hh).toNat : Int) ∧ (B : Int) = ((hx Ll).toNat : Int)) := ⟨by rw [hA], by rw [hB]⟩
              clear hX hH hLo hA hB
              go_wp2_with fail
              go_region_held3 (fun w' => w'.cell? ⟨g, 1, none⟩ = some (.string (bs t))) (first | go_keep | (exact (B6.out.grown (balloc _ _).drew ho7 hg7 hv7).box.2)) (first | (refine step_app_tx rfl (.tmp 41) (.tmp 54) rfl w.heap.size (L ++ T0 ++ hexs (t.take j)) [hx Hh, hx Ll] u5 _ rfl rfl (B6.out.own.later (balloc _ _).drew) (src_two_d w6 (hx Hh) (hx Ll) _ _ HAB.out.1 HAB.out.2) (by simp only [List.length_append, List.length_cons, List.length_nil]; omega) (by show w.heap.size ≤ _; simp; omega) ?_; intro v7 w7 ho7 hg7 hv7))
              all_goals
                have B7 : Hid (BF w.heap.size w w7 v7 g ⟨p, t, bl, s⟩ (L ++ T0 ++ hexs (t.take (j + 1)))) := by
                  rw [HE.out, ← List.append_assoc]
                  exact B6.out.grown (balloc _ _).drew ho7 hg7 hv7
                clear ho7 hg7 hv7 q1 q2 q3 q4 q5
                go_wp2_with fail
                refine ⟨⟨j + 1, by omega, by go_num, B7.out⟩, by simp [intOf]; omega⟩
            · have hjt2 : j = t.length := by omega
              subst hjt2
              have HLn : Hid (prt (l.take (k + 1)) = L ++ T0 ++ hexs t ++ [10]) := by
                show _ = _
                rw [HP.out]
                have hM : isM p = true := hm
                simp only [line, wordsOf, hM, if_true, blanks]
                rw [← HT0.out]
                simp
              have B6' : Hid (BF w.heap.size w w6 u5 g ⟨p, t, bl, s⟩ (L ++ T0 ++ hexs t)) := by
                have := B6.out
                rwa [List.take_length] at this
              have htx : (hexs t).length ≤ 8388608 := by rw [hexs_length]; omega
              go_wp2_with (at_builtin; refine app_byte (base := w.heap.size) 10 B6'.out.own rfl (by simp only [List.length_append]; omega) (by omega) rfl _ _ rfl rfl rfl ?_; intro v7 w7 ho7 hb7 hz7 hg7 hv7)
              refine ⟨⟨k + 1, by omega, by go_num, by rw [HLn.out]; exact ho7, below_trans B6'.out.bel hb7⟩, by simp [intOf]; omega⟩
      · obtain rfl : k = n := by omega
        have q := conv_ys HO.out.ys
        go_wp2_with fail
        go_ret2
        refine ⟨?_, HB.out⟩
        rw [List.take_of_length_le (by have := HN.out; omega)]
        rfl
  · rw [if_neg hv]
    have hd : (validE l == 0) = false := by simpa using hv
    generalize validE l = V at *
    go_enter Tryz.func6, Tryz.ntmps6
    go_wp2_with fail
    refine HV.out.mono ?_
    rintro e w1 ⟨rfl, hb1⟩
    have HB1 : Hid (Below w.heap.size w w1) := hb1
    clear hb1
    go_wp2_with fail
    go_ret2
    exact ⟨rfl, HB1.out⟩
end Go.Proofs.YtgibjnfaagnbfadGreatDoor
