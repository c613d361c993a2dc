/-
  The least by a measure.
  Where neighbours meet.
-/
import Derived.Test.YtbaheiimcnfaaaaGreatJNj
import Derived.Test.YtbaheiimcnfaaaaGreatMg5
import Derived.Test.YtbaheiimcnfaaaaGreatJNorm
import Derived.Test.YtbaheiimcnfaaaaGreatJNb
import Derived.Test.YtbaheiimcnfaaaaGreatCv
namespace Go.Proofs.YtbaheiimcnfaaaaGreat
open Go.RowKit Go.Maps
attribute [local go_sem] Oper.semAt_some

def plt (cost : Int) (x y : Cnd) : Prop := tog cost x.a < tog cost y.a ∨ (tog cost x.a = tog cost y.a ∧ y.d < x.d)
def Fst (cost : Int) (C : List Cnd) (b i : Nat) : Prop := ∃ hb : b < C.length, (∀ j (hj : j < C.length), j < b → plt cost (C[b]'hb) (C[j]'hj)) ∧ (∀ j (hj : j < C.length), b ≤ j → j < i → ¬ plt cost (C[j]'hj) (C[b]'hb))
theorem Fst.start {cost : Int} {C : List Cnd} (h : C ≠ []) : Fst cost C 0 0 := ⟨List.length_pos_iff.2 h, fun j hj h1 => by omega, fun j hj h1 h2 => by omega⟩
theorem Fst.stay {cost : Int} {C : List Cnd} {b i : Nat} (h : Fst cost C b i) (hi : i < C.length) (hb : b < C.length) (hn : ¬ plt cost (C[i]'hi) (C[b]'hb)) : Fst cost C b (i + 1) := by
  obtain ⟨_, h1, h2⟩ := h
  refine ⟨hb, h1, fun j hj h3 h4 => ?_⟩
  by_cases e : j = i
  · subst e; exact hn
  · exact h2 j hj h3 (by omega)
theorem Fst.next {cost : Int} {C : List Cnd} {b i : Nat} (h : Fst cost C b i) (hi : i < C.length) (hb : b < C.length) (hn : plt cost (C[i]'hi) (C[b]'hb)) : Fst cost C i (i + 1) := by
  obtain ⟨_, h1, h2⟩ := h
  refine ⟨hi, fun j hj h3 => ?_, fun j hj h3 h4 => ?_⟩
  · by_cases e : j < b
    · have := h1 j hj e
      unfold plt at *
      omega
    · have := h2 j hj (by omega) h3
      unfold plt at *
      omega
  · have : j = i := by omega
    subst this
    unfold plt
    omega
def LowB (w : World) (g : Nat) (cost : Int) (C : List Cnd) (b : Nat) : Prop := ∃ hb : b < C.length, w.heap[g]? = some (.cells #[.int .i64 (tog cost (C[b]'hb).a), .int .i64 (C[b]'hb).d] 90 (0, 0))
theorem LowB.later {w w' : World} {g : Nat} {cost : Int} {C : List Cnd} {b : Nat} (h : LowB w g cost C b) (hb : Below w.heap.size w w') : LowB w' g cost C b := by
  obtain ⟨h1, h2⟩ := h
  exact ⟨h1, (hb.block g (Array.getElem?_eq_some_iff.1 h2).1).trans h2⟩
def LeP (w : World) (C : List Cnd) (cost : Int) (e : Ending) (w' : World) : Prop := ∃ b : Nat, e = .returned (.int .i64 b) ∧ Fst cost C b C.length ∧ Below w.heap.size w w'
set_option maxRecDepth 100000 in
set_option maxHeartbeats 4000000 in
theorem least_any {base : Nat} {w : World} {v : Value} {C : List Cnd} {gm : Nat} {cost : Int} (h : OwnC base w v C) (hne : C ≠ []) (hl : C.length ≤ 4000000) (hgm : gm < w.heap.size) (hc : w.cell? ⟨gm, 1, none⟩ = some (.int .i64 cost)) (h1 : 0 ≤ cost ∧ cost ≤ 9223372036854775807) (h2 : ∀ c ∈ C, 0 ≤ c.a ∧ c.a ≤ 9223372036854775807) :
    Calls Tryz.prog 55 #[v, .func (.func 56) #[.pointer (some ⟨gm, 0, none⟩)] #[], .func (.func 57) #[] #[]] w (LeP w C cost) := by
  have HP := hid_of (fun (W : World) (hW : Below w.heap.size w W) (c : Cnd) (hcm : c ∈ C) => price_any (w := W) (gm := gm) (cost := cost) c (Nat.lt_of_lt_of_le hgm hW.size) ((hW.cell (p := ⟨gm, 1, none⟩) hgm).trans hc) h1 (h2 c hcm))
  have HCH := hid_of (fun c d c' d' W => cheaper_any c d c' d' W)
  have HS := hid_of (Fst.start (cost := cost) hne)
  obtain ⟨g, cap, rest, e, hr⟩ := RW.ofC h hne
  have HA : Hid (∀ {W : World}, Below w.heap.size w W → ∀ k, (hk : k < C.length) → W.cell? ⟨g, k * 3, none⟩ = some (.string (bs C[k].p)) ∧ W.cell? ⟨g, k * 3 + 1, none⟩ = some (.int .i64 C[k].d) ∧ W.cell? ⟨g, k * 3 + 2, none⟩ = some (.int .i64 C[k].a)) := fun {W} hW k hk => (hr.later hW).cellC hk
  have h0 : 0 < C.length := List.length_pos_iff.2 hne
  subst e
  obtain ⟨n, hn⟩ : ∃ n, C.length = n := ⟨_, rfl⟩
  rw [hn] at hl ⊢
  have HN : Hid (C.length = n) := hn
  have h0n : 0 < n := by omega
  have k0 : (0 : Int) < (n : Int) := by omega
  clear h hne hr hc h1 h2 hn
  obtain ⟨d0, d1, d2⟩ := HA.out (Below.refl _ w) 0 h0
  rw [Nat.zero_mul] at d0 d1 d2
  have HP0 := hid_of (HP.out w (Below.refl _ _) _ (List.getElem_mem h0))
  have HX : Hid (∃ x, C[0] = x) := ⟨_, rfl⟩
  obtain ⟨x, hx⟩ := HX
  have HX0 := hid_of hx
  rw [hx] at d0 d1 d2 HP0
  clear hx
  obtain ⟨xp, xd, xa⟩ := x
  unfold Cnd.val at HP0
  simp only [Nat.zero_add] at d0 d1 d2 HP0
  go_enter Tryz.func55, Tryz.ntmps55
  go_wp2_with fail
  refine HP0.out.mono ?_
  rintro e w1 ⟨rfl, hb1⟩
  have HB1 := hid_of hb1
  clear hb1 d0 d1 d2
  go_wp2_with fail
  have HL0 : Hid (LowB (w1.alloc (.cells #[.int .i64 (tog cost xa), .int .i64 xd] 90)) w1.heap.size cost C 0 ∧ Below w.heap.size w (w1.alloc (.cells #[.int .i64 (tog cost xa), .int .i64 xd] 90))) := by
    refine ⟨⟨h0, ?_⟩, bstep HB1.out (balloc _ _)⟩
    rw [HX0.out]
    exact heap_alloc_new _ _
  have HGL : Hid (w.heap.size ≤ w1.heap.size) := HB1.out.size
  generalize w1.heap.size = gl at HL0 HGL ⊢
  go_loopw [7, 9, 10, 11, 19] (fun s7 s9 s10 s11 s19 wr => ∃ i b : Nat, s19 = .int .i64 i ∧ s7 = .int .i64 b ∧ i ≤ n ∧ Fst cost C b i ∧ LowB wr gl cost C b ∧ Below w.heap.size w wr) (fun _ _ _ _ s19 _ => n - (intOf s19).toNat)
  case atStart => exact ⟨0, 0, rfl, rfl, Nat.zero_le _, HS.out, HL0.out.1, HL0.out.2⟩
  case round =>
    obtain ⟨i, b, rfl, rfl, hi, hf, hlb, hb⟩ := hrel
    have HR := hid_of (And.intro hf (And.intro hlb hb))
    clear hf hlb hb
    by_cases hlt : i < n
    · have i1 : (i : Int) < (n : Int) := by omega
      have i2 : (0 : Int) ≤ (i : Int) := by omega
      have hil : i < C.length := by rw [HN.out]; exact hlt
      obtain ⟨hbl, hlow⟩ := HR.out.2.1
      obtain ⟨d0, d1, d2⟩ := HA.out HR.out.2.2 i hil
      have HCI := hid_of (List.getElem_mem hil)
      have HNX := hid_of (And.intro (HR.out.1.stay hil hbl) (HR.out.1.next hil hbl))
      have HPL : Hid (∀ x y : Cnd, plt cost x y ↔ chp (tog cost x.a) x.d (tog cost y.a) y.d < 0) := fun x y => chp_neg.symm
      obtain ⟨y, hy⟩ : ∃ y, C[i] = y := ⟨_, rfl⟩
      obtain ⟨z, hz⟩ : ∃ z, C[b] = z := ⟨_, rfl⟩
      have HYZ := hid_of (And.intro hy hz)
      rw [hy] at d0 d1 d2 HNX HCI
      rw [hz] at hlow HNX
      rw [HPL.out] at HNX
      clear hy hz
      obtain ⟨yp, yd, ya⟩ := y
      obtain ⟨zp, zd, za⟩ := z
      simp only at d0 d1 d2 HNX hlow
      have HLW := hid_of hlow
      have HGW : Hid (gl < wr.heap.size) := (Array.getElem?_eq_some_iff.1 hlow).1
      have HPI := hid_of (HP.out (wr.alloc (.cells #[.string (bs yp), .int .i64 yd, .int .i64 ya] 87)) (bstep HR.out.2.2 (balloc _ _)) _ HCI.out)
      unfold Cnd.val at HPI
      simp only at HPI
      clear hlow
      go_wp2_with fail
      refine HPI.out.mono ?_
      rintro e w2 ⟨rfl, hb2⟩
      have HB2 : Hid (Below wr.heap.size wr w2) := bstep (balloc _ _) hb2
      clear hb2 d0 d1 d2
      have hlow2 : (w2.alloc (.cells #[.int .i64 (tog cost ya), .int .i64 yd] 90)).heap[gl]? = some (.cells #[.int .i64 (tog cost za), .int .i64 zd] 90 (0, 0)) := ((bstep HB2.out (balloc w2 (.cells #[.int .i64 (tog cost ya), .int .i64 yd] 90))).block gl HGW.out).trans HLW.out
      have lc0 : (w2.alloc (.cells #[.int .i64 (tog cost ya), .int .i64 yd] 90)).cell? ⟨gl, 0, none⟩ = some (.int .i64 (tog cost za)) := by simp only [World.cell?, hlow2]; rfl
      have lc1 : (w2.alloc (.cells #[.int .i64 (tog cost ya), .int .i64 yd] 90)).cell? ⟨gl, 1, none⟩ = some (.int .i64 zd) := by simp only [World.cell?, hlow2]; rfl
      have HLW2 := hid_of hlow2
      clear hlow2
      go_wp2_with fail
      refine (HCH.out _ _ _ _ _).mono ?_
      rintro e w3 ⟨rfl, hb3⟩
      obtain ⟨q, hq⟩ : ∃ q, chp (tog cost ya) yd (tog cost za) zd = q := ⟨_, rfl⟩
      rw [hq] at HNX ⊢
      have HB3 : Hid (Below w.heap.size w w3 ∧ Below (w2.alloc (.cells #[.int .i64 (tog cost ya), .int .i64 yd] 90)).heap.size (w2.alloc (.cells #[.int .i64 (tog cost ya), .int .i64 yd] 90)) w3) := ⟨bstep HR.out.2.2 (bstep HB2.out (bstep (balloc _ _) hb3)), hb3⟩
      have HLW3 : Hid (w3.heap[gl]? = some (.cells #[.int .i64 (tog cost za), .int .i64 zd] 90 (0, 0))) := (hb3.block gl (Array.getElem?_eq_some_iff.1 HLW2.out).1).trans HLW2.out
      clear hb3 lc0 lc1 hq
      by_cases hq0 : q < 0
      · have HF := hid_of (HNX.out.2 hq0)
        obtain ⟨gy, hgy⟩ : ∃ gy, w2.heap.size = gy := ⟨_, rfl⟩
        have hyb : w3.heap[gy]? = some (.cells #[.int .i64 (tog cost ya), .int .i64 yd] 90 (0, 0)) := by
          rw [← hgy]
          exact (HB3.out.2.block w2.heap.size (by simp)).trans (heap_alloc_new _ _)
        have hlw := HLW3.out
        have y0 : w3.cell? ⟨gy, 0, none⟩ = some (.int .i64 (tog cost ya)) := by simp only [World.cell?, hyb]; rfl
        have y1 : w3.cell? ⟨gy, 1, none⟩ = some (.int .i64 yd) := by simp only [World.cell?, hyb]; rfl
        have l0 : w3.cell? ⟨gl, 0, none⟩ = some (.int .i64 (tog cost za)) := by simp only [World.cell?, hlw]; rfl
        have l1 : w3.cell? ⟨gl, 1, none⟩ = some (.int .i64 zd) := by simp only [World.cell?, hlw]; rfl
        have f0 : w3.frozen? ⟨gl, 0, none⟩ = false := by simp [World.frozen?, hlw]
        have f1 : w3.frozen? ⟨gl, 1, none⟩ = false := by simp [World.frozen?, hlw]
        have HNE : Hid (gl < gy) := by
          show gl < gy
          have := (Array.getElem?_eq_some_iff.1 HLW.out).1
          have := HB2.out.size
          omega
        have hne2 : gl ≠ gy := Nat.ne_of_lt HNE.out
        rw [hgy]
        clear hyb hlw hgy
        go_wp2_with fail
        go_region
        go_wp2_with fail
        go_roundw
        case rel =>
          refine ⟨i + 1, i, by go_num, rfl, by omega, HF.out, ⟨hil, ?_⟩, ?_⟩
          · rw [HYZ.out.1]
            show ((w3.setCell ⟨gl, 0, none⟩ (.int .i64 (tog cost ya))).setCell ⟨gl, 1, none⟩ (.int .i64 yd)).heap[gl]? = _
            rw [hset _ _ _ _ (hset _ _ _ _ HLW3.out)]
            rfl
          · have ho := ((Only.set w3 gl 0 (.int .i64 (tog cost ya))).trans (Only.set _ gl 1 (.int .i64 yd))).trans (Only.drew _ _ 1)
            exact below_trans HB3.out.1 (ho.below HB3.out.1.size (fun x hx => by have := HGL.out; simp at hx; omega))
        case measure => simp [intOf]; omega
      · have HF := hid_of (HNX.out.1 (by omega))
        go_wp2_with fail
        go_roundw
        case rel => exact ⟨i + 1, b, by go_num, rfl, by omega, HF.out, ⟨hbl, by rw [HYZ.out.2]; exact HLW3.out⟩, HB3.out.1⟩
        case measure => simp [intOf]; omega
    · obtain rfl : i = n := by omega
      have HE : Hid (Fst cost C b C.length) := by have q := HR.out.1; rw [← HN.out] at q; exact q
      go_wp2_with fail
      go_ret
      exact ⟨b, rfl, HE.out, HR.out.2.2⟩
end Go.Proofs.YtbaheiimcnfaaaaGreat

namespace Go.Proofs.YtbaheiimcnfaaaaGreat
open Go.RowKit Go.Maps
attribute [local go_sem] Oper.semAt_some

set_option maxRecDepth 100000 in
set_option maxHeartbeats 1000000 in
theorem common_any (a b : List UInt8) (w : World) (ha : a.length ≤ 1000000000) (hb : b.length ≤ 1000000000) :
    Calls Tryz.prog 86 #[.string (bs a), .string (bs b)] w fun e w' => e = .returned (.string (bs (cmn a b))) ∧ Below w.heap.size w w' := by
  have HA : Hid (a.length ≤ 1000000000 ∧ b.length ≤ 1000000000) := ⟨ha, hb⟩
  have HM := hid_of (meet_any a b w (by omega) (by omega))
  clear ha hb
  have hz : (bs a).size = a.length := rfl
  have hle := cmn_le a b
  have HE : Hid ((bs a).extract 0 (cmn a b).length = bs (cmn a b)) := (extract_to a _).trans (congrArg bs (cmn_take a b).symm)
  go_enter Tryz.func86, Tryz.ntmps86
  go_wp2_with fail
  refine HM.out.mono ?_
  rintro e w1 ⟨rfl, hb1⟩
  have B1 := hid_of hb1.below
  clear hb1
  go_wp2_with fail
  go_ret
  exact ⟨by rw [← HE.out]; rfl, B1.out⟩
theorem step_app_S {ops : Array Oper} {o : Oper} {a : Act} {w : World} {K : Act → World → Prop} {Q : Exit → Act → World → Prop} {E : Prop} (hgd : o.guard = none) (s y : Operand)
    (ho : o.op = .call { callee := .builtin .append, args := #[s, y], argTypes := #[23, 23] }) (base : Nat) (l k : List (List UInt8)) (v x : Value) (hv : a.eval s = v) (hx : a.eval y = x)
    (hown : Own base w v l) (hs : Src Tryz.prog 1 23 x k.length (sc k) w) (hb : l.length + k.length ≤ 100000000) (hbase : base ≤ w.heap.size)
    (h : ∀ v' w', Own base w' v' (l ++ k) → w.grownBy w' v.ownBlock → (v'.ownBlock = v.ownBlock ∨ v'.ownBlock = some w.heap.size) → K (a.put o.dst v') w') :
    if Region.wanted o (yielded ops a.tmps) = true then Oper.wp Tryz.prog o a w K Q else E := by
  have hw : Region.wanted o (yielded ops a.tmps) = true := by simp [Region.wanted, hgd]
  rw [if_pos hw]
  obtain ⟨i0, hi, hz0, hz1, hz2⟩ := info_parts info9
  obtain ⟨v', w', hr, h2, h3, h4⟩ := run_append_src (P := Tryz.prog) w base 23 23 o.type 9 i0 _ 1 16 und70 hi hz0 hz1 hz2 rfl v l.length (sc l) hown x k.length (sc k) hs (by simp only [maxLen]; omega) (by omega) hbase
  unfold Oper.wp execOp
  simp only [ho, resolve, invoke, builtin, Sem.run_bind, Sem.run_pure, Result.andThen_ok, List.map_toArray, List.map_cons, List.map_nil, hv, hx, hr]
  exact h v' w' (by unfold Own; rw [sc_append, List.length_append]; exact h2) h3 h4
theorem src_new (w : World) (p : List UInt8) : Src Tryz.prog 1 23 (.slice (some ⟨w.heap.size, 0, none⟩) 1 1) [p].length (sc [p]) (w.alloc (.cells #[.string (bs p)] 9)) := src_one w p
/-- a row grown behind others: what lies below stays -/
theorem app_keep {base : Nat} {w w' : World} {v : Value} {l : List (List UInt8)} {o : Obj} (hown : Own base w v l) (hg : (w.alloc o).grownBy w' v.ownBlock) (hb : base ≤ w.heap.size) : Below base w w' := by
  have h1 : Below base w (w.alloc o) := (Below.refl _ _).alloc hb _
  exact h1.grown hg (by simp; omega) (fun k hk => (hown.lt hk).1)
theorem cds_take (k : List (List UInt8)) (i : Nat) (h : i + 1 < k.length) : (cds k).take (i + 1) = (cds k).take i ++ [cmn k[i] k[i + 1]] := by
  have hl := cds_len k
  have hi : i < (cds k).length := by omega
  rw [List.take_succ_eq_append_getElem hi]
  have := cds_get k i h
  rw [List.getElem?_eq_getElem hi] at this
  injection this with this
  rw [this]
theorem cds_sm {k : List (List UInt8)} (h : Sm k) : Sm (cds k) := by
  refine ⟨?_, fun x hx => ?_⟩
  · have := cds_len k
    have := h.len
    omega
  · obtain ⟨a, ha, b, _, rfl⟩ := cds_two hx
    have := cmn_le a b
    have := h.each a ha
    omega
set_option maxRecDepth 100000 in
set_option maxHeartbeats 4000000 in
theorem meetings_any {w : World} {v : Value} {k : List (List UInt8)} (h : SS w v k) (sm : Sm k) :
    Calls Tryz.prog 52 #[v] w fun e w' => ∃ v', e = .returned v' ∧ Own w.heap.size w' v' (norm (cds k)) ∧ Below w.heap.size w w' := by
  have HCM := hid_of (fun a c (W : World) (ha : a ∈ k) (hc : c ∈ k) => common_any a c W (sm.each a ha) (sm.each c hc))
  have H := hid_of (And.intro h (And.intro sm (cds_sm sm)))
  have hl := sm.len
  obtain ⟨ad, c, hv, ca⟩ := h.form
  have HA := hid_of ca
  obtain ⟨n, hn⟩ : ∃ n, k.length = n := ⟨_, rfl⟩
  rw [hn] at hv hl
  subst hv
  have HN := hid_of hn
  clear h sm hn ca
  obtain ⟨B, hB⟩ : ∃ B, w.heap.size = B := ⟨_, rfl⟩
  have HB0 := hid_of hB
  go_enter Tryz.func52, Tryz.ntmps52
  go_wp2_with fail
  go_loopw [3, 4] (fun s3 s4 wr => ∃ i : Nat, s4 = .int .i64 ((i : Int) + 1) ∧ i ≤ n ∧ Own B wr s3 ((cds k).take i) ∧ Below B w wr) (fun _ s4 _ => n - (intOf s4).toNat)
  case atStart => exact ⟨0, rfl, by omega, by simpa using Own.nil _ _, Below.refl _ _⟩
  case round =>
    obtain ⟨i, rfl, hi, ho, hb⟩ := hrel
    obtain ⟨ad3, c3, hv3, -⟩ := ho.bs.form
    obtain ⟨m, hm⟩ : ∃ m, ((cds k).take i).length = m := ⟨_, rfl⟩
    rw [hm] at hv3
    subst hv3
    have HR := hid_of (And.intro ho (And.intro hb hm))
    clear ho hb
    by_cases hlt : i + 1 < n
    · have i1 : (i : Int) + 1 < (n : Int) := by omega
      have i2 : (0 : Int) ≤ (i : Int) := by omega
      have i3 : (0 : Int) ≤ (i : Int) + 1 := by omega
      have i4 : (i : Int) < (n : Int) := by omega
      have i5 : IntKind.i64.wrap ((i : Int) + 1 - 1) = (i : Int) := by rw [IntKind.wrap_i64]; omega
      have i6 : IntKind.i64.wrap (i : Int) = (i : Int) := by rw [IntKind.wrap_i64]; omega
      have i7 : wrap64 ((i : Int) + 1 - 1) = (i : Int) := by unfold wrap64; omega
      have i8 : wrap64 (i : Int) = (i : Int) := by unfold wrap64; omega
      have hil : i + 1 < k.length := by rw [HN.out]; exact hlt
      obtain ⟨g, off, e4, hg, hc1⟩ := HA.out (i + 1) hil
      subst e4
      obtain ⟨g', off', e4', hg', hc0⟩ := HA.out i (by omega)
      cases e4'
      have HT := hid_of (cds_take k i hil)
      have HCI := hid_of (fun W => HCM.out _ _ W (List.getElem_mem (show i < k.length by omega)) (List.getElem_mem hil))
      have c0 : wr.cell? ⟨g, off + i, none⟩ = some (.string (bs k[i])) := (HR.out.2.1.cell (p := ⟨g, off + i, none⟩) (by show g < B; omega)).trans hc0
      have c1 : wr.cell? ⟨g, off + (i + 1), none⟩ = some (.string (bs k[i + 1])) := (HR.out.2.1.cell (p := ⟨g, off + (i + 1), none⟩) (by show g < B; omega)).trans hc1
      generalize k[i] = x at c0 HT HCI
      generalize k[i + 1] = y at c1 HT HCI
      obtain ⟨z, hz⟩ : ∃ z, cmn x y = z := ⟨_, rfl⟩
      rw [hz] at HT HCI
      have hwr : B ≤ wr.heap.size := by have := HR.out.2.1.size; omega
      have hgB : g < B := by omega
      have hmb : m ≤ 4000000 := by have := HR.out.2.2; rw [← this]; have := cds_len k; simp; omega
      clear hc0 hc1 hz hm
      go_wp2_with fail
      go_region_held3 (fun w' => w'.cell? ⟨g, off + i, none⟩ = some (.string (bs x)) ∧ w'.cell? ⟨g, off + (i + 1), none⟩ = some (.string (bs y))) (first | (with_reducible exact ⟨c0, c1⟩) | (with_reducible exact KA.out) | (with_reducible exact KB.out) | go_keep) (first | (go_at_call 86; refine (HCI.out _).mono ?_; rintro e w1 ⟨rfl, hb1⟩; have HB1 : Hid (Below wr.heap.size wr w1) := bstep (Below.refl _ _).drew hb1; have KA : Hid (w1.cell? ⟨g, off + i, none⟩ = some (.string (bs x)) ∧ w1.cell? ⟨g, off + (i + 1), none⟩ = some (.string (bs y))) := ⟨(HB1.out.cell (p := ⟨g, off + i, none⟩) (by show g < _; omega)).trans c0, (HB1.out.cell (p := ⟨g, off + (i + 1), none⟩) (by show g < _; omega)).trans c1⟩; clear hb1) | (refine step_app_S rfl (.tmp 11) (.tmp 22) rfl B ((cds k).take i) [z] (.slice ad3 m c3) _ rfl rfl (HR.out.1.later (bstep HB1.out (balloc _ _))) (src_new w1 z) (by rw [HR.out.2.2]; simp; omega) (by have := HB1.out.size; simp; omega) ?_; intro v2 w2 ho2 hg2 hl2; have HB2 : Hid (Below B w1 w2 ∧ Own B w2 v2 ((cds k).take i ++ [z])) := ⟨app_keep (HR.out.1.later HB1.out) hg2 (by have := HB1.out.size; omega), ho2⟩; have KB : Hid (w2.cell? ⟨g, off + i, none⟩ = some (.string (bs x)) ∧ w2.cell? ⟨g, off + (i + 1), none⟩ = some (.string (bs y))) := ⟨(HB2.out.1.cell (p := ⟨g, off + i, none⟩) hgB).trans KA.out.1, (HB2.out.1.cell (p := ⟨g, off + (i + 1), none⟩) hgB).trans KA.out.2⟩; clear ho2 hg2 hl2))
      have HE : Hid (Own B w2 v2 ((cds k).take (i + 1)) ∧ Below B w w2) := ⟨by rw [HT.out]; exact HB2.out.2, below_trans HR.out.2.1 (below_trans (below_mono HB1.out hwr) HB2.out.1)⟩
      go_wp2_with fail
      go_roundw
      case rel => exact ⟨i + 1, by go_num, by omega, HE.out.1, HE.out.2⟩
      case measure => simp [intOf]; omega
    · have hbn' : ¬ ((i : Int) + 1 < (n : Int)) := by omega
      have HE : Hid (Own B wr (.slice ad3 m c3) (cds k)) := by
        have q := HR.out.1
        rw [List.take_of_length_le (by have := cds_len k; have := HN.out; omega)] at q
        exact q
      have hwr : B ≤ wr.heap.size := by have := HR.out.2.1.size; omega
      have HSO := hid_of (ssort_any HE.out H.out.2.2 hwr)
      clear hm
      go_wp2_with fail
      refine HSO.out.mono ?_
      rintro e w1 ⟨rfl, ts, hp, hpw, ho1, hb1⟩
      have HTS : Sm ts := ⟨by rw [hp.length_eq]; exact H.out.2.2.len, fun x hx => H.out.2.2.each x (hp.mem_iff.1 hx)⟩
      have HCO := hid_of (compact_any ho1 HTS hpw (Nat.le_trans hwr hb1.size))
      have HNO : Hid (norm ts = norm (cds k)) := norm_of (up_norm _) fun x => by rw [mem_norm]; exact hp.mem_iff.symm
      have HB1 := hid_of (below_trans HR.out.2.1 hb1)
      rw [HNO.out] at HCO
      clear hp hpw ho1 hb1 HTS
      go_wp2_with fail
      refine HCO.out.mono ?_
      rintro e w2 ⟨v2, rfl, ho2, hb2⟩
      have HB2 := hid_of (And.intro ho2 (below_trans HB1.out hb2))
      clear ho2 hb2
      go_wp2_with fail
      go_ret
      rw [HB0.out]
      exact ⟨v2, rfl, HB2.out.1, HB2.out.2⟩
end Go.Proofs.YtbaheiimcnfaaaaGreat
