import Derived.Test.YtefhdnhhcgbbjaaStep
import Derived.Deep.QuietTactic
import Derived.BigQuiet
import Derived.Deep.RegionWith
namespace Go.Proofs.Ytefhdnhhcgbbjaa
open Go.RowKit

/-- a script that came in -/
def Scr (w : World) (v : Value) (sc : List (Int × Int)) : Prop :=
  ∃ a c, v = .slice a sc.length c ∧ sc.length ≤ c ∧ ∀ i, (h : i < sc.length) → ∃ b off, a = some ⟨b, off, none⟩ ∧ b < w.heap.size ∧ w.cell? ⟨b, off + i * 2, none⟩ = some (.int .i64 sc[i].1) ∧ w.cell? ⟨b, off + i * 2 + 1, none⟩ = some (.int .i64 sc[i].2)

/-- append onto a new empty list -/
theorem app_new {w : World} {v : Value} {l : List UInt8} (h : BS w v l) (hl : l.length ≤ 140737488355328) (H : Nat) (hH : w.heap.size = H)
    {ops : Array Oper} {rest : List Oper} {o : Oper} {a : Act} {Q : Exit → Act → World → Prop} (hgd : o.guard = none) (s y : Operand)
    (ho : o.op = .call { callee := .builtin .append, args := #[s, y], argTypes := #[27, 27] }) (hv : a.eval s = .slice (some ⟨H, 0, none⟩) 0 0) (hx : a.eval y = v)
    (k : ∀ d cap w', Own w.heap.size w' (.slice (some ⟨d, 0, none⟩) l.length cap) l → Below w.heap.size w w' → l.length ≤ cap → w.heap.size ≤ d → d < w'.heap.size → wpList Try.prog ops Q rest (a.put o.dst (.slice (some ⟨d, 0, none⟩) l.length cap)) w') :
    wpList Try.prog ops Q (o :: rest) a (w.alloc (.cells #[] 5)) := by
  subst hH
  refine app_bytes (base := w.heap.size) (l := []) (k := l) (tx := 27) (World.ownsRow_made w #[] 0 (Nat.le_refl _) (by simp [maxLen]) rfl) ((h.later (balloc w _)).src und27) (by simpa using hl) (by simp) hgd s y ho hv hx ?_
  intro v' w' h1 h2 h3
  rw [List.nil_append] at h1
  obtain ⟨d, hd⟩ : ∃ d, v'.ownBlock = some d := by rcases h3 with h | h <;> exact ⟨_, h⟩
  obtain ⟨cap, rfl, hlc, hbd, hdw⟩ := h1.form hd
  exact k d cap w' h1 ((balloc w _).grown h2 (by simp) (by intro k hk; simp [Value.ownBlock] at hk; omega)) hlc hbd hdw

/-- a reader that was made in place -/
theorem RD.made {w : World} {base d cap : Nat} {l : List UInt8} (ho : Own base w (.slice (some ⟨d, 0, none⟩) l.length cap) l) (hl : l.length ≤ 140737488355328) (hlc : l.length ≤ cap) (hd : d < w.heap.size) (t : TypeId) :
    RD (w.alloc (.cells #[.slice (some ⟨d, 0, none⟩) l.length cap] t)) w.heap.size d l := by
  refine ⟨0, cap, by simp, by simp, hlc, by simp, by simp; omega, by omega, hl, fun i u hu => ?_⟩
  have hc := World.ownsRow.cells ho (g := d) rfl i u hu
  rw [add_lit] at hc
  rw [Below.cell (B := w.heap.size) ((Below.refl _ _).alloc (Nat.le_refl _) _) (p := ⟨d, 0 + i, none⟩) hd]
  exact hc

theorem Only.drewN (w : World) (n : Nat) (S : List Nat) : Only S w (w.drewN n) := ⟨by first | rfl | simp, by first | rfl | simp, by first | rfl | simp, by first | rfl | simp, fun _ _ _ => by first | rfl | simp⟩
theorem RD.drewN {w : World} {g d : Nat} {l : List UInt8} (h : RD w g d l) (n : Nat) : RD (w.drewN n) g d l := h.only (Only.drewN w n []) (by simp) (by simp)
theorem RD.cell {w : World} {g d : Nat} {l : List UInt8} (h : RD w g d l) : ∃ a c, w.cell? ⟨g, 0, none⟩ = some (.slice a l.length c) := by
  obtain ⟨off, cap, hc, _⟩ := h
  exact ⟨_, _, hc⟩
theorem Only.set (w : World) (g o : Nat) (v : Value) : Only [g] w (w.setCell ⟨g, o, none⟩ v) :=
  ⟨rfl, rfl, rfl, by simp [World.setCell], fun k _ hn => Below.heap_setCell _ _ _ _ (fun e => hn (by simp [e]))⟩
theorem cells_set {w : World} {g n k : Nat} {z y : Int} (h : ∀ j, j < n → (∃ z, w.cell? ⟨g, j, none⟩ = some (.int .u8 z)) ∧ w.frozen? ⟨g, j, none⟩ = false) (hk : w.cell? ⟨g, k, none⟩ = some (.int .u8 z)) :
    ∀ j, j < n → (∃ z, (w.setCell ⟨g, k, none⟩ (.int .u8 y)).cell? ⟨g, j, none⟩ = some (.int .u8 z)) ∧ (w.setCell ⟨g, k, none⟩ (.int .u8 y)).frozen? ⟨g, j, none⟩ = false := by
  intro j hj
  obtain ⟨⟨x, hx⟩, hf⟩ := h j hj
  refine ⟨?_, by simp [hf]⟩
  by_cases e : j = k
  · subst e
    exact ⟨y, World.cell?_setCell_same w _ _ hk⟩
  · exact ⟨x, by rw [World.cell?_setCell_other _ _ _ _ (by intro h; cases h; exact e rfl)]; exact hx⟩

set_option maxRecDepth 100000 in
set_option maxHeartbeats 2000000 in
theorem reads_walk {w : World} {a b s : Value} {la lb : List UInt8} {sc : List (Int × Int)} (ha : BS w a la) (hb : BS w b lb) (hs : Scr w s sc) (h1 : la.length ≤ 140737488351232) (h2 : lb.length ≤ 140737488351232) (h3 : sc.length ≤ 140737488351232) :
    Calls Try.prog 6 #[a, b, s] w fun e w' => e = .returned (.bool true) ∧ Below w.heap.size w w' := by
  have HA : Hid (BS w a la) := ha
  have HB : Hid (BS w b lb) := hb
  obtain ⟨sa, scap, rfl, hsc, hscell⟩ := hs
  have HS : Hid (∀ i, (h : i < sc.length) → ∃ b off, sa = some ⟨b, off, none⟩ ∧ b < w.heap.size ∧ w.cell? ⟨b, off + i * 2, none⟩ = some (.int .i64 sc[i].1) ∧ w.cell? ⟨b, off + i * 2 + 1, none⟩ = some (.int .i64 sc[i].2)) := hscell
  clear ha hb hscell
  go_enter Try.func6, Try.ntmps6
  go_wp2_with fail
  refine (head_any w).mono ?_
  rintro e w1 ⟨rfl, hb1⟩
  have B1 : Hid (Below w.heap.size w w1) := hb1
  clear hb1
  go_wp2_with fail
  refine (lent_any (HA.out.later B1.out) h1).mono ?_
  rintro e w2 ⟨vl, rfl, hl2, hb2⟩
  have B2 : Hid (Below w.heap.size w w2) := bstep B1.out hb2
  have L2 : Hid (Lent w1.heap.size w2 vl la) := hl2
  clear hb2 hl2
  go_wp2_with fail
  refine (lent_any (HB.out.later B2.out) h2).mono ?_
  rintro e w3 ⟨vm, rfl, hl3, hb3⟩
  have B3 : Hid (Below w.heap.size w w3) := bstep B2.out hb3
  have L3 : Hid (Lent w1.heap.size w3 vl la) := L2.out.later hb3 L2.out.blk
  have M3 : Hid (Lent w2.heap.size w3 vm lb) := hl3
  have hlb : ∀ k, vl.ownBlock = some k → w1.heap.size ≤ k ∧ k < w3.heap.size := by
    obtain ⟨g, c, rfl, ho⟩ := L3.out
    intro k hk
    exact World.ownsRow.lt ho k hk
  have HLB : Hid (∀ k, vl.ownBlock = some k → w1.heap.size ≤ k ∧ k < w3.heap.size) := hlb
  clear hlb
  clear hb3 hl3 L2
  go_wp2_with fail
  refine (newreader_any L3.out.bs (by omega)).mono ?_
  rintro e w4 ⟨gr, dr, rfl, hr4, hgr, hdr, hb4⟩
  have B4 : Hid (Below w.heap.size w w4) := bstep B3.out hb4
  have L4 : Hid (Lent w1.heap.size w4 vl la) := L3.out.later hb4 L3.out.blk
  have M4 : Hid (Lent w2.heap.size w4 vm lb) := M3.out.later hb4 M3.out.blk
  have R4 : Hid (RD w4 gr dr la) := hr4
  have hrb : gr < w4.heap.size ∧ dr < w4.heap.size ∧ dr ≠ gr := by obtain ⟨_, _, _, _, _, x1, x2, x3, _⟩ := hr4; exact ⟨x1, x2, x3⟩
  clear hb4 hr4
  go_wp2_with fail
  refine (newreader_any M4.out.bs (by omega)).mono ?_
  rintro e w5 ⟨gs, ds, rfl, hs5, hgs, hds, hb5⟩
  have B5 : Hid (Below w.heap.size w w5) := bstep B4.out hb5
  have L5 : Hid (Lent w1.heap.size w5 vl la) := L4.out.later hb5 L4.out.blk
  have M5 : Hid (Lent w2.heap.size w5 vm lb) := M4.out.later hb5 M4.out.blk
  have R5 : Hid (RD w5 gr dr la) := R4.out.later hb5
  have S5 : Hid (RD w5 gs ds lb) := hs5
  have hsb : gs < w5.heap.size ∧ ds < w5.heap.size ∧ ds ≠ gs := by obtain ⟨_, _, _, _, _, x1, x2, x3, _⟩ := hs5; exact ⟨x1, x2, x3⟩
  clear hb5 hs5
  go_wp2_with (first | (at_builtin; refine app_new (HA.out.later B5.out) (by omega) _ rfl rfl (.tmp 26) (.tmp 27) rfl rfl rfl ?_; intro dp capp w6 ho6 hb6 hc6 hd6 hdw6) | (at_builtin; refine app_new (w := w6.alloc (.cells #[.slice (some ⟨dp, 0, none⟩) la.length capp] 55)) (HB.out.later (bstep (bstep B5.out hb6) (balloc w6 _))) (by omega) (w6.heap.size + 1) (by simp) rfl (.tmp 31) (.tmp 32) rfl rfl rfl ?_; intro dq capq w7 ho7 hb7 hc7 hd7 hdw7))
  have hz5 := B5.out.size
  have B6 : Hid (Below w.heap.size w (w6.alloc (.cells #[.slice (some ⟨dp, 0, none⟩) la.length capp] 55))) := bstep (bstep B5.out hb6) (balloc w6 _)
  have B7 : Hid (Below w.heap.size w (w7.alloc (.cells #[.slice (some ⟨dq, 0, none⟩) lb.length capq] 55))) := bstep (bstep B6.out hb7) (balloc w7 _)
  have C7 : Hid (Below w5.heap.size w5 (w7.alloc (.cells #[.slice (some ⟨dq, 0, none⟩) lb.length capq] 55))) := bstep (bstep (bstep hb6 (balloc w6 _)) hb7) (balloc w7 _)
  have P7 : Hid (RD (w7.alloc (.cells #[.slice (some ⟨dq, 0, none⟩) lb.length capq] 55)) w6.heap.size dp la) := (RD.made ho6 (by omega) hc6 hdw6 55).later (bstep hb7 (balloc w7 _))
  have Q7 : Hid (RD (w7.alloc (.cells #[.slice (some ⟨dq, 0, none⟩) lb.length capq] 55)) w7.heap.size dq lb) := RD.made ho7 (by omega) hc7 hdw7 55
  have hz7 : w6.heap.size + 1 ≤ w7.heap.size := by have := hb7.size; simpa using this
  have hd7' : w6.heap.size + 1 ≤ dq := by simpa using hd7
  have hz6 := hb6.size
  clear ho6 hb6 ho7 hb7 hd7 B6
  generalize w7.alloc (.cells #[.slice (some ⟨dq, 0, none⟩) lb.length capq] 55) = w8 at *
  have L8 : Hid (Lent w1.heap.size w8 vl la) := L5.out.later C7.out L5.out.blk
  have M8 : Hid (Lent w2.heap.size w8 vm lb) := M5.out.later C7.out M5.out.blk
  have R8 : Hid (RD w8 gr dr la) := R5.out.later C7.out
  have S8 : Hid (RD w8 gs ds lb) := S5.out.later C7.out
  refine (kept_any L8.out (HA.out.later B7.out) h1).mono ?_
  rintro e w' ⟨rfl, rfl⟩
  go_wp2_with fail
  refine (kept_any M8.out (HB.out.later B7.out) h2).mono ?_
  rintro e w8 ⟨rfl, rfl⟩
  clear M8 M3 M4 M5 L3 L4 L5 R4 R5 S5
  obtain ⟨gl, cl, rfl, hol⟩ := L8.out
  have hglb := HLB.out gl rfl
  have hcl : la.length + 300 ≤ cl := by
    rcases hol.2 with ⟨h, _⟩ | ⟨g', cap', cur, hv, _, _, hn, _⟩
    · cases h
    · obtain ⟨_, _, _, rfl⟩ := slice_inj hv; simpa [marks_length] using hn
  have HC : Hid (∀ j, j < la.length → (∃ z, w8.cell? ⟨gl, j, none⟩ = some (.int .u8 z)) ∧ w8.frozen? ⟨gl, j, none⟩ = false) := by
    intro j hj
    have hlen : (la ++ marks 300).length = la.length + 300 := by simp [marks_length]
    have hol' : w8.ownsRow w1.heap.size 5 1 (.slice (some ⟨gl, 0, none⟩) (la.length + 300) cl) (la.length + 300) (bc (la ++ marks 300)) := by rw [← hlen]; rw [hlen]; have := hol; unfold Own at this; rw [hlen] at this; exact this
    refine ⟨⟨(la[j].toNat : Nat), ?_⟩, World.ownsRow.frozenAt hol' j⟩
    rw [World.ownsRow.cellAt hol' j (by omega), bc_get, List.getElem?_append_left hj, List.getElem?_eq_getElem hj]
    rfl
  have hz1 := B1.out.size
  have hgw : w.heap.size ≤ gl := by omega
  clear hol L8 HLB
  go_wp2_with fail
  go_loopw [13] (fun i wr => ∃ k : Nat, k ≤ la.length ∧ i = .int .i64 k ∧ Only [gl] w8 wr ∧ (∀ j, j < la.length → (∃ z, wr.cell? ⟨gl, j, none⟩ = some (.int .u8 z)) ∧ wr.frozen? ⟨gl, j, none⟩ = false)) (fun i _ => la.length - (intOf i).toNat)
  case atStart => exact ⟨0, Nat.zero_le _, rfl, Only.refl _ _, HC.out⟩
  case round =>
    obtain ⟨k, hk, rfl, hon, hcs⟩ := hrel
    have HO : Hid (Only [gl] w8 wr) := hon
    have HCS : Hid (∀ j, j < la.length → (∃ z, wr.cell? ⟨gl, j, none⟩ = some (.int .u8 z)) ∧ wr.frozen? ⟨gl, j, none⟩ = false) := hcs
    clear hon hcs
    by_cases hlt : k < la.length
    · obtain ⟨⟨z, hz⟩, hf⟩ := HCS.out k hlt
      go_wp2_with fail
      go_roundw
      case rel =>
        refine ⟨k + 1, by omega, by go_num, HO.out.trans ?_, ?_⟩
        · exact Only.set _ _ _ _
        · exact cells_set HCS.out hz
      case measure => simp [intOf]; omega
    · have R9 : Hid (RD wr gr dr la) := R8.out.only HO.out (by simp; omega) (by simp; omega)
      have S9 : Hid (RD wr gs ds lb) := S8.out.only HO.out (by simp; omega) (by simp; omega)
      have P9 : Hid (RD wr w6.heap.size dp la) := P7.out.only HO.out (by simp; omega) (by simp; omega)
      have Q9 : Hid (RD wr w7.heap.size dq lb) := Q7.out.only HO.out (by simp; omega) (by simp; omega)
      have B9 : Hid (Below w.heap.size w wr) := B7.out.trans (HO.out.below B7.out.size (by simp; omega))
      obtain ⟨gp, hgp⟩ : ∃ gp, w6.heap.size = gp := ⟨_, rfl⟩
      obtain ⟨gq, hgq⟩ : ∃ gq, w7.heap.size = gq := ⟨_, rfl⟩
      rw [hgp] at P9
      rw [hgq] at Q9
      have n1 : gr ≠ gp := by omega
      have n2 : dr ≠ gp := by omega
      have n3 : dp ≠ gr := by omega
      have n4 : gs ≠ gq := by omega
      have n5 : ds ≠ gq := by omega
      have n6 : dq ≠ gs := by omega
      have n7 : gr ∉ [gs, gq] ∧ dr ∉ [gs, gq] ∧ gp ∉ [gs, gq] ∧ dp ∉ [gs, gq] := by simp; omega
      have n8 : gs ∉ [gr, gp] ∧ ds ∉ [gr, gp] ∧ gq ∉ [gr, gp] ∧ dq ∉ [gr, gp] := by simp; omega
      have N7 : Hid (gr ∉ [gs, gq] ∧ dr ∉ [gs, gq] ∧ gp ∉ [gs, gq] ∧ dp ∉ [gs, gq]) := n7
      have N8 : Hid (gs ∉ [gr, gp] ∧ ds ∉ [gr, gp] ∧ gq ∉ [gr, gp] ∧ dq ∉ [gr, gp]) := n8
      have N9 : Hid (w.heap.size ≤ gr ∧ w.heap.size ≤ gp ∧ w.heap.size ≤ gs ∧ w.heap.size ≤ gq) := by refine ⟨?_, ?_, ?_, ?_⟩ <;> omega
      clear n7 n8
      go_wp2_with fail
      rw [hgp, hgq]
      clear hgp hgq HO HCS HC R8 S8 P7 Q7 C7 B7
      go_loopw [14] (fun i wr => ∃ k : Nat, k ≤ sc.length ∧ i = .int .i64 k ∧ (∃ a', RD wr gr dr a' ∧ RD wr gp dp a') ∧ (∃ b', RD wr gs ds b' ∧ RD wr gq dq b') ∧ Below w.heap.size w wr) (fun i _ => sc.length - (intOf i).toNat)
      case atStart => exact ⟨0, Nat.zero_le _, rfl, ⟨_, R9.out, P9.out⟩, ⟨_, S9.out, Q9.out⟩, B9.out⟩
      case round =>
        clear R9 S9 P9 Q9 B9 hlt
        obtain ⟨i, hi, rfl, ⟨a', hra, hpa⟩, ⟨b', hsb', hqb⟩, hbw⟩ := hrel
        have HR : Hid (RD wr gr dr a') := hra
        have HP : Hid (RD wr gp dp a') := hpa
        have HS' : Hid (RD wr gs ds b') := hsb'
        have HQ : Hid (RD wr gq dq b') := hqb
        have HW : Hid (Below w.heap.size w wr) := hbw
        clear hra hpa hsb' hqb hbw
        by_cases hlt : i < sc.length
        · obtain ⟨sb, so, rfl, hsbw, hc00, hc11⟩ := HS.out i hlt
          have hc0 : Hid (w.cell? ⟨sb, so + i * 2, none⟩ = some (.int .i64 sc[i].1)) := hc00
          have hc1 : Hid (w.cell? ⟨sb, so + i * 2 + 1, none⟩ = some (.int .i64 sc[i].2)) := hc11
          clear hc00 hc11
          have hc0' : wr.cell? ⟨sb, so + i * 2, none⟩ = some (.int .i64 sc[i].1) := by rw [HW.out.cell (p := ⟨sb, so + i * 2, none⟩) hsbw]; exact hc0.out
          have hc1' : wr.cell? ⟨sb, so + i * 2 + 1, none⟩ = some (.int .i64 sc[i].2) := by rw [HW.out.cell (p := ⟨sb, so + i * 2 + 1, none⟩) hsbw]; exact hc1.out
          go_wp2_with fail
          refine (step_any HR.out HP.out n1 n2 n3 sc[i].1 sc[i].2).mono ?_
          rintro e wa ⟨rfl, hra, hpa, hoa⟩
          have HR1 : Hid (RD wa gr dr (nextL sc[i].1 sc[i].2 a')) := hra
          have HP1 : Hid (RD wa gp dp (nextL sc[i].1 sc[i].2 a')) := hpa
          have HS1 : Hid (RD wa gs ds b') := HS'.out.only hoa N8.out.1 N8.out.2.1
          have HQ1 : Hid (RD wa gq dq b') := HQ.out.only hoa N8.out.2.2.1 N8.out.2.2.2
          have HW1 : Hid (Below w.heap.size w wa) := HW.out.trans (hoa.below HW.out.size (by have := N9.out; simp; omega))
          clear hra hpa hoa HR HP HS' HQ HW hc0' hc1'
          generalize nextL sc[i].1 sc[i].2 a' = a2 at *
          by_cases hp : (i : Int) % 2 = 0
          · have hp' : (((i : Int) % 2) == 0) = true := by rw [beq_iff_eq]; exact hp
            have hc0' : wa.cell? ⟨sb, so + i * 2, none⟩ = some (.int .i64 sc[i].1) := by rw [HW1.out.cell (p := ⟨sb, so + i * 2, none⟩) hsbw]; exact hc0.out
            have hc1' : wa.cell? ⟨sb, so + i * 2 + 1, none⟩ = some (.int .i64 sc[i].2) := by rw [HW1.out.cell (p := ⟨sb, so + i * 2 + 1, none⟩) hsbw]; exact hc1.out
            clear hp
            go_wp2_with fail
            refine (step_any HS1.out HQ1.out n4 n5 n6 sc[i].1 sc[i].2).mono ?_
            rintro e wb ⟨rfl, hsb2, hqb2, hob⟩
            have HS2 : Hid (RD wb gs ds (nextL sc[i].1 sc[i].2 b')) := hsb2
            have HQ2 : Hid (RD wb gq dq (nextL sc[i].1 sc[i].2 b')) := hqb2
            have HR2 : Hid (RD wb gr dr a2) := HR1.out.only hob N7.out.1 N7.out.2.1
            have HP2 : Hid (RD wb gp dp a2) := HP1.out.only hob N7.out.2.2.1 N7.out.2.2.2
            have HW2 : Hid (Below w.heap.size w wb) := HW1.out.trans (hob.below HW1.out.size (by have := N9.out; simp; omega))
            clear hsb2 hqb2 hob HR1 HP1 HS1 HQ1 HW1 hc0' hc1'
            generalize nextL sc[i].1 sc[i].2 b' = b2 at *
            obtain ⟨xa, xc, hxc⟩ := HP2.out.cell
            obtain ⟨ya, yc, hyc⟩ := HQ2.out.cell
            go_wp2_with fail
            go_quiet ((first | (go_at_call_of 11 (Value.pointer (some ⟨gr, 0, none⟩)); exact Calls.quiet_of_same (left_any (HR2.out.drewN _))) | (go_at_call_of 11 (Value.pointer (some ⟨gs, 0, none⟩)); exact Calls.quiet_of_same (left_any (HS2.out.drewN _))) | (go_at_call_of 13 (Value.pointer (some ⟨gr, 0, none⟩)); exact Calls.quiet_of_same (end_any (HR2.out.drewN _))) | (go_at_call_of 13 (Value.pointer (some ⟨gs, 0, none⟩)); exact Calls.quiet_of_same (end_any (HS2.out.drewN _))) | (go_at_call_of 27 (Value.pointer (some ⟨gp, 0, none⟩)); exact Calls.quiet_of_same (rend_any (HP2.out.drewN _))) | (go_at_call_of 27 (Value.pointer (some ⟨gq, 0, none⟩)); exact Calls.quiet_of_same (rend_any (HQ2.out.drewN _)))))
            go_wp2_with fail
            go_roundw
            case rel => exact ⟨i + 1, by omega, by go_num, ⟨a2, HR2.out.drewN _, HP2.out.drewN _⟩, ⟨b2, HS2.out.drewN _, HQ2.out.drewN _⟩, HW2.out.trans ((Only.drewN _ _ []).below HW2.out.size (by simp))⟩
            case measure => simp [intOf]; omega
          · have hp' : (((i : Int) % 2) == 0) = false := by rw [beq_eq_false_iff_ne]; exact hp
            clear hp
            have HR2 := HR1
            have HP2 := HP1
            have HS2 := HS1
            have HQ2 := HQ1
            have HW2 := HW1
            obtain ⟨xa, xc, hxc⟩ := HP2.out.cell
            obtain ⟨ya, yc, hyc⟩ := HQ2.out.cell
            go_wp2_with fail
            go_quiet ((first | (go_at_call_of 11 (Value.pointer (some ⟨gr, 0, none⟩)); exact Calls.quiet_of_same (left_any (HR2.out.drewN _))) | (go_at_call_of 11 (Value.pointer (some ⟨gs, 0, none⟩)); exact Calls.quiet_of_same (left_any (HS2.out.drewN _))) | (go_at_call_of 13 (Value.pointer (some ⟨gr, 0, none⟩)); exact Calls.quiet_of_same (end_any (HR2.out.drewN _))) | (go_at_call_of 13 (Value.pointer (some ⟨gs, 0, none⟩)); exact Calls.quiet_of_same (end_any (HS2.out.drewN _))) | (go_at_call_of 27 (Value.pointer (some ⟨gp, 0, none⟩)); exact Calls.quiet_of_same (rend_any (HP2.out.drewN _))) | (go_at_call_of 27 (Value.pointer (some ⟨gq, 0, none⟩)); exact Calls.quiet_of_same (rend_any (HQ2.out.drewN _)))))
            go_wp2_with fail
            go_roundw
            case rel => exact ⟨i + 1, by omega, by go_num, ⟨a2, HR2.out.drewN _, HP2.out.drewN _⟩, ⟨b', HS2.out.drewN _, HQ2.out.drewN _⟩, HW2.out.trans ((Only.drewN _ _ []).below HW2.out.size (by simp))⟩
            case measure => simp [intOf]; omega
        · go_wp2_with fail
          go_ret
          exact ⟨rfl, HW.out⟩

end Go.Proofs.Ytefhdnhhcgbbjaa
