/-
  What the laws ask of the package; the document's second example.
  The law CacheLoads.
-/
import Derived.Test.YtddaoloabfkheaaGreatDoorCh
import Derived.OrdersHeld
import Derived.Deep.Cut
namespace Go.Proofs.YtddaoloabfkheaaGreatDoor
open Go.RowKit

/-- what Load answers: a cache of these bytes, or none -/
def LdC (CA : World → (Nat → Prop) → Nat → List Lb → Prop) (w : World) (b : List UInt8) (e : Ending) (w' : World) : Prop :=
  Below w.heap.size w w' ∧ ((∃ K g, OKK K ∧ savB K = b ∧ e = .returned (.tuple #[.pointer (some ⟨g, 0, none⟩), .int .i64 0]) ∧ CA w' (fun k => w.heap.size ≤ k ∧ k < w'.heap.size) g K)
    ∨ ((∀ K, OKK K → savB K = b → False) ∧ e = .returned (.tuple #[.pointer none, .int .i64 14])))
/-- a cache of the program's: its keys, its blocks, what it answers -/
structure CcP (CA : World → (Nat → Prop) → Nat → List Lb → Prop) : Prop where
  stay : ∀ {w w' F c K}, CA w F c K → w.heap.size ≤ w'.heap.size → (∀ k, F k → w'.heap[k]? = w.heap[k]?) → CA w' F c K
  wider : ∀ {w F F' c K}, CA w F c K → (∀ k, F k → F' k) → (∀ k, F' k → k < w.heap.size) → CA w F' c K
  lt : ∀ {w F c K}, CA w F c K → ∀ k, F k → k < w.heap.size
  ok : ∀ {w F c K}, CA w F c K → OKK K
  new : ∀ w : World, Calls Tryz.prog 8 #[] w fun e w' => ∃ c, e = .returned (.pointer (some ⟨c, 0, none⟩)) ∧ CA w' (fun k => w.heap.size ≤ k ∧ k < w'.heap.size) c [] ∧ Below w.heap.size w w'
  put : ∀ {w F c K}, CA w F c K → Ev w → ∀ p t : List UInt8, p.length ≤ 1000000000 → t.length ≤ 1000000000 → Calls Tryz.prog 10 #[.pointer (some ⟨c, 0, none⟩), .string (bs p), .string (bs t)] w fun e w' => e = .returned (.int .i64 (pcod p t)) ∧ CA w' (nwF F w w') c (putA K p t) ∧ OnlyP F w w'
  get : ∀ {w F c K}, CA w F c K → Ev w → ∀ p t : List UInt8, p.length ≤ 1000000000 → t.length ≤ 1000000000 → Calls Tryz.prog 13 #[.pointer (some ⟨c, 0, none⟩), .string (bs p), .string (bs t)] w (LsG w (gtK K p t))
  len : ∀ {w F c K}, CA w F c K → Calls Tryz.prog 12 #[.pointer (some ⟨c, 0, none⟩)] w fun e w' => e = .returned (.int .i64 K.length) ∧ Below w.heap.size w w'
  save : ∀ {w F c K}, CA w F c K → Ev w → Calls Tryz.prog 14 #[.pointer (some ⟨c, 0, none⟩)] w fun e w' => ∃ v', e = .returned v' ∧ OwnB w.heap.size w' v' (savB K) ∧ Below w.heap.size w w'
  load : ∀ {w v b}, BS w v b → Ev w → b.length ≤ 4000000000 → Calls Tryz.prog 15 #[v] w (LdC CA w b)
section
variable {CA : World → (Nat → Prop) → Nat → List Lb → Prop} {w w' : World} {F G : Nat → Prop} {c : Nat} {K : List Lb}
theorem CcP.later (C : CcP CA) (h : CA w F c K) (hb : Below w.heap.size w w') : CA w' F c K := C.stay h hb.size (fun k hk => hb.block k (C.lt h k hk))
theorem CcP.only (C : CcP CA) (h : CA w F c K) (hb : OnlyP G w w') (hd : ∀ k, F k → ¬ G k) : CA w' F c K := C.stay h hb.size (fun k hk => hb.block k (C.lt h k hk) (hd k hk))
end
theorem savB_le {K : List Lb} (h : OKK K) : (savB K).length ≤ 4000000000 := by
  have := h.flat
  rw [savB_hd, List.length_append, hdP_len]
  omega

open Classical in
theorem OnlyP.toOnly {F : Nat → Prop} {w w' : World} (h : OnlyP F w w') : ∃ S : List Nat, Only S w w' ∧ ∀ k ∈ S, F k ∧ k < w.heap.size := by
  refine ⟨(List.range w.heap.size).filter (fun k => decide (F k)), ⟨h.os, h.tape, h.output, h.size, fun k hk hn => h.block k hk (fun hf => hn ?_)⟩, fun k hk => ?_⟩
  · rw [List.mem_filter]; exact ⟨List.mem_range.2 hk, by simpa using hf⟩
  · rw [List.mem_filter] at hk; exact ⟨by simpa using hk.2, List.mem_range.1 hk.1⟩
theorem GOwn.onlyP {base : Nat} {w w' : World} {F : Nat → Prop} {v : Value} {l : List Tg} (h : GOwn base w v l) (ho : OnlyP F w w') (hF : ∀ k, F k → k < base) : GOwn base w' v l := by
  obtain ⟨S, h1, h2⟩ := ho.toOnly
  exact h.only h1 (fun k hk => hF k (h2 k hk).1)

/-! ### the document's second example -/
def xP : List UInt8 := [112, 47, 84, 65, 82, 71, 69, 84, 83]
def xQ : List UInt8 := [113, 47, 84, 65, 82, 71, 69, 84, 83]
def xT : List UInt8 := [116, 97, 114, 103, 101, 116, 32, 97, 123, 125]
theorem x_put : pcod xP xT = 0 ∧ putA [] xP xT = [⟨xP, xT⟩] := by decide +kernel
theorem x_bad (K : List Lb) : pcod [112, 47, 120] [] = 7 ∧ putA K [112, 47, 120] [] = K := by
  have e : pcod [112, 47, 120] [] = 7 := by decide +kernel
  exact ⟨e, by unfold putA; rw [e]; rfl⟩
theorem x_prs : prsM (dir xP) xT = ([⟨[97], [], [], []⟩], -1) := by decide +kernel
theorem x_get : gtK [⟨xP, xT⟩] xP xT = ([⟨[97], [], [], []⟩], -1, true) := by
  unfold gtK
  rw [if_pos (by simp), x_prs]
theorem x_no : gtK [⟨xP, xT⟩] xQ xT = ([], 0, false) := by
  unfold gtK
  rw [if_neg (by decide)]
theorem x_ok : OKK [⟨xP, xT⟩] := by
  have := OKK.nil.putA xP xT
  rwa [x_put.2] at this

set_option maxRecDepth 100000 in
set_option maxHeartbeats 4000000 in
theorem known19 {CA : World → (Nat → Prop) → Nat → List Lb → Prop} (C : CcP CA) {w : World} (E : Ev w) : Calls Tryz.prog 9 #[] w fun e w' => e = .returned (.bool true) ∧ Below w.heap.size w w' := by
  have HE : Hid (Ev w) := E
  have s1 : (⟨#[112, 47, 84, 65, 82, 71, 69, 84, 83]⟩ : ByteArray) = bs xP := rfl
  have s2 : (⟨#[113, 47, 84, 65, 82, 71, 69, 84, 83]⟩ : ByteArray) = bs xQ := rfl
  have s3 : (⟨#[116, 97, 114, 103, 101, 116, 32, 97, 123, 125]⟩ : ByteArray) = bs xT := rfl
  have s4 : (⟨#[112, 47, 120]⟩ : ByteArray) = bs [112, 47, 120] := rfl
  have s5 : (⟨#[]⟩ : ByteArray) = bs [] := rfl
  have s6 : (⟨#[97]⟩ : ByteArray) = bs [97] := rfl
  clear E
  go_enter Tryz.func9, Tryz.ntmps9
  go_wp2_with fail
  refine (C.new _).mono ?_
  rintro e w1 ⟨c, rfl, hc1, hb1⟩
  have H1 : Hid (CA w1 (fun k => w.heap.size ≤ k ∧ k < w1.heap.size) c [] ∧ Below w.heap.size w w1 ∧ Ev w1) := ⟨hc1, hb1, HE.out.later hb1⟩
  clear hc1 hb1
  go_wp2_with fail
  refine (C.put H1.out.1 H1.out.2.2 xP xT (by decide) (by decide)).mono ?_
  rintro e w2 ⟨rfl, hc2, ho2⟩
  rw [x_put.1]
  rw [x_put.2] at hc2
  have hb2 : Below w.heap.size w w2 := H1.out.2.1.trans (ho2.below H1.out.2.1.size (fun k hk => hk.1))
  obtain ⟨F2, hF2⟩ : ∃ F2, nwF (fun k => w.heap.size ≤ k ∧ k < w1.heap.size) w1 w2 = F2 := ⟨_, rfl⟩
  rw [hF2] at hc2
  have hF2b : ∀ k, F2 k → w.heap.size ≤ k := by
    rw [← hF2]
    rintro k (hk | hk)
    · exact hk.1
    · exact Nat.le_trans H1.out.2.1.size hk.1
  have H2 : Hid (CA w2 F2 c [⟨xP, xT⟩] ∧ Below w.heap.size w w2 ∧ Ev w2 ∧ ∀ k, F2 k → w.heap.size ≤ k) := ⟨hc2, hb2, HE.out.later hb2, hF2b⟩
  clear hc2 ho2 hb2 H1 hF2 hF2b
  go_wp2_with fail
  refine (C.get H2.out.1 H2.out.2.2.1 xP xT (by decide) (by decide)).mono ?_
  rw [x_get]
  rintro e w3 ⟨v3, rfl, ho3, hb3⟩
  have H3 : Hid (CA w3 F2 c [⟨xP, xT⟩] ∧ Below w.heap.size w w3 ∧ Ev w3 ∧ GOwn w2.heap.size w3 v3 [⟨[97], [], [], []⟩]) := ⟨C.later H2.out.1 hb3, bstep H2.out.2.1 hb3, H2.out.2.2.1.later hb3, ho3⟩
  clear ho3 hb3
  go_wp2_with fail
  refine (C.get H3.out.1 H3.out.2.2.1 xQ xT (by decide) (by decide)).mono ?_
  rw [x_no]
  rintro e w4 ⟨v4, rfl, ho4, hb4⟩
  have H4 : Hid (CA w4 F2 c [⟨xP, xT⟩] ∧ Below w.heap.size w w4 ∧ Ev w4 ∧ GOwn w2.heap.size w4 v3 [⟨[97], [], [], []⟩]) := ⟨C.later H3.out.1 hb4, bstep H3.out.2.1 hb4, H3.out.2.2.1.later hb4, H3.out.2.2.2.later hb4⟩
  clear ho4 hb4 H3
  go_wp2_with fail
  refine (C.put H4.out.1 H4.out.2.2.1 [112, 47, 120] [] (by decide) (by decide)).mono ?_
  rintro e w5 ⟨rfl, hc5, ho5⟩
  rw [(x_bad [⟨xP, xT⟩]).1]
  rw [(x_bad [⟨xP, xT⟩]).2] at hc5
  have hb5 : Below w.heap.size w w5 := H4.out.2.1.trans (ho5.below H4.out.2.1.size (fun k hk => H2.out.2.2.2 k hk))
  have H5 : Hid (CA w5 (nwF F2 w4 w5) c [⟨xP, xT⟩] ∧ Below w.heap.size w w5 ∧ Ev w5 ∧ GOwn w2.heap.size w5 v3 [⟨[97], [], [], []⟩]) := ⟨hc5, hb5, HE.out.later hb5, H4.out.2.2.2.onlyP ho5 (fun k hk => C.lt H2.out.1 k hk)⟩
  clear hc5 ho5 hb5 H4
  go_wp2_with fail
  refine (C.save H5.out.1 H5.out.2.2.1).mono ?_
  rintro e w6 ⟨v6, rfl, ho6, hb6⟩
  have H6 : Hid (BS w6 v6 (savB [⟨xP, xT⟩]) ∧ Below w.heap.size w w6 ∧ Ev w6 ∧ GOwn w2.heap.size w6 v3 [⟨[97], [], [], []⟩]) := ⟨ho6.bs, bstep H5.out.2.1 hb6, H5.out.2.2.1.later hb6, H5.out.2.2.2.later hb6⟩
  clear ho6 hb6 H5
  go_wp2_with fail
  refine (C.load H6.out.1 H6.out.2.2.1 (savB_le x_ok)).mono ?_
  rintro e w7 ⟨hb7, ⟨K7, g7, ok7, e7, rfl, hc7⟩ | ⟨hno, _⟩⟩
  · obtain rfl : K7 = [⟨xP, xT⟩] := savB_inj ok7 x_ok e7
    have H7 : Hid (CA w7 (fun k => w6.heap.size ≤ k ∧ k < w7.heap.size) g7 [⟨xP, xT⟩] ∧ Below w.heap.size w w7) := ⟨hc7, bstep H6.out.2.1 hb7⟩
    have hG := H6.out.2.2.2.read.later hb7
    obtain ⟨a3, c3, rfl⟩ := hG.len
    obtain ⟨b3, o3, sa, sn, sc, da, dc, ea, en, ec, hP⟩ := hG.place 0 (by simp)
    have hv := hP.v
    injection hv with hv1 _ _
    subst hv1
    have c0 := hP.c0
    simp only [Nat.zero_mul, Nat.add_zero, List.getElem_cons_zero] at c0
    clear hP hG hb7 hc7 e7 ok7
    have q1 : ((bs [97]).toList == (bs [97]).toList) = true := by simp
    go_wp2_with fail
    refine (C.len H7.out.1).mono ?_
    rintro e w8 ⟨rfl, hb8⟩
    have H8 : Hid (Below w.heap.size w w8) := bstep H7.out.2 hb8
    clear hb8
    go_wp2_with fail
    go_ret
    exact ⟨rfl, H8.out⟩
  · exact absurd rfl (fun e => hno _ x_ok e)
end Go.Proofs.YtddaoloabfkheaaGreatDoor

namespace Go.Proofs.YtddaoloabfkheaaGreatDoor
open Go.RowKit
attribute [local go_sem] Oper.semAt_some

set_option maxRecDepth 100000 in
set_option maxHeartbeats 8000000 in
theorem cloads_law {CA : World → (Nat → Prop) → Nat → List Lb → Prop} (C : CcP CA) {w : World} {v : Value} {b : List UInt8} (E : Ev w) (h : BS w v b) (hl : b.length ≤ 1000000000) :
    Calls Tryz.prog 6 #[v] w fun e w' => e = .returned (.bool true) ∧ Below w.heap.size w w' := by
  have H : Hid (Ev w ∧ BS w v b) := ⟨E, h⟩
  have HD := rload_any h hl
  have HL : Hid (∀ W, Below w.heap.size w W → Calls Tryz.prog 15 #[v] W (LdC CA W b)) := fun W hW => C.load (h.later hW) (E.later hW) (by omega)
  have HK : Hid (∀ W, Below w.heap.size w W → Calls Tryz.prog 9 #[] W fun e w' => e = .returned (.bool true) ∧ Below W.heap.size W w') := fun W hW => known19 C (E.later hW)
  have HV : Hid (∀ W, Below w.heap.size w W → (convert 41 9 v).run Tryz.prog W = .ok (.string (bs b)) W) := fun W hW => conv_bs (h.later hW)
  clear E h hl
  go_enter Tryz.func6, Tryz.ntmps6
  go_wp2_with fail
  refine HD.mono ?_
  rintro e w1 ⟨hb1, ⟨K1, g1, ok1, e1, rfl, hc1⟩ | ⟨hno, rfl⟩⟩
  · have H1 : Hid (RC w1 (fun k => w.heap.size ≤ k ∧ k < w1.heap.size) g1 K1 ∧ Below w.heap.size w w1 ∧ OKK K1 ∧ savB K1 = b) := ⟨hc1, hb1, ok1, e1⟩
    clear hb1 hc1 ok1 e1 HD
    go_wp2_with fail
    refine (HL.out _ H1.out.2.1).mono ?_
    rintro e w2 ⟨hb2, ⟨K2, g2, ok2, e2, rfl, hc2⟩ | ⟨hno, _⟩⟩
    · obtain rfl : K2 = K1 := savB_inj ok2 H1.out.2.2.1 (e2.trans H1.out.2.2.2.symm)
      have H2 : Hid (CA w2 (fun k => w1.heap.size ≤ k ∧ k < w2.heap.size) g2 K2 ∧ Below w.heap.size w w2 ∧ RC w2 (fun k => w.heap.size ≤ k ∧ k < w1.heap.size) g1 K2) := ⟨hc2, bstep H1.out.2.1 hb2, H1.out.1.later hb2⟩
      clear hb2 hc2 ok2 e2
      go_wp2_with fail
      refine (HK.out _ H2.out.2.1).mono ?_
      rintro e w3 ⟨rfl, hb3⟩
      have hrc := H2.out.2.2.later hb3
      have hgl := hrc.glt
      obtain ⟨av, cv, hc, _, hLS⟩ := hrc.row
      obtain ⟨n, hn⟩ : ∃ n, K2.length = n := ⟨_, rfl⟩
      rw [hn] at hc
      have H3 : Hid (CA w3 (fun k => w1.heap.size ≤ k ∧ k < w2.heap.size) g2 K2 ∧ Below w.heap.size w w3 ∧ Ev w3 ∧ savB K2 = b) := ⟨C.later H2.out.1 hb3, bstep H2.out.2.1 hb3, H.out.1.later (bstep H2.out.2.1 hb3), H1.out.2.2.2⟩
      have HLn : Hid (∀ W, Below w3.heap.size w3 W → Calls Tryz.prog 12 #[.pointer (some ⟨g2, 0, none⟩)] W fun e w' => e = .returned (.int .i64 n) ∧ Below W.heap.size W w') := fun W hW => by rw [← hn]; exact C.len (C.later H3.out.1 hW)
      have HSv : Hid (∀ W, Below w3.heap.size w3 W → Calls Tryz.prog 14 #[.pointer (some ⟨g2, 0, none⟩)] W fun e w' => ∃ v', e = .returned v' ∧ OwnB W.heap.size w' v' b ∧ Below W.heap.size W w') := fun W hW => by
        have := C.save (C.later H3.out.1 hW) (H3.out.2.2.1.later hW)
        rw [H3.out.2.2.2] at this; exact this
      have HCc : Hid (∀ W, Below w3.heap.size w3 W → W.cell? ⟨g1, 0, none⟩ = some (.slice av n cv) ∧ (convert 41 9 v).run Tryz.prog W = .ok (.string (bs b)) W) := fun W hW => ⟨(hW.cell (p := ⟨g1, 0, none⟩) hgl).trans hc, HV.out W (bstep H3.out.2.1 hW)⟩
      obtain ⟨cc, cvv⟩ := HCc.out w3 (Below.refl _ _)
      have q1 : ((bs b).toList == (bs b).toList) = true := by simp
      clear hrc hgl hc hLS hn hb3 H2 H1
      go_wp2_with fail
      refine wp_region_noPanic ?_
      refine wp_region_held_drew (S := fun W' => W'.cell? ⟨g1, 0, none⟩ = some (.slice av n cv) ∧ (convert 41 9 v).run Tryz.prog W' = .ok (.string (bs b)) W') (by kernel_rfl) (by exact HCc.out _ (bd1 w3)) (fun hHeld => ?_)
      refine wpAnyH_take (i := 0) (oi := { dst := some 31, op := _, type := _, pos := _, after := _, guard := _ }) (v := ?vx1) rfl (by kernel_rfl) (by kernel_rfl) (by kernel_rfl) (fun _ _ _ h => h) (Or.inl ⟨by rfl, ?hyx1⟩) (by assumption) ?restx1
      case hyx1 => (intro w hSw; (try dsimp only at hSw); go_simp; try with_reducible rfl)
      try simp only [Act.put, List.setIfInBounds_toArray, List.set_cons_zero, List.set_cons_succ]
      refine wpAnyH_take (i := 1) (oi := { dst := some 32, op := _, type := _, pos := _, after := _, guard := _ }) (v := ?vx2) rfl (by kernel_rfl) (by kernel_rfl) (by kernel_rfl) (fun _ _ _ h => h) (Or.inl ⟨by rfl, ?hyx2⟩) (by assumption) ?restx2
      case hyx2 => (intro w hSw; (try dsimp only at hSw); go_simp; try with_reducible rfl)
      try simp only [Act.put, List.setIfInBounds_toArray, List.set_cons_zero, List.set_cons_succ]
      refine wpAnyH_take (i := 2) (oi := { dst := some 33, op := _, type := _, pos := _, after := _, guard := _ }) (v := ?vx3) rfl (by kernel_rfl) (by kernel_rfl) (by kernel_rfl) (fun _ _ _ h => h) (Or.inl ⟨by rfl, ?hyx3⟩) (by assumption) ?restx3
      case hyx3 => (intro w hSw; (try dsimp only at hSw); go_simp; try with_reducible rfl)
      try simp only [Act.put, List.setIfInBounds_toArray, List.set_cons_zero, List.set_cons_succ]
      refine wpAnyH_take (i := 3) (oi := { dst := some 34, op := _, type := _, pos := _, after := _, guard := _ }) (v := ?vx4) rfl (by kernel_rfl) (by kernel_rfl) (by kernel_rfl) (fun _ _ _ h => h) (Or.inl ⟨by rfl, ?hyx4⟩) (by assumption) ?restx4
      case hyx4 => (intro w hSw; (try dsimp only at hSw); go_simp; try with_reducible rfl)
      try simp only [Act.put, List.setIfInBounds_toArray, List.set_cons_zero, List.set_cons_succ]
      refine wpAnyH_take (i := 4) (oi := { dst := some 35, op := _, type := _, pos := _, after := _, guard := _ }) (v := ?vx5) rfl (by kernel_rfl) (by kernel_rfl) (by kernel_rfl) (fun _ _ _ h => h) (Or.inl ⟨by rfl, ?hyx5⟩) (by assumption) ?restx5
      case hyx5 => (intro w hSw; (try dsimp only at hSw); go_simp; try with_reducible rfl)
      try simp only [Act.put, List.setIfInBounds_toArray, List.set_cons_zero, List.set_cons_succ]
      refine wpAnyH_take (i := 5) (oi := { dst := some 36, op := _, type := _, pos := _, after := _, guard := _ }) (v := ?vx6) rfl (by kernel_rfl) (by kernel_rfl) (by kernel_rfl) (fun _ _ _ h => h) (Or.inl ⟨by rfl, ?hyx6⟩) (by assumption) ?restx6
      case hyx6 => (intro w hSw; (try dsimp only at hSw); go_simp; try with_reducible rfl)
      try simp only [Act.put, List.setIfInBounds_toArray, List.set_cons_zero, List.set_cons_succ]
      refine wpAnyH_take (i := 7) (oi := { dst := some 38, op := _, type := _, pos := _, after := _, guard := _ }) (v := ?vx7) rfl (by kernel_rfl) (by kernel_rfl) (by kernel_rfl) (fun _ _ _ h => h) (Or.inl ⟨by rfl, ?hyx7⟩) (by assumption) ?restx7
      case hyx7 => (intro w hSw; (try dsimp only at hSw); go_simp; try with_reducible rfl)
      try simp only [Act.put, List.setIfInBounds_toArray, List.set_cons_zero, List.set_cons_succ]
      refine wpAnyH_take (i := 8) (oi := { dst := some 39, op := _, type := _, pos := _, after := _, guard := _ }) (v := ?vx8) rfl (by kernel_rfl) (by kernel_rfl) (by kernel_rfl) (fun _ _ _ h => h) (Or.inl ⟨by rfl, ?hyx8⟩) (by assumption) ?restx8
      case hyx8 => (intro w hSw; (try dsimp only at hSw); go_simp; try with_reducible rfl)
      try simp only [Act.put, List.setIfInBounds_toArray, List.set_cons_zero, List.set_cons_succ]
      refine wpAnyH_take (i := 9) (oi := { dst := some 40, op := _, type := _, pos := _, after := _, guard := _ }) (v := ?vx9) rfl (by kernel_rfl) (by kernel_rfl) (by kernel_rfl) (fun _ _ _ h => h) (Or.inl ⟨by rfl, ?hyx9⟩) (by assumption) ?restx9
      case hyx9 => (intro w hSw; (try dsimp only at hSw); go_simp; try with_reducible rfl)
      try simp only [Act.put, List.setIfInBounds_toArray, List.set_cons_zero, List.set_cons_succ]
      refine wpAnyH_take (i := 10) (oi := { dst := some 41, op := _, type := _, pos := _, after := _, guard := _ }) (v := ?vx10) rfl (by kernel_rfl) (by kernel_rfl) (by kernel_rfl) (fun _ _ _ h => h) (Or.inl ⟨by rfl, ?hyx10⟩) (by assumption) ?restx10
      case hyx10 => (intro w hSw; (try dsimp only at hSw); go_simp; try with_reducible rfl)
      try simp only [Act.put, List.setIfInBounds_toArray, List.set_cons_zero, List.set_cons_succ]
      refine wpAnyH_take (i := 11) (oi := { dst := some 42, op := _, type := _, pos := _, after := _, guard := _ }) (v := ?vx11) rfl (by kernel_rfl) (by kernel_rfl) (by kernel_rfl) (fun _ _ _ h => h) (Or.inl ⟨by rfl, ?hyx11⟩) (by assumption) ?restx11
      case hyx11 => (intro w hSw; (try dsimp only at hSw); go_simp; try with_reducible rfl)
      try simp only [Act.put, List.setIfInBounds_toArray, List.set_cons_zero, List.set_cons_succ]
      refine wpAnyH_ready (rs := [6]) (by kernel_rfl) (by simp) ?_
      refine AllReadyH.cons (o := { dst := some 37, op := _, type := _, pos := _, after := _, guard := _ }) rfl (fun K hK => ?_) AllReadyH.nil
      go_simp
      with_reducible refine (HLn.out w3.drew (bd1 w3)).mono ?_
      rintro e w4 ⟨rfl, hb4⟩
      have O4 : Hid (Below w3.heap.size w3 w4) := bstep (bd1 w3) hb4
      clear hb4
      refine hK.out _ _ (HCc.out w4 O4.out) (fun hHeld => ?_)
      clear hK K
      try simp only [List.setIfInBounds_toArray, List.set_cons_zero, List.set_cons_succ]
      refine wpAnyH_take (i := 12) (oi := { dst := some 43, op := _, type := _, pos := _, after := _, guard := _ }) (v := ?vx12) rfl (by kernel_rfl) (by kernel_rfl) (by kernel_rfl) (fun _ _ _ h => h) (Or.inl ⟨by rfl, ?hyx12⟩) (by assumption) ?restx12
      case hyx12 => (intro w hSw; (try dsimp only at hSw); go_simp; try with_reducible rfl)
      try simp only [Act.put, List.setIfInBounds_toArray, List.set_cons_zero, List.set_cons_succ]
      refine wpAnyH_take (i := 13) (oi := { dst := some 44, op := _, type := _, pos := _, after := _, guard := _ }) (v := ?vx13) rfl (by kernel_rfl) (by kernel_rfl) (by kernel_rfl) (fun _ _ _ h => h) (Or.inl ⟨by rfl, ?hyx13⟩) (by assumption) ?restx13
      case hyx13 => (intro w hSw; (try dsimp only at hSw); go_simp; try with_reducible rfl)
      try simp only [Act.put, List.setIfInBounds_toArray, List.set_cons_zero, List.set_cons_succ]
      refine wpAnyH_take (i := 14) (oi := { dst := some 45, op := _, type := _, pos := _, after := _, guard := _ }) (v := ?vx14) rfl (by kernel_rfl) (by kernel_rfl) (by kernel_rfl) (fun _ _ _ h => h) (Or.inl ⟨by rfl, ?hyx14⟩) (by assumption) ?restx14
      case hyx14 => (intro w hSw; (try dsimp only at hSw); go_simp; try with_reducible rfl)
      try simp only [Act.put, List.setIfInBounds_toArray, List.set_cons_zero, List.set_cons_succ]
      refine wpAnyH_take (i := 17) (oi := { dst := some 48, op := _, type := _, pos := _, after := _, guard := _ }) (v := ?vx15) rfl (by kernel_rfl) (by kernel_rfl) (by kernel_rfl) (fun _ _ _ h => h) (Or.inl ⟨by rfl, ?hyx15⟩) (by assumption) ?restx15
      case hyx15 => (intro w hSw; (try dsimp only at hSw); go_simp; try with_reducible rfl)
      try simp only [Act.put, List.setIfInBounds_toArray, List.set_cons_zero, List.set_cons_succ]
      refine wpAnyH_take (i := 18) (oi := { dst := some 49, op := _, type := _, pos := _, after := _, guard := _ }) (v := ?vx16) rfl (by kernel_rfl) (by kernel_rfl) (by kernel_rfl) (fun _ _ _ h => h) (Or.inl ⟨by rfl, ?hyx16⟩) (by assumption) ?restx16
      case hyx16 => (intro w hSw; (try dsimp only at hSw); go_simp; try with_reducible rfl)
      try simp only [Act.put, List.setIfInBounds_toArray, List.set_cons_zero, List.set_cons_succ]
      refine wpAnyH_ready (rs := [15]) (by kernel_rfl) (by simp) ?_
      refine AllReadyH.cons (o := { dst := some 46, op := _, type := _, pos := _, after := _, guard := _ }) rfl (fun K hK => ?_) AllReadyH.nil
      go_simp
      with_reducible refine (HSv.out w4 O4.out).mono ?_
      rintro e w5 ⟨v5, rfl, ho5, hb5⟩
      have O5 : Hid (Below w3.heap.size w3 w5) := bstep O4.out hb5
      have hv5 : (convert 41 9 v5).run Tryz.prog w5 = .ok (.string (bs b)) w5 := conv_bs ho5.bs
      clear hb5 ho5
      refine hK.out _ _ (HCc.out w5 O5.out) (fun hHeld => ?_)
      clear hK K
      try simp only [List.setIfInBounds_toArray, List.set_cons_zero, List.set_cons_succ]
      refine wpAnyH_ready (rs := [16]) (by kernel_rfl) (by simp) ?_
      refine AllReadyH.cons (o := { dst := some 47, op := _, type := _, pos := _, after := _, guard := _ }) rfl (fun K hK => ?_) AllReadyH.nil
      go_simp
      refine hK.out _ _ (HCc.out w5 O5.out) (fun hHeld => ?_)
      clear hK K
      try simp only [List.setIfInBounds_toArray, List.set_cons_zero, List.set_cons_succ]
      refine wpAnyH_take (i := 19) (oi := { dst := some 50, op := _, type := _, pos := _, after := _, guard := _ }) (v := ?vx17) rfl (by kernel_rfl) (by kernel_rfl) (by kernel_rfl) (fun _ _ _ h => h) (Or.inl ⟨by rfl, ?hyx17⟩) (by assumption) ?restx17
      case hyx17 => (intro w hSw; (try dsimp only at hSw); go_simp; try with_reducible rfl)
      try simp only [Act.put, List.setIfInBounds_toArray, List.set_cons_zero, List.set_cons_succ]
      refine wpAnyH_take (i := 20) (oi := { dst := some 51, op := _, type := _, pos := _, after := _, guard := _ }) (v := ?vx18) rfl (by kernel_rfl) (by kernel_rfl) (by kernel_rfl) (fun _ _ _ h => h) (Or.inl ⟨by rfl, ?hyx18⟩) (by assumption) ?restx18
      case hyx18 => (intro w hSw; (try dsimp only at hSw); go_simp; try with_reducible rfl)
      try simp only [Act.put, List.setIfInBounds_toArray, List.set_cons_zero, List.set_cons_succ]
      refine wpAnyH_take (i := 21) (oi := { dst := some 52, op := _, type := _, pos := _, after := _, guard := _ }) (v := ?vx19) rfl (by kernel_rfl) (by kernel_rfl) (by kernel_rfl) (fun _ _ _ h => h) (Or.inl ⟨by rfl, ?hyx19⟩) (by assumption) ?restx19
      case hyx19 => (intro w hSw; (try dsimp only at hSw); go_simp; try with_reducible rfl)
      try simp only [Act.put, List.setIfInBounds_toArray, List.set_cons_zero, List.set_cons_succ]
      refine wpAnyH_take (i := 22) (oi := { dst := some 2, op := _, type := _, pos := _, after := _, guard := _ }) (v := ?vx20) rfl (by kernel_rfl) (by kernel_rfl) (by kernel_rfl) (fun _ _ _ h => h) (Or.inl ⟨by rfl, ?hyx20⟩) (by assumption) ?restx20
      case hyx20 => (intro w hSw; (try dsimp only at hSw); go_simp; try with_reducible rfl)
      try simp only [Act.put, List.setIfInBounds_toArray, List.set_cons_zero, List.set_cons_succ]
      refine wpAnyH_done (by kernel_rfl) ?_ _
      refine NoPanic.normal ?_
      clear hHeld
      go_wp2_with fail
      go_ret
      exact ⟨rfl, bstep H3.out.2.1 O5.out⟩
    · exact absurd H1.out.2.2.2 (fun e => hno _ H1.out.2.2.1 e)
  · have H1 : Hid (Below w.heap.size w w1 ∧ ∀ K, OKK K → savB K = b → False) := ⟨hb1, hno⟩
    clear hb1 hno HD
    go_wp2_with fail
    refine (HL.out _ H1.out.1).mono ?_
    rintro e w2 ⟨hb2, ⟨K2, g2, ok2, e2, rfl, hc2⟩ | ⟨hno, rfl⟩⟩
    · exact absurd e2 (fun e => H1.out.2 _ ok2 e)
    · have H2 : Hid (Below w.heap.size w w2) := bstep H1.out.1 hb2
      clear hb2 hno
      go_wp2_with fail
      refine (HK.out _ H2.out).mono ?_
      rintro e w3 ⟨rfl, hb3⟩
      have H3 : Hid (Below w.heap.size w w3) := bstep H2.out hb3
      clear hb3
      go_wp2_with fail
      go_quiet (fail)
      go_wp2_with fail
      go_ret
      exact ⟨rfl, bstep H3.out (bd _ _)⟩
end Go.Proofs.YtddaoloabfkheaaGreatDoor
