/-
  Get, Save; bytes that must follow.
  The bytes of the entries; Save.
  Bytes that must follow; the youngest entry; what stands next in the bytes.
-/
import Derived.Test.YtddaoloabfkheaaGreatDoorJZk
namespace Go.Proofs.YtddaoloabfkheaaGreatDoor
open Go.RowKit

set_option maxRecDepth 100000 in
set_option maxHeartbeats 4000000 in
theorem cget_any {w : World} {F : Nat → Prop} {g : Nat} {K : List Lb} (h : CA w F g K) (p t : List UInt8) : Calls Tryz.prog 13 #[.pointer (some ⟨g, 0, none⟩), .string (bs p), .string (bs t)] w (LsG w (gtK K p t)) := by
  obtain ⟨⟨v, l, T, hcb, hK, hv, hT⟩, hown, hlt, ok⟩ := h
  subst hK
  have hll : l.length ≤ 512 := by have := ok.len; simpa using this
  unfold gtK
  by_cases hk : (⟨p, t⟩ : Lb) ∈ l.map En.key
  · rw [if_pos hk]
    obtain ⟨i, hi, hix, hxk, _⟩ := put_have ok hk
    have hf := hcb.tf _ (List.getElem_mem hi)
    obtain ⟨av, cv, hvv⟩ := hcb.row.form
    obtain ⟨n, hn⟩ : ∃ n, l.length = n := ⟨_, rfl⟩
    rw [hn] at hvv
    have hin : i < n := by omega
    subst hvv
    have HFI : Hid (Calls Tryz.prog 24 #[.pointer (some ⟨g, 0, none⟩), .agg #[.string (bs p), .string (bs t)]] w fun e w' => e = .returned (.int .i64 (i : Int)) ∧ Below w.heap.size w w') := by
      show Calls _ _ _ _ _
      rw [← hix]; exact find_any hcb (by omega) ⟨p, t⟩
    have HCE : Hid (∀ W, Below w.heap.size w W → ∃ b, av = some ⟨b, 0, none⟩ ∧ W.cell? ⟨g, 0, none⟩ = some (.slice av n cv) ∧ W.cell? ⟨b, i * 4, none⟩ = some (.string (bs l[i].p)) ∧ W.cell? ⟨b, i * 4 + 1, none⟩ = some (.string (bs l[i].t)) ∧ W.cell? ⟨b, i * 4 + 2, none⟩ = some (.slice l[i].a l[i].n l[i].c) ∧ W.cell? ⟨b, i * 4 + 3, none⟩ = some (.int .i64 l[i].z)) := fun W hW => by
      obtain ⟨b, e, _, h0, h1, h2, h3⟩ := hcb.row.at hW hi
      exact ⟨b, e, (hcb.later hW).cell.1, h0, h1, h2, h3⟩
    generalize l[i] = x at *
    obtain ⟨xp, xt, xa, xn, xc, xz⟩ := x
    unfold En.key at hxk
    injection hxk with e1 e2
    subst e1 e2
    have HZ : Hid (xz = (prsM (dir xp) xt).2) := hf.z
    have hz := hf.z
    simp only at hz
    have HC : Hid (∀ W, Below w.heap.size w W → Calls Tryz.prog 28 #[.slice xa xn xc] W fun e w' => ∃ v', e = .returned v' ∧ GOwn W.heap.size w' v' (prsM (dir xp) xt).1 ∧ Below W.heap.size W w') := fun W hW => copies_any (hf.g.read.later hW) (prsM_tbd _ _)
    rw [← hz]
    generalize (prsM (dir xp) xt).1 = A at *
    have k1 : ¬ (i : Int) < 0 := by omega
    have k2 : (0 : Int) ≤ (i : Int) := by omega
    have k3 : (i : Int) < (n : Int) := by omega
    clear hcb hv hT hown hlt ok hk hi hix hf hz hn HZ hll
    go_enter Tryz.func13, Tryz.ntmps13
    go_wp2_with fail
    refine HFI.out.mono ?_
    rintro e w1 ⟨rfl, hb1⟩
    have H1 : Hid (Below w.heap.size w w1) := hb1
    obtain ⟨b, rfl, cg, d0, d1, d2, d3⟩ := HCE.out w1 hb1
    clear hb1
    go_wp2_with fail
    obtain ⟨w2, hw2⟩ : ∃ w2, w1.alloc (.cells #[.string (bs xp), .string (bs xt), .slice xa xn xc, .int .i64 xz] 74) = w2 := ⟨_, rfl⟩
    have he2 : EB w2 w1.heap.size ⟨xp, xt, xa, xn, xc, xz⟩ := by rw [← hw2]; exact EB.new w1 ⟨xp, xt, xa, xn, xc, xz⟩
    have H2 : Hid (Below w.heap.size w w2) := by rw [← hw2]; exact bstep H1.out (balloc _ _)
    have HX : Hid (∀ W, Below w2.heap.size w2 W → W.cell? ⟨w1.heap.size, 2, none⟩ = some (.slice xa xn xc) ∧ W.cell? ⟨w1.heap.size, 3, none⟩ = some (.int .i64 xz)) := fun W hW => ⟨(he2.later hW).cells.2.2.1, (he2.later hW).cells.2.2.2.1⟩
    obtain ⟨x2, x3⟩ := HX.out w2 (Below.refl _ _)
    rw [hw2]
    clear hw2 he2 cg d0 d1 d2 d3
    go_region_held3 (fun w' => w'.cell? ⟨w1.heap.size, 2, none⟩ = some (.slice xa xn xc) ∧ w'.cell? ⟨w1.heap.size, 3, none⟩ = some (.int .i64 xz)) (first | (with_reducible exact ⟨x2, x3⟩) | (with_reducible exact HX.out _ (Below.refl _ _).drew) | (with_reducible exact KQ.out) | go_keep) (first
      | (go_at_call 28; (with_reducible refine (HC.out _ (bstep H2.out (Below.refl _ _).drew)).mono ?_); rintro e w3 ⟨v3, rfl, ho3, hb3⟩; have O3 : Hid (GOwn w.heap.size w3 v3 A ∧ Below w2.heap.size w2 w3) := ⟨ho3.mono (bstep H2.out (Below.refl _ _).drew).size, bstep (Below.refl _ _).drew hb3⟩; have KQ := hid_of (HX.out w3 O3.out.2); clear ho3 hb3))
    go_wp2_with fail
    go_ret3
    exact ⟨_, rfl, O3.out.1, bstep H2.out O3.out.2⟩
  · rw [if_neg hk]
    have hix := (put_fresh ⟨p, t, none, 0, 0, 0⟩ rfl hk).1
    have HFI : Hid (Calls Tryz.prog 24 #[.pointer (some ⟨g, 0, none⟩), .agg #[.string (bs p), .string (bs t)]] w fun e w' => e = .returned (.int .i64 (-1)) ∧ Below w.heap.size w w') := by
      show Calls _ _ _ _ _
      rw [← hix]; exact find_any hcb (by omega) ⟨p, t⟩
    clear hcb hv hT hown hlt ok hk hix hll
    go_enter Tryz.func13, Tryz.ntmps13
    go_wp2_with fail
    refine HFI.out.mono ?_
    rintro e w1 ⟨rfl, hb1⟩
    have H1 : Hid (Below w.heap.size w w1) := hb1
    clear hb1
    go_wp2_with fail
    go_ret3
    exact ⟨_, rfl, GOwn.nil _ _, H1.out⟩
end Go.Proofs.YtddaoloabfkheaaGreatDoor

namespace Go.Proofs.YtddaoloabfkheaaGreatDoor
open Go.RowKit

def ekB (x : En) : List UInt8 := entB x.key

set_option maxRecDepth 100000 in
set_option maxHeartbeats 4000000 in
theorem lsE_any {w : World} {T : Nat → Prop} {g : Nat} {v : Value} {l : List En} (h : CB w T g v l) (hx : ∀ x ∈ l, x.p.length ≤ 120 ∧ x.t.length ≤ 4096) (hl : l.length ≤ 100000) (ht : (l.flatMap ekB).length ≤ 9000000000) :
    Calls Tryz.prog 31 #[v, .func (.func 32) #[] #[]] w (BtP w (le 4 l.length ++ l.flatMap ekB)) := by
  have H : Hid (CB w T g v l) := h
  have HQ : Hid (∀ x ∈ l, x.p.length ≤ 120 ∧ x.t.length ≤ 4096) := hx
  obtain ⟨av, cv, hvv⟩ := h.row.form
  clear h hx
  obtain ⟨n, hn⟩ : ∃ n, l.length = n := ⟨_, rfl⟩
  rw [hn] at hvv hl
  subst hvv
  rw [hn]
  have HN : Hid (l.length = n) := hn
  have HP : Hid (∀ W, Calls Tryz.prog 68 #[.slice none 0 0, .int .u32 (n : Int)] W fun e w' => ∃ v', e = .returned v' ∧ OwnB W.heap.size w' v' ([] ++ le 4 n) ∧ Below W.heap.size W w') := fun W => put32_any (BS_nil W) _ n rfl (by omega) (by simp)
  have HT : Hid ((l.flatMap ekB).length ≤ 9000000000) := ht
  have kw : IntKind.u32.wrap (n : Int) = (n : Int) := by rw [IntKind.wrap_u32]; omega
  clear ht hn
  go_enter Tryz.func31, Tryz.ntmps31
  go_wp2_with fail
  refine (HP.out _).mono ?_
  rintro e w1 ⟨v1, rfl, ho1, hb1⟩
  obtain ⟨a1, n1, c1, rfl⟩ := ho1.bs.ones
  have H1 : Hid (RWs w.heap.size (w1.alloc (.cells #[.slice a1 n1 c1] 41)) (.slice (some ⟨w1.heap.size, 0, none⟩) 1 1) [le 4 n] ∧ Below w.heap.size w (w1.alloc (.cells #[.slice a1 n1 c1] 41))) :=
    ⟨(RWs.one ho1).mono hb1.size, bstep hb1 (balloc _ _)⟩
  clear ho1 hb1 kw
  go_wp2_with fail
  go_loopw [5, 15] (fun s5 s15 wr => ∃ (k : Nat) (v0 : Value), v0 = s5 ∧ s15 = .int .i64 k ∧ k ≤ n ∧ RWs w.heap.size wr v0 (le 4 n :: (l.take k).map ekB) ∧ Below w.heap.size w wr) (fun _ s15 _ => n - (intOf s15).toNat)
  case atStart => exact ⟨0, _, rfl, rfl, by omega, by simpa using H1.out.1, H1.out.2⟩
  case round =>
    obtain ⟨k, v0, rfl, rfl, hk, ho, hb⟩ := hrel
    have HX : Hid (RWs w.heap.size wr v0 (le 4 n :: (l.take k).map ekB) ∧ Below w.heap.size w wr) := ⟨ho, hb⟩
    clear ho hb
    by_cases hlt : k < n
    · have hkl : k < l.length := by rw [HN.out]; exact hlt
      obtain ⟨b, ea, hbw, d0, d1, d2, d3⟩ := H.out.row.at HX.out.2 hkl
      subst ea
      have hxm : l[k] ∈ l := List.getElem_mem hkl
      obtain ⟨x, hxe⟩ : ∃ x, l[k] = x := ⟨_, rfl⟩
      rw [hxe] at d0 d1 d2 d3 hxm
      have hq := HQ.out x hxm
      have hf := H.out.tf x hxm
      have HC : Hid (∀ W, Below w.heap.size w W → Calls Tryz.prog 32 #[x.val] W (BtP W (ekB x))) := fun W hW => by
        have h1 := enrow_any x (hf.g.read.later hW) (prsM_tbd _ _) (by omega) (by omega)
        have e : enB x.key ((prsM (dir x.p) x.t).1, x.z) = ekB x := by unfold ekB entB En.key; rw [hf.z]
        rw [e] at h1
        exact h1
      obtain ⟨xp, xt, xa, xn, xc, xz⟩ := x
      have HA : Hid (l[k] = (⟨xp, xt, xa, xn, xc, xz⟩ : En)) := hxe
      simp only [En.val] at d0 d1 d2 d3 HC
      clear hxe hxm hq hf
      have k1 : (k : Int) < (n : Int) := by omega
      have k2 : (0 : Int) ≤ (k : Int) := by omega
      have HL : Hid ((le 4 n :: (l.take k).map ekB).length + 1 ≤ 100000000) := by show _ ≤ _; simp; omega
      go_wp2_with fail
      refine (HC.out _ (bstep HX.out.2 (balloc _ _))).mono ?_
      rintro e w2 ⟨v2, rfl, ho2, hb2⟩
      obtain ⟨a2, n2, c2, rfl⟩ := ho2.bs.ones
      have H2 : Hid (OwnB wr.heap.size w2 (.slice a2 n2 c2) (ekB (⟨xp, xt, xa, xn, xc, xz⟩ : En)) ∧ Below wr.heap.size wr w2) := ⟨ho2.mono (balloc _ _).size, bstep (balloc _ _) hb2⟩
      clear ho2 hb2 HC
      go_wp2_with (at_builtin; refine app_RR (w0 := wr) HX.out.1 H2.out.2 H2.out.1 (Nat.le_refl _) HL.out HX.out.2.size rfl (.tmp 19) (.tmp 23) rfl rfl rfl ?_; intro v3 w3 ho3 hb3; have H3 : Hid (RWs w.heap.size w3 v3 (le 4 n :: (l.take k).map ekB ++ [ekB (⟨xp, xt, xa, xn, xc, xz⟩ : En)]) ∧ Below w.heap.size w2 w3) := ⟨ho3, hb3⟩; clear ho3 hb3)
      go_roundw
      case rel =>
        refine ⟨k + 1, _, rfl, by go_num, by omega, ?_, below_trans (bstep HX.out.2 H2.out.2) H3.out.2⟩
        rw [List.take_succ_eq_append_getElem hkl, List.map_append, List.map_cons, List.map_nil, HA.out]
        exact H3.out.1
      case measure => simp [intOf]; omega
    · obtain rfl : n = k := by omega
      have k1 : ¬ (n : Int) < (n : Int) := by omega
      have HJ : Hid (Calls Tryz.prog 29 #[v0] wr fun e w' => ∃ v', e = .returned v' ∧ OwnB wr.heap.size w' v' (le 4 n :: l.map ekB).flatten ∧ Below wr.heap.size wr w') := by
        have hr := HX.out.1
        rw [List.take_of_length_le (by have := HN.out; omega)] at hr
        refine ojoin_any hr.rws ?_ ?_
        · have := HN.out; simp; omega
        · have := HT.out; unfold tot; rw [List.flatten_cons, List.length_append, le_length, ← List.flatMap_def]; omega
      go_wp2_with fail
      refine HJ.out.mono ?_
      rintro e w4 ⟨v4, rfl, ho4, hb4⟩
      have H4 : Hid (OwnB w.heap.size w4 v4 (le 4 n ++ l.flatMap ekB) ∧ Below w.heap.size w w4) := ⟨by rw [List.flatMap_def]; exact ho4.mono HX.out.2.size, bstep HX.out.2 hb4⟩
      clear ho4 hb4
      go_wp2_with fail
      go_ret
      exact ⟨_, rfl, H4.out⟩

theorem ekB_flat (l : List En) : l.flatMap ekB = (l.map En.key).flatMap entB := by
  induction l with
  | nil => rfl
  | cons x r ih => simp only [List.flatMap_cons, List.map_cons, ih]; rfl

set_option maxRecDepth 100000 in
set_option maxHeartbeats 4000000 in
theorem csave_any {w : World} {F : Nat → Prop} {g : Nat} {K : List Lb} (h : CA w F g K) : Calls Tryz.prog 14 #[.pointer (some ⟨g, 0, none⟩)] w (BtP w (savB K)) := by
  obtain ⟨⟨v, l, T, hcb, hK, hv, hT⟩, hown, hlt, ok⟩ := h
  subst hK
  have hll : l.length ≤ 512 := by have := ok.len; simpa using this
  have hfl := ok.flat
  have HT : Hid (∀ W, Calls Tryz.prog 30 #[.string ⟨#[99, 111, 112, 115, 101, 32, 99, 97, 99, 104, 101, 32, 49]⟩] W (BtP W (txB hdW))) := fun W => txrow_any hdW W (by decide)
  have HE : Hid (∀ W, Below w.heap.size w W → Calls Tryz.prog 31 #[v, .func (.func 32) #[] #[]] W (BtP W (le 4 l.length ++ l.flatMap ekB))) := fun W hW => lsE_any (hcb.later hW) (fun x hx => by
    have hm : x.key ∈ l.map En.key := List.mem_map.2 ⟨x, hx, rfl⟩
    exact ⟨rgt_len (ok.rt _ hm), ok.tx _ hm⟩) (by omega) (by rw [ekB_flat]; omega)
  have HL : Hid ((txB hdW).length + (le 4 l.length ++ l.flatMap ekB).length ≤ 10000000000) := by
    show _ ≤ _
    rw [List.length_append, le_length, ekB_flat, txB_len]
    have : hdW.length = 13 := rfl
    omega
  have HEq : Hid (savB (l.map En.key) = txB hdW ++ (le 4 l.length ++ l.flatMap ekB)) := by
    show _ = _
    unfold savB
    rw [ekB_flat, List.length_map, List.append_assoc]
  rw [HEq.out]
  have HCG : Hid (∀ W, Below w.heap.size w W → W.cell? ⟨g, 0, none⟩ = some v) := fun W hW => (hcb.later hW).cell.1
  clear HEq hfl hll
  generalize le 4 l.length ++ l.flatMap ekB = b2 at *
  generalize hb1 : txB hdW = b1 at *
  obtain ⟨av, cv, hvv⟩ := hcb.row.form
  generalize l.length = n at hvv
  subst hvv
  have c0 := HCG.out w (Below.refl _ _)
  clear hcb hv hT hown hlt ok hb1
  go_enter Tryz.func14, Tryz.ntmps14
  go_wp2_with fail
  go_region_held3 (fun w' => w'.cell? ⟨g, 0, none⟩ = some (.slice av n cv)) (first | (with_reducible exact c0) | (with_reducible exact HCG.out _ (Below.refl _ _).drew) | (with_reducible exact KA.out) | (with_reducible exact KB'.out) | (with_reducible exact KC.out) | go_keep) (first
    | (go_at_call 29; (with_reducible refine (join2 O2.out.1 O2.out.2.1 HL.out).mono ?_); rintro e w3 ⟨v3, rfl, ho3, hb3⟩; have O3 : Hid (OwnB w.heap.size w3 v3 (b1 ++ b2) ∧ Below w.heap.size w w3) := ⟨ho3.mono O2.out.2.2.size, bstep O2.out.2.2 hb3⟩; have KC := hid_of (HCG.out w3 O3.out.2); clear ho3 hb3)
    | (go_at_call 31; (with_reducible refine (HE.out _ O1.out.2).mono ?_); rintro e w2 ⟨v2, rfl, ho2, hb2⟩; obtain ⟨a2, n2, c2, rfl⟩ := ho2.bs.ones; have O2 : Hid (BS w2 (.slice a1 n1 c1) b1 ∧ BS w2 (.slice a2 n2 c2) b2 ∧ Below w.heap.size w w2) := ⟨O1.out.1.later hb2, ho2.bs, bstep O1.out.2 hb2⟩; have KB' := hid_of (HCG.out w2 O2.out.2.2); clear ho2 hb2)
    | (go_at_call 30; (with_reducible refine (HT.out _).mono ?_); rintro e w1 ⟨v1, rfl, ho1, hb1⟩; obtain ⟨a1, n1, c1, rfl⟩ := ho1.bs.ones; have O1 : Hid (BS w1 (.slice a1 n1 c1) b1 ∧ Below w.heap.size w w1) := ⟨ho1.bs, bstep (Below.refl _ _).drew hb1⟩; have KA := hid_of (HCG.out w1 O1.out.2); clear ho1 hb1))
  go_wp2_with fail
  go_ret
  exact ⟨_, rfl, O3.out⟩
end Go.Proofs.YtddaoloabfkheaaGreatDoor

namespace Go.Proofs.YtddaoloabfkheaaGreatDoor
open Go.RowKit

theorem RDo.stay {w w' : World} {g d : Nat} {l : List UInt8} (h : RDo w g d l) (hz : w.heap.size ≤ w'.heap.size) (h1 : w'.heap[g]? = w.heap[g]?) (h2 : w'.heap[d]? = w.heap[d]?) : RDo w' g d l := by
  obtain ⟨off, cap, hc, hf, hl, hgs, hds, hne, hb, hcell⟩ := h
  refine ⟨off, cap, ?_, ?_, hl, Nat.lt_of_lt_of_le hgs hz, Nat.lt_of_lt_of_le hds hz, hne, hb, fun i u hu => ?_⟩
  · rw [World.cell?_of_block (a := ⟨g, 0, none⟩) h1]; exact hc
  · rw [World.frozen?_of_block (a := ⟨g, 0, none⟩) h1]; exact hf
  · rw [World.cell?_of_block (a := ⟨d, off + i, none⟩) h2]; exact hcell i u hu
theorem RDo.lt {w : World} {g d : Nat} {l : List UInt8} (h : RDo w g d l) : g < w.heap.size ∧ d < w.heap.size ∧ d ≠ g := by
  obtain ⟨off, cap, hc, hf, hl, hgs, hds, hne, hb, hcell⟩ := h
  exact ⟨hgs, hds, hne⟩
/-- what follows answers -/
def FoP (g d : Nat) (b l : List UInt8) (w : World) (e : Ending) (w' : World) : Prop :=
  ∃ R l', e = .returned (.bool R) ∧ RDo w' g d l' ∧ w.grownBy w' (some g) ∧ (R = true → l = b ++ l') ∧ (R = false → ∀ r, l ≠ b ++ r)
theorem grownBy_trans {a b c : World} {row : Option Nat} (h : a.grownBy b row) (k : b.grownBy c row) : a.grownBy c row :=
  ⟨k.os.trans h.os, k.tape.trans h.tape, k.output.trans h.output, Nat.le_trans h.size k.size, fun i hi hn => (k.block i (Nat.lt_of_lt_of_le hi h.size) hn).trans (h.block i hi hn)⟩

set_option maxRecDepth 100000 in
set_option maxHeartbeats 4000000 in
theorem follows_any {w : World} {g d : Nat} {l b : List UInt8} {v : Value} (h : RDo w g d l) (hv : BS w v b) (hvg : v.ownBlock ≠ some g) (hbl : b.length ≤ 1000000000000) : Calls Tryz.prog 34 #[.pointer (some ⟨g, 0, none⟩), v] w (FoP g d b l w) := by
  have H : Hid (RDo w g d l ∧ BS w v b) := ⟨h, hv⟩
  obtain ⟨av, cv, hvv⟩ := hv.form
  obtain ⟨n, hn⟩ : ∃ n, b.length = n := ⟨_, rfl⟩
  rw [hn] at hvv hbl
  have HN : Hid (b.length = n) := hn
  have HC : Hid (∀ W, w.grownBy W (some g) → ∀ k, (hk : k < b.length) → ∃ bb off, av = some ⟨bb, off, none⟩ ∧ W.cell? ⟨bb, off + k, none⟩ = some (.int .u8 (b[k].toNat : Int))) := fun W hW k hk => by
    rcases hv with ⟨_, h0⟩ | ⟨bb, off, cap, e, hc, hlt, hcell⟩
    · subst h0; simp at hk
    · have e1 := hvv.symm.trans e
      injection e1 with e1 _ _
      subst e1
      refine ⟨bb, off, rfl, hW.cell (hcell k _ (by rw [bc_get, List.getElem?_eq_getElem hk]; rfl)) (fun e2 => hvg ?_)⟩
      rw [hvv]; simpa [Value.ownBlock] using e2
  subst hvv
  clear h hv hn hvg
  go_enter Tryz.func34, Tryz.ntmps34
  go_wp2_with fail
  go_loopw [11] (fun s11 wr => ∃ (k : Nat) (lk : List UInt8), s11 = .int .i64 k ∧ k ≤ n ∧ l = b.take k ++ lk ∧ RDo wr g d lk ∧ w.grownBy wr (some g)) (fun s11 _ => n - (intOf s11).toNat)
  case atStart => exact ⟨0, l, rfl, by omega, by simp, H.out.1, grownBy_refl _ _⟩
  case round =>
    obtain ⟨k, lk, rfl, hk, hlk, hrd, hgr⟩ := hrel
    have HX : Hid (l = b.take k ++ lk ∧ RDo wr g d lk ∧ w.grownBy wr (some g)) := ⟨hlk, hrd, hgr⟩
    clear hlk hrd hgr
    by_cases hlt : k < n
    · have hkb : k < b.length := by rw [HN.out]; exact hlt
      obtain ⟨bb, off, ea, hcb⟩ := HC.out wr HX.out.2.2 k hkb
      subst ea
      have k1 : (k : Int) < (n : Int) := by omega
      have k2 : (0 : Int) ≤ (k : Int) := by omega
      obtain ⟨y, hy⟩ : ∃ y, b[k] = y := ⟨_, rfl⟩
      have HY : Hid (b.take (k + 1) = b.take k ++ [y] ∧ ∀ r, l = b ++ r → ∃ r', lk = y :: r') := by
        refine ⟨by rw [List.take_succ_eq_append_getElem hkb, hy], fun r e => ⟨b.drop (k + 1) ++ r, ?_⟩⟩
        have e2 : b.take k ++ lk = b.take k ++ (y :: (b.drop (k + 1) ++ r)) := by
          rw [← HX.out.1, e]
          conv => lhs; rw [← List.take_append_drop k b, List.drop_eq_getElem_cons hkb, hy]
          simp
        exact List.append_cancel_left e2
      rw [hy] at hcb
      have hyl : (y.toNat : Int) < 256 := by have := y.toNat_lt; omega
      have ky : IntKind.u64.wrap (y.toNat : Int) = (y.toNat : Int) := by rw [IntKind.wrap_u64]; omega
      clear hy hyl
      cases lk with
      | nil =>
        have HNo : Hid (Calls Tryz.prog 35 #[.pointer (some ⟨g, 0, none⟩), .int .i64 1] wr fun e w' => e = .returned (.tuple #[.int .u64 0, .int .i64 11]) ∧ w' = wr) := numberNo1 HX.out.2.1 (by simp)
        go_wp2_with fail
        refine HNo.out.mono ?_
        rintro e w1 ⟨rfl, rfl⟩
        go_wp2_with fail
        go_ret
        refine ⟨false, [], rfl, HX.out.2.1, HX.out.2.2, (fun e => by cases e), fun _ r e => ?_⟩
        obtain ⟨r', e2⟩ := HY.out.2 r e
        cases e2
      | cons c r =>
        have HNu : Hid (Calls Tryz.prog 35 #[.pointer (some ⟨g, 0, none⟩), .int .i64 1] wr fun e w' => e = .returned (.tuple #[.int .u64 (c.toNat : Int), .int .i64 0]) ∧ RDo w' g d r ∧ wr.grownBy w' (some g)) := by
          have := number1 HX.out.2.1 (by simp)
          show Calls _ _ _ _ _
          simpa [num] using this
        by_cases he : c = y
        · subst he
          go_wp2_with fail
          refine HNu.out.mono ?_
          rintro e w1 ⟨rfl, hr1, hg1⟩
          have H1 : Hid (RDo w1 g d r ∧ w.grownBy w1 (some g)) := ⟨hr1, grownBy_trans HX.out.2.2 hg1⟩
          clear hr1 hg1
          have q1 : ((c.toNat : Int) == (c.toNat : Int)) = true := by simp
          go_wp2_with fail
          go_roundw
          case rel => exact ⟨k + 1, r, by go_num, by omega, by rw [HY.out.1, HX.out.1]; simp, H1.out.1, H1.out.2⟩
          case measure => simp [intOf]; omega
        · have hne : c.toNat ≠ y.toNat := fun e => he (UInt8.toNat_inj.1 e)
          have q1 : ((c.toNat : Int) == (y.toNat : Int)) = false := by simp; omega
          have q2 : ¬ (c.toNat : Int) = (y.toNat : Int) := by omega
          have HE : Hid (c ≠ y) := he
          clear he hne
          go_wp2_with fail
          refine HNu.out.mono ?_
          rintro e w1 ⟨rfl, hr1, hg1⟩
          have H1 : Hid (RDo w1 g d r ∧ w.grownBy w1 (some g)) := ⟨hr1, grownBy_trans HX.out.2.2 hg1⟩
          clear hr1 hg1
          go_wp2_with fail
          go_ret
          refine ⟨false, r, rfl, H1.out.1, H1.out.2, (fun e => by cases e), fun _ r2 e => ?_⟩
          obtain ⟨r', e2⟩ := HY.out.2 r2 e
          injection e2 with e2 _
          exact HE.out e2
    · obtain rfl : n = k := by omega
      have k1 : ¬ (n : Int) < (n : Int) := by omega
      go_wp2_with fail
      go_ret
      refine ⟨true, lk, rfl, HX.out.2.1, HX.out.2.2, fun _ => ?_, fun e => by cases e⟩
      rw [HX.out.1, ← HN.out, List.take_length]

set_option maxRecDepth 100000 in
set_option maxHeartbeats 4000000 in
theorem youngest_any {w : World} {T : Nat → Prop} {g : Nat} {v : Value} {l : List En} {x : En} (h : CB w T g v (l ++ [x])) (hl : l.length ≤ 512) : Calls Tryz.prog 72 #[.pointer (some ⟨g, 0, none⟩)] w fun e w' => e = .returned x.val ∧ Below w.heap.size w w' := by
  obtain ⟨av, cv, hvv⟩ := h.row.form
  obtain ⟨m, hm⟩ : ∃ m, l.length = m := ⟨_, rfl⟩
  have hn : (l ++ [x]).length = m + 1 := by simp [hm]
  rw [hn] at hvv
  subst hvv
  have hz : EB (w.alloc (.cells #[.string (bs []), .string (bs []), .slice none 0 0, .int .i64 0] 74)) w.heap.size ⟨[], [], none, 0, 0, 0⟩ := EB.new w ⟨[], [], none, 0, 0, 0⟩
  obtain ⟨w0, hw0⟩ : ∃ w0, w.alloc (.cells #[.string (bs []), .string (bs []), .slice none 0 0, .int .i64 0] 74) = w0 := ⟨_, rfl⟩
  have hb0 : Below w.heap.size w w0 := by rw [← hw0]; exact balloc _ _
  rw [hw0] at hz
  obtain ⟨b, rfl, hbw, d0, d1, d2, d3⟩ := h.row.at hb0 (k := m) (by omega)
  have hx : (l ++ [x])[m]'(by omega) = x := by simp [hm]
  rw [hx] at d0 d1 d2 d3
  have c0 := (h.later hb0).cell.1
  obtain ⟨xp, xt, xa, xn, xc, xz⟩ := x
  simp only at d0 d1 d2 d3
  obtain ⟨q0, q1, q2, q3, qf⟩ := hz.cells
  have f0 := qf 0
  have f1 := qf 1
  have f2 := qf 2
  have f3 := qf 3
  simp only at q0 q1 q2 q3
  have HZ : Hid (EB w0 w.heap.size ⟨[], [], none, 0, 0, 0⟩) := hz
  have HB : Hid (Below w.heap.size w w0) := hb0
  have HW : Hid (w.alloc (.cells #[.string (bs []), .string (bs []), .slice none 0 0, .int .i64 0] 74) = w0) := hw0
  have e5 : (⟨#[]⟩ : ByteArray) = bs [] := rfl
  have kn : (((m + 1 : Nat) : Int)) - 1 = (m : Int) := by omega
  have kw : IntKind.i64.wrap (((m + 1 : Nat) : Int) - 1) = (m : Int) := by rw [IntKind.wrap_i64]; omega
  have kw2 : IntKind.i64.wrap ((m : Int) + 1 - 1) = (m : Int) := by rw [IntKind.wrap_i64]; omega
  have kw3 : IntKind.i64.wrap (m : Int) = (m : Int) := by rw [IntKind.wrap_i64]; omega
  have k1 : (0 : Int) ≤ (m : Int) := by omega
  have k2 : (m : Int) < (m : Int) + 1 := by omega
  clear h hm hn hz hw0 hb0 hbw hx qf
  go_enter Tryz.func72, Tryz.ntmps72
  go_wp2_with fail
  rw [HW.out]
  go_region
  go_wp2_with fail
  obtain ⟨w3, hw3⟩ : ∃ w3, (((w0.setCell ⟨w.heap.size, 0, none⟩ (.string (bs xp))).setCell ⟨w.heap.size, 1, none⟩ (.string (bs xt))).setCell ⟨w.heap.size, 2, none⟩ (.slice xa xn xc)).setCell ⟨w.heap.size, 3, none⟩ (.int .i64 xz) = w3 := ⟨_, rfl⟩
  rw [hw3]
  have h3 := HZ.out.set ⟨xp, xt, xa, xn, xc, xz⟩
  have o3 := only4 w0 w.heap.size ⟨xp, xt, xa, xn, xc, xz⟩
  simp only at h3 o3
  rw [hw3] at h3 o3
  have h4 : w3.drew.heap[w.heap.size]? = some (.cells #[.string (bs xp), .string (bs xt), .slice xa xn xc, .int .i64 xz] 74 (0, 0)) := h3
  refine bodyPost_ret (results_cell_row rfl _ _ w.heap.size 74 #[.string (bs xp), .string (bs xt), .slice xa xn xc, .int .i64 xz] (0, 0) _ rfl h4 Tryz.underlying74 rfl (by kernel_rfl)) rfl ?_
  exact ⟨rfl, (below_trans HB.out (o3.below HB.out.size (fun k hk => by simp at hk; omega))).drew⟩
end Go.Proofs.YtddaoloabfkheaaGreatDoor
