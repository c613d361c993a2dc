/-
  The bytes of targets, of an entry.
  The cache in memory: targets in blocks of their own, entries in a row; where a key is.
-/
import Derived.Test.YtddaoloabfkheaaGreatDoorJZc
import Derived.Test.YtddaoloabfkheaaGreatDoorJLw
namespace Go.Proofs.YtddaoloabfkheaaGreatDoor
open Go.RowKit

set_option maxRecDepth 100000 in
set_option maxHeartbeats 4000000 in
theorem lsG_any {w : World} {v : Value} {l : List Tg} (h : GR w v l) (hx : ∀ x ∈ l, TgS x) (hl : l.length ≤ 100000) (ht : (l.flatMap tgB).length ≤ 9000000000) :
    Calls Tryz.prog 98 #[v, .func (.func 99) #[] #[]] w (BtP w (le 4 l.length ++ l.flatMap tgB)) := by
  obtain ⟨tv, h1, h2⟩ := h.it
  have H : Hid (GS w v tv ∧ TsRead w tv l) := ⟨h1, h2⟩
  have HQ : Hid (∀ x ∈ l, TgS x) := hx
  obtain ⟨av, cv, hvv⟩ := h.len
  clear h hx h1 h2
  obtain ⟨n, hn⟩ : ∃ n, l.length = n := ⟨_, rfl⟩
  rw [hn] at hvv hl
  subst hvv
  rw [hn]
  have HN : Hid (l.length = n) := hn
  have HP : Hid (∀ W, Calls Tryz.prog 68 #[.slice none 0 0, .int .u32 (n : Int)] W fun e w' => ∃ v', e = .returned v' ∧ OwnB W.heap.size w' v' ([] ++ le 4 n) ∧ Below W.heap.size W w') := fun W => put32_any (BS_nil W) _ n rfl (by omega) (by simp)
  have HT : Hid ((l.flatMap tgB).length ≤ 9000000000) := ht
  have kw : IntKind.u32.wrap (n : Int) = (n : Int) := by rw [IntKind.wrap_u32]; omega
  clear ht hn
  go_enter Tryz.func98, Tryz.ntmps98
  go_wp2_with fail
  refine (HP.out _).mono ?_
  rintro e w1 ⟨v1, rfl, ho1, hb1⟩
  obtain ⟨a1, n1, c1, rfl⟩ := ho1.bs.ones
  have H1 : Hid (RWs w.heap.size (w1.alloc (.cells #[.slice a1 n1 c1] 41)) (.slice (some ⟨w1.heap.size, 0, none⟩) 1 1) [le 4 n] ∧ Below w.heap.size w (w1.alloc (.cells #[.slice a1 n1 c1] 41))) :=
    ⟨(RWs.one ho1).mono hb1.size, bstep hb1 (balloc _ _)⟩
  clear ho1 hb1 kw
  go_wp2_with fail
  go_loopw [5, 15] (fun s5 s15 wr => ∃ (k : Nat) (v0 : Value), v0 = s5 ∧ s15 = .int .i64 k ∧ k ≤ n ∧ RWs w.heap.size wr v0 (le 4 n :: (l.take k).map tgB) ∧ Below w.heap.size w wr) (fun _ s15 _ => n - (intOf s15).toNat)
  case atStart => exact ⟨0, _, rfl, rfl, by omega, by simpa using H1.out.1, H1.out.2⟩
  case round =>
    obtain ⟨k, v0, rfl, rfl, hk, ho, hb⟩ := hrel
    have HX : Hid (RWs w.heap.size wr v0 (le 4 n :: (l.take k).map tgB) ∧ Below w.heap.size w wr) := ⟨ho, hb⟩
    clear ho hb
    by_cases hlt : k < n
    · have hkl : k < l.length := by rw [HN.out]; exact hlt
      have hkt : k < tv.length := by rw [H.out.2.len]; exact hkl
      obtain ⟨b, off, ea, hbw, d0, d1, d2, d3⟩ := GS.at H.out.1 HX.out.2 hkt
      subst ea
      obtain ⟨x, hxe⟩ : ∃ x, l[k] = x := ⟨_, rfl⟩
      have HA : Hid (l[k] = x) := hxe
      have hrd := H.out.2.get k hkt hkl
      rw [hxe] at hrd
      have HC : Hid (∀ W, Below w.heap.size w W → Calls Tryz.prog 99 #[.agg #[.string (bs tv[k].name), .slice tv[k].sa tv[k].sn tv[k].sc, .slice tv[k].da tv[k].dn tv[k].dc, .slice tv[k].ea tv[k].en tv[k].ec]] W (BtP W (tgB x))) := fun W hW => tgrow_any (hrd.later hW) (HQ.out x (hxe ▸ List.getElem_mem hkl))
      clear hxe hrd
      generalize tv[k] = tx at d0 d1 d2 d3 HC
      obtain ⟨nm, sa, sn, sc, da, dn, dc, ea, en, ec⟩ := tx
      simp only at d0 d1 d2 d3 HC
      have k1 : (k : Int) < (n : Int) := by omega
      have k2 : (0 : Int) ≤ (k : Int) := by omega
      have HL : Hid ((le 4 n :: (l.take k).map tgB).length + 1 ≤ 100000000) := by show _ ≤ _; simp; omega
      go_wp2_with fail
      refine (HC.out _ (bstep HX.out.2 (balloc _ _))).mono ?_
      rintro e w2 ⟨v2, rfl, ho2, hb2⟩
      obtain ⟨a2, n2, c2, rfl⟩ := ho2.bs.ones
      have H2 : Hid (OwnB wr.heap.size w2 (.slice a2 n2 c2) (tgB x) ∧ Below wr.heap.size wr w2) := ⟨ho2.mono (balloc _ _).size, bstep (balloc _ _) hb2⟩
      clear ho2 hb2 HC
      go_wp2_with (at_builtin; refine app_RR (w0 := wr) HX.out.1 H2.out.2 H2.out.1 (Nat.le_refl _) HL.out HX.out.2.size rfl (.tmp 19) (.tmp 23) rfl rfl rfl ?_; intro v3 w3 ho3 hb3; have H3 : Hid (RWs w.heap.size w3 v3 (le 4 n :: (l.take k).map tgB ++ [tgB x]) ∧ Below w.heap.size w2 w3) := ⟨ho3, hb3⟩; clear ho3 hb3)
      go_roundw
      case rel =>
        refine ⟨k + 1, _, rfl, by go_num, by omega, ?_, below_trans (bstep HX.out.2 H2.out.2) H3.out.2⟩
        rw [List.take_succ_eq_append_getElem hkl, List.map_append, List.map_cons, List.map_nil, HA.out]
        exact H3.out.1
      case measure => simp [intOf]; omega
    · obtain rfl : n = k := by omega
      have k1 : ¬ (n : Int) < (n : Int) := by omega
      have HJ : Hid (Calls Tryz.prog 29 #[v0] wr fun e w' => ∃ v', e = .returned v' ∧ OwnB wr.heap.size w' v' (le 4 n :: l.map tgB).flatten ∧ Below wr.heap.size wr w') := by
        have hr := HX.out.1
        rw [List.take_of_length_le (by have := HN.out; omega)] at hr
        refine ojoin_any hr.rws ?_ ?_
        · have := HN.out; simp; omega
        · have := HT.out; unfold tot; rw [List.flatten_cons, List.length_append, le_length, ← List.flatMap_def]; omega
      go_wp2_with fail
      refine HJ.out.mono ?_
      rintro e w4 ⟨v4, rfl, ho4, hb4⟩
      have H4 : Hid (OwnB w.heap.size w4 v4 (le 4 n ++ l.flatMap tgB) ∧ Below w.heap.size w w4) := ⟨by rw [List.flatMap_def]; exact ho4.mono HX.out.2.size, bstep HX.out.2 hb4⟩
      clear ho4 hb4
      go_wp2_with fail
      go_ret
      exact ⟨_, rfl, H4.out⟩

/-- the bytes behind an entry's key -/
def saB (A : List Tg) (z : Int) : List UInt8 := le 8 (u64 z) ++ (le 4 A.length ++ A.flatMap tgB)
theorem enB_said (k : Lb) (A : List Tg) (z : Int) : enB k (A, z) = txB k.pkg ++ txB k.name ++ saB A z := by
  unfold enB saB
  simp only [List.append_assoc]

set_option maxRecDepth 100000 in
set_option maxHeartbeats 8000000 in
theorem said_any {w : World} (x : En) {A : List Tg} (h : GR w (.slice x.a x.n x.c) A) (hT : TBd A) : Calls Tryz.prog 69 #[x.val] w (BtP w (saB A x.z)) := by
  obtain ⟨p, t, a, n, c, z⟩ := x
  simp only at h
  simp only [En.val]
  have hfl := hT.flat
  have hle := hT.len
  have HL : Hid ((le 8 (u64 z)).length + (le 4 A.length ++ A.flatMap tgB).length ≤ 10000000000) := by show _ ≤ _; rw [List.length_append, le_length, le_length]; omega
  have HP : Hid (∀ W, Calls Tryz.prog 97 #[.slice none 0 0, .int .u64 ((u64 z : Nat) : Int)] W (BtP W (le 8 (u64 z)))) := fun W => (put64_any (BS_nil W) _ (u64 z) rfl (by simp)).mono fun e w' ⟨v', h1, h2, h3⟩ => ⟨v', h1, by simpa using h2, h3⟩
  have HG : Hid (∀ W, Below w.heap.size w W → Calls Tryz.prog 98 #[.slice a n c, .func (.func 99) #[] #[]] W (BtP W (le 4 A.length ++ A.flatMap tgB))) := fun W hW => lsG_any (h.later hW) (fun t ht => TgS.of hT ht) (by omega) (by omega)
  have kz : IntKind.u64.wrap z = ((u64 z : Nat) : Int) := wrap_u64z z
  unfold saB
  generalize u64 z = y at *
  generalize hb1 : le 8 y = b1 at *
  generalize hb2 : le 4 A.length ++ A.flatMap tgB = b2 at *
  clear hb1 hb2 h hT hfl hle
  obtain ⟨w0, hw0⟩ : ∃ w0, w.alloc (.cells #[.string (bs p), .string (bs t), .slice a n c, .int .i64 z] 74) = w0 := ⟨_, rfl⟩
  have x2 : w0.cell? ⟨w.heap.size, 2, none⟩ = some (.slice a n c) := by rw [← hw0]; simp
  have x3 : w0.cell? ⟨w.heap.size, 3, none⟩ = some (.int .i64 z) := by rw [← hw0]; simp
  have HX : Hid (∀ W, Below w0.heap.size w0 W → W.cell? ⟨w.heap.size, 2, none⟩ = some (.slice a n c) ∧ W.cell? ⟨w.heap.size, 3, none⟩ = some (.int .i64 z)) := fun W hW => by
    have hlt : w.heap.size < w0.heap.size := by rw [← hw0]; simp
    exact ⟨(hW.cell (p := ⟨w.heap.size, 2, none⟩) hlt).trans x2, (hW.cell (p := ⟨w.heap.size, 3, none⟩) hlt).trans x3⟩
  have HB : Hid (Below w.heap.size w w0) := by rw [← hw0]; exact balloc _ _
  have HW : Hid (w.alloc (.cells #[.string (bs p), .string (bs t), .slice a n c, .int .i64 z] 74) = w0) := hw0
  clear hw0
  go_enter Tryz.func69, Tryz.ntmps69
  go_wp2_with fail
  rw [HW.out]
  go_region_held3 (fun w' => w'.cell? ⟨w.heap.size, 2, none⟩ = some (.slice a n c) ∧ w'.cell? ⟨w.heap.size, 3, none⟩ = some (.int .i64 z)) (first | (with_reducible exact ⟨x2, x3⟩) | (with_reducible exact HX.out _ (Below.refl _ _).drew) | (with_reducible exact KA.out) | (with_reducible exact KB.out) | (with_reducible exact KC.out) | go_keep) (first
    | (go_at_call 29; (with_reducible refine (join2 O2.out.1 O2.out.2.1 HL.out).mono ?_); rintro e w3 ⟨v3, rfl, ho3, hb3⟩; have O3 : Hid (OwnB w.heap.size w3 v3 (b1 ++ b2) ∧ Below w.heap.size w w3) := ⟨ho3.mono (Nat.le_trans HB.out.size O2.out.2.2.size), bstep HB.out (bstep O2.out.2.2 hb3)⟩; have KC := hid_of (HX.out w3 (bstep O2.out.2.2 hb3)); clear ho3 hb3)
    | (go_at_call 98; (with_reducible refine (HG.out _ (bstep HB.out O1.out.2)).mono ?_); rintro e w2 ⟨v2, rfl, ho2, hb2⟩; obtain ⟨a2, n2, c2, rfl⟩ := ho2.bs.ones; have O2 : Hid (BS w2 (.slice a1 n1 c1) b1 ∧ BS w2 (.slice a2 n2 c2) b2 ∧ Below w0.heap.size w0 w2) := ⟨O1.out.1.later hb2, ho2.bs, bstep O1.out.2 hb2⟩; have KB := hid_of (HX.out w2 O2.out.2.2); clear ho2 hb2)
    | (go_at_call 97; (with_reducible refine (HP.out _).mono ?_); rintro e w1 ⟨v1, rfl, ho1, hb1⟩; obtain ⟨a1, n1, c1, rfl⟩ := ho1.bs.ones; have O1 : Hid (BS w1 (.slice a1 n1 c1) b1 ∧ Below w0.heap.size w0 w1) := ⟨ho1.bs, bstep (Below.refl _ _).drew hb1⟩; have KA := hid_of (HX.out w1 O1.out.2); clear ho1 hb1))
  go_wp2_with fail
  go_ret
  exact ⟨_, rfl, O3.out⟩

set_option maxRecDepth 100000 in
set_option maxHeartbeats 8000000 in
theorem enrow_any {w : World} (x : En) {A : List Tg} (h : GR w (.slice x.a x.n x.c) A) (hT : TBd A) (hp : x.p.length ≤ 1000000000) (ht : x.t.length ≤ 1000000000) : Calls Tryz.prog 32 #[x.val] w (BtP w (enB x.key (A, x.z))) := by
  have HD : Hid (∀ W, Below w.heap.size w W → Calls Tryz.prog 69 #[x.val] W (BtP W (saB A x.z))) := fun W hW => said_any x (h.later hW) hT
  rw [enB_said]
  have hfl := hT.flat
  have HL : Hid ((txB x.p).length + (txB x.t).length + (saB A x.z).length ≤ 10000000000) := by
    show _ ≤ _
    unfold saB
    simp only [List.length_append, le_length, txB_len]
    omega
  obtain ⟨p, t, a, n, c, z⟩ := x
  simp only [En.val, En.key] at *
  have HP : Hid (∀ W, Calls Tryz.prog 30 #[.string (bs p)] W (BtP W (txB p))) := fun W => txrow_any p W hp
  have HM : Hid (∀ W, Calls Tryz.prog 30 #[.string (bs t)] W (BtP W (txB t))) := fun W => txrow_any t W ht
  generalize txB p = b1 at *
  generalize txB t = b2 at *
  generalize saB A z = b3 at *
  clear h hT hfl hp ht
  obtain ⟨w0, hw0⟩ : ∃ w0, w.alloc (.cells #[.string (bs p), .string (bs t), .slice a n c, .int .i64 z] 74) = w0 := ⟨_, rfl⟩
  have x0 : w0.cell? ⟨w.heap.size, 0, none⟩ = some (.string (bs p)) := by rw [← hw0]; simp
  have x1 : w0.cell? ⟨w.heap.size, 1, none⟩ = some (.string (bs t)) := by rw [← hw0]; simp
  have x2 : w0.cell? ⟨w.heap.size, 2, none⟩ = some (.slice a n c) := by rw [← hw0]; simp
  have x3 : w0.cell? ⟨w.heap.size, 3, none⟩ = some (.int .i64 z) := by rw [← hw0]; simp
  have HX : Hid (∀ W, Below w0.heap.size w0 W → W.cell? ⟨w.heap.size, 0, none⟩ = some (.string (bs p)) ∧ W.cell? ⟨w.heap.size, 1, none⟩ = some (.string (bs t)) ∧ W.cell? ⟨w.heap.size, 2, none⟩ = some (.slice a n c) ∧ W.cell? ⟨w.heap.size, 3, none⟩ = some (.int .i64 z)) := fun W hW => by
    have hlt : w.heap.size < w0.heap.size := by rw [← hw0]; simp
    exact ⟨(hW.cell (p := ⟨w.heap.size, 0, none⟩) hlt).trans x0, (hW.cell (p := ⟨w.heap.size, 1, none⟩) hlt).trans x1, (hW.cell (p := ⟨w.heap.size, 2, none⟩) hlt).trans x2, (hW.cell (p := ⟨w.heap.size, 3, none⟩) hlt).trans x3⟩
  have HB : Hid (Below w.heap.size w w0) := by rw [← hw0]; exact balloc _ _
  have HW : Hid (w.alloc (.cells #[.string (bs p), .string (bs t), .slice a n c, .int .i64 z] 74) = w0) := hw0
  clear hw0
  go_enter Tryz.func32, Tryz.ntmps32
  go_wp2_with fail
  rw [HW.out]
  go_region_held3 (fun w' => w'.cell? ⟨w.heap.size, 0, none⟩ = some (.string (bs p)) ∧ w'.cell? ⟨w.heap.size, 1, none⟩ = some (.string (bs t)) ∧ w'.cell? ⟨w.heap.size, 2, none⟩ = some (.slice a n c) ∧ w'.cell? ⟨w.heap.size, 3, none⟩ = some (.int .i64 z)) (first | (with_reducible exact ⟨x0, x1, x2, x3⟩) | (with_reducible exact HX.out _ (Below.refl _ _).drew) | (with_reducible exact KA.out) | (with_reducible exact KB.out) | (with_reducible exact KC.out) | (with_reducible exact KD.out) | go_keep) (first
    | (go_at_call 29; (with_reducible refine (join3 O3.out.1 O3.out.2.1 O3.out.2.2.1 HL.out).mono ?_); rintro e w4 ⟨v4, rfl, ho4, hb4⟩; have O4 : Hid (OwnB w.heap.size w4 v4 (b1 ++ b2 ++ b3) ∧ Below w.heap.size w w4) := ⟨ho4.mono (Nat.le_trans HB.out.size O3.out.2.2.2.size), bstep HB.out (bstep O3.out.2.2.2 hb4)⟩; have KD := hid_of (HX.out w4 (bstep O3.out.2.2.2 hb4)); clear ho4 hb4)
    | (go_at_call 69; (with_reducible refine (HD.out _ (bstep HB.out O2.out.2.2)).mono ?_); rintro e w3 ⟨v3, rfl, ho3, hb3⟩; obtain ⟨a3, n3, c3, rfl⟩ := ho3.bs.ones; have O3 : Hid (BS w3 (.slice a1 n1 c1) b1 ∧ BS w3 (.slice a2 n2 c2) b2 ∧ BS w3 (.slice a3 n3 c3) b3 ∧ Below w0.heap.size w0 w3) := ⟨O2.out.1.later hb3, O2.out.2.1.later hb3, ho3.bs, bstep O2.out.2.2 hb3⟩; have KC := hid_of (HX.out w3 O3.out.2.2.2); clear ho3 hb3)
    | (go_at_call 30; (with_reducible refine (HM.out _).mono ?_); rintro e w2 ⟨v2, rfl, ho2, hb2⟩; obtain ⟨a2, n2, c2, rfl⟩ := ho2.bs.ones; have O2 : Hid (BS w2 (.slice a1 n1 c1) b1 ∧ BS w2 (.slice a2 n2 c2) b2 ∧ Below w0.heap.size w0 w2) := ⟨O1.out.1.later hb2, ho2.bs, bstep O1.out.2 hb2⟩; have KB := hid_of (HX.out w2 O2.out.2.2); clear ho2 hb2)
    | (go_at_call 30; (with_reducible refine (HP.out _).mono ?_); rintro e w1 ⟨v1, rfl, ho1, hb1⟩; obtain ⟨a1, n1, c1, rfl⟩ := ho1.bs.ones; have O1 : Hid (BS w1 (.slice a1 n1 c1) b1 ∧ Below w0.heap.size w0 w1) := ⟨ho1.bs, bstep (Below.refl _ _).drew hb1⟩; have KA := hid_of (HX.out w1 O1.out.2); clear ho1 hb1))
  go_wp2_with fail
  go_ret
  exact ⟨_, rfl, O4.out⟩
end Go.Proofs.YtddaoloabfkheaaGreatDoor

namespace Go.Proofs.YtddaoloabfkheaaGreatDoor
open Go.RowKit

theorem SS.stay {w w' : World} {v : Value} {l : List (List UInt8)} (h : SS w v l) (hz : w.heap.size ≤ w'.heap.size) (hs : ∀ k, v.ownBlock = some k → w'.heap[k]? = w.heap[k]?) : SS w' v l := by
  rcases h with h | ⟨b, off, cap, rfl, hc, hlt, hcell⟩
  · exact .inl h
  · refine .inr ⟨b, off, cap, rfl, hc, Nat.lt_of_lt_of_le hlt hz, fun i u hu => ?_⟩
    have e := hs b rfl
    have := hcell i u hu
    unfold World.cell? at this ⊢
    simp only [e]
    exact this
theorem GS.stay {w w' : World} {v : Value} {l : List Tv} (h : GS w v l) (hz : w.heap.size ≤ w'.heap.size) (hs : ∀ k, v.ownBlock = some k → w'.heap[k]? = w.heap[k]?) : GS w' v l := by
  rcases h with h | ⟨b, off, cap, rfl, hc, hlt, hcell⟩
  · exact .inl h
  · refine .inr ⟨b, off, cap, rfl, hc, Nat.lt_of_lt_of_le hlt hz, fun i u hu => ?_⟩
    have e := hs b rfl
    have := hcell i u hu
    unfold World.cell? at this ⊢
    simp only [e]
    exact this
theorem TRead.stay {w w' : World} {v : Tv} {t : Tg} (h : TRead w v t) (hz : w.heap.size ≤ w'.heap.size) (hs : ∀ u ∈ v.vals, ∀ k, u.ownBlock = some k → w'.heap[k]? = w.heap[k]?) : TRead w' v t :=
  ⟨h.name, h.s.stay hz (hs _ (by simp [Tv.vals])), h.d.stay hz (hs _ (by simp [Tv.vals])), h.e.stay hz (hs _ (by simp [Tv.vals]))⟩
theorem TsRead.stay {w w' : World} (hz : w.heap.size ≤ w'.heap.size) : ∀ {a : List Tv} {b : List Tg}, TsRead w a b → (∀ t ∈ a, ∀ u ∈ t.vals, ∀ k, u.ownBlock = some k → w'.heap[k]? = w.heap[k]?) → TsRead w' a b
  | [], [], _, _ => trivial
  | t :: _, _ :: _, h, hs => ⟨h.1.stay hz (hs t (by simp)), TsRead.stay hz h.2 (fun y hy => hs y (by simp [hy]))⟩
/-- targets in memory, all of it in blocks of T -/
structure GMt (w : World) (T : Nat → Prop) (v : Value) (l : List Tg) : Prop where
  it : ∃ a : List Tv, GS w v a ∧ TsRead w a l ∧ (∀ k, v.ownBlock = some k → T k) ∧ (∀ t ∈ a, ∀ u ∈ t.vals, ∀ k, u.ownBlock = some k → T k)
theorem GMt.stay {w w' : World} {T : Nat → Prop} {v : Value} {l : List Tg} (h : GMt w T v l) (hz : w.heap.size ≤ w'.heap.size) (hs : ∀ k, T k → w'.heap[k]? = w.heap[k]?) : GMt w' T v l := by
  obtain ⟨a, h1, h2, h3, h4⟩ := h.it
  exact ⟨a, h1.stay hz (fun k hk => hs k (h3 k hk)), TsRead.stay hz h2 (fun t ht u hu k hk => hs k (h4 t ht u hu k hk)), h3, h4⟩
theorem GMt.wider {w : World} {T T' : Nat → Prop} {v : Value} {l : List Tg} (h : GMt w T v l) (hT : ∀ k, T k → T' k) : GMt w T' v l := by
  obtain ⟨a, h1, h2, h3, h4⟩ := h.it
  exact ⟨a, h1, h2, fun k hk => hT k (h3 k hk), fun t ht u hu k hk => hT k (h4 t ht u hu k hk)⟩
theorem GMt.read {w : World} {T : Nat → Prop} {v : Value} {l : List Tg} (h : GMt w T v l) : GR w v l := by
  obtain ⟨a, h1, h2, _⟩ := h.it
  exact ⟨a, h1, h2⟩
theorem GOwn.gmt {base : Nat} {w : World} {v : Value} {l : List Tg} (h : GOwn base w v l) : GMt w (fun k => base ≤ k ∧ k < w.heap.size) v l := by
  obtain ⟨a, h1, h2, _⟩ := h.it
  exact ⟨a, h1.rs, h2.read, fun k hk => h1.lt hk, fun t ht u hu k hk => h2.lt t ht u hu k hk⟩
/-- an entry whose targets and place are those of the parse of its text -/
structure TF (w : World) (T : Nat → Prop) (x : En) : Prop where
  g : GMt w T (.slice x.a x.n x.c) (prsM (dir x.p) x.t).1
  z : x.z = (prsM (dir x.p) x.t).2
theorem TF.stay {w w' : World} {T : Nat → Prop} {x : En} (h : TF w T x) (hz : w.heap.size ≤ w'.heap.size) (hs : ∀ k, T k → w'.heap[k]? = w.heap[k]?) : TF w' T x := ⟨h.g.stay hz hs, h.z⟩
theorem TF.wider {w : World} {T T' : Nat → Prop} {x : En} (h : TF w T x) (hT : ∀ k, T k → T' k) : TF w T' x := ⟨h.g.wider hT, h.z⟩
/-- a cache's blocks: its own, its row, its targets' -/
structure CB (w : World) (T : Nat → Prop) (g : Nat) (v : Value) (l : List En) : Prop where
  blk : w.heap[g]? = some (.cells #[v] 33 (0, 0))
  row : OwnE 0 w v l
  tf : ∀ x ∈ l, TF w T x
  vg : v.ownBlock ≠ some g
  tg : ∀ k, T k → k ≠ g ∧ v.ownBlock ≠ some k
  tl : ∀ k, T k → k < w.heap.size
section
variable {w w' : World} {T : Nat → Prop} {g : Nat} {v : Value} {l : List En}
theorem CB.lt (h : CB w T g v l) : g < w.heap.size := (Array.getElem?_eq_some_iff.1 h.blk).1
theorem CB.stay (h : CB w T g v l) (hz : w.heap.size ≤ w'.heap.size) (h0 : w'.heap[g]? = w.heap[g]?) (h1 : ∀ k, v.ownBlock = some k → w'.heap[k]? = w.heap[k]?) (h2 : ∀ k, T k → w'.heap[k]? = w.heap[k]?) : CB w' T g v l :=
  ⟨h0.trans h.blk, h.row.stay h1, fun x hx => (h.tf x hx).stay hz h2, h.vg, h.tg, fun k hk => Nat.lt_of_lt_of_le (h.tl k hk) hz⟩
theorem CB.later (h : CB w T g v l) (hb : Below w.heap.size w w') : CB w' T g v l :=
  h.stay hb.size (hb.block g h.lt) (fun k hk => hb.block k (h.row.lt hk).2) (fun k hk => hb.block k (h.tl k hk))
theorem CB.cell (h : CB w T g v l) : w.cell? ⟨g, 0, none⟩ = some v ∧ w.frozen? ⟨g, 0, none⟩ = false := by
  have hb := h.blk
  exact ⟨by simp [World.cell?, hb], by simp [World.frozen?, hb]⟩
end
theorem stE : Tryz.prog.underlying 69 = some (.struct (Tryz.prog.fieldsOf 69)) := by kernel_rfl
theorem heldE : Tryz.prog.stoodInHeld 69 = false := by kernel_rfl
theorem guardE : Tryz.prog.eqGuardType Tryz.prog.depth 69 = false := by kernel_rfl
theorem fldsE : (Tryz.prog.fieldsOf 69).toList.map (fun f => (f.name, f.type, f.offset)) = [("path", 9, 0), ("text", 9, 1)] := by kernel_rfl
theorem equal_runE (w : World) (p t p' t' : List UInt8) :
    (Op.equalIn 10000 69 (.agg #[.string (bs p), .string (bs t)]) (.agg #[.string (bs p'), .string (bs t')])).run Tryz.prog w = .ok (decide ((⟨p, t⟩ : Lb) = ⟨p', t'⟩)) w := by
  rw [run_equalIn_struct w 9999 69 _ _ stE heldE]
  have h := fldsE
  revert h
  generalize (Tryz.prog.fieldsOf 69).toList = L
  intro h
  have hl : L.length = 2 := by have := congrArg List.length h; simpa using this
  obtain ⟨f0, f1, rfl⟩ : ∃ f0 f1, L = [f0, f1] := by
    rcases L with _ | ⟨f0, _ | ⟨f1, _ | ⟨f2, r⟩⟩⟩
    · simp at hl
    · simp at hl
    · exact ⟨f0, f1, rfl⟩
    · simp at hl
  · simp only [List.map_cons, List.map_nil, List.cons.injEq, Prod.mk.injEq, and_true] at h
    obtain ⟨⟨n0, t0, o0⟩, ⟨n1, t1, o1⟩⟩ := h
    have e9 : ∀ (a c : List UInt8) (w : World), (Op.equalIn 9999 9 (.string (bs a)) (.string (bs c))).run Tryz.prog w = .ok (a == c) w := fun a c w => by
      have := run_equalIn_string (P := Tryz.prog) w 9998 9 (bs a) (bs c) u9
      rw [bs_toList, bs_toList] at this; exact this
    simp only [Op.eqFields, n0, n1, t0, t1, o0, o1]
    have g0 : ("path" : String) ≠ "_" := by decide
    have g1 : ("text" : String) ≠ "_" := by decide
    simp only [g0, g1, ne_eq, not_false_eq_true, if_true, part, Sem.run_bind, agg9, Result.andThen_ok, Bool.false_eq_true, if_false]
    simp [e9]
    by_cases hp : p = p' <;> by_cases ht : t = t' <;> simp [hp, ht]
theorem eql_runE (w : World) (p t p' t' : List UInt8) :
    (binOp .eql 69 (.agg #[.string (bs p), .string (bs t)]) (.agg #[.string (bs p'), .string (bs t')])).run Tryz.prog w = .ok (.bool (keq ⟨p, t⟩ ⟨p', t'⟩)) w := by
  rw [run_eql_struct, equal_runE]; rfl
theorem guard_runE (w : World) (op : BinOp) (x y : Operand) (xs ys : Array Value) : (eqGuard op 69 x y (.agg xs) (.agg ys)).run Tryz.prog w = .ok () w := run_eqGuard_agg w op 69 x y xs ys guardE

/-- a key in a block of its own -/
def KB (w : World) (g : Nat) (k : Lb) : Prop := w.heap[g]? = some (.cells #[.string (bs k.pkg), .string (bs k.name)] 69 (0, 0))
theorem KB.lt {w : World} {g : Nat} {k : Lb} (h : KB w g k) : g < w.heap.size := (Array.getElem?_eq_some_iff.1 h).1
theorem KB.later {w w' : World} {g : Nat} {k : Lb} (h : KB w g k) (hb : Below w.heap.size w w') : KB w' g k := (hb.block g h.lt).trans h
theorem KB.cells {w : World} {g : Nat} {k : Lb} (h : KB w g k) : w.cell? ⟨g, 0, none⟩ = some (.string (bs k.pkg)) ∧ w.cell? ⟨g, 1, none⟩ = some (.string (bs k.name)) := by
  have hb : w.heap[g]? = _ := h
  exact ⟨by simp [World.cell?, hb], by simp [World.cell?, hb]⟩
theorem KB.new (w : World) (k : Lb) : KB (w.alloc (.cells #[.string (bs k.pkg), .string (bs k.name)] 69)) w.heap.size k := heap_alloc_new _ _

set_option maxRecDepth 100000 in
set_option maxHeartbeats 2000000 in
theorem fcl_any (x : En) {w : World} {b : Nat} {k : Lb} (h : KB w b k) : Calls Tryz.prog 59 #[x.val, .pointer (some ⟨b, 0, none⟩)] w fun e w' => e = .returned (.bool (keq x.key k)) ∧ Below w.heap.size w w' := by
  obtain ⟨p, t, a, n, c, z⟩ := x
  obtain ⟨q, r⟩ := k
  simp only [En.val, En.key]
  have hq := eql_runE
  have hg := guard_runE
  obtain ⟨y0, y1⟩ := (h.later (balloc w (.cells #[.string (bs p), .string (bs t), .slice a n c, .int .i64 z] 74))).cells
  simp only at y0 y1
  clear h
  go_enter Tryz.func59, Tryz.ntmps59
  go_wp2_with fail
  go_ret
  exact ⟨rfl, balloc _ _⟩

set_option maxRecDepth 100000 in
set_option maxHeartbeats 2000000 in
theorem eindex_any {base : Nat} {w : World} {v : Value} {l : List En} (h : OwnE base w v l) (hl : l.length ≤ 100000) {b : Nat} {a : Lb} (hk : KB w b a) : Calls Tryz.prog 58 #[v, .func (.func 59) #[] #[.pointer (some ⟨b, 0, none⟩)]] w fun e w' => e = .returned (.int .i64 (kix (l.map En.key) a)) ∧ Below w.heap.size w w' := by
  have H : Hid (OwnE base w v l) := h
  have HK : Hid (KB w b a) := hk
  obtain ⟨av, cv, hvv⟩ := h.form
  obtain ⟨n, hn⟩ : ∃ n, l.length = n := ⟨_, rfl⟩
  rw [hn] at hvv hl
  subst hvv
  have HN : Hid (l.length = n) := hn
  clear h hk hn
  go_enter Tryz.func58, Tryz.ntmps58
  go_wp2_with fail
  go_loopw [8] (fun s8 wr => ∃ k : Nat, s8 = .int .i64 k ∧ k ≤ n ∧ (∀ x ∈ (l.map En.key).take k, x ≠ a) ∧ Below w.heap.size w wr) (fun s8 _ => n - (intOf s8).toNat)
  case atStart => exact ⟨0, rfl, by omega, by simp, Below.refl _ _⟩
  case round =>
    obtain ⟨k, rfl, hk, hx, hb⟩ := hrel
    have HX : Hid ((∀ x ∈ (l.map En.key).take k, x ≠ a) ∧ Below w.heap.size w wr) := ⟨hx, hb⟩
    clear hx hb
    by_cases hlt : k < n
    · have hkl : k < l.length := by rw [HN.out]; exact hlt
      have hkm : k < (l.map En.key).length := by simpa using hkl
      obtain ⟨b2, ea, hbw, d0, d1, d2, d3⟩ := H.out.at HX.out.2 hkl
      subst ea
      obtain ⟨x, hxe⟩ : ∃ x, l[k] = x := ⟨_, rfl⟩
      have HA : Hid ((l.map En.key)[k] = x.key) := by show _ = _; rw [List.getElem_map, hxe]
      rw [hxe] at d0 d1 d2 d3
      clear hxe
      have HC : Hid (∀ W, Below w.heap.size w W → Calls Tryz.prog 59 #[x.val, .pointer (some ⟨b, 0, none⟩)] W fun e w' => e = .returned (.bool (keq x.key a)) ∧ Below W.heap.size W w') := fun W hW => fcl_any x (HK.out.later hW)
      have k1 : (k : Int) < (n : Int) := by omega
      have k2 : (0 : Int) ≤ (k : Int) := by omega
      by_cases he : x.key = a
      · have he2 : keq x.key a = true := by unfold keq; simpa using he
        have HE : Hid (x.key = a) := he
        rw [he2] at HC
        clear he he2
        obtain ⟨p, t, xa, xn, xc, z⟩ := x
        simp only [En.val] at d0 d1 d2 d3 HC
        go_wp2_with fail
        refine (HC.out _ HX.out.2).mono ?_
        rintro e w1 ⟨rfl, hb1⟩
        have H1 : Hid (Below w.heap.size w w1) := bstep HX.out.2 hb1
        clear hb1
        go_wp2_with fail
        go_ret
        refine ⟨?_, H1.out⟩
        rw [kix_here hkm (HA.out.trans HE.out) HX.out.1]; rfl
      · have he2 : keq x.key a = false := by unfold keq; simpa using he
        have HE : Hid (x.key ≠ a) := he
        rw [he2] at HC
        clear he he2
        obtain ⟨p, t, xa, xn, xc, z⟩ := x
        simp only [En.val] at d0 d1 d2 d3 HC
        go_wp2_with fail
        refine (HC.out _ HX.out.2).mono ?_
        rintro e w1 ⟨rfl, hb1⟩
        have H1 : Hid (Below w.heap.size w w1) := bstep HX.out.2 hb1
        clear hb1
        go_wp2_with fail
        go_roundw
        case rel =>
          refine ⟨k + 1, by go_num, by omega, ?_, H1.out⟩
          intro y hy
          rw [List.take_succ_eq_append_getElem hkm, List.mem_append, HA.out] at hy
          rcases hy with hy | hy
          · exact HX.out.1 y hy
          · rw [List.mem_singleton] at hy
            rw [hy]; exact HE.out
        case measure => simp [intOf]; omega
    · obtain rfl : n = k := by omega
      have k1 : ¬ (n : Int) < (n : Int) := by omega
      go_wp2_with fail
      go_ret
      refine ⟨?_, HX.out.2⟩
      have hx := HX.out.1
      rw [List.take_of_length_le (by have := HN.out; simp; omega)] at hx
      rw [kix_none hx]; rfl

set_option maxRecDepth 100000 in
set_option maxHeartbeats 2000000 in
theorem find_any {w : World} {T : Nat → Prop} {g : Nat} {v : Value} {l : List En} (h : CB w T g v l) (hl : l.length ≤ 100000) (a : Lb) : Calls Tryz.prog 24 #[.pointer (some ⟨g, 0, none⟩), a.val] w fun e w' => e = .returned (.int .i64 (kix (l.map En.key) a)) ∧ Below w.heap.size w w' := by
  obtain ⟨p, t⟩ := a
  simp only [Lb.val]
  have hb := balloc w (.cells #[.string (bs p), .string (bs t)] 69)
  have HI : Hid (Calls Tryz.prog 58 #[v, .func (.func 59) #[] #[.pointer (some ⟨w.heap.size, 0, none⟩)]] (w.alloc (.cells #[.string (bs p), .string (bs t)] 69)) fun e w' => e = .returned (.int .i64 (kix (l.map En.key) ⟨p, t⟩)) ∧ Below (w.alloc (.cells #[.string (bs p), .string (bs t)] 69)).heap.size (w.alloc (.cells #[.string (bs p), .string (bs t)] 69)) w') := eindex_any (h.row.later hb) hl (KB.new w ⟨p, t⟩)
  have hc := (h.later hb).cell.1
  have hmf : ∀ (fn : Fn) (first cap : Array Value) (w : World), (Instr.makeFunc fn first cap).run Tryz.prog w = .ok (.func fn first cap) w := fun _ _ _ _ => rfl
  obtain ⟨av, cv, hvv⟩ := h.row.form
  generalize l.length = n at hvv
  subst hvv
  generalize kix (l.map En.key) ⟨p, t⟩ = R at *
  clear h hb
  go_enter Tryz.func24, Tryz.ntmps24
  go_wp2_with fail
  refine HI.out.mono ?_
  rintro e w1 ⟨rfl, hb1⟩
  have H1 : Hid (Below w.heap.size w w1) := bstep (balloc _ _) hb1
  clear hb1
  go_wp2_with fail
  go_ret
  exact ⟨rfl, H1.out⟩
end Go.Proofs.YtddaoloabfkheaaGreatDoor
