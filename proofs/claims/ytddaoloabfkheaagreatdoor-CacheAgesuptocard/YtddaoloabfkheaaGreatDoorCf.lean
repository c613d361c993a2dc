/-
  The document's Entry.
-/
import Derived.Test.YtddaoloabfkheaaGreatDoorJSameg
namespace Go.Proofs.YtddaoloabfkheaaGreatDoor
open Go.RowKit

structure TBd (l : List Tg) : Prop where
  len : l.length ≤ 64
  each : ∀ t ∈ l, t.srcs.length ≤ 64 ∧ t.deps.length ≤ 64 ∧ t.see.length ≤ 64 ∧ (tgB t).length ≤ 100000
theorem flat_bound {α : Type} (f : α → List UInt8) (B : Nat) : ∀ (l : List α), (∀ x ∈ l, (f x).length ≤ B) → (l.flatMap f).length ≤ l.length * B
  | [], _ => by simp
  | x :: r, h => by
    have h1 := h x (by simp)
    have h2 := flat_bound f B r (fun y hy => h y (by simp [hy]))
    rw [List.flatMap_cons, List.length_append, List.length_cons, Nat.succ_mul]
    omega
theorem TBd.flat {l : List Tg} (h : TBd l) : (l.flatMap tgB).length ≤ 6400000 := by
  have h1 := flat_bound tgB 100000 l (fun t ht => (h.each t ht).2.2.2)
  have h2 := h.len
  omega
theorem wrap_u64z (z : Int) : IntKind.u64.wrap z = ((u64 z : Nat) : Int) := by
  unfold u64
  rw [IntKind.wrap_u64]
  have := Int.emod_nonneg z (show (18446744073709551616 : Int) ≠ 0 by decide)
  omega
theorem u64_lt (z : Int) : u64 z < 18446744073709551616 := by
  unfold u64
  have := Int.emod_lt_of_pos z (show (0 : Int) < 18446744073709551616 by decide)
  have := Int.emod_nonneg z (show (18446744073709551616 : Int) ≠ 0 by decide)
  omega
theorem tgB_pieces (t : Tg) : (txB t.name).length ≤ (tgB t).length ∧ (txsB t.srcs).length ≤ (tgB t).length ∧ (t.deps.flatMap lbB).length ≤ (tgB t).length ∧ (txsB t.see).length ≤ (tgB t).length := by
  unfold tgB
  simp only [List.length_append]
  omega
/-- a text, at any later world -/
theorem rtext_lt {w W : World} {v : Value} {l : List UInt8} (h : BS w v l) (hb : Below w.heap.size w W) (s : List UInt8) (hs : s.length ≤ 1000000000) (hm : l.length ≤ 500000000000) :
    Calls Tryz.prog 85 #[v, .string (bs s)] W fun e w' => ∃ v', e = .returned v' ∧ OwnB W.heap.size w' v' (l ++ txB s) ∧ Below W.heap.size W w' := rtext_at (h.later hb) s hs hm
theorem rtexts_lt {w W : World} {v u : Value} {b : List UInt8} {l : List (List UInt8)} (h : BS w v b) (hs : SS w u l) (hb : Below w.heap.size w W) (hm : b.length ≤ 200000000000) (hl : l.length ≤ 100000000) (ht : (txsB l).length ≤ 1000000000) :
    Calls Tryz.prog 87 #[v, u] W fun e w' => ∃ v', e = .returned v' ∧ OwnB W.heap.size w' v' (b ++ txsB l) ∧ Below W.heap.size W w' := rtexts_any (h.later hb) (hs.later hb) hm hl ht

set_option maxRecDepth 100000 in
set_option maxHeartbeats 8000000 in
theorem rentry_any {w : World} {v u : Value} {b : List UInt8} {l : List Tg} (h : BS w v b) (k : Lb) (hg : GR w u l) (z : Int) (hT : TBd l) (hm : b.length ≤ 100000000000) (hk1 : k.pkg.length ≤ 1000000000) (hk2 : k.name.length ≤ 1000000000) :
    Calls Tryz.prog 49 #[v, k.val, u, .int .i64 z] w fun e w' => ∃ v', e = .returned v' ∧ OwnB w.heap.size w' v' (b ++ enB k (l, z)) ∧ Below w.heap.size w w' := by
  have H : Hid (BS w v b ∧ GR w u l ∧ TBd l) := ⟨h, hg, hT⟩
  have hTl := hT.len
  obtain ⟨av, cv, hvv⟩ := hg.len
  obtain ⟨n, hn⟩ : ∃ n, l.length = n := ⟨_, rfl⟩
  rw [hn] at hvv hTl
  subst hvv
  have HN : Hid (l.length = n) := hn
  have HZ : IntKind.u64.wrap z = ((u64 z : Nat) : Int) := wrap_u64z z
  have hz := u64_lt z
  clear h hg hT hn
  obtain ⟨p, t⟩ := k
  simp only [Lb.val] at *
  have HRB : Hid (RBK (w.alloc (.cells #[.string (bs p), .string (bs t)] 106)) w.heap.size ⟨p, t⟩ ∧ Below w.heap.size w (w.alloc (.cells #[.string (bs p), .string (bs t)] 106))) := ⟨RBK.new w ⟨p, t⟩, balloc _ _⟩
  obtain ⟨c0, c1, _, _⟩ := HRB.out.1.cells
  simp only at c0 c1
  obtain ⟨wA, hwA⟩ : ∃ wA, w.alloc (.cells #[.string (bs p), .string (bs t)] 106) = wA := ⟨_, rfl⟩
  rw [hwA] at c0 c1 HRB
  have HK : Hid (w.heap.size < wA.heap.size) := HRB.out.1.lt
  go_enter Tryz.func49, Tryz.ntmps49
  go_wp2_with fail
  go_region_held3 (fun w' => w'.cell? ⟨w.heap.size, 0, none⟩ = some (.string (bs p)) ∧ w'.cell? ⟨w.heap.size, 1, none⟩ = some (.string (bs t))) (first | (with_reducible exact ⟨c0, c1⟩) | (with_reducible exact KA.out) | (with_reducible exact KB.out) | go_keep) (first
    | (go_at_call 85; (with_reducible refine (rtext_lt O1.out.1.bs (Below.refl _ _) t hk2 O1.out.2.2).mono ?_); rintro e w2 ⟨v2, rfl, ho2, hb2⟩; have O2 : Hid (OwnB w.heap.size w2 v2 (b ++ txB p ++ txB t) ∧ Below w.heap.size w w2) := ⟨ho2.mono (Nat.le_trans O1.out.2.1.size (Nat.le_refl _)), bstep O1.out.2.1 hb2⟩; have KB : Hid (w2.cell? ⟨w.heap.size, 0, none⟩ = some (.string (bs p)) ∧ w2.cell? ⟨w.heap.size, 1, none⟩ = some (.string (bs t))) := ⟨(hb2.cell (p := ⟨w.heap.size, 0, none⟩) HL1.out).trans KA.out.1, (hb2.cell (p := ⟨w.heap.size, 1, none⟩) HL1.out).trans KA.out.2⟩; clear ho2 hb2)
    | (go_at_call 85; (with_reducible refine (rtext_lt H.out.1 (bstep HRB.out.2 (Below.refl _ _).drew) p hk1 (by omega)).mono ?_); rintro e w1 ⟨v1, rfl, ho1, hb1⟩; have O1 : Hid (OwnB w.heap.size w1 v1 (b ++ txB p) ∧ Below w.heap.size w w1 ∧ (b ++ txB p).length ≤ 500000000000) := ⟨ho1.mono HRB.out.2.size, bstep HRB.out.2 (bstep (Below.refl _ _).drew hb1), by rw [List.length_append, txB_len]; omega⟩; have HB1 : Hid (Below wA.heap.size wA w1) := bstep (Below.refl _ _).drew hb1; have HL1 : Hid (w.heap.size < w1.heap.size) := Nat.lt_of_lt_of_le HK.out HB1.out.size; have KA : Hid (w1.cell? ⟨w.heap.size, 0, none⟩ = some (.string (bs p)) ∧ w1.cell? ⟨w.heap.size, 1, none⟩ = some (.string (bs t))) := ⟨(HB1.out.cell (p := ⟨w.heap.size, 0, none⟩) HK.out).trans c0, (HB1.out.cell (p := ⟨w.heap.size, 1, none⟩) HK.out).trans c1⟩; clear ho1 hb1))
  have P2 : Hid (OwnB w.heap.size w2 v2 (b ++ txB p ++ txB t) ∧ Below w.heap.size w w2 ∧ (b ++ txB p ++ txB t).length ≤ 103000000000) := ⟨O2.out.1, O2.out.2, by rw [List.length_append, List.length_append, txB_len, txB_len]; omega⟩
  clear O1 O2 KA KB HB1 HL1 c0 c1 HRB HK
  go_wp2_with fail
  refine (rput_at P2.out.1.bs _ (u64 z) (by first | rfl | exact HZ) hz _ 8 rfl (by omega) (by have := P2.out.2.2; omega)).mono ?_
  rintro e w3 ⟨v3, rfl, ho3, hb3⟩
  have P3 : Hid (OwnB w.heap.size w3 v3 (b ++ txB p ++ txB t ++ le 8 (u64 z)) ∧ Below w.heap.size w w3 ∧ (b ++ txB p ++ txB t ++ le 8 (u64 z)).length ≤ 103000000008) := ⟨ho3.mono P2.out.2.1.size, bstep P2.out.2.1 hb3, by rw [List.length_append, le_length]; have := P2.out.2.2; omega⟩
  clear ho3 hb3 P2
  go_wp2_with fail
  refine (rput_at P3.out.1.bs _ n (by simp) (by omega) _ 4 rfl (by omega) (by have := P3.out.2.2; omega)).mono ?_
  rintro e w4 ⟨v4, rfl, ho4, hb4⟩
  obtain ⟨B0, hB0⟩ : ∃ B0, b ++ txB p ++ txB t ++ le 8 (u64 z) ++ le 4 n = B0 := ⟨_, rfl⟩
  have P4 : Hid (OwnB w.heap.size w4 v4 B0 ∧ Below w.heap.size w w4 ∧ B0.length ≤ 103000000012) := ⟨by rw [← hB0]; exact ho4.mono P3.out.2.1.size, bstep P3.out.2.1 hb4, by rw [← hB0, List.length_append, le_length]; have := P3.out.2.2; omega⟩
  have HB0 : Hid (b ++ enB ⟨p, t⟩ (l, z) = B0 ++ l.flatMap tgB) := by show _ = _; rw [← hB0, ← HN.out]; simp only [enB, List.append_assoc]
  have HBl : Hid (B0.length ≤ 103000000012) := P4.out.2.2

  clear ho4 hb4 P3 hB0 HZ hz
  go_wp2_with fail
  go_loopw [0, 9] (fun s0 s9 wr => ∃ (k : Nat) (v0 : Value), v0 = s0 ∧ s9 = .int .i64 k ∧ k ≤ n ∧ OwnB w.heap.size wr v0 (B0 ++ (l.take k).flatMap tgB) ∧ Below w.heap.size w wr) (fun _ s9 _ => n - (intOf s9).toNat)
  case atStart => exact ⟨0, _, rfl, rfl, by omega, by simpa using P4.out.1, P4.out.2.1⟩
  case round =>
    obtain ⟨wo, rfl⟩ : ∃ wo, wo = wr := ⟨_, rfl⟩
    obtain ⟨k, v0, rfl, rfl, hk, ho, hb⟩ := hrel
    by_cases hlt : k < n
    · have hkl : k < l.length := by rw [HN.out]; exact hlt
      obtain ⟨x, hxe⟩ : ∃ x, l[k] = x := ⟨_, rfl⟩
      obtain ⟨g, o, sa, sn, sc, da, dc, ea, en, ec, hP⟩ := (H.out.2.1.later hb).place k hkl
      rw [hxe] at hP
      have hv := hP.v
      injection hv with hv1 _ _
      subst hv1
      have hgl : g < wo.heap.size := World.block_lt_of_cell? wo ⟨g, o + k * 4, none⟩ hP.c0
      obtain ⟨B1, hB1⟩ : ∃ B1, B0 ++ (l.take k).flatMap tgB = B1 := ⟨_, rfl⟩
      have hxb := H.out.2.2.each x (hxe ▸ List.getElem_mem hkl)
      have hpc := tgB_pieces x
      have hfl := flat_le tgB l k
      have hfa := H.out.2.2.flat
      have HX : Hid (OwnB w.heap.size wo v0 B1 ∧ Below w.heap.size w wo ∧ B1.length ≤ 104000000000) := ⟨by rw [← hB1]; exact ho, hb, by rw [← hB1, List.length_append]; have := HBl.out; omega⟩
      have HP : Hid (SS wo (.slice sa sn sc) x.srcs ∧ SS wo (.slice ea en ec) x.see ∧ ∀ j, (hj : j < x.deps.length) → ∃ b off, da = some ⟨b, off, none⟩ ∧ b < wo.heap.size ∧ wo.cell? ⟨b, off + j * 2, none⟩ = some (.string (bs x.deps[j].pkg)) ∧ wo.cell? ⟨b, off + j * 2 + 1, none⟩ = some (.string (bs x.deps[j].name))) := ⟨hP.s, hP.e, hP.d⟩
      have HE : Hid (B1 ++ tgB x = B0 ++ (l.take (k + 1)).flatMap tgB) := by show _ = _; rw [flat_take tgB l k hkl, hxe, ← hB1, List.append_assoc]
      have HCs : Hid (∀ W, Below wo.heap.size wo W → W.cell? ⟨g, o + k * 4 + 2, none⟩ = some (.slice da x.deps.length dc) ∧ W.cell? ⟨g, o + k * 4 + 3, none⟩ = some (.slice ea en ec)) := fun W hW => ⟨(hW.cell (p := ⟨g, o + k * 4 + 2, none⟩) hgl).trans hP.c2, (hW.cell (p := ⟨g, o + k * 4 + 3, none⟩) hgl).trans hP.c3⟩
      have c0 := hP.c0
      have c1 := hP.c1
      have HGL : Hid (g < wo.heap.size) := hgl
      rw [txB_len] at hpc
      have HSZ : Hid (x.name.length ≤ 100000 ∧ x.srcs.length ≤ 64 ∧ x.deps.length ≤ 64 ∧ x.see.length ≤ 64 ∧ (txsB x.srcs).length ≤ 100000 ∧ (x.deps.flatMap lbB).length ≤ 100000 ∧ (txsB x.see).length ≤ 100000) := ⟨by omega, by omega, by omega, by omega, by omega, by omega, by omega⟩
      clear hP hxe ho hb hxb hpc hfl hfa hB1 hgl hkl
      have k1 : (k : Int) < (n : Int) := by omega
      go_wp2_with fail
      go_region_held3 (fun w' => w'.cell? ⟨g, o + k * 4, none⟩ = some (.string (bs x.name)) ∧ w'.cell? ⟨g, o + k * 4 + 1, none⟩ = some (.slice sa sn sc)) (first | (with_reducible exact ⟨c0, c1⟩) | (with_reducible exact KA.out) | (with_reducible exact KB.out) | go_keep) (first
        | (go_at_call 87; (with_reducible refine (rtexts_lt O1.out.1.bs O1.out.2.2.2 (Below.refl _ _) O1.out.2.2.1 (by have := HSZ.out; omega) (by have := HSZ.out; omega)).mono ?_); rintro e w6 ⟨v6, rfl, ho6, hb6⟩; have O2 : Hid (OwnB w.heap.size w6 v6 (B1 ++ txB x.name ++ txsB x.srcs) ∧ Below wo.heap.size wo w6) := ⟨ho6.mono (Nat.le_trans HX.out.2.1.size O1.out.2.1.size), bstep O1.out.2.1 hb6⟩; have KB : Hid (w6.cell? ⟨g, o + k * 4, none⟩ = some (.string (bs x.name)) ∧ w6.cell? ⟨g, o + k * 4 + 1, none⟩ = some (.slice sa sn sc)) := ⟨(O2.out.2.cell (p := ⟨g, o + k * 4, none⟩) HGL.out).trans c0, (O2.out.2.cell (p := ⟨g, o + k * 4 + 1, none⟩) HGL.out).trans c1⟩; clear ho6 hb6)
        | (go_at_call 85; (with_reducible refine (rtext_lt HX.out.1.bs (Below.refl _ _).drew x.name (by have := HSZ.out; omega) (by have := HX.out.2.2; omega)).mono ?_); rintro e w5 ⟨v5, rfl, ho5, hb5⟩; have HB5 : Hid (Below wo.heap.size wo w5) := bstep (Below.refl _ _).drew hb5; have O1 : Hid (OwnB w.heap.size w5 v5 (B1 ++ txB x.name) ∧ Below wo.heap.size wo w5 ∧ (B1 ++ txB x.name).length ≤ 200000000000 ∧ SS w5 (.slice sa sn sc) x.srcs) := ⟨ho5.mono HX.out.2.1.size, HB5.out, by rw [List.length_append, txB_len]; have := HX.out.2.2; have := HSZ.out; omega, HP.out.1.later HB5.out⟩; have KA : Hid (w5.cell? ⟨g, o + k * 4, none⟩ = some (.string (bs x.name)) ∧ w5.cell? ⟨g, o + k * 4 + 1, none⟩ = some (.slice sa sn sc)) := ⟨(HB5.out.cell (p := ⟨g, o + k * 4, none⟩) HGL.out).trans c0, (HB5.out.cell (p := ⟨g, o + k * 4 + 1, none⟩) HGL.out).trans c1⟩; clear ho5 hb5))
      obtain ⟨c2, _⟩ := HCs.out w6 O2.out.2
      have Q2 : Hid (OwnB w.heap.size w6 v6 (B1 ++ txB x.name ++ txsB x.srcs) ∧ Below wo.heap.size wo w6 ∧ (B1 ++ txB x.name ++ txsB x.srcs).length ≤ 105000000000) := ⟨O2.out.1, O2.out.2, by rw [List.length_append, List.length_append, txB_len]; have := HX.out.2.2; have := HSZ.out; omega⟩
      clear O1 O2 KA KB HB5 c0 c1
      go_wp2_with fail
      refine (rput_at Q2.out.1.bs _ x.deps.length (by first | rfl | exact wrap_u64_id _ (by omega) (by have := HSZ.out; omega)) (by have := HSZ.out; omega) _ 4 rfl (by omega) (by have := Q2.out.2.2; omega)).mono ?_
      rintro e w7 ⟨v7, rfl, ho7, hb7⟩
      obtain ⟨B2, hB2⟩ : ∃ B2, B1 ++ txB x.name ++ txsB x.srcs ++ le 4 x.deps.length = B2 := ⟨_, rfl⟩
      have Q7 : Hid (OwnB w.heap.size w7 v7 B2 ∧ Below wo.heap.size wo w7 ∧ B2.length ≤ 105000000004) := ⟨by rw [← hB2]; exact ho7.mono (Nat.le_trans HX.out.2.1.size Q2.out.2.1.size), bstep Q2.out.2.1 hb7, by rw [← hB2, List.length_append, le_length]; have := Q2.out.2.2; omega⟩
      have HE2 : Hid (B1 ++ tgB x = B2 ++ x.deps.flatMap lbB ++ txsB x.see) := by show _ = _; rw [← hB2]; simp only [tgB, List.append_assoc]
      have HB2l : Hid (B2.length ≤ 105000000004) := Q7.out.2.2
      obtain ⟨m, hm2⟩ : ∃ m, x.deps.length = m := ⟨_, rfl⟩
      have HM : Hid (x.deps.length = m) := hm2
      have hm64 : m ≤ 64 := by rw [← hm2]; exact HSZ.out.2.2.1
      have HCs2 : Hid (∀ W, Below wo.heap.size wo W → W.cell? ⟨g, o + k * 4 + 2, none⟩ = some (.slice da m dc) ∧ W.cell? ⟨g, o + k * 4 + 3, none⟩ = some (.slice ea en ec)) := by rw [← hm2]; exact HCs.out
      clear ho7 hb7 Q2 hB2 c2 HCs hm2
      go_wp2_with fail
      go_loopw [0, 10] (fun s0 s10 wi => ∃ (j : Nat) (v0 : Value), v0 = s0 ∧ s10 = .int .i64 j ∧ j ≤ m ∧ OwnB w.heap.size wi v0 (B2 ++ (x.deps.take j).flatMap lbB) ∧ Below wo.heap.size wo wi) (fun _ s10 _ => m - (intOf s10).toNat)
      case atStart => exact ⟨0, _, rfl, rfl, by omega, by simpa using Q7.out.1, Q7.out.2.1⟩
      case round =>
        obtain ⟨j, v8, rfl, rfl, hj, ho, hb⟩ := hrel
        by_cases hjm : j < m
        · have hjl : j < x.deps.length := by rw [HM.out]; exact hjm
          obtain ⟨gd, od, rfl, hgd, d0, d1⟩ := HP.out.2.2 j hjl
          obtain ⟨y, hye⟩ : ∃ y, x.deps[j] = y := ⟨_, rfl⟩
          rw [hye] at d0 d1
          have hy1 := flat_one lbB (List.getElem_mem hjl)
          have hy2 := flat_le lbB x.deps j
          have hy3 := HSZ.out
          rw [hye] at hy1
          simp only [lbB, List.length_append, txB_len] at hy1
          obtain ⟨B3, hB3⟩ : ∃ B3, B2 ++ (x.deps.take j).flatMap lbB = B3 := ⟨_, rfl⟩
          have HY : Hid (OwnB w.heap.size wr v8 B3 ∧ Below wo.heap.size wo wr ∧ B3.length ≤ 106000000000 ∧ y.pkg.length ≤ 100000 ∧ y.name.length ≤ 100000) := ⟨by rw [← hB3]; exact ho, hb, by rw [← hB3, List.length_append]; have := HB2l.out; omega, by omega, by omega⟩
          have HE3 : Hid (B3 ++ txB y.pkg ++ txB y.name = B2 ++ (x.deps.take (j + 1)).flatMap lbB) := by show _ = _; rw [flat_take lbB x.deps j hjl, hye, ← hB3]; simp only [lbB, List.append_assoc]
          have HS3 : Hid (∀ W, Below wr.heap.size wr W → W.cell? ⟨g, o + k * 4 + 2, none⟩ = some (.slice (some ⟨gd, od, none⟩) m dc) ∧ W.cell? ⟨gd, od + j * 2, none⟩ = some (.string (bs y.pkg)) ∧ W.cell? ⟨gd, od + j * 2 + 1, none⟩ = some (.string (bs y.name))) := fun W hW => ⟨(HCs2.out W (bstep hb hW)).1, ((bstep hb hW).cell (p := ⟨gd, od + j * 2, none⟩) hgd).trans d0, ((bstep hb hW).cell (p := ⟨gd, od + j * 2 + 1, none⟩) hgd).trans d1⟩
          obtain ⟨c2, e0, e1⟩ := HS3.out wr (Below.refl _ _)
          have hwz : Hid (w.heap.size ≤ wr.heap.size) := Nat.le_trans HX.out.2.1.size hb.size
          clear hye ho hb hy1 hy2 hy3 hB3 hjl d0 d1 hgd
          have j1 : (j : Int) < (m : Int) := by omega
          obtain ⟨yp, yn⟩ := y
          simp only at c2 e0 e1 HY HE3 HS3
          go_wp2_with fail
          go_region_held3 (fun w' => w'.cell? ⟨g, o + k * 4 + 2, none⟩ = some (.slice (some ⟨gd, od, none⟩) m dc) ∧ w'.cell? ⟨gd, od + j * 2, none⟩ = some (.string (bs yp)) ∧ w'.cell? ⟨gd, od + j * 2 + 1, none⟩ = some (.string (bs yn))) (first | (with_reducible exact ⟨c2, e0, e1⟩) | (with_reducible exact KA.out) | (with_reducible exact KB.out) | go_keep) (first
            | (go_at_call 85; (with_reducible refine (rtext_lt O1.out.1.bs (Below.refl _ _) yn (by have := HY.out.2.2.2.2; omega) O1.out.2.2).mono ?_); rintro e w9 ⟨v9, rfl, ho9, hb9⟩; have O2 : Hid (OwnB w.heap.size w9 v9 (B3 ++ txB yp ++ txB yn) ∧ Below wr.heap.size wr w9) := ⟨ho9.mono (Nat.le_trans hwz.out O1.out.2.1.size), bstep O1.out.2.1 hb9⟩; have KB : Hid (w9.cell? ⟨g, o + k * 4 + 2, none⟩ = some (.slice (some ⟨gd, od, none⟩) m dc) ∧ w9.cell? ⟨gd, od + j * 2, none⟩ = some (.string (bs yp)) ∧ w9.cell? ⟨gd, od + j * 2 + 1, none⟩ = some (.string (bs yn))) := HS3.out w9 O2.out.2; clear ho9 hb9)
            | (go_at_call 85; (with_reducible refine (rtext_lt HY.out.1.bs (Below.refl _ _).drew yp (by have := HY.out.2.2.2.1; omega) (by have := HY.out.2.2.1; omega)).mono ?_); rintro e w8 ⟨v11, rfl, ho8, hb8⟩; have HB8 : Hid (Below wr.heap.size wr w8) := bstep (Below.refl _ _).drew hb8; have O1 : Hid (OwnB w.heap.size w8 v11 (B3 ++ txB yp) ∧ Below wr.heap.size wr w8 ∧ (B3 ++ txB yp).length ≤ 500000000000) := ⟨ho8.mono hwz.out, HB8.out, by rw [List.length_append, txB_len]; have := HY.out.2.2; omega⟩; have KA : Hid (w8.cell? ⟨g, o + k * 4 + 2, none⟩ = some (.slice (some ⟨gd, od, none⟩) m dc) ∧ w8.cell? ⟨gd, od + j * 2, none⟩ = some (.string (bs yp)) ∧ w8.cell? ⟨gd, od + j * 2 + 1, none⟩ = some (.string (bs yn))) := HS3.out w8 HB8.out; clear ho8 hb8))
          go_wp2_with fail
          go_roundw
          case rel => exact ⟨j + 1, _, rfl, by go_num, by omega, by rw [← HE3.out]; exact O2.out.1, bstep HY.out.2.1 O2.out.2⟩
          case measure => simp [intOf]; omega
        · have HY : Hid (OwnB w.heap.size wr v8 (B2 ++ x.deps.flatMap lbB) ∧ Below wo.heap.size wo wr ∧ (B2 ++ x.deps.flatMap lbB).length ≤ 106000000000 ∧ SS wr (.slice ea en ec) x.see ∧ w.heap.size ≤ wr.heap.size) := by
            have e : (x.deps.take j).flatMap lbB = x.deps.flatMap lbB := by rw [show j = x.deps.length by rw [HM.out]; omega, List.take_length]
            rw [e] at ho
            exact ⟨ho, hb, by rw [List.length_append]; have := HB2l.out; have := HSZ.out; omega, HP.out.2.1.later hb, Nat.le_trans HX.out.2.1.size hb.size⟩
          obtain ⟨c2, c3⟩ := HCs2.out wr hb
          obtain rfl : m = j := by omega
          clear ho hb
          have j1 : ¬ (m : Int) < (m : Int) := by omega
          go_wp2_with fail
          refine (rtexts_lt HY.out.1.bs HY.out.2.2.2.1 (Below.refl _ _) (by have := HY.out.2.2.1; omega) (by have := HSZ.out; omega) (by have := HSZ.out; omega)).mono ?_
          rintro e w9 ⟨v9, rfl, ho9, hb9⟩
          have O9 : Hid (OwnB w.heap.size w9 v9 (B0 ++ (l.take (k + 1)).flatMap tgB) ∧ Below w.heap.size w w9) := ⟨by rw [← HE.out, HE2.out]; exact ho9.mono HY.out.2.2.2.2, bstep HX.out.2.1 (bstep HY.out.2.1 hb9)⟩
          clear ho9 hb9
          go_wp2_with fail
          go_roundw
          case rel => exact ⟨k + 1, _, rfl, by go_num, by omega, O9.out.1, O9.out.2⟩
          case measure => simp [intOf]; omega
    · have HX : Hid (OwnB w.heap.size wo v0 (B0 ++ (l.take k).flatMap tgB) ∧ Below w.heap.size w wo) := ⟨ho, hb⟩
      obtain rfl : n = k := by omega
      clear ho hb
      have k1 : ¬ (n : Int) < (n : Int) := by omega
      go_wp2_with fail
      go_ret
      refine ⟨_, rfl, ?_, HX.out.2⟩
      have := HX.out.1
      rw [← HN.out, List.take_length] at this
      rw [HB0.out]
      exact this
end Go.Proofs.YtddaoloabfkheaaGreatDoor
