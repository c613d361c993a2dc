/-
  How long an entry is; the document's Save.
  The document's Put and Get.
  The document's Put and Get.
-/
import Derived.Test.YtddaoloabfkheaaGreatDoorCf
import Derived.Test.YtddaoloabfkheaaGreatDoorJPrt
import Derived.Test.YtddaoloabfkheaaGreatDoorRpar
namespace Go.Proofs.YtddaoloabfkheaaGreatDoor
open Go.RowKit

theorem srcW_le {p x : List UInt8} (h : srcW p x = true) : x.length ≤ 300 := by
  refine word_len (p := p) (F := wSrcs) (t := ⟨[], [], [], []⟩) (u := ⟨[], [x], [], []⟩) ?_
  unfold addI; rw [if_pos rfl, if_pos (by simp [h])]; rfl
theorem ser_le {p x : List UInt8} (h : ser x = true) : x.length ≤ 300 := by
  refine word_len (p := p) (F := wSee) (t := ⟨[], [], [], []⟩) (u := ⟨[], [], [], [x]⟩) ?_
  unfold addI; rw [if_neg (by decide), if_neg (by decide), if_pos (by simp [h])]; rfl
theorem okL_le {l : Lb} (h : okL l = true) : l.pkg.length ≤ 120 ∧ l.name.length ≤ 32 := by
  unfold okL at h
  simp only [Bool.and_eq_true] at h
  exact ⟨(okP_len h.1).1, okC_len h.2⟩
theorem txs_le {l : List (List UInt8)} (hl : l.length ≤ 64) (h : ∀ x ∈ l, x.length ≤ 300) : (txsB l).length ≤ 19460 := by
  have h1 := flat_bound txB 304 l (fun x hx => by rw [txB_len]; have := h x hx; omega)
  have h2 : l.length * 304 ≤ 64 * 304 := Nat.mul_le_mul_right _ hl
  unfold txsB
  rw [List.length_append, le_length]
  omega
theorem GT.bd {p : List UInt8} {t : Tg} (h : GT p t) : (tgB t).length ≤ 100000 := by
  have h1 := txs_le h.srcsL (fun x hx => srcW_le (h.srcs x hx).1)
  have h2 := txs_le h.seeL (fun x hx => ser_le (p := p) (h.see x hx).1)
  have h3 := flat_bound lbB 160 t.deps (fun x hx => by have := okL_le (h.deps x hx); simp only [lbB, List.length_append, txB_len]; omega)
  have h4 : t.deps.length * 160 ≤ 64 * 160 := Nat.mul_le_mul_right _ h.depsL
  have h5 := okC_len h.name
  unfold tgB
  simp only [List.length_append, le_length, txB_len]
  omega
theorem prsM_tbd (p s : List UInt8) : TBd (prsM p s).1 := by
  rcases prsM_range p s with h | h
  · have g := prsM_good h
    exact ⟨g.len, fun t ht => ⟨(g.each t ht).srcsL, (g.each t ht).depsL, (g.each t ht).seeL, (g.each t ht).bd⟩⟩
  · rw [h.2]; exact ⟨by simp, by simp⟩
theorem entB_le {k : Lb} (h1 : k.pkg.length ≤ 120) (h2 : k.name.length ≤ 4096) : (entB k).length ≤ 6410000 := by
  have := (prsM_tbd (dir k.pkg) k.name).flat
  unfold entB enB
  simp only [List.length_append, le_length, txB_len]
  omega
theorem OKK.flat {K : List Lb} (h : OKK K) : (K.flatMap entB).length ≤ 3300000000 := by
  have h1 := flat_bound entB 6410000 K (fun k hk => entB_le (rgt_len (h.rt k hk)) (h.tx k hk))
  have h2 : K.length * 6410000 ≤ 512 * 6410000 := Nat.mul_le_mul_right _ h.len
  omega
theorem dir_le (l : List UInt8) : (dir l).length ≤ l.length := by
  unfold dir
  split
  · simp
  · exact List.length_take_le' _ _
theorem rput4 {w : World} {v : Value} {l : List UInt8} (h : BS w v l) (x : Nat) (hx : x < 18446744073709551616) (hm : l.length ≤ 1000000000000) {z : Int} (hz : z = (x : Int)) :
    Calls Tryz.prog 86 #[v, .int .u64 z, .int .i64 4] w fun e w' => ∃ v', e = .returned v' ∧ OwnB w.heap.size w' v' (l ++ le 4 x) ∧ Below w.heap.size w w' := by
  subst hz; exact rput_any h x hx 4 (by omega) hm
theorem entB_eq {k : Lb} {A : List Tg} {z : Int} (h : prsM (dir k.pkg) k.name = (A, z)) : entB k = enB k (A, z) := by unfold entB; rw [h]

set_option maxRecDepth 100000 in
set_option maxHeartbeats 8000000 in
theorem rsave_any {w : World} {F : Nat → Prop} {g : Nat} {K : List Lb} (h : RC w F g K) :
    Calls Tryz.prog 52 #[.pointer (some ⟨g, 0, none⟩)] w fun e w' => ∃ v', e = .returned v' ∧ OwnB w.heap.size w' v' (savB K) ∧ Below w.heap.size w w' := by
  have HO : Hid (OKK K) := h.ok
  have hgl := h.glt
  obtain ⟨av, cv, hc, _, hL⟩ := h.row
  obtain ⟨n, hn⟩ : ∃ n, K.length = n := ⟨_, rfl⟩
  have hn5 : n ≤ 512 := hn ▸ h.ok.len
  rw [hn] at hc hL
  have H : Hid (LS w (.slice av n cv) K) := hL
  have HN : Hid (K.length = n) := hn
  have HC : Hid (∀ W : World, Below w.heap.size w W → W.cell? ⟨g, 0, none⟩ = some (.slice av n cv)) := fun W hW => (hW.cell (p := ⟨g, 0, none⟩) hgl).trans hc
  have HT : Hid (∀ W, Calls Tryz.prog 85 #[.slice none 0 0, .string ⟨#[99, 111, 112, 115, 101, 32, 99, 97, 99, 104, 101, 32, 49]⟩] W fun e w' => ∃ v', e = .returned v' ∧ OwnB W.heap.size w' v' (txB hdW) ∧ Below W.heap.size W w') := fun W => rtext_at (l := []) (BS_nil W) hdW (by decide) (by simp)
  have HWn : Hid (IntKind.u64.wrap (n : Int) = (n : Int)) := wrap_u64_id _ (by omega) (by omega)
  have HBD : Hid ((txB hdW).length ≤ 1000000000000) := by show _ ≤ _; rw [txB_len]; decide
  clear h hgl hL hn
  have c0 := HC.out w (Below.refl _ _)
  clear hc
  go_enter Tryz.func52, Tryz.ntmps52
  go_wp2_with fail
  go_region_held3 (fun w' => w'.cell? ⟨g, 0, none⟩ = some (.slice av n cv)) (first | (with_reducible exact c0) | (with_reducible exact KA.out) | (with_reducible exact KB.out) | go_keep) (first
    | (go_at_call 86; (with_reducible refine (rput4 O1.out.1.bs n (by omega) HBD.out HWn.out).mono ?_); rintro e w2 ⟨v2, rfl, ho2, hb2⟩; have O2 : Hid (OwnB w.heap.size w2 v2 (txB hdW ++ le 4 n) ∧ Below w.heap.size w w2) := ⟨ho2.mono O1.out.2.size, bstep O1.out.2 hb2⟩; have KB : Hid (w2.cell? ⟨g, 0, none⟩ = some (.slice av n cv)) := HC.out w2 O2.out.2; clear ho2 hb2)
    | (go_at_call 85; (with_reducible refine (HT.out _).mono ?_); rintro e w1 ⟨v1, rfl, ho1, hb1⟩; have O1 : Hid (OwnB w.heap.size w1 v1 (txB hdW) ∧ Below w.heap.size w w1) := ⟨ho1, bstep (Below.refl _ _).drew hb1⟩; have KA : Hid (w1.cell? ⟨g, 0, none⟩ = some (.slice av n cv)) := HC.out w1 O1.out.2; clear ho1 hb1))
  obtain ⟨B0, hB0⟩ : ∃ B0, txB hdW ++ le 4 n = B0 := ⟨_, rfl⟩
  rw [hB0] at O2
  have HE : Hid (savB K = B0 ++ K.flatMap entB ∧ B0.length ≤ 100) := ⟨by unfold savB; rw [← hB0, HN.out], by rw [← hB0, List.length_append, le_length]; decide⟩
  clear O1 KA KB c0 hB0
  go_wp2_with fail
  go_loopw [3, 4] (fun s3 s4 wr => ∃ (k : Nat) (v0 : Value), v0 = s3 ∧ s4 = .int .i64 k ∧ k ≤ n ∧ OwnB w.heap.size wr v0 (B0 ++ (K.take k).flatMap entB) ∧ Below w.heap.size w wr) (fun _ s4 _ => n - (intOf s4).toNat)
  case atStart => exact ⟨0, _, rfl, rfl, by omega, by simpa using O2.out.1, O2.out.2⟩
  case round =>
    obtain ⟨k, v0, rfl, rfl, hk, ho, hb⟩ := hrel
    have cg := HC.out wr hb
    by_cases hlt : k < n
    · have hkl : k < K.length := by rw [HN.out]; exact hlt
      obtain ⟨b, off, ea, hbw, d0, d1⟩ := LS.at H.out hb hkl
      subst ea
      obtain ⟨x, hxe⟩ : ∃ x, K[k] = x := ⟨_, rfl⟩
      rw [hxe] at d0 d1
      obtain ⟨B1, hB1⟩ : ∃ B1, B0 ++ (K.take k).flatMap entB = B1 := ⟨_, rfl⟩
      have hfl := flat_le entB K k
      have hfa := HO.out.flat
      have hxm : x ∈ K := hxe ▸ List.getElem_mem hkl
      have HX : Hid (OwnB w.heap.size wr v0 B1 ∧ Below w.heap.size w wr ∧ B1.length ≤ 4000000000 ∧ x.pkg.length ≤ 120 ∧ x.name.length ≤ 4096) := ⟨by rw [← hB1]; exact ho, hb, by rw [← hB1, List.length_append]; have := HE.out.2; omega, rgt_len (HO.out.rt x hxm), HO.out.tx x hxm⟩
      have HE1 : Hid (B1 ++ entB x = B0 ++ (K.take (k + 1)).flatMap entB) := by show _ = _; rw [flat_take entB K k hkl, hxe, ← hB1, List.append_assoc]
      obtain ⟨q, r⟩ := x
      simp only at d0 d1 HX HE1
      have HS : Hid (∀ W, Below wr.heap.size wr W → W.cell? ⟨g, 0, none⟩ = some (.slice (some ⟨b, off, none⟩) n cv) ∧ W.cell? ⟨b, off + k * 2, none⟩ = some (.string (bs q)) ∧ W.cell? ⟨b, off + k * 2 + 1, none⟩ = some (.string (bs r))) := fun W hW => ⟨HC.out W (bstep hb hW), (hW.cell (p := ⟨b, off + k * 2, none⟩) (Nat.lt_of_lt_of_le hbw hb.size)).trans d0, (hW.cell (p := ⟨b, off + k * 2 + 1, none⟩) (Nat.lt_of_lt_of_le hbw hb.size)).trans d1⟩
      have HD : Hid (∀ W, Calls Tryz.prog 48 #[.string (bs q)] W fun e w' => e = .returned (.string (bs (dir q))) ∧ w' = W) := fun W => rdir_any q W (by have := HX.out.2.2.2.1; omega)
      have hdl := dir_le q
      have HPr : Hid (∀ W, Calls Tryz.prog 17 #[.string (bs (dir q)), .string (bs r)] W (LsP W (prsM (dir q) r))) := fun W => rpars_any (dir q) r (by have := HX.out.2.2.2.1; omega) (by have := HX.out.2.2.2.2; omega)
      have HTB : Hid (TBd (prsM (dir q) r).1) := prsM_tbd _ _
      have hEq := @entB_eq ⟨q, r⟩
      obtain ⟨⟨A, z⟩, hAz⟩ : ∃ R, prsM (dir q) r = R := ⟨_, rfl⟩
      have HEq : Hid (entB ⟨q, r⟩ = enB ⟨q, r⟩ (A, z)) := hEq hAz
      rw [hAz] at HPr HTB
      clear hxe ho hb hfl hfa hB1 hkl hbw hxm hEq hAz hdl
      generalize dir q = dq at *
      have k1 : (k : Int) < (n : Int) := by omega
      go_wp2_with fail
      go_region_held3 (fun w' => w'.cell? ⟨g, 0, none⟩ = some (.slice (some ⟨b, off, none⟩) n cv) ∧ w'.cell? ⟨b, off + k * 2, none⟩ = some (.string (bs q)) ∧ w'.cell? ⟨b, off + k * 2 + 1, none⟩ = some (.string (bs r))) (first | (with_reducible exact ⟨cg, d0, d1⟩) | (with_reducible exact HS.out _ (Below.refl _ _).drew) | (with_reducible exact KB.out) | go_keep) (first
        | (go_at_call 17; (with_reducible refine (HPr.out _).mono ?_); rintro e w5 ⟨v5, rfl, ho5, hb5⟩; have O5 : Hid (GR w5 v5 A ∧ Below wr.heap.size wr w5) := ⟨ho5.read, bstep (Below.refl _ _).drew hb5⟩; have KB : Hid (w5.cell? ⟨g, 0, none⟩ = some (.slice (some ⟨b, off, none⟩) n cv) ∧ w5.cell? ⟨b, off + k * 2, none⟩ = some (.string (bs q)) ∧ w5.cell? ⟨b, off + k * 2 + 1, none⟩ = some (.string (bs r))) := HS.out w5 O5.out.2; clear ho5 hb5)
        | (go_at_call 48; (with_reducible refine (HD.out _).mono ?_); rintro e w4 ⟨rfl, rfl⟩))
      obtain ⟨m0, m1, m2⟩ := KB.out
      have HO5 : Hid (BS w5 v0 B1 ∧ GR w5 v5 A ∧ Below wr.heap.size wr w5) := ⟨HX.out.1.bs.later O5.out.2, O5.out⟩
      clear cg d0 d1 KB O5
      go_wp2_with fail
      refine (rentry_any HO5.out.1 ⟨q, r⟩ HO5.out.2.1 z HTB.out (by have := HX.out.2.2.1; omega) (by have := HX.out.2.2.2.1; show q.length ≤ _; omega) (by have := HX.out.2.2.2.2; show r.length ≤ _; omega)).mono ?_
      rintro e w6 ⟨v6, rfl, ho6, hb6⟩
      have O6 : Hid (OwnB w.heap.size w6 v6 (B0 ++ (K.take (k + 1)).flatMap entB) ∧ Below w.heap.size w w6) := ⟨by rw [← HE1.out, HEq.out]; exact ho6.mono (Nat.le_trans HX.out.2.1.size HO5.out.2.2.size), bstep HX.out.2.1 (bstep HO5.out.2.2 hb6)⟩
      clear ho6 hb6
      go_wp2_with fail
      go_roundw
      case rel => exact ⟨k + 1, _, rfl, by go_num, by omega, O6.out.1, O6.out.2⟩
      case measure => simp [intOf]; omega
    · have HX : Hid (OwnB w.heap.size wr v0 (B0 ++ (K.take k).flatMap entB) ∧ Below w.heap.size w wr) := ⟨ho, hb⟩
      obtain rfl : n = k := by omega
      clear ho hb
      have k1 : ¬ (n : Int) < (n : Int) := by omega
      go_wp2_with fail
      go_ret
      refine ⟨_, rfl, ?_, HX.out.2⟩
      have := HX.out.1
      rw [← HN.out, List.take_length] at this
      rw [HE.out.1]
      exact this
end Go.Proofs.YtddaoloabfkheaaGreatDoor

namespace Go.Proofs.YtddaoloabfkheaaGreatDoor
open Go.RowKit

/-! ### what is put, step by step -/
theorem er_ne {K : List Lb} {a : Lb} {k : Nat} (hk : k < K.length) (h : (k : Int) ≠ kix K a) : (K.take (k + 1)).erase a = (K.take k).erase a ++ [K[k]] := by
  rw [List.take_succ_eq_append_getElem hk, List.erase_append]
  split
  · rfl
  · rename_i hn
    have hx : K[k] ≠ a := fun e => h (kix_here hk e (fun x hx e2 => hn (e2 ▸ hx))).symm
    rw [List.erase_of_not_mem hn, List.erase_cons_tail (by simpa using hx)]
    simp
theorem er_eq {K : List Lb} {a : Lb} {k : Nat} (hk : k < K.length) (h : (k : Int) = kix K a) : (K.take (k + 1)).erase a = (K.take k).erase a := by
  have hm : a ∈ K := by
    rcases kix_range K a with ⟨h1, _⟩ | ⟨_, h2⟩
    · exact h1
    · omega
  have hi : K.idxOf a = k := by unfold kix at h; rw [if_pos hm] at h; omega
  have hx : K[k] = a := by
    have := List.getElem_idxOf (List.idxOf_lt_length_of_mem hm)
    simp only [hi] at this
    exact this
  have hn : a ∉ K.take k := by
    intro hh
    have h2 := List.idxOf_lt_length_of_mem hh
    have e : K = K.take k ++ K.drop k := (List.take_append_drop k K).symm
    rw [e, List.idxOf_append, if_pos hh] at hi
    rw [List.length_take] at h2
    omega
  rw [List.take_succ_eq_append_getElem hk, List.erase_append, if_neg hn, hx, List.erase_of_not_mem hn]
  simp

/-! ### a row cut at its front, and a key more -/
theorem elem54 : Tryz.prog.elem 54 = 106 := by kernel_rfl
theorem slice_tailK (d off len cap : Nat) (h1 : 1 ≤ len) (_h2 : len ≤ cap) (h3 : 1 < cap) :
    ∀ u : World, (Instr.slice 54 (.slice (some ⟨d, off, none⟩) len cap) (some (.int .i64 1)) none none).run Tryz.prog u = .ok (.slice (some ⟨d, off + 2, none⟩) (len - 1) (cap - 1)) u := by
  obtain ⟨i0, hi, hz0, hz1, hz2⟩ := info_parts info_K
  intro u
  rw [run_slice_l (P := Tryz.prog) u 54 (some ⟨d, off, none⟩) len cap (by rw [elem54]; exact und_K) .i64 1 (by omega) (by omega)]
  have hsz : (sizeOf 106).run Tryz.prog u = .ok 2 u := by simp [sizeOf, typeInfo, hi, hz1]
  rw [elem54, hsz]
  have e : (1 : Int).toNat = 1 := rfl
  simp only [Result.andThen_ok, sliced, e, Nat.one_mul, Option.map_some, add_lit]
  rw [if_neg (by omega)]
theorem lc_drop : ∀ (l : List Lb), lc (l.drop 1) = (lc l).drop 2
  | [] => rfl
  | f :: r => by simp [lc]
section
variable {P : Program} (w : World)
/-- append onto a piece of a block -/
theorem run_append_off (t tx ty e : TypeId) (i : TypeInfo) (z : Value) (ht : P.underlying t = some (.slice e)) (hi : P.info? e = some i) (hz : i.zero = some z)
    (g off n cap : Nat) (cur : Array Value) (hg : w.heap[g]? = some (.cells cur e (0, 0))) (hcs : cur.size = off + cap * i.size) (_hnc : n ≤ cap) (xs : List Value) (hxl : xs.length = n * i.size) (hxs : (cur.toList.drop off).take (n * i.size) = xs)
    (x : Value) (m : Nat) (news : List Value) (hs : Src P i.size tx x m news w) (h63 : n + m ≤ 9223372036854775807) (hbytes : (n + m) * i.bytes ≤ 140737488355328) :
    ∃ b o c cells w', (Builtin.append_ #[t, tx] ty #[.slice (some ⟨g, off, none⟩) n cap, x]).run P w = .ok (.slice (some ⟨b, o, none⟩) (n + m) c) w' ∧ w.grownBy w' (some g) ∧ n + m ≤ c ∧ w'.heap[b]? = some (.cells cells e (0, 0)) ∧ (b = g ∨ b = w.heap.size) ∧
      (cells.toList.drop o).take ((n + m) * i.size) = xs ++ news := by
  have hlen : (xs ++ news).length = (n + m) * i.size := by rw [List.length_append, hxl, hs.newsLen, Nat.add_mul]
  by_cases hroom : n + m ≤ cap
  · have hfit : off + n * i.size + news.length ≤ cur.size := by
      rw [hs.newsLen, hcs, Nat.add_assoc, ← Nat.add_mul]
      exact Nat.add_le_add_left (Nat.mul_le_mul_right _ hroom) _
    have hst := run_storeCells_at P g (off + n * i.size) e news 0 cur w hg (by simpa using hfit) hs.one
    simp only [Nat.add_zero] at hst
    have hr : (Builtin.append_ #[t, tx] ty #[.slice (some ⟨g, off, none⟩) n cap, x]).run P w =
        .ok (.slice (some ⟨g, off, none⟩) (n + m) cap) (w.setRow g (cur.toList.take (off + n * i.size) ++ news ++ cur.toList.drop (off + n * i.size + news.length)).toArray) := by
      rcases hs.kind with ⟨e', hk⟩ | hk <;> simp [Builtin.append_, run_underlying ht, run_underlying hk, sizeOf, typeInfo, hi, hs.len, hroom, hs.cells, Addr.add_lit, hst]
    refine ⟨g, off, cap, _, _, hr, ⟨rfl, rfl, rfl, by simp, fun k _ hk => setRow_other w g k _ (fun e => hk (by rw [e]))⟩, hroom, setRow_heap w g cur _ e _ hg, .inl rfl, ?_⟩
    show ((cur.toList.take (off + n * i.size) ++ news ++ cur.toList.drop (off + n * i.size + news.length)).drop off).take _ = _
    have e1 : cur.toList.take (off + n * i.size) = cur.toList.take off ++ xs := by rw [List.take_add, hxs]
    have e2 : (cur.toList.take off).length = off := by rw [List.length_take, Array.length_toList]; omega
    rw [e1, List.append_assoc, List.append_assoc]
    have e3 : (cur.toList.take off ++ (xs ++ (news ++ cur.toList.drop (off + n * i.size + news.length)))).drop off = xs ++ (news ++ cur.toList.drop (off + n * i.size + news.length)) := by
      have := List.drop_left (l₁ := cur.toList.take off) (l₂ := xs ++ (news ++ cur.toList.drop (off + n * i.size + news.length)))
      rwa [e2] at this
    rw [e3, ← List.append_assoc, ← hlen, List.take_left]
  · have holds : ∀ j u, xs[j]? = some u → w.cell? ((⟨g, off, none⟩ : Addr).add j) = some u := by
      intro j u hu
      rw [add_lit]
      have hj : j < n * i.size := by
        rcases Nat.lt_or_ge j (n * i.size) with h | h
        · exact h
        · rw [List.getElem?_eq_none (by omega)] at hu; cases hu
      rw [← hxs, List.getElem?_take, if_pos hj, List.getElem?_drop] at hu
      simpa [World.cell?, hg] using hu
    have hr := run_append_grow_src (P := P) w t tx ty e i z ht hi hz (some ⟨g, off, none⟩) n cap xs (run_firstCells_some w.drew i.size n _ n cap xs hxl (by simpa using holds)) x m news hs (by omega) (by omega) (growslice_fits (by omega) hbytes)
    refine ⟨_, _, _, _, _, hr, ⟨rfl, rfl, rfl, by simp, fun k hk _ => Below.heap_alloc w.drew _ k hk⟩, grownCap_ge w (n + m) cap e, heap_alloc_new w.drew _, .inr rfl, ?_⟩
    simp only [Array.toList_append, List.drop_zero]
    rw [← hlen]
    exact List.take_left
end
theorem app_tailK {w : World} {base g n cap : Nat} {cur : Array Value} {l : List Lb} (t : Lb) (hg : w.heap[g]? = some (.cells cur 106 (0, 0))) (hbg : base ≤ g) (hn : l.length = n) (hnc : n ≤ cap) (hcs : cur.size = cap * 2) (htk : cur.toList.take (n * 2) = lc l) (h1 : 1 ≤ n) (h2 : n ≤ 1000000) (hbase : base ≤ w.heap.size)
    {ops : Array Oper} {rest : List Oper} {o : Oper} {a : Act} {Q : Exit → Act → World → Prop} (hgd : o.guard = none) (s y : Operand)
    (ho : o.op = .call { callee := .builtin .append, args := #[s, y], argTypes := #[54, 54] }) (hv : a.eval s = .slice (some ⟨g, 2, none⟩) (n - 1) (cap - 1)) (hx : a.eval y = .slice (some ⟨w.heap.size, 0, none⟩) 1 1)
    (h : ∀ v' w', LS w' v' (l.drop 1 ++ [t]) → Below base w w' → (∃ k, v'.ownBlock = some k ∧ base ≤ k ∧ k < w'.heap.size) → wpList Tryz.prog ops Q rest (a.put o.dst v') w') :
    wpList Tryz.prog ops Q (o :: rest) a (w.alloc (.cells #[.string (bs t.pkg), .string (bs t.name)] 106)) := by
  obtain ⟨i0, hi, hz0, hz1, hz2⟩ := info_parts info_K
  have hgl : g < w.heap.size := (Array.getElem?_eq_some_iff.1 hg).1
  obtain ⟨W, hW⟩ : ∃ W, w.alloc (.cells #[.string (bs t.pkg), .string (bs t.name)] 106) = W := ⟨_, rfl⟩
  have hs := src_K w t
  have hgW := (heap_alloc_old w (.cells #[.string (bs t.pkg), .string (bs t.name)] 106) hgl).trans hg
  have hB : Below w.heap.size w (w.alloc (.cells #[.string (bs t.pkg), .string (bs t.name)] 106)) := balloc _ _
  have hWs : (w.alloc (.cells #[.string (bs t.pkg), .string (bs t.name)] 106)).heap.size = w.heap.size + 1 := by simp
  rw [hW] at hs hgW hB hWs ⊢
  rw [← hz1] at hs hcs htk
  have hll : (lc l).length = n * i0.size := by rw [lc_length, hn, hz1]
  obtain ⟨b, o', c, cells, w', hr, hgr, hc, hb, hbb, htake⟩ := run_append_off (P := Tryz.prog) W 54 54 o.type 106 i0 _ und_K hi hz0 g i0.size (n - 1) (cap - 1) cur hgW
    (by rw [hcs, Nat.sub_mul, Nat.one_mul]; have := Nat.mul_le_mul_right i0.size (show 1 ≤ cap by omega); omega) (by omega) ((lc l).drop i0.size)
    (by rw [List.length_drop, hll, Nat.sub_mul, Nat.one_mul]) (by
      rw [← htk, List.drop_take, Nat.sub_mul, Nat.one_mul])
    _ 1 (lc [t]) hs (by omega) (by rw [hz2]; omega)
  refine wpList_plain hgd fun K hK => ?_
  have hv2 : a.eval s = .slice (some ⟨g, i0.size, none⟩) (n - 1) (cap - 1) := by rw [hv, hz1]
  unfold Oper.wp execOp
  simp only [ho, resolve, invoke, builtin, Sem.run_bind, Sem.run_pure, Result.andThen_ok, List.map_toArray, List.map_cons, List.map_nil, hv2, hx, hr]
  have hblt : b < w'.heap.size := (Array.getElem?_eq_some_iff.1 hb).1
  refine hK _ _ (h _ w' ?_ ?_ ⟨b, rfl, by rcases hbb with e | e <;> omega, hblt⟩)
  · have e1 : lc (l.drop 1 ++ [t]) = (lc l).drop i0.size ++ lc [t] := by rw [lc_append, lc_drop, hz1]
    have e2 : (l.drop 1 ++ [t]).length = n - 1 + 1 := by rw [List.length_append, List.length_drop, hn]; rfl
    refine .inr ⟨b, o', c, by rw [e2], by rw [e2]; exact hc, hblt, fun j u hu => ?_⟩
    rw [e1, ← htake] at hu
    have hj : j < (n - 1 + 1) * i0.size := by
      rcases Nat.lt_or_ge j ((n - 1 + 1) * i0.size) with h | h
      · exact h
      · rw [List.getElem?_eq_none (by rw [List.length_take]; omega)] at hu; cases hu
    rw [List.getElem?_take, if_pos hj, List.getElem?_drop] at hu
    simpa [World.cell?, hb] using hu
  · have hB2 : Below base w W := hB.mono hbase
    exact hB2.grown hgr (by omega) (fun k hk => by injection hk with hk; omega)
end Go.Proofs.YtddaoloabfkheaaGreatDoor

namespace Go.Proofs.YtddaoloabfkheaaGreatDoor
open Go.RowKit

theorem RC.set {w w3 : World} {F : Nat → Prop} {g : Nat} {K K' : List Lb} {v' : Value} (h : RC w F g K) (hb : Below w.heap.size w w3) (hL : LS w3 v' K') (hk : ∀ k, v'.ownBlock = some k → w.heap.size ≤ k ∧ k < w3.heap.size) (ok : OKK K') :
    Hid (RC (w3.setCell ⟨g, 0, none⟩ v') (nwF F w (w3.setCell ⟨g, 0, none⟩ v')) g K' ∧ OnlyP F w (w3.setCell ⟨g, 0, none⟩ v')) := by
  have hgl := h.glt
  obtain ⟨⟨v, h1, h2, h3⟩, own, lt, _⟩ := h
  have hg3 : w3.heap[g]? = some (.cells #[v] 56 (0, 0)) := (hb.block g hgl).trans h1
  have hse := Only.set w3 g 0 v'
  have hsz : (w3.setCell ⟨g, 0, none⟩ v').heap.size = w3.heap.size := by simp [World.setCell]
  refine ⟨⟨⟨v', ?_, ?_, fun k hv => .inr ⟨(hk k hv).1, by rw [hsz]; exact (hk k hv).2⟩⟩, .inl own, ?_, ok⟩, ?_⟩
  · rw [heap_setCell _ _ _ _ hg3]; simp
  · refine hL.stay (by rw [hsz]; exact Nat.le_refl _) (fun k hv => hse.block k (hk k hv).2 ?_)
    have := (hk k hv).1
    simp; omega
  · rintro k (hk | hk)
    · rw [hsz]; exact Nat.lt_of_lt_of_le (lt k hk) hb.size
    · exact hk.2
  · refine (OnlyP.of_below hb F).trans (OnlyP.of_only (F := F) hse (fun k hk _ => ?_)) (fun _ _ e => e)
    have : k = g := by simpa using hk
    rw [this]; exact own
theorem RC.nwF_later {w w' : World} {F : Nat → Prop} {g : Nat} {K : List Lb} (h : RC w F g K) (hb : Below w.heap.size w w') : RC w' (nwF F w w') g K ∧ OnlyP F w w' := by
  have h2 := h.later hb
  exact ⟨h2.wider (fun k hk => .inl hk) (fun k hk => hk.elim (fun e => h2.lt k e) (fun e => e.2)), OnlyP.of_below hb F⟩
def pcod (p t : List UInt8) : Int := if rgt p = true then (if t.length > 4096 then 18 else 0) else 7
/-- what is there behind a Put -/
def putA (K : List Lb) (p t : List UInt8) : List Lb := if pcod p t = 0 then putK K ⟨p, t⟩ else K
theorem putA_ok {K : List Lb} {p t : List UInt8} (h1 : rgt p = true) (h2 : ¬ t.length > 4096) : pcod p t = 0 ∧ putA K p t = putK K ⟨p, t⟩ := by
  have e : pcod p t = 0 := by unfold pcod; rw [if_pos h1, if_neg h2]
  exact ⟨e, by unfold putA; rw [if_pos e]⟩
theorem OKK.putA {K : List Lb} (h : OKK K) (p t : List UInt8) : OKK (putA K p t) := by
  by_cases h1 : rgt p = true
  · by_cases h2 : t.length > 4096
    · have e : pcod p t = 18 := by unfold pcod; rw [if_pos h1, if_pos h2]
      unfold Go.Proofs.YtddaoloabfkheaaGreatDoor.putA; rw [if_neg (by rw [e]; decide)]; exact h
    · rw [(putA_ok h1 h2).2]; exact h.put h1 (by simp only; omega)
  · have e : pcod p t = 7 := by unfold pcod; rw [if_neg h1]
    unfold Go.Proofs.YtddaoloabfkheaaGreatDoor.putA; rw [if_neg (by rw [e]; decide)]; exact h

set_option maxRecDepth 100000 in
set_option maxHeartbeats 8000000 in
theorem rcput_any {w : World} {F : Nat → Prop} {g : Nat} {K : List Lb} (h : RC w F g K) (p t : List UInt8) (hp : p.length ≤ 1000000000) (ht : t.length ≤ 1000000000) :
    Calls Tryz.prog 50 #[.pointer (some ⟨g, 0, none⟩), .string (bs p), .string (bs t)] w fun e w' => e = .returned (.int .i64 (pcod p t)) ∧ RC w' (nwF F w w') g (putA K p t) ∧ OnlyP F w w' := by
  have hzt : (bs t).size = t.length := rfl
  have H : Hid (RC w F g K) := h
  have HR : Hid (∀ W : World, Calls Tryz.prog 46 #[.string (bs p)] W fun e w' => e = .returned (.bool (rgt p)) ∧ Below W.heap.size W w') := fun W => rright_any p W hp
  cases hr : rgt p
  · have e0 : pcod p t = 7 := by unfold pcod; rw [hr]; rfl
    have e1 : putA K p t = K := by unfold putA; rw [e0]; rfl
    rw [e0, e1]
    rw [hr] at HR
    go_enter Tryz.func50, Tryz.ntmps50
    go_wp2_with fail
    refine (HR.out _).mono ?_
    rintro e w1 ⟨rfl, hb1⟩
    have H1 : Hid (Below w.heap.size w w1) := hb1
    clear hb1
    go_wp2_with fail
    go_ret
    exact ⟨rfl, H.out.nwF_later H1.out⟩
  · rw [hr] at HR
    by_cases hl : t.length > 4096
    · have e0 : pcod p t = 18 := by unfold pcod; rw [hr, if_pos rfl, if_pos hl]
      have e1 : putA K p t = K := by unfold putA; rw [e0]; rfl
      rw [e0, e1]
      have l1 : (4096 : Int) < ((bs t).size : Int) := by rw [hzt]; omega
      go_enter Tryz.func50, Tryz.ntmps50
      go_wp2_with fail
      refine (HR.out _).mono ?_
      rintro e w1 ⟨rfl, hb1⟩
      have H1 : Hid (Below w.heap.size w w1) := hb1
      clear hb1
      go_wp2_with fail
      go_ret
      exact ⟨rfl, H.out.nwF_later H1.out⟩
    · obtain ⟨e0, e1⟩ := putA_ok (K := K) hr hl
      rw [e0, e1]
      have HOk : Hid (OKK (putK K ⟨p, t⟩)) := h.ok.put hr (by simp only; omega)
      have l1 : ¬ (4096 : Int) < ((bs t).size : Int) := by rw [hzt]; omega
      have hgl := h.glt
      obtain ⟨av, cv, hc, hf, hL⟩ := h.row
      obtain ⟨n, hn⟩ : ∃ n, K.length = n := ⟨_, rfl⟩
      have hn5 : n ≤ 512 := hn ▸ h.ok.len
      rw [hn] at hc hL
      have HL : Hid (LS w (.slice av n cv) K) := hL
      have HN : Hid (K.length = n) := hn
      have HC : Hid (∀ W : World, Below w.heap.size w W → W.cell? ⟨g, 0, none⟩ = some (.slice av n cv) ∧ W.frozen? ⟨g, 0, none⟩ = false) := fun W hW => ⟨(hW.cell (p := ⟨g, 0, none⟩) hgl).trans hc, (hW.frozen (p := ⟨g, 0, none⟩) hgl).trans hf⟩
      have HA : Hid (∀ W : World, Below w.heap.size w W → Calls Tryz.prog 47 #[.pointer (some ⟨g, 0, none⟩), .agg #[.string (bs p), .string (bs t)]] W fun e w' => e = .returned (.int .i64 (kix K ⟨p, t⟩)) ∧ Below W.heap.size W w') := fun W hW => rkat_any (HC.out W hW).1 (Nat.lt_of_lt_of_le hgl hW.size) (hL.later hW) (by rw [hn]; omega) ⟨p, t⟩
      have hkr := kix_range K ⟨p, t⟩
      rw [hn] at hkr
      have HNe : Hid (∀ k, (hk : k < K.length) → (k : Int) ≠ kix K ⟨p, t⟩ → (K.take (k + 1)).erase ⟨p, t⟩ = (K.take k).erase ⟨p, t⟩ ++ [K[k]]) := fun k hk h => er_ne hk h
      have HEq : Hid (∀ k, (hk : k < K.length) → (k : Int) = kix K ⟨p, t⟩ → (K.take (k + 1)).erase ⟨p, t⟩ = (K.take k).erase ⟨p, t⟩) := fun k hk h => er_eq hk h
      obtain ⟨x, hx⟩ : ∃ x, kix K ⟨p, t⟩ = x := ⟨_, rfl⟩
      rw [hx] at hkr HA HNe HEq
      have hxr : -1 ≤ x ∧ x < 512 := by rcases hkr with h | h <;> omega
      clear h hc hf hL hn hkr hx hr hl
      go_enter Tryz.func50, Tryz.ntmps50
      go_wp2_with fail
      refine (HR.out _).mono ?_
      rintro e w1 ⟨rfl, hb1⟩
      have H1 : Hid (Below w.heap.size w w1) := hb1
      clear hb1
      obtain ⟨wA, hwA⟩ : ∃ wA, w1.alloc (.cells #[.string (bs p), .string (bs t)] 106) = wA := ⟨_, rfl⟩
      have HwA : Hid (RBK wA w1.heap.size ⟨p, t⟩ ∧ Below w.heap.size w wA) := by rw [← hwA]; exact ⟨RBK.new w1 ⟨p, t⟩, bstep H1.out (balloc _ _)⟩
      obtain ⟨b0, b1, _, _⟩ := HwA.out.1.cells
      simp only at b0 b1
      go_wp2_with fail
      refine (HA.out _ HwA.out.2).mono ?_
      rintro e w2 ⟨rfl, hb2⟩
      obtain ⟨G, hG⟩ : ∃ G, w1.heap.size = G := ⟨_, rfl⟩
      rw [hG] at HwA
      have H2 : Hid (RBK w2 G ⟨p, t⟩ ∧ Below w.heap.size w w2) := ⟨HwA.out.1.later hb2, bstep HwA.out.2 hb2⟩
      clear hb2 b0 b1 HwA HA
      go_wp2_with fail
      go_loopw [9, 10] (fun s9 s10 wr => ∃ (k : Nat) (v0 : Value), v0 = s9 ∧ s10 = .int .i64 k ∧ k ≤ n ∧ OwnK w2.heap.size wr v0 ((K.take k).erase ⟨p, t⟩) ∧ Below w2.heap.size w2 wr) (fun _ s10 _ => n - (intOf s10).toNat)
      case atStart => exact ⟨0, _, rfl, rfl, by omega, OwnK.nil _ _, Below.refl _ _⟩
      case round =>
        obtain ⟨k, v0, rfl, rfl, hk, ho, hb⟩ := hrel
        obtain ⟨cg, fg⟩ := HC.out wr (bstep H2.out.2 hb)
        by_cases hlt : k < n
        · have hkl : k < K.length := by rw [HN.out]; exact hlt
          obtain ⟨b, off, ea, hbw, d0, d1⟩ := LS.at HL.out (bstep H2.out.2 hb) hkl
          subst ea
          obtain ⟨y, hye⟩ : ∃ y, K[k] = y := ⟨_, rfl⟩
          rw [hye] at d0 d1
          have hel : ((K.take k).erase ⟨p, t⟩).length ≤ 512 := by
            have h1 : ((K.take k).erase ⟨p, t⟩).length ≤ (K.take k).length := List.erase_sublist.length_le
            rw [List.length_take] at h1
            omega
          have HX : Hid (OwnK w2.heap.size wr v0 ((K.take k).erase ⟨p, t⟩) ∧ Below w2.heap.size w2 wr ∧ K[k] = y) := ⟨ho, hb, hye⟩
          clear ho hb hbw hye
          obtain ⟨q, r⟩ := y
          simp only at d0 d1
          have k1 : (k : Int) < (n : Int) := by omega
          by_cases hkx : (k : Int) = x
          · have hE := HEq.out k hkl hkx
            have HE : Hid ((K.take (k + 1)).erase ⟨p, t⟩ = (K.take k).erase ⟨p, t⟩) := hE
            clear hE hel
            subst hkx
            go_wp2_with fail
            go_roundw
            case rel => exact ⟨k + 1, _, rfl, by go_num, by omega, by rw [HE.out]; exact HX.out.1, HX.out.2.1⟩
            case measure => simp [intOf]; omega
          · have HE : Hid ((K.take (k + 1)).erase ⟨p, t⟩ = (K.take k).erase ⟨p, t⟩ ++ [⟨q, r⟩]) := by show _ = _; rw [HNe.out k hkl hkx, HX.out.2.2]
            go_wp2_with (at_builtin; refine app_K (base := w2.heap.size) (l := (K.take k).erase ⟨p, t⟩) ⟨q, r⟩ HX.out.1 (by omega) HX.out.2.1.size rfl (.tmp 35) (.tmp 43) rfl rfl rfl ?_; intro v5 w5 ho5 hB5 _ _ _)
            have H5 : Hid (OwnK w2.heap.size w5 v5 ((K.take (k + 1)).erase ⟨p, t⟩) ∧ Below w2.heap.size w2 w5) := ⟨by rw [HE.out]; exact ho5, HX.out.2.1.trans hB5⟩
            clear ho5 hB5
            go_wp2_with fail
            go_roundw
            case rel => exact ⟨k + 1, _, rfl, by go_num, by omega, H5.out.1, H5.out.2⟩
            case measure => simp [intOf]; omega
        · obtain rfl : n = k := by omega
          have hL2 : (K.take n).erase ⟨p, t⟩ = K.erase ⟨p, t⟩ := by rw [← HN.out, List.take_length]
          rw [hL2] at ho
          have HX : Hid (OwnK w2.heap.size wr v0 (K.erase ⟨p, t⟩) ∧ Below w2.heap.size w2 wr ∧ Below w.heap.size w wr) := ⟨ho, hb, bstep H2.out.2 hb⟩
          have hel : (K.erase ⟨p, t⟩).length ≤ n := by
            have h1 : (K.erase ⟨p, t⟩).length ≤ K.length := List.erase_sublist.length_le
            rw [HN.out] at h1; exact h1
          have hwz : w.heap.size ≤ w2.heap.size := H2.out.2.size
          obtain ⟨b0, b1, _, _⟩ := (H2.out.1.later hb).cells
          simp only at b0 b1
          have k1 : ¬ (n : Int) < (n : Int) := by omega
          by_cases h5 : (K.erase ⟨p, t⟩).length = 512
          · have HPu : Hid (putK K ⟨p, t⟩ = (K.erase ⟨p, t⟩).drop 1 ++ [⟨p, t⟩]) := by show _ = _; unfold putK; rw [if_pos h5]
            obtain ⟨L, hLe⟩ : ∃ L, K.erase ⟨p, t⟩ = L := ⟨_, rfl⟩
            rw [hLe] at h5 ho HX HPu
            have hll : (lc L).length = 512 * 2 := by rw [lc_length, h5]
            rcases ho.2 with ⟨_, h0⟩ | ⟨g0, cap, cur, rfl, hbg, hg0, hnc, _, hcs, htk⟩
            · omega
            · rw [h5] at hnc htk
              have hsl := slice_tailK g0 0 512 cap (by omega) hnc (by omega)
              have HT : Hid (w2.heap.size ≤ g0 ∧ wr.heap[g0]? = some (.cells cur 106 (0, 0)) ∧ 512 ≤ cap ∧ cur.size = cap * 2 ∧ cur.toList.take (512 * 2) = lc L ∧ L.length = 512) := ⟨hbg, hg0, hnc, hcs, htk, h5⟩
              rw [h5]
              clear ho hb hL2 hll hbg hg0 hnc hcs htk h5 hel hLe
              go_wp2_with (at_builtin; refine app_tailK (base := w2.heap.size) (n := 512) (cap := cap) (l := L) ⟨p, t⟩ HT.out.2.1 HT.out.1 HT.out.2.2.2.2.2 HT.out.2.2.1 HT.out.2.2.2.1 HT.out.2.2.2.2.1 (by omega) (by omega) HX.out.2.1.size rfl (.tmp 51) (.tmp 53) rfl rfl rfl ?_; intro v5 w5 ho5 hB5 hk5; obtain ⟨a5, n5, c5, rfl⟩ : ∃ a n c, v5 = .slice a n c := (by obtain ⟨a, c, e, _⟩ := ho5.form; exact ⟨a, _, c, e⟩); have H5 : Hid (LS w5 (.slice a5 n5 c5) (putK K ⟨p, t⟩) ∧ Below w.heap.size w w5 ∧ ∀ k, (Value.slice a5 n5 c5).ownBlock = some k → w.heap.size ≤ k ∧ k < w5.heap.size) := ⟨by rw [HPu.out]; exact ho5, HX.out.2.2.trans (hB5.mono hwz), fun k hk => by obtain ⟨j, e, h1, h2⟩ := hk5; rw [e] at hk; injection hk with hk; subst hk; exact ⟨by omega, h2⟩⟩; clear ho5 hB5 hk5; obtain ⟨cg5, fg5⟩ := HC.out w5 H5.out.2.1)
              go_wp2_with fail
              go_ret
              exact ⟨rfl, (H.out.set H5.out.2.1 H5.out.1 H5.out.2.2 HOk.out).out⟩
          · have HPu : Hid (putK K ⟨p, t⟩ = K.erase ⟨p, t⟩ ++ [⟨p, t⟩]) := by show _ = _; unfold putK; rw [if_neg h5]
            obtain ⟨L, hLe⟩ : ∃ L, K.erase ⟨p, t⟩ = L := ⟨_, rfl⟩
            rw [hLe] at h5 ho HX HPu hel
            obtain ⟨a0, c0, hv0⟩ := ho.form
            obtain ⟨m, hm⟩ : ∃ m, L.length = m := ⟨_, rfl⟩
            rw [hm] at hv0 h5 hel
            subst hv0
            have HM : Hid (L.length = m) := hm
            clear ho hb hL2 hLe hm
            have h6 : ((m : Int) == 512) = false := by rw [beq_eq_false_iff_ne]; omega
            go_wp2_with (at_builtin; refine app_K (base := w2.heap.size) (l := L) ⟨p, t⟩ HX.out.1 (by rw [HM.out]; omega) HX.out.2.1.size rfl (.tmp 51) (.tmp 53) rfl rfl rfl ?_; intro v5 w5 ho5 hB5 _ _ _; obtain ⟨a5, n5, c5, rfl⟩ : ∃ a n c, v5 = .slice a n c := (by obtain ⟨a, c, e⟩ := ho5.form; exact ⟨a, _, c, e⟩); have H5 : Hid (LS w5 (.slice a5 n5 c5) (putK K ⟨p, t⟩) ∧ Below w.heap.size w w5 ∧ ∀ k, (Value.slice a5 n5 c5).ownBlock = some k → w.heap.size ≤ k ∧ k < w5.heap.size) := ⟨by rw [HPu.out]; exact ho5.rs, HX.out.2.2.trans (hB5.mono hwz), fun k hk => ⟨by have := (ho5.lt hk).1; omega, (ho5.lt hk).2⟩⟩; clear ho5 hB5; obtain ⟨cg5, fg5⟩ := HC.out w5 H5.out.2.1)
            go_wp2_with fail
            go_ret
            exact ⟨rfl, (H.out.set H5.out.2.1 H5.out.1 H5.out.2.2 HOk.out).out⟩
end Go.Proofs.YtddaoloabfkheaaGreatDoor
