/-
  An append keeps all rows that are no longer than what is appended to.
  The law's spoiled: the rows, grown.
-/
import Derived.Test.YtddaoloabfkheaaGreatDoorYf
namespace Go.Proofs.YtddaoloabfkheaaGreatDoor
open Go.RowKit

section
variable {P : Program} (w : World)
theorem run_append_keep (base : Nat) (t tx ty e : TypeId) (i : TypeInfo) (z : Value) (ht : P.underlying t = some (.slice e)) (hi : P.info? e = some i) (hz : i.zero = some z) (hzs : z.cells.size = i.size) (hpos : 0 < i.size)
    (v : Value) (n : Nat) (xs : List Value) (hown : w.ownsRow base e i.size v n xs)
    (x : Value) (m : Nat) (news : List Value) (hs : Src P i.size tx x m news w) (hm : 0 < m)
    (h63 : n + m ≤ maxLen) (hbytes : (n + m) * i.bytes ≤ 140737488355328) (hbase : base ≤ w.heap.size) :
    ∃ a c w', (Builtin.append_ #[t, tx] ty #[v, x]).run P w = .ok (.slice a (n + m) c) w' ∧ w'.ownsRow base e i.size (.slice a (n + m) c) (n + m) (xs ++ news) ∧ w.grownBy w' v.ownBlock ∧
      ((Value.slice a (n + m) c).ownBlock = v.ownBlock ∨ (Value.slice a (n + m) c).ownBlock = some w.heap.size) ∧ ∀ b' u k ys, w.ownsRow b' e i.size u k ys → k ≤ n → w'.ownsRow b' e i.size u k ys := by
  have hlen : (xs ++ news).length = (n + m) * i.size := by rw [List.length_append, hown.1, hs.newsLen, Nat.add_mul]
  have hsmall : n + m ≤ 9223372036854775807 := by simp only [maxLen] at h63; omega
  have grown : ∀ (old : Nat) (v : Value), old < n + m →
      (w.drew.alloc (.cells ((xs ++ news).toArray ++ Builtin.zeroCells z.cells (grownCap w (n + m) old e - (n + m))) e)).ownsRow base e i.size
        (.slice (some ⟨w.heap.size, 0, none⟩) (n + m) (grownCap w (n + m) old e)) (n + m) (xs ++ news) ∧
      w.grownBy (w.drew.alloc (.cells ((xs ++ news).toArray ++ Builtin.zeroCells z.cells (grownCap w (n + m) old e - (n + m))) e)) v.ownBlock ∧
      ∀ b' u k ys, w.ownsRow b' e i.size u k ys → k ≤ n → (w.drew.alloc (.cells ((xs ++ news).toArray ++ Builtin.zeroCells z.cells (grownCap w (n + m) old e - (n + m))) e)).ownsRow b' e i.size u k ys := by
    intro old v ho
    have hge := grownCap_ge w (n + m) old e
    have hcm : grownCap w (n + m) old e ≤ maxLen := grownCap_le_maxLen w (n + m) old e h63
    refine ⟨⟨hlen, .inr ⟨w.heap.size, _, _, rfl, hbase, heap_alloc_new w.drew _, hge, hcm, ?_, ?_⟩⟩, ⟨rfl, rfl, rfl, by simp, fun k hk _ => Below.heap_alloc w.drew _ k hk⟩, fun b' u k ys hu _ => row_later hu (below_drew_allocK w _)⟩
    · simp only [Array.size_append, List.size_toArray, size_zeroCells, hzs, hlen, ← Nat.add_mul]
      congr 1
      omega
    · simp only [Array.toList_append]
      rw [← hlen]
      exact List.take_left
  rcases hown.2 with ⟨rfl, rfl⟩ | ⟨g, cap, cur, rfl, hbg, hg, hnc, hcm, hcs, htake⟩
  · have hx : xs = [] := List.eq_nil_of_length_eq_zero (by simpa using hown.1)
    subst hx
    have hr := run_append_grow_src (P := P) w t tx ty e i z ht hi hz none 0 0 [] (run_firstCells_none w.drew i.size 0 0 0) x m news hs (by omega) (by omega) (growslice_fits (by omega) hbytes)
    obtain ⟨g1, g2, g3⟩ := grown 0 (.slice none 0 0) (by omega)
    exact ⟨_, _, _, hr, g1, g2, Or.inr rfl, g3⟩
  · by_cases hroom : n + m ≤ cap
    · have hfit : n * i.size + news.length ≤ cur.size := by rw [hs.newsLen, hcs, ← Nat.add_mul]; exact Nat.mul_le_mul_right _ hroom
      have hst := run_storeCells_at P g (n * i.size) e news 0 cur w hg (by simpa using hfit) hs.one
      simp only [Nat.add_zero] at hst
      have hr : (Builtin.append_ #[t, tx] ty #[.slice (some ⟨g, 0, none⟩) n cap, x]).run P w =
          .ok (.slice (some ⟨g, 0, none⟩) (n + m) cap) (w.setRow g (cur.toList.take (n * i.size) ++ news ++ cur.toList.drop (n * i.size + news.length)).toArray) := by
        rcases hs.kind with ⟨e', hk⟩ | hk <;> simp [Builtin.append_, run_underlying ht, run_underlying hk, sizeOf, typeInfo, hi, hs.len, hroom, hs.cells, Addr.add_lit, hst]
      have hsize : (cur.toList.take (n * i.size) ++ news ++ cur.toList.drop (n * i.size + news.length)).toArray.size = cap * i.size := by
        simp only [List.size_toArray, List.length_append, List.length_take, List.length_drop, Array.length_toList]
        omega
      refine ⟨_, _, _, hr, ⟨hlen, .inr ⟨g, cap, _, rfl, hbg, setRow_heap w g cur _ e _ hg, hroom, hcm, hsize, ?_⟩⟩, ⟨rfl, rfl, rfl, by simp, fun k _ hk => setRow_other w g k _ (fun e => hk (by simp [Value.ownBlock, e]))⟩, Or.inl rfl, ?_⟩
      · show (cur.toList.take (n * i.size) ++ news ++ cur.toList.drop (n * i.size + news.length)).take ((n + m) * i.size) = _
        rw [htake, ← hlen]
        exact List.take_left
      · intro b' u k ys hu hk
        rcases hu with ⟨h0, h | ⟨g', cap', cur', e', hb', hg', hn', hm', hs', ht'⟩⟩
        · exact ⟨h0, .inl h⟩
        · by_cases eg : g' = g
          · subst eg
            rw [hg] at hg'
            injection hg' with hg'
            injection hg' with e1 _ _
            subst e1
            have ec : cap' = cap := Nat.eq_of_mul_eq_mul_right hpos (hs'.symm.trans hcs)
            subst ec
            refine ⟨h0, .inr ⟨g', cap', _, e', hb', setRow_heap w g' cur _ e _ hg, hn', hm', hsize, ?_⟩⟩
            show (cur.toList.take (n * i.size) ++ news ++ cur.toList.drop (n * i.size + news.length)).take (k * i.size) = ys
            have hkn : k * i.size ≤ n * i.size := Nat.mul_le_mul_right _ hk
            have hl : (cur.toList.take (n * i.size)).length = n * i.size := by rw [List.length_take, Array.length_toList, hcs]; have := Nat.mul_le_mul_right i.size hnc; omega
            rw [List.append_assoc, List.take_append_of_le_length (by omega), List.take_take, Nat.min_eq_left hkn]
            exact ht'
          · exact ⟨h0, .inr ⟨g', cap', cur', e', hb', (setRow_other w g g' _ eg).trans hg', hn', hm', hs', ht'⟩⟩
    · have holds : ∀ j u, xs[j]? = some u → w.cell? ((⟨g, 0, none⟩ : Addr).add j) = some u := hown.cells (g := g) rfl
      have hr := run_append_grow_src (P := P) w t tx ty e i z ht hi hz (some ⟨g, 0, none⟩) n cap xs (run_firstCells_some w.drew i.size n _ n cap xs hown.1 (by simpa using holds)) x m news hs (by omega) (by omega) (growslice_fits (by omega) hbytes)
      obtain ⟨g1, g2, g3⟩ := grown cap (.slice (some ⟨g, 0, none⟩) n cap) (by omega)
      exact ⟨_, _, _, hr, g1, g2, Or.inr rfl, g3⟩
end
end Go.Proofs.YtddaoloabfkheaaGreatDoor

namespace Go.Proofs.YtddaoloabfkheaaGreatDoor
open Go.RowKit
attribute [local go_sem] Oper.semAt_some

theorem hid_out {p : Prop} (h : Hid p) : p := h.out
/-- the cells of a target that has a name alone -/
def tcel (nm : List UInt8) : List Value := [.string (bs nm), .slice none 0 0, .slice none 0 0, .slice none 0 0]
theorem tcel_one (nm : List UInt8) : ∀ u ∈ tcel nm, u.oneCell' = true := by
  intro u hu
  simp only [tcel, List.mem_cons, List.mem_nil_iff, or_false] at hu
  rcases hu with rfl | rfl | rfl | rfl <;> rfl
def sOther : List UInt8 := [111, 116, 104, 101, 114]
theorem app_t {w : World} {base : Nat} {v : Value} {n : Nat} {xs : List Value} (nm : List UInt8) (hown : w.ownsRow base 66 4 v n xs) (hb : n + 1 ≤ 1000000) (hbase : base ≤ w.heap.size)
    {ops : Array Oper} {rest : List Oper} {o : Oper} {a : Act} {Q : Exit → Act → World → Prop} (hgd : o.guard = none) (s y : Operand)
    (ho : o.op = .call { callee := .builtin .append, args := #[s, y], argTypes := #[34, 34] }) (hv : a.eval s = v) (hx : a.eval y = .slice (some ⟨w.heap.size, 0, none⟩) 1 1)
    (h : ∀ a' c w', w'.ownsRow base 66 4 (.slice a' (n + 1) c) (n + 1) (xs ++ tcel nm) → Only (bl v) (w.alloc (.cells (tcel nm).toArray 66)) w' →
      ((Value.slice a' (n + 1) c).ownBlock = v.ownBlock ∨ ∃ b, (Value.slice a' (n + 1) c).ownBlock = some b ∧ w.heap.size ≤ b) →
      (∀ b' u k ys, (w.alloc (.cells (tcel nm).toArray 66)).ownsRow b' 66 4 u k ys → k ≤ n → w'.ownsRow b' 66 4 u k ys) → wpList Tryz.prog ops Q rest (a.put o.dst (.slice a' (n + 1) c)) w') :
    wpList Tryz.prog ops Q (o :: rest) a (w.alloc (.cells (tcel nm).toArray 66)) := by
  obtain ⟨i0, hi, hz0, hz1, hz2⟩ := info_parts info_G
  have hs : Src Tryz.prog 4 34 (.slice (some ⟨w.heap.size, 0, none⟩) 1 1) 1 (tcel nm) (w.alloc (.cells (tcel nm).toArray 66)) :=
    Src.ofSlice _ und_G ⟨w.heap.size, 0, none⟩ 1 1 (tcel nm) rfl (World.news_of_block (heap_alloc_new w (.cells (tcel nm).toArray 66))) (tcel_one nm)
  have hown2 := row_later hown (balloc w (.cells (tcel nm).toArray 66))
  rw [← hz1] at hs hown2
  obtain ⟨a', c, w', hr, k1, k2, k3, k4⟩ := run_append_keep (P := Tryz.prog) (w.alloc (.cells (tcel nm).toArray 66)) base 34 34 o.type 66 i0 _ und_G hi hz0 (by rw [hz1]; rfl) (by omega) v n xs hown2 _ 1 (tcel nm) hs (by omega) (by simp only [maxLen]; omega) (by rw [hz2]; omega) (Nat.le_trans hbase (balloc w _).size)
  rw [hz1] at k1 k4
  refine wpList_plain hgd fun J hJ => ?_
  unfold Oper.wp execOp
  simp only [ho, resolve, invoke, builtin, Sem.run_bind, Sem.run_pure, Result.andThen_ok, List.map_toArray, List.map_cons, List.map_nil, hv, hx, hr]
  refine hJ _ _ (h a' c w' k1 (only_grownK k2) ?_ k4)
  rcases k3 with e | e
  · exact .inl e
  · exact .inr ⟨_, e, by simp⟩
/-- the two rows, and two that grow out of them -/
structure RR (B : Nat) (w wr : World) (n0 : Nat) (v0 v1 u1 u2 : Value) (x : Nat) (D0 : Nat → Nat → Prop) : Prop where
  r0 : wr.ownsRow B 66 4 v0 n0 (rep n0 kT.c)
  r1 : wr.ownsRow B 66 4 v1 n0 (rep n0 kT.c)
  p : wr.ownsRow B 66 4 u1 (n0 + x) (rep (n0 + x) kT.c)
  q : ∃ ys, wr.ownsRow B 66 4 u2 (n0 + x) ys
  d1 : ∀ g, u1.ownBlock = some g → v1.ownBlock ≠ some g ∧ u2.ownBlock ≠ some g ∧ (g < w.heap.size → ∃ i, D0 i g)
  d2 : ∀ g, u2.ownBlock = some g → v0.ownBlock ≠ some g ∧ (g < w.heap.size → ∃ i, D0 i g)
  bel : Below B w wr
  base : B ≤ w.heap.size
  kept : ∀ g, g < w.heap.size → (∀ i, ¬ D0 i g) → wr.heap[g]? = w.heap[g]?
section
variable {B n0 x : Nat} {w wr w' : World} {v0 v1 u1 u2 u' : Value} {D0 : Nat → Nat → Prop}
theorem RR.later (h : RR B w wr n0 v0 v1 u1 u2 x D0) (hb : Below wr.heap.size wr w') : RR B w w' n0 v0 v1 u1 u2 x D0 := by
  obtain ⟨ys, hq⟩ := h.q
  have hs := h.bel.size
  have hB := h.base
  exact ⟨row_later h.r0 hb, row_later h.r1 hb, row_later h.p hb, ⟨ys, row_later hq hb⟩, h.d1, h.d2, h.bel.trans (hb.mono (by omega)), hB, fun g hg hn => (hb.block g (by omega)).trans (h.kept g hg hn)⟩
/-- the first grows -/
theorem RR.one {o : Obj} (h : RR B w wr n0 v0 v1 u1 u2 x D0) (k1 : w'.ownsRow B 66 4 u' (n0 + x + 1) (rep (n0 + x) kT.c ++ kT.c)) (k2 : Only (bl u1) (wr.alloc o) w')
    (k3 : u'.ownBlock = u1.ownBlock ∨ ∃ b, u'.ownBlock = some b ∧ wr.heap.size ≤ b) (k4 : ∀ b' u k ys, (wr.alloc o).ownsRow b' 66 4 u k ys → k ≤ n0 + x → w'.ownsRow b' 66 4 u k ys) :
    ∃ ys, w'.ownsRow B 66 4 v0 n0 (rep n0 kT.c) ∧ w'.ownsRow B 66 4 v1 n0 (rep n0 kT.c) ∧ w'.ownsRow B 66 4 u' (n0 + (x + 1)) (rep (n0 + (x + 1)) kT.c) ∧ w'.ownsRow B 66 4 u2 (n0 + x) ys ∧
      (∀ g, u'.ownBlock = some g → v1.ownBlock ≠ some g ∧ u2.ownBlock ≠ some g ∧ (g < w.heap.size → ∃ i, D0 i g)) ∧ (∀ g, u2.ownBlock = some g → v0.ownBlock ≠ some g ∧ (g < w.heap.size → ∃ i, D0 i g)) ∧ Below B w w' ∧ (∀ g, g < w.heap.size → (∀ i, ¬ D0 i g) → w'.heap[g]? = w.heap[g]?) := by
  have hb0 := balloc wr o
  obtain ⟨ys, hq⟩ := h.q
  have hs := h.bel.size
  have hB := h.base
  have h2 := h.later hb0
  refine ⟨ys, k4 _ _ _ _ h2.r0 (by omega), k4 _ _ _ _ h2.r1 (by omega), ?_, k4 _ _ _ _ (row_later hq hb0) (by omega), ?_, h.d2, ?_, ?_⟩
  · rw [show n0 + (x + 1) = n0 + x + 1 by omega, rep_succ]; exact k1
  · intro g hg
    rcases k3 with e | ⟨b, e, hbl⟩
    · exact h.d1 g (by rw [← e]; exact hg)
    · rw [e] at hg
      injection hg with hg
      subst hg
      refine ⟨fun e1 => ?_, fun e1 => ?_, fun hlt => by omega⟩
      · have := (World.ownsRow.lt h.r1 b e1).2; omega
      · have := (World.ownsRow.lt hq b e1).2; omega
  · exact h2.bel.trans (k2.below (Nat.le_trans hB h2.bel.size) (fun k hk => (World.ownsRow.lt h.p k (mem_bl.1 hk)).1))
  · intro g hg hn
    rw [k2.block g (Nat.lt_of_lt_of_le hg h2.bel.size) (fun hm => ?_)]
    · exact h2.kept g hg hn
    · obtain ⟨i, hi⟩ := (h.d1 g (mem_bl.1 hm)).2.2 hg
      exact hn i hi
theorem RR.two {xs : List Value} {o : Obj} (r0 : wr.ownsRow B 66 4 v0 n0 (rep n0 kT.c)) (r1 : wr.ownsRow B 66 4 v1 n0 (rep n0 kT.c)) (hp : wr.ownsRow B 66 4 u1 (n0 + (x + 1)) (rep (n0 + (x + 1)) kT.c)) (hq : wr.ownsRow B 66 4 u2 (n0 + x) xs)
    (d1 : ∀ g, u1.ownBlock = some g → v1.ownBlock ≠ some g ∧ u2.ownBlock ≠ some g ∧ (g < w.heap.size → ∃ i, D0 i g)) (d2 : ∀ g, u2.ownBlock = some g → v0.ownBlock ≠ some g ∧ (g < w.heap.size → ∃ i, D0 i g)) (bel : Below B w wr) (base : B ≤ w.heap.size) (kept : ∀ g, g < w.heap.size → (∀ i, ¬ D0 i g) → wr.heap[g]? = w.heap[g]?)
    {c : List Value} (k1 : w'.ownsRow B 66 4 u' (n0 + x + 1) (xs ++ c)) (k2 : Only (bl u2) (wr.alloc o) w')
    (k3 : u'.ownBlock = u2.ownBlock ∨ ∃ b, u'.ownBlock = some b ∧ wr.heap.size ≤ b) (k4 : ∀ b' u k ys, (wr.alloc o).ownsRow b' 66 4 u k ys → k ≤ n0 + x → w'.ownsRow b' 66 4 u k ys) :
    RR B w w' n0 v0 v1 u1 u' (x + 1) D0 := by
  have hb0 := balloc wr o
  have hs := bel.size
  have hb1 : Below B wr (wr.alloc o) := hb0.mono (by omega)
  refine ⟨k4 _ _ _ _ (row_later r0 hb0) (by omega), k4 _ _ _ _ (row_later r1 hb0) (by omega), row_only (row_later hp hb0) k2 (fun g hg hm => (d1 g hg).2.1 (mem_bl.1 hm)), ⟨_, k1⟩, ?_, ?_, ?_, base, ?_⟩
  · intro g hg
    refine ⟨(d1 g hg).1, fun e1 => ?_, (d1 g hg).2.2⟩
    rcases k3 with e | ⟨b, e, hbl⟩
    · exact (d1 g hg).2.1 (by rw [← e]; exact e1)
    · rw [e] at e1
      injection e1 with e1
      subst e1
      have := (World.ownsRow.lt hp b hg).2; omega
  · intro g hg
    rcases k3 with e | ⟨b, e, hbl⟩
    · exact d2 g (by rw [← e]; exact hg)
    · rw [e] at hg
      injection hg with hg
      subst hg
      refine ⟨fun e1 => ?_, fun hlt => by omega⟩
      have := (World.ownsRow.lt r0 b e1).2; omega
  · exact (bel.trans hb1).trans (k2.below (by have := hb0.size; omega) (fun k hk => (World.ownsRow.lt hq k (mem_bl.1 hk)).1))
  · intro g hg hn
    rw [k2.block g (by have := hb0.size; omega) (fun hm => ?_), hb0.block g (by omega)]
    · exact kept g hg hn
    · obtain ⟨i, hi⟩ := (d2 g (mem_bl.1 hm)).2 hg
      exact hn i hi
/-- a target's name in a marked row -/
theorem mark_at {base m : Nat} {u : Value} (h : wr.ownsRow base 66 4 u m (rep m kT.c)) {i : Nat} (hi : i < m) : ∃ g c, u = .slice (some ⟨g, 0, none⟩) m c ∧ wr.cell? ⟨g, i * 4, none⟩ = some (.string (bs sMark)) := by
  obtain ⟨g, c, e, _⟩ := row_place h (by omega)
  refine ⟨g, c, e, ?_⟩
  rw [e] at h
  have := World.ownsRow.cells h (g := g) rfl (i * 4) (.string (bs sMark)) (by rw [rep_get (s := 4) rfl _ _ (by omega), Nat.mul_mod_left]; rfl)
  rw [add_lit, Nat.zero_add] at this
  exact this
end
set_option maxRecDepth 100000 in
set_option maxHeartbeats 16000000 in
theorem y60 {w W : World} {B n0 ga : Nat} {A : Nat → Tv} {v0 v1 : Value} {n : Nat → Nat} {C0 : Nat → List Value} {D0 D : Nat → Nat → Prop}  {lv2 lv3 lv4 lv6 lv7 lv8 lv9 lv10 lv11 lv12 lv13 lv14 lv15 lv16 lv17 lv18 lv19 lv20 lv21 lv22 lv23 lv24 lv25 lv26 lv27 lv28 lv29 lv30 lv31 lv32 lv33 lv34 lv35 lv36 lv37 lv38 lv39 lv40 lv41 lv42 lv43 lv44 lv45 lv46 lv47 lv48 lv49 lv50 lv51 lv52 lv53 lv54 lv55 lv56 lv57 lv58 lv59 lv60 lv61 lv62 lv63 lv64 lv65 lv66 lv67 lv68 lv69 lv70 lv71 lv72 lv73 lv74 lv75 lv76 lv77 lv78 lv79 lv80 lv81 lv82 lv83 lv84 lv85 lv86 lv87 lv88 lv89 lv90 lv91 lv92 lv93 lv94 lv95 lv96 lv97 lv98 lv99 lv100 lv101 lv102 lv103 lv104 lv105 lv106 lv107 lv108 lv109 lv110 lv111 lv112 lv113 lv114 lv115 lv116 lv117 lv118 lv119 lv120 lv121 lv122 lv123 lv124 lv125 lv126 lv127 lv128 lv129 lv130 lv131 lv132 lv133 lv134 lv135 lv136 lv137 lv138 lv139 lv140 lv141 lv142 lv143 lv144 lv145 lv146 lv147 lv148 lv149 lv150 lv151 lv152 lv153 lv154 lv155 lv156 lv157 lv158 lv159 lv160 lv161 lv162 lv163 lv164 lv165 lv166 lv167 lv168 lv169 lv170 lv171 lv172 lv173 lv174 lv175 lv176 lv177 lv178 lv179 lv180 lv181 lv182 lv183 lv184 lv185 lv186 lv187 lv188 lv189 lv190 lv191 lv192 lv193 lv194 lv195 lv196 lv197 lv198 lv199 lv200 lv201 lv202 lv203 lv204 lv205 lv206 lv207 lv208 lv209 lv210 lv211 lv212 lv213 lv214 lv215 lv216 lv217 lv218 lv219 lv220 lv221 lv222 lv223 lv224 lv225 lv226 lv227 lv228 lv229 lv230 lv231 lv232 lv233 lv234 lv235 lv236 lv237 lv238 lv239 lv240 lv241 lv242 lv243 lv244 lv245 lv246 lv247 lv248 lv249 lv250 lv251 lv252 lv253 lv254 lv255 lv256 lv257 lv258 lv259 lv260 lv261 lv262 lv263 lv264 lv265 lv266 lv267 lv268 lv269 lv270 lv271 lv272 lv273 lv274 lv275 lv276 lv277 lv278 lv279 lv280 lv281 lv282 lv283 lv284 lv285 lv286 lv287 lv288 lv289 lv290 lv291 lv292 lv293 lv294 lv295 lv296 lv297 lv298 lv299 lv300 lv301 lv302 lv303 lv304 lv305 lv306 lv307 lv308 lv309 lv310 lv311 lv312 lv313 lv314 lv315 : Value} (S : Hid (SC w B n0 ga A v0 v1 n C0 D0)) (Q : Hid (QM B w W (6 * n0 + 2) (kF n0) (kV n0 A v0 v1) n C0 (FR n n0 2 0) D0 D)) :
    Code.wp Tryz.prog (suff 60 (Tryz.f19.body.getD .skip)) (bodyPost Tryz.prog Tryz.f19 (SpG B w D0)) ⟨#[v0, v1, lv2, lv3, lv4, .slice (some ⟨ga, 0, none⟩) 2 2, lv6, lv7, lv8, lv9, lv10, lv11, lv12, lv13, lv14, lv15, lv16, lv17, lv18, lv19, lv20, lv21, lv22, lv23, lv24, lv25, lv26, lv27, lv28, lv29, lv30, lv31, lv32, lv33, lv34, lv35, lv36, lv37, lv38, lv39, lv40, lv41, lv42, lv43, lv44, lv45, lv46, lv47, lv48, lv49, lv50, lv51, lv52, lv53, lv54, lv55, lv56, lv57, lv58, lv59, lv60, lv61, lv62, lv63, lv64, lv65, lv66, lv67, lv68, lv69, lv70, lv71, lv72, lv73, lv74, lv75, lv76, lv77, lv78, lv79, lv80, lv81, lv82, lv83, lv84, lv85, lv86, lv87, lv88, lv89, lv90, lv91, lv92, lv93, lv94, lv95, lv96, lv97, lv98, lv99, lv100, lv101, lv102, lv103, lv104, lv105, lv106, lv107, lv108, lv109, lv110, lv111, lv112, lv113, lv114, lv115, lv116, lv117, lv118, lv119, lv120, lv121, lv122, lv123, lv124, lv125, lv126, lv127, lv128, lv129, lv130, lv131, lv132, lv133, lv134, lv135, lv136, lv137, lv138, lv139, lv140, lv141, lv142, lv143, lv144, lv145, lv146, lv147, lv148, lv149, lv150, lv151, lv152, lv153, lv154, lv155, lv156, lv157, lv158, lv159, lv160, lv161, lv162, lv163, lv164, lv165, lv166, lv167, lv168, lv169, lv170, lv171, lv172, lv173, lv174, lv175, lv176, lv177, lv178, lv179, lv180, lv181, lv182, lv183, lv184, lv185, lv186, lv187, lv188, lv189, lv190, lv191, lv192, lv193, lv194, lv195, lv196, lv197, lv198, lv199, lv200, lv201, lv202, lv203, lv204, lv205, lv206, lv207, lv208, lv209, lv210, lv211, lv212, lv213, lv214, lv215, lv216, lv217, lv218, lv219, lv220, lv221, lv222, lv223, lv224, lv225, lv226, lv227, lv228, lv229, lv230, lv231, lv232, lv233, lv234, lv235, lv236, lv237, lv238, lv239, lv240, lv241, lv242, lv243, lv244, lv245, lv246, lv247, lv248, lv249, lv250, lv251, lv252, lv253, lv254, lv255, lv256, lv257, lv258, lv259, lv260, lv261, lv262, lv263, lv264, lv265, lv266, lv267, lv268, lv269, lv270, lv271, lv272, lv273, lv274, lv275, lv276, lv277, lv278, lv279, lv280, lv281, lv282, lv283, lv284, lv285, lv286, lv287, lv288, lv289, lv290, lv291, lv292, lv293, lv294, lv295, lv296, lv297, lv298, lv299, lv300, lv301, lv302, lv303, lv304, lv305, lv306, lv307, lv308, lv309, lv310, lv311, lv312, lv313, lv314, lv315], []⟩ W := by
  conv => arg 2; whnf
  have sM : (⟨#[109, 97, 114, 107]⟩ : ByteArray) = bs sMark := rfl
  have sS : (⟨#[115, 101, 101, 110]⟩ : ByteArray) = bs sSeen := rfl
  have sD : (⟨#[100, 101, 112]⟩ : ByteArray) = bs sDep := rfl
  have sZ : (⟨#[]⟩ : ByteArray) = bs [] := rfl
  have hn64 := S.out.nl
  have hv0 := kV_row (n0 := n0) (A := A) (v0 := v0) (v1 := v1) (k := 0) (by omega)
  have hv1 := kV_row (n0 := n0) (A := A) (v0 := v0) (v1 := v1) (k := 1) (by omega)
  have row : ∀ k, k < 2 → W.ownsRow B 66 4 (vk v0 v1 k) n0 (rep n0 kT.c) := fun k hk => by
    have ho := Q.out.own (6 * n0 + k) (by omega)
    have hF : kF n0 (6 * n0 + k) = kT := by unfold kF; rw [if_neg (by omega)]
    have hnk := S.out.nk hk
    have hfr : FR n n0 2 0 (6 * n0 + k) = n (6 * n0 + k) := by unfold FR; rw [if_neg (by omega), if_pos (by omega)]
    have hl := S.out.len (6 * n0 + k) (by omega)
    rw [hnk, hF] at hl
    simp only [hfr, hF, hnk, kV_row hk] at ho
    rw [pmk_full hl] at ho
    exact ho
  have R0 : Hid (RR B w W n0 v0 v1 v0 v1 0 D0) := by
    have q0 := row 0 (by omega)
    have q1 := row 1 (by omega)
    have dis : ∀ g, v0.ownBlock = some g → v1.ownBlock ≠ some g := fun g e0 e1 => by
      have h0 := Q.out.vd (6 * n0 + 0) (by omega) g (by rw [hv0]; exact e0)
      have h1 := Q.out.vd (6 * n0 + 1) (by omega) g (by rw [hv1]; exact e1)
      have := Q.out.inj _ _ g h0 h1
      omega
    refine ⟨q0, q1, q0, ⟨_, q1⟩, fun g e0 => ⟨dis g e0, dis g e0, fun hlt => ⟨_, Q.out.old _ g (Q.out.vd (6 * n0 + 0) (by omega) g (by rw [hv0]; exact e0)) hlt⟩⟩, fun g e1 => ⟨fun e0 => dis g e0 e1, fun hlt => ⟨_, Q.out.old _ g (Q.out.vd (6 * n0 + 1) (by omega) g (by rw [hv1]; exact e1)) hlt⟩⟩, Q.out.below, Q.out.base, Q.out.kept⟩
  clear row hv0 hv1
  have sO : (⟨#[111, 116, 104, 101, 114]⟩ : ByteArray) = bs sOther := rfl
  refine wp_seq_k fun K9 hK => ?_
  have HK : Hid _ := hK
  clear hK
  go_wp2_with fail
  refine HK.out _ _ ?_
  clear HK K9
  refine wp_seq_k fun K9 hK => ?_
  have HK : Hid _ := hK
  clear hK
  go_wp2_with fail
  refine HK.out _ _ ?_
  clear HK K9
  refine wp_seq_k fun K9 hK => ?_
  have HK : Hid _ := hK
  clear hK
  go_wp2_with fail
  go_loopw [23, 24, 25] (fun s23 s24 s25 wr => ∃ (x : Nat) (u1 u2 : Value), s25 = .int .i64 x ∧ x ≤ 8 ∧ u1 = s23 ∧ u2 = s24 ∧ RR B w wr n0 v0 v1 u1 u2 x D0) (fun _ _ s25 _ => 8 - (intOf s25).toNat)
  case atStart => exact ⟨0, _, _, rfl, by omega, rfl, rfl, R0.out⟩
  case round =>
    obtain ⟨x, u1, u2, rfl, hx, rfl, rfl, hr⟩ := hrel
    by_cases hlt : x < 8
    · have x1 : (x : Int) < 8 := by omega
      have HR : Hid (RR B w wr n0 v0 v1 u1 u2 x D0) := hr
      clear hr
      go_wp2_with (first
        | (at_builtin; refine app_t sMark (base := B) (n := n0 + x) HR.out.p (by omega) (Nat.le_trans HR.out.base HR.out.bel.size) rfl (.tmp 275) (.tmp 277) rfl rfl rfl ?_; intro a1 c1 w1 k1 k2 k3 k4; obtain ⟨ys1, h1⟩ := HR.out.one k1 k2 k3 k4; have H1 : Hid _ := h1; clear k1 k2 k3 k4 h1)
        | (at_builtin; refine app_t sOther (base := B) (n := n0 + x) (hid_out H1).2.2.2.1 (by omega) (Nat.le_trans HR.out.base (hid_out H1).2.2.2.2.2.2.1.size) rfl (.tmp 279) (.tmp 281) rfl rfl rfl ?_; intro a2 c2 w2 k1 k2 k3 k4; have H2 : Hid (RR B w w2 n0 v0 v1 (.slice a1 (n0 + x + 1) c1) (.slice a2 (n0 + x + 1) c2) (x + 1) D0) := RR.two (hid_out H1).1 (hid_out H1).2.1 (hid_out H1).2.2.1 (hid_out H1).2.2.2.1 (hid_out H1).2.2.2.2.1 (hid_out H1).2.2.2.2.2.1 (hid_out H1).2.2.2.2.2.2.1 HR.out.base (hid_out H1).2.2.2.2.2.2.2 k1 k2 k3 k4; clear k1 k2 k3 k4))
      go_roundw
      case rel => exact ⟨x + 1, _, _, by go_num, by omega, rfl, rfl, H2.out⟩
      case measure => simp [intOf]; omega
    · obtain rfl : x = 8 := by omega
      have HR : Hid (RR B w wr n0 v0 v1 u1 u2 8 D0) := hr
      clear hr
      go_wp2_with fail
      refine HK.out _ _ ?_
      clear HK
      refine wp_seq_k fun K9 hK => ?_
      have HK : Hid _ := hK
      clear hK
      obtain ⟨a0, c0, e0⟩ := row_form HR.out.r0
      obtain ⟨a3, c3, e3⟩ := row_form HR.out.r1
      obtain ⟨a1, c1, e1⟩ := row_form HR.out.p
      obtain ⟨a2, c2, e2⟩ := HR.out.q.elim fun ys hy => row_form hy
      subst e0 e1 e2 e3
      go_wp2_with fail
      go_loopw [26] (fun s26 wi => ∃ (i : Nat), s26 = .int .i64 i ∧ i ≤ n0 ∧ RR B w wi n0 (.slice a0 n0 c0) (.slice a3 n0 c3) (.slice a1 (n0 + 8) c1) (.slice a2 (n0 + 8) c2) 8 D0) (fun s26 _ => n0 - (intOf s26).toNat)
      case atStart => exact ⟨0, rfl, by omega, HR.out⟩
      case round =>
        obtain ⟨i, rfl, hi, hr⟩ := hrel
        have HI : Hid (RR B w wr n0 (.slice a0 n0 c0) (.slice a3 n0 c3) (.slice a1 (n0 + 8) c1) (.slice a2 (n0 + 8) c2) 8 D0) := hr
        clear hr
        by_cases hlt2 : i < n0
        · obtain ⟨g0, c0', e0, m0⟩ := mark_at HI.out.r0 hlt2
          obtain ⟨g3, c3', e3, m3⟩ := mark_at HI.out.r1 hlt2
          obtain ⟨g1, c1', e1, m1⟩ := mark_at HI.out.p (i := i) (by omega)
          injection e0 with e0 _ _
          injection e3 with e3 _ _
          injection e1 with e1 _ _
          subst e0 e1 e3
          have q1 : ((bs sMark).toList == (bs sMark).toList) = true := by simp
          have i1 : (i : Int) < (n0 : Int) := by omega
          have i2 : (i : Int) < ((n0 + 8 : Nat) : Int) := by omega
          have i3 : (i : Int) < (n0 : Int) + 8 := by omega
          go_wp2_with fail
          go_roundw
          case rel => exact ⟨i + 1, by go_num, by omega, HI.out⟩
          case measure => simp [intOf]; omega
        · obtain rfl : i = n0 := by omega
          have i1 : ¬ (i : Int) < (i : Int) := by omega
          go_wp2_with fail
          refine HK.out _ _ ?_
          clear HK
          go_wp2_with fail
          go_ret
          exact ⟨rfl, HI.out.bel, HI.out.kept⟩
end Go.Proofs.YtddaoloabfkheaaGreatDoor
