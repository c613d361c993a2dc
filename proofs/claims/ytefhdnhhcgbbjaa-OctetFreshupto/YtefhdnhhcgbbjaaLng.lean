import Derived.Test.YtefhdnhhcgbbjaaBags
import Derived.Laws.BitsAllLaws
namespace Go.Proofs.Ytefhdnhhcgbbjaa
open Go.RowKit

section
variable {P : Program} (w : World)

theorem run_append_keep (base : Nat) (t tx ty e : TypeId) (i : TypeInfo) (z : Value) (size bytes : Nat) (ht : P.underlying t = some (.slice e)) (hi : P.info? e = some i) (hz : i.zero = some z)
    (hsize : i.size = size) (hby : i.bytes = bytes) (hzs : z.cells.size = size)
    (v : Value) (n : Nat) (xs : List Value) (hown : w.ownsRow base e size v n xs)
    (x : Value) (m : Nat) (news : List Value) (hs : Src P size tx x m news w)
    (h63 : n + m ≤ maxLen) (hbytes : (n + m) * bytes ≤ 140737488355328) (hbase : base ≤ w.heap.size) :
    ∃ v' w', (Builtin.append_ #[t, tx] ty #[v, x]).run P w = .ok v' w' ∧ w'.ownsRow base e size v' (n + m) (xs ++ news) ∧ w.grownBy w' v.ownBlock ∧
      (v'.ownBlock = v.ownBlock ∨ v'.ownBlock = some w.heap.size) ∧ (∀ g n' cap', v = .slice (some ⟨g, 0, none⟩) n' cap' → ∀ j u, xs[j]? = some u → w'.cell? ⟨g, j, none⟩ = some u) := by
  subst hsize
  subst hby
  have hsmall : n + m ≤ 9223372036854775807 := by simp only [maxLen] at h63; omega
  have hlen : (xs ++ news).length = (n + m) * i.size := by rw [List.length_append, hown.1, hs.newsLen, Nat.add_mul]
  have grown : ∀ (old : Nat), old < n + m → ∀ (row : Option Nat),
      (w.drew.alloc (.cells ((xs ++ news).toArray ++ Builtin.zeroCells z.cells (grownCap w (n + m) old e - (n + m))) e)).ownsRow base e i.size
        (.slice (some ⟨w.heap.size, 0, none⟩) (n + m) (grownCap w (n + m) old e)) (n + m) (xs ++ news) ∧
      w.grownBy (w.drew.alloc (.cells ((xs ++ news).toArray ++ Builtin.zeroCells z.cells (grownCap w (n + m) old e - (n + m))) e)) row := by
    intro old ho row
    have hge := grownCap_ge w (n + m) old e
    have hcm : grownCap w (n + m) old e ≤ maxLen := grownCap_le_maxLen w (n + m) old e h63
    refine ⟨⟨hlen, .inr ⟨w.heap.size, _, _, rfl, hbase, heap_alloc_new w.drew _, hge, hcm, ?_, ?_⟩⟩, ⟨rfl, rfl, rfl, by simp, fun k hk _ => Below.heap_alloc w.drew _ k hk⟩⟩
    · simp only [Array.size_append, List.size_toArray, size_zeroCells, hzs, hlen, ← Nat.add_mul]
      congr 1
      omega
    · simp only [Array.toList_append]
      rw [← hlen]
      exact List.take_left
  rcases hown.2 with ⟨rfl, rfl⟩ | ⟨g, cap, cur, rfl, hbg, hg, hnc, hcm, hcs, htake⟩
  · have hx : xs = [] := List.eq_nil_of_length_eq_zero (by simpa using hown.1)
    subst hx
    by_cases hm : m = 0
    · subst hm
      have hn : news = [] := List.eq_nil_of_length_eq_zero (by simpa using hs.newsLen)
      subst hn
      exact ⟨.slice none 0 0, w, run_append_nothing w t tx ty e i ht hi none 0 0 (Nat.le_refl _) x hs, World.ownsRow_nil w base e i.size, ⟨rfl, rfl, rfl, Nat.le_refl _, fun _ _ _ => rfl⟩, Or.inl rfl, fun g n' cap' e => by cases e⟩
    · have hr := run_append_grow_src (P := P) w t tx ty e i z ht hi hz none 0 0 [] (run_firstCells_none w.drew i.size 0 0 0) x m news hs (by omega) (by omega) (growslice_fits (by omega) hbytes)
      have hgr := grown 0 (by omega) (Value.ownBlock (.slice none 0 0))
      exact ⟨_, _, hr, hgr.1, hgr.2, Or.inr rfl, fun g n' cap' e => by cases e⟩
  · by_cases hroom : n + m ≤ cap
    · have hfit : n * i.size + news.length ≤ cur.size := by rw [hs.newsLen, hcs, ← Nat.add_mul]; exact Nat.mul_le_mul_right _ hroom
      have hst := run_storeCells_at P g (n * i.size) e news 0 cur w hg (by simpa using hfit) hs.one
      simp only [Nat.add_zero] at hst
      have hr : (Builtin.append_ #[t, tx] ty #[.slice (some ⟨g, 0, none⟩) n cap, x]).run P w =
          .ok (.slice (some ⟨g, 0, none⟩) (n + m) cap) (w.setRow g (cur.toList.take (n * i.size) ++ news ++ cur.toList.drop (n * i.size + news.length)).toArray) := by
        rcases hs.kind with ⟨e', hk⟩ | hk <;> simp [Builtin.append_, run_underlying ht, run_underlying hk, sizeOf, typeInfo, hi, hs.len, hroom, hs.cells, Addr.add_lit, hst]
      have hnew : (w.setRow g (cur.toList.take (n * i.size) ++ news ++ cur.toList.drop (n * i.size + news.length)).toArray).ownsRow base e i.size (.slice (some ⟨g, 0, none⟩) (n + m) cap) (n + m) (xs ++ news) := by
        refine ⟨hlen, .inr ⟨g, cap, _, rfl, hbg, setRow_heap w g cur _ e _ hg, hroom, hcm, ?_, ?_⟩⟩
        · simp only [List.size_toArray, List.length_append, List.length_take, List.length_drop, Array.length_toList]
          omega
        · rw [htake, ← hlen]
          exact List.take_left
      refine ⟨_, _, hr, hnew, ⟨rfl, rfl, rfl, by simp, fun k _ hk => setRow_other w g k _ (fun e => hk (by simp [Value.ownBlock, e]))⟩, Or.inl rfl, fun g' n' cap' e' j u hu => ?_⟩
      obtain ⟨rfl, _⟩ := slice_inj e'
      have := hnew.cells (g := g') rfl j u (by rw [List.getElem?_append_left (List.getElem?_eq_some_iff.1 hu).1]; exact hu)
      rw [add_lit, Nat.zero_add] at this
      exact this
    · have holds : ∀ j u, xs[j]? = some u → w.cell? ((⟨g, 0, none⟩ : Addr).add j) = some u := hown.cells (g := g) rfl
      have hr := run_append_grow_src (P := P) w t tx ty e i z ht hi hz (some ⟨g, 0, none⟩) n cap xs (run_firstCells_some w.drew i.size n _ n cap xs hown.1 (by simpa using holds)) x m news hs (by omega) (by omega) (growslice_fits (by omega) hbytes)
      have hgr := grown cap (by omega) (Value.ownBlock (.slice (some ⟨g, 0, none⟩) n cap))
      refine ⟨_, _, hr, hgr.1, hgr.2, Or.inr rfl, fun g' n' cap' e' j u hu => ?_⟩
      obtain ⟨rfl, _⟩ := slice_inj e'
      have h1 := holds j u hu
      rw [add_lit, Nat.zero_add] at h1
      have hlt := (World.ownsRow.lt hown g' rfl).2
      have hbb : Below w.heap.size w (w.drew.alloc (.cells ((xs ++ news).toArray ++ Builtin.zeroCells z.cells (grownCap w (n + m) cap e - (n + m))) e)) := (Below.refl _ _).drew.alloc (Nat.le_refl _) _
      rw [hbb.cell (p := ⟨g', j, none⟩) hlt]
      exact h1

end

/-- append of one byte onto bytes of the call's own: what was there reads on as it did -/
theorem app_one_keep {w : World} {base : Nat} {v : Value} {l : List UInt8} {n : Int} (b : UInt8) (hown : Own base w v l) (hn : n = (b.toNat : Int)) (hb : l.length + 1 ≤ 140737488355328) (hbase : base ≤ w.heap.size)
    {ops : Array Oper} {rest : List Oper} {o : Oper} {a : Act} {Q : Exit → Act → World → Prop} (hgd : o.guard = none) (s y : Operand) 
    (ho : o.op = .call { callee := .builtin .append, args := #[s, y], argTypes := #[27, 27] }) (hv : a.eval s = v) (hx : a.eval y = .slice (some ⟨w.heap.size, 0, none⟩) 1 1)
    (h : ∀ v' w', Own base w' v' (l ++ [b]) → Below base w w' → base ≤ w'.heap.size → w.grownBy w' v.ownBlock → (v'.ownBlock = v.ownBlock ∨ v'.ownBlock = some (w.heap.size + 1)) → BS w' v l → wpList Try.prog ops Q rest (a.put o.dst v') w') :
    wpList Try.prog ops Q (o :: rest) a (w.alloc (.cells #[.int .u8 n] 5)) := by
  obtain ⟨i0, hi, hz0, hz1, hz2⟩ := info_parts info5
  have hs := src_one w n b hn
  have hown' : Own base (w.alloc (.cells #[.int .u8 n] 5)) v l := World.ownsRow.alloc hown _
  refine wpList_plain hgd fun K hK => ?_
  obtain ⟨v', w', hr, h2, h3, h4, h5⟩ := run_append_keep (P := Try.prog) (w.alloc (.cells #[.int .u8 n] 5)) base 27 27 o.type 5 i0 (.int .u8 0) 1 1 und27 hi hz0 hz1 hz2 rfl v l.length (bc l) hown' _ 1 (bc [b]) hs (by simp only [maxLen]; omega) (by omega) (by simp; omega)
  have hlt := World.ownsRow.lt hown
  have hB : Below base w w' := ((Below.refl _ _).alloc hbase _).grown h3 (by simp; omega) (fun k hk => (hlt k hk).1)
  have hO : Own base w' v' (l ++ [b]) := by unfold Own; rw [bc_append, List.length_append]; exact h2
  have hK1 : BS w' v l := by
    rcases hown.2 with ⟨rfl, h0⟩ | ⟨g, cap, cur, rfl, hb', hg', hn', _⟩
    · exact .inl ⟨⟨_, _, rfl⟩, List.eq_nil_of_length_eq_zero h0⟩
    · refine .inr ⟨g, 0, cap, rfl, hn', Nat.lt_of_lt_of_le (hlt g rfl).2 hB.size, fun j u hu => ?_⟩
      rw [Nat.zero_add]
      exact h5 g _ _ rfl j u hu
  unfold Oper.wp execOp
  simp only [ho, resolve, invoke, builtin, Sem.run_bind, Sem.run_pure, Result.andThen_ok, List.map_toArray, List.map_cons, List.map_nil, hv, hx, hr]
  exact hK _ _ (h v' w' hO hB (Nat.le_trans hbase hB.size) ((World.grownBy_alloc w _ _).trans h3) (by simpa using h4) hK1)

/-- rows that were lengthened -/
structure Lng (base lo n k : Nat) (w : World) (A L : Nat → Value) (R : Nat → List UInt8) (vl : Value) : Prop where
  own : OwnV lo w vl k L
  old : ∀ i, i < n → BS w (A i) (R i)
  mine : ∀ i, i < n → k ≤ i → Own base w (A i) (R i)
  new : ∀ j, j < k → BS w (L j) (R j ++ [UInt8.ofNat (j + 1)])
  blk : ∀ j, j < k → ∀ g, (L j).ownBlock = some g → ((A j).ownBlock = some g ∨ lo ≤ g) ∧ g < w.heap.size ∧ vl.ownBlock ≠ some g

/-- one more is lengthened -/
theorem Lng.step {base lo n k : Nat} {w w1 w2 : World} {A L : Nat → Value} {R : Nat → List UInt8} {vl vl' v1 : Value} (h : Lng base lo n k w A L R vl) (hk : k < n)
    (hlo : lo ≤ w.heap.size) (hA : ∀ i, i < n → ∀ g, (A i).ownBlock = some g → g < lo) (hap : ∀ i j, i < n → j < n → i ≠ j → ∀ g, (A i).ownBlock = some g → (A j).ownBlock ≠ some g)
    (g1 : w.grownBy w1 (A k).ownBlock) (o1 : BS w1 v1 (R k ++ [UInt8.ofNat (k + 1)])) (b1 : v1.ownBlock = (A k).ownBlock ∨ v1.ownBlock = some (w.heap.size + 1)) (s1 : ∀ g, v1.ownBlock = some g → g < w1.heap.size) (k1 : BS w1 (A k) (R k))
    (g2 : w1.grownBy w2 vl.ownBlock) (o2 : OwnV lo w2 vl' (k + 1) (cat k L (fun _ => v1))) (b2 : vl'.ownBlock = vl.ownBlock ∨ ∃ g, vl'.ownBlock = some g ∧ w1.heap.size ≤ g) : Lng base lo n (k + 1) w2 A (cat k L (fun _ => v1)) R vl' := by
  have hvl : ∀ g, vl.ownBlock = some g → lo ≤ g ∧ g < w.heap.size := fun g hg => World.ownsRow.lt h.own g hg
  have z1 := g1.size
  have z2 := g2.size
  -- a value whose block is neither of the two reads on
  have keep : ∀ (v : Value) (l : List UInt8), BS w v l → (∀ g, v.ownBlock = some g → (A k).ownBlock ≠ some g ∧ vl.ownBlock ≠ some g) → BS w2 v l := by
    intro v l hb hne
    refine (hb.grown g1 ?_).grown g2 ?_
    · rcases hc : v.ownBlock with _ | g
      · exact .inl rfl
      · exact .inr (fun e => (hne g hc).1 e.symm)
    · rcases hc : v.ownBlock with _ | g
      · exact .inl rfl
      · exact .inr (fun e => (hne g hc).2 e.symm)
  have avl : ∀ i, i < n → ∀ g, (A i).ownBlock = some g → vl.ownBlock ≠ some g := fun i hi g hg e => by
    have := hA i hi g hg
    have := (hvl g e).1
    omega
  refine ⟨o2, fun i hi => ?_, fun i hi hki => ?_, fun j hj => ?_, fun j hj g hg => ?_⟩
  · by_cases e : i = k
    · subst e
      refine k1.grown g2 ?_
      rcases hc : (A i).ownBlock with _ | g
      · exact .inl rfl
      · exact .inr (fun e => avl i hi g hc e.symm)
    · exact keep _ _ (h.old i hi) (fun g hg => ⟨hap i k hi hk e g hg, avl i hi g hg⟩)
  · have hne : i ≠ k := by omega
    refine World.ownsRow.kept (World.ownsRow.kept (h.mine i hi (by omega)) g1 ?_) g2 ?_
    · rcases hc : (A i).ownBlock with _ | g
      · exact .inl rfl
      · exact .inr (fun e => hap i k hi hk hne g hc e.symm)
    · rcases hc : (A i).ownBlock with _ | g
      · exact .inl rfl
      · exact .inr (fun e => avl i hi g hc e.symm)
  · by_cases e : j < k
    · rw [cat, if_pos e]
      refine keep _ _ (h.new j e) (fun g hg => ?_)
      obtain ⟨q1, q2, q3⟩ := h.blk j e g hg
      refine ⟨?_, q3⟩
      rcases q1 with q1 | q1
      · exact hap j k (by omega) hk (by omega) g q1
      · intro e2
        have := hA k hk g e2
        omega
    · obtain rfl : j = k := by omega
      rw [cat, if_neg (by omega)]
      refine o1.grown g2 ?_
      rcases hc : v1.ownBlock with _ | g
      · exact .inl rfl
      · right
        intro e2
        rcases b1 with b1 | b1
        · exact avl j hk g (by rw [← b1, hc]) e2.symm
        · rw [b1] at hc
          have := (hvl g e2.symm).2
          have : g = w.heap.size + 1 := by simpa using hc.symm
          omega
  · by_cases e : j < k
    · rw [cat, if_pos e] at hg
      obtain ⟨q1, q2, q3⟩ := h.blk j e g hg
      refine ⟨q1, by omega, ?_⟩
      rcases b2 with b2 | ⟨g', b2, b3⟩
      · rw [b2]; exact q3
      · rw [b2]
        intro e2
        have : g' = g := by simpa using e2
        omega
    · obtain rfl : j = k := by omega
      rw [cat, if_neg (by omega)] at hg
      have hg1 := s1 g hg
      refine ⟨?_, by omega, ?_⟩
      · rcases b1 with b1 | b1
        · exact .inl (by rw [← b1]; exact hg)
        · right
          rw [b1] at hg
          have : g = w.heap.size + 1 := by simpa using hg.symm
          omega
      · rcases b2 with b2 | ⟨g', b2, b3⟩
        · rw [b2]
          intro e2
          rcases b1 with b1 | b1
          · exact avl j hk g (by rw [← b1, hg]) e2
          · rw [b1] at hg
            have := (hvl g e2).2
            have : g = w.heap.size + 1 := by simpa using hg.symm
            omega
        · rw [b2]
          intro e2
          have : g' = g := by simpa using e2
          omega

theorem Lng.kept1 {base lo n k : Nat} {w w1 : World} {A L : Nat → Value} {R : Nat → List UInt8} {vl : Value} (h : Lng base lo n k w A L R vl) (hA : ∀ g, (A k).ownBlock = some g → g < lo) (g1 : w.grownBy w1 (A k).ownBlock) : OwnV lo w1 vl k L := by
  refine World.ownsRow.kept h.own g1 ?_
  rcases hc : vl.ownBlock with _ | g
  · exact .inl rfl
  · right
    intro e
    have h1 := hA g e.symm
    have h2 := (World.ownsRow.lt h.own g hc).1
    omega

/-- a row of one byte, again and again -/
theorem rep_cell {w : World} {v : Value} {n : Nat} {b : UInt8} {l : List UInt8} (h : BS w v l) (hl : l = List.replicate n b) : ∃ a c, v = .slice a n c ∧ ∀ m, m < n → ∃ bl off, a = some ⟨bl, off, none⟩ ∧ w.cell? ⟨bl, off + m, none⟩ = some (.int .u8 b.toNat) ∧ n ≤ c := by
  subst hl
  rcases h with ⟨⟨a, c, rfl⟩, h0⟩ | ⟨bl, off, cap, rfl, hc, hlt, hcell⟩
  · have : n = 0 := by simpa using congrArg List.length h0
    subst this
    exact ⟨a, c, rfl, fun m hm => by omega⟩
  · refine ⟨_, cap, by simp, fun m hm => ⟨bl, off, rfl, hcell m _ ?_, by simpa using hc⟩⟩
    simp [bc_get, hm]

theorem xor_cell (b : UInt8) : bits .xor .u8 (b.toNat : Int) 255 = ((b ^^^ 255).toNat : Int) := by
  have h := u8_xor_nat b.toNat 255 (by have := b.toNat_lt; omega) (by omega)
  rw [UInt8.toNat_xor]
  exact h

/-- the bytes that are lent, the first k of them turned -/
def XX (l : List UInt8) (k j : Nat) : UInt8 := if j < k then l.getD j 0 ^^^ 255 else l.getD j 0
theorem xx_set {w : World} {g : Nat} {l : List UInt8} {k : Nat} (h : ∀ j, j < l.length → w.cell? ⟨g, j, none⟩ = some (.int .u8 (XX l k j).toNat) ∧ w.frozen? ⟨g, j, none⟩ = false) (hk : k < l.length) :
    ∀ j, j < l.length → (w.setCell ⟨g, k, none⟩ (.int .u8 ((l.getD k 0 ^^^ 255).toNat : Int))).cell? ⟨g, j, none⟩ = some (.int .u8 (XX l (k + 1) j).toNat) ∧ (w.setCell ⟨g, k, none⟩ (.int .u8 ((l.getD k 0 ^^^ 255).toNat : Int))).frozen? ⟨g, j, none⟩ = false := by
  intro j hj
  obtain ⟨h1, h2⟩ := h j hj
  refine ⟨?_, by simp [h2]⟩
  by_cases e : j = k
  · subst e
    rw [World.cell?_setCell_same w _ _ h1]
    unfold XX
    rw [if_pos (by omega)]
  · rw [World.cell?_setCell_other _ _ _ _ (by intro h; cases h; exact e rfl), h1]
    unfold XX
    by_cases e2 : j < k
    · rw [if_pos e2, if_pos (by omega)]
    · rw [if_neg e2, if_neg (by omega)]
theorem xx_done {w : World} {g cap : Nat} {l : List UInt8} (hg : g < w.heap.size) (hc : l.length ≤ cap) (h : ∀ j, j < l.length → w.cell? ⟨g, j, none⟩ = some (.int .u8 (XX l l.length j).toNat) ∧ w.frozen? ⟨g, j, none⟩ = false) :
    BS w (.slice (some ⟨g, 0, none⟩) l.length cap) (l.map (· ^^^ 255)) := by
  refine .inr ⟨g, 0, cap, by simp, by simpa using hc, hg, fun i u hu => ?_⟩
  have hi : i < l.length := by
    have := (List.getElem?_eq_some_iff.1 hu).1
    simpa [bc_length] using this
  rw [Nat.zero_add, (h i hi).1, ← hu, bc_get]
  unfold XX
  rw [if_pos hi]
  simp [hi]

end Go.Proofs.Ytefhdnhhcgbbjaa
