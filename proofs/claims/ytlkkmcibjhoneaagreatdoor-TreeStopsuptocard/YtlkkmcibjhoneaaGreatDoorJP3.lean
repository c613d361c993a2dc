import Derived.Test.YtlkkmcibjhoneaaGreatDoorJWa
namespace Go.Proofs.YtlkkmcibjhoneaaGreatDoor
open Go.RowKit


/-- two lists in block ga, each in memory of its own -/
structure Duo (w : World) (ga : Nat) (V : Nat → Value) : Prop where
  cell : ∀ i, i < 2 → w.cell? ⟨ga, i, none⟩ = some (V i)
  galt : ga < w.heap.size
  ne : ∀ i, i < 2 → (V i).ownBlock ≠ some ga
  lt : ∀ i, i < 2 → ∀ g, (V i).ownBlock = some g → g < w.heap.size
  apart : ∀ i j, i < 2 → j < 2 → i ≠ j → ∀ g, (V i).ownBlock = some g → (V j).ownBlock ≠ some g
theorem Duo.only {S : List Nat} {w w' : World} {ga : Nat} {V : Nat → Value} (h : Duo w ga V) (ho : Only S w w') (hg : ga ∉ S) : Duo w' ga V :=
  ⟨fun i hi => by rw [World.cell?_of_block (w := w) (ho.block ga h.galt hg)]; exact h.cell i hi, Nat.lt_of_lt_of_le h.galt ho.size, h.ne, fun i hi g hg => Nat.lt_of_lt_of_le (h.lt i hi g hg) ho.size, h.apart⟩
theorem Duo.later {w w' : World} {ga : Nat} {V : Nat → Value} (h : Duo w ga V) (hb : Below w.heap.size w w') : Duo w' ga V := h.only (Only.of_below hb []) (by simp)
theorem SS.only {S : List Nat} {w w' : World} {v : Value} {l : List (List UInt8)} (h : SS w v l) (ho : Only S w w') (hn : ∀ g, v.ownBlock = some g → g ∉ S) : SS w' v l := by
  rcases h with h | ⟨b, off, cap, rfl, hc, hlt, hcell⟩
  · exact .inl h
  · refine .inr ⟨b, off, cap, rfl, hc, Nat.lt_of_lt_of_le hlt ho.size, fun i u hu => ?_⟩
    rw [World.cell?_of_block (w := w) (ho.block b hlt (hn b rfl))]
    exact hcell i u hu
/-- the block of a value, as a list -/
def bl (v : Value) : List Nat := v.ownBlock.toList
theorem mem_bl {v : Value} {g : Nat} : g ∈ bl v ↔ v.ownBlock = some g := by
  unfold bl
  cases v.ownBlock with
  | none => simp
  | some k => simp [eq_comm]
theorem only_grown {w w' : World} {row : Option Nat} (h : w.grownBy w' row) : Only row.toList w w' :=
  ⟨h.os, h.tape, h.output, h.size, fun k hk hn => h.block k hk (by
    intro e
    apply hn
    rw [← e]; simp)⟩
theorem Own.form {base : Nat} {w : World} {v : Value} {l : List (List UInt8)} (h : Own base w v l) : (v = .slice none 0 0 ∧ l = []) ∨ ∃ g c, v = .slice (some ⟨g, 0, none⟩) l.length c ∧ l.length ≤ c ∧ base ≤ g ∧ g < w.heap.size := by
  rcases h.2 with ⟨rfl, h0⟩ | ⟨g, cap, cur, rfl, hb, hg, hn, _⟩
  · exact .inl ⟨rfl, List.eq_nil_of_length_eq_zero h0⟩
  · exact .inr ⟨g, cap, rfl, hn, hb, (Array.getElem?_eq_some_iff.1 hg).1⟩
theorem ss_of_own {base : Nat} {w : World} {g n m c c' : Nat} {l : List (List UInt8)} (h : Own base w (.slice (some ⟨g, 0, none⟩) m c) l) (hn : n ≤ l.length) (hc : n ≤ c') : SS w (.slice (some ⟨g, 0, none⟩) n c') (l.take n) := by
  have hlt := (h.lt (k := g) rfl).2
  have e : (l.take n).length = n := by simp; omega
  refine .inr ⟨g, 0, c', by rw [e], by omega, hlt, fun i u hu => ?_⟩
  have hi : i < n := by
    have := (List.getElem?_eq_some_iff.1 hu).1
    rw [sc_length, e] at this; exact this
  have := World.ownsRow.cells h (g := g) rfl i u (by
    rw [sc_get, List.getElem?_take_of_lt hi] at hu
    rw [sc_get]; exact hu)
  rw [add_lit] at this; exact this

theorem und50 : Tryz.prog.underlying 50 = some (.slice 42) := by kernel_rfl
theorem info42 : (Tryz.prog.info? 42).map (fun i => (i.zero, i.size, i.bytes)) = some (some (.slice none 0 0), 1, 24) := by kernel_rfl
theorem src_more (w : World) (g : Value) (hg : g.oneCell' = true) : Src Tryz.prog 1 50 (.slice (some ⟨w.heap.size, 0, none⟩) 1 1) 1 [g] (w.alloc (.cells #[g] 42)) :=
  Src.ofSlice _ und50 ⟨w.heap.size, 0, none⟩ 1 1 [g] (by simp) (cell_one_str w g 42) (by simpa using hg)
/-- append of a list to the lists -/
theorem app_more {w : World} {base k : Nat} {m g : Value} {xs : List Value} (hg : g.oneCell' = true) (hown : w.ownsRow base 42 1 m k xs) (hk : k ≤ 4) (hbase : base ≤ w.heap.size)
    {ops : Array Oper} {rest : List Oper} {o : Oper} {a : Act} {Q : Exit → Act → World → Prop} (hgd : o.guard = none) (s y : Operand)
    (ho : o.op = .call { callee := .builtin .append, args := #[s, y], argTypes := #[50, 50] }) (hv : a.eval s = m) (hx : a.eval y = .slice (some ⟨w.heap.size, 0, none⟩) 1 1)
    (h : ∀ v' w', w'.ownsRow base 42 1 v' (k + 1) (xs ++ [g]) → w.grownBy w' m.ownBlock → (v'.ownBlock = m.ownBlock ∨ v'.ownBlock = some (w.heap.size + 1)) → wpList Tryz.prog ops Q rest (a.put o.dst v') w') :
    wpList Tryz.prog ops Q (o :: rest) a (w.alloc (.cells #[g] 42)) := by
  obtain ⟨i0, hi, hz0, hz1, hz2⟩ := info_parts info42
  refine wpList_append_src _ hgd s y 50 50 ho base 42 i0 (.slice none 0 0) 1 24 und50 hi hz0 hz1 hz2 rfl m k xs hv (World.ownsRow.alloc hown _) _ 1 [g] hx (src_more w g hg) (by simp only [maxLen]; omega) (by omega) (by simp; omega) ?_
  intro v' w' h1 h2 h3
  exact h v' w' h1 ((World.grownBy_alloc w _ _).trans h2) (by simpa using h3)
theorem rep_all (n k : Nat) : ∀ x ∈ List.replicate n (mk k), x = mk k := fun _ hx => List.eq_of_mem_replicate hx
/-- all but the two lists stays as it was -/
structure Fr2 (B : Nat) (V : Nat → Value) (w w' : World) : Prop where
  below : Below B w w'
  only : Only (bl (V 0) ++ bl (V 1)) w w'
theorem bl_two {V : Nat → Value} {k : Nat} (hk : k < 2) : ∀ x, x ∈ bl (V k) → x ∈ bl (V 0) ++ bl (V 1) := fun x hx => by
  rcases (show k = 0 ∨ k = 1 by omega) with rfl | rfl
  · exact List.mem_append_left _ hx
  · exact List.mem_append_right _ hx
theorem only_stp {S T : List Nat} {a b c : World} (h : Only S a b) (k : Only T b c) (hk : ∀ j ∈ T, j ∈ S ∨ a.heap.size ≤ j) : Only S a c :=
  ⟨k.os.trans h.os, k.tape.trans h.tape, k.output.trans h.output, Nat.le_trans h.size k.size, fun j hj hn => by
    rw [k.block j (Nat.lt_of_lt_of_le hj h.size) (fun hm => (hk j hm).elim hn (fun h1 => by omega))]
    exact h.block j hj hn⟩
/-- what is asked of the look at two lists -/
def Good3 (B : Nat) (V : Nat → Value) (w : World) (e : Ending) (w' : World) : Prop := e = .returned (.bool true) ∧ Fr2 B V w w'
end Go.Proofs.YtlkkmcibjhoneaaGreatDoor

namespace Go.Proofs.YtlkkmcibjhoneaaGreatDoor
open Go.RowKit

set_option maxHeartbeats 4000000 in
set_option maxRecDepth 100000 in
theorem a23 {lv1 lv2 lv3 lv4 lv6 lv7 lv8 lv9 lv10 lv11 lv12 lv13 lv14 lv15 lv16 lv17 lv18 lv19 lv20 lv21 lv22 lv23 lv24 lv25 lv26 lv27 lv28 lv29 lv30 lv31 lv32 lv33 lv34 lv35 lv36 lv37 lv38 lv39 lv40 lv41 lv42 lv43 lv44 lv45 lv46 lv47 lv48 lv49 lv50 lv51 lv52 lv53 lv54 lv55 lv56 lv57 lv58 lv59 lv60 lv61 lv62 lv63 lv64 lv65 lv66 lv67 lv68 lv69 lv70 lv71 lv72 lv73 lv74 lv75 lv76 lv77 lv78 lv79 lv80 lv81 lv82 lv83 lv84 lv85 lv86 lv87 lv88 lv89 lv90 lv91 lv92 lv93 lv94 lv95 lv96 lv97 lv98 : Value} {w wc : World} {B ga gm cm n : Nat} {V U : Nat → Value} (BW : Hid (Fr2 B V w wc)) (D : Hid (Duo wc ga V)) (SV : Hid (∀ i, i < 2 → SS wc (V i) (List.replicate n (mk i)))) (hgm : gm < wc.heap.size) (CU : Hid (∀ i, i < 2 → wc.cell? ⟨gm, i, none⟩ = some (U i))) (SU : Hid (∀ i, i < 2 → SS wc (U i) (List.replicate (n + 40) (mk i)))) (hn : n ≤ 4000000) (hB : B ≤ wc.heap.size) :
    Code.wp Tryz.prog (suff 23 (Tryz.f22.body.getD .skip)) (bodyPost Tryz.prog Tryz.f22 (Good3 B V w)) ⟨(.slice (some ⟨ga, 0, none⟩) 2 2 :: lv1 :: lv2 :: lv3 :: lv4 :: .slice (some ⟨gm, 0, none⟩) 2 cm :: lv6 :: lv7 :: lv8 :: lv9 :: lv10 :: lv11 :: lv12 :: lv13 :: lv14 :: lv15 :: lv16 :: lv17 :: lv18 :: lv19 :: lv20 :: lv21 :: lv22 :: lv23 :: lv24 :: lv25 :: lv26 :: lv27 :: lv28 :: lv29 :: lv30 :: lv31 :: lv32 :: lv33 :: lv34 :: lv35 :: lv36 :: lv37 :: lv38 :: lv39 :: lv40 :: lv41 :: lv42 :: lv43 :: lv44 :: lv45 :: lv46 :: lv47 :: lv48 :: lv49 :: lv50 :: lv51 :: lv52 :: lv53 :: lv54 :: lv55 :: lv56 :: lv57 :: lv58 :: lv59 :: lv60 :: lv61 :: lv62 :: lv63 :: lv64 :: lv65 :: lv66 :: lv67 :: lv68 :: lv69 :: lv70 :: lv71 :: lv72 :: lv73 :: lv74 :: lv75 :: lv76 :: lv77 :: lv78 :: lv79 :: lv80 :: lv81 :: lv82 :: lv83 :: lv84 :: lv85 :: lv86 :: lv87 :: lv88 :: lv89 :: lv90 :: lv91 :: lv92 :: lv93 :: lv94 :: lv95 :: lv96 :: lv97 :: lv98 :: []).toArray, []⟩ wc := by
  conv => arg 2; whnf
  go_wp2_with fail
  go_loopw [12] (fun i wr => ∃ k : Nat, k ≤ 2 ∧ i = .int .i64 k ∧ Below wc.heap.size wc wr) (fun i _ => 2 - (intOf i).toNat)
  case atStart => exact ⟨0, by omega, rfl, Below.refl _ _⟩
  case round =>
    obtain ⟨k, hk, rfl, hbw⟩ := hrel
    have HW : Hid (Below wc.heap.size wc wr) := hbw
    have hz := hbw.size
    clear hbw
    by_cases hlt : k < 2
    · have s1 := (SV.out k hlt).later HW.out
      have s2 := (SU.out k hlt).later HW.out
      have c1 := (D.out.later HW.out).cell k hlt
      have c2 : wr.cell? ⟨gm, k, none⟩ = some (U k) := by rw [HW.out.cell (p := ⟨gm, k, none⟩) hgm]; exact CU.out k hlt
      have hgal := (D.out.later HW.out).galt
      obtain ⟨v1, hv1⟩ : ∃ v, V k = v := ⟨_, rfl⟩
      obtain ⟨v2, hv2⟩ : ∃ v, U k = v := ⟨_, rfl⟩
      rw [hv1] at s1 c1
      rw [hv2] at s2 c2
      obtain ⟨a1, d1, n1, hn1, rfl⟩ := s1.len'
      obtain ⟨a2, d2, n2, hn2, rfl⟩ := s2.len'
      clear hn1 hn2
      have S1 : Hid (SS wr (.slice a1 n1 d1) (List.replicate n (mk k))) := s1
      have S2 : Hid (SS wr (.slice a2 n2 d2) (List.replicate (n + 40) (mk k))) := s2
      have x1 : ∀ X : GW wr, X.it.cell? ⟨ga, k, none⟩ = some (.slice a1 n1 d1) := fun X => X.cell hgal c1
      have x2 : ∀ X : GW wr, X.it.cell? ⟨gm, k, none⟩ = some (.slice a2 n2 d2) := fun X => X.cell (by show gm < wr.heap.size; omega) c2
      have xne := gw_ne wr
      have k1 : (0 : Int) ≤ (k : Int) := by omega
      have k2 : (k : Int) < 2 := by omega
      have HM : Hid (∀ X : GW wr, Calls Tryz.prog 52 #[.int .i64 k] X.it fun e w' => e = .returned (.string (bs (mk k))) ∧ ∃ Y : GW wr, w' = Y.it) := fun X => mark_grow k (by omega) X
      have HF1 : Hid (∀ X : GW wr, Calls Tryz.prog 53 #[.slice a1 n1 d1, .string (bs (mk k))] X.it fun e w' => e = .returned (.bool true) ∧ ∃ Y : GW wr, w' = Y.it) := fun X => full_grow S1.out (by simp; omega) (rep_all _ _) X
      have HF2 : Hid (∀ X : GW wr, Calls Tryz.prog 53 #[.slice a2 n2 d2, .string (bs (mk k))] X.it fun e w' => e = .returned (.bool true) ∧ ∃ Y : GW wr, w' = Y.it) := fun X => full_grow S2.out (by simp; omega) (rep_all _ _) X
      clear s1 s2 hv1 hv2 c1 c2
      go_wp2_with fail
      refine wp_region_grow (by kernel_rfl) (by kernel_rfl) ?_
      repeat (go_big_quiet_step (fail))
      go_big_quiet_step (exact HM.out _)
      go_big_quiet_step (exact HF1.out _)
      repeat (go_big_quiet_step (fail))
      go_big_quiet_step (exact HM.out _)
      go_big_quiet_step (exact HF2.out _)
      repeat (go_big_quiet_step (fail))
      refine wpQuiet_nil ?_
      rintro w2 ⟨⟨w2, bx⟩, rfl⟩
      have HB5 : Hid (Below wc.heap.size wc w2) := bstep HW.out bx
      clear bx
      go_wp2_with fail
      go_roundw
      case rel => exact ⟨k + 1, by omega, by go_num, HB5.out⟩
      case measure => simp [intOf]; omega
    · obtain rfl : k = 2 := by omega
      go_wp2_with fail
      go_ret
      exact ⟨rfl, below_trans BW.out.below (below_mono HW.out hB), BW.out.only.trans (Only.of_below HW.out _)⟩

end Go.Proofs.YtlkkmcibjhoneaaGreatDoor

namespace Go.Proofs.YtlkkmcibjhoneaaGreatDoor
open Go.RowKit

/-- the lists, and the longer ones, behind k rounds -/
structure P3 (B : Nat) (w wr : World) (ga : Nat) (V : Nat → Value) (n k : Nat) (m : Value) (U : Nat → Value) : Prop where
  duo : Duo wr ga V
  below : Fr2 B V w wr
  ss : ∀ i, i < 2 → SS wr (V i) (List.replicate n (mk i))
  own : ∀ i, i < 2 → k ≤ i → Oww B wr (V i) (List.replicate n (mk i))
  more : wr.ownsRow w.heap.size 42 1 m k ((List.range k).map U)
  su : ∀ i, i < k → SS wr (U i) (List.replicate (n + 40) (mk i))
  mga : m.ownBlock ≠ some ga
  mV : ∀ i, i < 2 → ∀ g, m.ownBlock = some g → (V i).ownBlock ≠ some g
  mU : ∀ i, i < k → ∀ g, m.ownBlock = some g → (U i).ownBlock ≠ some g
  ub : ∀ i, i < k → ∀ g, (U i).ownBlock = some g → g < wr.heap.size
  vU : ∀ i, i < 2 → k ≤ i → ∀ j, j < k → ∀ g, (V i).ownBlock = some g → (U j).ownBlock ≠ some g
/-- one list being grown -/
structure In3 (B : Nat) (wo wr : World) (v g : Value) (n j k : Nat) : Prop where
  own : Oww B wr g (List.replicate (n + j) (mk k))
  which : (∃ a n1 c1 n2 c2, v = .slice a n1 c1 ∧ g = .slice a n2 c2) ∨ ∃ b, g.ownBlock = some b ∧ wo.heap.size ≤ b
  ss : SS wr v (List.replicate n (mk k))
  only : Only (bl v) wo wr
theorem In3.which' {B : Nat} {wo wr : World} {v g : Value} {n j k : Nat} (h : In3 B wo wr v g n j k) : g.ownBlock = v.ownBlock ∨ ∃ b, g.ownBlock = some b ∧ wo.heap.size ≤ b := by
  rcases h.which with ⟨a, n1, c1, n2, c2, rfl, rfl⟩ | h
  · exact .inl (by cases a <;> rfl)
  · exact .inr h
theorem in3_step {B : Nat} {wo wr w' : World} {v g g' : Value} {n j k : Nat} (h : In3 B wo wr v g n j k) (hv : Oww B wo v (List.replicate n (mk k)))
    (ho : Oww B w' g' (List.replicate (n + j) (mk k) ++ [mk k]))
    (hc : (∃ b off m cap, g = .slice (some ⟨b, off, none⟩) m cap ∧ g' = .slice (some ⟨b, off, none⟩) (m + 1) cap ∧ wr.grownBy w' (some b)) ∨ (∃ b, g'.ownBlock = some b ∧ wr.heap.size ≤ b ∧ Below wr.heap.size wr w')) : In3 B wo w' v g' n (j + 1) k := by
  have e : List.replicate (n + j) (mk k) ++ [mk k] = List.replicate (n + (j + 1)) (mk k) := by rw [← Nat.add_assoc, List.replicate_succ']
  rw [e] at ho
  rcases hc with ⟨b, off, m, cap, rfl, rfl, hg⟩ | ⟨b, hb, hge, hbel⟩
  · have hb : (Value.slice (some ⟨b, off, none⟩) m cap).ownBlock = some b := rfl
    refine ⟨ho, ?_, ?_, ?_⟩
    · rcases h.which with ⟨a, n1, c1, n2, c2, rfl, e2⟩ | h1
      · injection e2 with e2 _ _
        exact .inl ⟨a, n1, c1, m + 1, cap, rfl, by rw [e2]⟩
      · exact .inr h1
    · by_cases hvb : v.ownBlock = some b
      · rcases hv.form with ⟨rfl, _⟩ | ⟨g, off', c, rfl, hle, _, hgl⟩
        · simp [Value.ownBlock] at hvb
        · have hgb : g = b := by simpa [Value.ownBlock] using hvb
          subst hgb
          have hoff : off = off' := by
            rcases h.which with ⟨a, n1, c1, n2, c2, e1, e2⟩ | ⟨b', h1, h2⟩
            · injection e1 with e1 _ _
              injection e2 with e2 _ _
              rw [← e1] at e2
              injection e2 with e2
              injection e2
            · have : g = b' := by simpa [Value.ownBlock] using h1
              omega
          subst hoff
          have := ss_of_ww (n := n) (c' := c) ho (by simp) (by simpa using hle)
          rw [List.take_replicate, Nat.min_eq_left (by omega)] at this
          simpa using this
      · exact h.ss.grown hg (.inr hvb)
    · have hw := only_grown hg
      refine ⟨by rw [hw.os, h.only.os], by rw [hw.tape, h.only.tape], by rw [hw.output, h.only.output], Nat.le_trans h.only.size hw.size, fun x hx hn => ?_⟩
      rw [hw.block x (Nat.lt_of_lt_of_le hx h.only.size) (fun e => ?_), h.only.block x hx hn]
      have hxb : x = b := by simpa using e
      subst hxb
      rcases h.which' with h1 | ⟨b', h1, h2⟩
      · exact hn (mem_bl.2 (by rw [← h1, hb]))
      · have hbb : x = b' := by simpa [Value.ownBlock] using h1
        omega
  · exact ⟨ho, .inr ⟨b, hb, Nat.le_trans h.only.size hge⟩, h.ss.later hbel, h.only.trans (Only.of_below hbel _)⟩
theorem p3_next {B : Nat} {w wo wr w' : World} {ga : Nat} {V : Nat → Value} {n k : Nat} {m m' g : Value} {U : Nat → Value} (h : P3 B w wo ga V n k m U) (hk : k < 2) (i3 : In3 B wo wr (V k) g n 40 k) (hB : B ≤ wo.heap.size) (hBw : B ≤ w.heap.size)
    (hm : w'.ownsRow w.heap.size 42 1 m' (k + 1) ((List.range k).map U ++ [g])) (hg : wr.grownBy w' m.ownBlock) (hw : m'.ownBlock = m.ownBlock ∨ m'.ownBlock = some (wr.heap.size + 1)) :
    P3 B w w' ga V n (k + 1) m' (fun i => if i = k then g else U i) := by
  have hO := i3.only
  have hG := only_grown hg
  have hmlt : ∀ b, m.ownBlock = some b → b < wo.heap.size := fun b hb => (World.ownsRow.lt h.more b hb).2
  have hsz1 := hO.size
  have hgm : ∀ b, m.ownBlock = some b → g.ownBlock ≠ some b := fun b hb e => by
    rcases i3.which' with h1 | ⟨b', h1, h2⟩
    · exact h.mV k hk b hb (by rw [← h1]; exact e)
    · have := hmlt b hb
      rw [h1] at e
      injection e with e
      omega
  have hglt : ∀ b, g.ownBlock = some b → b < wr.heap.size := fun b hb => (i3.own.lt hb).2
  have hvlt : ∀ i, i < 2 → k ≤ i → ∀ b, (V i).ownBlock = some b → b < wo.heap.size := fun i hi hki b hb => ((h.own i hi hki).lt hb).2
  have nG : ∀ b, m.ownBlock ≠ some b → b ∉ m.ownBlock.toList := fun b hb e => by
    cases hmm : m.ownBlock with
    | none => rw [hmm] at e; simp at e
    | some c => rw [hmm] at e; simp at e; subst e; exact hb hmm
  have hBk : ∀ x, x ∈ bl (V k) → B ≤ x := fun x hx => ((h.own k hk (Nat.le_refl _)).lt (mem_bl.1 hx)).1
  have hnew : ∀ b, m'.ownBlock = some b → m.ownBlock = some b ∨ b = wr.heap.size + 1 := fun b hb => by
    rcases hw with e | e
    · exact .inl (by rw [← e]; exact hb)
    · rw [e] at hb; injection hb with hb; exact .inr hb.symm
  have hmB : ∀ x, x ∈ m.ownBlock.toList → w.heap.size ≤ x := fun x hx => by
    cases hmm : m.ownBlock with
    | none => rw [hmm] at hx; simp at hx
    | some c => rw [hmm] at hx; simp at hx; subst hx; exact (World.ownsRow.lt h.more _ hmm).1
  have hbelow : Fr2 B V w w' := ⟨below_trans h.below.below (below_trans (hO.below hB hBk) (hG.below (by omega) (fun x hx => Nat.le_trans hBw (hmB x hx)))), only_stp (h.below.only.trans (hO.mono (bl_two hk))) hG (fun x hx => .inr (hmB x hx))⟩
  refine ⟨(h.duo.only hO (fun e => h.duo.ne k hk (mem_bl.1 e))).only hG (nG ga h.mga), hbelow, fun i hi => ?_, fun i hi hki => ?_, ?_, fun i hi => ?_, fun e => ?_, fun i hi b hb e => ?_, fun i hi b hb e => ?_, fun i hi b hb => ?_, fun i hi hki j hj b hb e => ?_⟩
  · by_cases hik : i = k
    · subst hik
      exact i3.ss.only hG (fun b hb => nG b (fun e => h.mV i hi b e hb))
    · exact ((h.ss i hi).only hO (fun b hb e => h.duo.apart i k hi hk hik b hb (mem_bl.1 e))).only hG (fun b hb => nG b (fun e => h.mV i hi b e hb))
  · have hik : i ≠ k := by omega
    exact ((h.own i hi (by omega)).only hO (fun b hb e => h.duo.apart i k hi hk hik b hb (mem_bl.1 e))).only hG (fun b hb => nG b (fun e => h.mV i hi b e hb))
  · have e : (List.range (k + 1)).map (fun i => if i = k then g else U i) = (List.range k).map U ++ [g] := by
      rw [List.range_succ, List.map_append]
      congr 1
      · apply List.map_congr_left
        intro i hi
        have := List.mem_range.1 hi
        rw [if_neg (by omega)]
      · simp
    rw [e]; exact hm
  · show SS w' (if i = k then g else U i) _
    by_cases hik : i = k
    · subst hik
      rw [if_pos rfl]
      exact i3.own.bs.only hG (fun b hb => nG b (fun e => hgm b e hb))
    · rw [if_neg hik]
      exact ((h.su i (by omega)).only hO (fun b hb e => h.vU k hk (Nat.le_refl _) i (by omega) b (mem_bl.1 e) hb)).only hG (fun b hb => nG b (fun e => h.mU i (by omega) b e hb))
  · rcases hnew ga e with e | e
    · exact h.mga e
    · have := h.duo.galt; omega
  · rcases hnew b hb with e' | e'
    · exact h.mV i hi b e' e
    · have := h.duo.lt i hi b e; omega
  · have e2 : (if i = k then g else U i).ownBlock = some b := e
    rcases hnew b hb with e' | e'
    · by_cases hik : i = k
      · rw [if_pos hik] at e2; exact hgm b e' e2
      · rw [if_neg hik] at e2; exact h.mU i (by omega) b e' e2
    · by_cases hik : i = k
      · rw [if_pos hik] at e2; have := hglt b e2; omega
      · rw [if_neg hik] at e2; have := h.ub i (by omega) b e2; omega
  · have hb2 : (if i = k then g else U i).ownBlock = some b := hb
    have hs2 := hG.size
    by_cases hik : i = k
    · rw [if_pos hik] at hb2; have := hglt b hb2; omega
    · rw [if_neg hik] at hb2; have := h.ub i (by omega) b hb2; omega
  · have e2 : (if j = k then g else U j).ownBlock = some b := e
    by_cases hjk : j = k
    · rw [if_pos hjk] at e2
      rcases i3.which' with h1 | ⟨b', h1, h2⟩
      · exact h.duo.apart i k hi hk (by omega) b hb (by rw [← h1]; exact e2)
      · rw [h1] at e2
        injection e2 with e2
        have := h.duo.lt i hi b hb
        omega
    · rw [if_neg hjk] at e2; exact h.vU i hi (by omega) j (by omega) b hb e2
end Go.Proofs.YtlkkmcibjhoneaaGreatDoor
