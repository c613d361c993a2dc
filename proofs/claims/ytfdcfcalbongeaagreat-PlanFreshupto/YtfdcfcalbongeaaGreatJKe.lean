/-
  The landed plan: paths of files, steps at paths.
  The landed plan: what is not in another list; turned round.
  The landed plan: the files that are written.
-/
import Derived.Test.YtfdcfcalbongeaaGreatKa
import Derived.Test.YtfdcfcalbongeaaGreatPs
import Derived.OwnWalk
import Derived.Test.YtfdcfcalbongeaaGreatJKb
namespace Go.Proofs.YtfdcfcalbongeaaGreat
open Go.RowKit

theorem info9K : (Tryz.prog.info? 9).map (fun i => (i.zero, i.size, i.bytes)) = some (some (.string ⟨#[]⟩), 1, 16) := by kernel_rfl
theorem und27K : Tryz.prog.underlying 26 = some (.slice 9) := by kernel_rfl
theorem below_none {w w' : World} (h : w.grownBy w' none) : Below w.heap.size w w' := (Below.refl _ _).grown h (Nat.le_refl _) (fun k hk => by cases hk)
theorem app_oneN {w : World} {base n : Nat} {v : Value} {l : List (List UInt8)} (p : List UInt8) (hsz : w.heap.size = n) (hown : Own base w v l) (hb : l.length + 1 ≤ 8796093022208) (hbase : base ≤ w.heap.size)
    {ops : Array Oper} {rest : List Oper} {o : Oper} {a : Act} {Q : Exit → Act → World → Prop} (hgd : o.guard = none) (s y : Operand)
    (ho : o.op = .call { callee := .builtin .append, args := #[s, y], argTypes := #[26, 26] }) (hv : a.eval s = v) (hx : a.eval y = .slice (some ⟨n, 0, none⟩) 1 1)
    (h : ∀ v' w', Own base w' v' (l ++ [p]) → Below base w w' → base ≤ w'.heap.size → w.grownBy w' v.ownBlock → (v'.ownBlock = v.ownBlock ∨ v'.ownBlock = some (w.heap.size + 1)) → wpList Tryz.prog ops Q rest (a.put o.dst v') w') :
    wpList Tryz.prog ops Q (o :: rest) a (w.alloc (.cells #[.string (bs p)] 9)) := by
  subst hsz
  exact app_one p hown hb hbase hgd s y ho hv hx h
theorem app_stepKN {w : World} {base n : Nat} {v : Value} {l : List Sp} (s : Sp) (hsz : w.heap.size = n) (hown : OwS base w v l) (hb : l.length + 1 ≤ 1000000000) (hbase : base ≤ w.heap.size)
    {ops : Array Oper} {rest : List Oper} {o : Oper} {a : Act} {Q : Exit → Act → World → Prop} (hgd : o.guard = none) (d y : Operand)
    (ho : o.op = .call { callee := .builtin .append, args := #[d, y], argTypes := #[23, 23] }) (hv : a.eval d = v) (hx : a.eval y = .slice (some ⟨n, 0, none⟩) 1 1)
    (h : ∀ v' w', OwS base w' v' (l ++ [s]) → Below base w w' → (∀ j, j < w.heap.size → v.ownBlock ≠ some j → w'.heap[j]? = w.heap[j]?) → wpList Tryz.prog ops Q rest (a.put o.dst v') w') :
    wpList Tryz.prog ops Q (o :: rest) a (w.alloc (.cells #[.int .i64 s.kind, .string (bs s.p), .string (bs s.f.path), .string (bs s.f.text), .int .i64 s.f.blob, .int .i64 s.f.size] 42)) := by
  subst hsz
  exact app_step s hown hb hbase hgd d y ho hv hx h
theorem file_blk {W : World} {g : Nat} {p t : List UInt8} {bl sz : Int} (h : W.heap[g]? = some (.cells #[.string (bs p), .string (bs t), .int .i64 bl, .int .i64 sz] 30 (0, 0))) :
    W.cell? ⟨g, 0, none⟩ = some (.string (bs p)) ∧ W.cell? ⟨g, 1, none⟩ = some (.string (bs t)) ∧ W.cell? ⟨g, 2, none⟩ = some (.int .i64 bl) ∧ W.cell? ⟨g, 3, none⟩ = some (.int .i64 sz) :=
  ⟨by simp [World.cell?, h], by simp [World.cell?, h], by simp [World.cell?, h], by simp [World.cell?, h]⟩
/-- a file that was laid in a block of its own -/
theorem file_cells {w w' : World} {p t : List UInt8} {bl sz : Int} (hb : Below (w.alloc (.cells #[.string (bs p), .string (bs t), .int .i64 bl, .int .i64 sz] 30)).heap.size (w.alloc (.cells #[.string (bs p), .string (bs t), .int .i64 bl, .int .i64 sz] 30)) w') :
    w'.cell? ⟨w.heap.size, 0, none⟩ = some (.string (bs p)) ∧ w'.cell? ⟨w.heap.size, 1, none⟩ = some (.string (bs t)) ∧ w'.cell? ⟨w.heap.size, 2, none⟩ = some (.int .i64 bl) ∧ w'.cell? ⟨w.heap.size, 3, none⟩ = some (.int .i64 sz) := by
  have hl : w.heap.size < (w.alloc (.cells #[.string (bs p), .string (bs t), .int .i64 bl, .int .i64 sz] 30)).heap.size := by simp
  exact file_blk ((hb.block _ hl).trans (heap_alloc_new w _))
set_option maxHeartbeats 4000000 in
set_option maxRecDepth 100000 in
/-- a step at each of the paths -/
theorem lsteps_any {w : World} {v : Value} {A : List (List UInt8)} (q : Int) (h : SS w v A) (hl : A.length ≤ 1000000) :
    Calls Tryz.prog 21 #[.int .i64 q, v] w fun e w' => ∃ v', e = .returned v' ∧ OwS w.heap.size w' v' (A.map fun p => ⟨q, p, zfP⟩) ∧ Below w.heap.size w w' := by
  obtain ⟨a, c, n, hn, rfl, hcell⟩ := h.form'
  have HC : Hid (∀ k, (hk : k < A.length) → ∃ b off, a = some ⟨b, off, none⟩ ∧ b < w.heap.size ∧ w.cell? ⟨b, off + k, none⟩ = some (.string (bs A[k]))) := hcell
  have HN : Hid (A.length = n) := hn.symm
  have hln : n ≤ 1000000 := by omega
  clear h hcell hn hl
  obtain ⟨i0, hi, hz0, hz1, hz2⟩ := info_parts info42
  obtain ⟨G, hG⟩ : ∃ G, w.heap.size = G := ⟨_, rfl⟩
  have HZ : Hid (w.heap.size = G) := hG
  rw [hG]
  clear hG
  go_enter Tryz.func21, Tryz.ntmps21
  go_wp2_with (refine Go.wpList_make_own _ rfl _ _ 23 rfl G 42 i0 _ 6 und23 hi hz0 hz1 .i64 .i64 _ n rfl rfl rfl (by rw [hz2]; omega) (by unfold maxLen; omega) (by have := HZ.out; omega) ?_; intro w1 o1 g1; have O1 : Hid (OwS G w1 (.slice (some ⟨w.heap.size, 0, none⟩) 0 n) [] ∧ Below w.heap.size w w1) := ⟨OwR.own o1, below_none g1⟩; clear o1 g1)
  go_loopw [5, 13] (fun o i wr => ∃ k : Nat, k ≤ n ∧ i = .int .i64 k ∧ OwS G wr o ((A.take k).map fun p => ⟨q, p, zfP⟩) ∧ Below w.heap.size w wr) (fun _ i _ => n - (intOf i).toNat)
  case atStart => exact ⟨0, Nat.zero_le _, rfl, O1.out.1, O1.out.2⟩
  case round =>
    obtain ⟨k, hk, rfl, ho, hbw⟩ := hrel
    have HO : Hid (OwS G wr u5 ((A.take k).map fun p => ⟨q, p, zfP⟩) ∧ Below w.heap.size w wr) := ⟨ho, hbw⟩
    have hzo : G ≤ wr.heap.size := by have := hbw.size; have := HZ.out; omega
    clear ho hbw
    by_cases hlt : k < n
    · have hkl : k < A.length := by have := HN.out; omega
      obtain ⟨b, off, ea, hbl, d0⟩ := HC.out k hkl
      subst ea
      have d0 := (HO.out.2.cell (p := ⟨b, off + k, none⟩) hbl).trans d0
      have hts : (A.take (k + 1)).map (fun p => (⟨q, p, zfP⟩ : Sp)) = (A.take k).map (fun p => ⟨q, p, zfP⟩) ++ [⟨q, A[k], zfP⟩] := by
        rw [List.take_succ_eq_append_getElem hkl, List.map_append]; rfl
      have hll : ((A.take k).map (fun p => (⟨q, p, zfP⟩ : Sp))).length + 1 ≤ 1000000000 := by rw [List.length_map, List.length_take]; omega
      have k1 : (0 : Int) ≤ (k : Int) := by omega
      have k2 : (k : Int) < (n : Int) := by omega
      obtain ⟨p, hp⟩ : ∃ p, A[k] = p := ⟨_, rfl⟩
      rw [hp] at d0 hts
      obtain ⟨X, hX⟩ : ∃ X, (A.take k).map (fun p => (⟨q, p, zfP⟩ : Sp)) = X := ⟨_, rfl⟩
      rw [hX] at HO hts hll
      have HT : Hid ((A.take (k + 1)).map (fun p => (⟨q, p, zfP⟩ : Sp)) = X ++ [⟨q, p, zfP⟩] ∧ X.length + 1 ≤ 1000000000) := ⟨hts, hll⟩
      clear hts hll hp hX hbl
      go_wp2_with (at_builtin; refine app_step (base := G) ⟨q, p, zfP⟩ HO.out.1 HT.out.2 hzo rfl (.tmp 17) (.tmp 21) rfl rfl rfl ?_; intro v5 w5 ho5 hb5 hs5; have O5 : Hid (OwS G w5 v5 (X ++ [⟨q, p, zfP⟩]) ∧ Below w.heap.size w w5) := ⟨ho5, below_trans HO.out.2 (by rw [HZ.out]; exact hb5)⟩; clear ho5 hb5 hs5)
      go_roundw
      case rel => exact ⟨k + 1, by omega, by go_num, by rw [HT.out.1]; exact O5.out.1, O5.out.2⟩
      case measure => simp [intOf]; omega
    · obtain rfl : k = n := by omega
      have HE : Hid (OwS G wr u5 (A.map fun p => ⟨q, p, zfP⟩) ∧ Below w.heap.size w wr) := by
        have := HO.out
        rw [List.take_of_length_le (by have := HN.out; omega)] at this
        exact this
      go_wp2_with fail
      go_ret
      exact ⟨_, rfl, HE.out.1, by rw [← HZ.out]; exact HE.out.2⟩
set_option maxHeartbeats 4000000 in
set_option maxRecDepth 100000 in
/-- the paths of files -/
theorem lpaths_any {w : World} {v : Value} {l : List Fl} (h : FS w v l) (h5 : l.length ≤ 1000000) :
    Calls Tryz.prog 24 #[v] w fun e w' => ∃ v', e = .returned v' ∧ Own w.heap.size w' v' (l.map Fl.path) ∧ Below w.heap.size w w' := by
  have H : Hid (FS w v l) := h
  obtain ⟨a, c, rfl, _⟩ := h.form
  rename_i hform
  clear h hform
  obtain ⟨n, hn⟩ : ∃ n, l.length = n := ⟨_, rfl⟩
  have H' : Hid (FS w (.slice a l.length c) l) := H.out
  clear H
  rw [hn] at h5 ⊢
  have HN : Hid (l.length = n) := hn
  clear hn
  obtain ⟨i0, hi, hz0, hz1, hz2⟩ := info_parts info9K
  obtain ⟨G, hG⟩ : ∃ G, w.heap.size = G := ⟨_, rfl⟩
  have HZ : Hid (w.heap.size = G) := hG
  rw [hG]
  clear hG
  go_enter Tryz.func24, Tryz.ntmps24
  go_wp2_with (refine Go.wpList_make_own _ rfl _ _ 26 rfl G 9 i0 _ 1 und27K hi hz0 hz1 .i64 .i64 _ n rfl rfl rfl (by rw [hz2]; omega) (by unfold maxLen; omega) (by have := HZ.out; omega) ?_; intro w1 o1 g1; have O1 : Hid (Own G w1 (.slice (some ⟨w.heap.size, 0, none⟩) 0 n) [] ∧ Below w.heap.size w w1) := ⟨o1, below_none g1⟩; clear o1 g1)
  go_loopw [3, 11] (fun o i wr => ∃ k : Nat, k ≤ n ∧ i = .int .i64 k ∧ Own G wr o ((l.take k).map Fl.path) ∧ Below w.heap.size w wr) (fun _ i _ => n - (intOf i).toNat)
  case atStart => exact ⟨0, Nat.zero_le _, rfl, O1.out.1, O1.out.2⟩
  case round =>
    obtain ⟨k, hk, rfl, ho, hbw⟩ := hrel
    have HO : Hid (Own G wr u3 ((l.take k).map Fl.path) ∧ Below w.heap.size w wr) := ⟨ho, hbw⟩
    have hzo : G ≤ wr.heap.size := by have := hbw.size; have := HZ.out; omega
    clear ho hbw
    by_cases hlt : k < n
    · have hkl : k < l.length := by have := HN.out; omega
      obtain ⟨b, off, ea, hbw, d0, d1, d2, d3⟩ := FS.at H'.out HO.out.2 hkl
      subst ea
      have hts : (l.take (k + 1)).map Fl.path = (l.take k).map Fl.path ++ [l[k].path] := by
        rw [List.take_succ_eq_append_getElem hkl, List.map_append]; rfl
      have hll : ((l.take k).map Fl.path).length + 1 ≤ 8796093022208 := by rw [List.length_map, List.length_take]; omega
      have k1 : (0 : Int) ≤ (k : Int) := by omega
      have k2 : (k : Int) < (n : Int) := by omega
      obtain ⟨f, hf⟩ : ∃ f, l[k] = f := ⟨_, rfl⟩
      rw [hf] at d0 d1 d2 d3 hts
      obtain ⟨p, t, bl, sz⟩ := f
      simp only at d0 d1 d2 d3 hts
      obtain ⟨X, hX⟩ : ∃ X, (l.take k).map Fl.path = X := ⟨_, rfl⟩
      rw [hX] at HO hts hll
      have HT : Hid ((l.take (k + 1)).map Fl.path = X ++ [p] ∧ X.length + 1 ≤ 8796093022208) := ⟨hts, hll⟩
      have HA : Hid (Own G (wr.alloc (.cells #[.string (bs p), .string (bs t), .int .i64 bl, .int .i64 sz] 30)) u3 X ∧ Below w.heap.size w (wr.alloc (.cells #[.string (bs p), .string (bs t), .int .i64 bl, .int .i64 sz] 30))) := ⟨HO.out.1.alloc _, bstep HO.out.2 (balloc _ _)⟩
      have hza : G ≤ (wr.alloc (.cells #[.string (bs p), .string (bs t), .int .i64 bl, .int .i64 sz] 30)).heap.size := by simp; omega
      have HZa : Hid (G ≤ (wr.alloc (.cells #[.string (bs p), .string (bs t), .int .i64 bl, .int .i64 sz] 30)).heap.size) := hza
      clear hts hll hf hX hbw hza
      go_wp2_with (at_builtin; refine app_oneN (base := G) p (by simp) HA.out.1 HT.out.2 HZa.out rfl (.tmp 15) (.tmp 18) rfl rfl rfl ?_; intro v5 w5 ho5 hb5 hbs5 _ _; have O5 : Hid (Own G w5 v5 (X ++ [p]) ∧ Below w.heap.size w w5) := ⟨ho5, below_trans HA.out.2 (by rw [HZ.out]; exact hb5)⟩; clear ho5 hb5 hbs5)
      go_roundw
      case rel => exact ⟨k + 1, by omega, by go_num, by rw [HT.out.1]; exact O5.out.1, O5.out.2⟩
      case measure => simp [intOf]; omega
    · obtain rfl : k = n := by omega
      have HE : Hid (Own G wr u3 (l.map Fl.path) ∧ Below w.heap.size w wr) := by
        have := HO.out
        rw [List.take_of_length_le (by have := HN.out; omega)] at this
        exact this
      go_wp2_with fail
      go_ret
      exact ⟨_, rfl, HE.out.1, by rw [← HZ.out]; exact HE.out.2⟩
end Go.Proofs.YtfdcfcalbongeaaGreat

namespace Go.Proofs.YtfdcfcalbongeaaGreat
open Go.RowKit

theorem woL_snoc (A B : List (List UInt8)) (k : Nat) (hk : k < A.length) : woL (A.take (k + 1)) B = woL (A.take k) B ++ (if decide (A[k] ∈ B) then [] else [A[k]]) := by
  unfold woL
  rw [List.take_succ_eq_append_getElem hk, List.filter_append]
  congr 1
  by_cases h : A[k] ∈ B <;> simp [h]
theorem woL_len (A B : List (List UInt8)) : (woL A B).length ≤ A.length := List.length_filter_le _ _
set_option maxHeartbeats 4000000 in
set_option maxRecDepth 100000 in
theorem lwo_any {w : World} {va vb : Value} {A B : List (List UInt8)} {bb : Nat} (ha : SS w va A) (hb : Own bb w vb B) (sb : Sm B) (ub : Up B) (sa : Sm A) :
    Calls Tryz.prog 23 #[va, vb] w fun e w' => ∃ v', e = .returned v' ∧ Own w.heap.size w' v' (woL A B) ∧ Below w.heap.size w w' := by
  obtain ⟨a, c, n, hn, rfl, hcell⟩ := ha.form'
  have HC : Hid (∀ k, (hk : k < A.length) → ∃ b off, a = some ⟨b, off, none⟩ ∧ b < w.heap.size ∧ w.cell? ⟨b, off + k, none⟩ = some (.string (bs A[k]))) := hcell
  have HN : Hid (A.length = n) := hn.symm
  have hln : n ≤ 4000000 := by have := sa.len; omega
  have HB : Hid (Own bb w vb B ∧ Sm B ∧ Up B ∧ Sm A) := ⟨hb, sb, ub, sa⟩
  clear ha hcell hn hb sb ub sa
  obtain ⟨G, hG⟩ : ∃ G, w.heap.size = G := ⟨_, rfl⟩
  have HZ : Hid (w.heap.size = G) := hG
  rw [hG]
  clear hG
  go_enter Tryz.func23, Tryz.ntmps23
  go_wp2_with fail
  go_loopw [5, 12] (fun o i wr => ∃ k : Nat, k ≤ n ∧ i = .int .i64 k ∧ Own G wr o (woL (A.take k) B) ∧ Below w.heap.size w wr) (fun _ i _ => n - (intOf i).toNat)
  case atStart => exact ⟨0, Nat.zero_le _, rfl, Own.nil _ _, Below.refl _ _⟩
  case round =>
    obtain ⟨k, hk, rfl, ho, hbw⟩ := hrel
    have HO : Hid (Own G wr u5 (woL (A.take k) B) ∧ Below w.heap.size w wr) := ⟨ho, hbw⟩
    have hzo : G ≤ wr.heap.size := by have := hbw.size; have := HZ.out; omega
    clear ho hbw
    by_cases hlt : k < n
    · have hkl : k < A.length := by have := HN.out; omega
      obtain ⟨b, off, ea, hbl, d0⟩ := HC.out k hkl
      subst ea
      have d0 := (HO.out.2.cell (p := ⟨b, off + k, none⟩) hbl).trans d0
      have hts := woL_snoc A B k hkl
      have hll : (woL (A.take k) B).length + 1 ≤ 8796093022208 := by have := woL_len (A.take k) B; rw [List.length_take] at this; omega
      have hpl := HB.out.2.2.2.each _ (List.getElem_mem hkl)
      have k1 : (0 : Int) ≤ (k : Int) := by omega
      have k2 : (k : Int) < (n : Int) := by omega
      obtain ⟨p, hp⟩ : ∃ p, A[k] = p := ⟨_, rfl⟩
      rw [hp] at d0 hts hpl
      obtain ⟨X, hX⟩ : ∃ X, woL (A.take k) B = X := ⟨_, rfl⟩
      rw [hX] at HO hts hll
      have hse := search_any p (HB.out.1.later HO.out.2) HB.out.2.1 HB.out.2.2.1 (by omega)
      obtain ⟨m, hm⟩ : ∃ m : Nat, B.countP (fun x => decide (cf x p < 0)) = m := ⟨_, rfl⟩
      obtain ⟨q, hq⟩ : ∃ q, decide (p ∈ B) = q := ⟨_, rfl⟩
      rw [hm, hq] at hse
      rw [hq] at hts
      have HS : Hid (Calls Tryz.prog 42 #[vb, .string (bs p), .func (.func 31) #[] #[]] wr fun e w' => e = .returned (.tuple #[.int .i64 (m : Int), .bool q]) ∧ Below wr.heap.size wr w') := hse
      have HT : Hid (woL (A.take (k + 1)) B = X ++ (if q then [] else [p]) ∧ X.length + 1 ≤ 8796093022208) := ⟨hts, hll⟩
      clear hts hll hp hX hbl hse hm hq hpl
      go_wp2_with fail
      refine HS.out.mono ?_
      rintro e w1 ⟨rfl, hb1⟩
      have HO1 : Hid (Own G w1 u5 X ∧ Below w.heap.size w w1) := ⟨HO.out.1.later hb1, bstep HO.out.2 hb1⟩
      have hz1 : G ≤ w1.heap.size := Nat.le_trans hzo hb1.size
      clear hb1 d0
      cases q with
      | true =>
        have HT2 : Hid (woL (A.take (k + 1)) B = X) := by show _ = _; have := HT.out.1; simpa using this
        go_wp2_with fail
        go_roundw
        case rel => exact ⟨k + 1, by omega, by go_num, by rw [HT2.out]; exact HO1.out.1, HO1.out.2⟩
        case measure => simp [intOf]; omega
      | false =>
        have HT2 : Hid (woL (A.take (k + 1)) B = X ++ [p]) := by show _ = _; have := HT.out.1; simpa using this
        go_wp2_with (at_builtin; refine app_one (base := G) p HO1.out.1 HT.out.2 hz1 rfl (.tmp 24) (.tmp 26) rfl rfl rfl ?_; intro v5 w5 ho5 hb5 hbs5 _ _; have O5 : Hid (Own G w5 v5 (X ++ [p]) ∧ Below w.heap.size w w5) := ⟨ho5, below_trans HO1.out.2 (by rw [HZ.out]; exact hb5)⟩; clear ho5 hb5 hbs5)
        go_roundw
        case rel => exact ⟨k + 1, by omega, by go_num, by rw [HT2.out]; exact O5.out.1, O5.out.2⟩
        case measure => simp [intOf]; omega
    · obtain rfl : k = n := by omega
      have HE : Hid (Own G wr u5 (woL A B) ∧ Below w.heap.size w wr) := by
        have := HO.out
        rw [List.take_of_length_le (by have := HN.out; omega)] at this
        exact this
      go_wp2_with fail
      go_ret
      exact ⟨_, rfl, HE.out.1, by rw [← HZ.out]; exact HE.out.2⟩
set_option maxRecDepth 100000 in
set_option maxHeartbeats 1000000 in
theorem lfall_any {w : World} {base : Nat} {v : Value} {l : List (List UInt8)} (h : Own base w v l) (hl : l.length ≤ 100000000) (hbase : base ≤ w.heap.size) :
    Calls Tryz.prog 22 #[v] w fun e w' => e = .returned v ∧ Own base w' v l.reverse ∧ Below base w w' := by
  have HR : Hid (Calls Tryz.prog 41 #[v] w fun e w' => e = .returned (.tuple #[]) ∧ Own base w' v l.reverse ∧ Below base w w') := rev_any h hl hbase
  clear h
  go_enter Tryz.func22, Tryz.ntmps22
  go_wp2_with fail
  refine HR.out.mono ?_
  rintro e w1 ⟨rfl, h1, h2⟩
  have H1 : Hid (Own base w1 v l.reverse ∧ Below base w w1) := ⟨h1, h2⟩
  clear h1 h2
  go_wp2_with fail
  go_ret
  exact ⟨rfl, H1.out.1, H1.out.2⟩
end Go.Proofs.YtfdcfcalbongeaaGreat

namespace Go.Proofs.YtfdcfcalbongeaaGreat
open Go.RowKit

theorem pW_snoc (old now : List Fl) (k : Nat) (hk : k < now.length) : (pW old (now.take (k + 1))).map sWr = (pW old (now.take k)).map sWr ++ (if hasE old now[k] then [] else [sWr now[k]]) := by
  unfold pW
  rw [List.take_succ_eq_append_getElem hk, List.filter_append, List.map_append]
  congr 1
  cases h : hasE old now[k] <;> simp [h]
theorem pW_len (old now : List Fl) : ((pW old now).map sWr).length ≤ now.length := by
  rw [List.length_map]
  exact List.length_filter_le _ _
set_option maxHeartbeats 8000000 in
set_option maxRecDepth 100000 in
theorem lwrites_any {w : World} {vo vn : Value} {old now : List Fl} (ho : FS w vo old) (hn : FS w vn now) (uo : FUp old) (so : FQ old) (sn : FQ now) (hne : ∀ f ∈ now, f.path ≠ []) :
    Calls Tryz.prog 25 #[vo, vn] w fun e w' => ∃ v', e = .returned v' ∧ OwS w.heap.size w' v' ((pW old now).map sWr) ∧ Below w.heap.size w w' := by
  obtain ⟨a, c, rfl, _⟩ := hn.form
  rename_i hform
  obtain ⟨n, hnn⟩ : ∃ n, now.length = n := ⟨_, rfl⟩
  have H' : Hid (FS w (.slice a now.length c) now) := hn
  have HP : Hid (FS w vo old ∧ FUp old ∧ FQ old ∧ FQ now ∧ ∀ f ∈ now, f.path ≠ []) := ⟨ho, uo, so, sn, hne⟩
  have hln : n ≤ 4000000 := by have := sn.len; omega
  clear hn ho uo so sn hne hform
  rw [hnn]
  have HN : Hid (now.length = n) := hnn
  clear hnn
  obtain ⟨G, hG⟩ : ∃ G, w.heap.size = G := ⟨_, rfl⟩
  have HZ : Hid (w.heap.size = G) := hG
  rw [hG]
  clear hG
  go_enter Tryz.func25, Tryz.ntmps25
  go_wp2_with fail
  go_loopw [5, 12] (fun o i wr => ∃ k : Nat, k ≤ n ∧ i = .int .i64 k ∧ OwS G wr o ((pW old (now.take k)).map sWr) ∧ Below w.heap.size w wr) (fun _ i _ => n - (intOf i).toNat)
  case atStart => exact ⟨0, Nat.zero_le _, rfl, OwS.nil _ _, Below.refl _ _⟩
  case round =>
    obtain ⟨k, hk, rfl, ho, hbw⟩ := hrel
    have HO : Hid (OwS G wr u5 ((pW old (now.take k)).map sWr) ∧ Below w.heap.size w wr) := ⟨ho, hbw⟩
    have hzo : G ≤ wr.heap.size := by have := hbw.size; have := HZ.out; omega
    clear ho hbw
    by_cases hlt : k < n
    · have hkl : k < now.length := by have := HN.out; omega
      obtain ⟨b, off, ea, hbw, d0, d1, d2, d3⟩ := FS.at H'.out HO.out.2 hkl
      subst ea
      have hts := pW_snoc old now k hkl
      have hll : ((pW old (now.take k)).map sWr).length + 1 ≤ 1000000000 := by have := pW_len old (now.take k); rw [List.length_take] at this; omega
      have hwt := wr_test HP.out.2.1 (HP.out.2.2.2.2 _ (List.getElem_mem hkl))
      have k1 : (0 : Int) ≤ (k : Int) := by omega
      have k2 : (k : Int) < (n : Int) := by omega
      obtain ⟨f, hf⟩ : ∃ f, now[k] = f := ⟨_, rfl⟩
      rw [hf] at d0 d1 d2 d3 hts hwt
      obtain ⟨p, t, bl, sz⟩ := f
      simp only at d0 d1 d2 d3
      obtain ⟨X, hX⟩ : ∃ X, (pW old (now.take k)).map sWr = X := ⟨_, rfl⟩
      rw [hX] at HO hts hll
      obtain ⟨q, hq⟩ : ∃ q, hasE old ⟨p, t, bl, sz⟩ = q := ⟨_, rfl⟩
      obtain ⟨r, hr⟩ : ∃ r, (fnd old p).isSome = r := ⟨_, rfl⟩
      obtain ⟨g, hg⟩ : ∃ g, fopt (fnd old p) = g := ⟨_, rfl⟩
      have hfi := fun W (h : Below w.heap.size w W) => find_any p (HP.out.1.later h) HP.out.2.2.1
      rw [hr, hg] at hfi
      simp only [hg, hq] at hwt
      rw [hq] at hts
      obtain ⟨gp, gt, gb, gs⟩ := g
      have HF : Hid (∀ W, Below w.heap.size w W → Calls Tryz.prog 43 #[vo, .string (bs p)] W fun e w' => e = .returned (.tuple #[.agg #[.string (bs gp), .string (bs gt), .int .i64 gb, .int .i64 gs], .bool r]) ∧ Below W.heap.size W w') := hfi
      have HT : Hid ((pW old (now.take (k + 1))).map sWr = X ++ (if q then [] else [sWr ⟨p, t, bl, sz⟩]) ∧ X.length + 1 ≤ 1000000000) := ⟨hts, hll⟩
      have HB1 : Hid (Below w.heap.size w (wr.alloc (.cells #[.string (bs p), .string (bs t), .int .i64 bl, .int .i64 sz] 30)) ∧ OwS G (wr.alloc (.cells #[.string (bs p), .string (bs t), .int .i64 bl, .int .i64 sz] 30)) u5 X) := ⟨bstep HO.out.2 (balloc _ _), HO.out.1.later (balloc _ _)⟩
      have hq1 := neq_run
      have hq2 := fguard_run
      clear hts hll hf hX hfi hr hg hq hbw
      go_wp2_with fail
      refine (HF.out _ HB1.out.1).mono ?_
      rintro e w1 ⟨rfl, hb1⟩
      obtain ⟨x0, x1, x2, x3⟩ := file_cells (bstep hb1 (balloc w1 (.cells #[.string (bs gp), .string (bs gt), .int .i64 gb, .int .i64 gs] 30)))
      have O1 : Hid (Below w.heap.size w (w1.alloc (.cells #[.string (bs gp), .string (bs gt), .int .i64 gb, .int .i64 gs] 30)) ∧ OwS G (w1.alloc (.cells #[.string (bs gp), .string (bs gt), .int .i64 gb, .int .i64 gs] 30)) u5 X) := ⟨bstep (bstep HB1.out.1 hb1) (balloc _ _), (HB1.out.2.later hb1).later (balloc _ _)⟩
      have HZ1 : Hid (G ≤ (w1.alloc (.cells #[.string (bs gp), .string (bs gt), .int .i64 gb, .int .i64 gs] 30)).heap.size) := by
        have := O1.out.1.size
        have h2 := HZ.out
        show _ ≤ _
        omega
      clear hb1 d0 d1 d2 d3
      cases q with
      | true =>
        have HT2 : Hid ((pW old (now.take (k + 1))).map sWr = X) := by show _ = _; have := HT.out.1; simpa using this
        go_wp2_with fail
        go_roundw
        case rel => exact ⟨k + 1, by omega, by go_num, by rw [HT2.out]; exact O1.out.2, O1.out.1⟩
        case measure => simp [intOf]; omega
      | false =>
        have HT2 : Hid ((pW old (now.take (k + 1))).map sWr = X ++ [sWr ⟨p, t, bl, sz⟩]) := by show _ = _; have := HT.out.1; simpa using this
        go_wp2_with (at_builtin; refine app_stepKN (base := G) (sWr ⟨p, t, bl, sz⟩) (by simp) O1.out.2 HT.out.2 HZ1.out rfl (.tmp 26) (.tmp 31) rfl rfl rfl ?_; intro v5 w5 ho5 hb5 hs5; have O5 : Hid (OwS G w5 v5 (X ++ [sWr ⟨p, t, bl, sz⟩]) ∧ Below w.heap.size w w5) := ⟨ho5, below_trans O1.out.1 (by rw [HZ.out]; exact hb5)⟩; clear ho5 hb5 hs5)
        go_roundw
        case rel => exact ⟨k + 1, by omega, by go_num, by rw [HT2.out]; exact O5.out.1, O5.out.2⟩
        case measure => simp [intOf]; omega
    · obtain rfl : k = n := by omega
      have HE : Hid (OwS G wr u5 ((pW old now).map sWr) ∧ Below w.heap.size w wr) := by
        have := HO.out
        rw [List.take_of_length_le (by have := HN.out; omega)] at this
        exact this
      go_wp2_with fail
      go_ret
      exact ⟨_, rfl, HE.out.1, by rw [← HZ.out]; exact HE.out.2⟩
end Go.Proofs.YtfdcfcalbongeaaGreat
