/-
  The landed plan: paths of files, steps at paths.
-/
import Derived.Test.YtfdcfcalbongeaaKa
import Derived.Test.YtfdcfcalbongeaaPs
import Derived.OwnWalk
namespace Go.Proofs.Ytfdcfcalbongeaa
open Go.RowKit

theorem info9K : (Try.prog.info? 9).map (fun i => (i.zero, i.size, i.bytes)) = some (some (.string ⟨#[]⟩), 1, 16) := by kernel_rfl
theorem und27K : Try.prog.underlying 27 = some (.slice 9) := by kernel_rfl
theorem below_none {w w' : World} (h : w.grownBy w' none) : Below w.heap.size w w' := (Below.refl _ _).grown h (Nat.le_refl _) (fun k hk => by cases hk)
theorem app_oneN {w : World} {base n : Nat} {v : Value} {l : List (List UInt8)} (p : List UInt8) (hsz : w.heap.size = n) (hown : Own base w v l) (hb : l.length + 1 ≤ 8796093022208) (hbase : base ≤ w.heap.size)
    {ops : Array Oper} {rest : List Oper} {o : Oper} {a : Act} {Q : Exit → Act → World → Prop} (hgd : o.guard = none) (s y : Operand)
    (ho : o.op = .call { callee := .builtin .append, args := #[s, y], argTypes := #[27, 27] }) (hv : a.eval s = v) (hx : a.eval y = .slice (some ⟨n, 0, none⟩) 1 1)
    (h : ∀ v' w', Own base w' v' (l ++ [p]) → Below base w w' → base ≤ w'.heap.size → w.grownBy w' v.ownBlock → (v'.ownBlock = v.ownBlock ∨ v'.ownBlock = some (w.heap.size + 1)) → wpList Try.prog ops Q rest (a.put o.dst v') w') :
    wpList Try.prog ops Q (o :: rest) a (w.alloc (.cells #[.string (bs p)] 9)) := by
  subst hsz
  exact app_one p hown hb hbase hgd s y ho hv hx h
theorem app_stepKN {w : World} {base n : Nat} {v : Value} {l : List Sp} (s : Sp) (hsz : w.heap.size = n) (hown : OwS base w v l) (hb : l.length + 1 ≤ 1000000000) (hbase : base ≤ w.heap.size)
    {ops : Array Oper} {rest : List Oper} {o : Oper} {a : Act} {Q : Exit → Act → World → Prop} (hgd : o.guard = none) (d y : Operand)
    (ho : o.op = .call { callee := .builtin .append, args := #[d, y], argTypes := #[23, 23] }) (hv : a.eval d = v) (hx : a.eval y = .slice (some ⟨n, 0, none⟩) 1 1)
    (h : ∀ v' w', OwS base w' v' (l ++ [s]) → Below base w w' → (∀ j, j < w.heap.size → v.ownBlock ≠ some j → w'.heap[j]? = w.heap[j]?) → wpList Try.prog ops Q rest (a.put o.dst v') w') :
    wpList Try.prog ops Q (o :: rest) a (w.alloc (.cells #[.int .i64 s.kind, .string (bs s.p), .string (bs s.f.path), .string (bs s.f.text), .int .i64 s.f.blob, .int .i64 s.f.size] 37)) := by
  subst hsz
  exact app_step s hown hb hbase hgd d y ho hv hx h
theorem file_blk {W : World} {g : Nat} {p t : List UInt8} {bl sz : Int} (h : W.heap[g]? = some (.cells #[.string (bs p), .string (bs t), .int .i64 bl, .int .i64 sz] 32 (0, 0))) :
    W.cell? ⟨g, 0, none⟩ = some (.string (bs p)) ∧ W.cell? ⟨g, 1, none⟩ = some (.string (bs t)) ∧ W.cell? ⟨g, 2, none⟩ = some (.int .i64 bl) ∧ W.cell? ⟨g, 3, none⟩ = some (.int .i64 sz) :=
  ⟨by simp [World.cell?, h], by simp [World.cell?, h], by simp [World.cell?, h], by simp [World.cell?, h]⟩
/-- a file that was laid in a block of its own -/
theorem file_cells {w w' : World} {p t : List UInt8} {bl sz : Int} (hb : Below (w.alloc (.cells #[.string (bs p), .string (bs t), .int .i64 bl, .int .i64 sz] 32)).heap.size (w.alloc (.cells #[.string (bs p), .string (bs t), .int .i64 bl, .int .i64 sz] 32)) w') :
    w'.cell? ⟨w.heap.size, 0, none⟩ = some (.string (bs p)) ∧ w'.cell? ⟨w.heap.size, 1, none⟩ = some (.string (bs t)) ∧ w'.cell? ⟨w.heap.size, 2, none⟩ = some (.int .i64 bl) ∧ w'.cell? ⟨w.heap.size, 3, none⟩ = some (.int .i64 sz) := by
  have hl : w.heap.size < (w.alloc (.cells #[.string (bs p), .string (bs t), .int .i64 bl, .int .i64 sz] 32)).heap.size := by simp
  exact file_blk ((hb.block _ hl).trans (heap_alloc_new w _))
set_option maxHeartbeats 4000000 in
set_option maxRecDepth 100000 in
/-- a step at each of the paths -/
theorem lsteps_any {w : World} {v : Value} {A : List (List UInt8)} (q : Int) (h : SS w v A) (hl : A.length ≤ 1000000) :
    Calls Try.prog 19 #[.int .i64 q, v] w fun e w' => ∃ v', e = .returned v' ∧ OwS w.heap.size w' v' (A.map fun p => ⟨q, p, zfP⟩) ∧ Below w.heap.size w w' := by
  obtain ⟨a, c, n, hn, rfl, hcell⟩ := h.form'
  have HC : Hid (∀ k, (hk : k < A.length) → ∃ b off, a = some ⟨b, off, none⟩ ∧ b < w.heap.size ∧ w.cell? ⟨b, off + k, none⟩ = some (.string (bs A[k]))) := hcell
  have HN : Hid (A.length = n) := hn.symm
  have hln : n ≤ 1000000 := by omega
  clear h hcell hn hl
  obtain ⟨i0, hi, hz0, hz1, hz2⟩ := info_parts info37
  obtain ⟨G, hG⟩ : ∃ G, w.heap.size = G := ⟨_, rfl⟩
  have HZ : Hid (w.heap.size = G) := hG
  rw [hG]
  clear hG
  go_enter Try.func19, Try.ntmps19
  go_wp2_with (refine Go.wpList_make_own _ rfl _ _ 23 rfl G 37 i0 _ 6 und23 hi hz0 hz1 .i64 .i64 _ n rfl rfl rfl (by rw [hz2]; omega) (by unfold maxLen; omega) (by have := HZ.out; omega) ?_; intro w1 o1 g1; have O1 : Hid (OwS G w1 (.slice (some ⟨w.heap.size, 0, none⟩) 0 n) [] ∧ Below w.heap.size w w1) := ⟨OwR.own o1, below_none g1⟩; clear o1 g1)
  go_loopw [5, 13] (fun o i wr => ∃ k : Nat, k ≤ n ∧ i = .int .i64 k ∧ OwS G wr o ((A.take k).map fun p => ⟨q, p, zfP⟩) ∧ Below w.heap.size w wr) (fun _ i _ => n - (intOf i).toNat)
  case atStart => exact ⟨0, Nat.zero_le _, rfl, O1.out.1, O1.out.2⟩
  case round =>
    obtain ⟨k, hk, rfl, ho, hbw⟩ := hrel
    have HO : Hid (OwS G wr u5 ((A.take k).map fun p => ⟨q, p, zfP⟩) ∧ Below w.heap.size w wr) := ⟨ho, hbw⟩
    have hzo : G ≤ wr.heap.size := by have := hbw.size; have := HZ.out; omega
    clear ho hbw
    by_cases hlt : k < n
    · have hkl : k < A.length := by have := HN.out; omega
      obtain ⟨b, off, ea, hbl, d0⟩ := HC.out k hkl
      subst ea
      have d0 := (HO.out.2.cell (p := ⟨b, off + k, none⟩) hbl).trans d0
      have hts : (A.take (k + 1)).map (fun p => (⟨q, p, zfP⟩ : Sp)) = (A.take k).map (fun p => ⟨q, p, zfP⟩) ++ [⟨q, A[k], zfP⟩] := by
        rw [List.take_succ_eq_append_getElem hkl, List.map_append]; rfl
      have hll : ((A.take k).map (fun p => (⟨q, p, zfP⟩ : Sp))).length + 1 ≤ 1000000000 := by rw [List.length_map, List.length_take]; omega
      have k1 : (0 : Int) ≤ (k : Int) := by omega
      have k2 : (k : Int) < (n : Int) := by omega
      obtain ⟨p, hp⟩ : ∃ p, A[k] = p := ⟨_, rfl⟩
      rw [hp] at d0 hts
      obtain ⟨X, hX⟩ : ∃ X, (A.take k).map (fun p => (⟨q, p, zfP⟩ : Sp)) = X := ⟨_, rfl⟩
      rw [hX] at HO hts hll
      have HT : Hid ((A.take (k + 1)).map (fun p => (⟨q, p, zfP⟩ : Sp)) = X ++ [⟨q, p, zfP⟩] ∧ X.length + 1 ≤ 1000000000) := ⟨hts, hll⟩
      clear hts hll hp hX hbl
      go_wp2_with (at_builtin; refine app_step (base := G) ⟨q, p, zfP⟩ HO.out.1 HT.out.2 hzo rfl (.tmp 17) (.tmp 21) rfl rfl rfl ?_; intro v5 w5 ho5 hb5 hs5; have O5 : Hid (OwS G w5 v5 (X ++ [⟨q, p, zfP⟩]) ∧ Below w.heap.size w w5) := ⟨ho5, below_trans HO.out.2 (by rw [HZ.out]; exact hb5)⟩; clear ho5 hb5 hs5)
      go_roundw
      case rel => exact ⟨k + 1, by omega, by go_num, by rw [HT.out.1]; exact O5.out.1, O5.out.2⟩
      case measure => simp [intOf]; omega
    · obtain rfl : k = n := by omega
      have HE : Hid (OwS G wr u5 (A.map fun p => ⟨q, p, zfP⟩) ∧ Below w.heap.size w wr) := by
        have := HO.out
        rw [List.take_of_length_le (by have := HN.out; omega)] at this
        exact this
      go_wp2_with fail
      go_ret
      exact ⟨_, rfl, HE.out.1, by rw [← HZ.out]; exact HE.out.2⟩
set_option maxHeartbeats 4000000 in
set_option maxRecDepth 100000 in
/-- the paths of files -/
theorem lpaths_any {w : World} {v : Value} {l : List Fl} (h : FS w v l) (h5 : l.length ≤ 1000000) :
    Calls Try.prog 22 #[v] w fun e w' => ∃ v', e = .returned v' ∧ Own w.heap.size w' v' (l.map Fl.path) ∧ Below w.heap.size w w' := by
  have H : Hid (FS w v l) := h
  obtain ⟨a, c, rfl, _⟩ := h.form
  rename_i hform
  clear h hform
  obtain ⟨n, hn⟩ : ∃ n, l.length = n := ⟨_, rfl⟩
  have H' : Hid (FS w (.slice a l.length c) l) := H.out
  clear H
  rw [hn] at h5 ⊢
  have HN : Hid (l.length = n) := hn
  clear hn
  obtain ⟨i0, hi, hz0, hz1, hz2⟩ := info_parts info9K
  obtain ⟨G, hG⟩ : ∃ G, w.heap.size = G := ⟨_, rfl⟩
  have HZ : Hid (w.heap.size = G) := hG
  rw [hG]
  clear hG
  go_enter Try.func22, Try.ntmps22
  go_wp2_with (refine Go.wpList_make_own _ rfl _ _ 27 rfl G 9 i0 _ 1 und27K hi hz0 hz1 .i64 .i64 _ n rfl rfl rfl (by rw [hz2]; omega) (by unfold maxLen; omega) (by have := HZ.out; omega) ?_; intro w1 o1 g1; have O1 : Hid (Own G w1 (.slice (some ⟨w.heap.size, 0, none⟩) 0 n) [] ∧ Below w.heap.size w w1) := ⟨o1, below_none g1⟩; clear o1 g1)
  go_loopw [3, 11] (fun o i wr => ∃ k : Nat, k ≤ n ∧ i = .int .i64 k ∧ Own G wr o ((l.take k).map Fl.path) ∧ Below w.heap.size w wr) (fun _ i _ => n - (intOf i).toNat)
  case atStart => exact ⟨0, Nat.zero_le _, rfl, O1.out.1, O1.out.2⟩
  case round =>
    obtain ⟨k, hk, rfl, ho, hbw⟩ := hrel
    have HO : Hid (Own G wr u3 ((l.take k).map Fl.path) ∧ Below w.heap.size w wr) := ⟨ho, hbw⟩
    have hzo : G ≤ wr.heap.size := by have := hbw.size; have := HZ.out; omega
    clear ho hbw
    by_cases hlt : k < n
    · have hkl : k < l.length := by have := HN.out; omega
      obtain ⟨b, off, ea, hbw, d0, d1, d2, d3⟩ := FS.at H'.out HO.out.2 hkl
      subst ea
      have hts : (l.take (k + 1)).map Fl.path = (l.take k).map Fl.path ++ [l[k].path] := by
        rw [List.take_succ_eq_append_getElem hkl, List.map_append]; rfl
      have hll : ((l.take k).map Fl.path).length + 1 ≤ 8796093022208 := by rw [List.length_map, List.length_take]; omega
      have k1 : (0 : Int) ≤ (k : Int) := by omega
      have k2 : (k : Int) < (n : Int) := by omega
      obtain ⟨f, hf⟩ : ∃ f, l[k] = f := ⟨_, rfl⟩
      rw [hf] at d0 d1 d2 d3 hts
      obtain ⟨p, t, bl, sz⟩ := f
      simp only at d0 d1 d2 d3 hts
      obtain ⟨X, hX⟩ : ∃ X, (l.take k).map Fl.path = X := ⟨_, rfl⟩
      rw [hX] at HO hts hll
      have HT : Hid ((l.take (k + 1)).map Fl.path = X ++ [p] ∧ X.length + 1 ≤ 8796093022208) := ⟨hts, hll⟩
      have HA : Hid (Own G (wr.alloc (.cells #[.string (bs p), .string (bs t), .int .i64 bl, .int .i64 sz] 32)) u3 X ∧ Below w.heap.size w (wr.alloc (.cells #[.string (bs p), .string (bs t), .int .i64 bl, .int .i64 sz] 32))) := ⟨HO.out.1.alloc _, bstep HO.out.2 (balloc _ _)⟩
      have hza : G ≤ (wr.alloc (.cells #[.string (bs p), .string (bs t), .int .i64 bl, .int .i64 sz] 32)).heap.size := by simp; omega
      have HZa : Hid (G ≤ (wr.alloc (.cells #[.string (bs p), .string (bs t), .int .i64 bl, .int .i64 sz] 32)).heap.size) := hza
      clear hts hll hf hX hbw hza
      go_wp2_with (at_builtin; refine app_oneN (base := G) p (by simp) HA.out.1 HT.out.2 HZa.out rfl (.tmp 15) (.tmp 18) rfl rfl rfl ?_; intro v5 w5 ho5 hb5 hbs5 _ _; have O5 : Hid (Own G w5 v5 (X ++ [p]) ∧ Below w.heap.size w w5) := ⟨ho5, below_trans HA.out.2 (by rw [HZ.out]; exact hb5)⟩; clear ho5 hb5 hbs5)
      go_roundw
      case rel => exact ⟨k + 1, by omega, by go_num, by rw [HT.out.1]; exact O5.out.1, O5.out.2⟩
      case measure => simp [intOf]; omega
    · obtain rfl : k = n := by omega
      have HE : Hid (Own G wr u3 (l.map Fl.path) ∧ Below w.heap.size w wr) := by
        have := HO.out
        rw [List.take_of_length_le (by have := HN.out; omega)] at this
        exact this
      go_wp2_with fail
      go_ret
      exact ⟨_, rfl, HE.out.1, by rw [← HZ.out]; exact HE.out.2⟩
end Go.Proofs.Ytfdcfcalbongeaa
