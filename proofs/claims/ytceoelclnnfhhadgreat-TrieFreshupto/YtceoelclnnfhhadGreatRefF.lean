/-
  The document's tree: what is told.
-/
import Derived.Test.YtceoelclnnfhhadGreatRefT
import Derived.Test.YtceoelclnnfhhadGreatTold
namespace Go.Proofs.YtceoelclnnfhhadGreat
open Go.RowKit

theorem rfiles_none {L : List Fl} (h : Good L) {d : List UInt8} (hd : isD L d = false) : rfiles L d = [] := by
  rw [List.eq_nil_iff_forall_not_mem]
  intro x hx
  have := inS_isD h ((mem_rfiles h d x).1 hx)
  rw [hd] at this; cases this
theorem rdirs_none {L : List Fl} (h : Good L) (hs : Srt L) {d : List UInt8} (hd : isD L d = false) : rdirs (pcs d) L [] = [] := by
  rw [List.eq_nil_iff_forall_not_mem]
  intro x hx
  have := inS_isD h ((mem_rdirs h hs d x).1 hx)
  rw [hd] at this; cases this
theorem rfiles_next {L : List Fl} {d : List UInt8} {k : Nat} (hk : k < L.length) : rfiles (L.take (k + 1)) d = rfiles (L.take k) d ++ (if dir L[k].path = d then [L[k].path] else []) := by
  rw [List.take_add_one, List.getElem?_eq_getElem hk]
  unfold rfiles
  rw [List.filter_append, List.map_append]
  congr 1
  by_cases h : dir L[k].path = d
  · simp [h]
  · simp [h]
theorem count_next {L : List Fl} {P : Fl → Bool} {k : Nat} (hk : k < L.length) : (L.take (k + 1)).countP P = (L.take k).countP P + (if P L[k] = true then 1 else 0) := by
  rw [List.take_add_one, List.getElem?_eq_getElem hk, List.countP_append]
  congr 1
  simp [List.countP_cons]
theorem sumC_step {L : List Fl} {P : Fl → Bool} {k : Nat} (hk : k < L.length) (z : Int) : sumC P (L.drop k) z = sumC P (L.drop (k + 1)) (if P L[k] then addC z L[k].size else z) := by
  rw [List.drop_eq_getElem_cons hk]; rfl
theorem addC_bd {a b : Int} (h0 : 0 ≤ a) (h1 : a ≤ 9223372036854775807) (h2 : 0 ≤ b) (_ : b ≤ 9223372036854775807) : 0 ≤ addC a b ∧ addC a b ≤ 9223372036854775807 := by
  unfold addC; split <;> omega
set_option maxRecDepth 100000 in
set_option maxHeartbeats 1000000 in
theorem radd_any (a b : Int) (w : World) (h0 : 0 ≤ a) (h1 : a ≤ 9223372036854775807) (h2 : 0 ≤ b) (h3 : b ≤ 9223372036854775807) :
    Calls Tryz.prog 68 #[.int .i64 a, .int .i64 b] w fun e w' => e = .returned (.int .i64 (addC a b)) ∧ w' = w := by
  obtain ⟨r, hr⟩ : ∃ r, addC a b = r := ⟨_, rfl⟩
  have HR : Hid (addC a b = r) := hr
  rw [hr]
  clear hr
  by_cases h : a > 9223372036854775807 - b
  · have h' : 9223372036854775807 - b < a := h
    go_enter Tryz.func68, Tryz.ntmps68
    go_wp2_with fail
    go_ret
    exact ⟨by rw [← HR.out]; unfold addC; rw [if_pos (by omega)]; rfl, rfl⟩
  · have h' : ¬ 9223372036854775807 - b < a := h
    have h4 : a + b ≤ 9223372036854775807 := by omega
    go_enter Tryz.func68, Tryz.ntmps68
    go_wp2_with fail
    go_ret
    exact ⟨by rw [← HR.out]; unfold addC; rw [if_neg (by omega)]; rfl, rfl⟩

theorem sizesum (L : List Fl) (d : List UInt8) : (L.map fun f => if abvV d f.path then sz f else 0).sum = tot L (pcs d) := by
  rw [← tot_sum]
  congr 1
  apply List.map_congr_left
  intro f _
  rw [abv_pre]; rfl

set_option maxRecDepth 100000 in
set_option maxHeartbeats 4000000 in
theorem rfilesT_any {w : World} {base t : Nat} {L : List Fl} (h : RT w base t L) (d : List UInt8) (hd : d.length ≤ 4194304) :
    Calls Tryz.prog 8 #[.pointer (some ⟨t, 0, none⟩), .string (bs d)] w fun e w' => ∃ v, e = .returned v ∧ Own w.heap.size w' v (rfiles L d) ∧ Below w.heap.size w w' := by
  have HT : Hid (RT w base t L ∧ d.length ≤ 4194304) := ⟨h, hd⟩
  obtain ⟨a, c, hc⟩ := h.cell
  have hlen := h.good.len
  clear h
  obtain ⟨n, hn⟩ : ∃ n, L.length = n := ⟨_, rfl⟩
  have HN : Hid (L.length = n) := hn
  rw [hn] at hlen
  have H' : Hid (∀ wr, Below w.heap.size w wr → wr.cell? ⟨t, 0, none⟩ = some (.slice a n c) ∧ FS wr (.slice a L.length c) L) := fun wr hb => ⟨by rw [← hn]; exact (hc wr hb).1, (hc wr hb).2.fs⟩
  clear hn hc
  have HI : Hid (∀ W, Below w.heap.size w W → Calls Tryz.prog 25 #[.pointer (some ⟨t, 0, none⟩), .string (bs d)] W fun e w' => e = .returned (.bool (isD L d)) ∧ Below W.heap.size W w') := fun W hW => ris_any (HT.out.1.later hW) d HT.out.2
  cases hi : isD L d
  · rw [rfiles_none HT.out.1.good hi]
    rw [hi] at HI
    clear hi
    by_cases hn0 : 0 < n
    · go_enter Tryz.func8, Tryz.ntmps8
      go_wp2_with fail
      go_loopw [5, 6] (fun u i wr => u = .slice none 0 0 ∧ i = .int .i64 0 ∧ Below w.heap.size w wr) (fun _ _ _ => 0)
      case atStart => exact ⟨rfl, rfl, Below.refl _ _⟩
      case round =>
        obtain ⟨rfl, rfl, hb⟩ := hrel
        have HB : Hid (Below w.heap.size w wr) := hb
        have c0 := (H'.out wr hb).1
        have hn1 : (0 : Int) < (n : Int) := by omega
        clear hb
        go_wp2_with fail
        refine (HI.out _ HB.out).mono ?_
        rintro e w2 ⟨rfl, hb2⟩
        have HB2 : Hid (Below w.heap.size w w2) := bstep HB.out hb2
        clear hb2
        go_wp2_with fail
        go_ret
        exact ⟨_, rfl, Own.nil _ _, HB2.out⟩
    · obtain rfl : n = 0 := by omega
      go_enter Tryz.func8, Tryz.ntmps8
      go_wp2_with fail
      go_loopw [5, 6] (fun u i wr => u = .slice none 0 0 ∧ i = .int .i64 0 ∧ Below w.heap.size w wr) (fun _ _ _ => 0)
      case atStart => exact ⟨rfl, rfl, Below.refl _ _⟩
      case round =>
        obtain ⟨rfl, rfl, hb⟩ := hrel
        have HB2 : Hid (Below w.heap.size w wr) := hb
        have c0 := (H'.out wr hb).1
        clear hb
        go_wp2_with fail
        go_ret
        exact ⟨_, rfl, Own.nil _ _, HB2.out⟩
  · skip
    rw [hi] at HI
    clear hi
    go_enter Tryz.func8, Tryz.ntmps8
    go_wp2_with fail
    go_loopw [5, 6] (fun u i wr => ∃ k : Nat, k ≤ n ∧ i = .int .i64 k ∧ Below w.heap.size w wr ∧ Own w.heap.size wr u (rfiles (L.take k) d)) (fun _ i _ => n - (intOf i).toNat)
    case atStart => exact ⟨0, by omega, rfl, Below.refl _ _, Own.nil _ _⟩
    case round =>
      obtain ⟨k, hk, rfl, hb, hinv⟩ := hrel
      have HB : Hid (Below w.heap.size w wr ∧ Own w.heap.size wr u5 (rfiles (L.take k) d)) := ⟨hb, hinv⟩
      clear hb hinv
      have c0 := (H'.out wr HB.out.1).1
      by_cases hlt : k < n
      · have hkl : k < L.length := by have := HN.out; omega
        have k1 : (0 : Int) ≤ (k : Int) := by omega
        have k2 : (k : Int) < (n : Int) := by omega
        go_wp2_with fail
        refine (HI.out _ HB.out.1).mono ?_
        rintro e w2 ⟨rfl, hb2⟩
        have HB2 : Hid (Below w.heap.size w w2 ∧ Below wr.heap.size wr w2) := ⟨bstep HB.out.1 hb2, hb2⟩
        clear hb2 c0
        have c0 := (H'.out w2 HB2.out.1).1
        obtain ⟨b, off, ea, hbw, d0, d1, d2, d3⟩ := FS.at (H'.out w2 HB2.out.1).2 (Below.refl _ _) hkl
        subst ea
        have hpl := HT.out.1.pathLen hkl
        have HST : Hid (rfiles (L.take (k + 1)) d = rfiles (L.take k) d ++ (if (dir L[k].path == d) = true then [L[k].path] else []) ∧ (rfiles (L.take k) d).length ≤ 512) := by
          refine ⟨?_, ?_⟩
          · rw [rfiles_next hkl]; simp only [beq_iff_eq]
          · unfold rfiles; rw [List.length_map]; exact Nat.le_trans (List.length_filter_le _ _) (by simp; omega)
        obtain ⟨f, hf⟩ : ∃ f, L[k] = f := ⟨_, rfl⟩
        rw [hf] at d0 d1 d2 d3 hpl HST
        clear hf hkl
        obtain ⟨p, tx, bl, s⟩ := f
        simp only at d0 d1 d2 d3 hpl HST
        have t1 := bs_toList (dir p)
        have t2 := bs_toList d
        go_wp2_with fail
        refine (rdir_any p _ (by omega)).mono ?_
        rintro e w3 ⟨rfl, hw3⟩
        subst hw3
        have HB3 : Hid (Below w.heap.size w w3 ∧ Below wr.heap.size wr w3) := HB2.out
        have c3 := c0
        have g3 := d3
        cases ha : (dir p == d)
        · rw [ha] at HST
          go_wp2_with fail
          go_roundw
          case rel => exact ⟨k + 1, by omega, by go_num, HB3.out.1, by have e := HST.out.1; simp at e; rw [e]; exact HB.out.2.later HB3.out.2⟩
          case measure => simp [intOf]; omega
        · rw [ha] at HST
          go_wp2_with (first | (at_builtin; refine app_one p (HB.out.2.later HB3.out.2) (by have := HST.out.2; omega) HB3.out.1.size rfl (.tmp 32) (.tmp 41) rfl rfl rfl ?_; intro v6 w6 ho6 hb6 hz6 hg6 hv6; have H6 : Hid (Own w.heap.size w6 v6 (rfiles (L.take (k + 1)) d) ∧ Below w.heap.size w w6) := ⟨by have e := HST.out.1; simp at e; rw [e]; exact ho6, below_trans HB3.out.1 hb6⟩; clear ho6 hb6 hz6 hg6 hv6))
          go_roundw
          case rel => exact ⟨k + 1, by omega, by go_num, H6.out.2, H6.out.1⟩
          case measure => simp [intOf]; omega
      · obtain rfl : n = k := by omega
        have HE : Hid (L.drop n = [] ∧ L.take n = L) := ⟨List.drop_eq_nil_of_le (by have := HN.out; omega), List.take_of_length_le (by have := HN.out; omega)⟩
        go_wp2_with fail
        go_ret
        exact ⟨u5, rfl, by have := HB.out.2; rw [HE.out.2] at this; exact this, HB.out.1⟩

set_option maxRecDepth 100000 in
set_option maxHeartbeats 4000000 in
theorem rcountT_any {w : World} {base t : Nat} {L : List Fl} (h : RT w base t L) (d : List UInt8) (hd : d.length ≤ 4194304) :
    Calls Tryz.prog 42 #[.pointer (some ⟨t, 0, none⟩), .string (bs d)] w fun e w' => e = .returned (.int .i64 (countS L d : Nat)) ∧ Below w.heap.size w w' := by
  have HT : Hid (RT w base t L ∧ d.length ≤ 4194304) := ⟨h, hd⟩
  obtain ⟨a, c, hc⟩ := h.cell
  have hlen := h.good.len
  clear h
  obtain ⟨n, hn⟩ : ∃ n, L.length = n := ⟨_, rfl⟩
  have HN : Hid (L.length = n) := hn
  rw [hn] at hlen
  have H' : Hid (∀ wr, Below w.heap.size w wr → wr.cell? ⟨t, 0, none⟩ = some (.slice a n c) ∧ FS wr (.slice a L.length c) L) := fun wr hb => ⟨by rw [← hn]; exact (hc wr hb).1, (hc wr hb).2.fs⟩
  clear hn hc
  have HI : Hid (∀ W, Below w.heap.size w W → Calls Tryz.prog 25 #[.pointer (some ⟨t, 0, none⟩), .string (bs d)] W fun e w' => e = .returned (.bool (isD L d)) ∧ Below W.heap.size W w') := fun W hW => ris_any (HT.out.1.later hW) d HT.out.2
  cases hi : isD L d
  · have HC : Hid (countS L d = 0) := by show _ = _; unfold countS; rw [hi]; rfl
    rw [HC.out]
    rw [hi] at HI
    clear hi
    by_cases hn0 : 0 < n
    · go_enter Tryz.func42, Tryz.ntmps42
      go_wp2_with fail
      go_loopw [5, 6] (fun u i wr => u = .int .i64 0 ∧ i = .int .i64 0 ∧ Below w.heap.size w wr) (fun _ _ _ => 0)
      case atStart => exact ⟨rfl, rfl, Below.refl _ _⟩
      case round =>
        obtain ⟨rfl, rfl, hb⟩ := hrel
        have HB : Hid (Below w.heap.size w wr) := hb
        have c0 := (H'.out wr hb).1
        have hn1 : (0 : Int) < (n : Int) := by omega
        clear hb
        go_wp2_with fail
        refine (HI.out _ HB.out).mono ?_
        rintro e w2 ⟨rfl, hb2⟩
        have HB2 : Hid (Below w.heap.size w w2) := bstep HB.out hb2
        clear hb2
        go_wp2_with fail
        go_ret
        exact ⟨rfl, HB2.out⟩
    · obtain rfl : n = 0 := by omega
      go_enter Tryz.func42, Tryz.ntmps42
      go_wp2_with fail
      go_loopw [5, 6] (fun u i wr => u = .int .i64 0 ∧ i = .int .i64 0 ∧ Below w.heap.size w wr) (fun _ _ _ => 0)
      case atStart => exact ⟨rfl, rfl, Below.refl _ _⟩
      case round =>
        obtain ⟨rfl, rfl, hb⟩ := hrel
        have HB2 : Hid (Below w.heap.size w wr) := hb
        have c0 := (H'.out wr hb).1
        clear hb
        go_wp2_with fail
        go_ret
        exact ⟨rfl, HB2.out⟩
  · have HC : Hid (countS L d = L.countP (fun f => abvV d f.path)) := by show _ = _; unfold countS; rw [hi, cnt_count]; rfl
    rw [HC.out]
    rw [hi] at HI
    clear hi
    go_enter Tryz.func42, Tryz.ntmps42
    go_wp2_with fail
    go_loopw [5, 6] (fun u i wr => ∃ k : Nat, k ≤ n ∧ i = .int .i64 k ∧ Below w.heap.size w wr ∧ ∃ z : Nat, u = .int .i64 z ∧ (L.take k).countP (fun f => abvV d f.path) = z) (fun _ i _ => n - (intOf i).toNat)
    case atStart => exact ⟨0, by omega, rfl, Below.refl _ _, 0, rfl, rfl⟩
    case round =>
      obtain ⟨k, hk, rfl, hb, hinv⟩ := hrel
      obtain ⟨z, rfl, hz⟩ := hinv
      have HB : Hid (Below w.heap.size w wr ∧ (L.take k).countP (fun f => abvV d f.path) = z) := ⟨hb, hz⟩
      have hz5 : z ≤ 512 := by rw [← hz]; exact Nat.le_trans List.countP_le_length (by simp; omega)
      clear hb hz
      have c0 := (H'.out wr HB.out.1).1
      by_cases hlt : k < n
      · have hkl : k < L.length := by have := HN.out; omega
        have k1 : (0 : Int) ≤ (k : Int) := by omega
        have k2 : (k : Int) < (n : Int) := by omega
        go_wp2_with fail
        refine (HI.out _ HB.out.1).mono ?_
        rintro e w2 ⟨rfl, hb2⟩
        have HB2 : Hid (Below w.heap.size w w2 ∧ Below wr.heap.size wr w2) := ⟨bstep HB.out.1 hb2, hb2⟩
        clear hb2 c0
        have c0 := (H'.out w2 HB2.out.1).1
        obtain ⟨b, off, ea, hbw, d0, d1, d2, d3⟩ := FS.at (H'.out w2 HB2.out.1).2 (Below.refl _ _) hkl
        subst ea
        have hpl := HT.out.1.pathLen hkl
        have HST : Hid ((L.take (k + 1)).countP (fun f => abvV d f.path) = z + (if abvV d L[k].path = true then 1 else 0)) := by
          show _ = _
          rw [count_next hkl, HB.out.2]
        obtain ⟨f, hf⟩ : ∃ f, L[k] = f := ⟨_, rfl⟩
        rw [hf] at d0 d1 d2 d3 hpl HST
        clear hf hkl
        obtain ⟨p, tx, bl, s⟩ := f
        simp only at d0 d1 d2 d3 hpl HST
        go_wp2_with fail
        refine (rabv_any d p _ (by omega) (by omega)).mono ?_
        rintro e w3 ⟨rfl, hb3⟩
        have HB3 : Hid (Below w.heap.size w w3 ∧ Below wr.heap.size wr w3) := ⟨bstep HB2.out.1 hb3, bstep HB2.out.2 hb3⟩
        have c3 := (H'.out w3 HB3.out.1).1
        have g3 : w3.cell? ⟨b, off + k * 4 + 3, none⟩ = some (.int .i64 s) := (hb3.cell (p := ⟨b, off + k * 4 + 3, none⟩) hbw).trans d3
        clear hb3 c0 d0 d1 d2 d3
        cases ha : abvV d p
        · rw [ha] at HST
          clear ha
          go_wp2_with fail
          go_roundw
          case rel => exact ⟨k + 1, by omega, by go_num, HB3.out.1, z, rfl, by have e := HST.out; simp at e; exact e⟩
          case measure => simp [intOf]; omega
        · rw [ha] at HST
          clear ha
          go_wp2_with fail
          go_roundw
          case rel => exact ⟨k + 1, by omega, by go_num, HB3.out.1, z + 1, by go_num, by have e := HST.out; simp at e; exact e⟩
          case measure => simp [intOf]; omega
      · obtain rfl : n = k := by omega
        have HE : Hid (L.drop n = [] ∧ L.take n = L) := ⟨List.drop_eq_nil_of_le (by have := HN.out; omega), List.take_of_length_le (by have := HN.out; omega)⟩
        go_wp2_with fail
        go_ret
        exact ⟨by have := HB.out.2; rw [HE.out.2] at this; rw [this]; rfl, HB.out.1⟩

set_option maxRecDepth 100000 in
set_option maxHeartbeats 4000000 in
theorem rsizeT_any {w : World} {base t : Nat} {L : List Fl} (h : RT w base t L) (d : List UInt8) (hd : d.length ≤ 4194304) :
    Calls Tryz.prog 43 #[.pointer (some ⟨t, 0, none⟩), .string (bs d)] w fun e w' => e = .returned (.int .i64 (sizeS L d)) ∧ Below w.heap.size w w' := by
  have HT : Hid (RT w base t L ∧ d.length ≤ 4194304) := ⟨h, hd⟩
  obtain ⟨a, c, hc⟩ := h.cell
  have hlen := h.good.len
  clear h
  obtain ⟨n, hn⟩ : ∃ n, L.length = n := ⟨_, rfl⟩
  have HN : Hid (L.length = n) := hn
  rw [hn] at hlen
  have H' : Hid (∀ wr, Below w.heap.size w wr → wr.cell? ⟨t, 0, none⟩ = some (.slice a n c) ∧ FS wr (.slice a L.length c) L) := fun wr hb => ⟨by rw [← hn]; exact (hc wr hb).1, (hc wr hb).2.fs⟩
  clear hn hc
  have HI : Hid (∀ W, Below w.heap.size w W → Calls Tryz.prog 25 #[.pointer (some ⟨t, 0, none⟩), .string (bs d)] W fun e w' => e = .returned (.bool (isD L d)) ∧ Below W.heap.size W w') := fun W hW => ris_any (HT.out.1.later hW) d HT.out.2
  cases hi : isD L d
  · have HC : Hid (sizeS L d = 0) := by show _ = _; unfold sizeS; rw [hi]; rfl
    rw [HC.out]
    rw [hi] at HI
    clear hi
    by_cases hn0 : 0 < n
    · go_enter Tryz.func43, Tryz.ntmps43
      go_wp2_with fail
      go_loopw [5, 6] (fun u i wr => u = .int .i64 0 ∧ i = .int .i64 0 ∧ Below w.heap.size w wr) (fun _ _ _ => 0)
      case atStart => exact ⟨rfl, rfl, Below.refl _ _⟩
      case round =>
        obtain ⟨rfl, rfl, hb⟩ := hrel
        have HB : Hid (Below w.heap.size w wr) := hb
        have c0 := (H'.out wr hb).1
        have hn1 : (0 : Int) < (n : Int) := by omega
        clear hb
        go_wp2_with fail
        refine (HI.out _ HB.out).mono ?_
        rintro e w2 ⟨rfl, hb2⟩
        have HB2 : Hid (Below w.heap.size w w2) := bstep HB.out hb2
        clear hb2
        go_wp2_with fail
        go_ret
        exact ⟨rfl, HB2.out⟩
    · obtain rfl : n = 0 := by omega
      go_enter Tryz.func43, Tryz.ntmps43
      go_wp2_with fail
      go_loopw [5, 6] (fun u i wr => u = .int .i64 0 ∧ i = .int .i64 0 ∧ Below w.heap.size w wr) (fun _ _ _ => 0)
      case atStart => exact ⟨rfl, rfl, Below.refl _ _⟩
      case round =>
        obtain ⟨rfl, rfl, hb⟩ := hrel
        have HB2 : Hid (Below w.heap.size w wr) := hb
        have c0 := (H'.out wr hb).1
        clear hb
        go_wp2_with fail
        go_ret
        exact ⟨rfl, HB2.out⟩
  · have HSZ : Hid (∀ f ∈ L, 0 ≤ f.size ∧ f.size ≤ 9223372036854775807) := fun f hf => by have h1 := size_of (HT.out.1.good.each f hf) (HT.out.1.fok f hf).text; omega
    have HC : Hid (sumC (fun f => abvV d f.path) (L.drop 0) 0 = sizeS L d) := by
      show _ = _
      unfold sizeS
      rw [hi]
      have := sumC_cap (fun f => abvV d f.path) L 0 HSZ.out
      rw [show cap 0 = 0 from rfl, sizesum L d, Nat.zero_add] at this
      exact this
    obtain ⟨R, hR⟩ : ∃ R, sizeS L d = R := ⟨_, rfl⟩
    rw [hR] at HC ⊢
    clear hR
    rw [hi] at HI
    clear hi
    go_enter Tryz.func43, Tryz.ntmps43
    go_wp2_with fail
    go_loopw [5, 6] (fun u i wr => ∃ k : Nat, k ≤ n ∧ i = .int .i64 k ∧ Below w.heap.size w wr ∧ ∃ z : Int, u = .int .i64 z ∧ sumC (fun f => abvV d f.path) (L.drop k) z = R ∧ 0 ≤ z ∧ z ≤ 9223372036854775807) (fun _ i _ => n - (intOf i).toNat)
    case atStart => exact ⟨0, by omega, rfl, Below.refl _ _, 0, rfl, HC.out, by omega, by omega⟩
    case round =>
      obtain ⟨k, hk, rfl, hb, hinv⟩ := hrel
      obtain ⟨z, rfl, hz, hz0, hz1⟩ := hinv
      have HB : Hid (Below w.heap.size w wr ∧ sumC (fun f => abvV d f.path) (L.drop k) z = R) := ⟨hb, hz⟩
      clear hb hz
      have c0 := (H'.out wr HB.out.1).1
      by_cases hlt : k < n
      · have hkl : k < L.length := by have := HN.out; omega
        have k1 : (0 : Int) ≤ (k : Int) := by omega
        have k2 : (k : Int) < (n : Int) := by omega
        go_wp2_with fail
        refine (HI.out _ HB.out.1).mono ?_
        rintro e w2 ⟨rfl, hb2⟩
        have HB2 : Hid (Below w.heap.size w w2 ∧ Below wr.heap.size wr w2) := ⟨bstep HB.out.1 hb2, hb2⟩
        clear hb2 c0
        have c0 := (H'.out w2 HB2.out.1).1
        obtain ⟨b, off, ea, hbw, d0, d1, d2, d3⟩ := FS.at (H'.out w2 HB2.out.1).2 (Below.refl _ _) hkl
        subst ea
        have hpl := HT.out.1.pathLen hkl
        have HST : Hid (sumC (fun f => abvV d f.path) (L.drop (k + 1)) (if abvV d L[k].path then addC z L[k].size else z) = R ∧ 0 ≤ L[k].size ∧ L[k].size ≤ 9223372036854775807) := by
          refine ⟨?_, HSZ.out _ (List.getElem_mem hkl)⟩
          rw [← sumC_step hkl]; exact HB.out.2
        obtain ⟨f, hf⟩ : ∃ f, L[k] = f := ⟨_, rfl⟩
        rw [hf] at d0 d1 d2 d3 hpl HST
        clear hf hkl
        obtain ⟨p, tx, bl, s⟩ := f
        simp only at d0 d1 d2 d3 hpl HST
        go_wp2_with fail
        refine (rabv_any d p _ (by omega) (by omega)).mono ?_
        rintro e w3 ⟨rfl, hb3⟩
        have HB3 : Hid (Below w.heap.size w w3 ∧ Below wr.heap.size wr w3) := ⟨bstep HB2.out.1 hb3, bstep HB2.out.2 hb3⟩
        have c3 := (H'.out w3 HB3.out.1).1
        have g3 : w3.cell? ⟨b, off + k * 4 + 3, none⟩ = some (.int .i64 s) := (hb3.cell (p := ⟨b, off + k * 4 + 3, none⟩) hbw).trans d3
        clear hb3 c0 d0 d1 d2 d3
        cases ha : abvV d p
        · rw [ha] at HST
          clear ha
          go_wp2_with fail
          go_roundw
          case rel => exact ⟨k + 1, by omega, by go_num, HB3.out.1, z, rfl, by have e := HST.out.1; simp at e; exact e, hz0, hz1⟩
          case measure => simp [intOf]; omega
        · rw [ha] at HST
          clear ha
          go_wp2_with fail
          refine (radd_any z s _ hz0 hz1 HST.out.2.1 HST.out.2.2).mono ?_
          rintro e w4 ⟨rfl, hw4⟩
          subst hw4
          have hbd := addC_bd hz0 hz1 HST.out.2.1 HST.out.2.2
          have HBD : Hid (0 ≤ addC z s ∧ addC z s ≤ 9223372036854775807) := hbd
          clear hbd
          obtain ⟨z2, hz2⟩ : ∃ z2, addC z s = z2 := ⟨_, rfl⟩
          rw [hz2] at HBD HST ⊢
          clear hz2
          go_wp2_with fail
          go_roundw
          case rel => exact ⟨k + 1, by omega, by go_num, HB3.out.1, z2, rfl, by have e := HST.out.1; simp at e; exact e, HBD.out.1, HBD.out.2⟩
          case measure => simp [intOf]; omega
      · obtain rfl : n = k := by omega
        have HE : Hid (L.drop n = [] ∧ L.take n = L) := ⟨List.drop_eq_nil_of_le (by have := HN.out; omega), List.take_of_length_le (by have := HN.out; omega)⟩
        go_wp2_with fail
        go_ret
        exact ⟨by have := HB.out.2; rw [HE.out.1] at this; rw [← this]; rfl, HB.out.1⟩

set_option maxRecDepth 100000 in
set_option maxHeartbeats 4000000 in
theorem rownT_any {w : World} {base t : Nat} {L : List Fl} (h : RT w base t L) (d : List UInt8) (hd : d.length ≤ 4194304) :
    Calls Tryz.prog 44 #[.pointer (some ⟨t, 0, none⟩), .string (bs d)] w fun e w' => e = .returned (.int .i64 (ownS L d)) ∧ Below w.heap.size w w' := by
  have HT : Hid (RT w base t L ∧ d.length ≤ 4194304) := ⟨h, hd⟩
  obtain ⟨a, c, hc⟩ := h.cell
  have hlen := h.good.len
  clear h
  obtain ⟨n, hn⟩ : ∃ n, L.length = n := ⟨_, rfl⟩
  have HN : Hid (L.length = n) := hn
  rw [hn] at hlen
  have H' : Hid (∀ wr, Below w.heap.size w wr → wr.cell? ⟨t, 0, none⟩ = some (.slice a n c) ∧ FS wr (.slice a L.length c) L) := fun wr hb => ⟨by rw [← hn]; exact (hc wr hb).1, (hc wr hb).2.fs⟩
  clear hn hc
  have HI : Hid (∀ W, Below w.heap.size w W → Calls Tryz.prog 25 #[.pointer (some ⟨t, 0, none⟩), .string (bs d)] W fun e w' => e = .returned (.bool (isD L d)) ∧ Below W.heap.size W w') := fun W hW => ris_any (HT.out.1.later hW) d HT.out.2
  cases hi : isD L d
  · have HC : Hid (ownS L d = 0) := by show _ = _; unfold ownS; rw [hi]; rfl
    rw [HC.out]
    rw [hi] at HI
    clear hi
    by_cases hn0 : 0 < n
    · go_enter Tryz.func44, Tryz.ntmps44
      go_wp2_with fail
      go_loopw [5, 6] (fun u i wr => u = .int .i64 0 ∧ i = .int .i64 0 ∧ Below w.heap.size w wr) (fun _ _ _ => 0)
      case atStart => exact ⟨rfl, rfl, Below.refl _ _⟩
      case round =>
        obtain ⟨rfl, rfl, hb⟩ := hrel
        have HB : Hid (Below w.heap.size w wr) := hb
        have c0 := (H'.out wr hb).1
        have hn1 : (0 : Int) < (n : Int) := by omega
        clear hb
        go_wp2_with fail
        refine (HI.out _ HB.out).mono ?_
        rintro e w2 ⟨rfl, hb2⟩
        have HB2 : Hid (Below w.heap.size w w2) := bstep HB.out hb2
        clear hb2
        go_wp2_with fail
        go_ret
        exact ⟨rfl, HB2.out⟩
    · obtain rfl : n = 0 := by omega
      go_enter Tryz.func44, Tryz.ntmps44
      go_wp2_with fail
      go_loopw [5, 6] (fun u i wr => u = .int .i64 0 ∧ i = .int .i64 0 ∧ Below w.heap.size w wr) (fun _ _ _ => 0)
      case atStart => exact ⟨rfl, rfl, Below.refl _ _⟩
      case round =>
        obtain ⟨rfl, rfl, hb⟩ := hrel
        have HB2 : Hid (Below w.heap.size w wr) := hb
        have c0 := (H'.out wr hb).1
        clear hb
        go_wp2_with fail
        go_ret
        exact ⟨rfl, HB2.out⟩
  · have HSZ : Hid (∀ f ∈ L, 0 ≤ f.size ∧ f.size ≤ 9223372036854775807) := fun f hf => by have h1 := size_of (HT.out.1.good.each f hf) (HT.out.1.fok f hf).text; omega
    have HC : Hid (sumC (fun f => dir f.path == d) (L.drop 0) 0 = ownS L d) := by
      show _ = _
      unfold ownS
      rw [hi]
      have := sumC_cap (fun f => dir f.path == d) L 0 HSZ.out
      rw [show cap 0 = 0 from rfl, own_sum L (fun f hf => HT.out.1.good.each f hf), Nat.zero_add] at this
      exact this
    obtain ⟨R, hR⟩ : ∃ R, ownS L d = R := ⟨_, rfl⟩
    rw [hR] at HC ⊢
    clear hR
    rw [hi] at HI
    clear hi
    go_enter Tryz.func44, Tryz.ntmps44
    go_wp2_with fail
    go_loopw [5, 6] (fun u i wr => ∃ k : Nat, k ≤ n ∧ i = .int .i64 k ∧ Below w.heap.size w wr ∧ ∃ z : Int, u = .int .i64 z ∧ sumC (fun f => dir f.path == d) (L.drop k) z = R ∧ 0 ≤ z ∧ z ≤ 9223372036854775807) (fun _ i _ => n - (intOf i).toNat)
    case atStart => exact ⟨0, by omega, rfl, Below.refl _ _, 0, rfl, HC.out, by omega, by omega⟩
    case round =>
      obtain ⟨k, hk, rfl, hb, hinv⟩ := hrel
      obtain ⟨z, rfl, hz, hz0, hz1⟩ := hinv
      have HB : Hid (Below w.heap.size w wr ∧ sumC (fun f => dir f.path == d) (L.drop k) z = R) := ⟨hb, hz⟩
      clear hb hz
      have c0 := (H'.out wr HB.out.1).1
      by_cases hlt : k < n
      · have hkl : k < L.length := by have := HN.out; omega
        have k1 : (0 : Int) ≤ (k : Int) := by omega
        have k2 : (k : Int) < (n : Int) := by omega
        go_wp2_with fail
        refine (HI.out _ HB.out.1).mono ?_
        rintro e w2 ⟨rfl, hb2⟩
        have HB2 : Hid (Below w.heap.size w w2 ∧ Below wr.heap.size wr w2) := ⟨bstep HB.out.1 hb2, hb2⟩
        clear hb2 c0
        have c0 := (H'.out w2 HB2.out.1).1
        obtain ⟨b, off, ea, hbw, d0, d1, d2, d3⟩ := FS.at (H'.out w2 HB2.out.1).2 (Below.refl _ _) hkl
        subst ea
        have hpl := HT.out.1.pathLen hkl
        have HST : Hid (sumC (fun f => dir f.path == d) (L.drop (k + 1)) (if dir L[k].path == d then addC z L[k].size else z) = R ∧ 0 ≤ L[k].size ∧ L[k].size ≤ 9223372036854775807) := by
          refine ⟨?_, HSZ.out _ (List.getElem_mem hkl)⟩
          rw [← sumC_step hkl]; exact HB.out.2
        obtain ⟨f, hf⟩ : ∃ f, L[k] = f := ⟨_, rfl⟩
        rw [hf] at d0 d1 d2 d3 hpl HST
        clear hf hkl
        obtain ⟨p, tx, bl, s⟩ := f
        simp only at d0 d1 d2 d3 hpl HST
        have t1 := bs_toList (dir p)
        have t2 := bs_toList d
        go_wp2_with fail
        refine (rdir_any p _ (by omega)).mono ?_
        rintro e w3 ⟨rfl, hw3⟩
        subst hw3
        have HB3 : Hid (Below w.heap.size w w3 ∧ Below wr.heap.size wr w3) := HB2.out
        have c3 := c0
        have g3 := d3
        cases ha : (dir p == d)
        · rw [ha] at HST
          go_wp2_with fail
          go_roundw
          case rel => exact ⟨k + 1, by omega, by go_num, HB3.out.1, z, rfl, by have e := HST.out.1; simp at e; exact e, hz0, hz1⟩
          case measure => simp [intOf]; omega
        · rw [ha] at HST
          go_wp2_with fail
          refine (radd_any z s _ hz0 hz1 HST.out.2.1 HST.out.2.2).mono ?_
          rintro e w4 ⟨rfl, hw4⟩
          subst hw4
          have hbd := addC_bd hz0 hz1 HST.out.2.1 HST.out.2.2
          have HBD : Hid (0 ≤ addC z s ∧ addC z s ≤ 9223372036854775807) := hbd
          clear hbd
          obtain ⟨z2, hz2⟩ : ∃ z2, addC z s = z2 := ⟨_, rfl⟩
          rw [hz2] at HBD HST ⊢
          clear hz2
          go_wp2_with fail
          go_roundw
          case rel => exact ⟨k + 1, by omega, by go_num, HB3.out.1, z2, rfl, by have e := HST.out.1; simp at e; exact e, HBD.out.1, HBD.out.2⟩
          case measure => simp [intOf]; omega
      · obtain rfl : n = k := by omega
        have HE : Hid (L.drop n = [] ∧ L.take n = L) := ⟨List.drop_eq_nil_of_le (by have := HN.out; omega), List.take_of_length_le (by have := HN.out; omega)⟩
        go_wp2_with fail
        go_ret
        exact ⟨by have := HB.out.2; rw [HE.out.1] at this; rw [← this]; rfl, HB.out.1⟩
end Go.Proofs.YtceoelclnnfhhadGreat
