import Derived.Test.YtefhdnhhcgbbjaaPuts
namespace Go.Proofs.Ytefhdnhhcgbbjaa
open Go.RowKit

theorem slice_inj {g o n c g' o' n' c' : Nat} (h : Value.slice (some ⟨g, o, none⟩) n c = .slice (some ⟨g', o', none⟩) n' c') : g' = g ∧ o' = o ∧ n' = n ∧ c' = c := by
  injection h with h1 h2 h3
  injection h1 with h1
  injection h1 with h1 h4
  exact ⟨h1.symm, h4.symm, h2.symm, h3.symm⟩

theorem Lent.bs {base : Nat} {w : World} {v : Value} {l : List UInt8} (h : Lent base w v l) : BS w v l := by
  obtain ⟨g, cap, rfl, ho⟩ := h
  rcases ho.bs with ⟨_, h⟩ | ⟨b, off, cap', hv, hc, hlt, hcell⟩
  · have := congrArg List.length h
    simp [marks_length] at this
  · obtain ⟨rfl, rfl, _, rfl⟩ := slice_inj hv
    refine .inr ⟨_, 0, _, rfl, ?_, hlt, fun i u hu => hcell i u ?_⟩
    · simp at hc; omega
    · rw [bc_append, List.getElem?_append_left]
      · exact hu
      · exact (List.getElem?_eq_some_iff.1 hu).1

theorem Lent.blk {base : Nat} {w : World} {v : Value} {l : List UInt8} (h : Lent base w v l) : ∀ k, v.ownBlock = some k → k < w.heap.size := by
  obtain ⟨g, cap, rfl, ho⟩ := h
  intro k hk
  exact (World.ownsRow.lt ho k hk).2

theorem Lent.later {base : Nat} {w w' : World} {v : Value} {l : List UInt8} {B : Nat} (h : Lent base w v l) (hb : Below B w w') (hv : ∀ k, v.ownBlock = some k → k < B) : Lent base w' v l := by
  obtain ⟨g, cap, rfl, ho⟩ := h
  refine ⟨g, cap, rfl, ho.1, ?_⟩
  rcases ho.2 with ⟨h, _⟩ | ⟨g', cap', cur, hv', hb', hg, r⟩
  · cases h
  · obtain ⟨rfl, _, _, rfl⟩ := slice_inj hv'
    exact .inr ⟨_, _, cur, by simp [marks_length], hb', by rw [hb.block _ (hv _ rfl)]; exact hg, r⟩

theorem Lent.mark {base : Nat} {w : World} {g cap n : Nat} {l : List UInt8} (h : Own base w (.slice (some ⟨g, 0, none⟩) n cap) (l ++ marks 300)) (k : Nat) (hk : k < 300) : w.cell? ⟨g, l.length + k, none⟩ = some (.int .u8 ((k : Int) % 256)) := by
  have := World.ownsRow.cells h (g := g) rfl (l.length + k) (.int .u8 ((k : Int) % 256)) (by
    rw [bc_append, List.getElem?_append_right (by simp [bc_length])]
    rw [bc_length, Nat.add_sub_cancel_left, bc_get]
    simp [marks, hk])
  rw [add_lit, Nat.zero_add] at this
  exact this

set_option maxRecDepth 100000 in
set_option maxHeartbeats 400000 in
theorem kept_any {base : Nat} {w : World} {v b : Value} {l : List UInt8} (h : Lent base w v l) (hb : BS w b l) (hm : l.length ≤ 140737488351232) :
    Calls Try.prog 25 #[v, b] w fun e w' => e = .returned (.bool true) ∧ w' = w := by
  have HS : Hid (BS w v l) := h.bs
  have HB : Hid (BS w b l) := hb
  obtain ⟨g, cap, rfl, ho⟩ := h
  have HM : Hid (∀ k, k < 300 → w.cell? ⟨g, l.length + k, none⟩ = some (.int .u8 ((k : Int) % 256))) := fun k hk => Lent.mark ho k hk
  have hcap : l.length + 300 ≤ cap := by
    rcases ho.2 with ⟨h, _⟩ | ⟨g', cap', cur, hv, _, _, hn, _⟩
    · cases h
    · obtain ⟨_, _, _, rfl⟩ := slice_inj hv; simpa [marks_length] using hn
  clear ho hb
  go_enter Try.func25, Try.ntmps25
  go_wp2_with fail
  refine (same_any HS.out HB.out).mono ?_
  rintro e w1 ⟨rfl, rfl⟩
  have e1 : (l == l) = true := by simp
  rw [e1]
  go_wp2_with fail
  go_loop [6] (fun i => ∃ k : Nat, k ≤ 300 ∧ i = .int .i64 k) (fun i => 300 - (intOf i).toNat)
  case atStart => exact ⟨0, by omega, rfl⟩
  case round =>
    obtain ⟨k, hk, rfl⟩ := hrel
    by_cases hlt : k < 300
    · have hc := HM.out k hlt
      go_wp2_with fail
      go_round
      case rel => exact ⟨k + 1, by omega, by go_num⟩
      case measure => simp [intOf]; omega
    · go_wp2_with fail
      go_ret
      exact ⟨rfl, rfl⟩

/-- rows of bytes: a slice of byte slices -/
def Rws (w : World) (v : Value) (ls : List (List UInt8)) : Prop :=
  (v = .slice none 0 0 ∧ ls = []) ∨
  ∃ b cap, v = .slice (some ⟨b, 0, none⟩) ls.length cap ∧ ls.length ≤ cap ∧ b < w.heap.size ∧ ∀ i l, ls[i]? = some l → ∃ x, w.cell? ⟨b, i, none⟩ = some x ∧ BS w x l

theorem Rws.below {w w' : World} {v : Value} {ls : List (List UInt8)} (h : Rws w v ls) (hb : Below w.heap.size w w') : Rws w' v ls := by
  rcases h with h | ⟨b, cap, rfl, hc, hlt, hcell⟩
  · exact .inl h
  · refine .inr ⟨b, cap, rfl, hc, Nat.lt_of_lt_of_le hlt hb.size, fun i l hl => ?_⟩
    obtain ⟨x, hx, hs⟩ := hcell i l hl
    exact ⟨x, by rw [hb.cell (p := ⟨b, i, none⟩) hlt]; exact hx, hs.later hb⟩

/-- so many bytes are there in the first k rows -/
def tot (ls : List (List UInt8)) : Nat := ls.flatten.length
theorem take_snoc {α : Type} (ls : List α) (k : Nat) (h : k < ls.length) : ls.take (k + 1) = ls.take k ++ [ls[k]] := by
  rw [List.take_succ_eq_append_getElem h]
theorem tot_snoc (ls : List (List UInt8)) (k : Nat) (h : k < ls.length) : tot (ls.take (k + 1)) = tot (ls.take k) + ls[k].length := by
  unfold tot
  rw [take_snoc ls k h, List.flatten_append, List.length_append]
  simp only [List.flatten_cons, List.flatten_nil, List.append_nil]
theorem tot_take (ls : List (List UInt8)) (k : Nat) : tot (ls.take k) ≤ tot ls := by
  have : ls.flatten = (ls.take k).flatten ++ (ls.drop k).flatten := by rw [← List.flatten_append, List.take_append_drop]
  unfold tot; rw [this]; simp

theorem BS.form {w : World} {v : Value} {l : List UInt8} (h : BS w v l) : ∃ a c, v = .slice a l.length c := by
  rcases h with ⟨⟨a, c, rfl⟩, rfl⟩ | ⟨b, off, cap, rfl, hc, hlt, hcell⟩
  · exact ⟨_, _, rfl⟩
  · exact ⟨_, _, rfl⟩

set_option maxRecDepth 100000 in
set_option maxHeartbeats 400000 in
theorem join_any {w : World} {v : Value} {ls : List (List UInt8)} (h : Rws w v ls) (hn : ls.length ≤ 1000000000) (hm : tot ls ≤ 10000000000) :
    Calls Try.prog 23 #[v] w fun e w' => ∃ v', e = .returned v' ∧ Own w.heap.size w' v' ls.flatten ∧ Below w.heap.size w w' := by
  have hlen : ∃ a c, v = .slice a ls.length c ∧ ls.length ≤ c ∧ (∀ k, (hk : k < ls.length) → ∃ b, a = some ⟨b, 0, none⟩ ∧ b < w.heap.size ∧ ∃ x c, w.cell? ⟨b, k, none⟩ = some (.slice x ls[k].length c) ∧ BS w (.slice x ls[k].length c) ls[k]) := by
    rcases h with ⟨rfl, rfl⟩ | ⟨b, cap, rfl, hc, hlt, hcell⟩
    · exact ⟨_, _, rfl, Nat.le_refl _, fun k hk => by simp at hk⟩
    · refine ⟨_, _, rfl, hc, fun k hk => ⟨b, rfl, hlt, ?_⟩⟩
      obtain ⟨x, hx, hs⟩ := hcell k ls[k] (by simp [hk])
      obtain ⟨a', c', rfl⟩ := hs.form
      exact ⟨a', c', hx, hs⟩
  obtain ⟨a, c, rfl, hc, HC0⟩ := hlen
  have HC : Hid (∀ k, (hk : k < ls.length) → ∃ b, a = some ⟨b, 0, none⟩ ∧ b < w.heap.size ∧ ∃ x c, w.cell? ⟨b, k, none⟩ = some (.slice x ls[k].length c) ∧ BS w (.slice x ls[k].length c) ls[k]) := HC0
  clear h HC0
  go_enter Try.func23, Try.ntmps23
  go_wp2_with fail
  go_loop [3, 11] (fun t i => ∃ k : Nat, k ≤ ls.length ∧ i = .int .i64 k ∧ t = .int .i64 (tot (ls.take k) : Nat)) (fun _ i => ls.length - (intOf i).toNat)
  case atStart => exact ⟨0, Nat.zero_le _, rfl, by simp [tot]⟩
  case round =>
    obtain ⟨k, hk, rfl, rfl⟩ := hrel
    have hb1 := tot_take ls k
    by_cases hlt : k < ls.length
    · obtain ⟨b, rfl, hb, x, c', hcell, _⟩ := HC.out k hlt
      have hs := tot_snoc ls k hlt
      have hb2 := tot_take ls (k + 1)
      have HS : Hid (tot (ls.take (k + 1)) = tot (ls.take k) + ls[k].length) := hs
      have hl : tot (ls.take k) + ls[k].length ≤ 10000000000 := by omega
      clear hs hb2
      go_wp2_with fail
      go_round
      case rel => exact ⟨k + 1, by omega, by go_num, by rw [HS.out]; go_num⟩
      case measure => simp [intOf]; omega
    · obtain rfl : k = ls.length := by omega
      go_wp2_with fail
      refine (room_at (l := []) (BS_nil _) _ (tot ls) (by simp) (by simp; omega)).mono ?_
      rintro e w1 ⟨v1, rfl, ho1, _, hb1⟩
      have hz := hb1.size
      have H1 : Hid (Own w.heap.size w1 v1 []) := ho1
      have B1 : Hid (Below w.heap.size w w1) := hb1
      clear ho1 hb1
      go_wp2_with fail
      go_loopw [6, 24] (fun o i wr => ∃ k : Nat, k ≤ ls.length ∧ Own w.heap.size wr o (ls.take k).flatten ∧ i = .int .i64 k ∧ Below w.heap.size w wr ∧ w.heap.size ≤ wr.heap.size) (fun _ i _ => ls.length - (intOf i).toNat)
      case atStart => exact ⟨0, Nat.zero_le _, by simpa using H1.out, rfl, B1.out, hz⟩
      case round =>
        obtain ⟨k, hk, ho, rfl, hb, hbs⟩ := hrel
        by_cases hlt : k < ls.length
        · obtain ⟨b, rfl, hblt, x, c', hcell, hbs0⟩ := HC.out k hlt
          have hcell' : wr.cell? ⟨b, k, none⟩ = some (.slice x ls[k].length c') := by rw [hb.cell (p := ⟨b, k, none⟩) hblt]; exact hcell
          have HS : Hid (BS wr (.slice x ls[k].length c') ls[k]) := hbs0.later hb
          have HT : Hid (tot (ls.take (k + 1)) = tot (ls.take k) + ls[k].length) := tot_snoc ls k hlt
          have hl : tot (ls.take k) + ls[k].length ≤ 10000000000 := by have := tot_take ls (k + 1); have := HT.out; omega
          have HB : Hid (Below w.heap.size w wr) := hb
          have HO' : Hid (Own w.heap.size wr u6 (ls.take k).flatten) := ho
          clear hb ho hcell hbs0
          go_wp2_with (at_builtin; refine app_bytes (base := w.heap.size) (l := (ls.take k).flatten) (k := ls[k]) (tx := 27) HO'.out (HS.out.src und27) (by unfold tot at hl; omega) hbs rfl (.tmp 28) (.tmp 29) rfl rfl rfl ?_; intro v' w' ho hg hat)
          go_roundw
          case rel =>
            have hB2 : Below w.heap.size w w' := HB.out.grown hg hbs (fun k hk => (World.ownsRow.lt HO'.out k hk).1)
            exact ⟨k + 1, by omega, by rw [take_snoc ls k hlt, List.flatten_append]; simpa using ho, by go_num, hB2, hB2.size⟩
          case measure => simp [intOf]; omega
        · obtain rfl : k = ls.length := by omega
          rw [List.take_length] at ho
          go_wp2_with fail
          go_ret
          exact ⟨_, rfl, ho, hb⟩

set_option maxRecDepth 100000 in
set_option maxHeartbeats 400000 in
theorem rjoin_any {w : World} {v : Value} {ls : List (List UInt8)} (h : Rws w v ls) (hn : ls.length ≤ 1000000000) (hm : tot ls ≤ 10000000000) :
    Calls Try.prog 24 #[v] w fun e w' => ∃ v', e = .returned v' ∧ Own w.heap.size w' v' ls.flatten ∧ Below w.heap.size w w' := by
  have hlen : ∃ a c, v = .slice a ls.length c ∧ ls.length ≤ c ∧ (∀ k, (hk : k < ls.length) → ∃ b, a = some ⟨b, 0, none⟩ ∧ b < w.heap.size ∧ ∃ x c, w.cell? ⟨b, k, none⟩ = some (.slice x ls[k].length c) ∧ BS w (.slice x ls[k].length c) ls[k]) := by
    rcases h with ⟨rfl, rfl⟩ | ⟨b, cap, rfl, hc, hlt, hcell⟩
    · exact ⟨_, _, rfl, Nat.le_refl _, fun k hk => by simp at hk⟩
    · refine ⟨_, _, rfl, hc, fun k hk => ⟨b, rfl, hlt, ?_⟩⟩
      obtain ⟨x, hx, hs⟩ := hcell k ls[k] (by simp [hk])
      obtain ⟨a', c', rfl⟩ := hs.form
      exact ⟨a', c', hx, hs⟩
  obtain ⟨a, c, rfl, hc, HC0⟩ := hlen
  have HC : Hid (∀ k, (hk : k < ls.length) → ∃ b, a = some ⟨b, 0, none⟩ ∧ b < w.heap.size ∧ ∃ x c, w.cell? ⟨b, k, none⟩ = some (.slice x ls[k].length c) ∧ BS w (.slice x ls[k].length c) ls[k]) := HC0
  clear h HC0
  go_enter Try.func24, Try.ntmps24
  go_wp2_with fail
  go_loopw [3, 4] (fun o i wr => ∃ k : Nat, k ≤ ls.length ∧ Own w.heap.size wr o (ls.take k).flatten ∧ i = .int .i64 k ∧ Below w.heap.size w wr ∧ w.heap.size ≤ wr.heap.size) (fun _ i _ => ls.length - (intOf i).toNat)
  case atStart => exact ⟨0, Nat.zero_le _, by simpa using Own.nil _ _, rfl, Below.refl _ _, Nat.le_refl _⟩
  case round =>
    obtain ⟨k, hk, ho, rfl, hb, hbs⟩ := hrel
    by_cases hlt : k < ls.length
    · obtain ⟨b, rfl, hblt, x, c', hcell, hbs0⟩ := HC.out k hlt
      have hcell' : wr.cell? ⟨b, k, none⟩ = some (.slice x ls[k].length c') := by rw [hb.cell (p := ⟨b, k, none⟩) hblt]; exact hcell
      have HS : Hid (BS wr (.slice x ls[k].length c') ls[k]) := hbs0.later hb
      have HT : Hid (tot (ls.take (k + 1)) = tot (ls.take k) + ls[k].length) := tot_snoc ls k hlt
      have hl : tot (ls.take k) + ls[k].length ≤ 10000000000 := by have := tot_take ls (k + 1); have := HT.out; omega
      have HB : Hid (Below w.heap.size w wr) := hb
      have HO' : Hid (Own w.heap.size wr u3 (ls.take k).flatten) := ho
      clear hb ho hcell hbs0
      go_wp2_with (at_builtin; refine app_bytes (base := w.heap.size) (l := (ls.take k).flatten) (k := ls[k]) (tx := 27) HO'.out (HS.out.src und27) (by unfold tot at hl; omega) hbs rfl (.tmp 11) (.tmp 15) rfl rfl rfl ?_; intro v' w' ho hg hat)
      go_roundw
      case rel =>
        have hB2 : Below w.heap.size w w' := HB.out.grown hg hbs (fun k hk => (World.ownsRow.lt HO'.out k hk).1)
        exact ⟨k + 1, by omega, by rw [take_snoc ls k hlt, List.flatten_append]; simpa using ho, by go_num, hB2, hB2.size⟩
      case measure => simp [intOf]; omega
    · obtain rfl : k = ls.length := by omega
      rw [List.take_length] at ho
      go_wp2_with fail
      go_ret
      exact ⟨_, rfl, ho, hb⟩

end Go.Proofs.Ytefhdnhhcgbbjaa
