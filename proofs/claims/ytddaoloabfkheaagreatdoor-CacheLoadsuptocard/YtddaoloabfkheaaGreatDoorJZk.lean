/-
  The cache: New, Len, Put.
  Put of what may be put; Get; Save.
-/
import Derived.Test.YtddaoloabfkheaaGreatDoorJZi
namespace Go.Proofs.YtddaoloabfkheaaGreatDoor
open Go.RowKit

/-- a cache of the program's: its keys, its blocks -/
structure CA (w : World) (F : Nat → Prop) (g : Nat) (K : List Lb) : Prop where
  it : ∃ v l T, CB w T g v l ∧ K = l.map En.key ∧ (∀ k, v.ownBlock = some k → F k) ∧ (∀ k, T k → F k)
  own : F g
  lt : ∀ k, F k → k < w.heap.size
  ok : OKK K
theorem CA.stay {w w' : World} {F : Nat → Prop} {g : Nat} {K : List Lb} (h : CA w F g K) (hz : w.heap.size ≤ w'.heap.size) (hs : ∀ k, F k → w'.heap[k]? = w.heap[k]?) : CA w' F g K := by
  obtain ⟨⟨v, l, T, h1, h2, h3, h4⟩, own, lt, ok⟩ := h
  exact ⟨⟨v, l, T, h1.stay hz (hs g own) (fun k hk => hs k (h3 k hk)) (fun k hk => hs k (h4 k hk)), h2, h3, h4⟩, own, fun k hk => Nat.lt_of_lt_of_le (lt k hk) hz, ok⟩
theorem CA.wider {w : World} {F F' : Nat → Prop} {g : Nat} {K : List Lb} (h : CA w F g K) (hF : ∀ k, F k → F' k) (hl : ∀ k, F' k → k < w.heap.size) : CA w F' g K := by
  obtain ⟨⟨v, l, T, h1, h2, h3, h4⟩, own, lt, ok⟩ := h
  exact ⟨⟨v, l, T, h1, h2, fun k hk => hF k (h3 k hk), fun k hk => hF k (h4 k hk)⟩, hF g own, hl, ok⟩
set_option maxRecDepth 100000 in
theorem cnew_any (w : World) : Calls Tryz.prog 8 #[] w fun e w' => ∃ c, e = .returned (.pointer (some ⟨c, 0, none⟩)) ∧ CA w' (fun k => w.heap.size ≤ k ∧ k < w'.heap.size) c [] ∧ Below w.heap.size w w' := by
  go_enter Tryz.func8, Tryz.ntmps8
  go_wp2_with fail
  go_ret
  have hb := balloc w (.cells #[.slice none 0 0] 33)
  refine ⟨w.heap.size, rfl, ⟨⟨.slice none 0 0, [], fun _ => False, ⟨heap_alloc_new _ _, OwnE.nil _ _, by simp, (fun e => by cases e), fun k hk => hk.elim, fun k hk => hk.elim⟩, rfl, (fun k hk => by cases hk), fun k hk => hk.elim⟩, ⟨Nat.le_refl _, by simp⟩, fun k hk => hk.2, OKK.nil⟩, hb⟩
set_option maxRecDepth 100000 in
theorem clen_any {w : World} {F : Nat → Prop} {g : Nat} {K : List Lb} (h : CA w F g K) : Calls Tryz.prog 12 #[.pointer (some ⟨g, 0, none⟩)] w fun e w' => e = .returned (.int .i64 K.length) ∧ Below w.heap.size w w' := by
  obtain ⟨⟨v, l, T, h1, rfl, _, _⟩, _, _, ok⟩ := h
  obtain ⟨a, c, e⟩ := h1.row.form
  have hc := h1.cell.1
  have hl : (l.map En.key).length = l.length := by simp
  rw [hl]
  generalize l.length = n at *
  subst e
  clear h1 ok hl
  go_enter Tryz.func12, Tryz.ntmps12
  go_wp2_with fail
  go_ret
  exact ⟨rfl, Below.refl _ _⟩
/-! ### Put -/
theorem pcod_bad {p t : List UInt8} (h : rgt p = false) : pcod p t = 7 := by unfold pcod; simp [h]
theorem pcod_long {p t : List UInt8} (h : rgt p = true) (hl : 4096 < t.length) : pcod p t = 18 := by unfold pcod; rw [if_pos h, if_pos hl]
theorem pcod_ok {p t : List UInt8} (h : rgt p = true) (hl : ¬ 4096 < t.length) : pcod p t = 0 := by unfold pcod; rw [if_pos h, if_neg hl]
/-- what Put leaves -/
def PuP (F : Nat → Prop) (g : Nat) (K : List Lb) (p t : List UInt8) (w : World) (e : Ending) (w' : World) : Prop := e = .returned (.int .i64 (pcod p t)) ∧ CA w' (nwF F w w') g (putA K p t) ∧ OnlyP F w w'
theorem CA.same {w w' : World} {F : Nat → Prop} {g : Nat} {K : List Lb} (h : CA w F g K) (hb : Below w.heap.size w w') : CA w' (nwF F w w') g K ∧ OnlyP F w w' :=
  ⟨(h.stay hb.size (fun k hk => hb.block k (h.lt k hk))).wider (fun k hk => .inl hk) (fun k hk => by
    rcases hk with hk | hk
    · exact Nat.lt_of_lt_of_le (h.lt k hk) hb.size
    · exact hk.2), OnlyP.of_below hb F⟩
set_option maxRecDepth 100000 in
set_option maxHeartbeats 2000000 in
theorem cput_bad {w : World} {F : Nat → Prop} {g : Nat} {K : List Lb} (h : CA w F g K) (p t : List UInt8) (hp : p.length ≤ 1000000000) (hr : rgt p = false) : Calls Tryz.prog 10 #[.pointer (some ⟨g, 0, none⟩), .string (bs p), .string (bs t)] w (PuP F g K p t w) := by
  have HV : Hid (∀ W : World, Calls Tryz.prog 22 #[.string (bs p)] W fun e w' => e = .returned (.bool (okP p)) ∧ Below W.heap.size W w') := fun W => valid_any p W (by omega)
  have HB : Hid (∀ W : World, Calls Tryz.prog 23 #[.string (bs p)] W fun e w' => e = .returned (.string (bs (base p))) ∧ w' = W) := fun W => base_any p W (by omega)
  have HF : Hid (∀ w', Below w.heap.size w w' → PuP F g K p t w (.returned (.int .i64 7)) w') := fun w' hb => by
    obtain ⟨h1, h2⟩ := h.same hb
    have e := pcod_bad (t := t) hr
    refine ⟨by rw [e], ?_, h2⟩
    unfold putA; rw [e, if_neg (by decide)]; exact h1
  have e1 : (⟨#[84, 65, 82, 71, 69, 84, 83]⟩ : ByteArray) = bs wName := rfl
  unfold rgt at hr
  clear h hp
  cases hok : okP p
  · rw [hok] at HV
    clear hr
    go_enter Tryz.func10, Tryz.ntmps10
    go_wp2_with fail
    refine (HV.out _).mono ?_
    rintro e w1 ⟨rfl, hb1⟩
    have H1 : Hid (Below w.heap.size w w1) := hb1
    clear hb1
    go_wp2_with fail
    go_ret
    exact HF.out _ H1.out
  · rw [hok] at HV hr
    have hne : ((bs (base p)).toList == (bs wName).toList) = false := by rw [bs_toList, bs_toList]; simpa using hr
    have hne2 : ((bs (base p)).toList != (bs wName).toList) = true := by rw [bne, hne]; rfl
    clear hr
    generalize base p = q at *
    go_enter Tryz.func10, Tryz.ntmps10
    go_wp2_with fail
    refine (HV.out _).mono ?_
    rintro e w1 ⟨rfl, hb1⟩
    have H1 : Hid (Below w.heap.size w w1) := hb1
    clear hb1
    go_wp2_with fail
    refine (HB.out _).mono ?_
    rintro e w2 ⟨rfl, rfl⟩
    go_wp2_with fail
    go_ret
    exact HF.out _ H1.out
/-- a right path: what is asked first -/
theorem rgt_two {p : List UInt8} (h : rgt p = true) : okP p = true ∧ base p = wName := by
  unfold rgt at h
  simp only [Bool.and_eq_true, beq_iff_eq] at h
  exact h
set_option maxRecDepth 100000 in
set_option maxHeartbeats 2000000 in
theorem cput_long {w : World} {F : Nat → Prop} {g : Nat} {K : List Lb} (h : CA w F g K) (p t : List UInt8) (hp : p.length ≤ 1000000000) (ht : t.length ≤ 1000000000) (hr : rgt p = true) (hl : 4096 < t.length) : Calls Tryz.prog 10 #[.pointer (some ⟨g, 0, none⟩), .string (bs p), .string (bs t)] w (PuP F g K p t w) := by
  have HV : Hid (∀ W : World, Calls Tryz.prog 22 #[.string (bs p)] W fun e w' => e = .returned (.bool (okP p)) ∧ Below W.heap.size W w') := fun W => valid_any p W (by omega)
  have HB : Hid (∀ W : World, Calls Tryz.prog 23 #[.string (bs p)] W fun e w' => e = .returned (.string (bs (base p))) ∧ w' = W) := fun W => base_any p W (by omega)
  have HF : Hid (∀ w', Below w.heap.size w w' → PuP F g K p t w (.returned (.int .i64 18)) w') := fun w' hb => by
    obtain ⟨h1, h2⟩ := h.same hb
    have e := pcod_long hr hl
    refine ⟨by rw [e], ?_, h2⟩
    unfold putA; rw [e, if_neg (by decide)]; exact h1
  have e1 : (⟨#[84, 65, 82, 71, 69, 84, 83]⟩ : ByteArray) = bs wName := rfl
  obtain ⟨hr1, hr2⟩ := rgt_two hr
  rw [hr1] at HV
  rw [hr2] at HB
  have hz : (bs t).size = t.length := rfl
  have hne : ((bs wName).toList == (bs wName).toList) = true := by simp
  have hl2 : (4096 : Int) < (t.length : Int) := by omega
  clear h hp hr hr1 hr2
  go_enter Tryz.func10, Tryz.ntmps10
  go_wp2_with fail
  refine (HV.out _).mono ?_
  rintro e w1 ⟨rfl, hb1⟩
  have H1 : Hid (Below w.heap.size w w1) := hb1
  clear hb1
  go_wp2_with fail
  refine (HB.out _).mono ?_
  rintro e w2 ⟨rfl, rfl⟩
  go_wp2_with fail
  go_ret
  exact HF.out _ H1.out
end Go.Proofs.YtddaoloabfkheaaGreatDoor

namespace Go.Proofs.YtddaoloabfkheaaGreatDoor
open Go.RowKit

theorem put_have {l : List En} {k : Lb} (ok : OKK (l.map En.key)) (hk : k ∈ l.map En.key) : ∃ (i : Nat) (hi : i < l.length), kix (l.map En.key) k = (i : Int) ∧ (l[i]).key = k ∧ putK (l.map En.key) k = (l.take i ++ l.drop (i + 1) ++ [l[i]]).map En.key := by
  have hi := List.idxOf_lt_length_of_mem hk
  have hi2 : (l.map En.key).idxOf k < l.length := by simpa using hi
  have hg : (l[(l.map En.key).idxOf k]'hi2).key = k := by
    have := List.getElem_idxOf hi
    rwa [List.getElem_map] at this
  refine ⟨_, hi2, by unfold kix; rw [if_pos hk], hg, ?_⟩
  have he : (l.map En.key).erase k = (l.take ((l.map En.key).idxOf k) ++ l.drop ((l.map En.key).idxOf k + 1)).map En.key := by
    rw [List.erase_eq_eraseIdx_of_idxOf rfl, List.eraseIdx_eq_take_drop_succ, List.map_append, List.map_take, List.map_drop]
  have hl : ((l.map En.key).erase k).length ≠ 512 := by
    have h1 := List.length_erase_of_mem hk
    have := ok.len
    omega
  unfold putK
  rw [if_neg hl, he, List.map_append (l₁ := _ ++ _), List.map_cons, List.map_nil, hg]
theorem put_fresh {l : List En} {k : Lb} (x : En) (hx : x.key = k) (hk : k ∉ l.map En.key) : kix (l.map En.key) k = -1 ∧ putK (l.map En.key) k = ((if l.length = 512 then l.drop 1 else l) ++ [x]).map En.key := by
  refine ⟨by unfold kix; rw [if_neg hk], ?_⟩
  unfold putK
  rw [List.erase_of_not_mem hk, List.length_map, List.map_append, List.map_cons, List.map_nil, hx]
  split
  · rw [List.map_drop]
  · rfl
/-- a row with more blocks of targets -/
theorem CB.wideT {w : World} {T T' : Nat → Prop} {g : Nat} {v : Value} {l : List En} (h : CB w T g v l) (h1 : ∀ k, T k → T' k) (h2 : ∀ k, T' k → k ≠ g ∧ v.ownBlock ≠ some k) (h3 : ∀ k, T' k → k < w.heap.size) : CB w T' g v l :=
  ⟨h.blk, h.row, fun x hx => (h.tf x hx).wider h1, h.vg, h2, h3⟩
theorem add_any {w : World} {T : Nat → Prop} {g : Nat} {v : Value} {l : List En} (h : CB w T g v l) {x : En} (hx : TF w T x) (hl : l.length ≤ 512) : Calls Tryz.prog 26 #[.pointer (some ⟨g, 0, none⟩), x.val] w (AdP T g v ((if l.length = 512 then l.drop 1 else l) ++ [x]) w) := by
  by_cases h5 : l.length = 512
  · rw [if_pos h5]; exact addE_full h hx h5
  · rw [if_neg h5]; exact addE_room h hx (by omega)
theorem CA.from {w0 w w' : World} {F T : Nat → Prop} {g : Nat} {v v' : Value} {l : List En} {K : List Lb} (hw : Below w0.heap.size w0 w) (hlt : ∀ k, F k → k < w0.heap.size) (hg : F g) (hv : ∀ k, v.ownBlock = some k → F k) (hT : ∀ k, T k → F k ∨ w0.heap.size ≤ k ∧ k < w.heap.size) (h : CB w' T g v' l) (hvv : v'.ownBlock = v.ownBlock ∨ ∃ k, v'.ownBlock = some k ∧ w.heap.size ≤ k) (ho : OnlyP (fun k => k = g ∨ v.ownBlock = some k) w w') (hK : K = l.map En.key) (ok : OKK K) : CA w' (nwF F w0 w') g K ∧ OnlyP F w0 w' := by
  refine ⟨⟨⟨v', l, T, h, hK, fun k hk => ?_, fun k hk => ?_⟩, .inl hg, fun k hk => ?_, ok⟩, ?_⟩
  · rcases hvv with e | ⟨j, e, hj⟩
    · exact .inl (hv k (e ▸ hk))
    · rw [e] at hk; injection hk with hk; subst hk
      exact .inr ⟨Nat.le_trans hw.size hj, (h.row.lt e).2⟩
  · rcases hT k hk with h1 | h1
    · exact .inl h1
    · exact .inr ⟨h1.1, Nat.lt_of_lt_of_le h1.2 ho.size⟩
  · rcases hk with hk | hk
    · exact Nat.lt_of_lt_of_le (hlt k hk) (Nat.le_trans hw.size ho.size)
    · exact hk.2
  · refine (OnlyP.of_below hw F).trans ho (fun k _ hk => ?_)
    rcases hk with rfl | hk
    · exact hg
    · exact hv k hk

set_option maxRecDepth 100000 in
set_option maxHeartbeats 4000000 in
theorem cput_have {w : World} {F : Nat → Prop} {g : Nat} {K : List Lb} (h : CA w F g K) (p t : List UInt8) (hp : p.length ≤ 1000000000) (ht : t.length ≤ 1000000000) (hr : rgt p = true) (hl : ¬ 4096 < t.length) (hk : (⟨p, t⟩ : Lb) ∈ K) : Calls Tryz.prog 10 #[.pointer (some ⟨g, 0, none⟩), .string (bs p), .string (bs t)] w (PuP F g K p t w) := by
  have HV : Hid (∀ W : World, Calls Tryz.prog 22 #[.string (bs p)] W fun e w' => e = .returned (.bool (okP p)) ∧ Below W.heap.size W w') := fun W => valid_any p W (by omega)
  have HB : Hid (∀ W : World, Calls Tryz.prog 23 #[.string (bs p)] W fun e w' => e = .returned (.string (bs (base p))) ∧ w' = W) := fun W => base_any p W (by omega)
  have e1 : (⟨#[84, 65, 82, 71, 69, 84, 83]⟩ : ByteArray) = bs wName := rfl
  obtain ⟨hr1, hr2⟩ := rgt_two hr
  rw [hr1] at HV
  rw [hr2] at HB
  have hz : (bs t).size = t.length := rfl
  have hne : ((bs wName).toList == (bs wName).toList) = true := by simp
  have hl2 : ¬ (4096 : Int) < (t.length : Int) := by omega
  obtain ⟨⟨v, l, T, hcb, hK, hv, hT⟩, hown, hlt, ok⟩ := h
  subst hK
  obtain ⟨i, hi, hix, hxk, hpk⟩ := put_have ok hk
  have hpo : pcod p t = 0 := pcod_ok hr hl
  have HOk : Hid (OKK (putK (l.map En.key) ⟨p, t⟩)) := ok.put hr (by simp only; omega)
  have HFI : Hid (∀ W, Below w.heap.size w W → Calls Tryz.prog 24 #[.pointer (some ⟨g, 0, none⟩), .agg #[.string (bs p), .string (bs t)]] W fun e w' => e = .returned (.int .i64 (i : Int)) ∧ Below W.heap.size W w') := fun W hW => by
    rw [← hix]; exact find_any (hcb.later hW) (by have := ok.len; simp at this; omega) ⟨p, t⟩
  have HRN : Hid (∀ W, Below w.heap.size w W → Calls Tryz.prog 25 #[.pointer (some ⟨g, 0, none⟩), .int .i64 (i : Int)] W fun e w' => e = .returned (.tuple #[]) ∧ PuP F g (l.map En.key) p t w (.returned (.int .i64 0)) w') := fun W hW => by
    refine (renew_any (hcb.later hW) i hi (by have := ok.len; simpa using this)).mono ?_
    rintro e w' ⟨rfl, v', h1, h2, h3⟩
    have h4 := CA.from hW hlt hown hv (fun k hk => .inl (hT k hk)) h1 h2 h3 hpk HOk.out
    refine ⟨rfl, by rw [hpo], ?_, h4.2⟩
    unfold putA; rw [if_pos hpo]; exact h4.1
  have hi0 : (0 : Int) ≤ (i : Int) := by omega
  clear hp ht hr hr1 hr2 hk hcb hv hT hown hlt ok hix hxk hpk hi hpo hl
  go_enter Tryz.func10, Tryz.ntmps10
  go_wp2_with fail
  refine (HV.out _).mono ?_
  rintro e w1 ⟨rfl, hb1⟩
  have H1 : Hid (Below w.heap.size w w1) := hb1
  clear hb1
  go_wp2_with fail
  refine (HB.out _).mono ?_
  rintro e w2 ⟨rfl, rfl⟩
  go_wp2_with fail
  obtain ⟨w3, hw3⟩ : ∃ w3, w2.alloc (.cells #[.string (bs p), .string (bs t)] 69) = w3 := ⟨_, rfl⟩
  have hk3 : KB w3 w2.heap.size ⟨p, t⟩ := by rw [← hw3]; exact KB.new w2 ⟨p, t⟩
  have H3 : Hid (Below w.heap.size w w3) := by rw [← hw3]; exact bstep H1.out (balloc _ _)
  have HX : Hid (∀ W, Below w3.heap.size w3 W → W.cell? ⟨w2.heap.size, 0, none⟩ = some (.string (bs p)) ∧ W.cell? ⟨w2.heap.size, 1, none⟩ = some (.string (bs t))) := fun W hW => (hk3.later hW).cells
  obtain ⟨x0, x1⟩ := HX.out w3 (Below.refl _ _)
  rw [hw3]
  clear hw3 hk3
  go_region_held3 (fun w' => w'.cell? ⟨w2.heap.size, 0, none⟩ = some (.string (bs p)) ∧ w'.cell? ⟨w2.heap.size, 1, none⟩ = some (.string (bs t))) (first | (with_reducible exact ⟨x0, x1⟩) | (with_reducible exact HX.out _ (Below.refl _ _).drew) | (with_reducible exact KQ.out) | go_keep) (first
    | (go_at_call 24; (with_reducible refine (HFI.out _ (bstep H3.out (Below.refl _ _).drew)).mono ?_); rintro e w4 ⟨rfl, hb4⟩; have O4 : Hid (Below w3.heap.size w3 w4) := bstep (Below.refl _ _).drew hb4; have KQ := hid_of (HX.out w4 O4.out); clear hb4))
  clear KQ x0 x1
  go_wp2_with fail
  refine (HRN.out _ (bstep H3.out O4.out)).mono ?_
  rintro e w5 ⟨rfl, h5⟩
  have H5 : Hid (PuP F g (l.map En.key) p t w (.returned (.int .i64 0)) w5) := h5
  clear h5
  go_wp2_with fail
  go_ret
  exact H5.out

set_option maxRecDepth 100000 in
set_option maxHeartbeats 4000000 in
theorem cput_new {w : World} {F : Nat → Prop} {g : Nat} {K : List Lb} (h : CA w F g K) (E : Ev w) (p t : List UInt8) (hp : p.length ≤ 1000000000) (ht : t.length ≤ 1000000000) (hr : rgt p = true) (hl : ¬ 4096 < t.length) (hk : (⟨p, t⟩ : Lb) ∉ K) : Calls Tryz.prog 10 #[.pointer (some ⟨g, 0, none⟩), .string (bs p), .string (bs t)] w (PuP F g K p t w) := by
  have HV : Hid (∀ W : World, Calls Tryz.prog 22 #[.string (bs p)] W fun e w' => e = .returned (.bool (okP p)) ∧ Below W.heap.size W w') := fun W => valid_any p W (by omega)
  have HB : Hid (∀ W : World, Calls Tryz.prog 23 #[.string (bs p)] W fun e w' => e = .returned (.string (bs (base p))) ∧ w' = W) := fun W => base_any p W (by omega)
  have e1 : (⟨#[84, 65, 82, 71, 69, 84, 83]⟩ : ByteArray) = bs wName := rfl
  obtain ⟨hr1, hr2⟩ := rgt_two hr
  rw [hr1] at HV
  rw [hr2] at HB
  have hz : (bs t).size = t.length := rfl
  have hne : ((bs wName).toList == (bs wName).toList) = true := by simp
  have hl2 : ¬ (4096 : Int) < (t.length : Int) := by omega
  obtain ⟨⟨v, l, T, hcb, hK, hv, hT⟩, hown, hlt, ok⟩ := h
  subst hK
  have hix := (put_fresh ⟨p, t, none, 0, 0, 0⟩ rfl hk).1
  have hpo : pcod p t = 0 := pcod_ok hr hl
  have HOk : Hid (OKK (putK (l.map En.key) ⟨p, t⟩)) := ok.put hr (by simp only; omega)
  have hll : l.length ≤ 512 := by have := ok.len; simpa using this
  have HFI : Hid (∀ W, Below w.heap.size w W → Calls Tryz.prog 24 #[.pointer (some ⟨g, 0, none⟩), .agg #[.string (bs p), .string (bs t)]] W fun e w' => e = .returned (.int .i64 (-1)) ∧ Below W.heap.size W w') := fun W hW => by
    rw [← hix]; exact find_any (hcb.later hW) (by omega) ⟨p, t⟩
  have HPA : Hid (∀ W, Below w.heap.size w W → Calls Tryz.prog 27 #[.agg #[.string (bs p), .string (bs t)]] W (EnP W fun w' x => x.key = ⟨p, t⟩ ∧ TF w' (fun j => W.heap.size ≤ j ∧ j < w'.heap.size) x)) := fun W hW => parsed_any ⟨p, t⟩ (E.later hW) hp ht
  have HAD : Hid (∀ W0 W (x : En), Below w.heap.size w W0 → Below W0.heap.size W0 W → x.key = ⟨p, t⟩ → TF W (fun j => W0.heap.size ≤ j ∧ j < W.heap.size) x → Calls Tryz.prog 26 #[.pointer (some ⟨g, 0, none⟩), x.val] W fun e w' => e = .returned (.tuple #[]) ∧ PuP F g (l.map En.key) p t w (.returned (.int .i64 0)) w' ∧ OnlyP (fun k => k = g ∨ v.ownBlock = some k) W w') := fun W0 W x h0 hW hxk hx => by
    have hwW := bstep h0 hW
    have hb1 : CB W (fun k => T k ∨ W0.heap.size ≤ k ∧ k < W.heap.size) g v l := (hcb.later hwW).wideT (fun k hk => .inl hk) (fun k hk => by
      rcases hk with hk | hk
      · exact hcb.tg k hk
      · refine ⟨fun e => ?_, fun e => ?_⟩
        · have := hcb.lt; have := h0.size; omega
        · have := (hcb.row.lt e).2; have := h0.size; omega) (fun k hk => by
      rcases hk with hk | hk
      · exact Nat.lt_of_lt_of_le (hcb.tl k hk) hwW.size
      · exact hk.2)
    refine (add_any hb1 (hx.wider (fun k hk => .inr hk)) hll).mono ?_
    rintro e w' ⟨rfl, v', h1, h2, h3⟩
    have h4 := CA.from hwW hlt hown hv (fun k hk => by
      rcases hk with hk | hk
      · exact .inl (hT k hk)
      · exact .inr ⟨Nat.le_trans h0.size hk.1, hk.2⟩) h1 h2 h3 (put_fresh x hxk hk).2 HOk.out
    refine ⟨rfl, ⟨by rw [hpo], ?_, h4.2⟩, h3⟩
    unfold putA; rw [if_pos hpo]; exact h4.1
  have HGL : Hid (∀ k, k = g ∨ v.ownBlock = some k → k < w.heap.size) := fun k hk => by
    rcases hk with rfl | hk
    · exact hcb.lt
    · exact (hcb.row.lt hk).2
  clear hp ht hr hr1 hr2 hk hcb hv hT hown hlt ok hix hpo hl hll E
  go_enter Tryz.func10, Tryz.ntmps10
  go_wp2_with fail
  refine (HV.out _).mono ?_
  rintro e w1 ⟨rfl, hb1⟩
  have H1 : Hid (Below w.heap.size w w1) := hb1
  clear hb1
  go_wp2_with fail
  refine (HB.out _).mono ?_
  rintro e w2 ⟨rfl, rfl⟩
  go_wp2_with fail
  obtain ⟨w3, hw3⟩ : ∃ w3, w2.alloc (.cells #[.string (bs p), .string (bs t)] 69) = w3 := ⟨_, rfl⟩
  have hk3 : KB w3 w2.heap.size ⟨p, t⟩ := by rw [← hw3]; exact KB.new w2 ⟨p, t⟩
  have H3 : Hid (Below w.heap.size w w3) := by rw [← hw3]; exact bstep H1.out (balloc _ _)
  have HX : Hid (∀ W, Below w3.heap.size w3 W → W.cell? ⟨w2.heap.size, 0, none⟩ = some (.string (bs p)) ∧ W.cell? ⟨w2.heap.size, 1, none⟩ = some (.string (bs t))) := fun W hW => (hk3.later hW).cells
  have HX2 : Hid (∀ W0 W, Below w3.heap.size w3 W0 → OnlyP (fun k => k = g ∨ v.ownBlock = some k) W0 W → W.cell? ⟨w2.heap.size, 0, none⟩ = some (.string (bs p)) ∧ W.cell? ⟨w2.heap.size, 1, none⟩ = some (.string (bs t))) := fun W0 W h0 hW => by
    have hkl := hk3.later h0
    have hb : W.heap[w2.heap.size]? = W0.heap[w2.heap.size]? := hW.block _ hkl.lt (fun e => by have := HGL.out _ e; have := H1.out.size; omega)
    have h2 : KB W w2.heap.size ⟨p, t⟩ := hb.trans hkl
    exact h2.cells
  obtain ⟨x0, x1⟩ := HX.out w3 (Below.refl _ _)
  rw [hw3]
  clear hw3 hk3
  go_region_held3 (fun w' => w'.cell? ⟨w2.heap.size, 0, none⟩ = some (.string (bs p)) ∧ w'.cell? ⟨w2.heap.size, 1, none⟩ = some (.string (bs t))) (first | (with_reducible exact ⟨x0, x1⟩) | (with_reducible exact HX.out _ (Below.refl _ _).drew) | (with_reducible exact KQ.out) | go_keep) (first
    | (go_at_call 24; (with_reducible refine (HFI.out _ (bstep H3.out (Below.refl _ _).drew)).mono ?_); rintro e w4 ⟨rfl, hb4⟩; have O4 : Hid (Below w3.heap.size w3 w4) := bstep (Below.refl _ _).drew hb4; have KQ := hid_of (HX.out w4 O4.out); clear hb4))
  obtain ⟨y0, y1⟩ := KQ.out
  clear KQ x0 x1
  go_wp2_with fail
  go_region_held3 (fun w' => w'.cell? ⟨w2.heap.size, 0, none⟩ = some (.string (bs p)) ∧ w'.cell? ⟨w2.heap.size, 1, none⟩ = some (.string (bs t))) (first | (with_reducible exact ⟨y0, y1⟩) | (with_reducible exact HX.out _ (bstep O4.out (Below.refl _ _).drew)) | (with_reducible exact KR.out) | (with_reducible exact KS.out) | go_keep) (first
    | (go_at_call 26; (with_reducible refine (HAD.out _ _ ⟨xp, xt, xa, xn, xc, xz⟩ (bstep H3.out (bstep O4.out (Below.refl _ _).drew)) O5.out.1 O5.out.2.1 O5.out.2.2).mono ?_); rintro e w6 ⟨rfl, h6, h7⟩; have O6 : Hid (PuP F g (l.map En.key) p t w (.returned (.int .i64 0)) w6) := h6; have KS := hid_of (HX2.out _ _ (bstep (bstep O4.out (Below.refl _ _).drew) O5.out.1) h7); clear h6 h7)
    | (go_at_call 27; (with_reducible refine (HPA.out _ (bstep H3.out (bstep O4.out (Below.refl _ _).drew))).mono ?_); rintro e w5 ⟨⟨xp, xt, xa, xn, xc, xz⟩, rfl, hx5, hb5⟩; have O5 := hid_of (And.intro hb5 hx5); have KR := hid_of (HX.out w5 (bstep (bstep O4.out (Below.refl _ _).drew) hb5)); clear hb5 hx5))
  clear KR KS y0 y1
  go_wp2_with fail
  go_ret
  exact O6.out
theorem cput_any {w : World} {F : Nat → Prop} {g : Nat} {K : List Lb} (h : CA w F g K) (E : Ev w) (p t : List UInt8) (hp : p.length ≤ 1000000000) (ht : t.length ≤ 1000000000) : Calls Tryz.prog 10 #[.pointer (some ⟨g, 0, none⟩), .string (bs p), .string (bs t)] w (PuP F g K p t w) := by
  cases hr : rgt p with
  | false => exact cput_bad h p t hp hr
  | true =>
    by_cases hl : 4096 < t.length
    · exact cput_long h p t hp ht hr hl
    · by_cases hk : (⟨p, t⟩ : Lb) ∈ K
      · exact cput_have h p t hp ht hr hl hk
      · exact cput_new h E p t hp ht hr hl hk
end Go.Proofs.YtddaoloabfkheaaGreatDoor
