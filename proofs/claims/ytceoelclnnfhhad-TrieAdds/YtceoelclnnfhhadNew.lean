/-
  A tree of files; a file added.
-/
import Derived.Test.YtceoelclnnfhhadAsk
import Derived.Test.YtceoelclnnfhhadPkg2
namespace Go.Proofs.Ytceoelclnnfhhad
open Go.RowKit

theorem szs_of {f : Fl} (h : fileE f = 0) (hf : Fok f) : sz f ≤ 4611686018427387904 ∧ 0 ≤ f.size := by
  have := size_of h hf.text
  unfold sz; omega
theorem Good.sub {L M : List Fl} (h : Good L) (hs : M.Sublist L) : Good M := ⟨fun f hf => h.each f (hs.subset hf), h.apart.sublist hs, Nat.le_trans hs.length_le h.len⟩
theorem Good.revTake {L : List Fl} (h : Good L) (k : Nat) : Good (L.take k).reverse := (h.sub (List.take_sublist k L)).perm (List.reverse_perm _).symm
theorem rev_take_succ {L : List Fl} {k : Nat} (hk : k < L.length) : (L.take (k + 1)).reverse = L[k] :: (L.take k).reverse := by
  rw [List.take_add_one, List.getElem?_eq_getElem hk]; simp
theorem st_nil (q : Q) : st [] q = if q = [] then some (.dir 0 0 0) else none := by
  unfold st
  simp [fileAt, cnt, tot, own]
/-- an empty tree -/
theorem Hp.empty {w : World} {g b : Nat} {F : Nat → Prop} (h1 : ND w g (some b) 0 0 0) (h2 : MP w 0 b (fun _ => none)) (hg : F g) (hb : F b) : Hp w (fun _ => g) (fun _ => b) 0 F (st []) (keys (st [])) := by
  have hroot : ∀ q, (st [] q).isSome = true → q = [] := by
    intro q hq
    rw [st_nil] at hq
    split at hq
    · rename_i e; exact e
    · cases hq
  refine ⟨fun q c a o e => ?_, fun q s e => ?_, fun q q' h h' _ => by rw [hroot q h, hroot q' h'], fun q q' _ _ _ _ _ _ h h' _ => by rw [hroot q (by rw [h]; rfl), hroot q' (by rw [h']; rfl)]⟩
  · have := hroot q (by rw [e]; rfl)
    subst this
    rw [st_nil, if_pos rfl] at e
    cases e
    refine ⟨h1, h2.congr (fun n => ?_), hg, hb⟩
    have : keys (st []) [] n = false := by unfold keys; rw [st_nil]; simp
    rw [this]; rfl
  · rw [st_nil] at e
    split at e <;> cases e
theorem OnlyP.toBelow {F : Nat → Prop} {a b : World} {B : Nat} (h : OnlyP F a b) (hB : B ≤ a.heap.size) (hF : ∀ i, F i → B ≤ i) : Below B a b :=
  ⟨h.os, h.tape, h.output, h.size, fun i hi => h.block i (by omega) (fun e => by have := hF i e; omega)⟩
theorem put_val {w : World} {A M : Q → Nat} {N t : Nat} {F : Nat → Prop} {L : List Fl} {p tx : List UInt8} {bl s : Int} (hg : Good (⟨p, tx, bl, s⟩ :: L)) (hz : Szs (⟨p, tx, bl, s⟩ :: L)) (h : Hp w A M N F (st L) (keys (st L))) (ht : TB w t (A [])) (hF : ∀ i, F i → i < w.heap.size) (hN : N + 20 < 4611686018427387904) (hf : Fok ⟨p, tx, bl, s⟩) (hs : 0 ≤ s) :
    Calls Try.prog 16 #[.pointer (some ⟨t, 0, none⟩), .agg #[.string (bs p), .string (bs tx), .int .i64 bl, .int .i64 s]] w fun e w' => e = .returned (.tuple #[]) ∧ ∃ A' M', A' [] = A [] ∧ Hp w' A' M' (N + 20) (fun i => F i ∨ w.heap.size ≤ i ∧ i < w'.heap.size) (st (⟨p, tx, bl, s⟩ :: L)) (keys (st (⟨p, tx, bl, s⟩ :: L))) ∧ AK w w' ∧ OnlyP F w w' :=
  put_any hg hz h ht hF hN hf hs

set_option maxRecDepth 100000 in
set_option maxHeartbeats 4000000 in
theorem new_bad {w : World} {v : Value} {l : List Fl} (h : FS w v l) (sm : FSm l) (hv : validE l ≠ 0) :
    Calls Try.prog 4 #[v] w fun e w' => e = .returned (.tuple #[.pointer none, .int .i64 (validE l)]) ∧ Below w.heap.size w w' := by
  have H : Hid (FS w v l ∧ FSm l) := ⟨h, sm⟩
  clear h sm
  obtain ⟨z, hz⟩ : ∃ z, validE l = z := ⟨_, rfl⟩
  have HZ : Hid (validE l = z) := hz
  rw [hz] at hv ⊢
  clear hz
  have hne : (z != 0) = true := by simpa using hv
  go_enter Try.func4, Try.ntmps4
  go_wp2_with fail
  refine (valid2_any H.out.1 H.out.2).mono ?_
  rintro e w1 ⟨rfl, hb1⟩
  rw [HZ.out]
  have HB : Hid (Below w.heap.size w w1) := hb1
  clear hb1
  go_wp2_with fail
  go_ret2
  exact ⟨rfl, HB.out⟩

set_option maxRecDepth 100000 in
set_option maxHeartbeats 4000000 in
theorem new_good {w : World} {v : Value} {l : List Fl} (h : FS w v l) (sm : FSm l) (hv : validE l = 0) :
    Calls Try.prog 4 #[v] w fun e w' => ∃ t, e = .returned (.tuple #[.pointer (some ⟨t, 0, none⟩), .int .i64 0]) ∧ TR w' (fun i => w.heap.size ≤ i ∧ i < w'.heap.size) t l 12000 ∧ Below w.heap.size w w' := by
  have hg := (validE_good.1 hv).1
  have hsz : Szs l := fun f hf => (szs_of (hg.each f hf) (sm.each f hf)).1
  have H : Hid (FS w v l ∧ FSm l ∧ Good l ∧ Szs l) := ⟨h, sm, hg, hsz⟩
  have HV : Hid (validE l = 0) := hv
  have hlen : l.length ≤ 512 := hg.len
  clear sm hg hsz hv
  obtain ⟨a, c, rfl, _⟩ := h.form
  rename_i q1
  clear h q1
  have H' : Hid (FS w (.slice a l.length c) l) := H.out.1
  obtain ⟨n, hn⟩ : ∃ n, l.length = n := ⟨_, rfl⟩
  have HN : Hid (l.length = n) := hn
  rw [hn] at hlen
  have HV1 : Hid (∀ W, w = W → Calls Try.prog 14 #[.slice a n c] W fun e w' => e = .returned (.int .i64 0) ∧ Below W.heap.size W w') := by
    rintro W rfl
    have := valid2_any H.out.1 H.out.2.1
    rw [HV.out] at this
    rw [← hn]; exact this
  rw [hn]
  clear hn
  go_enter Try.func4, Try.ntmps4
  go_wp2_with fail
  refine (HV1.out _ rfl).mono ?_
  rintro e w1 ⟨rfl, hb1⟩
  have HB1 : Hid (Below w.heap.size w w1) := hb1
  clear hb1
  go_wp2_with fail
  refine (newDir_any _).mono ?_
  rintro e w2 ⟨g, b, rfl, h1, h2, h3, h4, h5⟩
  have H2 : Hid (ND w2 g (some b) 0 0 0 ∧ MP w2 0 b (fun _ => none) ∧ Below w.heap.size w w2 ∧ w.heap.size ≤ g ∧ w.heap.size ≤ b) := by
    have := HB1.out.size
    exact ⟨h1, h2, bstep HB1.out h3, by omega, by omega⟩
  clear h1 h2 h3 h4 h5
  go_wp2_with fail
  obtain ⟨w3, hw3⟩ : ∃ w3, w2.alloc (.cells #[.pointer (some ⟨g, 0, none⟩)] 48) = w3 := ⟨_, rfl⟩
  obtain ⟨t, ht⟩ : ∃ t, w2.heap.size = t := ⟨_, rfl⟩
  have H3 : Hid (Hp w3 (fun _ => g) (fun _ => b) 0 (fun i => w.heap.size ≤ i ∧ i < w3.heap.size) (st []) (keys (st [])) ∧ TB w3 t g ∧ Below w.heap.size w w3 ∧ w.heap.size ≤ t) := by
    have hb : Below w2.heap.size w2 w3 := by rw [← hw3]; exact balloc _ _
    refine ⟨?_, ⟨by rw [← hw3, ← ht]; exact heap_alloc_new _ _⟩, bstep H2.out.2.2.1 hb, by rw [← ht]; exact H2.out.2.2.1.size⟩
    have k1 := H2.out.1.block (hb.block g H2.out.1.lt)
    have k2 := H2.out.2.1.block (hb.block b H2.out.2.1.lt)
    exact Hp.empty k1 k2 ⟨H2.out.2.2.2.1, k1.lt⟩ ⟨H2.out.2.2.2.2, k2.lt⟩
  rw [hw3, ht]
  clear hw3 ht
  go_loopw [18] (fun i wr => ∃ (k : Nat) (A M : Q → Nat), k ≤ n ∧ i = .int .i64 k ∧ Hp wr A M (20 * k) (fun i => w.heap.size ≤ i ∧ i < wr.heap.size) (st (l.take k).reverse) (keys (st (l.take k).reverse)) ∧ TB wr t (A []) ∧ Below w.heap.size w wr) (fun i _ => n - (intOf i).toNat)
  case atStart => exact ⟨0, _, _, by omega, rfl, H3.out.1, H3.out.2.1, H3.out.2.2.1⟩
  case round =>
    obtain ⟨k, A, M, hk, rfl, hh, ht, hb⟩ := hrel
    have HH : Hid (Hp wr A M (20 * k) (fun i => w.heap.size ≤ i ∧ i < wr.heap.size) (st (l.take k).reverse) (keys (st (l.take k).reverse)) ∧ TB wr t (A []) ∧ Below w.heap.size w wr) := ⟨hh, ht, hb⟩
    clear hh ht hb
    by_cases hlt : k < n
    · have hkl : k < l.length := by have := HN.out; omega
      obtain ⟨b, off, ea, hbw, d0, d1, d2, d3⟩ := FS.at H'.out HH.out.2.2 hkl
      subst ea
      have hgo := H.out.2.2.1.revTake (k + 1)
      have hmem : l[k] ∈ l := List.getElem_mem hkl
      have hfk := H.out.2.1.each _ hmem
      have hse := szs_of (H.out.2.2.1.each _ hmem) hfk
      rw [rev_take_succ hkl] at hgo
      have HS : Hid ((l.take (k + 1)).reverse = l[k] :: (l.take k).reverse ∧ Good (l[k] :: (l.take k).reverse) ∧ Fok l[k] ∧ 0 ≤ (l[k]).size ∧ Szs (l[k] :: (l.take k).reverse)) := by
        refine ⟨rev_take_succ hkl, hgo, hfk, hse.2, fun f hf => ?_⟩
        rcases List.mem_cons.1 hf with rfl | hf
        · exact hse.1
        · exact H.out.2.2.2 f (List.mem_of_mem_take (List.mem_reverse.1 hf))
      clear hgo hmem hfk hse
      obtain ⟨f, hf⟩ : ∃ f, l[k] = f := ⟨_, rfl⟩
      rw [hf] at d0 d1 d2 d3 HS
      clear hf
      obtain ⟨p, tx, bl, s⟩ := f
      simp only at d0 d1 d2 d3 HS
      have k1 : (0 : Int) ≤ (k : Int) := by omega
      have k2 : (k : Int) < (n : Int) := by omega
      go_wp2_with fail
      obtain ⟨w4, hw4⟩ : ∃ w4, wr.alloc (.cells #[.string (bs p), .string (bs tx), .int .i64 bl, .int .i64 s] 30) = w4 := ⟨_, rfl⟩
      have H4 : Hid (Hp w4 A M (20 * k) (fun i => w.heap.size ≤ i ∧ i < w4.heap.size) (st (l.take k).reverse) (keys (st (l.take k).reverse)) ∧ TB w4 t (A []) ∧ Below w.heap.size w w4) := by
        have hb : Below wr.heap.size wr w4 := by rw [← hw4]; exact balloc _ _
        exact ⟨(HH.out.1.later hb).wider (fun i hi => ⟨hi.1, Nat.lt_of_lt_of_le hi.2 hb.size⟩) (Nat.le_refl _), HH.out.2.1.later hb, bstep HH.out.2.2 hb⟩
      rw [hw4]
      clear hw4 d0 d1 d2 d3
      refine (put_val HS.out.2.1 HS.out.2.2.2.2 H4.out.1 H4.out.2.1 (fun i hi => hi.2) (by omega) HS.out.2.2.1 HS.out.2.2.2.1).mono ?_
      rintro e w5 ⟨rfl, A', M', hA, hh, hak, hop⟩
      have H5 : Hid (Hp w5 A' M' (20 * (k + 1)) (fun i => w.heap.size ≤ i ∧ i < w5.heap.size) (st (l.take (k + 1)).reverse) (keys (st (l.take (k + 1)).reverse)) ∧ TB w5 t (A' []) ∧ Below w.heap.size w w5) := by
        rw [HS.out.1]
        have hs5 := hop.size
        have hs4 := H4.out.2.2.size
        refine ⟨hh.wider (fun i hi => ?_) (by omega), by rw [hA]; exact H4.out.2.1.ak hak, below_trans H4.out.2.2 (hop.toBelow hs4 (fun i hi => hi.1))⟩
        rcases hi with hi | hi
        · exact ⟨hi.1, by omega⟩
        · exact ⟨by omega, hi.2⟩
      clear hA hh hak hop
      go_wp2_with fail
      go_roundw
      case rel => exact ⟨k + 1, A', M', by omega, by go_num, H5.out.1, H5.out.2.1, H5.out.2.2⟩
      case measure => simp [intOf]; omega
    · obtain rfl : k = n := by omega
      go_wp2_with fail
      go_ret2
      refine ⟨t, rfl, ?_, HH.out.2.2⟩
      have e : l.take k = l := List.take_of_length_le (by have := HN.out; omega)
      have hh := HH.out.1
      rw [e] at hh
      have htr : TR wr (fun i => w.heap.size ≤ i ∧ i < wr.heap.size) t l.reverse 12000 :=
        ⟨H.out.2.2.1.perm (List.reverse_perm l).symm, ⟨A, M, hh.wider (fun _ h => h) (by omega), HH.out.2.1.blk⟩, ⟨H3.out.2.2.2, HH.out.2.1.lt⟩, fun i hi => hi.2⟩
      exact htr.perm (List.reverse_perm l)
end Go.Proofs.Ytceoelclnnfhhad
