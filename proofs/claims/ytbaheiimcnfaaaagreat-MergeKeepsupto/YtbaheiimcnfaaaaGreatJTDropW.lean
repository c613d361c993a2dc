/-
  What is right in a directory, told as a list.
  delete and clear in a walk; a file less.
-/
import Derived.Test.YtbaheiimcnfaaaaGreatJTList
import Derived.Test.YtbaheiimcnfaaaaGreatJNe
namespace Go.Proofs.YtbaheiimcnfaaaaGreat
open Go.RowKit Go.Maps

/-- a piece joined -/
theorem jn_child {L : List Fl} (h : GoodT L) {d n : List UInt8} (hs : (st L (pcs d ++ [n])).isSome = true) : okP d = true ∧ okP n = true ∧ n.length ≤ 32 ∧ jn d n = (join (pcs d ++ [n]), 0) := by
  obtain ⟨e, ho⟩ := pcs_of h hs
  have hall := okP_all ho
  rw [e, List.all_append, Bool.and_eq_true] at hall
  have hn : okC n = true := by simpa using hall.2
  have hln := okC_le hn
  have hnz : n ≠ [] := by rintro rfl; rw [okC_nil] at hn; cases hn
  have hsl : (47 : UInt8) ∉ n := pcs_noslash (join (pcs d ++ [n])) n (by rw [e]; simp)
  have hpn : pcs n = [n] := by unfold pcs; rw [if_neg hnz, sp_one n hsl]
  have hon : okP n = true := by
    unfold okP
    rw [← dep_eq, hpn]
    simp only [Bool.and_eq_true, decide_eq_true_eq, List.length_singleton, List.all_cons, List.all_nil, hn, and_true]
    omega
  have hod : okP d = true := by
    have := okP_part ho (X := pcs d) (by rw [e]; exact ⟨[n], rfl⟩)
    rw [join_pcs] at this; exact this
  refine ⟨hod, hon, hln, ?_⟩
  by_cases hd : d = []
  · subst hd
    rw [jn_left n hon]; rfl
  · have hp : pcs d ≠ [] := fun e => hd ((pcs_eq_nil d).1 e)
    have e2 : join (pcs d ++ [n]) = d ++ 47 :: n := by rw [join_last _ _ hp, join_pcs]
    rw [e2] at ho ⊢
    unfold jn
    rw [if_pos ⟨hod, hon⟩, if_neg hd, if_neg hnz, if_pos ho]
theorem inS_isD {L : List Fl} (h : GoodT L) {k : Bool} {d x : List UInt8} (hx : inS L k d x) : isD L d = true := by
  obtain ⟨n, y, hs, _, _⟩ := hx
  have hs' : (st L (pcs d ++ [n])).isSome = true := by rw [hs]; rfl
  rw [isD_iff h]
  unfold nod
  rw [if_pos (jn_child h hs').1]
  exact st_up h hs'
theorem nodup_len {α : Type} {g : α → List UInt8} : ∀ (L : List α) (X : List (List UInt8)), X.Nodup → (∀ x ∈ X, ∃ f ∈ L, g f = x) → X.length ≤ L.length
  | [], X, _, h => by
    cases X with
    | nil => simp
    | cons x r => obtain ⟨f, hf, _⟩ := h x (by simp); cases hf
  | f :: L, X, hn, h => by
    have ih := nodup_len L (X.erase (g f)) (hn.erase _) (fun x hx => by
      have hx2 := (hn.mem_erase_iff).1 hx
      obtain ⟨f', hf', e⟩ := h x hx2.2
      rcases List.mem_cons.1 hf' with rfl | hf'
      · exact absurd e.symm hx2.1
      · exact ⟨f', hf', e⟩)
    by_cases hm : g f ∈ X
    · rw [List.length_erase_of_mem hm] at ih
      simp only [List.length_cons]; omega
    · rw [List.erase_of_not_mem hm] at ih
      simp only [List.length_cons]; omega
/-- so far: those that are no longer to come -/
def sofar (L : List Fl) (k : Bool) (d : List UInt8) (left : List UInt8 → Bool) (x : List UInt8) : Prop := ∃ n y, st L (pcs d ++ [n]) = some y ∧ y.isF = k ∧ left n = false ∧ x = join (pcs d ++ [n])
structure Far (L : List Fl) (k : Bool) (d : List UInt8) (left : List UInt8 → Bool) (X : List (List UInt8)) : Prop where
  nodup : X.Nodup
  mem : ∀ x, x ∈ X ↔ sofar L k d left x
theorem st_inj {L : List Fl} (h : GoodT L) {q : Q} {n m : List UInt8} (hn : (st L (q ++ [n])).isSome = true) (hm : (st L (q ++ [m])).isSome = true) (e : join (q ++ [n]) = join (q ++ [m])) : n = m := by
  have h1 := (pcs_of h hn).1
  have h2 := (pcs_of h hm).1
  rw [e, h2] at h1
  have := List.append_cancel_left h1
  simpa using this.symm
theorem Far.start (L : List Fl) (k : Bool) (d : List UInt8) : Far L k d (fun n => keys (st L) (pcs d) n) [] := by
  refine ⟨.nil, fun x => ⟨fun h => by simp at h, ?_⟩⟩
  rintro ⟨n, y, h1, _, h2, _⟩
  have h3 : (st L (pcs d ++ [n])).isSome = false := h2
  rw [h1] at h3; cases h3
theorem Far.skip {L : List Fl} {k : Bool} {d n : List UInt8} {left : List UInt8 → Bool} {X : List (List UInt8)} {y : Nd} (h : Far L k d left X) (hs : st L (pcs d ++ [n]) = some y) (hy : y.isF ≠ k) : Far L k d (fun z => left z && !(z == n)) X := by
  refine ⟨h.nodup, fun x => ?_⟩
  rw [h.mem]
  constructor
  · rintro ⟨m, z, h1, h2, h3, h4⟩
    exact ⟨m, z, h1, h2, by simp [h3], h4⟩
  · rintro ⟨m, z, h1, h2, h3, h4⟩
    refine ⟨m, z, h1, h2, ?_, h4⟩
    by_cases e : m = n
    · subst e
      rw [hs] at h1
      cases h1
      exact absurd h2 hy
    · simpa [e] using h3
theorem Far.more {L : List Fl} (hg : GoodT L) {k : Bool} {d n : List UInt8} {left : List UInt8 → Bool} {X : List (List UInt8)} {y : Nd} (h : Far L k d left X) (hs : st L (pcs d ++ [n]) = some y) (hy : y.isF = k) (hl : left n = true) :
    Far L k d (fun z => left z && !(z == n)) (X ++ [join (pcs d ++ [n])]) := by
  have hsn : (st L (pcs d ++ [n])).isSome = true := by rw [hs]; rfl
  refine ⟨?_, fun x => ?_⟩
  · rw [List.nodup_append]
    refine ⟨h.nodup, by simp, fun a ha b hb e => ?_⟩
    simp at hb
    subst e
    subst hb
    obtain ⟨m, z, h1, h2, h3, h4⟩ := (h.mem _).1 ha
    have := st_inj hg hsn (by rw [h1]; rfl) h4
    subst this
    rw [hl] at h3; cases h3
  · rw [List.mem_append, h.mem]
    simp only [List.mem_singleton]
    constructor
    · rintro (⟨m, z, h1, h2, h3, h4⟩ | rfl)
      · exact ⟨m, z, h1, h2, by simp [h3], h4⟩
      · exact ⟨n, y, hs, hy, by simp, rfl⟩
    · rintro ⟨m, z, h1, h2, h3, h4⟩
      by_cases e : m = n
      · subst e; exact .inr h4
      · exact .inl ⟨m, z, h1, h2, by simpa [e] using h3, h4⟩
theorem Far.len {L : List Fl} (hg : GoodT L) {k : Bool} {d : List UInt8} {left : List UInt8 → Bool} {X : List (List UInt8)} (h : Far L k d left X) : X.length ≤ 512 ∧ ∀ x ∈ X, x.length ≤ 120 := by
  constructor
  · refine Nat.le_trans (nodup_len (g := hed (pcs d).length) L X h.nodup (fun x hx => ?_)) hg.len
    obtain ⟨n, y, h1, _, _, rfl⟩ := (h.mem x).1 hx
    rcases part_of (L := L) (q := pcs d ++ [n]) (by rw [h1]; rfl) with e | ⟨f, hf, r, e⟩
    · simp at e
    · refine ⟨f, hf, ?_⟩
      unfold hed
      rw [← e, List.append_assoc, List.take_append, List.take_of_length_le (by omega)]
      simp
  · intro x hx
    obtain ⟨n, y, h1, _, _, rfl⟩ := (h.mem x).1 hx
    exact (okP_len (pcs_of hg (q := pcs d ++ [n]) (by rw [h1]; rfl)).2).1
theorem Far.end {L : List Fl} {k : Bool} {d : List UInt8} {left : List UInt8 → Bool} {X ts : List (List UInt8)} (h : Far L k d left X) (hl : ∀ n, left n = false) (hp : ts.Perm X) (hs : ts.Pairwise fun a b => cf a b ≤ 0) : Up ts ∧ ∀ x, x ∈ ts ↔ inS L k d x := by
  constructor
  · have hn : ts.Nodup := hp.nodup_iff.2 h.nodup
    refine (List.pairwise_iff_forall_sublist).2 ?_
    intro a b hab
    have h1 : cf a b ≤ 0 := (List.pairwise_iff_forall_sublist.1 hs) hab
    have h2 : a ≠ b := (List.pairwise_iff_forall_sublist.1 hn) hab
    have h3 : cf a b ≠ 0 := fun e => h2 (cf_zero.1 e)
    show cf a b < 0
    omega
  · intro x
    rw [hp.mem_iff, h.mem]
    constructor
    · rintro ⟨n, y, h1, h2, _, h4⟩; exact ⟨n, y, h1, h2, h4⟩
    · rintro ⟨n, y, h1, h2, h4⟩; exact ⟨n, y, h1, h2, hl n, h4⟩
theorem only_one {w w' : World} {r : Nat} (h : w.grownBy w' (some r)) : Only [r] w w' :=
  ⟨h.os, h.tape, h.output, h.size, fun k hk hn => h.block k hk (by intro e; exact hn (by have := Option.some.inj e; simp [this]))⟩

set_option maxRecDepth 100000 in
set_option maxHeartbeats 4000000 in
theorem filesT_any {w : World} {F : Nat → Prop} {t N : Nat} {L : List Fl} (h : TR w F t L N) (d : List UInt8) (hd : d.length ≤ 1000000000) :
    Calls Tryz.prog 123 #[.pointer (some ⟨t, 0, none⟩), .string (bs d), .func (.func 84) #[] #[]] w fun e w' => ∃ v X, e = .returned v ∧ Own w.heap.size w' v X ∧ Up X ∧ (∀ x, x ∈ X ↔ inS L true d x) ∧ X.length ≤ 512 ∧ (∀ x ∈ X, x.length ≤ 120) ∧ Below w.heap.size w w' := by
  obtain ⟨A, M, h1, h2⟩ := h.open
  have H : Hid (GoodT L ∧ Hp w A M N F (st L) (keys (st L)) ∧ TB w t (A []) ∧ d.length ≤ 1000000000) := ⟨h.good, h1, h2, hd⟩
  clear h h1 h2 hd
  have q1 := eqP
  rcases nod_cases H.out.1 d with ⟨e1, e2⟩ | ⟨e1, e2⟩
  · have hp : dirP A L d = .pointer (some ⟨A (pcs d), 0, none⟩) := by unfold dirP; rw [e2]
    have HP : Hid (dirP A L d = .pointer (some ⟨A (pcs d), 0, none⟩) ∧ st L (pcs d) = some (.dir (cnt L (pcs d)) (tot L (pcs d)) (own L (pcs d)))) := by
      refine ⟨hp, ?_⟩
      unfold nod at e2
      rw [isD_ok e1] at e2; exact e2
    clear hp e1 e2
    go_enter Tryz.func123, Tryz.ntmps123
    go_wp2_with fail
    refine (dir0 H.out.1 H.out.2.1 H.out.2.2.1 d H.out.2.2.2).mono ?_
    rintro e w1 ⟨rfl, hb1⟩
    rw [HP.out.1]
    have HB : Hid (Below w.heap.size w w1) := hb1
    obtain ⟨hn, hm, _, _⟩ := (H.out.2.1.later hb1).dirs _ _ _ _ HP.out.2
    obtain ⟨c0, _⟩ := hn.cells
    have HM : Hid (MP w1 N (M (pcs d)) (fun n => if keys (st L) (pcs d) n then some (A (pcs d ++ [n])) else none)) := hm
    clear hb1 hn hm
    go_wp2_with (first | (at_range; refine wp_range HM.out rfl _ rfl rfl ?_; intro w2 cnt0 hrg0 hb2 hs2))
    go_frame
    have H2 : Hid (RG w2 N (M (pcs d)) w1.heap.size (fun n => if keys (st L) (pcs d) n then some (A (pcs d ++ [n])) else none) (fun n => keys (st L) (pcs d) n) cnt0 ∧ Below w.heap.size w w2 ∧ M (pcs d) < w2.heap.size ∧ w1.heap.size < w2.heap.size) := by
      refine ⟨?_, bstep HB.out hb2, by have := HM.out.lt; omega, by omega⟩
      have e : (fun k => ((fun n => if keys (st L) (pcs d) n then some (A (pcs d ++ [n])) else none) k).isSome) = (fun n => keys (st L) (pcs d) n) := by
        funext n
        cases hk : keys (st L) (pcs d) n <;> simp [hk]
      rw [e] at hrg0; exact hrg0
    have hbig := HB.out.size
    clear hrg0 hb2 c0
    obtain ⟨r, hr⟩ : ∃ r, w1.heap.size = r := ⟨_, rfl⟩
    obtain ⟨B, hB⟩ : ∃ B, w2.heap.size = B := ⟨_, rfl⟩
    rw [hr] at H2 ⊢
    have HR : Hid (w1.heap.size = r ∧ w2.heap.size = B ∧ w.heap.size ≤ r ∧ r < B ∧ M (pcs d) < B) := by
      have := H2.out.2.2
      exact ⟨hr, hB, by omega, by omega, by omega⟩
    clear hr hB hs2 hbig
    go_loopw [8] (fun u wr => ∃ (left : List UInt8 → Bool) (cn : Nat) (X : List (List UInt8)), RG wr N (M (pcs d)) r (fun n => if keys (st L) (pcs d) n then some (A (pcs d ++ [n])) else none) left cn ∧ Far L true d left X ∧ Own B wr u X ∧ Below w.heap.size w wr ∧ B ≤ wr.heap.size)
      (fun _ wr => wr.rangeLeft (M (pcs d)) r)
    case atStart => exact ⟨_, _, [], H2.out.1, Far.start _ _ _, Own.nil _ _, H2.out.2.1, by have := HR.out; omega⟩
    case round =>
      obtain ⟨left, cn, X, hrg, hf, ho, hb, hz⟩ := hrel
      have HX : Hid (RG wr N (M (pcs d)) r (fun n => if keys (st L) (pcs d) n then some (A (pcs d ++ [n])) else none) left cn ∧ Far L true d left X ∧ Own B wr u8 X ∧ Below w.heap.size w wr ∧ B ≤ wr.heap.size) := ⟨hrg, hf, ho, hb, hz⟩
      clear hrg hf ho hb hz
      go_wp2_with (first | (at_next; refine wp_next HX.out.1 rfl _ rfl rfl ?_ ?_))
      · intro hl
        have HL : Hid (∀ k, left k = false) := hl
        clear hl
        go_wp2_with fail
        have hlen := HX.out.2.1.len H.out.1
        refine (sort_any HX.out.2.2.1 ⟨by have := hlen.1; omega, fun x hx => by have := hlen.2 x hx; omega⟩ HX.out.2.2.2.2).mono ?_
        rintro e w5 ⟨rfl, ts, hp, hs, ho5, hb5⟩
        have H5 : Hid (Own w.heap.size w5 u8 ts ∧ (Up ts ∧ ∀ x, x ∈ ts ↔ inS L true d x) ∧ ts.length ≤ 512 ∧ (∀ x ∈ ts, x.length ≤ 120) ∧ Below w.heap.size w w5) := by
          have hr := HR.out
          refine ⟨ho5.mono (by omega), HX.out.2.1.end HL.out hp hs, by rw [hp.length_eq]; exact hlen.1, fun x hx => hlen.2 x (hp.mem_iff.1 hx), ?_⟩
          exact below_trans HX.out.2.2.2.1 (below_mono hb5 (by omega))
        clear hlen hp hs ho5 hb5
        go_wp2_with fail
        go_ret
        exact ⟨_, ts, rfl, H5.out.1, H5.out.2.1.1, H5.out.2.1.2, H5.out.2.2.1, H5.out.2.2.2.1, H5.out.2.2.2.2⟩
      · intro n x w3 cn3 hln hkey hFn hrg3 hlt hg3 hs3 hen
        subst hFn
        obtain ⟨y, hy⟩ := Option.isSome_iff_exists.1 (show (st L (pcs d ++ [n])).isSome = true from hkey)
        have hr := HR.out
        have H3 : Hid (RG w3 N (M (pcs d)) r (fun n => if keys (st L) (pcs d) n then some (A (pcs d ++ [n])) else none) (fun z => left z && !(z == n)) cn3 ∧ Own B w3 u8 X ∧ Below w.heap.size w w3 ∧ B ≤ w3.heap.size) := by
          have h0 := only_one hg3
          refine ⟨hrg3, HX.out.2.2.1.only h0 (fun k hk e => by have := (HX.out.2.2.1.lt hk).1; simp at e; omega), below_trans HX.out.2.2.2.1 (h0.below HX.out.2.2.2.1.size (fun k hk => by simp at hk; omega)), by have := HX.out.2.2.2.2; omega⟩
        have HY : Hid (st L (pcs d ++ [n]) = some y ∧ left n = true ∧ cn3 < cn) := ⟨hy, hln, hlt⟩
        have HQ := jn_child H.out.1 (show (st L (pcs d ++ [n])).isSome = true from hkey)
        have HJ : Hid (jn d n = (join (pcs d ++ [n]), 0) ∧ n.length ≤ 32) := ⟨HQ.2.2.2, HQ.2.2.1⟩
        clear hrg3 hg3 hy hln hlt hkey hs3 hr HQ
        have HC : Hid (∀ W, w3 = W → Calls Tryz.prog 84 #[.pointer (some ⟨A (pcs d ++ [n]), 0, none⟩)] W fun e w' => e = .returned (.bool y.isF) ∧ w' = W) := by
          rintro W rfl
          have hh := H.out.2.1.later H3.out.2.2.1
          cases y with
          | file s => exact isFile_any (hh.files _ _ HY.out.1).1
          | dir c a o => exact isFile_any (hh.dirs _ _ _ _ HY.out.1).1
        cases y with
        | dir c a o =>
          go_wp2_with fail
          refine (HC.out _ rfl).mono ?_
          rintro e w4 ⟨rfl, hw4⟩
          subst hw4
          simp only [Nd.isF]
          go_wp2_with fail
          go_roundw
          case rel => exact ⟨_, cn3, X, H3.out.1, HX.out.2.1.skip HY.out.1 (by simp [Nd.isF]), H3.out.2.1, H3.out.2.2.1, H3.out.2.2.2⟩
          case measure => rw [H3.out.1.left_eq, HX.out.1.left_eq]; exact HY.out.2.2
        | file s =>
          go_wp2_with fail
          refine (HC.out _ rfl).mono ?_
          rintro e w4 ⟨rfl, hw4⟩
          subst hw4
          simp only [Nd.isF]
          go_wp2_with fail
          refine (join_any d n _ (by have := H.out.2.2.2; omega) (by have := HJ.out.2; omega)).mono ?_
          rintro e w5 ⟨rfl, hb5⟩
          rw [HJ.out.1]
          have hlen := HX.out.2.1.len H.out.1
          have H5 : Hid (RG w5 N (M (pcs d)) r (fun n => if keys (st L) (pcs d) n then some (A (pcs d ++ [n])) else none) (fun z => left z && !(z == n)) cn3 ∧ Own B w5 u8 X ∧ Below w.heap.size w w5 ∧ B ≤ w5.heap.size ∧ X.length ≤ 512) := by
            have hr := HR.out
            have h6 := H3.out.2.2.2
            exact ⟨H3.out.1.below hb5 (by omega) (by omega), H3.out.2.1.later hb5, bstep H3.out.2.2.1 hb5, by have := hb5.size; omega, hlen.1⟩
          clear hb5 hlen
          obtain ⟨p, hp⟩ : ∃ p, join (pcs d ++ [n]) = p := ⟨_, rfl⟩
          have HPP : Hid (join (pcs d ++ [n]) = p) := hp
          rw [hp]
          clear hp
          go_wp2_with (first | (at_builtin; refine app_one p H5.out.2.1 (by have := H5.out.2.2.2.2; omega) H5.out.2.2.2.1 rfl (.tmp 37) (.tmp 39) rfl rfl rfl ?_; intro v6 w6 ho6 hb6 hz6 hg6 hv6))
          have H6 : Hid (RG w6 N (M (pcs d)) r (fun n => if keys (st L) (pcs d) n then some (A (pcs d ++ [n])) else none) (fun z => left z && !(z == n)) cn3 ∧ Own B w6 v6 (X ++ [p]) ∧ Below w.heap.size w w6 ∧ B ≤ w6.heap.size) := by
            have hr := HR.out
            exact ⟨H5.out.1.below hb6 (by omega) (by omega), ho6, below_trans H5.out.2.2.1 (below_mono hb6 (by omega)), hz6⟩
          clear ho6 hb6 hz6 hg6 hv6
          go_roundw
          case rel => exact ⟨_, cn3, X ++ [p], H6.out.1, by rw [← HPP.out]; exact HX.out.2.1.more H.out.1 HY.out.1 rfl HY.out.2.1, H6.out.2.1, H6.out.2.2.1, H6.out.2.2.2⟩
          case measure => rw [H6.out.1.left_eq, HX.out.1.left_eq]; exact HY.out.2.2
  · have HP : Hid (dirP A L d = .pointer none) := by
      show _ = _
      unfold dirP
      rcases e2 with e2 | ⟨s, e2⟩ <;> rw [e2]
    have HD : Hid (isD L d = false) := e1
    clear e1 e2
    go_enter Tryz.func123, Tryz.ntmps123
    go_wp2_with fail
    refine (dir0 H.out.1 H.out.2.1 H.out.2.2.1 d H.out.2.2.2).mono ?_
    rintro e w1 ⟨rfl, hb1⟩
    rw [HP.out]
    have HB : Hid (Below w.heap.size w w1) := hb1
    clear hb1
    go_wp2_with fail
    go_ret
    refine ⟨_, [], rfl, Own.nil _ _, .nil, fun x => ⟨fun hx => by simp at hx, fun hx => ?_⟩, by simp, fun x hx => by simp at hx, HB.out⟩
    have := inS_isD H.out.1 hx
    rw [HD.out] at this; cases this
set_option maxRecDepth 100000 in
set_option maxHeartbeats 2000000 in
theorem tfiles_any {w : World} {F : Nat → Prop} {t N : Nat} {L : List Fl} (h : TR w F t L N) (d : List UInt8) (hd : d.length ≤ 1000000000) :
    Calls Tryz.prog 93 #[.pointer (some ⟨t, 0, none⟩), .string (bs d)] w fun e w' => ∃ v X, e = .returned v ∧ Own w.heap.size w' v X ∧ Up X ∧ (∀ x, x ∈ X ↔ inS L true d x) ∧ X.length ≤ 512 ∧ (∀ x ∈ X, x.length ≤ 120) ∧ Below w.heap.size w w' := by
  have H : Hid (TR w F t L N ∧ d.length ≤ 1000000000) := ⟨h, hd⟩
  clear h hd
  go_enter Tryz.func93, Tryz.ntmps93
  go_wp2_with fail
  refine (filesT_any H.out.1 d H.out.2).mono ?_
  rintro e w1 ⟨v, X, rfl, h1⟩
  have H1 : Hid (Own w.heap.size w1 v X ∧ Up X ∧ (∀ x, x ∈ X ↔ inS L true d x) ∧ X.length ≤ 512 ∧ (∀ x ∈ X, x.length ≤ 120) ∧ Below w.heap.size w w1) := h1
  clear h1
  go_wp2_with fail
  go_ret
  exact ⟨v, X, rfl, H1.out⟩

set_option maxRecDepth 100000 in
set_option maxHeartbeats 4000000 in
theorem dirsT_any {w : World} {F : Nat → Prop} {t N : Nat} {L : List Fl} (h : TR w F t L N) (d : List UInt8) (hd : d.length ≤ 1000000000) :
    Calls Tryz.prog 123 #[.pointer (some ⟨t, 0, none⟩), .string (bs d), .func (.func 121) #[] #[]] w fun e w' => ∃ v X, e = .returned v ∧ Own w.heap.size w' v X ∧ Up X ∧ (∀ x, x ∈ X ↔ inS L false d x) ∧ X.length ≤ 512 ∧ (∀ x ∈ X, x.length ≤ 120) ∧ Below w.heap.size w w' := by
  obtain ⟨A, M, h1, h2⟩ := h.open
  have H : Hid (GoodT L ∧ Hp w A M N F (st L) (keys (st L)) ∧ TB w t (A []) ∧ d.length ≤ 1000000000) := ⟨h.good, h1, h2, hd⟩
  clear h h1 h2 hd
  have q1 := eqP
  rcases nod_cases H.out.1 d with ⟨e1, e2⟩ | ⟨e1, e2⟩
  · have hp : dirP A L d = .pointer (some ⟨A (pcs d), 0, none⟩) := by unfold dirP; rw [e2]
    have HP : Hid (dirP A L d = .pointer (some ⟨A (pcs d), 0, none⟩) ∧ st L (pcs d) = some (.dir (cnt L (pcs d)) (tot L (pcs d)) (own L (pcs d)))) := by
      refine ⟨hp, ?_⟩
      unfold nod at e2
      rw [isD_ok e1] at e2; exact e2
    clear hp e1 e2
    go_enter Tryz.func123, Tryz.ntmps123
    go_wp2_with fail
    refine (dir0 H.out.1 H.out.2.1 H.out.2.2.1 d H.out.2.2.2).mono ?_
    rintro e w1 ⟨rfl, hb1⟩
    rw [HP.out.1]
    have HB : Hid (Below w.heap.size w w1) := hb1
    obtain ⟨hn, hm, _, _⟩ := (H.out.2.1.later hb1).dirs _ _ _ _ HP.out.2
    obtain ⟨c0, _⟩ := hn.cells
    have HM : Hid (MP w1 N (M (pcs d)) (fun n => if keys (st L) (pcs d) n then some (A (pcs d ++ [n])) else none)) := hm
    clear hb1 hn hm
    go_wp2_with (first | (at_range; refine wp_range HM.out rfl _ rfl rfl ?_; intro w2 cnt0 hrg0 hb2 hs2))
    go_frame
    have H2 : Hid (RG w2 N (M (pcs d)) w1.heap.size (fun n => if keys (st L) (pcs d) n then some (A (pcs d ++ [n])) else none) (fun n => keys (st L) (pcs d) n) cnt0 ∧ Below w.heap.size w w2 ∧ M (pcs d) < w2.heap.size ∧ w1.heap.size < w2.heap.size) := by
      refine ⟨?_, bstep HB.out hb2, by have := HM.out.lt; omega, by omega⟩
      have e : (fun k => ((fun n => if keys (st L) (pcs d) n then some (A (pcs d ++ [n])) else none) k).isSome) = (fun n => keys (st L) (pcs d) n) := by
        funext n
        cases hk : keys (st L) (pcs d) n <;> simp [hk]
      rw [e] at hrg0; exact hrg0
    have hbig := HB.out.size
    clear hrg0 hb2 c0
    obtain ⟨r, hr⟩ : ∃ r, w1.heap.size = r := ⟨_, rfl⟩
    obtain ⟨B, hB⟩ : ∃ B, w2.heap.size = B := ⟨_, rfl⟩
    rw [hr] at H2 ⊢
    have HR : Hid (w1.heap.size = r ∧ w2.heap.size = B ∧ w.heap.size ≤ r ∧ r < B ∧ M (pcs d) < B) := by
      have := H2.out.2.2
      exact ⟨hr, hB, by omega, by omega, by omega⟩
    clear hr hB hs2 hbig
    go_loopw [8] (fun u wr => ∃ (left : List UInt8 → Bool) (cn : Nat) (X : List (List UInt8)), RG wr N (M (pcs d)) r (fun n => if keys (st L) (pcs d) n then some (A (pcs d ++ [n])) else none) left cn ∧ Far L false d left X ∧ Own B wr u X ∧ Below w.heap.size w wr ∧ B ≤ wr.heap.size)
      (fun _ wr => wr.rangeLeft (M (pcs d)) r)
    case atStart => exact ⟨_, _, [], H2.out.1, Far.start _ _ _, Own.nil _ _, H2.out.2.1, by have := HR.out; omega⟩
    case round =>
      obtain ⟨left, cn, X, hrg, hf, ho, hb, hz⟩ := hrel
      have HX : Hid (RG wr N (M (pcs d)) r (fun n => if keys (st L) (pcs d) n then some (A (pcs d ++ [n])) else none) left cn ∧ Far L false d left X ∧ Own B wr u8 X ∧ Below w.heap.size w wr ∧ B ≤ wr.heap.size) := ⟨hrg, hf, ho, hb, hz⟩
      clear hrg hf ho hb hz
      go_wp2_with (first | (at_next; refine wp_next HX.out.1 rfl _ rfl rfl ?_ ?_))
      · intro hl
        have HL : Hid (∀ k, left k = false) := hl
        clear hl
        go_wp2_with fail
        have hlen := HX.out.2.1.len H.out.1
        refine (sort_any HX.out.2.2.1 ⟨by have := hlen.1; omega, fun x hx => by have := hlen.2 x hx; omega⟩ HX.out.2.2.2.2).mono ?_
        rintro e w5 ⟨rfl, ts, hp, hs, ho5, hb5⟩
        have H5 : Hid (Own w.heap.size w5 u8 ts ∧ (Up ts ∧ ∀ x, x ∈ ts ↔ inS L false d x) ∧ ts.length ≤ 512 ∧ (∀ x ∈ ts, x.length ≤ 120) ∧ Below w.heap.size w w5) := by
          have hr := HR.out
          refine ⟨ho5.mono (by omega), HX.out.2.1.end HL.out hp hs, by rw [hp.length_eq]; exact hlen.1, fun x hx => hlen.2 x (hp.mem_iff.1 hx), ?_⟩
          exact below_trans HX.out.2.2.2.1 (below_mono hb5 (by omega))
        clear hlen hp hs ho5 hb5
        go_wp2_with fail
        go_ret
        exact ⟨_, ts, rfl, H5.out.1, H5.out.2.1.1, H5.out.2.1.2, H5.out.2.2.1, H5.out.2.2.2.1, H5.out.2.2.2.2⟩
      · intro n x w3 cn3 hln hkey hFn hrg3 hlt hg3 hs3 hen
        subst hFn
        obtain ⟨y, hy⟩ := Option.isSome_iff_exists.1 (show (st L (pcs d ++ [n])).isSome = true from hkey)
        have hr := HR.out
        have H3 : Hid (RG w3 N (M (pcs d)) r (fun n => if keys (st L) (pcs d) n then some (A (pcs d ++ [n])) else none) (fun z => left z && !(z == n)) cn3 ∧ Own B w3 u8 X ∧ Below w.heap.size w w3 ∧ B ≤ w3.heap.size) := by
          have h0 := only_one hg3
          refine ⟨hrg3, HX.out.2.2.1.only h0 (fun k hk e => by have := (HX.out.2.2.1.lt hk).1; simp at e; omega), below_trans HX.out.2.2.2.1 (h0.below HX.out.2.2.2.1.size (fun k hk => by simp at hk; omega)), by have := HX.out.2.2.2.2; omega⟩
        have HY : Hid (st L (pcs d ++ [n]) = some y ∧ left n = true ∧ cn3 < cn) := ⟨hy, hln, hlt⟩
        have HQ := jn_child H.out.1 (show (st L (pcs d ++ [n])).isSome = true from hkey)
        have HJ : Hid (jn d n = (join (pcs d ++ [n]), 0) ∧ n.length ≤ 32) := ⟨HQ.2.2.2, HQ.2.2.1⟩
        clear hrg3 hg3 hy hln hlt hkey hs3 hr HQ
        have HC : Hid (∀ W, w3 = W → Calls Tryz.prog 121 #[.pointer (some ⟨A (pcs d ++ [n]), 0, none⟩)] W fun e w' => e = .returned (.bool (!y.isF)) ∧ w' = W) := by
          rintro W rfl
          have hh := H.out.2.1.later H3.out.2.2.1
          cases y with
          | file s => exact isDir_any (hh.files _ _ HY.out.1).1
          | dir c a o => exact isDir_any (hh.dirs _ _ _ _ HY.out.1).1
        cases y with
        | file s =>
          go_wp2_with fail
          refine (HC.out _ rfl).mono ?_
          rintro e w4 ⟨rfl, hw4⟩
          subst hw4
          simp only [Nd.isF, Bool.not_true]
          go_wp2_with fail
          go_roundw
          case rel => exact ⟨_, cn3, X, H3.out.1, HX.out.2.1.skip HY.out.1 (by simp [Nd.isF]), H3.out.2.1, H3.out.2.2.1, H3.out.2.2.2⟩
          case measure => rw [H3.out.1.left_eq, HX.out.1.left_eq]; exact HY.out.2.2
        | dir c a o =>
          go_wp2_with fail
          refine (HC.out _ rfl).mono ?_
          rintro e w4 ⟨rfl, hw4⟩
          subst hw4
          simp only [Nd.isF, Bool.not_false]
          go_wp2_with fail
          refine (join_any d n _ (by have := H.out.2.2.2; omega) (by have := HJ.out.2; omega)).mono ?_
          rintro e w5 ⟨rfl, hb5⟩
          rw [HJ.out.1]
          have hlen := HX.out.2.1.len H.out.1
          have H5 : Hid (RG w5 N (M (pcs d)) r (fun n => if keys (st L) (pcs d) n then some (A (pcs d ++ [n])) else none) (fun z => left z && !(z == n)) cn3 ∧ Own B w5 u8 X ∧ Below w.heap.size w w5 ∧ B ≤ w5.heap.size ∧ X.length ≤ 512) := by
            have hr := HR.out
            have h6 := H3.out.2.2.2
            exact ⟨H3.out.1.below hb5 (by omega) (by omega), H3.out.2.1.later hb5, bstep H3.out.2.2.1 hb5, by have := hb5.size; omega, hlen.1⟩
          clear hb5 hlen
          obtain ⟨p, hp⟩ : ∃ p, join (pcs d ++ [n]) = p := ⟨_, rfl⟩
          have HPP : Hid (join (pcs d ++ [n]) = p) := hp
          rw [hp]
          clear hp
          go_wp2_with (first | (at_builtin; refine app_one p H5.out.2.1 (by have := H5.out.2.2.2.2; omega) H5.out.2.2.2.1 rfl (.tmp 37) (.tmp 39) rfl rfl rfl ?_; intro v6 w6 ho6 hb6 hz6 hg6 hv6))
          have H6 : Hid (RG w6 N (M (pcs d)) r (fun n => if keys (st L) (pcs d) n then some (A (pcs d ++ [n])) else none) (fun z => left z && !(z == n)) cn3 ∧ Own B w6 v6 (X ++ [p]) ∧ Below w.heap.size w w6 ∧ B ≤ w6.heap.size) := by
            have hr := HR.out
            exact ⟨H5.out.1.below hb6 (by omega) (by omega), ho6, below_trans H5.out.2.2.1 (below_mono hb6 (by omega)), hz6⟩
          clear ho6 hb6 hz6 hg6 hv6
          go_roundw
          case rel => exact ⟨_, cn3, X ++ [p], H6.out.1, by rw [← HPP.out]; exact HX.out.2.1.more H.out.1 HY.out.1 rfl HY.out.2.1, H6.out.2.1, H6.out.2.2.1, H6.out.2.2.2⟩
          case measure => rw [H6.out.1.left_eq, HX.out.1.left_eq]; exact HY.out.2.2
  · have HP : Hid (dirP A L d = .pointer none) := by
      show _ = _
      unfold dirP
      rcases e2 with e2 | ⟨s, e2⟩ <;> rw [e2]
    have HD : Hid (isD L d = false) := e1
    clear e1 e2
    go_enter Tryz.func123, Tryz.ntmps123
    go_wp2_with fail
    refine (dir0 H.out.1 H.out.2.1 H.out.2.2.1 d H.out.2.2.2).mono ?_
    rintro e w1 ⟨rfl, hb1⟩
    rw [HP.out]
    have HB : Hid (Below w.heap.size w w1) := hb1
    clear hb1
    go_wp2_with fail
    go_ret
    refine ⟨_, [], rfl, Own.nil _ _, .nil, fun x => ⟨fun hx => by simp at hx, fun hx => ?_⟩, by simp, fun x hx => by simp at hx, HB.out⟩
    have := inS_isD H.out.1 hx
    rw [HD.out] at this; cases this
set_option maxRecDepth 100000 in
set_option maxHeartbeats 2000000 in
theorem tdirs_any {w : World} {F : Nat → Prop} {t N : Nat} {L : List Fl} (h : TR w F t L N) (d : List UInt8) (hd : d.length ≤ 1000000000) :
    Calls Tryz.prog 94 #[.pointer (some ⟨t, 0, none⟩), .string (bs d)] w fun e w' => ∃ v X, e = .returned v ∧ Own w.heap.size w' v X ∧ Up X ∧ (∀ x, x ∈ X ↔ inS L false d x) ∧ X.length ≤ 512 ∧ (∀ x ∈ X, x.length ≤ 120) ∧ Below w.heap.size w w' := by
  have H : Hid (TR w F t L N ∧ d.length ≤ 1000000000) := ⟨h, hd⟩
  clear h hd
  go_enter Tryz.func94, Tryz.ntmps94
  go_wp2_with fail
  refine (dirsT_any H.out.1 d H.out.2).mono ?_
  rintro e w1 ⟨v, X, rfl, h1⟩
  have H1 : Hid (Own w.heap.size w1 v X ∧ Up X ∧ (∀ x, x ∈ X ↔ inS L false d x) ∧ X.length ≤ 512 ∧ (∀ x ∈ X, x.length ≤ 120) ∧ Below w.heap.size w w1) := h1
  clear h1
  go_wp2_with fail
  go_ret
  exact ⟨v, X, rfl, H1.out⟩
end Go.Proofs.YtbaheiimcnfaaaaGreat

namespace Go.Proofs.YtbaheiimcnfaaaaGreat
open Go.RowKit

theorem wp_del {w : World} {N b : Nat} {F : List UInt8 → Option Nat} (h : MP w N b F) {k : List UInt8} (hk : k.length ≤ 1000000000)
    {ops : Array Oper} {rest : List Oper} {o : Oper} {a : Act} {Q : Exit → Act → World → Prop} (hg : o.guard = none) (m x : Operand)
    (hop : o.op = Op.call { callee := Callee.builtin Builtin.delete, args := #[m, x], argTypes := #[115, 9] }) (hm : a.eval m = .map (some b)) (hx : a.eval x = .string (bs k))
    (hK : ∀ w', MP w' N b (fun x => if x = k then none else F x) → Only [b] w w' → w'.heap.size = w.heap.size → wpList Tryz.prog ops Q rest (a.put o.dst (.tuple #[])) w') :
    wpList Tryz.prog ops Q (o :: rest) a w := by
  refine wpList_plain hg fun K' hK' => ?_
  obtain ⟨w', hrun, r1, r2, r3⟩ := h.del hk o.type
  unfold Oper.wp
  simp [execOp, hop, resolve, invoke, builtin, hm, hx, hrun, Result.andThen]
  exact hK' _ _ (hK w' r1 r2 r3)
theorem wp_clear {w : World} {N b : Nat} {F : List UInt8 → Option Nat} (h : MP w N b F)
    {ops : Array Oper} {rest : List Oper} {o : Oper} {a : Act} {Q : Exit → Act → World → Prop} (hg : o.guard = none) (m : Operand)
    (hop : o.op = Op.call { callee := Callee.builtin Builtin.clear, args := #[m], argTypes := #[115] }) (hm : a.eval m = .map (some b))
    (hK : ∀ w', MP w' N b (fun _ => none) → Only [b] w w' → w'.heap.size = w.heap.size → wpList Tryz.prog ops Q rest (a.put o.dst (.tuple #[])) w') :
    wpList Tryz.prog ops Q (o :: rest) a w := by
  refine wpList_plain hg fun K' hK' => ?_
  obtain ⟨w', hrun, r1, r2, r3⟩ := h.clear o.type
  unfold Oper.wp
  simp [execOp, hop, resolve, invoke, builtin, hm, hrun, Result.andThen]
  exact hK' _ _ (hK w' r1 r2 r3)

theorem lessZ {w : World} {g : Nat} {m : Option Nat} {c a o z : Nat} (h : ND w g m c a o) (hc : 0 < c) (hc2 : c < 9223372036854775807) (hs : z ≤ a) (ha : a < 340282366920938463463374607431768211456) (hz : z < 18446744073709551616) :
    Calls Tryz.prog 83 #[.pointer (some ⟨g, 0, none⟩), .agg #[.int .u64 0, .int .u64 z]] w fun e w' => e = .returned (.tuple #[]) ∧ ND w' g m (c - 1) (a - z) o ∧ Only [g] w w' := by
  rw [← sumv_small hz]; exact less_any h hc hc2 hs ha

/-- what Drop answers -/
def dropE (L : List Fl) (p : List UInt8) : Int := if (fileAt L (pcs p)).isSome then 0 else 20
theorem dropE_none {L : List Fl} {p : List UInt8} (h : fileAt L (pcs p) = none) : dropE L p = 20 ∧ outF p L = L := by
  refine ⟨by unfold dropE; rw [h]; rfl, ?_⟩
  unfold outF
  refine List.filter_eq_self.2 (fun g hg => ?_)
  simp only [Bool.not_eq_true', beq_eq_false_iff_ne]
  rintro rfl
  exact fileAt_none.1 h g hg rfl
theorem drop_nod {L : List Fl} (hg : GoodT L) (p : List UInt8) : (fileAt L (pcs p) = none ∧ ∀ s, nod L p ≠ some (.file s)) ∨ (∃ f ∈ L, f.path = p ∧ nod L p = some (.file (sz f)) ∧ dropE L p = 0) := by
  cases e : fileAt L (pcs p) with
  | none =>
    left
    refine ⟨rfl, fun s hs => ?_⟩
    unfold nod at hs
    split at hs
    · obtain ⟨f, hf, hp, _⟩ := st_file_inv hs
      exact fileAt_none.1 e f hf hp
    · cases hs
  | some s =>
    right
    obtain ⟨f, hf, hp, rfl⟩ := fileAt_some e
    have hpath : f.path = p := pcs_inj hp
    refine ⟨f, hf, hpath, ?_, by unfold dropE; rw [e]; rfl⟩
    have ho := hg.ok hf
    rw [hpath] at ho
    unfold nod
    rw [ho, if_pos rfl, ← hp]
    exact st_file hg hf

/-- own, ahead of the drop -/
def ownD (L : List Fl) (f : Fl) (q : Q) : Nat := (if (pp f).dropLast = q then sz f else 0) + own L q
/-- one directory on the way: its numbers -/
theorem drop_set {w w' : World} {A M : Q → Nat} {N : Nat} {F : Nat → Prop} {L : List Fl} {f : Fl} {k : Nat} {K : Q → List UInt8 → Bool} {S : Q → Option Nd} {c a o : Nat}
    (h : Hp w A M N F S K) (hS : ∃ d, S = upd (midD L f k) ((pp f).take k) d) (hq : S ((pp f).take k) = some (.dir c a o)) (ho : Only [A ((pp f).take k)] w w') {c' a' o' : Nat} (hn : ND w' (A ((pp f).take k)) (some (M ((pp f).take k))) c' a' o') :
    Hp w' A M N F (upd (midD L f k) ((pp f).take k) (some (.dir c' a' o'))) K := by
  obtain ⟨d, rfl⟩ := hS
  have := h.set hq ho hn
  rw [upd_upd] at this
  exact this
end Go.Proofs.YtbaheiimcnfaaaaGreat
