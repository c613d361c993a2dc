/-
  View.
-/
import Derived.Test.YtbaheiimcnfaaaaGreatJIt
import Derived.Maps.AppendAt
import Derived.Maps.OwnIn
namespace Go.Proofs.YtbaheiimcnfaaaaGreat
open Go.RowKit Go.Maps
attribute [local go_sem] Oper.semAt_some

theorem keepsO_below {W W' : World} (h : Below W.heap.size W W') : KeepsOthers W W' :=
  ⟨h.size, fun k _ hk _ => (h.block k (Array.getElem?_eq_some_iff.1 hk).1).trans hk⟩
theorem Kq.of_below {n₀ Bl : Nat} {W W' : World} (h : Below W.heap.size W W') (hn : n₀ ≤ W.heap.size) : Kq n₀ Bl W W' :=
  ⟨below_mono h hn, fun _ _ e => (h.block Bl (Array.getElem?_eq_some_iff.1 e).1).trans e⟩
/-- what stands between two rounds -/
structure Vb {l : List Fl} (w : World) (k : List (List UInt8)) (u lv : Value) (Bv : Nat) (pre : List (Run l)) (W : World) : Prop where
  box : ∃ v, Boxed W Bv 22 v ∧ OwnF w.heap.size W v (tkn k pre)
  kb : Boxed W w.heap.size 23 u
  lb : Boxed W (Bv + 1) 22 lv
  below : Below w.heap.size w W
theorem OwnF.cellsB {base : Nat} {w : World} {v : Value} {l : List Fl} (h : OwnF base w v l) : ∀ (j : Nat) (o : Obj), v.ownBlock = some j → w.heap[j]? = some o → o.isCells = true := by
  intro j o hj ho
  rcases h.2 with ⟨rfl, _⟩ | ⟨g, cap, cur, rfl, _, hg, _⟩
  · cases hj
  · simp only [Value.ownBlock, Option.some.injEq] at hj
    subst hj
    rw [hg] at ho; cases ho; rfl
theorem boxed_keptR {W W' : World} {row : Option Nat} {B : Nat} {t : TypeId} {v : Value} (h : Boxed W B t v) (hg : W.grownBy W' row) (hr : ∀ r, row = some r → ∃ o : Obj, W.heap[r]? = some o ∧ o.isCells = false) : Boxed W' B t v :=
  h.kept hg (fun e => by
    obtain ⟨o, ho, hc⟩ := hr B e.symm
    rw [show W.heap[B]? = _ from h] at ho; cases ho; cases hc)
theorem Vb.own {l : List Fl} {w : World} {k : List (List UInt8)} {u lv : Value} {Bv m : Nat} (hB : w.heap.size ≤ m) : OwnFrom m (Vb (l := l) w k u lv Bv) := by
  intro pre W W' row h hg hr
  obtain ⟨⟨v, hv, hrow⟩, h1, h2, hb⟩ := h
  have hr' : ∀ r, row = some r → ∃ o : Obj, W.heap[r]? = some o ∧ o.isCells = false := fun r e => (hr r e).2
  refine ⟨⟨v, boxed_keptR hv hg hr', ?_⟩, boxed_keptR h1 hg hr', boxed_keptR h2 hg hr', hb.grown hg hb.size (fun j hj => Nat.le_trans hB (hr j hj).1)⟩
  refine OwnF.only hrow (S := row.toList) ⟨hg.os, hg.tape, hg.output, hg.size, fun j hj hn => hg.block j hj (by intro e; apply hn; rw [← e]; simp)⟩ ?_
  intro j hj hm
  have hm' : row = some j := by simpa using hm
  obtain ⟨_, o, ho, hc⟩ := hr j hm'
  rw [hrow.cellsB j o hj ho] at hc; cases hc
theorem fc_drop (l : List Fl) : ∀ n, fc (l.drop n) = (fc l).drop (n * 4)
  | 0 => by simp
  | n + 1 => by
    cases l with
    | nil => simp [fc]
    | cons a r =>
      rw [List.drop_succ_cons, fc_drop r n]
      have e : fc (a :: r) = fc [a] ++ fc r := by rw [← fc_append]; rfl
      rw [e, List.drop_append, fc_length]
      have : (fc [a]).drop ((n + 1) * 4) = [] := List.drop_eq_nil_of_le (by rw [fc_length]; simp; omega)
      rw [this, List.nil_append]
      congr 1
      simp
      omega
theorem fc_take (l : List Fl) (n : Nat) : ∃ r, fc l = fc (l.take n) ++ r := ⟨fc (l.drop n), by rw [← fc_append, List.take_append_drop]⟩
theorem fc_part {l : List Fl} {lo m i : Nat} {u : Value} (h : (fc ((l.drop lo).take m))[i]? = some u) : (fc l)[lo * 4 + i]? = some u := by
  obtain ⟨r, hr⟩ := fc_take (l.drop lo) m
  have h1 : (fc (l.drop lo))[i]? = some u := by
    rw [hr, List.getElem?_append_left]
    · exact h
    · rcases Nat.lt_or_ge i (fc ((l.drop lo).take m)).length with h2 | h2
      · exact h2
      · rw [List.getElem?_eq_none h2] at h; cases h
  rw [fc_drop, List.getElem?_drop] at h1
  exact h1
theorem FS.cutv {w : World} {b off n c : Nat} {l : List Fl} (h : FS w (.slice (some ⟨b, off, none⟩) n c) l) (hn : l.length = n) (lo hi : Nat) (h1 : lo ≤ hi) (h2 : hi ≤ n) {m : Nat} {p : List Fl} (hp : (l.drop lo).take m = p) (hl : p.length = m) (hm : hi - lo = m) :
    FS w (.slice (some ⟨b, off + lo * 4, none⟩) m (c - lo)) p := by
  rcases h with ⟨⟨_, _, _⟩, e⟩ | ⟨b', off', cap, e, hc, hlt, hcell⟩
  · subst e
    rw [List.drop_nil, List.take_nil] at hp
    subst hp
    simp at hl
    subst hl
    exact .inl ⟨⟨_, _, rfl⟩, rfl⟩
  · injection e with e1 _ e3
    injection e1 with e1
    injection e1 with e1 e2 _
    subst e1; subst e2; subst e3
    refine .inr ⟨b, off + lo * 4, c - lo, by rw [hl], by rw [hl]; omega, hlt, fun i u hu => ?_⟩
    have := hcell (lo * 4 + i) u (by rw [← hp] at hu; exact fc_part hu)
    rw [Nat.add_assoc]; exact this
theorem Sm.sub {k k' : List (List UInt8)} (h : Sm k) (hs : k'.Sublist k) : Sm k' := ⟨Nat.le_trans hs.length_le h.len, fun x hx => h.each x (hs.subset hx)⟩

set_option maxRecDepth 100000 in
set_option maxHeartbeats 4000000 in
theorem view_any (HV : ∀ {w : World} {v : Value} {k : List (List UInt8)}, SS w v k → Sm k → Calls Tryz.prog 11 #[v] w fun e w' => e = .returned (.int .i64 (coneE k)) ∧ Below w.heap.size w w')
    {w : World} {v u : Value} {l : List Fl} {k : List (List UInt8)} (h : FS w v l) (sm : FSm l) (hu : SS w u k) (sk : Sm k) :
    Calls Tryz.prog 13 #[v, u] w fun e w' => ∃ v', e = .returned (.tuple #[v', .int .i64 (viw l k).2]) ∧ OwnF w.heap.size w' v' (viw l k).1 ∧ Below w.heap.size w w' := by
  have H : Hid (FS w v l ∧ FSm l ∧ SS w u k ∧ Sm k) := ⟨h, sm, hu, sk⟩
  have HV' : Hid (∀ {w : World} {v : Value} {k : List (List UInt8)}, SS w v k → Sm k → Calls Tryz.prog 11 #[v] w fun e w' => e = .returned (.int .i64 (coneE k)) ∧ Below w.heap.size w w') := HV
  obtain ⟨ak, ck, rfl⟩ := hu.len2
  obtain ⟨ad, c, rfl, _⟩ := h.form
  rename_i hfo
  obtain ⟨nk, hnk⟩ : ∃ n, k.length = n := ⟨_, rfl⟩
  obtain ⟨n, hn⟩ : ∃ n, l.length = n := ⟨_, rfl⟩
  rw [hnk, hn] at H ⊢
  have HN : Hid (k.length = nk ∧ l.length = n) := ⟨hnk, hn⟩
  clear h sm hu sk HV hnk hfo hn
  refine (callsIn_wide (n := 8)).1 ?_
  refine callsIn_of_wp_marks Tryz.func13 rfl trivial ?_ rfl
  simp only [Tryz.ntmps13, List.size_toArray, List.length_cons, List.length_nil, Nat.reduceAdd, Nat.reduceSub, Array.replicate_succ, Array.replicate_zero, List.push_toArray, List.append_toArray, List.nil_append, List.cons_append]
  obtain ⟨w0, hw0⟩ : ∃ w0, w.alloc (.cells #[.slice ak nk ck] 23) = w0 := ⟨_, rfl⟩
  have H0 : Hid (w.alloc (.cells #[.slice ak nk ck] 23) = w0 ∧ Below w.heap.size w w0 ∧ Boxed w0 w.heap.size 23 (.slice ak nk ck)) := ⟨hw0, by rw [← hw0]; exact balloc _ _, by rw [← hw0]; exact Boxed.new _ _ _⟩
  clear hw0
  gi_wp2_with fail
  rw [H0.out.1]
  refine ⟨trivial, (callsIn_wide.2 (valid2_any (H.out.1.later H0.out.2.1) H.out.2.1)).mono ?_⟩
  rintro e w1 ⟨rfl, hb1⟩
  have H1 : Hid (Below w.heap.size w w1 ∧ Boxed w1 w.heap.size 23 (.slice ak nk ck)) := ⟨bstep H0.out.2.1 hb1, (hb1.block _ H0.out.2.2.lt).trans H0.out.2.2⟩
  clear hb1 H0
  obtain ⟨z, hz⟩ : ∃ z, validE l = z := ⟨_, rfl⟩
  rw [hz]
  by_cases hz0 : z = 0
  · subst hz0
    have bk := H1.out.2.cell
    gi_wp2_with fail
    refine ⟨trivial, (callsIn_wide.2 (HV'.out (H.out.2.2.1.later H1.out.1) H.out.2.2.2)).mono ?_⟩
    rintro e w2 ⟨rfl, hb2⟩
    have H2 : Hid (Below w.heap.size w w2 ∧ Boxed w2 w.heap.size 23 (.slice ak nk ck)) := ⟨bstep H1.out.1 hb2, (hb2.block _ H1.out.2.lt).trans H1.out.2⟩
    clear hb2 H1 bk
    obtain ⟨y, hy⟩ : ∃ y, coneE k = y := ⟨_, rfl⟩
    rw [hy]
    by_cases hy0 : y = 0
    · subst hy0
      have HE : Hid (viw l k = (l.filter (fun f => shw k f.path), 0)) := viw_ok hz hy
      obtain ⟨w3, hw3⟩ : ∃ w3, w2.alloc (.cells #[.slice none 0 0] 22) = w3 := ⟨_, rfl⟩
      obtain ⟨w4, hw4⟩ : ∃ w4, w3.alloc (.cells #[.slice ad n c] 22) = w4 := ⟨_, rfl⟩
      have e3 : w3.heap.size = w2.heap.size + 1 := by rw [← hw3]; simp
      have H4 : Hid (w2.alloc (.cells #[.slice none 0 0] 22) = w3 ∧ w3.alloc (.cells #[.slice ad n c] 22) = w4 ∧ w3.heap.size = w2.heap.size + 1 ∧ w4.heap.size = w2.heap.size + 2 ∧ Vb (l := l) w k (.slice ak nk ck) (.slice ad n c) w2.heap.size [] w4) := by
        have b3 : Below w2.heap.size w2 w3 := by rw [← hw3]; exact balloc _ _
        have b4 : Below w3.heap.size w3 w4 := by rw [← hw4]; exact balloc _ _
        have x3 : Boxed w3 w2.heap.size 22 (.slice none 0 0) := by rw [← hw3]; exact Boxed.new _ _ _
        have x4 : Boxed w4 w3.heap.size 22 (.slice ad n c) := by rw [← hw4]; exact Boxed.new _ _ _
        refine ⟨hw3, hw4, e3, by rw [← hw4]; simp [e3], ⟨⟨_, (b4.block _ x3.lt).trans x3, OwnF.nil _ _⟩, ?_, by rw [e3] at x4; exact x4, ?_⟩⟩
        · exact (b4.block _ (Nat.lt_of_lt_of_le H2.out.2.lt b3.size)).trans ((b3.block _ H2.out.2.lt).trans H2.out.2)
        · exact bstep H2.out.1 (bstep b3 b4)
      clear hw3 hw4 e3
      gi_wp2_with fail
      rw [H4.out.1]
      refine ⟨trivial, (callsIn_wide.2 (dirs1_any ad n c w3)).mono ?_⟩
      rintro e w5 ⟨rfl, ew5⟩
      rw [H4.out.2.1] at ew5
      subst ew5
      rw [H4.out.2.2.1]
      have hn512 : n ≤ 512 := by
        have h1 := (validE_zero l).1 hz
        unfold stand at h1
        simp only [Bool.and_eq_true, decide_eq_true_eq] at h1
        have := HN.out.2
        omega
      have hnc : n ≤ c := by
        have h1 := H.out.1
        have h2 := HN.out.2
        rcases h1 with ⟨_, e⟩ | ⟨b, off, cap, e, h3, _⟩
        · rw [e] at h2; simp at h2; omega
        · injection e with _ _ e; omega
      have HF : Hid (∀ q (hq : q < l.length), ∃ b off, ad = some ⟨b, off, none⟩ ∧ b < w.heap.size ∧ w.cell? ⟨b, off + q * 4, none⟩ = some (.string (bs l[q].path))) := by
        intro q hq
        obtain ⟨a', c', e, hf⟩ := H.out.1.form
        injection e with e1 _ _
        obtain ⟨b, off, h1, h2, h3, _⟩ := hf q hq
        exact ⟨b, off, e1.trans h1, h2, h3⟩
      have HC : Hid (k.Pairwise (fun a b => fol a b = true) ∧ Up k ∧ Sh k) := by
        have h1 := coneB_iff.1 (coneE_zero.1 hy)
        exact ⟨h1.2, h1.2.imp (fun hab => fol_lt hab), fun x hx => by have := (okP_len (h1.1 x hx)).1; omega⟩
      have HP : Hid (∀ f ∈ l, f.path.length ≤ 1000) := by
        intro f hf
        have h1 := (fileE_zero f).1 (stand_all ((validE_zero l).1 hz) f hf)
        have h2 := h1.1
        unfold pathOk at h2
        rw [Bool.and_eq_true] at h2
        have := (okP_len h2.2).1
        show f.path.length ≤ 1000
        omega
      clear hz hy
      gi_wp2_with fail
      have hA4 : ∀ q (hq : q < l.length), ∃ b off, ad = some ⟨b, off, none⟩ ∧ b < w.heap.size ∧ w5.cell? ⟨b, off + q * 4, none⟩ = some (.string (bs l[q].path)) := fun q hq => by
        obtain ⟨b, off, h1, h2, h3⟩ := HF.out q hq
        exact ⟨b, off, h1, h2, (H4.out.2.2.2.2.below.cell (p := ⟨b, off + q * 4, none⟩) h2).trans h3⟩
      refine wpIn_rangeFunc_ownG (F := Fence.wide) rfl (by omega) (gf := 67) (lb := #[.pointer (some ⟨w2.heap.size + 1, 0, none⟩)]) rfl trivial (enters_of Tryz.func67 (by kernel_rfl) rfl)
        (dirs_stops (Bl := w2.heap.size + 1) (n₀ := w.heap.size) HN.out.2 hnc (by omega) (fun f hf => by have := HP.out f hf; omega) H4.out.2.2.2.2.lb hA4 H4.out.2.2.2.2.below.size 7 (by omega))
        (fun h k => h.trans k) (fun W q o o' h1 h2 h3 _ => ⟨belowK_b (w := w) (Nat.le_refl _) W q o o' (by have := H4.out.2.2.2.2.below.size; omega) h2 h3 ‹_›, fun x _ hx => by
          have hne : w2.heap.size + 1 ≠ q := by have := H4.out.2.2.2.1; omega
          exact (World.putObj_heap_other hne).trans hx⟩) (Below.refl _ _) (fun _ => rfl)
        (Vb w k (.slice ak nk ck) (.slice ad n c) w2.heap.size) (fun _ _ _ => False) (Vb.own H4.out.2.2.2.2.below.size) (fun _ s W W' row h _ _ => h) H4.out.2.2.2.2
        (fun x => { tmps := #[.slice ad n c, .slice ak nk ck, undef, .pointer (some ⟨w.heap.size, 0, none⟩), .slice none 0 0, .int .i64 0, .int .i64 0, .int .i64 0, .pointer (some ⟨w2.heap.size, 0, none⟩), .string (bs x.d), x.v ad c, .slice ad n c, .int .i64 0, .int .i64 0, .bool false, undef, .slice ak nk ck, .int .i64 0, .int .i64 0, .bool false, undef, .slice ad n c, .func (.func 67) #[] #[.pointer (some ⟨w2.heap.size + 1, 0, none⟩)], .string (bs x.d), x.v ad c, undef, undef, undef, undef, undef, undef, undef, undef, undef], defers := [] }) ?assign ?body ?done ?stop
      case assign =>
        intro lp x W K hK
        gi_wp2_with fail
        exact hK
      case body =>
        rintro lp pre x W hI hlt
        have hxl := x.lt
        have hxh := x.le
        have hln := HN.out.2
        obtain ⟨b, off, rfl, hbw⟩ : ∃ b off, ad = some ⟨b, off, none⟩ ∧ b < w.heap.size := by
          obtain ⟨b, off, h1, h2, _⟩ := HF.out x.lo (by omega)
          exact ⟨b, off, h1, h2⟩
        have HI : Hid (Vb w k (.slice ak nk ck) (.slice (some ⟨b, off, none⟩) n c) w2.heap.size pre W) := hI
        have hev : x.v (some ⟨b, off, none⟩) c = .slice (some ⟨b, off + x.lo * 4, none⟩) (x.hi - x.lo) (c - x.lo) := by simp [Run.v, add_lit]
        rw [hev]
        obtain ⟨m, hm⟩ : ∃ m, x.hi - x.lo = m + 1 := ⟨x.hi - x.lo - 1, by omega⟩
        have HX : Hid (FS W (.slice (some ⟨b, off + x.lo * 4, none⟩) (m + 1) (c - x.lo)) x.fs ∧ x.fs.length = m + 1 ∧ x.d.length ≤ 1000) := by
          have hfl : x.fs.length = m + 1 := by rw [x.fs_len, hm]
          refine ⟨?_, hfl, ?_⟩
          · have h1 : FS W (.slice (some ⟨b, off, none⟩) n c) l := H.out.1.below hI.below (fun j e => by simp only [Value.ownBlock, Option.some.injEq] at e; omega)
            exact h1.cutv hln x.lo x.hi (by omega) (by omega) (by unfold Run.fs; rw [hm]) hfl hm
          · have := HP.out _ (List.getElem_mem (show x.lo < l.length by omega))
            have := dlen (l[x.lo]'(by omega)).path
            unfold Run.d
            omega
        rw [hm]
        have bk := hI.kb.cell
        obtain ⟨d, hd⟩ : ∃ d, x.d = d := ⟨_, rfl⟩
        obtain ⟨sd, hsd⟩ : ∃ sd, shD k d = sd := ⟨_, rfl⟩
        have HD : Hid (x.d = d ∧ d.length ≤ 1000 ∧ shD k d = sd ∧ pre.length * 512 ≤ 1000000) := ⟨hd, by rw [← hd]; exact HX.out.2.2, hsd, by omega⟩
        rw [hd]
        clear hI hd hsd hxl hxh hev hm hlt hbw
        gi_wp2_with fail
        refine ⟨trivial, (CallsIn.inRound lp (callsIn_wide.2 (near_any d (H.out.2.2.1.later HI.out.below) H.out.2.2.2 HC.out.2.1 (by have := HD.out.2.1; omega)))).mono ?_⟩
        rintro e W1 ⟨v1, a1, rfl, hst, hs1, hb1⟩
        obtain ⟨a2, c2, e1⟩ := hs1.len2
        obtain ⟨q, hq⟩ : ∃ q, (List.take (min (a1 + 1) k.length - (a1 - 1)) (List.drop (a1 - 1) k)).length = q := ⟨_, rfl⟩
        rw [hq] at e1
        subst e1
        have H1 : Hid (SS W1 (.slice a2 q c2) ((k.drop (a1 - 1)).take (min (a1 + 1) k.length - (a1 - 1))) ∧ Below W.heap.size W W1 ∧ shD ((k.drop (a1 - 1)).take (min (a1 + 1) k.length - (a1 - 1))) d = sd) :=
          ⟨hs1, hb1, by rw [← HD.out.2.2.1]; exact near_say HC.out.1 a1 hst.1 hst.2.1 (fun t h h' => by have := hst.2.2 t h h'; omega)⟩
        have HSub : Hid (((k.drop (a1 - 1)).take (min (a1 + 1) k.length - (a1 - 1))).Sublist k) := (List.take_sublist _ _).trans (List.drop_sublist _ _)
        clear hs1 hb1 hst hq
        gi_wp2_with fail
        refine ⟨trivial, (CallsIn.inRound lp (callsIn_wide.2 (open_any d H1.out.1 (H.out.2.2.2.sub HSub.out) (fun z hz => HC.out.2.2 z (HSub.out.subset hz)) (by have := HD.out.2.1; omega)))).mono ?_⟩
        rintro e W2 ⟨rfl, hb2⟩
        rw [H1.out.2.2]
        have H2' : Hid (Below W.heap.size W W2) := bstep H1.out.2.1 hb2
        clear hb2
        have htk := tkn_snoc k pre x
        rw [HD.out.1, HD.out.2.2.1] at htk
        have HTK : Hid (tkn k (pre ++ [x]) = tkn k pre ++ (if sd = true then x.fs else [])) := htk
        clear htk
        cases sd
        · gi_wp2_with fail
          refine ⟨(keepsO_below H2'.out).from _, Kq.of_below H2'.out HI.out.below.size, ?_⟩
          obtain ⟨⟨v, hv, hrow⟩, h1, h2, hb⟩ := HI.out
          refine ⟨⟨v, (H2'.out.block _ hv.lt).trans hv, ?_⟩, (H2'.out.block _ h1.lt).trans h1, (H2'.out.block _ h2.lt).trans h2, bstep hb H2'.out⟩
          rw [HTK.out]
          simp only [Bool.false_eq_true, if_false, List.append_nil]
          exact hrow.later H2'.out
        · obtain ⟨⟨v, hv0, hrow0⟩, h10, h20, hb0⟩ := HI.out
          have hv : Boxed W2 w2.heap.size 22 v := (H2'.out.block _ hv0.lt).trans hv0
          have hrow : OwnF w.heap.size W2 v (tkn k pre) := hrow0.later H2'.out
          have h1 : Boxed W2 w.heap.size 23 (.slice ak nk ck) := (H2'.out.block _ h10.lt).trans h10
          have h2 : Boxed W2 (w2.heap.size + 1) 22 (.slice (some ⟨b, off, none⟩) n c) := (H2'.out.block _ h20.lt).trans h20
          have hb : Below w.heap.size w W2 := bstep hb0 H2'.out
          have hfx : FS W2 (.slice (some ⟨b, off + x.lo * 4, none⟩) (m + 1) (c - x.lo)) x.fs := HX.out.1.later H2'.out
          have hne1 := hv.not_row (e := 45) (by decide) hrow
          have hne2 := h1.not_row (e := 45) (by decide) hrow
          have hne3 := h2.not_row (e := 45) (by decide) hrow
          have htl := tkn_len k pre
          have hbase := hb.size
          have hc := hv.cell
          obtain ⟨i0, hi, hz0, hz1, hz2⟩ := info_parts info30
          obtain ⟨t, ht⟩ : ∃ t, (tkn k pre).length = t := ⟨_, rfl⟩
          obtain ⟨av, cv, hvv⟩ : ∃ av cv, v = .slice av (tkn k pre).length cv := by
            obtain ⟨a', c', e, _⟩ := hrow.fs.form
            exact ⟨a', c', e⟩
          rw [ht] at hvv
          subst hvv
          have hrow' : W2.ownsRow w.heap.size 45 4 (.slice av t cv) t (fc (tkn k pre)) := by rw [← ht] at hrow ⊢; exact hrow
          have ht5 : t + (m + 1) ≤ 2000000 := by
            have := HD.out.2.2.2
            have h5 : l.length ≤ 512 := by omega
            have h6 := HX.out.2.1
            have h7 := x.fs_len
            have h8 := x.le
            have := Nat.mul_le_mul_left pre.length h5
            omega
          have hnews : ∀ j z, (fc x.fs)[j]? = some z → W2.cell? ((⟨b, off + x.lo * 4, none⟩ : Addr).add j) = some z := by
            intro j z hz
            rw [add_lit]
            rcases hfx with ⟨_, e⟩ | ⟨b', off', cap', e, _, _, hcell⟩
            · rw [e] at hz; simp [fc] at hz
            · injection e with e1 _ _
              injection e1 with e1
              injection e1 with e1 e2 _
              rw [e1, e2]
              exact hcell j z hz
          have HB : Hid (Boxed W2 w2.heap.size 22 (.slice av t cv) ∧ Boxed W2 w.heap.size 23 (.slice ak nk ck) ∧ Boxed W2 (w2.heap.size + 1) 22 (.slice (some ⟨b, off, none⟩) n c) ∧ Below w.heap.size w W2 ∧ OwnF w.heap.size W2 (.slice av t cv) (tkn k pre) ∧ some w2.heap.size ≠ (Value.slice av t cv).ownBlock ∧ some w.heap.size ≠ (Value.slice av t cv).ownBlock ∧ some (w2.heap.size + 1) ≠ (Value.slice av t cv).ownBlock) := ⟨hv, h1, h2, hb, hrow, hne1, hne2, hne3⟩
          have HNW : Hid (∀ j z, (fc x.fs)[j]? = some z → W2.cell? ((⟨b, off + x.lo * 4, none⟩ : Addr).add j) = some z) := hnews
          have HTT : Hid ((tkn k pre).length = t) := ht
          have HRW : Hid (W2.ownsRow w.heap.size 45 4 (.slice av t cv) t (fc (tkn k pre))) := hrow'
          clear hv0 hrow0 h10 h20 hb0 hrow h1 h2 hb hfx hne1 hne2 hne3 htl hnews ht hv hrow'
          gi_wp2_with (first
            | (gi_at_builtin; refine wpListIn_append_own _ rfl _ _ 22 rfl w.heap.size 45 i0 (.agg #[.string ⟨#[]⟩, .string ⟨#[]⟩, .int .i64 0, .int .i64 0]) 4 48 und22 hi hz0 hz1 hz2 rfl (by decide) _ _ _ rfl HRW.out ⟨b, off + x.lo * 4, none⟩ (m + 1) (c - x.lo) (fc x.fs) rfl (by rw [fc_length, HX.out.2.1]) HNW.out (fc_one _) (by unfold maxLen; omega) (by omega) hbase ?_; intro v' w3 hown' hg3 hnil3; obtain ⟨g', cap', rfl⟩ := ownsRow_succ (k := t + m) hown'; have hbx : Boxed w3 w2.heap.size 22 (.slice av t cv) := HB.out.1.kept hg3 HB.out.2.2.2.2.2.1; have hc3 := hbx.cell; have hf3 := hbx.frozen; go_frame)
            | gi_in)
          have hb3 : Below w.heap.size w w3 := HB.out.2.2.2.1.grown hg3 hbase (fun j e => (HB.out.2.2.2.2.1.lt e).1)
          have hown3 : OwnF w.heap.size w3 (.slice (some ⟨g', 0, none⟩) (t + m + 1) cap') (tkn k (pre ++ [x])) := by
            unfold OwnF
            rw [HTK.out, if_pos trivial, fc_append, List.length_append, HTT.out, HX.out.2.1]
            exact hown'
          have hbv : Boxed w3 w2.heap.size 22 (.slice av t cv) := hbx
          have hob : ∀ {B : Nat} {ty : TypeId} {z : Value}, ty ≠ 45 → Boxed w3 B ty z → g' ≠ B := by
            intro B ty z hty hB e
            exact hB.not_row hty hown3 (by rw [← e]; rfl)
          have hk3 : Boxed w3 w.heap.size 23 (.slice ak nk ck) := HB.out.2.1.kept hg3 HB.out.2.2.2.2.2.2.1
          have hl3 : Boxed w3 (w2.heap.size + 1) 22 (.slice (some ⟨b, off, none⟩) n c) := HB.out.2.2.1.kept hg3 HB.out.2.2.2.2.2.2.2
          have hKO : KeepsOthers W w3 := (keepsO_below H2'.out).trans (KeepsOthers.of_grownBy hg3 (fun j o e ho => HB.out.2.2.2.2.1.cellsB j o e ho))
          have hK2 := KeepsOthers.setCell w3 ⟨w2.heap.size, 0, none⟩ (.slice (some ⟨g', 0, none⟩) (t + m + 1) cap')
          have hO : Only [w2.heap.size] w3 (w3.setCell ⟨w2.heap.size, 0, none⟩ (.slice (some ⟨g', 0, none⟩) (t + m + 1) cap')) := Only.set w3 w2.heap.size 0 _
          have hw2 : w.heap.size < w2.heap.size := H2.out.2.lt
          have hb4 := hb3.setCell (p := ⟨w2.heap.size, 0, none⟩) (by simp; omega) (.slice (some ⟨g', 0, none⟩) (t + m + 1) cap')
          have hl4 := (hO.block _ hl3.lt (by simp)).trans hl3
          refine ⟨(hKO.trans hK2).from _, ⟨?_, ?_⟩, ⟨_, hbv.set _, ?_⟩, (hO.block _ hk3.lt (by simp; omega)).trans hk3, hl4, hb4⟩
          · refine ⟨?_, ?_, ?_, ?_, ?_⟩
            · exact hb4.os.trans HI.out.below.os.symm
            · exact hb4.tape.trans HI.out.below.tape.symm
            · exact hb4.output.trans HI.out.below.output.symm
            · exact (hKO.trans hK2).size
            · intro j hj
              exact (hb4.block j hj).trans (HI.out.below.block j hj).symm
          · intro o _ ho
            have h5 := HI.out.lb
            have h6 : W.heap[w2.heap.size + 1]? = _ := h5
            rw [ho] at h6
            rw [h6]
            exact hl4
          · refine OwnF.only hown3 hO ?_
            intro j hj hm
            simp only [Value.ownBlock, Option.some.injEq] at hj
            have : j = w2.heap.size := by simpa using hm
            exact hob (by decide) hbv (hj.trans this)
      case done =>
        rintro D xs W hD hS hI hK
        obtain ⟨⟨v, hv, hrow⟩, _, _, hb⟩ := hI
        have hc := hv.cell
        gi_wp2_with fail
        refine ⟨by simp, .inl ⟨_, _, rfl, run_takeDeferred hK, ?_⟩⟩
        refine ⟨_, results_tmp2 rfl _ _ _, v, ?_, ?_, hb.trans (belowK_b (w := w) (Nat.le_refl _) W D _ _ (by have := H4.out.2.2.2.2.below.size; omega) hK rfl rfl)⟩
        · rw [HE.out]; rfl
        · rw [HE.out]
          show OwnF _ _ _ (l.filter (fun f => shw k f.path))
          rw [← tkn_all k hS]
          refine OwnF.only hrow (S := [D]) ⟨rfl, rfl, rfl, by simp, fun k hk hn => World.putObj_heap_other (by simpa using hn)⟩ ?_
          intro j hj hm
          have : j = D := by simpa using hm
          subst this
          have := hrow.cellsB j _ hj hK
          cases this
      case stop =>
        rintro D c pre W _ _ h
        exact h.elim
    · have hy1 : (y != 0) = true := by simpa using hy0
      have HE : Hid (viw l k = ([], 13)) := by
        show viw l k = ([], 13)
        unfold viw
        rw [if_pos hz, if_neg (by rw [hy]; exact hy0)]
      have e2 : y = 13 := by
        rw [← hy] at hy0 ⊢
        unfold coneE at hy0 ⊢
        split at hy0
        · exact absurd rfl hy0
        · rw [if_neg (by assumption)]
      subst e2
      gi_wp2_with fail
      refine ⟨_, results_tmp2 rfl _ _ _, .slice none 0 0, by rw [HE.out]; rfl, by rw [HE.out]; exact OwnF.nil _ _, H2.out.1⟩
  · have hz1 : (z != 0) = true := by simpa using hz0
    have HE : Hid (viw l k = ([], z)) := by
      show viw l k = ([], z)
      unfold viw
      rw [if_neg (by rw [hz]; exact hz0), hz]
    gi_wp2_with fail
    refine ⟨_, results_tmp2 rfl _ _ _, .slice none 0 0, by rw [HE.out]; rfl, by rw [HE.out]; exact OwnF.nil _ _, H1.out.1⟩
end Go.Proofs.YtbaheiimcnfaaaaGreat
