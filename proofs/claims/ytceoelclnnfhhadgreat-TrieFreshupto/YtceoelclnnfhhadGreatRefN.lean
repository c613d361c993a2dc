/-
  The document's tree: made, a file more, a file less.
-/
import Derived.Test.YtceoelclnnfhhadGreatRefT
import Derived.Test.YtceoelclnnfhhadGreatDropW
namespace Go.Proofs.YtceoelclnnfhhadGreat
open Go.RowKit

/-- a front of a row reads as a front -/
theorem FS.front {w : World} {g c n : Nat} {l : List Fl} (h : FS w (.slice (some ⟨g, 0, none⟩) l.length c) l) (hn : n ≤ l.length) {c' : Nat} (hc : n ≤ c') : FS w (.slice (some ⟨g, 0, none⟩) n c') (l.take n) := by
  have e : (l.take n).length = n := by simp; omega
  rcases h with ⟨_, rfl⟩ | ⟨b, off, cap, e2, _, hlt, hcell⟩
  · simp at hn
    subst hn
    exact .inl ⟨⟨_, _, rfl⟩, rfl⟩
  · injection e2 with e2 _ _
    injection e2 with e2
    injection e2 with e3 e4 _
    subst e3 e4
    refine .inr ⟨g, 0, c', by rw [e], by omega, hlt, fun i u hu => hcell i u ?_⟩
    have hi : i < n * 4 := by
      have := (List.getElem?_eq_some_iff.1 hu).1
      rw [fc_length, e] at this; exact this
    have e5 : fc l = fc (l.take n) ++ fc (l.drop n) := by rw [← fc_append, List.take_append_drop]
    rw [e5, List.getElem?_append_left (by rw [fc_length, e]; exact hi)]
    exact hu
/-- a back of it -/
theorem FS.back {w : World} {g c n : Nat} {l : List Fl} (h : FS w (.slice (some ⟨g, 0, none⟩) l.length c) l) (hn : n ≤ l.length) {c' m : Nat} {a : Option Addr} (hm : m = l.length - n) (ha : a = some ⟨g, n * 4, none⟩ ∨ m = 0) (hc : m ≤ c') : FS w (.slice a m c') (l.drop n) := by
  have e : (l.drop n).length = m := by simp; omega
  by_cases h0 : m = 0
  · subst h0
    exact .inl ⟨⟨_, _, rfl⟩, List.eq_nil_of_length_eq_zero e⟩
  · have ha : a = some ⟨g, n * 4, none⟩ := by rcases ha with ha | ha; exact ha; exact absurd ha h0
    subst ha
    rcases h with ⟨_, rfl⟩ | ⟨b, off, cap, e2, _, hlt, hcell⟩
    · simp at hm; omega
    · injection e2 with e2 _ _
      injection e2 with e2
      injection e2 with e3 e4 _
      subst e3 e4
      refine .inr ⟨g, n * 4, c', by rw [e], by omega, hlt, fun i u hu => ?_⟩
      have e5 : fc l = fc (l.take n) ++ fc (l.drop n) := by rw [← fc_append, List.take_append_drop]
      have := hcell (n * 4 + i) u (by
        rw [e5, List.getElem?_append_right (by rw [fc_length, List.length_take]; omega)]
        rw [fc_length, List.length_take, show n * 4 + i - min n l.length * 4 = i by omega]
        exact hu)
      rw [Nat.zero_add] at this
      exact this
theorem cut_out {L : List Fl} (h : Good L) {k : Nat} (hk : k < L.length) : L.take k ++ L.drop (k + 1) = outF L[k].path L := by
  have hne : ∀ j (hj : j < L.length), j ≠ k → L[j].path ≠ L[k].path := by
    intro j hj hjk e
    have hpw := List.pairwise_iff_getElem.1 h.apart
    rcases Nat.lt_or_gt_of_ne hjk with hlt | hgt
    · exact (hpw j k hj hk hlt).1 (by unfold pp; rw [e])
    · exact (hpw k j hk hj hgt).1 (by unfold pp; rw [e])
  have e : L = L.take k ++ L[k] :: L.drop (k + 1) := by rw [← List.drop_eq_getElem_cons hk, List.take_append_drop]
  have h1 : (L.take k).filter (fun g => !(g.path == L[k].path)) = L.take k := by
    rw [List.filter_eq_self]
    intro f hf
    obtain ⟨j, hj, ej⟩ := List.getElem_of_mem hf
    rw [List.length_take] at hj
    rw [List.getElem_take] at ej
    have := hne j (by omega) (by omega)
    rw [ej] at this
    simpa using this
  have h2 : (L.drop (k + 1)).filter (fun g => !(g.path == L[k].path)) = L.drop (k + 1) := by
    rw [List.filter_eq_self]
    intro f hf
    obtain ⟨j, hj, ej⟩ := List.getElem_of_mem hf
    rw [List.length_drop] at hj
    rw [List.getElem_drop] at ej
    have := hne (k + 1 + j) (by omega) (by omega)
    rw [ej] at this
    simpa using this
  have h3 : outF L[k].path L = (L.take k ++ L[k] :: L.drop (k + 1)).filter (fun g => !(g.path == L[k].path)) := by
    rw [← e]; rfl
  rw [h3, List.filter_append, h1, List.filter_cons_of_neg (by simp), h2]
theorem outF_srt {L : List Fl} (h : Srt L) (p : List UInt8) : Srt (outF p L) := h.filter _
theorem outF_good {L : List Fl} (h : Good L) (p : List UInt8) : Good (outF p L) := h.filter _
theorem at_some {L : List Fl} {k : Nat} (hk : k < L.length) : dropE L L[k].path = 0 := by
  unfold dropE
  cases e : fileAt L (pcs L[k].path) with
  | none => exact absurd rfl (fileAt_none.1 e L[k] (List.getElem_mem hk))
  | some s => rfl
theorem at_none {L : List Fl} {p : List UInt8} (h : ∀ f ∈ L, f.path ≠ p) : dropE L p = 20 ∧ outF p L = L := by
  have : fileAt L (pcs p) = none := fileAt_none.2 (fun f hf e => h f hf (pcs_inj e))
  exact dropE_none this
/-- what a call that writes leaves -/
structure RL (w w' : World) (base t : Nat) (L : List Fl) : Prop where
  rt : RT w' base t L
  only : Only [t] w w'
theorem RT.row {w : World} {base t : Nat} {L : List Fl} (h : RT w base t L) (h0 : 0 < L.length) : ∃ g c, (∀ wr, Below w.heap.size w wr → wr.cell? ⟨t, 0, none⟩ = some (.slice (some ⟨g, 0, none⟩) L.length c) ∧ FS wr (.slice (some ⟨g, 0, none⟩) L.length c) L) ∧ L.length ≤ c ∧ c ≤ maxLen := by
  obtain ⟨a, c, h1, h2⟩ := h.it
  rcases h2.2 with ⟨_, e⟩ | ⟨g, cap, cur, e, _, hg, hn, hm, _⟩
  · omega
  · injection e with e1 _ e3
    subst e1 e3
    refine ⟨g, c, fun wr hb => ⟨?_, (h2.later hb).fs⟩, hn, hm⟩
    rw [hb.cell (p := ⟨t, 0, none⟩) h.lt]
    simp [World.cell?, h1]
theorem RT.soft {w wr : World} {base t : Nat} {L : List Fl} (h : RT w base t L) (hb : Below w.heap.size w wr) : wr.frozen? ⟨t, 0, none⟩ = false ∧ t < wr.heap.size := by
  obtain ⟨a, c, h1, _⟩ := (h.later hb).it
  exact ⟨by simp [World.frozen?, h1], (h.later hb).lt⟩
/-- the block takes another row -/
theorem RT.set {w w1 : World} {base t : Nat} {L L' : List Fl} {a : Option Addr} {c : Nat} (h : RT w base t L) (hb : Below w.heap.size w w1) (hw : base ≤ w.heap.size) (ho : OwnF w.heap.size w1 (.slice a L'.length c) L') (hg : Good L') (hs : Srt L') (hf : ∀ f ∈ L', Fok f) :
    RL w (w1.setCell ⟨t, 0, none⟩ (.slice a L'.length c)) base t L' := by
  obtain ⟨a0, c0, h1, _⟩ := (h.later hb).it
  have ho2 : Only [t] w1 (w1.setCell ⟨t, 0, none⟩ (.slice a L'.length c)) := Only.set _ _ _ _
  refine ⟨⟨⟨a, c, ?_, ?_⟩, h.big, hg, hs, hf⟩, (Only.of_below hb _).trans ho2⟩
  · rw [setCell_heap w1 t 0 _ h1]; rfl
  · refine (ho.only ho2 (fun k hk e => ?_)).mono hw
    have h3 := (ho.lt hk).1
    simp at e
    have := h.lt
    omega

set_option maxRecDepth 100000 in
set_option maxHeartbeats 2000000 in
theorem rdropT_any {w : World} {base t : Nat} {L : List Fl} (h : RT w base t L) (hw : base ≤ w.heap.size) (p : List UInt8) :
    Calls Tryz.prog 41 #[.pointer (some ⟨t, 0, none⟩), .string (bs p)] w fun e w' => e = .returned (.int .i64 (dropE L p)) ∧ RL w w' base t (outF p L) := by
  have HT : Hid (RT w base t L ∧ base ≤ w.heap.size) := ⟨h, hw⟩
  have hlen := h.good.len
  clear h hw
  obtain ⟨E, hE⟩ : ∃ E, dropE L p = E := ⟨_, rfl⟩
  obtain ⟨L', hL'⟩ : ∃ L', outF p L = L' := ⟨_, rfl⟩
  have HE : Hid (dropE L p = E ∧ outF p L = L') := ⟨hE, hL'⟩
  rw [hE, hL']
  clear hE hL'
  go_enter Tryz.func41, Tryz.ntmps41
  go_wp2_with fail
  refine (rat_any HT.out.1 p).mono ?_
  rintro e w1 ⟨⟨i, rfl, hi⟩, hb1⟩
  have HB1 : Hid (Below w.heap.size w w1) := hb1
  clear hb1
  rcases hi with ⟨rfl, hno⟩ | ⟨k, hk, rfl, hp⟩
  · have hd := at_none hno
    have HD : Hid (E = 20 ∧ L' = L) := ⟨by rw [← HE.out.1]; exact hd.1, by rw [← HE.out.2]; exact hd.2⟩
    clear hd hno
    go_wp2_with fail
    go_ret
    refine ⟨by rw [HD.out.1]; rfl, ?_, Only.of_below HB1.out _⟩
    rw [HD.out.2]
    exact HT.out.1.later HB1.out
  · obtain ⟨g, c, hc, hcl, hcm⟩ := HT.out.1.row (by omega)
    have HD : Hid (E = 0 ∧ L' = L.take k ++ L.drop (k + 1) ∧ k < L.length) := by
      refine ⟨?_, ?_, hk⟩
      · rw [← HE.out.1, ← hp]; exact at_some hk
      · rw [← HE.out.2, ← hp]; exact (cut_out HT.out.1.good hk).symm
    obtain ⟨n, hn⟩ : ∃ n, L.length = n := ⟨_, rfl⟩
    have HN : Hid (L.length = n) := hn
    have HC : Hid (∀ wr, Below w.heap.size w wr → wr.cell? ⟨t, 0, none⟩ = some (.slice (some ⟨g, 0, none⟩) n c) ∧ FS wr (.slice (some ⟨g, 0, none⟩) L.length c) L) := by rw [← hn]; exact hc
    unfold maxLen at hcm
    rw [hn] at hk hlen hcl
    clear hc hp hn
    have c0 := (HC.out w1 HB1.out).1
    have i1 : (0 : Int) ≤ (k : Int) := by omega
    have i2 : (k : Int) ≤ (c : Int) := by omega
    have i3 : (k : Int) ≤ (n : Int) := by omega
    have i4 : ¬ (k : Int) < 0 := by omega
    have H1 : Hid (Src Tryz.prog 4 22 (.slice (some ⟨g, 0, none⟩) k c) (L.take k).length (fc (L.take k)) w1) := ((HC.out w1 HB1.out).2.front (by have := HN.out; omega) (by omega)).src
    have hcz : ¬ c = 0 := by omega
    have i5 : (0 : Int) ≤ (k : Int) + 1 := by omega
    have i6 : (k : Int) + 1 ≤ (n : Int) := by omega
    have i7 : (k : Int) + 1 ≤ (c : Int) := by omega
    have hLk : (L.take k).length = k := by have := HN.out; simp; omega
    have hLd : (L.drop (k + 1)).length = n - (k + 1) := by have := HN.out; simp; omega
    have HLL : Hid ((L.take k).length = k ∧ (L.drop (k + 1)).length = n - (k + 1)) := ⟨hLk, hLd⟩
    clear hLk hLd
    by_cases hck : c = k + 1
    · subst hck
      have i8 : (k : Int) ≤ (k : Int) + 1 := by omega
      go_wp2_with (first
        | (at_builtin; refine app_files (base := w.heap.size) (l := []) (k := L.take k) (OwnF.nil _ _) H1.out (by simp; omega) HB1.out.size rfl (.tmp 12) (.tmp 18) rfl rfl rfl ?_; intro v2 w2 ho2 hg2 hv2; have H2 : Hid (OwnF w.heap.size w2 v2 (L.take k) ∧ Below w.heap.size w w2) := ⟨(by simpa using ho2), HB1.out.grown hg2 HB1.out.size (fun j hj => by cases hj)⟩; clear ho2 hg2 hv2; have c2 := (HC.out w2 H2.out.2).1)
        | (at_builtin; refine app_files (base := w.heap.size) (l := L.take k) (k := L.drop (k + 1)) H2.out.1 (FS.back (HC.out w2 H2.out.2).2 (n := k + 1) (by have := HN.out; omega) (by have := HN.out; omega) (.inr (by omega)) (by omega)).src (by have := HLL.out; omega) H2.out.2.size rfl (.tmp 21) (.tmp 28) rfl rfl rfl ?_; intro v3 w3 ho3 hg3 hv3; have H3 : Hid (OwnF w.heap.size w3 v3 (L.take k ++ L.drop (k + 1)) ∧ Below w.heap.size w w3) := ⟨ho3, H2.out.2.grown hg3 H2.out.2.size (fun j hj => (H2.out.1.lt hj).1)⟩; obtain ⟨a3, c3, e3⟩ := ho3.form; subst e3; clear ho3 hg3 hv3; obtain ⟨f3, l3⟩ := HT.out.1.soft H3.out.2; have c4 := (HC.out w3 H3.out.2).1))
      go_ret
      refine ⟨by rw [HD.out.1]; rfl, ?_⟩
      have hr := HT.out.1.set H3.out.2 HT.out.2 (a := a3) (c := c3) (L' := L.take k ++ L.drop (k + 1)) H3.out.1 (by rw [← HD.out.2.1, ← HE.out.2]; exact outF_good HT.out.1.good p) (by rw [← HD.out.2.1, ← HE.out.2]; exact outF_srt HT.out.1.srt p) (fun f hf => by rw [← HD.out.2.1, ← HE.out.2] at hf; exact HT.out.1.fok f (List.mem_filter.1 hf).1)
      rw [HD.out.2.1]
      simp only [List.length_append, List.length_take, List.length_drop] at hr ⊢
      exact hr
    · 
      go_wp2_with (first
        | (at_builtin; refine app_files (base := w.heap.size) (l := []) (k := L.take k) (OwnF.nil _ _) H1.out (by simp; omega) HB1.out.size rfl (.tmp 12) (.tmp 18) rfl rfl rfl ?_; intro v2 w2 ho2 hg2 hv2; have H2 : Hid (OwnF w.heap.size w2 v2 (L.take k) ∧ Below w.heap.size w w2) := ⟨(by simpa using ho2), HB1.out.grown hg2 HB1.out.size (fun j hj => by cases hj)⟩; clear ho2 hg2 hv2; have c2 := (HC.out w2 H2.out.2).1)
        | (at_builtin; refine app_files (base := w.heap.size) (l := L.take k) (k := L.drop (k + 1)) H2.out.1 (FS.back (HC.out w2 H2.out.2).2 (n := k + 1) (by have := HN.out; omega) (by have := HN.out; omega) (.inl rfl) (by omega)).src (by have := HLL.out; omega) H2.out.2.size rfl (.tmp 21) (.tmp 28) rfl rfl rfl ?_; intro v3 w3 ho3 hg3 hv3; have H3 : Hid (OwnF w.heap.size w3 v3 (L.take k ++ L.drop (k + 1)) ∧ Below w.heap.size w w3) := ⟨ho3, H2.out.2.grown hg3 H2.out.2.size (fun j hj => (H2.out.1.lt hj).1)⟩; obtain ⟨a3, c3, e3⟩ := ho3.form; subst e3; clear ho3 hg3 hv3; obtain ⟨f3, l3⟩ := HT.out.1.soft H3.out.2; have c4 := (HC.out w3 H3.out.2).1))
      go_ret
      refine ⟨by rw [HD.out.1]; rfl, ?_⟩
      have hr := HT.out.1.set H3.out.2 HT.out.2 (a := a3) (c := c3) (L' := L.take k ++ L.drop (k + 1)) H3.out.1 (by rw [← HD.out.2.1, ← HE.out.2]; exact outF_good HT.out.1.good p) (by rw [← HD.out.2.1, ← HE.out.2]; exact outF_srt HT.out.1.srt p) (fun f hf => by rw [← HD.out.2.1, ← HE.out.2] at hf; exact HT.out.1.fok f (List.mem_filter.1 hf).1)
      rw [HD.out.2.1]
      simp only [List.length_append, List.length_take, List.length_drop] at hr ⊢
      exact hr
end Go.Proofs.YtceoelclnnfhhadGreat
