/-
  What stands through the look at fresh memory.
-/
import Derived.Test.YtceoelclnnfhhadGreatPair
import Derived.Test.YtceoelclnnfhhadGreatMrkd
import Derived.Deep.DeepCutAuto
namespace Go.Proofs.YtceoelclnnfhhadGreat
open Go.RowKit

def GoodE (w : World) (e : Ending) (w' : World) : Prop := e = .returned (.bool true) ∧ Below w.heap.size w w'
theorem fc_set : ∀ (l : List Fl) (i : Nat) (f : Fl), fc (l.set i f) = ((((fc l).set (i * 4) (.string (bs f.path))).set (i * 4 + 1) (.string (bs f.text))).set (i * 4 + 2) (.int .i64 f.blob)).set (i * 4 + 3) (.int .i64 f.size)
  | [], i, f => by simp [fc]
  | g :: r, 0, f => by simp [fc]
  | g :: r, i + 1, f => by
    rw [List.set_cons_succ, fc, fc_set r i f, show (i + 1) * 4 = i * 4 + 4 by omega]
    simp [fc]
theorem own_setF {base : Nat} {w : World} {g n cap : Nat} {l : List Fl} (h : OwnF base w (.slice (some ⟨g, 0, none⟩) n cap) l) (i : Nat) (f : Fl) :
    OwnF base ((((w.setCell ⟨g, i * 4, none⟩ (.string (bs f.path))).setCell ⟨g, i * 4 + 1, none⟩ (.string (bs f.text))).setCell ⟨g, i * 4 + 2, none⟩ (.int .i64 f.blob)).setCell ⟨g, i * 4 + 3, none⟩ (.int .i64 f.size)) (.slice (some ⟨g, 0, none⟩) n cap) (l.set i f) := by
  rcases h.2 with ⟨e, _⟩ | ⟨g', cap', cur, e, hbg, hg, hn, hcm, hcs, htake⟩
  · cases e
  · injection e with e1 e2 e3
    injection e1 with e1
    injection e1 with e1 _ _
    subst e1
    subst e3
    refine ⟨by rw [fc_length, List.length_set], .inr ⟨g, cap, _, by rw [List.length_set, e2], hbg, heap_setCell _ _ _ _ (heap_setCell _ _ _ _ (heap_setCell _ _ _ _ (heap_setCell w g _ _ hg))), by rw [List.length_set]; exact hn, hcm, by simpa using hcs, ?_⟩⟩
    rw [List.length_set, fc_set]
    have h2 : cur.toList.take (l.length * 4) = fc l := htake
    rw [← h2]
    simp only [Array.toList_setIfInBounds, List.take_set]
theorem own_cellF {base : Nat} {w : World} {g n cap : Nat} {l : List Fl} (h : OwnF base w (.slice (some ⟨g, 0, none⟩) n cap) l) (i : Nat) (hi : i < l.length) :
    (w.cell? ⟨g, i * 4, none⟩ = some (.string (bs l[i].path)) ∧ w.cell? ⟨g, i * 4 + 1, none⟩ = some (.string (bs l[i].text)) ∧ w.cell? ⟨g, i * 4 + 2, none⟩ = some (.int .i64 l[i].blob) ∧ w.cell? ⟨g, i * 4 + 3, none⟩ = some (.int .i64 l[i].size)) ∧
    (w.frozen? ⟨g, i * 4, none⟩ = false ∧ w.frozen? ⟨g, i * 4 + 1, none⟩ = false ∧ w.frozen? ⟨g, i * 4 + 2, none⟩ = false ∧ w.frozen? ⟨g, i * 4 + 3, none⟩ = false) ∧ base ≤ g ∧ g < w.heap.size := by
  have hlt := h.lt (k := g) rfl
  obtain ⟨c0, c1, c2, c3⟩ := fc_get l i hi
  have hc : ∀ j u, (fc l)[j]? = some u → w.cell? ⟨g, j, none⟩ = some u := fun j u hu => by
    have := World.ownsRow.cells h (g := g) rfl j u hu
    rw [add_lit, Nat.zero_add] at this
    exact this
  have hf : ∀ j, w.frozen? ⟨g, j, none⟩ = false := fun j => by
    rcases h.2 with ⟨e, _⟩ | ⟨g', cap', cur, e, hbg, hg, _⟩
    · cases e
    · injection e with e1 e2 e3
      injection e1 with e1
      injection e1 with e1 _ _
      subst e1
      simp [World.frozen?, hg]
  exact ⟨⟨hc _ _ c0, hc _ _ c1, hc _ _ c2, hc _ _ c3⟩, ⟨hf _, hf _, hf _, hf _⟩, hlt⟩
theorem own_formF {base : Nat} {w : World} {v : Value} {l : List Fl} (h : OwnF base w v l) : (v = .slice none 0 0 ∧ l = []) ∨ ∃ g c, v = .slice (some ⟨g, 0, none⟩) l.length c ∧ l.length ≤ c ∧ base ≤ g ∧ g < w.heap.size := by
  rcases h.2 with ⟨rfl, h0⟩ | ⟨g, cap, cur, rfl, hb, hg, hn, _⟩
  · exact .inl ⟨rfl, List.eq_nil_of_length_eq_zero h0⟩
  · exact .inr ⟨g, cap, rfl, hn, hb, (Array.getElem?_eq_some_iff.1 hg).1⟩
theorem fs_of_own {base : Nat} {w : World} {g n m c c' : Nat} {l : List Fl} (h : OwnF base w (.slice (some ⟨g, 0, none⟩) m c) l) (hn : n ≤ l.length) (hc : n ≤ c') : FS w (.slice (some ⟨g, 0, none⟩) n c') (l.take n) := by
  have hlt := (h.lt (k := g) rfl).2
  have e : (l.take n).length = n := by simp; omega
  have ef : fc l = fc (l.take n) ++ fc (l.drop n) := by rw [← fc_append, List.take_append_drop]
  refine .inr ⟨g, 0, c', by rw [e], by omega, hlt, fun i u hu => ?_⟩
  have hi := (List.getElem?_eq_some_iff.1 hu).1
  have := World.ownsRow.cells h (g := g) rfl i u (by rw [ef, List.getElem?_append_left hi]; exact hu)
  rw [add_lit] at this; exact this
theorem own_capF {base : Nat} {w : World} {g n cap : Nat} {l : List Fl} (h : OwnF base w (.slice (some ⟨g, 0, none⟩) n cap) l) : n = l.length ∧ n ≤ cap := by
  rcases h.2 with ⟨e, _⟩ | ⟨g', cap', cur, e, hbg, hg, hn, _⟩
  · cases e
  · injection e with e1 e2 e3
    omega
theorem ownF_empty (w : World) (base : Nat) (hb : base ≤ w.heap.size) : OwnF base (w.alloc (.cells #[] 24)) (.slice (some ⟨w.heap.size, 0, none⟩) 0 0) [] :=
  ⟨by simp [fc], .inr ⟨w.heap.size, 0, #[], rfl, hb, heap_alloc_new w _, by simp, by unfold maxLen; omega, by simp, by simp [fc]⟩⟩
def fo : Fl := ⟨[111, 110, 101], [], 0, 0⟩
def ft : Fl := ⟨[116, 119, 111], [], 0, 0⟩
def f3 : Fl := ⟨[116, 104, 114, 101, 101], [], 0, 0⟩

/-- the longer list, and what came in -/
structure FU (w wc : World) (gm cm n : Nat) (L X : List Fl) : Prop where
  below : Below w.heap.size w wc
  mine : OwnF w.heap.size wc (.slice (some ⟨gm, 0, none⟩) (n + 2) cm) X
  len : X.length = n + 2
  hn : L.length = n
theorem FU.later {w wc wd : World} {gm cm n : Nat} {L X : List Fl} (h : FU w wc gm cm n L X) (hb : Below wc.heap.size wc wd) : FU w wd gm cm n L X :=
  ⟨bstep h.below hb, h.mine.later hb, h.len, h.hn⟩
theorem FU.a {w wc : World} {gm cm n : Nat} {L : List Fl} (h : FU w wc gm cm n L (L ++ [fo, ft])) : FS wc (.slice (some ⟨gm, 0, none⟩) n cm) L := by
  have h1 := fs_of_own (n := n) (c' := cm) h.mine (by have := h.hn; simp; omega) (by have := own_capF h.mine; omega)
  rwa [List.take_append_of_le_length (by have := h.hn; omega), List.take_of_length_le (by have := h.hn; omega)] at h1
theorem FU.marks {w wc : World} {gm cm n : Nat} {L : List Fl} (h : FU w wc gm cm n L (L ++ [fo, ft])) :
    wc.cell? ⟨gm, n * 4, none⟩ = some (.string ⟨#[111, 110, 101]⟩) ∧ wc.cell? ⟨gm, (n + 1) * 4, none⟩ = some (.string ⟨#[116, 119, 111]⟩) := by
  have hn := h.hn
  have e1 := (own_cellF h.mine n (by simp; omega)).1.1
  have e2 := (own_cellF h.mine (n + 1) (by simp; omega)).1.1
  subst hn
  refine ⟨?_, ?_⟩
  · rw [e1]; simp [fo]; rfl
  · rw [e2]; simp [ft]; rfl

/-- two trees of the same files, apart; one has lost some -/
structure TU (w wc : World) (t u : Nat) (T L : List Fl) : Prop where
  trees : ∃ F G : Nat → Prop, TR wc F t T 12000 ∧ TR wc G u L 12000 ∧ (∀ i, G i → ¬ F i) ∧ ∀ i, F i → w.heap.size ≤ i
theorem TU.later {w wc wd : World} {t u : Nat} {T L : List Fl} (h : TU w wc t u T L) (hb : Below wc.heap.size wc wd) : TU w wd t u T L := by
  obtain ⟨F, G, h1, h2, h3, h4⟩ := h.trees
  exact ⟨F, G, h1.later hb, h2.later hb, h3, h4⟩
/-- while the longer list is written over -/
structure TG (w wc : World) (gm t u : Nat) (L : List Fl) : Prop where
  trees : ∃ F G : Nat → Prop, TR wc F t L 12000 ∧ TR wc G u L 12000 ∧ (∀ i, G i → ¬ F i) ∧ (∀ i, F i → w.heap.size ≤ i ∧ i ≠ gm) ∧ ∀ i, G i → i ≠ gm
theorem TG.tu {w wc : World} {gm t u : Nat} {L : List Fl} (h : TG w wc gm t u L) : TU w wc t u L L := by
  obtain ⟨F, G, h1, h2, h3, h4, h5⟩ := h.trees
  exact ⟨F, G, h1, h2, h3, fun i hi => (h4 i hi).1⟩
theorem TG.only {w wc wd : World} {gm t u : Nat} {L : List Fl} (h : TG w wc gm t u L) (ho : Only [gm] wc wd) : TG w wd gm t u L := by
  obtain ⟨F, G, h1, h2, h3, h4, h5⟩ := h.trees
  exact ⟨F, G, h1.stay ho.size (fun k hk => ho.block k (h1.lt k hk) (by simpa using (h4 k hk).2)), h2.stay ho.size (fun k hk => ho.block k (h2.lt k hk) (by simpa using h5 k hk)), h3, h4, h5⟩
theorem TG.later {w wc wd : World} {gm t u : Nat} {L : List Fl} (h : TG w wc gm t u L) (hb : Below wc.heap.size wc wd) : TG w wd gm t u L := by
  obtain ⟨F, G, h1, h2, h3⟩ := h.trees
  exact ⟨F, G, h1.later hb, h2.later hb, h3⟩
/-- all that stands behind the calls -/
structure FZ (w wc : World) (t u r : Nat) (T L : List Fl) (va vf vd : Value) (d : List UInt8) : Prop where
  tu : TU w wc t u T L
  rt : RT wc w.heap.size r L
  below : Below w.heap.size w wc
  fs : FS w va L
  files : Own w.heap.size wc vf (rfiles L d)
  dirs : Own w.heap.size wc vd (rdirs (pcs d) L [])
theorem FZ.later {w wc wd : World} {t u r : Nat} {T L : List Fl} {va vf vd : Value} {d : List UInt8} (h : FZ w wc t u r T L va vf vd d) (hb : Below wc.heap.size wc wd) : FZ w wd t u r T L va vf vd d :=
  ⟨h.tu.later hb, h.rt.later hb, bstep h.below hb, h.fs, h.files.later hb, h.dirs.later hb⟩
theorem FZ.len {w wc : World} {t u r : Nat} {T L : List Fl} {va vf vd : Value} {d : List UInt8} (h : FZ w wc t u r T L va vf vd d) (x : List UInt8) : (rfiles L x).length ≤ 4194304 ∧ (rdirs (pcs x) L []).length ≤ 4194304 := by
  have := h.rt.good.len
  exact ⟨by have := rfiles_len L x; omega, by have := rdirs_len (pcs x) L []; simp at this; omega⟩
/-- what is told of a tree -/
theorem tr_files {w0 w : World} {F : Nat → Prop} {t r : Nat} {L : List Fl} (h : TR w F t L 12000) (hr : RT w w0.heap.size r L) (d : List UInt8) (hd : d.length ≤ 4194304) :
    Calls Tryz.prog 10 #[.pointer (some ⟨t, 0, none⟩), .string (bs d)] w fun e w' => ∃ v, e = .returned v ∧ Own w.heap.size w' v (rfiles L d) ∧ Below w.heap.size w w' := by
  refine (tfiles_any h d hd).mono ?_
  rintro e w' ⟨v, X, rfl, k1, k2, k3, _, _, k4⟩
  have e := files_eq hr.good hr.srt k2 k3
  subst e
  exact ⟨v, rfl, k1, k4⟩
theorem tr_dirs {w0 w : World} {F : Nat → Prop} {t r : Nat} {L : List Fl} (h : TR w F t L 12000) (hr : RT w w0.heap.size r L) (d : List UInt8) (hd : d.length ≤ 4194304) :
    Calls Tryz.prog 11 #[.pointer (some ⟨t, 0, none⟩), .string (bs d)] w fun e w' => ∃ v, e = .returned v ∧ Own w.heap.size w' v (rdirs (pcs d) L []) ∧ Below w.heap.size w w' := by
  refine (tdirs_any h d hd).mono ?_
  rintro e w' ⟨v, X, rfl, k1, k2, k3, _, _, k4⟩
  have e := dirs_eq hr.good hr.srt k2 k3
  subst e
  exact ⟨v, rfl, k1, k4⟩
theorem FZ.tfiles {w wc : World} {t u r : Nat} {L : List Fl} {va vf vd : Value} {d : List UInt8} (h : FZ w wc t u r L L va vf vd d) (x : List UInt8) (hx : x.length ≤ 4194304) :
    Calls Tryz.prog 10 #[.pointer (some ⟨t, 0, none⟩), .string (bs x)] wc fun e w' => ∃ v, e = .returned v ∧ Own wc.heap.size w' v (rfiles L x) ∧ Below wc.heap.size wc w' := by
  obtain ⟨F, G, h1, _⟩ := h.tu.trees
  exact tr_files h1 h.rt x hx
theorem FZ.tdirs {w wc : World} {t u r : Nat} {L : List Fl} {va vf vd : Value} {d : List UInt8} (h : FZ w wc t u r L L va vf vd d) (x : List UInt8) (hx : x.length ≤ 4194304) :
    Calls Tryz.prog 11 #[.pointer (some ⟨t, 0, none⟩), .string (bs x)] wc fun e w' => ∃ v, e = .returned v ∧ Own wc.heap.size w' v (rdirs (pcs x) L []) ∧ Below wc.heap.size wc w' := by
  obtain ⟨F, G, h1, _⟩ := h.tu.trees
  exact tr_dirs h1 h.rt x hx
theorem FZ.ufiles {w wc : World} {t u r : Nat} {T L : List Fl} {va vf vd : Value} {d : List UInt8} (h : FZ w wc t u r T L va vf vd d) (x : List UInt8) (hx : x.length ≤ 4194304) :
    Calls Tryz.prog 10 #[.pointer (some ⟨u, 0, none⟩), .string (bs x)] wc fun e w' => ∃ v, e = .returned v ∧ Own wc.heap.size w' v (rfiles L x) ∧ Below wc.heap.size wc w' := by
  obtain ⟨F, G, _, h2, _⟩ := h.tu.trees
  exact tr_files h2 h.rt x hx
theorem FZ.drop {w wc : World} {t u r : Nat} {T L : List Fl} {va vf vd : Value} {d : List UInt8} (h : FZ w wc t u r T L va vf vd d) (hT : ∀ f ∈ T, f ∈ L) (p : List UInt8) (hp : p.length ≤ 4194304) :
    Calls Tryz.prog 14 #[.pointer (some ⟨t, 0, none⟩), .string (bs p)] wc fun e w' => ∃ x, e = .returned (.int .i64 x) ∧ FZ w w' t u r (outF p T) L va vf vd d := by
  obtain ⟨F, G, h1, h2, h3, h4⟩ := h.tu.trees
  refine (drop_any h1 (szs_all h1.good (fun f hf => h.rt.fok f (hT f hf))) p hp).mono ?_
  rintro e w' ⟨rfl, hl⟩
  have hs := h.below.size
  refine ⟨_, rfl, ⟨_, G, hl.tr, h2.only hl.op h3, fun i hi => ?_, fun i hi => ?_⟩, h.rt.ak hl.ak, below_trans h.below (hl.op.toBelow hs h4), h.fs, h.files.ak hl.ak, h.dirs.ak hl.ak⟩
  · rintro (hf | hf)
    · exact h3 i hi hf
    · have := h2.lt i hi; omega
  · rcases hi with hi | hi
    · exact h4 i hi
    · omega
theorem same_true {W : World} {v u : Value} {l : List (List UInt8)} (hl : l.length ≤ 4194304) (h1 : SS W v l) (h2 : SS W u l) : Calls Tryz.prog 12 #[v, u] W fun e w' => e = .returned (.bool true) ∧ Below W.heap.size W w' := by
  refine (same_any h1 h2 hl).mono ?_
  rintro e w' ⟨rfl, hb⟩
  rw [decide_eq_true rfl]
  exact ⟨rfl, hb⟩
end Go.Proofs.YtceoelclnnfhhadGreat
