/-
  What is hidden, in a tree: its size below a directory; what is shown is taken out.
  What is shown is taken out of the tree of what is hidden.
-/
import Derived.Test.YtbaheiimcnfaaaaGreatJNe
import Derived.Test.YtbaheiimcnfaaaaGreatTold
import Derived.Test.YtbaheiimcnfaaaaGreatTDrop
namespace Go.Proofs.YtbaheiimcnfaaaaGreat
open Go.RowKit Go.Maps
attribute [local go_sem] Oper.semAt_some

theorem pre_abv (d p : List UInt8) : pre (pcs d) (pcs p) = abvV d p := by
  rw [Bool.eq_iff_iff, pre_iff, abvV_iff]
  constructor
  · rintro ⟨n, r, e⟩
    exact ⟨n :: r, by simp, e⟩
  · rintro ⟨r, hr, e⟩
    cases r with
    | nil => exact absurd rfl hr
    | cons n r => exact ⟨n, r, e⟩
theorem totZ (d : List UInt8) : ∀ {L : List Fl}, (∀ f ∈ L, 0 ≤ f.size) → (tot L (pcs d) : Int) = sumZ (L.filter (fun f => abvV d f.path))
  | [], _ => rfl
  | f :: r, h => by
    have ih := totZ d (L := r) fun x hx => h x (by simp [hx])
    have h0 := h f (by simp)
    have hp : pre (pcs d) (pp f) = abvV d f.path := pre_abv d f.path
    rw [List.filter_cons]
    unfold tot
    rw [hp]
    cases e : abvV d f.path with
    | true =>
      rw [if_pos rfl, if_pos rfl, sumZ_cons, ← ih]
      unfold sz
      omega
    | false =>
      rw [if_neg (by simp), if_neg (by simp), ← ih]
      omega
theorem sizeS_ads {L : List Fl} (hz : ∀ f ∈ L, 0 ≤ f.size) {d : List UInt8} (hd : okP d = true) : sizeS L d = ads L d := by
  have ht := totZ d hz
  unfold sizeS ads cap
  rw [← ht]
  cases e : isD L d with
  | true =>
    rw [if_pos rfl]
    split <;> omega
  | false =>
    rw [if_neg (by simp)]
    have h0 : tot L (pcs d) = 0 := tot_zero (by
      rcases Nat.eq_zero_or_pos (cnt L (pcs d)) with h0 | h0
      · exact h0
      · exfalso
        obtain ⟨f, hf, hp⟩ := cnt_pos.1 h0
        have hp' : abvV d f.path = true := by rw [← pre_abv]; exact hp
        unfold isD at e
        rw [Bool.or_eq_false_iff, hd, Bool.true_and] at e
        have := List.any_eq_false.1 e.2 f hf
        exact this hp')
    rw [h0]
    omega
theorem Left.trans {w w1 w2 : World} {F G : Nat → Prop} {t N : Nat} {L1 L2 : List Fl} (h : Left w w1 F t L1 N) (g : Left w1 w2 G t L2 N) (hG : ∀ i, G i → F i ∨ (w.heap.size ≤ i ∧ i < w1.heap.size)) : Left w w2 F t L2 N := by
  have hs1 := h.op.size
  have hs2 := g.op.size
  refine ⟨g.tr.wider (fun i hi => ?_) (fun i hi => ?_) (Nat.le_refl _), h.ak.trans g.ak, h.op.trans g.op fun i hi hg => ?_⟩
  · rcases hi with hi | hi
    · rcases hG i hi with h1 | h1
      · exact .inl h1
      · exact .inr ⟨h1.1, by omega⟩
    · exact .inr ⟨by omega, hi.2⟩
  · rcases hi with hi | hi
    · have := h.tr.lt i (.inl hi)
      omega
    · exact hi.2
  · rcases hG i hg with h1 | h1
    · exact h1
    · omega
theorem Left.lt {w w1 : World} {F : Nat → Prop} {t N : Nat} {L1 : List Fl} (h : Left w w1 F t L1 N) : w.heap.size ≤ w1.heap.size := h.op.size
theorem Left.below {w w1 : World} {F : Nat → Prop} {t N B : Nat} {L1 : List Fl} (h : Left w w1 F t L1 N) (hB : B ≤ w.heap.size) (hF : ∀ i, F i → B ≤ i) : Below B w w1 := h.op.toBelow hB hF
theorem Szs.sub {L M : List Fl} (h : Szs L) (hs : ∀ f ∈ M, f ∈ L) : Szs M := fun f hf => h f (hs f hf)
/-- what is left when the first i files are dropped -/
theorem out_next {L : List Fl} {X : List (List UInt8)} {i : Nat} (hi : i < X.length) : outF X[i] (L.filter (fun f => !decide (f.path ∈ X.take i))) = L.filter (fun f => !decide (f.path ∈ X.take (i + 1))) := by
  unfold outF
  rw [List.filter_filter]
  refine filt_congr fun f _ => ?_
  rw [List.take_succ_eq_append_getElem hi, Bool.eq_iff_iff]
  simp only [Bool.and_eq_true, Bool.not_eq_true', beq_eq_false_iff_ne, ne_eq, decide_eq_false_iff_not, List.mem_append, List.mem_singleton, not_or]
  exact and_comm
theorem out_none {L : List Fl} {X : List (List UInt8)} : L.filter (fun f => !decide (f.path ∈ X.take 0)) = L := by
  rw [List.filter_eq_self]
  simp
/-- what is left when the first i directories are shown -/
def shL (L : List Fl) (Y : List (List UInt8)) (i : Nat) : List Fl := L.filter (fun f => !(Y.take i).any (fun y => abvV y f.path))
theorem shL_next {L : List Fl} {Y : List (List UInt8)} {i : Nat} (hi : i < Y.length) : (shL L Y i).filter (fun f => !abvV Y[i] f.path) = shL L Y (i + 1) := by
  unfold shL
  rw [List.filter_filter]
  refine filt_congr fun f _ => ?_
  rw [List.take_succ_eq_append_getElem hi, List.any_append, Bool.not_or, Bool.and_comm]
  simp
theorem shL_none {L : List Fl} {Y : List (List UInt8)} : shL L Y 0 = L := by
  unfold shL
  rw [List.filter_eq_self]
  simp
theorem show_all {L : List Fl} (h : GoodT L) {d : List UInt8} {X Y : List (List UInt8)} (mX : ∀ x, x ∈ X ↔ inS L true d x) (mY : ∀ x, x ∈ Y ↔ inS (L.filter (fun f => !decide (f.path ∈ X))) false d x) (n : Nat) (hn : Y.length ≤ n) :
    shL (L.filter (fun f => !decide (f.path ∈ X))) Y n = L.filter (fun f => !abvV d f.path) := by
  have hg' : GoodT (L.filter (fun f => !decide (f.path ∈ X))) := h.sub List.filter_sublist
  unfold shL
  rw [List.filter_filter, List.take_of_length_le hn]
  refine filt_congr fun f hf => ?_
  have hpp : ∀ x, pre (pcs x) (pp f) = abvV x f.path := fun x => pre_abv x f.path
  rw [Bool.eq_iff_iff]
  simp only [Bool.and_eq_true, Bool.not_eq_true', decide_eq_false_iff_not]
  constructor
  · rintro ⟨h1, h2⟩
    cases e : abvV d f.path with
    | false => rfl
    | true =>
      exfalso
      have hfm : f ∈ L.filter (fun f => !decide (f.path ∈ X)) := List.mem_filter.2 ⟨hf, by simpa using h2⟩
      have mX0 : ∀ x, x ∈ ([] : List (List UInt8)) ↔ inS (L.filter (fun f => !decide (f.path ∈ X))) true d x := by
        intro x
        constructor
        · intro hx; cases hx
        · rintro ⟨m, y, hs, hy, rfl⟩
          exfalso
          cases y with
          | dir c a o => cases hy
          | file s =>
            obtain ⟨f2, hf2, e2, _⟩ := st_file_inv hs
            obtain ⟨hf3, hf4⟩ := List.mem_filter.1 hf2
            have : f2.path ∈ X := (mX _).2 ⟨m, _, by rw [← e2]; exact st_file h hf3, rfl, by rw [← e2]; exact (join_pcs _).symm⟩
            simp [this] at hf4
      rcases below_split hg' mX0 mY hfm (by rw [hpp]; exact e) with h3 | ⟨y, hy, h3⟩
      · cases h3
      · rw [hpp] at h3
        have := List.any_eq_false.1 h1 y hy
        exact this h3
  · intro h1
    refine ⟨?_, fun h2 => ?_⟩
    · rw [List.any_eq_false]
      intro y hy h3
      obtain ⟨m, z, hs, hz, rfl⟩ := (mY _).1 hy
      have hq := (pcs_of hg' (q := pcs d ++ [m]) (by rw [hs]; rfl)).1
      obtain ⟨r, _, er⟩ := (abvV_iff _ _).1 h3
      rw [hq] at er
      have : abvV d f.path = true := (abvV_iff _ _).2 ⟨m :: r, by simp, by rw [er]; simp⟩
      rw [h1] at this; cases this
    · obtain ⟨m, z, hs, hz, e2⟩ := (mX _).1 h2
      have hq := (pcs_of h (q := pcs d ++ [m]) (by rw [hs]; rfl)).1
      have : abvV d f.path = true := (abvV_iff _ _).2 ⟨[m], by simp, by rw [e2, hq]⟩
      rw [h1] at this; cases this
theorem show_deep {L : List Fl} (h : GoodT L) {d x : List UInt8} (hx : inS L false d x) : okP x = true ∧ dep d < dep x := by
  obtain ⟨h1, _, _, h2⟩ := inS_dir h hx
  refine ⟨h1, ?_⟩
  rw [← dep_eq, ← dep_eq]
  omega
end Go.Proofs.YtbaheiimcnfaaaaGreat

namespace Go.Proofs.YtbaheiimcnfaaaaGreat
open Go.RowKit Go.Maps
attribute [local go_sem] Oper.semAt_some

def ShP (w : World) (F : Nat → Prop) (t : Nat) (L : List Fl) (e : Ending) (w' : World) : Prop := e = .returned (.tuple #[]) ∧ Left w w' F t L 12000
set_option maxRecDepth 100000 in
set_option maxHeartbeats 4000000 in
theorem show_step {d : List UInt8} (hd : d.length ≤ 1000000) (IH : ∀ (x : List UInt8), okP x = true → dep d < dep x → ∀ (w : World) (F : Nat → Prop) (t : Nat) (L : List Fl), TR w F t L 12000 → Szs L → Calls Tryz.prog 59 #[.pointer (some ⟨t, 0, none⟩), .string (bs x)] w (ShP w F t (L.filter (fun f => !abvV x f.path))))
    {w : World} {F : Nat → Prop} {t : Nat} {L : List Fl} (h : TR w F t L 12000) (hz : Szs L) : Calls Tryz.prog 59 #[.pointer (some ⟨t, 0, none⟩), .string (bs d)] w (ShP w F t (L.filter (fun f => !abvV d f.path))) := by
  have HF := hid_of (tfiles_any h d (by omega))
  have HD := hid_of (fun (W : World) (G : Nat → Prop) (M : List Fl) (hW : TR W G t M 12000) => tdirs_any hW d (by omega))
  have HI := hid_of IH
  have H := hid_of (And.intro h hz)
  clear h hz hd IH
  go_enter Tryz.func59, Tryz.ntmps59
  go_wp2_with fail
  refine HF.out.mono ?_
  rintro e w1 ⟨v, X, rfl, ho, hu, hX, hl, hl2, hb⟩
  obtain ⟨ad, c, hv, -⟩ := ho.bs.form
  obtain ⟨n, hn⟩ : ∃ n, X.length = n := ⟨_, rfl⟩
  rw [hn] at hv hl
  subst hv
  have H1 : Hid (Own w.heap.size w1 (.slice ad n c) X ∧ (∀ x, x ∈ X ↔ inS L true d x) ∧ (∀ x ∈ X, x.length ≤ 120) ∧ Below w.heap.size w w1 ∧ X.length = n) := ⟨ho, hX, hl2, hb, hn⟩
  have H1T : Hid (TR w1 F t L 12000) := H.out.1.later hb
  clear ho hX hl2 hb hu hn HF
  go_wp2_with fail
  go_loopw [5, 12] (fun s5 s12 wr => ∃ i : Nat, s12 = .int .i64 i ∧ i ≤ n ∧ Left w1 wr F t (L.filter (fun f => !decide (f.path ∈ X.take i))) 12000) (fun _ s12 _ => n - (intOf s12).toNat)
  case atStart => exact ⟨0, rfl, Nat.zero_le _, by rw [out_none]; exact Left.same H1T.out (Below.refl _ _) (Nat.le_refl _)⟩
  case round =>
    obtain ⟨i, rfl, hi, hlf⟩ := hrel
    have HL := hid_of hlf
    clear hlf
    by_cases hlt : i < n
    · have i1 : (i : Int) < (n : Int) := by omega
      have i2 : (0 : Int) ≤ (i : Int) := by omega
      have hil : i < X.length := by rw [H1.out.2.2.2.2]; exact hlt
      obtain ⟨a', c', e', ca⟩ := (H1.out.1.ak HL.out.ak).bs.form
      injection e' with e1 e2 e3
      subst e1
      subst e3
      clear e2
      obtain ⟨g, off, e4, hg, hcell⟩ := ca i hil
      subst e4
      have HC : Hid (outF X[i] (L.filter (fun f => !decide (f.path ∈ X.take i))) = L.filter (fun f => !decide (f.path ∈ X.take (i + 1))) ∧ X[i].length ≤ 120) := ⟨out_next hil, H1.out.2.2.1 _ (List.getElem_mem hil)⟩
      generalize X[i] = x at hcell HC
      clear ca
      have HDR := hid_of (drop_any HL.out.tr (H.out.2.sub fun f hf => (List.mem_filter.1 hf).1) x (by have := HC.out.2; omega))
      rw [HC.out.1] at HDR
      go_wp2_with fail
      refine HDR.out.mono ?_
      rintro e w2 ⟨rfl, hl2⟩
      have HL2 := hid_of (HL.out.trans hl2 fun i hi => hi)
      clear hl2 hcell
      go_wp2_with fail
      go_roundw
      case rel => exact ⟨i + 1, by go_num, by omega, HL2.out⟩
      case measure => simp [intOf]; omega
    · have hbn' : ¬ ((i : Int) < (n : Int)) := by omega
      have HE : Hid (Left w1 wr F t (L.filter (fun f => !decide (f.path ∈ X))) 12000) := by
        have q := HL.out
        rw [List.take_of_length_le (by rw [H1.out.2.2.2.2]; omega)] at q
        exact q
      have HDD := hid_of (HD.out wr _ _ HE.out.tr)
      clear HL
      go_wp2_with fail
      refine HDD.out.mono ?_
      rintro e w3 ⟨v3, Y, rfl, ho3, hu3, hY, hly, hly2, hb3⟩
      obtain ⟨ad3, c3, hv3, -⟩ := ho3.bs.form
      obtain ⟨m, hm⟩ : ∃ m, Y.length = m := ⟨_, rfl⟩
      rw [hm] at hv3 hly
      subst hv3
      have H3 : Hid (Own wr.heap.size w3 (.slice ad3 m c3) Y ∧ Below wr.heap.size wr w3 ∧ Y.length = m ∧ (∀ x ∈ Y, okP x = true ∧ dep d < dep x) ∧ shL (L.filter (fun f => !decide (f.path ∈ X))) Y m = L.filter (fun f => !abvV d f.path)) := ⟨ho3, hb3, hm, fun x hx => show_deep HE.out.tr.good ((hY x).1 hx), show_all H.out.1.good H1.out.2.1 hY m (by omega)⟩
      have H3T : Hid (Left w1 w3 F t (L.filter (fun f => !decide (f.path ∈ X))) 12000) := HE.out.trans (Left.same HE.out.tr hb3 (Nat.le_refl _)) fun i hi => hi
      clear ho3 hu3 hY hly2 hb3 hm HDD
      go_wp2_with fail
      go_loopw [7, 24] (fun s7 s24 wr => ∃ i : Nat, s24 = .int .i64 i ∧ i ≤ m ∧ AK w3 wr ∧ Left w1 wr F t (shL (L.filter (fun f => !decide (f.path ∈ X))) Y i) 12000) (fun _ s24 _ => m - (intOf s24).toNat)
      case atStart => exact ⟨0, rfl, Nat.zero_le _, AK.refl _, by rw [shL_none]; exact H3T.out⟩
      case round =>
        obtain ⟨i, rfl, hi, hak, hlf⟩ := hrel
        have HL := hid_of (And.intro hak hlf)
        clear hlf hak
        by_cases hlt : i < m
        · have i1 : (i : Int) < (m : Int) := by omega
          have i2 : (0 : Int) ≤ (i : Int) := by omega
          have hil : i < Y.length := by rw [H3.out.2.2.1]; exact hlt
          obtain ⟨a', c', e', ca⟩ := (H3.out.1.ak HL.out.1).bs.form
          injection e' with e1 e2 e3
          subst e1
          subst e3
          clear e2
          obtain ⟨g, off, e4, hg, hcell⟩ := ca i hil
          subst e4
          have HC : Hid ((shL (L.filter (fun f => !decide (f.path ∈ X))) Y i).filter (fun f => !abvV Y[i] f.path) = shL (L.filter (fun f => !decide (f.path ∈ X))) Y (i + 1) ∧ okP Y[i] = true ∧ dep d < dep Y[i]) := ⟨shL_next hil, H3.out.2.2.2.1 _ (List.getElem_mem hil)⟩
          generalize Y[i] = x at hcell HC
          clear ca
          have HDR := hid_of (HI.out x HC.out.2.1 HC.out.2.2 wr _ t _ HL.out.2.tr (H.out.2.sub fun f hf => (List.mem_filter.1 (List.mem_filter.1 hf).1).1))
          rw [HC.out.1] at HDR
          go_wp2_with fail
          refine HDR.out.mono ?_
          rintro e w4 ⟨rfl, hl4⟩
          have HL2 := hid_of (And.intro (HL.out.1.trans hl4.ak) (HL.out.2.trans hl4 fun i hi => hi))
          clear hl4 hcell
          go_wp2_with fail
          go_roundw
          case rel => exact ⟨i + 1, by go_num, by omega, HL2.out.1, HL2.out.2⟩
          case measure => simp [intOf]; omega
        · have hbn2 : ¬ ((i : Int) < (m : Int)) := by omega
          obtain rfl : i = m := by omega
          have HFIN : Hid (Left w wr F t (L.filter (fun f => !abvV d f.path)) 12000) := by
            have q := HL.out.2
            rw [H3.out.2.2.2.2] at q
            exact (Left.same H.out.1 H1.out.2.2.2.1 (Nat.le_refl _)).trans q fun i hi => .inl hi
          go_wp2_with fail
          go_end0
          exact ⟨rfl, HFIN.out⟩
theorem show_any : ∀ (n : Nat) (d : List UInt8), okP d = true → 12 ≤ n + dep d → ∀ (w : World) (F : Nat → Prop) (t : Nat) (L : List Fl), TR w F t L 12000 → Szs L → Calls Tryz.prog 59 #[.pointer (some ⟨t, 0, none⟩), .string (bs d)] w (ShP w F t (L.filter (fun f => !abvV d f.path)))
  | 0, d, hd, hn, w, F, t, L, h, hz => show_step (by have := (okP_len hd).1; omega) (fun x hx hx2 => by have := (okP_len hx).2; omega) h hz
  | n + 1, d, hd, hn, w, F, t, L, h, hz => show_step (by have := (okP_len hd).1; omega) (fun x hx hx2 => show_any n x hx (by omega)) h hz
end Go.Proofs.YtbaheiimcnfaaaaGreat
