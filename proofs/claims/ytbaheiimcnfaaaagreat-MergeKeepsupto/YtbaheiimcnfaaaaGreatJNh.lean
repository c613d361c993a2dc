/-
  What is hidden, in a tree: its size below a directory; what is shown is taken out.
  What is shown is taken out of the tree of what is hidden.
  Candidates in memory.
-/
import Derived.Test.YtbaheiimcnfaaaaGreatJNe
import Derived.Test.YtbaheiimcnfaaaaGreatJTDropW
import Derived.Test.YtbaheiimcnfaaaaGreatTDrop
import Derived.Test.YtbaheiimcnfaaaaGreatJSPkg2
import Derived.Test.YtbaheiimcnfaaaaGreatJKn3
import Derived.Test.YtbaheiimcnfaaaaGreatSr
import Derived.Test.YtbaheiimcnfaaaaGreatCv
namespace Go.Proofs.YtbaheiimcnfaaaaGreat
open Go.RowKit Go.Maps
attribute [local go_sem] Oper.semAt_some

theorem pre_abv (d p : List UInt8) : pre (pcs d) (pcs p) = abvV d p := by
  rw [Bool.eq_iff_iff, pre_iff, abvV_iff]
  constructor
  · rintro ⟨n, r, e⟩
    exact ⟨n :: r, by simp, e⟩
  · rintro ⟨r, hr, e⟩
    cases r with
    | nil => exact absurd rfl hr
    | cons n r => exact ⟨n, r, e⟩
theorem totZ (d : List UInt8) : ∀ {L : List Fl}, (∀ f ∈ L, 0 ≤ f.size) → (tot L (pcs d) : Int) = sumZ (L.filter (fun f => abvV d f.path))
  | [], _ => rfl
  | f :: r, h => by
    have ih := totZ d (L := r) fun x hx => h x (by simp [hx])
    have h0 := h f (by simp)
    have hp : pre (pcs d) (pp f) = abvV d f.path := pre_abv d f.path
    rw [List.filter_cons]
    unfold tot
    rw [hp]
    cases e : abvV d f.path with
    | true =>
      rw [if_pos rfl, if_pos rfl, sumZ_cons, ← ih]
      unfold sz
      omega
    | false =>
      rw [if_neg (by simp), if_neg (by simp), ← ih]
      omega
theorem sizeS_ads {L : List Fl} (hz : ∀ f ∈ L, 0 ≤ f.size) {d : List UInt8} (hd : okP d = true) : sizeS L d = ads L d := by
  have ht := totZ d hz
  unfold sizeS ads cap
  rw [← ht]
  cases e : isD L d with
  | true =>
    rw [if_pos rfl]
    split <;> omega
  | false =>
    rw [if_neg (by simp)]
    have h0 : tot L (pcs d) = 0 := tot_zero (by
      rcases Nat.eq_zero_or_pos (cnt L (pcs d)) with h0 | h0
      · exact h0
      · exfalso
        obtain ⟨f, hf, hp⟩ := cnt_pos.1 h0
        have hp' : abvV d f.path = true := by rw [← pre_abv]; exact hp
        unfold isD at e
        rw [Bool.or_eq_false_iff, hd, Bool.true_and] at e
        have := List.any_eq_false.1 e.2 f hf
        exact this hp')
    rw [h0]
    omega
theorem Left.trans {w w1 w2 : World} {F G : Nat → Prop} {t N : Nat} {L1 L2 : List Fl} (h : Left w w1 F t L1 N) (g : Left w1 w2 G t L2 N) (hG : ∀ i, G i → F i ∨ (w.heap.size ≤ i ∧ i < w1.heap.size)) : Left w w2 F t L2 N := by
  have hs1 := h.op.size
  have hs2 := g.op.size
  refine ⟨g.tr.wider (fun i hi => ?_) (fun i hi => ?_) (Nat.le_refl _), h.ak.trans g.ak, h.op.trans g.op fun i hi hg => ?_⟩
  · rcases hi with hi | hi
    · rcases hG i hi with h1 | h1
      · exact .inl h1
      · exact .inr ⟨h1.1, by omega⟩
    · exact .inr ⟨by omega, hi.2⟩
  · rcases hi with hi | hi
    · have := h.tr.lt i (.inl hi)
      omega
    · exact hi.2
  · rcases hG i hg with h1 | h1
    · exact h1
    · omega
theorem Left.lt {w w1 : World} {F : Nat → Prop} {t N : Nat} {L1 : List Fl} (h : Left w w1 F t L1 N) : w.heap.size ≤ w1.heap.size := h.op.size
theorem Left.below {w w1 : World} {F : Nat → Prop} {t N B : Nat} {L1 : List Fl} (h : Left w w1 F t L1 N) (hB : B ≤ w.heap.size) (hF : ∀ i, F i → B ≤ i) : Below B w w1 := h.op.toBelow hB hF
theorem Szs.sub {L M : List Fl} (h : Szs L) (hs : ∀ f ∈ M, f ∈ L) : Szs M := fun f hf => h f (hs f hf)
/-- what is left when the first i files are dropped -/
theorem out_next {L : List Fl} {X : List (List UInt8)} {i : Nat} (hi : i < X.length) : outF X[i] (L.filter (fun f => !decide (f.path ∈ X.take i))) = L.filter (fun f => !decide (f.path ∈ X.take (i + 1))) := by
  unfold outF
  rw [List.filter_filter]
  refine filt_congr fun f _ => ?_
  rw [List.take_succ_eq_append_getElem hi, Bool.eq_iff_iff]
  simp only [Bool.and_eq_true, Bool.not_eq_true', beq_eq_false_iff_ne, ne_eq, decide_eq_false_iff_not, List.mem_append, List.mem_singleton, not_or]
  exact and_comm
theorem out_none {L : List Fl} {X : List (List UInt8)} : L.filter (fun f => !decide (f.path ∈ X.take 0)) = L := by
  rw [List.filter_eq_self]
  simp
/-- what is left when the first i directories are shown -/
def shL (L : List Fl) (Y : List (List UInt8)) (i : Nat) : List Fl := L.filter (fun f => !(Y.take i).any (fun y => abvV y f.path))
theorem shL_next {L : List Fl} {Y : List (List UInt8)} {i : Nat} (hi : i < Y.length) : (shL L Y i).filter (fun f => !abvV Y[i] f.path) = shL L Y (i + 1) := by
  unfold shL
  rw [List.filter_filter]
  refine filt_congr fun f _ => ?_
  rw [List.take_succ_eq_append_getElem hi, List.any_append, Bool.not_or, Bool.and_comm]
  simp
theorem shL_none {L : List Fl} {Y : List (List UInt8)} : shL L Y 0 = L := by
  unfold shL
  rw [List.filter_eq_self]
  simp
theorem show_all {L : List Fl} (h : GoodT L) {d : List UInt8} {X Y : List (List UInt8)} (mX : ∀ x, x ∈ X ↔ inS L true d x) (mY : ∀ x, x ∈ Y ↔ inS (L.filter (fun f => !decide (f.path ∈ X))) false d x) (n : Nat) (hn : Y.length ≤ n) :
    shL (L.filter (fun f => !decide (f.path ∈ X))) Y n = L.filter (fun f => !abvV d f.path) := by
  have hg' : GoodT (L.filter (fun f => !decide (f.path ∈ X))) := h.sub List.filter_sublist
  unfold shL
  rw [List.filter_filter, List.take_of_length_le hn]
  refine filt_congr fun f hf => ?_
  have hpp : ∀ x, pre (pcs x) (pp f) = abvV x f.path := fun x => pre_abv x f.path
  rw [Bool.eq_iff_iff]
  simp only [Bool.and_eq_true, Bool.not_eq_true', decide_eq_false_iff_not]
  constructor
  · rintro ⟨h1, h2⟩
    cases e : abvV d f.path with
    | false => rfl
    | true =>
      exfalso
      have hfm : f ∈ L.filter (fun f => !decide (f.path ∈ X)) := List.mem_filter.2 ⟨hf, by simpa using h2⟩
      have mX0 : ∀ x, x ∈ ([] : List (List UInt8)) ↔ inS (L.filter (fun f => !decide (f.path ∈ X))) true d x := by
        intro x
        constructor
        · intro hx; cases hx
        · rintro ⟨m, y, hs, hy, rfl⟩
          exfalso
          cases y with
          | dir c a o => cases hy
          | file s =>
            obtain ⟨f2, hf2, e2, _⟩ := st_file_inv hs
            obtain ⟨hf3, hf4⟩ := List.mem_filter.1 hf2
            have : f2.path ∈ X := (mX _).2 ⟨m, _, by rw [← e2]; exact st_file h hf3, rfl, by rw [← e2]; exact (join_pcs _).symm⟩
            simp [this] at hf4
      rcases below_split hg' mX0 mY hfm (by rw [hpp]; exact e) with h3 | ⟨y, hy, h3⟩
      · cases h3
      · rw [hpp] at h3
        have := List.any_eq_false.1 h1 y hy
        exact this h3
  · intro h1
    refine ⟨?_, fun h2 => ?_⟩
    · rw [List.any_eq_false]
      intro y hy h3
      obtain ⟨m, z, hs, hz, rfl⟩ := (mY _).1 hy
      have hq := (pcs_of hg' (q := pcs d ++ [m]) (by rw [hs]; rfl)).1
      obtain ⟨r, _, er⟩ := (abvV_iff _ _).1 h3
      rw [hq] at er
      have : abvV d f.path = true := (abvV_iff _ _).2 ⟨m :: r, by simp, by rw [er]; simp⟩
      rw [h1] at this; cases this
    · obtain ⟨m, z, hs, hz, e2⟩ := (mX _).1 h2
      have hq := (pcs_of h (q := pcs d ++ [m]) (by rw [hs]; rfl)).1
      have : abvV d f.path = true := (abvV_iff _ _).2 ⟨[m], by simp, by rw [e2, hq]⟩
      rw [h1] at this; cases this
theorem show_deep {L : List Fl} (h : GoodT L) {d x : List UInt8} (hx : inS L false d x) : okP x = true ∧ dep d < dep x := by
  obtain ⟨h1, _, _, h2⟩ := inS_dir h hx
  refine ⟨h1, ?_⟩
  rw [← dep_eq, ← dep_eq]
  omega
end Go.Proofs.YtbaheiimcnfaaaaGreat

namespace Go.Proofs.YtbaheiimcnfaaaaGreat
open Go.RowKit Go.Maps
attribute [local go_sem] Oper.semAt_some

def ShP (w : World) (F : Nat → Prop) (t : Nat) (L : List Fl) (e : Ending) (w' : World) : Prop := e = .returned (.tuple #[]) ∧ Left w w' F t L 12000
set_option maxRecDepth 100000 in
set_option maxHeartbeats 4000000 in
theorem show_step {d : List UInt8} (hd : d.length ≤ 1000000) (IH : ∀ (x : List UInt8), okP x = true → dep d < dep x → ∀ (w : World) (F : Nat → Prop) (t : Nat) (L : List Fl), TR w F t L 12000 → Szs L → Calls Tryz.prog 59 #[.pointer (some ⟨t, 0, none⟩), .string (bs x)] w (ShP w F t (L.filter (fun f => !abvV x f.path))))
    {w : World} {F : Nat → Prop} {t : Nat} {L : List Fl} (h : TR w F t L 12000) (hz : Szs L) : Calls Tryz.prog 59 #[.pointer (some ⟨t, 0, none⟩), .string (bs d)] w (ShP w F t (L.filter (fun f => !abvV d f.path))) := by
  have HF := hid_of (tfiles_any h d (by omega))
  have HD := hid_of (fun (W : World) (G : Nat → Prop) (M : List Fl) (hW : TR W G t M 12000) => tdirs_any hW d (by omega))
  have HI := hid_of IH
  have H := hid_of (And.intro h hz)
  clear h hz hd IH
  go_enter Tryz.func59, Tryz.ntmps59
  go_wp2_with fail
  refine HF.out.mono ?_
  rintro e w1 ⟨v, X, rfl, ho, hu, hX, hl, hl2, hb⟩
  obtain ⟨ad, c, hv, -⟩ := ho.bs.form
  obtain ⟨n, hn⟩ : ∃ n, X.length = n := ⟨_, rfl⟩
  rw [hn] at hv hl
  subst hv
  have H1 : Hid (Own w.heap.size w1 (.slice ad n c) X ∧ (∀ x, x ∈ X ↔ inS L true d x) ∧ (∀ x ∈ X, x.length ≤ 120) ∧ Below w.heap.size w w1 ∧ X.length = n) := ⟨ho, hX, hl2, hb, hn⟩
  have H1T : Hid (TR w1 F t L 12000) := H.out.1.later hb
  clear ho hX hl2 hb hu hn HF
  go_wp2_with fail
  go_loopw [5, 12] (fun s5 s12 wr => ∃ i : Nat, s12 = .int .i64 i ∧ i ≤ n ∧ Left w1 wr F t (L.filter (fun f => !decide (f.path ∈ X.take i))) 12000) (fun _ s12 _ => n - (intOf s12).toNat)
  case atStart => exact ⟨0, rfl, Nat.zero_le _, by rw [out_none]; exact Left.same H1T.out (Below.refl _ _) (Nat.le_refl _)⟩
  case round =>
    obtain ⟨i, rfl, hi, hlf⟩ := hrel
    have HL := hid_of hlf
    clear hlf
    by_cases hlt : i < n
    · have i1 : (i : Int) < (n : Int) := by omega
      have i2 : (0 : Int) ≤ (i : Int) := by omega
      have hil : i < X.length := by rw [H1.out.2.2.2.2]; exact hlt
      obtain ⟨a', c', e', ca⟩ := (H1.out.1.ak HL.out.ak).bs.form
      injection e' with e1 e2 e3
      subst e1
      subst e3
      clear e2
      obtain ⟨g, off, e4, hg, hcell⟩ := ca i hil
      subst e4
      have HC : Hid (outF X[i] (L.filter (fun f => !decide (f.path ∈ X.take i))) = L.filter (fun f => !decide (f.path ∈ X.take (i + 1))) ∧ X[i].length ≤ 120) := ⟨out_next hil, H1.out.2.2.1 _ (List.getElem_mem hil)⟩
      generalize X[i] = x at hcell HC
      clear ca
      have HDR := hid_of (drop_any HL.out.tr (H.out.2.sub fun f hf => (List.mem_filter.1 hf).1) x (by have := HC.out.2; omega))
      rw [HC.out.1] at HDR
      go_wp2_with fail
      refine HDR.out.mono ?_
      rintro e w2 ⟨rfl, hl2⟩
      have HL2 := hid_of (HL.out.trans hl2 fun i hi => hi)
      clear hl2 hcell
      go_wp2_with fail
      go_roundw
      case rel => exact ⟨i + 1, by go_num, by omega, HL2.out⟩
      case measure => simp [intOf]; omega
    · have hbn' : ¬ ((i : Int) < (n : Int)) := by omega
      have HE : Hid (Left w1 wr F t (L.filter (fun f => !decide (f.path ∈ X))) 12000) := by
        have q := HL.out
        rw [List.take_of_length_le (by rw [H1.out.2.2.2.2]; omega)] at q
        exact q
      have HDD := hid_of (HD.out wr _ _ HE.out.tr)
      clear HL
      go_wp2_with fail
      refine HDD.out.mono ?_
      rintro e w3 ⟨v3, Y, rfl, ho3, hu3, hY, hly, hly2, hb3⟩
      obtain ⟨ad3, c3, hv3, -⟩ := ho3.bs.form
      obtain ⟨m, hm⟩ : ∃ m, Y.length = m := ⟨_, rfl⟩
      rw [hm] at hv3 hly
      subst hv3
      have H3 : Hid (Own wr.heap.size w3 (.slice ad3 m c3) Y ∧ Below wr.heap.size wr w3 ∧ Y.length = m ∧ (∀ x ∈ Y, okP x = true ∧ dep d < dep x) ∧ shL (L.filter (fun f => !decide (f.path ∈ X))) Y m = L.filter (fun f => !abvV d f.path)) := ⟨ho3, hb3, hm, fun x hx => show_deep HE.out.tr.good ((hY x).1 hx), show_all H.out.1.good H1.out.2.1 hY m (by omega)⟩
      have H3T : Hid (Left w1 w3 F t (L.filter (fun f => !decide (f.path ∈ X))) 12000) := HE.out.trans (Left.same HE.out.tr hb3 (Nat.le_refl _)) fun i hi => hi
      clear ho3 hu3 hY hly2 hb3 hm HDD
      go_wp2_with fail
      go_loopw [7, 24] (fun s7 s24 wr => ∃ i : Nat, s24 = .int .i64 i ∧ i ≤ m ∧ AK w3 wr ∧ Left w1 wr F t (shL (L.filter (fun f => !decide (f.path ∈ X))) Y i) 12000) (fun _ s24 _ => m - (intOf s24).toNat)
      case atStart => exact ⟨0, rfl, Nat.zero_le _, AK.refl _, by rw [shL_none]; exact H3T.out⟩
      case round =>
        obtain ⟨i, rfl, hi, hak, hlf⟩ := hrel
        have HL := hid_of (And.intro hak hlf)
        clear hlf hak
        by_cases hlt : i < m
        · have i1 : (i : Int) < (m : Int) := by omega
          have i2 : (0 : Int) ≤ (i : Int) := by omega
          have hil : i < Y.length := by rw [H3.out.2.2.1]; exact hlt
          obtain ⟨a', c', e', ca⟩ := (H3.out.1.ak HL.out.1).bs.form
          injection e' with e1 e2 e3
          subst e1
          subst e3
          clear e2
          obtain ⟨g, off, e4, hg, hcell⟩ := ca i hil
          subst e4
          have HC : Hid ((shL (L.filter (fun f => !decide (f.path ∈ X))) Y i).filter (fun f => !abvV Y[i] f.path) = shL (L.filter (fun f => !decide (f.path ∈ X))) Y (i + 1) ∧ okP Y[i] = true ∧ dep d < dep Y[i]) := ⟨shL_next hil, H3.out.2.2.2.1 _ (List.getElem_mem hil)⟩
          generalize Y[i] = x at hcell HC
          clear ca
          have HDR := hid_of (HI.out x HC.out.2.1 HC.out.2.2 wr _ t _ HL.out.2.tr (H.out.2.sub fun f hf => (List.mem_filter.1 (List.mem_filter.1 hf).1).1))
          rw [HC.out.1] at HDR
          go_wp2_with fail
          refine HDR.out.mono ?_
          rintro e w4 ⟨rfl, hl4⟩
          have HL2 := hid_of (And.intro (HL.out.1.trans hl4.ak) (HL.out.2.trans hl4 fun i hi => hi))
          clear hl4 hcell
          go_wp2_with fail
          go_roundw
          case rel => exact ⟨i + 1, by go_num, by omega, HL2.out.1, HL2.out.2⟩
          case measure => simp [intOf]; omega
        · have hbn2 : ¬ ((i : Int) < (m : Int)) := by omega
          obtain rfl : i = m := by omega
          have HFIN : Hid (Left w wr F t (L.filter (fun f => !abvV d f.path)) 12000) := by
            have q := HL.out.2
            rw [H3.out.2.2.2.2] at q
            exact (Left.same H.out.1 H1.out.2.2.2.1 (Nat.le_refl _)).trans q fun i hi => .inl hi
          go_wp2_with fail
          go_end0
          exact ⟨rfl, HFIN.out⟩
theorem show_any : ∀ (n : Nat) (d : List UInt8), okP d = true → 12 ≤ n + dep d → ∀ (w : World) (F : Nat → Prop) (t : Nat) (L : List Fl), TR w F t L 12000 → Szs L → Calls Tryz.prog 59 #[.pointer (some ⟨t, 0, none⟩), .string (bs d)] w (ShP w F t (L.filter (fun f => !abvV d f.path)))
  | 0, d, hd, hn, w, F, t, L, h, hz => show_step (by have := (okP_len hd).1; omega) (fun x hx hx2 => by have := (okP_len hx).2; omega) h hz
  | n + 1, d, hd, hn, w, F, t, L, h, hz => show_step (by have := (okP_len hd).1; omega) (fun x hx hx2 => show_any n x hx (by omega)) h hz
end Go.Proofs.YtbaheiimcnfaaaaGreat

namespace Go.Proofs.YtbaheiimcnfaaaaGreat
open Go.RowKit Go.Maps
attribute [local go_sem] Oper.semAt_some

/-- a candidate: its directory, its depth, what it adds -/
structure Cnd where
  p : List UInt8
  d : Int
  a : Int
def Cnd.val (c : Cnd) : Value := .agg #[.string (bs c.p), .int .i64 c.d, .int .i64 c.a]
def cc : List Cnd → List Value
  | [] => []
  | c :: r => .string (bs c.p) :: .int .i64 c.d :: .int .i64 c.a :: cc r
theorem cc_length : ∀ l, (cc l).length = l.length * 3
  | [] => rfl
  | f :: r => by simp only [cc, List.length_cons, cc_length r]; omega
theorem cc_append : ∀ a b, cc (a ++ b) = cc a ++ cc b
  | [], b => rfl
  | f :: r, b => by simp [cc, cc_append r b]
theorem cc_one : ∀ (l : List Cnd), ∀ u ∈ cc l, u.oneCell' = true
  | [], u, h => by simp [cc] at h
  | f :: r, u, h => by
    simp only [cc, List.mem_cons] at h
    rcases h with rfl | rfl | rfl | h
    · rfl
    · rfl
    · rfl
    · exact cc_one r u h
theorem cc_get : ∀ (l : List Cnd) (k : Nat) (h : k < l.length), (cc l)[k * 3]? = some (.string (bs l[k].p)) ∧ (cc l)[k * 3 + 1]? = some (.int .i64 l[k].d) ∧ (cc l)[k * 3 + 2]? = some (.int .i64 l[k].a)
  | f :: r, 0, _ => ⟨rfl, rfl, rfl⟩
  | f :: r, k + 1, h => by
    have ih := cc_get r k (by simpa using h)
    rw [show (k + 1) * 3 = k * 3 + 3 by omega]
    simp only [cc, List.getElem_cons_succ]
    exact ih
theorem cc_take (l : List Cnd) (k : Nat) (h : k ≤ l.length) (r : List Value) : (cc l ++ r).take (k * 3) = cc (l.take k) := by
  have e : cc l = cc (l.take k) ++ cc (l.drop k) := by rw [← cc_append, List.take_append_drop]
  have hl : (cc (l.take k)).length = k * 3 := by rw [cc_length, List.length_take]; omega
  rw [e, List.append_assoc, List.take_left' hl]
theorem cc_drop (l : List Cnd) (k : Nat) (h : k ≤ l.length) (r : List Value) : (cc l ++ r).drop (k * 3) = cc (l.drop k) ++ r := by
  have e : cc l = cc (l.take k) ++ cc (l.drop k) := by rw [← cc_append, List.take_append_drop]
  have hl : (cc (l.take k)).length = k * 3 := by rw [cc_length, List.length_take]; omega
  rw [e, List.append_assoc, List.drop_left' hl]
def OwnC (base : Nat) (w : World) (v : Value) (l : List Cnd) : Prop := w.ownsRow base 87 3 v l.length (cc l)
theorem OwnC.nil (base : Nat) (w : World) : OwnC base w (.slice none 0 0) [] := World.ownsRow_nil w base 87 3
theorem OwnC.lt {base : Nat} {w : World} {v : Value} {l : List Cnd} (h : OwnC base w v l) {k : Nat} (hk : v.ownBlock = some k) : base ≤ k ∧ k < w.heap.size := World.ownsRow.lt h k hk
theorem OwnC.only {S : List Nat} {base : Nat} {w w' : World} {v : Value} {l : List Cnd} (h : OwnC base w v l) (ho : Only S w w') (hn : ∀ k, v.ownBlock = some k → k ∉ S) : OwnC base w' v l := by
  rcases h with ⟨h0, h | ⟨g, cap, cur, rfl, hb, hg, hr⟩⟩
  · exact ⟨h0, .inl h⟩
  · exact ⟨h0, .inr ⟨g, cap, cur, rfl, hb, (ho.block g (Array.getElem?_eq_some_iff.1 hg).1 (hn g rfl)).trans hg, hr⟩⟩
theorem OwnC.later {base : Nat} {w w' : World} {v : Value} {l : List Cnd} (h : OwnC base w v l) (hb : Below w.heap.size w w') : OwnC base w' v l :=
  h.only (Only.of_below hb []) (by simp)
theorem RW.ofC {base : Nat} {w : World} {v : Value} {l : List Cnd} (h : OwnC base w v l) (hl : l ≠ []) : ∃ g cap rest, v = .slice (some ⟨g, 0, none⟩) l.length cap ∧ RW 87 3 base w g cap (cc l) rest := by
  rcases h.2 with ⟨rfl, h0⟩ | ⟨g, cap, cur, rfl, hb, hg, hn, hm, hs, ht⟩
  · exact absurd (List.eq_nil_of_length_eq_zero h0) hl
  · refine ⟨g, cap, cur.toList.drop (l.length * 3), rfl, ?_, hb, hm, by simp [cc_length]; omega⟩
    rw [← ht, List.take_append_drop]; simpa using hg
theorem RW.ownC {base : Nat} {w : World} {g cap : Nat} {l : List Cnd} {rest : List Value} (h : RW 87 3 base w g cap (cc l) rest) : OwnC base w (.slice (some ⟨g, 0, none⟩) l.length cap) l := by
  have hs := h.sz
  rw [cc_length] at hs
  exact ⟨cc_length l, .inr ⟨g, cap, _, rfl, h.ge, h.blk, by omega, h.cm, by simp [cc_length]; exact hs, by rw [← cc_length]; simp⟩⟩
theorem RW.cellC {base : Nat} {w : World} {g cap : Nat} {l : List Cnd} {rest : List Value} (h : RW 87 3 base w g cap (cc l) rest) {j : Nat} (hj : j < l.length) :
    w.cell? ⟨g, j * 3, none⟩ = some (.string (bs l[j].p)) ∧ w.cell? ⟨g, j * 3 + 1, none⟩ = some (.int .i64 l[j].d) ∧ w.cell? ⟨g, j * 3 + 2, none⟩ = some (.int .i64 l[j].a) := by
  obtain ⟨h0, h1, h2⟩ := cc_get l j hj
  have hl := cc_length l
  refine ⟨h.cell ?_, h.cell ?_, h.cell ?_⟩
  · rw [List.getElem?_append_left (by omega)]; exact h0
  · rw [List.getElem?_append_left (by omega)]; exact h1
  · rw [List.getElem?_append_left (by omega)]; exact h2
theorem OwnC.form {base : Nat} {w : World} {v : Value} {l : List Cnd} (h : OwnC base w v l) : ∃ a c, v = .slice a l.length c := by
  rcases h.2 with ⟨rfl, h0⟩ | ⟨g, cap, cur, rfl, _⟩
  · exact ⟨_, _, by rw [h0]⟩
  · exact ⟨_, _, rfl⟩
theorem und65 : Tryz.prog.underlying 65 = some (.slice 87) := by kernel_rfl
theorem info87 : (Tryz.prog.info? 87).map (fun i => (i.zero, i.size, i.bytes)) = some (some (.agg #[.string ⟨#[]⟩, .int .i64 0, .int .i64 0]), 3, 32) := by kernel_rfl
theorem el65 : Tryz.prog.elem 65 = 87 := by kernel_rfl
theorem el65' : Tryz.prog.underlying 65 = some (.slice (Tryz.prog.elem 65)) := by kernel_rfl
theorem zero87 : ∀ w, (zeroValue 87).run Tryz.prog w = .ok (.agg #[.string ⟨#[]⟩, .int .i64 0, .int .i64 0]) w := fun w => by kernel_rfl
set_option maxRecDepth 100000 in
theorem against_any (c : Cnd) (p : List UInt8) (w : World) (hc : c.p.length ≤ 1000000000) (hp : p.length ≤ 1000000000) : Calls Tryz.prog 97 #[c.val, .string (bs p)] w fun e w' => e = .returned (.int .i64 (cf c.p p)) ∧ Below w.heap.size w w' := by
  obtain ⟨x, d, a⟩ := c
  unfold Cnd.val
  simp only at hc ⊢
  have HC := hid_of (fun W => cmp_any x p W (by omega) (by omega))
  clear hc hp
  go_enter Tryz.func97, Tryz.ntmps97
  go_wp2_with fail
  refine (HC.out _).mono ?_
  rintro e w1 ⟨rfl, hl⟩
  have H1 := hid_of (bstep (balloc w _) hl.below)
  clear hl
  go_wp2_with fail
  go_ret
  exact ⟨rfl, H1.out⟩
def CsP (w : World) (l : List Cnd) (f : List UInt8) (e : Ending) (w' : World) : Prop := ∃ (a : Nat) (fb : Bool), e = .returned (.tuple #[.int .i64 a, .bool fb]) ∧ ((∃ ha : a < l.length, fb = true ∧ (l[a]'ha).p = f) ∨ (fb = false ∧ ∀ c ∈ l, c.p ≠ f)) ∧ Below w.heap.size w w'
set_option maxRecDepth 100000 in
set_option maxHeartbeats 4000000 in
theorem csearch_any {base : Nat} {w : World} {v : Value} {l : List Cnd} (f : List UInt8) (h : OwnC base w v l) (up : l.Pairwise fun a b => cf a.p b.p < 0) (hl : l.length ≤ 4000000) (hs : ∀ c ∈ l, c.p.length ≤ 1000000000) (hf : f.length ≤ 1000000000) :
    Calls Tryz.prog 96 #[v, .string (bs f), .func (.func 97) #[] #[]] w (CsP w l f) := by
  have HU := hid_of up
  have HC := hid_of (fun c (hc : c ∈ l) (W : World) => against_any c f W (hs c hc) hf)
  have HA : Hid (∀ {W : World}, Below w.heap.size w W → ∀ k, (hk : k < l.length) → ∃ ad c b, v = .slice (some ad) l.length c ∧ ad = ⟨b, 0, none⟩ ∧ W.cell? ⟨b, k * 3, none⟩ = some (.string (bs l[k].p)) ∧ W.cell? ⟨b, k * 3 + 1, none⟩ = some (.int .i64 l[k].d) ∧ W.cell? ⟨b, k * 3 + 2, none⟩ = some (.int .i64 l[k].a)) := fun {W} hW k hk => by
    obtain ⟨g, cap, rest, e, hr⟩ := RW.ofC (h.later hW) (fun e0 => by subst e0; simp at hk)
    exact ⟨_, cap, g, e, rfl, hr.cellC hk⟩
  obtain ⟨ad, c, hv⟩ := h.form
  obtain ⟨n, hn⟩ : ∃ n, l.length = n := ⟨_, rfl⟩
  rw [hn] at hv hl
  have HN : Hid (l.length = n) := hn
  subst hv
  clear h up hs hf hn
  go_enter Tryz.func96, Tryz.ntmps96
  go_wp2_with fail
  go_loopw [9, 10] (fun s9 s10 wr => ∃ (a e : Nat), s9 = .int .i64 a ∧ s10 = .int .i64 e ∧ a ≤ e ∧ e ≤ n ∧ (∀ t (h : t < l.length), t < a → cf (l[t]'h).p f < 0) ∧ (∀ t (h : t < l.length), e ≤ t → 0 ≤ cf (l[t]'h).p f) ∧ Below w.heap.size w wr) (fun s9 s10 _ => (intOf s10).toNat - (intOf s9).toNat)
  case atStart => exact ⟨0, n, rfl, rfl, by omega, Nat.le_refl _, fun t h h' => by omega, fun t h h' => by have := HN.out; omega, Below.refl _ _⟩
  case round =>
    obtain ⟨a, e, rfl, rfl, hae, hen, h1, h2, hb⟩ := hrel
    have HX : Hid ((∀ t (h : t < l.length), t < a → cf (l[t]'h).p f < 0) ∧ (∀ t (h : t < l.length), e ≤ t → 0 ≤ cf (l[t]'h).p f)) := ⟨h1, h2⟩
    have HB : Hid (Below w.heap.size w wr) := hb
    clear h1 h2 hb
    by_cases hlt : a < e
    · have k0 : IntKind.i64.wrap ((a : Int) + (e : Int)) = (a : Int) + (e : Int) := by rw [IntKind.wrap_i64]; omega
      obtain ⟨m, hm⟩ : ∃ m : Nat, ((a : Int) + (e : Int)) / 2 = (m : Int) := ⟨(a + e) / 2, by omega⟩
      have hm1 : a ≤ m := by omega
      have hm2 : m < e := by omega
      have k1 : (0 : Int) ≤ (m : Int) := by omega
      have k2 : (m : Int) < (n : Int) := by omega
      have k3 : m < n := by omega
      have hml : m < l.length := by have := HN.out; omega
      obtain ⟨ad', c', b, e1, e2, d0, d1, d2⟩ := HA.out HB.out m hml
      injection e1 with e3 e5 e4
      subst e3
      subst e4
      subst e2
      clear e5
      obtain ⟨o, ho⟩ : ∃ o, cf (l[m]'hml).p f = o := ⟨_, rfl⟩
      have HO : Hid (cf (l[m]'hml).p f = o) := ho
      have HCm := hid_of (HC.out _ (List.getElem_mem hml) wr)
      rw [ho] at HCm
      clear ho
      generalize l[m] = x at d0 d1 d2 HCm
      obtain ⟨xp, xd, xa⟩ := x
      unfold Cnd.val at HCm
      simp only at d0 d1 d2 HCm
      go_wp2_with fail
      refine HCm.out.mono ?_
      rintro e w2 ⟨rfl, bx⟩
      have HB5 : Hid (Below w.heap.size w w2) := bstep HB.out bx
      clear bx d0 d1 d2
      by_cases hoo : o < 0
      · have HOO : Hid (o < 0) := hoo
        go_wp2_with fail
        go_roundw
        case rel =>
          refine ⟨m + 1, e, by go_num, rfl, by omega, hen, fun t h h' => ?_, fun t h h' => by have := HX.out.2 t h h'; omega, HB5.out⟩
          rcases Nat.lt_or_eq_of_le (show t ≤ m by omega) with h3 | rfl
          · have := List.pairwise_iff_getElem.1 HU.out t m h hml h3
            exact cf_trans this (by rw [HO.out]; exact HOO.out)
          · rw [HO.out]; exact HOO.out
        case measure => simp [intOf]; omega
      · have HOO : Hid (0 ≤ o) := by show 0 ≤ o; omega
        go_wp2_with fail
        go_roundw
        case rel =>
          refine ⟨a, m, rfl, rfl, hm1, by omega, HX.out.1, fun t h h' => ?_, HB5.out⟩
          rcases Nat.lt_or_eq_of_le h' with h3 | rfl
          · have := List.pairwise_iff_getElem.1 HU.out m t hml h h3
            rcases Int.lt_or_le (cf l[t].p f) 0 with h4 | h4
            · have h5 := cf_trans this h4
              have h6 := HOO.out
              rw [HO.out] at h5
              omega
            · exact h4
          · rw [HO.out]; exact HOO.out
        case measure => simp [intOf]; omega
    · obtain rfl : a = e := by omega
      by_cases han : a < n
      · have k1 : (0 : Int) ≤ (a : Int) := by omega
        have k2 : (a : Int) < (n : Int) := by omega
        have hml : a < l.length := by have := HN.out; omega
        obtain ⟨ad', c', b, e1, e2, d0, d1, d2⟩ := HA.out HB.out a hml
        injection e1 with e3 e5 e4
        subst e3
        subst e4
        subst e2
        clear e5
        obtain ⟨o, ho⟩ : ∃ o, cf (l[a]'hml).p f = o := ⟨_, rfl⟩
        have HO : Hid (cf (l[a]'hml).p f = o) := ho
        have HCm := hid_of (HC.out _ (List.getElem_mem hml) wr)
        rw [ho] at HCm
        clear ho
        have HP : Hid (o ≠ 0 → ∀ c ∈ l, c.p ≠ f) := fun h0 c hc e => by
          obtain ⟨t, ht, rfl⟩ := List.mem_iff_getElem.1 hc
          have hz : cf l[t].p f = 0 := cf_zero.2 e
          rcases Nat.lt_trichotomy t a with h3 | rfl | h3
          · have := HX.out.1 t ht h3; omega
          · exact h0 (by rw [← HO.out]; exact hz)
          · have h4 := List.pairwise_iff_getElem.1 HU.out a t hml ht h3
            have h5 := HX.out.2 a hml (Nat.le_refl _)
            rw [e] at h4
            omega
        generalize hgx : l[a] = x at d0 d1 d2 HCm
        have HGX := hid_of hgx
        clear hgx
        obtain ⟨xp, xd, xa⟩ := x
        unfold Cnd.val at HCm
        simp only at d0 d1 d2 HCm
        go_wp2_with fail
        refine HCm.out.mono ?_
        rintro e w2 ⟨rfl, bx⟩
        have HB5 : Hid (Below w.heap.size w w2) := bstep HB.out bx
        clear bx d0 d1 d2
        by_cases h0 : o = 0
        · subst h0
          go_wp2_with fail
          go_ret2
          exact ⟨a, true, rfl, .inl ⟨hml, rfl, cf_zero.1 HO.out⟩, HB5.out⟩
        · have HP2 := hid_of (HP.out h0)
          have hq0 : (o == 0) = false := beq_false_of_ne h0
          go_wp2_with fail
          go_ret2
          exact ⟨a, false, rfl, .inr ⟨rfl, HP2.out⟩, HB5.out⟩
      · have k2 : ¬ ((a : Int) < (n : Int)) := by omega
        have HP2 : Hid (∀ c ∈ l, c.p ≠ f) := fun c hc e => by
          obtain ⟨t, ht, rfl⟩ := List.mem_iff_getElem.1 hc
          have hz : cf l[t].p f = 0 := cf_zero.2 e
          have := HX.out.1 t ht (by have := HN.out; omega)
          omega
        go_wp2_with fail
        go_ret2
        exact ⟨a, false, rfl, .inr ⟨rfl, HP2.out⟩, HB.out⟩
end Go.Proofs.YtbaheiimcnfaaaaGreat
