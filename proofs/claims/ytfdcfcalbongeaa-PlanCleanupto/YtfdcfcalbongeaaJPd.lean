/-
  A plan, plain: what stands in its way; there and back.
  The document's Dirs.
-/
import Derived.Test.YtfdcfcalbongeaaPl1
import Derived.Test.YtfdcfcalbongeaaJFd
import Derived.Test.YtfdcfcalbongeaaPn
namespace Go.Proofs.Ytfdcfcalbongeaa

def sameO : Option Fl → Option Fl → Bool
  | none, none => true
  | some f, some g => f.path == g.path && f.text == g.text && f.blob == g.blob && f.size == g.size
  | _, _ => false
theorem sameO_iff {a b : Option Fl} : sameO a b = true ↔ a = b := by
  cases a with
  | none => cases b <;> simp [sameO]
  | some f =>
    cases b with
    | none => simp [sameO]
    | some g =>
      cases f
      cases g
      simp [sameO, and_assoc]
/-- changed by hand -/
def chg (files old : List Fl) (p : List UInt8) : Bool := !sameO (fnd files p) (fnd old p)
/-- in the way of a step -/
def stn1 (s : Sp) (p : List UInt8) : Bool := ((s.kind == 1 || s.kind == 4) && (s.p == p || abvV p s.p || abvV s.p p)) || (s.kind == 2 && (s.p == p || abvV s.p p))
def stn (S : List Sp) (p : List UInt8) : Bool := S.any fun s => stn1 s p
/-- the paths that were changed by hand and are in the way -/
def drt (files old now : List Fl) : List (List UInt8) := (norm (files.map Fl.path ++ old.map Fl.path)).filter fun p => chg files old p && stn (mkS old now) p
def mkE (old now : List Fl) : Int := if validE old = 0 then validE now else validE old
theorem chg_self (l : List Fl) (p : List UInt8) : chg l l p = false := by
  unfold chg
  rw [sameO_iff.2 rfl]
  rfl
theorem drt_self (old now : List Fl) : drt old old now = [] := by
  unfold drt
  exact List.filter_eq_nil_iff.2 fun p _ => by simp [chg_self]
theorem up_drt (files old now : List Fl) : Up (drt files old now) := up_filter (up_norm _) _
theorem mem_drt {files old now : List Fl} {p : List UInt8} : p ∈ drt files old now ↔ p ∈ files.map Fl.path ++ old.map Fl.path ∧ chg files old p = true ∧ stn (mkS old now) p = true := by
  unfold drt
  rw [List.mem_filter, mem_norm, Bool.and_eq_true]
/-- of valid files the first one of a path is the one -/
theorem fnd_iff {l : List Fl} (h : FUp l) {f : Fl} {p : List UInt8} : fnd l p = some f ↔ f ∈ l ∧ f.path = p := by
  unfold fnd
  constructor
  · intro e
    exact ⟨List.mem_of_find?_eq_some e, by simpa using List.find?_some e⟩
  · rintro ⟨hm, rfl⟩
    cases e : l.find? fun g => decide (g.path = f.path) with
    | none =>
      have := List.find?_eq_none.1 e f hm
      simp at this
    | some g =>
      have h1 := List.mem_of_find?_eq_some e
      have h2 : g.path = f.path := by simpa using List.find?_some e
      rw [fl_path h h1 hm h2]
theorem fnd_none {l : List Fl} {p : List UInt8} : fnd l p = none ↔ hasF l p = false := by
  unfold fnd hasF
  rw [List.find?_eq_none, ← Bool.not_eq_true, List.any_eq_true]
  constructor
  · rintro h ⟨f, hf, e⟩
    exact h f hf (by simpa using e)
  · intro h f hf e
    exact h ⟨f, hf, by simpa using e⟩
/-- there and back -/
theorem plays_back {old now : List Fl} (ho : validE old = 0) (hn : validE now = 0) :
    let T := newT old
    plT T (mkS old now) = ({ T with fs := now, ds := nds now, st := (mkS old now).length }, 0) ∧
    plT { T with fs := now, ds := nds now, st := (mkS old now).length } (mkS now old) = ({ T with st := (mkS old now).length + (mkS now old).length }, 0) := by
  intro T
  refine ⟨?_, ?_⟩
  · rw [plays ho hn (T := T) rfl rfl rfl]
    simp [T, newT]
  · rw [plays hn ho (T := { T with fs := now, ds := nds now, st := (mkS old now).length }) rfl rfl rfl]
    simp [T, newT]
/-- steps of a kind that there is not -/
theorem plO_no {T : TT} {s : Sp} (h : s.kind < 1 ∨ 4 < s.kind) : plO T s = (T, 16) := by
  unfold plO
  rw [if_neg (by omega), if_neg (by omega), if_neg (by omega), if_neg (by omega)]
/-- a directory, a step that there is not, a directory -/
theorem plays_odd {T : TT} (h0 : T.sp = 0) (a b c : List UInt8) (hac : c ≠ a) : ∃ T', plT T [sMk a, ⟨0, b, zfP⟩, sMk c] = (T', 16) ∧ T'.fs = T.fs ∧ (c ∈ T'.ds ↔ c ∈ T.ds) ∧ plT T [⟨9, [], zfP⟩] = (T, 16) := by
  have h9 : plT T [⟨9, [], zfP⟩] = (T, 16) := plT_err (plO_no (.inr (by decide))) (by decide)
  have hm : plO T (sMk a) = T.mk' a := by
    unfold plO sMk
    rw [if_neg (show ¬ ((3 : Int) = 1) by decide), if_neg (show ¬ ((3 : Int) = 2) by decide), if_pos rfl]
  cases e : mkB T a with
  | false =>
    rw [mk_no h0 e] at hm
    exact ⟨_, plT_err hm (by decide), rfl, Iff.rfl, h9⟩
  | true =>
    have e1 : T.mk' a = ({ T.up 1 with ds := ins a T.ds }, 0) := by
      rw [mk_free h0]
      unfold mkG
      rw [if_pos (show mkB (T.up 1) a = true from e)]
      rfl
    rw [e1] at hm
    refine ⟨_, (plT_ok hm).trans (plT_err (plO_no (.inl (show (0 : Int) < 1 by decide))) (by decide)), rfl, ?_, h9⟩
    show c ∈ ins a T.ds ↔ _
    rw [mem_ins]
    exact ⟨fun h => h.resolve_left hac, .inr⟩
end Go.Proofs.Ytfdcfcalbongeaa

namespace Go.Proofs.Ytfdcfcalbongeaa
open Go.RowKit

theorem ups_len : ∀ (n : Nat) (p : List UInt8), (ups n p).length ≤ n
  | 0, _ => by simp [ups]
  | n + 1, p => by
    unfold ups
    split
    · simp
    · simpa using ups_len n (dir p)
theorem upl_len (p : List UInt8) : (upl p).length ≤ p.length := ups_len _ _
theorem dir_le (p : List UInt8) : (dir p).length ≤ p.length := by
  by_cases h : p = []
  · subst h; decide
  · exact Nat.le_of_lt (dir_lt h)
theorem ups_mem_len : ∀ (n : Nat) (p x : List UInt8), x ∈ ups n p → x.length ≤ p.length
  | 0, _, x, h => by simp [ups] at h
  | n + 1, p, x, h => by
    unfold ups at h
    split at h
    · cases h
    · rcases List.mem_cons.1 h with rfl | h
      · exact Nat.le_refl _
      · exact Nat.le_trans (ups_mem_len n (dir p) x h) (dir_le p)
/-- what Dirs gathers -/
def gth (l : List Fl) : List (List UInt8) := l.flatMap (fun f => upl (dir f.path))
theorem gth_sm {l : List Fl} (h5 : l.length ≤ 512) (hp : ∀ f ∈ l, f.path.length ≤ 120) : Sm (gth l) := by
  refine ⟨?_, fun x hx => ?_⟩
  · have : ∀ k : List Fl, (∀ f ∈ k, f.path.length ≤ 120) → (gth k).length ≤ k.length * 120
      := fun k => by
        induction k with
        | nil => intro _; simp [gth]
        | cons f k ih =>
          intro h
          have h1 := ih (fun g hg => h g (by simp [hg]))
          have h2 := upl_len (dir f.path)
          have h3 := dir_le f.path
          have h4 := h f (by simp)
          show (upl (dir f.path) ++ gth k).length ≤ _
          rw [List.length_append, List.length_cons]
          omega
    have := this l hp
    omega
  · obtain ⟨f, hf, hx⟩ := List.mem_flatMap.1 hx
    have h1 := ups_mem_len _ _ _ hx
    have h2 := dir_le f.path
    have h3 := hp f hf
    omega
theorem gth_snoc (l : List Fl) (k : Nat) (hk : k < l.length) : gth (l.take (k + 1)) = gth (l.take k) ++ upl (dir l[k].path) := by
  unfold gth
  rw [List.take_succ_eq_append_getElem hk, List.flatMap_append]
  simp
set_option maxHeartbeats 4000000 in
set_option maxRecDepth 100000 in
theorem rdirs_any {w : World} {v : Value} {l : List Fl} (h : FS w v l) (h5 : l.length ≤ 512) (hp : ∀ f ∈ l, f.path.length ≤ 120) :
    Calls Try.prog 35 #[v] w fun e w' => ∃ v', e = .returned v' ∧ Own w.heap.size w' v' (nds l) ∧ Below w.heap.size w w' := by
  have H : Hid (FS w v l) := h
  obtain ⟨a, c, rfl, _⟩ := h.form
  rename_i hform
  clear h hform
  obtain ⟨n, hn⟩ : ∃ n, l.length = n := ⟨_, rfl⟩
  have H' : Hid (FS w (.slice a l.length c) l) := H.out
  have HP : Hid (∀ f ∈ l, f.path.length ≤ 120) := hp
  have HG : Hid (Sm (gth l)) := gth_sm h5 hp
  have HGk : Hid (∀ k, (gth (l.take k)).length ≤ 100000) := fun k => by
    have h1 := gth_sm (l := l.take k) (by rw [List.length_take]; omega) (fun f hf => hp f (List.mem_of_mem_take hf))
    have : ∀ k : List Fl, (∀ f ∈ k, f.path.length ≤ 120) → (gth k).length ≤ k.length * 120 := fun k => by
      induction k with
      | nil => intro _; simp [gth]
      | cons f k ih =>
        intro h
        have h1 := ih (fun g hg => h g (by simp [hg]))
        have h2 := upl_len (dir f.path)
        have h3 := dir_le f.path
        have h4 := h f (by simp)
        show (upl (dir f.path) ++ gth k).length ≤ _
        rw [List.length_append, List.length_cons]
        omega
    have h2 := this (l.take k) (fun f hf => hp f (List.mem_of_mem_take hf))
    rw [List.length_take] at h2
    omega
  clear H hp
  rw [hn] at h5 ⊢
  have HN : Hid (l.length = n) := hn
  clear hn
  obtain ⟨G, hG⟩ : ∃ G, w.heap.size = G := ⟨_, rfl⟩
  go_enter Try.func35, Try.ntmps35
  go_wp2_with fail
  go_loopw [3, 4] (fun o i wr => ∃ k : Nat, k ≤ n ∧ i = .int .i64 k ∧ Own G wr o (gth (l.take k)) ∧ Below G w wr) (fun _ i _ => n - (intOf i).toNat)
  case atStart => exact ⟨0, Nat.zero_le _, rfl, Own.nil _ _, Below.refl _ _⟩
  case round =>
    obtain ⟨k, hk, rfl, ho, hbw⟩ := hrel
    have HB : Hid (Below G w wr ∧ Own G wr u3 (gth (l.take k))) := ⟨hbw, ho⟩
    have hzo : G ≤ wr.heap.size := by have := hbw.size; omega
    clear hbw ho
    by_cases hlt : k < n
    · have hkl : k < l.length := by have := HN.out; omega
      obtain ⟨b, off, ea, hbw, d0, -, -, -⟩ := FS.at H'.out (by rw [hG]; exact HB.out.1) hkl
      subst ea
      have hsn := gth_snoc l k hkl
      have hpl := HP.out l[k] (List.getElem_mem _)
      obtain ⟨p, hpp⟩ : ∃ p, l[k].path = p := ⟨_, rfl⟩
      rw [hpp] at d0 hsn hpl
      have HSN : Hid (gth (l.take (k + 1)) = gth (l.take k) ++ upl (dir p)) := hsn
      have hpd := dir_le p
      have HD : Hid (∀ W, Calls Try.prog 53 #[.string (bs p)] W fun e w' => e = .returned (.string (bs (dir p))) ∧ w' = W) := fun W => rdir_any p W (by omega)
      have k1 : (0 : Int) ≤ (k : Int) := by omega
      have k2 : (k : Int) < (n : Int) := by omega
      clear hpp hsn
      obtain ⟨X0, hX0⟩ : ∃ X, gth (l.take k) = X := ⟨_, rfl⟩
      rw [hX0] at HB HSN
      have HX0 : Hid (X0.length ≤ 100000) := by have := HGk.out k; rw [hX0] at this; exact this
      clear hX0
      obtain ⟨wo, hwo⟩ : ∃ wo, wo = wr := ⟨_, rfl⟩
      subst hwo
      go_wp2_with fail
      refine (HD.out _).mono ?_
      rintro e w1 ⟨rfl, rfl⟩
      go_wp2_with fail
      go_loopw [3, 5] (fun o d wr => ∃ (x : List UInt8) (X : List (List UInt8)), d = .string (bs x) ∧ x.length ≤ 120 ∧ X ++ upl x = X0 ++ upl (dir p) ∧ X.length + x.length ≤ 100120 ∧ Own G wr o X ∧ Below G w wr) (fun _ d _ => match d with | .string s => s.size | _ => 0)
      case atStart => exact ⟨dir p, X0, rfl, by omega, rfl, by have := HX0.out; omega, HB.out.2, HB.out.1⟩
      case round =>
        obtain ⟨x, X, rfl, hx, hX, hXl, ho, hbw⟩ := hrel
        have HO : Hid (Own G wr u3 X ∧ Below G w wr) := ⟨ho, hbw⟩
        have HX : Hid (X ++ upl x = X0 ++ upl (dir p)) := hX
        have hz : G ≤ wr.heap.size := by have := hbw.size; omega
        have hxt := bs_toList x
        clear ho hbw hX
        by_cases hx0 : x = []
        · have HX2 : Hid (gth (l.take (k + 1)) = X) := by
            show _ = _
            rw [HSN.out, ← HX.out, hx0, upl_nil, List.append_nil]
          subst hx0
          go_wp2_with fail
          refine ⟨⟨k + 1, by omega, by go_num, by rw [HX2.out]; exact HO.out.1, HO.out.2⟩, ?_⟩
          simp [intOf]; omega
        · have hxe : x.isEmpty = false := by cases x with | nil => exact absurd rfl hx0 | cons _ _ => rfl
          have hxd := dir_lt hx0
          have HXN : Hid ((X ++ [x]) ++ upl (dir x) = X0 ++ upl (dir p)) := by
            show _ = _
            rw [← HX.out, upl_cons hx0]; simp
          have HDx : Hid (∀ W, Calls Try.prog 53 #[.string (bs x)] W fun e w' => e = .returned (.string (bs (dir x))) ∧ w' = W) := fun W => rdir_any x W (by omega)
          clear hx0
          go_wp2_with (at_builtin; refine app_one (base := G) x HO.out.1 (by omega) hz rfl (.tmp 22) (.tmp 24) rfl rfl rfl ?_; intro v5 w5 ho5 hb5 hbs5 _ _; have O5 : Hid (Own G w5 v5 (X ++ [x]) ∧ Below G w w5) := ⟨ho5, below_trans HO.out.2 hb5⟩; clear ho5 hb5 hbs5)
          refine (HDx.out _).mono ?_
          rintro e w6 ⟨rfl, rfl⟩
          go_wp2_with fail
          go_roundw
          case rel => exact ⟨dir x, X ++ [x], rfl, by omega, HXN.out, by simp; omega, O5.out.1, O5.out.2⟩
          case measure =>
            show (bs (dir x)).size < (bs x).size
            rw [bs_size, bs_size]; exact hxd
    · obtain rfl : k = n := by omega
      have HS := HG.out
      have HE : Hid (Own G wr u3 (gth l) ∧ Below G w wr) := by
        have := HB.out.2
        rw [List.take_of_length_le (by have := HN.out; omega)] at this
        exact ⟨this, HB.out.1⟩
      have HNo : Hid (Calls Try.prog 37 #[u3] wr fun e w' => ∃ v', e = .returned v' ∧ Own wr.heap.size w' v' (nds l) ∧ Below wr.heap.size wr w') := r22norm_any HE.out.1.bs HS
      clear HS
      go_wp2_with fail
      refine HNo.out.mono ?_
      rintro e w2 ⟨v2, rfl, ho2, hb2⟩
      have O2 : Hid (Own w.heap.size w2 v2 (nds l) ∧ Below w.heap.size w w2) := by
        rw [hG]
        exact ⟨ho2.mono hzo, below_trans HE.out.2 (below_mono hb2 hzo)⟩
      clear ho2 hb2
      go_wp2_with fail
      go_ret
      exact ⟨_, rfl, O2.out.1, O2.out.2⟩
end Go.Proofs.Ytfdcfcalbongeaa
