/-
  What is read: places, and how long the lists are.
  The law of there and back: what it stands on.
  The document's Parse and In.
-/
import Derived.Test.YtddaoloabfkheaaGreatDoorJRd
import Derived.Test.YtddaoloabfkheaaGreatDoorJShelf
import Derived.Test.YtddaoloabfkheaaGreatDoorJJoin
namespace Go.Proofs.YtddaoloabfkheaaGreatDoor

theorem go_range {p : List UInt8} {E S : Int} (hE : 0 ≤ E) : ∀ (L : List Tk) (st : St), (∀ k ∈ L, 0 ≤ k.at') → (go p E S st L).2 = -1 ∨ (0 ≤ (go p E S st L).2 ∧ (go p E S st L).1 = [])
  | [], st, _ => by
    cases st
    case top l =>
      simp only [go, fin]
      split
      · rename_i h; exact .inr ⟨h, rfl⟩
      · exact .inl rfl
    all_goals exact .inr ⟨hE, rfl⟩
  | k :: r, st, h => by
    simp only [go]
    cases hs : stp p st k with
    | none => exact .inr ⟨h k (by simp), rfl⟩
    | some st' => exact go_range hE r st' fun q hq => h q (by simp [hq])
theorem endE_nonneg (s : List UInt8) : 0 ≤ endE s := by
  unfold endE; split <;> omega
theorem prsM_range (p s : List UInt8) : (prsM p s).2 = -1 ∨ (0 ≤ (prsM p s).2 ∧ (prsM p s).1 = []) := by
  unfold prsM
  split
  · split
    · rename_i h
      exact go_range (endE_nonneg s) _ _ fun k hk => (toks_ok h k hk).at0
    · exact .inr ⟨by simp, rfl⟩
  · exact .inr ⟨by simp, rfl⟩

structure T64 (t : Tg) : Prop where
  s : t.srcs.length ≤ 64
  d : t.deps.length ≤ 64
  e : t.see.length ≤ 64
theorem T64.new (n : List UInt8) : T64 ⟨n, [], [], []⟩ := ⟨by simp, by simp, by simp⟩
theorem addI_64 {p f : List UInt8} {t u : Tg} {w : List UInt8} (h : T64 t) (ha : addI p f t w = some u) : T64 u := by
  unfold addI at ha
  split at ha
  · split at ha
    · rename_i hc
      injection ha with ha
      subst ha
      simp only [Bool.and_eq_true, decide_eq_true_eq] at hc
      exact ⟨by simp; omega, h.d, h.e⟩
    · cases ha
  · split at ha
    · split at ha
      · rename_i hc
        injection ha with ha
        subst ha
        simp only [Bool.and_eq_true, decide_eq_true_eq] at hc
        exact ⟨h.s, by simp; omega, h.e⟩
      · cases ha
    · split at ha
      · rename_i hc
        injection ha with ha
        subst ha
        simp only [Bool.and_eq_true, decide_eq_true_eq] at hc
        exact ⟨h.s, h.d, by simp; omega⟩
      · cases ha
def stL : St → List Tg
  | .top l => l
  | .nm l => l
  | .op l _ => l
  | .fl l _ _ => l
  | .eq l _ _ _ => l
  | .bg l _ _ _ => l
  | .i0 l _ _ _ => l
  | .it l _ _ _ => l
  | .sp l _ _ _ => l
def stT : St → List Tg
  | .fl _ t _ => [t]
  | .eq _ t _ _ => [t]
  | .bg _ t _ _ => [t]
  | .i0 _ t _ _ => [t]
  | .it _ t _ _ => [t]
  | .sp _ t _ _ => [t]
  | _ => []
structure S64 (st : St) : Prop where
  all : ∀ t ∈ stL st, T64 t
  cur : ∀ t ∈ stT st, T64 t
  top : (stL st).length ≤ 64 ∧ ((∀ l, st ≠ .top l) → (stL st).length < 64)
theorem stp_64 {p : List UInt8} {st st' : St} {k : Tk} (h : S64 st) (hs : stp p st k = some st') : S64 st' := by
  have hc := h.cur
  have ha := h.all
  have ht := h.top
  cases st <;> simp only [stp] at hs <;> simp only [stL, stT, List.mem_cons, List.mem_nil_iff, or_false, forall_eq, ne_eq, reduceCtorEq, not_false_eq_true, implies_true, forall_const] at hc ha ht
  case top l =>
    split at hs
    · rename_i hk; injection hs with hs; subst hs; exact ⟨ha, by simp [stT], ⟨ht.1, fun _ => hk.2.2⟩⟩
    · cases hs
  case nm l =>
    split at hs
    · injection hs with hs; subst hs; exact ⟨ha, by simp [stT], ⟨ht.1, fun _ => ht.2⟩⟩
    · cases hs
  case op l n =>
    split at hs
    · injection hs with hs; subst hs; exact ⟨ha, by simp only [stT, List.mem_singleton, forall_eq]; exact T64.new n, ⟨ht.1, fun _ => ht.2⟩⟩
    · cases hs
  case fl l t hd =>
    split at hs
    · injection hs with hs; subst hs
      refine ⟨?_, by simp [stT], ?_⟩
      · intro x hx
        simp only [stL, List.mem_append, List.mem_singleton] at hx
        rcases hx with hx | rfl
        · exact ha x hx
        · exact hc
      · simp only [stL, List.length_append, List.length_singleton]
        exact ⟨by omega, fun hx => absurd rfl (hx _)⟩
    · split at hs
      · injection hs with hs; subst hs; exact ⟨ha, by simpa [stT] using hc, ⟨ht.1, fun _ => ht.2⟩⟩
      · cases hs
  case eq l t hd f =>
    split at hs
    · injection hs with hs; subst hs; exact ⟨ha, by simpa [stT] using hc, ⟨ht.1, fun _ => ht.2⟩⟩
    · cases hs
  case bg l t hd f =>
    split at hs
    · injection hs with hs; subst hs; exact ⟨ha, by simpa [stT] using hc, ⟨ht.1, fun _ => ht.2⟩⟩
    · cases hs
  case i0 l t hd f =>
    split at hs
    · injection hs with hs; subst hs; exact ⟨ha, by simpa [stT] using hc, ⟨ht.1, fun _ => ht.2⟩⟩
    · split at hs
      · cases hi : addI p f t k.text with
        | none => rw [hi] at hs; cases hs
        | some u =>
          rw [hi] at hs
          injection hs with hs; subst hs
          exact ⟨ha, by simpa [stT] using addI_64 hc hi, ⟨ht.1, fun _ => ht.2⟩⟩
      · cases hs
  case it l t hd f =>
    split at hs
    · cases hi : addI p f t k.text with
      | none => rw [hi] at hs; cases hs
      | some u =>
        rw [hi] at hs
        injection hs with hs; subst hs
        exact ⟨ha, by simpa [stT] using addI_64 hc hi, ⟨ht.1, fun _ => ht.2⟩⟩
    · cases hs
  case sp l t hd f =>
    split at hs
    · injection hs with hs; subst hs; exact ⟨ha, by simpa [stT] using hc, ⟨ht.1, fun _ => ht.2⟩⟩
    · split at hs
      · injection hs with hs; subst hs; exact ⟨ha, by simpa [stT] using hc, ⟨ht.1, fun _ => ht.2⟩⟩
      · cases hs
theorem go_64 {p : List UInt8} {E S : Int} : ∀ (L : List Tk) (st : St), S64 st → (∀ t ∈ (go p E S st L).1, T64 t) ∧ (go p E S st L).1.length ≤ 64
  | [], st, h => by
    have ha := h.all
    have ht := h.top
    cases st
    case top l =>
      simp only [go, fin]
      split
      · exact ⟨by simp, by simp⟩
      · exact ⟨ha, ht.1⟩
    all_goals exact ⟨by simp [go, fin], by simp [go, fin]⟩
  | k :: r, st, h => by
    simp only [go]
    cases hs : stp p st k with
    | none => exact ⟨by simp, by simp⟩
    | some st' => exact go_64 r st' (stp_64 h hs)
theorem prsM_64 (p s : List UInt8) : (∀ t ∈ (prsM p s).1, T64 t) ∧ (prsM p s).1.length ≤ 64 := by
  unfold prsM
  split
  · split
    · exact go_64 _ _ ⟨by simp [stL], by simp [stT], by simp [stL]⟩
    · exact ⟨by simp, by simp⟩
  · exact ⟨by simp, by simp⟩
end Go.Proofs.YtddaoloabfkheaaGreatDoor

namespace Go.Proofs.YtddaoloabfkheaaGreatDoor
open Go.RowKit

/-- does a statement begin with this region? -/
def beg (n : Nat) : Code → Bool
  | .region m _ _ => m == n
  | .seq a _ => beg n a
  | .block _ c => beg n c
  | .loop c => beg n c
  | .scope c => beg n c
  | _ => false
/-- what stands from there on -/
def suff (n : Nat) : Code → Code
  | .seq a b => if beg n a then .seq a b else suff n b
  | c => c
theorem okL_pkg {l : Lb} (h : okL l = true) : okP l.pkg = true := by
  unfold okL at h; simp only [Bool.and_eq_true] at h; exact h.1
theorem prs_good {l : Lb} (h : okL l = true) : prs (prt l) = (l, 0) := by
  have h1 := okP_colon (okL_pkg h)
  obtain ⟨e1, e2⟩ := cut_colon l.pkg l.name h1
  rw [prs_prt, e1, e2]; unfold chk; rw [if_pos h]
end Go.Proofs.YtddaoloabfkheaaGreatDoor

namespace Go.Proofs.YtddaoloabfkheaaGreatDoor
open Go.RowKit

/-- what is parsed is printed so -/
theorem prs_inv {s : List UInt8} {l : Lb} {e : Int} (h : prs s = (l, e)) (he : e = 0) : okL l = true ∧ s = prt l := by
  unfold prs at h
  split at h
  · rename_i hp
    obtain ⟨r, hr⟩ := List.isPrefixOf_iff_prefix.1 hp
    subst hr
    simp only [List.cons_append, List.nil_append, List.drop_succ_cons, List.drop_zero] at h
    unfold chk at h
    split at h
    · rename_i hk
      injection h with h1 h2
      subst h1
      refine ⟨hk, ?_⟩
      have hc : csl r = true := by
        cases hc : csl r
        · rw [c_tl_none r hc] at hk
          unfold okL at hk
          simp only [Bool.and_eq_true] at hk
          exact absurd hk.2 (by decide)
        · rfl
      have hcut := c_cut_eq r
      rw [hc] at hcut
      simp only [if_true] at hcut
      unfold prt
      simp only [List.cons_append, List.nil_append]
      rw [← hcut]
    · injection h with h1 h2
      omega
  · injection h with h1 h2
    omega
theorem okL_len {l : Lb} (h : okL l = true) : (prt l).length ≤ 155 := by
  unfold okL at h
  simp only [Bool.and_eq_true] at h
  have h1 := (okP_len h.1).1
  have h2 := okC_le h.2
  simp only [prt, List.length_cons, List.length_append]; omega
theorem prs_cases (s : List UInt8) : prs s = (zl, 10) ∨ ∃ l, prs s = (l, 0) ∧ okL l = true ∧ s = prt l := by
  rcases hp : prs s with ⟨l, e⟩
  unfold prs at hp
  have hp' := hp
  split at hp
  · unfold chk at hp
    split at hp
    · injection hp with h1 h2
      subst h2
      right
      exact ⟨l, rfl, prs_inv (by unfold prs; exact hp') rfl⟩
    · injection hp with h1 h2
      subst h1 h2
      exact .inl rfl
  · injection hp with h1 h2
    subst h1 h2
    exact .inl rfl
theorem prs_long {s : List UInt8} (h : 155 < s.length) : prs s = (zl, 10) := by
  rcases prs_cases s with h1 | ⟨l, _, h2, h3⟩
  · exact h1
  · have := okL_len h2
    rw [← h3] at this; omega
/-- the label that a colon at this place would part -/
def cutL (s : List UInt8) (k : Nat) : Lb := ⟨(s.drop 2).take (k - 2), s.drop (k + 1)⟩
def hitL (s : List UInt8) (k : Nat) : Bool := decide (s[k]? = some 58) && okL (cutL s k) && decide (prt (cutL s k) = s)
theorem prs_hit {s : List UInt8} {k : Nat} (h1 : okL (cutL s k) = true) (h2 : prt (cutL s k) = s) : prs s = (cutL s k, 0) := by
  have := prs_good h1
  rw [h2] at this; exact this
theorem prs_miss {s : List UInt8} (h : ∀ k, 2 ≤ k → k < s.length → hitL s k = false) : prs s = (zl, 10) := by
  rcases prs_cases s with h1 | ⟨l, _, h2, h3⟩
  · exact h1
  · exfalso
    have hl : 2 + l.pkg.length < s.length := by rw [h3]; simp only [prt, List.length_cons, List.length_append]; omega
    have hk := h (2 + l.pkg.length) (by omega) hl
    have e1 : cutL s (2 + l.pkg.length) = l := by
      rw [h3]
      unfold cutL prt
      have a1 : (2 + l.pkg.length - 2) = l.pkg.length := by omega
      have a2 : (2 + l.pkg.length + 1) = l.pkg.length + 1 + 2 := by omega
      rw [a1, a2]
      simp only [List.drop_succ_cons, List.drop_zero]
      rw [List.drop_append]
      have a3 : List.drop (l.pkg.length + 1) l.pkg = [] := List.drop_eq_nil_of_le (by omega)
      rw [a3]
      simp
    have e2 : s[2 + l.pkg.length]? = some 58 := by
      rw [h3]
      unfold prt
      have a1 : 2 + l.pkg.length = l.pkg.length + 2 := by omega
      rw [a1]
      simp
    unfold hitL at hk
    rw [e1, e2, h2, ← h3] at hk
    simp at hk

set_option maxRecDepth 100000 in
set_option maxHeartbeats 4000000 in
theorem rparse_any (s : List UInt8) (w : World) (hs : s.length ≤ 1000000000) : Calls Tryz.prog 82 #[.string (bs s)] w fun e w' => e = .returned (pair (prs s)) ∧ Below w.heap.size w w' := by
  have z0 : (bs s).size = s.length := rfl
  have HZ : Hid (RB (w.alloc (.cells #[.string (bs []), .string (bs [])] 92)) w.heap.size zl) := RB.new w zl
  by_cases h0 : 155 < s.length
  · rw [prs_long h0]
    have h0' : (155 : Int) < (s.length : Int) := by omega
    clear h0
    obtain ⟨c0, c1, f0, f1⟩ := HZ.out.cells
    go_enter Tryz.func82, Tryz.ntmps82
    go_wp2_with fail
    refine bodyPost_ret (results_ct rfl _ _ w.heap.size 92 #[.string (bs []), .string (bs [])] (0, 0) _ rfl ?_ Tryz.underlying92 rfl (by kernel_rfl)) rfl ?_
    · exact HZ.out.blk
    exact ⟨rfl, balloc _ _⟩
  have h0' : ¬ ((155 : Int) < (s.length : Int)) := by omega
  have HS0 : Hid (s.length ≤ 155) := by show s.length ≤ 155; omega
  obtain ⟨r, hr⟩ : ∃ r, pair (prs s) = r := ⟨_, rfl⟩
  rw [hr]
  have HR : Hid (pair (prs s) = r) := hr
  clear hr h0
  by_cases hs2 : 2 ≤ s.length
  rotate_left
  · have hm : prs s = (zl, 10) := prs_miss (fun k h1 h2 => by omega)
    have hs2' : ¬ ((2 : Int) < (s.length : Int)) := by omega
    rw [hm] at HR
    clear hm
    go_enter Tryz.func82, Tryz.ntmps82
    go_wp2_with fail
    go_loopw [4] (fun i wr => i = .int .i64 2 ∧ wr = w.alloc (.cells #[.string (bs []), .string (bs [])] 92)) (fun _ _ => 0)
    case atStart => exact ⟨rfl, rfl⟩
    case round =>
      obtain ⟨rfl, rfl⟩ := hrel
      obtain ⟨c0, c1, f0, f1⟩ := HZ.out.cells
      go_wp2_with fail
      refine bodyPost_ret (results_ct rfl _ _ w.heap.size 92 #[.string (bs []), .string (bs [])] (0, 0) _ rfl ?_ Tryz.underlying92 rfl (by kernel_rfl)) rfl ?_
      · exact HZ.out.blk
      exact ⟨by rw [← HR.out]; rfl, balloc _ _⟩
  go_enter Tryz.func82, Tryz.ntmps82
  go_wp2_with fail
  go_loopw [4] (fun i wr => ∃ k : Nat, 2 ≤ k ∧ k ≤ s.length ∧ i = .int .i64 k ∧ Below w.heap.size w wr ∧ RB wr w.heap.size zl ∧ ∀ j, 2 ≤ j → j < k → hitL s j = false) (fun i _ => s.length - (intOf i).toNat)
  case atStart => exact ⟨2, by omega, hs2, rfl, balloc _ _, HZ.out, fun j h1 h2 => by omega⟩
  case round =>
    obtain ⟨k, hk2, hk, rfl, hb, hrb, hno⟩ := hrel
    have HB : Hid (Below w.heap.size w wr) := hb
    have HZ1 : Hid (RB wr w.heap.size zl) := hrb
    have HNO : Hid (∀ j, 2 ≤ j → j < k → hitL s j = false) := hno
    clear hb hrb hno
    by_cases hlt : k < s.length
    · have hkz : k < (bs s).size := hlt
      have k1 : (0 : Int) ≤ (k : Int) := by omega
      have k2 : (k : Int) < (s.length : Int) := by omega
      by_cases hc : s[k]'hlt = 58
      rotate_left
      · have e1 : (((bs s)[k].toNat : Int) == 58) = false := by
          rw [bs_get _ _ _ hlt, beq_eq_false_iff_ne]; intro e; apply hc; apply UInt8.toNat_inj.1; exact Int.ofNat.inj e
        have e1' : (((bs s)[k].toNat : Int) != 58) = true := by rw [bne, e1]; rfl
        have HH : Hid (hitL s k = false) := by
          show hitL s k = false
          unfold hitL
          rw [List.getElem?_eq_getElem hlt]
          simp [hc]
        clear hc
        go_wp2_with fail
        go_round
        case rel => exact ⟨k + 1, by omega, by omega, by simp, HB.out, HZ1.out, fun j h1 h2 => by
          rcases Nat.lt_or_ge j k with h | h
          · exact HNO.out j h1 h
          · have : j = k := by omega
            subst this; exact HH.out⟩
        case measure => simp only [intOf]; omega
      · have e1 : (((bs s)[k].toNat : Int) == 58) = true := by rw [bs_get _ _ _ hlt, hc]; rfl
        have e1' : (((bs s)[k].toNat : Int) != 58) = false := by rw [bne, e1]; rfl
        have k3 : (2 : Int) ≤ (k : Int) := by omega
        have k4 : (k : Int) ≤ (s.length : Int) := by omega
        have k5 : (k : Int) + 1 ≤ (s.length : Int) := by omega
        have k6 : (0 : Int) ≤ (k : Int) + 1 := by omega
        have E1 : (bs s).extract 2 k = bs ((s.drop 2).take (k - 2)) := bs_extract s 2 k
        have E2 : (bs s).extract (k + 1) s.length = bs (s.drop (k + 1)) := extract_from s (k + 1)
        have HLu : Lu (cutL s k) := ⟨by simp only [cutL, List.length_take, List.length_drop]; omega, by simp only [cutL, List.length_drop]; omega⟩
        have HV : Hid (∀ W : World, Calls Tryz.prog 103 #[(cutL s k).val] W fun e w' => e = .returned (.bool (okL (cutL s k))) ∧ Below W.heap.size W w') := fun W => rlvalid_any _ W HLu
        have HP : Hid (∀ W : World, Calls Tryz.prog 104 #[(cutL s k).val] W fun e w' => e = .returned (.string (bs (prt (cutL s k)))) ∧ Below W.heap.size W w') := fun W => rlprint_any _ W HLu
        have HHit : Hid (okL (cutL s k) = true → prt (cutL s k) = s → r = pair (cutL s k, 0)) := fun h1 h2 => by
          rw [← HR.out, prs_hit h1 h2]
        have HMiss : Hid (okL (cutL s k) = false ∨ prt (cutL s k) ≠ s → hitL s k = false) := fun h => by
          show hitL s k = false
          unfold hitL
          rcases h with h | h
          · simp [h]
          · simp [h]
        unfold cutL at HV HP HHit HMiss HLu
        simp only [Lb.val, pair] at HV HP HHit
        generalize (s.drop 2).take (k - 2) = p at *
        generalize s.drop (k + 1) = m at *
        clear HLu
        have es := bs_toList s
        have RN : Hid (RB ((wr.alloc (.cells #[.string (bs p), .string (bs m)] 92)).drew) wr.heap.size ⟨p, m⟩) := (RB.new wr ⟨p, m⟩).later (Below.refl _ _).drew
        have HBd : Hid (Below w.heap.size w ((wr.alloc (.cells #[.string (bs p), .string (bs m)] 92)).drew)) := bstep HB.out (balloc wr _).drew
        have HZd : Hid (RB ((wr.alloc (.cells #[.string (bs p), .string (bs m)] 92)).drew) w.heap.size zl) := HZ1.out.later (balloc wr _).drew
        cases hok : okL ⟨p, m⟩
        · rw [hok] at HV
          have HH : Hid (hitL s k = false) := HMiss.out (.inl hok)
          clear hok HMiss HHit
          obtain ⟨d0, d1, _, _⟩ := RN.out.cells
          simp only at d0 d1
          go_wp2_with fail
          go_region
          go_wp2_with fail
          refine (HV.out _).mono ?_
          rintro e w2 ⟨rfl, hb2⟩
          have HB2 : Hid (Below w.heap.size w w2) := bstep HBd.out hb2
          have HZ2 : Hid (RB w2 w.heap.size zl) := HZd.out.later hb2
          clear hb2
          go_wp2_with fail
          go_round
          case rel => exact ⟨k + 1, by omega, by omega, by simp, HB2.out, HZ2.out, fun j h1 h2 => by
            rcases Nat.lt_or_ge j k with h | h
            · exact HNO.out j h1 h
            · have : j = k := by omega
              subst this; exact HH.out⟩
          case measure => simp only [intOf]; omega
        · rw [hok] at HV
          obtain ⟨P, hP⟩ : ∃ P, prt ⟨p, m⟩ = P := ⟨_, rfl⟩
          rw [hP] at HP HHit HMiss
          have eP := bs_toList P
          by_cases hPs : P = s
          · have hPs' : (P == s) = true := by simpa using hPs
            have HRT : Hid (r = .tuple #[.agg #[.string (bs p), .string (bs m)], .int .i64 0]) := HHit.out hok hPs
            clear hok HMiss HHit hPs hP
            obtain ⟨d0, d1, _, _⟩ := RN.out.cells
            simp only at d0 d1
            go_wp2_with fail
            go_region
            go_wp2_with fail
            refine (HV.out _).mono ?_
            rintro e w2 ⟨rfl, hb2⟩
            have HB2 : Hid (Below w.heap.size w w2) := bstep HBd.out hb2
            have HZ2 : Hid (RB w2 w.heap.size zl) := HZd.out.later hb2
            have RN2 : Hid (RB w2 wr.heap.size ⟨p, m⟩) := RN.out.later hb2
            obtain ⟨x0, x1, _, _⟩ := RN2.out.cells
            simp only at x0 x1
            clear hb2 d0 d1
            go_wp2_with fail
            refine (HP.out _).mono ?_
            rintro e w3 ⟨rfl, hb3⟩
            have HB3 : Hid (Below w.heap.size w w3) := bstep HB2.out hb3
            have HZ3 : Hid (RB w3 w.heap.size zl) := HZ2.out.later hb3
            obtain ⟨y0, y1, _, _⟩ := (RN2.out.later hb3).cells
            obtain ⟨c0, c1, f0, f1⟩ := HZ3.out.cells
            simp only at y0 y1
            clear hb3 x0 x1
            go_wp2_with fail
            refine bodyPost_ret (results_ct rfl _ _ w.heap.size 92 #[.string (bs p), .string (bs m)] (0, 0) _ rfl ?_ Tryz.underlying92 rfl (by kernel_rfl)) rfl ?_
            · exact (HZ3.out.set ⟨p, m⟩).blk
            exact ⟨by rw [HRT.out]; rfl, bset2 HB3.out (by omega) _ _⟩
          · have hPs' : (P == s) = false := by simpa using hPs
            have HH : Hid (hitL s k = false) := HMiss.out (.inr hPs)
            clear hok HMiss HHit hPs hP
            obtain ⟨d0, d1, _, _⟩ := RN.out.cells
            simp only at d0 d1
            go_wp2_with fail
            go_region
            go_wp2_with fail
            refine (HV.out _).mono ?_
            rintro e w2 ⟨rfl, hb2⟩
            have HB2 : Hid (Below w.heap.size w w2) := bstep HBd.out hb2
            have HZ2 : Hid (RB w2 w.heap.size zl) := HZd.out.later hb2
            have RN2 : Hid (RB w2 wr.heap.size ⟨p, m⟩) := RN.out.later hb2
            obtain ⟨x0, x1, _, _⟩ := RN2.out.cells
            simp only at x0 x1
            clear hb2 d0 d1
            go_wp2_with fail
            refine (HP.out _).mono ?_
            rintro e w3 ⟨rfl, hb3⟩
            have HB3 : Hid (Below w.heap.size w w3) := bstep HB2.out hb3
            have HZ3 : Hid (RB w3 w.heap.size zl) := HZ2.out.later hb3
            clear hb3 x0 x1
            go_wp2_with fail
            go_round
            case rel => exact ⟨k + 1, by omega, by omega, by simp, HB3.out, HZ3.out, fun j h1 h2 => by
              rcases Nat.lt_or_ge j k with h | h
              · exact HNO.out j h1 h
              · have : j = k := by omega
                subst this; exact HH.out⟩
            case measure => simp only [intOf]; omega
    · have hkn : k = s.length := by omega
      have hm : prs s = (zl, 10) := prs_miss (fun j h1 h2 => HNO.out j h1 (by omega))
      rw [hm] at HR
      have k2 : ¬ ((k : Int) < (s.length : Int)) := by omega
      clear hm hkn
      obtain ⟨c0, c1, f0, f1⟩ := HZ1.out.cells
      have hlt0 := HZ1.out.lt
      go_wp2_with fail
      refine bodyPost_ret (results_ct rfl _ _ w.heap.size 92 #[.string (bs []), .string (bs [])] (0, 0) _ rfl ?_ Tryz.underlying92 rfl (by kernel_rfl)) rfl ?_
      · exact (HZ1.out.set zl).blk
      exact ⟨by rw [← HR.out]; rfl, bset2 HB.out (by omega) _ _⟩
end Go.Proofs.YtddaoloabfkheaaGreatDoor
