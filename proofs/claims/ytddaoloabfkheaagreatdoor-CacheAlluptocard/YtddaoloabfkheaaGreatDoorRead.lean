/-
  All targets of a text.
-/
import Derived.Test.YtddaoloabfkheaaGreatDoorTgt
namespace Go.Proofs.YtddaoloabfkheaaGreatDoor
open Go.RowKit

/-- targets, each with its lists -/
def TsOwn (base : Nat) (w : World) : List Tv → List Tg → Prop
  | [], [] => True
  | a :: r, b :: q => TOwn base w a b ∧ TsOwn base w r q
  | _, _ => False
theorem TsOwn.len {base : Nat} {w : World} : ∀ {a : List Tv} {b : List Tg}, TsOwn base w a b → a.length = b.length
  | [], [], _ => rfl
  | _ :: _, _ :: _, h => by simp only [List.length_cons, h.2.len]
theorem TsOwn.only {S : List Nat} {base : Nat} {w w' : World} : ∀ {a : List Tv} {b : List Tg}, TsOwn base w a b → Only S w w' → (∀ t ∈ a, ∀ u ∈ t.vals, ∀ k, u.ownBlock = some k → k ∉ S) → TsOwn base w' a b
  | [], [], _, _, _ => trivial
  | t :: r, _ :: _, h, ho, hn => ⟨h.1.only ho (hn t (by simp)), h.2.only ho fun t ht => hn t (by simp [ht])⟩
theorem TsOwn.later {base : Nat} {w w' : World} {a : List Tv} {b : List Tg} (h : TsOwn base w a b) (hb : Below w.heap.size w w') : TsOwn base w' a b := h.only (Only.of_below hb []) (by simp)
theorem TsOwn.mono {base base' : Nat} {w : World} (hb : base' ≤ base) : ∀ {a : List Tv} {b : List Tg}, TsOwn base w a b → TsOwn base' w a b
  | [], [], _ => trivial
  | _ :: _, _ :: _, h => ⟨h.1.mono hb, TsOwn.mono hb h.2⟩
theorem TsOwn.lt {base : Nat} {w : World} : ∀ {a : List Tv} {b : List Tg}, TsOwn base w a b → ∀ t ∈ a, ∀ u ∈ t.vals, ∀ k, u.ownBlock = some k → base ≤ k ∧ k < w.heap.size
  | [], [], _, t, ht => by simp at ht
  | _ :: _, _ :: _, h, t, ht => by
    rcases List.mem_cons.1 ht with rfl | ht
    · exact h.1.lt
    · exact h.2.lt t ht
theorem TsOwn.snoc {base : Nat} {w : World} {t : Tv} {g : Tg} (ht : TOwn base w t g) : ∀ {a : List Tv} {b : List Tg}, TsOwn base w a b → TsOwn base w (a ++ [t]) (b ++ [g])
  | [], [], _ => ⟨ht, trivial⟩
  | _ :: _, _ :: _, h => ⟨h.1, TsOwn.snoc ht h.2⟩
theorem TsOwn.names {base : Nat} {w : World} (x : List UInt8) : ∀ {a : List Tv} {b : List Tg}, TsOwn base w a b → (a.any fun t => t.name == x) = hasN b x
  | [], [], _ => rfl
  | _ :: _, _ :: _, h => by
    have ih := TsOwn.names x h.2
    unfold hasN at ih ⊢
    simp only [List.any_cons, ih, h.1.name]
/-- no two lists share memory -/
def Aps (v : Value) (a : List Tv) : Prop := (v :: a.flatMap Tv.vals).Pairwise Ap
theorem Aps.nil : Aps (.slice none 0 0) [] := by simp [Aps]
theorem TOwn.pair {base : Nat} {w : World} {v : Tv} {t : Tg} (h : TOwn base w v t) : v.vals.Pairwise Ap := by
  simp only [Tv.vals, List.pairwise_cons, List.mem_cons, List.mem_nil_iff, or_false, forall_eq_or_imp, forall_eq, List.Pairwise.nil, and_true, false_implies, implies_true]
  exact ⟨⟨h.sd, h.se⟩, h.de⟩
theorem mem_vals {a : List Tv} {u : Value} (h : u ∈ a.flatMap Tv.vals) : ∃ t ∈ a, u ∈ t.vals := by
  simpa [List.mem_flatMap] using h
/-- a list of targets, all of it memory of its own -/
structure GOwn (base : Nat) (w : World) (v : Value) (l : List Tg) : Prop where
  it : ∃ a : List Tv, OwnG base w v a ∧ TsOwn base w a l ∧ Aps v a
theorem GOwn.nil (base : Nat) (w : World) : GOwn base w (.slice none 0 0) [] := ⟨[], OwnG.nil _ _, trivial, Aps.nil⟩
theorem GOwn.later {base : Nat} {w w' : World} {v : Value} {l : List Tg} (h : GOwn base w v l) (hb : Below w.heap.size w w') : GOwn base w' v l := by
  obtain ⟨a, h1, h2, h3⟩ := h.it; exact ⟨a, h1.later hb, h2.later hb, h3⟩
theorem GOwn.mono {base base' : Nat} {w : World} {v : Value} {l : List Tg} (h : GOwn base w v l) (hb : base' ≤ base) : GOwn base' w v l := by
  obtain ⟨a, h1, h2, h3⟩ := h.it; exact ⟨a, h1.mono hb, h2.mono hb, h3⟩
theorem Aps.snoc {v v' : Value} {a : List Tv} {t : Tv} {n m : Nat} (h : Aps v a) (ho : ∀ x ∈ a, ∀ u ∈ x.vals, ∀ k, u.ownBlock = some k → k < n) (hv : ∀ k, v.ownBlock = some k → k < n) (ht : ∀ u ∈ t.vals, ∀ k, u.ownBlock = some k → n ≤ k ∧ k < m) (hp : t.vals.Pairwise Ap) (hw : v'.ownBlock = v.ownBlock ∨ ∃ k, v'.ownBlock = some k ∧ m ≤ k) (hnm : n ≤ m) : Aps v' (a ++ [t]) := by
  unfold Aps at h ⊢
  rw [List.pairwise_cons] at h ⊢
  rw [List.flatMap_append]
  have e1 : [t].flatMap Tv.vals = t.vals := by simp
  rw [e1]
  constructor
  · intro u hu k hk hk'
    rcases List.mem_append.1 hu with hu | hu
    · obtain ⟨x, hx, hux⟩ := mem_vals hu
      have := ho x hx u hux k hk'
      rcases hw with hw | ⟨j, hw, hj⟩
      · exact h.1 u hu k (hw ▸ hk) hk'
      · rw [hw] at hk; injection hk with hk; omega
    · have := ht u hu k hk'
      rcases hw with hw | ⟨j, hw, hj⟩
      · have := hv k (hw ▸ hk); omega
      · rw [hw] at hk; injection hk with hk; omega
  · rw [List.pairwise_append]
    refine ⟨h.2, hp, fun u hu u' hu' k hk hk' => ?_⟩
    obtain ⟨x, hx, hux⟩ := mem_vals hu
    have := ho x hx u hux k hk
    have := ht u' hu' k hk'
    omega
set_option maxRecDepth 100000 in
set_option maxHeartbeats 8000000 in
theorem mread_any {w : World} (p s : List UInt8) {R : List Tg × Int} (hE : Ev w) (hp : p.length ≤ 120) (hs : s.length ≤ 4096) (hR : go p (endE s) (toks s).2 (.top []) (toks s).1 = R) :
    Calls Tryz.prog 95 #[.string (bs p), .string (bs s)] w fun e w' => (∃ v ts, e = .returned v ∧ GOwn w.heap.size w' v ts ∧ R = (ts, -1) ∧ Below w.heap.size w w') ∨ (∃ z, e = flt z ∧ R = ([], z) ∧ Below w.heap.size w w') := by
  have hz : (bs s).size = s.length := rfl
  have HTk : Hid (Calls Tryz.prog 111 #[.string (bs s)] w fun e w' => ∃ v, e = .returned (.tuple #[v, .int .i64 (toks s).2]) ∧ OwnT 188 w.heap.size w' v (toks s).1 ∧ Below w.heap.size w w') := tokens_any s w (by omega)
  have HT : Hid (∀ k ∈ (toks s).1, TkOk k) := toks_ok hs
  have hnum := toks_num s
  have HR : Hid (go p (endE s) (toks s).2 (.top []) (toks s).1 = R) := hR
  have HEE : Hid (endE s = if 0 ≤ (toks s).2 then (toks s).2 else (s.length : Int)) := rfl
  obtain ⟨EE, hEE⟩ : ∃ EE, endE s = EE := ⟨_, rfl⟩
  rw [hEE] at HR HEE
  obtain ⟨TT, hTT⟩ : ∃ TT, toks s = TT := ⟨_, rfl⟩
  rw [hTT] at HTk HT hnum HR HEE
  obtain ⟨L0, S⟩ := TT
  simp only at HTk HT hnum HR HEE
  obtain ⟨m1, m2, m3⟩ := hnum
  have HE : Hid (Ev w) := hE
  have h4 := hE.big
  clear hR hEE hTT hE
  go_enter Tryz.func95, Tryz.ntmps95
  go_wp2_with fail
  refine HTk.out.mono ?_
  rintro e w1 ⟨v0, rfl, hOT, hb1⟩
  have HO1 : Hid (OwnT 188 w.heap.size w1 v0 L0) := hOT
  have B1 : Hid (Below w.heap.size w w1) := hb1
  have hs1 : w.heap.size ≤ w1.heap.size := hb1.size
  obtain ⟨av0, cv0, hv0⟩ := hOT.form
  obtain ⟨n0, hn0⟩ : ∃ n0, L0.length = n0 := ⟨_, rfl⟩
  rw [hn0] at hv0
  subst hv0
  clear hOT hb1
  obtain ⟨g, hgg⟩ : ∃ g, w1.heap.size = g := ⟨_, rfl⟩
  obtain ⟨w2, hw2⟩ : ∃ w2, w1.alloc (.cells #[.string (bs p), .slice av0 n0 cv0, .int .i64 EE] 167) = w2 := ⟨_, rfl⟩
  have hb2 : Below w1.heap.size w1 w2 := by rw [← hw2]; exact balloc _ _
  have hs2 : g + 1 = w2.heap.size := by rw [← hw2, ← hgg]; simp
  have Q2 : Hid (RQ w2 g p EE L0) := by
    refine ⟨.slice av0 n0 cv0, ⟨?_⟩, ((HO1.out.later hb2).ts), fun _ b hb => ?_⟩
    · rw [← hw2, ← hgg]; exact heap_alloc_new _ _
    · have := (HO1.out.lt hb).2; omega
  have B2 : Hid (Below w.heap.size w w2) := bstep B1.out hb2
  have E2 : Hid (Ev w2) := HE.out.later B2.out
  have HW2 : Hid (w1.alloc (.cells #[.string (bs p), .slice av0 n0 cv0, .int .i64 EE] 167) = w2 ∧ w1.heap.size = g) := ⟨hw2, hgg⟩
  have hg4 : 4 ≤ g := by omega
  have hgw : w.heap.size ≤ g := by omega
  have hL0 : L0.length ≤ 5000 := by omega
  clear hw2 hb2 hgg B1 hn0
  by_cases hS : 0 ≤ S
  · have hEq : EE = S := by have := HEE.out; rw [if_pos hS] at this; exact this
    subst hEq
    have dS : decide (0 ≤ EE) = true := by simpa using hS
    have HT2 : Hid True := trivial
    go_wp2_with fail
    rw [HW2.out.1, HW2.out.2]
    go_loopw [8] (fun v wr => ∃ (a : List Tv) (ts : List Tg) (Lr : List Tk), OwnG (g + 1) wr v a ∧ TsOwn (g + 1) wr a ts ∧ Aps v a ∧ RQ wr g p EE Lr ∧ Only [g] w2 wr ∧ go p EE EE (.top ts) Lr = R ∧ (∀ k ∈ Lr, k ∈ L0) ∧ Lr.length ≤ L0.length ∧ ts.length ≤ 64) (fun v _ => 65 - slen v)
    case atStart => exact ⟨[], [], L0, OwnG.nil _ _, trivial, Aps.nil, Q2.out, Only.refl _ _, HR.out, fun k hk => hk, Nat.le_refl _, by simp⟩
    case round =>
      obtain ⟨a, ts, Lr, hOG, hTs, hAp, hqr, hor, hRr, hmem, hlen, h64⟩ := hrel
      have G4 : Hid (OwnG (g + 1) wr u8 a ∧ TsOwn (g + 1) wr a ts ∧ Aps u8 a) := ⟨hOG, hTs, hAp⟩
      have X4 : Hid (RQ wr g p EE Lr ∧ Only [g] w2 wr) := ⟨hqr, hor⟩
      have R4 : Hid (go p EE EE (.top ts) Lr = R) := hRr
      have M4 : Hid (∀ k ∈ Lr, k ∈ L0) := hmem
      have hsr : w2.heap.size ≤ wr.heap.size := hor.size
      have BW : Hid (Below w.heap.size w wr) := below_trans B2.out (hor.below (by omega) (by simp; omega))
      obtain ⟨au, cu, hu⟩ := hOG.form
      obtain ⟨na, hna⟩ : ∃ na, a.length = na := ⟨_, rfl⟩
      have HNA : Hid (a.length = na ∧ ts.length = na) := ⟨hna, by rw [← hTs.len, hna]⟩
      rw [hna] at hu
      subst hu
      obtain ⟨vq, hvq, hts, _⟩ := hqr.rd
      obtain ⟨aq, cq, hq1, _⟩ := hts.form
      obtain ⟨nq, hnq⟩ : ∃ nq, Lr.length = nq := ⟨_, rfl⟩
      rw [hnq] at hq1
      subst hq1
      obtain ⟨c0, c1, c2, f1, f2⟩ := hvq.cells
      have HNQ : Hid (Lr.length = nq) := hnq
      clear HR Q2 HT2 hOG hTs hAp hqr hor hRr hmem hna hvq hts
      by_cases h0 : nq = 0
      · subst h0
        clear hnq
        obtain rfl : Lr = [] := List.eq_nil_of_length_eq_zero HNQ.out
        obtain rfl : ([], EE) = R := by have := R4.out; simpa [go, fin, hS] using this
        go_wp2_with fail
        exact ⟨rfl, .inr ⟨_, rfl, rfl, BW.out⟩⟩
      · have hnz : (0 : Int) < (nq : Int) := by omega
        have hnz2 : decide ((0 : Int) < (nq : Int)) = true := by simp; omega
        have HCt : Hid (Calls Tryz.prog 112 #[.pointer (some ⟨g, 0, none⟩), .slice au na cu] wr (LsT wr g p EE EE Lr ts R)) :=
          target_any X4.out.1 G4.out.1 (by omega) (fun x => G4.out.2.1.names x) (by rw [HNA.out.1, HNA.out.2]) h64 (fun e => by rw [e] at hnq; simp at hnq; omega) (fun k hk => HT.out k (M4.out k hk)) (by omega) R4.out (E2.out.only X4.out.2 (by simpa using hg4)) hg4 hp
        clear hnq
        go_wp2_with fail
        refine HCt.out.mono ?_
        rintro e w5 (⟨tv, t, L', rfl, hTO, hq5, hm5, hl5, hR5, h645, ho5⟩ | ⟨z, rfl, hzR, ho5⟩)
        rotate_left
        · exact ⟨rfl, .inr ⟨z, rfl, hzR, below_trans BW.out (ho5.below (by omega) (by simp; omega))⟩⟩
        have hgm : ∀ (v : Value), (∀ k, v.ownBlock = some k → g + 1 ≤ k) → ∀ k, v.ownBlock = some k → k ∉ [g] := fun v hv k hk hm => by have := hv k hk; simp only [List.mem_singleton] at hm; omega
        have G5 : Hid (OwnG (g + 1) w5 (.slice au na cu) a ∧ TsOwn (g + 1) w5 a ts) := ⟨G4.out.1.only ho5 (hgm _ fun k hk => (G4.out.1.lt hk).1), G4.out.2.1.only ho5 fun t ht u hu => hgm u fun k hk => (G4.out.2.1.lt t ht u hu k hk).1⟩
        have T5 : Hid (TOwn wr.heap.size w5 tv t) := hTO
        have X5 : Hid (RQ w5 g p EE L' ∧ Only [g] w2 w5 ∧ (∀ k ∈ L', k ∈ L0) ∧ go p EE EE (.top (ts ++ [t])) L' = R) := ⟨hq5, X4.out.2.trans ho5, fun k hk => M4.out k (hm5 k hk), hR5⟩
        have hs5 : wr.heap.size ≤ w5.heap.size := ho5.size
        have hl5' : L'.length ≤ L0.length := by omega
        unfold Tv.val
        clear hTO hq5 hm5 hR5 ho5 hgm HCt
        go_wp2_with (first
          | (at_builtin; refine app_G tv G5.out.1 (by have := HNA.out; omega) (by omega) rfl (.tmp 27) (.tmp 30) rfl rfl rfl ?_; intro v9 w9 hO9 hB9 hN9 hs9 hw9; have O9 : Hid (OwnG (g + 1) w9 v9 (a ++ [tv])) := hO9; have K9 : Hid (Below (g + 1) w5 w9 ∧ Only (Value.slice au na cu).ownBlock.toList w5 w9 ∧ (v9.ownBlock = (Value.slice au na cu).ownBlock ∨ ∃ k, v9.ownBlock = some k ∧ w5.heap.size ≤ k)) := ⟨hB9, hN9, hw9⟩; clear hO9 hB9 hN9 hw9))
        obtain ⟨a9, c9, hv9⟩ := O9.out.form
        have HL9 : Hid ((a ++ [tv]).length = na + 1) := by show (a ++ [tv]).length = na + 1; rw [List.length_append, HNA.out.1]; rfl
        rw [HL9.out] at hv9
        subst hv9
        have A9 : Hid (Aps (.slice a9 (na + 1) c9) (a ++ [tv])) := G4.out.2.2.snoc (n := wr.heap.size) (m := w5.heap.size) (fun x hx u hu k hk => (G4.out.2.1.lt x hx u hu k hk).2) (fun k hk => (G4.out.1.lt hk).2) (fun u hu k hk => T5.out.lt u hu k hk) T5.out.pair K9.out.2.2 hs5
        have hap : ∀ u ∈ a.flatMap Tv.vals, Ap (.slice au na cu) u := (List.pairwise_cons.1 G4.out.2.2).1
        have T9 : Hid (TsOwn (g + 1) w9 (a ++ [tv]) (ts ++ [t])) := by
          refine TsOwn.snoc ((T5.out.mono (by omega)).only K9.out.2.1 fun u hu k hk hm => ?_) (G5.out.2.only K9.out.2.1 fun x hx u hu k hk hm => ?_)
          · rw [Option.mem_toList] at hm
            have h1 := (T5.out.lt u hu k hk).1
            have h2 := (G4.out.1.lt hm).2
            omega
          · rw [Option.mem_toList] at hm
            exact hap u (List.mem_flatMap.2 ⟨x, hx, hu⟩) k hm hk
        have X9 : Hid (RQ w9 g p EE L' ∧ Only [g] w2 w9) := ⟨X5.out.1.below K9.out.1 (by omega), only_below X5.out.2.1 K9.out.1 (by omega)⟩
        have hlt9 : (ts ++ [t]).length ≤ 64 := by rw [List.length_append]; simp; omega
        clear hap
        go_wp2_with fail
        go_roundw
        case rel => exact ⟨_, _, L', O9.out, T9.out, A9.out, X9.out.1, X9.out.2, X5.out.2.2.2, X5.out.2.2.1, hl5', hlt9⟩
        case measure => (have := HNA.out; simp [slen]; omega)
  · have hEq : EE = (s.length : Int) := by have := HEE.out; rw [if_neg hS] at this; exact this
    subst hEq
    have dS : decide (0 ≤ S) = false := by simpa using hS
    have HT2 : Hid True := trivial
    go_wp2_with fail
    rw [HW2.out.1, HW2.out.2]
    go_loopw [8] (fun v wr => ∃ (a : List Tv) (ts : List Tg) (Lr : List Tk), OwnG (g + 1) wr v a ∧ TsOwn (g + 1) wr a ts ∧ Aps v a ∧ RQ wr g p (s.length : Int) Lr ∧ Only [g] w2 wr ∧ go p (s.length : Int) S (.top ts) Lr = R ∧ (∀ k ∈ Lr, k ∈ L0) ∧ Lr.length ≤ L0.length ∧ ts.length ≤ 64) (fun v _ => 65 - slen v)
    case atStart => exact ⟨[], [], L0, OwnG.nil _ _, trivial, Aps.nil, Q2.out, Only.refl _ _, HR.out, fun k hk => hk, Nat.le_refl _, by simp⟩
    case round =>
      obtain ⟨a, ts, Lr, hOG, hTs, hAp, hqr, hor, hRr, hmem, hlen, h64⟩ := hrel
      have G4 : Hid (OwnG (g + 1) wr u8 a ∧ TsOwn (g + 1) wr a ts ∧ Aps u8 a) := ⟨hOG, hTs, hAp⟩
      have X4 : Hid (RQ wr g p (s.length : Int) Lr ∧ Only [g] w2 wr) := ⟨hqr, hor⟩
      have R4 : Hid (go p (s.length : Int) S (.top ts) Lr = R) := hRr
      have M4 : Hid (∀ k ∈ Lr, k ∈ L0) := hmem
      have hsr : w2.heap.size ≤ wr.heap.size := hor.size
      have BW : Hid (Below w.heap.size w wr) := below_trans B2.out (hor.below (by omega) (by simp; omega))
      obtain ⟨au, cu, hu⟩ := hOG.form
      obtain ⟨na, hna⟩ : ∃ na, a.length = na := ⟨_, rfl⟩
      have HNA : Hid (a.length = na ∧ ts.length = na) := ⟨hna, by rw [← hTs.len, hna]⟩
      rw [hna] at hu
      subst hu
      obtain ⟨vq, hvq, hts, _⟩ := hqr.rd
      obtain ⟨aq, cq, hq1, _⟩ := hts.form
      obtain ⟨nq, hnq⟩ : ∃ nq, Lr.length = nq := ⟨_, rfl⟩
      rw [hnq] at hq1
      subst hq1
      obtain ⟨c0, c1, c2, f1, f2⟩ := hvq.cells
      have HNQ : Hid (Lr.length = nq) := hnq
      clear HR Q2 HT2 hOG hTs hAp hqr hor hRr hmem hna hvq hts
      by_cases h0 : nq = 0
      · subst h0
        clear hnq
        obtain rfl : Lr = [] := List.eq_nil_of_length_eq_zero HNQ.out
        obtain rfl : (ts, -1) = R := by have := R4.out; simp only [go, fin] at this; rw [if_neg (by omega)] at this; exact this
        go_wp2_with fail
        go_ret
        exact .inl ⟨_, ts, rfl, ⟨a, G4.out.1.mono (by omega), G4.out.2.1.mono (by omega), G4.out.2.2⟩, rfl, BW.out⟩
      · have hnz : (0 : Int) < (nq : Int) := by omega
        have hnz2 : decide ((0 : Int) < (nq : Int)) = true := by simp; omega
        have HCt : Hid (Calls Tryz.prog 112 #[.pointer (some ⟨g, 0, none⟩), .slice au na cu] wr (LsT wr g p (s.length : Int) S Lr ts R)) :=
          target_any X4.out.1 G4.out.1 (by omega) (fun x => G4.out.2.1.names x) (by rw [HNA.out.1, HNA.out.2]) h64 (fun e => by rw [e] at hnq; simp at hnq; omega) (fun k hk => HT.out k (M4.out k hk)) (by omega) R4.out (E2.out.only X4.out.2 (by simpa using hg4)) hg4 hp
        clear hnq
        go_wp2_with fail
        refine HCt.out.mono ?_
        rintro e w5 (⟨tv, t, L', rfl, hTO, hq5, hm5, hl5, hR5, h645, ho5⟩ | ⟨z, rfl, hzR, ho5⟩)
        rotate_left
        · exact ⟨rfl, .inr ⟨z, rfl, hzR, below_trans BW.out (ho5.below (by omega) (by simp; omega))⟩⟩
        have hgm : ∀ (v : Value), (∀ k, v.ownBlock = some k → g + 1 ≤ k) → ∀ k, v.ownBlock = some k → k ∉ [g] := fun v hv k hk hm => by have := hv k hk; simp only [List.mem_singleton] at hm; omega
        have G5 : Hid (OwnG (g + 1) w5 (.slice au na cu) a ∧ TsOwn (g + 1) w5 a ts) := ⟨G4.out.1.only ho5 (hgm _ fun k hk => (G4.out.1.lt hk).1), G4.out.2.1.only ho5 fun t ht u hu => hgm u fun k hk => (G4.out.2.1.lt t ht u hu k hk).1⟩
        have T5 : Hid (TOwn wr.heap.size w5 tv t) := hTO
        have X5 : Hid (RQ w5 g p (s.length : Int) L' ∧ Only [g] w2 w5 ∧ (∀ k ∈ L', k ∈ L0) ∧ go p (s.length : Int) S (.top (ts ++ [t])) L' = R) := ⟨hq5, X4.out.2.trans ho5, fun k hk => M4.out k (hm5 k hk), hR5⟩
        have hs5 : wr.heap.size ≤ w5.heap.size := ho5.size
        have hl5' : L'.length ≤ L0.length := by omega
        unfold Tv.val
        clear hTO hq5 hm5 hR5 ho5 hgm HCt
        go_wp2_with (first
          | (at_builtin; refine app_G tv G5.out.1 (by have := HNA.out; omega) (by omega) rfl (.tmp 27) (.tmp 30) rfl rfl rfl ?_; intro v9 w9 hO9 hB9 hN9 hs9 hw9; have O9 : Hid (OwnG (g + 1) w9 v9 (a ++ [tv])) := hO9; have K9 : Hid (Below (g + 1) w5 w9 ∧ Only (Value.slice au na cu).ownBlock.toList w5 w9 ∧ (v9.ownBlock = (Value.slice au na cu).ownBlock ∨ ∃ k, v9.ownBlock = some k ∧ w5.heap.size ≤ k)) := ⟨hB9, hN9, hw9⟩; clear hO9 hB9 hN9 hw9))
        obtain ⟨a9, c9, hv9⟩ := O9.out.form
        have HL9 : Hid ((a ++ [tv]).length = na + 1) := by show (a ++ [tv]).length = na + 1; rw [List.length_append, HNA.out.1]; rfl
        rw [HL9.out] at hv9
        subst hv9
        have A9 : Hid (Aps (.slice a9 (na + 1) c9) (a ++ [tv])) := G4.out.2.2.snoc (n := wr.heap.size) (m := w5.heap.size) (fun x hx u hu k hk => (G4.out.2.1.lt x hx u hu k hk).2) (fun k hk => (G4.out.1.lt hk).2) (fun u hu k hk => T5.out.lt u hu k hk) T5.out.pair K9.out.2.2 hs5
        have hap : ∀ u ∈ a.flatMap Tv.vals, Ap (.slice au na cu) u := (List.pairwise_cons.1 G4.out.2.2).1
        have T9 : Hid (TsOwn (g + 1) w9 (a ++ [tv]) (ts ++ [t])) := by
          refine TsOwn.snoc ((T5.out.mono (by omega)).only K9.out.2.1 fun u hu k hk hm => ?_) (G5.out.2.only K9.out.2.1 fun x hx u hu k hk hm => ?_)
          · rw [Option.mem_toList] at hm
            have h1 := (T5.out.lt u hu k hk).1
            have h2 := (G4.out.1.lt hm).2
            omega
          · rw [Option.mem_toList] at hm
            exact hap u (List.mem_flatMap.2 ⟨x, hx, hu⟩) k hm hk
        have X9 : Hid (RQ w9 g p (s.length : Int) L' ∧ Only [g] w2 w9) := ⟨X5.out.1.below K9.out.1 (by omega), only_below X5.out.2.1 K9.out.1 (by omega)⟩
        have hlt9 : (ts ++ [t]).length ≤ 64 := by rw [List.length_append]; simp; omega
        clear hap
        go_wp2_with fail
        go_roundw
        case rel => exact ⟨_, _, L', O9.out, T9.out, A9.out, X9.out.1, X9.out.2, X5.out.2.2.2, X5.out.2.2.1, hl5', hlt9⟩
        case measure => (have := HNA.out; simp [slen]; omega)
end Go.Proofs.YtddaoloabfkheaaGreatDoor
