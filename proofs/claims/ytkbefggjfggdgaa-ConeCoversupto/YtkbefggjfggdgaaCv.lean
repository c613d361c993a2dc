/-
  The law of ConeCovers.
-/
import Derived.Test.YtkbefggjfggdgaaAl
import Derived.BigQuiet
import Derived.Deep.Cut
namespace Go.Proofs.Ytkbefggjfggdgaa
open Go.RowKit

theorem filterP_take (f : List UInt8 → Bool) (L : List (List UInt8)) (k : Nat) (h : k < L.length) : (L.take (k + 1)).filter f = (L.take k).filter f ++ (if f (L[k]'h) then [L[k]'h] else []) := by
  rw [take_snoc L k h, List.filter_append]
  by_cases hf : f (L[k]'h) = true <;> simp [hf]
theorem Sm.filt {l : List (List UInt8)} (h : Sm l) (f : List UInt8 → Bool) : Sm (l.filter f) := ⟨Nat.le_trans (List.length_filter_le _ _) h.len, fun x hx => h.each x (List.mem_filter.1 hx).1⟩
theorem Sm.cov {l : List (List UInt8)} (h : Sm l) : Sm (cov l) := (Sm.som false h.dirs.norm).hds
theorem SS.to {w : World} {a : Option Addr} {c n : Nat} {A : List (List UInt8)} (h : SS w (.slice a n c) A) (hn : n = A.length) (k : Nat) (hk : k ≤ A.length) : SS w (.slice a k c) (A.take k) := by
  subst hn
  rcases h with ⟨⟨a', c', e⟩, h0⟩ | ⟨b, off, cap, e, hc, hlt, hcell⟩
  · subst h0
    have : k = 0 := by simpa using hk
    subst this
    exact .inl ⟨⟨a, c, rfl⟩, rfl⟩
  · injection e with e1 e2 e3
    subst e1 e3
    refine .inr ⟨b, off, c, by rw [List.length_take, Nat.min_eq_left hk], by rw [List.length_take]; omega, hlt, fun i u hu => hcell i u ?_⟩
    rw [sc_get] at hu ⊢
    rw [List.getElem?_take] at hu
    split at hu
    · exact hu
    · simp at hu
theorem SS.from {w : World} {b off c n : Nat} {A : List (List UInt8)} (h : SS w (.slice (some ⟨b, off, none⟩) n c) A) (hn : n = A.length) (k : Nat) (hk : k ≤ A.length) : SS w (.slice (some ⟨b, off + k, none⟩) (n - k) (c - k)) (A.drop k) := by
  subst hn
  rcases h with ⟨⟨a', c', e⟩, h0⟩ | ⟨b', off', cap, e, hc, hlt, hcell⟩
  · subst h0
    have : k = 0 := by simpa using hk
    subst this
    exact .inl ⟨⟨_, _, rfl⟩, rfl⟩
  · injection e with e1 e2 e3
    injection e1 with e1
    injection e1 with e4 e5
    subst e3 e4 e5
    refine .inr ⟨b, off + k, c - k, by rw [List.length_drop], by rw [List.length_drop]; omega, hlt, fun i u hu => ?_⟩
    rw [sc_get, List.getElem?_drop] at hu
    have := hcell (k + i) u (by rw [sc_get]; exact hu)
    rwa [← Nat.add_assoc] at this
theorem cov_nodup {ps : List (List UInt8)} (h : ∀ p ∈ ps, okP p = true) : (cov ps).Nodup := by
  have := (coneB_iff.1 (coneE_zero.1 (cov_cones h))).2
  refine this.imp fun {a b} hab e => ?_
  subst e
  have := fol_lt hab
  rw [cf_self] at this
  omega
theorem cut_ne {K : List (List UInt8)} (hn : K.Nodup) (i : Nat) (hi : i < K.length) : ∀ x ∈ K.take i ++ K.drop (i + 1), x ∈ K ∧ x ≠ K[i]'hi := by
  intro x hx
  rcases List.mem_append.1 hx with h | h
  · refine ⟨List.mem_of_mem_take h, fun e => ?_⟩
    obtain ⟨j, hj, ej⟩ := List.mem_iff_getElem.1 h
    rw [List.getElem_take] at ej
    have hj' : j < i := by rw [List.length_take] at hj; omega
    exact List.pairwise_iff_getElem.1 hn j i (by omega) hi hj' (ej.trans e)
  · refine ⟨List.mem_of_mem_drop h, fun e => ?_⟩
    obtain ⟨j, hj, ej⟩ := List.mem_iff_getElem.1 h
    rw [List.getElem_drop] at ej
    rw [List.length_drop] at hj
    exact List.pairwise_iff_getElem.1 hn i (i + 1 + j) hi (by omega) (by omega) (ej.trans e).symm
theorem cut_mem {K : List (List UInt8)} {i : Nat} {x : List UInt8} (h : x ∈ K.take i ++ K.drop (i + 1)) : x ∈ K := by
  rcases List.mem_append.1 h with h | h
  · exact List.mem_of_mem_take h
  · exact List.mem_of_mem_drop h
theorem cov_cut {ps : List (List UInt8)} (h : ∀ p ∈ ps, okP p = true) (i : Nat) (hi : i < (cov ps).length) :
    (ps.all fun p => shw ((cov ps).take i ++ (cov ps).drop (i + 1)) p) = false ∧ (ps.any fun p => dir p == (cov ps)[i]'hi) = true ∧ (cov ps)[i]'hi ≠ [] := by
  have hm := mem_cov.1 (List.getElem_mem hi)
  obtain ⟨⟨h0, p, hp, hd⟩, _⟩ := hm
  have h1 := cov_needs (List.getElem_mem hi) (cut_ne (cov_nodup h) i hi) hd
  refine ⟨?_, ?_, h0⟩
  · cases e : ps.all fun p => shw ((cov ps).take i ++ (cov ps).drop (i + 1)) p with
    | false => rfl
    | true => have := List.all_eq_true.1 e p hp; rw [h1] at this; cases this
  · exact List.any_eq_true.2 ⟨p, hp, by rw [hd]; exact beq_self_eq_true _⟩
theorem SS.room {w : World} {a : Option Addr} {c n : Nat} {A : List (List UInt8)} (h : SS w (.slice a n c) A) (hn : n = A.length) (h0 : 0 < n) : n ≤ c := by
  rcases h with ⟨_, e⟩ | ⟨b, off, cap, e, hc, hlt, hcell⟩
  · subst e; simp at hn; omega
  · injection e with e1 e2 e3
    subst e3; omega
theorem SS.from' {w : World} {b off c n : Nat} {A : List (List UInt8)} (h : SS w (.slice (some ⟨b, off, none⟩) n c) A) (hn : n = A.length) (k : Nat) (hk : k ≤ A.length) (hc : n ≤ c) :
    SS w (.slice (if c = k then some ⟨b, off, none⟩ else some ⟨b, off + k, none⟩) (n - k) (c - k)) (A.drop k) := by
  by_cases e : c = k
  · rw [if_pos e]
    exact .inl ⟨⟨_, _, by rw [show n - k = 0 by omega]⟩, List.drop_eq_nil_of_le (by omega)⟩
  · rw [if_neg e]; exact SS.from h hn k hk
theorem app_row {w : World} {base : Nat} {v x : Value} {l k : List (List UInt8)} (hown : Own base w v l) (hs : SS w x k) (hb : l.length + k.length ≤ 8796093022208) (hbase : base ≤ w.heap.size)
    {ops : Array Oper} {rest : List Oper} {o : Oper} {a : Act} {Q : Exit → Act → World → Prop} (hgd : o.guard = none) (s y : Operand)
    (ho : o.op = .call { callee := .builtin .append, args := #[s, y], argTypes := #[22, 22] }) (hv : a.eval s = v) (hx : a.eval y = x)
    (h : ∀ v' w', Own base w' v' (l ++ k) → Below base w w' → wpList Try.prog ops Q rest (a.put o.dst v') w') :
    wpList Try.prog ops Q (o :: rest) a w := by
  refine app_strs hown (hs.src und35) hb hbase hgd s y ho hv hx ?_
  intro v' w' h1 h2 h3
  exact h v' w' h1 ((Below.refl _ _).grown h2 (by omega) (fun k hk => (World.ownsRow.lt hown k hk).1))
theorem allP_step (f : List UInt8 → Bool) (L : List (List UInt8)) (k : Nat) (h : k < L.length) : (L.take (k + 1)).all f = ((L.take k).all f && f (L[k]'h)) := by
  rw [take_snoc L k h, List.all_append]; simp
theorem anyP_step (f : List UInt8 → Bool) (L : List (List UInt8)) (k : Nat) (h : k < L.length) : (L.take (k + 1)).any f = ((L.take k).any f || f (L[k]'h)) := by
  rw [take_snoc L k h, List.any_append]; simp

/-- the lists in the innermost loop -/
structure InC (G : Nat) (w wr : World) (a3 : Option Addr) (n3 c3 : Nat) (P : List (List UInt8)) (v5 : Value) (K : List (List UInt8)) (v7 : Value) (M : List (List UInt8)) (wi : World) : Prop where
  ss : SS wi (.slice a3 n3 c3) P ∧ SS wi v5 K ∧ SS wi v7 M
  bg : Below G w wi
  bw : Below wr.heap.size wr wi
theorem InC.step {G : Nat} {w wr : World} {a3 : Option Addr} {n3 c3 : Nat} {P : List (List UInt8)} {v5 : Value} {K : List (List UInt8)} {v7 : Value} {M : List (List UInt8)} {wi wj : World} (h : InC G w wr a3 n3 c3 P v5 K v7 M wi) (hw : w.heap.size = G) (_hr : G ≤ wr.heap.size) (b : Below wi.heap.size wi wj) : InC G w wr a3 n3 c3 P v5 K v7 M wj := by
  have h1 := h.bg.size
  have h2 := h.bw.size
  exact ⟨⟨h.ss.1.later b, h.ss.2.1.later b, h.ss.2.2.later b⟩, below_trans h.bg (below_mono b (by omega)), below_trans h.bw (below_mono b (by omega))⟩

set_option maxRecDepth 100000 in
set_option maxHeartbeats 4000000 in
theorem covers_law (C : CC) {w : World} {v : Value} {L : List (List UInt8)} (h : SS w v L) (sm : Sm L) :
    Calls Try.prog 3 #[v] w fun e w' => e = .returned (.bool true) ∧ Below w.heap.size w w' := by
  obtain ⟨a, c, n, hn, rfl, ca⟩ := h.form'
  have CA : Hid (∀ k, (hk : k < L.length) → ∃ b off, a = some ⟨b, off, none⟩ ∧ b < w.heap.size ∧ w.cell? ⟨b, off + k, none⟩ = some (.string (bs L[k]))) := ca
  have HC : Hid CC := C
  have HS : Hid (Sm L) := sm
  have HN : Hid (n = L.length) := hn
  have hnl : n ≤ 4000000 := by rw [hn]; exact sm.len
  obtain ⟨G, hG⟩ : ∃ G, w.heap.size = G := ⟨_, rfl⟩
  have hga : w.heap.size ≤ G := by omega
  clear h sm hn ca C
  go_enter Try.func3, Try.ntmps3
  go_wp2_with fail
  go_loopw [3, 4] (fun o i wr => ∃ k : Nat, k ≤ n ∧ i = .int .i64 k ∧ Own G wr o ((L.take k).filter okP) ∧ Below G w wr) (fun _ i _ => n - (intOf i).toNat)
  case atStart => exact ⟨0, Nat.zero_le _, rfl, Own.nil _ _, Below.refl _ _⟩
  case round =>
    obtain ⟨k, hk, rfl, ho, hbw⟩ := hrel
    have HO : Hid (Own G wr u3 ((L.take k).filter okP)) := ho
    have HW : Hid (Below G w wr) := hbw
    have hz : G ≤ wr.heap.size := by have := hbw.size; omega
    clear ho hbw
    by_cases hlt : k < n
    · have hlt2 : k < L.length := by have := HN.out; omega
      obtain ⟨g1, o1, rfl, hg1, c1⟩ := CA.out k hlt2
      have hft := filterP_take okP L k hlt2
      have hDl : ((L.take k).filter okP).length + 1 ≤ 8796093022208 := by have := ((HS.out.take k).filt okP).len; omega
      have hpl := HS.out.at hlt2
      obtain ⟨p, hp⟩ : ∃ p, L[k]'hlt2 = p := ⟨_, rfl⟩
      rw [hp] at c1 hft hpl
      have d1 : wr.cell? ⟨g1, o1 + k, none⟩ = some (.string (bs p)) := by rw [HW.out.cell (p := ⟨g1, o1 + k, none⟩) (by show g1 < G; omega)]; exact c1
      have HDL : Hid (((L.take k).filter okP).length + 1 ≤ 8796093022208) := hDl
      have HPL : Hid (p.length ≤ 1000000000) := hpl
      have HF : Hid ((L.take (k + 1)).filter okP = (L.take k).filter okP ++ (if okP p = true then [p] else [])) := hft
      clear hp hft hDl hpl
      go_wp2_with fail
      refine (valid_any p wr (by have := HPL.out; omega)).mono ?_
      rintro e w1 ⟨rfl, b1⟩
      have HB1 : Hid (Below G w w1) := below_trans HW.out (below_mono b1 hz)
      have hz1 : G ≤ w1.heap.size := by have := b1.size; omega
      have HO1 : Hid (Own G w1 u3 ((L.take k).filter okP)) := HO.out.later b1
      have d2 : w1.cell? ⟨g1, o1 + k, none⟩ = some (.string (bs p)) := by rw [HB1.out.cell (p := ⟨g1, o1 + k, none⟩) (by show g1 < G; omega)]; exact c1
      clear b1 d1 c1
      cases hok : okP p with
      | false =>
        have HK : Hid (okP p = false) := hok
        clear hok
        go_wp2_with fail
        go_roundw
        case rel => exact ⟨k + 1, by omega, by go_num, by rw [HF.out, HK.out]; simpa using HO1.out, HB1.out⟩
        case measure => simp [intOf]; omega
      | true =>
        have HK : Hid (okP p = true) := hok
        clear hok
        go_wp2_with (at_builtin; refine app_one (base := G) p HO1.out HDL.out hz1 rfl (.tmp 23) (.tmp 28) rfl rfl rfl ?_; intro v' w' ho hbw hbs' hgr hat)
        have HO5 : Hid (Own G w' v' ((L.take (k + 1)).filter okP)) := by rw [HF.out, HK.out]; exact ho
        have HB5 : Hid (Below G w w') := below_trans HB1.out hbw
        clear ho hbw hgr hat
        go_wp2_with fail
        go_roundw
        case rel => exact ⟨k + 1, by omega, by go_num, HO5.out, HB5.out⟩
        case measure => simp [intOf]; omega
    · obtain rfl : k = n := by omega
      obtain ⟨P, hP⟩ : ∃ P, L.filter okP = P := ⟨_, rfl⟩
      have HOE : Hid (Own G wr u3 P) := by
        have := HO.out
        rw [HN.out, List.take_length, hP] at this; exact this
      have HP : Hid (Sm P ∧ ∀ p ∈ P, okP p = true) := by
        rw [← hP]; exact ⟨HS.out.filt okP, fun p hp => (List.mem_filter.1 hp).2⟩
      clear hP HO
      go_wp2_with fail
      refine (HC.out.cover HOE.out.bs HP.out.1).mono ?_
      rintro e w2 ⟨v2, rfl, o2, b2⟩
      obtain ⟨K, hK⟩ : ∃ K, cov P = K := ⟨_, rfl⟩
      rw [hK] at o2
      have HK : Hid (cov P = K ∧ Sm K) := by rw [← hK]; exact ⟨rfl, HP.out.1.cov⟩
      have HB2 : Hid (Below G w w2) := below_trans HW.out (below_mono b2 hz)
      have hz2 : G ≤ w2.heap.size := by have := b2.size; omega
      have HO2 : Hid (SS w2 u3 P ∧ SS w2 v2 K) := ⟨HOE.out.bs.later b2, o2.bs⟩
      clear o2 b2 hK HOE HW
      go_wp2_with fail
      refine (alive_any HC.out _).mono ?_
      rintro e w3 ⟨rfl, b3⟩
      have HB3 : Hid (Below G w w3) := below_trans HB2.out (below_mono b3 hz2)
      have hz3 : G ≤ w3.heap.size := by have := b3.size; omega
      have HO3 : Hid (SS w3 u3 P ∧ SS w3 v2 K) := ⟨HO2.out.1.later b3, HO2.out.2.later b3⟩
      clear b3 HO2 HB2
      go_wp2_with fail
      refine (HC.out.valid HO3.out.2 HK.out.2).mono ?_
      rintro e w4 ⟨rfl, b4⟩
      rw [← HK.out.1, cov_cones HP.out.2]
      have HB4 : Hid (Below G w w4) := below_trans HB3.out (below_mono b4 hz3)
      have hz4 : G ≤ w4.heap.size := by have := b4.size; omega
      have HO4 : Hid (SS w4 u3 P ∧ SS w4 v2 K) := ⟨HO3.out.1.later b4, HO3.out.2.later b4⟩
      clear b4 HO3 HB3
      go_wp2_with fail
      refine (num_any 0 _).mono ?_
      rintro e w4' ⟨rfl, e4⟩
      rw [e4]
      clear e4
      obtain ⟨a3, c3, n3, hn3, rfl, -⟩ := HO4.out.1.form'
      obtain ⟨a5, c5, n5, hn5, rfl, -⟩ := HO4.out.2.form'
      have HN3 : Hid (n3 = P.length ∧ n5 = K.length) := ⟨hn3, hn5⟩
      have hl3 : n3 ≤ 4000000 ∧ n5 ≤ 4000000 := by rw [hn3, hn5]; exact ⟨HP.out.1.len, HK.out.2.len⟩
      obtain ⟨hl3, hl5⟩ := hl3
      clear hn3 hn5
      go_wp2_with fail
      go_loopw [6] (fun i wr => ∃ k : Nat, k ≤ n3 ∧ i = .int .i64 k ∧ (SS wr (.slice a3 n3 c3) P ∧ SS wr (.slice a5 n5 c5) K) ∧ Below G w wr) (fun i _ => n3 - (intOf i).toNat)
      case atStart => exact ⟨0, Nat.zero_le _, rfl, HO4.out, HB4.out⟩
      case round =>
        obtain ⟨j, hj, rfl, ho, hbw⟩ := hrel
        have HO : Hid (SS wr (.slice a3 n3 c3) P ∧ SS wr (.slice a5 n5 c5) K) := ho
        have HW : Hid (Below G w wr) := hbw
        have hz : G ≤ wr.heap.size := by have := hbw.size; omega
        clear ho hbw
        by_cases hlt : j < n3
        · have hlt2 : j < P.length := by have := HN3.out.1; omega
          obtain ⟨a0, c0, e0, c00⟩ := HO.out.1.form
          injection e0 with e1 e2 e3
          subst e1 e3
          obtain ⟨g1, o1, rfl, hg1, c1⟩ := c00 j hlt2
          have hpl := HP.out.1.at hlt2
          have hps : shw K (P[j]'hlt2) = true := by rw [← HK.out.1]; exact cov_shows (List.getElem_mem _)
          obtain ⟨p, hp⟩ : ∃ p, P[j]'hlt2 = p := ⟨_, rfl⟩
          rw [hp] at c1 hpl hps
          have HPL : Hid (p.length ≤ 1000000000 ∧ shw K p = true) := ⟨hpl, hps⟩
          clear hp hpl hps c00 e2
          go_wp2_with fail
          refine (HC.out.shows p HO.out.2 HK.out.2 HPL.out.1).mono ?_
          rintro e w5 ⟨rfl, b5⟩
          rw [HPL.out.2]
          have HB5 : Hid (Below G w w5) := below_trans HW.out (below_mono b5 hz)
          have HO5 : Hid (SS w5 (.slice (some ⟨g1, o1, none⟩) n3 c3) P ∧ SS w5 (.slice a5 n5 c5) K) := ⟨HO.out.1.later b5, HO.out.2.later b5⟩
          clear b5
          go_wp2_with fail
          go_roundw
          case rel => exact ⟨j + 1, by omega, by go_num, HO5.out, HB5.out⟩
          case measure => simp [intOf]; omega
        · go_wp2_with fail
          have HO6 : Hid (SS wr (.slice a3 n3 c3) P ∧ SS wr (.slice a5 n5 c5) K) := ⟨HO.out.1, HO.out.2⟩
          have HB6 : Hid (Below G w wr) := HW.out
          clear HO HW HO4 HB4 hz hlt hj hz4 hz3 hz2 CA HS
          go_loopw [7] (fun i wr => ∃ k : Nat, k ≤ n5 ∧ i = .int .i64 k ∧ (SS wr (.slice a3 n3 c3) P ∧ SS wr (.slice a5 n5 c5) K) ∧ Below G w wr) (fun i _ => n5 - (intOf i).toNat)
          case atStart => exact ⟨0, Nat.zero_le _, rfl, HO6.out, HB6.out⟩
          case round =>
            clear HO6 HB6
            obtain ⟨i, hi, rfl, ho, hbw⟩ := hrel
            have HO : Hid (SS wr (.slice a3 n3 c3) P ∧ SS wr (.slice a5 n5 c5) K) := ho
            have HW : Hid (Below G w wr) := hbw
            have hz : G ≤ wr.heap.size := by have := hbw.size; omega
            clear ho hbw
            by_cases hlt : i < n5
            · have hlt2 : i < K.length := by have := HN3.out.2; omega
              obtain ⟨a0, c0, e0, c00⟩ := HO.out.2.form
              injection e0 with e1 e2 e3
              subst e1 e3
              obtain ⟨g1, o1, rfl, hg1, c1⟩ := c00 i hlt2
              obtain ⟨q, hq⟩ : ∃ q, K[i]'hlt2 = q := ⟨_, rfl⟩
              rw [hq] at c1
              have hcap : n5 ≤ c5 := HO.out.2.room HN3.out.2 (by omega)
              have hc0 : ¬ c5 = 0 := by omega
              have HQ : Hid (P.all (fun p => shw (K.take i ++ K.drop (i + 1)) p) = false ∧ P.any (fun p => dir p == q) = true ∧ q ≠ []) := by
                have := cov_cut HP.out.2 i (by rw [HK.out.1]; exact hlt2)
                simp only [HK.out.1, hq] at this
                exact this
              have HSM : Hid (Sm (K.take i ++ K.drop (i + 1))) := by
                refine ⟨?_, fun x hx => HK.out.2.each x (cut_mem hx)⟩
                have := HK.out.2.len
                rw [List.length_append, List.length_take, List.length_drop]; omega
              have HTo : Hid (SS wr (.slice (some ⟨g1, o1, none⟩) i c5) (K.take i)) := SS.to HO.out.2 HN3.out.2 i (by omega)
              have HKL : Hid (K.length ≤ 4000000) := HK.out.2.len
              have HQK : Hid (∀ w', Below wr.heap.size wr w' → w'.cell? ⟨g1, o1 + i, none⟩ = some (.string (bs q))) := fun w' hb => by rw [hb.cell (p := ⟨g1, o1 + i, none⟩) (by show g1 < wr.heap.size; omega)]; exact c1
              clear c00 e2 hq c1
              go_upto_region 19 with fail
              obtain ⟨v0, hv0⟩ : ∃ v0, Value.slice none 0 0 = v0 := ⟨_, rfl⟩
              have HV0 : Hid (Own wr.heap.size wr v0 []) := by rw [← hv0]; exact Own.nil _ _
              rw [hv0]
              clear hv0
              have hL1 : ([] : List (List UInt8)).length + (K.take i).length ≤ 8796093022208 := by have := HKL.out; rw [List.length_take, List.length_nil]; omega
              have hL2 : (K.take i).length + (K.drop (i + 1)).length ≤ 8796093022208 := by have := HKL.out; rw [List.length_take, List.length_drop]; omega
              have HL : Hid (([] : List (List UInt8)).length + (K.take i).length ≤ 8796093022208 ∧ (K.take i).length + (K.drop (i + 1)).length ≤ 8796093022208) := ⟨hL1, hL2⟩
              clear hL1 hL2
              go_upto_region 20 with (at_builtin; refine app_row (base := wr.heap.size) (v := v0) (l := []) (k := K.take i) (x := .slice (some ⟨g1, o1, none⟩) i c5) HV0.out HTo.out HL.out.1 (Nat.le_refl _) rfl (.tmp 59) (.tmp 62) rfl rfl rfl ?_; intro v6 w6 o6 b6)
              rw [List.nil_append] at o6
              have HO6 : Hid (Own wr.heap.size w6 v6 (K.take i)) := o6
              have HB6 : Hid (Below wr.heap.size wr w6) := b6
              have hz6 : wr.heap.size ≤ w6.heap.size := b6.size
              have HFa : Hid (c5 = i + 1 → SS w6 (.slice (some ⟨g1, o1, none⟩) (n5 - (i + 1)) 0) (K.drop (i + 1))) := fun e => by
                have h1 := HN3.out.2
                exact .inl ⟨⟨_, _, by rw [show n5 - (i + 1) = 0 by omega]⟩, List.drop_eq_nil_of_le (by omega)⟩
              have HFb : Hid (SS w6 (.slice (some ⟨g1, o1 + (i + 1), none⟩) (n5 - (i + 1)) (c5 - (i + 1))) (K.drop (i + 1))) := SS.from (HO.out.2.later b6) HN3.out.2 (i + 1) (by omega)
              have HOw : Hid (SS w6 (.slice a3 n3 c3) P ∧ SS w6 (.slice (some ⟨g1, o1, none⟩) n5 c5) K ∧ Below wr.heap.size wr w6) := ⟨HO.out.1.later b6, HO.out.2.later b6, b6⟩
              clear o6 b6 HTo HV0
              have hi1 : i + 1 ≤ n5 := by omega
              by_cases hcc : c5 = i + 1
              · have e5 : n5 = i + 1 := by omega
                have HD : Hid (K.drop (i + 1) = []) := by have h1 := HN3.out.2; exact List.drop_eq_nil_of_le (by omega)
                subst hcc
                subst e5
                go_upto_region 23 with (at_builtin; refine app_row (base := wr.heap.size) (v := v6) (l := K.take i) (k := K.drop (i + 1))  HO6.out (by exact .inl ⟨⟨_, _, rfl⟩, HD.out⟩) HL.out.2 hz6 rfl (.tmp 64) (.tmp 68) rfl rfl rfl ?_; intro v7 w7 o7 b7)
                have HMM : Hid (InC G w wr a3 n3 c3 P (.slice (some ⟨g1, o1, none⟩) (i + 1) (i + 1)) K v7 (K.take i ++ K.drop (i + 1)) w7) := ⟨⟨HO.out.1.later (below_trans HOw.out.2.2 b7), HO.out.2.later (below_trans HOw.out.2.2 b7), o7.bs⟩, below_trans HW.out (below_mono (below_trans HOw.out.2.2 b7) hz), below_trans HOw.out.2.2 b7⟩
                clear o7 b7 HFa HFb HL HO6 HOw HB6 HO HW
                go_wp2_with fail
                go_loopw [9, 10, 11] (fun al ow j wi => ∃ t : Nat, t ≤ n3 ∧ j = .int .i64 t ∧ al = .bool ((P.take t).all fun p => shw (K.take i ++ K.drop (i + 1)) p) ∧ ow = .bool ((P.take t).any fun p => dir p == q) ∧ InC G w wr a3 n3 c3 P (.slice (some ⟨g1, o1, none⟩) (i + 1) (i + 1)) K v7 (K.take i ++ K.drop (i + 1)) wi) (fun _ _ j _ => n3 - (intOf j).toNat)
                case atStart => exact ⟨0, Nat.zero_le _, rfl, rfl, rfl, HMM.out⟩
                case round =>
                  obtain ⟨t, ht, rfl, rfl, rfl, hin⟩ := hrel
                  have HI : Hid (InC _ _ _ _ _ _ _ _ _ _ _ wr) := hin
                  clear hin
                  have dq : wr.cell? ⟨g1, o1 + i, none⟩ = some (.string (bs q)) := HQK.out wr HI.out.bw
                  have t2 : (bs q).toList = q := bs_toList _
                  by_cases htl : t < n3
                  · have ht2 : t < P.length := by have := HN3.out.1; omega
                    obtain ⟨a0, c0, e0, c00⟩ := HI.out.ss.1.form
                    injection e0 with e1 e2 e3
                    subst e1 e3
                    obtain ⟨g2, o2, rfl, hg2, c2⟩ := c00 t ht2
                    have hpl := HP.out.1.at ht2
                    have hal := allP_step (fun p => shw (K.take i ++ K.drop (i + 1)) p) P t ht2
                    have han := anyP_step (fun p => dir p == q) P t ht2
                    obtain ⟨p, hp⟩ : ∃ p, P[t]'ht2 = p := ⟨_, rfl⟩
                    simp only [hp] at c2 hpl hal han
                    have HPL : Hid (p.length ≤ 1000000000) := hpl
                    obtain ⟨r1, h1⟩ : ∃ r, ((P.take t).all fun p => shw (K.take i ++ K.drop (i + 1)) p) = r := ⟨_, rfl⟩
                    obtain ⟨r2, h2⟩ : ∃ r, ((P.take t).any fun p => dir p == q) = r := ⟨_, rfl⟩
                    rw [h1] at hal
                    rw [h2] at han
                    rw [h1, h2]
                    have HT : Hid (((P.take (t + 1)).all fun p => shw (K.take i ++ K.drop (i + 1)) p) = (r1 && shw (K.take i ++ K.drop (i + 1)) p) ∧ ((P.take (t + 1)).any fun p => dir p == q) = (r2 || dir p == q)) := ⟨hal, han⟩
                    have t1 : (bs (dir p)).toList = dir p := bs_toList _
                    clear hp hpl c00 e2 h1 h2 hal han
                    cases r1 with
                    | false =>
                      go_wp2_with fail
                      cases r2 with
                      | true =>
                        go_quiet (fail)
                        have HX : Hid (InC _ _ _ _ _ _ _ _ _ _ _ (wr.drewN nq)) := InC.step HI.out hG hz (bd wr nq)
                        go_wp2_with fail
                        go_roundw
                        case rel => exact ⟨t + 1, by omega, by go_num, by rw [HT.out.1]; rfl, by rw [HT.out.2]; rfl, HX.out⟩
                        case measure => simp [intOf]; omega
                      | false =>
                        go_quiet ((go_at_call 11; exact Calls.quiet_of_same (dir_any p _ (by have := HPL.out; omega))))
                        have HX : Hid (InC _ _ _ _ _ _ _ _ _ _ _ (wr.drewN nq)) := InC.step HI.out hG hz (bd wr nq)
                        go_wp2_with fail
                        go_roundw
                        case rel => exact ⟨t + 1, by omega, by go_num, by rw [HT.out.1]; rfl, by rw [HT.out.2]; rfl, HX.out⟩
                        case measure => simp [intOf]; omega
                    | true =>
                      go_wp2_with fail
                      refine (HC.out.shows p HI.out.ss.2.2 HSM.out HPL.out).mono ?_
                      rintro e w8 ⟨rfl, b8⟩
                      have HI8 : Hid (InC _ _ _ _ _ _ _ _ _ _ _ w8) := HI.out.step hG hz b8
                      have dq8 : w8.cell? ⟨g1, o1 + i, none⟩ = some (.string (bs q)) := HQK.out w8 HI8.out.bw
                      have c8 : w8.cell? ⟨g2, o2 + t, none⟩ = some (.string (bs p)) := by rw [b8.cell (p := ⟨g2, o2 + t, none⟩) hg2]; exact c2
                      clear b8 dq c2
                      go_wp2_with fail
                      cases r2 with
                      | true =>
                        go_quiet (fail)
                        have HX : Hid (InC _ _ _ _ _ _ _ _ _ _ _ (w8.drewN nq)) := InC.step HI8.out hG hz (bd w8 nq)
                        go_wp2_with fail
                        go_roundw
                        case rel => exact ⟨t + 1, by omega, by go_num, by rw [HT.out.1]; rfl, by rw [HT.out.2]; rfl, HX.out⟩
                        case measure => simp [intOf]; omega
                      | false =>
                        go_quiet ((go_at_call 11; exact Calls.quiet_of_same (dir_any p _ (by have := HPL.out; omega))))
                        have HX : Hid (InC _ _ _ _ _ _ _ _ _ _ _ (w8.drewN nq)) := InC.step HI8.out hG hz (bd w8 nq)
                        go_wp2_with fail
                        go_roundw
                        case rel => exact ⟨t + 1, by omega, by go_num, by rw [HT.out.1]; rfl, by rw [HT.out.2]; rfl, HX.out⟩
                        case measure => simp [intOf]; omega
                  · have ea : ((P.take t).all fun p => shw (K.take i ++ K.drop (i + 1)) p) = false := by
                      rw [List.take_of_length_le (by have := HN3.out.1; omega)]; exact HQ.out.1
                    have eo : ((P.take t).any fun p => dir p == q) = true := by
                      rw [List.take_of_length_le (by have := HN3.out.1; omega)]; exact HQ.out.2.1
                    have t3 : (q == []) = false := by rw [beq_eq_false_iff_ne]; exact HQ.out.2.2
                    rw [ea, eo]
                    clear ea eo
                    have HE : Hid ((SS wr (.slice a3 n3 c3) P ∧ SS wr (.slice (some ⟨g1, o1, none⟩) (i + 1) (i + 1)) K) ∧ Below G w wr) := ⟨⟨HI.out.ss.1, HI.out.ss.2.1⟩, HI.out.bg⟩
                    go_wp2_with fail
                    go_roundw
                    case rel => exact ⟨i + 1, by omega, by go_num, HE.out.1, HE.out.2⟩
                    case measure => simp [intOf]; try omega
              · go_upto_region 23 with (at_builtin; refine app_row (base := wr.heap.size) (v := v6) (l := K.take i) (k := K.drop (i + 1)) (x := .slice (some ⟨g1, o1 + (i + 1), none⟩) (n5 - (i + 1)) (c5 - (i + 1))) HO6.out HFb.out HL.out.2 hz6 rfl (.tmp 64) (.tmp 68) rfl rfl rfl ?_; intro v7 w7 o7 b7)
                have HMM : Hid (InC G w wr a3 n3 c3 P (.slice (some ⟨g1, o1, none⟩) n5 c5) K v7 (K.take i ++ K.drop (i + 1)) w7) := ⟨⟨HO.out.1.later (below_trans HOw.out.2.2 b7), HO.out.2.later (below_trans HOw.out.2.2 b7), o7.bs⟩, below_trans HW.out (below_mono (below_trans HOw.out.2.2 b7) hz), below_trans HOw.out.2.2 b7⟩
                clear o7 b7 HFa HFb HL HO6 HOw HB6 HO HW
                go_wp2_with fail
                go_loopw [9, 10, 11] (fun al ow j wi => ∃ t : Nat, t ≤ n3 ∧ j = .int .i64 t ∧ al = .bool ((P.take t).all fun p => shw (K.take i ++ K.drop (i + 1)) p) ∧ ow = .bool ((P.take t).any fun p => dir p == q) ∧ InC G w wr a3 n3 c3 P (.slice (some ⟨g1, o1, none⟩) n5 c5) K v7 (K.take i ++ K.drop (i + 1)) wi) (fun _ _ j _ => n3 - (intOf j).toNat)
                case atStart => exact ⟨0, Nat.zero_le _, rfl, rfl, rfl, HMM.out⟩
                case round =>
                  obtain ⟨t, ht, rfl, rfl, rfl, hin⟩ := hrel
                  have HI : Hid (InC _ _ _ _ _ _ _ _ _ _ _ wr) := hin
                  clear hin
                  have dq : wr.cell? ⟨g1, o1 + i, none⟩ = some (.string (bs q)) := HQK.out wr HI.out.bw
                  have t2 : (bs q).toList = q := bs_toList _
                  by_cases htl : t < n3
                  · have ht2 : t < P.length := by have := HN3.out.1; omega
                    obtain ⟨a0, c0, e0, c00⟩ := HI.out.ss.1.form
                    injection e0 with e1 e2 e3
                    subst e1 e3
                    obtain ⟨g2, o2, rfl, hg2, c2⟩ := c00 t ht2
                    have hpl := HP.out.1.at ht2
                    have hal := allP_step (fun p => shw (K.take i ++ K.drop (i + 1)) p) P t ht2
                    have han := anyP_step (fun p => dir p == q) P t ht2
                    obtain ⟨p, hp⟩ : ∃ p, P[t]'ht2 = p := ⟨_, rfl⟩
                    simp only [hp] at c2 hpl hal han
                    have HPL : Hid (p.length ≤ 1000000000) := hpl
                    obtain ⟨r1, h1⟩ : ∃ r, ((P.take t).all fun p => shw (K.take i ++ K.drop (i + 1)) p) = r := ⟨_, rfl⟩
                    obtain ⟨r2, h2⟩ : ∃ r, ((P.take t).any fun p => dir p == q) = r := ⟨_, rfl⟩
                    rw [h1] at hal
                    rw [h2] at han
                    rw [h1, h2]
                    have HT : Hid (((P.take (t + 1)).all fun p => shw (K.take i ++ K.drop (i + 1)) p) = (r1 && shw (K.take i ++ K.drop (i + 1)) p) ∧ ((P.take (t + 1)).any fun p => dir p == q) = (r2 || dir p == q)) := ⟨hal, han⟩
                    have t1 : (bs (dir p)).toList = dir p := bs_toList _
                    clear hp hpl c00 e2 h1 h2 hal han
                    cases r1 with
                    | false =>
                      go_wp2_with fail
                      cases r2 with
                      | true =>
                        go_quiet (fail)
                        have HX : Hid (InC _ _ _ _ _ _ _ _ _ _ _ (wr.drewN nq)) := InC.step HI.out hG hz (bd wr nq)
                        go_wp2_with fail
                        go_roundw
                        case rel => exact ⟨t + 1, by omega, by go_num, by rw [HT.out.1]; rfl, by rw [HT.out.2]; rfl, HX.out⟩
                        case measure => simp [intOf]; omega
                      | false =>
                        go_quiet ((go_at_call 11; exact Calls.quiet_of_same (dir_any p _ (by have := HPL.out; omega))))
                        have HX : Hid (InC _ _ _ _ _ _ _ _ _ _ _ (wr.drewN nq)) := InC.step HI.out hG hz (bd wr nq)
                        go_wp2_with fail
                        go_roundw
                        case rel => exact ⟨t + 1, by omega, by go_num, by rw [HT.out.1]; rfl, by rw [HT.out.2]; rfl, HX.out⟩
                        case measure => simp [intOf]; omega
                    | true =>
                      go_wp2_with fail
                      refine (HC.out.shows p HI.out.ss.2.2 HSM.out HPL.out).mono ?_
                      rintro e w8 ⟨rfl, b8⟩
                      have HI8 : Hid (InC _ _ _ _ _ _ _ _ _ _ _ w8) := HI.out.step hG hz b8
                      have dq8 : w8.cell? ⟨g1, o1 + i, none⟩ = some (.string (bs q)) := HQK.out w8 HI8.out.bw
                      have c8 : w8.cell? ⟨g2, o2 + t, none⟩ = some (.string (bs p)) := by rw [b8.cell (p := ⟨g2, o2 + t, none⟩) hg2]; exact c2
                      clear b8 dq c2
                      go_wp2_with fail
                      cases r2 with
                      | true =>
                        go_quiet (fail)
                        have HX : Hid (InC _ _ _ _ _ _ _ _ _ _ _ (w8.drewN nq)) := InC.step HI8.out hG hz (bd w8 nq)
                        go_wp2_with fail
                        go_roundw
                        case rel => exact ⟨t + 1, by omega, by go_num, by rw [HT.out.1]; rfl, by rw [HT.out.2]; rfl, HX.out⟩
                        case measure => simp [intOf]; omega
                      | false =>
                        go_quiet ((go_at_call 11; exact Calls.quiet_of_same (dir_any p _ (by have := HPL.out; omega))))
                        have HX : Hid (InC _ _ _ _ _ _ _ _ _ _ _ (w8.drewN nq)) := InC.step HI8.out hG hz (bd w8 nq)
                        go_wp2_with fail
                        go_roundw
                        case rel => exact ⟨t + 1, by omega, by go_num, by rw [HT.out.1]; rfl, by rw [HT.out.2]; rfl, HX.out⟩
                        case measure => simp [intOf]; omega
                  · have ea : ((P.take t).all fun p => shw (K.take i ++ K.drop (i + 1)) p) = false := by
                      rw [List.take_of_length_le (by have := HN3.out.1; omega)]; exact HQ.out.1
                    have eo : ((P.take t).any fun p => dir p == q) = true := by
                      rw [List.take_of_length_le (by have := HN3.out.1; omega)]; exact HQ.out.2.1
                    have t3 : (q == []) = false := by rw [beq_eq_false_iff_ne]; exact HQ.out.2.2
                    rw [ea, eo]
                    clear ea eo
                    have HE : Hid ((SS wr (.slice a3 n3 c3) P ∧ SS wr (.slice (some ⟨g1, o1, none⟩) n5 c5) K) ∧ Below G w wr) := ⟨⟨HI.out.ss.1, HI.out.ss.2.1⟩, HI.out.bg⟩
                    go_wp2_with fail
                    go_roundw
                    case rel => exact ⟨i + 1, by omega, by go_num, HE.out.1, HE.out.2⟩
                    case measure => simp [intOf]; omega
            · go_wp2_with fail
              go_ret
              exact ⟨rfl, by rw [hG]; exact HW.out⟩
end Go.Proofs.Ytkbefggjfggdgaa
