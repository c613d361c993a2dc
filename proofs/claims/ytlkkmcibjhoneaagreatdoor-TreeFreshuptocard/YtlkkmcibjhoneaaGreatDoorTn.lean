/-
  What TreeSound asks: among, in; a tree beside what it has told.
-/
import Derived.Test.YtlkkmcibjhoneaaGreatDoorJTt3
import Derived.Test.YtlkkmcibjhoneaaGreatDoorJTo
import Derived.Test.YtlkkmcibjhoneaaGreatDoorJLent
namespace Go.Proofs.YtlkkmcibjhoneaaGreatDoor
open Go.RowKit

set_option maxHeartbeats 1000000 in
set_option maxRecDepth 100000 in
theorem among_any {w : World} {v : Value} {L : List (List UInt8)} (p : List UInt8) (h : SS w v L) (hL : L.length ≤ 8000000) :
    Calls Tryz.prog 26 #[v, .string (bs p)] w fun e w' => e = .returned (.bool (decide (p ∈ L))) ∧ w' = w := by
  obtain ⟨a, c, n, hn, rfl, ca⟩ := h.form'
  have CA : Hid (∀ k, (hk : k < L.length) → ∃ b off, a = some ⟨b, off, none⟩ ∧ b < w.heap.size ∧ w.cell? ⟨b, off + k, none⟩ = some (.string (bs L[k]))) := ca
  obtain ⟨r, hr⟩ : ∃ r, decide (p ∈ L) = r := ⟨_, rfl⟩
  rw [hr]
  have HR : Hid (decide (p ∈ L) = r) := hr
  have HN : Hid (n = L.length) := hn
  have hnl : n ≤ 8000000 := by omega
  clear ca h hr hn hL
  go_enter Tryz.func26, Tryz.ntmps26
  go_wp2_with fail
  go_loop [5] (fun i => ∃ k : Nat, k ≤ n ∧ i = .int .i64 k ∧ ∀ j, (hj : j < L.length) → j < k → L[j] ≠ p) (fun i => n - (intOf i).toNat)
  case atStart => exact ⟨0, Nat.zero_le _, rfl, fun j _ hj => absurd hj (Nat.not_lt_zero _)⟩
  case round =>
    obtain ⟨k, hk, rfl, hno⟩ := hrel
    have HNO : Hid (∀ j, (hj : j < L.length) → j < k → L[j] ≠ p) := hno
    clear hno
    by_cases hlt : k < n
    · have hlt2 : k < L.length := by have := HN.out; omega
      obtain ⟨g1, o1, rfl, hg1, c1⟩ := CA.out k hlt2
      by_cases heq : L[k]'hlt2 = p
      · have t1 : (bs p).toList = p := bs_toList _
        have t2 : (bs (L[k]'hlt2)).toList = p := by rw [bs_toList, heq]
        have HE : Hid (L[k]'hlt2 = p) := heq
        clear heq
        go_wp2_with fail
        go_ret
        have : p ∈ L := by rw [← HE.out]; exact List.getElem_mem _
        exact ⟨by rw [← HR.out, decide_eq_true this]; rfl, rfl⟩
      · have t1 : (bs p).toList = p := bs_toList _
        have t2 : (bs (L[k]'hlt2)).toList = L[k]'hlt2 := bs_toList _
        have t3 : ((L[k]'hlt2) == p) = false := by rw [beq_eq_false_iff_ne]; exact heq
        have HE : Hid (L[k]'hlt2 ≠ p) := heq
        clear heq
        go_wp2_with fail
        go_round
        case rel =>
          refine ⟨k + 1, by omega, by go_num, fun j hj hjk => ?_⟩
          by_cases e : j = k
          · subst e; exact HE.out
          · exact HNO.out j hj (by omega)
        case measure => simp [intOf]; omega
    · go_wp2_with fail
      go_ret
      have : p ∉ L := fun hp => by
        obtain ⟨j, hj, e⟩ := List.getElem_of_mem hp
        exact HNO.out j hj (by have := HN.out; omega) e
      exact ⟨by rw [← HR.out, decide_eq_false this]; rfl, rfl⟩

set_option maxRecDepth 100000 in
theorem in_any {w : World} {v : Value} {L : List (List UInt8)} (p : List UInt8) (h : SS w v L) (hL : L.length ≤ 8000000) :
    Calls Tryz.prog 24 #[v, .string (bs p)] w fun e w' => e = .returned (.bool (hasD L p)) ∧ w' = w := by
  have H : Hid (SS w v L) := h
  obtain ⟨r, hr⟩ : ∃ r, hasD L p = r := ⟨_, rfl⟩
  rw [hr]
  have HR : Hid (hasD L p = r) := hr
  clear h hr
  have t1 : (bs p).toList = p := bs_toList _
  cases p with
  | nil =>
    go_enter Tryz.func24, Tryz.ntmps24
    go_wp2_with fail
    go_ret
    exact ⟨by rw [← HR.out]; rfl, rfl⟩
  | cons x p =>
    go_enter Tryz.func24, Tryz.ntmps24
    go_wp2_with fail
    refine (among_any (x :: p) H.out hL).mono ?_
    rintro e w1 ⟨rfl, rfl⟩
    go_wp2_with fail
    go_ret
    exact ⟨by rw [← HR.out]; simp [hasD], rfl⟩
theorem FS.stay {w w' : World} {v : Value} {l : List Fl} (h : FS w v l) (hz : w.heap.size ≤ w'.heap.size) (hs : ∀ k, v.ownBlock = some k → w'.heap[k]? = w.heap[k]?) : FS w' v l := by
  rcases h with h | ⟨b, off, cap, rfl, hc, hlt, hcell⟩
  · exact .inl h
  · exact .inr ⟨b, off, cap, rfl, hc, Nat.lt_of_lt_of_le hlt hz, fun i u hu => (cell_stay (hs b rfl) _).trans (hcell i u hu)⟩
theorem SS.stay {w w' : World} {v : Value} {l : List (List UInt8)} (h : SS w v l) (hz : w.heap.size ≤ w'.heap.size) (hs : ∀ k, v.ownBlock = some k → w'.heap[k]? = w.heap[k]?) : SS w' v l := by
  rcases h with h | ⟨b, off, cap, rfl, hc, hlt, hcell⟩
  · exact .inl h
  · exact .inr ⟨b, off, cap, rfl, hc, Nat.lt_of_lt_of_le hlt hz, fun i u hu => (cell_stay (hs b rfl) _).trans (hcell i u hu)⟩
theorem fnd_has (l : List Fl) (p : List UInt8) : (fnd l p).isSome = hasF l p := by
  unfold fnd hasF
  induction l with
  | nil => rfl
  | cons f l ih =>
    rw [List.find?_cons, List.any_cons, ← ih]
    by_cases h : f.path = p
    · simp [h]
    · simp [h]
/-- a tree, and beside it the files and directories that it has told -/
def SX (TA : World → (Nat → Prop) → Nat → TT → Prop) (w W : World) (c : Nat) (T : TT) (vf : Value) (fl : List Fl) (vd : Value) (D : List (List UInt8)) : Prop :=
  ∃ F, TA W F c T ∧ Below w.heap.size w W ∧ w.heap.size ≤ W.heap.size ∧ (∀ k, F k → w.heap.size ≤ k) ∧ FS W vf fl ∧ SS W vd D ∧
    (∀ k, vf.ownBlock = some k → ¬ F k ∧ k < W.heap.size) ∧ (∀ k, vd.ownBlock = some k → ¬ F k ∧ k < W.heap.size)
section
variable {TA : World → (Nat → Prop) → Nat → TT → Prop} {w W W' : World} {c : Nat} {T R : TT} {vf vd : Value} {fl : List Fl} {D : List (List UInt8)}
theorem SX.tb (h : SX TA w W c T vf fl vd D) : Tb TA w.heap.size w W c T := by
  obtain ⟨F, h1, h2, h3, h4, _⟩ := h
  exact ⟨F, h1, h2, h3, h4⟩
theorem SX.fs (h : SX TA w W c T vf fl vd D) : FS W vf fl := by
  obtain ⟨_, _, _, _, _, h, _⟩ := h
  exact h
theorem SX.ss (h : SX TA w W c T vf fl vd D) : SS W vd D := by
  obtain ⟨_, _, _, _, _, _, h, _⟩ := h
  exact h
theorem SX.bel (h : SX TA w W c T vf fl vd D) : Below w.heap.size w W := by
  obtain ⟨_, _, h, _⟩ := h
  exact h
theorem SX.later (C : TcP TA) (h : SX TA w W c T vf fl vd D) (hb : Below W.heap.size W W') : SX TA w W' c T vf fl vd D := by
  obtain ⟨F, h1, h2, h3, h4, h5, h6, h7, h8⟩ := h
  exact ⟨F, C.later h1 hb, h2.trans (below_mono hb h3), Nat.le_trans h3 hb.size, h4, h5.later hb, h6.later hb, fun k hk => ⟨(h7 k hk).1, Nat.lt_of_lt_of_le (h7 k hk).2 hb.size⟩, fun k hk => ⟨(h8 k hk).1, Nat.lt_of_lt_of_le (h8 k hk).2 hb.size⟩⟩
theorem SX.step (h : SX TA w W c T vf fl vd D) {Q : Ending → World → Prop} {f : FuncId} {args : Array Value}
    (hs : ∀ F, TA W F c T → Calls Tryz.prog f args W fun e w' => Q e w' ∧ TA w' (nwF F W w') c R ∧ OnlyP F W w') :
    Calls Tryz.prog f args W fun e w' => Q e w' ∧ SX TA w w' c R vf fl vd D := by
  obtain ⟨F, h1, h2, h3, h4, h5, h6, h7, h8⟩ := h
  refine (hs F h1).mono fun e w2 ⟨hq, hc, ho⟩ => ⟨hq, nwF F W w2, hc, h2.trans (ho.below h3 h4), Nat.le_trans h3 ho.size, ?_, h5.stay ho.size (fun k hk => ho.block k (h7 k hk).2 (h7 k hk).1), h6.stay ho.size (fun k hk => ho.block k (h8 k hk).2 (h8 k hk).1), ?_, ?_⟩
  · rintro k (hk | hk)
    · exact h4 k hk
    · exact Nat.le_trans h3 hk.1
  · refine fun k hk => ⟨?_, Nat.lt_of_lt_of_le (h7 k hk).2 ho.size⟩
    rintro (hf | hf)
    · exact (h7 k hk).1 hf
    · have := (h7 k hk).2
      have := hf.1
      omega
  · refine fun k hk => ⟨?_, Nat.lt_of_lt_of_le (h8 k hk).2 ho.size⟩
    rintro (hf | hf)
    · exact (h8 k hk).1 hf
    · have := (h8 k hk).2
      have := hf.1
      omega
end
theorem TSz.up {n : Nat} {T : TT} (h : TSz n T) {k m : Nat} (hk : n + k ≤ m) : TSz m (T.up k) :=
  ⟨Nat.le_trans h.nf (by omega), Nat.le_trans h.nd (by omega), Nat.le_trans h.nj (by omega), Nat.le_trans h.nt (by omega), by have := h.ns; show T.st + k ≤ m; omega, h.ef, h.s1⟩
theorem TSz.ins {n : Nat} {T : TT} (h : TSz n T) {k m : Nat} {p : List UInt8} (hl : (ins p T.ds).length = T.ds.length + 1) (hk : n + k + 1 ≤ m) : TSz m { T.up k with ds := ins p T.ds } :=
  ⟨Nat.le_trans h.nf (by omega), by have := h.nd; show (Go.Proofs.YtlkkmcibjhoneaaGreatDoor.ins p T.ds).length ≤ m; omega, Nat.le_trans h.nj (by omega), Nat.le_trans h.nt (by omega), by have := h.ns; show T.st + k ≤ m; omega, h.ef, h.s1⟩
end Go.Proofs.YtlkkmcibjhoneaaGreatDoor
