import Derived.Test.YtpaohkegekhgdacRows2
import Derived.Test.YtpaohkegekhgdacSets
import Derived.Deep.RegionLaw
import Derived.Deep.RegionHeld3
namespace Go.Proofs.Ytpaohkegekhgdac
open Go.RowKit

/-- a list of texts that a machine has -/
structure Sm (l : List (List UInt8)) : Prop where
  len : l.length ≤ 4000000
  each : ∀ x ∈ l, x.length ≤ 1048576
theorem Sm.norm {l : List (List UInt8)} (h : Sm l) : Sm (norm l) := ⟨Nat.le_trans (norm_len l) h.len, fun x hx => h.each x ((mem_norm x l).1 hx)⟩
theorem Sm.at {l : List (List UInt8)} (h : Sm l) {k : Nat} (hk : k < l.length) : (l[k]'hk).length ≤ 1048576 := h.each _ (List.getElem_mem _)
theorem bstep {a b c : World} (h : Below a.heap.size a b) (k : Below b.heap.size b c) : Below a.heap.size a c := below_trans h (below_mono k h.size)
theorem Laid.below' {w w' : World} (h : Laid w w') : Below w.heap.size w w' := h.below

set_option maxHeartbeats 1000000 in
set_option maxRecDepth 100000 in
theorem find_any {w : World} {v : Value} {L : List (List UInt8)} (p : List UInt8) (h : SS w v L) (hL : L.length ≤ 8000000) :
    Calls Try.prog 41 #[v, .string (bs p)] w fun e w' => ∃ z : Int, e = .returned (.int .i64 z) ∧ decide (0 ≤ z) = decide (p ∈ L) ∧ w' = w := by
  obtain ⟨a, c, rfl, ca⟩ := h.form
  have CA : Hid (∀ k, (hk : k < L.length) → ∃ b off, a = some ⟨b, off, none⟩ ∧ b < w.heap.size ∧ w.cell? ⟨b, off + k, none⟩ = some (.string (bs L[k]))) := ca
  clear ca h
  go_enter Try.func41, Try.ntmps41
  go_wp2_with fail
  go_loop [8] (fun i => ∃ k : Nat, k ≤ L.length ∧ i = .int .i64 k ∧ ∀ j, (hj : j < L.length) → j < k → L[j] ≠ p) (fun i => L.length - (intOf i).toNat)
  case atStart => exact ⟨0, Nat.zero_le _, rfl, fun j _ hj => absurd hj (Nat.not_lt_zero _)⟩
  case round =>
    obtain ⟨k, hk, rfl, hno⟩ := hrel
    have HN : Hid (∀ j, (hj : j < L.length) → j < k → L[j] ≠ p) := hno
    clear hno
    by_cases hlt : k < L.length
    · obtain ⟨g1, o1, rfl, hg1, c1⟩ := CA.out k hlt
      by_cases heq : L[k]'hlt = p
      · have t1 : (bs p).toList = p := bs_toList _
        have t2 : (bs (L[k]'hlt)).toList = p := by rw [bs_toList, heq]
        have HE : Hid (L[k]'hlt = p) := heq
        clear heq
        go_wp2_with fail
        go_ret
        refine ⟨k, rfl, ?_, rfl⟩
        have : p ∈ L := by rw [← HE.out]; exact List.getElem_mem _
        simp [this]
      · have t1 : (bs p).toList = p := bs_toList _
        have t2 : (bs (L[k]'hlt)).toList = L[k]'hlt := bs_toList _
        have t3 : (p == (L[k]'hlt)) = false := by rw [beq_eq_false_iff_ne]; exact fun e => heq e.symm
        have HE : Hid (L[k]'hlt ≠ p) := heq
        clear heq
        go_wp2_with fail
        go_round
        case rel =>
          refine ⟨k + 1, by omega, by go_num, fun j hj hjk => ?_⟩
          by_cases e : j = k
          · subst e; exact HE.out
          · exact HN.out j hj (by omega)
        case measure => simp [intOf]; omega
    · obtain rfl : k = L.length := by omega
      go_wp2_with fail
      go_ret
      refine ⟨-1, rfl, ?_, rfl⟩
      have : p ∉ L := fun hp => by
        obtain ⟨j, hj, e⟩ := List.getElem_of_mem hp
        exact HN.out j hj hj e
      simp [this]

set_option maxHeartbeats 1000000 in
theorem contains_any {w : World} {v : Value} {L : List (List UInt8)} (p : List UInt8) (h : SS w v L) (hL : L.length ≤ 8000000) :
    Calls Try.prog 27 #[v, .string (bs p)] w fun e w' => e = .returned (.bool (decide (p ∈ L))) ∧ w' = w := by
  have H : Hid (SS w v L) := h
  clear h
  obtain ⟨r, hr⟩ : ∃ r, decide (p ∈ L) = r := ⟨_, rfl⟩
  rw [hr]
  have HR : Hid (decide (p ∈ L) = r) := hr
  clear hr
  go_enter Try.func27, Try.ntmps27
  go_wp2_with fail
  refine (find_any p H.out hL).mono ?_
  rintro e w1 ⟨z, rfl, hz, rfl⟩
  rw [HR.out] at hz
  have HZ : Hid (decide (0 ≤ z) = r) := hz
  clear hz
  go_wp2_with fail
  go_ret
  exact ⟨by rw [← HZ.out]; rfl, rfl⟩

set_option maxHeartbeats 1000000 in
theorem has_any {w : World} {v : Value} {L : List (List UInt8)} (p : List UInt8) (h : SS w v L) (hL : L.length ≤ 8000000) :
    Calls Try.prog 13 #[v, .string (bs p)] w fun e w' => e = .returned (.bool (decide (p ∈ L))) ∧ w' = w := by
  have H : Hid (SS w v L) := h
  clear h
  obtain ⟨r, hr⟩ : ∃ r, decide (p ∈ L) = r := ⟨_, rfl⟩
  rw [hr]
  have HR : Hid (decide (p ∈ L) = r) := hr
  clear hr
  go_enter Try.func13, Try.ntmps13
  go_wp2_with fail
  refine (contains_any p H.out hL).mono ?_
  rintro e w1 ⟨rfl, rfl⟩
  rw [HR.out]
  go_wp2_with fail
  go_ret
  exact ⟨rfl, rfl⟩

set_option maxHeartbeats 1000000 in
theorem take_any {w : World} {base : Nat} {v x : Value} {l k : List (List UInt8)} (wt : Bool) (hown : Own base w v l) (hs : SS w x k) (hb : l.length + k.length ≤ 8000000) (hbase : base ≤ w.heap.size) :
    Calls Try.prog 54 #[v, x, .bool wt] w fun e w' => ∃ v', e = .returned v' ∧ Own base w' v' (l ++ if wt then k else []) ∧ Below base w w' := by
  have HO : Hid (Own base w v l) := hown
  have HS : Hid (Src Try.prog 1 22 x k.length (sc k) w) := hs.src und22
  clear hown hs
  cases wt
  · go_enter Try.func54, Try.ntmps54
    go_wp2_with fail
    go_ret
    exact ⟨v, rfl, by simpa using HO.out, Below.refl _ _⟩
  · go_enter Try.func54, Try.ntmps54
    go_wp2_with (at_builtin; refine app_strs HO.out HS.out (by omega) hbase rfl (.tmp 10) (.tmp 11) rfl rfl rfl ?_; intro v' w' h1 h2 h3)
    have H1 : Hid (Own base w' v' (l ++ k)) := h1
    have H2 : Hid (Below base w w') := (Below.refl _ _).grown h2 hbase (fun k hk => (HO.out.lt hk).1)
    clear h1 h2 h3
    go_wp2_with fail
    go_ret
    exact ⟨v', rfl, by simpa using H1.out, H2.out⟩
end Go.Proofs.Ytpaohkegekhgdac
