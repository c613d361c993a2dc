import Derived.Test.YtpaohkegekhgdacPath
import Derived.Test.YtpaohkegekhgdacBase
namespace Go.Proofs.Ytpaohkegekhgdac
open Go.RowKit

theorem Own.only {S : List Nat} {base : Nat} {w w' : World} {v : Value} {l : List (List UInt8)} (h : Own base w v l) (ho : Only S w w') (hn : ∀ k, v.ownBlock = some k → k ∉ S) : Own base w' v l := by
  refine ⟨h.1, ?_⟩
  rcases h.2 with ⟨rfl, h0⟩ | ⟨g, cap, cur, rfl, hb, hg, hr⟩
  · exact .inl ⟨rfl, h0⟩
  · exact .inr ⟨g, cap, cur, rfl, hb, by rw [ho.block g (Array.getElem?_eq_some_iff.1 hg).1 (hn g rfl)]; exact hg, hr⟩
theorem Own.later {base : Nat} {w w' : World} {v : Value} {l : List (List UInt8)} (h : Own base w v l) (hb : Below w.heap.size w w') : Own base w' v l :=
  h.only (Only.of_below hb []) (by simp)
theorem Own.lt {base : Nat} {w : World} {v : Value} {l : List (List UInt8)} (h : Own base w v l) {k : Nat} (hk : v.ownBlock = some k) : base ≤ k ∧ k < w.heap.size := World.ownsRow.lt h k hk

theorem cell_one_str (w : World) (u : Value) (k : TypeId) : ∀ j x, [u][j]? = some x → (w.alloc (.cells #[u] k)).cell? ((⟨w.heap.size, 0, none⟩ : Addr).add j) = some x := by
  intro j x hx
  cases j with
  | zero => simp at hx; subst hx; rw [add_lit]; simp
  | succ j => simp at hx
theorem src_one (w : World) (p : List UInt8) : Src Try.prog 1 22 (.slice (some ⟨w.heap.size, 0, none⟩) 1 1) [p].length (sc [p]) (w.alloc (.cells #[.string (bs p)] 9)) :=
  Src.ofSlice _ und22 ⟨w.heap.size, 0, none⟩ 1 1 (sc [p]) (by simp [sc]) (cell_one_str w _ 9) (sc_one _)

/-- append of one text onto texts of the call's own -/
theorem app_one {w : World} {base : Nat} {v : Value} {l : List (List UInt8)} (p : List UInt8) (hown : Own base w v l) (hb : l.length + 1 ≤ 8796093022208) (hbase : base ≤ w.heap.size)
    {ops : Array Oper} {rest : List Oper} {o : Oper} {a : Act} {Q : Exit → Act → World → Prop} (hgd : o.guard = none) (s y : Operand)
    (ho : o.op = .call { callee := .builtin .append, args := #[s, y], argTypes := #[22, 22] }) (hv : a.eval s = v) (hx : a.eval y = .slice (some ⟨w.heap.size, 0, none⟩) 1 1)
    (h : ∀ v' w', Own base w' v' (l ++ [p]) → Below base w w' → base ≤ w'.heap.size → w.grownBy w' v.ownBlock → (v'.ownBlock = v.ownBlock ∨ v'.ownBlock = some (w.heap.size + 1)) → wpList Try.prog ops Q rest (a.put o.dst v') w') :
    wpList Try.prog ops Q (o :: rest) a (w.alloc (.cells #[.string (bs p)] 9)) := by
  refine app_strs (base := base) (l := l) (k := [p]) (World.ownsRow.alloc hown _) (src_one w p) (by simpa using hb) (by simp; omega) hgd s y ho hv hx ?_
  intro v' w' h1 h2 h3
  have hlt := World.ownsRow.lt hown
  have hB : Below base w w' := ((Below.refl _ _).alloc hbase _).grown h2 (by simp; omega) (fun k hk => (hlt k hk).1)
  refine h v' w' h1 hB (Nat.le_trans hbase hB.size) ((World.grownBy_alloc w _ _).trans h2) (by simpa using h3)

theorem SS.form {w : World} {v : Value} {L : List (List UInt8)} (h : SS w v L) : ∃ a c, v = .slice a L.length c ∧ (∀ k, (hk : k < L.length) → ∃ b off, a = some ⟨b, off, none⟩ ∧ b < w.heap.size ∧ w.cell? ⟨b, off + k, none⟩ = some (.string (bs L[k]))) := by
  rcases h with ⟨⟨a, c, rfl⟩, rfl⟩ | ⟨b, off, cap, rfl, hc, hlt, hcell⟩
  · exact ⟨a, c, rfl, fun k hk => by simp at hk⟩
  · exact ⟨_, _, rfl, fun k hk => ⟨b, off, rfl, hlt, hcell k _ (by simp [sc_get, hk])⟩⟩

theorem drop_same {α : Type} [DecidableEq α] {A B : List α} {k : Nat} (ha : k < A.length) (hb : k < B.length) : decide (A.drop k = B.drop k) = (decide (A[k] = B[k]) && decide (A.drop (k + 1) = B.drop (k + 1))) := by
  have e1 := List.drop_eq_getElem_cons ha
  have e2 := List.drop_eq_getElem_cons hb
  rw [Bool.eq_iff_iff]
  simp only [Bool.and_eq_true, decide_eq_true_eq]
  rw [e1, e2, List.cons.injEq]

set_option maxHeartbeats 1000000 in
set_option maxRecDepth 100000 in
theorem same_any {w : World} {va vb : Value} {A B : List (List UInt8)} (h1 : SS w va A) (h2 : SS w vb B) (hA : A.length ≤ 9223372036854775807) :
    Calls Try.prog 12 #[va, vb] w fun e w' => e = .returned (.bool (decide (A = B))) ∧ ∃ n, w' = w.drewN n := by
  obtain ⟨a, c, rfl, ca⟩ := h1.form
  obtain ⟨b, c', rfl, cb⟩ := h2.form
  have CA : Hid (∀ k, (hk : k < A.length) → ∃ b off, a = some ⟨b, off, none⟩ ∧ b < w.heap.size ∧ w.cell? ⟨b, off + k, none⟩ = some (.string (bs A[k]))) := ca
  have CB : Hid (∀ k, (hk : k < B.length) → ∃ b' off, b = some ⟨b', off, none⟩ ∧ b' < w.heap.size ∧ w.cell? ⟨b', off + k, none⟩ = some (.string (bs B[k]))) := cb
  clear ca cb h1 h2
  by_cases hl : A.length = B.length
  · have e1 : (((A.length : Int)) != (B.length : Int)) = false := by rw [hl]; simp
    obtain ⟨r, hr⟩ : ∃ r, decide (A = B) = r := ⟨_, rfl⟩
    rw [hr]
    have HR : Hid (decide (A.drop 0 = B.drop 0) = r) := hr
    clear hr
    go_enter Try.func12, Try.ntmps12
    go_wp2_with fail
    go_loopw [5] (fun i wr => ∃ k n : Nat, k ≤ A.length ∧ i = .int .i64 k ∧ wr = w.drewN n ∧ decide (A.drop k = B.drop k) = r) (fun i _ => A.length - (intOf i).toNat)
    case atStart => exact ⟨0, 0, Nat.zero_le _, rfl, rfl, HR.out⟩
    case round =>
      obtain ⟨k, n, hk, rfl, rfl, hd⟩ := hrel
      have HD : Hid (decide (A.drop k = B.drop k) = r) := hd
      clear hd
      by_cases hlt : k < A.length
      · have hlt2 : k < B.length := by omega
        obtain ⟨g1, o1, rfl, hg1, c1⟩ := CA.out k hlt
        obtain ⟨g2, o2, rfl, hg2, c2⟩ := CB.out k hlt2
        have hd := HD.out
        rw [drop_same hlt hlt2] at hd
        by_cases heq : A[k]'hlt = B[k]'hlt2
        · have t1 : (bs (A[k]'hlt)).toList = A[k]'hlt := bs_toList _
          have t2 : (bs (B[k]'hlt2)).toList = A[k]'hlt := by rw [bs_toList, heq]
          have hd2 : decide (A.drop (k + 1) = B.drop (k + 1)) = r := by rw [← hd]; simp [heq]
          have HD2 : Hid (decide (A.drop (k + 1) = B.drop (k + 1)) = r) := hd2
          clear hd hd2
          go_wp2_with fail
          go_region
          go_wp2_with fail
          go_roundw
          case rel => exact ⟨k + 1, n + 1, by omega, by go_num, rfl, HD2.out⟩
          case measure => simp [intOf]; omega
        · have t1 : (bs (A[k]'hlt)).toList = A[k]'hlt := bs_toList _
          have t2 : (bs (B[k]'hlt2)).toList = B[k]'hlt2 := bs_toList _
          have t3 : ((A[k]'hlt) == (B[k]'hlt2)) = false := by rw [beq_eq_false_iff_ne]; exact heq
          have hd2 : false = r := by rw [← hd]; simp [heq]
          subst hd2
          clear hd
          go_wp2_with fail
          go_region
          go_wp2_with fail
          go_ret
          exact ⟨rfl, n + 1, rfl⟩
      · obtain rfl : k = A.length := by omega
        have hd := HD.out
        have hd2 : true = r := by rw [← hd, List.drop_length, hl, List.drop_length]; simp
        subst hd2
        clear hd
        go_wp2_with fail
        go_ret
        exact ⟨rfl, n, rfl⟩
  · have e1 : (((A.length : Int)) != (B.length : Int)) = true := by rw [bne_iff_ne]; omega
    have e2 : decide (A = B) = false := by rw [decide_eq_false_iff_not]; intro e; exact hl (by rw [e])
    rw [e2]
    go_enter Try.func12, Try.ntmps12
    go_wp2_with fail
    go_ret
    exact ⟨rfl, 0, rfl⟩
end Go.Proofs.Ytpaohkegekhgdac
