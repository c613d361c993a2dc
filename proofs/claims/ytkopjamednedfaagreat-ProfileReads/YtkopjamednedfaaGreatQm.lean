/-
  The lines of a text, one after another.
-/
import Derived.Test.YtkopjamednedfaaGreatQr
import Derived.Test.YtkopjamednedfaaGreatPf5
import Derived.Test.YtkopjamednedfaaGreatQl
import Derived.Lib.Bytealg
import Derived.Lib.IndexBytes
namespace Go.Proofs.YtkopjamednedfaaGreat
open Go.RowKit Go.Shelf
attribute [local go_sem] Oper.semAt_some

theorem heap_setCell (w : World) (g i : Nat) (v : Value) {cur : Array Value} {e : TypeId} {fr : Nat × Nat} (h : w.heap[g]? = some (.cells cur e fr)) :
    (w.setCell ⟨g, i, none⟩ v).heap[g]? = some (.cells (cur.setIfInBounds i v) e fr) := by
  simp [World.setCell, Array.getElem?_modify, h]
theorem ib_app (c : UInt8) : ∀ (a b : List UInt8), c ∉ a → Lib.indexByte (a ++ c :: b) c = (a.length : Int)
  | [], b, _ => by simp [Lib.indexByte]
  | x :: r, b, h => by
    have hx : x ≠ c := fun e => h (by simp [e])
    have ih := ib_app c r b (fun e => h (by simp [e]))
    rw [List.cons_append, Lib.indexByte, ih]
    simp [hx]
theorem cut_split (c : UInt8) : ∀ (n : Nat) (l : List UInt8), l.length ≤ n → (c ∉ l) ∨ ∃ a b, l = a ++ c :: b ∧ c ∉ a
  | _, [], _ => .inl (by simp)
  | 0, x :: r, h => by simp at h
  | n + 1, x :: r, h => by
    by_cases hx : x = c
    · exact .inr ⟨[], r, by simp [hx], by simp⟩
    · rcases cut_split c n r (by simpa using h) with h1 | ⟨a, b, h1, h2⟩
      · exact .inl (by simp [h1, Ne.symm hx])
      · exact .inr ⟨x :: a, b, by simp [h1], by simp [h2, Ne.symm hx]⟩

set_option maxHeartbeats 1000000 in
set_option maxRecDepth 100000 in
theorem ix0_any (l : List UInt8) (w : World) :
    Calls Tryz.prog 83 #[.string (bs l), .int .u8 10] w fun e w' => e = .returned (.int .i64 (Lib.indexByte l 10)) ∧ w' = w := by
  go_enter Tryz.func83, Tryz.ntmps83
  go_wp2
  rw [run_callFunc_extern Tryz.func96 (by kernel_rfl) (by kernel_rfl) (by kernel_rfl) (e := Extern.BytealgIndexByte.indexByte) (by kernel_rfl), Lib.run_indexByteString]
  simp only [Result.andThen]
  rw [Oper.upon_value]
  go_wp2
  go_ret
  exact ⟨rfl, rfl⟩
theorem ix_any (l : List UInt8) (w : World) :
    Calls Tryz.prog 70 #[.string (bs l), .int .u8 10] w fun e w' => e = .returned (.int .i64 (Lib.indexByte l 10)) ∧ w' = w := by
  go_enter Tryz.func70, Tryz.ntmps70
  go_wp2_with fail
  refine (ix0_any l w).mono ?_
  rintro e w1 ⟨rfl, rfl⟩
  go_wp2_with fail
  go_ret
  exact ⟨rfl, rfl⟩
theorem lines_any (s : List UInt8) (w : World) : Calls Tryz.prog 49 #[.string (bs s)] w fun e w' => e = .returned (.func (.func 69) #[] #[.pointer (some ⟨w.heap.size, 0, none⟩)]) ∧ w' = w.alloc (.cells #[.string (bs s)] 9) := by
  go_enter Tryz.func49, Tryz.ntmps49
  go_wp2_with fail
  go_ret
  exact ⟨rfl, rfl⟩

theorem grown_set (w : World) (g o : Nat) (v : Value) : w.grownBy (w.setCell ⟨g, o, none⟩ v) (some g) :=
  ⟨rfl, rfl, rfl, by simp [World.setCell], fun k _ hk => Below.heap_setCell _ _ _ _ (fun e => hk (by rw [e]))⟩
theorem grown_drew (w : World) (n : Nat) (r : Option Nat) : w.grownBy (w.drewN n) r := ⟨rfl, rfl, rfl, Nat.le_refl _, fun _ _ _ => rfl⟩
theorem take1 (a b : List UInt8) (c : UInt8) : (a ++ c :: b).take (a.length + 1) = a ++ [c] := by
  have e : a ++ c :: b = (a ++ [c]) ++ b := by simp
  rw [e]; exact List.take_left' (by simp)
theorem drop1 (a b : List UInt8) (c : UInt8) : (a ++ c :: b).drop (a.length + 1) = b := by
  have e : a ++ c :: b = (a ++ [c]) ++ b := by simp
  rw [e]; exact List.drop_left' (by simp)
def leftOf (Bs : Nat) (w : World) : Nat := match w.cell? ⟨Bs, 0, none⟩ with | some (.string b) => b.size | _ => 0
theorem ib_none {l : List UInt8} (h : (10 : UInt8) ∉ l) : Lib.indexByte l 10 = -1 := by
  induction l with
  | nil => rfl
  | cons x r ih =>
    have hx : (x == 10) = false := by simp; exact fun e => h (by simp [e])
    rw [Lib.indexByte, hx, ih (fun e => h (by simp [e]))]; rfl

set_option maxRecDepth 100000 in
set_option maxHeartbeats 4000000 in
theorem lines_gives (s : List UInt8) (n Bs : Nat) (hs : s.length ≤ 4194304) : Gives Tryz.prog n 69 #[.pointer (some ⟨Bs, 0, none⟩)] (fun x : List UInt8 => #[.string (bs x)]) Bs (some (.cells #[.string (bs s)] 9 (0, 0))) (lnz s) := by
  intro l J Jx W hJ hJx hW hY h0
  have HJ : Hid (∀ pre A B, J pre A → A.grownBy B (some Bs) → J pre B) := hJ
  have HY : Hid (∀ pre x W1, J pre W1 → (∃ r, lnz s = pre ++ x :: r) → YieldAt Fence.wide (n - 1) Tryz.prog l #[.string (bs x)] W1 fun e W' =>
      (e = .returned (.bool true) ∧ J (pre ++ [x]) W' ∧ W'.heap[Bs]? = W1.heap[Bs]?) ∨ (e = .returned (.bool false) ∧ Jx W')) := hY
  clear hJ hY hJx
  refine callsIn_of_wp Tryz.func69 rfl trivial ?_ rfl
  simp only [Tryz.ntmps69, List.size_toArray, List.length_cons, List.length_nil, Nat.reduceAdd, Nat.reduceSub, Array.replicate_succ, Array.replicate_zero, List.push_toArray, List.append_toArray, List.nil_append, List.cons_append]
  gi_wp2
  gi_loopw [3] (fun _ wr => ∃ (pre : List (List UInt8)) (rest : List UInt8), wr.heap[Bs]? = some (.cells #[.string (bs rest)] 9 (0, 0)) ∧ lnz s = pre ++ lnz rest ∧ J pre wr ∧ rest.length ≤ s.length) (fun _ wr => leftOf Bs wr)
  case atStart => exact ⟨[], s, hW, rfl, h0, Nat.le_refl _⟩
  case round =>
    obtain ⟨pre, rest, hb, hx, hj, hr⟩ := hrel
    have c0 : wr.cell? ⟨Bs, 0, none⟩ = some (.string (bs rest)) := by simp [World.cell?, hb]
    have f0 : wr.frozen? ⟨Bs, 0, none⟩ = false := by simp [World.frozen?, hb]
    have hlo : Hid (leftOf Bs wr = rest.length) := by show leftOf Bs wr = rest.length; unfold leftOf; rw [c0]; rfl
    have HX : Hid (lnz s = pre ++ lnz rest) := hx
    have HR : Hid (rest.length ≤ s.length) := hr
    have hrl : rest.length ≤ 4194304 := by omega
    have Hj : Hid (J pre wr) := hj
    have Hb : Hid (wr.heap[Bs]? = some (.cells #[.string (bs rest)] 9 (0, 0))) := hb
    clear hx hr hj hb
    by_cases hn : rest = []
    · subst hn
      have hz : (bs []).size = 0 := rfl
      gi_wp2
      go_end0
      refine ⟨⟨_, rfl⟩, .inl ?_⟩
      have h1 := HX.out
      rw [show lnz [] = [] from rfl, List.append_nil] at h1
      rw [h1]; exact Hj.out
    · have hz : (bs rest).size = rest.length := rfl
      have hpos : 0 < rest.length := List.length_pos_iff.2 hn
      rcases cut_split 10 rest.length rest (Nat.le_refl _) with h10 | ⟨a, b, he, h10⟩
      · have hib := ib_none h10
        have HL : Hid (lnz rest = [rest]) := lnz_free rest hn h10
        obtain ⟨k, hk⟩ : ∃ k, rest.length = k := ⟨_, rfl⟩
        rw [hk] at hz hpos hrl
        have HIx : Hid (∀ W : World, Calls Tryz.prog 70 #[.string (bs rest), .int .u8 10] W fun e w' => e = .returned (.int .i64 (-1)) ∧ w' = W) := fun W => by rw [← hib]; exact ix_any rest W
        clear hn h10 hib hk
        gi_wp2_with fail
        refine ⟨trivial, (fun h => (by cases h)), (callsIn_wide.2 (HIx.out _)).mono ?_⟩
        rintro e w' ⟨rfl, rfl⟩
        gi_wp2_with fail
        obtain ⟨W2, hW2⟩ : ∃ W2, w'.setCell ⟨Bs, 0, none⟩ (.string ⟨#[]⟩) = W2 := ⟨_, rfl⟩
        have H2 : Hid (W2.heap[Bs]? = some (.cells #[.string (bs [])] 9 (0, 0)) ∧ J pre W2) := by
          subst hW2
          exact ⟨by rw [heap_setCell _ _ _ _ Hb.out]; rfl, HJ.out pre _ _ Hj.out (grown_set _ _ _ _)⟩
        obtain ⟨fn, tmps, assign, body, hy, hR⟩ := HY.out pre rest W2 H2.out.2 ⟨[], by rw [HX.out, HL.out]⟩
        rw [hW2, hy]
        clear hW2
        gi_wp2_with fail
        refine ⟨(fun h => (by cases h)), hR.mono ?_⟩
        rintro e W3 (⟨rfl, hJ3, hk3⟩ | ⟨rfl, hJx3⟩)
        · gi_wp2_with fail
          go_roundw
          case rel =>
            refine ⟨pre ++ [rest], [], by rw [hk3]; exact H2.out.1, ?_, hJ3, by simp⟩
            rw [HX.out, HL.out]; simp [lnz]
          case measure =>
            have h1 : leftOf Bs W3 = 0 := by
              have h3 := H2.out.1
              rw [← hk3] at h3
              unfold leftOf; simp [World.cell?, h3]; rfl
            have h2 := hlo.out
            rw [h1, h2]
            have h4 : (bs rest).size = rest.length := rfl
            omega
        · gi_wp2_with fail
          refine bodyPost_ret (results_none rfl _ _ _) rfl ?_
          exact ⟨⟨_, rfl⟩, .inr hJx3⟩
      · have hib := ib_app 10 a b h10
        rw [← he] at hib
        have HL : Hid (lnz rest = (a ++ [10]) :: lnz b) := by rw [he]; exact lnz_line a b h10
        obtain ⟨k, hk⟩ : ∃ k, rest.length = k := ⟨_, rfl⟩
        obtain ⟨m, hm⟩ : ∃ m, a.length = m := ⟨_, rfl⟩
        have HLe : Hid (b.length + m + 1 = k) := by show b.length + m + 1 = k; rw [← hk, ← hm, he]; simp; omega
        have hmk : m + 1 ≤ k := by have := HLe.out; omega
        rw [hk] at hz hpos hrl
        rw [hm] at hib
        have e1 : (bs rest).extract 0 (m + 1) = bs (a ++ [10]) := by
          rw [bs_extract]; congr 1; rw [he, ← hm, List.drop_zero, Nat.sub_zero, take1]
        have e2 : (bs rest).extract (m + 1) k = bs b := by
          rw [bs_extract]; congr 1; rw [he, ← hm, drop1]
          have := HLe.out
          exact List.take_of_length_le (by omega)
        have HIx : Hid (∀ W : World, Calls Tryz.prog 70 #[.string (bs rest), .int .u8 10] W fun e w' => e = .returned (.int .i64 (m : Int)) ∧ w' = W) := fun W => by rw [← hib]; exact ix_any rest W
        have HSz : Hid (leftOf Bs wr = k) := by show leftOf Bs wr = k; rw [hlo.out, hk]
        clear hn h10 hib he hk hm hlo
        have i1 : IntKind.i64.wrap ((m : Int) + 1) = ((m + 1 : Nat) : Int) := by rw [IntKind.wrap_i64]; omega
        gi_wp2_with fail
        refine ⟨trivial, (fun h => (by cases h)), (callsIn_wide.2 (HIx.out _)).mono ?_⟩
        rintro e w' ⟨rfl, rfl⟩
        gi_wp2_with fail
        refine wpIn_wide.2 ?_
        go_region
        all_goals gi_wp2_with fail
        obtain ⟨W2, hW2⟩ : ∃ W2, (w'.setCell ⟨Bs, 0, none⟩ (.string (bs b))).drew = W2 := ⟨_, rfl⟩
        have H2 : Hid (W2.heap[Bs]? = some (.cells #[.string (bs b)] 9 (0, 0)) ∧ J pre W2) := by
          subst hW2
          exact ⟨(heap_setCell w' Bs 0 (.string (bs b)) Hb.out).trans rfl, HJ.out pre _ _ (HJ.out pre _ _ Hj.out (grown_set _ _ _ _)) (grown_drew _ 1 _)⟩
        obtain ⟨fn, tmps, assign, body, hy, hR⟩ := HY.out pre (a ++ [10]) W2 H2.out.2 ⟨lnz b, by rw [HX.out, HL.out]⟩
        rw [hW2, hy]
        clear hW2
        gi_wp2_with fail
        refine ⟨(fun h => (by cases h)), hR.mono ?_⟩
        rintro e W3 (⟨rfl, hJ3, hk3⟩ | ⟨rfl, hJx3⟩)
        · gi_wp2_with fail
          go_roundw
          case rel =>
            refine ⟨pre ++ [a ++ [10]], b, by rw [hk3]; exact H2.out.1, ?_, hJ3, ?_⟩
            · rw [HX.out, HL.out]; simp
            · have := HLe.out
              have := HR.out
              have h4 : (bs rest).size = rest.length := rfl
              omega
          case measure =>
            have h1 : leftOf Bs W3 = b.length := by
              have h3 := H2.out.1
              rw [← hk3] at h3
              unfold leftOf; simp [World.cell?, h3]; rfl
            have h2 := HSz.out
            rw [h1, h2]
            have := HLe.out
            omega
        · gi_wp2_with fail
          refine bodyPost_ret (results_none rfl _ _ _) rfl ?_
          exact ⟨⟨_, rfl⟩, .inr hJx3⟩
end Go.Proofs.YtkopjamednedfaaGreat
