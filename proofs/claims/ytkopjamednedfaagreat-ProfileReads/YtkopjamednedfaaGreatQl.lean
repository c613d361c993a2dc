/-
  The library: beginnings and ends of texts, is a text one of a list, the Builder, texts joined by slashes.
-/
import Derived.Test.YtkopjamednedfaaGreatRows2
import Derived.Test.YtkopjamednedfaaGreatLab
import Derived.Test.YtkopjamednedfaaGreatQShelf
import Derived.Shelf.Strings.BuilderK
import Derived.Lib.SlicesS
namespace Go.Proofs.YtkopjamednedfaaGreat
open Go.RowKit Go.Shelf

theorem take_eq_iff (p l : List UInt8) : (l.take p.length = p ∧ p.length ≤ l.length) ↔ p.isPrefixOf l = true := by
  rw [List.isPrefixOf_iff_prefix, List.prefix_iff_eq_take]
  constructor
  · rintro ⟨h, _⟩; exact h.symm
  · intro h; exact ⟨h.symm, by have := congrArg List.length h; simp at this; omega⟩
theorem beq_bs (a b : List UInt8) : ((bs a).toList == (bs b).toList) = decide (a = b) := by
  rw [bs_toList, bs_toList]
  by_cases h : a = b
  · simp [h]
  · simp [h]

set_option maxRecDepth 100000 in
set_option maxHeartbeats 1000000 in
theorem hasPrefix_any (l p : List UInt8) (w : World) (_hl : l.length ≤ 9223372036854775807) (hp : p.length ≤ 9223372036854775807) :
    Calls Tryz.prog 71 #[.string (bs l), .string (bs p)] w fun e w' => e = .returned (.bool (p.isPrefixOf l)) ∧ w' = w := by
  have z1 : (bs l).size = l.length := rfl
  have z2 : (bs p).size = p.length := rfl
  by_cases h : p.length ≤ l.length
  · have c1 : (p.length : Int) ≤ (l.length : Int) := by omega
    have c2 : (0 : Int) ≤ (p.length : Int) := by omega
    have HE : Hid ((bs l).extract 0 p.length = bs (l.take p.length)) := extract_to l p.length
    have e0 : p.isPrefixOf l = decide (l.take p.length = p) := by
      by_cases h2 : l.take p.length = p
      · rw [(take_eq_iff p l).1 ⟨h2, h⟩]; simp [h2]
      · have : ¬ (p.isPrefixOf l = true) := fun h3 => h2 ((take_eq_iff p l).2 h3).1
        simp only [Bool.not_eq_true] at this
        rw [this]; simp [h2]
    rw [e0]
    have HB : Hid ((((bs l).extract 0 p.length).toList == (bs p).toList) = decide (l.take p.length = p)) := by
      show (_ == _) = _
      rw [HE.out]; exact beq_bs _ _
    clear e0
    go_enter Tryz.func71, Tryz.ntmps71
    go_wp2_with fail
    go_ret
    refine ⟨?_, rfl⟩
    rw [← HB.out]; rfl
  · have e0 : p.isPrefixOf l = false := by
      cases hh : p.isPrefixOf l
      · rfl
      · exact absurd ((take_eq_iff p l).2 hh).2 h
    rw [e0]
    have c1 : ¬ ((p.length : Int) ≤ (l.length : Int)) := by omega
    go_enter Tryz.func71, Tryz.ntmps71
    go_wp2_with fail
    go_ret
    exact ⟨rfl, rfl⟩

set_option maxRecDepth 100000 in
set_option maxHeartbeats 1000000 in
theorem hasSuffix_any (l p : List UInt8) (w : World) (hl : l.length ≤ 9223372036854775807) (hp : p.length ≤ 9223372036854775807) :
    Calls Tryz.prog 97 #[.string (bs l), .string (bs p)] w fun e w' => e = .returned (.bool (p.isSuffixOf l)) ∧ w' = w := by
  have z1 : (bs l).size = l.length := rfl
  have z2 : (bs p).size = p.length := rfl
  by_cases h : p.length ≤ l.length
  · obtain ⟨n, hn⟩ : ∃ n, n = l.length - p.length := ⟨_, rfl⟩
    have c0 : (l.length : Int) - (p.length : Int) = (n : Int) := by omega
    have c1 : (p.length : Int) ≤ (l.length : Int) := by omega
    have c2 : (0 : Int) ≤ (n : Int) := by omega
    have c3 : (n : Int) ≤ (l.length : Int) := by omega
    have HE : Hid ((bs l).extract n l.length = bs (l.drop n)) := extract_from l n
    have e0 : p.isSuffixOf l = decide (l.drop n = p) := by
      subst hn
      by_cases h2 : l.drop (l.length - p.length) = p
      · rw [(suffix_iff p l).2 ⟨h, h2⟩]; simp [h2]
      · have : ¬ (p.isSuffixOf l = true) := fun h3 => h2 ((suffix_iff p l).1 h3).2
        simp only [Bool.not_eq_true] at this
        rw [this]; simp [h2]
    rw [e0]
    have HB : Hid ((((bs l).extract n l.length).toList == (bs p).toList) = decide (l.drop n = p)) := by
      show (_ == _) = _
      rw [HE.out]; exact beq_bs _ _
    clear e0 hn
    go_enter Tryz.func97, Tryz.ntmps97
    go_wp2_with fail
    go_ret
    refine ⟨?_, rfl⟩
    rw [← HB.out]; rfl
  · have e0 : p.isSuffixOf l = false := by
      cases hh : p.isSuffixOf l
      · rfl
      · exact absurd ((suffix_iff p l).1 hh).1 h
    rw [e0]
    have c1 : ¬ ((p.length : Int) ≤ (l.length : Int)) := by omega
    go_enter Tryz.func97, Tryz.ntmps97
    go_wp2_with fail
    go_ret
    exact ⟨rfl, rfl⟩


theorem contains_step {α : Type} [BEq α] {l : List α} {x : α} {k : Nat} (hk : k < l.length) : (l.take (k + 1)).contains x = ((l.take k).contains x || (x == l[k])) := by
  rw [List.take_succ_eq_append_getElem hk, List.contains_append]
  simp
set_option maxRecDepth 100000 in
set_option maxHeartbeats 1000000 in
theorem indexS_any {w : World} {v : Value} {l : List (List UInt8)} (h : SS w v l) (x : List UInt8) (hl : l.length ≤ 1000000000) :
    Calls Tryz.prog 78 #[v, .string (bs x)] w fun e w' => ∃ n : Int, e = .returned (.int .i64 n) ∧ decide (0 ≤ n) = l.contains x ∧ w' = w := by
  obtain ⟨R, hR⟩ : ∃ R, l.contains x = R := ⟨_, rfl⟩
  rw [hR]
  have HR : Hid (l.contains x = R) := hR
  clear hR
  obtain ⟨a, c, rfl, ca⟩ := h.form
  have HC : Hid (∀ k, (hk : k < l.length) → ∃ b off, a = some ⟨b, off, none⟩ ∧ b < w.heap.size ∧ w.cell? ⟨b, off + k, none⟩ = some (.string (bs l[k]))) := ca
  clear ca h
  have ex := bs_toList x
  go_enter Tryz.func78, Tryz.ntmps78
  go_wp2_with fail
  go_loop [8] (fun i => ∃ k : Nat, k ≤ l.length ∧ i = .int .i64 k ∧ (l.take k).contains x = false) (fun i => l.length - (intOf i).toNat)
  case atStart => exact ⟨0, Nat.zero_le _, rfl, by simp⟩
  case round =>
    obtain ⟨k, hk, rfl, hno⟩ := hrel
    have HN : Hid ((l.take k).contains x = false) := hno
    clear hno
    by_cases hlt : k < l.length
    · obtain ⟨b, off, rfl, hb, hc⟩ := HC.out k hlt
      have i1 : (0 : Int) ≤ (k : Int) := by omega
      have i2 : (k : Int) < (l.length : Int) := by omega
      have ek := bs_toList l[k]
      by_cases he : x = l[k]
      · obtain rfl : R = true := by rw [← HR.out, he]; simp
        have e1 : (x == l[k]) = true := by rw [he]; simp
        clear he
        go_wp2_with fail
        go_ret
        exact ⟨_, rfl, by simp, rfl⟩
      · have e1 : (x == l[k]) = false := by simpa using he
        have HT : Hid ((l.take (k + 1)).contains x = false) := by
          show (l.take (k + 1)).contains x = false
          rw [contains_step hlt, HN.out, e1]; rfl
        clear he
        go_wp2_with fail
        go_round
        case rel => exact ⟨k + 1, hlt, rfl, HT.out⟩
        case measure => simp only [intOf]; omega
    · obtain rfl : k = l.length := by omega
      obtain rfl : R = false := by
        have := HN.out
        rw [List.take_length, HR.out] at this; exact this
      go_wp2_with fail
      go_ret
      exact ⟨_, rfl, by decide, rfl⟩
set_option maxRecDepth 100000 in
set_option maxHeartbeats 1000000 in
theorem containsS_any {w : World} {v : Value} {l : List (List UInt8)} (h : SS w v l) (x : List UInt8) (hl : l.length ≤ 1000000000) :
    Calls Tryz.prog 57 #[v, .string (bs x)] w fun e w' => e = .returned (.bool (l.contains x)) ∧ w' = w := by
  have HI : Hid (Calls Tryz.prog 78 #[v, .string (bs x)] w fun e w' => ∃ n : Int, e = .returned (.int .i64 n) ∧ decide (0 ≤ n) = l.contains x ∧ w' = w) := indexS_any h x hl
  clear h
  generalize l.contains x = R at *
  go_enter Tryz.func57, Tryz.ntmps57
  go_wp2_with fail
  refine HI.out.mono ?_
  rintro e w1 ⟨n, rfl, hn, rfl⟩
  subst hn
  go_wp2_with fail
  go_ret
  exact ⟨rfl, rfl⟩

theorem IsBuilderF_later {T e : TypeId} {B b : Nat} {l : List Value} {w w' : World} (h : Lib.IsBuilderF T e B b l w) (hb : Below w.heap.size w w') : Lib.IsBuilderF T e B b l w' := by
  have one : ∀ p, Lib.BuilderAtF T e B b p l w → Lib.BuilderAtF T e B b p l w' := by
    rintro p ⟨h1, v, h2, h3, h4⟩
    refine ⟨h1, v, (hb.block b (Array.getElem?_eq_some_iff.1 h2).1).trans h2, ?_, h4⟩
    rcases h3 with ⟨h0, h | ⟨g, cap, cur, f, rfl, hbb, hg, hr⟩⟩
    · exact ⟨h0, .inl h⟩
    · exact ⟨h0, .inr ⟨g, cap, cur, f, rfl, hbb, (hb.block g (Array.getElem?_eq_some_iff.1 hg).1).trans hg, hr⟩⟩
  rcases h with h | h
  · exact .inl (one _ h)
  · exact .inr (one _ h)
/-- WriteString, all else kept -/
theorem writeK {w : World} {B b : Nat} {l : List UInt8} (s : List UInt8) (h : Lib.IsBuilderF 44 5 B b (Lib.byteCells l) w) (hl : l.length + s.length ≤ 8796093022208) (hB : B ≤ w.heap.size) :
    Calls Tryz.prog 20 #[.pointer (some ⟨b, 0, none⟩), .string (bs s)] w fun e w' => ∃ v, e = .returned v ∧ Lib.IsBuilderF 44 5 B b (Lib.byteCells (l ++ s)) w' ∧ Below B w w' ∧ Lib.OthersKept 5 (some b) w w' := by
  have hz : (bs s).size = s.length := rfl
  have hS := Any.Builder_WriteString_k (ρ := Tryz.lays156_ren) { Tryz.lays156 with } Tryz.Builder_Extra_156 B b (Lib.byteCells l) (bs s) w h (by rw [Lib.byteCells_length]; omega) hB
  change Calls Tryz.prog 20 _ _ _ at hS
  refine hS.mono ?_
  rintro e w' ⟨rfl, hk, hb, ho⟩
  refine ⟨_, rfl, .inr ?_, hb, ho⟩
  have e1 : Lib.byteCells (l ++ s) = Lib.byteCells l ++ Lib.strCells (bs s) := by simp [Lib.byteCells, Lib.strCells, bs]
  rw [e1]; exact hk
theorem stringF {w : World} {B b : Nat} {l : List UInt8} (h : Lib.IsBuilderF 44 5 B b (Lib.byteCells l) w) (hB : B ≤ w.heap.size) :
    Calls Tryz.prog 21 #[.pointer (some ⟨b, 0, none⟩)] w fun e w' => e = .returned (.string (bs l)) ∧ Below B w w' := by
  have hS := Any.Builder_String_any_f Tryz.lays169 Tryz.Builder_Extra_169 B b l w h hB
  change Calls Tryz.prog 21 _ _ _ at hS
  exact hS.mono fun e w' h => ⟨h.1, h.2.2⟩

/-! ### joined with slashes -/
theorem join_slash : ∀ (L : List (List UInt8)), Lib.join L [47] = join L
  | [] => rfl
  | [a] => by rw [Lib.join_one]; rfl
  | a :: b :: r => by
    rw [join_cons a _ (by simp), ← join_slash (b :: r), Lib.join_cons, Lib.join_cons]
    simp [Lib.joinTail]
theorem sjoin_any {w : World} {v : Value} {L : List (List UInt8)} (h : SS w v L) (hL : L.length ≤ 4194304) (hb : (join L).length ≤ 1000000000) :
    Calls Tryz.prog 60 #[v, .string (bs [47])] w fun e w' => e = .returned (.string (bs (join L))) ∧ Below w.heap.size w w' := by
  rcases h with ⟨⟨a, c, rfl⟩, rfl⟩ | ⟨b, off, cap, rfl, hc, hlt, hcell⟩
  · have hS := Any.strings_Join_none Tryz.lays156 Tryz.Builder_Extra_156 a c (bs [47]) w
    change Calls Tryz.prog 60 _ _ _ at hS
    refine hS.mono ?_
    rintro e w' ⟨rfl, rfl⟩
    exact ⟨rfl, Below.refl _ _⟩
  · have em : (L.map bs).map (fun s => s.data.toList) = L := by
      rw [List.map_map]; exact List.map_id'' (fun _ => rfl) L
    have hS := Any.strings_Join Tryz.lays156 Tryz.Builder_Extra_156 b off cap (L.map bs) (bs [47]) w (fun j x hx => by
      refine hcell j (.string x) ?_
      rw [sc_get]
      rw [List.getElem?_map] at hx
      cases hj : L[j]? with
      | none => rw [hj] at hx; simp at hx
      | some y => rw [hj] at hx; simp at hx; subst hx; rfl) hlt (by simp; omega) (by simpa using hc) (by rw [em]; show (Lib.join L [47]).length ≤ _; rw [join_slash]; omega)
    rw [em] at hS
    change Calls Tryz.prog 60 _ _ _ at hS
    rw [List.length_map] at hS
    refine hS.mono ?_
    rintro e w' ⟨rfl, hb⟩
    refine ⟨?_, hb⟩
    show Ending.returned (.string (bs (Lib.join L [47]))) = _
    rw [join_slash]
/-! ### beginnings and ends cut off -/
set_option maxHeartbeats 1000000 in
set_option maxRecDepth 100000 in
theorem hasP_any (l p : List UInt8) (w : World) (hl : l.length ≤ 9223372036854775807) (hp : p.length ≤ 9223372036854775807) :
    Calls Tryz.prog 50 #[.string (bs l), .string (bs p)] w fun e w' => e = .returned (.bool (p.isPrefixOf l)) ∧ w' = w := by
  have HP : Hid (∀ w : World, Calls Tryz.prog 71 #[.string (bs l), .string (bs p)] w fun e w' => e = .returned (.bool (p.isPrefixOf l)) ∧ w' = w) := fun w => hasPrefix_any l p w hl hp
  generalize p.isPrefixOf l = b at *
  go_enter Tryz.func50, Tryz.ntmps50
  go_wp2_with fail
  refine (HP.out _).mono ?_
  rintro e w1 ⟨rfl, rfl⟩
  go_wp2_with fail
  go_ret
  exact ⟨rfl, rfl⟩
/-- without its beginning -/
def tpf (p l : List UInt8) : List UInt8 := if p.isPrefixOf l then l.drop p.length else l
def tsf (p l : List UInt8) : List UInt8 := if p.isSuffixOf l then l.take (l.length - p.length) else l
set_option maxHeartbeats 1000000 in
set_option maxRecDepth 100000 in
theorem trimP0_any (l p : List UInt8) (w : World) (hl : l.length ≤ 9223372036854775807) (hp : p.length ≤ 9223372036854775807) :
    Calls Tryz.prog 85 #[.string (bs l), .string (bs p)] w fun e w' => e = .returned (.string (bs (tpf p l))) ∧ w' = w := by
  have HP : Hid (∀ w : World, Calls Tryz.prog 71 #[.string (bs l), .string (bs p)] w fun e w' => e = .returned (.bool (p.isPrefixOf l)) ∧ w' = w) := fun w => hasPrefix_any l p w hl hp
  have z1 : (bs l).size = l.length := rfl
  have z2 : (bs p).size = p.length := rfl
  unfold tpf
  cases h : p.isPrefixOf l
  · rw [h] at HP
    simp only [Bool.false_eq_true, if_false]
    go_enter Tryz.func85, Tryz.ntmps85
    go_wp2_with fail
    refine (HP.out _).mono ?_
    rintro e w1 ⟨rfl, rfl⟩
    go_wp2_with fail
    go_ret
    exact ⟨rfl, rfl⟩
  · rw [h] at HP
    have hle := ((take_eq_iff p l).2 h).2
    have c1 : (p.length : Int) ≤ (l.length : Int) := by omega
    have c2 : (0 : Int) ≤ (p.length : Int) := by omega
    have HE : Hid ((bs l).extract p.length l.length = bs (l.drop p.length)) := extract_from l p.length
    simp only [if_true]
    go_enter Tryz.func85, Tryz.ntmps85
    go_wp2_with fail
    refine (HP.out _).mono ?_
    rintro e w1 ⟨rfl, rfl⟩
    go_wp2_with fail
    go_ret
    refine ⟨?_, rfl⟩
    rw [← HE.out]; rfl
set_option maxHeartbeats 1000000 in
set_option maxRecDepth 100000 in
theorem trimP_any (l p : List UInt8) (w : World) (hl : l.length ≤ 9223372036854775807) (hp : p.length ≤ 9223372036854775807) :
    Calls Tryz.prog 73 #[.string (bs l), .string (bs p)] w fun e w' => e = .returned (.string (bs (tpf p l))) ∧ w' = w := by
  have HP : Hid (∀ w : World, Calls Tryz.prog 85 #[.string (bs l), .string (bs p)] w fun e w' => e = .returned (.string (bs (tpf p l))) ∧ w' = w) := fun w => trimP0_any l p w hl hp
  generalize tpf p l = b at *
  go_enter Tryz.func73, Tryz.ntmps73
  go_wp2_with fail
  refine (HP.out _).mono ?_
  rintro e w1 ⟨rfl, rfl⟩
  go_wp2_with fail
  go_ret
  exact ⟨rfl, rfl⟩
set_option maxHeartbeats 1000000 in
set_option maxRecDepth 100000 in
theorem trimS0_any (l p : List UInt8) (w : World) (hl : l.length ≤ 9223372036854775807) (hp : p.length ≤ 9223372036854775807) :
    Calls Tryz.prog 84 #[.string (bs l), .string (bs p)] w fun e w' => e = .returned (.string (bs (tsf p l))) ∧ w' = w := by
  have HP : Hid (∀ w : World, Calls Tryz.prog 97 #[.string (bs l), .string (bs p)] w fun e w' => e = .returned (.bool (p.isSuffixOf l)) ∧ w' = w) := fun w => hasSuffix_any l p w hl hp
  have z1 : (bs l).size = l.length := rfl
  have z2 : (bs p).size = p.length := rfl
  unfold tsf
  cases h : p.isSuffixOf l
  · rw [h] at HP
    simp only [Bool.false_eq_true, if_false]
    go_enter Tryz.func84, Tryz.ntmps84
    go_wp2_with fail
    refine (HP.out _).mono ?_
    rintro e w1 ⟨rfl, rfl⟩
    go_wp2_with fail
    go_ret
    exact ⟨rfl, rfl⟩
  · rw [h] at HP
    have hle := ((suffix_iff p l).1 h).1
    obtain ⟨n, hn⟩ : ∃ n, n = l.length - p.length := ⟨_, rfl⟩
    have c0 : (l.length : Int) - (p.length : Int) = (n : Int) := by omega
    have c2 : (0 : Int) ≤ (n : Int) := by omega
    have c3 : (n : Int) ≤ (l.length : Int) := by omega
    have HE : Hid ((bs l).extract 0 n = bs (l.take n)) := extract_to l n
    simp only [if_true]
    rw [← hn]
    clear hn
    go_enter Tryz.func84, Tryz.ntmps84
    go_wp2_with fail
    refine (HP.out _).mono ?_
    rintro e w1 ⟨rfl, rfl⟩
    go_wp2_with fail
    go_ret
    refine ⟨?_, rfl⟩
    rw [← HE.out]; rfl
set_option maxHeartbeats 1000000 in
set_option maxRecDepth 100000 in
theorem trimS_any (l p : List UInt8) (w : World) (hl : l.length ≤ 9223372036854775807) (hp : p.length ≤ 9223372036854775807) :
    Calls Tryz.prog 72 #[.string (bs l), .string (bs p)] w fun e w' => e = .returned (.string (bs (tsf p l))) ∧ w' = w := by
  have HP : Hid (∀ w : World, Calls Tryz.prog 84 #[.string (bs l), .string (bs p)] w fun e w' => e = .returned (.string (bs (tsf p l))) ∧ w' = w) := fun w => trimS0_any l p w hl hp
  generalize tsf p l = b at *
  go_enter Tryz.func72, Tryz.ntmps72
  go_wp2_with fail
  refine (HP.out _).mono ?_
  rintro e w1 ⟨rfl, rfl⟩
  go_wp2_with fail
  go_ret
  exact ⟨rfl, rfl⟩
/-! ### how long a Builder's text is -/
set_option maxHeartbeats 1000000 in
set_option maxRecDepth 100000 in
theorem lenB_any {w : World} {b n c : Nat} {p : Value} {a : Option Addr} (c1 : w.cell? ⟨b, 1, none⟩ = some (.slice a n c)) (_c0 : w.cell? ⟨b, 0, none⟩ = some p) :
    Calls Tryz.prog 19 #[.pointer (some ⟨b, 0, none⟩)] w fun e w' => e = .returned (.int .i64 n) ∧ w' = w := by
  go_enter Tryz.func19, Tryz.ntmps19
  go_wp2_with fail
  go_ret
  exact ⟨rfl, rfl⟩
end Go.Proofs.YtkopjamednedfaaGreat
