import Derived.Test.YtefhdnhhcgbbjaaVals
import Derived.Deep.QuietTactic
import Derived.BigQuiet
import Derived.Deep.RegionWith
import Derived.Deep.RegionHeld3
namespace Go.Proofs.Ytefhdnhhcgbbjaa
open Go.RowKit

/-- what row i of the fourteen reads as -/
def CC (l : List UInt8) (x : Nat) (s : ByteArray) (i : Nat) : List UInt8 :=
  if i % 7 = 0 then l ++ le 1 (x % 256) else if i % 7 = 1 then l ++ le 2 (x % 65536) else if i % 7 = 2 then l ++ le 4 (x % 4294967296) else if i % 7 = 3 then l ++ le 8 x
  else if i % 7 = 4 then l ++ le 4 s.size ++ s.data.toList else if i % 7 = 5 then l ++ l else l
theorem CC_length (l : List UInt8) (x : Nat) (s : ByteArray) (i : Nat) (hl : l.length ≤ 2000000) (hs : s.size ≤ 2000000) : (CC l x s i).length ≤ 5000000 := by
  unfold CC
  have h1 := le_length
  repeat' split
  all_goals (try simp only [List.length_append, h1, size_toList])
  all_goals omega

theorem Only.drewN (w : World) (n : Nat) (S : List Nat) : Only S w (w.drewN n) := ⟨by first | rfl | simp, by first | rfl | simp, by first | rfl | simp, by first | rfl | simp, fun _ _ _ => by first | rfl | simp⟩
theorem BS.drewN {w : World} {v : Value} {l : List UInt8} (h : BS w v l) (n : Nat) : BS (w.drewN n) v l := h.later ((Only.drewN w n []).below (Nat.le_refl _) (by simp))
/-- seven values -/
def B7 (a b c d e f g : Value) : Nat → Value
  | 0 => a | 1 => b | 2 => c | 3 => d | 4 => e | 5 => f | _ => g

theorem rws2 (w : World) (a b : Value) (la lb : List UInt8) (ha : BS w a la) (hb : BS w b lb) : Rws (w.alloc (.cells #[a, b] 27)) (.slice (some ⟨w.heap.size, 0, none⟩) 2 2) [la, lb] := by
  refine .inr ⟨w.heap.size, 2, rfl, by simp, by simp, fun i l hl => ?_⟩
  have hB : (w.alloc (.cells #[a, b] 27)).heap[w.heap.size]? = some (.cells #[a, b] 27 (0, 0)) := heap_alloc_new w _
  have hn := World.news_of_block hB
  have al := balloc w (.cells #[a, b] 27)
  match i, hl with
  | 0, hl => cases hl; exact ⟨a, by have := hn 0 a rfl; rw [add_lit] at this; exact this, ha.later al⟩
  | 1, hl => cases hl; exact ⟨b, by have := hn 1 b rfl; rw [add_lit] at this; exact this, hb.later al⟩
theorem rws1 (w : World) (a : Value) (la : List UInt8) (ha : BS w a la) : Rws (w.alloc (.cells #[a] 27)) (.slice (some ⟨w.heap.size, 0, none⟩) 1 1) [la] := by
  refine .inr ⟨w.heap.size, 1, rfl, by simp, by simp, fun i l hl => ?_⟩
  have hB : (w.alloc (.cells #[a] 27)).heap[w.heap.size]? = some (.cells #[a] 27 (0, 0)) := heap_alloc_new w _
  have hn := World.news_of_block hB
  have al := balloc w (.cells #[a] 27)
  match i, hl with
  | 0, hl => cases hl; exact ⟨a, by have := hn 0 a rfl; rw [add_lit] at this; exact this, ha.later al⟩

/-- seven rows more -/
theorem Bag.seven {base n : Nat} {w w1 w2 w3 w4 w5 w6 w7 : World} {A : Nat → Value} {l : List UInt8} {x : Nat} {s : ByteArray} (h : Bag base n w A (CC l x s)) (hn : n % 7 = 0) (hbase : base ≤ w.heap.size) {v1 v2 v3 v4 v5 v6 v7 : Value}
    (b1 : Below w.heap.size w w1) (o1 : Own w.heap.size w1 v1 (l ++ le 1 (x % 256))) (b2 : Below w1.heap.size w1 w2) (o2 : Own w1.heap.size w2 v2 (l ++ le 2 (x % 65536)))
    (b3 : Below w2.heap.size w2 w3) (o3 : Own w2.heap.size w3 v3 (l ++ le 4 (x % 4294967296))) (b4 : Below w3.heap.size w3 w4) (o4 : Own w3.heap.size w4 v4 (l ++ le 8 x))
    (b5 : Below w4.heap.size w4 w5) (o5 : Own w4.heap.size w5 v5 (l ++ le 4 s.size ++ s.data.toList)) (b6 : Below w5.heap.size w5 w6) (o6 : Own w5.heap.size w6 v6 (l ++ l))
    (b7 : Below w6.heap.size w6 w7) (o7 : Own w6.heap.size w7 v7 l) : Bag base (n + 7) w7 (cat n A (B7 v1 v2 v3 v4 v5 v6 v7)) (CC l x s) := by
  have z1 := b1.size
  have z2 := b2.size
  have z3 := b3.size
  have z4 := b4.size
  have z5 := b5.size
  have z6 := b6.size
  have H := ((((((h.add hbase b1 o1).add (by omega) b2 o2).add (by omega) b3 o3).add (by omega) b4 o4).add (by omega) b5 o5).add (by omega) b6 o6).add (by omega) b7 o7
  refine H.congr (fun i hi => ?_) (fun i hi => ?_)
  · by_cases e : i < n
    · simp only [cat]
      repeat rw [if_pos (by omega)]
    · obtain ⟨j, rfl⟩ : ∃ j, i = n + j := ⟨i - n, by omega⟩
      have hj : j = 0 ∨ j = 1 ∨ j = 2 ∨ j = 3 ∨ j = 4 ∨ j = 5 ∨ j = 6 := by omega
      simp only [cat, Nat.add_sub_cancel_left]
      rcases hj with rfl | rfl | rfl | rfl | rfl | rfl | rfl
      all_goals
        repeat (first | rw [if_pos (by omega)] | rw [if_neg (by omega)])
        try rfl
  · by_cases e : i < n
    · repeat rw [if_pos (by omega)]
    · obtain ⟨j, rfl⟩ : ∃ j, i = n + j := ⟨i - n, by omega⟩
      have hj : j = 0 ∨ j = 1 ∨ j = 2 ∨ j = 3 ∨ j = 4 ∨ j = 5 ∨ j = 6 := by omega
      unfold CC
      rcases hj with rfl | rfl | rfl | rfl | rfl | rfl | rfl
      all_goals
        repeat (first | rw [if_pos (by omega)] | rw [if_neg (by omega)])

/-- row i is written over with i + 1: k rows whole, of row k the first j -/
def GG (C : Nat → List UInt8) (k j i : Nat) : List UInt8 :=
  if i < k then List.replicate (C i).length (UInt8.ofNat (i + 1)) else if i = k then List.replicate j (UInt8.ofNat (k + 1)) ++ (C k).drop j else C i
theorem GG_zero (C : Nat → List UInt8) (i : Nat) : GG C 0 0 i = C i := by
  unfold GG
  rw [if_neg (by omega)]
  split
  · rename_i h; subst h; simp
  · rfl
theorem GG_length (C : Nat → List UInt8) (k j i : Nat) (h : j ≤ (C k).length) : (GG C k j i).length = (C i).length := by
  unfold GG
  split
  · simp
  · split
    · rename_i h1 h2; subst h2; simp; omega
    · rfl
theorem GG_next (C : Nat → List UInt8) (k i : Nat) : GG C k (C k).length i = GG C (k + 1) 0 i := by
  unfold GG
  by_cases h1 : i < k
  · rw [if_pos h1, if_pos (by omega)]
  · by_cases h2 : i = k
    · subst h2; rw [if_neg (by omega), if_pos rfl, if_pos (by omega)]; simp
    · rw [if_neg h1, if_neg h2, if_neg (by omega)]
      split
      · rename_i h3; subst h3; simp
      · rfl
theorem GG_set (C : Nat → List UInt8) (k j i : Nat) (hj : j < (C k).length) : (if i = k then (GG C k j k).set j (UInt8.ofNat (k + 1)) else GG C k j i) = GG C k (j + 1) i := by
  unfold GG
  by_cases h2 : i = k
  · subst h2
    rw [if_pos rfl, if_neg (by omega), if_pos rfl, if_neg (by omega), if_pos rfl]
    rw [List.set_append_right _ _ (by simp)]
    simp only [List.length_replicate, Nat.sub_self]
    rw [List.drop_eq_getElem_cons hj, List.set_cons_zero, List.replicate_succ']
    simp
  · rw [if_neg h2, if_neg h2, if_neg h2]

theorem Bag.store {base n : Nat} {w : World} {A : Nat → Value} {C : Nat → List UInt8} (h : Bag base n w A C) (i : Nat) (hi : i < n) {g cap : Nat} (hA : A i = .slice (some ⟨g, 0, none⟩) (C i).length cap) (j : Nat) (hj : j < (C i).length) (b : UInt8) :
    Bag base n (w.setCell ⟨g, j, none⟩ (.int .u8 b.toNat)) A (fun t => if t = i then (C i).set j b else C t) := by
  have hg : w.grownBy (w.setCell ⟨g, j, none⟩ (.int .u8 b.toNat)) (some g) :=
    ⟨rfl, rfl, rfl, by simp [World.setCell], fun k hk hne => Below.heap_setCell _ _ _ _ (fun e => hne (by simp [e]))⟩
  refine ⟨fun t ht => ?_, h.apart⟩
  by_cases e : t = i
  · subst e
    rw [if_pos rfl]
    have ho := h.own t ht
    rw [hA] at ho ⊢
    have hst := World.ownsRow.stored ho j (.int .u8 b.toNat)
    unfold Own
    rw [List.length_set]
    have e2 : bc ((C t).set j b) = (bc (C t)).set j (.int .u8 b.toNat) := by unfold bc; rw [List.map_set]
    rw [e2]
    exact hst.1
  · rw [if_neg e]
    refine World.ownsRow.kept (h.own t ht) hg ?_
    rcases hc : (A t).ownBlock with _ | k
    · exact .inl rfl
    · right
      intro e3
      have : k = g := by simpa using e3
      subst this
      exact h.apart t i ht hi e k hc (by rw [hA]; rfl)

end Go.Proofs.Ytefhdnhhcgbbjaa
