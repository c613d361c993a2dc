/-
  Byte rows: what a byte slice reads as, what the call owns, append from whatever source.
  Numbers as bytes.
  The package's three variables, as they lie.
  Texts in memory of the call's own, from some place of its block on.
-/
import Derived.Test.YtlkkmcibjhoneaaGreatDoorBase
import Derived.WalkKit
import Derived.WalkSpells
import Derived.WalkLawsBesides
import Derived.Deep.AppendSrc
import Derived.Deep.Upon
import Derived.Deep.Onto
import Derived.Deep.AppendLies
import Derived.Maps.AppendAt
import Derived.Laws.BytesArg
import Derived.Test.YtlkkmcibjhoneaaGreatDoorJLeaf
import Derived.Test.YtlkkmcibjhoneaaGreatDoorPath
import Derived.Test.YtlkkmcibjhoneaaGreatDoorJOrd
import Derived.Test.YtlkkmcibjhoneaaGreatDoorJFil
import Derived.Deep.RegionLaw
import Derived.Deep.RegionHeld3
namespace Go.Proofs.YtlkkmcibjhoneaaGreatDoor
open Go.RowKit

/-- bytes as cells -/
def bc (l : List UInt8) : List Value := l.map fun b => Value.int .u8 b.toNat
theorem bc_length (l : List UInt8) : (bc l).length = l.length := by simp [bc]
theorem bc_append (a b : List UInt8) : bc (a ++ b) = bc a ++ bc b := by simp [bc]
theorem bc_get (l : List UInt8) (i : Nat) : (bc l)[i]? = (l[i]?).map fun b => Value.int .u8 b.toNat := by simp [bc]
theorem bc_one (l : List UInt8) : ∀ u ∈ bc l, u.oneCell' = true := by
  intro u hu
  obtain ⟨_, _, rfl⟩ := List.mem_map.1 hu
  rfl
/-- A byte slice v reads as l in the world w (whatever lies behind its length). -/
def BS (w : World) (v : Value) (l : List UInt8) : Prop :=
  ((∃ a c, v = .slice a 0 c) ∧ l = []) ∨
  ∃ b off cap, v = .slice (some ⟨b, off, none⟩) l.length cap ∧ l.length ≤ cap ∧ b < w.heap.size ∧ ∀ i u, (bc l)[i]? = some u → w.cell? ⟨b, off + i, none⟩ = some u

/-- Owned bytes: a row of the call's own, from block 'base' on. -/
def OwnB (base : Nat) (w : World) (v : Value) (l : List UInt8) : Prop := w.ownsRow base 5 1 v l.length (bc l)

theorem BS.below {w w' : World} {v : Value} {l : List UInt8} {B : Nat} (h : BS w v l) (hb : Below B w w') (hv : ∀ k, v.ownBlock = some k → k < B) : BS w' v l := by
  rcases h with h | ⟨b, off, cap, rfl, hc, hlt, hcell⟩
  · exact .inl h
  · have hbB : b < B := hv b rfl
    refine .inr ⟨b, off, cap, rfl, hc, Nat.lt_of_lt_of_le hlt hb.size, fun i u hu => ?_⟩
    rw [hb.cell (p := ⟨b, off + i, none⟩) hbB]; exact hcell i u hu

theorem BS.later {w w' : World} {v : Value} {l : List UInt8} (h : BS w v l) (hb : Below w.heap.size w w') : BS w' v l := by
  rcases h with h | ⟨b, off, cap, rfl, hc, hlt, hcell⟩
  · exact .inl h
  · refine .inr ⟨b, off, cap, rfl, hc, Nat.lt_of_lt_of_le hlt hb.size, fun i u hu => ?_⟩
    rw [hb.cell (p := ⟨b, off + i, none⟩) hlt]; exact hcell i u hu
theorem BS.grown {w w' : World} {v : Value} {l : List UInt8} {row : Option Nat} (h : BS w v l) (hg : w.grownBy w' row) (hne : v.ownBlock = none ∨ v.ownBlock ≠ row) : BS w' v l := by
  rcases h with h | ⟨b, off, cap, rfl, hc, hlt, hcell⟩
  · exact .inl h
  · refine .inr ⟨b, off, cap, rfl, hc, Nat.lt_of_lt_of_le hlt hg.size, fun i u hu => ?_⟩
    exact hg.cell (hcell i u hu) (by simpa [Value.ownBlock] using hne)

theorem OwnB.bs {base : Nat} {w : World} {v : Value} {l : List UInt8} (h : OwnB base w v l) : BS w v l := by
  rcases h.2 with ⟨rfl, h0⟩ | ⟨g, cap, cur, rfl, hb, hg, hn, _⟩
  · exact .inl ⟨⟨_, _, rfl⟩, List.eq_nil_of_length_eq_zero h0⟩
  · refine .inr ⟨g, 0, cap, rfl, hn, (Array.getElem?_eq_some_iff.1 hg).1, fun i u hu => ?_⟩
    have := World.ownsRow.cells h (g := g) rfl i u hu
    rw [add_lit] at this; exact this

theorem OwnB.mono {base base' : Nat} {w : World} {v : Value} {l : List UInt8} (h : OwnB base w v l) (hb : base' ≤ base) : OwnB base' w v l := World.ownsRow.mono h hb

theorem OwnB.nil (base : Nat) (w : World) : OwnB base w (.slice none 0 0) [] := World.ownsRow_nil w base 5 1

/-- what a byte slice yields to an append -/
theorem BS.src {w : World} {v : Value} {l : List UInt8} {P : Program} {tx e' : TypeId} (h : BS w v l) (hk : P.underlying tx = some (.slice e')) : Src P 1 tx v l.length (bc l) w := by
  rcases h with ⟨⟨a, c, rfl⟩, rfl⟩ | ⟨b, off, cap, rfl, hc, hlt, hcell⟩
  · cases a with
    | none => exact Src.ofNil w hk c
    | some a => exact Src.ofSlice w hk a 0 c [] (by simp) (fun j u hu => by simp at hu) (fun u hu => by cases hu)
  · exact Src.ofSlice w hk ⟨b, off, none⟩ l.length cap (bc l) (by simp [bc]) (fun j u hu => by rw [add_lit]; exact hcell j u hu) (bc_one l)

section
variable {P : Program} (w : World)

end

theorem und32 : Tryz.prog.underlying 32 = some (.slice 5) := by kernel_rfl
theorem und5 : Tryz.prog.underlying 5 = some (.int .u8) := by kernel_rfl
theorem info5 : (Tryz.prog.info? 5).map (fun i => (i.zero, i.size, i.bytes)) = some (some (.int .u8 0), 1, 1) := by kernel_rfl

/-- append of bytes onto bytes of the call's own -/
theorem app_bytes {w : World} {base : Nat} {v x : Value} {l k : List UInt8} {tx : TypeId} (hown : OwnB base w v l) (hs : Src Tryz.prog 1 tx x k.length (bc k) w) (hb : l.length + k.length ≤ 140737488355328) (hbase : base ≤ w.heap.size)
    {ops : Array Oper} {rest : List Oper} {o : Oper} {a : Act} {Q : Exit → Act → World → Prop} (hgd : o.guard = none) (s y : Operand) 
    (ho : o.op = .call { callee := .builtin .append, args := #[s, y], argTypes := #[32, tx] }) (hv : a.eval s = v) (hx : a.eval y = x)
    (h : ∀ v' w', OwnB base w' v' (l ++ k) → w.grownBy w' v.ownBlock → (v'.ownBlock = v.ownBlock ∨ v'.ownBlock = some w.heap.size) → wpList Tryz.prog ops Q rest (a.put o.dst v') w') :
    wpList Tryz.prog ops Q (o :: rest) a w := by
  obtain ⟨i0, hi, hz0, hz1, hz2⟩ := info_parts info5
  refine wpList_append_src w hgd s y 32 tx ho base 5 i0 (.int .u8 0) 1 1 und32 hi hz0 hz1 hz2 rfl v l.length (bc l) hv hown x k.length (bc k) hx hs (by simp only [maxLen]; omega) (by omega) hbase ?_
  intro v' w' h1 h2 h3
  exact h v' w' (by unfold OwnB; rw [bc_append, List.length_append]; exact h1) h2 h3

end Go.Proofs.YtlkkmcibjhoneaaGreatDoor

namespace Go.Proofs.YtlkkmcibjhoneaaGreatDoor
open Go.RowKit

/-- the bytes of a number, the lowest first -/
def le : Nat → Nat → List UInt8
  | 0, _ => []
  | k + 1, v => le k v ++ [UInt8.ofNat (v / 256 ^ k)]
end Go.Proofs.YtlkkmcibjhoneaaGreatDoor

namespace Go.Proofs.YtlkkmcibjhoneaaGreatDoor
open Go.RowKit

theorem conv_bs {w : World} {v : Value} {l : List UInt8} (h : BS w v l) : (convert 32 9 v).run Tryz.prog w = .ok (.string ⟨l.toArray⟩) w := by
  rcases h with ⟨⟨a, c, rfl⟩, rfl⟩ | ⟨b, off, cap, rfl, hc, hlt, hcell⟩
  · cases a with
    | none => exact run_convert_bytes_nil (P := Tryz.prog) w 32 5 und32 und5 0 c 9 und9
    | some a =>
      rw [run_convert_bytes_string w 32 9 5 (some a) 0 c und32 und5 und9, run_bytesToString w a 0 c [] (run_loadCells_list (P := Tryz.prog) w a [] (fun j v hj => by simp at hj))]
      rfl
  · have e : strOfNums (l.map fun b => (b.toNat : Int)) = ⟨l.toArray⟩ := by
      unfold strOfNums
      congr 1
      simp [Function.comp_def]
    rw [← e]
    refine run_convert_bytes_arg (P := Tryz.prog) w 32 5 und32 und5 b off l.length cap (l.map fun b => (b.toNat : Int)) (by simp) (fun i hi => ?_) 9 und9
    rw [hcell i (.int .u8 (l[i].toNat : Int)) (by simp [bc, hi])]
    simp [hi]

end Go.Proofs.YtlkkmcibjhoneaaGreatDoor

namespace Go.Proofs.YtlkkmcibjhoneaaGreatDoor
open Go.RowKit

set_option maxRecDepth 100000 in
set_option maxHeartbeats 1000000 in
theorem dir_any (l : List UInt8) (w : World) (hl : l.length ≤ 9223372036854775807) :
    Calls Tryz.prog 25 #[.string (bs l)] w fun e w' => e = .returned (.string (bs (dir l))) ∧ w' = w := by
  have HL : Hid (l.length ≤ 9223372036854775807) := hl
  clear hl
  have hz : (bs l).size = l.length := rfl
  have h2 := lst_lt l
  by_cases h : lst l < 0
  · have hd0 : dir l = [] := by simp [dir, h]
    rw [hd0]
    go_enter Tryz.func25, Tryz.ntmps25
    go_wp2_with fail
    refine (last_any _ _ HL.out).mono ?_
    rintro e w1 ⟨rfl, rfl⟩
    go_wp2_with fail
    go_ret
    exact ⟨rfl, rfl⟩
  · obtain ⟨n, hn⟩ : ∃ n : Nat, lst l = n := ⟨(lst l).toNat, by omega⟩
    have hd0 : dir l = l.take n := by unfold dir; rw [if_neg h, hn]; rfl
    rw [hd0]
    have HE : Hid ((bs l).extract 0 n = bs (l.take n)) := extract_to l n
    rw [hn] at h h2
    go_enter Tryz.func25, Tryz.ntmps25
    go_wp2_with fail
    refine (last_any _ _ HL.out).mono ?_
    rintro e w1 ⟨rfl, rfl⟩
    rw [hn]
    have h3 : n < l.length := by omega
    go_wp2_with fail
    go_ret
    exact ⟨by rw [← HE.out]; rfl, rfl⟩

end Go.Proofs.YtlkkmcibjhoneaaGreatDoor

namespace Go.Proofs.YtlkkmcibjhoneaaGreatDoor
open Go.RowKit

set_option maxHeartbeats 1000000 in
set_option maxRecDepth 100000 in
theorem same_any {w : World} {va vb : Value} {A B : List (List UInt8)} (h1 : SS w va A) (h2 : SS w vb B) (hA : A.length ≤ 9223372036854775807) :
    Calls Tryz.prog 16 #[va, vb] w fun e w' => e = .returned (.bool (decide (A = B))) ∧ ∃ n, w' = w.drewN n := by
  obtain ⟨a, c, rfl, ca⟩ := h1.form
  obtain ⟨b, c', rfl, cb⟩ := h2.form
  have CA : Hid (∀ k, (hk : k < A.length) → ∃ b off, a = some ⟨b, off, none⟩ ∧ b < w.heap.size ∧ w.cell? ⟨b, off + k, none⟩ = some (.string (bs A[k]))) := ca
  have CB : Hid (∀ k, (hk : k < B.length) → ∃ b' off, b = some ⟨b', off, none⟩ ∧ b' < w.heap.size ∧ w.cell? ⟨b', off + k, none⟩ = some (.string (bs B[k]))) := cb
  clear ca cb h1 h2
  by_cases hl : A.length = B.length
  · have e1 : (((A.length : Int)) != (B.length : Int)) = false := by rw [hl]; simp
    obtain ⟨r, hr⟩ : ∃ r, decide (A = B) = r := ⟨_, rfl⟩
    rw [hr]
    have HR : Hid (decide (A.drop 0 = B.drop 0) = r) := hr
    clear hr
    go_enter Tryz.func16, Tryz.ntmps16
    go_wp2_with fail
    go_loopw [5] (fun i wr => ∃ k n : Nat, k ≤ A.length ∧ i = .int .i64 k ∧ wr = w.drewN n ∧ decide (A.drop k = B.drop k) = r) (fun i _ => A.length - (intOf i).toNat)
    case atStart => exact ⟨0, 0, Nat.zero_le _, rfl, rfl, HR.out⟩
    case round =>
      obtain ⟨k, n, hk, rfl, rfl, hd⟩ := hrel
      have HD : Hid (decide (A.drop k = B.drop k) = r) := hd
      clear hd
      by_cases hlt : k < A.length
      · have hlt2 : k < B.length := by omega
        obtain ⟨g1, o1, rfl, hg1, c1⟩ := CA.out k hlt
        obtain ⟨g2, o2, rfl, hg2, c2⟩ := CB.out k hlt2
        have hd := HD.out
        rw [drop_same hlt hlt2] at hd
        by_cases heq : A[k]'hlt = B[k]'hlt2
        · have t1 : (bs (A[k]'hlt)).toList = A[k]'hlt := bs_toList _
          have t2 : (bs (B[k]'hlt2)).toList = A[k]'hlt := by rw [bs_toList, heq]
          have hd2 : decide (A.drop (k + 1) = B.drop (k + 1)) = r := by rw [← hd]; simp [heq]
          have HD2 : Hid (decide (A.drop (k + 1) = B.drop (k + 1)) = r) := hd2
          clear hd hd2
          go_wp2_with fail
          go_region
          go_wp2_with fail
          go_roundw
          case rel => exact ⟨k + 1, n + 1, by omega, by go_num, rfl, HD2.out⟩
          case measure => simp [intOf]; omega
        · have t1 : (bs (A[k]'hlt)).toList = A[k]'hlt := bs_toList _
          have t2 : (bs (B[k]'hlt2)).toList = B[k]'hlt2 := bs_toList _
          have t3 : ((A[k]'hlt) == (B[k]'hlt2)) = false := by rw [beq_eq_false_iff_ne]; exact heq
          have hd2 : false = r := by rw [← hd]; simp [heq]
          subst hd2
          clear hd
          go_wp2_with fail
          go_region
          go_wp2_with fail
          go_ret
          exact ⟨rfl, n + 1, rfl⟩
      · obtain rfl : k = A.length := by omega
        have hd := HD.out
        have hd2 : true = r := by rw [← hd, List.drop_length, hl, List.drop_length]; simp
        subst hd2
        clear hd
        go_wp2_with fail
        go_ret
        exact ⟨rfl, n, rfl⟩
  · have e1 : (((A.length : Int)) != (B.length : Int)) = true := by rw [bne_iff_ne]; omega
    have e2 : decide (A = B) = false := by rw [decide_eq_false_iff_not]; intro e; exact hl (by rw [e])
    rw [e2]
    go_enter Tryz.func16, Tryz.ntmps16
    go_wp2_with fail
    go_ret
    exact ⟨rfl, 0, rfl⟩
end Go.Proofs.YtlkkmcibjhoneaaGreatDoor

namespace Go.Proofs.YtlkkmcibjhoneaaGreatDoor
open Go.RowKit

theorem SS.zero {w : World} {p : Option Addr} {n c : Nat} {A : List (List UInt8)} (h : SS w (.slice p n c) A) (hc : n ≤ c) (h0 : c = 0) (p' : Option Addr) (c' : Nat) : SS w (.slice p' n c') A := by
  have hn : n = 0 := by omega
  subst hn
  refine .inl ⟨⟨_, _, rfl⟩, ?_⟩
  obtain ⟨a, c2, e, _⟩ := h.form
  injection e with _ e2 _
  exact List.eq_nil_of_length_eq_zero e2.symm
theorem SS.len {w : World} {v : Value} {L : List (List UInt8)} (h : SS w v L) : ∃ a c, v = .slice a L.length c := by
  obtain ⟨a, c, e, _⟩ := h.form
  exact ⟨a, c, e⟩
theorem SS.len' {w : World} {v : Value} {L : List (List UInt8)} (h : SS w v L) : ∃ a c n, n = L.length ∧ v = .slice a n c := by
  obtain ⟨a, c, e, _⟩ := h.form
  exact ⟨a, c, _, rfl, e⟩
theorem SS.own {w : World} {v : Value} {L : List (List UInt8)} (h : SS w v L) {B : Nat} (hB : w.heap.size ≤ B) : ∀ k, v.ownBlock = some k → k < B ∨ L = [] := by
  intro k hk
  rcases h with ⟨⟨a, c, rfl⟩, h0⟩ | ⟨b, off, cap, rfl, hc, hlt, hcell⟩
  · exact .inr h0
  · simp [Value.ownBlock] at hk; subst hk; exact .inl (by omega)
theorem SS.kept {w w' : World} {v : Value} {l : List (List UInt8)} {B : Nat} (h : SS w v l) (hB : w.heap.size ≤ B) (hb : Below B w w') : SS w' v l := by
  rcases h with h | ⟨b, off, cap, rfl, hc, hlt, hcell⟩
  · exact .inl h
  · refine .inr ⟨b, off, cap, rfl, hc, Nat.lt_of_lt_of_le hlt hb.size, fun i u hu => ?_⟩
    rw [hb.cell (p := ⟨b, off + i, none⟩) (by show b < B; omega)]; exact hcell i u hu

end Go.Proofs.YtlkkmcibjhoneaaGreatDoor

namespace Go.Proofs.YtlkkmcibjhoneaaGreatDoor
open Go.RowKit

theorem Own.ss {base : Nat} {w : World} {v : Value} {l : List (List UInt8)} (h : Own base w v l) : SS w v l := h.bs

theorem dir_len (l : List UInt8) : (dir l).length ≤ l.length := by
  unfold dir; split
  · simp
  · simp; omega
theorem SS.form' {w : World} {v : Value} {L : List (List UInt8)} (h : SS w v L) : ∃ a c n, n = L.length ∧ v = .slice a n c ∧ (∀ k, (hk : k < L.length) → ∃ b off, a = some ⟨b, off, none⟩ ∧ b < w.heap.size ∧ w.cell? ⟨b, off + k, none⟩ = some (.string (bs L[k]))) := by
  obtain ⟨a, c, e, hc⟩ := h.form
  exact ⟨a, c, _, rfl, e, hc⟩

theorem take_snoc (L : List (List UInt8)) (k : Nat) (h : k < L.length) : L.take (k + 1) = L.take k ++ [L[k]'h] := by
  rw [List.take_add_one, List.getElem?_eq_getElem h]; rfl
theorem Sm.take {l : List (List UInt8)} (h : Sm l) (k : Nat) : Sm (l.take k) := ⟨by have := h.len; simp; omega, fun x hx => h.each x (List.mem_of_mem_take hx)⟩
end Go.Proofs.YtlkkmcibjhoneaaGreatDoor

namespace Go.Proofs.YtlkkmcibjhoneaaGreatDoor
open Go.RowKit

/-- nothing, directory, file -/
structure Ev (w : World) : Prop where
  n : w.heap[0]? = some (.cells #[.bool false, .bool false] 95 (0, 0))
  d : w.heap[1]? = some (.cells #[.bool false, .bool true] 95 (0, 0))
  f : w.heap[2]? = some (.cells #[.bool true, .bool false] 95 (0, 0))
  big : 4 ≤ w.heap.size
theorem Ev.below {w w' : World} {B : Nat} (h : Ev w) (hb : Below B w w') (hB : 4 ≤ B) : Ev w' :=
  ⟨(hb.block 0 (by omega)).trans h.n, (hb.block 1 (by omega)).trans h.d, (hb.block 2 (by omega)).trans h.f, Nat.le_trans h.big hb.size⟩
theorem Ev.later {w w' : World} (h : Ev w) (hb : Below w.heap.size w w') : Ev w' := h.below hb h.big
end Go.Proofs.YtlkkmcibjhoneaaGreatDoor

namespace Go.Proofs.YtlkkmcibjhoneaaGreatDoor
open Go.RowKit

theorem heap_setCellW (w : World) (g i : Nat) (v : Value) {cur : Array Value} {e : TypeId} {fr : Nat × Nat} (h : w.heap[g]? = some (.cells cur e fr)) :
    (w.setCell ⟨g, i, none⟩ v).heap[g]? = some (.cells (cur.setIfInBounds i v) e fr) := by
  simp [World.setCell, Array.getElem?_modify, h]
theorem sc_setW (l : List (List UInt8)) (i : Nat) (p : List UInt8) : sc (l.set i p) = (sc l).set i (.string (bs p)) := by
  simp [sc, List.map_set]
def Oww (base : Nat) (w : World) (v : Value) (l : List (List UInt8)) : Prop :=
  (v = .slice none 0 0 ∧ l = []) ∨ ∃ g off cap cur, v = .slice (some ⟨g, off, none⟩) l.length cap ∧ base ≤ g ∧ w.heap[g]? = some (.cells cur 9 (0, 0)) ∧ l.length ≤ cap ∧ cap ≤ maxLen ∧ off + cap ≤ cur.size ∧ ∀ i u, (sc l)[i]? = some u → cur[off + i]? = some u
section
variable {base : Nat} {w w' : World} {v : Value} {l : List (List UInt8)}
theorem Own.wwAt {g n cap : Nat} (h : Own base w (.slice (some ⟨g, 0, none⟩) n cap) l) (hn : l.length = n) : ∃ cur : Array Value, base ≤ g ∧ w.heap[g]? = some (.cells cur 9 (0, 0)) ∧ n ≤ cap ∧ cap ≤ maxLen ∧ cap = cur.size ∧ ∀ (i : Nat) (u : Value), (sc l)[i]? = some u → cur[i]? = some u := by
  subst hn
  rcases h.2 with ⟨e, _⟩ | ⟨g', cap', cur, e, hbg, hg, hn, hcm, hcs, htake⟩
  · cases e
  · injection e with e1 e2 e3
    injection e1 with e1
    injection e1 with e1 _ _
    subst e1
    subst e3
    refine ⟨cur, hbg, hg, hn, hcm, by omega, fun i u hu => ?_⟩
    have h2 : cur.toList.take (l.length * 1) = sc l := htake
    have hi := (List.getElem?_eq_some_iff.1 hu).1
    rw [sc_length] at hi
    rw [← h2, List.getElem?_take_of_lt (by omega)] at hu
    simpa using hu
theorem Own.ww (h : Own base w v l) : Oww base w v l := by
  rcases h.2 with ⟨rfl, h0⟩ | ⟨g, cap, cur, rfl, _⟩
  · exact .inl ⟨rfl, List.eq_nil_of_length_eq_zero h0⟩
  · obtain ⟨cur, h1, h2, h3, h4, h5, h6⟩ := Own.wwAt h rfl
    exact .inr ⟨g, 0, cap, cur, rfl, h1, h2, h3, h4, by omega, fun i u hu => by rw [Nat.zero_add]; exact h6 i u hu⟩
/-- all but the first -/
theorem Own.tail {g n cap : Nat} {x : List UInt8} (h : Own base w (.slice (some ⟨g, 0, none⟩) (n + 1) cap) (x :: l)) (hn : l.length = n) : Oww base w (.slice (some ⟨g, 1, none⟩) n (cap - 1)) l := by
  obtain ⟨cur, h1, h2, h3, h4, h5, h6⟩ := Own.wwAt h (by simp [hn])
  refine .inr ⟨g, 1, cap - 1, cur, by rw [hn], h1, h2, by omega, by omega, by omega, fun i u hu => ?_⟩
  rw [Nat.add_comm]
  exact h6 (i + 1) u (by simpa [sc] using hu)
theorem Oww.nil (base : Nat) (w : World) : Oww base w (.slice none 0 0) [] := .inl ⟨rfl, rfl⟩
theorem Oww.mono {base' : Nat} (h : Oww base w v l) (hb : base' ≤ base) : Oww base' w v l := by
  rcases h with h | ⟨g, off, cap, cur, h1, h2, h3⟩
  · exact .inl h
  · exact .inr ⟨g, off, cap, cur, h1, Nat.le_trans hb h2, h3⟩
theorem cell_blk {g : Nat} {cur : Array Value} {e : TypeId} {fr : Nat × Nat} (h : w.heap[g]? = some (.cells cur e fr)) (i : Nat) : w.cell? ⟨g, i, none⟩ = cur[i]? := by
  simp [World.cell?, h]
theorem Oww.bs (h : Oww base w v l) : SS w v l := by
  rcases h with ⟨rfl, rfl⟩ | ⟨g, off, cap, cur, rfl, h2, h3, h4, h5, h6, h7⟩
  · exact SS_nil w
  · exact .inr ⟨g, off, cap, rfl, h4, (Array.getElem?_eq_some_iff.1 h3).1, fun i u hu => by rw [cell_blk h3]; exact h7 i u hu⟩
theorem Oww.ss (h : Oww base w v l) : SS w v l := h.bs
theorem Oww.block (h : Oww base w v l) (hs : ∀ k, v.ownBlock = some k → w'.heap[k]? = w.heap[k]?) : Oww base w' v l := by
  rcases h with h | ⟨g, off, cap, cur, rfl, h2, h3, h4⟩
  · exact .inl h
  · exact .inr ⟨g, off, cap, cur, rfl, h2, (hs g rfl).trans h3, h4⟩
theorem Oww.lt (h : Oww base w v l) {k : Nat} (hk : v.ownBlock = some k) : base ≤ k ∧ k < w.heap.size := by
  rcases h with ⟨rfl, _⟩ | ⟨g, off, cap, cur, rfl, h2, h3, _⟩
  · cases hk
  · simp only [Value.ownBlock, Option.some.injEq] at hk
    subst hk
    exact ⟨h2, (Array.getElem?_eq_some_iff.1 h3).1⟩
theorem Oww.only {S : List Nat} (h : Oww base w v l) (ho : Only S w w') (hn : ∀ k, v.ownBlock = some k → k ∉ S) : Oww base w' v l := h.block fun k hk => ho.block k (h.lt hk).2 (hn k hk)
theorem Oww.later (h : Oww base w v l) (hb : Below w.heap.size w w') : Oww base w' v l := h.block fun k hk => hb.block k (h.lt hk).2
theorem Oww.len (h : Oww base w v l) : ∃ a c, v = .slice a l.length c := by
  rcases h with ⟨rfl, rfl⟩ | ⟨g, off, cap, cur, rfl, _⟩
  · exact ⟨_, _, rfl⟩
  · exact ⟨_, _, rfl⟩
theorem Oww.form (h : Oww base w v l) : (v = .slice none 0 0 ∧ l = []) ∨ ∃ g off c, v = .slice (some ⟨g, off, none⟩) l.length c ∧ l.length ≤ c ∧ base ≤ g ∧ g < w.heap.size := by
  rcases h with h | ⟨g, off, cap, cur, rfl, h2, h3, h4, _⟩
  · exact .inl h
  · exact .inr ⟨g, off, cap, rfl, h4, h2, (Array.getElem?_eq_some_iff.1 h3).1⟩
/-- opened at a known place -/
theorem Oww.at {g off n cap : Nat} (h : Oww base w (.slice (some ⟨g, off, none⟩) n cap) l) : ∃ cur, n = l.length ∧ base ≤ g ∧ w.heap[g]? = some (.cells cur 9 (0, 0)) ∧ l.length ≤ cap ∧ cap ≤ maxLen ∧ off + cap ≤ cur.size ∧ ∀ i u, (sc l)[i]? = some u → cur[off + i]? = some u := by
  rcases h with ⟨e, _⟩ | ⟨g', off', cap', cur, e, h2⟩
  · cases e
  · injection e with e1 e2 e3
    injection e1 with e1
    injection e1 with e1 e4 _
    subst e1
    subst e3
    subst e4
    exact ⟨cur, e2, h2⟩
theorem ww_set {g off n cap : Nat} (h : Oww base w (.slice (some ⟨g, off, none⟩) n cap) l) (i : Nat) (hi : i < l.length) (p : List UInt8) : Oww base (w.setCell ⟨g, off + i, none⟩ (.string (bs p))) (.slice (some ⟨g, off, none⟩) n cap) (l.set i p) := by
  obtain ⟨cur, rfl, h2, h3, h4, h5, h6, h7⟩ := h.at
  refine .inr ⟨g, off, cap, _, by rw [List.length_set], h2, heap_setCellW w g (off + i) _ h3, by rw [List.length_set]; exact h4, h5, by simpa using h6, fun j u hu => ?_⟩
  rw [sc_setW] at hu
  by_cases e : j = i
  · subst e
    rw [List.getElem?_set_self (by rw [sc_length]; exact hi)] at hu
    rw [Array.getElem?_setIfInBounds_self_of_lt (by omega)]
    exact hu
  · rw [List.getElem?_set_ne (Ne.symm e)] at hu
    rw [Array.getElem?_setIfInBounds_ne (by omega)]
    exact h7 j u hu
theorem ww_cell {g off n cap : Nat} (h : Oww base w (.slice (some ⟨g, off, none⟩) n cap) l) (i : Nat) (hi : i < l.length) :
    w.cell? ⟨g, off + i, none⟩ = some (.string (bs l[i])) ∧ w.frozen? ⟨g, off + i, none⟩ = false ∧ base ≤ g ∧ g < w.heap.size := by
  obtain ⟨cur, rfl, h2, h3, h4, h5, h6, h7⟩ := h.at
  refine ⟨?_, by simp [World.frozen?, h3], h2, (Array.getElem?_eq_some_iff.1 h3).1⟩
  rw [cell_blk h3]
  exact h7 i _ (by simp [sc_get, hi])
theorem ss_of_ww {g off n m c c' : Nat} (h : Oww base w (.slice (some ⟨g, off, none⟩) m c) l) (hn : n ≤ l.length) (hc : n ≤ c') : SS w (.slice (some ⟨g, off, none⟩) n c') (l.take n) := by
  obtain ⟨cur, rfl, h2, h3, h4, h5, h6, h7⟩ := h.at
  have e : (l.take n).length = n := by simp; omega
  refine .inr ⟨g, off, c', by rw [e], by omega, (Array.getElem?_eq_some_iff.1 h3).1, fun i u hu => ?_⟩
  have hi : i < n := by
    have := (List.getElem?_eq_some_iff.1 hu).1
    rw [sc_length, e] at this; exact this
  rw [cell_blk h3]
  refine h7 i u ?_
  rw [sc_get, List.getElem?_take_of_lt hi] at hu
  rw [sc_get]; exact hu
end
end Go.Proofs.YtlkkmcibjhoneaaGreatDoor
