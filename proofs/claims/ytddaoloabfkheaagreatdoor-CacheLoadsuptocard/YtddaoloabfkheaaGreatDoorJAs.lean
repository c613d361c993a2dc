/-
  Is a text, a label, a name among those of a list?
  A fault asked for with errors.As: the place is laid in the variable.
-/
import Derived.Test.YtddaoloabfkheaaGreatDoorRows3
import Derived.Test.YtddaoloabfkheaaGreatDoorJRd
import Derived.LaidEql
import Derived.Stop.Asserts
import Derived.RowKitTokens
namespace Go.Proofs.YtddaoloabfkheaaGreatDoor
open Go.RowKit

theorem contains_step {α : Type} [BEq α] {l : List α} {x : α} {k : Nat} (hk : k < l.length) : (l.take (k + 1)).contains x = ((l.take k).contains x || (x == l[k])) := by
  rw [List.take_succ_eq_append_getElem hk, List.contains_append]
  simp
set_option maxRecDepth 100000 in
set_option maxHeartbeats 1000000 in
theorem indexS_any {w : World} {v : Value} {l : List (List UInt8)} (h : SS w v l) (x : List UInt8) (hl : l.length ≤ 1000000000) :
    Calls Tryz.prog 158 #[v, .string (bs x)] w fun e w' => ∃ n : Int, e = .returned (.int .i64 n) ∧ decide (0 ≤ n) = l.contains x ∧ w' = w := by
  obtain ⟨R, hR⟩ : ∃ R, l.contains x = R := ⟨_, rfl⟩
  rw [hR]
  have HR : Hid (l.contains x = R) := hR
  clear hR
  obtain ⟨a, c, rfl, ca⟩ := h.form
  have HC : Hid (∀ k, (hk : k < l.length) → ∃ b off, a = some ⟨b, off, none⟩ ∧ b < w.heap.size ∧ w.cell? ⟨b, off + k, none⟩ = some (.string (bs l[k]))) := ca
  clear ca h
  have ex := bs_toList x
  go_enter Tryz.func158, Tryz.ntmps158
  go_wp2_with fail
  go_loop [8] (fun i => ∃ k : Nat, k ≤ l.length ∧ i = .int .i64 k ∧ (l.take k).contains x = false) (fun i => l.length - (intOf i).toNat)
  case atStart => exact ⟨0, Nat.zero_le _, rfl, by simp⟩
  case round =>
    obtain ⟨k, hk, rfl, hno⟩ := hrel
    have HN : Hid ((l.take k).contains x = false) := hno
    clear hno
    by_cases hlt : k < l.length
    · obtain ⟨b, off, rfl, hb, hc⟩ := HC.out k hlt
      have i1 : (0 : Int) ≤ (k : Int) := by omega
      have i2 : (k : Int) < (l.length : Int) := by omega
      have ek := bs_toList l[k]
      by_cases he : x = l[k]
      · obtain rfl : R = true := by rw [← HR.out, he]; simp
        have e1 : (x == l[k]) = true := by rw [he]; simp
        clear he
        go_wp2_with fail
        go_ret
        exact ⟨_, rfl, by simp, rfl⟩
      · have e1 : (x == l[k]) = false := by simpa using he
        have HT : Hid ((l.take (k + 1)).contains x = false) := by
          show (l.take (k + 1)).contains x = false
          rw [contains_step hlt, HN.out, e1]; rfl
        clear he
        go_wp2_with fail
        go_round
        case rel => exact ⟨k + 1, hlt, rfl, HT.out⟩
        case measure => simp only [intOf]; omega
    · obtain rfl : k = l.length := by omega
      obtain rfl : R = false := by
        have := HN.out
        rw [List.take_length, HR.out] at this; exact this
      go_wp2_with fail
      go_ret
      exact ⟨_, rfl, by decide, rfl⟩
set_option maxRecDepth 100000 in
set_option maxHeartbeats 1000000 in
theorem containsS_any {w : World} {v : Value} {l : List (List UInt8)} (h : SS w v l) (x : List UInt8) (hl : l.length ≤ 1000000000) :
    Calls Tryz.prog 149 #[v, .string (bs x)] w fun e w' => e = .returned (.bool (l.contains x)) ∧ w' = w := by
  have HI : Hid (Calls Tryz.prog 158 #[v, .string (bs x)] w fun e w' => ∃ n : Int, e = .returned (.int .i64 n) ∧ decide (0 ≤ n) = l.contains x ∧ w' = w) := indexS_any h x hl
  clear h
  generalize l.contains x = R at *
  go_enter Tryz.func149, Tryz.ntmps149
  go_wp2_with fail
  refine HI.out.mono ?_
  rintro e w1 ⟨n, rfl, hn, rfl⟩
  subst hn
  go_wp2_with fail
  go_ret
  exact ⟨rfl, rfl⟩

set_option maxRecDepth 100000 in
set_option maxHeartbeats 2000000 in
theorem indexL_any {w : World} {v : Value} {l : List Lb} (h : LS w v l) (x : Lb) (hl : l.length ≤ 1000000000) :
    Calls Tryz.prog 167 #[v, x.val] w fun e w' => ∃ n : Int, e = .returned (.int .i64 n) ∧ decide (0 ≤ n) = l.contains x ∧ Below w.heap.size w w' := by
  obtain ⟨R, hR⟩ : ∃ R, l.contains x = R := ⟨_, rfl⟩
  rw [hR]
  have HR : Hid (l.contains x = R) := hR
  clear hR
  obtain ⟨w0, hw0⟩ : ∃ w0, w.alloc (.cells #[.string (bs x.pkg), .string (bs x.name)] 92) = w0 := ⟨_, rfl⟩
  have hb0 : Below w.heap.size w w0 := by rw [← hw0]; exact balloc _ _
  obtain ⟨a, c, rfl, ca⟩ := (h.later hb0).form
  have HC : Hid (∀ k, (hk : k < l.length) → ∃ b off, a = some ⟨b, off, none⟩ ∧ b < w0.heap.size ∧ w0.cell? ⟨b, off + k * 2, none⟩ = some (.string (bs l[k].pkg)) ∧ w0.cell? ⟨b, off + k * 2 + 1, none⟩ = some (.string (bs l[k].name))) := ca
  have x0 : w0.cell? ⟨w.heap.size, 0, none⟩ = some (.string (bs x.pkg)) := by rw [← hw0]; simp
  have x1 : w0.cell? ⟨w.heap.size, 1, none⟩ = some (.string (bs x.name)) := by rw [← hw0]; simp
  have HB : Hid (Below w.heap.size w w0) := hb0
  have HW : Hid (w.alloc (.cells #[.string (bs x.pkg), .string (bs x.name)] 92) = w0) := hw0
  clear ca h hw0 hb0
  unfold Lb.val
  go_enter Tryz.func167, Tryz.ntmps167
  go_wp2_with fail
  rw [HW.out]
  go_loopw [8] (fun i wr => ∃ k n : Nat, k ≤ l.length ∧ i = .int .i64 k ∧ (l.take k).contains x = false ∧ wr = w0.drewN n) (fun i _ => l.length - (intOf i).toNat)
  case atStart => exact ⟨0, 0, Nat.zero_le _, rfl, by simp, rfl⟩
  case round =>
    obtain ⟨k, m, hk, rfl, hno, rfl⟩ := hrel
    have HN : Hid ((l.take k).contains x = false) := hno
    clear hno
    by_cases hlt : k < l.length
    · obtain ⟨b, off, rfl, hb, hc0, hc1⟩ := HC.out k hlt
      have i1 : (0 : Int) ≤ (k : Int) := by omega
      have i2 : (k : Int) < (l.length : Int) := by omega
      have e2 : ∀ (w : World) (op : BinOp) (y z : Operand) (xs ys : Array Value), (eqGuard op 92 y z (.agg xs) (.agg ys)).run Tryz.prog w = .ok () w := guard_run
      by_cases he : x = l[k]
      · obtain rfl : R = true := by rw [← HR.out, he]; simp
        have e1 : ∀ w : World, (binOp .eql 92 (.agg #[.string (bs x.pkg), .string (bs x.name)]) (.agg #[.string (bs l[k].pkg), .string (bs l[k].name)])).run Tryz.prog w = .ok (.bool true) w := fun w => by
          rw [eql_run]; simp [he]
        clear he
        go_wp2_with fail
        go_quiet (fail)
        go_wp2_with fail
        go_ret
        exact ⟨_, rfl, by simp, bstep HB.out (by rw [World.drewN_drewN]; exact bd _ _)⟩
      · have e1 : ∀ w : World, (binOp .eql 92 (.agg #[.string (bs x.pkg), .string (bs x.name)]) (.agg #[.string (bs l[k].pkg), .string (bs l[k].name)])).run Tryz.prog w = .ok (.bool false) w := fun w => by
          rw [eql_run]; simp only [decide_eq_false (show ¬ ((⟨x.pkg, x.name⟩ : Lb) = ⟨l[k].pkg, l[k].name⟩) from he)]
        have HT : Hid ((l.take (k + 1)).contains x = false) := by
          show (l.take (k + 1)).contains x = false
          rw [contains_step hlt, HN.out, (by simpa using he : (x == l[k]) = false)]; rfl
        clear he
        go_wp2_with fail
        go_quiet (fail)
        go_wp2_with fail
        go_roundw
        case rel => exact ⟨k + 1, _, hlt, rfl, HT.out, rfl⟩
        case measure => simp only [intOf]; omega
    · obtain rfl : k = l.length := by omega
      obtain rfl : R = false := by
        have := HN.out
        rw [List.take_length, HR.out] at this; exact this
      go_wp2_with fail
      go_ret
      exact ⟨_, rfl, by decide, bstep HB.out (bd _ _)⟩
set_option maxRecDepth 100000 in
set_option maxHeartbeats 1000000 in
theorem containsL_any {w : World} {v : Value} {l : List Lb} (h : LS w v l) (x : Lb) (hl : l.length ≤ 1000000000) :
    Calls Tryz.prog 161 #[v, x.val] w fun e w' => e = .returned (.bool (l.contains x)) ∧ Below w.heap.size w w' := by
  have HI : Hid (∀ W : World, LS W v l → Calls Tryz.prog 167 #[v, x.val] W fun e w' => ∃ n : Int, e = .returned (.int .i64 n) ∧ decide (0 ≤ n) = l.contains x ∧ Below W.heap.size W w') := fun W hW => indexL_any hW x hl
  have HL : Hid (LS (w.alloc (.cells #[.string (bs x.pkg), .string (bs x.name)] 92)) v l) := h.later (balloc _ _)
  clear h
  generalize l.contains x = R at *
  unfold Lb.val at HI ⊢
  go_enter Tryz.func161, Tryz.ntmps161
  go_wp2_with fail
  refine (HI.out _ HL.out).mono ?_
  rintro e w1 ⟨n, rfl, hn, hb⟩
  subst hn
  have HB : Hid (Below w.heap.size w w1) := bstep (balloc _ _) hb
  clear hb
  go_wp2_with fail
  go_ret
  exact ⟨rfl, HB.out⟩

/-! ### a name among those of targets -/
def Tv.obj (t : Tv) : Obj := .cells #[.string (bs t.name), .slice t.sa t.sn t.sc, .slice t.da t.dn t.dc, .slice t.ea t.en t.ec] 66
set_option maxRecDepth 100000 in
set_option maxHeartbeats 1000000 in
theorem hasName1_any (t : Tv) (n : List UInt8) (w : World) {g : Nat} (hg : w.cell? ⟨g, 0, none⟩ = some (.string (bs n))) (hlt : g < w.heap.size) :
    Calls Tryz.prog 147 #[t.val, .pointer (some ⟨g, 0, none⟩)] w fun e w' => e = .returned (.bool (t.name == n)) ∧ Below w.heap.size w w' := by
  have e1 := bs_toList n
  have e2 := bs_toList t.name
  unfold Tv.val
  have ne : g ≠ w.heap.size := by omega
  generalize hR : (t.name == n) = R
  have hg2 : ∀ o, (w.alloc o).cell? ⟨g, 0, none⟩ = some (.string (bs n)) := fun o => by rw [World.cell?_alloc_lt _ _ ⟨g, 0, none⟩ hlt]; exact hg
  go_enter Tryz.func147, Tryz.ntmps147
  go_wp2_with fail
  go_ret
  exact ⟨rfl, balloc _ _⟩
set_option maxRecDepth 100000 in
set_option maxHeartbeats 2000000 in
theorem indexG_any {w : World} {v : Value} {l : List Tv} (h : GS w v l) (x : List UInt8) (hl : l.length ≤ 1000000000) {g : Nat} (hg : w.cell? ⟨g, 0, none⟩ = some (.string (bs x))) (hgl : g < w.heap.size) :
    Calls Tryz.prog 157 #[v, .func (.func 147) #[] #[.pointer (some ⟨g, 0, none⟩)]] w fun e w' => ∃ n : Int, e = .returned (.int .i64 n) ∧ decide (0 ≤ n) = (l.any fun t => t.name == x) ∧ Below w.heap.size w w' := by
  obtain ⟨R, hR⟩ : ∃ R, (l.any fun t => t.name == x) = R := ⟨_, rfl⟩
  rw [hR]
  have HR : Hid ((l.any fun t => t.name == x) = R) := hR
  clear hR
  obtain ⟨a, c, rfl, _⟩ := h.form
  have HG : Hid (GS w (.slice a l.length c) l) := h
  clear h
  have HX : Hid (w.cell? ⟨g, 0, none⟩ = some (.string (bs x))) := hg
  clear hg
  go_enter Tryz.func157, Tryz.ntmps157
  go_wp2_with fail
  go_loopw [8] (fun i wr => ∃ k : Nat, k ≤ l.length ∧ i = .int .i64 k ∧ ((l.take k).any fun t => t.name == x) = false ∧ Below w.heap.size w wr) (fun i _ => l.length - (intOf i).toNat)
  case atStart => exact ⟨0, Nat.zero_le _, rfl, by simp, Below.refl _ _⟩
  case round =>
    obtain ⟨k, hk, rfl, hno, hb⟩ := hrel
    have HN : Hid (((l.take k).any fun t => t.name == x) = false) := hno
    have HB : Hid (Below w.heap.size w wr) := hb
    clear hno hb
    by_cases hlt : k < l.length
    · obtain ⟨b, off, rfl, hbl, d0, d1, d2, d3⟩ := HG.out.at HB.out hlt
      have i1 : (0 : Int) ≤ (k : Int) := by omega
      have i2 : (k : Int) < (l.length : Int) := by omega
      have HF : Hid (Calls Tryz.prog 147 #[l[k].val, .pointer (some ⟨g, 0, none⟩)] wr fun e w' => e = .returned (.bool (l[k].name == x)) ∧ Below wr.heap.size wr w') :=
        hasName1_any l[k] x wr ((HB.out.cell (p := ⟨g, 0, none⟩) hgl).trans HX.out) (Nat.lt_of_lt_of_le hgl HB.out.size)
      have HS : Hid (((l.take (k + 1)).any fun t => t.name == x) = (l[k].name == x)) := by
        show ((l.take (k + 1)).any fun t => t.name == x) = (l[k].name == x)
        rw [List.take_succ_eq_append_getElem hlt, List.any_append, HN.out]; simp
      unfold Tv.val at HF
      cases he : (l[k].name == x)
      · rw [he] at HF HS
        clear he
        go_wp2_with fail
        refine HF.out.mono ?_
        rintro e w1 ⟨rfl, hb1⟩
        have HB1 : Hid (Below w.heap.size w w1) := bstep HB.out hb1
        clear hb1
        go_wp2_with fail
        go_roundw
        case rel => exact ⟨k + 1, hlt, rfl, HS.out, HB1.out⟩
        case measure => simp only [intOf]; omega
      · obtain rfl : R = true := by
          rw [← HR.out, List.any_eq_true]
          exact ⟨l[k], List.getElem_mem _, he⟩
        rw [he] at HF HS
        clear he
        go_wp2_with fail
        refine HF.out.mono ?_
        rintro e w1 ⟨rfl, hb1⟩
        have HB1 : Hid (Below w.heap.size w w1) := bstep HB.out hb1
        clear hb1
        go_wp2_with fail
        go_ret
        exact ⟨_, rfl, by simp, HB1.out⟩
    · obtain rfl : k = l.length := by omega
      obtain rfl : R = false := by
        have := HN.out
        rw [List.take_length, HR.out] at this; exact this
      go_wp2_with fail
      go_ret
      exact ⟨_, rfl, by decide, HB.out⟩
set_option maxRecDepth 100000 in
set_option maxHeartbeats 1000000 in
theorem containsG_any {w : World} {v : Value} {l : List Tv} (h : GS w v l) (x : List UInt8) (hl : l.length ≤ 1000000000) {g : Nat} (hg : w.cell? ⟨g, 0, none⟩ = some (.string (bs x))) (hgl : g < w.heap.size) :
    Calls Tryz.prog 146 #[v, .func (.func 147) #[] #[.pointer (some ⟨g, 0, none⟩)]] w fun e w' => e = .returned (.bool (l.any fun t => t.name == x)) ∧ Below w.heap.size w w' := by
  have HI : Hid (Calls Tryz.prog 157 #[v, .func (.func 147) #[] #[.pointer (some ⟨g, 0, none⟩)]] w fun e w' => ∃ n : Int, e = .returned (.int .i64 n) ∧ decide (0 ≤ n) = (l.any fun t => t.name == x) ∧ Below w.heap.size w w') := indexG_any h x hl hg hgl
  clear h hg
  generalize (l.any fun t => t.name == x) = R at *
  go_enter Tryz.func146, Tryz.ntmps146
  go_wp2_with fail
  refine HI.out.mono ?_
  rintro e w1 ⟨n, rfl, hn, hb⟩
  subst hn
  have HB : Hid (Below w.heap.size w w1) := hb
  clear hb
  go_wp2_with fail
  go_ret
  exact ⟨rfl, HB.out⟩
set_option maxRecDepth 100000 in
set_option maxHeartbeats 1000000 in
theorem hasName_any {w : World} {v : Value} {l : List Tv} (h : GS w v l) (x : List UInt8) (hl : l.length ≤ 1000000000) :
    Calls Tryz.prog 130 #[v, .string (bs x)] w fun e w' => e = .returned (.bool (l.any fun t => t.name == x)) ∧ Below w.heap.size w w' := by
  have hmf : ∀ (fn : Fn) (first cap : Array Value) (w : World), (Instr.makeFunc fn first cap).run Tryz.prog w = .ok (.func fn first cap) w := fun _ _ _ _ => rfl
  have HI : Hid (Calls Tryz.prog 146 #[v, .func (.func 147) #[] #[.pointer (some ⟨w.heap.size, 0, none⟩)]] (w.alloc (.cells #[.string (bs x)] 9)) fun e w' => e = .returned (.bool (l.any fun t => t.name == x)) ∧ Below (w.alloc (.cells #[.string (bs x)] 9)).heap.size (w.alloc (.cells #[.string (bs x)] 9)) w') :=
    containsG_any (h.later (balloc _ _)) x hl (by simp) (by simp)
  clear h
  generalize (l.any fun t => t.name == x) = R at *
  go_enter Tryz.func130, Tryz.ntmps130
  go_wp2_with fail
  refine HI.out.mono ?_
  rintro e w1 ⟨rfl, hb⟩
  have HB : Hid (Below w.heap.size w w1) := bstep (balloc _ _) hb
  clear hb
  go_wp2_with fail
  go_ret
  exact ⟨rfl, HB.out⟩
end Go.Proofs.YtddaoloabfkheaaGreatDoor

namespace Go.Proofs.YtddaoloabfkheaaGreatDoor
open Go.RowKit Go.Extern.Stop Go.Stop Go.Extern

/-- what errors.errorType holds -/
def hErr : Value := .iface 200 (.agg #[.pointer (some ⟨4, 145, none⟩)])
/-- the library's variable, as it lies -/
structure Ev (w : World) : Prop where
  cell : w.cell? ⟨1, 0, none⟩ = some hErr
  max : ∃ m, w.cell? ⟨0, 0, none⟩ = some (.int .i64 m)
  big : 4 ≤ w.heap.size
theorem Ev.below {w w' : World} {B : Nat} (h : Ev w) (hb : Below B w w') (hB : 4 ≤ B) : Ev w' := by
  obtain ⟨m, hm⟩ := h.max
  exact ⟨(hb.cell (p := ⟨1, 0, none⟩) (by show 1 < B; omega)).trans h.cell, ⟨m, (hb.cell (p := ⟨0, 0, none⟩) (by show 0 < B; omega)).trans hm⟩, Nat.le_trans h.big hb.size⟩
theorem Ev.later {w w' : World} (h : Ev w) (hb : Below w.heap.size w w') : Ev w' := h.below hb h.big
theorem Ev.only {S : List Nat} {w w' : World} (h : Ev w) (hb : Only S w w') (hS : ∀ k ∈ S, 4 ≤ k) : Ev w' := h.below (hb.below h.big hS) (Nat.le_refl _)

def vA (p : Addr) : Value := .agg #[.pointer (some ⟨4, 160, none⟩), .pointer (some p), .int .u64 386]
def ty (t : Nat) : Value := .iface 200 (.agg #[.pointer (some ⟨4, t, none⟩)])
theorem as_valT (t : Addr) (w : World) : (ReflectliteValue.unpack (.iface 162 (.pointer (some t)))).run Tryz.prog w
    = .ok (.agg #[.pointer (some ⟨4, 162, none⟩), .pointer (some ⟨w.heap.size, 0, none⟩), .int .u64 150]) (w.alloc (.cells #[.pointer (some t)] 162)) := by kernel_rfl
theorem as_type (a : Addr) (w : World) : (ReflectliteValue.methodAny (ReflectliteValue.valueError "reflectlite.Value.Type" 0) (fun t _ _ _ => ReflectliteType.toType t) #[.agg #[.pointer (some ⟨4, 162, none⟩), .pointer (some a), .int .u64 150]]).run Tryz.prog w
    = .ok (.iface 200 (.agg #[.pointer (some ⟨4, 162, none⟩)])) w := by kernel_rfl
theorem as_mKind (h : Value) (w : World) : (Go.method 378 200 (.agg #[h]) "Kind").run Tryz.prog w = .ok (202, h) w := by kernel_rfl
theorem as_kT (w : World) : ((ReflectliteType.abiMethod fun t => (fun a : Nat => Value.int IntKind.u8 (a : Int)) <$> Rtype.kind t) #[.pointer (some ⟨4, 162, none⟩)]).run Tryz.prog w = .ok (.int .u8 22) w := by kernel_rfl
theorem as_kE (w : World) : ((ReflectliteType.abiMethod fun t => (fun a : Nat => Value.int IntKind.u8 (a : Int)) <$> Rtype.kind t) #[.pointer (some ⟨4, 160, none⟩)]).run Tryz.prog w = .ok (.int .u8 2) w := by kernel_rfl
theorem as_rlm (z : Sem Value) (f : TypeId → Addr → Nat → Nat → Sem Value) (v : Value) :
    ReflectliteValue.method z f #[v] = (do match ← ReflectliteValue.parts v with | none => z | some (t, a, fl) => f t a fl (fl % 32)) := rfl
theorem as_partsT (a : Addr) (w : World) : (ReflectliteValue.parts (.agg #[.pointer (some ⟨4, 162, none⟩), .pointer (some a), .int .u64 150])).run Tryz.prog w = .ok (some (162, a, 150)) w := by kernel_rfl
theorem as_isNil (a p : Addr) (W : World) (ha : W.cell? a = some (.pointer (some p))) :
    (ReflectliteValue.method (ReflectliteValue.valueError "reflectlite.Value.IsNil" 0) ReflectliteValue.isNil #[.agg #[.pointer (some ⟨4, 162, none⟩), .pointer (some a), .int .u64 150]]).run Tryz.prog W = .ok (.bool false) W := by
  rw [as_rlm]
  simp only [Sem.run_bind, as_partsT, Result.andThen]
  simp [ReflectliteValue.isNil, loadVar, isAgg, underlying, Tryz.underlying162, ha, Result.andThen]
theorem as_mElem (h : Value) (w : World) : (Go.method 378 200 (.agg #[h]) "Elem").run Tryz.prog w = .ok (212, .agg #[h]) w := by kernel_rfl
theorem as_mImpl (h : Value) (w : World) : (Go.method 378 200 (.agg #[h]) "Implements").run Tryz.prog w = .ok (213, .agg #[h]) w := by kernel_rfl
theorem as_mAssign (h : Value) (w : World) : (Go.method 378 200 (.agg #[h]) "AssignableTo").run Tryz.prog w = .ok (210, .agg #[h]) w := by kernel_rfl
theorem as_elem (w : World) : (ReflectliteType.method ReflectliteType.elem #[.agg #[.pointer (some ⟨4, 162, none⟩)]]).run Tryz.prog w = .ok (.iface 200 (.agg #[.pointer (some ⟨4, 160, none⟩)])) w := by kernel_rfl
theorem as_impl (w : World) : (ReflectliteType.relation "Implements" ReflectliteType.implements_ #[.agg #[.pointer (some ⟨4, 160, none⟩)], .iface 200 (.agg #[.pointer (some ⟨4, 145, none⟩)])]).run Tryz.prog w = .ok (.bool true) w := by kernel_rfl
theorem as_typeOf (v : Value) (w : World) : (ReflectliteType.typeOf #[.iface 160 v]).run Tryz.prog w = .ok (.iface 200 (.agg #[.pointer (some ⟨4, 160, none⟩)])) w := by kernel_rfl
theorem as_assign (w : World) : (ReflectliteType.relation "AssignableTo" ReflectliteType.assignableTo #[.agg #[.pointer (some ⟨4, 160, none⟩)], .iface 200 (.agg #[.pointer (some ⟨4, 160, none⟩)])]).run Tryz.prog w = .ok (.bool true) w := by kernel_rfl
theorem as_valE (z : Int) (w : World) : (ReflectliteValue.unpack (.iface 160 (.int .i64 z))).run Tryz.prog w
    = .ok (.agg #[.pointer (some ⟨4, 160, none⟩), .pointer (some ⟨w.heap.size, 0, none⟩), .int .u64 130]) (w.alloc (.cells #[.int .i64 z] 160)) := by kernel_rfl
theorem as_elemOf (w : World) : (Rtype.elem? 162).run Tryz.prog w = .ok (some 160) w := by kernel_rfl
theorem as_mk (p : Addr) (w : World) : (ReflectliteValue.mk 160 p ReflectliteValue.flagAddr).run Tryz.prog w = .ok (.agg #[.pointer (some ⟨4, 160, none⟩), .pointer (some p), .int .u64 386]) w := by kernel_rfl
theorem as_elemV (a p : Addr) (W : World) (ha : W.cell? a = some (.pointer (some p))) :
    (ReflectliteValue.method (ReflectliteValue.valueError "reflectlite.Value.Elem" 0) ReflectliteValue.elem #[.agg #[.pointer (some ⟨4, 162, none⟩), .pointer (some a), .int .u64 150]]).run Tryz.prog W
      = .ok (.agg #[.pointer (some ⟨4, 160, none⟩), .pointer (some p), .int .u64 386]) W := by
  rw [as_rlm]
  simp only [Sem.run_bind, as_partsT, Result.andThen]
  simp [ReflectliteValue.elem, loadVar, isAgg, underlying, Tryz.underlying162, ha, Result.andThen, as_elemOf, as_mk]
theorem as_rls (v x : Value) : ReflectliteValue.set #[v, x] = (do
    let (some (dst, a, fl), some (src, b, _)) := (← ReflectliteValue.parts v, ← ReflectliteValue.parts x)
      | unsupported (.noEntry "extern/(internal/reflectlite.Value).Set.zeroValue")
    if fl / ReflectliteValue.flagAddr % 2 == 0 then unsupported (.noEntry "extern/(internal/reflectlite.Value).Set.unaddressable")
    let val ← loadVar src b
    if ← Rtype.directlyAssignable dst src then storeVar dst a val
    else if ← Rtype.implements dst src then
      if (← Rtype.kind src) == 20 then
        match val with
        | .nilIface => unsupported (.noEntry "extern/reflectlite: a nil value of one interface type handed on as a value of another")
        | _ => storeVar dst a val
      else storeVar dst a (.iface src val)
    else panicString ("reflectlite.Set: value of type " ++ (← Rtype.spelt src) ++ " is not assignable to type " ++ (← Rtype.spelt dst))
    pure (.tuple #[])) := rfl
theorem as_partsA (a : Addr) (w : World) : (ReflectliteValue.parts (.agg #[.pointer (some ⟨4, 160, none⟩), .pointer (some a), .int .u64 386])).run Tryz.prog w = .ok (some (160, a, 386)) w := by kernel_rfl
theorem as_partsE (a : Addr) (w : World) : (ReflectliteValue.parts (.agg #[.pointer (some ⟨4, 160, none⟩), .pointer (some a), .int .u64 130])).run Tryz.prog w = .ok (some (160, a, 130)) w := by kernel_rfl
theorem as_direct (w : World) : (Rtype.directlyAssignable 160 160).run Tryz.prog w = .ok true w := by kernel_rfl
theorem as_set (ta b : Addr) (z : Int) (old : Value) (W : World) (hb : W.cell? b = some (.int .i64 z)) (ht : W.cell? ta = some old) (hf : W.frozen? ta = false) :
    (ReflectliteValue.set #[.agg #[.pointer (some ⟨4, 160, none⟩), .pointer (some ta), .int .u64 386], .agg #[.pointer (some ⟨4, 160, none⟩), .pointer (some b), .int .u64 130]]).run Tryz.prog W
      = .ok (.tuple #[]) (W.setCell ta (.int .i64 z)) := by
  rw [as_rls]
  simp only [Sem.run_bind, as_partsA, as_partsE, Result.andThen]
  simp [ReflectliteValue.flagAddr, loadVar, isAgg, underlying, Tryz.underlying160, hb, Result.andThen, as_direct, storeVar, Value.cells, storeCells, Addr.add]
  rw [run_store Tryz.prog W ta _ _ (by rfl)]
  simp [ht, hf]

set_option maxRecDepth 100000 in
set_option maxHeartbeats 4000000 in
theorem as_hit (z : Int) (t : Addr) (old : Value) (w : World) (hg : w.cell? ⟨1, 0, none⟩ = some hErr) (ht0 : w.cell? t = some old) (hf0 : w.frozen? t = false) :
    Calls Tryz.prog 110 #[.iface 160 (.int .i64 z), .iface 162 (.pointer (some t))] w fun ev w' => ev = .returned (.bool true) ∧ w' = ((((w.alloc (.cells #[.pointer (some t)] 162)).alloc (.cells #[.pointer (some ⟨4, 162, none⟩), .pointer (some ⟨w.heap.size, 0, none⟩), .int .u64 150] 177)).alloc (.cells #[.pointer (some ⟨4, 162, none⟩), .pointer (some ⟨w.heap.size, 0, none⟩), .int .u64 150] 177)).alloc (.cells #[.int .i64 z] 160)).setCell t (.int .i64 z) := by
  unfold hErr at hg
  have h6 := @run_callFunc_extern Tryz.prog 121 _ (fun args => ReflectliteValue.unpack (args.getD 0 (.tuple #[]))) Tryz.func121 (by kernel_rfl) (by kernel_rfl) (by kernel_rfl) (by kernel_rfl)
  have h7 := @run_callFunc_extern Tryz.prog 122 _ (ReflectliteValue.methodAny (ReflectliteValue.valueError "reflectlite.Value.Type" 0) (fun t _ _ _ => ReflectliteType.toType t)) Tryz.func122 (by kernel_rfl) (by kernel_rfl) (by kernel_rfl) (by kernel_rfl)
  have h8 := @run_callFunc_extern Tryz.prog 123 _ (ReflectliteValue.method (ReflectliteValue.valueError "reflectlite.Value.IsNil" 0) ReflectliteValue.isNil) Tryz.func123 (by kernel_rfl) (by kernel_rfl) (by kernel_rfl) (by kernel_rfl)
  have h27 := @run_callFunc_extern Tryz.prog 202 _ (ReflectliteType.abiMethod fun t => do pure (.int .u8 (← Rtype.kind t))) Tryz.func202 (by kernel_rfl) (by kernel_rfl) (by kernel_rfl) (by kernel_rfl)
  have h37 := @run_callFunc_extern Tryz.prog 212 _ (ReflectliteType.method ReflectliteType.elem) Tryz.func212 (by kernel_rfl) (by kernel_rfl) (by kernel_rfl) (by kernel_rfl)
  have h38 := @run_callFunc_extern Tryz.prog 213 _ (ReflectliteType.relation "Implements" ReflectliteType.implements_) Tryz.func213 (by kernel_rfl) (by kernel_rfl) (by kernel_rfl) (by kernel_rfl)
  have h10 := @run_callFunc_extern Tryz.prog 139 _ ReflectliteType.typeOf Tryz.func139 (by kernel_rfl) (by kernel_rfl) (by kernel_rfl) (by kernel_rfl)
  have h35 := @run_callFunc_extern Tryz.prog 210 _ (ReflectliteType.relation "AssignableTo" ReflectliteType.assignableTo) Tryz.func210 (by kernel_rfl) (by kernel_rfl) (by kernel_rfl) (by kernel_rfl)
  have h11 := @run_callFunc_extern Tryz.prog 140 _ (ReflectliteValue.method (ReflectliteValue.valueError "reflectlite.Value.Elem" 0) ReflectliteValue.elem) Tryz.func140 (by kernel_rfl) (by kernel_rfl) (by kernel_rfl) (by kernel_rfl)
  have h12 := @run_callFunc_extern Tryz.prog 141 _ ReflectliteValue.set Tryz.func141 (by kernel_rfl) (by kernel_rfl) (by kernel_rfl) (by kernel_rfl)
  have tO := as_typeOf
  have mA := as_mAssign
  have a25 := as_assign
  have v25 := as_valE
  have f6 := as_valT
  have f7 := as_type
  have mK := as_mKind
  have mE := as_mElem
  have mI := as_mImpl
  have k27 := as_kT
  have k25 := as_kE
  have e27 := as_elem
  have i25 := as_impl
  have n8 := as_isNil ⟨w.heap.size, 0, none⟩ t ((w.alloc (.cells #[.pointer (some t)] 162)).alloc (.cells #[.pointer (some ⟨4, 162, none⟩), .pointer (some ⟨w.heap.size, 0, none⟩), .int .u64 150] 177)) (by simp)
  have hlt : 1 < w.heap.size := by
    rcases Nat.lt_or_ge 1 w.heap.size with h | h
    · exact h
    · simp [World.cell?, Array.getElem?_eq_none h] at hg
  have hg2 : ((w.alloc (.cells #[.pointer (some t)] 162)).alloc (.cells #[.pointer (some ⟨4, 162, none⟩), .pointer (some ⟨w.heap.size, 0, none⟩), .int .u64 150] 177)).cell? ⟨1, 0, none⟩ = some (.iface 200 (.agg #[.pointer (some ⟨4, 145, none⟩)])) := by
    rw [World.cell?_alloc_lt _ _ ⟨1, 0, none⟩ (by simp; omega), World.cell?_alloc_lt _ _ ⟨1, 0, none⟩ hlt]; exact hg
  have htl : t.block < w.heap.size := by
    rcases Nat.lt_or_ge t.block w.heap.size with h | h
    · exact h
    · simp [World.cell?, Array.getElem?_eq_none h] at ht0
  have el := as_elemV ⟨w.heap.size, 0, none⟩ t (((w.alloc (.cells #[.pointer (some t)] 162)).alloc (.cells #[.pointer (some ⟨4, 162, none⟩), .pointer (some ⟨w.heap.size, 0, none⟩), .int .u64 150] 177)).alloc (.cells #[.pointer (some ⟨4, 162, none⟩), .pointer (some ⟨w.heap.size, 0, none⟩), .int .u64 150] 177)) (by rw [World.cell?_alloc_lt _ _ ⟨w.heap.size, 0, none⟩ (by simp; omega)]; simp)
  have st := as_set t ⟨w.heap.size + 1 + 1 + 1, 0, none⟩ z old ((((w.alloc (.cells #[.pointer (some t)] 162)).alloc (.cells #[.pointer (some ⟨4, 162, none⟩), .pointer (some ⟨w.heap.size, 0, none⟩), .int .u64 150] 177)).alloc (.cells #[.pointer (some ⟨4, 162, none⟩), .pointer (some ⟨w.heap.size, 0, none⟩), .int .u64 150] 177)).alloc (.cells #[.int .i64 z] 160))
    (by rw [World.cell?_alloc_at _ _ _ _ (by simp)]; rfl)
    (by rw [World.cell?_alloc_lt _ _ t (by simp; omega), World.cell?_alloc_lt _ _ t (by simp; omega), World.cell?_alloc_lt _ _ t (by simp; omega), World.cell?_alloc_lt _ _ t htl]; exact ht0)
    (by rw [World.frozen?_alloc_old _ _ t (by simp; omega), World.frozen?_alloc_old _ _ t (by simp; omega), World.frozen?_alloc_old _ _ t (by simp; omega), World.frozen?_alloc_old _ _ t (Nat.ne_of_lt htl)]; exact hf0)
  go_enter Tryz.func110, Tryz.ntmps110
  go_wp2
  refine wp_loop_rounds 1 ?_
  rw [rounds_succ]
  go_wp2
  go_ret
  exact ⟨rfl, rfl⟩

set_option maxRecDepth 100000 in
set_option maxHeartbeats 1000000 in
theorem placeOf_any (z : Int) {w : World} (h : Ev w) :
    Calls Tryz.prog 94 #[.iface 160 (.int .i64 z)] w fun e w' => e = .returned (.int .i64 z) ∧ Below w.heap.size w w' := by
  have hg : (w.alloc (.cells #[.int .i64 0] 160)).cell? ⟨1, 0, none⟩ = some hErr := (h.later (balloc _ _)).cell
  have HA : Hid (Calls Tryz.prog 110 #[.iface 160 (.int .i64 z), .iface 162 (.pointer (some ⟨w.heap.size, 0, none⟩))] (w.alloc (.cells #[.int .i64 0] 160)) fun ev w' => ev = .returned (.bool true) ∧ w'.cell? ⟨w.heap.size, 0, none⟩ = some (.int .i64 z) ∧ Below w.heap.size w w') := by
    refine (as_hit z ⟨w.heap.size, 0, none⟩ (.int .i64 0) _ hg (by simp) (by simp)).mono ?_
    rintro e w' ⟨rfl, rfl⟩
    refine ⟨rfl, ?_, ?_⟩
    · have h0 : ((((w.alloc (.cells #[.int .i64 0] 160)).alloc (.cells #[.pointer (some ⟨w.heap.size, 0, none⟩)] 162)).alloc (.cells #[.pointer (some ⟨4, 162, none⟩), .pointer (some ⟨(w.alloc (.cells #[.int .i64 0] 160)).heap.size, 0, none⟩), .int .u64 150] 177)).alloc (.cells #[.pointer (some ⟨4, 162, none⟩), .pointer (some ⟨(w.alloc (.cells #[.int .i64 0] 160)).heap.size, 0, none⟩), .int .u64 150] 177)).heap[w.heap.size]? = some (.cells #[.int .i64 0] 160 (0, 0)) := by
        rw [heap_alloc_old _ _ (by simp; omega), heap_alloc_old _ _ (by simp; omega), heap_alloc_old _ _ (by simp), heap_alloc_new]
      have h1 := (heap_alloc_old _ (.cells #[.int .i64 z] 160) (by simp; omega)).trans h0
      have h2 := heap_setCell _ w.heap.size 0 (.int .i64 z) h1
      unfold World.cell?
      rw [h2]
      rfl
    · exact ((((balloc w _).alloc (by simp) _).alloc (by simp; omega) _).alloc (by simp; omega) _ |>.alloc (by simp; omega) _).setCell (p := ⟨w.heap.size, 0, none⟩) (Nat.le_refl _) _
  clear hg h
  go_enter Tryz.func94, Tryz.ntmps94
  go_wp2_with fail
  refine HA.out.mono ?_
  rintro e w1 ⟨rfl, hc, hb⟩
  have HB : Hid (Below w.heap.size w w1) := hb
  clear hb
  go_wp2_with fail
  go_ret
  exact ⟨rfl, HB.out⟩
end Go.Proofs.YtddaoloabfkheaaGreatDoor
