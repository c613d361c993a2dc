/-
  The directories of a snapshot's files, one by one.
-/
import Derived.Test.YtkbefggjfggdgaaGreatOp
import Derived.RangeFuncNested
import Derived.RangeFuncBound
import Derived.RangeFuncCalls
import Derived.RangeFuncLeaves
import Derived.Shelf.RegionOpen
import Derived.OwnWalkIn
import Derived.TacticsInMore
import Derived.LoopNIn
import Derived.LoopIn
namespace Go.Proofs.YtkbefggjfggdgaaGreat
open Go.RowKit
attribute [local go_sem] Oper.semAt_some

/-- what a round keeps: what lay below n₀, and the box of the files -/
structure Kq (n₀ Bl : Nat) (W W' : World) : Prop where
  below : Below n₀ W W'
  box : ∀ o : Obj, o.isCells = true → W.heap[Bl]? = some o → W'.heap[Bl]? = some o
theorem Kq.refl (n₀ Bl : Nat) (W : World) : Kq n₀ Bl W W := ⟨Below.refl _ _, fun _ _ h => h⟩
theorem Kq.trans {n₀ Bl : Nat} {A B C : World} (h : Kq n₀ Bl A B) (k : Kq n₀ Bl B C) : Kq n₀ Bl A C := ⟨h.below.trans k.below, fun o ho e => k.box o ho (h.box o ho e)⟩
/-- a run's files as a slice of them all -/
def Run.v {l : List Fl} (ad : Option Addr) (c : Nat) (r : Run l) : Value := .slice (ad.map fun x => x.add (r.lo * 4)) (r.hi - r.lo) (c - r.lo)
set_option maxRecDepth 100000 in
set_option maxHeartbeats 1000000 in
theorem dirs1_any (ad : Option Addr) (n c : Nat) (w : World) : Calls Tryz.prog 21 #[.slice ad n c] w fun e w' => e = .returned (.func (.func 43) #[] #[.pointer (some ⟨w.heap.size, 0, none⟩)]) ∧ w' = w.alloc (.cells #[.slice ad n c] 22) := by
  go_enter Tryz.func21, Tryz.ntmps21
  go_wp2_with fail
  go_ret
  exact ⟨rfl, rfl⟩
set_option maxRecDepth 100000 in
set_option maxHeartbeats 4000000 in
theorem dirs_stops {w : World} {l : List Fl} {ad : Option Addr} {n c n₀ Bl : Nat} (hn : l.length = n) (hc : n ≤ c) (hsz : n ≤ 1000000) (hp : ∀ f ∈ l, f.path.length ≤ 1000000000) (hbox : w.heap[Bl]? = some (.cells #[.slice ad n c] 22))
    (hA : ∀ k (hk : k < l.length), ∃ b off, ad = some ⟨b, off, none⟩ ∧ b < n₀ ∧ w.cell? ⟨b, off + k * 4, none⟩ = some (.string (bs l[k].path))) (hn0 : n₀ ≤ w.heap.size) (m : Nat) (hm : 2 ≤ m) :
    SeqStopsK Fence.wide m Tryz.prog 43 #[.pointer (some ⟨Bl, 0, none⟩)] (fun r : Run l => #[.string (bs r.d), r.v ad c]) (Kq n₀ Bl) (fun rs => Til rs 0 l.length) (fun _ => True) n w := by
  intro lp J Jx W hW hJ hJx hY h0
  have HA : Hid (∀ W', Kq n₀ Bl W W' → W'.cell? ⟨Bl, 0, none⟩ = some (.slice ad n c) ∧ ∀ k (hk : k < l.length), ∃ b off, ad = some ⟨b, off, none⟩ ∧ W'.cell? ⟨b, off + k * 4, none⟩ = some (.string (bs l[k].path))) := by
    intro W' hK
    have hBl := (Array.getElem?_eq_some_iff.1 hbox).1
    refine ⟨?_, fun k hk => ?_⟩
    · have h1 : W.heap[Bl]? = some (.cells #[.slice ad n c] 22) := (hW.block Bl hBl).trans hbox
      have h2 := hK.box _ rfl h1
      simp [World.cell?, h2]
    · obtain ⟨b, off, ea, hb, hcell⟩ := hA k hk
      refine ⟨b, off, ea, ?_⟩
      rw [hK.below.cell (p := ⟨b, off + k * 4, none⟩) hb, hW.cell (p := ⟨b, off + k * 4, none⟩) (by simp; omega)]
      exact hcell
  have HP : Hid (∀ f ∈ l, f.path.length ≤ 1000000000) := hp
  have HY : Hid (∀ pre x W1, J pre W1 → pre.length < n → YieldAt Fence.wide (m - 1) Tryz.prog lp #[.string (bs x.d), x.v ad c] W1 fun e W' =>
      (e = .returned (.bool true) ∧ J (pre ++ [x]) W' ∧ Kq n₀ Bl W1 W') ∨ (e = .returned (.bool false) ∧ Jx (pre ++ [x]) W')) := hY
  have H0 : Hid (J [] W) := h0
  clear hA hbox hp hY h0 hJ hJx hW hn0
  change CallsIn Fence.wide m Tryz.prog 43 #[.func (.yield lp) #[] #[], .pointer (some ⟨Bl, 0, none⟩)] W _
  refine callsIn_of_wp Tryz.func43 rfl trivial ?_ rfl
  simp only [Tryz.ntmps43, List.size_toArray, List.length_cons, List.length_nil, Nat.reduceAdd, Nat.reduceSub, Array.replicate_succ, Array.replicate_zero, List.push_toArray, List.append_toArray, List.nil_append, List.cons_append]
  gi_wp2_with fail
  gi_loopw [3] (fun p wr => ∃ (pre : List (Run l)) (i : Nat), p = .int .i64 i ∧ i ≤ n ∧ Til pre 0 i ∧ J pre wr ∧ Kq n₀ Bl W wr) (fun p _ => n - (intOf p).toNat)
  case atStart => exact ⟨[], 0, rfl, Nat.zero_le _, rfl, H0.out, Kq.refl _ _ _⟩
  case round =>
    obtain ⟨pre, i, rfl, hin, htil, hJs, hKs⟩ := hrel
    have HJ : Hid (J pre wr) := hJs
    have HT : Hid (Til pre 0 i) := htil
    have HK : Hid (Kq n₀ Bl W wr) := hKs
    clear htil hJs hKs
    have hbx := (HA.out wr HK.out).1
    have HC : Hid (∀ k (hk : k < l.length), ∃ b off, ad = some ⟨b, off, none⟩ ∧ wr.cell? ⟨b, off + k * 4, none⟩ = some (.string (bs l[k].path))) := (HA.out wr HK.out).2
    by_cases hlt : i < n
    · have hil : i < l.length := by omega
      have i0 : (0 : Int) ≤ (i : Int) := by omega
      have i1 : (i : Int) < (n : Int) := by omega
      obtain ⟨b, off, rfl, hci⟩ := HC.out i hil
      obtain ⟨d, hd⟩ : ∃ d, dir l[i].path = d := ⟨_, rfl⟩
      have HD : Hid (dir l[i].path = d) := hd
      have hdi := fun W => dir_any l[i].path W (by have := HP.out _ (List.getElem_mem hil); omega)
      rw [hd] at hdi
      have HDI : Hid (∀ W, Calls Tryz.prog 34 #[.string (bs l[i].path)] W fun e w' => e = .returned (.string (bs d)) ∧ w' = W) := hdi
      clear hd hdi
      gi_wp2_with fail
      refine ⟨trivial, fun _ => by omega, (callsIn_wide.2 (HDI.out _)).mono ?_⟩
      rintro e w1 ⟨rfl, ew1⟩
      subst ew1
      gi_wp2_with fail
      gi_loopw [5] (fun q wr => ∃ j : Nat, q = .int .i64 j ∧ i < j ∧ j ≤ n ∧ (∀ t (h : t < l.length), i ≤ t → t < j → dir l[t].path = dir l[i].path) ∧ wr = w1) (fun q _ => n - (intOf q).toNat)
      case atStart => exact ⟨i + 1, by go_num, by omega, by omega, fun t h h1 h2 => (by have e : t = i := (by omega); subst e; rfl), rfl⟩
      case round =>
        obtain ⟨j, rfl, hij, hjn, hall, ewr⟩ := hrel
        subst ewr
        have HALL : Hid (∀ t (h : t < l.length), i ≤ t → t < j → dir l[t].path = dir l[i].path) := hall
        clear hall
        by_cases hjl : j < n
        · have hjll : j < l.length := by omega
          have j0 : (0 : Int) ≤ (j : Int) := by omega
          have j1 : (j : Int) < (n : Int) := by omega
          obtain ⟨b', off', eb, hcj⟩ := HC.out j hjll
          injection eb with eb
          injection eb with eb1 eb2 _
          subst eb1; subst eb2
          obtain ⟨dj, hdj⟩ : ∃ dj, dir l[j].path = dj := ⟨_, rfl⟩
          have HDJe : Hid (dir l[j].path = dj) := hdj
          have hdi := fun W => dir_any l[j].path W (by have := HP.out _ (List.getElem_mem hjll); omega)
          rw [hdj] at hdi
          have HDJ : Hid (∀ W, Calls Tryz.prog 34 #[.string (bs l[j].path)] W fun e w' => e = .returned (.string (bs dj)) ∧ w' = W) := hdi
          clear hdj hdi
          have t1 : (bs dj).toList = dj := bs_toList _
          have t2 : (bs d).toList = d := bs_toList _
          gi_wp2_with fail
          refine ⟨trivial, fun _ => by omega, (callsIn_wide.2 (HDJ.out _)).mono ?_⟩
          rintro e w2 ⟨rfl, ew2⟩
          subst ew2
          by_cases hdd : dj = d
          · subst hdd
            gi_wp2_with fail
            go_roundw
            case rel =>
              refine ⟨j + 1, by go_num, by omega, by omega, fun t h h1 h2 => ?_, trivial⟩
              by_cases htj : t = j
              · subst htj; rw [HDJe.out, HD.out]
              · exact HALL.out t h h1 (by omega)
            case measure => simp [intOf]; omega
          · have t3 : (dj == d) = false := by simpa using hdd
            clear hdd
            have hrl : i < j := hij
            obtain ⟨r, hr⟩ : ∃ r : Run l, r = ⟨i, j, hij, by omega, fun t h h1 h2 => HALL.out t h h1 h2⟩ := ⟨_, rfl⟩
            have hrd : r.d = d := by rw [hr]; exact HD.out
            have hrv : r.v (some ⟨b, off, none⟩) c = .slice (some ⟨b, off + i * 4, none⟩) (j - i) (c - i) := by rw [hr]; simp [Run.v, add_lit]
            obtain ⟨fn, tmps, assign, body, hy, hR⟩ := HY.out pre r _ HJ.out (by have := HT.out.le; omega)
            simp only [hrd, hrv] at hy
            have HRUN : Hid (Til (pre ++ [r]) 0 j) := by have := HT.out.snoc r (by rw [hr]); rw [hr] at this ⊢; exact this
            clear hr hrd hrv
            have hcl : ¬ c = i := by omega
            have hji : j ≤ c := by omega
            gi_wp2_with fail
            refine ⟨fun _ => by omega, hR.mono ?_⟩
            rintro e W3 (⟨rfl, hJ3, hk3⟩ | ⟨rfl, hJ3⟩)
            · gi_wp2_with fail
              go_roundw
              case rel => exact ⟨_, j, rfl, by omega, HRUN.out, hJ3, HK.out.trans hk3⟩
              case measure => simp [intOf]; omega
            · gi_wp2_with fail
              refine bodyPost_ret (results_none rfl _ _ _) rfl ?_
              exact ⟨⟨_, rfl⟩, .inr ⟨_, trivial, hJ3⟩⟩
        · have hjn2 : ¬ (j : Int) < (n : Int) := by omega
          gi_wp2_with fail
          refine ⟨trivial, ?_⟩
          have hrl : i < j := hij
          obtain ⟨r, hr⟩ : ∃ r : Run l, r = ⟨i, j, hij, by omega, fun t h h1 h2 => HALL.out t h h1 h2⟩ := ⟨_, rfl⟩
          have hrd : r.d = d := by rw [hr]; exact HD.out
          have hrv : r.v (some ⟨b, off, none⟩) c = .slice (some ⟨b, off + i * 4, none⟩) (j - i) (c - i) := by rw [hr]; simp [Run.v, add_lit]
          obtain ⟨fn, tmps, assign, body, hy, hR⟩ := HY.out pre r _ HJ.out (by have := HT.out.le; omega)
          simp only [hrd, hrv] at hy
          have HRUN : Hid (Til (pre ++ [r]) 0 j) := by have := HT.out.snoc r (by rw [hr]); rw [hr] at this ⊢; exact this
          clear hr hrd hrv
          have hcl : ¬ c = i := by omega
          have hji : j ≤ c := by omega
          gi_wp2_with fail
          refine ⟨fun _ => by omega, hR.mono ?_⟩
          rintro e W3 (⟨rfl, hJ3, hk3⟩ | ⟨rfl, hJ3⟩)
          · gi_wp2_with fail
            go_roundw
            case rel => exact ⟨_, j, rfl, by omega, HRUN.out, hJ3, HK.out.trans hk3⟩
            case measure => simp [intOf]; omega
          · gi_wp2_with fail
            refine bodyPost_ret (results_none rfl _ _ _) rfl ?_
            exact ⟨⟨_, rfl⟩, .inr ⟨_, trivial, hJ3⟩⟩
    · obtain rfl : i = n := by omega
      gi_wp2_with fail
      go_end0
      exact ⟨⟨_, rfl⟩, .inl ⟨pre, by rw [hn]; exact HT.out, HJ.out⟩⟩
end Go.Proofs.YtkbefggjfggdgaaGreat
