/-
  cut: a pattern taken apart at its star.
-/
import Derived.Test.YtebidnepanogcaaDoorPg
import Derived.Shelf.Bytes.SlEqualAll
import Derived.Lib.ConvBytes
import Derived.Lib.BufferWrite
import Derived.Laws.ResultCell
import Derived.Laws.OwnMore
import Derived.RegionTactic
import Derived.BigRegion
namespace Go.Proofs.YtebidnepanogcaaDoor
open Go.RowKit Go.Lib

def nums (l : List UInt8) : List Int := l.map fun b => (b.toNat : Int)
/-- bytes that lie in memory -/
def BI (w : World) (v : Value) (l : List UInt8) : Prop := ∃ p c, v = .slice p l.length c ∧ (0 < l.length → ∃ b o, p = some ⟨b, o, none⟩ ∧ b < w.heap.size ∧ ∀ i (h : i < l.length), w.cell? ⟨b, o + i, none⟩ = some (.int .u8 (l[i].toNat : Int)))
theorem BI.later {w w' : World} {v : Value} {l : List UInt8} (h : BI w v l) (hb : Below w.heap.size w w') : BI w' v l := by
  obtain ⟨p, c, rfl, h⟩ := h
  refine ⟨p, c, rfl, fun h0 => ?_⟩
  obtain ⟨b, o, rfl, hlt, hc⟩ := h h0
  exact ⟨b, o, rfl, Nat.lt_of_lt_of_le hlt hb.size, fun i hi => (hb.cell (p := ⟨b, o + i, none⟩) hlt).trans (hc i hi)⟩
/-- the two pieces of a pattern -/
def PC (w : World) (v : Value) (x y : List UInt8) : Prop := ∃ a b, v = .agg #[a, b] ∧ BI w a x ∧ BI w b y
theorem PC.later {w w' : World} {v : Value} {x y : List UInt8} (h : PC w v x y) (hb : Below w.heap.size w w') : PC w' v x y := by
  obtain ⟨a, b, rfl, h1, h2⟩ := h
  exact ⟨a, b, rfl, h1.later hb, h2.later hb⟩

theorem results_ct {P : Program} {fn : Func} {p u : Tmp} {ty : TypeId} (h : fn.results = #[.cell p ty, .tmp u]) (tmps : Array Value) (w : World) (g : Nat) (t : TypeId) (cs : Array Value) (fr : Nat × Nat) (d : TypeDesc)
    (hp : tmps.getD p undef = .pointer (some ⟨g, 0, none⟩)) (hg : w.heap[g]? = some (.cells cs t fr))
    (hu : P.underlying ty = some d) (hd : (match d with | .struct _ | .array _ _ => true | _ => false) = true) (hi : (P.info? ty).map (·.size) = some cs.size) :
    (results fn tmps).run P w = .ok (.tuple #[.agg cs, tmps.getD u undef]) w := by
  rw [results_cell_tmp h]
  rw [hp]
  simp only [asAddr, Sem.run_pure, Result.andThen_ok]
  rw [run_loadVar_row w g t ty cs fr d hg hu hd hi]
  rfl
theorem heap_setCell (w : World) (g i : Nat) (v : Value) {cur : Array Value} {e : TypeId} {fr : Nat × Nat} (h : w.heap[g]? = some (.cells cur e fr)) :
    (w.setCell ⟨g, i, none⟩ v).heap[g]? = some (.cells (cur.setIfInBounds i v) e fr) := by
  simp [World.setCell, Array.getElem?_modify, h]

theorem cut_end {w W : World} (hblk : W.heap[w.heap.size]? = some (.cells #[.slice none 0 0, .slice none 0 0] 44)) (hb : Below w.heap.size w W) (hsz : W.heap.size = w.heap.size + 2) (a b : Value) :
    ((W.setCell ⟨w.heap.size, 0, none⟩ a).setCell ⟨w.heap.size, 1, none⟩ b).drew.heap[w.heap.size]? = some (.cells #[a, b] 44 (0, 0)) ∧
      Below w.heap.size w ((W.setCell ⟨w.heap.size, 0, none⟩ a).setCell ⟨w.heap.size, 1, none⟩ b).drew ∧
      ((∀ j, ((W.setCell ⟨w.heap.size, 0, none⟩ a).setCell ⟨w.heap.size, 1, none⟩ b).drew.cell? ⟨w.heap.size + 1, j, none⟩ = W.cell? ⟨w.heap.size + 1, j, none⟩) ∧
        w.heap.size + 1 < ((W.setCell ⟨w.heap.size, 0, none⟩ a).setCell ⟨w.heap.size, 1, none⟩ b).drew.heap.size) := by
  have h1 := heap_setCell _ _ 0 a hblk
  have h2 := heap_setCell _ _ 1 b h1
  have o : Only [w.heap.size] W ((W.setCell ⟨w.heap.size, 0, none⟩ a).setCell ⟨w.heap.size, 1, none⟩ b) := (Only.set _ _ _ _).trans (Only.set _ _ _ _)
  have o2 : Only [w.heap.size] W ((W.setCell ⟨w.heap.size, 0, none⟩ a).setCell ⟨w.heap.size, 1, none⟩ b).drew := o.trans (Only.drew _ _ 1)
  refine ⟨?_, below_trans hb (o2.below (by omega) (by simp)), fun j => ?_, ?_⟩
  · show ((W.setCell ⟨w.heap.size, 0, none⟩ a).setCell ⟨w.heap.size, 1, none⟩ b).heap[w.heap.size]? = _
    rw [h2]; rfl
  · have hk := o2.block (w.heap.size + 1) (by omega) (by simp)
    simp only [World.cell?, hk]
  · have := o2.size
    omega

set_option maxHeartbeats 2000000 in
theorem gcut_any (p : List UInt8) (w : World) (hp : (42 : UInt8) ∈ p) (hl : p.length ≤ 1000000000) :
    Calls Tryd.prog 26 #[.string (bs p)] w fun e w' => ∃ v, e = .returned v ∧ PC w' v (hd42 p) (tl42 p) ∧ Below w.heap.size w w' := by
  have hcv : ∀ W : World, (convert 9 42 (.string (bs p))).run Tryd.prog W = .ok (.slice (some ⟨W.heap.size, 0, none⟩) p.length (grownCap W p.length 0 5)) (bytesWorld W 5 (bs p)) := fun W =>
    Lib.run_convert_string_bytes (P := Tryd.prog) W 9 42 5 (bs p) Tryd.underlying9 Tryd.underlying42 Tryd.underlying5
  obtain ⟨h1, h2, h3⟩ := at42 hp
  have HI : Hid (∀ W : World, Calls Tryd.prog 42 #[.string (bs p), .string (bs [42])] W fun e w' => e = .returned (.int .i64 ((hd42 p).length : Int)) ∧ w' = W) := fun W => by rw [← h3]; exact index_star p W
  have HP : Hid (p = hd42 p ++ 42 :: tl42 p) := h1
  clear h1 h2 h3 hp
  generalize hd42 p = x at *
  generalize tl42 p = y at *
  have hlen : x.length + 1 + y.length = p.length := by rw [HP.out]; simp; omega
  have hz : (bs p).size = p.length := rfl
  go_enter Tryd.func26, Tryd.ntmps26
  go_wp2_with fail
  refine (HI.out _).mono ?_
  rintro e w1 ⟨rfl, rfl⟩
  go_wp2_with fail
  obtain ⟨c, hc⟩ : ∃ c, grownCap (w.alloc (Obj.cells #[Value.slice none 0 0, Value.slice none 0 0] 44)) p.length 0 5 = c := ⟨_, rfl⟩
  have hcap : p.length ≤ c := by rw [← hc]; exact grownCap_ge _ _ _ _
  obtain ⟨W, hW⟩ : ∃ W, bytesWorld (w.alloc (Obj.cells #[Value.slice none 0 0, Value.slice none 0 0] 44)) 5 (bs p) = W := ⟨_, rfl⟩
  have hsz : W.heap.size = w.heap.size + 2 := by rw [← hW, bytesWorld_size]; simp
  have hblk : W.heap[w.heap.size]? = some (.cells #[.slice none 0 0, .slice none 0 0] 44) := by
    rw [← hW, bytesWorld_at_old _ _ _ _ (by simp)]; exact heap_alloc_new _ _
  have HC : Hid (∀ j (h : j < p.length), W.cell? ⟨w.heap.size + 1, j, none⟩ = some (.int .u8 (p[j].toNat : Int))) := fun j h => by
    rw [← hW]
    have := bytesWorld_cell (w.alloc (Obj.cells #[Value.slice none 0 0, Value.slice none 0 0] 44)) 5 (bs p) j h
    have hz1 : (w.alloc (Obj.cells #[Value.slice none 0 0, Value.slice none 0 0] 44)).heap.size = w.heap.size + 1 := by simp
    rw [hz1] at this
    rw [this]
    simp [bs, List.getD, h]
  have HB : Hid (Below w.heap.size w W) := by
    rw [← hW]
    exact below_trans (balloc w _) (⟨rfl, rfl, rfl, by rw [bytesWorld_size]; omega, fun k hk => bytesWorld_at_old _ _ _ _ (by simp; omega)⟩)
  rw [hc, hW]
  clear hc hW hcv HI
  have c0 : W.cell? ⟨w.heap.size, 0, none⟩ = some (.slice none 0 0) := by simp [World.cell?, hblk]
  have c1 : W.cell? ⟨w.heap.size, 1, none⟩ = some (.slice none 0 0) := by simp [World.cell?, hblk]
  have f0 : W.frozen? ⟨w.heap.size, 0, none⟩ = false := by simp [World.frozen?, hblk]
  have f1 : W.frozen? ⟨w.heap.size, 1, none⟩ = false := by simp [World.frozen?, hblk]
  have i1 : (x.length : Int) ≤ (c : Int) := by omega
  have i2 : (x.length : Int) + 1 ≤ (p.length : Int) := by omega
  have i3 : (p.length : Int) ≤ (c : Int) := by omega
  go_region
  go_wp2_with fail
  all_goals try (go_wp2_with fail)
  · have hy0 : y = [] := List.eq_nil_of_length_eq_zero (by omega)
    obtain ⟨q1, q2, q3⟩ := cut_end hblk HB.out hsz (.slice (some ⟨w.heap.size + 1, 0, none⟩) x.length x.length) (.slice (some ⟨w.heap.size + 1, 0, none⟩) 0 0)
    refine bodyPost_ret (results_cell_row rfl _ _ w.heap.size 44 #[.slice (some ⟨w.heap.size + 1, 0, none⟩) x.length x.length, .slice (some ⟨w.heap.size + 1, 0, none⟩) 0 0] (0, 0) _ rfl q1 Tryd.underlying44 rfl (by kernel_rfl)) rfl ?_
    refine ⟨_, rfl, ⟨_, _, rfl, ⟨_, _, rfl, fun _ => ⟨_, _, rfl, ?_, fun i hi => ?_⟩⟩, ⟨_, _, by rw [hy0]; rfl, fun h0 => by rw [hy0] at h0; simp at h0⟩⟩, q2⟩
    · exact q3.2
    · rw [q3.1, Nat.zero_add, HC.out i (by omega)]
      congr 3
      have := HP.out
      simp only [this, List.getElem_append_left hi]
  · obtain ⟨q1, q2, q3⟩ := cut_end hblk HB.out hsz (.slice (some ⟨w.heap.size + 1, 0, none⟩) x.length x.length) (.slice (some ⟨w.heap.size + 1, x.length + 1, none⟩) (p.length - (x.length + 1)) (p.length - (x.length + 1)))
    refine bodyPost_ret (results_cell_row rfl _ _ w.heap.size 44 #[.slice (some ⟨w.heap.size + 1, 0, none⟩) x.length x.length, .slice (some ⟨w.heap.size + 1, x.length + 1, none⟩) (p.length - (x.length + 1)) (p.length - (x.length + 1))] (0, 0) _ rfl q1 Tryd.underlying44 rfl (by kernel_rfl)) rfl ?_
    have hyl : p.length - (x.length + 1) = y.length := by omega
    refine ⟨_, rfl, ⟨_, _, rfl, ⟨_, _, rfl, fun _ => ⟨_, _, rfl, ?_, fun i hi => ?_⟩⟩, ⟨_, _, by rw [hyl], fun _ => ⟨_, _, rfl, ?_, fun i hi => ?_⟩⟩⟩, q2⟩
    · exact q3.2
    · rw [q3.1, Nat.zero_add, HC.out i (by omega)]
      congr 3
      have := HP.out
      simp only [this, List.getElem_append_left hi]
    · exact q3.2
    · rw [q3.1, HC.out (x.length + 1 + i) (by omega)]
      congr 3
      have := HP.out
      simp only [this]
      rw [List.getElem_append_right (by omega)]
      have e : x.length + 1 + i - x.length = i + 1 := by omega
      simp only [e, List.getElem_cons_succ]
end Go.Proofs.YtebidnepanogcaaDoor
