/-
  Steps of a script in memory; the law CacheAll.
  What came in: bytes, steps of a script.
-/
import Derived.Test.YtddaoloabfkheaaGreatDoorJPs
import Derived.Test.YtddaoloabfkheaaGreatDoorJOBase
namespace Go.Proofs.YtddaoloabfkheaaGreatDoor
open Go.RowKit

def stc : List Stp → List Value
  | [] => []
  | s :: r => .bool s.sec :: .int .i64 s.kind :: .string (bs s.p) :: .string (bs s.t) :: stc r
theorem stc_length : ∀ l, (stc l).length = l.length * 4
  | [] => rfl
  | f :: r => by simp only [stc, List.length_cons, stc_length r]; omega
theorem stc_get : ∀ (l : List Stp) (k : Nat) (h : k < l.length), (stc l)[k * 4]? = some (.bool l[k].sec) ∧ (stc l)[k * 4 + 1]? = some (.int .i64 l[k].kind) ∧ (stc l)[k * 4 + 2]? = some (.string (bs l[k].p)) ∧ (stc l)[k * 4 + 3]? = some (.string (bs l[k].t))
  | f :: r, 0, _ => ⟨rfl, rfl, rfl, rfl⟩
  | f :: r, k + 1, h => by
    have ih := stc_get r k (by simpa using h)
    rw [show (k + 1) * 4 = k * 4 + 4 by omega]
    simp only [stc, List.getElem_cons_succ]
    exact ih
/-- a slice of steps reads as a list -/
def TS4 (w : World) (v : Value) (l : List Stp) : Prop :=
  ((∃ a c, v = .slice a 0 c) ∧ l = []) ∨
  ∃ b off cap, v = .slice (some ⟨b, off, none⟩) l.length cap ∧ l.length ≤ cap ∧ b < w.heap.size ∧ ∀ i u, (stc l)[i]? = some u → w.cell? ⟨b, off + i, none⟩ = some u
theorem TS4.form {w : World} {v : Value} {l : List Stp} (h : TS4 w v l) : ∃ a c, v = .slice a l.length c := by
  rcases h with ⟨⟨a, c, rfl⟩, rfl⟩ | ⟨b, off, cap, rfl, hc, hlt, hcell⟩
  · exact ⟨a, c, rfl⟩
  · exact ⟨_, cap, rfl⟩
theorem TS4.at {w : World} {a : Option Addr} {c n : Nat} {l : List Stp} (h : TS4 w (.slice a n c) l) {wr : World} (hb : Below w.heap.size w wr) {k : Nat} (hk : k < l.length) : ∃ b off, a = some ⟨b, off, none⟩ ∧ b < w.heap.size ∧
    wr.cell? ⟨b, off + k * 4, none⟩ = some (.bool l[k].sec) ∧ wr.cell? ⟨b, off + k * 4 + 1, none⟩ = some (.int .i64 l[k].kind) ∧ wr.cell? ⟨b, off + k * 4 + 2, none⟩ = some (.string (bs l[k].p)) ∧ wr.cell? ⟨b, off + k * 4 + 3, none⟩ = some (.string (bs l[k].t)) := by
  rcases h with ⟨_, rfl⟩ | ⟨b, off, cap, e, hc, hlt, hcell⟩
  · simp at hk
  · injection e with e1 e2 e3
    subst e1
    obtain ⟨c0, c1, c2, c3⟩ := stc_get l k hk
    refine ⟨b, off, rfl, hlt, ?_, ?_, ?_, ?_⟩
    · rw [hb.cell (p := ⟨b, off + k * 4, none⟩) hlt]; exact hcell _ _ c0
    · rw [hb.cell (p := ⟨b, off + k * 4 + 1, none⟩) hlt, Nat.add_assoc]; exact hcell _ _ c1
    · rw [hb.cell (p := ⟨b, off + k * 4 + 2, none⟩) hlt, Nat.add_assoc]; exact hcell _ _ c2
    · rw [hb.cell (p := ⟨b, off + k * 4 + 3, none⟩) hlt, Nat.add_assoc]; exact hcell _ _ c3
/-- what a machine has -/
structure SSm (l : List Stp) : Prop where
  len : l.length ≤ 100000000
  each : ∀ s ∈ l, s.p.length ≤ 1000000000 ∧ s.t.length ≤ 1000000000

theorem Pq.new {CA : World → (Nat → Prop) → Nat → List Lb → Prop} (C : CcP CA) {w w1 : World} {c : Nat} (h : CA w1 (fun k => w.heap.size ≤ k ∧ k < w1.heap.size) c []) (hz : w.heap.size ≤ w1.heap.size) :
    Pq CA ((w1.alloc (.cells #[.slice none 0 0] 56)).alloc (.cells #[.pointer (some ⟨c, 0, none⟩), .pointer (some ⟨w1.heap.size, 0, none⟩)] 60)) (fun k => w.heap.size ≤ k ∧ k < w1.heap.size + 2) (w1.heap.size + 1) := by
  have hb1 : Below w1.heap.size w1 (w1.alloc (.cells #[.slice none 0 0] 56)) := balloc _ _
  have hb2 := balloc (w1.alloc (.cells #[.slice none 0 0] 56)) (.cells #[.pointer (some ⟨c, 0, none⟩), .pointer (some ⟨w1.heap.size, 0, none⟩)] 60)
  have hn := heap_alloc_new (w1.alloc (.cells #[.slice none 0 0] 56)) (.cells #[.pointer (some ⟨c, 0, none⟩), .pointer (some ⟨w1.heap.size, 0, none⟩)] 60)
  have hs : (w1.alloc (.cells #[.slice none 0 0] 56)).heap.size = w1.heap.size + 1 := by simp
  rw [hs] at hn
  refine ⟨⟨_, (fun k => k = w1.heap.size), c, w1.heap.size, [], hn, C.later h (bstep hb1 hb2), (RC.new w1).later hb2, ?_, ?_, ?_, ?_, ?_⟩, ⟨by omega, by omega⟩, fun k hk => by simp; omega⟩
  · rintro k ⟨_, h2⟩ rfl; omega
  · rintro ⟨_, h2⟩; omega
  · intro e; omega
  · rintro k ⟨h1, h2⟩; exact ⟨h1, by omega⟩
  · rintro k rfl; exact ⟨hz, by omega⟩
theorem StP.below {CA : World → (Nat → Prop) → Nat → List Lb → Prop} {w w' : World} {X : Nat → Prop} {x B : Nat} {e : Ending} (h : StP CA w X x e w') (hB : B ≤ w.heap.size) (hX : ∀ k, X k → B ≤ k) : Below B w w' := h.2.2.below hB hX

/-- two pairs beside one another -/
structure P2 (CA : World → (Nat → Prop) → Nat → List Lb → Prop) (B : Nat) (w : World) (x y M : Nat) : Prop where
  it : ∃ X Y, Pq CA w X x ∧ Pq CA w Y y ∧ (∀ k, X k → ¬ Y k) ∧ (∀ k, X k → B ≤ k ∧ k < M) ∧ (∀ k, Y k → B ≤ k ∧ k < M)
section
variable {CA : World → (Nat → Prop) → Nat → List Lb → Prop} {w w' : World} {B x y M : Nat}
theorem P2.swap (h : P2 CA B w x y M) : P2 CA B w y x M := by
  obtain ⟨X, Y, h1, h2, h3, h4, h5⟩ := h
  exact ⟨Y, X, h2, h1, fun k hy hx => h3 k hx hy, h5, h4⟩
theorem P2.later (C : CcP CA) (h : P2 CA B w x y M) (hb : Below w.heap.size w w') : P2 CA B w' x y M := by
  obtain ⟨X, Y, h1, h2, h3⟩ := h
  exact ⟨X, Y, h1.later C hb, h2.later C hb, h3⟩
theorem P2.more {M' : Nat} (h : P2 CA B w x y M) (hM : M ≤ M') : P2 CA B w x y M' := by
  obtain ⟨X, Y, h1, h2, h3, h4, h5⟩ := h
  exact ⟨X, Y, h1, h2, h3, fun k hk => ⟨(h4 k hk).1, Nat.lt_of_lt_of_le (h4 k hk).2 hM⟩, fun k hk => ⟨(h5 k hk).1, Nat.lt_of_lt_of_le (h5 k hk).2 hM⟩⟩
theorem P2.step (C : CcP CA) (h : P2 CA B w x y M) (E : Ev w) (hB : 4 ≤ B) (hBw : B ≤ w.heap.size) (s : Stp) (hp : s.p.length ≤ 1000000000) (ht : s.t.length ≤ 1000000000) :
    Calls Tryz.prog 21 #[.pointer (some ⟨x, 0, none⟩), s.val] w fun e w' => e = .returned (.bool true) ∧ P2 CA B w' x y w'.heap.size ∧ Below B w w' ∧ OnlyP (fun k => k < M) w w' := by
  obtain ⟨X, Y, h1, h2, h3, h4, h5⟩ := h
  refine (step_any C h1 E (fun k hk => Nat.le_trans hB (h4 k hk).1) s hp ht).mono fun e w' hh => ⟨hh.1, ⟨_, Y, hh.2.1, h2.only C hh.2.2 (fun k hy hx => h3 k hx hy), ?_, ?_, fun k hk => ⟨(h5 k hk).1, Nat.lt_of_lt_of_le (h2.lt k hk) hh.2.2.size⟩⟩, hh.below hBw (fun k hk => (h4 k hk).1), hh.2.2.mono (fun k hk => (h4 k hk).2)⟩
  · rintro k (e | e) hy
    · exact h3 k e hy
    · have := h2.lt k hy; omega
  · rintro k (e | e)
    · exact ⟨(h4 k e).1, hh.2.1.lt k (.inl e)⟩
    · exact ⟨by omega, e.2⟩
theorem P2.ptr (h : P2 CA B w x y M) : ∃ c r, w.cell? ⟨x, 0, none⟩ = some (.pointer (some ⟨c, 0, none⟩)) ∧ w.cell? ⟨x, 1, none⟩ = some (.pointer (some ⟨r, 0, none⟩)) := by
  obtain ⟨X, Y, ⟨⟨F, D, c, r, K, h1, _⟩, _⟩, _⟩ := h
  exact ⟨c, r, by simp [World.cell?, h1], by simp [World.cell?, h1]⟩
end

/-! ### the law CacheAll -/
set_option maxRecDepth 100000 in
set_option maxHeartbeats 16000000 in
theorem call_law {CA : World → (Nat → Prop) → Nat → List Lb → Prop} (C : CcP CA) {w : World} {v : Value} {L : List Stp} (E : Ev w) (h : TS4 w v L) (hs : SSm L) :
    Calls Tryz.prog 7 #[v] w fun e w' => e = .returned (.bool true) ∧ Below w.heap.size w w' := by
  have H : Hid (TS4 w v L ∧ (∀ s ∈ L, s.p.length ≤ 1000000000 ∧ s.t.length ≤ 1000000000) ∧ Ev w ∧ 4 ≤ w.heap.size) := ⟨h, hs.each, E, E.big⟩
  obtain ⟨av, cv, hvv⟩ := h.form
  obtain ⟨n, hn⟩ : ∃ n, L.length = n := ⟨_, rfl⟩
  have hnl : n ≤ 100000000 := hn ▸ hs.len
  rw [hn] at hvv
  subst hvv
  have HN : Hid (L.length = n) := hn
  clear h hs hn E
  go_enter Tryz.func7, Tryz.ntmps7
  go_wp2_with fail
  refine (C.new _).mono ?_
  rintro e w1 ⟨c, rfl, hc1, hb1⟩
  obtain ⟨wX, hwX⟩ : ∃ wX, (w1.alloc (.cells #[.slice none 0 0] 56)).alloc (.cells #[.pointer (some ⟨c, 0, none⟩), .pointer (some ⟨w1.heap.size, 0, none⟩)] 60) = wX := ⟨_, rfl⟩
  obtain ⟨x, hx⟩ : ∃ x, w1.heap.size + 1 = x := ⟨_, rfl⟩
  have H1 : Hid (Pq CA wX (fun k => w.heap.size ≤ k ∧ k < wX.heap.size) x ∧ Below w.heap.size w wX) := by
    have hp := Pq.new C hc1 hb1.size
    have hz : wX.heap.size = w1.heap.size + 2 := by rw [← hwX]; simp
    rw [hwX, hx] at hp
    rw [hz]
    exact ⟨hp, by rw [← hwX]; exact bstep hb1 (bstep (balloc _ _) (balloc _ _))⟩
  clear hc1 hb1
  go_wp2_with fail
  clear hx hwX
  refine (C.new _).mono ?_
  rintro e w2 ⟨c2, rfl, hc2, hb2⟩
  obtain ⟨wY, hwY⟩ : ∃ wY, (w2.alloc (.cells #[.slice none 0 0] 56)).alloc (.cells #[.pointer (some ⟨c2, 0, none⟩), .pointer (some ⟨w2.heap.size, 0, none⟩)] 60) = wY := ⟨_, rfl⟩
  obtain ⟨y, hy⟩ : ∃ y, w2.heap.size + 1 = y := ⟨_, rfl⟩
  have H2 : Hid (P2 CA w.heap.size wY x y wY.heap.size ∧ Below w.heap.size w wY ∧ Ev wY) := by
    have hp := Pq.new C hc2 hb2.size
    rw [hwY, hy] at hp
    have hb : Below wX.heap.size wX wY := by rw [← hwY]; exact bstep hb2 (bstep (balloc _ _) (balloc _ _))
    have hb0 := bstep H1.out.2 hb
    exact ⟨⟨_, _, H1.out.1.later C hb, hp, (fun k h1 h2 => by have := h1.2; have := h2.1; omega), (fun k h => ⟨h.1, Nat.lt_of_lt_of_le h.2 hb.size⟩), (fun k h => ⟨Nat.le_trans H1.out.2.size h.1, hp.lt k h⟩)⟩, hb0, H.out.2.2.1.later hb0⟩
  clear hc2 hb2 H1
  obtain ⟨c3, r3, px0, px1⟩ := H2.out.1.ptr
  obtain ⟨c4, r4, py0, py1⟩ := H2.out.1.swap.ptr
  go_wp2_with fail
  clear hy hwY
  refine (known19 C H2.out.2.2).mono ?_
  rintro e w3 ⟨rfl, hb3⟩
  have H3 : Hid (P2 CA w.heap.size w3 x y w3.heap.size ∧ Below w.heap.size w w3 ∧ Ev w3) := ⟨(H2.out.1.later C hb3).more hb3.size, bstep H2.out.2.1 hb3, H2.out.2.2.later hb3⟩
  clear hb3 H2 px0 px1 py0 py1
  go_wp2_with fail
  go_loopw [5] (fun s5 wr => ∃ (k : Nat), s5 = .int .i64 k ∧ k ≤ n ∧ P2 CA w.heap.size wr x y wr.heap.size ∧ Below w.heap.size w wr) (fun s5 _ => n - (intOf s5).toNat)
  case atStart => exact ⟨0, rfl, by omega, H3.out.1, H3.out.2.1⟩
  case round =>
    obtain ⟨k, rfl, hk, hP, hb⟩ := hrel
    have HX : Hid (P2 CA w.heap.size wr x y wr.heap.size ∧ Below w.heap.size w wr ∧ Ev wr) := ⟨hP, hb, H.out.2.2.1.later hb⟩
    by_cases hlt : k < n
    · have hkl : k < L.length := by rw [HN.out]; exact hlt
      obtain ⟨b, off, ea, hbw, d0, d1, d2, d3⟩ := TS4.at H.out.1 hb hkl
      subst ea
      obtain ⟨s, hse⟩ : ∃ s, L[k] = s := ⟨_, rfl⟩
      have hsz := H.out.2.1 s (hse ▸ List.getElem_mem hkl)
      rw [hse] at d0 d1 d2 d3
      clear hP hb hse hbw
      have HSx : Hid (Calls Tryz.prog 21 #[.pointer (some ⟨x, 0, none⟩), s.val] wr fun e w' => e = .returned (.bool true) ∧ P2 CA w.heap.size w' x y w'.heap.size ∧ Below w.heap.size wr w') := (HX.out.1.step C HX.out.2.2 H.out.2.2.2 HX.out.2.1.size s hsz.1 hsz.2).mono fun e w' hh => ⟨hh.1, hh.2.1, hh.2.2.1⟩
      have HSy : Hid (Calls Tryz.prog 21 #[.pointer (some ⟨y, 0, none⟩), s.val] wr fun e w' => e = .returned (.bool true) ∧ P2 CA w.heap.size w' x y w'.heap.size ∧ Below w.heap.size wr w') := (HX.out.1.swap.step C HX.out.2.2 H.out.2.2.2 HX.out.2.1.size s hsz.1 hsz.2).mono fun e w' hh => ⟨hh.1, hh.2.1.swap, hh.2.2.1⟩
      obtain ⟨sc, kd, p, t⟩ := s
      simp only [Stp.val] at d0 d1 d2 d3 HSx HSy
      clear hsz
      have k1 : (k : Int) < (n : Int) := by omega
      cases sc
      · go_wp2_with fail
        refine HSx.out.mono ?_
        rintro e w5 ⟨rfl, hp5, hb5⟩
        have H5 : Hid (P2 CA w.heap.size w5 x y w5.heap.size ∧ Below w.heap.size w w5) := ⟨hp5, HX.out.2.1.trans hb5⟩
        clear hp5 hb5
        go_wp2_with fail
        go_roundw
        case rel => exact ⟨k + 1, by go_num, by omega, H5.out.1, H5.out.2⟩
        case measure => simp [intOf]; omega
      · go_wp2_with fail
        refine HSy.out.mono ?_
        rintro e w5 ⟨rfl, hp5, hb5⟩
        have H5 : Hid (P2 CA w.heap.size w5 x y w5.heap.size ∧ Below w.heap.size w w5) := ⟨hp5, HX.out.2.1.trans hb5⟩
        clear hp5 hb5
        go_wp2_with fail
        go_roundw
        case rel => exact ⟨k + 1, by go_num, by omega, H5.out.1, H5.out.2⟩
        case measure => simp [intOf]; omega
    · obtain rfl : n = k := by omega
      have k1 : ¬ (n : Int) < (n : Int) := by omega
      clear hP hb
      go_wp2_with fail
      obtain ⟨wZ, hwZ⟩ : ∃ wZ, wr.alloc (.cells #[.bool false, .int .i64 2, .string ⟨#[]⟩, .string ⟨#[]⟩] 40) = wZ := ⟨_, rfl⟩
      have HZ : Hid (SB wZ wr.heap.size ⟨false, 2, [], []⟩ ∧ P2 CA w.heap.size wZ x y wr.heap.size ∧ Below w.heap.size w wZ ∧ Ev wZ) := by
        rw [← hwZ]
        exact ⟨SB.new wr ⟨false, 2, [], []⟩, HX.out.1.later C (balloc _ _), bstep HX.out.2.1 (balloc _ _), HX.out.2.2.later (balloc _ _)⟩
      rw [hwZ]
      clear hwZ
      have H1s : Hid (Calls Tryz.prog 21 #[.pointer (some ⟨x, 0, none⟩), .agg #[.bool false, .int .i64 2, .string ⟨#[]⟩, .string ⟨#[]⟩]] wZ fun e w' => e = .returned (.bool true) ∧ P2 CA w.heap.size w' x y w'.heap.size ∧ Below w.heap.size wZ w' ∧ OnlyP (fun k => k < wr.heap.size) wZ w') := HZ.out.2.1.step C HZ.out.2.2.2 H.out.2.2.2 HZ.out.2.2.1.size ⟨false, 2, [], []⟩ (by simp) (by simp)
      refine H1s.out.mono ?_
      rintro e w5 ⟨rfl, hp5, hb5, ho5⟩
      have H5 : Hid (P2 CA w.heap.size w5 x y w5.heap.size ∧ Below w.heap.size w w5 ∧ Ev w5) := ⟨hp5, HZ.out.2.2.1.trans hb5, H.out.2.2.1.later (HZ.out.2.2.1.trans hb5)⟩
      have hsb := HZ.out.1.only ho5 (Nat.lt_irrefl _)
      have hbk := hsb.blk
      have e0 : w5.cell? ⟨wr.heap.size, 0, none⟩ = some (.bool false) := by simp [World.cell?, hbk]
      have e1 : w5.cell? ⟨wr.heap.size, 1, none⟩ = some (.int .i64 2) := by simp [World.cell?, hbk]
      have e2 : w5.cell? ⟨wr.heap.size, 2, none⟩ = some (.string ⟨#[]⟩) := by simp [World.cell?, hbk]; rfl
      have e3 : w5.cell? ⟨wr.heap.size, 3, none⟩ = some (.string ⟨#[]⟩) := by simp [World.cell?, hbk]; rfl
      have H2s : Hid (Calls Tryz.prog 21 #[.pointer (some ⟨y, 0, none⟩), .agg #[.bool false, .int .i64 2, .string ⟨#[]⟩, .string ⟨#[]⟩]] w5 fun e w' => e = .returned (.bool true) ∧ P2 CA w.heap.size w' y x w'.heap.size ∧ Below w.heap.size w5 w' ∧ OnlyP (fun k => k < w5.heap.size) w5 w') := H5.out.1.swap.step C H5.out.2.2 H.out.2.2.2 H5.out.2.1.size ⟨false, 2, [], []⟩ (by simp) (by simp)
      clear hp5 hb5 ho5 hsb hbk H1s
      go_wp2_with fail
      refine H2s.out.mono ?_
      rintro e w6 ⟨rfl, _, hb6, _⟩
      have H6 : Hid (Below w.heap.size w w6) := H5.out.2.1.trans hb6
      clear hb6
      go_wp2_with fail
      go_ret
      exact ⟨rfl, H6.out⟩
end Go.Proofs.YtddaoloabfkheaaGreatDoor

namespace Go.Proofs.YtddaoloabfkheaaGreatDoor
open Go.ChangeShapes Go.WideShapes Go.ChangeAt Go.RowKit Go.Deep

theorem cells9 : Tryz.prog.cellsOf 9 = 1 := by kernel_rfl
theorem cells3' : Tryz.prog.cellsOf 3 = 1 := by kernel_rfl
theorem cells4' : Tryz.prog.cellsOf 4 = 1 := by kernel_rfl
theorem cells40 : Tryz.prog.cellsOf 40 = 4 := by kernel_rfl
def Stp.datum {H : Type} (s : Stp) : DataW H := .agg [.lit (.bool s.sec), .lit (.int .i64 s.kind), .lit (.string s.p), .lit (.string s.t)]
def tots : List Stp → Nat
  | [] => 0
  | s :: r => s.p.length + s.t.length + 5 + tots r
theorem bulk_steps {H : Type} : ∀ l : List Stp, tots l ≤ Rows.uptoBulkAll (l.map (Stp.datum (H := H)))
  | [] => by simp [tots]
  | f :: r => by
    have := bulk_steps (H := H) r
    rw [List.map_cons]
    simp only [Rows.uptoBulkAll, Stp.datum, Rows.uptoBulk, tots]
    omega
theorem tots_len : ∀ l : List Stp, 5 * l.length ≤ tots l
  | [] => by simp [tots]
  | f :: r => by have := tots_len r; simp only [tots, List.length_cons]; omega
theorem tots_mem : ∀ l : List Stp, ∀ f ∈ l, f.p.length + f.t.length ≤ tots l
  | [], f, h => by cases h
  | g :: r, f, h => by
    simp only [tots]
    rcases List.mem_cons.1 h with rfl | h
    · omega
    · have := tots_mem r f h; omega
theorem bulk_one {H : Type} (d : DataW H) : 1 ≤ Rows.uptoBulk d := by
  cases d with
  | lit l => cases l <;> simp [Rows.uptoBulk]
  | nil => simp [Rows.uptoBulk]
  | ptr d => simp [Rows.uptoBulk]
  | slice elems spare => simp [Rows.uptoBulk]
  | agg parts => simp [Rows.uptoBulk]
  | iface t d => simp [Rows.uptoBulk]
  | map entries => simp [Rows.uptoBulk]
  | held h => simp [Rows.uptoBulk]
theorem bulk_len {H : Type} (l : List (DataW H)) : l.length ≤ Rows.uptoBulkAll l := by
  induction l with
  | nil => simp [Rows.uptoBulkAll]
  | cons x r ih => have := bulk_one x; simp only [Rows.uptoBulkAll, List.length_cons]; omega
set_option maxRecDepth 100000 in
/-- a byte slice that came in: what it reads as, and how many bytes it has -/
theorem open_bytes {H : Type} {enc : TypeId × Value → H} {W : World} {base : Nat} {v : Value} {d : DataW H} {ps : List MemPlace} (hok : Value.okWide Tryz.prog W .any base 41 v)
    (h : DataW.Trod enc Tryz.prog W 0 (fun _ => true) true 41 v d ps) : ∃ l : List UInt8, BS W v l ∧ l.length ≤ Rows.uptoBulk d := by
  obtain ⟨a0, len0, cap0, rfl⟩ := okWide_slice Tryz.underlying41 hok
  obtain ⟨fuel, hf⟩ := h
  rcases open_ints Tryz.underlying41 Tryz.underlying5 (by kernel_rfl) hf with ⟨hcs, _⟩ | ⟨x, l, c, zs, hcs, _, hl, hm, hz, hx, hcell, hwz⟩
  · simp [Value.cells] at hcs
    obtain ⟨rfl, rfl, rfl⟩ := hcs
    exact ⟨[], BS_nil _, by simp⟩
  · simp [Value.cells] at hcs
    obtain ⟨rfl, rfl, rfl⟩ := hcs
    simp at hz
    have hd : d = .slice (lits .u8 (zs.take len0)) (lits .u8 (zs.drop len0)) := by simpa using congrArg Prod.fst hx
    have hb : len0 ≤ Rows.uptoBulk d := by
      rw [hd]
      simp only [Rows.uptoBulk]
      have := bulk_len (H := H) (lits .u8 (zs.take len0))
      have e : (lits (H := H) .u8 (zs.take len0)).length = len0 := by simp [lits]; omega
      omega
    by_cases h0 : len0 = 0
    · subst h0
      exact ⟨[], .inl ⟨⟨_, _, rfl⟩, rfl⟩, by simp⟩
    · obtain ⟨b, off, rfl, hc⟩ := ints_at hcell (by omega)
      refine ⟨(zs.take len0).map fun n => UInt8.ofNat n.toNat, .inr ⟨b, off, cap0, by simp; omega, by simp; omega, ?_, fun i u hu => ?_⟩, by simp; omega⟩
      · exact World.block_lt_of_cell? W ⟨b, off + 0, none⟩ (hc 0 (by omega))
      · have hi : i < len0 := by
          have := (List.getElem?_eq_some_iff.1 hu).1
          simp [bc_length] at this
          omega
        rw [hc i (by omega), ← hu, bc_get]
        have hw := hwz (zs.getD i 0) (by rw [List.getD_eq_getElem?_getD, List.getElem?_eq_getElem (by omega)]; exact List.getElem_mem _)
        have hu8 := bounds_u8 hw
        rw [List.getElem?_map, List.getElem?_take_of_lt hi, List.getElem?_eq_getElem (by omega)]
        rw [List.getD_eq_getElem?_getD, List.getElem?_eq_getElem (by omega)] at hu8 ⊢
        simp only [Option.map_some, Option.getD_some] at hu8 ⊢
        congr 2
        rw [UInt8.toNat_ofNat']
        omega

set_option maxRecDepth 100000 in
theorem open_steps {H : Type} {enc : TypeId × Value → H} {W : World} {base : Nat} {v : Value} {d : DataW H} {ps : List MemPlace} (hok : Value.okWide Tryz.prog W .any base 38 v)
    (h : DataW.Trod enc Tryz.prog W 0 (fun _ => true) true 38 v d ps) (hd : Rows.uptoBulk d ≤ 1048576) :
    ∃ l : List Stp, TS4 W v l ∧ SSm l := by
  suffices hs : ∃ l : List Stp, TS4 W v l ∧ Rows.uptoBulkAll (l.map (Stp.datum (H := H))) ≤ Rows.uptoBulk d by
    obtain ⟨l, h1, h3⟩ := hs
    have h4 := bulk_steps (H := H) l
    have h5 := tots_len l
    have h6 := tots_mem l
    refine ⟨l, h1, ⟨by omega, fun s hs => ?_⟩⟩
    have := h6 s hs
    exact ⟨by omega, by omega⟩
  clear hd
  obtain ⟨a0, len0, cap0, rfl⟩ := okWide_slice Tryz.underlying38 hok
  obtain ⟨fuel, hf⟩ := h
  rcases open_slice Tryz.underlying38 hf with ⟨hcs, _⟩ | ⟨a, len, cap, m, n, D, Pl, hcs, _, hl, hm, hmm, hx, hel⟩
  · simp [Value.cells] at hcs
    obtain ⟨rfl, rfl, rfl⟩ := hcs
    exact ⟨[], .inl ⟨⟨_, _, rfl⟩, rfl⟩, by simp [Rows.uptoBulkAll]⟩
  · simp [Value.cells] at hcs
    obtain ⟨rfl, rfl, rfl⟩ := hcs
    simp at hmm
    subst hmm
    have each : ∀ i, i < m → ∃ q : Stp, W.cell? (a.add (i * 4)) = some (.bool q.sec) ∧ W.cell? (a.add (i * 4 + 1)) = some (.int .i64 q.kind) ∧ W.cell? (a.add (i * 4 + 2)) = some (.string (bs q.p)) ∧ W.cell? (a.add (i * 4 + 3)) = some (.string (bs q.t)) ∧ D i = q.datum := by
      intro i hi
      obtain ⟨cs', h1, h2⟩ := hel i hi
      rw [cells40] at h1
      obtain ⟨_, hlen, hcell⟩ := World.cells?_some h1
      obtain ⟨xs, k, hk, hxy, _, hxl, hfl⟩ := DataW.trod_struct Tryz.underlying40 h2
      match xs, hxl, cs', hlen with
      | [y0, y1, y2, y3], _, [v0, v1, v2, v3], _ =>
        have g0 := hfl 0 _ rfl
        have g1 := hfl 1 _ rfl
        have g2 := hfl 2 _ rfl
        have g3 := hfl 3 _ rfl
        simp [cells3', cells9, cells4'] at g0 g1 g2 g3
        obtain ⟨z0, e0, x0⟩ := DataW.trod_bool Tryz.underlying4 g0
        obtain ⟨z1, e1, x1, wz1⟩ := DataW.trod_int Tryz.underlying3 g1
        obtain ⟨s2, e2, x2, ws2⟩ := DataW.trod_string Tryz.underlying9 g2
        obtain ⟨s3, e3, x3, ws3⟩ := DataW.trod_string Tryz.underlying9 g3
        have c0 := hcell 0 (by simp)
        have c1 := hcell 1 (by simp)
        have c2 := hcell 2 (by simp)
        have c3 := hcell 3 (by simp)
        rw [add_add] at c0 c1 c2 c3
        simp at e0 e1 e2 e3
        subst e0 e1 e2 e3 x0 x1 x2 x3
        simp only [Prod.mk.injEq] at hxy
        have c2' : W.cell? (a.add (i * 4 + 2)) = some (.string s2) := by simpa using c2
        have c3' : W.cell? (a.add (i * 4 + 3)) = some (.string s3) := by simpa using c3
        exact ⟨⟨z0, z1, s2.data.toList, s3.data.toList⟩, by simpa using c0, by simpa using c1, c2', c3', by simpa [Stp.datum] using hxy.1⟩
    have hinh : Inhabited Stp := ⟨⟨false, 0, [], []⟩⟩
    obtain ⟨q, hq⟩ := choose_lt (α := Stp) each
    have hD : (List.range len0).map D = (List.range len0).map fun i => (q i).datum := List.map_congr_left (fun i hi => (hq i (by have := List.mem_range.1 hi; omega)).2.2.2.2)
    refine ⟨(List.range len0).map q, ?_, ?_⟩
    · by_cases h0 : len0 = 0
      · subst h0
        exact .inl ⟨⟨_, _, rfl⟩, rfl⟩
      · obtain ⟨b, off, spot⟩ := a
        have hspot : spot = none := by simpa [Addr.add] using World.cell?_spot (hq 0 (by omega)).1
        subst hspot
        refine .inr ⟨b, off, m, by simp, by simpa using hl, World.block_lt_of_cell? W _ (by have := (hq 0 (by omega)).1; rw [add_lit] at this; exact this), fun i u hu => ?_⟩
        have hi : i < len0 * 4 := by
          have := (List.getElem?_eq_some_iff.1 hu).1
          rw [stc_length] at this
          simpa using this
        have hj : i / 4 < ((List.range len0).map q).length := by simp; omega
        obtain ⟨t0, t1, t2, t3⟩ := stc_get ((List.range len0).map q) (i / 4) hj
        obtain ⟨u0, u1, u2, u3, _⟩ := hq (i / 4) (by omega)
        rw [add_lit] at u0 u1 u2 u3
        simp only [List.getElem_map, List.getElem_range] at t0 t1 t2 t3
        have hr : i % 4 = 0 ∨ i % 4 = 1 ∨ i % 4 = 2 ∨ i % 4 = 3 := by omega
        rcases hr with hr | hr | hr | hr
        · rw [show i / 4 * 4 = i from by omega] at t0 u0
          rw [t0] at hu
          rw [u0]
          exact hu
        · rw [show i / 4 * 4 + 1 = i from by omega] at t1 u1
          rw [t1] at hu
          rw [u1]
          exact hu
        · rw [show i / 4 * 4 + 2 = i from by omega] at t2 u2
          rw [t2] at hu
          rw [u2]
          exact hu
        · rw [show i / 4 * 4 + 3 = i from by omega] at t3 u3
          rw [t3] at hu
          rw [u3]
          exact hu
    · have hd : d = .slice ((List.range len0).map D) ((List.range (m - len0)).map fun j => D (len0 + j)) := by simpa using congrArg Prod.fst hx
      rw [hd, hD]
      simp only [Rows.uptoBulk, List.map_map]
      have e : (List.range len0).map (Stp.datum (H := H) ∘ q) = (List.range len0).map fun i => (q i).datum := rfl
      rw [e]
      omega
end Go.Proofs.YtddaoloabfkheaaGreatDoor
