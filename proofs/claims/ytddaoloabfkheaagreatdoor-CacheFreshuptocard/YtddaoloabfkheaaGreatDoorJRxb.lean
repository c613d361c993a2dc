/-
  The document's reader: how far it is, its fault.
  The document's reader: words, faults, what is taken.
-/
import Derived.Test.YtddaoloabfkheaaGreatDoorJGd
import Derived.Test.YtddaoloabfkheaaGreatDoorJRefP
import Derived.Test.YtddaoloabfkheaaGreatDoorJRd
import Derived.Test.YtddaoloabfkheaaGreatDoorRtok
namespace Go.Proofs.YtddaoloabfkheaaGreatDoor
open Go.RowKit

/-- the document's reader -/
structure RX (w : World) (g : Nat) (p : List UInt8) (E : Int) (L : List Tk) (i : Nat) (bad : Int) : Prop where
  it : ∃ a c, w.heap[g]? = some (.cells #[.string (bs p), .slice a L.length c, .int .i64 i, .int .i64 bad, .int .i64 E] 98 (0, 0)) ∧ TS w (.slice a L.length c) L ∧ (L ≠ [] → ∀ b, (Value.slice a L.length c).ownBlock = some b → b < g)
theorem RX.lt {w : World} {g i : Nat} {p : List UInt8} {E bad : Int} {L : List Tk} (h : RX w g p E L i bad) : g < w.heap.size := by
  obtain ⟨a, c, h1, _⟩ := h.it; exact (Array.getElem?_eq_some_iff.1 h1).1
theorem RX.below {w w' : World} {g i B : Nat} {p : List UInt8} {E bad : Int} {L : List Tk} (h : RX w g p E L i bad) (hb : Below B w w') (hg : g < B) : RX w' g p E L i bad := by
  obtain ⟨a, c, h1, h2, h3⟩ := h.it
  refine ⟨a, c, (hb.block g hg).trans h1, ?_, h3⟩
  rcases L with _ | ⟨k, r⟩
  · exact .inl ⟨⟨_, _, rfl⟩, rfl⟩
  · exact h2.below hb fun b hk => Nat.lt_trans (h3 (by simp) b hk) hg
theorem RX.later {w w' : World} {g i : Nat} {p : List UInt8} {E bad : Int} {L : List Tk} (h : RX w g p E L i bad) (hb : Below w.heap.size w w') : RX w' g p E L i bad := h.below hb h.lt
theorem RX.drew {w : World} {g i : Nat} {p : List UInt8} {E bad : Int} {L : List Tk} (h : RX w g p E L i bad) (n : Nat) : RX (w.drewN n) g p E L i bad := h.later (bd _ _)
theorem RX.pkg {w : World} {g i : Nat} {p : List UInt8} {E bad : Int} {L : List Tk} (h : RX w g p E L i bad) : w.cell? ⟨g, 0, none⟩ = some (.string (bs p)) := by
  obtain ⟨a, c, h1, _⟩ := h.it; simp [World.cell?, h1]
/-- the cells, and the token that is next -/
theorem RX.cells {w : World} {g i : Nat} {p : List UInt8} {E bad : Int} {L : List Tk} (h : RX w g p E L i bad) : ∃ a c, w.cell? ⟨g, 1, none⟩ = some (.slice a L.length c) ∧ w.cell? ⟨g, 2, none⟩ = some (.int .i64 i) ∧ w.cell? ⟨g, 3, none⟩ = some (.int .i64 bad) ∧ w.cell? ⟨g, 4, none⟩ = some (.int .i64 E) ∧
    w.frozen? ⟨g, 2, none⟩ = false ∧ w.frozen? ⟨g, 3, none⟩ = false ∧ w.frozen? ⟨g, 4, none⟩ = false ∧ TS w (.slice a L.length c) L ∧ (L ≠ [] → ∀ b, (Value.slice a L.length c).ownBlock = some b → b < g) := by
  obtain ⟨a, c, h1, h2, h3⟩ := h.it
  exact ⟨a, c, by simp [World.cell?, h1], by simp [World.cell?, h1], by simp [World.cell?, h1], by simp [World.cell?, h1], by simp [World.frozen?, h1], by simp [World.frozen?, h1], by simp [World.frozen?, h1], h2, h3⟩
theorem RX.set {w : World} {g i : Nat} {p : List UInt8} {E bad : Int} {L : List Tk} (h : RX w g p E L i bad) : (∀ j : Nat, RX (w.setCell ⟨g, 2, none⟩ (.int .i64 j)) g p E L j bad) ∧ (∀ z : Int, RX (w.setCell ⟨g, 3, none⟩ (.int .i64 z)) g p E L i z) ∧ (∀ z : Int, RX (w.setCell ⟨g, 4, none⟩ (.int .i64 z)) g p z L i bad) := by
  obtain ⟨a, c, h1, h2, h3⟩ := h.it
  have keep : ∀ (o : Nat) (x : Value), TS (w.setCell ⟨g, o, none⟩ x) (.slice a L.length c) L := fun o x => by
    have hb : Below g w (w.setCell ⟨g, o, none⟩ x) := (Below.refl _ _).setCell (p := ⟨g, o, none⟩) (Nat.le_refl _) _
    rcases L with _ | ⟨k, r⟩
    · exact .inl ⟨⟨_, _, rfl⟩, rfl⟩
    · exact h2.below hb (h3 (by simp))
  refine ⟨fun j => ⟨a, c, ?_, keep _ _, h3⟩, fun z => ⟨a, c, ?_, keep _ _, h3⟩, fun z => ⟨a, c, ?_, keep _ _, h3⟩⟩
  · rw [heap_setCell _ _ _ _ h1]; simp
  · rw [heap_setCell _ _ _ _ h1]; simp
  · rw [heap_setCell _ _ _ _ h1]; simp
def nx (L : List Tk) (i : Nat) (q : Int) : Bool := if h : i < L.length then L[i].kind == q else false
def fp (L : List Tk) (i : Nat) (E : Int) : Int := if h : i < L.length then L[i].at' else E
def wo (L : List Tk) (i : Nat) : List UInt8 := if h : i < L.length then (if L[i].kind = 1 then L[i].text else []) else []
set_option maxRecDepth 100000 in
set_option maxHeartbeats 4000000 in
theorem rnext_bad {w : World} {g i : Nat} {p : List UInt8} {E bad q : Int} {L : List Tk} (h : RX w g p E L i bad) (hb : 0 ≤ bad) :
    Calls Tryz.prog 78 #[.pointer (some ⟨g, 0, none⟩), .int .i64 q] w fun e w' => e = .returned (.bool false) ∧ ∃ n, w' = w.drewN n := by
  obtain ⟨a, c, c1, c2, c3, c4, _, _, _, _, _⟩ := h.cells
  have d1 : decide (bad < 0) = false := by simp; omega
  have d2 : ¬ bad < 0 := by omega
  clear h hb
  go_enter Tryz.func78, Tryz.ntmps78
  go_wp2_with fail
  go_quiet (fail)
  go_wp2_with fail
  go_ret
  exact ⟨rfl, _, rfl⟩
set_option maxRecDepth 100000 in
set_option maxHeartbeats 4000000 in
theorem rnext_any {w : World} {g i : Nat} {p : List UInt8} {E q : Int} {L : List Tk} (h : RX w g p E L i (-1)) :
    Calls Tryz.prog 78 #[.pointer (some ⟨g, 0, none⟩), .int .i64 q] w fun e w' => e = .returned (.bool (nx L i q)) ∧ ∃ n, w' = w.drewN n := by
  obtain ⟨a, c, c1, c2, c3, c4, _, _, _, ht, _⟩ := h.cells
  have HT : Hid (TS w (.slice a L.length c) L) := ht
  clear h ht
  unfold nx
  by_cases hi : i < L.length
  · rw [dif_pos hi]
    obtain ⟨b, off, rfl, hb, e0, e1, e2⟩ := HT.out.at (Below.refl _ _) hi
    have d1 : decide ((i : Int) < (L.length : Int)) = true := by simp; omega
    have d2 : (i : Int) < (L.length : Int) := by omega
    have d3 : (0 : Int) ≤ (i : Int) := by omega
    have d4 : decide (i < L.length) = true := by simp; omega
    generalize L[i].kind = kk at *
    clear HT e1 e2
    go_enter Tryz.func78, Tryz.ntmps78
    go_wp2_with fail
    go_quiet (fail)
    go_wp2_with fail
    go_ret
    exact ⟨by simp, _, rfl⟩
  · rw [dif_neg hi]
    have d1 : decide ((i : Int) < (L.length : Int)) = false := by simp; omega
    have d2 : ¬ (i : Int) < (L.length : Int) := by omega
    have d4 : decide (i < L.length) = false := by simp; omega
    clear HT hi
    go_enter Tryz.func78, Tryz.ntmps78
    go_wp2_with fail
    go_quiet (fail)
    go_wp2_with fail
    go_ret
    exact ⟨rfl, _, rfl⟩
end Go.Proofs.YtddaoloabfkheaaGreatDoor

namespace Go.Proofs.YtddaoloabfkheaaGreatDoor
open Go.RowKit

set_option maxRecDepth 100000 in
set_option maxHeartbeats 4000000 in
theorem rword_any {w : World} {g i : Nat} {p : List UInt8} {E : Int} {L : List Tk} (h : RX w g p E L i (-1)) :
    Calls Tryz.prog 41 #[.pointer (some ⟨g, 0, none⟩)] w fun e w' => e = .returned (.string (bs (wo L i))) ∧ ∃ n, w' = w.drewN n := by
  have HN : Hid (Calls Tryz.prog 78 #[.pointer (some ⟨g, 0, none⟩), .int .i64 1] w fun e w' => e = .returned (.bool (nx L i 1)) ∧ ∃ n, w' = w.drewN n) := rnext_any h
  obtain ⟨a, c, c1, c2, c3, c4, _, _, _, ht, _⟩ := h.cells
  have HT : Hid (TS w (.slice a L.length c) L) := ht
  clear h ht
  unfold nx at HN
  unfold wo
  by_cases hi : i < L.length
  · rw [dif_pos hi] at HN ⊢
    obtain ⟨b, off, rfl, hb, e0, e1, e2⟩ := HT.out.at (Below.refl _ _) hi
    have d2 : (i : Int) < (L.length : Int) := by omega
    have d3 : (0 : Int) ≤ (i : Int) := by omega
    by_cases hk : L[i].kind = 1
    · rw [if_pos hk]
      rw [show (L[i].kind == 1) = true by rw [hk]; rfl] at HN
      generalize L[i].text = tx at *
      clear HT e0 e2 hk
      go_enter Tryz.func41, Tryz.ntmps41
      go_wp2_with fail
      refine HN.out.mono ?_
      rintro e w1 ⟨rfl, n, rfl⟩
      go_wp2_with fail
      go_quiet (fail)
      go_wp2_with fail
      go_ret
      exact ⟨rfl, _, World.drewN_drewN _ _ _⟩
    · rw [if_neg hk]
      rw [show (L[i].kind == 1) = false by rw [beq_eq_false_iff_ne]; exact hk] at HN
      clear HT e0 e2 e1 hk
      go_enter Tryz.func41, Tryz.ntmps41
      go_wp2_with fail
      refine HN.out.mono ?_
      rintro e w1 ⟨rfl, n, rfl⟩
      go_wp2_with fail
      go_ret
      exact ⟨rfl, _, rfl⟩
  · rw [dif_neg hi] at HN ⊢
    clear HT hi
    go_enter Tryz.func41, Tryz.ntmps41
    go_wp2_with fail
    refine HN.out.mono ?_
    rintro e w1 ⟨rfl, n, rfl⟩
    go_wp2_with fail
    go_ret
    exact ⟨rfl, _, rfl⟩
set_option maxRecDepth 100000 in
set_option maxHeartbeats 8000000 in
theorem rfault_any {w : World} {g i : Nat} {p : List UInt8} {E : Int} {L : List Tk} (h : RX w g p E L i (-1)) :
    Calls Tryz.prog 42 #[.pointer (some ⟨g, 0, none⟩)] w fun e w' => e = .returned (.tuple #[]) ∧ RX w' g p E L i (fp L i E) ∧ Only [g] w w' := by
  have H1 : Hid (RX (w.setCell ⟨g, 3, none⟩ (.int .i64 E)) g p E L i E) := h.set.2.1 E
  obtain ⟨a, c, c1, c2, c3, c4, f2, f3, f4, ht, _⟩ := h.cells
  obtain ⟨w0, hw0⟩ : ∃ w0, w.setCell ⟨g, 3, none⟩ (.int .i64 E) = w0 := ⟨_, rfl⟩
  rw [hw0] at H1
  have O0 : Hid (Only [g] w w0) := by show Only [g] w w0; rw [← hw0]; exact Only.set _ _ _ _
  have HW : Hid (w.setCell ⟨g, 3, none⟩ (.int .i64 E) = w0) := hw0
  obtain ⟨a', c', b1, b2, b3, b4, x2, x3, x4, bt, hown⟩ := H1.out.cells
  have HT : Hid (TS w0 (.slice a' L.length c') L) := bt
  clear h ht bt hw0
  unfold fp
  by_cases hi : i < L.length
  · rw [dif_pos hi]
    obtain ⟨b, off, rfl, hb, e0, e1, e2⟩ := HT.out.at (Below.refl _ _) hi
    have d1 : decide ((i : Int) < (L.length : Int)) = true := by simp; omega
    have d2 : (i : Int) < (L.length : Int) := by omega
    have d3 : (0 : Int) ≤ (i : Int) := by omega
    have d4 : decide (i < L.length) = true := by simp; omega
    have hbg : b ≠ g := by
      have := hown (by intro e; rw [e] at hi; simp at hi) b rfl
      omega
    generalize L[i].at' = z at *
    clear HT e0 e1 hown
    go_enter Tryz.func42, Tryz.ntmps42
    go_wp2_with fail
    rw [HW.out]
    go_quiet (fail)
    go_wp2_with fail
    obtain ⟨W, hW⟩ : ∃ W, w0.drewN nq = W := ⟨_, rfl⟩
    have HWW : Hid (w0.drewN nq = W) := hW
    replace b1 : W.cell? ⟨g, 1, none⟩ = some (.slice (some ⟨b, off, none⟩) L.length c') := by rw [← hW]; exact b1
    replace b2 : W.cell? ⟨g, 2, none⟩ = some (.int .i64 i) := by rw [← hW]; exact b2
    replace b3 : W.cell? ⟨g, 3, none⟩ = some (.int .i64 E) := by rw [← hW]; exact b3
    replace x3 : W.frozen? ⟨g, 3, none⟩ = false := by rw [← hW]; exact x3
    replace e2 : W.cell? ⟨b, off + i * 3 + 2, none⟩ = some (.int .i64 z) := by rw [← hW]; exact e2
    rw [hW]
    clear hW c1 c2 c3 c4 f2 f3 f4 x2 x4 b4
    refine wp_region_held_drew (S := fun w' => w'.cell? ⟨g, 1, none⟩ = some (.slice (some ⟨b, off, none⟩) L.length c') ∧ w'.cell? ⟨g, 2, none⟩ = some (.int .i64 i) ∧ w'.cell? ⟨b, off + i * 3 + 2, none⟩ = some (.int .i64 z)) (by kernel_rfl) ⟨b1, b2, e2⟩ (fun hHeld => ?_)
    refine wpAnyH_take (i := 0) (oi := { dst := some 24, op := _, type := _, pos := _, after := _, guard := _ }) (v := ?vx1) rfl (by kernel_rfl) (by kernel_rfl) (by kernel_rfl) (fun _ _ _ h => h) (Or.inl ⟨by rfl, ?hyx1⟩) (by assumption) ?restx1
    case hyx1 => (intro w hSw; (try dsimp only at hSw); go_simp; try with_reducible rfl)
    try simp only [Act.put, List.setIfInBounds_toArray, List.set_cons_zero, List.set_cons_succ]
    refine wpAnyH_take (i := 1) (oi := { dst := some 25, op := _, type := _, pos := _, after := _, guard := _ }) (v := ?vx2) rfl (by kernel_rfl) (by kernel_rfl) (by kernel_rfl) (fun _ _ _ h => h) (Or.inl ⟨by rfl, ?hyx2⟩) (by assumption) ?restx2
    case hyx2 => (intro w hSw; (try dsimp only at hSw); go_simp; try with_reducible rfl)
    try simp only [Act.put, List.setIfInBounds_toArray, List.set_cons_zero, List.set_cons_succ]
    refine wpAnyH_take (i := 2) (oi := { dst := some 26, op := _, type := _, pos := _, after := _, guard := _ }) (v := ?vx3) rfl (by kernel_rfl) (by kernel_rfl) (by kernel_rfl) (fun _ _ _ h => h) (Or.inl ⟨by rfl, ?hyx3⟩) (by assumption) ?restx3
    case hyx3 => (intro w hSw; (try dsimp only at hSw); go_simp; try with_reducible rfl)
    try simp only [Act.put, List.setIfInBounds_toArray, List.set_cons_zero, List.set_cons_succ]
    refine wpAnyH_take (i := 3) (oi := { dst := some 27, op := _, type := _, pos := _, after := _, guard := _ }) (v := ?vx4) rfl (by kernel_rfl) (by kernel_rfl) (by kernel_rfl) (fun _ _ _ h => h) (Or.inl ⟨by rfl, ?hyx4⟩) (by assumption) ?restx4
    case hyx4 => (intro w hSw; (try dsimp only at hSw); go_simp; try with_reducible rfl)
    try simp only [Act.put, List.setIfInBounds_toArray, List.set_cons_zero, List.set_cons_succ]
    refine wpAnyH_take (i := 4) (oi := { dst := some 28, op := _, type := _, pos := _, after := _, guard := _ }) (v := ?vx5) rfl (by kernel_rfl) (by kernel_rfl) (by kernel_rfl) (fun _ _ _ h => h) (Or.inl ⟨by rfl, ?hyx5⟩) (by assumption) ?restx5
    case hyx5 => (intro w hSw; (try dsimp only at hSw); go_simp; try with_reducible rfl)
    try simp only [Act.put, List.setIfInBounds_toArray, List.set_cons_zero, List.set_cons_succ]
    refine wpAnyH_take (i := 5) (oi := { dst := some 29, op := _, type := _, pos := _, after := _, guard := _ }) (v := ?vx6) rfl (by kernel_rfl) (by kernel_rfl) (by kernel_rfl) (fun _ _ _ h => h) (Or.inl ⟨by rfl, ?hyx6⟩) (by assumption) ?restx6
    case hyx6 => (intro w hSw; (try dsimp only at hSw); go_simp; try with_reducible rfl)
    try simp only [Act.put, List.setIfInBounds_toArray, List.set_cons_zero, List.set_cons_succ]
    refine wpAnyH_take (i := 6) (oi := { dst := some 30, op := _, type := _, pos := _, after := _, guard := _ }) (v := ?vx7) rfl (by kernel_rfl) (by kernel_rfl) (by kernel_rfl) (fun _ _ _ h => h) (Or.inl ⟨by rfl, ?hyx7⟩) (by assumption) ?restx7
    case hyx7 => (intro w hSw; (try dsimp only at hSw); go_simp; try with_reducible rfl)
    try simp only [Act.put, List.setIfInBounds_toArray, List.set_cons_zero, List.set_cons_succ]
    refine wpAnyH_take (i := 7) (oi := { dst := some 31, op := _, type := _, pos := _, after := _, guard := _ }) (v := ?vx8) rfl (by kernel_rfl) (by kernel_rfl) (by kernel_rfl) (fun _ _ _ h => h) (Or.inl ⟨by rfl, ?hyx8⟩) (by assumption) ?restx8
    case hyx8 => (intro w hSw; (try dsimp only at hSw); go_simp; try with_reducible rfl)
    try simp only [Act.put, List.setIfInBounds_toArray, List.set_cons_zero, List.set_cons_succ]
    refine wpAnyH_take (i := 8) (oi := { dst := some 32, op := _, type := _, pos := _, after := _, guard := _ }) (v := ?vx9) rfl (by kernel_rfl) (by kernel_rfl) (by kernel_rfl) (fun _ _ _ h => h) (Or.inl ⟨by rfl, ?hyx9⟩) (by assumption) ?restx9
    case hyx9 => (intro w hSw; (try dsimp only at hSw); go_simp; try with_reducible rfl)
    try simp only [Act.put, List.setIfInBounds_toArray, List.set_cons_zero, List.set_cons_succ]
    refine wpAnyH_take (i := 9) (oi := { dst := some 33, op := _, type := _, pos := _, after := _, guard := _ }) (v := ?vx10) rfl (by kernel_rfl) (by kernel_rfl) (by kernel_rfl) (fun _ _ _ h => h) (Or.inl ⟨by rfl, ?hyx10⟩) (by assumption) ?restx10
    case hyx10 => (intro w hSw; (try dsimp only at hSw); go_simp; try with_reducible rfl)
    try simp only [Act.put, List.setIfInBounds_toArray, List.set_cons_zero, List.set_cons_succ]
    refine wpAnyH_take (i := 10) (oi := { dst := some 34, op := _, type := _, pos := _, after := _, guard := _ }) (v := ?vx11) rfl (by kernel_rfl) (by kernel_rfl) (by kernel_rfl) (fun _ _ _ h => h) (Or.inl ⟨by rfl, ?hyx11⟩) (by assumption) ?restx11
    case hyx11 => (intro w hSw; (try dsimp only at hSw); go_simp; try with_reducible rfl)
    try simp only [Act.put, List.setIfInBounds_toArray, List.set_cons_zero, List.set_cons_succ]
    refine wpAnyH_take (i := 11) (oi := { dst := some 35, op := _, type := _, pos := _, after := _, guard := _ }) (v := ?vx12) rfl (by kernel_rfl) (by kernel_rfl) (by kernel_rfl) (fun _ _ _ h => h) (Or.inl ⟨by rfl, ?hyx12⟩) (by assumption) ?restx12
    case hyx12 => (intro w hSw; (try dsimp only at hSw); go_simp; try with_reducible rfl)
    try simp only [Act.put, List.setIfInBounds_toArray, List.set_cons_zero, List.set_cons_succ]
    refine wpAnyH_take (i := 12) (oi := { dst := some 36, op := _, type := _, pos := _, after := _, guard := _ }) (v := ?vx13) rfl (by kernel_rfl) (by kernel_rfl) (by kernel_rfl) (fun _ _ _ h => h) (Or.inl ⟨by rfl, ?hyx13⟩) (by assumption) ?restx13
    case hyx13 => (intro w hSw; (try dsimp only at hSw); go_simp; try with_reducible rfl)
    try simp only [Act.put, List.setIfInBounds_toArray, List.set_cons_zero, List.set_cons_succ]
    refine wpAnyH_take (i := 13) (oi := { dst := some 37, op := _, type := _, pos := _, after := _, guard := _ }) (v := ?vx14) rfl (by kernel_rfl) (by kernel_rfl) (by kernel_rfl) (fun _ _ _ h => h) (Or.inl ⟨by rfl, ?hyx14⟩) (by assumption) ?restx14
    case hyx14 => (intro w hSw; (try dsimp only at hSw); go_simp; try with_reducible rfl)
    try simp only [Act.put, List.setIfInBounds_toArray, List.set_cons_zero, List.set_cons_succ]
    refine wpAnyH_ready (rs := [14]) (by kernel_rfl) (by simp) ?_
    refine AllReadyH.cons (o := { dst := none, op := _, type := _, pos := _, after := _, guard := _ }) rfl (fun K hK => ?_) AllReadyH.nil
    have b3' : W.drew.cell? ⟨g, 3, none⟩ = some (.int .i64 E) := b3
    have x3' : W.drew.frozen? ⟨g, 3, none⟩ = false := x3
    go_simp
    refine hK.out _ _ ⟨(World.cell?_setCell_other _ _ _ _ (by simp)).trans hHeld.1, (World.cell?_setCell_other _ _ _ _ (by simp)).trans hHeld.2.1, (World.cell?_setCell_other _ _ _ _ (by simp)).trans hHeld.2.2⟩ (fun _ => ?_)
    clear hK K
    try simp only [Act.put, List.setIfInBounds_toArray, List.set_cons_zero, List.set_cons_succ]
    refine wpAnyH_done (by kernel_rfl) ?_ _
    have HX : RX (W.drew.setCell ⟨g, 3, none⟩ (.int .i64 z)) g p E L i z := by
      have h1 := (H1.out.drew nq).later (bd1 _)
      rw [HWW.out] at h1
      exact h1.set.2.1 z
    have HO : Only [g] w (W.drew.setCell ⟨g, 3, none⟩ (.int .i64 z)) := by
      have h1 : Only [g] w0 W := by rw [← HWW.out]; exact Only.drew _ _ _
      exact ((O0.out.trans h1).trans (Only.of_below (bd1 _) _)).trans (Only.set _ _ _ _)
    exact ⟨rfl, _, results_none rfl _ _ _, rfl, HX, HO⟩
  · rw [dif_neg hi]
    have d1 : decide ((i : Int) < (L.length : Int)) = false := by simp; omega
    have d2 : ¬ (i : Int) < (L.length : Int) := by omega
    have d4 : decide (i < L.length) = false := by simp; omega
    clear HT hi hown
    go_enter Tryz.func42, Tryz.ntmps42
    go_wp2_with fail
    rw [HW.out]
    go_quiet (fail)
    go_wp2_with fail
    exact ⟨rfl, _, results_none rfl _ _ _, rfl, H1.out.drew _, O0.out.trans (Only.drew _ _ _)⟩
end Go.Proofs.YtddaoloabfkheaaGreatDoor
