/-
  told: its last region, by parts.
-/
import Derived.Test.YtjohhmfncemknaaJOb
namespace Go.Proofs.Ytjohhmfncemknaa
open Go.RowKit Go.Maps

theorem ls_one2 (w : World) (a : Lb) (c : Obj) : LS ((w.alloc c).alloc (.cells #[.string (bs a.pkg), .string (bs a.name)] 31)) (.slice (some ⟨w.heap.size + 1, 0, none⟩) 1 1) [a] := by
  have h := ls_one (w.alloc c) a
  rwa [show (w.alloc c).heap.size = w.heap.size + 1 from by simp] at h
theorem ls_two2 (w : World) (a b : Lb) (c : Obj) : LS ((w.alloc c).alloc (.cells #[.string (bs a.pkg), .string (bs a.name), .string (bs b.pkg), .string (bs b.name)] 31)) (.slice (some ⟨w.heap.size + 1, 0, none⟩) 2 2) [a, b] := by
  have h := ls_two (w.alloc c) a b
  rwa [show (w.alloc c).heap.size = w.heap.size + 1 from by simp] at h
/-- a region of the text -/
def findReg (n : Nat) : Code → Option (Array Oper)
  | .region m a _ => if m == n then some a else none
  | .seq a b => match findReg n a with
    | some c => some c
    | none => findReg n b
  | .block _ c => findReg n c
  | .loop c => findReg n c
  | .scope c => findReg n c
  | .cond _ a b => match findReg n a with
    | some c => some c
    | none => findReg n b
  | _ => none
noncomputable def opsT : Array Oper := (findReg 3 (Try.f19.body.getD .skip)).getD #[]
theorem wpAnyH_cast {P : Program} {md : Region.Mode} {ops ops' : Array Oper} {Q : Exit → Act → World → Prop} {S : World → Prop} {fuel fuel' : Nat} {listed listed' : Array Bool} {a : Act} {w : World} (h1 : ops = ops') (h2 : fuel = fuel') (h3 : listed = listed') (h : wpAnyH P md ops' Q S fuel' listed' a w) : wpAnyH P md ops Q S fuel listed a w := by
  subst h1 h2 h3; exact h
/-- what the calls of told give -/
structure TX (w : World) (g d o : Nat) (an : Option Addr) (nl cn : Nat) (N : List Lb) (E : List Ee) (kd wh : Int) (p n q m : List UInt8) (L : List Lb) (ok : Bool) : Prop where
  ln : L.length ≤ 100000000 ∧ (rs N).length ≤ 100000000 ∧ (∀ a, (rs (oE E a)).length ≤ 100000000) ∧ ∀ fr, (RS N E fr).length ≤ 100000000
  cnd : ∀ W, Below w.heap.size w W → Gv 15 #[.pointer (some ⟨g, 0, none⟩)] W (rs N)
  cr : ∀ W, Below w.heap.size w W → Gv 21 #[.slice an nl cn] W (rs N)
  co1 : ∀ W, Below w.heap.size w W → Gv 13 #[.pointer (some ⟨g, 0, none⟩), .agg #[.string (bs p), .string (bs n)]] W (rs (oE E ⟨p, n⟩))
  co2 : ∀ W, Below w.heap.size w W → Gv 13 #[.pointer (some ⟨g, 0, none⟩), .agg #[.string (bs q), .string (bs m)]] W (rs (oE E ⟨q, m⟩))
  cp1 : ∀ W, Below w.heap.size w W → Gv 22 #[.pointer (some ⟨d, 0, none⟩), .agg #[.string (bs p), .string (bs n)]] W (rs (oE E ⟨p, n⟩))
  cp2 : ∀ W, Below w.heap.size w W → Gv 22 #[.pointer (some ⟨d, 0, none⟩), .agg #[.string (bs q), .string (bs m)]] W (rs (oE E ⟨q, m⟩))
  cx : ∀ W, Below w.heap.size w W → ∀ fv fr, LS W fv fr → fr.length ≤ 4000000 → (∀ x ∈ fr, Lu x) → Gv 12 #[.pointer (some ⟨g, 0, none⟩), fv] W (RS N E fr)
  cy : ∀ W, Below w.heap.size w W → ∀ fv fr, LS W fv fr → fr.length ≤ 4000000 → Gv 23 #[.pointer (some ⟨d, 0, none⟩), fv] W (RS N E fr)
  lu2 : ∀ x ∈ [(⟨q, m⟩ : Lb), ⟨p, n⟩], Lu x
  lu1 : ∀ x ∈ [(⟨p, n⟩ : Lb)], Lu x
  sd : ∀ W, Below w.heap.size w W → OB W o kd wh ⟨p, n⟩ ⟨q, m⟩ → W.cell? ⟨d, 0, none⟩ = some (.slice an nl cn) ∧ W.cell? ⟨o, 2, none⟩ = some (.string (bs p)) ∧ W.cell? ⟨o, 3, none⟩ = some (.string (bs n)) ∧ W.cell? ⟨o, 4, none⟩ = some (.string (bs q)) ∧ W.cell? ⟨o, 5, none⟩ = some (.string (bs m))

set_option maxRecDepth 100000 in
set_option maxHeartbeats 8000000 in
theorem told_c {w : World} {g d o : Nat} {an : Option Addr} {nl cn : Nat} {N : List Lb} {E : List Ee} {kd wh : Int} {p n q m : List UInt8} {L : List Lb} {ok : Bool} {lv2 lv3 lv4 lv6 lv7 lv8 lv9 lv10 lv11 lv12 lv13 lv14 lv15 lv16 lv17 lv18 lv19 lv20 lv21 lv22 lv23 lv24 lv25 lv26 lv27 lv28 lv29 lv30 lv31 lv32 lv33 lv34 lv35 lv36 lv37 lv38 lv39 lv40 lv41 lv42 lv43 lv44 lv45 lv46 lv47 lv48 lv49 lv50 lv51 lv52 lv53 lv54 lv55 lv56 lv57 lv58 lv59 lv60 lv61 lv62 lv63 lv64 lv65 lv66 lv67 lv68 lv69 lv70 lv71 lv72 lv73 lv74 lv75 lv76 lv77 lv79 lv80 lv81 lv82 lv83 lv84 lv85 lv86 lv87 lv88 lv89 lv90 : Value} {w0 : World} {Q : Exit → Act → World → Prop} (X : Hid (TX w g d o an nl cn N E kd wh p n q m L ok)) (HB0 : Hid (Below w.heap.size w w0)) (HO0 : Hid (OB w0 o kd wh ⟨p, n⟩ ⟨q, m⟩)) (hQ : ∀ (x21 x22 x23 x24 x25 x26 x27 x28 x29 x30 x31 x32 x33 x34 x35 x36 x37 x38 x39 x40 x41 x42 x43 x44 x45 x46 x47 x48 x49 x50 x51 x52 x53 x54 x55 x56 x57 x58 x59 x60 x61 x62 x63 x64 x65 x66 x67 x68 x69 x70 x71 x72 x73 x74 x75 x76 x77 x78 x79 x80 x81 x82 x83 x84 x85 x86 x87 x88 x89 x90 : Value) (W' : World), Below w.heap.size w W' → Q .normal ⟨#[.pointer (some ⟨g, 0, none⟩), .pointer (some ⟨d, 0, none⟩), lv2, lv3, lv4, .pointer (some ⟨o, 0, none⟩), .bool true, lv7, lv8, lv9, lv10, lv11, lv12, lv13, lv14, lv15, lv16, lv17, lv18, lv19, lv20, x21, x22, x23, x24, x25, x26, x27, x28, x29, x30, x31, x32, x33, x34, x35, x36, x37, x38, x39, x40, x41, x42, x43, x44, x45, x46, x47, x48, x49, x50, x51, x52, x53, x54, x55, x56, x57, x58, x59, x60, x61, x62, x63, x64, x65, x66, x67, x68, x69, x70, x71, x72, x73, x74, x75, x76, x77, x78, x79, x80, x81, x82, x83, x84, x85, x86, x87, x88, x89, x90], []⟩ W') :
    wpAnyH Try.prog .any opsT (NoPanic Q) (fun W => W.cell? ⟨d, 0, none⟩ = some (.slice an nl cn) ∧ W.cell? ⟨o, 2, none⟩ = some (.string (bs p)) ∧ W.cell? ⟨o, 3, none⟩ = some (.string (bs n)) ∧ W.cell? ⟨o, 4, none⟩ = some (.string (bs q)) ∧ W.cell? ⟨o, 5, none⟩ = some (.string (bs m))) 13 #[true, true, true, true, true, true, true, true, true, true, true, true, true, true, true, true, true, true, true, true, true, true, true, true, true, true, true, true, true, true, true, true, true, true, true, true, true, true, true, true, true, true, true, true, true, true, true, true, true, true, true, true, true, true, true, true, true, true, false, false, false, false, false, false, false, false, false, false, false, false, false] ⟨#[.pointer (some ⟨g, 0, none⟩), .pointer (some ⟨d, 0, none⟩), lv2, lv3, lv4, .pointer (some ⟨o, 0, none⟩), lv6, lv7, lv8, lv9, lv10, lv11, lv12, lv13, lv14, lv15, lv16, lv17, lv18, lv19, lv20, lv21, lv22, lv23, lv24, lv25, lv26, lv27, lv28, lv29, lv30, lv31, lv32, lv33, lv34, lv35, lv36, lv37, lv38, lv39, lv40, lv41, lv42, lv43, lv44, lv45, lv46, lv47, lv48, lv49, lv50, lv51, lv52, lv53, lv54, lv55, lv56, lv57, lv58, lv59, lv60, lv61, lv62, lv63, lv64, lv65, lv66, lv67, lv68, lv69, lv70, lv71, lv72, lv73, lv74, lv75, lv76, lv77, .bool true, lv79, lv80, lv81, lv82, lv83, lv84, lv85, lv86, lv87, lv88, lv89, lv90], []⟩ w0 := by
  conv => arg 3; whnf
  simp only [List.append_eq, List.cons_append, List.nil_append]
  have hHeld := X.out.sd w0 HB0.out HO0.out
  refine wpAnyH_take (i := 58) (oi := { dst := some 79, op := _, type := _, pos := _, after := _, guard := _ }) (v := ?vx1) rfl (by kernel_rfl) (by kernel_rfl) (by kernel_rfl) (fun _ _ _ h => h) (Or.inl ⟨by rfl, ?hyx1⟩) (by assumption) ?restx1
  case hyx1 => (intro w hSw; (try dsimp only at hSw); go_simp; try with_reducible rfl)
  try simp only [Act.put, List.setIfInBounds_toArray, List.set_cons_zero, List.set_cons_succ]
  refine wpAnyH_take (i := 59) (oi := { dst := some 80, op := _, type := _, pos := _, after := _, guard := _ }) (v := ?vx2) rfl (by kernel_rfl) (by kernel_rfl) (by kernel_rfl) (fun _ _ _ h => h) (Or.inl ⟨by rfl, ?hyx2⟩) (by assumption) ?restx2
  case hyx2 => (intro w hSw; (try dsimp only at hSw); go_simp; try with_reducible rfl)
  try simp only [Act.put, List.setIfInBounds_toArray, List.set_cons_zero, List.set_cons_succ]
  refine wpAnyH_take (i := 60) (oi := { dst := some 81, op := _, type := _, pos := _, after := _, guard := _ }) (v := ?vx3) rfl (by kernel_rfl) (by kernel_rfl) (by kernel_rfl) (fun _ _ _ h => h) (Or.inl ⟨by rfl, ?hyx3⟩) (by assumption) ?restx3
  case hyx3 => (intro w hSw; (try dsimp only at hSw); go_simp; try with_reducible rfl)
  try simp only [Act.put, List.setIfInBounds_toArray, List.set_cons_zero, List.set_cons_succ]
  refine wpAnyH_take (i := 63) (oi := { dst := some 84, op := _, type := _, pos := _, after := _, guard := _ }) (v := ?vx4) rfl (by kernel_rfl) (by kernel_rfl) (by kernel_rfl) (fun _ _ _ h => h) (Or.inl ⟨by rfl, ?hyx4⟩) (by assumption) ?restx4
  case hyx4 => (intro w hSw; (try dsimp only at hSw); go_simp; try with_reducible rfl)
  try simp only [Act.put, List.setIfInBounds_toArray, List.set_cons_zero, List.set_cons_succ]
  refine wpAnyH_take (i := 64) (oi := { dst := some 85, op := _, type := _, pos := _, after := _, guard := _ }) (v := ?vx5) rfl (by kernel_rfl) (by kernel_rfl) (by kernel_rfl) (fun _ _ _ h => h) (Or.inl ⟨by rfl, ?hyx5⟩) (by assumption) ?restx5
  case hyx5 => (intro w hSw; (try dsimp only at hSw); go_simp; try with_reducible rfl)
  try simp only [Act.put, List.setIfInBounds_toArray, List.set_cons_zero, List.set_cons_succ]
  refine wpAnyH_take (i := 65) (oi := { dst := some 86, op := _, type := _, pos := _, after := _, guard := _ }) (v := ?vx6) rfl (by kernel_rfl) (by kernel_rfl) (by kernel_rfl) (fun _ _ _ h => h) (Or.inl ⟨by rfl, ?hyx6⟩) (by assumption) ?restx6
  case hyx6 => (intro w hSw; (try dsimp only at hSw); go_simp; try with_reducible rfl)
  try simp only [Act.put, List.setIfInBounds_toArray, List.set_cons_zero, List.set_cons_succ]
  refine wpAnyH_ready (rs := [61, 66]) (by kernel_rfl) (by simp) ?_
  refine AllReadyH.cons (o := { dst := some 82, op := _, type := _, pos := _, after := _, guard := _ }) rfl (fun K hK => ?_) (AllReadyH.cons (o := { dst := some 87, op := _, type := _, pos := _, after := _, guard := _ }) rfl (fun K hK => ?_) AllReadyH.nil)
  · go_simp
    refine hK.out _ _ (X.out.sd _ (bstep HB0.out (balloc w0 (.cells #[.string (bs p), .string (bs n)] 31))) (HO0.out.later (balloc w0 (.cells #[.string (bs p), .string (bs n)] 31)))) (fun hHeld => ?_)
    clear hK K
    try simp only [List.setIfInBounds_toArray, List.set_cons_zero, List.set_cons_succ]
    refine wpAnyH_ready (rs := [62, 66]) (by kernel_rfl) (by simp) ?_
    refine AllReadyH.cons (o := { dst := some 83, op := _, type := _, pos := _, after := _, guard := _ }) rfl (fun K hK => ?_) (AllReadyH.cons (o := { dst := some 87, op := _, type := _, pos := _, after := _, guard := _ }) rfl (fun K hK => ?_) AllReadyH.nil)
    · go_simp
      with_reducible refine (X.out.cx (w0.alloc (.cells #[.string (bs p), .string (bs n)] 31)) (bstep HB0.out (balloc _ _)) (.slice (some ⟨w0.heap.size, 0, none⟩) 1 1) [⟨p, n⟩] (ls_one w0 ⟨p, n⟩) (by simp) X.out.lu1).mono ?_
      rintro e w1 ⟨vx, rfl, hl, hb0⟩
      have hb : Below w0.heap.size w0 w1 := bstep (balloc _ _) hb0
      clear hb0
      have HB1 : Hid (Below w.heap.size w w1) := bstep HB0.out hb
      have Hvx1 : Hid (LS w1 vx (RS N E [⟨p, n⟩])) := hl
      have HO1 : Hid (OB w1 o kd wh ⟨p, n⟩ ⟨q, m⟩) := HO0.out.later hb
      clear hl hb
      refine hK.out _ _ (X.out.sd w1 HB1.out HO1.out) (fun hHeld => ?_)
      clear hK K
      try simp only [List.setIfInBounds_toArray, List.set_cons_zero, List.set_cons_succ]
      refine wpAnyH_ready (rs := [66]) (by kernel_rfl) (by simp) ?_
      refine AllReadyH.cons (o := { dst := some 87, op := _, type := _, pos := _, after := _, guard := _ }) rfl (fun K hK => ?_) AllReadyH.nil
      go_simp
      refine hK.out _ _ (X.out.sd _ (bstep HB1.out (balloc w1 (.cells #[.string (bs p), .string (bs n)] 31))) (HO1.out.later (balloc w1 (.cells #[.string (bs p), .string (bs n)] 31)))) (fun hHeld => ?_)
      clear hK K
      try simp only [List.setIfInBounds_toArray, List.set_cons_zero, List.set_cons_succ]
      refine wpAnyH_ready (rs := [67]) (by kernel_rfl) (by simp) ?_
      refine AllReadyH.cons (o := { dst := some 88, op := _, type := _, pos := _, after := _, guard := _ }) rfl (fun K hK => ?_) AllReadyH.nil
      go_simp
      with_reducible refine (X.out.cy (w1.alloc (.cells #[.string (bs p), .string (bs n)] 31)) (bstep HB1.out (balloc _ _)) (.slice (some ⟨w1.heap.size, 0, none⟩) 1 1) [⟨p, n⟩] (ls_one w1 ⟨p, n⟩) (by simp)).mono ?_
      rintro e w2 ⟨vy, rfl, hl, hb0⟩
      have hb : Below w1.heap.size w1 w2 := bstep (balloc _ _) hb0
      clear hb0
      have HB2 : Hid (Below w.heap.size w w2) := bstep HB1.out hb
      have Hvx2 : Hid (LS w2 vx (RS N E [⟨p, n⟩])) := Hvx1.out.later hb
      have Hvy2 : Hid (LS w2 vy (RS N E [⟨p, n⟩])) := hl
      have HO2 : Hid (OB w2 o kd wh ⟨p, n⟩ ⟨q, m⟩) := HO1.out.later hb
      clear hl hb
      refine hK.out _ _ (X.out.sd w2 HB2.out HO2.out) (fun hHeld => ?_)
      clear hK K
      try simp only [List.setIfInBounds_toArray, List.set_cons_zero, List.set_cons_succ]
      refine wpAnyH_ready (rs := [68]) (by kernel_rfl) (by simp) ?_
      refine AllReadyH.cons (o := { dst := some 89, op := _, type := _, pos := _, after := _, guard := _ }) rfl (fun K hK => ?_) AllReadyH.nil
      go_simp
      with_reducible refine (same_true Hvx2.out Hvy2.out (X.out.ln.2.2.2 _)).mono ?_
      rintro e w3 ⟨rfl, hb⟩
      have HB3 : Hid (Below w.heap.size w w3) := bstep HB2.out hb
      have HO3 : Hid (OB w3 o kd wh ⟨p, n⟩ ⟨q, m⟩) := HO2.out.later hb
      clear hb
      refine hK.out _ _ (X.out.sd w3 HB3.out HO3.out) (fun hHeld => ?_)
      clear hK K
      try simp only [List.setIfInBounds_toArray, List.set_cons_zero, List.set_cons_succ]
      refine wpAnyH_take (i := 69) (oi := { dst := some 90, op := _, type := _, pos := _, after := _, guard := _ }) (v := ?vx7) rfl (by kernel_rfl) (by kernel_rfl) (by kernel_rfl) (fun _ _ _ h => h) (Or.inl ⟨by rfl, ?hyx7⟩) (by assumption) ?restx7
      case hyx7 => (intro w hSw; (try dsimp only at hSw); go_simp; try with_reducible rfl)
      try simp only [Act.put, List.setIfInBounds_toArray, List.set_cons_zero, List.set_cons_succ]
      refine wpAnyH_take (i := 70) (oi := { dst := some 6, op := _, type := _, pos := _, after := _, guard := _ }) (v := ?vx8) rfl (by kernel_rfl) (by kernel_rfl) (by kernel_rfl) (fun _ _ _ h => h) (Or.inl ⟨by rfl, ?hyx8⟩) (by assumption) ?restx8
      case hyx8 => (intro w hSw; (try dsimp only at hSw); go_simp; try with_reducible rfl)
      try simp only [Act.put, List.setIfInBounds_toArray, List.set_cons_zero, List.set_cons_succ]
      refine wpAnyH_done (by kernel_rfl) ?_ _
      refine NoPanic.normal ?_
      exact hQ _ _ _ _ _ _ _ _ _ _ _ _ _ _ _ _ _ _ _ _ _ _ _ _ _ _ _ _ _ _ _ _ _ _ _ _ _ _ _ _ _ _ _ _ _ _ _ _ _ _ _ _ _ _ _ _ _ _ _ _ _ _ _ _ _ _ _ _ _ _ _ HB3.out
    · go_simp
      refine hK.out _ _ (X.out.sd _ (bstep (bstep HB0.out (balloc w0 (.cells #[.string (bs p), .string (bs n)] 31))) (balloc (w0.alloc (.cells #[.string (bs p), .string (bs n)] 31)) (.cells #[.string (bs p), .string (bs n)] 31))) ((HO0.out.later (balloc w0 (.cells #[.string (bs p), .string (bs n)] 31))).later (balloc (w0.alloc (.cells #[.string (bs p), .string (bs n)] 31)) (.cells #[.string (bs p), .string (bs n)] 31)))) (fun hHeld => ?_)
      clear hK K
      try simp only [List.setIfInBounds_toArray, List.set_cons_zero, List.set_cons_succ]
      refine wpAnyH_ready (rs := [62]) (by kernel_rfl) (by simp) ?_
      refine AllReadyH.cons (o := { dst := some 83, op := _, type := _, pos := _, after := _, guard := _ }) rfl (fun K hK => ?_) AllReadyH.nil
      go_simp
      with_reducible refine (X.out.cx ((w0.alloc (.cells #[.string (bs p), .string (bs n)] 31)).alloc (.cells #[.string (bs p), .string (bs n)] 31)) (bstep (bstep HB0.out (balloc _ _)) (balloc _ _)) (.slice (some ⟨w0.heap.size, 0, none⟩) 1 1) [⟨p, n⟩] ((ls_one w0 ⟨p, n⟩).later (balloc _ _)) (by simp) X.out.lu1).mono ?_
      rintro e w1 ⟨vx, rfl, hl, hb0⟩
      have HY : Hid (LS w1 (.slice (some ⟨w0.heap.size + 1, 0, none⟩) 1 1) [⟨p, n⟩]) := (ls_one2 w0 ⟨p, n⟩ _).later hb0
      have hb : Below w0.heap.size w0 w1 := bstep (bstep (balloc _ _) (balloc _ _)) hb0
      clear hb0
      have HB1 : Hid (Below w.heap.size w w1) := bstep HB0.out hb
      have Hvx1 : Hid (LS w1 vx (RS N E [⟨p, n⟩])) := hl
      have HO1 : Hid (OB w1 o kd wh ⟨p, n⟩ ⟨q, m⟩) := HO0.out.later hb
      clear hl hb
      refine hK.out _ _ (X.out.sd w1 HB1.out HO1.out) (fun hHeld => ?_)
      clear hK K
      try simp only [List.setIfInBounds_toArray, List.set_cons_zero, List.set_cons_succ]
      refine wpAnyH_ready (rs := [67]) (by kernel_rfl) (by simp) ?_
      refine AllReadyH.cons (o := { dst := some 88, op := _, type := _, pos := _, after := _, guard := _ }) rfl (fun K hK => ?_) AllReadyH.nil
      go_simp
      with_reducible refine (X.out.cy w1 HB1.out (.slice (some ⟨w0.heap.size + 1, 0, none⟩) 1 1) [⟨p, n⟩] HY.out (by simp)).mono ?_
      rintro e w2 ⟨vy, rfl, hl, hb⟩
      have HB2 : Hid (Below w.heap.size w w2) := bstep HB1.out hb
      have Hvx2 : Hid (LS w2 vx (RS N E [⟨p, n⟩])) := Hvx1.out.later hb
      have Hvy2 : Hid (LS w2 vy (RS N E [⟨p, n⟩])) := hl
      have HO2 : Hid (OB w2 o kd wh ⟨p, n⟩ ⟨q, m⟩) := HO1.out.later hb
      clear hl hb
      refine hK.out _ _ (X.out.sd w2 HB2.out HO2.out) (fun hHeld => ?_)
      clear hK K
      try simp only [List.setIfInBounds_toArray, List.set_cons_zero, List.set_cons_succ]
      refine wpAnyH_ready (rs := [68]) (by kernel_rfl) (by simp) ?_
      refine AllReadyH.cons (o := { dst := some 89, op := _, type := _, pos := _, after := _, guard := _ }) rfl (fun K hK => ?_) AllReadyH.nil
      go_simp
      with_reducible refine (same_true Hvx2.out Hvy2.out (X.out.ln.2.2.2 _)).mono ?_
      rintro e w3 ⟨rfl, hb⟩
      have HB3 : Hid (Below w.heap.size w w3) := bstep HB2.out hb
      have HO3 : Hid (OB w3 o kd wh ⟨p, n⟩ ⟨q, m⟩) := HO2.out.later hb
      clear hb
      refine hK.out _ _ (X.out.sd w3 HB3.out HO3.out) (fun hHeld => ?_)
      clear hK K
      try simp only [List.setIfInBounds_toArray, List.set_cons_zero, List.set_cons_succ]
      refine wpAnyH_take (i := 69) (oi := { dst := some 90, op := _, type := _, pos := _, after := _, guard := _ }) (v := ?vx9) rfl (by kernel_rfl) (by kernel_rfl) (by kernel_rfl) (fun _ _ _ h => h) (Or.inl ⟨by rfl, ?hyx9⟩) (by assumption) ?restx9
      case hyx9 => (intro w hSw; (try dsimp only at hSw); go_simp; try with_reducible rfl)
      try simp only [Act.put, List.setIfInBounds_toArray, List.set_cons_zero, List.set_cons_succ]
      refine wpAnyH_take (i := 70) (oi := { dst := some 6, op := _, type := _, pos := _, after := _, guard := _ }) (v := ?vx10) rfl (by kernel_rfl) (by kernel_rfl) (by kernel_rfl) (fun _ _ _ h => h) (Or.inl ⟨by rfl, ?hyx10⟩) (by assumption) ?restx10
      case hyx10 => (intro w hSw; (try dsimp only at hSw); go_simp; try with_reducible rfl)
      try simp only [Act.put, List.setIfInBounds_toArray, List.set_cons_zero, List.set_cons_succ]
      refine wpAnyH_done (by kernel_rfl) ?_ _
      refine NoPanic.normal ?_
      exact hQ _ _ _ _ _ _ _ _ _ _ _ _ _ _ _ _ _ _ _ _ _ _ _ _ _ _ _ _ _ _ _ _ _ _ _ _ _ _ _ _ _ _ _ _ _ _ _ _ _ _ _ _ _ _ _ _ _ _ _ _ _ _ _ _ _ _ _ _ _ _ _ HB3.out
  · go_simp
    refine hK.out _ _ (X.out.sd _ (bstep HB0.out (balloc w0 (.cells #[.string (bs p), .string (bs n)] 31))) (HO0.out.later (balloc w0 (.cells #[.string (bs p), .string (bs n)] 31)))) (fun hHeld => ?_)
    clear hK K
    try simp only [List.setIfInBounds_toArray, List.set_cons_zero, List.set_cons_succ]
    refine wpAnyH_ready (rs := [61]) (by kernel_rfl) (by simp) ?_
    refine AllReadyH.cons (o := { dst := some 82, op := _, type := _, pos := _, after := _, guard := _ }) rfl (fun K hK => ?_) AllReadyH.nil
    go_simp
    refine hK.out _ _ (X.out.sd _ (bstep (bstep HB0.out (balloc w0 (.cells #[.string (bs p), .string (bs n)] 31))) (balloc (w0.alloc (.cells #[.string (bs p), .string (bs n)] 31)) (.cells #[.string (bs p), .string (bs n)] 31))) ((HO0.out.later (balloc w0 (.cells #[.string (bs p), .string (bs n)] 31))).later (balloc (w0.alloc (.cells #[.string (bs p), .string (bs n)] 31)) (.cells #[.string (bs p), .string (bs n)] 31)))) (fun hHeld => ?_)
    clear hK K
    try simp only [List.setIfInBounds_toArray, List.set_cons_zero, List.set_cons_succ]
    refine wpAnyH_ready (rs := [62]) (by kernel_rfl) (by simp) ?_
    refine AllReadyH.cons (o := { dst := some 83, op := _, type := _, pos := _, after := _, guard := _ }) rfl (fun K hK => ?_) AllReadyH.nil
    go_simp
    with_reducible refine (X.out.cx ((w0.alloc (.cells #[.string (bs p), .string (bs n)] 31)).alloc (.cells #[.string (bs p), .string (bs n)] 31)) (bstep (bstep HB0.out (balloc _ _)) (balloc _ _)) (.slice (some ⟨w0.heap.size + 1, 0, none⟩) 1 1) [⟨p, n⟩] (ls_one2 w0 ⟨p, n⟩ _) (by simp) X.out.lu1).mono ?_
    rintro e w1 ⟨vx, rfl, hl, hb0⟩
    have HY : Hid (LS w1 (.slice (some ⟨w0.heap.size, 0, none⟩) 1 1) [⟨p, n⟩]) := ((ls_one w0 ⟨p, n⟩).later (balloc _ _)).later hb0
    have hb : Below w0.heap.size w0 w1 := bstep (bstep (balloc _ _) (balloc _ _)) hb0
    clear hb0
    have HB1 : Hid (Below w.heap.size w w1) := bstep HB0.out hb
    have Hvx1 : Hid (LS w1 vx (RS N E [⟨p, n⟩])) := hl
    have HO1 : Hid (OB w1 o kd wh ⟨p, n⟩ ⟨q, m⟩) := HO0.out.later hb
    clear hl hb
    refine hK.out _ _ (X.out.sd w1 HB1.out HO1.out) (fun hHeld => ?_)
    clear hK K
    try simp only [List.setIfInBounds_toArray, List.set_cons_zero, List.set_cons_succ]
    refine wpAnyH_ready (rs := [67]) (by kernel_rfl) (by simp) ?_
    refine AllReadyH.cons (o := { dst := some 88, op := _, type := _, pos := _, after := _, guard := _ }) rfl (fun K hK => ?_) AllReadyH.nil
    go_simp
    with_reducible refine (X.out.cy w1 HB1.out (.slice (some ⟨w0.heap.size, 0, none⟩) 1 1) [⟨p, n⟩] HY.out (by simp)).mono ?_
    rintro e w2 ⟨vy, rfl, hl, hb⟩
    have HB2 : Hid (Below w.heap.size w w2) := bstep HB1.out hb
    have Hvx2 : Hid (LS w2 vx (RS N E [⟨p, n⟩])) := Hvx1.out.later hb
    have Hvy2 : Hid (LS w2 vy (RS N E [⟨p, n⟩])) := hl
    have HO2 : Hid (OB w2 o kd wh ⟨p, n⟩ ⟨q, m⟩) := HO1.out.later hb
    clear hl hb
    refine hK.out _ _ (X.out.sd w2 HB2.out HO2.out) (fun hHeld => ?_)
    clear hK K
    try simp only [List.setIfInBounds_toArray, List.set_cons_zero, List.set_cons_succ]
    refine wpAnyH_ready (rs := [68]) (by kernel_rfl) (by simp) ?_
    refine AllReadyH.cons (o := { dst := some 89, op := _, type := _, pos := _, after := _, guard := _ }) rfl (fun K hK => ?_) AllReadyH.nil
    go_simp
    with_reducible refine (same_true Hvx2.out Hvy2.out (X.out.ln.2.2.2 _)).mono ?_
    rintro e w3 ⟨rfl, hb⟩
    have HB3 : Hid (Below w.heap.size w w3) := bstep HB2.out hb
    have HO3 : Hid (OB w3 o kd wh ⟨p, n⟩ ⟨q, m⟩) := HO2.out.later hb
    clear hb
    refine hK.out _ _ (X.out.sd w3 HB3.out HO3.out) (fun hHeld => ?_)
    clear hK K
    try simp only [List.setIfInBounds_toArray, List.set_cons_zero, List.set_cons_succ]
    refine wpAnyH_take (i := 69) (oi := { dst := some 90, op := _, type := _, pos := _, after := _, guard := _ }) (v := ?vx11) rfl (by kernel_rfl) (by kernel_rfl) (by kernel_rfl) (fun _ _ _ h => h) (Or.inl ⟨by rfl, ?hyx11⟩) (by assumption) ?restx11
    case hyx11 => (intro w hSw; (try dsimp only at hSw); go_simp; try with_reducible rfl)
    try simp only [Act.put, List.setIfInBounds_toArray, List.set_cons_zero, List.set_cons_succ]
    refine wpAnyH_take (i := 70) (oi := { dst := some 6, op := _, type := _, pos := _, after := _, guard := _ }) (v := ?vx12) rfl (by kernel_rfl) (by kernel_rfl) (by kernel_rfl) (fun _ _ _ h => h) (Or.inl ⟨by rfl, ?hyx12⟩) (by assumption) ?restx12
    case hyx12 => (intro w hSw; (try dsimp only at hSw); go_simp; try with_reducible rfl)
    try simp only [Act.put, List.setIfInBounds_toArray, List.set_cons_zero, List.set_cons_succ]
    refine wpAnyH_done (by kernel_rfl) ?_ _
    refine NoPanic.normal ?_
    exact hQ _ _ _ _ _ _ _ _ _ _ _ _ _ _ _ _ _ _ _ _ _ _ _ _ _ _ _ _ _ _ _ _ _ _ _ _ _ _ _ _ _ _ _ _ _ _ _ _ _ _ _ _ _ _ _ _ _ _ _ _ _ _ _ _ _ _ _ _ _ _ _ HB3.out

set_option maxRecDepth 100000 in
set_option maxHeartbeats 8000000 in
theorem told_b {w : World} {g d o : Nat} {an : Option Addr} {nl cn : Nat} {N : List Lb} {E : List Ee} {kd wh : Int} {p n q m : List UInt8} {L : List Lb} {ok : Bool} {lv2 lv3 lv4 lv6 lv7 lv8 lv9 lv10 lv11 lv12 lv13 lv14 lv15 lv16 lv17 lv18 lv19 lv20 lv21 lv22 lv23 lv24 lv25 lv26 lv27 lv28 lv29 lv30 lv31 lv32 lv33 lv34 lv35 lv36 lv37 lv38 lv39 lv40 lv41 lv42 lv43 lv44 lv45 lv46 lv47 lv48 lv49 lv50 lv51 lv52 lv53 lv54 lv55 lv56 lv57 lv58 lv59 lv60 lv62 lv63 lv64 lv65 lv66 lv67 lv68 lv69 lv70 lv71 lv72 lv73 lv74 lv75 lv76 lv77 lv78 lv79 lv80 lv81 lv82 lv83 lv84 lv85 lv86 lv87 lv88 lv89 lv90 : Value} {w0 : World} {Q : Exit → Act → World → Prop} (X : Hid (TX w g d o an nl cn N E kd wh p n q m L ok)) (HB0 : Hid (Below w.heap.size w w0)) (HO0 : Hid (OB w0 o kd wh ⟨p, n⟩ ⟨q, m⟩)) (hQ : ∀ (x21 x22 x23 x24 x25 x26 x27 x28 x29 x30 x31 x32 x33 x34 x35 x36 x37 x38 x39 x40 x41 x42 x43 x44 x45 x46 x47 x48 x49 x50 x51 x52 x53 x54 x55 x56 x57 x58 x59 x60 x61 x62 x63 x64 x65 x66 x67 x68 x69 x70 x71 x72 x73 x74 x75 x76 x77 x78 x79 x80 x81 x82 x83 x84 x85 x86 x87 x88 x89 x90 : Value) (W' : World), Below w.heap.size w W' → Q .normal ⟨#[.pointer (some ⟨g, 0, none⟩), .pointer (some ⟨d, 0, none⟩), lv2, lv3, lv4, .pointer (some ⟨o, 0, none⟩), .bool true, lv7, lv8, lv9, lv10, lv11, lv12, lv13, lv14, lv15, lv16, lv17, lv18, lv19, lv20, x21, x22, x23, x24, x25, x26, x27, x28, x29, x30, x31, x32, x33, x34, x35, x36, x37, x38, x39, x40, x41, x42, x43, x44, x45, x46, x47, x48, x49, x50, x51, x52, x53, x54, x55, x56, x57, x58, x59, x60, x61, x62, x63, x64, x65, x66, x67, x68, x69, x70, x71, x72, x73, x74, x75, x76, x77, x78, x79, x80, x81, x82, x83, x84, x85, x86, x87, x88, x89, x90], []⟩ W') :
    wpAnyH Try.prog .any opsT (NoPanic Q) (fun W => W.cell? ⟨d, 0, none⟩ = some (.slice an nl cn) ∧ W.cell? ⟨o, 2, none⟩ = some (.string (bs p)) ∧ W.cell? ⟨o, 3, none⟩ = some (.string (bs n)) ∧ W.cell? ⟨o, 4, none⟩ = some (.string (bs q)) ∧ W.cell? ⟨o, 5, none⟩ = some (.string (bs m))) 30 #[true, true, true, true, true, true, true, true, true, true, true, true, true, true, true, true, true, true, true, true, true, true, true, true, true, true, true, true, true, true, true, true, true, true, true, true, true, true, true, true, true, false, false, false, false, false, false, false, false, false, false, false, false, false, false, false, false, false, false, false, false, false, false, false, false, false, false, false, false, false, false] ⟨#[.pointer (some ⟨g, 0, none⟩), .pointer (some ⟨d, 0, none⟩), lv2, lv3, lv4, .pointer (some ⟨o, 0, none⟩), lv6, lv7, lv8, lv9, lv10, lv11, lv12, lv13, lv14, lv15, lv16, lv17, lv18, lv19, lv20, lv21, lv22, lv23, lv24, lv25, lv26, lv27, lv28, lv29, lv30, lv31, lv32, lv33, lv34, lv35, lv36, lv37, lv38, lv39, lv40, lv41, lv42, lv43, lv44, lv45, lv46, lv47, lv48, lv49, lv50, lv51, lv52, lv53, lv54, lv55, lv56, lv57, lv58, lv59, lv60, .bool true, lv62, lv63, lv64, lv65, lv66, lv67, lv68, lv69, lv70, lv71, lv72, lv73, lv74, lv75, lv76, lv77, lv78, lv79, lv80, lv81, lv82, lv83, lv84, lv85, lv86, lv87, lv88, lv89, lv90], []⟩ w0 := by
  conv => arg 3; whnf
  simp only [List.append_eq, List.cons_append, List.nil_append]
  have hHeld := X.out.sd w0 HB0.out HO0.out
  refine wpAnyH_take (i := 41) (oi := { dst := some 62, op := _, type := _, pos := _, after := _, guard := _ }) (v := ?vx13) rfl (by kernel_rfl) (by kernel_rfl) (by kernel_rfl) (fun _ _ _ h => h) (Or.inl ⟨by rfl, ?hyx13⟩) (by assumption) ?restx13
  case hyx13 => (intro w hSw; (try dsimp only at hSw); go_simp; try with_reducible rfl)
  try simp only [Act.put, List.setIfInBounds_toArray, List.set_cons_zero, List.set_cons_succ]
  refine wpAnyH_take (i := 42) (oi := { dst := some 63, op := _, type := _, pos := _, after := _, guard := _ }) (v := ?vx14) rfl (by kernel_rfl) (by kernel_rfl) (by kernel_rfl) (fun _ _ _ h => h) (Or.inl ⟨by rfl, ?hyx14⟩) (by assumption) ?restx14
  case hyx14 => (intro w hSw; (try dsimp only at hSw); go_simp; try with_reducible rfl)
  try simp only [Act.put, List.setIfInBounds_toArray, List.set_cons_zero, List.set_cons_succ]
  refine wpAnyH_take (i := 43) (oi := { dst := some 64, op := _, type := _, pos := _, after := _, guard := _ }) (v := ?vx15) rfl (by kernel_rfl) (by kernel_rfl) (by kernel_rfl) (fun _ _ _ h => h) (Or.inl ⟨by rfl, ?hyx15⟩) (by assumption) ?restx15
  case hyx15 => (intro w hSw; (try dsimp only at hSw); go_simp; try with_reducible rfl)
  try simp only [Act.put, List.setIfInBounds_toArray, List.set_cons_zero, List.set_cons_succ]
  refine wpAnyH_take (i := 44) (oi := { dst := some 65, op := _, type := _, pos := _, after := _, guard := _ }) (v := ?vx16) rfl (by kernel_rfl) (by kernel_rfl) (by kernel_rfl) (fun _ _ _ h => h) (Or.inl ⟨by rfl, ?hyx16⟩) (by assumption) ?restx16
  case hyx16 => (intro w hSw; (try dsimp only at hSw); go_simp; try with_reducible rfl)
  try simp only [Act.put, List.setIfInBounds_toArray, List.set_cons_zero, List.set_cons_succ]
  refine wpAnyH_take (i := 45) (oi := { dst := some 66, op := _, type := _, pos := _, after := _, guard := _ }) (v := ?vx17) rfl (by kernel_rfl) (by kernel_rfl) (by kernel_rfl) (fun _ _ _ h => h) (Or.inl ⟨by rfl, ?hyx17⟩) (by assumption) ?restx17
  case hyx17 => (intro w hSw; (try dsimp only at hSw); go_simp; try with_reducible rfl)
  try simp only [Act.put, List.setIfInBounds_toArray, List.set_cons_zero, List.set_cons_succ]
  refine wpAnyH_take (i := 48) (oi := { dst := some 69, op := _, type := _, pos := _, after := _, guard := _ }) (v := ?vx18) rfl (by kernel_rfl) (by kernel_rfl) (by kernel_rfl) (fun _ _ _ h => h) (Or.inl ⟨by rfl, ?hyx18⟩) (by assumption) ?restx18
  case hyx18 => (intro w hSw; (try dsimp only at hSw); go_simp; try with_reducible rfl)
  try simp only [Act.put, List.setIfInBounds_toArray, List.set_cons_zero, List.set_cons_succ]
  refine wpAnyH_take (i := 49) (oi := { dst := some 70, op := _, type := _, pos := _, after := _, guard := _ }) (v := ?vx19) rfl (by kernel_rfl) (by kernel_rfl) (by kernel_rfl) (fun _ _ _ h => h) (Or.inl ⟨by rfl, ?hyx19⟩) (by assumption) ?restx19
  case hyx19 => (intro w hSw; (try dsimp only at hSw); go_simp; try with_reducible rfl)
  try simp only [Act.put, List.setIfInBounds_toArray, List.set_cons_zero, List.set_cons_succ]
  refine wpAnyH_take (i := 50) (oi := { dst := some 71, op := _, type := _, pos := _, after := _, guard := _ }) (v := ?vx20) rfl (by kernel_rfl) (by kernel_rfl) (by kernel_rfl) (fun _ _ _ h => h) (Or.inl ⟨by rfl, ?hyx20⟩) (by assumption) ?restx20
  case hyx20 => (intro w hSw; (try dsimp only at hSw); go_simp; try with_reducible rfl)
  try simp only [Act.put, List.setIfInBounds_toArray, List.set_cons_zero, List.set_cons_succ]
  refine wpAnyH_take (i := 51) (oi := { dst := some 72, op := _, type := _, pos := _, after := _, guard := _ }) (v := ?vx21) rfl (by kernel_rfl) (by kernel_rfl) (by kernel_rfl) (fun _ _ _ h => h) (Or.inl ⟨by rfl, ?hyx21⟩) (by assumption) ?restx21
  case hyx21 => (intro w hSw; (try dsimp only at hSw); go_simp; try with_reducible rfl)
  try simp only [Act.put, List.setIfInBounds_toArray, List.set_cons_zero, List.set_cons_succ]
  refine wpAnyH_take (i := 52) (oi := { dst := some 73, op := _, type := _, pos := _, after := _, guard := _ }) (v := ?vx22) rfl (by kernel_rfl) (by kernel_rfl) (by kernel_rfl) (fun _ _ _ h => h) (Or.inl ⟨by rfl, ?hyx22⟩) (by assumption) ?restx22
  case hyx22 => (intro w hSw; (try dsimp only at hSw); go_simp; try with_reducible rfl)
  try simp only [Act.put, List.setIfInBounds_toArray, List.set_cons_zero, List.set_cons_succ]
  refine wpAnyH_ready (rs := [46, 53]) (by kernel_rfl) (by simp) ?_
  refine AllReadyH.cons (o := { dst := some 67, op := _, type := _, pos := _, after := _, guard := _ }) rfl (fun K hK => ?_) (AllReadyH.cons (o := { dst := some 74, op := _, type := _, pos := _, after := _, guard := _ }) rfl (fun K hK => ?_) AllReadyH.nil)
  · go_simp
    refine hK.out _ _ (X.out.sd _ (bstep HB0.out (balloc w0 (.cells #[.string (bs q), .string (bs m), .string (bs p), .string (bs n)] 31))) (HO0.out.later (balloc w0 (.cells #[.string (bs q), .string (bs m), .string (bs p), .string (bs n)] 31)))) (fun hHeld => ?_)
    clear hK K
    try simp only [List.setIfInBounds_toArray, List.set_cons_zero, List.set_cons_succ]
    refine wpAnyH_ready (rs := [47, 53]) (by kernel_rfl) (by simp) ?_
    refine AllReadyH.cons (o := { dst := some 68, op := _, type := _, pos := _, after := _, guard := _ }) rfl (fun K hK => ?_) (AllReadyH.cons (o := { dst := some 74, op := _, type := _, pos := _, after := _, guard := _ }) rfl (fun K hK => ?_) AllReadyH.nil)
    · go_simp
      with_reducible refine (X.out.cx (w0.alloc (.cells #[.string (bs q), .string (bs m), .string (bs p), .string (bs n)] 31)) (bstep HB0.out (balloc _ _)) (.slice (some ⟨w0.heap.size, 0, none⟩) 2 2) [⟨q, m⟩, ⟨p, n⟩] (ls_two w0 ⟨q, m⟩ ⟨p, n⟩) (by simp) X.out.lu2).mono ?_
      rintro e w1 ⟨vx, rfl, hl, hb0⟩
      have hb : Below w0.heap.size w0 w1 := bstep (balloc _ _) hb0
      clear hb0
      have HB1 : Hid (Below w.heap.size w w1) := bstep HB0.out hb
      have Hvx1 : Hid (LS w1 vx (RS N E [⟨q, m⟩, ⟨p, n⟩])) := hl
      have HO1 : Hid (OB w1 o kd wh ⟨p, n⟩ ⟨q, m⟩) := HO0.out.later hb
      clear hl hb
      refine hK.out _ _ (X.out.sd w1 HB1.out HO1.out) (fun hHeld => ?_)
      clear hK K
      try simp only [List.setIfInBounds_toArray, List.set_cons_zero, List.set_cons_succ]
      refine wpAnyH_ready (rs := [53]) (by kernel_rfl) (by simp) ?_
      refine AllReadyH.cons (o := { dst := some 74, op := _, type := _, pos := _, after := _, guard := _ }) rfl (fun K hK => ?_) AllReadyH.nil
      go_simp
      refine hK.out _ _ (X.out.sd _ (bstep HB1.out (balloc w1 (.cells #[.string (bs q), .string (bs m), .string (bs p), .string (bs n)] 31))) (HO1.out.later (balloc w1 (.cells #[.string (bs q), .string (bs m), .string (bs p), .string (bs n)] 31)))) (fun hHeld => ?_)
      clear hK K
      try simp only [List.setIfInBounds_toArray, List.set_cons_zero, List.set_cons_succ]
      refine wpAnyH_ready (rs := [54]) (by kernel_rfl) (by simp) ?_
      refine AllReadyH.cons (o := { dst := some 75, op := _, type := _, pos := _, after := _, guard := _ }) rfl (fun K hK => ?_) AllReadyH.nil
      go_simp
      with_reducible refine (X.out.cy (w1.alloc (.cells #[.string (bs q), .string (bs m), .string (bs p), .string (bs n)] 31)) (bstep HB1.out (balloc _ _)) (.slice (some ⟨w1.heap.size, 0, none⟩) 2 2) [⟨q, m⟩, ⟨p, n⟩] (ls_two w1 ⟨q, m⟩ ⟨p, n⟩) (by simp)).mono ?_
      rintro e w2 ⟨vy, rfl, hl, hb0⟩
      have hb : Below w1.heap.size w1 w2 := bstep (balloc _ _) hb0
      clear hb0
      have HB2 : Hid (Below w.heap.size w w2) := bstep HB1.out hb
      have Hvx2 : Hid (LS w2 vx (RS N E [⟨q, m⟩, ⟨p, n⟩])) := Hvx1.out.later hb
      have Hvy2 : Hid (LS w2 vy (RS N E [⟨q, m⟩, ⟨p, n⟩])) := hl
      have HO2 : Hid (OB w2 o kd wh ⟨p, n⟩ ⟨q, m⟩) := HO1.out.later hb
      clear hl hb
      refine hK.out _ _ (X.out.sd w2 HB2.out HO2.out) (fun hHeld => ?_)
      clear hK K
      try simp only [List.setIfInBounds_toArray, List.set_cons_zero, List.set_cons_succ]
      refine wpAnyH_ready (rs := [55]) (by kernel_rfl) (by simp) ?_
      refine AllReadyH.cons (o := { dst := some 76, op := _, type := _, pos := _, after := _, guard := _ }) rfl (fun K hK => ?_) AllReadyH.nil
      go_simp
      with_reducible refine (same_true Hvx2.out Hvy2.out (X.out.ln.2.2.2 _)).mono ?_
      rintro e w3 ⟨rfl, hb⟩
      have HB3 : Hid (Below w.heap.size w w3) := bstep HB2.out hb
      have HO3 : Hid (OB w3 o kd wh ⟨p, n⟩ ⟨q, m⟩) := HO2.out.later hb
      clear hb
      refine hK.out _ _ (X.out.sd w3 HB3.out HO3.out) (fun hHeld => ?_)
      clear hK K
      try simp only [List.setIfInBounds_toArray, List.set_cons_zero, List.set_cons_succ]
      refine wpAnyH_take (i := 56) (oi := { dst := some 77, op := _, type := _, pos := _, after := _, guard := _ }) (v := ?vx23) rfl (by kernel_rfl) (by kernel_rfl) (by kernel_rfl) (fun _ _ _ h => h) (Or.inl ⟨by rfl, ?hyx23⟩) (by assumption) ?restx23
      case hyx23 => (intro w hSw; (try dsimp only at hSw); go_simp; try with_reducible rfl)
      try simp only [Act.put, List.setIfInBounds_toArray, List.set_cons_zero, List.set_cons_succ]
      refine wpAnyH_take (i := 57) (oi := { dst := some 78, op := _, type := _, pos := _, after := _, guard := _ }) (v := ?vx24) rfl (by kernel_rfl) (by kernel_rfl) (by kernel_rfl) (fun _ _ _ h => h) (Or.inl ⟨by rfl, ?hyx24⟩) (by assumption) ?restx24
      case hyx24 => (intro w hSw; (try dsimp only at hSw); go_simp; try with_reducible rfl)
      try simp only [Act.put, List.setIfInBounds_toArray, List.set_cons_zero, List.set_cons_succ]
      refine wpAnyH_cast (ops' := opsT) (fuel' := 13) (listed' := #[true, true, true, true, true, true, true, true, true, true, true, true, true, true, true, true, true, true, true, true, true, true, true, true, true, true, true, true, true, true, true, true, true, true, true, true, true, true, true, true, true, true, true, true, true, true, true, true, true, true, true, true, true, true, true, true, true, true, false, false, false, false, false, false, false, false, false, false, false, false, false]) (by kernel_rfl) (by kernel_rfl) (by kernel_rfl) ?_
      exact told_c X HB3 HO3 hQ
    · go_simp
      refine hK.out _ _ (X.out.sd _ (bstep (bstep HB0.out (balloc w0 (.cells #[.string (bs q), .string (bs m), .string (bs p), .string (bs n)] 31))) (balloc (w0.alloc (.cells #[.string (bs q), .string (bs m), .string (bs p), .string (bs n)] 31)) (.cells #[.string (bs q), .string (bs m), .string (bs p), .string (bs n)] 31))) ((HO0.out.later (balloc w0 (.cells #[.string (bs q), .string (bs m), .string (bs p), .string (bs n)] 31))).later (balloc (w0.alloc (.cells #[.string (bs q), .string (bs m), .string (bs p), .string (bs n)] 31)) (.cells #[.string (bs q), .string (bs m), .string (bs p), .string (bs n)] 31)))) (fun hHeld => ?_)
      clear hK K
      try simp only [List.setIfInBounds_toArray, List.set_cons_zero, List.set_cons_succ]
      refine wpAnyH_ready (rs := [47]) (by kernel_rfl) (by simp) ?_
      refine AllReadyH.cons (o := { dst := some 68, op := _, type := _, pos := _, after := _, guard := _ }) rfl (fun K hK => ?_) AllReadyH.nil
      go_simp
      with_reducible refine (X.out.cx ((w0.alloc (.cells #[.string (bs q), .string (bs m), .string (bs p), .string (bs n)] 31)).alloc (.cells #[.string (bs q), .string (bs m), .string (bs p), .string (bs n)] 31)) (bstep (bstep HB0.out (balloc _ _)) (balloc _ _)) (.slice (some ⟨w0.heap.size, 0, none⟩) 2 2) [⟨q, m⟩, ⟨p, n⟩] ((ls_two w0 ⟨q, m⟩ ⟨p, n⟩).later (balloc _ _)) (by simp) X.out.lu2).mono ?_
      rintro e w1 ⟨vx, rfl, hl, hb0⟩
      have HY : Hid (LS w1 (.slice (some ⟨w0.heap.size + 1, 0, none⟩) 2 2) [⟨q, m⟩, ⟨p, n⟩]) := (ls_two2 w0 ⟨q, m⟩ ⟨p, n⟩ _).later hb0
      have hb : Below w0.heap.size w0 w1 := bstep (bstep (balloc _ _) (balloc _ _)) hb0
      clear hb0
      have HB1 : Hid (Below w.heap.size w w1) := bstep HB0.out hb
      have Hvx1 : Hid (LS w1 vx (RS N E [⟨q, m⟩, ⟨p, n⟩])) := hl
      have HO1 : Hid (OB w1 o kd wh ⟨p, n⟩ ⟨q, m⟩) := HO0.out.later hb
      clear hl hb
      refine hK.out _ _ (X.out.sd w1 HB1.out HO1.out) (fun hHeld => ?_)
      clear hK K
      try simp only [List.setIfInBounds_toArray, List.set_cons_zero, List.set_cons_succ]
      refine wpAnyH_ready (rs := [54]) (by kernel_rfl) (by simp) ?_
      refine AllReadyH.cons (o := { dst := some 75, op := _, type := _, pos := _, after := _, guard := _ }) rfl (fun K hK => ?_) AllReadyH.nil
      go_simp
      with_reducible refine (X.out.cy w1 HB1.out (.slice (some ⟨w0.heap.size + 1, 0, none⟩) 2 2) [⟨q, m⟩, ⟨p, n⟩] HY.out (by simp)).mono ?_
      rintro e w2 ⟨vy, rfl, hl, hb⟩
      have HB2 : Hid (Below w.heap.size w w2) := bstep HB1.out hb
      have Hvx2 : Hid (LS w2 vx (RS N E [⟨q, m⟩, ⟨p, n⟩])) := Hvx1.out.later hb
      have Hvy2 : Hid (LS w2 vy (RS N E [⟨q, m⟩, ⟨p, n⟩])) := hl
      have HO2 : Hid (OB w2 o kd wh ⟨p, n⟩ ⟨q, m⟩) := HO1.out.later hb
      clear hl hb
      refine hK.out _ _ (X.out.sd w2 HB2.out HO2.out) (fun hHeld => ?_)
      clear hK K
      try simp only [List.setIfInBounds_toArray, List.set_cons_zero, List.set_cons_succ]
      refine wpAnyH_ready (rs := [55]) (by kernel_rfl) (by simp) ?_
      refine AllReadyH.cons (o := { dst := some 76, op := _, type := _, pos := _, after := _, guard := _ }) rfl (fun K hK => ?_) AllReadyH.nil
      go_simp
      with_reducible refine (same_true Hvx2.out Hvy2.out (X.out.ln.2.2.2 _)).mono ?_
      rintro e w3 ⟨rfl, hb⟩
      have HB3 : Hid (Below w.heap.size w w3) := bstep HB2.out hb
      have HO3 : Hid (OB w3 o kd wh ⟨p, n⟩ ⟨q, m⟩) := HO2.out.later hb
      clear hb
      refine hK.out _ _ (X.out.sd w3 HB3.out HO3.out) (fun hHeld => ?_)
      clear hK K
      try simp only [List.setIfInBounds_toArray, List.set_cons_zero, List.set_cons_succ]
      refine wpAnyH_take (i := 56) (oi := { dst := some 77, op := _, type := _, pos := _, after := _, guard := _ }) (v := ?vx25) rfl (by kernel_rfl) (by kernel_rfl) (by kernel_rfl) (fun _ _ _ h => h) (Or.inl ⟨by rfl, ?hyx25⟩) (by assumption) ?restx25
      case hyx25 => (intro w hSw; (try dsimp only at hSw); go_simp; try with_reducible rfl)
      try simp only [Act.put, List.setIfInBounds_toArray, List.set_cons_zero, List.set_cons_succ]
      refine wpAnyH_take (i := 57) (oi := { dst := some 78, op := _, type := _, pos := _, after := _, guard := _ }) (v := ?vx26) rfl (by kernel_rfl) (by kernel_rfl) (by kernel_rfl) (fun _ _ _ h => h) (Or.inl ⟨by rfl, ?hyx26⟩) (by assumption) ?restx26
      case hyx26 => (intro w hSw; (try dsimp only at hSw); go_simp; try with_reducible rfl)
      try simp only [Act.put, List.setIfInBounds_toArray, List.set_cons_zero, List.set_cons_succ]
      refine wpAnyH_cast (ops' := opsT) (fuel' := 13) (listed' := #[true, true, true, true, true, true, true, true, true, true, true, true, true, true, true, true, true, true, true, true, true, true, true, true, true, true, true, true, true, true, true, true, true, true, true, true, true, true, true, true, true, true, true, true, true, true, true, true, true, true, true, true, true, true, true, true, true, true, false, false, false, false, false, false, false, false, false, false, false, false, false]) (by kernel_rfl) (by kernel_rfl) (by kernel_rfl) ?_
      exact told_c X HB3 HO3 hQ
  · go_simp
    refine hK.out _ _ (X.out.sd _ (bstep HB0.out (balloc w0 (.cells #[.string (bs q), .string (bs m), .string (bs p), .string (bs n)] 31))) (HO0.out.later (balloc w0 (.cells #[.string (bs q), .string (bs m), .string (bs p), .string (bs n)] 31)))) (fun hHeld => ?_)
    clear hK K
    try simp only [List.setIfInBounds_toArray, List.set_cons_zero, List.set_cons_succ]
    refine wpAnyH_ready (rs := [46]) (by kernel_rfl) (by simp) ?_
    refine AllReadyH.cons (o := { dst := some 67, op := _, type := _, pos := _, after := _, guard := _ }) rfl (fun K hK => ?_) AllReadyH.nil
    go_simp
    refine hK.out _ _ (X.out.sd _ (bstep (bstep HB0.out (balloc w0 (.cells #[.string (bs q), .string (bs m), .string (bs p), .string (bs n)] 31))) (balloc (w0.alloc (.cells #[.string (bs q), .string (bs m), .string (bs p), .string (bs n)] 31)) (.cells #[.string (bs q), .string (bs m), .string (bs p), .string (bs n)] 31))) ((HO0.out.later (balloc w0 (.cells #[.string (bs q), .string (bs m), .string (bs p), .string (bs n)] 31))).later (balloc (w0.alloc (.cells #[.string (bs q), .string (bs m), .string (bs p), .string (bs n)] 31)) (.cells #[.string (bs q), .string (bs m), .string (bs p), .string (bs n)] 31)))) (fun hHeld => ?_)
    clear hK K
    try simp only [List.setIfInBounds_toArray, List.set_cons_zero, List.set_cons_succ]
    refine wpAnyH_ready (rs := [47]) (by kernel_rfl) (by simp) ?_
    refine AllReadyH.cons (o := { dst := some 68, op := _, type := _, pos := _, after := _, guard := _ }) rfl (fun K hK => ?_) AllReadyH.nil
    go_simp
    with_reducible refine (X.out.cx ((w0.alloc (.cells #[.string (bs q), .string (bs m), .string (bs p), .string (bs n)] 31)).alloc (.cells #[.string (bs q), .string (bs m), .string (bs p), .string (bs n)] 31)) (bstep (bstep HB0.out (balloc _ _)) (balloc _ _)) (.slice (some ⟨w0.heap.size + 1, 0, none⟩) 2 2) [⟨q, m⟩, ⟨p, n⟩] (ls_two2 w0 ⟨q, m⟩ ⟨p, n⟩ _) (by simp) X.out.lu2).mono ?_
    rintro e w1 ⟨vx, rfl, hl, hb0⟩
    have HY : Hid (LS w1 (.slice (some ⟨w0.heap.size, 0, none⟩) 2 2) [⟨q, m⟩, ⟨p, n⟩]) := ((ls_two w0 ⟨q, m⟩ ⟨p, n⟩).later (balloc _ _)).later hb0
    have hb : Below w0.heap.size w0 w1 := bstep (bstep (balloc _ _) (balloc _ _)) hb0
    clear hb0
    have HB1 : Hid (Below w.heap.size w w1) := bstep HB0.out hb
    have Hvx1 : Hid (LS w1 vx (RS N E [⟨q, m⟩, ⟨p, n⟩])) := hl
    have HO1 : Hid (OB w1 o kd wh ⟨p, n⟩ ⟨q, m⟩) := HO0.out.later hb
    clear hl hb
    refine hK.out _ _ (X.out.sd w1 HB1.out HO1.out) (fun hHeld => ?_)
    clear hK K
    try simp only [List.setIfInBounds_toArray, List.set_cons_zero, List.set_cons_succ]
    refine wpAnyH_ready (rs := [54]) (by kernel_rfl) (by simp) ?_
    refine AllReadyH.cons (o := { dst := some 75, op := _, type := _, pos := _, after := _, guard := _ }) rfl (fun K hK => ?_) AllReadyH.nil
    go_simp
    with_reducible refine (X.out.cy w1 HB1.out (.slice (some ⟨w0.heap.size, 0, none⟩) 2 2) [⟨q, m⟩, ⟨p, n⟩] HY.out (by simp)).mono ?_
    rintro e w2 ⟨vy, rfl, hl, hb⟩
    have HB2 : Hid (Below w.heap.size w w2) := bstep HB1.out hb
    have Hvx2 : Hid (LS w2 vx (RS N E [⟨q, m⟩, ⟨p, n⟩])) := Hvx1.out.later hb
    have Hvy2 : Hid (LS w2 vy (RS N E [⟨q, m⟩, ⟨p, n⟩])) := hl
    have HO2 : Hid (OB w2 o kd wh ⟨p, n⟩ ⟨q, m⟩) := HO1.out.later hb
    clear hl hb
    refine hK.out _ _ (X.out.sd w2 HB2.out HO2.out) (fun hHeld => ?_)
    clear hK K
    try simp only [List.setIfInBounds_toArray, List.set_cons_zero, List.set_cons_succ]
    refine wpAnyH_ready (rs := [55]) (by kernel_rfl) (by simp) ?_
    refine AllReadyH.cons (o := { dst := some 76, op := _, type := _, pos := _, after := _, guard := _ }) rfl (fun K hK => ?_) AllReadyH.nil
    go_simp
    with_reducible refine (same_true Hvx2.out Hvy2.out (X.out.ln.2.2.2 _)).mono ?_
    rintro e w3 ⟨rfl, hb⟩
    have HB3 : Hid (Below w.heap.size w w3) := bstep HB2.out hb
    have HO3 : Hid (OB w3 o kd wh ⟨p, n⟩ ⟨q, m⟩) := HO2.out.later hb
    clear hb
    refine hK.out _ _ (X.out.sd w3 HB3.out HO3.out) (fun hHeld => ?_)
    clear hK K
    try simp only [List.setIfInBounds_toArray, List.set_cons_zero, List.set_cons_succ]
    refine wpAnyH_take (i := 56) (oi := { dst := some 77, op := _, type := _, pos := _, after := _, guard := _ }) (v := ?vx27) rfl (by kernel_rfl) (by kernel_rfl) (by kernel_rfl) (fun _ _ _ h => h) (Or.inl ⟨by rfl, ?hyx27⟩) (by assumption) ?restx27
    case hyx27 => (intro w hSw; (try dsimp only at hSw); go_simp; try with_reducible rfl)
    try simp only [Act.put, List.setIfInBounds_toArray, List.set_cons_zero, List.set_cons_succ]
    refine wpAnyH_take (i := 57) (oi := { dst := some 78, op := _, type := _, pos := _, after := _, guard := _ }) (v := ?vx28) rfl (by kernel_rfl) (by kernel_rfl) (by kernel_rfl) (fun _ _ _ h => h) (Or.inl ⟨by rfl, ?hyx28⟩) (by assumption) ?restx28
    case hyx28 => (intro w hSw; (try dsimp only at hSw); go_simp; try with_reducible rfl)
    try simp only [Act.put, List.setIfInBounds_toArray, List.set_cons_zero, List.set_cons_succ]
    refine wpAnyH_cast (ops' := opsT) (fuel' := 13) (listed' := #[true, true, true, true, true, true, true, true, true, true, true, true, true, true, true, true, true, true, true, true, true, true, true, true, true, true, true, true, true, true, true, true, true, true, true, true, true, true, true, true, true, true, true, true, true, true, true, true, true, true, true, true, true, true, true, true, true, true, false, false, false, false, false, false, false, false, false, false, false, false, false]) (by kernel_rfl) (by kernel_rfl) (by kernel_rfl) ?_
    exact told_c X HB3 HO3 hQ

set_option maxRecDepth 100000 in
set_option maxHeartbeats 8000000 in
theorem told_a {w : World} {g d o : Nat} {an : Option Addr} {nl cn : Nat} {N : List Lb} {E : List Ee} {kd wh : Int} {p n q m : List UInt8} {L : List Lb} {ok : Bool} {va vb : Value} {lv2 lv3 lv4 lv6 lv11 lv12 lv13 lv14 lv15 lv16 lv17 lv18 lv19 lv20 lv21 lv22 lv23 lv24 lv25 lv26 lv27 lv28 lv29 lv30 lv31 lv32 lv33 lv34 lv35 lv36 lv37 lv38 lv39 lv40 lv41 lv42 lv43 lv44 lv45 lv46 lv47 lv48 lv49 lv50 lv51 lv52 lv53 lv54 lv55 lv56 lv57 lv58 lv59 lv60 lv61 lv62 lv63 lv64 lv65 lv66 lv67 lv68 lv69 lv70 lv71 lv72 lv73 lv74 lv75 lv76 lv77 lv78 lv79 lv80 lv81 lv82 lv83 lv84 lv85 lv86 lv87 lv88 lv89 lv90 : Value} {w0 : World} {Q : Exit → Act → World → Prop} (X : Hid (TX w g d o an nl cn N E kd wh p n q m L ok)) (HB0 : Hid (Below w.heap.size w w0)) (HO0 : Hid (OB w0 o kd wh ⟨p, n⟩ ⟨q, m⟩)) (Hva0 : Hid (LS w0 va L)) (Hvb0 : Hid (LS w0 vb L)) (hQ : ∀ (x21 x22 x23 x24 x25 x26 x27 x28 x29 x30 x31 x32 x33 x34 x35 x36 x37 x38 x39 x40 x41 x42 x43 x44 x45 x46 x47 x48 x49 x50 x51 x52 x53 x54 x55 x56 x57 x58 x59 x60 x61 x62 x63 x64 x65 x66 x67 x68 x69 x70 x71 x72 x73 x74 x75 x76 x77 x78 x79 x80 x81 x82 x83 x84 x85 x86 x87 x88 x89 x90 : Value) (W' : World), Below w.heap.size w W' → Q .normal ⟨#[.pointer (some ⟨g, 0, none⟩), .pointer (some ⟨d, 0, none⟩), lv2, lv3, lv4, .pointer (some ⟨o, 0, none⟩), .bool true, va, .bool ok, vb, .bool ok, lv11, lv12, lv13, lv14, lv15, lv16, lv17, lv18, lv19, lv20, x21, x22, x23, x24, x25, x26, x27, x28, x29, x30, x31, x32, x33, x34, x35, x36, x37, x38, x39, x40, x41, x42, x43, x44, x45, x46, x47, x48, x49, x50, x51, x52, x53, x54, x55, x56, x57, x58, x59, x60, x61, x62, x63, x64, x65, x66, x67, x68, x69, x70, x71, x72, x73, x74, x75, x76, x77, x78, x79, x80, x81, x82, x83, x84, x85, x86, x87, x88, x89, x90], []⟩ W') :
    wpAnyH Try.prog .any opsT (NoPanic Q) (fun W => W.cell? ⟨d, 0, none⟩ = some (.slice an nl cn) ∧ W.cell? ⟨o, 2, none⟩ = some (.string (bs p)) ∧ W.cell? ⟨o, 3, none⟩ = some (.string (bs n)) ∧ W.cell? ⟨o, 4, none⟩ = some (.string (bs q)) ∧ W.cell? ⟨o, 5, none⟩ = some (.string (bs m))) 71 #[false, false, false, false, false, false, false, false, false, false, false, false, false, false, false, false, false, false, false, false, false, false, false, false, false, false, false, false, false, false, false, false, false, false, false, false, false, false, false, false, false, false, false, false, false, false, false, false, false, false, false, false, false, false, false, false, false, false, false, false, false, false, false, false, false, false, false, false, false, false, false] ⟨#[.pointer (some ⟨g, 0, none⟩), .pointer (some ⟨d, 0, none⟩), lv2, lv3, lv4, .pointer (some ⟨o, 0, none⟩), lv6, va, .bool ok, vb, .bool ok, lv11, lv12, lv13, lv14, lv15, lv16, lv17, lv18, lv19, lv20, lv21, lv22, lv23, lv24, lv25, lv26, lv27, lv28, lv29, lv30, lv31, lv32, lv33, lv34, lv35, lv36, lv37, lv38, lv39, lv40, lv41, lv42, lv43, lv44, lv45, lv46, lv47, lv48, lv49, lv50, lv51, lv52, lv53, lv54, lv55, lv56, lv57, lv58, lv59, lv60, lv61, lv62, lv63, lv64, lv65, lv66, lv67, lv68, lv69, lv70, lv71, lv72, lv73, lv74, lv75, lv76, lv77, lv78, lv79, lv80, lv81, lv82, lv83, lv84, lv85, lv86, lv87, lv88, lv89, lv90], []⟩ w0 := by
  conv => arg 3; whnf
  simp only [List.append_eq, List.cons_append, List.nil_append]
  have hHeld := X.out.sd w0 HB0.out HO0.out
  have hok : (ok == ok) = true := by simp
  refine wpAnyH_take (i := 0) (oi := { dst := some 21, op := _, type := _, pos := _, after := _, guard := _ }) (v := ?vx29) rfl (by kernel_rfl) (by kernel_rfl) (by kernel_rfl) (fun _ _ _ h => h) (Or.inl ⟨by rfl, ?hyx29⟩) (by assumption) ?restx29
  case hyx29 => (intro w hSw; (try dsimp only at hSw); go_simp; try with_reducible rfl)
  try simp only [Act.put, List.setIfInBounds_toArray, List.set_cons_zero, List.set_cons_succ]
  refine wpAnyH_take (i := 2) (oi := { dst := some 23, op := _, type := _, pos := _, after := _, guard := _ }) (v := ?vx30) rfl (by kernel_rfl) (by kernel_rfl) (by kernel_rfl) (fun _ _ _ h => h) (Or.inl ⟨by rfl, ?hyx30⟩) (by assumption) ?restx30
  case hyx30 => (intro w hSw; (try dsimp only at hSw); go_simp; try with_reducible rfl)
  try simp only [Act.put, List.setIfInBounds_toArray, List.set_cons_zero, List.set_cons_succ]
  refine wpAnyH_take (i := 3) (oi := { dst := some 24, op := _, type := _, pos := _, after := _, guard := _ }) (v := ?vx31) rfl (by kernel_rfl) (by kernel_rfl) (by kernel_rfl) (fun _ _ _ h => h) (Or.inl ⟨by rfl, ?hyx31⟩) (by assumption) ?restx31
  case hyx31 => (intro w hSw; (try dsimp only at hSw); go_simp; try with_reducible rfl)
  try simp only [Act.put, List.setIfInBounds_toArray, List.set_cons_zero, List.set_cons_succ]
  refine wpAnyH_take (i := 4) (oi := { dst := some 25, op := _, type := _, pos := _, after := _, guard := _ }) (v := ?vx32) rfl (by kernel_rfl) (by kernel_rfl) (by kernel_rfl) (fun _ _ _ h => h) (Or.inl ⟨by rfl, ?hyx32⟩) (by assumption) ?restx32
  case hyx32 => (intro w hSw; (try dsimp only at hSw); go_simp; try with_reducible rfl)
  try simp only [Act.put, List.setIfInBounds_toArray, List.set_cons_zero, List.set_cons_succ]
  refine wpAnyH_take (i := 5) (oi := { dst := some 26, op := _, type := _, pos := _, after := _, guard := _ }) (v := ?vx33) rfl (by kernel_rfl) (by kernel_rfl) (by kernel_rfl) (fun _ _ _ h => h) (Or.inl ⟨by rfl, ?hyx33⟩) (by assumption) ?restx33
  case hyx33 => (intro w hSw; (try dsimp only at hSw); go_simp; try with_reducible rfl)
  try simp only [Act.put, List.setIfInBounds_toArray, List.set_cons_zero, List.set_cons_succ]
  refine wpAnyH_ready (rs := [1]) (by kernel_rfl) (by simp) ?_
  refine AllReadyH.cons (o := { dst := some 22, op := _, type := _, pos := _, after := _, guard := _ }) rfl (fun K hK => ?_) AllReadyH.nil
  go_simp
  with_reducible refine (X.out.cnd w0 HB0.out).mono ?_
  rintro e w1 ⟨vn, rfl, hl, hb⟩
  have HB1 : Hid (Below w.heap.size w w1) := bstep HB0.out hb
  have Hva1 : Hid (LS w1 va L) := Hva0.out.later hb
  have Hvb1 : Hid (LS w1 vb L) := Hvb0.out.later hb
  have Hvn1 : Hid (LS w1 vn (rs N)) := hl
  have HO1 : Hid (OB w1 o kd wh ⟨p, n⟩ ⟨q, m⟩) := HO0.out.later hb
  clear hl hb
  refine hK.out _ _ (X.out.sd w1 HB1.out HO1.out) (fun hHeld => ?_)
  clear hK K
  try simp only [List.setIfInBounds_toArray, List.set_cons_zero, List.set_cons_succ]
  refine wpAnyH_ready (rs := [6]) (by kernel_rfl) (by simp) ?_
  refine AllReadyH.cons (o := { dst := some 27, op := _, type := _, pos := _, after := _, guard := _ }) rfl (fun K hK => ?_) AllReadyH.nil
  go_simp
  with_reducible refine (X.out.cr w1 HB1.out).mono ?_
  rintro e w2 ⟨vr, rfl, hl, hb⟩
  have HB2 : Hid (Below w.heap.size w w2) := bstep HB1.out hb
  have Hva2 : Hid (LS w2 va L) := Hva1.out.later hb
  have Hvb2 : Hid (LS w2 vb L) := Hvb1.out.later hb
  have Hvn2 : Hid (LS w2 vn (rs N)) := Hvn1.out.later hb
  have Hvr2 : Hid (LS w2 vr (rs N)) := hl
  have HO2 : Hid (OB w2 o kd wh ⟨p, n⟩ ⟨q, m⟩) := HO1.out.later hb
  clear hl hb
  refine hK.out _ _ (X.out.sd w2 HB2.out HO2.out) (fun hHeld => ?_)
  clear hK K
  try simp only [List.setIfInBounds_toArray, List.set_cons_zero, List.set_cons_succ]
  refine wpAnyH_ready (rs := [7]) (by kernel_rfl) (by simp) ?_
  refine AllReadyH.cons (o := { dst := some 28, op := _, type := _, pos := _, after := _, guard := _ }) rfl (fun K hK => ?_) AllReadyH.nil
  go_simp
  with_reducible refine (same_true Hvn2.out Hvr2.out X.out.ln.2.1).mono ?_
  rintro e w3 ⟨rfl, hb⟩
  have HB3 : Hid (Below w.heap.size w w3) := bstep HB2.out hb
  have Hva3 : Hid (LS w3 va L) := Hva2.out.later hb
  have Hvb3 : Hid (LS w3 vb L) := Hvb2.out.later hb
  have HO3 : Hid (OB w3 o kd wh ⟨p, n⟩ ⟨q, m⟩) := HO2.out.later hb
  clear hb
  refine hK.out _ _ (X.out.sd w3 HB3.out HO3.out) (fun hHeld => ?_)
  clear hK K
  try simp only [List.setIfInBounds_toArray, List.set_cons_zero, List.set_cons_succ]
  refine wpAnyH_take (i := 8) (oi := { dst := some 29, op := _, type := _, pos := _, after := _, guard := _ }) (v := ?vx34) rfl (by kernel_rfl) (by kernel_rfl) (by kernel_rfl) (fun _ _ _ h => h) (Or.inl ⟨by rfl, ?hyx34⟩) (by assumption) ?restx34
  case hyx34 => (intro w hSw; (try dsimp only at hSw); go_simp; try with_reducible rfl)
  try simp only [Act.put, List.setIfInBounds_toArray, List.set_cons_zero, List.set_cons_succ]
  refine wpAnyH_take (i := 9) (oi := { dst := some 30, op := _, type := _, pos := _, after := _, guard := _ }) (v := ?vx35) rfl (by kernel_rfl) (by kernel_rfl) (by kernel_rfl) (fun _ _ _ h => h) (Or.inl ⟨by rfl, ?hyx35⟩) (by assumption) ?restx35
  case hyx35 => (intro w hSw; (try dsimp only at hSw); go_simp; try with_reducible rfl)
  try simp only [Act.put, List.setIfInBounds_toArray, List.set_cons_zero, List.set_cons_succ]
  refine wpAnyH_take (i := 10) (oi := { dst := some 31, op := _, type := _, pos := _, after := _, guard := _ }) (v := ?vx36) rfl (by kernel_rfl) (by kernel_rfl) (by kernel_rfl) (fun _ _ _ h => h) (Or.inl ⟨by rfl, ?hyx36⟩) (by assumption) ?restx36
  case hyx36 => (intro w hSw; (try dsimp only at hSw); go_simp; try with_reducible rfl)
  try simp only [Act.put, List.setIfInBounds_toArray, List.set_cons_zero, List.set_cons_succ]
  refine wpAnyH_take (i := 11) (oi := { dst := some 32, op := _, type := _, pos := _, after := _, guard := _ }) (v := ?vx37) rfl (by kernel_rfl) (by kernel_rfl) (by kernel_rfl) (fun _ _ _ h => h) (Or.inl ⟨by rfl, ?hyx37⟩) (by assumption) ?restx37
  case hyx37 => (intro w hSw; (try dsimp only at hSw); go_simp; try with_reducible rfl)
  try simp only [Act.put, List.setIfInBounds_toArray, List.set_cons_zero, List.set_cons_succ]
  refine wpAnyH_take (i := 13) (oi := { dst := some 34, op := _, type := _, pos := _, after := _, guard := _ }) (v := ?vx38) rfl (by kernel_rfl) (by kernel_rfl) (by kernel_rfl) (fun _ _ _ h => h) (Or.inl ⟨by rfl, ?hyx38⟩) (by assumption) ?restx38
  case hyx38 => (intro w hSw; (try dsimp only at hSw); go_simp; try with_reducible rfl)
  try simp only [Act.put, List.setIfInBounds_toArray, List.set_cons_zero, List.set_cons_succ]
  refine wpAnyH_take (i := 14) (oi := { dst := some 35, op := _, type := _, pos := _, after := _, guard := _ }) (v := ?vx39) rfl (by kernel_rfl) (by kernel_rfl) (by kernel_rfl) (fun _ _ _ h => h) (Or.inl ⟨by rfl, ?hyx39⟩) (by assumption) ?restx39
  case hyx39 => (intro w hSw; (try dsimp only at hSw); go_simp; try with_reducible rfl)
  try simp only [Act.put, List.setIfInBounds_toArray, List.set_cons_zero, List.set_cons_succ]
  refine wpAnyH_take (i := 15) (oi := { dst := some 36, op := _, type := _, pos := _, after := _, guard := _ }) (v := ?vx40) rfl (by kernel_rfl) (by kernel_rfl) (by kernel_rfl) (fun _ _ _ h => h) (Or.inl ⟨by rfl, ?hyx40⟩) (by assumption) ?restx40
  case hyx40 => (intro w hSw; (try dsimp only at hSw); go_simp; try with_reducible rfl)
  try simp only [Act.put, List.setIfInBounds_toArray, List.set_cons_zero, List.set_cons_succ]
  refine wpAnyH_ready (rs := [12]) (by kernel_rfl) (by simp) ?_
  refine AllReadyH.cons (o := { dst := some 33, op := _, type := _, pos := _, after := _, guard := _ }) rfl (fun K hK => ?_) AllReadyH.nil
  go_simp
  with_reducible refine (X.out.co1 w3 HB3.out).mono ?_
  rintro e w4 ⟨vo, rfl, hl, hb⟩
  have HB4 : Hid (Below w.heap.size w w4) := bstep HB3.out hb
  have Hva4 : Hid (LS w4 va L) := Hva3.out.later hb
  have Hvb4 : Hid (LS w4 vb L) := Hvb3.out.later hb
  have Hvo4 : Hid (LS w4 vo (rs (oE E ⟨p, n⟩))) := hl
  have HO4 : Hid (OB w4 o kd wh ⟨p, n⟩ ⟨q, m⟩) := HO3.out.later hb
  clear hl hb
  refine hK.out _ _ (X.out.sd w4 HB4.out HO4.out) (fun hHeld => ?_)
  clear hK K
  try simp only [List.setIfInBounds_toArray, List.set_cons_zero, List.set_cons_succ]
  refine wpAnyH_ready (rs := [16]) (by kernel_rfl) (by simp) ?_
  refine AllReadyH.cons (o := { dst := some 37, op := _, type := _, pos := _, after := _, guard := _ }) rfl (fun K hK => ?_) AllReadyH.nil
  go_simp
  with_reducible refine (X.out.cp1 w4 HB4.out).mono ?_
  rintro e w5 ⟨vp, rfl, hl, hb⟩
  have HB5 : Hid (Below w.heap.size w w5) := bstep HB4.out hb
  have Hva5 : Hid (LS w5 va L) := Hva4.out.later hb
  have Hvb5 : Hid (LS w5 vb L) := Hvb4.out.later hb
  have Hvo5 : Hid (LS w5 vo (rs (oE E ⟨p, n⟩))) := Hvo4.out.later hb
  have Hvp5 : Hid (LS w5 vp (rs (oE E ⟨p, n⟩))) := hl
  have HO5 : Hid (OB w5 o kd wh ⟨p, n⟩ ⟨q, m⟩) := HO4.out.later hb
  clear hl hb
  refine hK.out _ _ (X.out.sd w5 HB5.out HO5.out) (fun hHeld => ?_)
  clear hK K
  try simp only [List.setIfInBounds_toArray, List.set_cons_zero, List.set_cons_succ]
  refine wpAnyH_ready (rs := [17]) (by kernel_rfl) (by simp) ?_
  refine AllReadyH.cons (o := { dst := some 38, op := _, type := _, pos := _, after := _, guard := _ }) rfl (fun K hK => ?_) AllReadyH.nil
  go_simp
  with_reducible refine (same_true Hvo5.out Hvp5.out (X.out.ln.2.2.1 _)).mono ?_
  rintro e w6 ⟨rfl, hb⟩
  have HB6 : Hid (Below w.heap.size w w6) := bstep HB5.out hb
  have Hva6 : Hid (LS w6 va L) := Hva5.out.later hb
  have Hvb6 : Hid (LS w6 vb L) := Hvb5.out.later hb
  have HO6 : Hid (OB w6 o kd wh ⟨p, n⟩ ⟨q, m⟩) := HO5.out.later hb
  clear hb
  refine hK.out _ _ (X.out.sd w6 HB6.out HO6.out) (fun hHeld => ?_)
  clear hK K
  try simp only [List.setIfInBounds_toArray, List.set_cons_zero, List.set_cons_succ]
  refine wpAnyH_take (i := 18) (oi := { dst := some 39, op := _, type := _, pos := _, after := _, guard := _ }) (v := ?vx41) rfl (by kernel_rfl) (by kernel_rfl) (by kernel_rfl) (fun _ _ _ h => h) (Or.inl ⟨by rfl, ?hyx41⟩) (by assumption) ?restx41
  case hyx41 => (intro w hSw; (try dsimp only at hSw); go_simp; try with_reducible rfl)
  try simp only [Act.put, List.setIfInBounds_toArray, List.set_cons_zero, List.set_cons_succ]
  refine wpAnyH_take (i := 19) (oi := { dst := some 40, op := _, type := _, pos := _, after := _, guard := _ }) (v := ?vx42) rfl (by kernel_rfl) (by kernel_rfl) (by kernel_rfl) (fun _ _ _ h => h) (Or.inl ⟨by rfl, ?hyx42⟩) (by assumption) ?restx42
  case hyx42 => (intro w hSw; (try dsimp only at hSw); go_simp; try with_reducible rfl)
  try simp only [Act.put, List.setIfInBounds_toArray, List.set_cons_zero, List.set_cons_succ]
  refine wpAnyH_take (i := 20) (oi := { dst := some 41, op := _, type := _, pos := _, after := _, guard := _ }) (v := ?vx43) rfl (by kernel_rfl) (by kernel_rfl) (by kernel_rfl) (fun _ _ _ h => h) (Or.inl ⟨by rfl, ?hyx43⟩) (by assumption) ?restx43
  case hyx43 => (intro w hSw; (try dsimp only at hSw); go_simp; try with_reducible rfl)
  try simp only [Act.put, List.setIfInBounds_toArray, List.set_cons_zero, List.set_cons_succ]
  refine wpAnyH_take (i := 21) (oi := { dst := some 42, op := _, type := _, pos := _, after := _, guard := _ }) (v := ?vx44) rfl (by kernel_rfl) (by kernel_rfl) (by kernel_rfl) (fun _ _ _ h => h) (Or.inl ⟨by rfl, ?hyx44⟩) (by assumption) ?restx44
  case hyx44 => (intro w hSw; (try dsimp only at hSw); go_simp; try with_reducible rfl)
  try simp only [Act.put, List.setIfInBounds_toArray, List.set_cons_zero, List.set_cons_succ]
  refine wpAnyH_take (i := 22) (oi := { dst := some 43, op := _, type := _, pos := _, after := _, guard := _ }) (v := ?vx45) rfl (by kernel_rfl) (by kernel_rfl) (by kernel_rfl) (fun _ _ _ h => h) (Or.inl ⟨by rfl, ?hyx45⟩) (by assumption) ?restx45
  case hyx45 => (intro w hSw; (try dsimp only at hSw); go_simp; try with_reducible rfl)
  try simp only [Act.put, List.setIfInBounds_toArray, List.set_cons_zero, List.set_cons_succ]
  refine wpAnyH_take (i := 24) (oi := { dst := some 45, op := _, type := _, pos := _, after := _, guard := _ }) (v := ?vx46) rfl (by kernel_rfl) (by kernel_rfl) (by kernel_rfl) (fun _ _ _ h => h) (Or.inl ⟨by rfl, ?hyx46⟩) (by assumption) ?restx46
  case hyx46 => (intro w hSw; (try dsimp only at hSw); go_simp; try with_reducible rfl)
  try simp only [Act.put, List.setIfInBounds_toArray, List.set_cons_zero, List.set_cons_succ]
  refine wpAnyH_take (i := 25) (oi := { dst := some 46, op := _, type := _, pos := _, after := _, guard := _ }) (v := ?vx47) rfl (by kernel_rfl) (by kernel_rfl) (by kernel_rfl) (fun _ _ _ h => h) (Or.inl ⟨by rfl, ?hyx47⟩) (by assumption) ?restx47
  case hyx47 => (intro w hSw; (try dsimp only at hSw); go_simp; try with_reducible rfl)
  try simp only [Act.put, List.setIfInBounds_toArray, List.set_cons_zero, List.set_cons_succ]
  refine wpAnyH_take (i := 26) (oi := { dst := some 47, op := _, type := _, pos := _, after := _, guard := _ }) (v := ?vx48) rfl (by kernel_rfl) (by kernel_rfl) (by kernel_rfl) (fun _ _ _ h => h) (Or.inl ⟨by rfl, ?hyx48⟩) (by assumption) ?restx48
  case hyx48 => (intro w hSw; (try dsimp only at hSw); go_simp; try with_reducible rfl)
  try simp only [Act.put, List.setIfInBounds_toArray, List.set_cons_zero, List.set_cons_succ]
  refine wpAnyH_ready (rs := [23]) (by kernel_rfl) (by simp) ?_
  refine AllReadyH.cons (o := { dst := some 44, op := _, type := _, pos := _, after := _, guard := _ }) rfl (fun K hK => ?_) AllReadyH.nil
  go_simp
  with_reducible refine (X.out.co2 w6 HB6.out).mono ?_
  rintro e w7 ⟨vq, rfl, hl, hb⟩
  have HB7 : Hid (Below w.heap.size w w7) := bstep HB6.out hb
  have Hva7 : Hid (LS w7 va L) := Hva6.out.later hb
  have Hvb7 : Hid (LS w7 vb L) := Hvb6.out.later hb
  have Hvq7 : Hid (LS w7 vq (rs (oE E ⟨q, m⟩))) := hl
  have HO7 : Hid (OB w7 o kd wh ⟨p, n⟩ ⟨q, m⟩) := HO6.out.later hb
  clear hl hb
  refine hK.out _ _ (X.out.sd w7 HB7.out HO7.out) (fun hHeld => ?_)
  clear hK K
  try simp only [List.setIfInBounds_toArray, List.set_cons_zero, List.set_cons_succ]
  refine wpAnyH_ready (rs := [27]) (by kernel_rfl) (by simp) ?_
  refine AllReadyH.cons (o := { dst := some 48, op := _, type := _, pos := _, after := _, guard := _ }) rfl (fun K hK => ?_) AllReadyH.nil
  go_simp
  with_reducible refine (X.out.cp2 w7 HB7.out).mono ?_
  rintro e w8 ⟨vt, rfl, hl, hb⟩
  have HB8 : Hid (Below w.heap.size w w8) := bstep HB7.out hb
  have Hva8 : Hid (LS w8 va L) := Hva7.out.later hb
  have Hvb8 : Hid (LS w8 vb L) := Hvb7.out.later hb
  have Hvq8 : Hid (LS w8 vq (rs (oE E ⟨q, m⟩))) := Hvq7.out.later hb
  have Hvt8 : Hid (LS w8 vt (rs (oE E ⟨q, m⟩))) := hl
  have HO8 : Hid (OB w8 o kd wh ⟨p, n⟩ ⟨q, m⟩) := HO7.out.later hb
  clear hl hb
  refine hK.out _ _ (X.out.sd w8 HB8.out HO8.out) (fun hHeld => ?_)
  clear hK K
  try simp only [List.setIfInBounds_toArray, List.set_cons_zero, List.set_cons_succ]
  refine wpAnyH_ready (rs := [28]) (by kernel_rfl) (by simp) ?_
  refine AllReadyH.cons (o := { dst := some 49, op := _, type := _, pos := _, after := _, guard := _ }) rfl (fun K hK => ?_) AllReadyH.nil
  go_simp
  with_reducible refine (same_true Hvq8.out Hvt8.out (X.out.ln.2.2.1 _)).mono ?_
  rintro e w9 ⟨rfl, hb⟩
  have HB9 : Hid (Below w.heap.size w w9) := bstep HB8.out hb
  have Hva9 : Hid (LS w9 va L) := Hva8.out.later hb
  have Hvb9 : Hid (LS w9 vb L) := Hvb8.out.later hb
  have HO9 : Hid (OB w9 o kd wh ⟨p, n⟩ ⟨q, m⟩) := HO8.out.later hb
  clear hb
  refine hK.out _ _ (X.out.sd w9 HB9.out HO9.out) (fun hHeld => ?_)
  clear hK K
  try simp only [List.setIfInBounds_toArray, List.set_cons_zero, List.set_cons_succ]
  refine wpAnyH_take (i := 29) (oi := { dst := some 50, op := _, type := _, pos := _, after := _, guard := _ }) (v := ?vx49) rfl (by kernel_rfl) (by kernel_rfl) (by kernel_rfl) (fun _ _ _ h => h) (Or.inl ⟨by rfl, ?hyx49⟩) (by assumption) ?restx49
  case hyx49 => (intro w hSw; (try dsimp only at hSw); go_simp; try with_reducible rfl)
  try simp only [Act.put, List.setIfInBounds_toArray, List.set_cons_zero, List.set_cons_succ]
  refine wpAnyH_take (i := 30) (oi := { dst := some 51, op := _, type := _, pos := _, after := _, guard := _ }) (v := ?vx50) rfl (by kernel_rfl) (by kernel_rfl) (by kernel_rfl) (fun _ _ _ h => h) (Or.inl ⟨by rfl, ?hyx50⟩) (by assumption) ?restx50
  case hyx50 => (intro w hSw; (try dsimp only at hSw); go_simp; try with_reducible rfl)
  try simp only [Act.put, List.setIfInBounds_toArray, List.set_cons_zero, List.set_cons_succ]
  refine wpAnyH_take (i := 31) (oi := { dst := some 52, op := _, type := _, pos := _, after := _, guard := _ }) (v := ?vx51) rfl (by kernel_rfl) (by kernel_rfl) (by kernel_rfl) (fun _ _ _ h => h) (Or.inl ⟨by rfl, ?hyx51⟩) (by assumption) ?restx51
  case hyx51 => (intro w hSw; (try dsimp only at hSw); go_simp; try with_reducible rfl)
  try simp only [Act.put, List.setIfInBounds_toArray, List.set_cons_zero, List.set_cons_succ]
  refine wpAnyH_take (i := 32) (oi := { dst := some 53, op := _, type := _, pos := _, after := _, guard := _ }) (v := ?vx52) rfl (by kernel_rfl) (by kernel_rfl) (by kernel_rfl) (fun _ _ _ h => h) (Or.inl ⟨by rfl, ?hyx52⟩) (by assumption) ?restx52
  case hyx52 => (intro w hSw; (try dsimp only at hSw); go_simp; try with_reducible rfl)
  try simp only [Act.put, List.setIfInBounds_toArray, List.set_cons_zero, List.set_cons_succ]
  refine wpAnyH_take (i := 33) (oi := { dst := some 54, op := _, type := _, pos := _, after := _, guard := _ }) (v := ?vx53) rfl (by kernel_rfl) (by kernel_rfl) (by kernel_rfl) (fun _ _ _ h => h) (Or.inl ⟨by rfl, ?hyx53⟩) (by assumption) ?restx53
  case hyx53 => (intro w hSw; (try dsimp only at hSw); go_simp; try with_reducible rfl)
  try simp only [Act.put, List.setIfInBounds_toArray, List.set_cons_zero, List.set_cons_succ]
  refine wpAnyH_take (i := 34) (oi := { dst := some 55, op := _, type := _, pos := _, after := _, guard := _ }) (v := ?vx54) rfl (by kernel_rfl) (by kernel_rfl) (by kernel_rfl) (fun _ _ _ h => h) (Or.inl ⟨by rfl, ?hyx54⟩) (by assumption) ?restx54
  case hyx54 => (intro w hSw; (try dsimp only at hSw); go_simp; try with_reducible rfl)
  try simp only [Act.put, List.setIfInBounds_toArray, List.set_cons_zero, List.set_cons_succ]
  refine wpAnyH_take (i := 35) (oi := { dst := some 56, op := _, type := _, pos := _, after := _, guard := _ }) (v := ?vx55) rfl (by kernel_rfl) (by kernel_rfl) (by kernel_rfl) (fun _ _ _ h => h) (Or.inl ⟨by rfl, ?hyx55⟩) (by assumption) ?restx55
  case hyx55 => (intro w hSw; (try dsimp only at hSw); go_simp; try with_reducible rfl)
  try simp only [Act.put, List.setIfInBounds_toArray, List.set_cons_zero, List.set_cons_succ]
  refine wpAnyH_take (i := 36) (oi := { dst := some 57, op := _, type := _, pos := _, after := _, guard := _ }) (v := ?vx56) rfl (by kernel_rfl) (by kernel_rfl) (by kernel_rfl) (fun _ _ _ h => h) (Or.inl ⟨by rfl, ?hyx56⟩) (by assumption) ?restx56
  case hyx56 => (intro w hSw; (try dsimp only at hSw); go_simp; try with_reducible rfl)
  try simp only [Act.put, List.setIfInBounds_toArray, List.set_cons_zero, List.set_cons_succ]
  refine wpAnyH_take (i := 37) (oi := { dst := some 58, op := _, type := _, pos := _, after := _, guard := _ }) (v := ?vx57) rfl (by kernel_rfl) (by kernel_rfl) (by kernel_rfl) (fun _ _ _ h => h) (Or.inl ⟨by rfl, ?hyx57⟩) (by assumption) ?restx57
  case hyx57 => (intro w hSw; (try dsimp only at hSw); go_simp; try with_reducible rfl)
  try simp only [Act.put, List.setIfInBounds_toArray, List.set_cons_zero, List.set_cons_succ]
  refine wpAnyH_ready (rs := [38]) (by kernel_rfl) (by simp) ?_
  refine AllReadyH.cons (o := { dst := some 59, op := _, type := _, pos := _, after := _, guard := _ }) rfl (fun K hK => ?_) AllReadyH.nil
  go_simp
  with_reducible refine (same_true Hva9.out Hvb9.out X.out.ln.1).mono ?_
  rintro e w10 ⟨rfl, hb⟩
  have HB10 : Hid (Below w.heap.size w w10) := bstep HB9.out hb
  have HO10 : Hid (OB w10 o kd wh ⟨p, n⟩ ⟨q, m⟩) := HO9.out.later hb
  clear hb
  refine hK.out _ _ (X.out.sd w10 HB10.out HO10.out) (fun hHeld => ?_)
  clear hK K
  try simp only [List.setIfInBounds_toArray, List.set_cons_zero, List.set_cons_succ]
  refine wpAnyH_take (i := 39) (oi := { dst := some 60, op := _, type := _, pos := _, after := _, guard := _ }) (v := ?vx58) rfl (by kernel_rfl) (by kernel_rfl) (by kernel_rfl) (fun _ _ _ h => h) (Or.inl ⟨by rfl, ?hyx58⟩) (by assumption) ?restx58
  case hyx58 => (intro w hSw; (try dsimp only at hSw); go_simp; try with_reducible rfl)
  try simp only [Act.put, List.setIfInBounds_toArray, List.set_cons_zero, List.set_cons_succ]
  refine wpAnyH_take (i := 40) (oi := { dst := some 61, op := _, type := _, pos := _, after := _, guard := _ }) (v := ?vx59) rfl (by kernel_rfl) (by kernel_rfl) (by kernel_rfl) (fun _ _ _ h => h) (Or.inl ⟨by rfl, ?hyx59⟩) (by assumption) ?restx59
  case hyx59 => (intro w hSw; (try dsimp only at hSw); go_simp; try with_reducible rfl)
  try simp only [Act.put, List.setIfInBounds_toArray, List.set_cons_zero, List.set_cons_succ]
  refine wpAnyH_cast (ops' := opsT) (fuel' := 30) (listed' := #[true, true, true, true, true, true, true, true, true, true, true, true, true, true, true, true, true, true, true, true, true, true, true, true, true, true, true, true, true, true, true, true, true, true, true, true, true, true, true, true, true, false, false, false, false, false, false, false, false, false, false, false, false, false, false, false, false, false, false, false, false, false, false, false, false, false, false, false, false, false, false]) (by kernel_rfl) (by kernel_rfl) (by kernel_rfl) ?_
  exact told_b X HB10 HO10 hQ

end Go.Proofs.Ytjohhmfncemknaa
