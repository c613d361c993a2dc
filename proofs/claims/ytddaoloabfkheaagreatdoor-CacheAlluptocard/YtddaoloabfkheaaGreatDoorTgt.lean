/-
  A target.
-/
import Derived.Test.YtddaoloabfkheaaGreatDoorFld
namespace Go.Proofs.YtddaoloabfkheaaGreatDoor
open Go.RowKit

theorem c_target : (ByteArray.mk #[116, 97, 114, 103, 101, 116]).toList = wTarget := ByteArray.toList_mk wTarget
def zv : Tv := ⟨[], none, 0, 0, none, 0, 0, none, 0, 0⟩
/-- the target is read through, or it is given up -/
def LsT (w : World) (g : Nat) (p : List UInt8) (E S : Int) (L : List Tk) (l : List Tg) (R : List Tg × Int) (e : Ending) (w' : World) : Prop :=
  (∃ tv t L', e = .returned tv.val ∧ TOwn w.heap.size w' tv t ∧ RQ w' g p E L' ∧ (∀ k ∈ L', k ∈ L) ∧ L'.length < L.length ∧ go p E S (.top (l ++ [t])) L' = R ∧ l.length < 64 ∧ Only [g] w w') ∨
  (∃ z, e = flt z ∧ R = ([], z) ∧ Only [g] w w')
theorem only_new {g gT : Nat} {w w' : World} (h : Only [g, gT] w w') (hg : w.heap.size ≤ gT) : Only [g] w w' :=
  ⟨h.os, h.tape, h.output, h.size, fun k hk hn => h.block k hk (by simp only [List.mem_cons, List.mem_nil_iff, or_false] at hn ⊢; omega)⟩
theorem TB.set {w : World} {g : Nat} {t : Tv} (h : TB w g t) (u : Tv) : TB ((((w.setCell ⟨g, 0, none⟩ (.string (bs u.name))).setCell ⟨g, 1, none⟩ (.slice u.sa u.sn u.sc)).setCell ⟨g, 2, none⟩ (.slice u.da u.dn u.dc)).setCell ⟨g, 3, none⟩ (.slice u.ea u.en u.ec)) g u := by
  refine ⟨?_⟩
  rw [heap_setCell _ _ _ _ (heap_setCell _ _ _ _ (heap_setCell _ _ _ _ (heap_setCell _ _ _ _ h.blk)))]; simp
theorem bset4 {B : Nat} {w w' : World} {g : Nat} (hb : Below B w w') (hg : B ≤ g) (a b c d : Value) :
    Below B w ((((w'.setCell ⟨g, 0, none⟩ a).setCell ⟨g, 1, none⟩ b).setCell ⟨g, 2, none⟩ c).setCell ⟨g, 3, none⟩ d) :=
  (bset3 hb hg a b c).setCell (p := ⟨g, 3, none⟩) hg _
theorem TB.cells2 {w : World} {g : Nat} {t : Tv} (h : TB w g t) : w.frozen? ⟨g, 0, none⟩ = false := by
  have hb := h.blk
  simp [World.frozen?, hb]
set_option maxRecDepth 100000 in
set_option maxHeartbeats 16000000 in
theorem target_any {w : World} {g : Nat} {p : List UInt8} {E S : Int} {L : List Tk} {l : List Tg} {R : List Tg × Int} {v : Value} {tvs : List Tv} {base : Nat} (hq : RQ w g p E L) (hv : OwnG base w v tvs) (hbase : g < base) (hnm : ∀ x, (tvs.any fun t => t.name == x) = hasN l x) (hlen : tvs.length = l.length) (hl64 : l.length ≤ 64) (hne : L ≠ []) (hT : ∀ k ∈ L, TkOk k) (hL : L.length ≤ 5000) (hR : go p E S (.top l) L = R) (hE : Ev w) (hg : 4 ≤ g) (hp : p.length ≤ 120) :
    Calls Tryz.prog 112 #[.pointer (some ⟨g, 0, none⟩), v] w (LsT w g p E S L l R) := by
  have HT : Hid (∀ k ∈ L, TkOk k) := hT
  have HE : Hid (Ev w) := hE
  have HR : Hid (go p E S (.top l) L = R) := hR
  have HQ : Hid (RQ w g p E L) := hq
  have hgl := hq.lt
  have HNE : Hid (L ≠ []) := hne
  have HNM : Hid (∀ x, (tvs.any fun t => t.name == x) = hasN l x) := hnm
  obtain ⟨va, vc, hvv⟩ := hv.form
  obtain ⟨nl, hnl⟩ : ∃ nl, l.length = nl := ⟨_, rfl⟩
  rw [hlen, hnl] at hvv
  subst hvv
  have HV : Hid (OwnG base w (.slice va nl vc) tvs) := hv
  have HNL : Hid (tvs.length = nl ∧ l.length = nl) := ⟨by rw [hlen, hnl], hnl⟩
  rw [hnl] at hl64
  obtain ⟨G, hG⟩ : ∃ G, w.heap.size = G := ⟨_, rfl⟩
  obtain ⟨w0, hw0⟩ : ∃ w0, w.alloc (.cells #[.string (bs []), .slice none 0 0, .slice none 0 0, .slice none 0 0] 66) = w0 := ⟨_, rfl⟩
  have hb0 : Below w.heap.size w w0 := by rw [← hw0]; exact balloc _ _
  have hs0 : G + 1 = w0.heap.size := by rw [← hw0, ← hG]; simp
  have TG0 : Hid (TB w0 G zv) := by show TB w0 G zv; rw [← hw0, ← hG]; exact TB.new w zv
  have HW0 : Hid (w.alloc (.cells #[.string (bs []), .slice none 0 0, .slice none 0 0, .slice none 0 0] 66) = w0 ∧ w.heap.size = G) := ⟨hw0, hG⟩
  have Q0 : Hid (RQ w0 g p E L ∧ Only [g] w w0) := ⟨hq.later hb0, Only.of_below hb0 _⟩
  have hGw : w.heap.size = G := hG
  have b1 : (⟨#[]⟩ : ByteArray) = bs [] := rfl
  clear hT hE hR hq hne hnm hv hlen hnl hw0 hb0 hG hGw
  go_enter Tryz.func112, Tryz.ntmps112
  go_wp2_with fail
  rw [HW0.out.1, HW0.out.2]
  refine (take_any (q := 1) Q0.out.1 (by omega)).mono ?_
  rintro e w1 (⟨k, r, rfl, hk, rfl, hq1, ho1⟩ | ⟨z, rfl, hb, hbad⟩)
  rotate_left
  · exact ⟨rfl, .inr ⟨z, rfl, by
      rw [← HR.out]
      rcases hbad with ⟨e1, _⟩ | ⟨k, r, rfl, hk, rfl⟩
      · exact absurd e1 HNE.out
      · have : ¬ (k.kind = 1 ∧ k.text = wTarget ∧ l.length < 64) := fun h => hk h.1
        simp only [go, stp, if_neg this], Q0.out.2.trans (Only.of_below hb _)⟩⟩
  have R1 : Hid ((if k.text = wTarget ∧ nl < 64 then go p E S (.nm l) r else ([], k.at')) = R) := by
    show (if k.text = wTarget ∧ nl < 64 then go p E S (.nm l) r else ([], k.at')) = R
    rw [← HR.out, ← HNL.out.2]
    by_cases hc : k.text = wTarget ∧ l.length < 64
    · simp only [go, stp, if_pos hc, if_pos (show k.kind = 1 ∧ k.text = wTarget ∧ l.length < 64 from ⟨hk, hc⟩)]
    · simp only [go, stp, if_neg hc, if_neg (fun h => hc h.2 : ¬ (k.kind = 1 ∧ k.text = wTarget ∧ l.length < 64))]
  have Q1 : Hid (RQ w1 g p E r ∧ Only [g] w w1) := ⟨hq1, Q0.out.2.trans ho1⟩
  have TG1 : Hid (TB w1 G zv) := TG0.out.only ho1 (by simp; have := HW0.out.2; omega)
  have hs1 : w0.heap.size ≤ w1.heap.size := ho1.size
  have hgG : w.heap.size = G := HW0.out.2
  simp only [List.length_cons] at hL
  unfold Tk.val
  obtain ⟨gt, hgt⟩ : ∃ gt, w1.heap.size = gt := ⟨_, rfl⟩
  obtain ⟨wa, hwa⟩ : ∃ wa, w1.alloc (.cells #[.int .i64 k.kind, .string (bs k.text), .int .i64 k.at'] 188) = wa := ⟨_, rfl⟩
  have hba : Below w1.heap.size w1 wa := by rw [← hwa]; exact balloc _ _
  have hsa : gt + 1 = wa.heap.size := by rw [← hwa, ← hgt]; simp
  have hgs : w1.heap.size ≤ gt := by omega
  have Qa : Hid (RQ wa g p E r ∧ Only [g] w wa) := ⟨Q1.out.1.later hba, Q1.out.2.trans (Only.of_below hba _)⟩
  have TGa : Hid (TB wa G zv) := TG1.out.later hba
  have t0 : wa.cell? ⟨gt, 0, none⟩ = some (.int .i64 k.kind) := by rw [← hwa, ← hgt]; simp
  have t1 : wa.cell? ⟨gt, 1, none⟩ = some (.string (bs k.text)) := by rw [← hwa, ← hgt]; simp
  have t2 : wa.cell? ⟨gt, 2, none⟩ = some (.int .i64 k.at') := by rw [← hwa, ← hgt]; simp
  have HW1 : Hid (w1.alloc (.cells #[.int .i64 k.kind, .string (bs k.text), .int .i64 k.at'] 188) = wa ∧ w1.heap.size = gt) := ⟨hwa, hgt⟩
  have HCN : Hid (∀ W : World, Calls Tryz.prog 129 #[.agg #[.int .i64 k.kind, .string (bs k.text), .int .i64 k.at'], .bool false] W fun e w' => e = flt k.at' ∧ Below W.heap.size W w') := fun W => check_no k W
  have HCY : Hid (∀ W : World, Calls Tryz.prog 129 #[.agg #[.int .i64 k.kind, .string (bs k.text), .int .i64 k.at'], .bool true] W fun e w' => e = .returned (.tuple #[]) ∧ Below W.heap.size W w') := fun W => check_ok k W
  have x1 := bs_toList k.text
  have x2 := c_target
  have HGG : Hid (w.heap.size = G) := hgG
  have hgG2 : g < G := by omega
  clear hq1 ho1 hk hwa hba hgt HR Q0 Q1 TG0 TG1 hgG HW0
  by_cases hw : k.text = wTarget
  rotate_left
  · have q1 : (k.text == wTarget) = false := by simpa using hw
    obtain rfl : ([], k.at') = R := by
      have := R1.out
      rw [if_neg (fun h => hw h.1)] at this; exact this
    clear hw R1
    go_wp2_with fail
    rw [HW1.out.1, HW1.out.2]
    go_wp2_with fail
    refine (HCN.out _).mono ?_
    rintro e w3 ⟨rfl, hb3⟩
    exact ⟨rfl, .inr ⟨_, rfl, rfl, Qa.out.2.trans (Only.of_below hb3 _)⟩⟩
  have q1 : (k.text == wTarget) = true := by rw [hw]; decide
  by_cases h64 : nl < 64
  rotate_left
  · have d1 : decide ((nl : Int) < 64) = false := by simp; omega
    have d2 : ¬ ((nl : Int) < 64) := by omega
    obtain rfl : ([], k.at') = R := by
      have := R1.out
      rw [if_neg (fun h => h64 h.2)] at this; exact this
    clear hw R1
    go_wp2_with fail
    rw [HW1.out.1, HW1.out.2]
    go_wp2_with fail
    refine (HCN.out _).mono ?_
    rintro e w3 ⟨rfl, hb3⟩
    exact ⟨rfl, .inr ⟨_, rfl, rfl, Qa.out.2.trans (Only.of_below hb3 _)⟩⟩
  have d1 : decide ((nl : Int) < 64) = true := by simp; omega
  have d2 : (nl : Int) < 64 := by omega
  have R2 : Hid (go p E S (.nm l) r = R) := by
    have := R1.out
    rw [if_pos ⟨hw, h64⟩] at this; exact this
  clear hw R1
  go_wp2_with fail
  rw [HW1.out.1, HW1.out.2]
  go_wp2_with fail
  refine (HCY.out _).mono ?_
  rintro e w2 ⟨rfl, hb2⟩
  have Q2 : Hid (RQ w2 g p E r ∧ Only [g] w w2) := ⟨Qa.out.1.later hb2, Qa.out.2.trans (Only.of_below hb2 _)⟩
  have TG2 : Hid (TB w2 G zv) := TGa.out.later hb2
  have hs2 : wa.heap.size ≤ w2.heap.size := hb2.size
  clear hb2 Qa TGa t0 t1 t2 HCN HCY HW1 q1 d1 d2 x1 x2
  go_wp2_with fail
  refine (take_any (q := 1) Q2.out.1 (by omega)).mono ?_
  rintro e w3 (⟨j, r3, rfl, hj, rfl, hq3, ho3⟩ | ⟨z, rfl, hb, hbad⟩)
  rotate_left
  · exact ⟨rfl, .inr ⟨z, rfl, by
      rw [← R2.out]
      exact go_bad (fun k hk => by
        have : ¬ (k.kind = 1 ∧ okC k.text = true ∧ hasN l k.text = false) := fun h => hk h.1
        simp only [stp, if_neg this]) rfl hbad, Q2.out.2.trans (Only.of_below hb _)⟩⟩
  have R3 : Hid ((if okC j.text = true ∧ hasN l j.text = false then go p E S (.op l j.text) r3 else ([], j.at')) = R) := by
    show (if okC j.text = true ∧ hasN l j.text = false then go p E S (.op l j.text) r3 else ([], j.at')) = R
    rw [← R2.out]
    by_cases hc : okC j.text = true ∧ hasN l j.text = false
    · simp only [go, stp, if_pos hc, if_pos (show j.kind = 1 ∧ okC j.text = true ∧ hasN l j.text = false from ⟨hj, hc⟩)]
    · simp only [go, stp, if_neg hc, if_neg (fun h => hc h.2 : ¬ (j.kind = 1 ∧ okC j.text = true ∧ hasN l j.text = false))]
  have hj0 : TkOk j := HT.out j (by simp)
  have Q3 : Hid (RQ w3 g p E r3 ∧ Only [g] w w3) := ⟨hq3, Q2.out.2.trans ho3⟩
  have TG3 : Hid (TB w3 G zv) := TG2.out.only ho3 (by simp; omega)
  have hs3 : w2.heap.size ≤ w3.heap.size := ho3.size
  simp only [List.length_cons] at hL
  unfold Tk.val
  obtain ⟨gn, hgn⟩ : ∃ gn, w3.heap.size = gn := ⟨_, rfl⟩
  obtain ⟨wb, hwb⟩ : ∃ wb, w3.alloc (.cells #[.int .i64 j.kind, .string (bs j.text), .int .i64 j.at'] 188) = wb := ⟨_, rfl⟩
  have hbb : Below w3.heap.size w3 wb := by rw [← hwb]; exact balloc _ _
  have hsb : gn + 1 = wb.heap.size := by rw [← hwb, ← hgn]; simp
  have hgns : w3.heap.size ≤ gn := by omega
  have Qb : Hid (RQ wb g p E r3 ∧ Only [g] w wb) := ⟨Q3.out.1.later hbb, Q3.out.2.trans (Only.of_below hbb _)⟩
  have TGb : Hid (TB wb G zv) := TG3.out.later hbb
  have n0 : wb.cell? ⟨gn, 0, none⟩ = some (.int .i64 j.kind) := by rw [← hwb, ← hgn]; simp
  have n1 : wb.cell? ⟨gn, 1, none⟩ = some (.string (bs j.text)) := by rw [← hwb, ← hgn]; simp
  have n2 : wb.cell? ⟨gn, 2, none⟩ = some (.int .i64 j.at') := by rw [← hwb, ← hgn]; simp
  have HW3 : Hid (w3.alloc (.cells #[.int .i64 j.kind, .string (bs j.text), .int .i64 j.at'] 188) = wb ∧ w3.heap.size = gn) := ⟨hwb, hgn⟩
  have HCN : Hid (∀ W : World, Calls Tryz.prog 129 #[.agg #[.int .i64 j.kind, .string (bs j.text), .int .i64 j.at'], .bool false] W fun e w' => e = flt j.at' ∧ Below W.heap.size W w') := fun W => check_no j W
  have HCY : Hid (∀ W : World, Calls Tryz.prog 129 #[.agg #[.int .i64 j.kind, .string (bs j.text), .int .i64 j.at'], .bool true] W fun e w' => e = .returned (.tuple #[]) ∧ Below W.heap.size W w') := fun W => check_ok j W
  have HCm : Hid (∀ W : World, Calls Tryz.prog 55 #[.string (bs j.text)] W fun e w' => e = .returned (.bool (okC j.text)) ∧ w' = W) := fun W => component_any j.text W (by have := hj0.len; omega)
  have HHn : Hid (Calls Tryz.prog 130 #[.slice va nl vc, .string (bs j.text)] wb.drew fun e w' => e = .returned (.bool (hasN l j.text)) ∧ Below wb.heap.size wb w') := by
    have h1 := HV.out.only Qb.out.2 (fun b hb hm => by have := (HV.out.lt hb).1; simp only [List.mem_singleton] at hm; omega)
    have := hasName_any (h1.later (bd1 _)).rs j.text (by rw [HNL.out.1]; omega)
    rw [HNM.out] at this
    exact this.mono fun e w' he => ⟨he.1, bstep (bd1 _) he.2⟩
  clear hq3 ho3 hj hwb hbb hgn Q2 Q3 TG2 TG3 R2
  go_wp2_with fail
  rw [HW3.out.1, HW3.out.2]
  obtain ⟨cm, hcm⟩ : ∃ cm, okC j.text = cm := ⟨_, rfl⟩
  obtain ⟨hn, hhn⟩ : ∃ hn, hasN l j.text = hn := ⟨_, rfl⟩
  rw [hcm] at R3 HCm
  rw [hhn] at R3 HHn
  clear hcm hhn
  cases cm
  · obtain rfl : ([], j.at') = R := by have := R3.out; simpa using this
    clear R3 HHn
    go_wp2_with fail
    refine wp_region_held_drew (S := fun w' => w'.cell? ⟨gn, 0, none⟩ = some (.int .i64 j.kind) ∧ w'.cell? ⟨gn, 1, none⟩ = some (.string (bs j.text)) ∧ w'.cell? ⟨gn, 2, none⟩ = some (.int .i64 j.at')) (by kernel_rfl) ⟨n0, n1, n2⟩ (fun hHeld => ?_)
    refine wpAnyH_take (i := 0) (oi := { dst := some 22, op := _, type := _, pos := _, after := _, guard := _ }) (v := ?vx1) rfl (by kernel_rfl) (by kernel_rfl) (by kernel_rfl) (fun _ _ _ h => h) (Or.inl ⟨by rfl, ?hyx1⟩) (by assumption) ?restx1
    case hyx1 => (intro w hSw; (try dsimp only at hSw); go_simp; try with_reducible rfl)
    try simp only [Act.put, List.setIfInBounds_toArray, List.set_cons_zero, List.set_cons_succ]
    refine wpAnyH_take (i := 1) (oi := { dst := some 23, op := _, type := _, pos := _, after := _, guard := _ }) (v := ?vx2) rfl (by kernel_rfl) (by kernel_rfl) (by kernel_rfl) (fun _ _ _ h => h) (Or.inl ⟨by rfl, ?hyx2⟩) (by assumption) ?restx2
    case hyx2 => (intro w hSw; (try dsimp only at hSw); go_simp; try with_reducible rfl)
    try simp only [Act.put, List.setIfInBounds_toArray, List.set_cons_zero, List.set_cons_succ]
    refine wpAnyH_take (i := 2) (oi := { dst := some 24, op := _, type := _, pos := _, after := _, guard := _ }) (v := ?vx3) rfl (by kernel_rfl) (by kernel_rfl) (by kernel_rfl) (fun _ _ _ h => h) (Or.inl ⟨by rfl, ?hyx3⟩) (by assumption) ?restx3
    case hyx3 => (intro w hSw; (try dsimp only at hSw); go_simp; try with_reducible rfl)
    try simp only [Act.put, List.setIfInBounds_toArray, List.set_cons_zero, List.set_cons_succ]
    refine wpAnyH_ready (rs := [3]) (by kernel_rfl) (by simp) ?_
    refine AllReadyH.cons (o := { dst := some 25, op := _, type := _, pos := _, after := _, guard := _ }) rfl (fun K hK => ?_) AllReadyH.nil
    go_simp
    refine (HCm.out _).mono ?_
    rintro e w7 ⟨rfl, hw7⟩
    subst hw7
    refine hK.out _ _ hHeld (fun hHeld => ?_)
    clear hK K
    try simp only [Act.put, List.setIfInBounds_toArray, List.set_cons_zero, List.set_cons_succ]
    refine wpAnyH_take (i := 4) (oi := { dst := some 26, op := _, type := _, pos := _, after := _, guard := _ }) (v := ?vx4) rfl (by kernel_rfl) (by kernel_rfl) (by kernel_rfl) (fun _ _ _ h => h) (Or.inl ⟨by rfl, ?hyx4⟩) (by assumption) ?restx4
    case hyx4 => (intro w hSw; (try dsimp only at hSw); go_simp; try with_reducible rfl)
    try simp only [Act.put, List.setIfInBounds_toArray, List.set_cons_zero, List.set_cons_succ]
    refine wpAnyH_take (i := 5) (oi := { dst := some 27, op := _, type := _, pos := _, after := _, guard := _ }) (v := undef) rfl (by kernel_rfl) (by kernel_rfl) (by kernel_rfl) (fun _ _ _ h => h) (Or.inr ⟨by rfl, rfl⟩) (by assumption) ?_
    try simp only [Act.put, List.setIfInBounds_toArray, List.set_cons_zero, List.set_cons_succ]
    refine wpAnyH_take (i := 6) (oi := { dst := some 28, op := _, type := _, pos := _, after := _, guard := _ }) (v := undef) rfl (by kernel_rfl) (by kernel_rfl) (by kernel_rfl) (fun _ _ _ h => h) (Or.inr ⟨by rfl, rfl⟩) (by assumption) ?_
    try simp only [Act.put, List.setIfInBounds_toArray, List.set_cons_zero, List.set_cons_succ]
    refine wpAnyH_take (i := 7) (oi := { dst := some 29, op := _, type := _, pos := _, after := _, guard := _ }) (v := undef) rfl (by kernel_rfl) (by kernel_rfl) (by kernel_rfl) (fun _ _ _ h => h) (Or.inr ⟨by rfl, rfl⟩) (by assumption) ?_
    try simp only [Act.put, List.setIfInBounds_toArray, List.set_cons_zero, List.set_cons_succ]
    refine wpAnyH_take (i := 8) (oi := { dst := some 30, op := _, type := _, pos := _, after := _, guard := _ }) (v := undef) rfl (by kernel_rfl) (by kernel_rfl) (by kernel_rfl) (fun _ _ _ h => h) (Or.inr ⟨by rfl, rfl⟩) (by assumption) ?_
    try simp only [Act.put, List.setIfInBounds_toArray, List.set_cons_zero, List.set_cons_succ]
    refine wpAnyH_take (i := 9) (oi := { dst := some 31, op := _, type := _, pos := _, after := _, guard := _ }) (v := undef) rfl (by kernel_rfl) (by kernel_rfl) (by kernel_rfl) (fun _ _ _ h => h) (Or.inr ⟨by rfl, rfl⟩) (by assumption) ?_
    try simp only [Act.put, List.setIfInBounds_toArray, List.set_cons_zero, List.set_cons_succ]
    refine wpAnyH_take (i := 10) (oi := { dst := some 32, op := _, type := _, pos := _, after := _, guard := _ }) (v := ?vx5) rfl (by kernel_rfl) (by kernel_rfl) (by kernel_rfl) (fun _ _ _ h => h) (Or.inl ⟨by rfl, ?hyx5⟩) (by assumption) ?restx5
    case hyx5 => (intro w hSw; (try dsimp only at hSw); go_simp; try with_reducible rfl)
    try simp only [Act.put, List.setIfInBounds_toArray, List.set_cons_zero, List.set_cons_succ]
    refine wpAnyH_ready (rs := [11]) (by kernel_rfl) (by simp) ?_
    refine AllReadyH.cons (o := { dst := some 33, op := _, type := _, pos := _, after := _, guard := _ }) rfl (fun K hK => ?_) AllReadyH.nil
    go_simp
    refine (HCN.out _).mono ?_
    rintro e w8 ⟨rfl, hb8⟩
    exact ⟨rfl, .inr ⟨_, rfl, rfl, Qb.out.2.trans (Only.of_below (bstep (bd1 _) hb8) _)⟩⟩
  cases hn
  rotate_left
  · obtain rfl : ([], j.at') = R := by have := R3.out; simpa using this
    clear R3
    go_wp2_with fail
    refine wp_region_held_drew (S := fun w' => w'.cell? ⟨gn, 0, none⟩ = some (.int .i64 j.kind) ∧ w'.cell? ⟨gn, 1, none⟩ = some (.string (bs j.text)) ∧ w'.cell? ⟨gn, 2, none⟩ = some (.int .i64 j.at')) (by kernel_rfl) ⟨n0, n1, n2⟩ (fun hHeld => ?_)
    refine wpAnyH_take (i := 0) (oi := { dst := some 22, op := _, type := _, pos := _, after := _, guard := _ }) (v := ?vx6) rfl (by kernel_rfl) (by kernel_rfl) (by kernel_rfl) (fun _ _ _ h => h) (Or.inl ⟨by rfl, ?hyx6⟩) (by assumption) ?restx6
    case hyx6 => (intro w hSw; (try dsimp only at hSw); go_simp; try with_reducible rfl)
    try simp only [Act.put, List.setIfInBounds_toArray, List.set_cons_zero, List.set_cons_succ]
    refine wpAnyH_take (i := 1) (oi := { dst := some 23, op := _, type := _, pos := _, after := _, guard := _ }) (v := ?vx7) rfl (by kernel_rfl) (by kernel_rfl) (by kernel_rfl) (fun _ _ _ h => h) (Or.inl ⟨by rfl, ?hyx7⟩) (by assumption) ?restx7
    case hyx7 => (intro w hSw; (try dsimp only at hSw); go_simp; try with_reducible rfl)
    try simp only [Act.put, List.setIfInBounds_toArray, List.set_cons_zero, List.set_cons_succ]
    refine wpAnyH_take (i := 2) (oi := { dst := some 24, op := _, type := _, pos := _, after := _, guard := _ }) (v := ?vx8) rfl (by kernel_rfl) (by kernel_rfl) (by kernel_rfl) (fun _ _ _ h => h) (Or.inl ⟨by rfl, ?hyx8⟩) (by assumption) ?restx8
    case hyx8 => (intro w hSw; (try dsimp only at hSw); go_simp; try with_reducible rfl)
    try simp only [Act.put, List.setIfInBounds_toArray, List.set_cons_zero, List.set_cons_succ]
    refine wpAnyH_ready (rs := [3]) (by kernel_rfl) (by simp) ?_
    refine AllReadyH.cons (o := { dst := some 25, op := _, type := _, pos := _, after := _, guard := _ }) rfl (fun K hK => ?_) AllReadyH.nil
    go_simp
    refine (HCm.out _).mono ?_
    rintro e w7 ⟨rfl, hw7⟩
    subst hw7
    refine hK.out _ _ hHeld (fun hHeld => ?_)
    clear hK K
    try simp only [Act.put, List.setIfInBounds_toArray, List.set_cons_zero, List.set_cons_succ]
    refine wpAnyH_take (i := 4) (oi := { dst := some 26, op := _, type := _, pos := _, after := _, guard := _ }) (v := ?vx9) rfl (by kernel_rfl) (by kernel_rfl) (by kernel_rfl) (fun _ _ _ h => h) (Or.inl ⟨by rfl, ?hyx9⟩) (by assumption) ?restx9
    case hyx9 => (intro w hSw; (try dsimp only at hSw); go_simp; try with_reducible rfl)
    try simp only [Act.put, List.setIfInBounds_toArray, List.set_cons_zero, List.set_cons_succ]
    refine wpAnyH_take (i := 5) (oi := { dst := some 27, op := _, type := _, pos := _, after := _, guard := _ }) (v := ?vx10) rfl (by kernel_rfl) (by kernel_rfl) (by kernel_rfl) (fun _ _ _ h => h) (Or.inl ⟨by rfl, ?hyx10⟩) (by assumption) ?restx10
    case hyx10 => (intro w hSw; (try dsimp only at hSw); go_simp; try with_reducible rfl)
    try simp only [Act.put, List.setIfInBounds_toArray, List.set_cons_zero, List.set_cons_succ]
    refine wpAnyH_take (i := 6) (oi := { dst := some 28, op := _, type := _, pos := _, after := _, guard := _ }) (v := ?vx11) rfl (by kernel_rfl) (by kernel_rfl) (by kernel_rfl) (fun _ _ _ h => h) (Or.inl ⟨by rfl, ?hyx11⟩) (by assumption) ?restx11
    case hyx11 => (intro w hSw; (try dsimp only at hSw); go_simp; try with_reducible rfl)
    try simp only [Act.put, List.setIfInBounds_toArray, List.set_cons_zero, List.set_cons_succ]
    refine wpAnyH_take (i := 7) (oi := { dst := some 29, op := _, type := _, pos := _, after := _, guard := _ }) (v := ?vx12) rfl (by kernel_rfl) (by kernel_rfl) (by kernel_rfl) (fun _ _ _ h => h) (Or.inl ⟨by rfl, ?hyx12⟩) (by assumption) ?restx12
    case hyx12 => (intro w hSw; (try dsimp only at hSw); go_simp; try with_reducible rfl)
    try simp only [Act.put, List.setIfInBounds_toArray, List.set_cons_zero, List.set_cons_succ]
    refine wpAnyH_ready (rs := [8]) (by kernel_rfl) (by simp) ?_
    refine AllReadyH.cons (o := { dst := some 30, op := _, type := _, pos := _, after := _, guard := _ }) rfl (fun K hK => ?_) AllReadyH.nil
    go_simp
    refine HHn.out.mono ?_
    rintro e w7 ⟨rfl, hb7⟩
    have B7 : Hid (Below wb.heap.size wb w7) := hb7
    have KS := cells3 hb7 (by omega) n0 n1 n2
    clear hb7
    refine hK.out _ _ KS (fun hHeld => ?_)
    clear hK K
    try simp only [Act.put, List.setIfInBounds_toArray, List.set_cons_zero, List.set_cons_succ]
    refine wpAnyH_take (i := 9) (oi := { dst := some 31, op := _, type := _, pos := _, after := _, guard := _ }) (v := ?vx13) rfl (by kernel_rfl) (by kernel_rfl) (by kernel_rfl) (fun _ _ _ h => h) (Or.inl ⟨by rfl, ?hyx13⟩) (by assumption) ?restx13
    case hyx13 => (intro w hSw; (try dsimp only at hSw); go_simp; try with_reducible rfl)
    try simp only [Act.put, List.setIfInBounds_toArray, List.set_cons_zero, List.set_cons_succ]
    refine wpAnyH_take (i := 10) (oi := { dst := some 32, op := _, type := _, pos := _, after := _, guard := _ }) (v := ?vx14) rfl (by kernel_rfl) (by kernel_rfl) (by kernel_rfl) (fun _ _ _ h => h) (Or.inl ⟨by rfl, ?hyx14⟩) (by assumption) ?restx14
    case hyx14 => (intro w hSw; (try dsimp only at hSw); go_simp; try with_reducible rfl)
    try simp only [Act.put, List.setIfInBounds_toArray, List.set_cons_zero, List.set_cons_succ]
    refine wpAnyH_ready (rs := [11]) (by kernel_rfl) (by simp) ?_
    refine AllReadyH.cons (o := { dst := some 33, op := _, type := _, pos := _, after := _, guard := _ }) rfl (fun K hK => ?_) AllReadyH.nil
    go_simp
    refine (HCN.out _).mono ?_
    rintro e w8 ⟨rfl, hb8⟩
    exact ⟨rfl, .inr ⟨_, rfl, rfl, Qb.out.2.trans (Only.of_below (bstep B7.out hb8) _)⟩⟩
  have R4 : Hid (go p E S (.op l j.text) r3 = R) := by
    show go _ _ _ _ _ = R
    have := R3.out; simpa using this
  clear R3
  go_wp2_with fail
  refine wp_region_held_drew (S := fun w' => w'.cell? ⟨gn, 0, none⟩ = some (.int .i64 j.kind) ∧ w'.cell? ⟨gn, 1, none⟩ = some (.string (bs j.text)) ∧ w'.cell? ⟨gn, 2, none⟩ = some (.int .i64 j.at')) (by kernel_rfl) ⟨n0, n1, n2⟩ (fun hHeld => ?_)
  refine wpAnyH_take (i := 0) (oi := { dst := some 22, op := _, type := _, pos := _, after := _, guard := _ }) (v := ?vx15) rfl (by kernel_rfl) (by kernel_rfl) (by kernel_rfl) (fun _ _ _ h => h) (Or.inl ⟨by rfl, ?hyx15⟩) (by assumption) ?restx15
  case hyx15 => (intro w hSw; (try dsimp only at hSw); go_simp; try with_reducible rfl)
  try simp only [Act.put, List.setIfInBounds_toArray, List.set_cons_zero, List.set_cons_succ]
  refine wpAnyH_take (i := 1) (oi := { dst := some 23, op := _, type := _, pos := _, after := _, guard := _ }) (v := ?vx16) rfl (by kernel_rfl) (by kernel_rfl) (by kernel_rfl) (fun _ _ _ h => h) (Or.inl ⟨by rfl, ?hyx16⟩) (by assumption) ?restx16
  case hyx16 => (intro w hSw; (try dsimp only at hSw); go_simp; try with_reducible rfl)
  try simp only [Act.put, List.setIfInBounds_toArray, List.set_cons_zero, List.set_cons_succ]
  refine wpAnyH_take (i := 2) (oi := { dst := some 24, op := _, type := _, pos := _, after := _, guard := _ }) (v := ?vx17) rfl (by kernel_rfl) (by kernel_rfl) (by kernel_rfl) (fun _ _ _ h => h) (Or.inl ⟨by rfl, ?hyx17⟩) (by assumption) ?restx17
  case hyx17 => (intro w hSw; (try dsimp only at hSw); go_simp; try with_reducible rfl)
  try simp only [Act.put, List.setIfInBounds_toArray, List.set_cons_zero, List.set_cons_succ]
  refine wpAnyH_ready (rs := [3]) (by kernel_rfl) (by simp) ?_
  refine AllReadyH.cons (o := { dst := some 25, op := _, type := _, pos := _, after := _, guard := _ }) rfl (fun K hK => ?_) AllReadyH.nil
  go_simp
  refine (HCm.out _).mono ?_
  rintro e w7 ⟨rfl, hw7⟩
  subst hw7
  refine hK.out _ _ hHeld (fun hHeld => ?_)
  clear hK K
  try simp only [Act.put, List.setIfInBounds_toArray, List.set_cons_zero, List.set_cons_succ]
  refine wpAnyH_take (i := 4) (oi := { dst := some 26, op := _, type := _, pos := _, after := _, guard := _ }) (v := ?vx18) rfl (by kernel_rfl) (by kernel_rfl) (by kernel_rfl) (fun _ _ _ h => h) (Or.inl ⟨by rfl, ?hyx18⟩) (by assumption) ?restx18
  case hyx18 => (intro w hSw; (try dsimp only at hSw); go_simp; try with_reducible rfl)
  try simp only [Act.put, List.setIfInBounds_toArray, List.set_cons_zero, List.set_cons_succ]
  refine wpAnyH_take (i := 5) (oi := { dst := some 27, op := _, type := _, pos := _, after := _, guard := _ }) (v := ?vx19) rfl (by kernel_rfl) (by kernel_rfl) (by kernel_rfl) (fun _ _ _ h => h) (Or.inl ⟨by rfl, ?hyx19⟩) (by assumption) ?restx19
  case hyx19 => (intro w hSw; (try dsimp only at hSw); go_simp; try with_reducible rfl)
  try simp only [Act.put, List.setIfInBounds_toArray, List.set_cons_zero, List.set_cons_succ]
  refine wpAnyH_take (i := 6) (oi := { dst := some 28, op := _, type := _, pos := _, after := _, guard := _ }) (v := ?vx20) rfl (by kernel_rfl) (by kernel_rfl) (by kernel_rfl) (fun _ _ _ h => h) (Or.inl ⟨by rfl, ?hyx20⟩) (by assumption) ?restx20
  case hyx20 => (intro w hSw; (try dsimp only at hSw); go_simp; try with_reducible rfl)
  try simp only [Act.put, List.setIfInBounds_toArray, List.set_cons_zero, List.set_cons_succ]
  refine wpAnyH_take (i := 7) (oi := { dst := some 29, op := _, type := _, pos := _, after := _, guard := _ }) (v := ?vx21) rfl (by kernel_rfl) (by kernel_rfl) (by kernel_rfl) (fun _ _ _ h => h) (Or.inl ⟨by rfl, ?hyx21⟩) (by assumption) ?restx21
  case hyx21 => (intro w hSw; (try dsimp only at hSw); go_simp; try with_reducible rfl)
  try simp only [Act.put, List.setIfInBounds_toArray, List.set_cons_zero, List.set_cons_succ]
  refine wpAnyH_ready (rs := [8]) (by kernel_rfl) (by simp) ?_
  refine AllReadyH.cons (o := { dst := some 30, op := _, type := _, pos := _, after := _, guard := _ }) rfl (fun K hK => ?_) AllReadyH.nil
  go_simp
  refine HHn.out.mono ?_
  rintro e w7 ⟨rfl, hb7⟩
  have B7 : Hid (Below wb.heap.size wb w7) := hb7
  have KS := cells3 hb7 (by omega) n0 n1 n2
  clear hb7
  refine hK.out _ _ KS (fun hHeld => ?_)
  clear hK K
  try simp only [Act.put, List.setIfInBounds_toArray, List.set_cons_zero, List.set_cons_succ]
  refine wpAnyH_take (i := 9) (oi := { dst := some 31, op := _, type := _, pos := _, after := _, guard := _ }) (v := ?vx22) rfl (by kernel_rfl) (by kernel_rfl) (by kernel_rfl) (fun _ _ _ h => h) (Or.inl ⟨by rfl, ?hyx22⟩) (by assumption) ?restx22
  case hyx22 => (intro w hSw; (try dsimp only at hSw); go_simp; try with_reducible rfl)
  try simp only [Act.put, List.setIfInBounds_toArray, List.set_cons_zero, List.set_cons_succ]
  refine wpAnyH_take (i := 10) (oi := { dst := some 32, op := _, type := _, pos := _, after := _, guard := _ }) (v := ?vx23) rfl (by kernel_rfl) (by kernel_rfl) (by kernel_rfl) (fun _ _ _ h => h) (Or.inl ⟨by rfl, ?hyx23⟩) (by assumption) ?restx23
  case hyx23 => (intro w hSw; (try dsimp only at hSw); go_simp; try with_reducible rfl)
  try simp only [Act.put, List.setIfInBounds_toArray, List.set_cons_zero, List.set_cons_succ]
  refine wpAnyH_ready (rs := [11]) (by kernel_rfl) (by simp) ?_
  refine AllReadyH.cons (o := { dst := some 33, op := _, type := _, pos := _, after := _, guard := _ }) rfl (fun K hK => ?_) AllReadyH.nil
  go_simp
  refine (HCY.out _).mono ?_
  rintro e w8 ⟨rfl, hb8⟩
  have hb8' : Below wb.heap.size wb w8 := bstep B7.out hb8
  have Q8 : Hid (RQ w8 g p E r3 ∧ Only [g] w w8) := ⟨Qb.out.1.later hb8', Qb.out.2.trans (Only.of_below hb8' _)⟩
  have TG8 : Hid (TB w8 G zv) := TGb.out.later hb8'
  have hs8 : wb.heap.size ≤ w8.heap.size := hb8'.size
  have KS8 := cells3 hb8' (by omega) n0 n1 n2
  clear hb8 hb8' n0 n1 n2
  refine hK.out _ _ KS8 (fun hHeld => ?_)
  clear hK K
  try simp only [Act.put, List.setIfInBounds_toArray, List.set_cons_zero, List.set_cons_succ]
  obtain ⟨n0, n1, n2⟩ := KS8
  clear hHeld
  refine wpAnyH_done (by kernel_rfl) ?_ _
  go_wp2_with fail
  refine (take_any (q := 2) Q8.out.1 (by omega)).mono ?_
  rintro e w9 (⟨i, r9, rfl, hi, rfl, hq9, ho9⟩ | ⟨z, rfl, hb, hbad⟩)
  rotate_left
  · exact ⟨rfl, .inr ⟨z, rfl, by rw [← R4.out]; exact go_bad (fun k hk => by simp [stp, hk]) rfl hbad, Q8.out.2.trans (Only.of_below hb _)⟩⟩
  have R5 : Hid (go p E S (.fl l ⟨j.text, [], [], []⟩ []) r9 = R) := by
    have := R4.out
    simp only [go, stp, if_pos hi] at this; exact this
  have Q9 : Hid (RQ w9 g p E r9 ∧ Only [g] w w9) := ⟨hq9, Q8.out.2.trans ho9⟩
  have TG9 : Hid (TB w9 G zv) := TG8.out.only ho9 (by simp; omega)
  have hs9 : w8.heap.size ≤ w9.heap.size := ho9.size
  have hgn8 : gn < w8.heap.size := by omega
  have hgng : gn ∉ [g] := by simp; omega
  replace n0 := (only_cell (p := ⟨gn, 0, none⟩) ho9 hgn8 hgng).trans n0
  replace n1 := (only_cell (p := ⟨gn, 1, none⟩) ho9 hgn8 hgng).trans n1
  simp only [List.length_cons] at hL
  unfold Tk.val
  obtain ⟨gT, hgT⟩ : ∃ gT, w9.heap.size = gT := ⟨_, rfl⟩
  obtain ⟨wc, hwc⟩ : ∃ wc, w9.alloc (.cells #[.string (bs j.text), .slice none 0 0, .slice none 0 0, .slice none 0 0] 66) = wc := ⟨_, rfl⟩
  have hbc : Below w9.heap.size w9 wc := by rw [← hwc]; exact balloc _ _
  have hsc : gT + 1 = wc.heap.size := by rw [← hwc, ← hgT]; simp
  have hgTs : w9.heap.size ≤ gT := by omega
  have Qc : Hid (RQ wc g p E r9 ∧ Only [g] w wc) := ⟨Q9.out.1.later hbc, Q9.out.2.trans (Only.of_below hbc _)⟩
  have TGc : Hid (TB wc G zv) := TG9.out.later hbc
  have TBc : Hid (TB wc gT ⟨j.text, none, 0, 0, none, 0, 0, none, 0, 0⟩) := by
    show TB wc gT ⟨j.text, none, 0, 0, none, 0, 0, none, 0, 0⟩
    rw [← hwc, ← hgT]; exact TB.new w9 ⟨j.text, none, 0, 0, none, 0, 0, none, 0, 0⟩
  have HWc : Hid (w9.alloc (.cells #[.string (bs j.text), .slice none 0 0, .slice none 0 0, .slice none 0 0] 66) = wc ∧ w9.heap.size = gT) := ⟨hwc, hgT⟩
  have HFl : Hid (Calls Tryz.prog 131 #[.pointer (some ⟨g, 0, none⟩), .pointer (some ⟨gT, 0, none⟩)] wc (LsF wc g gT p E S r9 l R)) :=
    fields_any Qc.out.1 TBc.out (fun q hq => HT.out q (by simp [hq])) (by omega) R5.out (HE.out.only Qc.out.2 (by simpa using hg)) hg (by omega) hp
  have b1 : (⟨#[]⟩ : ByteArray) = bs [] := rfl
  clear hq9 ho9 hi hwc hbc hgT Q8 Q9 TG8 TG9 R4 R5 hgng hgn8
  go_wp2_with fail
  rw [HWc.out.1, HWc.out.2]
  refine HFl.out.mono ?_
  rintro e wd (⟨tv, t, L', rfl, hTB, hTO, hqd, hmd, hld, hRd, hod⟩ | ⟨z, rfl, hz, hod⟩)
  rotate_left
  · exact ⟨rfl, .inr ⟨z, rfl, hz, only_new ((Qc.out.2.mono (by simp)).trans hod) (by have := HGG.out; omega)⟩⟩
  have hGm : G ∉ [g, gT] := by simp; omega
  have TGd : Hid (TB wd G zv) := TGc.out.only hod hGm
  have Od : Hid (Only [g] w wd) := only_new ((Qc.out.2.mono (by simp)).trans hod) (by have := HGG.out; omega)
  have Qd : Hid (RQ wd g p E L' ∧ TOwn wc.heap.size wd tv t ∧ (∀ k ∈ L', k ∈ r9) ∧ go p E S (.top (l ++ [t])) L' = R) := ⟨hqd, hTO, hmd, hRd⟩
  obtain ⟨c0, c1, c2, c3, _, _, _⟩ := hTB.cells
  obtain ⟨z0, z1, z2, z3, f1, f2, f3⟩ := TGd.out.cells
  have f0 := TGd.out.cells2
  have hGT : gT ≠ G := by omega
  have hsd : wc.heap.size ≤ wd.heap.size := hod.size
  clear hTB hTO hqd hmd hRd hod hGm HFl
  simp only [zv] at z0 z1 z2 z3
  go_wp2_with fail
  have hbe := bset4 (Below.refl G wd) (Nat.le_refl G) (.string (bs tv.name)) (.slice tv.sa tv.sn tv.sc) (.slice tv.da tv.dn tv.dc) (.slice tv.ea tv.en tv.ec)
  refine bodyPost_ret (results_cell_row rfl _ _ G 66 #[.string (bs tv.name), .slice tv.sa tv.sn tv.sc, .slice tv.da tv.dn tv.dc, .slice tv.ea tv.en tv.ec] (0, 0) _ rfl (TGd.out.set tv).blk Tryz.underlying66 rfl (by kernel_rfl)) rfl ?_
  have hGw : w.heap.size = G := HGG.out
  have hoe : Only [G] wd ((((wd.setCell ⟨G, 0, none⟩ (.string (bs tv.name))).setCell ⟨G, 1, none⟩ (.slice tv.sa tv.sn tv.sc)).setCell ⟨G, 2, none⟩ (.slice tv.da tv.dn tv.dc)).setCell ⟨G, 3, none⟩ (.slice tv.ea tv.en tv.ec)) :=
    (((Only.set _ _ _ _).trans (Only.set _ _ _ _)).trans (Only.set _ _ _ _)).trans (Only.set _ _ _ _)
  refine .inl ⟨tv, t, L', rfl, ?_, Qd.out.1.below hbe hgG2, fun q hq => ?_, ?_, Qd.out.2.2.2, by have := HNL.out.2; omega, only_below Od.out hbe (by omega)⟩
  · refine (Qd.out.2.1.mono (by omega)).only hoe fun u hu q hq hm => ?_
    have := (Qd.out.2.1.lt u hu q hq).1
    simp only [List.mem_singleton] at hm; omega
  · have := Qd.out.2.2.1 q hq
    simp [this]
  · simp only [List.length_cons]; omega
end Go.Proofs.YtddaoloabfkheaaGreatDoor
