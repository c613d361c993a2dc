/-
  GlobFresh.
-/
import Derived.Test.YtebidnepanogcaaDoorMk
namespace Go.Proofs.YtebidnepanogcaaDoor
open Go.RowKit

/-- a list whose first k files are marked -/
def mrk (c : UInt8) (k : Nat) (l : List Fl) : List Fl := List.replicate k (mkP c) ++ l.drop k
theorem mrk_zero (c : UInt8) (l : List Fl) : mrk c 0 l = l := by simp [mrk]
theorem mrk_len (c : UInt8) (k : Nat) (l : List Fl) (h : k ≤ l.length) : (mrk c k l).length = l.length := by simp [mrk]; omega
theorem mrk_set (c : UInt8) (k : Nat) (l : List Fl) (h : k < l.length) : (mrk c k l).set k (mkP c) = mrk c (k + 1) l := by
  unfold mrk
  rw [List.drop_eq_getElem_cons h, List.set_append_right _ _ (by simp)]
  simp only [List.length_replicate, Nat.sub_self, List.set_cons_zero]
  rw [List.replicate_succ', List.append_assoc]; rfl
theorem mrk_all (c : UInt8) (l : List Fl) : mrk c l.length l = List.replicate l.length (mkP c) := by simp [mrk]
theorem rep_snoc (n : Nat) (f : Fl) : List.replicate n f ++ [f] = List.replicate (n + 1) f := by rw [List.replicate_succ']
theorem only_step {S T : List Nat} {a b c : World} (h : Only S a b) (k : Only T b c) (hk : ∀ j ∈ T, j ∈ S ∨ a.heap.size ≤ j) : Only S a c :=
  ⟨k.os.trans h.os, k.tape.trans h.tape, k.output.trans h.output, Nat.le_trans h.size k.size, fun j hj hn => by
    rw [k.block j (Nat.lt_of_lt_of_le hj h.size) (fun hm => (hk j hm).elim hn (fun h1 => by omega))]
    exact h.block j hj hn⟩
theorem bl_lt {B : Nat} {w : World} {v : Value} {l : List Fl} (h : OwnF B w v l) {k : Nat} (hk : k ∈ bl v) : B ≤ k ∧ k < w.heap.size := h.lt (mem_bl.1 hk)

set_option maxRecDepth 100000 in
set_option maxHeartbeats 16000000 in
theorem fresh_law {w : World} {v : Value} {l : List Fl} (E : Ev w) (p : List UInt8) (h : FS w v l) (sm : FQ l) (hl : l.length ≤ 1048576) (hp : p.length ≤ 4000000) :
    Calls Tryd.prog 6 #[v, .string (bs p)] w fun e w' => e = .returned (.bool true) ∧ Below w.heap.size w w' := by
  have H : Hid (FS w v l) := h
  have HAl : Hid (∀ W : World, Below w.heap.size w W → Calls Tryd.prog 8 #[] W fun e w' => e = .returned (.bool true) ∧ Below W.heap.size W w') := fun W hW => alive_any (E.later hW)
  have HX : Hid (∀ (W : World), Below w.heap.size w W → Calls Tryd.prog 7 #[v, .string (bs p), .string (bs [42])] W fun e w' => ∃ r, e = .returned (.tuple #[r, .bool (exl l (whl p [42])).2]) ∧ OwnF W.heap.size w' r (exl l (whl p [42])).1 ∧ Below W.heap.size W w') := fun W hW => expand_any p [42] (h.later hW) sm (E.later hW) (by omega) (by simp)
  have HRX : Hid (∀ (W : World), Below w.heap.size w W → Calls Tryd.prog 19 #[v, .string (bs p), .string (bs [42])] W fun e w' => ∃ r, e = .returned (.tuple #[r, .bool (exl l (whl p [42])).2]) ∧ OwnF W.heap.size w' r (exl l (whl p [42])).1 ∧ Below W.heap.size W w') := fun W hW => rexpand_any p [42] (h.later hW) sm (by omega) (by simp)
  have HLt : Hid (∀ (W : World), Below w.heap.size w W → Calls Tryd.prog 18 #[v] W fun e w' => ∃ u, e = .returned u ∧ OwnF W.heap.size w' u (lentF l) ∧ Below W.heap.size W w') := fun W hW => (lentF_any (h.later hW) (by omega)).mono (by
    rintro e w' ⟨g, c, rfl, _, ho, hb⟩
    exact ⟨_, rfl, ho, hb⟩)
  have hXl := exl_len l (whl p [42])
  have HFl : Hid (∀ (W : World) (u1 u2 : Value), FS W u1 (exl l (whl p [42])).1 → FS W u2 (exl l (whl p [42])).1 → Calls Tryd.prog 20 #[u1, u2] W fun e w' => e = .returned (.bool true) ∧ Below W.heap.size W w') := fun W u1 u2 h1 h2 => by
    have := files_any h1 h2 (by omega)
    rw [(leq_iff _ _).2 rfl] at this; exact this
  have HFm : Hid (∀ (W : World) (u1 u2 : Value), FS W u1 (lentF l) → FS W u2 (lentF l) → Calls Tryd.prog 20 #[u1, u2] W fun e w' => e = .returned (.bool true) ∧ Below W.heap.size W w') := fun W u1 u2 h1 h2 => by
    have := files_any h1 h2 (by rw [lentF_len]; omega)
    rw [(leq_iff _ _).2 rfl] at this; exact this
  generalize (exl l (whl p [42])).2 = ok at *
  generalize (exl l (whl p [42])).1 = X at *
  have q0 : (ok != ok) = false := by cases ok <;> rfl
  obtain ⟨N, hN⟩ : ∃ N, X.length = N := ⟨_, rfl⟩
  have HN : Hid (X.length = N) := hN
  have hNl : N ≤ 1048576 := by omega
  clear h sm hXl hp hN
  go_enter Tryd.func6, Tryd.ntmps6
  go_wp2_with fail
  refine (HX.out _ (Below.refl _ _)).mono ?_
  rintro e w1 ⟨ra, rfl, hra, hb1⟩
  have HA1 : Hid (OwnF w.heap.size w1 ra X) := hra
  have HB1 : Hid (Below w.heap.size w w1) := hb1
  have Z1 : Hid (w.heap.size ≤ w1.heap.size) := hb1.size
  clear hra hb1
  go_wp2_with fail
  refine (HX.out _ HB1.out).mono ?_
  rintro e w2 ⟨rb, rfl, hrb, hb2⟩
  have HA2 : Hid (OwnF w.heap.size w2 ra X) := HA1.out.later hb2
  have HR2 : Hid (OwnF w1.heap.size w2 rb X) := hrb
  have HB2 : Hid (Below w.heap.size w w2) := bstep HB1.out hb2
  have Z2 : Hid (w1.heap.size ≤ w2.heap.size) := hb2.size
  clear hrb hb2
  go_wp2_with fail
  refine (HRX.out _ HB2.out).mono ?_
  rintro e w3 ⟨rc, rfl, hrc, hb3⟩
  have HA3 : Hid (OwnF w.heap.size w3 ra X) := HA2.out.later hb3
  have HR3 : Hid (OwnF w1.heap.size w3 rb X) := HR2.out.later hb3
  have HC3 : Hid (OwnF w2.heap.size w3 rc X) := hrc
  have HB3 : Hid (Below w.heap.size w w3) := bstep HB2.out hb3
  have Z3 : Hid (w2.heap.size ≤ w3.heap.size) := hb3.size
  clear hrc hb3
  go_wp2_with fail
  refine (HLt.out _ HB3.out).mono ?_
  rintro e w4 ⟨rw4, rfl, hrw, hb4⟩
  have HA4 : Hid (OwnF w.heap.size w4 ra X) := HA3.out.later hb4
  have HR4 : Hid (OwnF w1.heap.size w4 rb X) := HR3.out.later hb4
  have HC4 : Hid (OwnF w2.heap.size w4 rc X) := HC3.out.later hb4
  have HW4 : Hid (OwnF w3.heap.size w4 rw4 (lentF l)) := hrw
  have HB4 : Hid (Below w.heap.size w w4) := bstep HB3.out hb4
  have Z4 : Hid (w3.heap.size ≤ w4.heap.size) := hb4.size
  clear hrw hb4
  have K1 : Hid (∀ j, ra.ownBlock = some j → w.heap.size ≤ j ∧ j < w1.heap.size) := fun j hj => HA1.out.lt hj
  have K2 : Hid (∀ j, rb.ownBlock = some j → w1.heap.size ≤ j ∧ j < w2.heap.size) := fun j hj => HR2.out.lt hj
  have K3 : Hid (∀ j, rc.ownBlock = some j → w2.heap.size ≤ j) := fun j hj => (HC3.out.lt hj).1
  have K4 : Hid (∀ j, rw4.ownBlock = some j → w2.heap.size ≤ j) := fun j hj => by
    have h1 := (HW4.out.lt hj).1
    have := Z3.out
    omega
  go_wp2_with fail
  refine (HAl.out _ HB4.out).mono ?_
  rintro e w5 ⟨rfl, hb5⟩
  have HA5 : Hid (OwnF w.heap.size w5 ra X) := HA4.out.later hb5
  have HR5 : Hid (OwnF w1.heap.size w5 rb X) := HR4.out.later hb5
  have HC5 : Hid (OwnF w2.heap.size w5 rc X) := HC4.out.later hb5
  have HW5 : Hid (OwnF w3.heap.size w5 rw4 (lentF l)) := HW4.out.later hb5
  have HB5 : Hid (Below w.heap.size w w5) := bstep HB4.out hb5
  have Z5 : Hid (w4.heap.size ≤ w5.heap.size) := hb5.size
  clear hb5
  go_wp2_with fail
  refine (HFl.out _ _ _ HA5.out.fs HC5.out.fs).mono ?_
  rintro e w6 ⟨rfl, hb6⟩
  have HA6 : Hid (OwnF w.heap.size w6 ra X) := HA5.out.later hb6
  have HR6 : Hid (OwnF w1.heap.size w6 rb X) := HR5.out.later hb6
  have HC6 : Hid (OwnF w2.heap.size w6 rc X) := HC5.out.later hb6
  have HW6 : Hid (OwnF w3.heap.size w6 rw4 (lentF l)) := HW5.out.later hb6
  have HB6 : Hid (Below w.heap.size w w6) := bstep HB5.out hb6
  have Z6 : Hid (w5.heap.size ≤ w6.heap.size) := hb6.size
  clear hb6
  go_wp2_with fail
  refine (HFl.out _ _ _ HR6.out.fs HC6.out.fs).mono ?_
  rintro e w7 ⟨rfl, hb7⟩
  have HA7 : Hid (OwnF w.heap.size w7 ra X) := HA6.out.later hb7
  have HR7 : Hid (OwnF w1.heap.size w7 rb X) := HR6.out.later hb7
  have HC7 : Hid (FS w7 rc X) := (HC6.out.later hb7).fs
  have HW7 : Hid (FS w7 rw4 (lentF l)) := (HW6.out.later hb7).fs
  have HB7 : Hid (Below w.heap.size w w7) := bstep HB6.out hb7
  have Z7 : Hid (w6.heap.size ≤ w7.heap.size) := hb7.size
  have HZ7 : Hid (w2.heap.size ≤ w7.heap.size ∧ w1.heap.size ≤ w2.heap.size ∧ w.heap.size ≤ w1.heap.size) := ⟨by have := Z3.out; have := Z4.out; have := Z5.out; have := Z6.out; have := Z7.out; omega, Z2.out, Z1.out⟩
  clear hb7 Z1 Z2 Z3 Z4 Z5 Z6 Z7 HA1 HA2 HA3 HA4 HA5 HA6 HR2 HR3 HR4 HR5 HR6 HC3 HC4 HC5 HC6 HW4 HW5 HW6 HB1 HB2 HB3 HB4 HB5 HB6
  obtain ⟨aa, ca, hfa⟩ := HA7.out.form
  obtain ⟨ab, cb, hfb⟩ := HR7.out.form
  rw [HN.out] at hfa hfb
  subst hfa hfb
  go_wp2_with fail
  go_loopw [12] (fun i wr => ∃ k : Nat, k ≤ N ∧ i = .int .i64 k ∧ OwnF w.heap.size wr (.slice aa N ca) (mrk 49 k X) ∧ Only (bl (.slice aa N ca)) w7 wr) (fun i _ => N - (intOf i).toNat)
  case atStart => exact ⟨0, by omega, rfl, by rw [mrk_zero]; exact HA7.out, Only.refl _ _⟩
  case round =>
    obtain ⟨k, hk, rfl, ho, hon⟩ := hrel
    have HO : Hid (OwnF w.heap.size wr (.slice aa N ca) (mrk 49 k X)) := ho
    have HOn : Hid (Only (bl (.slice aa N ca)) w7 wr) := hon
    clear ho hon
    by_cases hlt : k < N
    · have hml : (mrk 49 k X).length = N := by rw [mrk_len _ _ _ (by have := HN.out; omega), HN.out]
      rcases HO.out.form' with ⟨_, h0⟩ | ⟨g, c', e, _, _, _⟩
      · rw [h0] at hml; simp at hml; omega
      have eg : aa = some ⟨g, 0, none⟩ := by injection e
      subst eg
      clear e
      obtain ⟨⟨c0, c1, c2, c3⟩, ⟨f0, f1, f2, f3⟩, _, hgl⟩ := own_cellF HO.out k (by omega)
      have HS : Hid (OwnF w.heap.size ((((wr.setCell ⟨g, k * 4, none⟩ (.string (bs [49]))).setCell ⟨g, k * 4 + 1, none⟩ (.string (bs []))).setCell ⟨g, k * 4 + 2, none⟩ (.int .i64 0)).setCell ⟨g, k * 4 + 3, none⟩ (.int .i64 0)) (.slice (some ⟨g, 0, none⟩) N ca) ((mrk 49 k X).set k (mkP 49))) := own_setF HO.out k (mkP 49)
      have k1 : (0 : Int) ≤ (k : Int) := by omega
      have k2 : (k : Int) < (N : Int) := by omega
      go_wp2_with fail
      go_roundw
      case rel =>
        refine ⟨k + 1, by omega, by go_num, by rw [← mrk_set _ _ _ (by have := HN.out; omega)]; exact HS.out, ?_⟩
        exact HOn.out.trans ((((Only.set _ _ _ _).trans (Only.set _ _ _ _)).trans (Only.set _ _ _ _)).trans (Only.set _ _ _ _))
      case measure => simp [intOf]; omega
    · obtain rfl : k = N := by omega
      have HA8 : Hid (OwnF w.heap.size wr (.slice aa k ca) (List.replicate k (mkP 49))) := by
        have := HO.out
        rw [← HN.out, mrk_all, HN.out] at this; exact this
      have HR8 : Hid (OwnF w1.heap.size wr (.slice ab k cb) X) := HR7.out.only HOn.out (fun j hj hm => by
        have h1 := K1.out j (mem_bl.1 hm)
        have h2 := K2.out j hj
        omega)
      clear HO
      obtain ⟨wA, rfl⟩ : ∃ x, x = wr := ⟨_, rfl⟩
      go_wp2_with fail
      go_loopw [13] (fun i wr => ∃ m : Nat, m ≤ k ∧ i = .int .i64 m ∧ OwnF w.heap.size wr (.slice aa k ca) (List.replicate k (mkP 49)) ∧ OwnF w1.heap.size wr (.slice ab k cb) (mrk 50 m X) ∧ Only (bl (.slice aa k ca) ++ bl (.slice ab k cb)) w7 wr) (fun i _ => k - (intOf i).toNat)
      case atStart => exact ⟨0, by omega, rfl, HA8.out, by rw [mrk_zero]; exact HR8.out, HOn.out.mono (fun j hj => List.mem_append_left _ hj)⟩
      case round =>
        obtain ⟨m, hm, rfl, hoa, hob, hon⟩ := hrel
        have HOa : Hid (OwnF w.heap.size wr (.slice aa k ca) (List.replicate k (mkP 49))) := hoa
        have HOb : Hid (OwnF w1.heap.size wr (.slice ab k cb) (mrk 50 m X)) := hob
        have HO2 : Hid (Only (bl (.slice aa k ca) ++ bl (.slice ab k cb)) w7 wr) := hon
        clear hoa hob hon
        by_cases hlt : m < k
        · have hml : (mrk 50 m X).length = k := by rw [mrk_len _ _ _ (by have := HN.out; omega), HN.out]
          rcases HOb.out.form' with ⟨_, h0⟩ | ⟨g, c', e, _, _, _⟩
          · rw [h0] at hml; simp at hml; omega
          have eg : ab = some ⟨g, 0, none⟩ := by injection e
          subst eg
          clear e
          obtain ⟨⟨c0, c1, c2, c3⟩, ⟨f0, f1, f2, f3⟩, _, hgl⟩ := own_cellF HOb.out m (by omega)
          have HS : Hid (OwnF w1.heap.size ((((wr.setCell ⟨g, m * 4, none⟩ (.string (bs [50]))).setCell ⟨g, m * 4 + 1, none⟩ (.string (bs []))).setCell ⟨g, m * 4 + 2, none⟩ (.int .i64 0)).setCell ⟨g, m * 4 + 3, none⟩ (.int .i64 0)) (.slice (some ⟨g, 0, none⟩) k cb) ((mrk 50 m X).set m (mkP 50))) := own_setF HOb.out m (mkP 50)
          have k1 : (0 : Int) ≤ (m : Int) := by omega
          have k2 : (m : Int) < (k : Int) := by omega
          go_wp2_with fail
          go_roundw
          case rel =>
            have o4 : Only [g] wr ((((wr.setCell ⟨g, m * 4, none⟩ (.string (bs [50]))).setCell ⟨g, m * 4 + 1, none⟩ (.string (bs []))).setCell ⟨g, m * 4 + 2, none⟩ (.int .i64 0)).setCell ⟨g, m * 4 + 3, none⟩ (.int .i64 0)) := (((Only.set _ _ _ _).trans (Only.set _ _ _ _)).trans (Only.set _ _ _ _)).trans (Only.set _ _ _ _)
            refine ⟨m + 1, by omega, by go_num, HOa.out.only o4 (fun j hj hm => ?_), by rw [← mrk_set _ _ _ (by have := HN.out; omega)]; exact HS.out, HO2.out.trans (o4.mono (fun j hj => ?_))⟩
            · have h1 := K1.out j hj
              have h2 := K2.out j (by have : j = g := by simpa using hm
                                      rw [this]; rfl)
              omega
            · have : j = g := by simpa using hj
              exact List.mem_append_right _ (mem_bl.2 (by rw [this]; rfl))
          case measure => simp [intOf]; omega
        · obtain rfl : m = k := by omega
          have HB8 : Hid (OwnF w1.heap.size wr (.slice ab m cb) (List.replicate m (mkP 50))) := by
            have := HOb.out
            rw [← HN.out, mrk_all, HN.out] at this; exact this
          clear HOb HA8 HR8 HOn
          obtain ⟨ws, rfl⟩ : ∃ x, x = wr := ⟨_, rfl⟩
          go_wp2_with fail
          go_loopw [14, 16] (fun x i wr => ∃ q : Nat, q ≤ 30 ∧ i = .int .i64 q ∧ OwnF w.heap.size wr x (List.replicate (m + q) (mkP 49)) ∧ OwnF w1.heap.size wr (.slice ab m cb) (List.replicate m (mkP 50)) ∧ Only (bl (.slice aa m ca) ++ bl (.slice ab m cb)) w7 wr ∧ (∀ j, x.ownBlock = some j → (Value.slice aa m ca).ownBlock = some j ∨ w7.heap.size ≤ j)) (fun _ i _ => 30 - (intOf i).toNat)
          case atStart => exact ⟨0, by omega, rfl, HOa.out, HB8.out, HO2.out, fun j hj => .inl hj⟩
          case round =>
            obtain ⟨q, hq, rfl, hox, hob, hon, hbx⟩ := hrel
            have HOx : Hid (OwnF w.heap.size wr u14 (List.replicate (m + q) (mkP 49))) := hox
            have HOb : Hid (OwnF w1.heap.size wr (.slice ab m cb) (List.replicate m (mkP 50))) := hob
            have HO3 : Hid (Only (bl (.slice aa m ca) ++ bl (.slice ab m cb)) w7 wr) := hon
            have HBx : Hid (∀ j, u14.ownBlock = some j → (Value.slice aa m ca).ownBlock = some j ∨ w7.heap.size ≤ j) := hbx
            clear hox hob hon hbx
            have hzt := HO3.out.size
            by_cases hlt : q < 30
            · have k2 : (q : Int) < 30 := by omega
              have HRl : Hid ((List.replicate (m + q) (mkP 49)).length = m + q) := List.length_replicate
              go_wp2_with (first | (at_builtin; refine app_files (base := w.heap.size) (l := List.replicate (m + q) (mkP 49)) (k := [mkP 49]) (HOx.out.later (balloc _ _)) (src_file wr (mkP 49)) (by rw [HRl.out]; simp; omega) (by have := HZ7.out; simp; omega) rfl (.tmp 86) (.tmp 88) rfl rfl rfl ?_; intro v2 w8 ho2 hg2 hv2))
              have o8 : Only u14.ownBlock.toList wr w8 := (Only.of_below (balloc wr _) _).trans (only_grown hg2)
              have hsz8 : (wr.alloc (.cells #[.string (bs (mkP 49).path), .string (bs (mkP 49).text), .int .i64 (mkP 49).blob, .int .i64 (mkP 49).size] 29)).heap.size = wr.heap.size + 1 := by simp
              have H2 : Hid (OwnF w.heap.size w8 v2 (List.replicate (m + (q + 1)) (mkP 49)) ∧ OwnF w1.heap.size w8 (.slice ab m cb) (List.replicate m (mkP 50)) ∧ Only (bl (.slice aa m ca) ++ bl (.slice ab m cb)) w7 w8 ∧ (∀ j, v2.ownBlock = some j → (Value.slice aa m ca).ownBlock = some j ∨ w7.heap.size ≤ j)) := by
                refine ⟨by rw [rep_snoc] at ho2; exact ho2, HOb.out.only o8 (fun j hj hm => ?_), only_step HO3.out o8 (fun j hj => ?_), fun j hj => ?_⟩
                · have h0 : u14.ownBlock = some j := by simpa [Option.mem_toList] using hm
                  have h2 := K2.out j hj
                  have := HZ7.out
                  rcases HBx.out j h0 with h1 | h1
                  · have := K1.out j h1; omega
                  · omega
                · have h0 : u14.ownBlock = some j := by simpa [Option.mem_toList] using hj
                  rcases HBx.out j h0 with h1 | h1
                  · exact .inl (List.mem_append_left _ (mem_bl.2 h1))
                  · exact .inr h1
                · rcases hv2 with h1 | h1
                  · exact HBx.out j (h1 ▸ hj)
                  · rw [h1] at hj
                    have : j = wr.heap.size + 1 := by simpa using hj.symm
                    right; omega
              clear ho2 hg2 hv2 o8 hsz8
              go_wp2_with fail
              go_roundw
              case rel => exact ⟨q + 1, by omega, by go_num, H2.out.1, H2.out.2.1, H2.out.2.2.1, H2.out.2.2.2⟩
              case measure => simp [intOf]; omega
            · have hq30 : q = 30 := by omega
              have kq : ¬ (q : Int) < 30 := by omega
              have HOx3 : Hid (OwnF w.heap.size wr u14 (List.replicate (m + 30) (mkP 49))) := by rw [hq30] at HOx; exact HOx.out
              clear hq30
              have HXl : Hid (∀ j, u14.ownBlock = some j → j < wr.heap.size) := fun j hj => (HOx.out.lt hj).2
              clear HOa HB8 HO2
              obtain ⟨wt, rfl⟩ : ∃ x, x = wr := ⟨_, rfl⟩
              go_wp2_with fail
              go_loopw [15, 17] (fun y i wr => ∃ q : Nat, q ≤ 30 ∧ i = .int .i64 q ∧ OwnF w.heap.size wr u14 (List.replicate (m + 30) (mkP 49)) ∧ OwnF w1.heap.size wr y (List.replicate (m + q) (mkP 50)) ∧ Only (bl (.slice aa m ca) ++ bl (.slice ab m cb)) w7 wr ∧ wt.heap.size ≤ wr.heap.size ∧ (∀ j, y.ownBlock = some j → (Value.slice ab m cb).ownBlock = some j ∨ wt.heap.size ≤ j)) (fun _ i _ => 30 - (intOf i).toNat)
              case atStart => exact ⟨0, by omega, rfl, HOx3.out, HOb.out, HO3.out, Nat.le_refl _, fun j hj => .inl hj⟩
              case round =>
                obtain ⟨r, hr, rfl, hox, hoy, hon, hzu, hby⟩ := hrel
                have HOx4 : Hid (OwnF w.heap.size wr u14 (List.replicate (m + 30) (mkP 49))) := hox
                have HOy : Hid (OwnF w1.heap.size wr u15 (List.replicate (m + r) (mkP 50))) := hoy
                have HO4 : Hid (Only (bl (.slice aa m ca) ++ bl (.slice ab m cb)) w7 wr) := hon
                have HBy : Hid (∀ j, u15.ownBlock = some j → (Value.slice ab m cb).ownBlock = some j ∨ wt.heap.size ≤ j) := hby
                clear hox hoy hon hby
                have hz7u := HO4.out.size
                by_cases hlt : r < 30
                · have k2 : (r : Int) < 30 := by omega
                  have HRl : Hid ((List.replicate (m + r) (mkP 50)).length = m + r) := List.length_replicate
                  go_wp2_with (first | (at_builtin; refine app_files (base := w1.heap.size) (l := List.replicate (m + r) (mkP 50)) (k := [mkP 50]) (HOy.out.later (balloc _ _)) (src_file wr (mkP 50)) (by rw [HRl.out]; simp; omega) (by have := HZ7.out; simp; omega) rfl (.tmp 94) (.tmp 96) rfl rfl rfl ?_; intro v2 w8 ho2 hg2 hv2))
                  have o8 : Only u15.ownBlock.toList wr w8 := (Only.of_below (balloc wr _) _).trans (only_grown hg2)
                  have hsz8 : (wr.alloc (.cells #[.string (bs (mkP 50).path), .string (bs (mkP 50).text), .int .i64 (mkP 50).blob, .int .i64 (mkP 50).size] 29)).heap.size = wr.heap.size + 1 := by simp
                  have H2 : Hid (OwnF w.heap.size w8 u14 (List.replicate (m + 30) (mkP 49)) ∧ OwnF w1.heap.size w8 v2 (List.replicate (m + (r + 1)) (mkP 50)) ∧ Only (bl (.slice aa m ca) ++ bl (.slice ab m cb)) w7 w8 ∧ wt.heap.size ≤ w8.heap.size ∧ (∀ j, v2.ownBlock = some j → (Value.slice ab m cb).ownBlock = some j ∨ wt.heap.size ≤ j)) := by
                    refine ⟨HOx4.out.only o8 (fun j hj hm => ?_), by rw [rep_snoc] at ho2; exact ho2, only_step HO4.out o8 (fun j hj => ?_), Nat.le_trans hzu o8.size, fun j hj => ?_⟩
                    · have h0 : u15.ownBlock = some j := by simpa [Option.mem_toList] using hm
                      have h3 := HXl.out j hj
                      have := HZ7.out
                      rcases HBy.out j h0 with h1 | h1
                      · have h2 := K2.out j h1
                        rcases HBx.out j hj with h4 | h4
                        · have := K1.out j h4; omega
                        · omega
                      · omega
                    · have h0 : u15.ownBlock = some j := by simpa [Option.mem_toList] using hj
                      rcases HBy.out j h0 with h1 | h1
                      · exact .inl (List.mem_append_right _ (mem_bl.2 h1))
                      · right; omega
                    · rcases hv2 with h1 | h1
                      · exact HBy.out j (h1 ▸ hj)
                      · rw [h1] at hj
                        have : j = wr.heap.size + 1 := by simpa using hj.symm
                        right; omega
                  clear ho2 hg2 hv2 o8 hsz8
                  go_wp2_with fail
                  go_roundw
                  case rel => exact ⟨r + 1, by omega, by go_num, H2.out.1, H2.out.2.1, H2.out.2.2.1, H2.out.2.2.2.1, H2.out.2.2.2.2⟩
                  case measure => simp [intOf]; omega
                · have hr30 : r = 30 := by omega
                  have kr : ¬ (r : Int) < 30 := by omega
                  rw [hr30] at HOy
                  clear hr30
                  have HFx : Hid (FS wr u14 (List.replicate (m + 30) (mkP 49))) := HOx4.out.fs
                  have HFy : Hid (FS wr u15 (List.replicate (m + 30) (mkP 50))) := HOy.out.fs
                  obtain ⟨ax, cx, hfx⟩ := HOx4.out.form
                  obtain ⟨ay, cy, hfy⟩ := HOy.out.form
                  rw [List.length_replicate] at hfx hfy
                  clear HOx HOx3 HOb HO3 HOy HOx4
                  subst hfx hfy
                  obtain ⟨wu, rfl⟩ : ∃ x, x = wr := ⟨_, rfl⟩
                  go_wp2_with fail
                  go_loop [18] (fun i => ∃ z : Nat, z ≤ m + 30 ∧ i = .int .i64 z) (fun i => m + 30 - (intOf i).toNat)
                  case atStart => exact ⟨0, by omega, rfl⟩
                  case round =>
                    obtain ⟨z, hz, rfl⟩ := hrel
                    by_cases hlt : z < m + 30
                    · have k1 : (0 : Int) ≤ (z : Int) := by omega
                      have k2 : (z : Int) < (m : Int) + 30 := by omega
                      have X1 : FS wu (.slice ax (List.replicate (m + 30) (mkP 49)).length cx) (List.replicate (m + 30) (mkP 49)) := by rw [List.length_replicate]; exact HFx.out
                      have Y1 : FS wu (.slice ay (List.replicate (m + 30) (mkP 50)).length cy) (List.replicate (m + 30) (mkP 50)) := by rw [List.length_replicate]; exact HFy.out
                      obtain ⟨b1, o1, e1, hb1, c1, _⟩ := X1.at (Below.refl _ _) (k := z) (by rw [List.length_replicate]; exact hlt)
                      obtain ⟨b2, o2, e2, hb2, c2, _⟩ := Y1.at (Below.refl _ _) (k := z) (by rw [List.length_replicate]; exact hlt)
                      rw [List.getElem_replicate] at c1 c2
                      clear X1 Y1
                      subst e1 e2
                      have c1' : wu.cell? ⟨b1, o1 + z * 4, none⟩ = some (.string (bs [49])) := c1
                      have c2' : wu.cell? ⟨b2, o2 + z * 4, none⟩ = some (.string (bs [50])) := c2
                      clear c1 c2
                      have s1 : (bs [49]).toList = [49] := bs_toList _
                      have s2 : (bs [50]).toList = [50] := bs_toList _
                      have s3 : (ByteArray.mk #[49]).toList = [49] := ByteArray.toList_mk [49]
                      have s4 : (ByteArray.mk #[50]).toList = [50] := ByteArray.toList_mk [50]
                      go_wp2_with fail
                      go_round
                      case rel => exact ⟨z + 1, by omega, by go_num⟩
                      case measure => simp [intOf]; omega
                    · obtain rfl : z = m + 30 := by omega
                      have HCu : Hid (FS wu rc X) := HC7.out.only HO4.out (fun j hj hm => by
                        have h3 := K3.out j hj
                        have := HZ7.out
                        rcases List.mem_append.1 hm with h1 | h1
                        · have := K1.out j (mem_bl.1 h1); omega
                        · have := K2.out j (mem_bl.1 h1); omega)
                      have HWu : Hid (FS wu rw4 (lentF l)) := HW7.out.only HO4.out (fun j hj hm => by
                        have h3 := K4.out j hj
                        have := HZ7.out
                        rcases List.mem_append.1 hm with h1 | h1
                        · have := K1.out j (mem_bl.1 h1); omega
                        · have := K2.out j (mem_bl.1 h1); omega)
                      have HBu : Hid (Below w.heap.size w wu) := below_trans HB7.out (HO4.out.below HB7.out.size (fun j hj => by
                        have := HZ7.out
                        rcases List.mem_append.1 hj with h1 | h1
                        · exact (K1.out j (mem_bl.1 h1)).1
                        · have := K2.out j (mem_bl.1 h1); omega))
                      go_wp2_with fail
                      refine (HX.out _ HBu.out).mono ?_
                      rintro e wa ⟨rd, rfl, hrd, hba⟩
                      have HD : Hid (FS wa rd X) := hrd.fs
                      have HCa : Hid (FS wa rc X) := HCu.out.later hba
                      have HWa : Hid (FS wa rw4 (lentF l)) := HWu.out.later hba
                      have HBa : Hid (Below w.heap.size w wa) := bstep HBu.out hba
                      clear hrd hba
                      go_wp2_with fail
                      refine (HFl.out _ _ _ HD.out HCa.out).mono ?_
                      rintro e wb ⟨rfl, hbb⟩
                      have HWb : Hid (FS wb rw4 (lentF l)) := HWa.out.later hbb
                      have HBb : Hid (Below w.heap.size w wb) := bstep HBa.out hbb
                      clear hbb
                      go_wp2_with fail
                      refine (HLt.out _ HBb.out).mono ?_
                      rintro e wc ⟨re, rfl, hre, hbc⟩
                      have HE : Hid (FS wc re (lentF l)) := hre.fs
                      have HWc : Hid (FS wc rw4 (lentF l)) := HWb.out.later hbc
                      have HBc : Hid (Below w.heap.size w wc) := bstep HBb.out hbc
                      clear hre hbc
                      go_wp2_with fail
                      refine (HFm.out _ _ _ HE.out HWc.out).mono ?_
                      rintro e wd ⟨rfl, hbd⟩
                      have HBd : Hid (Below w.heap.size w wd) := bstep HBc.out hbd
                      clear hbd
                      go_wp2_with fail
                      go_ret
                      exact ⟨rfl, HBd.out⟩
end Go.Proofs.YtebidnepanogcaaDoor
