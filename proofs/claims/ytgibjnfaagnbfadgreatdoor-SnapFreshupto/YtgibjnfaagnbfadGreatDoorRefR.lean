/-
  The document's reader.
-/
import Derived.Test.YtgibjnfaagnbfadGreatDoorRefP
import Derived.Test.YtgibjnfaagnbfadGreatDoorRefF
import Derived.Test.YtgibjnfaagnbfadGreatDoorRead
namespace Go.Proofs.YtgibjnfaagnbfadGreatDoor
open Go.RowKit

theorem numR_bounds (l : List UInt8) : -1 ≤ numR l ∧ numR l ≤ 9223372036854775807 := by
  unfold numR
  split
  · omega
  · split
    · split <;> omega
    · omega
theorem unhexR_len : ∀ (l : List UInt8), (unhexR l).length ≤ l.length
  | [] => by simp [unhexR]
  | [a] => by simp [unhexR]
  | a :: b :: r => by have := unhexR_len r; simp only [unhexR, List.length_cons]; omega
theorem zf_ok : Fok zf := ⟨by simp [zf], by simp [zf], by simp [zf], by simp [zf], by simp [zf], by simp [zf]⟩
theorem fileR_ok {W : List (List UInt8)} (hW : ∀ p ∈ W, p.length ≤ 4194304) : Fok (fileR W) := by
  match W, hW with
  | [], _ => exact zf_ok
  | [_], _ => exact zf_ok
  | [_, _], _ => exact zf_ok
  | [k, p, q], hW =>
    simp only [fileR]
    split
    · have h1 := hW p (by simp)
      have h2 := hW q (by simp)
      have h3 := unhexR_len q
      exact ⟨h1, by show (unhexR q).length ≤ 4194304; omega, by simp, by simp, by simp only; omega, by simp only; omega⟩
    · exact zf_ok
  | [k, p, x, y], hW =>
    simp only [fileR]
    split
    · have h1 := hW p (by simp)
      have h2 := numR_bounds x
      have h3 := numR_bounds y
      exact ⟨h1, by simp, by simp only; omega, by simp only; omega, by simp only; omega, by simp only; omega⟩
    · exact zf_ok
  | _ :: _ :: _ :: _ :: _ :: _, _ => exact zf_ok
theorem rdR_cons (s : List UInt8) (m k : Nat) (hm : m ≤ k) (hk : k < s.length) (h : s[k] = 10) (hf : (10 : UInt8) ∉ (s.drop m).take (k - m)) :
    rdR (s.drop m) = fileR (cutAt 32 ((s.drop m).take (k - m))) :: rdR (s.drop (k + 1)) := by
  have e : s.drop m = (s.drop m).take (k - m) ++ 10 :: s.drop (k + 1) := by
    rw [← h, ← List.drop_eq_getElem_cons hk]
    conv => lhs; rw [← List.take_append_drop (k - m) (s.drop m)]
    rw [List.drop_drop, show m + (k - m) = k from by omega]
  conv => lhs; rw [e]
  unfold rdR
  rw [lnc_app _ _ hf, List.map_cons]
theorem rdR_end (s : List UInt8) (m : Nat) (hf : (10 : UInt8) ∉ s.drop m) : rdR (s.drop m) = [] := by
  unfold rdR; rw [lnc_free _ hf]; rfl

theorem cell_set4 {W : World} {g b o : Nat} (h : b ≠ g) (a0 a1 a2 a3 : Value) {v : Value} (hc : W.cell? ⟨b, o, none⟩ = some v) :
    ((((W.setCell ⟨g, 0, none⟩ a0).setCell ⟨g, 1, none⟩ a1).setCell ⟨g, 2, none⟩ a2).setCell ⟨g, 3, none⟩ a3).cell? ⟨b, o, none⟩ = some v := by
  rw [World.cell?_of_block (w := W)]
  · exact hc
  · show _ = W.heap[b]?
    rw [Below.heap_setCell _ _ _ _ (by exact h), Below.heap_setCell _ _ _ _ (by exact h), Below.heap_setCell _ _ _ _ (by exact h), Below.heap_setCell _ _ _ _ (by exact h)]
theorem cell_drew (W : World) (p : Addr) : W.drew.cell? p = W.cell? p := rfl
theorem cell_set4d {W : World} {g b o : Nat} (h : b ≠ g) (a0 a1 a2 a3 : Value) {v : Value} (hc : W.cell? ⟨b, o, none⟩ = some v) :
    ((((W.setCell ⟨g, 0, none⟩ a0).setCell ⟨g, 1, none⟩ a1).setCell ⟨g, 2, none⟩ a2).setCell ⟨g, 3, none⟩ a3).drew.cell? ⟨b, o, none⟩ = some v := by
  rw [cell_drew]; exact cell_set4 h a0 a1 a2 a3 hc
theorem cell_set4e {W : World} {g b o : Nat} (h : b ≠ g) (a0 a1 a2 a3 : Value) {v : Value} (hc : W.cell? ⟨b, o, none⟩ = some v) :
    ((((W.drew.setCell ⟨g, 0, none⟩ a0).setCell ⟨g, 1, none⟩ a1).setCell ⟨g, 2, none⟩ a2).setCell ⟨g, 3, none⟩ a3).cell? ⟨b, o, none⟩ = some v := cell_set4 h a0 a1 a2 a3 (by rw [cell_drew]; exact hc)
theorem RB.size {w : World} {g : Nat} {f : Fl} (h : RB w g f) (z : Int) : RB (w.setCell ⟨g, 3, none⟩ (.int .i64 z)) g ⟨f.path, f.text, f.blob, z⟩ := by
  refine ⟨?_⟩
  rw [heap_setCell _ _ _ _ h.blk]
  simp
theorem OwnF.set3 {base : Nat} {w : World} {v : Value} {l : List Fl} (h : OwnF base w v l) {g : Nat} (o : Nat) (x : Value) (hn : ∀ k, v.ownBlock = some k → k ≠ g) : OwnF base (w.setCell ⟨g, o, none⟩ x) v l :=
  h.only (Only.set w g o x) (fun k hk e => hn k hk (by simpa using e))
/-- the files so far, and the one in its box -/
structure RD (base : Nat) (w0 w : World) (v : Value) (g : Nat) (f : Fl) (l : List Fl) : Prop where
  own : OwnF base w v l
  box : RB w g f
  apart : ∀ k, v.ownBlock = some k → k ≠ g
  bel : Below base w0 w
  low : base ≤ g
theorem RD.later {base : Nat} {w0 w w' : World} {v : Value} {g : Nat} {f : Fl} {l : List Fl} (h : RD base w0 w v g f l) (hb : Below w.heap.size w w') (hz : base ≤ w.heap.size) : RD base w0 w' v g f l :=
  ⟨h.own.later hb, h.box.later hb, h.apart, below_trans h.bel (below_mono hb hz), h.low⟩
theorem RD.set {base : Nat} {w0 w : World} {v : Value} {g : Nat} {f : Fl} {l : List Fl} (h : RD base w0 w v g f l) (k : Fl) :
    RD base w0 ((((w.setCell ⟨g, 0, none⟩ (.string (bs k.path))).setCell ⟨g, 1, none⟩ (.string (bs k.text))).setCell ⟨g, 2, none⟩ (.int .i64 k.blob)).setCell ⟨g, 3, none⟩ (.int .i64 k.size)) v g k l :=
  ⟨(((h.own.set3 _ _ h.apart).set3 _ _ h.apart).set3 _ _ h.apart).set3 _ _ h.apart, h.box.set k, h.apart, bset4 h.bel h.low _ _ _ _, h.low⟩
theorem RD.size {base : Nat} {w0 w : World} {v : Value} {g : Nat} {f : Fl} {l : List Fl} (h : RD base w0 w v g f l) (z : Int) : RD base w0 (w.setCell ⟨g, 3, none⟩ (.int .i64 z)) v g ⟨f.path, f.text, f.blob, z⟩ l :=
  ⟨h.own.set3 _ _ h.apart, h.box.size z, h.apart, h.bel.setCell (p := ⟨g, 3, none⟩) h.low _, h.low⟩
theorem src_file_set (w : World) (p : Addr) (x : Value) (f : Fl) : Src Tryz.prog 4 22 (.slice (some ⟨w.heap.size, 0, none⟩) 1 1) [f].length (fc [f]) ((w.setCell p x).alloc (.cells #[.string (bs f.path), .string (bs f.text), .int .i64 f.blob, .int .i64 f.size] 26)) := by
  have := src_file (w.setCell p x) f
  have e : (w.setCell p x).heap.size = w.heap.size := by simp [World.setCell]
  rwa [e] at this
theorem c_empty : ({ data := #[] } : ByteArray) = bs [] := rfl

set_option maxRecDepth 100000 in
set_option maxHeartbeats 8000000 in
theorem kread_any (s : List UInt8) (hs : s.length ≤ 4194304) (w : World) :
    Calls Tryz.prog 8 #[.string (bs s)] w fun e w' => ∃ v, e = .returned (.tuple #[v, .int .i64 (if (rd s).isSome then 0 else 18)]) ∧ OwnF w.heap.size w' v ((rd s).getD []) ∧ Below w.heap.size w w' := by
  have hz : (bs s).size = s.length := rfl
  obtain ⟨R, hR⟩ : ∃ R, (rd s).getD [] = R := ⟨_, rfl⟩
  obtain ⟨A, hA⟩ : ∃ A : Int, (if (rd s).isSome then 0 else 18) = A := ⟨_, rfl⟩
  rw [hR, hA]
  have HRA : Hid ((rd s).getD [] = R ∧ (if (rd s).isSome then (0 : Int) else 18) = A) := ⟨hR, hA⟩
  clear hR hA
  have HNo : Hid (rd s = none → R = [] ∧ A = 18) := fun h => by
    have := HRA.out
    rw [h] at this
    exact ⟨this.1.symm, this.2.symm⟩
  obtain ⟨n, hn⟩ : ∃ n, s.length = n := ⟨_, rfl⟩
  have HN : Hid (s.length = n) := hn
  rw [hn] at hz hs
  clear hn
  go_enter Tryz.func8, Tryz.ntmps8
  go_wp2_with fail
  go_loopw [4, 5, 6] (fun o f i wr => ∃ (k m : Nat) (D : List Fl), k ≤ n ∧ m ≤ k ∧ i = .int .i64 k ∧ f = .int .i64 m ∧ OwnF w.heap.size wr o D ∧ D.length ≤ 512 ∧ (10 : UInt8) ∉ (s.drop m).take (k - m) ∧ D ++ rdR (s.drop m) = rdR s ∧ Below w.heap.size w wr ∧ (∀ f ∈ D, Fok f)) (fun _ _ i _ => n - (intOf i).toNat)
  case atStart => exact ⟨0, 0, [], by omega, by omega, rfl, rfl, OwnF.nil _ _, by simp, by simp, by simp, Below.refl _ _, by simp⟩
  case round =>
    rename World => w1
    obtain ⟨k, m, D, hk, hm, rfl, rfl, ho, hD, hfr, heq, hb, hok⟩ := hrel
    have HO : Hid (OwnF w.heap.size w1 u4 D) := ho
    have HE : Hid ((10 : UInt8) ∉ (s.drop m).take (k - m) ∧ D ++ rdR (s.drop m) = rdR s ∧ ∀ f ∈ D, Fok f) := ⟨hfr, heq, hok⟩
    have HB : Hid (Below w.heap.size w w1) := hb
    have hz1 := hb.size
    clear ho hfr heq hok hb
    have k1 : (0 : Int) ≤ (k : Int) := by omega
    have m1 : (0 : Int) ≤ (m : Int) := by omega
    have m2 : (m : Int) ≤ (k : Int) := by omega
    by_cases hlt : k < n
    · have hkl : k < s.length := by have := HN.out; omega
      have k2 : (k : Int) < (n : Int) := by omega
      have k3 : (k : Int) ≤ (n : Int) := by omega
      by_cases hc : s[k]'hkl = 10
      · obtain ⟨T, hT⟩ : ∃ T, (s.drop m).take (k - m) = T := ⟨_, rfl⟩
        have q1 : ∀ W : World, (Instr.index 9 (.string (bs s)) (.int .i64 (k : Nat))).run Tryz.prog W = .ok (.int .u8 10) W := fun W => by rw [idx_run W s k hkl, hc]; rfl
        have t0 : (bs s).extract m k = bs T := by rw [bs_extract, hT]
        have hTl : T.length ≤ 4194304 := by rw [← hT]; have := HN.out; simp; omega
        have HT : Hid (D ++ [fileR (cutAt 32 T)] ++ rdR (s.drop (k + 1)) = rdR s) := by
          show _ = _
          have h1 := HE.out.2.1
          rw [rdR_cons s m k hm hkl hc HE.out.1, hT] at h1
          rw [← h1]; simp
        have HW : Hid (∀ p ∈ cutAt 32 T, p.length ≤ 4194304) := fun p hp => by have := cut_mem_len 32 T p hp; omega
        obtain ⟨nD, hnD⟩ : ∃ nD, D.length = nD := ⟨_, rfl⟩
        have HND : Hid (D.length = nD) := hnD
        rw [hnD] at hD
        clear hT hc hnD
        go_wp2_with fail
        refine (kfields_any T _ (by omega)).mono ?_
        rintro e w2 ⟨v2, rfl, ho2, hb2⟩
        have SW : Hid (SS w2 v2 (cutAt 32 T)) := ho2.bs
        have HOK : Hid (Fok (fileR (cutAt 32 T))) := fileR_ok HW.out
        obtain ⟨G, hG⟩ : ∃ G, w2.heap.size = G := ⟨_, rfl⟩
        obtain ⟨w3, hw3⟩ : ∃ w3, w2.alloc (.cells #[.string ⟨#[]⟩, .string ⟨#[]⟩, .int .i64 0, .int .i64 0] 26) = w3 := ⟨_, rfl⟩
        have R3 : Hid (RD w.heap.size w w3 u4 G zf D ∧ Below w2.heap.size w2 w3 ∧ w3.heap.size = G + 1) := by
          rw [← hw3, ← hG]
          have hO2 : OwnF w.heap.size w2 u4 D := HO.out.later hb2
          exact ⟨⟨hO2.later (balloc _ _), RB.new w2 zf, fun j hj => by have := (hO2.lt hj).2; omega, bstep (bstep HB.out hb2) (balloc _ _), by have := hb2.size; omega⟩, balloc _ _, by simp⟩
        have hwG : w.heap.size ≤ G := by have := hb2.size; omega
        have hw2z : w.heap.size ≤ w2.heap.size := by omega
        have HW3 : Hid (w2.alloc (.cells #[.string ⟨#[]⟩, .string ⟨#[]⟩, .int .i64 0, .int .i64 0] 26) = w3 ∧ w2.heap.size = G) := ⟨hw3, hG⟩
        clear hw3 hG
        have O2 : Hid (OwnF w.heap.size w2 u4 D ∧ Below w.heap.size w w2) := ⟨HO.out.later hb2, bstep HB.out hb2⟩
        clear ho2 hb2 q1 t0
        obtain ⟨Wd, hWd⟩ : ∃ Wd, cutAt 32 T = Wd := ⟨_, rfl⟩
        rw [hWd] at SW HT HW HOK
        clear hWd

        match Wd, SW, HT, HW, HOK with
        | [K, P, Hx], SW, HT, HW, HOK =>
          obtain ⟨b, off, c, rfl, hbl, hcell⟩ := ss_cells SW.out (by simp)
          have c0 : w2.cell? ⟨b, off, none⟩ = some (.string (bs K)) := hcell 0 (by simp)
          have c1 : w2.cell? ⟨b, off + 1, none⟩ = some (.string (bs P)) := hcell 1 (by simp)
          have c2 : w2.cell? ⟨b, off + 2, none⟩ = some (.string (bs Hx)) := hcell 2 (by simp)
          have hl3 : [K, P, Hx].length = 3 := rfl
          rw [hl3]
          have hbG : b ≠ G := by have := HW3.out.2; omega
          have hb3 : b < w3.heap.size := by have := R3.out.2.1.size; omega
          clear hcell hl3 SW
          have ek := bs_toList K
          have ec := c_t
          have hHx : Hx.length ≤ 4194304 := HW.out Hx (by simp)
          by_cases hK : K = [116]
          · have hkb : (K == [116]) = true := by simpa using hK
            obtain ⟨U, hU⟩ : ∃ U, unhexR Hx = U := ⟨_, rfl⟩
            obtain ⟨nU, hnU⟩ : ∃ nU, U.length = nU := ⟨_, rfl⟩
            have HU : Hid (∀ W : World, Calls Tryz.prog 24 #[.string (bs Hx)] W fun e w' => e = .returned (.string (bs U)) ∧ Below W.heap.size W w') := fun W => by rw [← hU]; exact kunhex_any Hx W hHx
            have hfz : fileR [K, P, Hx] = (⟨P, U, 0, (nU : Int)⟩ : Fl) := by simp only [fileR, hK, if_true, hU, hnU]
            have hzU : (bs U).size = nU := hnU
            have d1 : w3.cell? ⟨b, off + 1, none⟩ = some (.string (bs P)) := (R3.out.2.1.cell (p := ⟨b, off + 1, none⟩) hbl).trans c1
            have d2 : w3.cell? ⟨b, off + 2, none⟩ = some (.string (bs Hx)) := (R3.out.2.1.cell (p := ⟨b, off + 2, none⟩) hbl).trans c2
            rw [hfz] at HT HOK
            clear hfz hK hU hnU HW
            go_wp2_with fail
            rw [HW3.out.1, HW3.out.2]
            clear c0 c1 c2
            go_region_held3 (fun w' => w'.cell? ⟨b, off + 1, none⟩ = some (.string (bs P)) ∧ w'.cell? ⟨b, off + 2, none⟩ = some (.string (bs Hx))) (first | go_keep | (with_reducible exact ⟨f1, f2⟩) | (with_reducible exact ⟨cell_set4 hbG _ _ _ _ f1, cell_set4 hbG _ _ _ _ f2⟩)) (first | (go_at_call 24; with_reducible refine (HU.out _).mono ?_; rintro e w4 ⟨rfl, hb9⟩; have hb8 : Below w3.heap.size w3 w4 := bstep (Below.refl _ _).drew hb9; have f1 : w4.cell? ⟨b, off + 1, none⟩ = some (.string (bs P)) := (hb8.cell (p := ⟨b, off + 1, none⟩) hb3).trans d1; have f2 : w4.cell? ⟨b, off + 2, none⟩ = some (.string (bs Hx)) := (hb8.cell (p := ⟨b, off + 2, none⟩) hb3).trans d2; obtain ⟨z0, z1, z2, z3, y0, y1, y2, y3⟩ := (R3.out.1.box.later hb8).cells))
            all_goals
              obtain ⟨w5, hw5⟩ : ∃ w5, (((w4.setCell ⟨G, 0, none⟩ (.string (bs P))).setCell ⟨G, 1, none⟩ (.string (bs U))).setCell ⟨G, 2, none⟩ (.int .i64 0)).setCell ⟨G, 3, none⟩ (.int .i64 0) = w5 := ⟨_, rfl⟩
              have R5' : Hid (RD w.heap.size w w5 u4 G ⟨P, U, 0, 0⟩ D) := by
                rw [← hw5]
                exact (R3.out.1.later hb8 (by have := R3.out.2.2; omega)).set ⟨P, U, 0, 0⟩
              rw [hw5]
              clear hw5 hb8 hb9 f1 f2 d1 d2 z0 z1 z2 z3 y0 y1 y2 y3
              obtain ⟨z0, z1, z2, z3, y0, y1, y2, y3⟩ := R5'.out.box.cells
              simp only at z0 z1 z2 z3
              have hzw5 := R5'.out.bel.size
              have R5 : Hid (RD w.heap.size w (w5.setCell ⟨G, 3, none⟩ (.int .i64 (nU : Int))) u4 G ⟨P, U, 0, (nU : Int)⟩ D) := R5'.out.size (nU : Int)
              have hzw := R5.out.bel.size
              have ln9 : (D ++ [(⟨P, U, 0, (nU : Int)⟩ : Fl)]).length = nD + 1 := by rw [List.length_append, HND.out]; rfl
              by_cases hn5 : nD < 512
              · have hn6 : ¬ (512 : Int) < (nD : Int) + 1 := by omega
                go_wp2_with (at_builtin; refine app_files (base := w.heap.size) (l := D) (k := [(⟨P, U, 0, (nU : Int)⟩ : Fl)]) (R5.out.own.later (balloc _ _)) (src_file_set _ _ _ (⟨P, U, 0, (nU : Int)⟩ : Fl)) (by have := HND.out; simp; omega) (by simp; omega) rfl _ _ rfl rfl rfl ?_; intro v8 w8 ho8 hg8 hv8; obtain ⟨a8, c8, e8⟩ := ho8.form; rw [ln9] at e8; subst e8)
                go_roundw
                case rel => exact ⟨k + 1, k + 1, D ++ [(⟨P, U, 0, (nU : Int)⟩ : Fl)], by omega, by omega, by go_num, by go_num, ho8, by omega, by simp, HT.out, (bstep R5.out.bel (balloc _ _)).grown hg8 (by simp; omega) (fun j hj => (R5.out.own.lt hj).1), fun f hf => by
                  rcases List.mem_append.1 hf with h | h
                  · exact HE.out.2.2 f h
                  · rw [List.mem_singleton.1 h]; exact HOK.out⟩
                case measure => simp [intOf]; omega
              · have hn6 : (512 : Int) < (nD : Int) + 1 := by omega
                have HNN : Hid (rd s = none) := rd_long s (by rw [← HT.out, List.length_append, ln9]; omega)
                go_wp2_with (at_builtin; refine app_files (base := w.heap.size) (l := D) (k := [(⟨P, U, 0, (nU : Int)⟩ : Fl)]) (R5.out.own.later (balloc _ _)) (src_file_set _ _ _ (⟨P, U, 0, (nU : Int)⟩ : Fl)) (by have := HND.out; simp; omega) (by simp; omega) rfl _ _ rfl rfl rfl ?_; intro v8 w8 ho8 hg8 hv8; obtain ⟨a8, c8, e8⟩ := ho8.form; rw [ln9] at e8; subst e8)
                go_ret2
                obtain ⟨e1, e2⟩ := HNo.out HNN.out
                refine ⟨_, by rw [e2]; rfl, by rw [e1]; exact OwnF.nil _ _, (bstep R5.out.bel (balloc _ _)).grown hg8 (by simp; omega) (fun j hj => (R5.out.own.lt hj).1)⟩
          · have hkb : (K == [116]) = false := by simpa using hK
            have hfz : fileR [K, P, Hx] = zf := by simp [fileR, hK]
            clear hK
            rw [hfz] at HT HOK
            clear hfz R3 HW
            have ln9 : (D ++ [zf]).length = nD + 1 := by rw [List.length_append, HND.out]; rfl
            by_cases hn5 : nD < 512
            · have hn6 : ¬ (512 : Int) < (nD : Int) + 1 := by omega
              go_wp2_with (at_builtin; refine app_files (base := w.heap.size) (l := D) (k := [zf]) (O2.out.1.later (bstep (balloc _ _) (balloc _ _))) (src_file2 _ _ zf) (by have := HND.out; simp; omega) (by simp; omega) rfl _ _ rfl rfl rfl ?_; intro v8 w8 ho8 hg8 hv8; obtain ⟨a8, c8, e8⟩ := ho8.form; rw [ln9] at e8; subst e8)
              go_roundw
              case rel => exact ⟨k + 1, k + 1, D ++ [zf], by omega, by omega, by go_num, by go_num, ho8, by omega, by simp, HT.out, (bstep (bstep O2.out.2 (balloc _ _)) (balloc _ _)).grown hg8 (by simp; omega) (fun j hj => (O2.out.1.lt hj).1), fun f hf => by
                rcases List.mem_append.1 hf with h | h
                · exact HE.out.2.2 f h
                · rw [List.mem_singleton.1 h]; exact HOK.out⟩
              case measure => simp [intOf]; omega
            · have hn6 : (512 : Int) < (nD : Int) + 1 := by omega
              have HNN : Hid (rd s = none) := rd_long s (by rw [← HT.out, List.length_append, ln9]; omega)
              go_wp2_with (at_builtin; refine app_files (base := w.heap.size) (l := D) (k := [zf]) (O2.out.1.later (bstep (balloc _ _) (balloc _ _))) (src_file2 _ _ zf) (by have := HND.out; simp; omega) (by simp; omega) rfl _ _ rfl rfl rfl ?_; intro v8 w8 ho8 hg8 hv8; obtain ⟨a8, c8, e8⟩ := ho8.form; rw [ln9] at e8; subst e8)
              go_ret2
              obtain ⟨e1, e2⟩ := HNo.out HNN.out
              refine ⟨_, by rw [e2]; rfl, by rw [e1]; exact OwnF.nil _ _, (bstep (bstep O2.out.2 (balloc _ _)) (balloc _ _)).grown hg8 (by simp; omega) (fun j hj => (O2.out.1.lt hj).1)⟩
        | [K, P, X, Y], SW, HT, HW, HOK =>
          obtain ⟨b, off, c, rfl, hbl, hcell⟩ := ss_cells SW.out (by simp)
          have c0 : w2.cell? ⟨b, off, none⟩ = some (.string (bs K)) := hcell 0 (by simp)
          have c1 : w2.cell? ⟨b, off + 1, none⟩ = some (.string (bs P)) := hcell 1 (by simp)
          have c2 : w2.cell? ⟨b, off + 2, none⟩ = some (.string (bs X)) := hcell 2 (by simp)
          have c3 : w2.cell? ⟨b, off + 3, none⟩ = some (.string (bs Y)) := hcell 3 (by simp)
          have hl3 : [K, P, X, Y].length = 4 := rfl
          rw [hl3]
          have hbG : b ≠ G := by have := HW3.out.2; omega
          have hb3 : b < w3.heap.size := by have := R3.out.2.1.size; omega
          clear hcell hl3 SW
          have ek := bs_toList K
          have ec := c_f
          have hXl : X.length ≤ 4194304 := HW.out X (by simp)
          have hYl : Y.length ≤ 4194304 := HW.out Y (by simp)
          by_cases hK : K = [102]
          · have hkb : (K == [102]) = true := by simpa using hK
            obtain ⟨nx, hnx⟩ : ∃ nx, numR X = nx := ⟨_, rfl⟩
            obtain ⟨ny, hny⟩ : ∃ ny, numR Y = ny := ⟨_, rfl⟩
            have HX : Hid (∀ W : World, Calls Tryz.prog 25 #[.string (bs X)] W fun e w' => e = .returned (.int .i64 nx) ∧ w' = W) := fun W => by rw [← hnx]; exact knumber_any X W (by omega)
            have HY : Hid (∀ W : World, Calls Tryz.prog 25 #[.string (bs Y)] W fun e w' => e = .returned (.int .i64 ny) ∧ w' = W) := fun W => by rw [← hny]; exact knumber_any Y W (by omega)
            have hfz : fileR [K, P, X, Y] = (⟨P, [], nx, ny⟩ : Fl) := by simp only [fileR, hK, if_true, hnx, hny]
            have d1 : w3.cell? ⟨b, off + 1, none⟩ = some (.string (bs P)) := (R3.out.2.1.cell (p := ⟨b, off + 1, none⟩) hbl).trans c1
            have d2 : w3.cell? ⟨b, off + 2, none⟩ = some (.string (bs X)) := (R3.out.2.1.cell (p := ⟨b, off + 2, none⟩) hbl).trans c2
            have d3 : w3.cell? ⟨b, off + 3, none⟩ = some (.string (bs Y)) := (R3.out.2.1.cell (p := ⟨b, off + 3, none⟩) hbl).trans c3
            rw [hfz] at HT HOK
            clear hfz hK hnx hny HW
            go_wp2_with fail
            rw [HW3.out.1, HW3.out.2]
            clear c0 c1 c2 c3
            obtain ⟨z0, z1, z2, z3, y0, y1, y2, y3⟩ := R3.out.1.box.cells
            go_region_held3 (fun w' => w'.cell? ⟨b, off + 1, none⟩ = some (.string (bs P)) ∧ w'.cell? ⟨b, off + 2, none⟩ = some (.string (bs X)) ∧ w'.cell? ⟨b, off + 3, none⟩ = some (.string (bs Y))) (first | (with_reducible exact ⟨cell_set4d hbG _ _ _ _ d1, cell_set4d hbG _ _ _ _ d2, cell_set4d hbG _ _ _ _ d3⟩) | go_keep) (first | (go_at_call 25; with_reducible refine (HX.out _).mono ?_; rintro e w4 ⟨rfl, rfl⟩) | (go_at_call 25; with_reducible refine (HY.out _).mono ?_; rintro e w4 ⟨rfl, rfl⟩))
            all_goals
              obtain ⟨w5, hw5⟩ : ∃ w5, ((((w3.setCell ⟨G, 0, none⟩ (.string (bs P))).setCell ⟨G, 1, none⟩ (.string (bs []))).setCell ⟨G, 2, none⟩ (.int .i64 nx)).setCell ⟨G, 3, none⟩ (.int .i64 ny)).drew = w5 := ⟨_, rfl⟩
              have R5 : Hid (RD w.heap.size w w5 u4 G ⟨P, [], nx, ny⟩ D) := by
                rw [← hw5]
                exact (R3.out.1.set ⟨P, [], nx, ny⟩).later (Below.refl _ _).drew (by have := R3.out.2.2; simp [World.setCell]; omega)
              have hw5' : ((((w3.setCell ⟨G, 0, none⟩ (.string (bs P))).setCell ⟨G, 1, none⟩ (.string ⟨#[]⟩)).setCell ⟨G, 2, none⟩ (.int .i64 nx)).setCell ⟨G, 3, none⟩ (.int .i64 ny)).drew = w5 := hw5
              rw [hw5']
              clear hw5 hw5' d1 d2 d3 z0 z1 z2 z3 y0 y1 y2 y3
              obtain ⟨z0, z1, z2, z3, y0, y1, y2, y3⟩ := R5.out.box.cells
              simp only at z0 z1 z2 z3
              have hzw := R5.out.bel.size
              have ln9 : (D ++ [(⟨P, [], nx, ny⟩ : Fl)]).length = nD + 1 := by rw [List.length_append, HND.out]; rfl
              by_cases hn5 : nD < 512
              · have hn6 : ¬ (512 : Int) < (nD : Int) + 1 := by omega
                go_wp2_with (at_builtin; refine app_files (base := w.heap.size) (l := D) (k := [(⟨P, [], nx, ny⟩ : Fl)]) (R5.out.own.later (balloc _ _)) (src_file _ (⟨P, [], nx, ny⟩ : Fl)) (by have := HND.out; simp; omega) (by simp; omega) rfl _ _ rfl rfl rfl ?_; intro v8 w8 ho8 hg8 hv8; obtain ⟨a8, c8, e8⟩ := ho8.form; rw [ln9] at e8; subst e8)
                go_roundw
                case rel => exact ⟨k + 1, k + 1, D ++ [(⟨P, [], nx, ny⟩ : Fl)], by omega, by omega, by go_num, by go_num, ho8, by omega, by simp, HT.out, (bstep R5.out.bel (balloc _ _)).grown hg8 (by simp; omega) (fun j hj => (R5.out.own.lt hj).1), fun f hf => by
                  rcases List.mem_append.1 hf with h | h
                  · exact HE.out.2.2 f h
                  · rw [List.mem_singleton.1 h]; exact HOK.out⟩
                case measure => simp [intOf]; omega
              · have hn6 : (512 : Int) < (nD : Int) + 1 := by omega
                have HNN : Hid (rd s = none) := rd_long s (by rw [← HT.out, List.length_append, ln9]; omega)
                go_wp2_with (at_builtin; refine app_files (base := w.heap.size) (l := D) (k := [(⟨P, [], nx, ny⟩ : Fl)]) (R5.out.own.later (balloc _ _)) (src_file _ (⟨P, [], nx, ny⟩ : Fl)) (by have := HND.out; simp; omega) (by simp; omega) rfl _ _ rfl rfl rfl ?_; intro v8 w8 ho8 hg8 hv8; obtain ⟨a8, c8, e8⟩ := ho8.form; rw [ln9] at e8; subst e8)
                go_ret2
                obtain ⟨e1, e2⟩ := HNo.out HNN.out
                refine ⟨_, by rw [e2]; rfl, by rw [e1]; exact OwnF.nil _ _, (bstep R5.out.bel (balloc _ _)).grown hg8 (by simp; omega) (fun j hj => (R5.out.own.lt hj).1)⟩
          · have hkb : (K == [102]) = false := by simpa using hK
            have hfz : fileR [K, P, X, Y] = zf := by simp [fileR, hK]
            clear hK
            rw [hfz] at HT HOK
            clear hfz R3 HW
            have ln9 : (D ++ [zf]).length = nD + 1 := by rw [List.length_append, HND.out]; rfl
            by_cases hn5 : nD < 512
            · have hn6 : ¬ (512 : Int) < (nD : Int) + 1 := by omega
              go_wp2_with (at_builtin; refine app_files (base := w.heap.size) (l := D) (k := [zf]) (O2.out.1.later (bstep (balloc _ _) (balloc _ _))) (src_file2 _ _ zf) (by have := HND.out; simp; omega) (by simp; omega) rfl _ _ rfl rfl rfl ?_; intro v8 w8 ho8 hg8 hv8; obtain ⟨a8, c8, e8⟩ := ho8.form; rw [ln9] at e8; subst e8)
              go_roundw
              case rel => exact ⟨k + 1, k + 1, D ++ [zf], by omega, by omega, by go_num, by go_num, ho8, by omega, by simp, HT.out, (bstep (bstep O2.out.2 (balloc _ _)) (balloc _ _)).grown hg8 (by simp; omega) (fun j hj => (O2.out.1.lt hj).1), fun f hf => by
                rcases List.mem_append.1 hf with h | h
                · exact HE.out.2.2 f h
                · rw [List.mem_singleton.1 h]; exact HOK.out⟩
              case measure => simp [intOf]; omega
            · have hn6 : (512 : Int) < (nD : Int) + 1 := by omega
              have HNN : Hid (rd s = none) := rd_long s (by rw [← HT.out, List.length_append, ln9]; omega)
              go_wp2_with (at_builtin; refine app_files (base := w.heap.size) (l := D) (k := [zf]) (O2.out.1.later (bstep (balloc _ _) (balloc _ _))) (src_file2 _ _ zf) (by have := HND.out; simp; omega) (by simp; omega) rfl _ _ rfl rfl rfl ?_; intro v8 w8 ho8 hg8 hv8; obtain ⟨a8, c8, e8⟩ := ho8.form; rw [ln9] at e8; subst e8)
              go_ret2
              obtain ⟨e1, e2⟩ := HNo.out HNN.out
              refine ⟨_, by rw [e2]; rfl, by rw [e1]; exact OwnF.nil _ _, (bstep (bstep O2.out.2 (balloc _ _)) (balloc _ _)).grown hg8 (by simp; omega) (fun j hj => (O2.out.1.lt hj).1)⟩
        | [], SW, HT, HW, HOK =>
          obtain ⟨a2, c2, e2, _⟩ := SW.out.form
          simp only [List.length_nil] at e2
          subst e2
          have hfz : fileR [] = zf := rfl
          rw [hfz] at HT HOK
          clear hfz R3 HW
          have ln9 : (D ++ [zf]).length = nD + 1 := by rw [List.length_append, HND.out]; rfl
          by_cases hn5 : nD < 512
          · have hn6 : ¬ (512 : Int) < (nD : Int) + 1 := by omega
            go_wp2_with (at_builtin; refine app_files (base := w.heap.size) (l := D) (k := [zf]) (O2.out.1.later (bstep (balloc _ _) (balloc _ _))) (src_file2 _ _ zf) (by have := HND.out; simp; omega) (by simp; omega) rfl _ _ rfl rfl rfl ?_; intro v8 w8 ho8 hg8 hv8; obtain ⟨a8, c8, e8⟩ := ho8.form; rw [ln9] at e8; subst e8)
            go_roundw
            case rel => exact ⟨k + 1, k + 1, D ++ [zf], by omega, by omega, by go_num, by go_num, ho8, by omega, by simp, HT.out, (bstep (bstep O2.out.2 (balloc _ _)) (balloc _ _)).grown hg8 (by simp; omega) (fun j hj => (O2.out.1.lt hj).1), fun f hf => by
              rcases List.mem_append.1 hf with h | h
              · exact HE.out.2.2 f h
              · rw [List.mem_singleton.1 h]; exact HOK.out⟩
            case measure => simp [intOf]; omega
          · have hn6 : (512 : Int) < (nD : Int) + 1 := by omega
            have HNN : Hid (rd s = none) := rd_long s (by rw [← HT.out, List.length_append, ln9]; omega)
            go_wp2_with (at_builtin; refine app_files (base := w.heap.size) (l := D) (k := [zf]) (O2.out.1.later (bstep (balloc _ _) (balloc _ _))) (src_file2 _ _ zf) (by have := HND.out; simp; omega) (by simp; omega) rfl _ _ rfl rfl rfl ?_; intro v8 w8 ho8 hg8 hv8; obtain ⟨a8, c8, e8⟩ := ho8.form; rw [ln9] at e8; subst e8)
            go_ret2
            obtain ⟨e1, e2⟩ := HNo.out HNN.out
            refine ⟨_, by rw [e2]; rfl, by rw [e1]; exact OwnF.nil _ _, (bstep (bstep O2.out.2 (balloc _ _)) (balloc _ _)).grown hg8 (by simp; omega) (fun j hj => (O2.out.1.lt hj).1)⟩
        | [K], SW, HT, HW, HOK =>
          obtain ⟨a2, c2, e2, _⟩ := SW.out.form
          have hl3 : [K].length = 1 := rfl
          rw [hl3] at e2
          subst e2
          have hfz : fileR [K] = zf := rfl
          rw [hfz] at HT HOK
          clear hfz R3 HW
          have ln9 : (D ++ [zf]).length = nD + 1 := by rw [List.length_append, HND.out]; rfl
          by_cases hn5 : nD < 512
          · have hn6 : ¬ (512 : Int) < (nD : Int) + 1 := by omega
            go_wp2_with (at_builtin; refine app_files (base := w.heap.size) (l := D) (k := [zf]) (O2.out.1.later (bstep (balloc _ _) (balloc _ _))) (src_file2 _ _ zf) (by have := HND.out; simp; omega) (by simp; omega) rfl _ _ rfl rfl rfl ?_; intro v8 w8 ho8 hg8 hv8; obtain ⟨a8, c8, e8⟩ := ho8.form; rw [ln9] at e8; subst e8)
            go_roundw
            case rel => exact ⟨k + 1, k + 1, D ++ [zf], by omega, by omega, by go_num, by go_num, ho8, by omega, by simp, HT.out, (bstep (bstep O2.out.2 (balloc _ _)) (balloc _ _)).grown hg8 (by simp; omega) (fun j hj => (O2.out.1.lt hj).1), fun f hf => by
              rcases List.mem_append.1 hf with h | h
              · exact HE.out.2.2 f h
              · rw [List.mem_singleton.1 h]; exact HOK.out⟩
            case measure => simp [intOf]; omega
          · have hn6 : (512 : Int) < (nD : Int) + 1 := by omega
            have HNN : Hid (rd s = none) := rd_long s (by rw [← HT.out, List.length_append, ln9]; omega)
            go_wp2_with (at_builtin; refine app_files (base := w.heap.size) (l := D) (k := [zf]) (O2.out.1.later (bstep (balloc _ _) (balloc _ _))) (src_file2 _ _ zf) (by have := HND.out; simp; omega) (by simp; omega) rfl _ _ rfl rfl rfl ?_; intro v8 w8 ho8 hg8 hv8; obtain ⟨a8, c8, e8⟩ := ho8.form; rw [ln9] at e8; subst e8)
            go_ret2
            obtain ⟨e1, e2⟩ := HNo.out HNN.out
            refine ⟨_, by rw [e2]; rfl, by rw [e1]; exact OwnF.nil _ _, (bstep (bstep O2.out.2 (balloc _ _)) (balloc _ _)).grown hg8 (by simp; omega) (fun j hj => (O2.out.1.lt hj).1)⟩
        | [K, P], SW, HT, HW, HOK =>
          obtain ⟨a2, c2, e2, _⟩ := SW.out.form
          have hl3 : [K, P].length = 2 := rfl
          rw [hl3] at e2
          subst e2
          have hfz : fileR [K, P] = zf := rfl
          rw [hfz] at HT HOK
          clear hfz R3 HW
          have ln9 : (D ++ [zf]).length = nD + 1 := by rw [List.length_append, HND.out]; rfl
          by_cases hn5 : nD < 512
          · have hn6 : ¬ (512 : Int) < (nD : Int) + 1 := by omega
            go_wp2_with (at_builtin; refine app_files (base := w.heap.size) (l := D) (k := [zf]) (O2.out.1.later (bstep (balloc _ _) (balloc _ _))) (src_file2 _ _ zf) (by have := HND.out; simp; omega) (by simp; omega) rfl _ _ rfl rfl rfl ?_; intro v8 w8 ho8 hg8 hv8; obtain ⟨a8, c8, e8⟩ := ho8.form; rw [ln9] at e8; subst e8)
            go_roundw
            case rel => exact ⟨k + 1, k + 1, D ++ [zf], by omega, by omega, by go_num, by go_num, ho8, by omega, by simp, HT.out, (bstep (bstep O2.out.2 (balloc _ _)) (balloc _ _)).grown hg8 (by simp; omega) (fun j hj => (O2.out.1.lt hj).1), fun f hf => by
              rcases List.mem_append.1 hf with h | h
              · exact HE.out.2.2 f h
              · rw [List.mem_singleton.1 h]; exact HOK.out⟩
            case measure => simp [intOf]; omega
          · have hn6 : (512 : Int) < (nD : Int) + 1 := by omega
            have HNN : Hid (rd s = none) := rd_long s (by rw [← HT.out, List.length_append, ln9]; omega)
            go_wp2_with (at_builtin; refine app_files (base := w.heap.size) (l := D) (k := [zf]) (O2.out.1.later (bstep (balloc _ _) (balloc _ _))) (src_file2 _ _ zf) (by have := HND.out; simp; omega) (by simp; omega) rfl _ _ rfl rfl rfl ?_; intro v8 w8 ho8 hg8 hv8; obtain ⟨a8, c8, e8⟩ := ho8.form; rw [ln9] at e8; subst e8)
            go_ret2
            obtain ⟨e1, e2⟩ := HNo.out HNN.out
            refine ⟨_, by rw [e2]; rfl, by rw [e1]; exact OwnF.nil _ _, (bstep (bstep O2.out.2 (balloc _ _)) (balloc _ _)).grown hg8 (by simp; omega) (fun j hj => (O2.out.1.lt hj).1)⟩
        | K :: P :: X :: Y :: Z :: Wr, SW, HT, HW, HOK =>
          obtain ⟨a2, c2, e2, _⟩ := SW.out.form
          have hfz : fileR (K :: P :: X :: Y :: Z :: Wr) = zf := rfl
          obtain ⟨q, hq⟩ : ∃ q, (K :: P :: X :: Y :: Z :: Wr).length = q := ⟨_, rfl⟩
          rw [hq] at e2
          subst e2
          have q3 : ((q : Int) == 3) = false := by rw [beq_eq_false_iff_ne]; simp at hq; omega
          have q4 : ((q : Int) == 4) = false := by rw [beq_eq_false_iff_ne]; simp at hq; omega
          clear hq
          rw [hfz] at HT HOK
          clear hfz R3 HW
          have ln9 : (D ++ [zf]).length = nD + 1 := by rw [List.length_append, HND.out]; rfl
          by_cases hn5 : nD < 512
          · have hn6 : ¬ (512 : Int) < (nD : Int) + 1 := by omega
            go_wp2_with (at_builtin; refine app_files (base := w.heap.size) (l := D) (k := [zf]) (O2.out.1.later (bstep (balloc _ _) (balloc _ _))) (src_file2 _ _ zf) (by have := HND.out; simp; omega) (by simp; omega) rfl _ _ rfl rfl rfl ?_; intro v8 w8 ho8 hg8 hv8; obtain ⟨a8, c8, e8⟩ := ho8.form; rw [ln9] at e8; subst e8)
            go_roundw
            case rel => exact ⟨k + 1, k + 1, D ++ [zf], by omega, by omega, by go_num, by go_num, ho8, by omega, by simp, HT.out, (bstep (bstep O2.out.2 (balloc _ _)) (balloc _ _)).grown hg8 (by simp; omega) (fun j hj => (O2.out.1.lt hj).1), fun f hf => by
              rcases List.mem_append.1 hf with h | h
              · exact HE.out.2.2 f h
              · rw [List.mem_singleton.1 h]; exact HOK.out⟩
            case measure => simp [intOf]; omega
          · have hn6 : (512 : Int) < (nD : Int) + 1 := by omega
            have HNN : Hid (rd s = none) := rd_long s (by rw [← HT.out, List.length_append, ln9]; omega)
            go_wp2_with (at_builtin; refine app_files (base := w.heap.size) (l := D) (k := [zf]) (O2.out.1.later (bstep (balloc _ _) (balloc _ _))) (src_file2 _ _ zf) (by have := HND.out; simp; omega) (by simp; omega) rfl _ _ rfl rfl rfl ?_; intro v8 w8 ho8 hg8 hv8; obtain ⟨a8, c8, e8⟩ := ho8.form; rw [ln9] at e8; subst e8)
            go_ret2
            obtain ⟨e1, e2⟩ := HNo.out HNN.out
            refine ⟨_, by rw [e2]; rfl, by rw [e1]; exact OwnF.nil _ _, (bstep (bstep O2.out.2 (balloc _ _)) (balloc _ _)).grown hg8 (by simp; omega) (fun j hj => (O2.out.1.lt hj).1)⟩
      · skip
        have HS : Hid ((10 : UInt8) ∉ (s.drop m).take (k + 1 - m)) := by
          show _ ∉ _
          rw [drop_take_snoc s m k hm hkl]
          intro h
          rcases List.mem_append.1 h with h | h
          · exact HE.out.1 h
          · exact hc (List.mem_singleton.1 h).symm
        obtain ⟨X, hX⟩ : ∃ X, (s[k]'hkl).toNat = X := ⟨_, rfl⟩
        have hX10 : ((X : Int) == 10) = false := by
          rw [beq_eq_false_iff_ne]
          intro e
          apply hc
          apply UInt8.toNat_inj.1
          rw [hX]
          exact Int.ofNat.inj e
        have q1 : ∀ W : World, (Instr.index 9 (.string (bs s)) (.int .i64 (k : Nat))).run Tryz.prog W = .ok (.int .u8 (X : Nat)) W := fun W => by rw [idx_run W s k hkl, hX]
        clear hc hX
        go_wp2_with fail
        go_roundw
        case rel => exact ⟨k + 1, m, D, by omega, by omega, by go_num, rfl, HO.out, hD, HS.out, HE.out.2.1, HB.out, HE.out.2.2⟩
        case measure => simp [intOf]; omega
    · obtain rfl : k = n := by omega
      have HD : Hid (D = rdR s) := by
        have h := HE.out.2.1
        rw [rdR_end s m (by have h1 := HE.out.1; rw [List.take_of_length_le (by have := HN.out; simp; omega)] at h1; exact h1), List.append_nil] at h
        exact h
      have HRd : Hid (rd s = if stand D = true ∧ prt D = s then some D else none) := by rw [HD.out]; exact rd_R s
      have HSm : Hid (FSm D) := ⟨by omega, HE.out.2.2⟩
      have HK : Hid (Calls Tryz.prog 6 #[u4] w1 fun e w' => e = .returned (.tuple #[.string (bs (if validE D = 0 then prt D else [])), .int .i64 (validE D)]) ∧ Below w1.heap.size w1 w') := kprint_any HO.out.fs HSm.out
      clear hD
      by_cases hv : validE D = 0
      · rw [if_pos hv, hv] at HK
        have hst : stand D = true := (validE_zero D).1 hv
        obtain ⟨Pt, hPt⟩ : ∃ Pt, prt D = Pt := ⟨_, rfl⟩
        rw [hPt] at HK HRd
        have e1 := bs_toList Pt
        have e2 := bs_toList s
        by_cases hps : Pt = s
        · have hb9 : (Pt == s) = true := by simpa using hps
          have HA : Hid (R = D ∧ A = 0) := by
            have h := HRA.out
            rw [HRd.out, if_pos ⟨hst, hps⟩] at h
            exact ⟨h.1.symm, h.2.symm⟩
          clear hps hPt hst hv
          go_wp2_with fail
          refine HK.out.mono ?_
          rintro e w2 ⟨rfl, hb2⟩
          have H2 : Hid (OwnF w.heap.size w2 u4 D ∧ Below w.heap.size w w2) := ⟨HO.out.later hb2, bstep HB.out hb2⟩
          clear hb2
          go_wp2_with fail
          go_ret2
          exact ⟨_, by rw [HA.out.2]; rfl, by rw [HA.out.1]; exact H2.out.1, H2.out.2⟩
        · have hb9 : (Pt == s) = false := by simpa using hps
          have HA : Hid (R = [] ∧ A = 18) := HNo.out (by rw [HRd.out, if_neg (fun h => hps h.2)])
          clear hps hPt hst hv
          go_wp2_with fail
          refine HK.out.mono ?_
          rintro e w2 ⟨rfl, hb2⟩
          have H2 : Hid (Below w.heap.size w w2) := bstep HB.out hb2
          clear hb2
          go_wp2_with fail
          go_ret2
          exact ⟨_, by rw [HA.out.2]; rfl, by rw [HA.out.1]; exact OwnF.nil _ _, H2.out⟩
      · rw [if_neg hv] at HK
        have HA : Hid (R = [] ∧ A = 18) := HNo.out (by rw [HRd.out, if_neg (fun h => hv ((validE_zero D).2 h.1))])
        have hd : (validE D == 0) = false := by simpa using hv
        generalize validE D = V at *
        go_wp2_with fail
        refine HK.out.mono ?_
        rintro e w2 ⟨rfl, hb2⟩
        have H2 : Hid (Below w.heap.size w w2) := bstep HB.out hb2
        clear hb2
        go_wp2_with fail
        go_ret2
        exact ⟨_, by rw [HA.out.2]; rfl, by rw [HA.out.1]; exact OwnF.nil _ _, H2.out⟩
end Go.Proofs.YtgibjnfaagnbfadGreatDoor
