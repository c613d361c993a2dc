/-
  Changes turned back, from nothing, their paths.
-/
import Derived.Test.YtinhdjoidbcfaaaHeld
import Derived.Laws.OwnMore
import Derived.Laws.MakeOwn
namespace Go.Proofs.Ytinhdjoidbcfaaa
open Go.RowKit

theorem src_ch2 (w : World) (o : Obj) (c : Ch) : Src Try.prog 11 23 (.slice (some ⟨w.heap.size + 1, 0, none⟩) 1 1) [c].length (cc [c]) ((w.alloc o).alloc (.cells #[.string (bs c.path), .bool c.had, .bool c.has, .string (bs c.old.path), .string (bs c.old.text), .int .i64 c.old.blob, .int .i64 c.old.size, .string (bs c.new.path), .string (bs c.new.text), .int .i64 c.new.blob, .int .i64 c.new.size] 42)) := by
  have h := src_ch (w.alloc o) c
  rw [show (w.alloc o).heap.size = w.heap.size + 1 by simp] at h
  exact h
theorem src_one2 (w : World) (o : Obj) (p : List UInt8) : Src Try.prog 1 37 (.slice (some ⟨w.heap.size + 1, 0, none⟩) 1 1) [p].length (sc [p]) ((w.alloc o).alloc (.cells #[.string (bs p)] 9)) := by
  have h := src_one (w.alloc o) p
  rw [show (w.alloc o).heap.size = w.heap.size + 1 by simp] at h
  exact h
def pths (d : List Ch) : List (List UInt8) := d.map Ch.path

theorem invert_take (l : List Ch) (k : Nat) (h : k < l.length) : inv (l.take (k + 1)) = inv (l.take k) ++ [cv (l[k]'h)] := by
  unfold inv
  rw [List.take_add_one, List.getElem?_eq_getElem h, Option.toList_some, List.map_append]; rfl
theorem invert_len (l : List Ch) : (inv l).length = l.length := by simp [inv]
set_option maxRecDepth 100000 in
set_option maxHeartbeats 4000000 in
theorem invert_any {w : World} {v : Value} {l : List Ch} (h : CS w v l) (hl : l.length * 120 ≤ 140737488355328) :
    Calls Try.prog 11 #[v] w fun e w' => ∃ v', e = .returned v' ∧ OwnC w.heap.size w' v' (inv l) ∧ Below w.heap.size w w' := by
  have H : Hid (CS w v l) := h
  obtain ⟨a, c, rfl⟩ : ∃ a c, v = .slice a l.length c := h.shape
  clear h
  obtain ⟨n, hn⟩ : ∃ n, l.length = n := ⟨_, rfl⟩
  have H' : Hid (CS w (.slice a l.length c) l) := H.out
  clear H
  rw [hn] at hl ⊢
  have HN : Hid (l.length = n) := hn
  clear hn
  obtain ⟨i0, hi, hz0, hz1, hz2⟩ := info_parts info42
  obtain ⟨w1, hmk, hown0, hg0⟩ := run_make_own (P := Try.prog) (w := w) w.heap.size 23 42 i0 _ 11 und23 hi hz0 hz1 .i64 .i64 n (by rw [hz2]; omega) (by unfold maxLen; omega) (Nat.le_refl _)
  have HO0 : Hid (OwnC w.heap.size w1 (.slice (some ⟨w.heap.size, 0, none⟩) 0 n) []) := hown0
  have HB1 : Hid (Below w.heap.size w w1) := (Below.refl _ _).grown hg0 (Nat.le_refl _) (by simp)
  clear hown0 hg0 hi hz0 hz1 hz2
  go_enter Try.func11, Try.ntmps11
  go_wp2_with fail
  clear hmk
  go_loopw [3, 11] (fun o i wr => ∃ k : Nat, k ≤ n ∧ i = .int .i64 k ∧ OwnC w.heap.size wr o (inv (l.take k)) ∧ Below w.heap.size w wr) (fun _ i _ => n - (intOf i).toNat)
  case atStart => exact ⟨0, by omega, rfl, by simpa [inv] using HO0.out, HB1.out⟩
  case round =>
    obtain ⟨k, hk, rfl, ho, hb⟩ := hrel
    have HO : Hid (OwnC w.heap.size wr u3 (inv (l.take k))) := ho
    have HB : Hid (Below w.heap.size w wr) := hb
    clear ho hb
    by_cases hlt : k < n
    · have hkl : k < l.length := by have := HN.out; omega
      obtain ⟨b, off, ea, hbw, _, d0, d1, d2, d3, d4, d5, d6, d7, d8, d9, d10⟩ := CS.at H'.out HB.out hkl
      subst ea
      have HT : Hid (inv (l.take (k + 1)) = inv (l.take k) ++ [cv (l[k]'hkl)]) := invert_take l k hkl
      generalize hf : l[k] = f at d0 d1 d2 d3 d4 d5 d6 d7 d8 d9 d10 HT
      clear hf
      obtain ⟨p, ha, hb, ⟨q, t, bl, s⟩, ⟨r, y, dd, z⟩⟩ := f
      simp only at d0 d1 d2 d3 d4 d5 d6 d7 d8 d9 d10
      have HZ : Hid ((inv (l.take k)).length ≤ k) := by show _ ≤ _; rw [invert_len]; simp; omega
      generalize inv (l.take k) = I at *
      have k1 : (0 : Int) ≤ (k : Int) := by omega
      have k2 : (k : Int) < (n : Int) := by omega
      have hlt2 : b < wr.heap.size := Nat.lt_of_lt_of_le hbw HB.out.size
      go_wp2_with (first | (at_builtin; go_loud (refine app_chs (base := w.heap.size) (l := I) (k := [(⟨p, hb, ha, ⟨r, y, dd, z⟩, ⟨q, t, bl, s⟩⟩ : Ch)]) (HO.out.later (bstep (balloc _ _) (balloc _ _))) (src_ch2 wr _ (⟨p, hb, ha, ⟨r, y, dd, z⟩, ⟨q, t, bl, s⟩⟩ : Ch)) (by have := HZ.out; simp; omega) (by have := HB.out.size; simp; omega) rfl (.tmp 15) (.tmp 27) rfl rfl rfl ?_); intro v2 w2 ho2 hg2 hv2))
      have H2 : Hid (OwnC w.heap.size w2 v2 (I ++ [(⟨p, hb, ha, ⟨r, y, dd, z⟩, ⟨q, t, bl, s⟩⟩ : Ch)]) ∧ Below w.heap.size w w2) := ⟨ho2, (bstep HB.out (bstep (balloc _ _) (balloc _ _))).grown hg2 (by have := HB.out.size; simp; omega) (fun k hk => (HO.out.lt hk).1)⟩
      clear ho2 hg2 hv2
      go_wp2_with fail
      go_roundw
      case rel => exact ⟨k + 1, by omega, by go_num, by rw [HT.out]; exact H2.out.1, H2.out.2⟩
      case measure => simp [intOf]; omega
    · obtain rfl : k = n := by omega
      have HE : Hid (inv (l.take k) = inv l) := by show inv (l.take k) = inv l; rw [List.take_of_length_le (by have := HN.out; omega)]
      go_wp2_with fail
      go_ret
      exact ⟨_, rfl, by rw [← HE.out]; exact HO.out, HB.out⟩


theorem from_take (l : List Fl) (k : Nat) (h : k < l.length) : frm (l.take (k + 1)) = frm (l.take k) ++ [(⟨(l[k]'h).path, false, true, zf, (l[k]'h)⟩ : Ch)] := by
  unfold frm
  rw [List.take_add_one, List.getElem?_eq_getElem h, Option.toList_some, List.map_append]; rfl
theorem from_len (l : List Fl) : (frm l).length = l.length := by simp [frm]
set_option maxRecDepth 100000 in
set_option maxHeartbeats 4000000 in
theorem from_any {w : World} {v : Value} {l : List Fl} (h : FS w v l) (hl : l.length * 120 ≤ 140737488355328) :
    Calls Try.prog 34 #[v] w fun e w' => ∃ v', e = .returned v' ∧ OwnC w.heap.size w' v' (frm l) ∧ Below w.heap.size w w' := by
  have H : Hid (FS w v l) := h
  obtain ⟨a, c, rfl⟩ : ∃ a c, v = .slice a l.length c := (by obtain ⟨a, c, h, _⟩ := h.form; exact ⟨a, c, h⟩)
  clear h
  obtain ⟨n, hn⟩ : ∃ n, l.length = n := ⟨_, rfl⟩
  have H' : Hid (FS w (.slice a l.length c) l) := H.out
  clear H
  rw [hn] at hl ⊢
  have HN : Hid (l.length = n) := hn
  clear hn
  obtain ⟨i0, hi, hz0, hz1, hz2⟩ := info_parts info42
  obtain ⟨w1, hmk, hown0, hg0⟩ := run_make_own (P := Try.prog) (w := w) w.heap.size 23 42 i0 _ 11 und23 hi hz0 hz1 .i64 .i64 n (by rw [hz2]; omega) (by unfold maxLen; omega) (Nat.le_refl _)
  have HO0 : Hid (OwnC w.heap.size w1 (.slice (some ⟨w.heap.size, 0, none⟩) 0 n) []) := hown0
  have HB1 : Hid (Below w.heap.size w w1) := (Below.refl _ _).grown hg0 (Nat.le_refl _) (by simp)
  clear hown0 hg0 hi hz0 hz1 hz2
  go_enter Try.func34, Try.ntmps34
  go_wp2_with fail
  clear hmk
  go_loopw [3, 11] (fun o i wr => ∃ k : Nat, k ≤ n ∧ i = .int .i64 k ∧ OwnC w.heap.size wr o (frm (l.take k)) ∧ Below w.heap.size w wr) (fun _ i _ => n - (intOf i).toNat)
  case atStart => exact ⟨0, by omega, rfl, by simpa [frm] using HO0.out, HB1.out⟩
  case round =>
    obtain ⟨k, hk, rfl, ho, hb⟩ := hrel
    have HO : Hid (OwnC w.heap.size wr u3 (frm (l.take k))) := ho
    have HB : Hid (Below w.heap.size w wr) := hb
    clear ho hb
    by_cases hlt : k < n
    · have hkl : k < l.length := by have := HN.out; omega
      obtain ⟨b, off, ea, hbw, d0, d1, d2, d3⟩ := FS.at H'.out HB.out hkl
      subst ea
      have HT : Hid (frm (l.take (k + 1)) = frm (l.take k) ++ [(⟨(l[k]'hkl).path, false, true, zf, (l[k]'hkl)⟩ : Ch)]) := from_take l k hkl
      generalize hf : l[k] = f at d0 d1 d2 d3 HT
      clear hf
      obtain ⟨p, t, bl, s⟩ := f
      simp only at d0 d1 d2 d3
      have HZ : Hid ((frm (l.take k)).length ≤ k) := by show _ ≤ _; rw [from_len]; simp; omega
      generalize frm (l.take k) = I at *
      have k1 : (0 : Int) ≤ (k : Int) := by omega
      have k2 : (k : Int) < (n : Int) := by omega
      have hlt2 : b < wr.heap.size := Nat.lt_of_lt_of_le hbw HB.out.size
      go_wp2_with (first | (at_builtin; go_loud (refine app_chs (base := w.heap.size) (l := I) (k := [(⟨p, false, true, zf, ⟨p, t, bl, s⟩⟩ : Ch)]) (HO.out.later (bstep (balloc _ _) (balloc _ _))) (src_ch2 wr _ (⟨p, false, true, zf, ⟨p, t, bl, s⟩⟩ : Ch)) (by have := HZ.out; simp; omega) (by have := HB.out.size; simp; omega) rfl (.tmp 15) (.tmp 20) rfl rfl rfl ?_); intro v2 w2 ho2 hg2 hv2))
      have H2 : Hid (OwnC w.heap.size w2 v2 (I ++ [(⟨p, false, true, zf, ⟨p, t, bl, s⟩⟩ : Ch)]) ∧ Below w.heap.size w w2) := ⟨ho2, (bstep HB.out (bstep (balloc _ _) (balloc _ _))).grown hg2 (by have := HB.out.size; simp; omega) (fun k hk => (HO.out.lt hk).1)⟩
      clear ho2 hg2 hv2
      go_wp2_with fail
      go_roundw
      case rel => exact ⟨k + 1, by omega, by go_num, by rw [HT.out]; exact H2.out.1, H2.out.2⟩
      case measure => simp [intOf]; omega
    · obtain rfl : k = n := by omega
      have HE : Hid (frm (l.take k) = frm l) := by show frm (l.take k) = frm l; rw [List.take_of_length_le (by have := HN.out; omega)]
      go_wp2_with fail
      go_ret
      exact ⟨_, rfl, by rw [← HE.out]; exact HO.out, HB.out⟩


theorem paths_take (l : List Ch) (k : Nat) (h : k < l.length) : pths (l.take (k + 1)) = pths (l.take k) ++ [(l[k]'h).path] := by
  unfold pths
  rw [List.take_add_one, List.getElem?_eq_getElem h, Option.toList_some, List.map_append]; rfl
theorem paths_len (l : List Ch) : (pths l).length = l.length := by simp [pths]
set_option maxRecDepth 100000 in
set_option maxHeartbeats 4000000 in
theorem paths_any {w : World} {v : Value} {l : List Ch} (h : CS w v l) (hl : l.length * 120 ≤ 140737488355328) :
    Calls Try.prog 16 #[v] w fun e w' => ∃ v', e = .returned v' ∧ Own w.heap.size w' v' (pths l) ∧ Below w.heap.size w w' := by
  have H : Hid (CS w v l) := h
  obtain ⟨a, c, rfl⟩ : ∃ a c, v = .slice a l.length c := h.shape
  clear h
  obtain ⟨n, hn⟩ : ∃ n, l.length = n := ⟨_, rfl⟩
  have H' : Hid (CS w (.slice a l.length c) l) := H.out
  clear H
  rw [hn] at hl ⊢
  have HN : Hid (l.length = n) := hn
  clear hn
  obtain ⟨i0, hi, hz0, hz1, hz2⟩ := info_parts info9
  obtain ⟨w1, hmk, hown0, hg0⟩ := run_make_own (P := Try.prog) (w := w) w.heap.size 37 9 i0 (.string ByteArray.empty) 1 und35 hi hz0 hz1 .i64 .i64 n (by rw [hz2]; omega) (by unfold maxLen; omega) (Nat.le_refl _)
  have HO0 : Hid (Own w.heap.size w1 (.slice (some ⟨w.heap.size, 0, none⟩) 0 n) []) := hown0
  have HB1 : Hid (Below w.heap.size w w1) := (Below.refl _ _).grown hg0 (Nat.le_refl _) (by simp)
  clear hown0 hg0 hi hz0 hz1 hz2
  go_enter Try.func16, Try.ntmps16
  go_wp2_with fail
  clear hmk
  go_loopw [3, 11] (fun o i wr => ∃ k : Nat, k ≤ n ∧ i = .int .i64 k ∧ Own w.heap.size wr o (pths (l.take k)) ∧ Below w.heap.size w wr) (fun _ i _ => n - (intOf i).toNat)
  case atStart => exact ⟨0, by omega, rfl, by simpa [pths] using HO0.out, HB1.out⟩
  case round =>
    obtain ⟨k, hk, rfl, ho, hb⟩ := hrel
    have HO : Hid (Own w.heap.size wr u3 (pths (l.take k))) := ho
    have HB : Hid (Below w.heap.size w wr) := hb
    clear ho hb
    by_cases hlt : k < n
    · have hkl : k < l.length := by have := HN.out; omega
      obtain ⟨b, off, ea, hbw, _, d0, d1, d2, d3, d4, d5, d6, d7, d8, d9, d10⟩ := CS.at H'.out HB.out hkl
      subst ea
      have HT : Hid (pths (l.take (k + 1)) = pths (l.take k) ++ [(l[k]'hkl).path]) := paths_take l k hkl
      generalize hf : l[k] = f at d0 d1 d2 d3 d4 d5 d6 d7 d8 d9 d10 HT
      clear hf
      obtain ⟨p, ha, hb, ⟨q, t, bl, s⟩, ⟨r, y, dd, z⟩⟩ := f
      simp only at d0 d1 d2 d3 d4 d5 d6 d7 d8 d9 d10
      have HZ : Hid ((pths (l.take k)).length ≤ k) := by show _ ≤ _; rw [paths_len]; simp; omega
      generalize pths (l.take k) = I at *
      have k1 : (0 : Int) ≤ (k : Int) := by omega
      have k2 : (k : Int) < (n : Int) := by omega
      have hlt2 : b < wr.heap.size := Nat.lt_of_lt_of_le hbw HB.out.size
      go_wp2_with (first | (at_builtin; go_loud (refine app_strs (base := w.heap.size) (l := I) (k := [p]) (HO.out.later (bstep (balloc _ _) (balloc _ _))) (src_one2 wr _ p) (by have := HZ.out; simp; omega) (by have := HB.out.size; simp; omega) rfl (.tmp 15) (.tmp 18) rfl rfl rfl ?_); intro v2 w2 ho2 hg2 hv2))
      have H2 : Hid (Own w.heap.size w2 v2 (I ++ [p]) ∧ Below w.heap.size w w2) := ⟨ho2, (bstep HB.out (bstep (balloc _ _) (balloc _ _))).grown hg2 (by have := HB.out.size; simp; omega) (fun k hk => (HO.out.lt hk).1)⟩
      clear ho2 hg2 hv2
      go_wp2_with fail
      go_roundw
      case rel => exact ⟨k + 1, by omega, by go_num, by rw [HT.out]; exact H2.out.1, H2.out.2⟩
      case measure => simp [intOf]; omega
    · obtain rfl : k = n := by omega
      have HE : Hid (pths (l.take k) = pths l) := by show pths (l.take k) = pths l; rw [List.take_of_length_le (by have := HN.out; omega)]
      go_wp2_with fail
      go_ret
      exact ⟨_, rfl, by rw [← HE.out]; exact HO.out, HB.out⟩

end Go.Proofs.Ytinhdjoidbcfaaa
