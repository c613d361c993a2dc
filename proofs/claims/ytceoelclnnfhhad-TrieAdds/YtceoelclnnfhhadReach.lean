/-
  Down to what is at a path.
-/
import Derived.Test.YtceoelclnnfhhadEnter
import Derived.Test.YtceoelclnnfhhadSplit
import Derived.Test.YtceoelclnnfhhadTri5
namespace Go.Proofs.Ytceoelclnnfhhad
open Go.RowKit

theorem SS.at {w : World} {a : Option Addr} {c : Nat} {l : List (List UInt8)} (h : SS w (.slice a l.length c) l) {wr : World} (hb : Below w.heap.size w wr) {k : Nat} (hk : k < l.length) : ∃ b off, a = some ⟨b, off, none⟩ ∧ b < w.heap.size ∧ wr.cell? ⟨b, off + k, none⟩ = some (.string (bs l[k])) := by
  obtain ⟨a', c', e, hf⟩ := h.form
  obtain ⟨b, off, ha, hlt, h0⟩ := hf k hk
  injection e with e1 e2 e3
  subst e1
  exact ⟨b, off, ha, hlt, (hb.cell (p := ⟨b, off + k, none⟩) hlt).trans h0⟩
/-- a tree's block -/
structure TB (w : World) (t r : Nat) : Prop where
  blk : w.heap[t]? = some (.cells #[.pointer (some ⟨r, 0, none⟩)] 48 (0, 0))
theorem TB.lt {w : World} {t r : Nat} (h : TB w t r) : t < w.heap.size := (Array.getElem?_eq_some_iff.1 h.blk).1
theorem TB.cell {w : World} {t r : Nat} (h : TB w t r) : w.cell? ⟨t, 0, none⟩ = some (.pointer (some ⟨r, 0, none⟩)) := by simp [World.cell?, h.blk]
theorem TB.block {w w' : World} {t r : Nat} (h : TB w t r) (e : w'.heap[t]? = w.heap[t]?) : TB w' t r := ⟨e.trans h.blk⟩
theorem TB.later {w w' : World} {t r : Nat} (h : TB w t r) (hb : Below w.heap.size w w') : TB w' t r := h.block (hb.block t h.lt)

/-- where a walk ends -/
def rq (L : List Fl) (p : List UInt8) : Q × Bool := if okP p then rch (st L) [] (pcs p) else ([], false)

theorem pcs_each (l : List UInt8) (h : okP l = true) {k : Nat} (hk : k < (pcs l).length) : ((pcs l)[k]'hk).length ≤ 140737488355328 := by
  have h2 := List.all_eq_true.1 (okP_all h) _ (List.getElem_mem hk)
  have := okC_le h2; omega

set_option maxRecDepth 100000 in
set_option maxHeartbeats 4000000 in
theorem reach_any {w : World} {A M : Q → Nat} {N t : Nat} {F : Nat → Prop} {L : List Fl} (hg : Good L) (h : Hp w A M N F (st L) (keys (st L))) (ht : TB w t (A [])) (p : List UInt8) (hp : p.length ≤ 140737488355328) :
    Calls Try.prog 39 #[.pointer (some ⟨t, 0, none⟩), .string (bs p)] w fun e w' => e = .returned (.tuple #[.pointer (some ⟨A (rq L p).1, 0, none⟩), .bool (rq L p).2]) ∧ Below w.heap.size w w' := by
  have c0 := ht.cell
  cases ho : okP p
  · have e0 : rq L p = ([], false) := by unfold rq; rw [ho]; rfl
    rw [e0]
    simp only
    clear h hg ht e0
    go_enter Try.func39, Try.ntmps39
    go_wp2_with fail
    refine (valid_any p _ (by omega)).mono ?_
    rintro e w1 ⟨rfl, hb1⟩
    rw [ho]
    have HB : Hid (Below w.heap.size w w1) := hb1
    clear hb1
    go_wp2_with fail
    go_ret2
    exact ⟨rfl, HB.out⟩
  · obtain ⟨R, hR⟩ : ∃ R, rq L p = R := ⟨_, rfl⟩
    rw [hR]
    have HR : Hid (rch (st L) [] (pcs p) = R ∧ okP p = true) := by
      refine ⟨?_, ho⟩
      rw [← hR]; unfold rq; rw [ho]; rfl
    have H : Hid (Hp w A M N F (st L) (keys (st L)) ∧ Good L) := ⟨h, hg⟩
    obtain ⟨r1, r2⟩ := R
    simp only
    clear h hg ht hR
    have hpl := (okP_len ho).2
    rw [← dep_eq] at hpl
    go_enter Try.func39, Try.ntmps39
    go_wp2_with fail
    refine (valid_any p _ (by omega)).mono ?_
    rintro e w1 ⟨rfl, hb1⟩
    rw [ho]
    have HB1 : Hid (Below w.heap.size w w1) := hb1
    clear hb1
    go_wp2_with fail
    refine (split_any p _ (by have h9 := (okP_len ho).1; omega)).mono ?_
    rintro e w2 ⟨v, rfl, ho2, hb2⟩
    have HB2 : Hid (Below w.heap.size w w2) := bstep HB1.out hb2
    obtain ⟨a, c, rfl, _⟩ := ho2.bs.form
    have HS : Hid (SS w2 (.slice a (pcs p).length c) (pcs p)) := ho2.bs
    rename_i q1
    clear q1 ho2 hb2
    obtain ⟨n, hn⟩ : ∃ n, (pcs p).length = n := ⟨_, rfl⟩
    rw [hn] at hpl ⊢
    have HN : Hid ((pcs p).length = n) := hn
    clear hn
    go_wp2_with fail
    go_loopw [4, 21] (fun x i wr => ∃ (k : Nat) (d : Q), k ≤ n ∧ i = .int .i64 k ∧ x = .pointer (some ⟨A d, 0, none⟩) ∧ (st L d).isSome = true ∧ rch (st L) d ((pcs p).drop k) = (r1, r2) ∧ Below w2.heap.size w2 wr) (fun _ i _ => n - (intOf i).toNat)
    case atStart => exact ⟨0, [], by omega, rfl, rfl, by rw [st_root H.out.2]; rfl, HR.out.1, Below.refl _ _⟩
    case round =>
      obtain ⟨k, d, hk, rfl, rfl, hd, hr, hb⟩ := hrel
      have HB : Hid (Below w2.heap.size w2 wr) := hb
      have HD : Hid ((st L d).isSome = true ∧ rch (st L) d ((pcs p).drop k) = (r1, r2)) := ⟨hd, hr⟩
      have HH : Hid (Hp wr A M N F (st L) (keys (st L))) := H.out.1.later (bstep HB2.out hb)
      clear hb hd hr
      by_cases hlt : k < n
      · have hkl : k < (pcs p).length := by have := HN.out; omega
        obtain ⟨b, off, ea, hbw, d0⟩ := SS.at HS.out HB.out hkl
        subst ea
        have hnl := pcs_each p HR.out.2 hkl
        have HX : Hid (rch (st L) d ((pcs p)[k]'hkl :: (pcs p).drop (k + 1)) = (r1, r2)) := by
          have := HD.out.2
          rw [List.drop_eq_getElem_cons hkl] at this; exact this
        obtain ⟨x, hx⟩ : ∃ x, (pcs p)[k]'hkl = x := ⟨_, rfl⟩
        rw [hx] at d0 hnl HX
        clear hx
        have k1 : (0 : Int) ≤ (k : Int) := by omega
        have k2 : (k : Int) < (n : Int) := by omega
        cases es : (st L (d ++ [x])).isSome
        · have HE : Hid ((d, false) = (r1, r2)) := by
            have := HX.out
            rw [rch, es] at this; exact this
          cases ed : st L d with
          | none => have := HD.out.1; rw [ed] at this; cases this
          | some y =>
            cases y with
            | file s =>
              obtain ⟨c1, _⟩ := (HH.out.files d s ed).1.cells
              have hl := look_nil wr hnl true
              simp only [if_true] at hl
              go_wp2_with fail
              go_ret2
              refine ⟨?_, bstep HB2.out HB.out⟩
              have := HE.out
              injection this with e1 e2
              rw [← e1, ← e2]; rfl
            | dir cc aa oo =>
              obtain ⟨hnd, hmp, _⟩ := HH.out.dirs d cc aa oo ed
              obtain ⟨c1, _⟩ := hnd.cells
              have hl := hmp.look hnl true
              have ek : keys (st L) d x = false := es
              simp only [ek, pv, if_true, Bool.false_eq_true, if_false, Option.isSome_none] at hl
              clear hnd hmp ek
              go_wp2_with fail
              go_ret2
              refine ⟨?_, bstep HB2.out HB.out⟩
              have := HE.out
              injection this with e1 e2
              rw [← e1, ← e2]; rfl
        · have HE : Hid (rch (st L) (d ++ [x]) ((pcs p).drop (k + 1)) = (r1, r2)) := by
            have := HX.out
            rw [rch, es] at this; exact this
          have ed := st_up H.out.2 es
          obtain ⟨hnd, hmp, _⟩ := HH.out.dirs d _ _ _ ed
          obtain ⟨c1, _⟩ := hnd.cells
          have hl := hmp.look hnl true
          have ek : keys (st L) d x = true := es
          simp only [ek, pv, if_true, Option.isSome_some] at hl
          have HES : Hid ((st L (d ++ [x])).isSome = true) := es
          clear hnd hmp ek ed es
          go_wp2_with fail
          go_roundw
          case rel => exact ⟨k + 1, d ++ [x], by omega, by go_num, rfl, HES.out, HE.out, HB.out⟩
          case measure => simp [intOf]; omega
      · obtain rfl : k = n := by omega
        go_wp2_with fail
        go_ret2
        refine ⟨?_, bstep HB2.out HB.out⟩
        have := HD.out.2
        rw [List.drop_eq_nil_of_le (by have := HN.out; omega), rch] at this
        injection this with e1 e2
        rw [← e1, ← e2]; rfl
end Go.Proofs.Ytceoelclnnfhhad
