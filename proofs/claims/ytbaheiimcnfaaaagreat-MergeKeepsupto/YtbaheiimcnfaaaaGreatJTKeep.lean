/-
  Into a directory, made if it is not there.
  Pieces, the directory, and paths joined.
  Down to what is at a path.
  What no tree is made of stays.
-/
import Derived.Test.YtbaheiimcnfaaaaGreatTNods
import Derived.Test.YtbaheiimcnfaaaaGreatSr
import Derived.Test.YtbaheiimcnfaaaaGreatJKn3
import Derived.Test.YtbaheiimcnfaaaaGreatJNorm
import Derived.Test.YtbaheiimcnfaaaaGreatJMg4
import Derived.Test.YtbaheiimcnfaaaaGreatJSEq
namespace Go.Proofs.YtbaheiimcnfaaaaGreat
open Go.RowKit

set_option maxRecDepth 100000 in
set_option maxHeartbeats 1000000 in
theorem enter_some {w : World} {g b c a o N x : Nat} {F : List UInt8 → Option Nat} {n : List UInt8} (h : ND w g (some b) c a o) (hm : MP w N b F) (hF : F n = some x) (hn : n.length ≤ 1000000000) :
    Calls Tryz.prog 111 #[.pointer (some ⟨g, 0, none⟩), .string (bs n)] w fun e w' => e = .returned (.pointer (some ⟨x, 0, none⟩)) ∧ w' = w := by
  obtain ⟨c0, _⟩ := h.cells
  have hl := hm.look hn true
  rw [hF] at hl
  simp only [pv, Option.isSome_some, if_true] at hl
  clear h hm
  go_enter Tryz.func111, Tryz.ntmps111
  go_wp2_with fail
  go_ret
  exact ⟨rfl, rfl⟩
set_option maxRecDepth 100000 in
set_option maxHeartbeats 1000000 in
theorem enter_none {w : World} {g b c a o N : Nat} {F : List UInt8 → Option Nat} {n : List UInt8} (h : ND w g (some b) c a o) (hm : MP w N b F) (hF : F n = none) (hn : n.length ≤ 1000000000) (hN : N < 1099511627776) :
    Calls Tryz.prog 111 #[.pointer (some ⟨g, 0, none⟩), .string (bs n)] w fun e w' => ∃ g' b', e = .returned (.pointer (some ⟨g', 0, none⟩)) ∧ ND w' g' (some b') 0 0 0 ∧ MP w' 0 b' (fun _ => none) ∧ MP w' (N + 1) b (fun x => if x = n then some g' else F x) ∧ Only [b] w w' ∧ w.heap.size ≤ g' ∧ w.heap.size ≤ b' := by
  obtain ⟨c0, _⟩ := h.cells
  have hl := hm.look hn true
  rw [hF] at hl
  simp only [pv, Option.isSome_none, if_true] at hl
  have H : Hid (ND w g (some b) c a o ∧ MP w N b F ∧ n.length ≤ 1000000000 ∧ N < 1099511627776) := ⟨h, hm, hn, hN⟩
  clear h hm
  go_enter Tryz.func111, Tryz.ntmps111
  go_wp2_with fail
  refine (newDir_any _).mono ?_
  rintro e w1 ⟨g', b', rfl, h1, h2, h3, h4, h5⟩
  have H1 : Hid (ND w1 g' (some b') 0 0 0 ∧ MP w1 0 b' (fun _ => none) ∧ Below w.heap.size w w1 ∧ w.heap.size ≤ g' ∧ w.heap.size ≤ b') := ⟨h1, h2, h3, h4, h5⟩
  have d0 : w1.cell? ⟨g, 0, none⟩ = some (.map (some b)) := (h3.cell (p := ⟨g, 0, none⟩) H.out.1.lt).trans c0
  obtain ⟨w2, hs, hm2, ho2, hz2⟩ := (H.out.2.1.block (h3.block b H.out.2.1.lt)).store H.out.2.2.1 H.out.2.2.2 g'
  have H2 : Hid (MP w2 (N + 1) b (fun x => if x = n then some g' else F x) ∧ Only [b] w1 w2) := ⟨hm2, ho2⟩
  clear h1 h2 h3 h4 h5 c0 hl hm2 ho2 hz2
  go_wp2_with fail
  go_ret
  have hlb := H.out.2.1.lt
  obtain ⟨k1, k2, k3, k4, k5⟩ := H1.out
  refine ⟨g', b', rfl, k1.block (H2.out.2.block _ k1.lt (by simp; omega)), k2.block (H2.out.2.block _ k2.lt (by simp; omega)), H2.out.1, (Only.of_below k3 _).trans H2.out.2, k4, k5⟩
end Go.Proofs.YtbaheiimcnfaaaaGreat

namespace Go.Proofs.YtbaheiimcnfaaaaGreat
open Go.RowKit

theorem bs_addT (a b : List UInt8) : bs a ++ bs b = bs (a ++ b) := by
  apply ByteArray.ext; simp [bs]
set_option maxHeartbeats 1000000 in
set_option maxRecDepth 100000 in
theorem join_any (a b : List UInt8) (w : World) (ha : a.length < 9223372036854775807) (hb : b.length < 9223372036854775807) :
    Calls Tryz.prog 146 #[.string (bs a), .string (bs b)] w fun e w' => e = .returned (.tuple #[.string (bs (jn a b).1), .int .i64 (jn a b).2]) ∧ Below w.heap.size w w' := by
  have e0 : (bs a).toList.isEmpty = a.isEmpty := isE a
  have e1 : (bs b).toList.isEmpty = b.isEmpty := isE b
  obtain ⟨j, hj⟩ : ∃ j, jn a b = j := ⟨_, rfl⟩
  rw [hj]
  have HJ : Hid (jn a b = j) := hj
  clear hj
  have HL : Hid (a.length < 9223372036854775807 ∧ b.length < 9223372036854775807) := ⟨ha, hb⟩
  clear ha hb
  go_enter Tryz.func146, Tryz.ntmps146
  go_wp2_with fail
  refine (valid_any _ _ HL.out.1).mono ?_
  rintro e w1 ⟨rfl, hb1⟩
  have B1 : Hid (Below w.heap.size w w1) := hb1
  have hz1 := hb1.size
  clear hb1
  cases h1 : okP a
  · have hj := HJ.out
    have hj : ([], 7) = j := by rw [← hj]; simp [jn, h1]
    subst hj
    go_wp2_with fail
    go_ret2
    exact ⟨rfl, B1.out⟩
  go_wp2_with fail
  refine (valid_any _ _ HL.out.2).mono ?_
  rintro e w2 ⟨rfl, hb2⟩
  have B2 : Hid (Below w.heap.size w w2) := below_trans B1.out (below_mono hb2 hz1)
  have hz2 := B2.out.size
  clear hb2
  cases h2 : okP b
  · have hj := HJ.out
    have hj : ([], 7) = j := by rw [← hj]; simp [jn, h2]
    subst hj
    go_wp2_with fail
    go_ret2
    exact ⟨rfl, B2.out⟩
  have hj := HJ.out
  have hj : (if a = [] then (b, (0 : Int)) else if b = [] then (a, 0) else if okP (a ++ 47 :: b) = true then (a ++ 47 :: b, 0) else ([], 7)) = j := by rw [← hj]; simp [jn, h1, h2]
  have la : a.length ≤ 120 := by unfold okP at h1; simp only [Bool.and_eq_true, decide_eq_true_eq] at h1; exact h1.1.1
  have lb : b.length ≤ 120 := by unfold okP at h2; simp only [Bool.and_eq_true, decide_eq_true_eq] at h2; exact h2.1.1
  by_cases h3 : a = []
  · rw [if_pos h3] at hj
    subst hj
    subst h3
    go_wp2_with fail
    go_ret2
    exact ⟨rfl, B2.out⟩
  rw [if_neg h3] at hj
  have i0 : a.isEmpty = false := by cases a; exact absurd rfl h3; rfl
  rw [i0] at e0
  by_cases h4 : b = []
  · rw [if_pos h4] at hj
    subst hj
    subst h4
    go_wp2_with fail
    go_ret2
    exact ⟨rfl, B2.out⟩
  rw [if_neg h4] at hj
  have i1 : b.isEmpty = false := by cases b; exact absurd rfl h4; rfl
  rw [i1] at e1
  have z1 : (bs a).size = a.length := rfl
  have z2 : (bs b).size = b.length := rfl
  have hcat : bs a ++ (ByteArray.mk #[47]) ++ bs b = bs (a ++ 47 :: b) := by
    have : (ByteArray.mk #[47]) = bs [47] := rfl
    rw [this, bs_addT, bs_addT]; simp
  have HC : Hid (bs a ++ (ByteArray.mk #[47]) ++ bs b = bs (a ++ 47 :: b)) := hcat
  clear hcat
  go_wp2_with fail
  rw [HC.out]
  refine (valid_any _ _ (by simp; omega)).mono ?_
  rintro e w3 ⟨rfl, hb3⟩
  have B3 : Hid (Below w.heap.size w w3) := below_trans B2.out (below_mono hb3 hz2)
  clear hb3
  cases h5 : okP (a ++ 47 :: b)
  · rw [h5] at hj
    have hj : ([], (7 : Int)) = j := by rw [← hj]; rfl
    subst hj
    go_wp2_with fail
    go_ret2
    exact ⟨rfl, B3.out⟩
  · rw [h5] at hj
    have hj : (a ++ 47 :: b, (0 : Int)) = j := by rw [← hj]; rfl
    subst hj
    go_wp2_with fail
    go_ret2
    exact ⟨rfl, B3.out⟩
end Go.Proofs.YtbaheiimcnfaaaaGreat

namespace Go.Proofs.YtbaheiimcnfaaaaGreat
open Go.RowKit

theorem SS.at {w : World} {a : Option Addr} {c : Nat} {l : List (List UInt8)} (h : SS w (.slice a l.length c) l) {wr : World} (hb : Below w.heap.size w wr) {k : Nat} (hk : k < l.length) : ∃ b off, a = some ⟨b, off, none⟩ ∧ b < w.heap.size ∧ wr.cell? ⟨b, off + k, none⟩ = some (.string (bs l[k])) := by
  obtain ⟨a', c', e, hf⟩ := h.form
  obtain ⟨b, off, ha, hlt, h0⟩ := hf k hk
  injection e with e1 e2 e3
  subst e1
  exact ⟨b, off, ha, hlt, (hb.cell (p := ⟨b, off + k, none⟩) hlt).trans h0⟩
/-- a tree's block -/
structure TB (w : World) (t r : Nat) : Prop where
  blk : w.heap[t]? = some (.cells #[.pointer (some ⟨r, 0, none⟩)] 112 (0, 0))
theorem TB.lt {w : World} {t r : Nat} (h : TB w t r) : t < w.heap.size := (Array.getElem?_eq_some_iff.1 h.blk).1
theorem TB.cell {w : World} {t r : Nat} (h : TB w t r) : w.cell? ⟨t, 0, none⟩ = some (.pointer (some ⟨r, 0, none⟩)) := by simp [World.cell?, h.blk]
theorem TB.block {w w' : World} {t r : Nat} (h : TB w t r) (e : w'.heap[t]? = w.heap[t]?) : TB w' t r := ⟨e.trans h.blk⟩
theorem TB.later {w w' : World} {t r : Nat} (h : TB w t r) (hb : Below w.heap.size w w') : TB w' t r := h.block (hb.block t h.lt)

/-- where a walk ends -/
def rq (L : List Fl) (p : List UInt8) : Q × Bool := if okP p then rch (st L) [] (pcs p) else ([], false)

theorem pcs_each (l : List UInt8) (h : okP l = true) {k : Nat} (hk : k < (pcs l).length) : ((pcs l)[k]'hk).length ≤ 1000000000 := by
  have h2 := List.all_eq_true.1 (okP_all h) _ (List.getElem_mem hk)
  have := okC_le h2; omega

set_option maxRecDepth 100000 in
set_option maxHeartbeats 4000000 in
theorem reach_any {w : World} {A M : Q → Nat} {N t : Nat} {F : Nat → Prop} {L : List Fl} (hg : GoodT L) (h : Hp w A M N F (st L) (keys (st L))) (ht : TB w t (A [])) (p : List UInt8) (hp : p.length ≤ 1000000000) :
    Calls Tryz.prog 114 #[.pointer (some ⟨t, 0, none⟩), .string (bs p)] w fun e w' => e = .returned (.tuple #[.pointer (some ⟨A (rq L p).1, 0, none⟩), .bool (rq L p).2]) ∧ Below w.heap.size w w' := by
  have c0 := ht.cell
  cases ho : okP p
  · have e0 : rq L p = ([], false) := by unfold rq; rw [ho]; rfl
    rw [e0]
    simp only
    clear h hg ht e0
    go_enter Tryz.func114, Tryz.ntmps114
    go_wp2_with fail
    refine (valid_any p _ (by omega)).mono ?_
    rintro e w1 ⟨rfl, hb1⟩
    rw [ho]
    have HB : Hid (Below w.heap.size w w1) := hb1
    clear hb1
    go_wp2_with fail
    go_ret2
    exact ⟨rfl, HB.out⟩
  · obtain ⟨R, hR⟩ : ∃ R, rq L p = R := ⟨_, rfl⟩
    rw [hR]
    have HR : Hid (rch (st L) [] (pcs p) = R ∧ okP p = true) := by
      refine ⟨?_, ho⟩
      rw [← hR]; unfold rq; rw [ho]; rfl
    have H : Hid (Hp w A M N F (st L) (keys (st L)) ∧ GoodT L) := ⟨h, hg⟩
    obtain ⟨r1, r2⟩ := R
    simp only
    clear h hg ht hR
    have hpl := (okP_len ho).2
    rw [← dep_eq] at hpl
    go_enter Tryz.func114, Tryz.ntmps114
    go_wp2_with fail
    refine (valid_any p _ (by omega)).mono ?_
    rintro e w1 ⟨rfl, hb1⟩
    rw [ho]
    have HB1 : Hid (Below w.heap.size w w1) := hb1
    clear hb1
    go_wp2_with fail
    refine (split_any p _ (by omega)).mono ?_
    rintro e w2 ⟨v, rfl, ho2, hb2⟩
    have HB2 : Hid (Below w.heap.size w w2) := bstep HB1.out hb2
    obtain ⟨a, c, rfl, _⟩ := ho2.bs.form
    have HS : Hid (SS w2 (.slice a (pcs p).length c) (pcs p)) := ho2.bs
    rename_i q1
    clear q1 ho2 hb2
    obtain ⟨n, hn⟩ : ∃ n, (pcs p).length = n := ⟨_, rfl⟩
    rw [hn] at hpl ⊢
    have HN : Hid ((pcs p).length = n) := hn
    clear hn
    go_wp2_with fail
    go_loopw [4, 21] (fun x i wr => ∃ (k : Nat) (d : Q), k ≤ n ∧ i = .int .i64 k ∧ x = .pointer (some ⟨A d, 0, none⟩) ∧ (st L d).isSome = true ∧ rch (st L) d ((pcs p).drop k) = (r1, r2) ∧ Below w2.heap.size w2 wr) (fun _ i _ => n - (intOf i).toNat)
    case atStart => exact ⟨0, [], by omega, rfl, rfl, by rw [st_root H.out.2]; rfl, HR.out.1, Below.refl _ _⟩
    case round =>
      obtain ⟨k, d, hk, rfl, rfl, hd, hr, hb⟩ := hrel
      have HB : Hid (Below w2.heap.size w2 wr) := hb
      have HD : Hid ((st L d).isSome = true ∧ rch (st L) d ((pcs p).drop k) = (r1, r2)) := ⟨hd, hr⟩
      have HH : Hid (Hp wr A M N F (st L) (keys (st L))) := H.out.1.later (bstep HB2.out hb)
      clear hb hd hr
      by_cases hlt : k < n
      · have hkl : k < (pcs p).length := by have := HN.out; omega
        obtain ⟨b, off, ea, hbw, d0⟩ := SS.at HS.out HB.out hkl
        subst ea
        have hnl := pcs_each p HR.out.2 hkl
        have HX : Hid (rch (st L) d ((pcs p)[k]'hkl :: (pcs p).drop (k + 1)) = (r1, r2)) := by
          have := HD.out.2
          rw [List.drop_eq_getElem_cons hkl] at this; exact this
        obtain ⟨x, hx⟩ : ∃ x, (pcs p)[k]'hkl = x := ⟨_, rfl⟩
        rw [hx] at d0 hnl HX
        clear hx
        have k1 : (0 : Int) ≤ (k : Int) := by omega
        have k2 : (k : Int) < (n : Int) := by omega
        cases es : (st L (d ++ [x])).isSome
        · have HE : Hid ((d, false) = (r1, r2)) := by
            have := HX.out
            rw [rch, es] at this; exact this
          cases ed : st L d with
          | none => have := HD.out.1; rw [ed] at this; cases this
          | some y =>
            cases y with
            | file s =>
              obtain ⟨c1, _⟩ := (HH.out.files d s ed).1.cells
              have hl := look_nil wr hnl true
              simp only [if_true] at hl
              go_wp2_with fail
              go_ret2
              refine ⟨?_, bstep HB2.out HB.out⟩
              have := HE.out
              injection this with e1 e2
              rw [← e1, ← e2]; rfl
            | dir cc aa oo =>
              obtain ⟨hnd, hmp, _⟩ := HH.out.dirs d cc aa oo ed
              obtain ⟨c1, _⟩ := hnd.cells
              have hl := hmp.look hnl true
              have ek : keys (st L) d x = false := es
              simp only [ek, pv, if_true, Bool.false_eq_true, if_false, Option.isSome_none] at hl
              clear hnd hmp ek
              go_wp2_with fail
              go_ret2
              refine ⟨?_, bstep HB2.out HB.out⟩
              have := HE.out
              injection this with e1 e2
              rw [← e1, ← e2]; rfl
        · have HE : Hid (rch (st L) (d ++ [x]) ((pcs p).drop (k + 1)) = (r1, r2)) := by
            have := HX.out
            rw [rch, es] at this; exact this
          have ed := st_up H.out.2 es
          obtain ⟨hnd, hmp, _⟩ := HH.out.dirs d _ _ _ ed
          obtain ⟨c1, _⟩ := hnd.cells
          have hl := hmp.look hnl true
          have ek : keys (st L) d x = true := es
          simp only [ek, pv, if_true, Option.isSome_some] at hl
          have HES : Hid ((st L (d ++ [x])).isSome = true) := es
          clear hnd hmp ek ed es
          go_wp2_with fail
          go_roundw
          case rel => exact ⟨k + 1, d ++ [x], by omega, by go_num, rfl, HES.out, HE.out, HB.out⟩
          case measure => simp [intOf]; omega
      · obtain rfl : k = n := by omega
        go_wp2_with fail
        go_ret2
        refine ⟨?_, bstep HB2.out HB.out⟩
        have := HD.out.2
        rw [List.drop_eq_nil_of_le (by have := HN.out; omega), rch] at this
        injection this with e1 e2
        rw [← e1, ← e2]; rfl
end Go.Proofs.YtbaheiimcnfaaaaGreat

namespace Go.Proofs.YtbaheiimcnfaaaaGreat
open Go.RowKit

/-- every block that is neither a node nor a map is what it was -/
structure AK (w w' : World) : Prop where
  os : w'.os = w.os
  tape : w'.tape = w.tape
  output : w'.output = w.output
  size : w.heap.size ≤ w'.heap.size
  block : ∀ (k : Nat) (cs : Array Value) (e : TypeId) (fr : Nat × Nat), w.heap[k]? = some (Obj.cells cs e fr) → e ≠ 120 → w'.heap[k]? = w.heap[k]?
theorem AK.refl (w : World) : AK w w := ⟨rfl, rfl, rfl, Nat.le_refl _, fun _ _ _ _ _ _ => rfl⟩
theorem AK.trans {a b c : World} (h : AK a b) (k : AK b c) : AK a c :=
  ⟨k.os.trans h.os, k.tape.trans h.tape, k.output.trans h.output, Nat.le_trans h.size k.size, fun i cs e fr hi he => (k.block i cs e fr ((h.block i cs e fr hi he).trans hi) he).trans (h.block i cs e fr hi he)⟩
theorem AK.of_below {a b : World} (h : Below a.heap.size a b) : AK a b :=
  ⟨h.os, h.tape, h.output, h.size, fun i _ _ _ hi _ => h.block i (Array.getElem?_eq_some_iff.1 hi).1⟩
theorem AK.node {a b : World} {g : Nat} {m : Option Nat} {c s o : Nat} (h : Only [g] a b) (n : ND a g m c s o) : AK a b :=
  ⟨h.os, h.tape, h.output, h.size, fun i cs e fr hi he => h.block i (Array.getElem?_eq_some_iff.1 hi).1 (by
    simp only [List.mem_singleton]
    rintro rfl
    rw [n.blk] at hi
    cases hi
    exact he rfl)⟩
theorem AK.map {a b : World} {g N : Nat} {F : List UInt8 → Option Nat} (h : Only [g] a b) (n : MP a N g F) : AK a b :=
  ⟨h.os, h.tape, h.output, h.size, fun i cs e fr hi _ => h.block i (Array.getElem?_eq_some_iff.1 hi).1 (by
    simp only [List.mem_singleton]
    rintro rfl
    obtain ⟨_, _, ⟨es, clock, hb, _⟩, _⟩ := n
    rw [hb] at hi; cases hi)⟩
theorem TB.ak {w w' : World} {t r : Nat} (h : TB w t r) (k : AK w w') : TB w' t r := h.block (k.block _ _ _ _ h.blk (by decide))
theorem SB.ak {w w' : World} {b h l : Nat} (s : SB w b h l) (k : AK w w') : SB w' b h l := s.block (k.block _ _ _ _ s.blk (by decide))
theorem Own.ak {base : Nat} {w w' : World} {v : Value} {l : List (List UInt8)} (h : Own base w v l) (k : AK w w') : Own base w' v l := by
  rcases h with ⟨h0, h | ⟨g, cap, cur, rfl, hb, hg, hr⟩⟩
  · exact ⟨h0, .inl h⟩
  · exact ⟨h0, .inr ⟨g, cap, cur, rfl, hb, (k.block _ _ _ _ hg (by decide)).trans hg, hr⟩⟩
theorem OwnF.ak {base : Nat} {w w' : World} {v : Value} {l : List Fl} (h : OwnF base w v l) (k : AK w w') : OwnF base w' v l := by
  rcases h with ⟨h0, h | ⟨g, cap, cur, rfl, hb, hg, hr⟩⟩
  · exact ⟨h0, .inl h⟩
  · exact ⟨h0, .inr ⟨g, cap, cur, rfl, hb, (k.block _ _ _ _ hg (by decide)).trans hg, hr⟩⟩
/-- a boxed file -/
structure XB (w : World) (g : Nat) (f : Fl) : Prop where
  blk : w.heap[g]? = some (.cells #[.string (bs f.path), .string (bs f.text), .int .i64 f.blob, .int .i64 f.size] 45 (0, 0))
theorem XB.new (w : World) (f : Fl) : XB (w.alloc (.cells #[.string (bs f.path), .string (bs f.text), .int .i64 f.blob, .int .i64 f.size] 45)) w.heap.size f := ⟨heap_alloc_new _ _⟩
theorem XB.lt {w : World} {g : Nat} {f : Fl} (h : XB w g f) : g < w.heap.size := (Array.getElem?_eq_some_iff.1 h.blk).1
theorem XB.block {w w' : World} {g : Nat} {f : Fl} (h : XB w g f) (e : w'.heap[g]? = w.heap[g]?) : XB w' g f := ⟨e.trans h.blk⟩
theorem XB.ak {w w' : World} {g : Nat} {f : Fl} (h : XB w g f) (k : AK w w') : XB w' g f := h.block (k.block _ _ _ _ h.blk (by decide))
theorem XB.later {w w' : World} {g : Nat} {f : Fl} (h : XB w g f) (hb : Below w.heap.size w w') : XB w' g f := h.block (hb.block g h.lt)
theorem XB.cells {w : World} {g : Nat} {f : Fl} (h : XB w g f) : w.cell? ⟨g, 0, none⟩ = some (.string (bs f.path)) ∧ w.cell? ⟨g, 1, none⟩ = some (.string (bs f.text)) ∧ w.cell? ⟨g, 2, none⟩ = some (.int .i64 f.blob) ∧ w.cell? ⟨g, 3, none⟩ = some (.int .i64 f.size) := by
  refine ⟨?_, ?_, ?_, ?_⟩ <;> simp [World.cell?, h.blk]
end Go.Proofs.YtbaheiimcnfaaaaGreat
