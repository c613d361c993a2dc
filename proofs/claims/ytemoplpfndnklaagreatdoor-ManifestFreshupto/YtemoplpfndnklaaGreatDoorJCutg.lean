/-
  Print.
  The reading of a text, with a bound on its steps: for texts that are written out.
  Some of the document's examples.
  The law ManifestRefuses.
  A list of targets cut at a place.
-/
import Derived.Test.YtemoplpfndnklaaGreatDoorWrt
import Derived.Test.YtemoplpfndnklaaGreatDoorJBkA
import Derived.Test.YtemoplpfndnklaaGreatDoorJRd
import Derived.Test.YtemoplpfndnklaaGreatDoorPw
import Derived.Test.YtemoplpfndnklaaGreatDoorJSameg
namespace Go.Proofs.YtemoplpfndnklaaGreatDoor
open Go.RowKit

theorem prsM_sm (p s : List UInt8) : GSm (prsM p s).1 := by
  obtain ⟨h1, h2⟩ := prsM_64 p s
  exact ⟨by omega, fun t ht => ⟨by have := (h1 t ht).s; omega, by have := (h1 t ht).d; omega, by have := (h1 t ht).e; omega⟩⟩
theorem Wm.gsm {l : List Tg} (h : Wm l) : GSm l := ⟨h.len, fun t ht => ⟨by have := (h.each t ht).1; omega, by have := (h.each t ht).2.1; omega, by have := (h.each t ht).2.2.1; omega⟩⟩
set_option maxHeartbeats 2000000 in
theorem print_any {w : World} {v : Value} {l : List Tg} (p : List UInt8) (E : Ev w) (h : GR w v l) (hm : Wm l) (hp : p.length ≤ 1125899906842624) :
    Calls Tryz.prog 11 #[.string (bs p), v] w fun e w' => e = .returned (.tuple #[.string (bs (prM p l).1), .int .i64 (prM p l).2]) ∧ Below w.heap.size w w' := by
  have HV : Hid (Calls Tryz.prog 19 #[.string (bs p)] w fun e w' => e = .returned (.bool (okP p)) ∧ Below w.heap.size w w') := valid_any p w (by omega)
  have HWr : Hid (∀ W : World, GR W v l → Calls Tryz.prog 24 #[v] W fun e w' => e = .returned (.string (bs (wrt l))) ∧ Below W.heap.size W w') := fun W hW => mwrite_any hW hm
  have HPa : Hid (∀ W : World, Ev W → Calls Tryz.prog 8 #[.string (bs p), .string (bs (wrt l))] W (LsP W (prsM p (wrt l)))) := fun W hW => parse_any p (wrt l) hW hp (by have := hm.all; omega)
  have HEq : Hid (∀ (W : World) (u : Value), GR W u (prsM p (wrt l)).1 → GR W v l → Calls Tryz.prog 25 #[u, v, .func (.func 26) #[] #[]] W fun e w' => e = .returned (.bool (decide ((prsM p (wrt l)).1 = l))) ∧ Below W.heap.size W w') := fun W u hu hv => equalFunc_any hu hv (prsM_sm _ _) hm.gsm
  have HG : Hid (GR w v l) := h
  have HE : Hid (Ev w) := E
  have hrg := prsM_range p (wrt l)
  obtain ⟨RR, hRR⟩ : ∃ RR, prM p l = RR := ⟨_, rfl⟩
  rw [hRR]
  unfold prM at hRR
  obtain ⟨Q, hQ⟩ : ∃ Q, prsM p (wrt l) = Q := ⟨_, rfl⟩
  rw [hQ] at hRR HPa HEq hrg
  obtain ⟨T, hT⟩ : ∃ T, wrt l = T := ⟨_, rfl⟩
  rw [hT] at hRR HWr HPa
  clear hQ hT h E hm
  cases hok : okP p
  · rw [hok] at HV
    obtain rfl : ([], 7) = RR := by rw [← hRR, hok]; rfl
    clear hok hRR
    go_enter Tryz.func11, Tryz.ntmps11
    go_wp2_with fail
    refine HV.out.mono ?_
    rintro e w1 ⟨rfl, hb⟩
    have HB : Hid (Below w.heap.size w w1) := hb
    clear hb
    go_wp2_with fail
    go_ret2
    exact ⟨rfl, HB.out⟩
  rw [hok, if_pos rfl] at hRR
  rw [hok] at HV
  clear hok
  obtain ⟨Ql, Qa⟩ := Q
  simp only at hRR hrg HEq
  have fin : ∀ (w2 : World), Below w.heap.size w w2 → Ev w2 ∧ GR w2 v l := fun w2 hb => ⟨HE.out.later hb, HG.out.later hb⟩
  have HF : Hid (∀ (w2 : World), Below w.heap.size w w2 → Ev w2 ∧ GR w2 v l) := fin
  clear fin
  rcases hrg with hq | ⟨hq, _⟩
  · subst hq
    have HRR : Hid ((if decide (Ql = l) = true then (T, (0 : Int)) else ([], 18)) = RR) := by
      show (if decide (Ql = l) = true then (T, (0 : Int)) else ([], 18)) = RR
      rw [← hRR]
      by_cases e : Ql = l
      · rw [if_pos (by simpa using e), if_pos ⟨rfl, e⟩]
      · rw [if_neg (by simpa using e), if_neg (fun h => e h.2)]
    generalize decide (Ql = l) = D at *
    clear hRR
    cases D
    · obtain rfl : ([], (18 : Int)) = RR := by have := HRR.out; simpa using this
      go_enter Tryz.func11, Tryz.ntmps11
      go_wp2_with fail
      refine HV.out.mono ?_
      rintro e w1 ⟨rfl, hb1⟩
      have B1 : Hid (Below w.heap.size w w1) := hb1
      clear hb1
      go_wp2_with fail
      refine (HWr.out _ (HF.out _ B1.out).2).mono ?_
      rintro e w2 ⟨rfl, hb2⟩
      have B2 : Hid (Below w.heap.size w w2) := bstep B1.out hb2
      clear hb2
      go_wp2_with fail
      refine (HPa.out _ (HF.out _ B2.out).1).mono ?_
      rintro e w3 ⟨u, rfl, hu, hb3⟩
      have B3 : Hid (Below w.heap.size w w3 ∧ GR w3 u Ql) := ⟨bstep B2.out hb3, hu.read⟩
      clear hb3 hu
      go_wp2_with fail
      refine (HEq.out _ _ B3.out.2 (HF.out _ B3.out.1).2).mono ?_
      rintro e w4 ⟨rfl, hb4⟩
      have B4 : Hid (Below w.heap.size w w4) := bstep B3.out.1 hb4
      clear hb4
      go_wp2_with fail
      go_ret2
      exact ⟨rfl, B4.out⟩
    · obtain rfl : (T, (0 : Int)) = RR := by have := HRR.out; simpa using this
      go_enter Tryz.func11, Tryz.ntmps11
      go_wp2_with fail
      refine HV.out.mono ?_
      rintro e w1 ⟨rfl, hb1⟩
      have B1 : Hid (Below w.heap.size w w1) := hb1
      clear hb1
      go_wp2_with fail
      refine (HWr.out _ (HF.out _ B1.out).2).mono ?_
      rintro e w2 ⟨rfl, hb2⟩
      have B2 : Hid (Below w.heap.size w w2) := bstep B1.out hb2
      clear hb2
      go_wp2_with fail
      refine (HPa.out _ (HF.out _ B2.out).1).mono ?_
      rintro e w3 ⟨u, rfl, hu, hb3⟩
      have B3 : Hid (Below w.heap.size w w3 ∧ GR w3 u Ql) := ⟨bstep B2.out hb3, hu.read⟩
      clear hb3 hu
      go_wp2_with fail
      refine (HEq.out _ _ B3.out.2 (HF.out _ B3.out.1).2).mono ?_
      rintro e w4 ⟨rfl, hb4⟩
      have B4 : Hid (Below w.heap.size w w4) := bstep B3.out.1 hb4
      clear hb4
      go_wp2_with fail
      go_ret2
      exact ⟨rfl, B4.out⟩
  · obtain rfl : ([], (18 : Int)) = RR := by
      rw [← hRR, if_neg (fun h => by have := h.1; omega)]
    have d1 : decide (0 ≤ Qa) = true := by simpa using hq
    clear hRR
    go_enter Tryz.func11, Tryz.ntmps11
    go_wp2_with fail
    refine HV.out.mono ?_
    rintro e w1 ⟨rfl, hb1⟩
    have B1 : Hid (Below w.heap.size w w1) := hb1
    clear hb1
    go_wp2_with fail
    refine (HWr.out _ (HF.out _ B1.out).2).mono ?_
    rintro e w2 ⟨rfl, hb2⟩
    have B2 : Hid (Below w.heap.size w w2) := bstep B1.out hb2
    clear hb2
    go_wp2_with fail
    refine (HPa.out _ (HF.out _ B2.out).1).mono ?_
    rintro e w3 ⟨u, rfl, hu, hb3⟩
    have B3 : Hid (Below w.heap.size w w3) := bstep B2.out hb3
    clear hb3 hu
    go_wp2_with fail
    go_ret2
    exact ⟨rfl, B3.out⟩
end Go.Proofs.YtemoplpfndnklaaGreatDoor

namespace Go.Proofs.YtemoplpfndnklaaGreatDoor

def tqF : Nat → List UInt8 → Nat → List Tk × Int
  | 0, _, _ => ([], -1)
  | _ + 1, [], _ => ([], -1)
  | n + 1, c :: q, m => if kd c = 0 then ([], (m : Int)) else
    (⟨(kd c : Int), c :: q.take (ktl c q), (m : Int)⟩ :: (tqF n ((q.drop (ktl c q)).drop (gp false (q.drop (ktl c q)))) (m + 1 + ktl c q + gp false (q.drop (ktl c q)))).1,
      (tqF n ((q.drop (ktl c q)).drop (gp false (q.drop (ktl c q)))) (m + 1 + ktl c q + gp false (q.drop (ktl c q)))).2)
theorem tqF_eq : ∀ (n : Nat) (r : List UInt8) (m : Nat), r.length ≤ n → tqF n r m = tq r m
  | 0, r, m, h => by
    have : r = [] := List.eq_nil_of_length_eq_zero (by omega)
    subst this
    rw [tq_nil]; rfl
  | n + 1, [], m, _ => by rw [tq_nil]; rfl
  | n + 1, c :: q, m, h => by
    by_cases h0 : kd c = 0
    · rw [tq_bad h0, tqF, if_pos h0]
    · rw [tq_tok h0, tqF, if_neg h0]
      have ih := tqF_eq n ((q.drop (ktl c q)).drop (gp false (q.drop (ktl c q)))) (m + 1 + ktl c q + gp false (q.drop (ktl c q))) (by simp only [List.length_drop, List.length_cons] at h ⊢; omega)
      rw [ih]; rfl
def toksF (s : List UInt8) : List Tk × Int := tqF s.length (s.drop (gp false s)) (0 + gp false s)
theorem toksF_eq (s : List UInt8) : toksF s = toks s := by
  unfold toksF toks tg
  exact tqF_eq _ _ _ (by simp)
def prsF (p s : List UInt8) : List Tg × Int :=
  if okP p = true then (if s.length ≤ 4096 then go p (if 0 ≤ (toksF s).2 then (toksF s).2 else (s.length : Int)) (toksF s).2 (.top []) (toksF s).1 else ([], 4096)) else ([], 0)
theorem prsF_eq (p s : List UInt8) : prsF p s = prsM p s := by
  unfold prsF prsM endE
  rw [toksF_eq]
def ex1 : List UInt8 := [116, 97, 114, 103, 101, 116, 32, 97, 123, 115, 114, 99, 115, 61, 91, 120, 46, 99, 44, 100, 47, 42, 46, 104, 93, 100, 101, 112, 115, 61, 91, 58, 98, 44, 47, 47, 113, 58, 99, 93, 115, 101, 101, 61, 91, 112, 117, 98, 108, 105, 99, 93, 125]
def ex2 : List UInt8 := [116, 97, 114, 103, 101, 116, 32, 97, 123, 115, 114, 99, 115, 61, 91, 120, 44, 120, 93, 125]
def tg1 : Tg := ⟨[97], [[120, 46, 99], [100, 47, 42, 46, 104]], [⟨[112], [98]⟩, ⟨[113], [99]⟩], [[112, 117, 98, 108, 105, 99]]⟩
theorem prs_ex1 : prsM [112] ex1 = ([tg1], -1) := by rw [← prsF_eq]; decide +kernel
theorem prs_ex2 : prsM [112] ex2 = ([], 17) := by rw [← prsF_eq]; decide +kernel
theorem prM_ex3 : prM [112] [⟨[97], [], [], []⟩] = ([116, 97, 114, 103, 101, 116, 32, 97, 32, 123, 10, 125, 10], 0) := by
  unfold prM
  rw [← prsF_eq]; decide +kernel
end Go.Proofs.YtemoplpfndnklaaGreatDoor

namespace Go.Proofs.YtemoplpfndnklaaGreatDoor
open Go.RowKit

theorem cell_lit (w : World) (L : List Value) (e : TypeId) : ∀ i u, L[i]? = some u → (w.alloc (.cells L.toArray e)).cell? ⟨w.heap.size, 0 + i, none⟩ = some u := by
  intro i u hu
  have h := heap_alloc_new w (.cells L.toArray e)
  unfold World.cell?
  rw [h]
  simpa using hu
theorem ss_lit (w : World) (L : List (List UInt8)) : SS (w.alloc (.cells (sc L).toArray 9)) (.slice (some ⟨w.heap.size, 0, none⟩) L.length L.length) L :=
  .inr ⟨w.heap.size, 0, L.length, rfl, Nat.le_refl _, by simp, cell_lit w (sc L) 9⟩
theorem ls_lit (w : World) (L : List Lb) : LS (w.alloc (.cells (lc L).toArray 58)) (.slice (some ⟨w.heap.size, 0, none⟩) L.length L.length) L :=
  .inr ⟨w.heap.size, 0, L.length, rfl, Nat.le_refl _, by simp, cell_lit w (lc L) 58⟩
theorem gs_lit (w : World) (L : List Tv) : GS (w.alloc (.cells (gc L).toArray 37)) (.slice (some ⟨w.heap.size, 0, none⟩) L.length L.length) L :=
  .inr ⟨w.heap.size, 0, L.length, rfl, Nat.le_refl _, by simp, cell_lit w (gc L) 37⟩
theorem gr_bare (w : World) (n : List UInt8) : GR (w.alloc (.cells #[.string (bs n), .slice none 0 0, .slice none 0 0, .slice none 0 0] 37)) (.slice (some ⟨w.heap.size, 0, none⟩) 1 1) [⟨n, [], [], []⟩] :=
  ⟨[⟨n, none, 0, 0, none, 0, 0, none, 0, 0⟩], gs_lit w [⟨n, none, 0, 0, none, 0, 0, none, 0, 0⟩], ⟨rfl, .inl ⟨⟨_, _, rfl⟩, rfl⟩, .inl ⟨⟨_, _, rfl⟩, rfl⟩, .inl ⟨⟨_, _, rfl⟩, rfl⟩⟩, trivial⟩
theorem gr_tg1 (w : World) : GR ((((w.alloc (.cells #[.string (bs [120, 46, 99]), .string (bs [100, 47, 42, 46, 104])] 9)).alloc (.cells #[.string (bs [112]), .string (bs [98]), .string (bs [113]), .string (bs [99])] 58)).alloc (.cells #[.string (bs [112, 117, 98, 108, 105, 99])] 9)).alloc (.cells #[.string (bs [97]), .slice (some ⟨w.heap.size, 0, none⟩) 2 2, .slice (some ⟨w.heap.size + 1, 0, none⟩) 2 2, .slice (some ⟨w.heap.size + 1 + 1, 0, none⟩) 1 1] 37)) (.slice (some ⟨w.heap.size + 1 + 1 + 1, 0, none⟩) 1 1) [tg1] := by
  have h1 := ss_lit w [[120, 46, 99], [100, 47, 42, 46, 104]]
  have h2 := ls_lit (w.alloc (.cells #[.string (bs [120, 46, 99]), .string (bs [100, 47, 42, 46, 104])] 9)) [⟨[112], [98]⟩, ⟨[113], [99]⟩]
  have h3 := ss_lit ((w.alloc (.cells #[.string (bs [120, 46, 99]), .string (bs [100, 47, 42, 46, 104])] 9)).alloc (.cells #[.string (bs [112]), .string (bs [98]), .string (bs [113]), .string (bs [99])] 58)) [[112, 117, 98, 108, 105, 99]]
  have h4 := gs_lit (((w.alloc (.cells #[.string (bs [120, 46, 99]), .string (bs [100, 47, 42, 46, 104])] 9)).alloc (.cells #[.string (bs [112]), .string (bs [98]), .string (bs [113]), .string (bs [99])] 58)).alloc (.cells #[.string (bs [112, 117, 98, 108, 105, 99])] 9)) [⟨[97], some ⟨w.heap.size, 0, none⟩, 2, 2, some ⟨w.heap.size + 1, 0, none⟩, 2, 2, some ⟨w.heap.size + 1 + 1, 0, none⟩, 1, 1⟩]
  refine ⟨[⟨[97], some ⟨w.heap.size, 0, none⟩, 2, 2, some ⟨w.heap.size + 1, 0, none⟩, 2, 2, some ⟨w.heap.size + 1 + 1, 0, none⟩, 1, 1⟩], ?_, ⟨rfl, ?_, ?_, ?_⟩, trivial⟩
  · have e : (((w.alloc (.cells #[.string (bs [120, 46, 99]), .string (bs [100, 47, 42, 46, 104])] 9)).alloc (.cells #[.string (bs [112]), .string (bs [98]), .string (bs [113]), .string (bs [99])] 58)).alloc (.cells #[.string (bs [112, 117, 98, 108, 105, 99])] 9)).heap.size = w.heap.size + 1 + 1 + 1 := by simp
    rw [e] at h4
    exact h4
  · exact ((h1.later (balloc _ _)).later (balloc _ _)).later (balloc _ _)
  · have e : (w.alloc (.cells #[.string (bs [120, 46, 99]), .string (bs [100, 47, 42, 46, 104])] 9)).heap.size = w.heap.size + 1 := by simp
    rw [e] at h2
    exact (h2.later (balloc _ _)).later (balloc _ _)
  · have e : ((w.alloc (.cells #[.string (bs [120, 46, 99]), .string (bs [100, 47, 42, 46, 104])] 9)).alloc (.cells #[.string (bs [112]), .string (bs [98]), .string (bs [113]), .string (bs [99])] 58)).heap.size = w.heap.size + 1 + 1 := by simp
    rw [e] at h3
    exact h3.later (balloc _ _)
set_option maxHeartbeats 4000000 in
theorem known_any {w : World} (E : Ev w) : Calls Tryz.prog 9 #[] w fun e w' => e = .returned (.bool true) ∧ Below w.heap.size w w' := by
  have H1 : Hid (∀ W : World, Ev W → Calls Tryz.prog 8 #[.string (bs [112]), .string (bs ex1)] W fun e w' => ∃ v, e = .returned (.tuple #[v, .int .i64 (-1)]) ∧ GR w' v [tg1] ∧ Below W.heap.size W w') := fun W hW => by
    have h := parse_any [112] ex1 hW (by decide) (by decide)
    rw [prs_ex1] at h
    exact h.mono fun e w' ⟨v, h1, h2, h3⟩ => ⟨v, h1, h2.read, h3⟩
  have H2 : Hid (∀ W : World, Ev W → Calls Tryz.prog 8 #[.string (bs [112]), .string (bs ex2)] W fun e w' => ∃ v, e = .returned (.tuple #[v, .int .i64 17]) ∧ Below W.heap.size W w') := fun W hW => by
    have h := parse_any [112] ex2 hW (by decide) (by decide)
    rw [prs_ex2] at h
    exact h.mono fun e w' ⟨v, h1, h2, h3⟩ => ⟨v, h1, h3⟩
  have H3 : Hid (∀ (W : World) (v : Value), Ev W → GR W v [⟨[97], [], [], []⟩] → Calls Tryz.prog 11 #[.string (bs [112]), v] W fun e w' => e = .returned (.tuple #[.string (bs [116, 97, 114, 103, 101, 116, 32, 97, 32, 123, 10, 125, 10]), .int .i64 0]) ∧ Below W.heap.size W w') := fun W v hW hv => by
    have h := print_any [112] hW hv ⟨by simp, by decide, fun t ht => by simp only [List.mem_singleton] at ht; subst ht; simp⟩ (by decide)
    rw [prM_ex3] at h
    exact h
  have HS : Hid (∀ (W : World) (va vb : Value), GR W va [tg1] → GR W vb [tg1] → Calls Tryz.prog 10 #[va, vb] W fun e w' => e = .returned (.bool true) ∧ Below W.heap.size W w') := fun W va vb ha hb => by
    have h := same_any ha hb ⟨by simp, fun t ht => by simp only [List.mem_singleton] at ht; subst ht; decide⟩ ⟨by simp, fun t ht => by simp only [List.mem_singleton] at ht; subst ht; decide⟩
    rw [decide_eq_true rfl] at h
    exact h.mono fun e w' ⟨h1, n, h2⟩ => ⟨h1, by rw [h2]; exact bd _ _⟩
  have HE : Hid (Ev w) := E
  have e1 : (ByteArray.mk #[116, 97, 114, 103, 101, 116, 32, 97, 32, 123, 10, 125, 10]).toList = [116, 97, 114, 103, 101, 116, 32, 97, 32, 123, 10, 125, 10] := ByteArray.toList_mk [116, 97, 114, 103, 101, 116, 32, 97, 32, 123, 10, 125, 10]
  have e2 := bs_toList [116, 97, 114, 103, 101, 116, 32, 97, 32, 123, 10, 125, 10]
  have e3 : (([116, 97, 114, 103, 101, 116, 32, 97, 32, 123, 10, 125, 10] : List UInt8) == [116, 97, 114, 103, 101, 116, 32, 97, 32, 123, 10, 125, 10]) = true := by decide
  clear E
  go_enter Tryz.func9, Tryz.ntmps9
  go_wp2_with fail
  refine (H1.out _ HE.out).mono ?_
  rintro e w1 ⟨v1, rfl, hg1, hb1⟩
  have X1 : Hid (GR w1 v1 [tg1] ∧ Below w.heap.size w w1) := ⟨hg1, hb1⟩
  clear hg1 hb1
  go_wp2_with fail
  refine (H2.out _ (HE.out.later X1.out.2)).mono ?_
  rintro e w2 ⟨v2, rfl, hb2⟩
  have X2 : Hid (GR w2 v1 [tg1] ∧ Below w.heap.size w w2) := ⟨X1.out.1.later hb2, bstep X1.out.2 hb2⟩
  clear hb2 X1
  go_wp2_with fail
  refine (H3.out _ _ ((HE.out.later X2.out.2).later (balloc _ _)) (gr_bare _ _)).mono ?_
  rintro e w3 ⟨rfl, hb3⟩
  have X3 : Hid (GR w3 v1 [tg1] ∧ Below w.heap.size w w3) := ⟨(X2.out.1.later (balloc _ _)).later hb3, bstep (bstep X2.out.2 (balloc _ _)) hb3⟩
  clear hb3 X2
  go_wp2_with fail
  refine (HS.out _ _ _ ((((X3.out.1.later (balloc _ _)).later (balloc _ _)).later (balloc _ _)).later (balloc _ _)) (gr_tg1 _)).mono ?_
  rintro e w4 ⟨rfl, hb4⟩
  have X4 : Hid (Below w.heap.size w w4) := bstep (bstep (bstep (bstep (bstep X3.out.2 (balloc _ _)) (balloc _ _)) (balloc _ _)) (balloc _ _)) hb4
  clear hb4 X3
  go_wp2_with fail
  go_ret
  exact ⟨rfl, X4.out⟩
end Go.Proofs.YtemoplpfndnklaaGreatDoor

namespace Go.Proofs.YtemoplpfndnklaaGreatDoor
open Go.RowKit

theorem allW_step {W : List UInt8} {k : Nat} (hk : k < W.length) : (W.take (k + 1)).all inW = ((W.take k).all inW && inW W[k]) := by
  rw [List.take_succ_eq_append_getElem hk, List.all_append]; simp
theorem cell_of {w : World} {b o : Nat} {cs : Array Value} {t : TypeId} {f : Nat × Nat} {v : Value} (h : w.heap[b]? = some (.cells cs t f)) (hv : cs[o]? = some v) : w.cell? ⟨b, o, none⟩ = some v := by simp [World.cell?, h, hv]
set_option maxRecDepth 100000 in
set_option maxHeartbeats 16000000 in
theorem refLaw {w : World} (p W : List UInt8) (z : Int) (E : Ev w) (hp : p.length ≤ 1125899906842624) (hW : W.length ≤ 140737488355328) :
    Calls Tryz.prog 4 #[.string (bs p), .agg #[.int .i64 z, .string (bs W)]] w fun e w' => e = .returned (.bool true) ∧ Below w.heap.size w w' := by
  obtain ⟨r, hr⟩ : ∃ r, Int.tmod z 3 = r := ⟨_, rfl⟩
  have r1 : -3 < r := by rw [← hr]; have := Int.lt_tmod_of_pos z (b := 3) (by decide); omega
  have r2 : r < 3 := by rw [← hr]; exact Int.tmod_lt_of_pos z (by decide)
  obtain ⟨q, hq⟩ : ∃ q : Nat, Int.tmod (r + 3) 3 = (q : Int) := ⟨(Int.tmod (r + 3) 3).toNat, by have := Int.tmod_nonneg 3 (a := r + 3) (by omega); omega⟩
  have q1 : (q : Int) < 3 := by rw [← hq]; exact Int.tmod_lt_of_pos _ (by decide)
  have q0 : (0 : Int) ≤ q := by omega
  obtain ⟨F, hF, hcF⟩ : ∃ F, isF F = true ∧ ((w.alloc (.cells #[.int .i64 z, .string (bs W)] 32)).alloc (.cells #[.string (ByteArray.mk #[115, 114, 99, 115]), .string (ByteArray.mk #[100, 101, 112, 115]), .string (ByteArray.mk #[115, 101, 101])] 9)).cell? ⟨w.heap.size + 1, q, none⟩ = some (.string (bs F)) := by
    have hn : ((w.alloc (.cells #[.int .i64 z, .string (bs W)] 32)).alloc (.cells #[.string (ByteArray.mk #[115, 114, 99, 115]), .string (ByteArray.mk #[100, 101, 112, 115]), .string (ByteArray.mk #[115, 101, 101])] 9)).heap[w.heap.size + 1]? = some (.cells #[.string (ByteArray.mk #[115, 114, 99, 115]), .string (ByteArray.mk #[100, 101, 112, 115]), .string (ByteArray.mk #[115, 101, 101])] 9 (0, 0)) := by
      have := heap_alloc_new (w.alloc (.cells #[.int .i64 z, .string (bs W)] 32)) (.cells #[.string (ByteArray.mk #[115, 114, 99, 115]), .string (ByteArray.mk #[100, 101, 112, 115]), .string (ByteArray.mk #[115, 101, 101])] 9)
      simpa using this
    have hq3 : q = 0 ∨ q = 1 ∨ q = 2 := by omega
    rcases hq3 with rfl | rfl | rfl
    · exact ⟨wSrcs, by decide, cell_of hn rfl⟩
    · exact ⟨wDeps, by decide, cell_of hn rfl⟩
    · exact ⟨wSee, by decide, cell_of hn rfl⟩
  have HF : Hid (isF F = true) := hF
  obtain ⟨gx, hgx⟩ : ∃ gx, w.heap.size = gx := ⟨_, rfl⟩
  obtain ⟨w2, hw2⟩ : ∃ w2, (w.alloc (.cells #[.int .i64 z, .string (bs W)] 32)).alloc (.cells #[.string (ByteArray.mk #[115, 114, 99, 115]), .string (ByteArray.mk #[100, 101, 112, 115]), .string (ByteArray.mk #[115, 101, 101])] 9) = w2 := ⟨_, rfl⟩
  have hb2 : Below w.heap.size w w2 := by rw [← hw2]; exact bstep (balloc _ _) (balloc _ _)
  have hx2 : w2.cell? ⟨gx, 1, none⟩ = some (.string (bs W)) := by
    have hn : w2.heap[gx]? = some (.cells #[.int .i64 z, .string (bs W)] 32 (0, 0)) := by
      rw [← hw2, ← hgx]
      exact (heap_alloc_old _ _ (by simp)).trans (heap_alloc_new _ _)
    simp [World.cell?, hn]
  have hs2 : gx < w2.heap.size := by rw [← hw2, ← hgx]; simp; omega
  have HX : Hid (∀ Wd : World, Below w2.heap.size w2 Wd → Wd.cell? ⟨gx, 1, none⟩ = some (.string (bs W)) ∧ Ev Wd ∧ Below w.heap.size w Wd) := fun Wd hd => ⟨(hd.cell (p := ⟨gx, 1, none⟩) hs2).trans hx2, E.later (bstep hb2 hd), bstep hb2 hd⟩
  have HW2 : Hid ((w.alloc (.cells #[.int .i64 z, .string (bs W)] 32)).alloc (.cells #[.string (ByteArray.mk #[115, 114, 99, 115]), .string (ByteArray.mk #[100, 101, 112, 115]), .string (ByteArray.mk #[115, 101, 101])] 9) = w2 ∧ w.heap.size = gx) := ⟨hw2, hgx⟩
  have HH : Hid (ByteArray.mk #[116, 97, 114, 103, 101, 116, 32, 97, 123] ++ bs F ++ ByteArray.mk #[61, 91] = bs (hdF F)) := by
    show bs [116, 97, 114, 103, 101, 116, 32, 97, 123] ++ bs F ++ bs [61, 91] = _
    rw [bs_app, bs_app]; rfl
  have hfl : (hdF F).length ≤ 15 := by rw [hdF_len]; have := (isF_word hF).2.2; omega
  have HR1 : Hid ((prsM p (hdF F ++ W ++ [93, 125])).2 ≠ -1 → ((prsM p (hdF F ++ W ++ [93, 125])).2 = 0 ∨ 9 ≤ (prsM p (hdF F ++ W ++ [93, 125])).2) ∧ (prsM p (hdF F ++ W ++ [93, 125])).1 = []) := ref_any p F W
  have HR2 : Hid (W ≠ [] → (∀ x ∈ W, inW x = true) → (prsM p (hdF F ++ W ++ [93, 125])).2 = -1 → ∃ u, RefW p F W u) := ref_word hF
  have HC1 : Hid (∀ Wd : World, Ev Wd → Calls Tryz.prog 8 #[.string (bs p), .string (bs (hdF F) ++ bs W ++ ByteArray.mk #[93, 125])] Wd (LsP Wd (prsM p (hdF F ++ W ++ [93, 125])))) := fun Wd hE => by
    show Calls Tryz.prog 8 #[.string (bs p), .string (bs (hdF F) ++ bs W ++ bs [93, 125])] Wd _
    rw [bs_app, bs_app]
    exact parse_any p _ hE hp (by simp; omega)
  have HCs : Hid (∀ (Wd : World) (s : List UInt8) (x : Int), Ev Wd → s.length ≤ 1125899906842624 → (prsM p s).2 = x → Calls Tryz.prog 8 #[.string (bs p), .string (bs s)] Wd fun e w' => ∃ v, e = .returned (.tuple #[v, .int .i64 x]) ∧ Below Wd.heap.size Wd w') := fun Wd s x hE hs hx => by
    have h := parse_any p s hE hp hs
    exact h.mono fun e w' ⟨v, h1, _, h3⟩ => ⟨v, by rw [← hx]; exact h1, h3⟩
  obtain ⟨R, hR⟩ : ∃ R, prsM p (hdF F ++ W ++ [93, 125]) = R := ⟨_, rfl⟩
  rw [hR] at HR1 HR2 HC1
  obtain ⟨Rl, Ra⟩ := R
  simp only at HR1 HR2 HC1
  have HRR : Hid (prsM p (hdF F ++ W ++ [93, 125]) = (Rl, Ra)) := hR
  have hzf : (bs F).size = F.length := rfl
  have hzl : F.length ≤ 4 := (isF_word hF).2.2
  have hzW : (bs W).size = W.length := rfl
  have hzF : (bs (hdF F)).size = (hdF F).length := rfl
  have B2 : Hid (Below w2.heap.size w2 w2) := Below.refl _ _
  clear hR hb2 hx2 hw2 hgx hF E hp
  go_enter Tryz.func4, Tryz.ntmps4
  go_wp2_with fail
  rw [HW2.out.1, HW2.out.2, HH.out]
  refine (HC1.out w2 (HX.out _ B2.out).2.1).mono ?_
  rintro e w3 ⟨v3, rfl, hg3, hb3⟩
  have G3 : Hid (GR w3 v3 Rl) := hg3.read
  have B3 : Hid (Below w2.heap.size w2 w3) := hb3
  obtain ⟨a3, c3, hv3⟩ := hg3.read.len
  clear hb3 hg3
  by_cases hRa : Ra = -1
  rotate_left
  · obtain ⟨h1, rfl⟩ := HR1.out hRa
    have n1 : (Ra == -1) = false := by simpa using hRa
    subst hv3
    go_wp2_with fail
    refine (known_any (HX.out _ B3.out).2.1).mono ?_
    rintro e w4 ⟨rfl, hb4⟩
    have B4 : Hid (Below w2.heap.size w2 w4) := bstep B3.out hb4
    clear hb4
    go_wp2_with fail
    refine (known_any (HX.out _ B4.out).2.1).mono ?_
    rintro e w5 ⟨rfl, hb5⟩
    have B5 : Hid (Below w2.heap.size w2 w5) := bstep B4.out hb5
    clear hb5
    by_cases h0 : Ra = 0
    · subst h0
      go_wp2_with fail
      go_ret
      exact ⟨rfl, (HX.out _ B5.out).2.2⟩
    · have n2 : (Ra == 0) = false := by simpa using h0
      have h9 : 9 ≤ Ra := by rcases h1 with h1 | h1; exact absurd h1 h0; exact h1
      have n3 : decide (9 ≤ Ra) = true := by simpa using h9
      clear h1
      go_wp2_with fail
      go_ret
      exact ⟨rfl, (HX.out _ B5.out).2.2⟩
  subst hRa
  have x3 := (HX.out _ B3.out).1
  go_wp2_with fail
  refine (known_any (HX.out _ B3.out).2.1).mono ?_
  rintro e w4 ⟨rfl, hb4⟩
  have B4 : Hid (Below w2.heap.size w2 w4) := bstep B3.out hb4
  have G4 : Hid (GR w4 v3 Rl) := G3.out.later hb4
  have x4 := (HX.out _ B4.out).1
  obtain ⟨bn, hbn⟩ : ∃ bn, (W == []) = bn := ⟨_, rfl⟩
  have HBN : Hid ((W == []) = bn) := hbn
  have e1 := bs_toList W
  have e2 : (ByteArray.mk #[]).toList = [] := bs_toList []
  clear hb4 x3 G3
  go_wp2_with fail
  go_loopw [9, 10] (fun s i wr => ∃ k : Nat, k ≤ W.length ∧ i = .int .i64 k ∧ s = .bool (!bn && (W.take k).all inW) ∧ wr = w4) (fun _ i _ => W.length - (intOf i).toNat)
  case atStart => exact ⟨0, Nat.zero_le _, rfl, by simp, rfl⟩
  case round =>
    obtain ⟨k, hk, rfl, rfl, rfl⟩ := hrel
    by_cases hlt : k < W.length
    · have HS : Hid ((W.take (k + 1)).all inW = ((W.take k).all inW && inW W[k])) := allW_step hlt
      have k1 : (0 : Int) ≤ (k : Int) := by omega
      have k2 : (k : Int) < (W.length : Int) := by omega
      cases hcur : (!bn && (W.take k).all inW)
      · have HN : Hid ((!bn && (W.take (k + 1)).all inW) = false) := by
          show (!bn && (W.take (k + 1)).all inW) = false
          rw [HS.out, ← Bool.and_assoc, hcur]; rfl
        rw [hcur] at *
        go_wp2_with fail
        go_roundw
        case rel => exact ⟨k + 1, hlt, rfl, by rw [HN.out], trivial⟩
        case measure => simp only [intOf]; omega
      · have HN : Hid ((!bn && (W.take (k + 1)).all inW) = inW W[k]) := by
          show (!bn && (W.take (k + 1)).all inW) = _
          rw [HS.out, ← Bool.and_assoc, hcur]; rfl
        rw [hcur] at *
        go_wp2_with fail
        refine (letter_any _ _).mono ?_
        rintro e w5 ⟨rfl, hw5⟩
        obtain rfl : wr = w5 := hw5.symm
        go_wp2_with fail
        go_roundw
        case rel => exact ⟨k + 1, hlt, rfl, by rw [HN.out]; rfl, trivial⟩
        case measure => simp only [intOf]; omega
    obtain rfl : k = W.length := by omega
    rw [List.take_length] at *
    cases hcur : (!bn && W.all inW)
    · rw [hcur] at *
      go_wp2_with fail
      go_ret
      exact ⟨rfl, (HX.out _ B4.out).2.2⟩
    have hw1 : W ≠ [] ∧ ∀ x ∈ W, inW x = true := by
      simp only [Bool.and_eq_true, Bool.not_eq_true', List.all_eq_true] at hcur
      refine ⟨fun e => ?_, hcur.2⟩
      have := HBN.out; rw [hcur.1, e] at this; cases this
    obtain ⟨u, hu⟩ := HR2.out hw1.1 hw1.2 trivial
    rw [hcur] at *
    have hRl : [u] = Rl := by have := hu.one; rw [HRR.out] at this; exact (congrArg Prod.fst this).symm
    subst hRl
    have HU : Hid (RefW p F W u) := hu
    subst hv3
    obtain ⟨b1, o1, sa, sn, sc, da, dc, ea, en, ec, P1⟩ := G4.out.place 0 (by simp)
    obtain ⟨hv1, x0, x1, x2, y3, s1, s2, _⟩ := P1
    injection hv1 with hv1 _ _
    subst hv1
    simp only [List.getElem_cons_zero] at x0 x1 x2 y3 s1 s2
    have hsn : sn = u.srcs.length := by obtain ⟨_, _, h, _⟩ := s1.form; injection h
    have hen : en = u.see.length := by obtain ⟨_, _, h, _⟩ := s2.form; injection h
    obtain ⟨dn, hdn⟩ : ∃ dn, u.deps.length = dn := ⟨_, rfl⟩
    rw [hdn] at x2
    rw [hu.name] at x0
    have hsum : sn + dn + en = 1 := by have := hu.num; omega
    simp only [Nat.zero_mul, Nat.add_zero] at x0 x1 x2 y3
    have u1 := bs_toList [97]
    have u2 : (ByteArray.mk #[97]).toList = [97] := bs_toList [97]
    have su1 : (sn : Int) + (dn : Int) + (en : Int) = 1 := by omega
    have su2 : (((sn : Int) + (dn : Int) + (en : Int)) == 1) = true := by simpa using su1
    obtain ⟨N, hN⟩ : ∃ N : Nat, (hdF F).length + W.length = N := ⟨_, rfl⟩
    have T1 : Hid (bs (hdF F) ++ bs W ++ ByteArray.mk #[93] = bs (hdF F ++ W ++ [93])) := by show bs (hdF F) ++ bs W ++ bs [93] = _; rw [bs_app, bs_app]
    have T2 : Hid (bs (hdF F) ++ bs W ++ ByteArray.mk #[93, 125, 32, 116, 97, 114, 103, 101, 116, 32, 97, 123, 125] = bs (hdF F ++ W ++ [93, 125, 32, 116, 97, 114, 103, 101, 116, 32, 97, 123, 125])) := by show bs (hdF F) ++ bs W ++ bs [93, 125, 32, 116, 97, 114, 103, 101, 116, 32, 97, 123, 125] = _; rw [bs_app, bs_app]
    have T3 : Hid (bs (hdF F) ++ bs W ++ ByteArray.mk #[93] ++ bs F ++ ByteArray.mk #[61, 91, 93, 125] = bs (hdF F ++ W ++ [93] ++ F ++ [61, 91, 93, 125])) := by show bs (hdF F) ++ bs W ++ bs [93] ++ bs F ++ bs [61, 91, 93, 125] = _; rw [bs_app, bs_app, bs_app, bs_app]
    have T4 : Hid (ByteArray.mk #[97, 32, 116, 97, 114, 103, 101, 116, 32, 97, 123, 125] = bs [97, 32, 116, 97, 114, 103, 101, 116, 32, 97, 123, 125]) := rfl
    have T5 : Hid (bs (hdF F) ++ bs W ++ ByteArray.mk #[44] ++ bs W ++ ByteArray.mk #[93, 125] = bs (hdF F ++ W ++ [44] ++ W ++ [93, 125])) := by show bs (hdF F) ++ bs W ++ bs [44] ++ bs W ++ bs [93, 125] = _; rw [bs_app, bs_app, bs_app, bs_app]
    have T6 : Hid (bs (hdF F) ++ bs W ++ ByteArray.mk #[44, 93, 125] = bs (hdF F ++ W ++ [44, 93, 125])) := by show bs (hdF F) ++ bs W ++ bs [44, 93, 125] = _; rw [bs_app, bs_app]
    have FST : Hid ((prsM p [97, 32, 116, 97, 114, 103, 101, 116, 32, 97, 123, 125]).2 = 0) := ref_first p
    have hNi : ((hdF F).length : Int) + (W.length : Int) = (N : Int) := by omega
    have V1 : Hid ((prsM p (hdF F ++ W ++ [93])).2 = (N : Int) + 1) := by show _ = _; rw [hu.open', hNi]
    have V2 : Hid ((prsM p (hdF F ++ W ++ [93, 125, 32, 116, 97, 114, 103, 101, 116, 32, 97, 123, 125])).2 = (N : Int) + 10) := by show _ = _; rw [hu.twice, hNi]
    have V3 : Hid ((prsM p (hdF F ++ W ++ [93] ++ F ++ [61, 91, 93, 125])).2 = (N : Int) + 1) := by show _ = _; rw [hu.again, hNi]
    have V5 : Hid ((prsM p (hdF F ++ W ++ [44] ++ W ++ [93, 125])).2 = (N : Int) + 1) := by show _ = _; rw [hu.double, hNi]
    have V6 : Hid ((prsM p (hdF F ++ W ++ [44, 93, 125])).2 = (N : Int) + 1) := by show _ = _; rw [hu.comma, hNi]
    have HXn : Hid (∀ n, Below w2.heap.size w2 (wr.drewN n)) := fun n => bstep B4.out (bd _ n)
    clear hcur hu hw1 G4 s1 s2
    go_wp2_with fail
    go_quiet (fail)
    obtain ⟨w5, hw5⟩ : ∃ w5, wr.drewN nq = w5 := ⟨_, rfl⟩
    have B5 : Hid (Below w2.heap.size w2 w5) := by rw [← hw5]; exact HXn.out nq
    rw [hw5]
    clear hw5 HXn x0 x1 x2 y3 x4
    have x5 := (HX.out _ B5.out).1
    go_wp2_with fail
    rw [T1.out]
    refine (HCs.out _ _ _ (HX.out _ B5.out).2.1 (by simp; omega) V1.out).mono ?_
    rintro e w6 ⟨v6, rfl, hb6⟩
    have B6 : Hid (Below w2.heap.size w2 w6) := bstep B5.out hb6
    have x6 := (HX.out _ B6.out).1
    clear hb6
    go_wp2_with fail
    rw [T2.out]
    refine (HCs.out _ _ _ (HX.out _ B6.out).2.1 (by simp; omega) V2.out).mono ?_
    rintro e w7 ⟨v7, rfl, hb7⟩
    have B7 : Hid (Below w2.heap.size w2 w7) := bstep B6.out hb7
    have x7 := (HX.out _ B7.out).1
    clear hb7
    go_wp2_with fail
    rw [T3.out]
    refine (HCs.out _ _ _ (HX.out _ B7.out).2.1 (by simp; omega) V3.out).mono ?_
    rintro e w8 ⟨v8, rfl, hb8⟩
    have B8 : Hid (Below w2.heap.size w2 w8) := bstep B7.out hb8
    have x8 := (HX.out _ B8.out).1
    clear hb8
    go_wp2_with fail
    refine (HCs.out _ [97, 32, 116, 97, 114, 103, 101, 116, 32, 97, 123, 125] _ (HX.out _ B8.out).2.1 (by decide) FST.out).mono ?_
    rintro e w9 ⟨v9, rfl, hb9⟩
    have B9 : Hid (Below w2.heap.size w2 w9) := bstep B8.out hb9
    have x9 := (HX.out _ B9.out).1
    clear hb9
    go_wp2_with fail
    rw [T5.out]
    refine (HCs.out _ _ _ (HX.out _ B9.out).2.1 (by simp; omega) V5.out).mono ?_
    rintro e w10 ⟨v10, rfl, hb10⟩
    have B10 : Hid (Below w2.heap.size w2 w10) := bstep B9.out hb10
    have x10 := (HX.out _ B10.out).1
    clear hb10
    go_wp2_with fail
    rw [T6.out]
    refine (HCs.out _ _ _ (HX.out _ B10.out).2.1 (by simp; omega) V6.out).mono ?_
    rintro e w11 ⟨v11, rfl, hb11⟩
    have B11 : Hid (Below w2.heap.size w2 w11) := bstep B10.out hb11
    have x11 := (HX.out _ B11.out).1
    clear hb11
    go_wp2_with fail
    go_ret
    exact ⟨rfl, (HX.out _ B11.out).2.2⟩
end Go.Proofs.YtemoplpfndnklaaGreatDoor

namespace Go.Proofs.YtemoplpfndnklaaGreatDoor
open Go.RowKit

theorem TsRead.take {w : World} : ∀ {a : List Tv} {b : List Tg} (i : Nat), TsRead w a b → TsRead w (a.take i) (b.take i)
  | _, _, 0, _ => by simp [TsRead]
  | [], [], _ + 1, _ => trivial
  | _ :: _, _ :: _, i + 1, h => ⟨h.1, TsRead.take i h.2⟩
theorem TsRead.drop {w : World} : ∀ {a : List Tv} {b : List Tg} (i : Nat), TsRead w a b → TsRead w (a.drop i) (b.drop i)
  | _, _, 0, h => by simpa using h
  | [], [], _ + 1, _ => trivial
  | _ :: _, _ :: _, i + 1, h => TsRead.drop (w := w) i h.2
theorem gc_split (l : List Tv) (i : Nat) : gc l = gc (l.take i) ++ gc (l.drop i) := by rw [← gc_append, List.take_append_drop]
theorem GS.take {w : World} {a : Option Addr} {n c : Nat} {l : List Tv} {i : Nat} (h : GS w (.slice a n c) l) (hi : i ≤ l.length) : GS w (.slice a i c) (l.take i) := by
  rcases h with ⟨⟨a', c', e⟩, rfl⟩ | ⟨b, off, cap, e, hc, hlt, hcell⟩
  · obtain rfl : i = 0 := by simpa using hi
    exact .inl ⟨⟨_, _, rfl⟩, rfl⟩
  · injection e with e1 e2 e3
    subst e1 e3
    have hl : (l.take i).length = i := by simp [hi]
    refine .inr ⟨b, off, c, by rw [hl], by rw [hl]; omega, hlt, fun j u hu => hcell j u ?_⟩
    rw [gc_split l i]
    have hj := (List.getElem?_eq_some_iff.1 hu).1
    rw [List.getElem?_append_left hj]; exact hu
theorem GS.drop {w : World} {b off n c : Nat} {l : List Tv} {i : Nat} (h : GS w (.slice (some ⟨b, off, none⟩) n c) l) (hi : i < l.length) : GS w (.slice (some ⟨b, off + i * 4, none⟩) (l.length - i) (c - i)) (l.drop i) := by
  rcases h with ⟨_, rfl⟩ | ⟨b', off', cap, e, hc, hlt, hcell⟩
  · simp at hi
  · injection e with e1 e2 e3
    injection e1 with e1
    injection e1 with e4 e5
    subst e4 e5 e3
    have hl : (l.drop i).length = l.length - i := by simp
    refine .inr ⟨b, off + i * 4, c - i, by rw [hl], by rw [hl]; omega, hlt, fun j u hu => ?_⟩
    have := hcell (i * 4 + j) u (by
      rw [gc_split l i]
      have hl2 : (gc (l.take i)).length = i * 4 := by rw [gc_length, List.length_take, Nat.min_eq_left (by omega)]
      rw [List.getElem?_append_right (by omega), hl2, Nat.add_sub_cancel_left]; exact hu)
    rw [Nat.add_assoc]; exact this
theorem GR.take {w : World} {a : Option Addr} {n c : Nat} {l : List Tg} {i : Nat} (h : GR w (.slice a n c) l) (hi : i ≤ l.length) : GR w (.slice a i c) (l.take i) := by
  obtain ⟨x, h1, h2⟩ := h.it
  exact ⟨_, h1.take (by rw [h2.len]; exact hi), h2.take i⟩
theorem GR.drop {w : World} {b off n c : Nat} {l : List Tg} {i : Nat} (h : GR w (.slice (some ⟨b, off, none⟩) n c) l) (hi : i < l.length) : GR w (.slice (some ⟨b, off + i * 4, none⟩) (l.length - i) (c - i)) (l.drop i) := by
  obtain ⟨x, h1, h2⟩ := h.it
  refine ⟨_, ?_, h2.drop i⟩
  rw [← h2.len]
  exact h1.drop (by rw [h2.len]; exact hi)
theorem GR.cap {w : World} {v : Value} {l : List Tg} (h : GR w v l) (h0 : l ≠ []) : ∃ b o c, v = .slice (some ⟨b, o, none⟩) l.length c ∧ l.length ≤ c := by
  obtain ⟨x, h1, h2⟩ := h.it
  rcases h1 with ⟨_, rfl⟩ | ⟨b, off, cap, e, hc, _⟩
  · have := h2.len; exact absurd (List.eq_nil_of_length_eq_zero this.symm) h0
  · exact ⟨b, off, cap, by rw [e, h2.len], by rw [← h2.len]; exact hc⟩
end Go.Proofs.YtemoplpfndnklaaGreatDoor
