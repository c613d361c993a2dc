import Derived.Test.YtefhdnhhcgbbjaaStep
namespace Go.Proofs.Ytefhdnhhcgbbjaa
open Go.RowKit

/-- an item: kind, number, text -/
structure It where
  k : Int
  x : Nat
  s : ByteArray
def It.val (i : It) : Value := .agg #[.int .i64 i.k, .int .u64 i.x, .string i.s]
def It.cells (i : It) : List Value := [.int .i64 i.k, .int .u64 i.x, .string i.s]
/-- its kind, by the rest -/
def kd (k : Int) : Int := k % 6
theorem kd_tmod (k : Int) : kd k = if k.tmod 6 < 0 then k.tmod 6 + 6 else k.tmod 6 := by
  unfold kd
  rw [Int.tmod_eq_emod]
  split <;> split <;> omega
theorem tmod6 (k : Int) : -6 < k.tmod 6 ∧ k.tmod 6 < 6 := by
  rw [Int.tmod_eq_emod]
  split <;> omega
/-- as bytes -/
def It.enc (i : It) : List UInt8 :=
  if kd i.k = 0 then le 1 (i.x % 256) else if kd i.k = 1 then le 2 (i.x % 65536) else if kd i.k = 2 then le 4 (i.x % 4294967296) else if kd i.k = 3 then le 8 i.x else if kd i.k = 4 then le 8 (i.x / 2) else le 4 i.s.size ++ i.s.data.toList

set_option maxHeartbeats 400000 in
theorem kind_any (w : World) (i : It) (hk : -9223372036854775808 ≤ i.k) (hk2 : i.k ≤ 9223372036854775807) :
    Calls Try.prog 28 #[i.val] w fun e w' => e = .returned (.int .i64 (kd i.k)) ∧ Below w.heap.size w w' := by
  obtain ⟨k, x, s⟩ := i
  simp only [It.val] at *
  have hb := tmod6 k
  obtain ⟨hb1, hb2⟩ := hb
  by_cases h : k.tmod 6 < 0
  · have HK : Hid (kd k = k.tmod 6 + 6) := by have := kd_tmod k; rw [if_pos h] at this; exact this
    go_enter Try.func28, Try.ntmps28
    go_wp2_with fail
    go_ret
    refine ⟨?_, balloc _ _⟩
    rw [HK.out]
    rfl
  · have HK : Hid (kd k = k.tmod 6) := by have := kd_tmod k; rw [if_neg h] at this; exact this
    go_enter Try.func28, Try.ntmps28
    go_wp2_with fail
    go_ret
    refine ⟨?_, balloc _ _⟩
    rw [HK.out]
    rfl

set_option maxHeartbeats 1000000 in
theorem ilay_any {w : World} {v : Value} {l : List UInt8} (h : BS w v l) (i : It) (hk : -9223372036854775808 ≤ i.k) (hk2 : i.k ≤ 9223372036854775807) (hx : i.x < 18446744073709551616) (hs : i.s.size ≤ 1000000000) (hm : l.length ≤ 1000000000) :
    Calls Try.prog 8 #[v, i.val] w fun e w' => ∃ v', e = .returned v' ∧ Own w.heap.size w' v' (l ++ i.enc) ∧ Below w.heap.size w w' := by
  have H : Hid (BS w v l) := h
  clear h
  have HK : Hid (∀ w : World, Calls Try.prog 28 #[.agg #[.int .i64 i.k, .int .u64 i.x, .string i.s]] w fun e w' => e = .returned (.int .i64 (kd i.k)) ∧ Below w.heap.size w w') := fun w => kind_any w i hk hk2
  have HE : Hid (∀ n, kd i.k = n → i.enc = if n = 0 then le 1 (i.x % 256) else if n = 1 then le 2 (i.x % 65536) else if n = 2 then le 4 (i.x % 4294967296) else if n = 3 then le 8 i.x else if n = 4 then le 8 (i.x / 2) else le 4 i.s.size ++ i.s.data.toList) := by
    intro n hn
    subst hn
    rfl
  have hkd : kd i.k = 0 ∨ kd i.k = 1 ∨ kd i.k = 2 ∨ kd i.k = 3 ∨ kd i.k = 4 ∨ kd i.k = 5 := by unfold kd; omega
  obtain ⟨n, hn⟩ : ∃ n, kd i.k = n := ⟨_, rfl⟩
  rw [hn] at hkd
  have hen := HE.out n hn
  have HK' : Hid (∀ w : World, Calls Try.prog 28 #[.agg #[.int .i64 i.k, .int .u64 i.x, .string i.s]] w fun e w' => e = .returned (.int .i64 n) ∧ Below w.heap.size w w') := by rw [← hn]; exact HK.out
  unfold It.val
  generalize hE : i.enc = E at *
  obtain ⟨k, x, s⟩ := i
  simp only at hx hs hk hk2 hen HK' ⊢
  clear hE HE HK hn
  have HEN : Hid (E = if n = 0 then le 1 (x % 256) else if n = 1 then le 2 (x % 65536) else if n = 2 then le 4 (x % 4294967296) else if n = 3 then le 8 x else if n = 4 then le 8 (x / 2) else le 4 s.size ++ s.data.toList) := hen
  clear hen
  have hcell : ∀ w' : World, Below (w.alloc (.cells #[.int .i64 k, .int .u64 x, .string s] 26)).heap.size (w.alloc (.cells #[.int .i64 k, .int .u64 x, .string s] 26)) w' → w'.cell? ⟨w.heap.size, 1, none⟩ = some (.int .u64 x) ∧ w'.cell? ⟨w.heap.size, 2, none⟩ = some (.string s) := by
    intro w' hb
    refine ⟨?_, ?_⟩
    · rw [hb.cell (p := ⟨w.heap.size, 1, none⟩) (by simp)]; simp
    · rw [hb.cell (p := ⟨w.heap.size, 2, none⟩) (by simp)]; simp
  have HC : Hid (∀ w' : World, Below (w.alloc (.cells #[.int .i64 k, .int .u64 x, .string s] 26)).heap.size (w.alloc (.cells #[.int .i64 k, .int .u64 x, .string s] 26)) w' → w'.cell? ⟨w.heap.size, 1, none⟩ = some (.int .u64 x) ∧ w'.cell? ⟨w.heap.size, 2, none⟩ = some (.string s)) := hcell
  clear hcell
  rcases hkd with rfl | rfl | rfl | rfl | rfl | rfl
  · have hE : E = le 1 (x % 256) := HEN.out
    subst hE
    clear HEN
    go_enter Try.func8, Try.ntmps8
    go_wp2_with fail
    refine (HK'.out _).mono ?_
    rintro e w1 ⟨rfl, hb1⟩
    have hc := HC.out w1 hb1
    obtain ⟨hc1, hc2⟩ := hc
    have B1 : Hid (Below w.heap.size w w1) := bstep (balloc w _) hb1
    have H2 : Hid (BS w1 v l) := H.out.later B1.out
    clear hb1
    go_wp2_with fail
    refine (put8_any H2.out _ (x % 256) (by omega) (by omega) (by omega)).mono ?_
    rintro e w2 ⟨v2, rfl, ho2, hb2⟩
    have O2 : Hid (Own w1.heap.size w2 v2 _) := ho2
    have B2 : Hid (Below w1.heap.size w1 w2) := hb2
    have hz := B1.out.size
    clear ho2 hb2
    go_wp2_with fail
    go_ret
    exact ⟨_, rfl, O2.out.mono hz, bstep B1.out B2.out⟩
  · have hE : E = le 2 (x % 65536) := HEN.out
    subst hE
    clear HEN
    go_enter Try.func8, Try.ntmps8
    go_wp2_with fail
    refine (HK'.out _).mono ?_
    rintro e w1 ⟨rfl, hb1⟩
    have hc := HC.out w1 hb1
    obtain ⟨hc1, hc2⟩ := hc
    have B1 : Hid (Below w.heap.size w w1) := bstep (balloc w _) hb1
    have H2 : Hid (BS w1 v l) := H.out.later B1.out
    clear hb1
    go_wp2_with fail
    refine (put16_any H2.out _ (x % 65536) (by rw [IntKind.wrap_u16]; omega) (by omega) (by omega)).mono ?_
    rintro e w2 ⟨v2, rfl, ho2, hb2⟩
    have O2 : Hid (Own w1.heap.size w2 v2 _) := ho2
    have B2 : Hid (Below w1.heap.size w1 w2) := hb2
    have hz := B1.out.size
    clear ho2 hb2
    go_wp2_with fail
    go_ret
    exact ⟨_, rfl, O2.out.mono hz, bstep B1.out B2.out⟩
  · have hE : E = le 4 (x % 4294967296) := HEN.out
    subst hE
    clear HEN
    go_enter Try.func8, Try.ntmps8
    go_wp2_with fail
    refine (HK'.out _).mono ?_
    rintro e w1 ⟨rfl, hb1⟩
    have hc := HC.out w1 hb1
    obtain ⟨hc1, hc2⟩ := hc
    have B1 : Hid (Below w.heap.size w w1) := bstep (balloc w _) hb1
    have H2 : Hid (BS w1 v l) := H.out.later B1.out
    clear hb1
    go_wp2_with fail
    refine (put32_any H2.out _ (x % 4294967296) (by omega) (by omega) (by omega)).mono ?_
    rintro e w2 ⟨v2, rfl, ho2, hb2⟩
    have O2 : Hid (Own w1.heap.size w2 v2 _) := ho2
    have B2 : Hid (Below w1.heap.size w1 w2) := hb2
    have hz := B1.out.size
    clear ho2 hb2
    go_wp2_with fail
    go_ret
    exact ⟨_, rfl, O2.out.mono hz, bstep B1.out B2.out⟩
  · have hE : E = le 8 x := HEN.out
    subst hE
    clear HEN
    go_enter Try.func8, Try.ntmps8
    go_wp2_with fail
    refine (HK'.out _).mono ?_
    rintro e w1 ⟨rfl, hb1⟩
    have hc := HC.out w1 hb1
    obtain ⟨hc1, hc2⟩ := hc
    have B1 : Hid (Below w.heap.size w w1) := bstep (balloc w _) hb1
    have H2 : Hid (BS w1 v l) := H.out.later B1.out
    clear hb1
    go_wp2_with fail
    refine (put64_any H2.out _ x rfl (by omega)).mono ?_
    rintro e w2 ⟨v2, rfl, ho2, hb2⟩
    have O2 : Hid (Own w1.heap.size w2 v2 _) := ho2
    have B2 : Hid (Below w1.heap.size w1 w2) := hb2
    have hz := B1.out.size
    clear ho2 hb2
    go_wp2_with fail
    go_ret
    exact ⟨_, rfl, O2.out.mono hz, bstep B1.out B2.out⟩
  · have hE : E = le 8 (x / 2) := HEN.out
    subst hE
    clear HEN
    go_enter Try.func8, Try.ntmps8
    go_wp2_with fail
    refine (HK'.out _).mono ?_
    rintro e w1 ⟨rfl, hb1⟩
    have hc := HC.out w1 hb1
    obtain ⟨hc1, hc2⟩ := hc
    have B1 : Hid (Below w.heap.size w w1) := bstep (balloc w _) hb1
    have H2 : Hid (BS w1 v l) := H.out.later B1.out
    clear hb1
    go_wp2_with fail
    refine (put64_any H2.out _ (x / 2) (by omega) (by omega)).mono ?_
    rintro e w2 ⟨v2, rfl, ho2, hb2⟩
    have O2 : Hid (Own w1.heap.size w2 v2 _) := ho2
    have B2 : Hid (Below w1.heap.size w1 w2) := hb2
    have hz := B1.out.size
    clear ho2 hb2
    go_wp2_with fail
    go_ret
    exact ⟨_, rfl, O2.out.mono hz, bstep B1.out B2.out⟩
  · have hE : E = le 4 s.size ++ s.data.toList := HEN.out
    subst hE
    clear HEN
    go_enter Try.func8, Try.ntmps8
    go_wp2_with fail
    refine (HK'.out _).mono ?_
    rintro e w1 ⟨rfl, hb1⟩
    have hc := HC.out w1 hb1
    obtain ⟨hc1, hc2⟩ := hc
    have B1 : Hid (Below w.heap.size w w1) := bstep (balloc w _) hb1
    have H2 : Hid (BS w1 v l) := H.out.later B1.out
    clear hb1
    go_wp2_with fail
    refine (text_any H2.out s hs (by omega)).mono ?_
    rintro e w2 ⟨v2, rfl, ho2, hb2⟩
    have O2 : Hid (Own w1.heap.size w2 v2 _) := ho2
    have B2 : Hid (Below w1.heap.size w1 w2) := hb2
    have hz := B1.out.size
    clear ho2 hb2
    go_wp2_with fail
    go_ret
    exact ⟨_, rfl, (by rw [← List.append_assoc]; exact O2.out.mono hz), bstep B1.out B2.out⟩

end Go.Proofs.Ytefhdnhhcgbbjaa
