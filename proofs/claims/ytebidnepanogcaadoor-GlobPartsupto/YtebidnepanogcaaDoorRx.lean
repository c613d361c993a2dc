/-
  The document's Expand.
-/
import Derived.Test.YtebidnepanogcaaDoorRs
namespace Go.Proofs.YtebidnepanogcaaDoor
open Go.RowKit

theorem exl_bad {l : List Fl} {J : List UInt8} (h : valP J = false) : exl l J = ([], false) := by
  unfold valP at h
  rw [Bool.or_eq_false_iff] at h
  exact exl_none h.1 h.2
/-- a file's four cells -/
structure FC (w : World) (b o : Nat) (f : Fl) : Prop where
  c0 : w.cell? ⟨b, o, none⟩ = some (.string (bs f.path))
  c1 : w.cell? ⟨b, o + 1, none⟩ = some (.string (bs f.text))
  c2 : w.cell? ⟨b, o + 2, none⟩ = some (.int .i64 f.blob)
  c3 : w.cell? ⟨b, o + 3, none⟩ = some (.int .i64 f.size)
  lt : b < w.heap.size
theorem FC.later {w w' : World} {b o : Nat} {f : Fl} (h : FC w b o f) (hb : Below w.heap.size w w') : FC w' b o f :=
  ⟨(hb.cell (p := ⟨b, o, none⟩) h.lt).trans h.c0, (hb.cell (p := ⟨b, o + 1, none⟩) h.lt).trans h.c1, (hb.cell (p := ⟨b, o + 2, none⟩) h.lt).trans h.c2, (hb.cell (p := ⟨b, o + 3, none⟩) h.lt).trans h.c3, Nat.lt_of_lt_of_le h.lt hb.size⟩
theorem FS.fc {w : World} {a : Option Addr} {c : Nat} {l : List Fl} (h : FS w (.slice a l.length c) l) {wr : World} (hb : Below w.heap.size w wr) {k : Nat} (hk : k < l.length) : ∃ b off, a = some ⟨b, off, none⟩ ∧ FC wr b (off + k * 4) l[k] := by
  obtain ⟨b, off, e, h1, h2, h3, h4, h5⟩ := h.at hb hk
  exact ⟨b, off, e, h2, h3, h4, h5, Nat.lt_of_lt_of_le h1 hb.size⟩

set_option maxRecDepth 100000 in
set_option maxHeartbeats 8000000 in
theorem rexp1p {w : World} {v : Value} {l : List Fl} (p s J : List UInt8) (hJ : whl p s = J) (h0 : p = []) (h : FS w v l) (sm : FQ l) (hp : p.length ≤ 400000000) (hs : s.length ≤ 400000000)
    (h1 : valP s = false) (hv : valP J = false) :
    Calls Tryd.prog 19 #[v, .string (bs p), .string (bs s)] w fun e w' => ∃ u, e = .returned (.tuple #[u, .bool (exl l J).2]) ∧ OwnF w.heap.size w' u (exl l J).1 ∧ Below w.heap.size w w' := by
  have hJl : J.length ≤ 1000000000 := by have := whl_len p s; rw [hJ] at this; omega
  have HV1 : Hid (∀ W : World, Below w.heap.size w W → Calls Tryd.prog 15 #[.string (bs s)] W fun e w' => e = .returned (.bool (valP s)) ∧ Below W.heap.size W w') := fun W _ => rval_any s W (by omega)
  have HV2 : Hid (∀ W : World, Calls Tryd.prog 38 #[.string (bs p)] W fun e w' => e = .returned (.bool (okP p)) ∧ Below W.heap.size W w') := fun W => rvalid_any p W (by omega)
  have HV3 : Hid (∀ W : World, Calls Tryd.prog 15 #[.string (bs J)] W fun e w' => e = .returned (.bool (valP J)) ∧ Below W.heap.size W w') := fun W => rval_any J W (by omega)
  have HLit : Hid (∀ W : World, Calls Tryd.prog 33 #[.string (bs J)] W fun e w' => e = .returned (.bool (litP J)) ∧ Below W.heap.size W w') := fun W => rlit_any J W (by omega)
  have z1 : (bs p).size = p.length := rfl
  have z2 : (bs s).size = s.length := rfl
  have ep := isE p
  have i0 : p.isEmpty = true := by rw [h0]; rfl
  rw [i0] at ep
  obtain rfl : J = s := by rw [← hJ]; unfold whl; rw [if_pos h0]
  obtain ⟨a, c, rfl, _⟩ := h.form
  have H' : Hid (FS w (.slice a l.length c) l) := h
  have SM : Hid (FQ l) := sm
  obtain ⟨n, hn⟩ : ∃ n, l.length = n := ⟨_, rfl⟩
  have hlen : n ≤ 4000000 := hn ▸ sm.len
  rw [hn]
  have HN : Hid (l.length = n) := hn
  clear hn h sm
  rename_i hform
  clear hform
  rw [exl_bad hv]
  rw [h1] at HV1
  clear hJ h0
  go_enter Tryd.func19, Tryd.ntmps19
  go_wp2_with fail
  refine (HV1.out _ (Below.refl _ _)).mono ?_
  rintro e w1 ⟨rfl, hb1⟩
  have HB1 : Hid (Below w.heap.size w w1) := hb1
  clear hb1
  go_wp2_with fail
  go_ret2
  exact ⟨_, rfl, OwnF.nil _ _, HB1.out⟩
set_option maxRecDepth 100000 in
set_option maxHeartbeats 8000000 in
theorem rexp2p {w : World} {v : Value} {l : List Fl} (p s J : List UInt8) (hJ : whl p s = J) (h0 : p = []) (h : FS w v l) (sm : FQ l) (hp : p.length ≤ 400000000) (hs : s.length ≤ 400000000)
    (h1 : valP s = true) (h2 : okP p = false) (hv : valP J = false) :
    Calls Tryd.prog 19 #[v, .string (bs p), .string (bs s)] w fun e w' => ∃ u, e = .returned (.tuple #[u, .bool (exl l J).2]) ∧ OwnF w.heap.size w' u (exl l J).1 ∧ Below w.heap.size w w' := by
  have hJl : J.length ≤ 1000000000 := by have := whl_len p s; rw [hJ] at this; omega
  have HV1 : Hid (∀ W : World, Below w.heap.size w W → Calls Tryd.prog 15 #[.string (bs s)] W fun e w' => e = .returned (.bool (valP s)) ∧ Below W.heap.size W w') := fun W _ => rval_any s W (by omega)
  have HV2 : Hid (∀ W : World, Calls Tryd.prog 38 #[.string (bs p)] W fun e w' => e = .returned (.bool (okP p)) ∧ Below W.heap.size W w') := fun W => rvalid_any p W (by omega)
  have HV3 : Hid (∀ W : World, Calls Tryd.prog 15 #[.string (bs J)] W fun e w' => e = .returned (.bool (valP J)) ∧ Below W.heap.size W w') := fun W => rval_any J W (by omega)
  have HLit : Hid (∀ W : World, Calls Tryd.prog 33 #[.string (bs J)] W fun e w' => e = .returned (.bool (litP J)) ∧ Below W.heap.size W w') := fun W => rlit_any J W (by omega)
  have z1 : (bs p).size = p.length := rfl
  have z2 : (bs s).size = s.length := rfl
  have ep := isE p
  have i0 : p.isEmpty = true := by rw [h0]; rfl
  rw [i0] at ep
  obtain rfl : J = s := by rw [← hJ]; unfold whl; rw [if_pos h0]
  obtain ⟨a, c, rfl, _⟩ := h.form
  have H' : Hid (FS w (.slice a l.length c) l) := h
  have SM : Hid (FQ l) := sm
  obtain ⟨n, hn⟩ : ∃ n, l.length = n := ⟨_, rfl⟩
  have hlen : n ≤ 4000000 := hn ▸ sm.len
  rw [hn]
  have HN : Hid (l.length = n) := hn
  clear hn h sm
  rename_i hform
  clear hform
  rw [exl_bad hv]
  rw [h1] at HV1
  rw [h2] at HV2
  clear hJ h0
  go_enter Tryd.func19, Tryd.ntmps19
  go_wp2_with fail
  refine (HV1.out _ (Below.refl _ _)).mono ?_
  rintro e w1 ⟨rfl, hb1⟩
  have HB1 : Hid (Below w.heap.size w w1) := hb1
  clear hb1
  go_wp2_with fail
  refine (HV2.out _).mono ?_
  rintro e w2 ⟨rfl, hb2⟩
  have HB2 : Hid (Below w.heap.size w w2) := bstep HB1.out hb2
  clear hb2
  go_wp2_with fail
  go_ret2
  exact ⟨_, rfl, OwnF.nil _ _, HB2.out⟩
set_option maxRecDepth 100000 in
set_option maxHeartbeats 8000000 in
theorem rexp3p {w : World} {v : Value} {l : List Fl} (p s J : List UInt8) (hJ : whl p s = J) (h0 : p = []) (h : FS w v l) (sm : FQ l) (hp : p.length ≤ 400000000) (hs : s.length ≤ 400000000)
    (h1 : valP s = true) (h2 : okP p = true) (hv : valP J = false) :
    Calls Tryd.prog 19 #[v, .string (bs p), .string (bs s)] w fun e w' => ∃ u, e = .returned (.tuple #[u, .bool (exl l J).2]) ∧ OwnF w.heap.size w' u (exl l J).1 ∧ Below w.heap.size w w' := by
  have hJl : J.length ≤ 1000000000 := by have := whl_len p s; rw [hJ] at this; omega
  have HV1 : Hid (∀ W : World, Below w.heap.size w W → Calls Tryd.prog 15 #[.string (bs s)] W fun e w' => e = .returned (.bool (valP s)) ∧ Below W.heap.size W w') := fun W _ => rval_any s W (by omega)
  have HV2 : Hid (∀ W : World, Calls Tryd.prog 38 #[.string (bs p)] W fun e w' => e = .returned (.bool (okP p)) ∧ Below W.heap.size W w') := fun W => rvalid_any p W (by omega)
  have HV3 : Hid (∀ W : World, Calls Tryd.prog 15 #[.string (bs J)] W fun e w' => e = .returned (.bool (valP J)) ∧ Below W.heap.size W w') := fun W => rval_any J W (by omega)
  have HLit : Hid (∀ W : World, Calls Tryd.prog 33 #[.string (bs J)] W fun e w' => e = .returned (.bool (litP J)) ∧ Below W.heap.size W w') := fun W => rlit_any J W (by omega)
  have z1 : (bs p).size = p.length := rfl
  have z2 : (bs s).size = s.length := rfl
  have ep := isE p
  have i0 : p.isEmpty = true := by rw [h0]; rfl
  rw [i0] at ep
  obtain rfl : J = s := by rw [← hJ]; unfold whl; rw [if_pos h0]
  obtain ⟨a, c, rfl, _⟩ := h.form
  have H' : Hid (FS w (.slice a l.length c) l) := h
  have SM : Hid (FQ l) := sm
  obtain ⟨n, hn⟩ : ∃ n, l.length = n := ⟨_, rfl⟩
  have hlen : n ≤ 4000000 := hn ▸ sm.len
  rw [hn]
  have HN : Hid (l.length = n) := hn
  clear hn h sm
  rename_i hform
  clear hform
  rw [exl_bad hv]
  rw [h1] at HV1
  rw [h2] at HV2
  rw [hv] at HV3
  clear hJ h0
  go_enter Tryd.func19, Tryd.ntmps19
  go_wp2_with fail
  refine (HV1.out _ (Below.refl _ _)).mono ?_
  rintro e w1 ⟨rfl, hb1⟩
  have HB1 : Hid (Below w.heap.size w w1) := hb1
  clear hb1
  go_wp2_with fail
  refine (HV2.out _).mono ?_
  rintro e w2 ⟨rfl, hb2⟩
  have HB2 : Hid (Below w.heap.size w w2) := bstep HB1.out hb2
  clear hb2
  go_wp2_with fail
  refine (HV3.out _).mono ?_
  rintro e w3 ⟨rfl, hb3⟩
  have HB3 : Hid (Below w.heap.size w w3) := bstep HB2.out hb3
  clear hb3
  go_wp2_with fail
  go_ret2
  exact ⟨_, rfl, OwnF.nil _ _, HB3.out⟩
set_option maxRecDepth 100000 in
set_option maxHeartbeats 8000000 in
theorem rexp4p {w : World} {v : Value} {l : List Fl} (p s J : List UInt8) (hJ : whl p s = J) (h0 : p = []) (h : FS w v l) (sm : FQ l) (hp : p.length ≤ 400000000) (hs : s.length ≤ 400000000)
    (h1 : valP s = true) (h2 : okP p = true) (hv : valP J = true) (hl : litP J = true) :
    Calls Tryd.prog 19 #[v, .string (bs p), .string (bs s)] w fun e w' => ∃ u, e = .returned (.tuple #[u, .bool (exl l J).2]) ∧ OwnF w.heap.size w' u (exl l J).1 ∧ Below w.heap.size w w' := by
  have hJl : J.length ≤ 1000000000 := by have := whl_len p s; rw [hJ] at this; omega
  have HV1 : Hid (∀ W : World, Below w.heap.size w W → Calls Tryd.prog 15 #[.string (bs s)] W fun e w' => e = .returned (.bool (valP s)) ∧ Below W.heap.size W w') := fun W _ => rval_any s W (by omega)
  have HV2 : Hid (∀ W : World, Calls Tryd.prog 38 #[.string (bs p)] W fun e w' => e = .returned (.bool (okP p)) ∧ Below W.heap.size W w') := fun W => rvalid_any p W (by omega)
  have HV3 : Hid (∀ W : World, Calls Tryd.prog 15 #[.string (bs J)] W fun e w' => e = .returned (.bool (valP J)) ∧ Below W.heap.size W w') := fun W => rval_any J W (by omega)
  have HLit : Hid (∀ W : World, Calls Tryd.prog 33 #[.string (bs J)] W fun e w' => e = .returned (.bool (litP J)) ∧ Below W.heap.size W w') := fun W => rlit_any J W (by omega)
  have z1 : (bs p).size = p.length := rfl
  have z2 : (bs s).size = s.length := rfl
  have ep := isE p
  have i0 : p.isEmpty = true := by rw [h0]; rfl
  rw [i0] at ep
  obtain rfl : J = s := by rw [← hJ]; unfold whl; rw [if_pos h0]
  obtain ⟨a, c, rfl, _⟩ := h.form
  have H' : Hid (FS w (.slice a l.length c) l) := h
  have SM : Hid (FQ l) := sm
  obtain ⟨n, hn⟩ : ∃ n, l.length = n := ⟨_, rfl⟩
  have hlen : n ≤ 4000000 := hn ▸ sm.len
  rw [hn]
  have HN : Hid (l.length = n) := hn
  clear hn h sm
  rename_i hform
  clear hform
  rw [h1] at HV1
  rw [h2] at HV2
  rw [hv] at HV3
  rw [hl] at HLit
  have HA0 := exl_lit (l := l) hl
  obtain ⟨A, hA⟩ : ∃ A, exl l J = A := ⟨_, rfl⟩
  rw [hA]
  obtain ⟨r, hr⟩ : ∃ r, fnd l J = r := ⟨_, rfl⟩
  have HR : Hid (fnd (l.drop 0) J = r) := hr
  have HA : Hid ((r.toList, r.isSome) = A) := by rw [← hA, HA0, hr]; rfl
  have eJ := bs_toList J
  clear HA0 hA hr hv hl h1 h2
  clear hJ h0
  go_enter Tryd.func19, Tryd.ntmps19
  go_wp2_with fail
  refine (HV1.out _ (Below.refl _ _)).mono ?_
  rintro e w1 ⟨rfl, hb1⟩
  have HB1 : Hid (Below w.heap.size w w1) := hb1
  clear hb1
  go_wp2_with fail
  refine (HV2.out _).mono ?_
  rintro e w2 ⟨rfl, hb2⟩
  have HB2 : Hid (Below w.heap.size w w2) := bstep HB1.out hb2
  clear hb2
  go_wp2_with fail
  refine (HV3.out _).mono ?_
  rintro e w3 ⟨rfl, hb3⟩
  have HB3 : Hid (Below w.heap.size w w3) := bstep HB2.out hb3
  clear hb3
  go_wp2_with fail
  go_loopw [9, 10] (fun o i wr => ∃ k : Nat, k ≤ n ∧ i = .int .i64 k ∧ o = .slice none 0 0 ∧ Below w.heap.size w wr ∧ fnd (l.drop k) J = r) (fun _ i _ => n - (intOf i).toNat)
  case atStart => exact ⟨0, by omega, rfl, rfl, HB3.out, HR.out⟩
  case round =>
    obtain ⟨k, hk, rfl, rfl, hb, hl⟩ := hrel
    have HB : Hid (Below w.heap.size w wr) := hb
    have HL : Hid (fnd (l.drop k) J = r) := hl
    clear hb hl
    by_cases hlt : k < n
    · have hkl : k < l.length := by have := HN.out; omega
      obtain ⟨b, off, ea, hfc⟩ := FS.fc H'.out HB.out hkl
      subst ea
      have HS2 : Hid ((if (l[k]).path = J then some l[k] else fnd (l.drop (k + 1)) J) = r) := by
        have h1 := HL.out
        rw [fnd_step l k hkl] at h1; exact h1
      obtain ⟨f, hf⟩ : ∃ f, l[k] = f := ⟨_, rfl⟩
      rw [hf] at hfc HS2
      clear hf
      obtain ⟨fp, ft, bl, z⟩ := f
      have HF : Hid (FC wr b (off + k * 4) ⟨fp, ft, bl, z⟩) := hfc
      obtain ⟨d0, d1, d2, d3, hbl⟩ := hfc
      simp only at d0 d1 d2 d3 HS2
      have k1 : (0 : Int) ≤ (k : Int) := by omega
      have k2 : (k : Int) < (n : Int) := by omega
      have hpp := bs_toList fp
      go_wp2_with fail
      refine (HLit.out _).mono ?_
      rintro e w5 ⟨rfl, hb5⟩
      have HB5 : Hid (Below w.heap.size w w5) := bstep HB.out hb5
      obtain ⟨e0, e1, e2, e3, hbl5⟩ := HF.out.later hb5
      simp only at e0 e1 e2 e3
      clear hb5 d0 d1 d2 d3
      by_cases hpq : fp = J
      · have hd : (fp == J) = true := by simpa using hpq
        have HPQ : Hid (fp = J) := hpq
        clear hpq
        go_wp2_with fail
        go_ret2
        have h1 := HS2.out
        rw [if_pos HPQ.out] at h1
        have e6 : A = ([⟨fp, ft, bl, z⟩], true) := by rw [← HA.out, ← h1]; rfl
        rw [e6]
        exact ⟨_, rfl, src_own w.heap.size HB5.out.size ⟨fp, ft, bl, z⟩, bstep HB5.out (balloc _ _)⟩
      · have hd : (fp == J) = false := by simpa using hpq
        have HPQ : Hid (¬ fp = J) := hpq
        clear hpq
        go_wp2_with fail
        go_roundw
        case rel =>
          refine ⟨k + 1, by omega, by go_num, rfl, HB5.out, ?_⟩
          have h1 := HS2.out
          rw [if_neg HPQ.out] at h1
          exact h1
        case measure => simp [intOf]; omega
    · obtain rfl : k = n := by omega
      go_wp2_with fail
      refine (HLit.out _).mono ?_
      rintro e w5 ⟨rfl, hb5⟩
      have HB5 : Hid (Below w.heap.size w w5) := bstep HB.out hb5
      clear hb5
      go_wp2_with fail
      go_ret2
      have h1 := HL.out
      rw [List.drop_eq_nil_of_le (by have := HN.out; omega)] at h1
      have e6 : A = ([], false) := by rw [← HA.out, ← h1]; rfl
      rw [e6]
      exact ⟨_, rfl, OwnF.nil _ _, HB5.out⟩
set_option maxRecDepth 100000 in
set_option maxHeartbeats 8000000 in
theorem rexp5p {w : World} {v : Value} {l : List Fl} (p s J : List UInt8) (hJ : whl p s = J) (h0 : p = []) (h : FS w v l) (sm : FQ l) (hp : p.length ≤ 400000000) (hs : s.length ≤ 400000000)
    (h1 : valP s = true) (h2 : okP p = true) (hv : valP J = true) (hl : litP J = false) (hst : starP J = true) :
    Calls Tryd.prog 19 #[v, .string (bs p), .string (bs s)] w fun e w' => ∃ u, e = .returned (.tuple #[u, .bool (exl l J).2]) ∧ OwnF w.heap.size w' u (exl l J).1 ∧ Below w.heap.size w w' := by
  have hJl : J.length ≤ 1000000000 := by have := whl_len p s; rw [hJ] at this; omega
  have HV1 : Hid (∀ W : World, Below w.heap.size w W → Calls Tryd.prog 15 #[.string (bs s)] W fun e w' => e = .returned (.bool (valP s)) ∧ Below W.heap.size W w') := fun W _ => rval_any s W (by omega)
  have HV2 : Hid (∀ W : World, Calls Tryd.prog 38 #[.string (bs p)] W fun e w' => e = .returned (.bool (okP p)) ∧ Below W.heap.size W w') := fun W => rvalid_any p W (by omega)
  have HV3 : Hid (∀ W : World, Calls Tryd.prog 15 #[.string (bs J)] W fun e w' => e = .returned (.bool (valP J)) ∧ Below W.heap.size W w') := fun W => rval_any J W (by omega)
  have HLit : Hid (∀ W : World, Calls Tryd.prog 33 #[.string (bs J)] W fun e w' => e = .returned (.bool (litP J)) ∧ Below W.heap.size W w') := fun W => rlit_any J W (by omega)
  have z1 : (bs p).size = p.length := rfl
  have z2 : (bs s).size = s.length := rfl
  have ep := isE p
  have i0 : p.isEmpty = true := by rw [h0]; rfl
  rw [i0] at ep
  obtain rfl : J = s := by rw [← hJ]; unfold whl; rw [if_pos h0]
  obtain ⟨a, c, rfl, _⟩ := h.form
  have H' : Hid (FS w (.slice a l.length c) l) := h
  have SM : Hid (FQ l) := sm
  obtain ⟨n, hn⟩ : ∃ n, l.length = n := ⟨_, rfl⟩
  have hlen : n ≤ 4000000 := hn ▸ sm.len
  rw [hn]
  have HN : Hid (l.length = n) := hn
  clear hn h sm
  rename_i hform
  clear hform
  rw [h1] at HV1
  rw [h2] at HV2
  rw [hv] at HV3
  rw [hl] at HLit
  have HA0 := exl_star (l := l) hl hst
  obtain ⟨A, hA⟩ : ∃ A, exl l J = A := ⟨_, rfl⟩
  rw [hA]
  have HA : Hid ((l.filter (sel J), true) = A) := by rw [← hA, HA0]; rfl
  have HPat : Hid (patP (base J) = true) := star_pat hst
  have HJl : Hid (J.length ≤ 1000000000) := hJl
  have HDJ : Hid (∀ W : World, Calls Tryd.prog 37 #[.string (bs J)] W fun e w' => e = .returned (.string (bs (dir J))) ∧ w' = W) := fun W => rdir_any J W (by omega)
  have HBJ : Hid (∀ W : World, Calls Tryd.prog 36 #[.string (bs J)] W fun e w' => e = .returned (.string (bs (base J))) ∧ w' = W) := fun W => rbase_any J W (by omega)
  have e3 := c_name
  clear HA0 hA hv hl h1 h2 hst
  clear hJ h0
  go_enter Tryd.func19, Tryd.ntmps19
  go_wp2_with fail
  refine (HV1.out _ (Below.refl _ _)).mono ?_
  rintro e w1 ⟨rfl, hb1⟩
  have HB1 : Hid (Below w.heap.size w w1) := hb1
  clear hb1
  go_wp2_with fail
  refine (HV2.out _).mono ?_
  rintro e w2 ⟨rfl, hb2⟩
  have HB2 : Hid (Below w.heap.size w w2) := bstep HB1.out hb2
  clear hb2
  go_wp2_with fail
  refine (HV3.out _).mono ?_
  rintro e w3 ⟨rfl, hb3⟩
  have HB3 : Hid (Below w.heap.size w w3) := bstep HB2.out hb3
  clear hb3
  go_wp2_with fail
  go_loopw [9, 10] (fun o i wr => ∃ k : Nat, k ≤ n ∧ i = .int .i64 k ∧ OwnF w.heap.size wr o ((l.take k).filter (sel J)) ∧ Below w.heap.size w wr) (fun _ i _ => n - (intOf i).toNat)
  case atStart => exact ⟨0, by omega, rfl, OwnF.nil _ _, HB3.out⟩
  case round =>
    obtain ⟨k, hk, rfl, ho, hb⟩ := hrel
    have HB : Hid (Below w.heap.size w wr) := hb
    have HO : Hid (OwnF w.heap.size wr _ ((l.take k).filter (sel J))) := ho
    have hkl0 : ((l.take k).filter (sel J)).length ≤ 4000000 := by
      have h1 := List.length_filter_le (sel J) (l.take k)
      have h2 : (l.take k).length ≤ l.length := by simp; omega
      have := HN.out
      omega
    obtain ⟨ao, co, eo⟩ := ho.form
    subst eo
    obtain ⟨no, hno⟩ : ∃ no, ((l.take k).filter (sel J)).length = no := ⟨_, rfl⟩
    rw [hno] at HO hkl0 ⊢
    clear ho hb
    by_cases hlt : k < n
    · have hkl : k < l.length := by have := HN.out; omega
      obtain ⟨b, off, ea, hfc⟩ := FS.fc H'.out HB.out hkl
      subst ea
      have F : Hid (l[k].path.length ≤ 100000000) := SM.out.pat hkl
      have HK : Hid ((l.take (k + 1)).filter (sel J) = (l.take k).filter (sel J) ++ if sel J (l[k]'hkl) = true then [l[k]'hkl] else []) := filter_step l _ k hkl
      obtain ⟨f, hf⟩ : ∃ f, l[k] = f := ⟨_, rfl⟩
      rw [hf] at hfc F HK
      clear hf
      obtain ⟨fp, ft, bl, z⟩ := f
      have HF : Hid (FC wr b (off + k * 4) ⟨fp, ft, bl, z⟩) := hfc
      obtain ⟨d0, d1, d2, d3, hbl⟩ := hfc
      simp only at d0 d1 d2 d3
      have k1 : (0 : Int) ≤ (k : Int) := by omega
      have k2 : (k : Int) < (n : Int) := by omega
      have hfl : Hid (fp.length ≤ 100000000) := F.out
      have HSel : Hid (sel J ⟨fp, ft, bl, z⟩ = (decide (dir fp = dir J) && !decide (base fp = wName) && mat (base J) (base fp))) := by
        show _ = _
        unfold sel mat
        rw [HPat.out]; simp
      have HDf : Hid (∀ W : World, Calls Tryd.prog 37 #[.string (bs fp)] W fun e w' => e = .returned (.string (bs (dir fp))) ∧ w' = W) := fun W => rdir_any fp W (by have := hfl.out; omega)
      have HBf : Hid (∀ W : World, Calls Tryd.prog 36 #[.string (bs fp)] W fun e w' => e = .returned (.string (bs (base fp))) ∧ w' = W) := fun W => rbase_any fp W (by have := hfl.out; omega)
      have HMt : Hid (∀ W : World, Calls Tryd.prog 17 #[.string (bs (base J)), .string (bs (base fp))] W fun e w' => e = .returned (.bool (mat (base J) (base fp))) ∧ Below W.heap.size W w') := fun W => rmat_any (base J) (base fp) W (by have := base_len J; have := HJl.out; omega) (by have := base_len fp; have := hfl.out; omega)
      have ed := bs_toList (dir fp)
      have edJ := bs_toList (dir J)
      have eb := bs_toList (base fp)
      generalize dir fp = dp at *
      generalize base fp = bp at *
      generalize mat (base J) bp = mt at *
      go_wp2_with fail
      refine (HLit.out _).mono ?_
      rintro e w5 ⟨rfl, hb5⟩
      have HB5 : Hid (Below w.heap.size w w5) := bstep HB.out hb5
      have HF5 : Hid (FC w5 b (off + k * 4) ⟨fp, ft, bl, z⟩) := HF.out.later hb5
      have O5 : Hid (OwnF w.heap.size w5 (.slice ao no co) ((l.take k).filter (sel J))) := HO.out.later hb5
      clear hb5 d0 d1 d2 d3
      go_wp2_with fail
      refine (HDf.out _).mono ?_
      rintro e w6 ⟨rfl, hw6⟩
      obtain rfl : w5 = w6 := hw6.symm
      go_wp2_with fail
      refine (HDJ.out _).mono ?_
      rintro e w6 ⟨rfl, hw6⟩
      obtain rfl : w5 = w6 := hw6.symm
      by_cases hd : dp = dir J
      rotate_left
      · have hd' : (dp == dir J) = false := by simpa using hd
        have HS : Hid (sel J ⟨fp, ft, bl, z⟩ = false) := by
          show _ = _
          rw [HSel.out, decide_eq_false hd]; rfl
        clear hd HSel
        go_wp2_with fail
        go_roundw
        case rel =>
          refine ⟨k + 1, by omega, by go_num, ?_, HB5.out⟩
          rw [HK.out, if_neg (by rw [HS.out]; simp), List.append_nil]; exact O5.out
        case measure => simp [intOf]; omega
      have hd' : (dp == dir J) = true := by simpa using hd
      have HD : Hid (decide (dp = dir J) = true) := decide_eq_true hd
      clear hd
      go_wp2_with fail
      refine (HBJ.out _).mono ?_
      rintro e w6 ⟨rfl, hw6⟩
      obtain rfl : w5 = w6 := hw6.symm
      go_wp2_with fail
      refine (HBf.out _).mono ?_
      rintro e w6 ⟨rfl, hw6⟩
      obtain rfl : w5 = w6 := hw6.symm
      go_wp2_with fail
      refine (HMt.out _).mono ?_
      rintro e w7 ⟨rfl, hb7⟩
      have HB7 : Hid (Below w.heap.size w w7) := bstep HB5.out hb7
      have O7 : Hid (OwnF w.heap.size w7 (.slice ao no co) ((l.take k).filter (sel J))) := O5.out.later hb7
      obtain ⟨e0, e1, e2, e3', hbl7⟩ := HF5.out.later hb7
      simp only at e0 e1 e2 e3'
      clear hb7
      cases mt
      · have HS : Hid (sel J ⟨fp, ft, bl, z⟩ = false) := by
          show _ = _
          rw [HSel.out]; simp
        clear HSel
        go_wp2_with fail
        go_roundw
        case rel =>
          refine ⟨k + 1, by omega, by go_num, ?_, HB7.out⟩
          rw [HK.out, if_neg (by rw [HS.out]; simp), List.append_nil]; exact O7.out
        case measure => simp [intOf]; omega
      go_wp2_with fail
      refine (HBf.out _).mono ?_
      rintro e w8 ⟨rfl, hw8⟩
      obtain rfl : w7 = w8 := hw8.symm
      by_cases hn0 : bp = wName
      · have hn' : (bp == wName) = true := by simpa using hn0
        have HS : Hid (sel J ⟨fp, ft, bl, z⟩ = false) := by
          show _ = _
          rw [HSel.out, decide_eq_true hn0]; simp
        clear hn0 HSel
        go_wp2_with fail
        go_roundw
        case rel =>
          refine ⟨k + 1, by omega, by go_num, ?_, HB7.out⟩
          rw [HK.out, if_neg (by rw [HS.out]; simp), List.append_nil]; exact O7.out
        case measure => simp [intOf]; omega
      have hn' : (bp == wName) = false := by simpa using hn0
      have HS1 : Hid (sel J ⟨fp, ft, bl, z⟩ = true) := by
        show _ = _
        rw [HSel.out, HD.out, decide_eq_false hn0]; simp
      clear hn0 HSel HD
      have hz7 := HB7.out.size
      go_wp2_with (at_builtin; refine app_files (base := w.heap.size) (l := (l.take k).filter (sel J)) (k := [⟨fp, ft, bl, z⟩]) (O7.out.later (balloc _ _)) (src_file _ ⟨fp, ft, bl, z⟩) (by simp only [List.length_cons, List.length_nil, hno]; omega) (by simp; omega) rfl _ _ rfl rfl rfl ?_; intro v9 w9 ho9 hg9 _)
      go_roundw
      case rel =>
        have HB9 : Below w.heap.size w7 w9 := (below_mono (balloc w7 _) (by omega)).grown hg9 (by simp; omega) (fun j hj => (O7.out.lt hj).1)
        refine ⟨k + 1, by omega, by go_num, ?_, below_trans HB7.out HB9⟩
        rw [HK.out, if_pos HS1.out]; exact ho9
      case measure => simp [intOf]; omega
    · obtain rfl : k = n := by omega
      go_wp2_with fail
      refine (HLit.out _).mono ?_
      rintro e w5 ⟨rfl, hb5⟩
      have HB5 : Hid (Below w.heap.size w w5) := bstep HB.out hb5
      have O5 : Hid (OwnF w.heap.size w5 (.slice ao no co) ((l.take k).filter (sel J))) := HO.out.later hb5
      clear hb5
      go_wp2_with fail
      go_ret2
      have e : l.take k = l := List.take_of_length_le (by have := HN.out; omega)
      have e6 : A = ((l.take k).filter (sel J), true) := by rw [← HA.out, e]
      rw [e6]
      exact ⟨_, rfl, O5.out, HB5.out⟩
set_option maxRecDepth 100000 in
set_option maxHeartbeats 8000000 in
theorem rexp1n {w : World} {v : Value} {l : List Fl} (p s J : List UInt8) (hJ : whl p s = J) (h0 : ¬ p = []) (h : FS w v l) (sm : FQ l) (hp : p.length ≤ 400000000) (hs : s.length ≤ 400000000)
    (h1 : valP s = false) (hv : valP J = false) :
    Calls Tryd.prog 19 #[v, .string (bs p), .string (bs s)] w fun e w' => ∃ u, e = .returned (.tuple #[u, .bool (exl l J).2]) ∧ OwnF w.heap.size w' u (exl l J).1 ∧ Below w.heap.size w w' := by
  have hJl : J.length ≤ 1000000000 := by have := whl_len p s; rw [hJ] at this; omega
  have HV1 : Hid (∀ W : World, Below w.heap.size w W → Calls Tryd.prog 15 #[.string (bs s)] W fun e w' => e = .returned (.bool (valP s)) ∧ Below W.heap.size W w') := fun W _ => rval_any s W (by omega)
  have HV2 : Hid (∀ W : World, Calls Tryd.prog 38 #[.string (bs p)] W fun e w' => e = .returned (.bool (okP p)) ∧ Below W.heap.size W w') := fun W => rvalid_any p W (by omega)
  have HV3 : Hid (∀ W : World, Calls Tryd.prog 15 #[.string (bs J)] W fun e w' => e = .returned (.bool (valP J)) ∧ Below W.heap.size W w') := fun W => rval_any J W (by omega)
  have HLit : Hid (∀ W : World, Calls Tryd.prog 33 #[.string (bs J)] W fun e w' => e = .returned (.bool (litP J)) ∧ Below W.heap.size W w') := fun W => rlit_any J W (by omega)
  have z1 : (bs p).size = p.length := rfl
  have z2 : (bs s).size = s.length := rfl
  have ep := isE p
  have i0 : p.isEmpty = false := by cases p; exact absurd rfl h0; rfl
  rw [i0] at ep
  have HW : Hid (bs p ++ ByteArray.mk #[47] ++ bs s = bs J) := by
    show bs p ++ bs [47] ++ bs s = _
    rw [bs_app, bs_app, ← hJ]; unfold whl; rw [if_neg h0]; simp
  obtain ⟨a, c, rfl, _⟩ := h.form
  have H' : Hid (FS w (.slice a l.length c) l) := h
  have SM : Hid (FQ l) := sm
  obtain ⟨n, hn⟩ : ∃ n, l.length = n := ⟨_, rfl⟩
  have hlen : n ≤ 4000000 := hn ▸ sm.len
  rw [hn]
  have HN : Hid (l.length = n) := hn
  clear hn h sm
  rename_i hform
  clear hform
  rw [exl_bad hv]
  rw [h1] at HV1
  clear hJ h0
  go_enter Tryd.func19, Tryd.ntmps19
  go_wp2_with fail
  rw [HW.out]
  refine (HV1.out _ (Below.refl _ _)).mono ?_
  rintro e w1 ⟨rfl, hb1⟩
  have HB1 : Hid (Below w.heap.size w w1) := hb1
  clear hb1
  go_wp2_with fail
  go_ret2
  exact ⟨_, rfl, OwnF.nil _ _, HB1.out⟩
set_option maxRecDepth 100000 in
set_option maxHeartbeats 8000000 in
theorem rexp2n {w : World} {v : Value} {l : List Fl} (p s J : List UInt8) (hJ : whl p s = J) (h0 : ¬ p = []) (h : FS w v l) (sm : FQ l) (hp : p.length ≤ 400000000) (hs : s.length ≤ 400000000)
    (h1 : valP s = true) (h2 : okP p = false) (hv : valP J = false) :
    Calls Tryd.prog 19 #[v, .string (bs p), .string (bs s)] w fun e w' => ∃ u, e = .returned (.tuple #[u, .bool (exl l J).2]) ∧ OwnF w.heap.size w' u (exl l J).1 ∧ Below w.heap.size w w' := by
  have hJl : J.length ≤ 1000000000 := by have := whl_len p s; rw [hJ] at this; omega
  have HV1 : Hid (∀ W : World, Below w.heap.size w W → Calls Tryd.prog 15 #[.string (bs s)] W fun e w' => e = .returned (.bool (valP s)) ∧ Below W.heap.size W w') := fun W _ => rval_any s W (by omega)
  have HV2 : Hid (∀ W : World, Calls Tryd.prog 38 #[.string (bs p)] W fun e w' => e = .returned (.bool (okP p)) ∧ Below W.heap.size W w') := fun W => rvalid_any p W (by omega)
  have HV3 : Hid (∀ W : World, Calls Tryd.prog 15 #[.string (bs J)] W fun e w' => e = .returned (.bool (valP J)) ∧ Below W.heap.size W w') := fun W => rval_any J W (by omega)
  have HLit : Hid (∀ W : World, Calls Tryd.prog 33 #[.string (bs J)] W fun e w' => e = .returned (.bool (litP J)) ∧ Below W.heap.size W w') := fun W => rlit_any J W (by omega)
  have z1 : (bs p).size = p.length := rfl
  have z2 : (bs s).size = s.length := rfl
  have ep := isE p
  have i0 : p.isEmpty = false := by cases p; exact absurd rfl h0; rfl
  rw [i0] at ep
  have HW : Hid (bs p ++ ByteArray.mk #[47] ++ bs s = bs J) := by
    show bs p ++ bs [47] ++ bs s = _
    rw [bs_app, bs_app, ← hJ]; unfold whl; rw [if_neg h0]; simp
  obtain ⟨a, c, rfl, _⟩ := h.form
  have H' : Hid (FS w (.slice a l.length c) l) := h
  have SM : Hid (FQ l) := sm
  obtain ⟨n, hn⟩ : ∃ n, l.length = n := ⟨_, rfl⟩
  have hlen : n ≤ 4000000 := hn ▸ sm.len
  rw [hn]
  have HN : Hid (l.length = n) := hn
  clear hn h sm
  rename_i hform
  clear hform
  rw [exl_bad hv]
  rw [h1] at HV1
  rw [h2] at HV2
  clear hJ h0
  go_enter Tryd.func19, Tryd.ntmps19
  go_wp2_with fail
  rw [HW.out]
  refine (HV1.out _ (Below.refl _ _)).mono ?_
  rintro e w1 ⟨rfl, hb1⟩
  have HB1 : Hid (Below w.heap.size w w1) := hb1
  clear hb1
  go_wp2_with fail
  refine (HV2.out _).mono ?_
  rintro e w2 ⟨rfl, hb2⟩
  have HB2 : Hid (Below w.heap.size w w2) := bstep HB1.out hb2
  clear hb2
  go_wp2_with fail
  go_ret2
  exact ⟨_, rfl, OwnF.nil _ _, HB2.out⟩
set_option maxRecDepth 100000 in
set_option maxHeartbeats 8000000 in
theorem rexp3n {w : World} {v : Value} {l : List Fl} (p s J : List UInt8) (hJ : whl p s = J) (h0 : ¬ p = []) (h : FS w v l) (sm : FQ l) (hp : p.length ≤ 400000000) (hs : s.length ≤ 400000000)
    (h1 : valP s = true) (h2 : okP p = true) (hv : valP J = false) :
    Calls Tryd.prog 19 #[v, .string (bs p), .string (bs s)] w fun e w' => ∃ u, e = .returned (.tuple #[u, .bool (exl l J).2]) ∧ OwnF w.heap.size w' u (exl l J).1 ∧ Below w.heap.size w w' := by
  have hJl : J.length ≤ 1000000000 := by have := whl_len p s; rw [hJ] at this; omega
  have HV1 : Hid (∀ W : World, Below w.heap.size w W → Calls Tryd.prog 15 #[.string (bs s)] W fun e w' => e = .returned (.bool (valP s)) ∧ Below W.heap.size W w') := fun W _ => rval_any s W (by omega)
  have HV2 : Hid (∀ W : World, Calls Tryd.prog 38 #[.string (bs p)] W fun e w' => e = .returned (.bool (okP p)) ∧ Below W.heap.size W w') := fun W => rvalid_any p W (by omega)
  have HV3 : Hid (∀ W : World, Calls Tryd.prog 15 #[.string (bs J)] W fun e w' => e = .returned (.bool (valP J)) ∧ Below W.heap.size W w') := fun W => rval_any J W (by omega)
  have HLit : Hid (∀ W : World, Calls Tryd.prog 33 #[.string (bs J)] W fun e w' => e = .returned (.bool (litP J)) ∧ Below W.heap.size W w') := fun W => rlit_any J W (by omega)
  have z1 : (bs p).size = p.length := rfl
  have z2 : (bs s).size = s.length := rfl
  have ep := isE p
  have i0 : p.isEmpty = false := by cases p; exact absurd rfl h0; rfl
  rw [i0] at ep
  have HW : Hid (bs p ++ ByteArray.mk #[47] ++ bs s = bs J) := by
    show bs p ++ bs [47] ++ bs s = _
    rw [bs_app, bs_app, ← hJ]; unfold whl; rw [if_neg h0]; simp
  obtain ⟨a, c, rfl, _⟩ := h.form
  have H' : Hid (FS w (.slice a l.length c) l) := h
  have SM : Hid (FQ l) := sm
  obtain ⟨n, hn⟩ : ∃ n, l.length = n := ⟨_, rfl⟩
  have hlen : n ≤ 4000000 := hn ▸ sm.len
  rw [hn]
  have HN : Hid (l.length = n) := hn
  clear hn h sm
  rename_i hform
  clear hform
  rw [exl_bad hv]
  rw [h1] at HV1
  rw [h2] at HV2
  rw [hv] at HV3
  clear hJ h0
  go_enter Tryd.func19, Tryd.ntmps19
  go_wp2_with fail
  rw [HW.out]
  refine (HV1.out _ (Below.refl _ _)).mono ?_
  rintro e w1 ⟨rfl, hb1⟩
  have HB1 : Hid (Below w.heap.size w w1) := hb1
  clear hb1
  go_wp2_with fail
  refine (HV2.out _).mono ?_
  rintro e w2 ⟨rfl, hb2⟩
  have HB2 : Hid (Below w.heap.size w w2) := bstep HB1.out hb2
  clear hb2
  go_wp2_with fail
  refine (HV3.out _).mono ?_
  rintro e w3 ⟨rfl, hb3⟩
  have HB3 : Hid (Below w.heap.size w w3) := bstep HB2.out hb3
  clear hb3
  go_wp2_with fail
  go_ret2
  exact ⟨_, rfl, OwnF.nil _ _, HB3.out⟩
set_option maxRecDepth 100000 in
set_option maxHeartbeats 8000000 in
theorem rexp4n {w : World} {v : Value} {l : List Fl} (p s J : List UInt8) (hJ : whl p s = J) (h0 : ¬ p = []) (h : FS w v l) (sm : FQ l) (hp : p.length ≤ 400000000) (hs : s.length ≤ 400000000)
    (h1 : valP s = true) (h2 : okP p = true) (hv : valP J = true) (hl : litP J = true) :
    Calls Tryd.prog 19 #[v, .string (bs p), .string (bs s)] w fun e w' => ∃ u, e = .returned (.tuple #[u, .bool (exl l J).2]) ∧ OwnF w.heap.size w' u (exl l J).1 ∧ Below w.heap.size w w' := by
  have hJl : J.length ≤ 1000000000 := by have := whl_len p s; rw [hJ] at this; omega
  have HV1 : Hid (∀ W : World, Below w.heap.size w W → Calls Tryd.prog 15 #[.string (bs s)] W fun e w' => e = .returned (.bool (valP s)) ∧ Below W.heap.size W w') := fun W _ => rval_any s W (by omega)
  have HV2 : Hid (∀ W : World, Calls Tryd.prog 38 #[.string (bs p)] W fun e w' => e = .returned (.bool (okP p)) ∧ Below W.heap.size W w') := fun W => rvalid_any p W (by omega)
  have HV3 : Hid (∀ W : World, Calls Tryd.prog 15 #[.string (bs J)] W fun e w' => e = .returned (.bool (valP J)) ∧ Below W.heap.size W w') := fun W => rval_any J W (by omega)
  have HLit : Hid (∀ W : World, Calls Tryd.prog 33 #[.string (bs J)] W fun e w' => e = .returned (.bool (litP J)) ∧ Below W.heap.size W w') := fun W => rlit_any J W (by omega)
  have z1 : (bs p).size = p.length := rfl
  have z2 : (bs s).size = s.length := rfl
  have ep := isE p
  have i0 : p.isEmpty = false := by cases p; exact absurd rfl h0; rfl
  rw [i0] at ep
  have HW : Hid (bs p ++ ByteArray.mk #[47] ++ bs s = bs J) := by
    show bs p ++ bs [47] ++ bs s = _
    rw [bs_app, bs_app, ← hJ]; unfold whl; rw [if_neg h0]; simp
  obtain ⟨a, c, rfl, _⟩ := h.form
  have H' : Hid (FS w (.slice a l.length c) l) := h
  have SM : Hid (FQ l) := sm
  obtain ⟨n, hn⟩ : ∃ n, l.length = n := ⟨_, rfl⟩
  have hlen : n ≤ 4000000 := hn ▸ sm.len
  rw [hn]
  have HN : Hid (l.length = n) := hn
  clear hn h sm
  rename_i hform
  clear hform
  rw [h1] at HV1
  rw [h2] at HV2
  rw [hv] at HV3
  rw [hl] at HLit
  have HA0 := exl_lit (l := l) hl
  obtain ⟨A, hA⟩ : ∃ A, exl l J = A := ⟨_, rfl⟩
  rw [hA]
  obtain ⟨r, hr⟩ : ∃ r, fnd l J = r := ⟨_, rfl⟩
  have HR : Hid (fnd (l.drop 0) J = r) := hr
  have HA : Hid ((r.toList, r.isSome) = A) := by rw [← hA, HA0, hr]; rfl
  have eJ := bs_toList J
  clear HA0 hA hr hv hl h1 h2
  clear hJ h0
  go_enter Tryd.func19, Tryd.ntmps19
  go_wp2_with fail
  rw [HW.out]
  refine (HV1.out _ (Below.refl _ _)).mono ?_
  rintro e w1 ⟨rfl, hb1⟩
  have HB1 : Hid (Below w.heap.size w w1) := hb1
  clear hb1
  go_wp2_with fail
  refine (HV2.out _).mono ?_
  rintro e w2 ⟨rfl, hb2⟩
  have HB2 : Hid (Below w.heap.size w w2) := bstep HB1.out hb2
  clear hb2
  go_wp2_with fail
  refine (HV3.out _).mono ?_
  rintro e w3 ⟨rfl, hb3⟩
  have HB3 : Hid (Below w.heap.size w w3) := bstep HB2.out hb3
  clear hb3
  go_wp2_with fail
  go_loopw [9, 10] (fun o i wr => ∃ k : Nat, k ≤ n ∧ i = .int .i64 k ∧ o = .slice none 0 0 ∧ Below w.heap.size w wr ∧ fnd (l.drop k) J = r) (fun _ i _ => n - (intOf i).toNat)
  case atStart => exact ⟨0, by omega, rfl, rfl, HB3.out, HR.out⟩
  case round =>
    obtain ⟨k, hk, rfl, rfl, hb, hl⟩ := hrel
    have HB : Hid (Below w.heap.size w wr) := hb
    have HL : Hid (fnd (l.drop k) J = r) := hl
    clear hb hl
    by_cases hlt : k < n
    · have hkl : k < l.length := by have := HN.out; omega
      obtain ⟨b, off, ea, hfc⟩ := FS.fc H'.out HB.out hkl
      subst ea
      have HS2 : Hid ((if (l[k]).path = J then some l[k] else fnd (l.drop (k + 1)) J) = r) := by
        have h1 := HL.out
        rw [fnd_step l k hkl] at h1; exact h1
      obtain ⟨f, hf⟩ : ∃ f, l[k] = f := ⟨_, rfl⟩
      rw [hf] at hfc HS2
      clear hf
      obtain ⟨fp, ft, bl, z⟩ := f
      have HF : Hid (FC wr b (off + k * 4) ⟨fp, ft, bl, z⟩) := hfc
      obtain ⟨d0, d1, d2, d3, hbl⟩ := hfc
      simp only at d0 d1 d2 d3 HS2
      have k1 : (0 : Int) ≤ (k : Int) := by omega
      have k2 : (k : Int) < (n : Int) := by omega
      have hpp := bs_toList fp
      go_wp2_with fail
      refine (HLit.out _).mono ?_
      rintro e w5 ⟨rfl, hb5⟩
      have HB5 : Hid (Below w.heap.size w w5) := bstep HB.out hb5
      obtain ⟨e0, e1, e2, e3, hbl5⟩ := HF.out.later hb5
      simp only at e0 e1 e2 e3
      clear hb5 d0 d1 d2 d3
      by_cases hpq : fp = J
      · have hd : (fp == J) = true := by simpa using hpq
        have HPQ : Hid (fp = J) := hpq
        clear hpq
        go_wp2_with fail
        go_ret2
        have h1 := HS2.out
        rw [if_pos HPQ.out] at h1
        have e6 : A = ([⟨fp, ft, bl, z⟩], true) := by rw [← HA.out, ← h1]; rfl
        rw [e6]
        exact ⟨_, rfl, src_own w.heap.size HB5.out.size ⟨fp, ft, bl, z⟩, bstep HB5.out (balloc _ _)⟩
      · have hd : (fp == J) = false := by simpa using hpq
        have HPQ : Hid (¬ fp = J) := hpq
        clear hpq
        go_wp2_with fail
        go_roundw
        case rel =>
          refine ⟨k + 1, by omega, by go_num, rfl, HB5.out, ?_⟩
          have h1 := HS2.out
          rw [if_neg HPQ.out] at h1
          exact h1
        case measure => simp [intOf]; omega
    · obtain rfl : k = n := by omega
      go_wp2_with fail
      refine (HLit.out _).mono ?_
      rintro e w5 ⟨rfl, hb5⟩
      have HB5 : Hid (Below w.heap.size w w5) := bstep HB.out hb5
      clear hb5
      go_wp2_with fail
      go_ret2
      have h1 := HL.out
      rw [List.drop_eq_nil_of_le (by have := HN.out; omega)] at h1
      have e6 : A = ([], false) := by rw [← HA.out, ← h1]; rfl
      rw [e6]
      exact ⟨_, rfl, OwnF.nil _ _, HB5.out⟩
set_option maxRecDepth 100000 in
set_option maxHeartbeats 8000000 in
theorem rexp5n {w : World} {v : Value} {l : List Fl} (p s J : List UInt8) (hJ : whl p s = J) (h0 : ¬ p = []) (h : FS w v l) (sm : FQ l) (hp : p.length ≤ 400000000) (hs : s.length ≤ 400000000)
    (h1 : valP s = true) (h2 : okP p = true) (hv : valP J = true) (hl : litP J = false) (hst : starP J = true) :
    Calls Tryd.prog 19 #[v, .string (bs p), .string (bs s)] w fun e w' => ∃ u, e = .returned (.tuple #[u, .bool (exl l J).2]) ∧ OwnF w.heap.size w' u (exl l J).1 ∧ Below w.heap.size w w' := by
  have hJl : J.length ≤ 1000000000 := by have := whl_len p s; rw [hJ] at this; omega
  have HV1 : Hid (∀ W : World, Below w.heap.size w W → Calls Tryd.prog 15 #[.string (bs s)] W fun e w' => e = .returned (.bool (valP s)) ∧ Below W.heap.size W w') := fun W _ => rval_any s W (by omega)
  have HV2 : Hid (∀ W : World, Calls Tryd.prog 38 #[.string (bs p)] W fun e w' => e = .returned (.bool (okP p)) ∧ Below W.heap.size W w') := fun W => rvalid_any p W (by omega)
  have HV3 : Hid (∀ W : World, Calls Tryd.prog 15 #[.string (bs J)] W fun e w' => e = .returned (.bool (valP J)) ∧ Below W.heap.size W w') := fun W => rval_any J W (by omega)
  have HLit : Hid (∀ W : World, Calls Tryd.prog 33 #[.string (bs J)] W fun e w' => e = .returned (.bool (litP J)) ∧ Below W.heap.size W w') := fun W => rlit_any J W (by omega)
  have z1 : (bs p).size = p.length := rfl
  have z2 : (bs s).size = s.length := rfl
  have ep := isE p
  have i0 : p.isEmpty = false := by cases p; exact absurd rfl h0; rfl
  rw [i0] at ep
  have HW : Hid (bs p ++ ByteArray.mk #[47] ++ bs s = bs J) := by
    show bs p ++ bs [47] ++ bs s = _
    rw [bs_app, bs_app, ← hJ]; unfold whl; rw [if_neg h0]; simp
  obtain ⟨a, c, rfl, _⟩ := h.form
  have H' : Hid (FS w (.slice a l.length c) l) := h
  have SM : Hid (FQ l) := sm
  obtain ⟨n, hn⟩ : ∃ n, l.length = n := ⟨_, rfl⟩
  have hlen : n ≤ 4000000 := hn ▸ sm.len
  rw [hn]
  have HN : Hid (l.length = n) := hn
  clear hn h sm
  rename_i hform
  clear hform
  rw [h1] at HV1
  rw [h2] at HV2
  rw [hv] at HV3
  rw [hl] at HLit
  have HA0 := exl_star (l := l) hl hst
  obtain ⟨A, hA⟩ : ∃ A, exl l J = A := ⟨_, rfl⟩
  rw [hA]
  have HA : Hid ((l.filter (sel J), true) = A) := by rw [← hA, HA0]; rfl
  have HPat : Hid (patP (base J) = true) := star_pat hst
  have HJl : Hid (J.length ≤ 1000000000) := hJl
  have HDJ : Hid (∀ W : World, Calls Tryd.prog 37 #[.string (bs J)] W fun e w' => e = .returned (.string (bs (dir J))) ∧ w' = W) := fun W => rdir_any J W (by omega)
  have HBJ : Hid (∀ W : World, Calls Tryd.prog 36 #[.string (bs J)] W fun e w' => e = .returned (.string (bs (base J))) ∧ w' = W) := fun W => rbase_any J W (by omega)
  have e3 := c_name
  clear HA0 hA hv hl h1 h2 hst
  clear hJ h0
  go_enter Tryd.func19, Tryd.ntmps19
  go_wp2_with fail
  rw [HW.out]
  refine (HV1.out _ (Below.refl _ _)).mono ?_
  rintro e w1 ⟨rfl, hb1⟩
  have HB1 : Hid (Below w.heap.size w w1) := hb1
  clear hb1
  go_wp2_with fail
  refine (HV2.out _).mono ?_
  rintro e w2 ⟨rfl, hb2⟩
  have HB2 : Hid (Below w.heap.size w w2) := bstep HB1.out hb2
  clear hb2
  go_wp2_with fail
  refine (HV3.out _).mono ?_
  rintro e w3 ⟨rfl, hb3⟩
  have HB3 : Hid (Below w.heap.size w w3) := bstep HB2.out hb3
  clear hb3
  go_wp2_with fail
  go_loopw [9, 10] (fun o i wr => ∃ k : Nat, k ≤ n ∧ i = .int .i64 k ∧ OwnF w.heap.size wr o ((l.take k).filter (sel J)) ∧ Below w.heap.size w wr) (fun _ i _ => n - (intOf i).toNat)
  case atStart => exact ⟨0, by omega, rfl, OwnF.nil _ _, HB3.out⟩
  case round =>
    obtain ⟨k, hk, rfl, ho, hb⟩ := hrel
    have HB : Hid (Below w.heap.size w wr) := hb
    have HO : Hid (OwnF w.heap.size wr _ ((l.take k).filter (sel J))) := ho
    have hkl0 : ((l.take k).filter (sel J)).length ≤ 4000000 := by
      have h1 := List.length_filter_le (sel J) (l.take k)
      have h2 : (l.take k).length ≤ l.length := by simp; omega
      have := HN.out
      omega
    obtain ⟨ao, co, eo⟩ := ho.form
    subst eo
    obtain ⟨no, hno⟩ : ∃ no, ((l.take k).filter (sel J)).length = no := ⟨_, rfl⟩
    rw [hno] at HO hkl0 ⊢
    clear ho hb
    by_cases hlt : k < n
    · have hkl : k < l.length := by have := HN.out; omega
      obtain ⟨b, off, ea, hfc⟩ := FS.fc H'.out HB.out hkl
      subst ea
      have F : Hid (l[k].path.length ≤ 100000000) := SM.out.pat hkl
      have HK : Hid ((l.take (k + 1)).filter (sel J) = (l.take k).filter (sel J) ++ if sel J (l[k]'hkl) = true then [l[k]'hkl] else []) := filter_step l _ k hkl
      obtain ⟨f, hf⟩ : ∃ f, l[k] = f := ⟨_, rfl⟩
      rw [hf] at hfc F HK
      clear hf
      obtain ⟨fp, ft, bl, z⟩ := f
      have HF : Hid (FC wr b (off + k * 4) ⟨fp, ft, bl, z⟩) := hfc
      obtain ⟨d0, d1, d2, d3, hbl⟩ := hfc
      simp only at d0 d1 d2 d3
      have k1 : (0 : Int) ≤ (k : Int) := by omega
      have k2 : (k : Int) < (n : Int) := by omega
      have hfl : Hid (fp.length ≤ 100000000) := F.out
      have HSel : Hid (sel J ⟨fp, ft, bl, z⟩ = (decide (dir fp = dir J) && !decide (base fp = wName) && mat (base J) (base fp))) := by
        show _ = _
        unfold sel mat
        rw [HPat.out]; simp
      have HDf : Hid (∀ W : World, Calls Tryd.prog 37 #[.string (bs fp)] W fun e w' => e = .returned (.string (bs (dir fp))) ∧ w' = W) := fun W => rdir_any fp W (by have := hfl.out; omega)
      have HBf : Hid (∀ W : World, Calls Tryd.prog 36 #[.string (bs fp)] W fun e w' => e = .returned (.string (bs (base fp))) ∧ w' = W) := fun W => rbase_any fp W (by have := hfl.out; omega)
      have HMt : Hid (∀ W : World, Calls Tryd.prog 17 #[.string (bs (base J)), .string (bs (base fp))] W fun e w' => e = .returned (.bool (mat (base J) (base fp))) ∧ Below W.heap.size W w') := fun W => rmat_any (base J) (base fp) W (by have := base_len J; have := HJl.out; omega) (by have := base_len fp; have := hfl.out; omega)
      have ed := bs_toList (dir fp)
      have edJ := bs_toList (dir J)
      have eb := bs_toList (base fp)
      generalize dir fp = dp at *
      generalize base fp = bp at *
      generalize mat (base J) bp = mt at *
      go_wp2_with fail
      refine (HLit.out _).mono ?_
      rintro e w5 ⟨rfl, hb5⟩
      have HB5 : Hid (Below w.heap.size w w5) := bstep HB.out hb5
      have HF5 : Hid (FC w5 b (off + k * 4) ⟨fp, ft, bl, z⟩) := HF.out.later hb5
      have O5 : Hid (OwnF w.heap.size w5 (.slice ao no co) ((l.take k).filter (sel J))) := HO.out.later hb5
      clear hb5 d0 d1 d2 d3
      go_wp2_with fail
      refine (HDf.out _).mono ?_
      rintro e w6 ⟨rfl, hw6⟩
      obtain rfl : w5 = w6 := hw6.symm
      go_wp2_with fail
      refine (HDJ.out _).mono ?_
      rintro e w6 ⟨rfl, hw6⟩
      obtain rfl : w5 = w6 := hw6.symm
      by_cases hd : dp = dir J
      rotate_left
      · have hd' : (dp == dir J) = false := by simpa using hd
        have HS : Hid (sel J ⟨fp, ft, bl, z⟩ = false) := by
          show _ = _
          rw [HSel.out, decide_eq_false hd]; rfl
        clear hd HSel
        go_wp2_with fail
        go_roundw
        case rel =>
          refine ⟨k + 1, by omega, by go_num, ?_, HB5.out⟩
          rw [HK.out, if_neg (by rw [HS.out]; simp), List.append_nil]; exact O5.out
        case measure => simp [intOf]; omega
      have hd' : (dp == dir J) = true := by simpa using hd
      have HD : Hid (decide (dp = dir J) = true) := decide_eq_true hd
      clear hd
      go_wp2_with fail
      refine (HBJ.out _).mono ?_
      rintro e w6 ⟨rfl, hw6⟩
      obtain rfl : w5 = w6 := hw6.symm
      go_wp2_with fail
      refine (HBf.out _).mono ?_
      rintro e w6 ⟨rfl, hw6⟩
      obtain rfl : w5 = w6 := hw6.symm
      go_wp2_with fail
      refine (HMt.out _).mono ?_
      rintro e w7 ⟨rfl, hb7⟩
      have HB7 : Hid (Below w.heap.size w w7) := bstep HB5.out hb7
      have O7 : Hid (OwnF w.heap.size w7 (.slice ao no co) ((l.take k).filter (sel J))) := O5.out.later hb7
      obtain ⟨e0, e1, e2, e3', hbl7⟩ := HF5.out.later hb7
      simp only at e0 e1 e2 e3'
      clear hb7
      cases mt
      · have HS : Hid (sel J ⟨fp, ft, bl, z⟩ = false) := by
          show _ = _
          rw [HSel.out]; simp
        clear HSel
        go_wp2_with fail
        go_roundw
        case rel =>
          refine ⟨k + 1, by omega, by go_num, ?_, HB7.out⟩
          rw [HK.out, if_neg (by rw [HS.out]; simp), List.append_nil]; exact O7.out
        case measure => simp [intOf]; omega
      go_wp2_with fail
      refine (HBf.out _).mono ?_
      rintro e w8 ⟨rfl, hw8⟩
      obtain rfl : w7 = w8 := hw8.symm
      by_cases hn0 : bp = wName
      · have hn' : (bp == wName) = true := by simpa using hn0
        have HS : Hid (sel J ⟨fp, ft, bl, z⟩ = false) := by
          show _ = _
          rw [HSel.out, decide_eq_true hn0]; simp
        clear hn0 HSel
        go_wp2_with fail
        go_roundw
        case rel =>
          refine ⟨k + 1, by omega, by go_num, ?_, HB7.out⟩
          rw [HK.out, if_neg (by rw [HS.out]; simp), List.append_nil]; exact O7.out
        case measure => simp [intOf]; omega
      have hn' : (bp == wName) = false := by simpa using hn0
      have HS1 : Hid (sel J ⟨fp, ft, bl, z⟩ = true) := by
        show _ = _
        rw [HSel.out, HD.out, decide_eq_false hn0]; simp
      clear hn0 HSel HD
      have hz7 := HB7.out.size
      go_wp2_with (at_builtin; refine app_files (base := w.heap.size) (l := (l.take k).filter (sel J)) (k := [⟨fp, ft, bl, z⟩]) (O7.out.later (balloc _ _)) (src_file _ ⟨fp, ft, bl, z⟩) (by simp only [List.length_cons, List.length_nil, hno]; omega) (by simp; omega) rfl _ _ rfl rfl rfl ?_; intro v9 w9 ho9 hg9 _)
      go_roundw
      case rel =>
        have HB9 : Below w.heap.size w7 w9 := (below_mono (balloc w7 _) (by omega)).grown hg9 (by simp; omega) (fun j hj => (O7.out.lt hj).1)
        refine ⟨k + 1, by omega, by go_num, ?_, below_trans HB7.out HB9⟩
        rw [HK.out, if_pos HS1.out]; exact ho9
      case measure => simp [intOf]; omega
    · obtain rfl : k = n := by omega
      go_wp2_with fail
      refine (HLit.out _).mono ?_
      rintro e w5 ⟨rfl, hb5⟩
      have HB5 : Hid (Below w.heap.size w w5) := bstep HB.out hb5
      have O5 : Hid (OwnF w.heap.size w5 (.slice ao no co) ((l.take k).filter (sel J))) := HO.out.later hb5
      clear hb5
      go_wp2_with fail
      go_ret2
      have e : l.take k = l := List.take_of_length_le (by have := HN.out; omega)
      have e6 : A = ((l.take k).filter (sel J), true) := by rw [← HA.out, e]
      rw [e6]
      exact ⟨_, rfl, O5.out, HB5.out⟩

theorem rexpand_any {w : World} {v : Value} {l : List Fl} (p s : List UInt8) (h : FS w v l) (sm : FQ l) (hp : p.length ≤ 400000000) (hs : s.length ≤ 400000000) :
    Calls Tryd.prog 19 #[v, .string (bs p), .string (bs s)] w fun e w' => ∃ u, e = .returned (.tuple #[u, .bool (exl l (whl p s)).2]) ∧ OwnF w.heap.size w' u (exl l (whl p s)).1 ∧ Below w.heap.size w w' := by
  cases hv : valP (whl p s)
  · cases h1 : valP s
    · by_cases h0 : p = []
      · exact rexp1p p s _ rfl h0 h sm hp hs h1 hv
      · exact rexp1n p s _ rfl h0 h sm hp hs h1 hv
    · cases h2 : okP p
      · by_cases h0 : p = []
        · exact rexp2p p s _ rfl h0 h sm hp hs h1 h2 hv
        · exact rexp2n p s _ rfl h0 h sm hp hs h1 h2 hv
      · by_cases h0 : p = []
        · exact rexp3p p s _ rfl h0 h sm hp hs h1 h2 hv
        · exact rexp3n p s _ rfl h0 h sm hp hs h1 h2 hv
  · obtain ⟨h1, h2⟩ := val_whl hv
    cases hl : litP (whl p s)
    · have hst : starP (whl p s) = true := by unfold valP at hv; rw [hl] at hv; simpa using hv
      by_cases h0 : p = []
      · exact rexp5p p s _ rfl h0 h sm hp hs h1 h2 hv hl hst
      · exact rexp5n p s _ rfl h0 h sm hp hs h1 h2 hv hl hst
    · by_cases h0 : p = []
      · exact rexp4p p s _ rfl h0 h sm hp hs h1 h2 hv hl
      · exact rexp4n p s _ rfl h0 h sm hp hs h1 h2 hv hl
end Go.Proofs.YtebidnepanogcaaDoor
