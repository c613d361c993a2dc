/-
  A file more.
-/
import Derived.Test.YtbaheiimcnfaaaaGreatJTKeep
namespace Go.Proofs.YtbaheiimcnfaaaaGreat
open Go.RowKit

theorem cnt_lt {L : List Fl} {f : Fl} (h : GoodT (f :: L)) (q : Q) : cnt L q < 512 := by
  have h1 := cnt_le L q
  have h2 := h.len
  simp at h2; omega
/-- files of sizes that a file may have -/
def Szs (L : List Fl) : Prop := ∀ f ∈ L, sz f ≤ 4611686018427387904
theorem tot_le : ∀ {L : List Fl} (_ : Szs L) (q : Q), tot L q ≤ L.length * 4611686018427387904
  | [], _, _ => by simp [tot]
  | f :: r, h, q => by
    have ih := tot_le (L := r) (fun g hg => h g (by simp [hg])) q
    have hf := h f (by simp)
    simp only [tot, List.length_cons]
    split <;> omega
theorem tot_small {L : List Fl} (hg : GoodT L) (h : Szs L) (q : Q) : tot L q ≤ 2361183241434822606848 := by
  have h1 := tot_le h q
  have h2 := hg.len
  have h3 : L.length * 4611686018427387904 ≤ 512 * 4611686018427387904 := Nat.mul_le_mul_right _ h2
  omega

theorem upd_same {α : Type} (S : Q → α) (q : Q) : upd S q (S q) = S := by
  funext x; unfold upd; split
  · rename_i e; rw [e]
  · rfl
theorem Hp.congr {w : World} {A M : Q → Nat} {N : Nat} {F : Nat → Prop} {S S' : Q → Option Nd} {K K' : Q → List UInt8 → Bool} (h : Hp w A M N F S K) (e : S = S') (k : K = K') : Hp w A M N F S' K' := by subst e; subst k; exact h
theorem keys_upd {S : Q → Option Nd} {q : Q} {d : Nd} (h : (S q).isSome = true) : keys (upd S q (some d)) = keys S := by
  funext x n
  unfold keys
  by_cases e : x ++ [n] = q
  · rw [e, upd_at, h]; rfl
  · rw [upd_ne _ _ e]

theorem sumv_small {z : Nat} (h : z < 18446744073709551616) : sumv z = .agg #[.int .u64 0, .int .u64 z] := by
  unfold sumv
  rw [Nat.div_eq_of_lt h, Nat.mod_eq_of_lt h]; rfl
theorem moreZ {w : World} {g : Nat} {m : Option Nat} {c a o z : Nat} (h : ND w g m c a o) (hc : c < 9223372036854775807) (hs : a + z < 1208925819614629174706176) (hz : z < 18446744073709551616) :
    Calls Tryz.prog 110 #[.pointer (some ⟨g, 0, none⟩), .agg #[.int .u64 0, .int .u64 z]] w fun e w' => e = .returned (.tuple #[]) ∧ ND w' g m (c + 1) (a + z) o ∧ Only [g] w w' := by
  rw [← sumv_small hz]; exact more_any h hc hs
theorem OnlyP.step {F : Nat → Prop} {a b c : World} {S : List Nat} (h : OnlyP F a b) (k : Only S b c) (hS : ∀ i, i ∈ S → F i ∨ a.heap.size ≤ i) : OnlyP F a c :=
  ⟨k.os.trans h.os, k.tape.trans h.tape, k.output.trans h.output, Nat.le_trans h.size k.size, fun i hi hn => (k.block i (Nat.lt_of_lt_of_le hi h.size) (fun e => by
    rcases hS i e with h1 | h1
    · exact hn h1
    · omega)).trans (h.block i hi hn)⟩
theorem OnlyP.below {F : Nat → Prop} {a b c : World} (h : OnlyP F a b) (k : Below b.heap.size b c) : OnlyP F a c := h.step (Only.of_below k []) (by simp)

theorem put_more {w w' : World} {A M : Q → Nat} {N : Nat} {F : Nat → Prop} {L : List Fl} {f : Fl} {k : Nat} {c a o : Nat} {S : Q → Option Nd} {q : Q}
    (h : Hp w A M N F S (keys S)) (hq : S q = some (.dir c a o)) (ho : Only [A q] w w') (hn : ND w' (A q) (some (M q)) (c + 1) (a + sz f) o)
    (e : upd S q (some (.dir (1 + c) (sz f + a) o)) = midP L f k) : Hp w' A M N F (midP L f k) (keys (midP L f k)) := by
  rw [Nat.add_comm c 1, Nat.add_comm a] at hn
  have := h.set hq ho hn
  have hk : keys (upd S q (some (.dir (1 + c) (sz f + a) o))) = keys S := keys_upd (by rw [hq]; rfl)
  refine this.congr e ?_
  rw [← e, hk]

set_option maxRecDepth 100000 in
set_option maxHeartbeats 4000000 in
theorem put_any {w : World} {A M : Q → Nat} {N t : Nat} {F : Nat → Prop} {L : List Fl} {f : Fl} (hg : GoodT (f :: L)) (hz : Szs (f :: L)) (h : Hp w A M N F (st L) (keys (st L))) (ht : TB w t (A [])) (hF : ∀ i, F i → i < w.heap.size) (hN : N + 20 < 1099511627776) (hf : Fok f) (hs : 0 ≤ f.size) :
    Calls Tryz.prog 81 #[.pointer (some ⟨t, 0, none⟩), f.val] w fun e w' => e = .returned (.tuple #[]) ∧ ∃ A' M', A' [] = A [] ∧ Hp w' A' M' (N + 20) (fun i => F i ∨ w.heap.size ≤ i ∧ i < w'.heap.size) (st (f :: L)) (keys (st (f :: L))) ∧ AK w w' ∧ OnlyP F w w' := by
  have hgood : GoodT L := hg.tail
  have hszt : ∀ q, sz f + tot L q < 1208925819614629174706176 := by
    intro q
    have h1 := tot_small hgood (fun g hg => hz g (by simp [hg])) q
    have h2 := hz f (by simp)
    omega
  have hown : ∀ q, sz f + own L q < 1208925819614629174706176 := fun q => by
    have := hszt q
    have := own_le (q := q) hgood.ne
    omega
  obtain ⟨p, tx, bl, s⟩ := f
  obtain ⟨z, rfl⟩ : ∃ z : Nat, s = z := ⟨s.toNat, by simp only at hs; omega⟩
  have hz1 : sz ⟨p, tx, bl, (z : Int)⟩ = z := by simp [sz]
  have hz2 : z ≤ 4611686018427387904 := by have := hz ⟨p, tx, bl, z⟩ (by simp); rw [hz1] at this; exact this
  have c0 := ht.cell
  have htl := ht.lt
  have hpl := hf.path
  simp only at hpl
  have hok := path_of (hg.each _ (by simp : (⟨p, tx, bl, z⟩ : Fl) ∈ _))
  simp only at hok
  have hdp := dir_pcs (okP_all hok.2) hok.1
  have H : Hid (GoodT (⟨p, tx, bl, z⟩ :: L) ∧ Hp w A M N F (st L) (keys (st L)) ∧ TB w t (A []) ∧ (∀ i, F i → i < w.heap.size) ∧ (∀ q, z + tot L q < 1208925819614629174706176) ∧ (∀ q, z + own L q < 1208925819614629174706176) ∧ okP p = true ∧ pcs (dir p) = (pcs p).dropLast ∧ pcs p = (pcs p).dropLast ++ [base p] ∧ N + 20 < 1099511627776) :=
    ⟨hg, h, ht, hF, fun q => by have := hszt q; rw [hz1] at this; exact this, fun q => by have := hown q; rw [hz1] at this; exact this, hok.2, hdp.1, hdp.2, hN⟩
  have hplen : (pcs p).length ≤ 12 := by have := (okP_len hok.2).2; rw [← dep_eq] at this; exact this
  obtain ⟨f0, hf0⟩ : ∃ f0 : Fl, (⟨p, tx, bl, (z : Int)⟩ : Fl) = f0 := ⟨_, rfl⟩
  have HF0 : Hid (pp f0 = pcs p ∧ sz f0 = z ∧ f0.path = p) := by rw [← hf0]; exact ⟨rfl, hz1, rfl⟩
  rw [hf0] at H
  have hval : Fl.val ⟨p, tx, bl, (z : Int)⟩ = .agg #[.string (bs p), .string (bs tx), .int .i64 bl, .int .i64 z] := rfl
  rw [hval, hf0]
  clear hg hz h ht hF hszt hown hgood hz1 hok hdp hval hf hs hN hf0
  go_enter Tryz.func81, Tryz.ntmps81
  go_wp2_with fail
  obtain ⟨w1, hw1⟩ : ∃ w1, (w.alloc (.cells #[.string (bs p), .string (bs tx), .int .i64 bl, .int .i64 (z : Int)] 45)).alloc (.cells #[.int .u64 0, .int .u64 (z : Int)] 118) = w1 := ⟨_, rfl⟩
  have H1 : Hid (XB w1 w.heap.size ⟨p, tx, bl, z⟩ ∧ SB w1 (w.heap.size + 1) 0 z ∧ Below w.heap.size w w1) := by
    rw [← hw1]
    refine ⟨(XB.new w ⟨p, tx, bl, z⟩).later (balloc _ _), ?_, bstep (balloc _ _) (balloc _ _)⟩
    have := SB.new (w.alloc (.cells #[.string (bs p), .string (bs tx), .int .i64 bl, .int .i64 (z : Int)] 45)) 0 z
    simpa using this
  rw [hw1]
  clear hw1
  obtain ⟨hnd, hmp, hfa, hfm⟩ := (H.out.2.1.later H1.out.2.2).dirs [] _ _ _ (st_root H.out.1.tail)
  have hz3 := H.out.2.2.2.2.1 []
  refine (moreZ hnd (by have := cnt_lt H.out.1 []; omega) (by omega) (by omega)).mono ?_
  rintro e w2 ⟨rfl, hn2, ho2⟩
  have H2 : Hid (Hp w2 A M N F (midP L f0 0) (keys (midP L f0 0)) ∧ XB w2 w.heap.size ⟨p, tx, bl, z⟩ ∧ SB w2 (w.heap.size + 1) 0 z ∧ AK w w2 ∧ OnlyP F w w2) := by
    have k2 : AK w1 w2 := AK.node ho2 hnd
    refine ⟨put_more (H.out.2.1.later H1.out.2.2) (st_root H.out.1.tail) ho2 (by rw [HF0.out.2.1]; exact hn2) (midP_start H.out.1), H1.out.1.ak k2, H1.out.2.1.ak k2, (AK.of_below H1.out.2.2).trans k2, (OnlyP.of_below H1.out.2.2 F).step ho2 (by simp; exact .inl hfa)⟩
  obtain ⟨x0, x1, x2, x3⟩ := H2.out.2.1.cells
  simp only at x0
  clear hnd hmp hfa hfm hz3 hn2 ho2 c0 htl x1 x2 x3
  go_wp2_with fail
  refine (dir_any p _ (by omega)).mono ?_
  rintro e w3 ⟨rfl, rfl⟩
  go_wp2_with fail
  refine (split_any (dir p) _ (by have : (dir p).length ≤ p.length := (by unfold dir; split; simp; simp; omega); omega)).mono ?_
  rintro e w4 ⟨v, rfl, ho4, hb4⟩
  rw [H.out.2.2.2.2.2.2.2.1] at ho4
  obtain ⟨a, c, rfl, _⟩ := ho4.bs.form
  rename_i q1
  clear q1
  have H4 : Hid (Own w3.heap.size w4 (.slice a ((pcs p).dropLast).length c) (pcs p).dropLast ∧ Below w3.heap.size w3 w4) := ⟨ho4, hb4⟩
  clear ho4 hb4 x0
  obtain ⟨n, hn⟩ : ∃ n, ((pcs p).dropLast).length = n := ⟨_, rfl⟩
  rw [hn] at ⊢
  have HN : Hid (((pcs p).dropLast).length = n ∧ n + 1 = (pcs p).length ∧ n ≤ 12) := by
    refine ⟨hn, ?_, ?_⟩
    · rw [← hn, H.out.2.2.2.2.2.2.2.2.1]; simp
    · rw [← hn]; simp; omega
  have hn12 := HN.out.2.2
  clear hn
  go_wp2_with fail
  go_loopw [5, 24] (fun x i wr => ∃ (k : Nat) (A' M' : Q → Nat), k ≤ n ∧ i = .int .i64 k ∧ x = .pointer (some ⟨A' ((pcs p).take k), 0, none⟩) ∧ A' [] = A [] ∧ Hp wr A' M' (N + k) (fun i => F i ∨ w.heap.size ≤ i ∧ i < wr.heap.size) (midP L f0 k) (keys (midP L f0 k)) ∧ AK w4 wr ∧ OnlyP F w wr) (fun _ i _ => n - (intOf i).toNat)
  case atStart => exact ⟨0, A, M, by omega, rfl, rfl, rfl, (H2.out.1.later H4.out.2).wider (fun i hi => .inl hi) (by omega), AK.refl _, H2.out.2.2.2.2.below H4.out.2⟩
  case round =>
    obtain ⟨k, A', M', hk, rfl, rfl, hA, hh, hak, hop⟩ := hrel
    have HH : Hid (A' [] = A [] ∧ Hp wr A' M' (N + k) (fun i => F i ∨ w.heap.size ≤ i ∧ i < wr.heap.size) (midP L f0 k) (keys (midP L f0 k)) ∧ AK w4 wr ∧ OnlyP F w wr) := ⟨hA, hh, hak, hop⟩
    have HX : Hid (XB wr w.heap.size ⟨p, tx, bl, z⟩ ∧ SB wr (w.heap.size + 1) 0 z) := ⟨(H2.out.2.1.later H4.out.2).ak hak, (H2.out.2.2.1.later H4.out.2).ak hak⟩
    have hpre : pre ((pcs p).take k) (pp f0) = true := by rw [HF0.out.1]; exact take_pre (by have := HN.out.2.1; omega)
    have hmid := midP_zero (L := L) (f := f0) (i := k) hpre (by simp; omega)
    have HD := hh.dirs _ _ _ _ hmid
    clear hA hh hak hop
    obtain ⟨s0, s1⟩ := HX.out.2.cells
    by_cases hlt : k < n
    · have hkp : k + 1 < (pcs p).length := by have := HN.out.2.1; omega
      have hkd : k < ((pcs p).dropLast).length := by have := HN.out.1; omega
      have hpf := HF0.out.1
      obtain ⟨b, off, ea, hbw, d0⟩ := SS.at ((H4.out.1.ak HH.out.2.2.1).bs) (Below.refl _ _) hkd
      subst ea
      rw [List.getElem_dropLast] at d0
      have hxl := pcs_each p H.out.2.2.2.2.2.2.1 (k := k) (by omega)
      have hsn := take_snocT (P := pcs p) (i := k) (by omega)
      have hat := midP_at (L := L) H.out.1 (i := k) (by rw [hpf]; exact hkp)
      have hnx := midP_next (L := L) (f := f0) (i := k) (by rw [hpf]; exact hkp)
      rw [hpf] at hat hnx
      rw [HF0.out.2.1] at hnx
      obtain ⟨x, hx⟩ : ∃ x, (pcs p)[k]'(by omega) = x := ⟨_, rfl⟩
      rw [hx] at d0 hxl hsn
      clear hx
      obtain ⟨q, hq⟩ : ∃ q, (pcs p).take k = q := ⟨_, rfl⟩
      obtain ⟨q1, hq1⟩ : ∃ q1, (pcs p).take (k + 1) = q1 := ⟨_, rfl⟩
      rw [hq] at hsn hmid HD hpre ⊢
      rw [hq1] at hsn hat hnx
      have HQ : Hid ((pcs p).take (k + 1) = q1 ∧ q ++ [x] = q1) := ⟨hq1, hsn⟩
      have k1 : (0 : Int) ≤ (k : Int) := by omega
      have k2 : (k : Int) < (n : Int) := by omega
      have hc1 := cnt_lt H.out.1 q1
      have ht1 := H.out.2.2.2.2.1 q1
      have HNX : Hid (upd (midP L f0 k) q1 (some (.dir (1 + cnt L q1) (z + tot L q1) (own L q1))) = midP L f0 (k + 1)) := hnx
      have HMD : Hid (midP L f0 k q = some (.dir (1 + cnt L q) (sz f0 + tot L q) (own L q))) := hmid
      have HDD : Hid (ND wr (A' q) (some (M' q)) (1 + cnt L q) (sz f0 + tot L q) (own L q) ∧ MP wr (N + k) (M' q) (fun n => if keys (midP L f0 k) q n then some (A' (q ++ [n])) else none) ∧ (F (A' q) ∨ w.heap.size ≤ A' q ∧ A' q < wr.heap.size) ∧ (F (M' q) ∨ w.heap.size ≤ M' q ∧ M' q < wr.heap.size)) := HD
      clear HD hmid hnx hq hq1 hsn hpre
      have hNN := H.out.2.2.2.2.2.2.2.2.2
      by_cases hcnt : 0 < cnt L q1
      · rw [if_pos hcnt] at hat
        have HAT : Hid (midP L f0 k q1 = some (.dir (cnt L q1) (tot L q1) (own L q1))) := hat
        have hF : (fun n => if keys (midP L f0 k) q n then some (A' (q ++ [n])) else none) x = some (A' q1) := by
          have : keys (midP L f0 k) q x = true := by unfold keys; rw [HQ.out.2, hat]; rfl
          simp only [this, if_true, HQ.out.2]
        have HE : Hid (∀ w', wr = w' → Calls Tryz.prog 111 #[.pointer (some ⟨A' q, 0, none⟩), .string (bs x)] w' fun e w'' => e = .returned (.pointer (some ⟨A' q1, 0, none⟩)) ∧ w'' = w') := by
          rintro w' rfl
          exact enter_some HDD.out.1 HDD.out.2.1 hF hxl
        clear hF hat
        go_wp2_with fail
        refine (HE.out _ rfl).mono ?_
        rintro e w5 ⟨rfl, hw5⟩
        subst hw5
        go_wp2_with fail
        obtain ⟨hnd, hmp, hfa, hfm⟩ := HH.out.2.1.dirs q1 _ _ _ HAT.out
        refine (moreZ hnd (by omega) (by omega) (by omega)).mono ?_
        rintro e w6 ⟨rfl, hn6, ho6⟩
        have H6 : Hid (Hp w6 A' M' (N + (k + 1)) (fun i => F i ∨ w.heap.size ≤ i ∧ i < w6.heap.size) (midP L f0 (k + 1)) (keys (midP L f0 (k + 1))) ∧ AK w4 w6 ∧ OnlyP F w w6) := by
          refine ⟨(put_more HH.out.2.1 HAT.out ho6 (by rw [HF0.out.2.1]; exact hn6) (by rw [HF0.out.2.1]; exact HNX.out)).wider (fun i hi => ?_) (by omega), HH.out.2.2.1.trans (AK.node ho6 hnd), HH.out.2.2.2.step ho6 ?_⟩
          · rcases hi with hi | hi
            · exact .inl hi
            · exact .inr ⟨hi.1, Nat.lt_of_lt_of_le hi.2 ho6.size⟩
          · intro i hi
            simp only [List.mem_singleton] at hi
            subst hi
            rcases hfa with h | h
            · exact .inl h
            · exact .inr h.1
        clear hnd hmp hfa hfm hn6 ho6
        go_wp2_with fail
        go_roundw
        case rel => exact ⟨k + 1, A', M', by omega, by go_num, by rw [HQ.out.1], HH.out.1, H6.out.1, H6.out.2.1, H6.out.2.2⟩
        case measure => simp [intOf]; omega
      · rw [if_neg hcnt] at hat
        have h0 : cnt L q1 = 0 := by omega
        have HAT : Hid (midP L f0 k q1 = none ∧ cnt L q1 = 0) := ⟨hat, h0⟩
        have hF : (fun n => if keys (midP L f0 k) q n then some (A' (q ++ [n])) else none) x = none := by
          have : keys (midP L f0 k) q x = false := by unfold keys; rw [HQ.out.2, hat]; rfl
          simp only [this, Bool.false_eq_true, if_false]
        have HE : Hid (∀ w', wr = w' → Calls Tryz.prog 111 #[.pointer (some ⟨A' q, 0, none⟩), .string (bs x)] w' fun e w'' => ∃ g' b', e = .returned (.pointer (some ⟨g', 0, none⟩)) ∧ ND w'' g' (some b') 0 0 0 ∧ MP w'' 0 b' (fun _ => none) ∧ MP w'' (N + k + 1) (M' q) (fun n => if n = x then some g' else if keys (midP L f0 k) q n then some (A' (q ++ [n])) else none) ∧ Only [M' q] w' w'' ∧ w'.heap.size ≤ g' ∧ w'.heap.size ≤ b') := by
          rintro w' rfl
          exact enter_none HDD.out.1 HDD.out.2.1 hF hxl (by omega)
        clear hF hat h0
        go_wp2_with fail
        refine (HE.out _ rfl).mono ?_
        rintro e w5 ⟨g', b', rfl, k1, k2, k3, k4, k5, k6⟩
        have H5 : Hid (Hp w5 (upd A' q1 g') (upd M' q1 b') (N + (k + 1)) (fun i => F i ∨ w.heap.size ≤ i ∧ i < w5.heap.size) (upd (midP L f0 k) q1 (some (.dir 0 0 0))) (keys (upd (midP L f0 k) q1 (some (.dir 0 0 0)))) ∧ ND w5 g' (some b') 0 0 0 ∧ AK w4 w5 ∧ OnlyP F w w5 ∧ w.heap.size ≤ g') := by
          have hsz := HH.out.2.2.2.size
          refine ⟨?_, k1, HH.out.2.2.1.trans (AK.map k4 HDD.out.2.1), HH.out.2.2.2.step k4 ?_, by omega⟩
          · have hx1 := HQ.out.2
            subst hx1
            refine (HH.out.2.1.new (n := x) HMD.out HAT.out.1 (fun m => ?_) k5 k6 k4 k3 (.inr ⟨0, 0, 0, rfl, k1, k2.mono (by omega)⟩)).wider (fun i hi => ?_) (by omega)
            · cases e : midP L f0 k (q ++ [x] ++ [m]) with
              | none => rfl
              | some d =>
                obtain ⟨_, _, _, h⟩ := midP_proper H.out.1 (i := k) (q := q ++ [x]) (n := m) (by rw [e]; rfl)
                rw [HAT.out.1] at h; cases h
            · have := k4.size
              rcases hi with (hi | hi) | hi
              · exact .inl hi
              · exact .inr ⟨hi.1, by omega⟩
              · exact .inr ⟨by omega, hi.2⟩
          · intro i hi
            simp only [List.mem_singleton] at hi
            subst hi
            rcases HDD.out.2.2.2 with h | h
            · exact .inl h
            · exact .inr h.1
        have HX5 : Hid (SB w5 (w.heap.size + 1) 0 z) := HX.out.2.ak (AK.map k4 HDD.out.2.1)
        obtain ⟨r0, r1⟩ := HX5.out.cells
        clear k1 k2 k3 k4 k5 k6
        go_wp2_with fail
        refine (moreZ H5.out.2.1 (by omega) (by omega) (by omega)).mono ?_
        rintro e w6 ⟨rfl, hn6, ho6⟩
        have H6 : Hid (Hp w6 (upd A' q1 g') (upd M' q1 b') (N + (k + 1)) (fun i => F i ∨ w.heap.size ≤ i ∧ i < w6.heap.size) (midP L f0 (k + 1)) (keys (midP L f0 (k + 1))) ∧ AK w4 w6 ∧ OnlyP F w w6) := by
          have hu := upd_at A' q1 g'
          refine ⟨(put_more (f := f0) H5.out.1 (upd_at _ _ _) (by rw [hu]; exact ho6) (by rw [hu, upd_at, HF0.out.2.1]; exact hn6) ?_).wider (fun i hi => ?_) (Nat.le_refl _), H5.out.2.2.1.trans (AK.node ho6 H5.out.2.1), H5.out.2.2.2.1.step ho6 ?_⟩
          · rw [upd_upd, ← HNX.out, HAT.out.2, tot_zero HAT.out.2, cnt_zero_own H.out.1.tail HAT.out.2, HF0.out.2.1]
          · rcases hi with hi | hi
            · exact .inl hi
            · exact .inr ⟨hi.1, Nat.lt_of_lt_of_le hi.2 ho6.size⟩
          · intro i hi
            simp only [List.mem_singleton] at hi
            subst hi
            exact .inr H5.out.2.2.2.2
        clear hn6 ho6
        go_wp2_with fail
        go_roundw
        case rel =>
          refine ⟨k + 1, upd A' q1 g', upd M' q1 b', by omega, by go_num, by rw [HQ.out.1, upd_at], ?_, H6.out.1, H6.out.2.1, H6.out.2.2⟩
          rw [upd_ne _ _ (fun e => ?_)]
          · exact HH.out.1
          · have := HQ.out.2
            rw [← e] at this; simp at this
        case measure => simp [intOf]; omega
    · obtain rfl : k = n := by omega
      have hqd : (pcs p).take k = (pcs p).dropLast := by rw [List.dropLast_eq_take]; congr 1; have := HN.out.2.1; omega
      have hpf := HF0.out.1
      rw [hqd] at hmid HD ⊢
      obtain ⟨q, hq⟩ : ∃ q, (pcs p).dropLast = q := ⟨_, rfl⟩
      rw [hq] at hmid HD ⊢
      have HQ : Hid ((pcs p).dropLast = q ∧ pcs p = q ++ [base p] ∧ (base p).length ≤ 1000000000) := by
        refine ⟨hq, by rw [← hq]; exact H.out.2.2.2.2.2.2.2.2.1, ?_⟩
        have : (base p).length ≤ p.length := by unfold base; simp
        omega
      have HMD : Hid (midP L f0 k q = some (.dir (1 + cnt L q) (sz f0 + tot L q) (own L q))) := hmid
      have HDD : Hid (ND wr (A' q) (some (M' q)) (1 + cnt L q) (sz f0 + tot L q) (own L q) ∧ MP wr (N + k) (M' q) (fun n => if keys (midP L f0 k) q n then some (A' (q ++ [n])) else none) ∧ (F (A' q) ∨ w.heap.size ≤ A' q ∧ A' q < wr.heap.size) ∧ (F (M' q) ∨ w.heap.size ≤ M' q ∧ M' q < wr.heap.size)) := HD
      have hNN := H.out.2.2.2.2.2.2.2.2.2
      have HPL : Hid (∀ W, Calls Tryz.prog 112 #[.agg #[.int .u64 (own L q / 18446744073709551616 : Nat), .int .u64 (own L q % 18446744073709551616 : Nat)], .agg #[.int .u64 0, .int .u64 z]] W fun e W' => e = .returned (.agg #[.int .u64 ((own L q + z) / 18446744073709551616 : Nat), .int .u64 ((own L q + z) % 18446744073709551616 : Nat)]) ∧ Below W.heap.size W W') := by
        intro W
        have := plus_any (own L q) z (by have := H.out.2.2.2.2.2.1 q; omega) W
        rw [sumv_small (z := z) (by omega)] at this
        exact this
      obtain ⟨g, hgg⟩ : ∃ g, A' q = g := ⟨_, rfl⟩
      have hnc := HD.1.nc
      rw [hgg] at hnc ⊢
      obtain ⟨ph, hph⟩ : ∃ x, own L q / 18446744073709551616 = x := ⟨_, rfl⟩
      obtain ⟨pl, hpl2⟩ : ∃ x, own L q % 18446744073709551616 = x := ⟨_, rfl⟩
      obtain ⟨rh, hrh⟩ : ∃ x, (own L q + z) / 18446744073709551616 = x := ⟨_, rfl⟩
      obtain ⟨rl, hrl⟩ : ∃ x, (own L q + z) % 18446744073709551616 = x := ⟨_, rfl⟩
      rw [hph, hpl2] at hnc HPL
      rw [hrh, hrl] at HPL
      have HNC : Hid (NC wr g (some (M' q)) (1 + cnt L q) ((sz f0 + tot L q) / 18446744073709551616) ((sz f0 + tot L q) % 18446744073709551616) ph pl ∧ A' q = g ∧ (own L q + z) / 18446744073709551616 = rh ∧ (own L q + z) % 18446744073709551616 = rl) := ⟨hnc, hgg, hrh, hrl⟩
      obtain ⟨c0, c1, c2, c3, c4, c5⟩ := hnc.cells
      have hgl := hnc.lt
      have f4 := hnc.soft 4
      have f5 := hnc.soft 5
      have hsl := HX.out.2.lt
      have HF : Hid (wr.frozen? ⟨g, 4, none⟩ = false ∧ wr.frozen? ⟨g, 5, none⟩ = false ∧ g < wr.heap.size) := ⟨f4, f5, hgl⟩
      clear hmid HD hpre hnc hgg hph hpl2 hrh hrl hq hqd
      go_wp2_with fail
      go_region_with (go_at_call 112; refine (HPL.out _).mono ?_; rintro e w5 ⟨rfl, hb5⟩; have g4 : w5.frozen? ⟨g, 4, none⟩ = false := (hb5.frozen (p := ⟨g, 4, none⟩) HF.out.2.2).trans HF.out.1; have g5 : w5.frozen? ⟨g, 5, none⟩ = false := (hb5.frozen (p := ⟨g, 5, none⟩) HF.out.2.2).trans HF.out.2.1; have e4 : w5.cell? ⟨g, 4, none⟩ = some (.int .u64 ph) := (hb5.cell (p := ⟨g, 4, none⟩) HF.out.2.2).trans c4; have e5 : w5.cell? ⟨g, 5, none⟩ = some (.int .u64 pl) := (hb5.cell (p := ⟨g, 5, none⟩) HF.out.2.2).trans c5)
      all_goals
        have hb6 : Below wr.heap.size wr w5 := bstep (Below.refl _ _).drew hb5
        obtain ⟨w6, hw6⟩ : ∃ w6, (w5.setCell ⟨g, 4, none⟩ (.int .u64 rh)).setCell ⟨g, 5, none⟩ (.int .u64 rl) = w6 := ⟨_, rfl⟩
        have H6 : Hid (Hp w6 A' M' (N + k) (fun i => F i ∨ w.heap.size ≤ i ∧ i < w6.heap.size) (upd (midP L f0 k) q (some (.dir (1 + cnt L q) (sz f0 + tot L q) (sz f0 + own L q)))) (keys (upd (midP L f0 k) q (some (.dir (1 + cnt L q) (sz f0 + tot L q) (sz f0 + own L q))))) ∧ AK wr w6 ∧ OnlyP F w w6) := by
          have ho6 : Only [g] wr w6 := by
            rw [← hw6]
            exact (Only.of_below hb6 _).trans ((Only.set _ _ _ _).trans (Only.set _ _ _ _))
          have hn6 : NC w6 g (some (M' q)) (1 + cnt L q) ((sz f0 + tot L q) / 18446744073709551616) ((sz f0 + tot L q) % 18446744073709551616) rh rl := by
            rw [← hw6]
            exact (HNC.out.1.later hb6).own rh rl
          obtain ⟨_, e1, e2, e3⟩ := HNC.out
          rw [← e1] at ho6 hn6
          have hn7 : ND w6 (A' q) (some (M' q)) (1 + cnt L q) (sz f0 + tot L q) (sz f0 + own L q) := ⟨by rw [Nat.add_comm (sz f0) (own L q), HF0.out.2.1, e2, e3, ← HF0.out.2.1]; exact hn6.blk⟩
          refine ⟨((HH.out.2.1.set HMD.out ho6 hn7).congr rfl (keys_upd (by rw [HMD.out]; rfl)).symm).wider (fun i hi => ?_) (Nat.le_refl _), AK.node ho6 HDD.out.1, HH.out.2.2.2.step ho6 ?_⟩
          · rcases hi with hi | hi
            · exact .inl hi
            · exact .inr ⟨hi.1, Nat.lt_of_lt_of_le hi.2 ho6.size⟩
          · intro i hi
            simp only [List.mem_singleton] at hi
            subst hi
            rcases HDD.out.2.2.1 with h | h
            · exact .inl h
            · exact .inr h.1
        rw [hw6]
        clear hw6 hb5 hb6 g4 g5 e4 e5 c0 c1 c2 c3 c4 c5 s0 s1 f4 f5 hgl hsl
        obtain ⟨hnd6, hmp6, hfa6, hfm6⟩ := H6.out.1.dirs q _ _ _ (upd_at _ _ _)
        obtain ⟨S6, hS6⟩ : ∃ S6, upd (midP L f0 k) q (some (.dir (1 + cnt L q) (sz f0 + tot L q) (sz f0 + own L q))) = S6 := ⟨_, rfl⟩
        rw [hS6] at H6 hmp6
        have HS6 : Hid (upd (midP L f0 k) q (some (.dir (1 + cnt L q) (sz f0 + tot L q) (sz f0 + own L q))) = S6) := hS6
        have HM6 : Hid (MP w6 (N + k) (M' q) (fun n => if keys S6 q n then some (A' (q ++ [n])) else none) ∧ (F (M' q) ∨ w.heap.size ≤ M' q ∧ M' q < w6.heap.size)) := ⟨hmp6, hfm6⟩
        rw [HNC.out.2.1] at hnd6
        obtain ⟨c0, _⟩ := hnd6.cells
        have hgl := hnd6.lt
        have HX6 : Hid (XB w6 w.heap.size ⟨p, tx, bl, z⟩ ∧ SB w6 (w.heap.size + 1) 0 z) := ⟨HX.out.1.ak H6.out.2.1, HX.out.2.ak H6.out.2.1⟩
        obtain ⟨x0, _⟩ := HX6.out.1.cells
        obtain ⟨s0, s1⟩ := HX6.out.2.cells
        have hxl := HX6.out.1.lt
        have hsl := HX6.out.2.lt
        simp only at x0
        obtain ⟨w8, hst, hm8, ho8, hz8⟩ := MP.store (w := (w6.alloc (.cells #[.map none, .int .i64 1, .int .u64 0, .int .u64 z, .int .u64 0, .int .u64 0] 120)).drew) (HM6.out.1.block (Below.heap_alloc w6 _ _ HM6.out.1.lt)) HQ.out.2.2 (by omega) w6.heap.size
        have H8 : Hid (MP w8 (N + k + 1) (M' q) (fun x => if x = base p then some w6.heap.size else if keys S6 q x then some (A' (q ++ [x])) else none) ∧ Only [M' q] (w6.alloc (.cells #[.map none, .int .i64 1, .int .u64 0, .int .u64 z, .int .u64 0, .int .u64 0] 120)).drew w8) := ⟨hm8, ho8⟩
        have HBA : Hid (∀ W, Calls Tryz.prog 113 #[.string (bs p)] W fun e w' => e = .returned (.string (bs (base p))) ∧ w' = W) := fun W => base_any p W (by omega)
        have hne1 : M' q ≠ g := (hnd6.ne hmp6).symm
        have hne2 : M' q ≠ w.heap.size := by
          rintro e
          obtain ⟨_, _, ⟨_, _, hb, _⟩, _⟩ := HM6.out.1
          rw [e, HX6.out.1.blk] at hb; cases hb
        have hne3 : M' q ≠ w.heap.size + 1 := by
          rintro e
          obtain ⟨_, _, ⟨_, _, hb, _⟩, _⟩ := HM6.out.1
          rw [e, HX6.out.2.blk] at hb; cases hb
        have y8 : ∀ (b o : Nat), b < w6.heap.size → M' q ≠ b → w8.cell? ⟨b, o, none⟩ = w6.cell? ⟨b, o, none⟩ := by
          intro b o hb hne
          have e1 : w8.heap[b]? = (w6.alloc (.cells #[.map none, .int .i64 1, .int .u64 0, .int .u64 z, .int .u64 0, .int .u64 0] 120)).drew.heap[b]? := ho8.block _ (by simp; omega) (by simp; exact fun e => hne e.symm)
          exact World.cell?_of_block (a := ⟨b, o, none⟩) (e1.trans (Below.heap_alloc w6 _ _ hb))
        have y0 := (y8 g 0 hgl hne1).trans c0
        have y1 := (y8 _ 0 hxl hne2).trans x0
        have y2 := (y8 _ 0 hsl hne3).trans s0
        have y3 := (y8 _ 1 hsl hne3).trans s1
        clear hnd6 hmp6 hfa6 hfm6 hS6 hm8 ho8 hz8 y8 hne1 hne2 hne3
        go_wp2_with fail
        go_region_held3 (fun w' => w'.cell? ⟨g, 0, none⟩ = some (.map (some (M' q))) ∧ w'.cell? ⟨w.heap.size, 0, none⟩ = some (.string (bs p)) ∧ w'.cell? ⟨w.heap.size + 1, 0, none⟩ = some (.int .u64 0) ∧ w'.cell? ⟨w.heap.size + 1, 1, none⟩ = some (.int .u64 z)) (first | (with_reducible exact ⟨y0, y1, y2, y3⟩) | go_keep) (first | (go_at_call 113; with_reducible refine (HBA.out _).mono ?_; rintro e w7 ⟨rfl, rfl⟩))
        all_goals
          go_end0
          have hw7 : Below w6.heap.size w6 (w6.alloc (.cells #[.map none, .int .i64 1, .int .u64 0, .int .u64 z, .int .u64 0, .int .u64 0] 120)).drew := (balloc _ _).drew
          have ho7 : Only [M' q] w6 w8 := (Only.of_below hw7 _).trans H8.out.2
          have hnew : ND w8 w6.heap.size none 1 (sz f0) 0 := ⟨by
            have e1 : w8.heap[w6.heap.size]? = (w6.alloc (.cells #[.map none, .int .i64 1, .int .u64 0, .int .u64 z, .int .u64 0, .int .u64 0] 120)).drew.heap[w6.heap.size]? := H8.out.2.block _ (by simp) (by simp; have := HM6.out.1.lt; omega)
            rw [e1, HF0.out.2.1, Nat.div_eq_of_lt (show z < 18446744073709551616 by omega), Nat.mod_eq_of_lt (show z < 18446744073709551616 by omega)]
            exact heap_alloc_new w6 _⟩
          have hpq : pp f0 = q ++ [base p] := by rw [HF0.out.1]; exact HQ.out.2.1
          have hS : S6 q = some (.dir (1 + cnt L q) (sz f0 + tot L q) (sz f0 + own L q)) := by rw [← HS6.out, upd_at]
          have hln : ∀ r, q ++ [base p] ++ r ≠ q := by
            intro r e
            have := congrArg List.length e
            simp at this
          have hnone : S6 (q ++ [base p]) = none := by
            rw [← HS6.out, upd_ne _ _ (by simp), ← hpq, midP_leaf H.out.1]
          have hfin := H6.out.1.new (n := base p) hS hnone (fun m => by
            rw [← HS6.out, upd_ne _ _ (hln [m])]
            cases e : midP L f0 k (q ++ [base p] ++ [m]) with
            | none => rfl
            | some d =>
              obtain ⟨_, _, _, h⟩ := midP_proper H.out.1 (i := k) (q := q ++ [base p]) (n := m) (by rw [e]; rfl)
              rw [← hpq, midP_leaf H.out.1] at h; cases h) (g := w6.heap.size) (b := w6.heap.size) (Nat.le_refl _) (Nat.le_refl _) ho7 H8.out.1 (.inl ⟨sz f0, rfl, hnew⟩)
          have hend := midP_end H.out.1
          have hk1 : (pp f0).length - 1 = k := by rw [HF0.out.1]; have := HN.out.2.1; omega
          have hdl : (pp f0).dropLast = q := by rw [HF0.out.1]; exact HQ.out.1
          rw [hk1, hdl, HS6.out, hpq] at hend
          rw [hend] at hfin
          refine ⟨rfl, _, _, ?_, hfin.wider (fun i hi => ?_) (by omega), ?_, H6.out.2.2.step ho7 ?_⟩
          · rw [upd_ne _ _ (by simp)]; exact HH.out.1
          · have := ho7.size
            have := H6.out.2.2.size
            rcases hi with (hi | hi) | hi
            · exact .inl hi
            · exact .inr ⟨hi.1, by omega⟩
            · exact .inr ⟨by omega, hi.2⟩
          · exact (H2.out.2.2.2.1.trans (AK.of_below H4.out.2)).trans (HH.out.2.2.1.trans (H6.out.2.1.trans (AK.map ho7 HM6.out.1)))
          · intro i hi
            simp only [List.mem_singleton] at hi
            subst hi
            rcases HM6.out.2 with h | h
            · exact .inl h
            · exact .inr h.1
end Go.Proofs.YtbaheiimcnfaaaaGreat
