/-
  A script run without crashes: what it leaves.
-/
import Derived.Test.YtlkkmcibjhoneaaGreatDoorTc
import Derived.WalkMore
namespace Go.Proofs.YtlkkmcibjhoneaaGreatDoor
open Go.RowKit

/-- a step of a script, but a crash or a stop -/
def opR (o : Opp) (T : TT) : TT × Int :=
  if o.kind = 1 then T.mk' o.p else if o.kind = 2 then T.wr o.f else if o.kind = 3 then T.dl o.p else if o.kind = 4 then T.rm o.p else if o.kind = 5 then T.ap o.b else if o.kind = 6 then T.cl else (T, 0)
def runT (T : TT) (l : List Opp) : TT := l.foldl (fun T o => (opR o T).1) T
theorem runT_snoc (T : TT) (l : List Opp) (k : Nat) (h : k < l.length) : runT T (l.take (k + 1)) = (opR l[k] (runT T (l.take k))).1 := by
  unfold runT
  rw [List.take_succ_eq_append_getElem h, List.foldl_append]
  rfl
/-- how much a script may bring -/
def bsm (l : List Opp) : Nat := (l.map (fun o => o.b.length + 1)).sum
theorem bsm_snoc (l : List Opp) (k : Nat) (h : k < l.length) : bsm (l.take (k + 1)) = bsm (l.take k) + (l[k].b.length + 1) := by
  unfold bsm
  rw [List.take_succ_eq_append_getElem h, List.map_append, List.sum_append]
  simp
theorem bsm_take (l : List Opp) (k : Nat) : bsm (l.take k) ≤ bsm l := by
  have e : bsm l = bsm (l.take k) + bsm (l.drop k) := by
    unfold bsm
    rw [← List.sum_append, ← List.map_append, List.take_append_drop]
  omega
theorem ins_lenT (x : List UInt8) : ∀ l, (ins x l).length ≤ l.length + 1
  | [] => by simp [ins]
  | y :: l => by
    have := ins_lenT x l
    unfold ins
    split
    · simp
    · split
      · simp
      · simp; omega
theorem insF_len (f : Fl) : ∀ l, (insF f l).length ≤ l.length + 1
  | [] => by simp [insF]
  | g :: l => by
    have := insF_len f l
    unfold insF
    split
    · simp; omega
    · split <;> simp
theorem TSz.mono {n m : Nat} {T : TT} (h : TSz n T) (hm : n ≤ m) : TSz m T := ⟨Nat.le_trans h.nf hm, Nat.le_trans h.nd hm, Nat.le_trans h.nj hm, Nat.le_trans h.nt hm, Nat.le_trans h.ns hm, h.ef, h.s1⟩
theorem TSz.cnt {n : Nat} {T : TT} (h : TSz n T) (b : List UInt8) : TSz (n + b.length + 1) (T.cnt b).1 := by
  have h1 := h.nf
  have h2 := h.nd
  have h3 := h.nj
  have h4 := h.nt
  have h5 := h.ns
  have h6 := h.s1
  unfold TT.cnt
  split
  · exact ⟨by show T.fs.length ≤ _; omega, by show T.ds.length ≤ _; omega, by show T.jl.length ≤ _; omega, by show T.tn.length ≤ _; omega, by show T.st + 1 ≤ _; omega, h.ef, h6⟩
  · split
    · exact ⟨by show T.fs.length ≤ _; omega, by show T.ds.length ≤ _; omega, by show T.jl.length ≤ _; omega, by show T.tn.length ≤ _; omega, by show T.st + 1 ≤ _; omega, h.ef, by show T.sp - 1 ≤ _; omega⟩
    · split
      · exact ⟨by show T.fs.length ≤ _; omega, by show T.ds.length ≤ _; omega, by show T.jl.length ≤ _; omega, by show T.tn.length ≤ _; omega, by show T.st + 1 ≤ _; omega, h.ef, h6⟩
      · exact ⟨by show T.fs.length ≤ _; omega, by show T.ds.length ≤ _; omega, by show T.jl.length ≤ _; omega, by show b.length ≤ _; omega, by show T.st + 1 ≤ _; omega, h.ef, h6⟩
theorem cnt_jl (T : TT) (b : List UInt8) : (T.cnt b).1.jl = T.jl ∧ (T.cnt b).1.fs = T.fs ∧ (T.cnt b).1.ds = T.ds := by
  unfold TT.cnt
  split
  · exact ⟨rfl, rfl, rfl⟩
  · split
    · exact ⟨rfl, rfl, rfl⟩
    · split <;> exact ⟨rfl, rfl, rfl⟩
theorem TSz.step {n : Nat} {T : TT} (h : TSz n T) (b : List UInt8) {g : TT → TT × Int} (hg : TSz (n + b.length + 1) (T.cnt b).1 → TSz (n + b.length + 1) (g (T.cnt b).1).1) : TSz (n + b.length + 1) (T.step b g).1 := by
  unfold TT.step
  split
  · exact hg (h.cnt b)
  · exact h.cnt b
theorem TSz.op {n : Nat} {T : TT} (h : TSz n T) {o : Opp} (ho : Ook o) : TSz (n + (o.b.length + 1)) (opR o T).1 := by
  have h1 := h.nf
  have h2 := h.nd
  have h3 := h.nj
  obtain ⟨j1, j2, j3⟩ := cnt_jl T []
  unfold opR
  split
  · refine (TSz.step (g := mkG o.p) h [] fun hc => ?_).mono (by simp)
    unfold mkG
    split
    · exact ⟨hc.nf, by show (ins _ (T.cnt []).1.ds).length ≤ _; rw [j3]; have := ins_lenT o.p T.ds; simp; omega, hc.nj, hc.nt, hc.ns, hc.ef, hc.s1⟩
    · exact hc
  · split
    · refine (TSz.step (g := wrG o.f) h [] fun hc => ?_).mono (by simp)
      unfold wrG
      split
      · split
        · exact ⟨by show (insF _ (T.cnt []).1.fs).length ≤ _; rw [j2]; have := insF_len o.f T.fs; simp; omega, hc.nd, hc.nj, hc.nt, hc.ns, fun x hx => by
            rcases mem_insF hx with rfl | hx
            · exact ho.f
            · exact hc.ef x hx, hc.s1⟩
        · exact hc
      · exact hc
    · split
      · refine (TSz.step (g := dlG o.p) h [] fun hc => ?_).mono (by simp)
        unfold dlG
        split
        · exact ⟨Nat.le_trans (List.length_filter_le _ _) hc.nf, hc.nd, hc.nj, hc.nt, hc.ns, fun x hx => hc.ef x (List.mem_filter.1 hx).1, hc.s1⟩
        · exact hc
      · split
        · refine (TSz.step (g := rmG o.p) h [] fun hc => ?_).mono (by simp)
          unfold rmG
          split
          · exact ⟨hc.nf, Nat.le_trans (List.length_filter_le _ _) hc.nd, hc.nj, hc.nt, hc.ns, hc.ef, hc.s1⟩
          · exact hc
        · split
          · refine (TSz.step (g := apG o.b) h o.b fun hc => ?_)
            exact ⟨hc.nf, hc.nd, by show ((T.cnt o.b).1.jl ++ o.b).length ≤ _; rw [(cnt_jl T o.b).1, List.length_append]; omega, hc.nt, hc.ns, hc.ef, hc.s1⟩
          · split
            · refine (TSz.step (g := clG) h [] fun hc => ?_).mono (by simp)
              exact ⟨hc.nf, hc.nd, Nat.zero_le _, hc.nt, hc.ns, hc.ef, hc.s1⟩
            · exact h.mono (by omega)
theorem TSz.run {n : Nat} {T : TT} (h : TSz n T) {l : List Opp} (ho : ∀ o ∈ l, Ook o) : ∀ k, k ≤ l.length → TSz (n + bsm (l.take k)) (runT T (l.take k))
  | 0, _ => by simpa [bsm, runT] using h
  | k + 1, hk => by
    have ih := h.run ho k (by omega)
    rw [runT_snoc T l k (by omega), bsm_snoc l k (by omega), ← Nat.add_assoc]
    exact ih.op (ho _ (List.getElem_mem _))

theorem run_step {TA : World → (Nat → Prop) → Nat → TT → Prop} (C : TcP TA) {w wr w1 w2 : World} {F : Nat → Prop} {c : Nat} {R : TT} (hon : OnlyP F w wr) (hb : Below wr.heap.size wr w1)
    (hc : TA w2 (nwF (nwF F w wr) w1 w2) c R) (ho : OnlyP (nwF F w wr) w1 w2) : TA w2 (nwF F w w2) c R ∧ OnlyP F w w2 := by
  have h1 := hon.size
  have h2 := hb.size
  have h3 := ho.size
  refine ⟨C.wider hc ?_ ?_, (hon.trans (OnlyP.of_below hb F) (fun _ _ h => h)).trans ho ?_⟩
  · rintro k ((hk | hk) | hk)
    · exact .inl hk
    · exact .inr ⟨hk.1, by omega⟩
    · exact .inr ⟨by omega, hk.2⟩
  · rintro k (hk | hk)
    · exact C.lt hc k (.inl (.inl hk))
    · exact hk.2
  · rintro k hk (h | h)
    · exact h
    · omega
set_option maxHeartbeats 4000000 in
set_option maxRecDepth 100000 in
theorem run_any {TA : World → (Nat → Prop) → Nat → TT → Prop} (C : TcP TA) {w : World} {F P : Nat → Prop} {c n : Nat} {T : TT} {v : Value} {l : List Opp} (h : TA w F c T) (hz : TSz n T) (hs : OS P w v l)
    (ho : ∀ o ∈ l, Ook o) (hn : n + bsm l ≤ 4000000) (hF : ∀ k, P k → ¬ F k) :
    Calls Tryz.prog 11 #[.pointer (some ⟨c, 0, none⟩), v] w fun e w' => e = .returned (.tuple #[]) ∧ TA w' (nwF F w w') c (runT T l) ∧ OnlyP F w w' := by
  obtain ⟨a, cp, rfl, hcell⟩ := hs.form
  have HC : Hid ((∀ wr, OnlyP F w wr → ∀ k, (hk : k < l.length) → ∃ g off u, a = some ⟨g, off, none⟩ ∧ P g ∧ OpC wr g (off + k * 8) l[k] u ∧ (l[k].b ≠ [] → ∀ j, u.ownBlock = some j → P j)) ∧ ∀ k, P k → k < w.heap.size) := ⟨fun wr hb k hk => by
    obtain ⟨g, off, u, ha, hg, hc, hu⟩ := hcell k hk
    exact ⟨g, off, u, ha, hg, hc.stay hb.size (hb.block g (hs.lt g hg) (hF g hg)) (fun hne j hj => hb.block j (hs.lt j (hu hne j hj)) (hF j (hu hne j hj))), hu⟩, hs.lt⟩
  have H0 : Hid (TA w F c T ∧ TSz n T) := ⟨h, hz⟩
  have hlen : l.length ≤ 4000000 := by
    have : l.length ≤ bsm l := by
      unfold bsm
      clear hcell HC hs ho hn
      induction l with
      | nil => simp
      | cons o r ih => simp at ih ⊢; omega
    omega
  clear hcell hs h hz
  obtain ⟨N, hN⟩ : ∃ N, l.length = N := ⟨_, rfl⟩
  rw [hN]
  go_enter Tryz.func11, Tryz.ntmps11
  go_wp2_with fail
  go_loopw [4] (fun i wr => ∃ k : Nat, k ≤ N ∧ i = .int .i64 k ∧ TA wr (nwF F w wr) c (runT T (l.take k)) ∧ OnlyP F w wr) (fun i _ => N - (intOf i).toNat)
  case atStart => exact ⟨0, by omega, rfl, by simpa [runT] using C.wider H0.out.1 (fun k hk => .inl hk) (fun k hk => by rcases hk with hk | hk; exact C.lt H0.out.1 k hk; exact hk.2), OnlyP.refl _ _⟩
  case round =>
    obtain ⟨k, hk, rfl, hta, hon⟩ := hrel
    have HT : Hid (TA wr (nwF F w wr) c (runT T (l.take k)) ∧ OnlyP F w wr) := ⟨hta, hon⟩
    clear hta hon
    by_cases hlt : k < N
    · have hk' : k < l.length := by omega
      obtain ⟨g, off, u, rfl, hg, hc, hu⟩ := HC.out.1 wr HT.out.2 k hk'
      obtain ⟨o, hoe⟩ : ∃ o, l[k] = o := ⟨_, rfl⟩
      have hoo : Ook o := hoe ▸ ho _ (List.getElem_mem hk')
      have hbk := bsm_take l k
      have HZ : Hid (TSz 4000000 (runT T (l.take k)) ∧ Ook o) := ⟨(H0.out.2.run ho k (by omega)).mono (by omega), hoo⟩
      have HS : Hid (∀ {w2 : World} {R : TT}, TA w2 (nwF F w w2) c R → R = (opR o (runT T (l.take k))).1 → TA w2 (nwF F w w2) c (runT T (l.take (k + 1)))) := fun h e => by
        rw [runT_snoc T l k hk', hoe, ← e]
        exact h
      rw [hoe] at hc hu
      obtain ⟨kd, op, ⟨fp, ft, fb, fz⟩, ob, on⟩ := o
      obtain ⟨ua, um, uc, rfl⟩ : ∃ a m c, u = .slice a m c := by
        rcases hc.bs with ⟨⟨a, c, rfl⟩, _⟩ | ⟨b, of, cap, rfl, _⟩
        · exact ⟨_, _, _, rfl⟩
        · exact ⟨_, _, _, rfl⟩
      have HO : Hid (BS wr (.slice ua um uc) ob ∧ (ob ≠ [] → ∀ j, (Value.slice ua um uc).ownBlock = some j → P j)) := ⟨hc.bs, hu⟩
      have c0 := hc.c0
      have c1 := hc.c1
      have c2 := hc.c2
      have c3 := hc.c3
      have c4 := hc.c4
      have c5 := hc.c5
      have c6 := hc.c6
      have c7 := hc.c7
      clear hc hu hoe hoo
      dsimp only at c0 c1 c2 c3 c4 c5 c7
      rcases (by omega : kd = 1 ∨ kd = 2 ∨ kd = 3 ∨ kd = 4 ∨ kd = 5 ∨ kd = 6 ∨ (kd ≠ 1 ∧ kd ≠ 2 ∧ kd ≠ 3 ∧ kd ≠ 4 ∧ kd ≠ 5 ∧ kd ≠ 6)) with rfl | rfl | rfl | rfl | rfl | rfl | ⟨k1, k2, k3, k4, k5, k6⟩
      · go_wp2_with (go_at_call 28; refine (C.mkd (C.later HT.out.1 ((Below.refl _ _).alloc (Nat.le_refl _) _)) HZ.out.1 op HZ.out.2.p).mono ?_; rintro e w2 ⟨rfl, hc2, ho2⟩; have R2 := run_step C HT.out.2 ((Below.refl _ _).alloc (Nat.le_refl _) _) hc2 ho2; have HR : Hid _ := R2; clear R2 hc2 ho2)
        exact ⟨⟨k + 1, by omega, by push_cast; rfl, HS.out HR.out.1 (by rfl), HR.out.2⟩, by simp only [intOf]; omega⟩
      · go_wp2_with (go_at_call 32; refine (C.wri (C.later HT.out.1 ((Below.refl _ _).alloc (Nat.le_refl _) _)) HZ.out.1 ⟨fp, ft, fb, fz⟩ HZ.out.2.f).mono ?_; rintro e w2 ⟨rfl, hc2, ho2⟩; have R2 := run_step C HT.out.2 ((Below.refl _ _).alloc (Nat.le_refl _) _) hc2 ho2; have HR : Hid _ := R2; clear R2 hc2 ho2)
        exact ⟨⟨k + 1, by omega, by push_cast; rfl, HS.out HR.out.1 (by rfl), HR.out.2⟩, by simp only [intOf]; omega⟩
      · go_wp2_with (go_at_call 29; refine (C.del (C.later HT.out.1 ((Below.refl _ _).alloc (Nat.le_refl _) _)) HZ.out.1 op HZ.out.2.p).mono ?_; rintro e w2 ⟨rfl, hc2, ho2⟩; have R2 := run_step C HT.out.2 ((Below.refl _ _).alloc (Nat.le_refl _) _) hc2 ho2; have HR : Hid _ := R2; clear R2 hc2 ho2)
        exact ⟨⟨k + 1, by omega, by push_cast; rfl, HS.out HR.out.1 (by rfl), HR.out.2⟩, by simp only [intOf]; omega⟩
      · go_wp2_with (go_at_call 33; refine (C.rmd (C.later HT.out.1 ((Below.refl _ _).alloc (Nat.le_refl _) _)) HZ.out.1 op HZ.out.2.p).mono ?_; rintro e w2 ⟨rfl, hc2, ho2⟩; have R2 := run_step C HT.out.2 ((Below.refl _ _).alloc (Nat.le_refl _) _) hc2 ho2; have HR : Hid _ := R2; clear R2 hc2 ho2)
        exact ⟨⟨k + 1, by omega, by push_cast; rfl, HS.out HR.out.1 (by rfl), HR.out.2⟩, by simp only [intOf]; omega⟩
      · go_wp2_with (go_at_call 20; refine (C.app (C.later HT.out.1 ((Below.refl _ _).alloc (Nat.le_refl _) _)) HZ.out.1 (HO.out.1.later ((Below.refl _ _).alloc (Nat.le_refl _) _)) (fun hne j hj => by have hp := HO.out.2 hne j hj; rintro (hf | hf); exact hF j hp hf; have := HC.out.2 j hp; omega) HZ.out.2.b).mono ?_; rintro e w2 ⟨rfl, hc2, ho2⟩; have R2 := run_step C HT.out.2 ((Below.refl _ _).alloc (Nat.le_refl _) _) hc2 ho2; have HR : Hid _ := R2; clear R2 hc2 ho2)
        exact ⟨⟨k + 1, by omega, by push_cast; rfl, HS.out HR.out.1 (by rfl), HR.out.2⟩, by simp only [intOf]; omega⟩
      · go_wp2_with (go_at_call 19; refine (C.clr (C.later HT.out.1 ((Below.refl _ _).alloc (Nat.le_refl _) _)) HZ.out.1).mono ?_; rintro e w2 ⟨rfl, hc2, ho2⟩; have R2 := run_step C HT.out.2 ((Below.refl _ _).alloc (Nat.le_refl _) _) hc2 ho2; have HR : Hid _ := R2; clear R2 hc2 ho2)
        exact ⟨⟨k + 1, by omega, by push_cast; rfl, HS.out HR.out.1 (by rfl), HR.out.2⟩, by simp only [intOf]; omega⟩
      · go_wp2_with fail
        have hb : Below wr.heap.size wr (wr.alloc (.cells #[.int .i64 kd, .string (bs op), .string (bs fp), .string (bs ft), .int .i64 fb, .int .i64 fz, .slice ua um uc, .int .i64 on] 34)) := (Below.refl _ _).alloc (Nat.le_refl _) _
        have R2 := run_step C HT.out.2 (Below.refl _ _) (C.wider (C.later HT.out.1 hb) (fun k hk => .inl hk) (fun k hk => by rcases hk with hk | hk; exact Nat.lt_of_lt_of_le (C.lt HT.out.1 k hk) hb.size; exact hk.2)) (OnlyP.of_below hb _)
        exact ⟨⟨k + 1, by omega, by push_cast; rfl, HS.out R2.1 (by unfold opR; dsimp only; rw [if_neg k1, if_neg k2, if_neg k3, if_neg k4, if_neg k5, if_neg k6]), R2.2⟩, by simp only [intOf]; omega⟩
    · obtain rfl : k = N := by omega
      go_wp2_with fail
      refine ⟨rfl, _, results_none rfl _ _ _, rfl, ?_, HT.out.2⟩
      have := HT.out.1
      rwa [← hN, List.take_length] at this
end Go.Proofs.YtlkkmcibjhoneaaGreatDoor
