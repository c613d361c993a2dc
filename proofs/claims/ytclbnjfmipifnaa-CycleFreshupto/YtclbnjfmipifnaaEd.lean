/-
  Edge.
-/
import Derived.Test.YtclbnjfmipifnaaSea
namespace Go.Proofs.Ytclbnjfmipifnaa
open Go.RowKit Go.Maps

theorem RB.onlyP {w w' : World} {g : Nat} {f : Lb} {F : Nat → Prop} (h : RB w g f) (ho : OnlyP F w w') (hn : ¬ F g) : RB w' g f := ⟨(ho.block g h.lt hn).trans h.blk⟩
theorem OwnL.sv {base : Nat} {w : World} {v : Value} {l : List Lb} (h : OwnL base w v l) : ∃ x, v = sv x := by
  rcases OL.of h with ⟨rfl, _⟩ | ⟨g, cap, rest, rfl, _⟩
  · exact ⟨none, rfl⟩
  · exact ⟨some (g, l.length, cap), rfl⟩
def outI (out : Lb → List Lb) (a b : Lb) : Lb → List Lb := fun x => if x = a then Gs.insr ltL b (out a) else out x
/-- an edge stored -/
theorem GR.edge {w : World} {F : Nat → Prop} {g : Nat} {ns : List Lb} {out : Lb → List Lb} (h : GR w F g ns out) {a b : Lb} (ha : a ∈ ns) (hb : b ∈ ns) : ∃ (m : Nat) (v : Value), w.cell? ⟨g, 0, none⟩ = some (.map (some m)) ∧ m < w.heap.size ∧ F m ∧ OwnL 0 w v (out a) ∧ (∀ k, v.ownBlock = some k → F k) ∧
    (∀ w' : World, w'.heap[m]? = w.heap[m]? → (Instr.lookup 61 (.map (some m)) a.val false).run Try.prog w' = .ok v w') ∧
    ∀ w0 w1 v', Below w.heap.size w w0 → Only (bl v) w0 w1 → OwnL 0 w1 v' (Gs.insr ltL b (out a)) → (v'.ownBlock = v.ownBlock ∨ v'.ownBlock = some w0.heap.size) →
      ∃ w2, (Instr.mapUpdate 61 (.map (some m)) a.val v').run Try.prog w1 = .ok () w2 ∧ GR w2 (nw F w w2) g ns (outI out a b) ∧ OnlyP F w w2 ∧ Only [m] w1 w2 ∧ ∀ i, w1.cell? ⟨m, i, none⟩ = none := by
  have hlu := h.lu a ha
  obtain ⟨⟨m, A, h1, h2, h3, h4, h5, h6⟩, own, lt, nd, lu, up, sub, sz⟩ := h
  refine ⟨m, sv (A a), by simp [World.cell?, h1], lt m h3, h3, h4 a ha, h5 a ha, fun w' hw => ?_, fun w0 w1 v' hb0 ho1 hv' hbl => ?_⟩
  · simpa [ha, at_, cS] using (h2.block hw).look hlu false
  · obtain ⟨x, rfl⟩ := hv'.sv
    have hmk : ∀ k, w.heap[k]? ≠ w.heap[m]? → k ≠ m := fun k h e => h (by rw [e])
    have hmap : ∃ es clock, w.heap[m]? = some (.map es clock) := by obtain ⟨D, ⟨es, clock, hb, _⟩, _⟩ := h2; exact ⟨es, clock, hb⟩
    obtain ⟨es, clock, hmap⟩ := hmap
    have hgm : g ≠ m := by rintro rfl; rw [h1] at hmap; cases hmap
    have hrow : ∀ y ∈ ns, ∀ k, (sv (A y)).ownBlock = some k → ∃ cs fr, w.heap[k]? = some (.cells cs 35 fr) := by
      intro y hy k hk
      rcases OL.of (h4 y hy) with ⟨e, _⟩ | ⟨q, cap, rest, e, ho⟩
      · rw [e] at hk; cases hk
      · rw [e] at hk
        simp only [Value.ownBlock, Option.some.injEq] at hk
        subst hk
        exact ⟨_, _, ho.blk⟩
    have hvm : m ∉ bl (sv (A a)) := by
      intro hm
      unfold bl at hm
      have hk : (sv (A a)).ownBlock = some m := by simpa using hm
      obtain ⟨cs, fr, e⟩ := hrow a ha m hk
      rw [e] at hmap; cases hmap
    have hvg : g ∉ bl (sv (A a)) := by
      intro hm
      have hk : (sv (A a)).ownBlock = some g := by unfold bl at hm; simpa using hm
      obtain ⟨cs, fr, e⟩ := hrow a ha g hk
      rw [e] at h1; cases h1
    have hM1 : MP cS w1 m (fun a => if a ∈ ns then some (A a) else none) ns.length := (h2.later hb0).only ho1 hvm
    obtain ⟨w2, hrun, hm2, ho2, hsz⟩ := hM1.store hlu (by omega) x
    have hstep : ∀ k, k < w.heap.size → k ∉ bl (sv (A a)) → k ≠ m → w2.heap[k]? = w.heap[k]? := fun k hk hn hne => by
      have k0 : k < w0.heap.size := Nat.lt_of_lt_of_le hk hb0.size
      exact (ho2.block k (Nat.lt_of_lt_of_le k0 ho1.size) (by simpa using hne)).trans ((ho1.block k k0 hn).trans (hb0.block k hk))
    have hsz2 : w.heap.size ≤ w2.heap.size := by rw [hsz]; exact Nat.le_trans hb0.size ho1.size
    have hxlt : ∀ k, (sv x).ownBlock = some k → k < w2.heap.size ∧ (F k ∧ (sv (A a)).ownBlock = some k ∨ w.heap.size ≤ k) := by
      intro k hk
      refine ⟨by rw [hsz]; exact (hv'.lt hk).2, ?_⟩
      rcases hbl with e | e
      · rw [e] at hk; exact .inl ⟨h5 a ha k hk, hk⟩
      · rw [e] at hk
        simp only [Option.some.injEq] at hk
        right; rw [← hk]; exact hb0.size
    refine ⟨w2, hrun, ⟨⟨m, fun y => if y = a then x else A y, (hstep g (lt g own) hvg hgm).trans h1, ?_, .inl h3, ?_, ?_, ?_⟩, .inl own, fun k hk => hk.elim (fun h => Nat.lt_of_lt_of_le (lt k h) hsz2) (fun h => h.2), nd, lu, ?_, ?_, sz⟩, ?_⟩
    · have e : (if (if a ∈ ns then some (A a) else none).isSome = true then ns.length else ns.length + 1) = ns.length := by simp [ha]
      rw [e] at hm2
      refine hm2.congr (fun k _ => ?_)
      by_cases hka : k = a
      · subst hka; simp [ha]
      · simp [hka]
    · intro y hy
      by_cases hya : y = a
      · subst hya
        simp only [if_true, outI]
        refine OwnL.only hv' ho2 ?_
        intro k hk hkm
        have : k = m := by simpa using hkm
        subst this
        rcases (hxlt k hk).2 with ⟨_, h⟩ | h
        · obtain ⟨cs, fr, e⟩ := hrow y ha k h
          rw [e] at hmap; cases hmap
        · have := lt k h3; omega
      · simp only [hya, if_false, outI]
        have ho3 := h4 y hy
        rcases ho3 with ⟨h0, ho3 | ⟨q, cap, cur, e, hb2, hg, hr⟩⟩
        · exact ⟨h0, .inl ho3⟩
        · have hq : (sv (A y)).ownBlock = some q := by rw [e]; rfl
          refine ⟨h0, .inr ⟨q, cap, cur, e, hb2, (hstep q (lt q (h5 y hy q hq)) ?_ ?_).trans hg, hr⟩⟩
          · intro hm
            have hk : (sv (A a)).ownBlock = some q := by unfold bl at hm; simpa using hm
            exact hya (h6 y hy a ha q hq hk)
          · rintro rfl; rw [hg] at hmap; cases hmap
    · intro y hy k hk
      by_cases hya : y = a
      · subst hya
        simp only [if_true] at hk
        rcases (hxlt k hk).2 with ⟨h, _⟩ | h
        · exact .inl h
        · exact .inr ⟨h, (hxlt k hk).1⟩
      · simp only [hya, if_false] at hk
        exact .inl (h5 y hy k hk)
    · intro y hy z hz k hk1 hk2
      by_cases hya : y = a
      · by_cases hza : z = a
        · rw [hya, hza]
        · subst hya
          simp only [if_true] at hk1
          simp only [hza, if_false] at hk2
          rcases (hxlt k hk1).2 with ⟨_, h⟩ | h
          · exact h6 y hy z hz k h hk2
          · have := lt k (h5 z hz k hk2); omega
      · by_cases hza : z = a
        · subst hza
          simp only [if_true] at hk2
          simp only [hya, if_false] at hk1
          rcases (hxlt k hk2).2 with ⟨_, h⟩ | h
          · exact h6 y hy z hz k hk1 h
          · have := lt k (h5 y hy k hk1); omega
        · simp only [hya, hza, if_false] at hk1 hk2
          exact h6 y hy z hz k hk1 hk2
    · intro y
      unfold outI
      split
      · exact Gs.ris_insr stoL b (up a)
      · exact up y
    · intro y z hz
      unfold outI at hz
      split at hz
      · rename_i e
        subst e
        rcases (Gs.mem_insr b z _).1 hz with rfl | h
        · exact ⟨ha, hb⟩
        · exact sub y z h
      · exact sub y z hz
    · refine ⟨?_, ho2, fun i => ?_⟩
      rotate_left
      · obtain ⟨D, ⟨es1, clock1, hb1, _⟩, _⟩ := hM1
        simp [World.cell?, hb1]
      refine ⟨ho2.os.trans (ho1.os.trans hb0.os), ho2.tape.trans (ho1.tape.trans hb0.tape), ho2.output.trans (ho1.output.trans hb0.output), hsz2, fun k hk hn => hstep k hk ?_ (fun e => hn (by rw [e]; exact h3))⟩
      intro hm
      exact hn (h5 a ha k (by unfold bl at hm; simpa using hm))

theorem insr_in {b : Lb} {l : List Lb} (up : UpL l) (h : b ∈ l) : Gs.insr ltL b l = l := by
  apply Gs.ris_ext stoL (Gs.ris_insr stoL b up) up
  intro x
  rw [Gs.mem_insr]
  constructor
  · rintro (rfl | h1)
    · exact h
    · exact h1
  · exact .inr
theorem outI_in {out : Lb → List Lb} {a b : Lb} (up : UpL (out a)) (h : b ∈ out a) : outI out a b = out := by
  funext x
  unfold outI
  split
  · rename_i e; rw [e]; exact insr_in up h
  · rfl

set_option maxRecDepth 100000 in
set_option maxHeartbeats 4000000 in
theorem edge_any {w : World} {F : Nat → Prop} {g : Nat} {ns : List Lb} {out : Lb → List Lb} (h : GR w F g ns out) (a b : Lb) (ha : Lu a) (hb : Lu b) (hz : ns.length + 2 ≤ 1000000) :
    Calls Try.prog 24 #[.pointer (some ⟨g, 0, none⟩), a.val, b.val] w fun e w' => e = .returned (.tuple #[]) ∧ GR w' (nw F w w') g (addN (addN ns a) b) (outI out a b) ∧ OnlyP F w w' := by
  obtain ⟨ns2, hns2⟩ : ∃ ns2, addN (addN ns a) b = ns2 := ⟨_, rfl⟩
  have HNS : Hid (addN (addN ns a) b = ns2) := hns2
  rw [hns2]
  clear hns2
  obtain ⟨w0, hw0⟩ : ∃ w0, (w.alloc (.cells #[.string (bs a.pkg), .string (bs a.name)] 35)).alloc (.cells #[.string (bs b.pkg), .string (bs b.name)] 35) = w0 := ⟨_, rfl⟩
  have hb0 : Below w.heap.size w w0 := by rw [← hw0]; exact bstep (balloc _ _) (balloc _ _)
  have hsz0 : w0.heap.size = w.heap.size + 2 := by rw [← hw0]; simp
  have hRA : RB w0 w.heap.size a := by rw [← hw0]; exact (RB.new w a).later (balloc _ _)
  have hRB : RB w0 (w.heap.size + 1) b := by
    rw [← hw0]
    have := RB.new (w.alloc (.cells #[.string (bs a.pkg), .string (bs a.name)] 35)) b
    simpa using this
  have hG0 := h.later hb0
  have hFl := h.lt
  have HN1 : Hid (Calls Try.prog 26 #[.pointer (some ⟨g, 0, none⟩), a.val] w0 fun e w' => e = .returned (.tuple #[]) ∧ GR w' (nw F w0 w') g (addN ns a) out ∧ OnlyP F w0 w') := node_any hG0 a ha (by omega)
  have HW : Hid (RB w0 w.heap.size a ∧ RB w0 (w.heap.size + 1) b ∧ Below w.heap.size w w0 ∧ w0.heap.size = w.heap.size + 2 ∧ (∀ k, F k → k < w.heap.size) ∧ Lu a ∧ Lu b ∧ ns.length + 2 ≤ 1000000) := ⟨hRA, hRB, hb0, hsz0, hFl, ha, hb, hz⟩
  obtain ⟨a0, a1, _, _⟩ := hRA.cells
  obtain ⟨b0, b1, _, _⟩ := hRB.cells
  clear h hb0 hsz0 hRA hRB hG0 hFl ha hb hz
  obtain ⟨p, n⟩ := a
  obtain ⟨q, m⟩ := b
  have HW0 : Hid ((w.alloc (.cells #[.string (bs p), .string (bs n)] 35)).alloc (.cells #[.string (bs q), .string (bs m)] 35) = w0) := hw0
  clear hw0
  simp only [Lb.val] at *
  go_enter Try.func24, Try.ntmps24
  go_wp2_with fail
  rw [HW0.out]
  refine HN1.out.mono ?_
  rintro e w1 ⟨rfl, hg1, ho1⟩
  obtain ⟨r1, r2, hb0, hsz0, hFl, hla, hlb, hz⟩ := HW.out
  have n1 : ¬ F w.heap.size := fun h => by have := hFl _ h; omega
  have n2 : ¬ F (w.heap.size + 1) := fun h => by have := hFl _ h; omega
  have r3 := r1.onlyP ho1 n1
  have r4 := r2.onlyP ho1 n2
  have z1 := addN_le ns ⟨p, n⟩
  have HN2 : Hid (Calls Try.prog 26 #[.pointer (some ⟨g, 0, none⟩), .agg #[.string (bs q), .string (bs m)]] w1 fun e w' => e = .returned (.tuple #[]) ∧ GR w' (nw (nw F w0 w1) w1 w') g (addN (addN ns ⟨p, n⟩) ⟨q, m⟩) out ∧ OnlyP (nw F w0 w1) w1 w') := node_any hg1 ⟨q, m⟩ hlb (by omega)
  have n3 : ¬ nw F w0 w1 w.heap.size := fun h => h.elim n1 (fun h => by omega)
  have n4 : ¬ nw F w0 w1 (w.heap.size + 1) := fun h => h.elim n2 (fun h => by omega)
  obtain ⟨c0, c1, _, _⟩ := r4.cells
  simp only at c0 c1
  have HX1 : Hid (RB w1 w.heap.size ⟨p, n⟩ ∧ RB w1 (w.heap.size + 1) ⟨q, m⟩ ∧ OnlyP F w0 w1 ∧ (¬ nw F w0 w1 w.heap.size) ∧ (¬ nw F w0 w1 (w.heap.size + 1))) := ⟨r3, r4, ho1, n3, n4⟩
  clear r1 r2 r3 r4 hb0 hsz0 hFl hla hlb hz n1 n2 n3 n4 z1 hg1 ho1 a0 a1 b0 b1
  go_wp2_with fail
  refine HN2.out.mono ?_
  rintro e w2 ⟨rfl, hg2, ho2⟩
  have r5 := HX1.out.1.onlyP ho2 HX1.out.2.2.2.1
  have r6 := HX1.out.2.1.onlyP ho2 HX1.out.2.2.2.2
  obtain ⟨a0, a1, _, _⟩ := r5.cells
  obtain ⟨b0, b1, _, _⟩ := r6.cells
  simp only at a0 a1 b0 b1
  have hma : (⟨p, n⟩ : Lb) ∈ addN (addN ns ⟨p, n⟩) ⟨q, m⟩ := by rw [mem_addN, mem_addN]; exact .inl (.inr rfl)
  have hmb : (⟨q, m⟩ : Lb) ∈ addN (addN ns ⟨p, n⟩) ⟨q, m⟩ := by rw [mem_addN]; exact .inr rfl
  have hon : OnlyP F w w2 := by
    refine (OnlyP.of_below HW.out.2.2.1 F).trans (HX1.out.2.2.1.trans ho2 (F := F) (fun i hi hF => ?_)) (fun i _ hF => hF)
    rcases hF with h | h
    · exact h
    · omega
  have hsub : ∀ k, nw (nw F w0 w1) w1 w2 k → nw F w w2 k := by
    rintro k ((h | h) | h)
    · exact .inl h
    · exact .inr ⟨by have := HW.out.2.2.2.1; omega, Nat.lt_of_lt_of_le h.2 ho2.size⟩
    · exact .inr ⟨by have := HW.out.2.2.1.size; have := HX1.out.2.2.1.size; omega, h.2⟩
  have hn5 : ¬ nw (nw F w0 w1) w1 w2 w.heap.size := fun h => h.elim HX1.out.2.2.2.1 (fun h => by have := HW.out.2.2.2.1; have := HX1.out.2.2.1.size; omega)
  have hn6 : ¬ nw (nw F w0 w1) w1 w2 (w.heap.size + 1) := fun h => h.elim HX1.out.2.2.2.2 (fun h => by have := HW.out.2.2.2.1; have := HX1.out.2.2.1.size; omega)
  obtain ⟨F2, hF2⟩ : ∃ F2, nw (nw F w0 w1) w1 w2 = F2 := ⟨_, rfl⟩
  have hg2' := hg2
  rw [hF2] at hg2' hsub hn5 hn6
  have HF2 : Hid ((∀ k, F2 k → nw F w w2 k) ∧ ¬ F2 w.heap.size ∧ ¬ F2 (w.heap.size + 1)) := ⟨hsub, hn5, hn6⟩
  have HLB : Hid (Lu ⟨q, m⟩ ∧ ∀ k, F k → k < w.heap.size) := ⟨HW.out.2.2.2.2.2.2.1, HW.out.2.2.2.2.1⟩
  clear hsub hn5 hn6 hF2 ho2 hg2 HX1 HN2 HN1 c0 c1 HW HW0
  rw [HNS.out] at hma hmb hg2'
  obtain ⟨mm, v, hcell, hml, hFm, hov, hvF, hlook, hst⟩ := hg2'.edge hma hmb
  have hlook' : ∀ j, (Instr.lookup 61 (.map (some mm)) (.agg #[.string (bs p), .string (bs n)]) false).run Try.prog (w2.drewN j) = .ok v (w2.drewN j) := fun j => hlook (w2.drewN j) rfl
  have hgl := hg2'.glt
  have hLS := hov.rs
  have holen := hg2'.olen ⟨p, n⟩
  have hz2 := hg2'.sz
  have hup := hg2'.up ⟨p, n⟩
  have hlu : ∀ x ∈ out ⟨p, n⟩, Lu x := fun x hx => hg2'.lu x (hg2'.sub _ x hx).2
  have HG : Hid (GR w2 F2 g ns2 out ∧ OnlyP F w w2) := ⟨hg2', hon⟩
  have HR : Hid (RB w2 w.heap.size ⟨p, n⟩ ∧ RB w2 (w.heap.size + 1) ⟨q, m⟩) := ⟨r5, r6⟩
  have HV : Hid (OwnL 0 w2 v (out ⟨p, n⟩) ∧ (∀ k, v.ownBlock = some k → F2 k) ∧ g < w2.heap.size ∧ w2.cell? ⟨g, 0, none⟩ = some (.map (some mm)) ∧ (out ⟨p, n⟩).length ≤ 1000000) := ⟨hov, hvF, hgl, hcell, by omega⟩
  have HSE : Hid (∀ j, Calls Try.prog 39 #[v, .agg #[.string (bs q), .string (bs m)], .func (.func 37) #[] #[]] (w2.drewN j) fun e w' => ∃ (a : Nat), e = .returned (.tuple #[.int .i64 a, .bool (decide (⟨q, m⟩ ∈ out ⟨p, n⟩))]) ∧ a ≤ (out ⟨p, n⟩).length ∧ (⟨q, m⟩ ∉ out ⟨p, n⟩ → Gs.insr ltL ⟨q, m⟩ (out ⟨p, n⟩) = (out ⟨p, n⟩).take a ++ ⟨q, m⟩ :: (out ⟨p, n⟩).drop a) ∧ Below (w2.drewN j).heap.size (w2.drewN j) w') := fun j =>
    search_f ⟨q, m⟩ (hLS.later (bd w2 j)) hup (by omega) hlu HLB.out.1
  have HST : Hid (∀ w0 w1 v', Below w2.heap.size w2 w0 → Only (bl v) w0 w1 → OwnL 0 w1 v' (Gs.insr ltL ⟨q, m⟩ (out ⟨p, n⟩)) → (v'.ownBlock = v.ownBlock ∨ v'.ownBlock = some w0.heap.size) →
      ∃ w3, (Instr.mapUpdate 61 (.map (some mm)) (.agg #[.string (bs p), .string (bs n)]) v').run Try.prog w1 = .ok () w3 ∧ GR w3 (nw F2 w2 w3) g ns2 (outI out ⟨p, n⟩ ⟨q, m⟩) ∧ OnlyP F2 w2 w3 ∧ Only [mm] w1 w3 ∧ ∀ i, w1.cell? ⟨mm, i, none⟩ = none) := hst
  clear hst hlook hon hg2' r5 r6 hov hvF hLS hup hlu hml hFm hma hmb hgl holen hz2
  by_cases hin : (⟨q, m⟩ : Lb) ∈ out ⟨p, n⟩
  · have e1 : decide ((⟨q, m⟩ : Lb) ∈ out ⟨p, n⟩) = true := by simp [hin]
    rw [e1] at HSE
    have HIN : Hid ((⟨q, m⟩ : Lb) ∈ out ⟨p, n⟩) := hin
    clear hin e1
    go_wp2_with fail
    go_quiet (fail)
    go_wp2_with fail
    refine (HSE.out _).mono ?_
    rintro e w4 ⟨at_, rfl, _, _, hb4⟩
    have HB4 : Hid (Below w2.heap.size w2 w4) := bstep (bd _ _) hb4
    clear hb4
    go_wp2_with fail
    go_end0
    refine ⟨rfl, ?_, HG.out.2.trans (OnlyP.of_below HB4.out F) (fun i _ h => h)⟩
    rw [outI_in (HG.out.1.up _) HIN.out]
    exact GR.nw_later ((HG.out.1.wider HF2.out.1) (fun k hk => hk.elim (fun h => Nat.lt_of_lt_of_le (HLB.out.2 k h) HG.out.2.size) (fun h => h.2))) HB4.out
  · have e1 : decide ((⟨q, m⟩ : Lb) ∈ out ⟨p, n⟩) = false := by simp [hin]
    rw [e1] at HSE
    have HIN : Hid ((⟨q, m⟩ : Lb) ∉ out ⟨p, n⟩) := hin
    clear hin e1
    go_wp2_with fail
    go_quiet (fail)
    go_wp2_with fail
    refine (HSE.out _).mono ?_
    rintro e w4 ⟨at_, rfl, hat, hins, hb4⟩
    have HB4 : Hid (Below w2.heap.size w2 w4) := bstep (bd _ _) hb4
    clear hb4
    have r7 := HR.out.1.later HB4.out
    have r8 := HR.out.2.later HB4.out
    obtain ⟨a0, a1, _, _⟩ := r7.cells
    obtain ⟨b0, b1, _, _⟩ := r8.cells
    simp only at a0 a1 b0 b1
    have hc4 := (HB4.out.cell (p := ⟨g, 0, none⟩) HV.out.2.2.1).trans HV.out.2.2.2.1
    have hins' := hins HIN.out
    have HIC : Hid (Calls Try.prog 40 #[v, .int .i64 (at_ : Int), .slice (some ⟨w4.heap.size, 0, none⟩) 1 1] (w4.alloc (.cells #[.string (bs q), .string (bs m)] 35)).drew fun e w' => ∃ v' w6, e = .returned v' ∧ w'.cell? ⟨g, 0, none⟩ = some (.map (some mm)) ∧ (w'.cell? ⟨w.heap.size, 0, none⟩ = some (.string (bs p)) ∧ w'.cell? ⟨w.heap.size, 1, none⟩ = some (.string (bs n))) ∧ (w'.cell? ⟨w.heap.size + 1, 0, none⟩ = some (.string (bs q)) ∧ w'.cell? ⟨w.heap.size + 1, 1, none⟩ = some (.string (bs m))) ∧ (w6.cell? ⟨g, 0, none⟩ = some (.map (some mm)) ∧ w6.cell? ⟨w.heap.size, 0, none⟩ = some (.string (bs p)) ∧ w6.cell? ⟨w.heap.size, 1, none⟩ = some (.string (bs n)) ∧ w6.cell? ⟨w.heap.size + 1, 0, none⟩ = some (.string (bs q)) ∧ w6.cell? ⟨w.heap.size + 1, 1, none⟩ = some (.string (bs m))) ∧ (Instr.mapUpdate 61 (.map (some mm)) (.agg #[.string (bs p), .string (bs n)]) v').run Try.prog w' = .ok () w6 ∧ GR w6 (nw F w w6) g ns2 (outI out ⟨p, n⟩ ⟨q, m⟩) ∧ OnlyP F w w6) := by
      have hW : Below w4.heap.size w4 (w4.alloc (.cells #[.string (bs q), .string (bs m)] 35)).drew := (balloc w4 _).drew
      have h0 := HV.out.1.later HB4.out
      refine (insert_f (h0.later hW) ⟨q, m⟩ w4.heap.size ⟨heap_alloc_new w4 _⟩ ?_ at_ hat (by have := HV.out.2.2.2.2; omega) (Nat.zero_le _)).mono ?_
      · intro e
        have := (h0.lt e).2
        omega
      · rintro e w5 ⟨v', rfl, ho5, hon5, hbl5⟩
        rw [← hins'] at ho5
        obtain ⟨w6, hrun, hg6, hon6, hmm6, hmn⟩ := HST.out _ w5 v' (bstep HB4.out hW) hon5 ho5 hbl5
        have hnv : ∀ k, k < w4.heap.size → (∀ j, v.ownBlock = some j → k ≠ j) → w5.heap[k]? = w4.heap[k]? := fun k hk hn => (hon5.block k (Nat.lt_of_lt_of_le hk hW.size) (fun h => by
          have hj : v.ownBlock = some k := by unfold bl at h; simpa using h
          exact hn k hj rfl)).trans (hW.block k hk)
        have hrow : ∀ j, v.ownBlock = some j → ∃ cs fr, w4.heap[j]? = some (.cells cs 35 fr) := by
          intro j hj
          rcases OL.of h0 with ⟨e, _⟩ | ⟨q', cap, rest, e, ho⟩
          · rw [e] at hj; cases hj
          · rw [e] at hj
            simp only [Value.ownBlock, Option.some.injEq] at hj
            subst hj
            exact ⟨_, _, ho.blk⟩
        have hvF := HV.out.2.1
        have hvw : ∀ j, v.ownBlock = some j → j ≠ w.heap.size ∧ j ≠ w.heap.size + 1 ∧ j ≠ g := by
          intro j hj
          refine ⟨?_, ?_, ?_⟩
          · rintro rfl; exact HF2.out.2.1 (hvF _ hj)
          · rintro rfl; exact HF2.out.2.2 (hvF _ hj)
          · rintro rfl
            obtain ⟨cs, fr, e⟩ := hrow j hj
            obtain ⟨b', A', h1', _⟩ := (HG.out.1.later HB4.out).it
            rw [e] at h1'; cases h1'
        have k0 := World.cell?_of_block (a := ⟨g, 0, none⟩) (hnv g (Nat.lt_of_lt_of_le HV.out.2.2.1 HB4.out.size) (fun j hj e => (hvw j hj).2.2 e.symm))
        have k1 := World.cell?_of_block (a := ⟨w.heap.size, 0, none⟩) (hnv w.heap.size r7.lt (fun j hj e => (hvw j hj).1 e.symm))
        have k2 := World.cell?_of_block (a := ⟨w.heap.size, 1, none⟩) (hnv w.heap.size r7.lt (fun j hj e => (hvw j hj).1 e.symm))
        have k3 := World.cell?_of_block (a := ⟨w.heap.size + 1, 0, none⟩) (hnv (w.heap.size + 1) r8.lt (fun j hj e => (hvw j hj).2.1 e.symm))
        have k4 := World.cell?_of_block (a := ⟨w.heap.size + 1, 1, none⟩) (hnv (w.heap.size + 1) r8.lt (fun j hj e => (hvw j hj).2.1 e.symm))
        have hk6 : ∀ x i u, w5.cell? ⟨x, i, none⟩ = some u → w6.cell? ⟨x, i, none⟩ = some u := by
          intro x i u hu
          have hx : x ≠ mm := by rintro rfl; rw [hmn i] at hu; cases hu
          have hxl : x < w5.heap.size := by
            by_cases hx : x < w5.heap.size
            · exact hx
            · exfalso
              have : w5.heap[x]? = none := Array.getElem?_eq_none (by omega)
              simp [World.cell?, this] at hu
          exact (World.cell?_of_block (a := ⟨x, i, none⟩) (hmm6.block x hxl (by simpa using hx))).trans hu
        have k5 := k0.trans hc4
        have k6 := k1.trans a0
        have k7 := k2.trans a1
        have k8 := k3.trans b0
        have k9 := k4.trans b1
        refine ⟨v', w6, rfl, k5, ⟨k6, k7⟩, ⟨k8, k9⟩, ⟨hk6 _ _ _ k5, hk6 _ _ _ k6, hk6 _ _ _ k7, hk6 _ _ _ k8, hk6 _ _ _ k9⟩, hrun, ?_, HG.out.2.trans hon6 (fun i hi h => (HF2.out.1 i h).elim id (fun h => by omega))⟩
        refine GR.nw_nw (w2 := w2) (hg6.wider (fun k hk => hk.elim (fun h => .inl (HF2.out.1 k h)) .inr) ?_) HG.out.2.size hon6.size
        rintro k (h | h)
        · rcases h with h | h
          · exact Nat.lt_of_lt_of_le (HLB.out.2 k h) (Nat.le_trans HG.out.2.size hon6.size)
          · exact Nat.lt_of_lt_of_le h.2 hon6.size
        · exact h.2
    have HL4 : Hid (w.heap.size < w4.heap.size ∧ w.heap.size + 1 < w4.heap.size ∧ g < w4.heap.size) := ⟨r7.lt, r8.lt, Nat.lt_of_lt_of_le HV.out.2.2.1 HB4.out.size⟩
    clear r7 r8 hins hins' hat
    obtain ⟨av, cv, nv, hvv⟩ : ∃ av cv nv, v = .slice av nv cv := by obtain ⟨x, y, e⟩ := HV.out.1.form; exact ⟨x, y, _, e⟩
    subst hvv
    go_wp2_with fail
    go_region_held3 (fun w' => w'.cell? ⟨g, 0, none⟩ = some (.map (some mm)) ∧ w'.cell? ⟨w.heap.size, 0, none⟩ = some (.string (bs p)) ∧ w'.cell? ⟨w.heap.size, 1, none⟩ = some (.string (bs n)) ∧ w'.cell? ⟨w.heap.size + 1, 0, none⟩ = some (.string (bs q)) ∧ w'.cell? ⟨w.heap.size + 1, 1, none⟩ = some (.string (bs m))) (first | (with_reducible exact ⟨hc4, a0, a1, b0, b1⟩) | (with_reducible exact ⟨k0, k1.1, k1.2, k3.1, k3.2⟩) | (with_reducible exact K6.out) | go_keep) (first | (go_at_call 40; (with_reducible refine HIC.out.mono ?_); rintro e w5 ⟨v', w6, rfl, k0, k1, k3, k6, hrun6, hg6, hon6⟩; have K6 : Hid (w6.cell? ⟨g, 0, none⟩ = some (.map (some mm)) ∧ w6.cell? ⟨w.heap.size, 0, none⟩ = some (.string (bs p)) ∧ w6.cell? ⟨w.heap.size, 1, none⟩ = some (.string (bs n)) ∧ w6.cell? ⟨w.heap.size + 1, 0, none⟩ = some (.string (bs q)) ∧ w6.cell? ⟨w.heap.size + 1, 1, none⟩ = some (.string (bs m))) := k6; clear k6; have HZ : Hid (GR w6 (nw F w w6) g ns2 (outI out ⟨p, n⟩ ⟨q, m⟩) ∧ OnlyP F w w6) := ⟨hg6, hon6⟩; clear hg6 hon6))
    all_goals (go_wp2_with fail; go_end0; exact ⟨rfl, HZ.out⟩)
end Go.Proofs.Ytclbnjfmipifnaa
