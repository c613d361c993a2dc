/-
  The landed tree: a file put.
  The landed tree: directories up to the root.
  The document's tree: a file is looked for, a directory; Clear, Append, Halts.
-/
import Derived.Test.YtlkkmcibjhoneaaGreatDoorNa
import Derived.Test.YtlkkmcibjhoneaaGreatDoorJLx
namespace Go.Proofs.YtlkkmcibjhoneaaGreatDoor
open Go.RowKit Go.Maps

/-- what at answers, wherever the tree stands -/
theorem LX.asks {w : World} {c mf md : Nat} {vj vt : Value} {lf : Int} {T : TT} (h : LX w c mf md vj vt lf T) (p : List UInt8) (hp : Lk p) {a b : Bool} (ha : hasF T.fs p = a) (hb : hasD T.ds p = b) : ∀ W : World, Below w.heap.size w W →
    Calls Tryz.prog 58 #[.pointer (some ⟨c, 0, none⟩), .string (bs p)] W fun e w' => e = .returned (.agg #[.bool a, .bool b]) ∧ Below W.heap.size W w' := fun W hW => by
  have := at_any (h.later hW) p hp
  rw [ha, hb] at this
  exact this
/-- the cells of a file in a block -/
theorem cellsF {w : World} {g : Nat} {a b d e : Value} {t : TypeId} {fr : Nat × Nat} (h : w.heap[g]? = some (.cells #[a, b, d, e] t fr)) : w.cell? ⟨g, 0, none⟩ = some a ∧ w.cell? ⟨g, 1, none⟩ = some b ∧ w.cell? ⟨g, 2, none⟩ = some d ∧ w.cell? ⟨g, 3, none⟩ = some e := by
  simp [World.cell?, h]
set_option maxRecDepth 100000 in
set_option maxHeartbeats 8000000 in
theorem addFile_any {w : World} {c mf md : Nat} {vj vt : Value} {lf : Int} {T : TT} (h : LX w c mf md vj vt lf T) (f : Fl) (hfe : fileE f = 0) (hwb : wrB T f = true) (hz : T.fs.length + T.ds.length ≤ 100000000) :
    Calls Tryz.prog 40 #[.pointer (some ⟨c, 0, none⟩), f.val] w fun e w' => e = .returned (.tuple #[]) ∧ LX w' c mf md vj vt lf { T with fs := insF f T.fs } ∧ Only [mf, md] w w' := by
  have hok : TOk ({ T with fs := insF f T.fs } : TT) := by
    have := h.ok.wrG f
    unfold wrG at this
    rw [if_pos hfe, if_pos hwb] at this
    exact this
  simp only [wrB, Bool.and_eq_true, Bool.not_eq_true'] at hwb
  obtain ⟨hnd, hdd⟩ := hwb
  have hlk : Lk f.path := okP_lk (fileE_path hfe).2
  have hlen := len_file (f := f) h.ok.fu
  have hle := cin_le T.fs T.ds (dir f.path)
  obtain ⟨n, hn⟩ : ∃ n, cin T.fs T.ds (dir f.path) = n := ⟨_, rfl⟩
  have HP : Hid (f.path.length ≤ 9223372036854775807) := by unfold Lk at hlk; show f.path.length ≤ 9223372036854775807; omega
  have gd : dF T.fs T.ds (dir f.path) = some (n : Int) := by unfold dF; rw [if_pos hdd, hn]
  have H : Hid (LX w c mf md vj vt lf T) := h
  obtain ⟨a, ha⟩ : ∃ a, hasF T.fs f.path = a := ⟨_, rfl⟩
  have HA : Hid (∀ W : World, Below w.heap.size w W → Calls Tryz.prog 58 #[.pointer (some ⟨c, 0, none⟩), .string (bs f.path)] W fun e w' => e = .returned (.agg #[.bool a, .bool false]) ∧ Below W.heap.size W w') := h.asks f.path hlk ha hnd
  -- a file laid in the map, the directories as they are told
  have HF : Hid (∀ W : World, ∀ D, Only [mf, md] w W → MP cF W mf (fF T.fs) T.fs.length → MP cI W md D (T.ds.length + 1) → (∀ k, D k = dF (insF f T.fs) T.ds k) → ∃ w3, (Instr.mapUpdate 70 (.map (some mf)) (.string (bs f.path)) f.val).run Tryz.prog W = .ok () w3 ∧ LX w3 c mf md vj vt lf { T with fs := insF f T.fs } ∧ Only [mf, md] w w3) := by
    intro W D hoW hmf hmd hD
    obtain ⟨w3, r3, m3, o3, s3⟩ := hmf.store hlk (by omega) f
    have ho : Only [mf, md] w w3 := hoW.trans (o3.wide (by simp))
    refine ⟨w3, r3, H.out.maps ho ?_ ?_ rfl hok, ho⟩
    · rw [fF_has] at m3
      rw [hlen]
      exact m3.congr (fun k _ => (fF_ins H.out.ok.fu k).symm)
    · exact (hmd.block (o3.block md hmd.lt (by simpa using (Ne.symm H.out.nm)))).congr (fun k _ => hD k)
  obtain ⟨c0, c1, -⟩ := h.cells
  have HC : Hid (c < w.heap.size ∧ w.cell? ⟨c, 0, none⟩ = some (.map (some mf)) ∧ w.cell? ⟨c, 1, none⟩ = some (.map (some md)) ∧ c ≠ mf ∧ c ≠ md ∧ dF T.fs T.ds (dir f.path) = some (n : Int) ∧ cin T.fs T.ds (dir f.path) = n ∧ Lk (dir f.path) ∧ n ≤ 100000000 ∧ hasF T.fs f.path = a ∧ hasD T.ds (dir f.path) = true ∧ T.ds.length ≤ 100000000) := ⟨h.clt, c0, c1, h.cm.1, h.cm.2, gd, hn, lk_dir hlk, by omega, ha, hdd, by omega⟩
  clear h hok hnd hdd hlk hlen hle hn gd ha c0 c1 hz hfe
  obtain ⟨fp, ft, fb, fz⟩ := f
  obtain ⟨w0, hw0⟩ : ∃ w0, w.alloc (.cells #[.string (bs fp), .string (bs ft), .int .i64 fb, .int .i64 fz] 31) = w0 := ⟨_, rfl⟩
  have hb0 : Below w.heap.size w w0 := by rw [← hw0]; exact balloc _ _
  have hg0 : w0.heap[w.heap.size]? = some (.cells #[.string (bs fp), .string (bs ft), .int .i64 fb, .int .i64 fz] 31 (0, 0)) := by rw [← hw0]; exact heap_alloc_new _ _
  have hs0 : w0.heap.size = w.heap.size + 1 := by rw [← hw0]; simp
  obtain ⟨y0, y1, y2, y3⟩ := cellsF hg0
  obtain ⟨z0, z1, -⟩ := (H.out.ev.later hb0).cells
  have H0 : Hid (Below w.heap.size w w0 ∧ w0.heap[w.heap.size]? = some (.cells #[.string (bs fp), .string (bs ft), .int .i64 fb, .int .i64 fz] 31 (0, 0)) ∧ w0.heap.size = w.heap.size + 1) := ⟨hb0, hg0, hs0⟩
  have hq : ∀ W, (binOp .eql 95 (.agg #[.bool a, .bool false]) (.agg #[.bool false, .bool false])).run Tryz.prog W = .ok (.bool (!a)) W := fun W => by
    have := eql_there a false false false W
    rw [this]; cases a <;> rfl
  clear hb0 hg0 hs0
  obtain ⟨g, hg⟩ : ∃ g, w.heap.size = g := ⟨_, rfl⟩
  rw [hg] at H0 y0 y1 y2 y3 HA HC
  simp only [Fl.val]
  go_enter Tryz.func40, Tryz.ntmps40
  go_wp2_with fail
  clear hw0
  go_region_with (go_at_call 58; refine (HA.out _ (by first | exact H0.out.1.drew | exact H0.out.1)).mono ?_; rintro e w1 ⟨rfl, hb1⟩; have hb1' : Below w0.heap.size w0 w1 := bstep (Below.refl _ _).drew hb1; have X1 : Hid (Below g w w1 ∧ w1.heap[g]? = some (.cells #[.string (bs fp), .string (bs ft), .int .i64 fb, .int .i64 fz] 31 (0, 0))) := ⟨H0.out.1.trans (below_mono hb1' (by rw [H0.out.2.2]; omega)), (hb1'.block g (by rw [H0.out.2.2]; omega)).trans H0.out.2.1⟩; obtain ⟨x0, x1, -⟩ := (H.out.ev.below X1.out.1 (hg ▸ H.out.ev.big)).cells; clear hb1 hb1')
  all_goals
    have L1 : Hid (LX w1 c mf md vj vt lf T) := H.out.later (hg ▸ X1.out.1)
    have hbw : Below w.heap.size w w1 := hg ▸ X1.out.1
    have ow : Only [mf, md] w w1.drew := (Only.of_below hbw _).trans (Only.of_below ((Below.refl w1.heap.size w1).drew) _)
    obtain ⟨k0, k1, -⟩ := L1.out.cells
    obtain ⟨v0, v1, v2, v3⟩ := cellsF X1.out.2
    have f1 := L1.out.fl.later ((Below.refl w1.heap.size w1).drew)
    have d1 := L1.out.dr.later ((Below.refl w1.heap.size w1).drew)
    clear hbw
    cases a with
    | true =>
      obtain ⟨w3, r3, x3⟩ := HF.out w1.drew _ ow f1 d1 (fun k => dF_wr' H.out.ok HC.out.2.2.2.2.2.2.2.2.2.1 k)
      have R3 : Hid (LX w3 c mf md vj vt lf { T with fs := insF ⟨fp, ft, fb, fz⟩ T.fs } ∧ Only [mf, md] w w3) := x3
      simp only [Fl.val] at r3
      clear x3 ow f1 d1
      go_wp2_with fail
      refine wp_region_noPanic ?_
      go_region
      all_goals
        refine NoPanic.normal ?_
        go_wp2_with fail
        go_end0
        exact ⟨rfl, R3.out⟩
    | false =>
      have gd := HC.out.2.2.2.2.2.1
      have hkd := HC.out.2.2.2.2.2.2.2.1
      have l2 := d1.look hkd false
      simp only [gd, at_, Option.getD_some] at l2
      have hl2 : (Instr.lookup 71 (.map (some md)) (.string (bs (dir fp))) false).run Tryz.prog w1.drew = .ok (.int .i64 n) w1.drew := l2
      obtain ⟨w2, r2, m2, o2, s2⟩ := d1.store hkd (by have := HC.out.2.2.2.2.2.2.2.2.2.2.2; omega) ((n : Int) + 1)
      simp only [gd, Option.isSome_some, if_true] at m2
      have hr2 : (Instr.mapUpdate 71 (.map (some md)) (.string (bs (dir fp))) (.int .i64 (IntKind.i64.wrap ((n : Int) + 1)))).run Tryz.prog w1.drew = .ok () w2 := by
        rw [wrapIn (by omega) (by have := HC.out.2.2.2.2.2.2.2.2.1; omega)]; exact r2
      have hs2 : w2.heap.size = w1.heap.size := s2
      have hX : ∀ k, k < w1.heap.size → k ≠ md → w2.heap[k]? = w1.heap[k]? := fun k hk hn => o2.block k hk (by simpa using hn)
      have m0 : w2.cell? ⟨c, 0, none⟩ = some (.map (some mf)) := (cell_stay (hX c L1.out.clt L1.out.cm.2) 0).trans k0
      have hgm : g ≠ md := by
        rintro rfl
        obtain ⟨es, ck, e⟩ := L1.out.dr.isMap
        rw [X1.out.2] at e; cases e
      obtain ⟨u0, u1, u2, u3⟩ := cellsF ((hX g (Array.getElem?_eq_some_iff.1 X1.out.2).1 hgm).trans X1.out.2)
      obtain ⟨w3, r3, x3⟩ := HF.out w2.drew (fun y => if y = dir fp then some ((n : Int) + 1) else dF T.fs T.ds y) ((ow.trans (o2.wide (by simp))).trans (Only.of_below ((Below.refl w2.heap.size w2).drew) _)) ((f1.block (o2.block mf f1.lt (by simpa using H.out.nm))).later ((Below.refl w2.heap.size w2).drew)) (m2.later ((Below.refl w2.heap.size w2).drew)) (fun k => by
        have := dF_wr H.out.ok (f := ⟨fp, ft, fb, fz⟩) HC.out.2.2.2.2.2.2.2.2.2.1 HC.out.2.2.2.2.2.2.2.2.2.2.1 k
        rw [HC.out.2.2.2.2.2.2.1] at this
        exact this)
      have R3 : Hid (LX w3 c mf md vj vt lf { T with fs := insF ⟨fp, ft, fb, fz⟩ T.fs } ∧ Only [mf, md] w w3) := x3
      simp only [Fl.val] at r3
      clear x3 ow f1 d1 gd hkd l2 r2 m2 o2 s2 hs2 hX hgm
      go_wp2_with fail
      refine wp_region_noPanic ?_
      go_region_with (go_at_call 25; refine (dir_any fp _ HP.out).mono ?_; rintro e wq ⟨rfl, rfl⟩)
      all_goals
        refine NoPanic.normal ?_
        go_wp2_with fail
        refine wp_region_noPanic ?_
        go_region
        all_goals
          refine NoPanic.normal ?_
          go_wp2_with fail
          go_end0
          exact ⟨rfl, R3.out⟩
end Go.Proofs.YtlkkmcibjhoneaaGreatDoor

namespace Go.Proofs.YtlkkmcibjhoneaaGreatDoor
open Go.RowKit Go.Maps

theorem TOk.upl {T : TT} (h : TOk T) {p : List UInt8} (hp : hasD T.ds p = true) : ∀ x ∈ upl p, x ∈ T.ds := by
  intro x hx
  rcases hasD_iff.1 hp with rfl | hm
  · rw [upl_nil] at hx; cases hx
  · have hok := (h.de p hm).2
    obtain ⟨h1, h2 | h2⟩ := (mem_upl p.length (Nat.le_refl _) hok).1 hx
    · rw [h2]; exact hm
    · have := h.above p.length (Nat.le_refl _) hok (h.dd p hm) h2
      rcases hasD_iff.1 this with e | e
      · exact absurd e h1
      · exact e
theorem upl_le : ∀ (n : Nat) {p x : List UInt8}, p.length ≤ n → x ∈ upl p → x.length ≤ p.length
  | n, p, x, hn, hx => by
    by_cases e : p = []
    · subst e; rw [upl_nil] at hx; cases hx
    · rw [upl_cons e, List.mem_cons] at hx
      have := dir_lt e
      rcases hx with rfl | hx
      · exact Nat.le_refl _
      · match n with
        | 0 => exact absurd (List.eq_nil_of_length_eq_zero (Nat.le_zero.1 hn)) e
        | n + 1 =>
          have := upl_le n (by omega) hx
          omega
/-- the directories of p are there besides -/
structure AdT (T : TT) (p : List UInt8) (T' : TT) : Prop where
  mem : ∀ x, x ∈ T'.ds ↔ x ∈ T.ds ∨ x ∈ upl p
  rest : T' = { T with ds := T'.ds }
  ok : TOk T'
  len : T'.ds.length ≤ T.ds.length + p.length
set_option maxRecDepth 100000 in
set_option maxHeartbeats 8000000 in
theorem addDirs_any (N : Nat) : ∀ {w : World} {c mf md : Nat} {vj vt : Value} {lf : Int} {T : TT} (_ : LX w c mf md vj vt lf T) (p : List UInt8) (_ : p.length ≤ N) (_ : p = [] ∨ okP p = true) (_ : ∀ x ∈ upl p, hasF T.fs x = false) (_ : T.fs.length + T.ds.length + p.length ≤ 100000000),
    Calls Tryz.prog 39 #[.pointer (some ⟨c, 0, none⟩), .string (bs p)] w fun e w' => e = .returned (.tuple #[]) ∧ ∃ T', LX w' c mf md vj vt lf T' ∧ AdT T p T' ∧ Only [mf, md] w w' := by
  induction N with
  | zero =>
    intro w c mf md vj vt lf T h p hp hok hno hz
    obtain rfl : p = [] := List.eq_nil_of_length_eq_zero (by omega)
    obtain ⟨a, ha⟩ : ∃ a, hasF T.fs [] = a := ⟨_, rfl⟩
    have HA : Hid (∀ W : World, Below w.heap.size w W → Calls Tryz.prog 58 #[.pointer (some ⟨c, 0, none⟩), .string (bs [])] W fun e w' => e = .returned (.agg #[.bool a, .bool true]) ∧ Below W.heap.size W w') := h.asks [] (by unfold Lk; simp) ha (by simp [hasD])
    have H : Hid (LX w c mf md vj vt lf T) := h
    obtain ⟨z0, z1, -⟩ := h.ev.cells
    have hq : ∀ W, (binOp .eql 95 (.agg #[.bool a, .bool true]) (.agg #[.bool false, .bool false])).run Tryz.prog W = .ok (.bool false) W := fun W => by
      have := eql_there a true false false W
      rw [this]; cases a <;> rfl
    clear h ha hno hz hok hp
    go_enter Tryz.func39, Tryz.ntmps39
    go_wp2_with fail
    go_region_with (go_at_call 58; refine (HA.out _ (Below.refl _ _).drew).mono ?_; rintro e w1 ⟨rfl, hb1⟩; have X1 : Hid (Below w.heap.size w w1) := bstep (Below.refl _ _).drew hb1; obtain ⟨x0, x1, -⟩ := (H.out.ev.later X1.out).cells; clear hb1)
    all_goals
      go_wp2_with fail
      go_end0
      exact ⟨rfl, T, H.out.later X1.out, ⟨fun x => by rw [upl_nil]; simp, rfl, H.out.ok, by simp⟩, Only.of_below X1.out _⟩
  | succ N ih =>
    intro w c mf md vj vt lf T h p hp hok hno hz
    have hlk : Lk p := by
      rcases hok with rfl | h
      · unfold Lk; simp
      · exact okP_lk h
    obtain ⟨a, ha⟩ : ∃ a, hasF T.fs p = a := ⟨_, rfl⟩
    have H : Hid (LX w c mf md vj vt lf T) := h
    obtain ⟨z0, z1, -⟩ := h.ev.cells
    cases hd : hasD T.ds p with
    | true =>
      have HA : Hid (∀ W : World, Below w.heap.size w W → Calls Tryz.prog 58 #[.pointer (some ⟨c, 0, none⟩), .string (bs p)] W fun e w' => e = .returned (.agg #[.bool a, .bool true]) ∧ Below W.heap.size W w') := h.asks p hlk ha hd
      have hq : ∀ W, (binOp .eql 95 (.agg #[.bool a, .bool true]) (.agg #[.bool false, .bool false])).run Tryz.prog W = .ok (.bool false) W := fun W => by
        have := eql_there a true false false W
        rw [this]; cases a <;> rfl
      have HU : Hid (∀ x ∈ upl p, x ∈ T.ds) := h.ok.upl hd
      clear h ha hno hz hok hp hd ih hlk
      go_enter Tryz.func39, Tryz.ntmps39
      go_wp2_with fail
      go_region_with (go_at_call 58; refine (HA.out _ (Below.refl _ _).drew).mono ?_; rintro e w1 ⟨rfl, hb1⟩; have X1 : Hid (Below w.heap.size w w1) := bstep (Below.refl _ _).drew hb1; obtain ⟨x0, x1, -⟩ := (H.out.ev.later X1.out).cells; clear hb1)
      all_goals
        go_wp2_with fail
        go_end0
        exact ⟨rfl, T, H.out.later X1.out, ⟨fun x => ⟨.inl, fun hx => hx.elim id (HU.out x)⟩, rfl, H.out.ok, by omega⟩, Only.of_below X1.out _⟩
    | false =>
      have hne : p ≠ [] := by rintro rfl; simp [hasD] at hd
      have hokp : okP p = true := hok.resolve_left hne
      have hup := upl_cons hne
      have hlt := dir_lt hne
      have hnof : hasF T.fs p = false := hno p (by rw [hup]; simp)
      have HA : Hid (∀ W : World, Below w.heap.size w W → Calls Tryz.prog 58 #[.pointer (some ⟨c, 0, none⟩), .string (bs p)] W fun e w' => e = .returned (.agg #[.bool false, .bool false]) ∧ Below W.heap.size W w') := h.asks p hlk hnof hd
      have hq : ∀ W, (binOp .eql 95 (.agg #[.bool false, .bool false]) (.agg #[.bool false, .bool false])).run Tryz.prog W = .ok (.bool true) W := fun W => eql_there false false false false W
      have HI : Hid (∀ W, LX W c mf md vj vt lf T → Calls Tryz.prog 39 #[.pointer (some ⟨c, 0, none⟩), .string (bs (dir p))] W fun e w' => e = .returned (.tuple #[]) ∧ ∃ T', LX w' c mf md vj vt lf T' ∧ AdT T (dir p) T' ∧ Only [mf, md] W w') :=
        fun W hW => ih hW (dir p) (by omega) (.inr (okP_dir hokp)) (fun x hx => hno x (by rw [hup]; exact List.mem_cons_of_mem _ hx)) (by omega)
      have HD : Hid (∀ W T1, LX W c mf md vj vt lf T1 → AdT T (dir p) T1 → Calls Tryz.prog 59 #[.pointer (some ⟨c, 0, none⟩), .string (bs p)] W fun e w' => e = .returned (.tuple #[]) ∧ ∃ T', LX w' c mf md vj vt lf T' ∧ AdT T p T' ∧ Only [mf, md] W w') := by
        intro W T1 hW h1
        have hf1 : T1.fs = T.fs := by rw [h1.rest]
        have hnd : hasD T1.ds p = false := by
          rw [Bool.eq_false_iff]
          intro e
          rcases hasD_iff.1 e with e | e
          · exact hne e
          · rcases (h1.mem p).1 e with e | e
            · simp [hasD, e] at hd
            · have := upl_le _ (Nat.le_refl _) e
              omega
        have hdd : hasD T1.ds (dir p) = true := by
          rw [hasD_iff]
          by_cases e : dir p = []
          · exact .inl e
          · exact .inr ((h1.mem _).2 (.inr (by rw [upl_cons e]; simp)))
        have hmk : mkB T1 p = true := by simp [mkB, hokp, hf1, hnof, hnd, hdd]
        have hlen1 := h1.len
        refine (addDir_any hW p hmk (by rw [hf1]; omega)).mono ?_
        rintro e w' ⟨rfl, hl, ho⟩
        refine ⟨rfl, _, hl, ⟨fun x => ?_, ?_, hl.ok, ?_⟩, ho⟩
        · show x ∈ ins p T1.ds ↔ _
          rw [mem_ins, h1.mem, hup, List.mem_cons]
          constructor
          · rintro (e | e | e)
            · exact .inr (.inl e)
            · exact .inl e
            · exact .inr (.inr e)
          · rintro (e | e | e)
            · exact .inr (.inl e)
            · exact .inl e
            · exact .inr (.inr e)
        · show ({ T1 with ds := ins p T1.ds } : TT) = { T with ds := ins p T1.ds }
          rw [h1.rest]
        · show (ins p T1.ds).length ≤ _
          have := ins_len p T1.ds
          omega
      have HP : Hid (p.length ≤ 9223372036854775807) := by unfold Lk at hlk; show p.length ≤ 9223372036854775807; omega
      clear h ha hno hz hok hp hd ih hlk hne hokp hup hlt hnof
      go_enter Tryz.func39, Tryz.ntmps39
      go_wp2_with fail
      go_region_with (go_at_call 58; refine (HA.out _ (Below.refl _ _).drew).mono ?_; rintro e w1 ⟨rfl, hb1⟩; have X1 : Hid (Below w.heap.size w w1) := bstep (Below.refl _ _).drew hb1; obtain ⟨x0, x1, -⟩ := (H.out.ev.later X1.out).cells; clear hb1)
      all_goals
        go_wp2_with (go_at_call 25; refine (dir_any p _ HP.out).mono ?_; rintro e wq ⟨rfl, rfl⟩)
        refine (HI.out _ (H.out.later X1.out)).mono ?_
        rintro e w2 ⟨rfl, T1, h1, h2, h3⟩
        have X2 : Hid (LX w2 c mf md vj vt lf T1 ∧ AdT T (dir p) T1 ∧ Only [mf, md] w w2) := ⟨h1, h2, (Only.of_below X1.out _).trans h3⟩
        clear h1 h2 h3
        go_wp2_with fail
        refine (HD.out _ _ X2.out.1 X2.out.2.1).mono ?_
        rintro e w3 ⟨rfl, T2, h1, h2, h3⟩
        have X3 : Hid (LX w3 c mf md vj vt lf T2 ∧ AdT T p T2 ∧ Only [mf, md] w w3) := ⟨h1, h2, X2.out.2.2.trans h3⟩
        clear h1 h2 h3
        go_wp2_with fail
        go_end0
        exact ⟨rfl, T2, X3.out⟩
end Go.Proofs.YtlkkmcibjhoneaaGreatDoor

namespace Go.Proofs.YtlkkmcibjhoneaaGreatDoor
open Go.RowKit

theorem step_not {T : TT} {b : List UInt8} {g : TT → TT × Int} (h : (T.cnt b).2 = false) : T.step b g = ((T.cnt b).1, 15) := by unfold TT.step; rw [h]; rfl
theorem step_do {T : TT} {b : List UInt8} {g : TT → TT × Int} (h : (T.cnt b).2 = true) : T.step b g = g (T.cnt b).1 := by unfold TT.step; rw [h]; rfl
section
variable {w w1 w2 : World} {F F' : Nat → Prop} {c : Nat} {T R : TT} {v : Value}
end
end Go.Proofs.YtlkkmcibjhoneaaGreatDoor
