/-
  leasts.
-/
import Derived.Test.YtclbnjfmipifnaaWk
namespace Go.Proofs.Ytclbnjfmipifnaa
open Go.RowKit Go.Maps

/-- the search as it is made -/
structure SM (w : World) (vo : Value) (n sb gm ge gl : Nat) (W : World) : Prop where
  b : Below w.heap.size w W
  blk : W.heap[sb]? = some (.cells #[vo, .slice (some ⟨gm, 0, none⟩) n n, .slice (some ⟨ge, 0, none⟩) n n, .slice (some ⟨gl, 0, none⟩) n n, .slice none 0 0, .int .i64 0] 78 (0, 0))
  rm : W.heap[gm]? = some (arr n (fun _ => 0))
  re : W.heap[ge]? = some (arr n (fun _ => 0))
  rl : W.heap[gl]? = some (arr n (fun _ => 0))
  ne : gm ≠ ge ∧ gm ≠ gl ∧ ge ≠ gl ∧ sb ≠ gm ∧ sb ≠ ge ∧ sb ≠ gl
  ge' : w.heap.size ≤ sb ∧ w.heap.size ≤ gm ∧ w.heap.size ≤ ge ∧ w.heap.size ≤ gl
theorem al4 (w : World) (a b c d : Obj) : let W := ((((w.alloc a).alloc b).alloc c).alloc d).drew
    Below w.heap.size w W ∧ W.heap[w.heap.size]? = some a ∧ W.heap[w.heap.size + 1]? = some b ∧ W.heap[w.heap.size + 1 + 1]? = some c ∧ W.heap[w.heap.size + 1 + 1 + 1]? = some d := by
  intro W
  have h1 := heap_alloc_new w a
  have h2 := heap_alloc_new (w.alloc a) b
  have h3 := heap_alloc_new ((w.alloc a).alloc b) c
  have h4 := heap_alloc_new (((w.alloc a).alloc b).alloc c) d
  have s1 : (w.alloc a).heap.size = w.heap.size + 1 := by simp
  have s2 : ((w.alloc a).alloc b).heap.size = w.heap.size + 1 + 1 := by simp
  have s3 : (((w.alloc a).alloc b).alloc c).heap.size = w.heap.size + 1 + 1 + 1 := by simp
  rw [s1] at h2
  rw [s2] at h3
  rw [s3] at h4
  have o : ∀ (V : World) (x : Obj) (k : Nat) (y : Obj), V.heap[k]? = some y → (V.alloc x).heap[k]? = some y := fun V x k y hk => (heap_alloc_old V x (Array.getElem?_eq_some_iff.1 hk).1).trans hk
  exact ⟨(bstep (balloc w a) (bstep (balloc _ b) (bstep (balloc _ c) (balloc _ d)))).drew, o _ _ _ _ (o _ _ _ _ (o _ _ _ _ h1)), o _ _ _ _ (o _ _ _ _ h2), o _ _ _ _ h3, h4⟩
set_option maxRecDepth 100000 in
set_option maxHeartbeats 16000000 in
theorem leasts_any {w : World} {vo : Value} {n : Nat} {out : Nat → List Nat} (hro : RO w vo n out) (hz : n ≤ 100000) (hol : ∀ x, (out x).length ≤ n) (hos : ∀ x, ∀ y ∈ out x, y < n) :
    Calls Try.prog 29 #[vo] w fun e w' => ∃ gl least, e = .returned (.slice (some ⟨gl, 0, none⟩) n n) ∧ w.heap.size ≤ gl ∧ w'.heap[gl]? = some (arr n least) ∧ Below w.heap.size w w' ∧ ∀ x, x < n → Tj.Mu out x (least x) ∧ ∀ y, Tj.Mu out x y → least x ≤ y := by
  have H : Hid (RO w vo n out ∧ n ≤ 100000 ∧ (∀ x, (out x).length ≤ n) ∧ (∀ x, ∀ y ∈ out x, y < n)) := ⟨hro, hz, hol, hos⟩
  obtain ⟨go, rfl, _, _⟩ := hro
  clear hol hos
  have hmk := make_I n (by omega)
  have hn0 : (0 : Int) ≤ (n : Int) := by omega
  have hn1 : (n : Int) ≤ 100000 := by omega
  go_enter Try.func29, Try.ntmps29
  go_wp2_with fail
  rename_i KK hK
  have HK : Hid (∀ sb gm ge gl W, SM w (.slice (some ⟨go, 0, none⟩) n n) n sb gm ge gl W → KK { tmps := #[.slice (some ⟨go, 0, none⟩) n n, undef, .slice none 0 0, .pointer (some ⟨sb, 0, none⟩), undef, .slice (some ⟨go, 0, none⟩) n n, .slice (some ⟨go, 0, none⟩) n n, .int .i64 (n : Int), .slice (some ⟨gm, 0, none⟩) n n, .slice (some ⟨go, 0, none⟩) n n, .int .i64 (n : Int), .slice (some ⟨ge, 0, none⟩) n n, .slice (some ⟨go, 0, none⟩) n n, .int .i64 (n : Int), .slice (some ⟨gl, 0, none⟩) n n, .agg #[.slice (some ⟨go, 0, none⟩) n n, .slice (some ⟨gm, 0, none⟩) n n, .slice (some ⟨ge, 0, none⟩) n n, .slice (some ⟨gl, 0, none⟩) n n, .slice none 0 0, .int .i64 0], undef, undef, undef, undef, undef, undef, undef, undef, undef, undef, undef, undef, undef, undef, undef, undef], defers := [] } W) := by
    intro sb gm ge gl W hM
    obtain ⟨K, hKe⟩ : ∃ K : SK, K = ⟨sb, gm, ge, gl, n, .slice (some ⟨go, 0, none⟩) n n, out⟩ := ⟨_, rfl⟩
    have HF : Hid (SF w K) := by
      obtain ⟨n1, n2, n3, n4, n5, n6⟩ := hM.ne
      obtain ⟨g1, g2, g3, g4⟩ := hM.ge'
      rw [hKe]
      exact ⟨H.out.1, H.out.2.1, n1, n2, n3, n4, n5, n6, g1, g2, g3, g4, H.out.2.2.1, H.out.2.2.2⟩
    have HS0 : Hid (SE w K (.slice none 0 0) ⟨fun _ => 0, fun _ => 0, fun _ => 0, [], 0⟩ W) := by
      rw [hKe]
      exact ⟨hM.b, hM.blk, hM.rm, hM.re, hM.rl, World.ownsRow_nil _ _ _ _, fun k hk => by cases hk⟩
    have HKE : Hid (K.sb = sb ∧ K.gm = gm ∧ K.n = n ∧ K.gl = gl ∧ K.out = out) := by rw [hKe]; exact ⟨rfl, rfl, rfl, rfl, rfl⟩
    clear hM hKe hmk
    apply hK
    go_wp2_with fail
    go_loopw [18] (fun s18 wr => ∃ (a : Nat) (vp : Value) (s : Tj.St), s18 = .int .i64 (a : Int) ∧ a ≤ n ∧ SE w K vp s wr ∧ Tj.Inv K.n K.out s [] ∧ ∀ x, x < a → s.met x ≠ 0) (fun s18 _ => n - (intOf s18).toNat)
    case atStart => exact ⟨0, _, _, rfl, by omega, HS0.out, Tj.Inv.start _ _, fun x hx => by omega⟩
    case round =>
      obtain ⟨a, vp, s, rfl, ha, hS, hI, hmt⟩ := hrel
      have HS : Hid (SE w K vp s wr ∧ Tj.Inv K.n K.out s [] ∧ ∀ x, x < a → s.met x ≠ 0) := ⟨hS, hI, hmt⟩
      by_cases hlt : a < n
      · have d1 := hS.c1
        have cm := arr_cell hS.rm (a := a) (by rw [HKE.out.2.2.1]; exact hlt)
        rw [HKE.out.1, HKE.out.2.1, HKE.out.2.2.1] at d1
        rw [HKE.out.2.1] at cm
        have k1 : (a : Int) < (n : Int) := by omega
        have k0 : (0 : Int) ≤ (a : Int) := by omega
        obtain ⟨ma, hma⟩ : ∃ ma, s.met a = ma := ⟨_, rfl⟩
        rw [hma] at cm
        clear hS hI hmt
        by_cases h0 : ma = 0
        · subst h0
          have HC : Hid (Calls Try.prog 42 #[.pointer (some ⟨sb, 0, none⟩), .int .i64 (a : Int)] wr fun e w' => e = .returned (.tuple #[]) ∧ ∃ vp' s', SE w K vp' s' w' ∧ SX K vp vp' wr w' ∧ Tj.Inv K.n K.out s' [] ∧ ∀ x, s.met x ≠ 0 ∨ x = a → s'.met x ≠ 0) := by
            have h9 := walk_any HF.out HS.out.1 HS.out.2.1 a (by rw [HKE.out.2.2.1]; exact hlt) hma
            rw [HKE.out.1] at h9
            exact h9
          clear hma
          go_wp2_with fail
          refine HC.out.mono ?_
          rintro e w2 ⟨rfl, vp2, s2, hs2, _, hi2, hm2⟩
          have HS2 : Hid (SE w K vp2 s2 w2 ∧ Tj.Inv K.n K.out s2 [] ∧ ∀ x, s.met x ≠ 0 ∨ x = a → s2.met x ≠ 0) := ⟨hs2, hi2, hm2⟩
          clear hs2 hi2 hm2 HC d1 cm
          go_wp2_with fail
          go_roundw
          case rel =>
            refine ⟨a + 1, vp2, s2, by go_num, by omega, HS2.out.1, HS2.out.2.1, fun x hx => HS2.out.2.2 x ?_⟩
            by_cases e : x = a
            · exact .inr e
            · exact .inl (HS.out.2.2 x (by omega))
          case measure => simp [intOf]; omega
        · have h1 : ¬ ((ma : Int) = 0) := by omega
          go_wp2_with fail
          go_roundw
          case rel =>
            refine ⟨a + 1, vp, s, by go_num, by omega, HS.out.1, HS.out.2.1, fun x hx => ?_⟩
            by_cases e : x = a
            · rw [e, hma]; exact h0
            · exact HS.out.2.2 x (by omega)
          case measure => simp [intOf]; omega
      · obtain rfl : n = a := by omega
        have d3 := hS.c3
        rw [HKE.out.1, HKE.out.2.2.2.1, HKE.out.2.2.1] at d3
        clear hS hI hmt
        go_wp2_with fail
        go_ret
        have e1 := HKE.out.2.2.2.1
        have h9 := HS.out.1.rl
        have h10 := HF.out.b4
        rw [e1, HKE.out.2.2.1] at h9
        rw [e1] at h10
        refine ⟨gl, s.least, rfl, h10, h9, HS.out.1.b0, fun x hx => ?_⟩
        have h11 := HS.out.2.1.done (HS.out.2.2 x hx)
        rw [HKE.out.2.2.2.2] at h11
        exact h11
  clear hK
  have HMK : ∀ sb gm ge gl (a b c d : Obj), (∀ W, W = ((((w.alloc a).alloc b).alloc c).alloc d).drew → SM w (.slice (some ⟨go, 0, none⟩) n n) n sb gm ge gl W) → SM w (.slice (some ⟨go, 0, none⟩) n n) n sb gm ge gl ((((w.alloc a).alloc b).alloc c).alloc d).drew := fun _ _ _ _ _ _ _ _ h => h _ rfl
  go_region
  all_goals
    refine HK.out _ _ _ _ _ (HMK _ _ _ _ _ _ _ _ (fun W hW => ?_))
    obtain ⟨hb, e0, e1, e2, e3⟩ := al4 w _ _ _ _
    rw [← hW] at hb e0 e1 e2 e3
    exact ⟨hb, by first | exact e0 | exact e1 | exact e2 | exact e3, by first | exact e0 | exact e1 | exact e2 | exact e3, by first | exact e0 | exact e1 | exact e2 | exact e3, by first | exact e0 | exact e1 | exact e2 | exact e3, by omega, by omega⟩
end Go.Proofs.Ytclbnjfmipifnaa
