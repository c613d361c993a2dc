/-
  The law ManifestFresh.
-/
import Derived.Test.YtemoplpfndnklaaGreatDoorJGrp
import Derived.Test.YtemoplpfndnklaaGreatDoorJCutg
import Derived.Test.YtemoplpfndnklaaGreatDoorJShf
import Derived.Test.YtemoplpfndnklaaGreatDoorJPrtLaw
namespace Go.Proofs.YtemoplpfndnklaaGreatDoor
open Go.RowKit

theorem src_row {ty e sz base n : Nat} {w : World} {v : Value} {c : List Value} (und : Tryz.prog.underlying ty = some (.slice e)) (h : w.ownsRow base e sz v n c) (h1 : ∀ u ∈ c, u.oneCell' = true) : Src Tryz.prog sz ty v n c w := by
  rcases h.2 with ⟨rfl, rfl⟩ | ⟨g, cap, cur, rfl, _⟩
  · have : c = [] := List.eq_nil_of_length_eq_zero (by rw [h.1]; simp)
    subst this
    exact Src.ofNil _ und 0
  · exact Src.ofSlice _ und ⟨g, 0, none⟩ n cap c h.1 (h.cells (g := g) rfl) h1
theorem row_below {base e sz n B : Nat} {w w' : World} {v : Value} {l : List Value} (h : w.ownsRow base e sz v n l) (hb : Below B w w') (hB : ∀ g, v.ownBlock = some g → g < B) : w'.ownsRow base e sz v n l := row_kept h fun g hg => hb.block g (hB g hg)
/-- a target of a name alone -/
def tvN (n : List UInt8) : Tv := ⟨n, none, 0, 0, none, 0, 0, none, 0, 0⟩
theorem src_two (w : World) (m n : List UInt8) : Src Tryz.prog 4 22 (.slice (some ⟨w.heap.size, 0, none⟩) 2 2) [tvN m, tvN n].length (gc [tvN m, tvN n]) (w.alloc (.cells #[.string (bs m), .slice none 0 0, .slice none 0 0, .slice none 0 0, .string (bs n), .slice none 0 0, .slice none 0 0, .slice none 0 0] 37)) := by
  refine Src.ofSlice _ und_G ⟨w.heap.size, 0, none⟩ 2 2 (gc [tvN m, tvN n]) (by simp [gc_length]) ?_ (gc_one _)
  exact World.news_of_block (cs := #[.string (bs m), .slice none 0 0, .slice none 0 0, .slice none 0 0, .string (bs n), .slice none 0 0, .slice none 0 0, .slice none 0 0]) (heap_alloc_new w _)
theorem Grp.after {w w' : World} {lo hi : Nat} {P S D : List Value} (h : Grp w lo hi P S D) (hk : ∀ x, x < w.heap.size → (∀ u ∈ S ++ D, u.ownBlock ≠ some x) → w'.heap[x]? = w.heap[x]?) : Grp w' lo hi P [] [] := by
  have h1 := h.pw
  rw [List.append_assoc] at h1
  obtain ⟨p1, _, p3⟩ := List.pairwise_append.1 h1
  refine ⟨by simpa using p1, fun u hu => h.rg u (by simp at hu; simp [hu]), by simp, by simp, fun u hu => ?_⟩
  obtain ⟨n, c, k1, k2⟩ := h.oP u hu
  exact ⟨n, c, k1, row_kept k2 fun g hg => hk g (k2.lt g hg).2 fun x hx e => p3 u hu x hx g hg e⟩
theorem sL_one (a : List Tv) : ∀ u ∈ sL a, u.oneCell' = true := fun u hu => by
  obtain ⟨t, _, h⟩ := List.mem_flatMap.1 hu
  simp only [List.mem_cons, List.mem_nil_iff, or_false] at h
  rcases h with rfl | rfl <;> rfl
theorem dL_one (a : List Tv) : ∀ u ∈ dL a, u.oneCell' = true := fun u hu => by
  obtain ⟨t, _, rfl⟩ := List.mem_map.1 hu
  rfl
theorem room_of {w9 w10 w11 : World} {v10 v11 : Value} {aw : List Tv} {n : Nat} {t1 t2 : Tv} {o2 : Obj} (h10 : OwnG w9.heap.size w10 v10 ([] ++ aw)) (g10 : (w9.alloc (.cells #[] 37)).grownBy w10 (some w9.heap.size)) (ho : OwnG w9.heap.size w11 v11 ([] ++ aw ++ [t1, t2])) (g11 : (w10.alloc o2).grownBy w11 v10.ownBlock) (hl : aw.length = n) :
    ∃ gr cr, v11 = .slice (some ⟨gr, 0, none⟩) (n + 2) cr ∧ n + 2 ≤ cr ∧ w9.heap.size ≤ gr ∧ OwnG w9.heap.size w11 (.slice (some ⟨gr, 0, none⟩) (n + 2) cr) (aw ++ [t1, t2]) ∧ Below w9.heap.size w9 w11 := by
  have e : ([] ++ aw ++ [t1, t2]).length = n + 2 := by simp [hl]
  have e2 : [] ++ aw ++ [t1, t2] = aw ++ [t1, t2] := by simp
  have b1 := balloc w9 (.cells #[] 37)
  have b2 : Below w9.heap.size (w9.alloc (.cells #[] 37)) w10 := (only_grownK g10).below (by simp) (fun g hg => by simp at hg; omega)
  have b3 : Below w9.heap.size w10 (w10.alloc o2) := below_mono (balloc _ _) (Nat.le_trans b1.size b2.size)
  have b4 : Below w9.heap.size (w10.alloc o2) w11 := (only_grownK g11).below (Nat.le_trans (Nat.le_trans b1.size b2.size) b3.size) (fun g hg => (h10.lt (by simpa using hg)).1)
  obtain ⟨gr, cr, hv, hc, hg, _⟩ := row_place ho (by rw [e]; omega)
  rw [e] at hv hc
  subst hv
  rw [e2] at ho
  exact ⟨gr, cr, rfl, hc, hg, ho, below_trans (below_trans (below_trans b1 b2) b3) b4⟩
theorem room_gr {B n gr cr : Nat} {w : World} {aw r : List Tv} {l : List Tg} (h : OwnG B w (.slice (some ⟨gr, 0, none⟩) (n + 2) cr) (aw ++ r)) (ht : TsRead w aw l) (hl : aw.length = n) : GR w (.slice (some ⟨gr, 0, none⟩) n cr) l := by
  have g := h.rs.take (i := n) (by simp; omega)
  rw [← hl, List.take_left] at g
  rw [hl] at g
  exact ⟨aw, g, ht⟩
/-- the list whose first name is another -/
def ren (n : List UInt8) : List Tg → List Tg
  | [] => []
  | t :: r => { t with name := n } :: r
def renV (n : List UInt8) : List Tv → List Tv
  | [] => []
  | t :: r => { t with name := n } :: r
theorem ren_read {w : World} {n : List UInt8} : ∀ {a : List Tv} {l : List Tg}, TsRead w a l → TsRead w (renV n a) (ren n l)
  | [], [], _ => trivial
  | _ :: _, _ :: _, h => ⟨⟨rfl, h.1.s, h.1.d, h.1.e⟩, h.2⟩
theorem renV_len (n : List UInt8) (a : List Tv) : (renV n a).length = a.length := by cases a <;> rfl
theorem ren_gc {n : List UInt8} : ∀ {a : List Tv}, a ≠ [] → ∀ b, (gc (a ++ b)).set 0 (.string (bs n)) = gc (renV n a ++ b)
  | [], h, _ => absurd rfl h
  | t :: r, _, b => by simp [gc, renV]
theorem ren_wm {n : List UInt8} (hn : n.length ≤ 100) : ∀ {l : List Tg}, Wm l → (wrt l).length ≤ 700000000 → Wm (ren n l)
  | [], h, _ => h
  | t :: r, h, hw => by
    refine ⟨h.len, ?_, fun x hx => ?_⟩
    · show (wrt ({ t with name := n } :: r)).length ≤ _
      rw [wrt_cons, List.length_append] at hw ⊢
      have h1 := one_len t
      have h2 := one_len { t with name := n }
      simp only at h2
      omega
    · have hx2 : x ∈ ({ t with name := n } : Tg) :: r := hx
      rcases List.mem_cons.1 hx2 with rfl | hx
      · exact h.each t (by simp)
      · exact h.each x (by simp [hx])
theorem ren_lu {n p : List UInt8} : ∀ {l : List Tg}, GL p l → ∀ t ∈ ren n l, ∀ x ∈ t.deps, Lu x := by
  intro l h t ht x hx
  have key : ∀ t ∈ l, ∀ x ∈ t.deps, Lu x := fun t ht x hx => by
    have := okL_len ((h.each t ht).deps x hx)
    simp [prt] at this
    exact ⟨by omega, by omega⟩
  cases l with
  | nil => exact absurd ht (by simp [ren])
  | cons y r =>
    have ht2 : t ∈ ({ y with name := n } : Tg) :: r := ht
    rcases List.mem_cons.1 ht2 with rfl | ht
    · exact key y (by simp) x hx
    · exact key t (by simp [ht]) x hx
theorem Wm_nil : Wm [] := ⟨by simp, by simp [wrt], by simp⟩
set_option maxRecDepth 100000 in
set_option maxHeartbeats 16000000 in
theorem frLaw {w : World} (p s o : List UInt8) (E : Ev w) (hp : p.length ≤ 1000000000) (hs : s.length ≤ 1000000000) (ho : o.length ≤ 1000000000) :
    Calls Tryz.prog 7 #[.string (bs p), .string (bs s), .string (bs o)] w fun e w' => e = .returned (.bool true) ∧ Below w.heap.size w w' := by
  have HR := rpars_any (w := w) p s hp hs
  have HPs : Hid (∀ W : World, Ev W → Calls Tryz.prog 8 #[.string (bs p), .string (bs s)] W (LsP W (prsM p s))) := fun W hW => parse_any p s hW (by omega) (by omega)
  have HPo : Hid (∀ W : World, Ev W → Calls Tryz.prog 8 #[.string (bs p), .string (bs o)] W (LsP W (prsM p o))) := fun W hW => parse_any p o hW (by omega) (by omega)
  have HWm : Hid (Wm (prsM p s).1 ∧ (wrt (prsM p s).1).length ≤ 700000000 ∧ ((prsM p s).1 ≠ [] → GL p (prsM p s).1)) := by
    rcases prsM_range p s with h | h
    · have g := prsM_good h
      refine ⟨g.wm, ?_, fun _ => g⟩
      have h1 := wtG_each (p := p) _ g.each
      have h2 := g.len
      have h3 : (prsM p s).1.length * 60000 ≤ 64 * 60000 := Nat.mul_le_mul_right _ h2
      have h4 := wrt_wt (prsM p s).1
      omega
    · rw [h.2]; exact ⟨Wm_nil, by simp [wrt], fun e => absurd rfl e⟩
  have H64 : Hid ((∀ t ∈ (prsM p s).1, T64 t) ∧ (prsM p s).1.length ≤ 64) := prsM_64 p s
  have O64 : Hid ((∀ t ∈ (prsM p o).1, T64 t) ∧ (prsM p o).1.length ≤ 64) := prsM_64 p o
  have HPr : Hid (∀ (W : World) (v : Value) (l : List Tg), Ev W → GR W v l → Wm l → Calls Tryz.prog 11 #[.string (bs p), v] W fun e w' => e = .returned (.tuple #[.string (bs (prM p l).1), .int .i64 (prM p l).2]) ∧ Below W.heap.size W w') := fun W v l hW hv hl => print_any p hW hv hl (by omega)
  have HRp : Hid (∀ (W : World) (v : Value) (l : List Tg), GR W v l → Wm l → (∀ t ∈ l, ∀ x ∈ t.deps, Lu x) → Calls Tryz.prog 14 #[.string (bs p), v] W fun e w' => e = .returned (.tuple #[.string (bs (prM p l).1), .int .i64 (prM p l).2]) ∧ Below W.heap.size W w') := fun W v l hv hl hu => rprint9_any p hv hl hu hp
  have HSame : Hid (∀ (W : World) (u v : Value) (A : List Tg), GSm A → GR W u A → GR W v A → Calls Tryz.prog 10 #[u, v] W fun e w' => e = .returned (.bool true) ∧ Below W.heap.size W w') := fun W u v A hA hu hv => by
    have h := same_any hu hv hA hA
    rw [decide_eq_true (rfl : A = A)] at h
    exact h.mono fun e w' ⟨h1, n, h2⟩ => ⟨h1, by rw [h2]; exact bd _ _⟩
  obtain ⟨⟨l, Ra⟩, hR⟩ : ∃ R, prsM p s = R := ⟨_, rfl⟩
  obtain ⟨⟨lo, Ro⟩, hO⟩ : ∃ R, prsM p o = R := ⟨_, rfl⟩
  rw [hR] at HR HPs HWm H64
  rw [hO] at HPo O64
  simp only at HR HPs HWm H64 HPo O64
  have HR : Hid (Calls Tryz.prog 13 #[.string (bs p), .string (bs s)] w (LsP w (l, Ra))) := HR
  have HE : Hid (Ev w) := E
  have q1 : (Ra != Ra) = false := by simp
  clear hR hO E
  go_enter Tryz.func7, Tryz.ntmps7
  go_wp2_with fail
  refine HR.out.mono ?_
  rintro e w1 ⟨vw, rfl, hg1, b1⟩
  obtain ⟨aw, ow, tw, _⟩ := hg1.it
  obtain ⟨aw1, cw, hvw⟩ := ow.form
  have hlw : aw.length = l.length := tw.len
  rw [hlw] at hvw
  subst hvw
  have XW : Hid (OwnG w.heap.size w1 (.slice aw1 l.length cw) aw ∧ TsRead w1 aw l ∧ Below w.heap.size w w1 ∧ GR w1 (.slice aw1 l.length cw) l ∧ Ev w1) := ⟨ow, tw.read, b1, hg1.read, HE.out.later b1⟩
  have HLW : Hid (aw.length = l.length) := hlw
  clear hg1 b1 ow tw HR HE hlw
  go_wp2_with fail
  refine (HPs.out _ XW.out.2.2.2.2).mono ?_
  rintro e w2 ⟨va, rfl, hg, b2⟩
  obtain ⟨ta, oa, ha, pa⟩ := hg.it
  obtain ⟨aa, ca, hva⟩ := oa.form
  rw [ha.len] at hva
  subst hva
  have XA : Hid (OwnG w1.heap.size w2 (.slice aa l.length ca) ta ∧ TsOwn w1.heap.size w2 ta l ∧ Aps (.slice aa l.length ca) ta ∧ Below w1.heap.size w1 w2 ∧ GR w2 (.slice aa l.length ca) l) := ⟨oa, ha, pa, b2, hg.read⟩
  clear hg b2 oa ha pa
  go_wp2_with fail
  refine (HPs.out _ (XW.out.2.2.2.2.later XA.out.2.2.2.1)).mono ?_
  rintro e w3 ⟨vb, rfl, hg, b3⟩
  obtain ⟨tb, ob, hb, pb⟩ := hg.it
  obtain ⟨ab, cb, hvb⟩ := ob.form
  rw [hb.len] at hvb
  subst hvb
  have XB : Hid (OwnG w2.heap.size w3 (.slice ab l.length cb) tb ∧ TsOwn w2.heap.size w3 tb l ∧ Aps (.slice ab l.length cb) tb ∧ Below w2.heap.size w2 w3 ∧ GR w3 (.slice ab l.length cb) l ∧ Ev w3) := ⟨ob, hb, pb, b3, hg.read, XW.out.2.2.2.2.later (bstep XA.out.2.2.2.1 b3)⟩
  clear hg b3 ob hb pb
  go_wp2_with fail
  refine (HPo.out _ XB.out.2.2.2.2.2).mono ?_
  rintro e w4 ⟨vc, rfl, hg, b4⟩
  obtain ⟨tc, oc, hc, pc⟩ := hg.it
  obtain ⟨ac, cc, hvc⟩ := oc.form
  rw [hc.len] at hvc
  subst hvc
  have XC : Hid (OwnG w3.heap.size w4 (.slice ac lo.length cc) tc ∧ TsOwn w3.heap.size w4 tc lo ∧ Aps (.slice ac lo.length cc) tc ∧ Below w3.heap.size w3 w4 ∧ Ev w4) := ⟨oc, hc, pc, b4, XB.out.2.2.2.2.2.later b4⟩
  clear hg b4 oc hc pc
  go_wp2_with fail
  refine (HPs.out _ XC.out.2.2.2.2).mono ?_
  rintro e w5 ⟨vd, rfl, hg, b5⟩
  obtain ⟨td, od, hd, pd⟩ := hg.it
  obtain ⟨ad, cd, hvd⟩ := od.form
  rw [hd.len] at hvd
  subst hvd
  have XD : Hid (OwnG w4.heap.size w5 (.slice ad l.length cd) td ∧ TsOwn w4.heap.size w5 td l ∧ Aps (.slice ad l.length cd) td ∧ Below w4.heap.size w4 w5 ∧ GR w5 (.slice ad l.length cd) l) := ⟨od, hd, pd, b5, hg.read⟩
  clear hg b5 od hd pd
  -- what lies at w5
  have b45 := XD.out.2.2.2.1
  have b35 := bstep XC.out.2.2.2.1 b45
  have b25 := bstep XB.out.2.2.2.1 b35
  have b15 := bstep XA.out.2.2.2.1 b25
  have G5 : Hid (Grp w5 w1.heap.size w5.heap.size ([.slice aa l.length ca] ++ [.slice ab l.length cb] ++ [.slice ac lo.length cc] ++ [.slice ad l.length cd]) (sL ta ++ sL tb ++ sL tc ++ sL td) (dL ta ++ dL tb ++ dL tc ++ dL td)) := by
    have s2 := XA.out.2.2.2.1.size
    have s3 := XB.out.2.2.2.1.size
    have s4 := XC.out.2.2.2.1.size
    have s5 := XD.out.2.2.2.1.size
    have ga := (grp_of XA.out.1 XA.out.2.1 XA.out.2.2.1 H64.out.2 H64.out.1).later b25
    have gb := (grp_of XB.out.1 XB.out.2.1 XB.out.2.2.1 H64.out.2 H64.out.1).later b35
    have gc := (grp_of XC.out.1 XC.out.2.1 XC.out.2.2.1 O64.out.2 O64.out.1).later b45
    have gd := grp_of XD.out.1 XD.out.2.1 XD.out.2.2.1 H64.out.2 H64.out.1
    exact ((ga.join gb s2 s3).join gc (by omega) s4).join gd (by omega) s5
  have HLen : Hid (ta.length = l.length ∧ tb.length = l.length ∧ tc.length = lo.length ∧ td.length = l.length ∧ l.length ≤ 64 ∧ lo.length ≤ 64) := ⟨XA.out.2.1.len, XB.out.2.1.len, XC.out.2.1.len, XD.out.2.1.len, H64.out.2, O64.out.2⟩
  have X5 : Hid (∀ W, Below w5.heap.size w5 W → Ev W ∧ GR W (.slice aw1 l.length cw) l ∧ GR W (.slice aa l.length ca) l ∧ GR W (.slice ab l.length cb) l ∧ GR W (.slice ad l.length cd) l ∧ GS W (.slice aa l.length ca) ta ∧ GS W (.slice ab l.length cb) tb ∧ GS W (.slice ac lo.length cc) tc ∧ GS W (.slice ad l.length cd) td) := fun W hW => ⟨XW.out.2.2.2.2.later (bstep b15 hW), XW.out.2.2.2.1.later (bstep b15 hW), XA.out.2.2.2.2.later (bstep b25 hW), XB.out.2.2.2.2.1.later (bstep b35 hW), XD.out.2.2.2.2.later hW, (XA.out.1.later (bstep b25 hW)).rs, (XB.out.1.later (bstep b35 hW)).rs, (XC.out.1.later (bstep b45 hW)).rs, (XD.out.1.later hW).rs⟩
  have B15 : Hid (Below w1.heap.size w1 w5) := b15
  clear b45 b35 b25 b15 XA XB XC XD
  go_wp2_with fail
  refine (known_any (X5.out _ (Below.refl _ _)).1).mono ?_
  rintro e w6 ⟨rfl, hb⟩
  have B6 : Hid (Below w5.heap.size w5 w6) := hb
  clear hb
  go_wp2_with fail
  refine (HSame.out _ _ _ l HWm.out.1.gsm (X5.out _ B6.out).2.2.1 (X5.out _ B6.out).2.1).mono ?_
  rintro e w7 ⟨rfl, hb⟩
  have B7 : Hid (Below w5.heap.size w5 w7) := bstep B6.out hb
  clear hb B6
  go_wp2_with fail
  refine (HSame.out _ _ _ l HWm.out.1.gsm (X5.out _ B7.out).2.2.2.1 (X5.out _ B7.out).2.1).mono ?_
  rintro e w8 ⟨rfl, hb⟩
  have B8 : Hid (Below w5.heap.size w5 w8) := bstep B7.out hb
  clear hb B7
  go_wp2_with fail
  refine (HSame.out _ _ _ l HWm.out.1.gsm (X5.out _ B8.out).2.2.2.2.1 (X5.out _ B8.out).2.1).mono ?_
  rintro e w9 ⟨rfl, hb⟩
  have B9 : Hid (Below w5.heap.size w5 w9) := bstep B8.out hb
  clear hb B8
  have hl64 : l.length ≤ 64 := HLen.out.2.2.2.2.1
  have hlo64 : lo.length ≤ 64 := HLen.out.2.2.2.2.2
  have OW9 : Hid (OwnG w.heap.size w9 (.slice aw1 l.length cw) aw) := XW.out.1.later (bstep B15.out B9.out)
  -- room
  go_wp2_with (first
    | (at_builtin; refine app_Gs (base := w9.heap.size) (l := []) (k := aw) (World.ownsRow_lit (e := 37) (size := 4) w9 #[] 0 (Nat.le_refl _) (by simp [maxLen]) (by simp)) (src_row und_G (OW9.out.later (balloc _ _)) (gc_one _)) (by simp; have := HLW.out; omega) (by simp) rfl (.tmp 83) (.tmp 84) rfl rfl rfl ?_; intro v10 w10 ho10 hg10 _)
    | (at_builtin; refine app_Gs (base := w9.heap.size) (l := [] ++ aw) (k := [tvN [111, 110, 101], tvN [116, 119, 111]]) (OwnG.later ho10 (balloc _ _)) (src_two w10 _ _) (by simp; have := HLW.out; omega) (by simp; have := hg10.size; simp at this; omega) rfl (.tmp 85) (.tmp 88) rfl rfl rfl ?_; intro v11 w11 ho11 hg11 _; obtain ⟨gr, cr, rfl, hcr, hgr, or11, br11⟩ := room_of ho10 hg10 ho11 hg11 HLW.out; have XR : Hid (OwnG w9.heap.size w11 (.slice (some ⟨gr, 0, none⟩) (l.length + 2) cr) (aw ++ [tvN [111, 110, 101], tvN [116, 119, 111]]) ∧ Below w9.heap.size w9 w11) := ⟨or11, br11⟩; have hcr0 : (0 : Int) ≤ (l.length : Int) := (by omega); have hcr1 : (l.length : Int) ≤ (cr : Int) := (by omega); clear ho10 hg10 ho11 hg11 or11 br11))
  have HX : Hid (∀ W, Below w11.heap.size w11 W → Below w5.heap.size w5 W ∧ OwnG w9.heap.size W (.slice (some ⟨gr, 0, none⟩) (l.length + 2) cr) (aw ++ [tvN [111, 110, 101], tvN [116, 119, 111]]) ∧ GR W (.slice (some ⟨gr, 0, none⟩) l.length cr) l) := fun W hW => by
    have b : Below w5.heap.size w5 W := bstep (bstep B9.out XR.out.2) hW
    have oo := XR.out.1.later hW
    exact ⟨b, oo, room_gr oo (XW.out.2.1.later (bstep B15.out b)) HLW.out⟩
  refine (HPr.out _ _ l (X5.out _ (HX.out _ (Below.refl _ _)).1).1 (HX.out _ (Below.refl _ _)).2.2 HWm.out.1).mono ?_
  rintro e w12 ⟨rfl, hb⟩
  have B12 : Hid (Below w11.heap.size w11 w12) := hb
  clear hb
  go_wp2_with fail
  refine (HSame.out _ _ _ l HWm.out.1.gsm (HX.out _ B12.out).2.2 (X5.out _ (HX.out _ B12.out).1).2.1).mono ?_
  rintro e w13 ⟨rfl, hb⟩
  have B13 : Hid (Below w11.heap.size w11 w13) := bstep B12.out hb
  clear hb B12
  obtain ⟨b1, o1, eb1, _, c1, _⟩ := (HX.out _ B13.out).2.1.rs.at (Below.refl _ _) (k := l.length) (by simp [HLW.out])
  obtain ⟨b2, o2, eb2, _, c2, _⟩ := (HX.out _ B13.out).2.1.rs.at (Below.refl _ _) (k := l.length + 1) (by simp [HLW.out])
  injection eb1 with eb1
  injection eb1 with eb3 eb4 _
  subst eb3 eb4
  injection eb2 with eb2
  injection eb2 with eb3 eb4 _
  subst eb3 eb4
  have c1 : w13.cell? ⟨gr, l.length * 4, none⟩ = some (.string (bs [111, 110, 101])) := by
    rw [List.getElem_append_right (by rw [HLW.out]; exact Nat.le_refl _)] at c1
    simp only [HLW.out, Nat.sub_self, List.getElem_cons_zero, Nat.zero_add] at c1
    exact c1
  have c2 : w13.cell? ⟨gr, (l.length + 1) * 4, none⟩ = some (.string (bs [116, 119, 111])) := by
    rw [List.getElem_append_right (by rw [HLW.out]; omega)] at c2
    simp only [HLW.out, Nat.add_sub_cancel_left, List.getElem_cons_succ, List.getElem_cons_zero, Nat.zero_add] at c2
    exact c2
  have e1 := bs_toList [111, 110, 101]
  have e2 : (ByteArray.mk #[111, 110, 101]).toList = [111, 110, 101] := bs_toList [111, 110, 101]
  have e3 := bs_toList [116, 119, 111]
  have e4 : (ByteArray.mk #[116, 119, 111]).toList = [116, 119, 111] := bs_toList [116, 119, 111]
  have n1 : (l.length : Int) < (l.length : Int) + 2 := by omega
  have n2 : (l.length : Int) + 1 < (l.length : Int) + 2 := by omega
  have n3 : (0 : Int) ≤ (l.length : Int) + 1 := by omega
  go_wp2_with fail
  clear c1 c2 e1 e2 e3 e4 n1 n2 n3
  have R13 : Hid (Below w13.heap.size w13 w13) := Below.refl _ _
  refine (lists_any (X5.out _ (HX.out _ (bstep B13.out R13.out)).1).2.2.2.2.2.1 (by rw [HLen.out.1]; omega)).mono ?_
  rintro e w14 ⟨u1, rfl, hr, hb⟩
  have Yu1 : Hid (w14.ownsRow w13.heap.size 33 1 u1 (sL ta).length (sL ta) ∧ Below w13.heap.size w13 w14) := ⟨hr, hb⟩
  have R14 : Hid (Below w13.heap.size w13 w14) := bstep R13.out hb
  clear hr hb
  go_wp2_with fail
  refine (lists_any (X5.out _ (HX.out _ (bstep B13.out R14.out)).1).2.2.2.2.2.2.1 (by rw [HLen.out.2.1]; omega)).mono ?_
  rintro e w15 ⟨u2, rfl, hr, hb⟩
  have Yu2 : Hid (w15.ownsRow w14.heap.size 33 1 u2 (sL tb).length (sL tb) ∧ Below w14.heap.size w14 w15) := ⟨hr, hb⟩
  have R15 : Hid (Below w13.heap.size w13 w15) := bstep R14.out hb
  clear hr hb
  have RB13_15 : Hid (Below w13.heap.size w13 w15) := R15.out
  go_wp2_with (first
    | (at_builtin; refine app_V und44 info33 (base := w13.heap.size) (l := sL ta) (k := sL tb) (row_later Yu1.out.1 Yu2.out.2) (src_row und44 Yu2.out.1 (sL_one _)) (by simp only [sL_len]; have := HLen.out; omega) (by have := R15.out.size; have := R13.out.size; have := RB13_15.out.size; omega) rfl (.tmp 124) (.tmp 126) rfl rfl rfl ?_; intro u3 w16 hr hb _; have Yu3 : Hid (w16.ownsRow w13.heap.size 33 1 u3 (sL ta ++ sL tb).length (sL ta ++ sL tb) ∧ Below w13.heap.size w15 w16) := ⟨hr, hb⟩; have R16 : Hid (Below w13.heap.size w13 w16) := below_trans R15.out (below_mono hb (by have := R13.out.size; omega)); clear hr hb))
  refine (lists_any (X5.out _ (HX.out _ (bstep B13.out R16.out)).1).2.2.2.2.2.2.2.1 (by rw [HLen.out.2.2.1]; omega)).mono ?_
  rintro e w17 ⟨u4, rfl, hr, hb⟩
  have Yu4 : Hid (w17.ownsRow w16.heap.size 33 1 u4 (sL tc).length (sL tc) ∧ Below w16.heap.size w16 w17) := ⟨hr, hb⟩
  have R17 : Hid (Below w13.heap.size w13 w17) := bstep R16.out hb
  clear hr hb
  have RB13_17 : Hid (Below w13.heap.size w13 w17) := R17.out
  go_wp2_with (first
    | (at_builtin; refine app_V und44 info33 (base := w13.heap.size) (l := sL ta ++ sL tb) (k := sL tc) (row_later Yu3.out.1 Yu4.out.2) (src_row und44 Yu4.out.1 (sL_one _)) (by simp only [List.length_append, sL_len]; have := HLen.out; omega) (by have := R17.out.size; have := R13.out.size; have := RB13_17.out.size; omega) rfl (.tmp 127) (.tmp 129) rfl rfl rfl ?_; intro u5 w18 hr hb _; have Yu5 : Hid (w18.ownsRow w13.heap.size 33 1 u5 (sL ta ++ sL tb ++ sL tc).length (sL ta ++ sL tb ++ sL tc) ∧ Below w13.heap.size w17 w18) := ⟨hr, hb⟩; have R18 : Hid (Below w13.heap.size w13 w18) := below_trans R17.out (below_mono hb (by have := R13.out.size; omega)); clear hr hb))
  refine (lists_any (X5.out _ (HX.out _ (bstep B13.out R18.out)).1).2.2.2.2.2.2.2.2 (by rw [HLen.out.2.2.2.1]; omega)).mono ?_
  rintro e w19 ⟨u6, rfl, hr, hb⟩
  have Yu6 : Hid (w19.ownsRow w18.heap.size 33 1 u6 (sL td).length (sL td) ∧ Below w18.heap.size w18 w19) := ⟨hr, hb⟩
  have R19 : Hid (Below w13.heap.size w13 w19) := bstep R18.out hb
  clear hr hb
  have RB13_19 : Hid (Below w13.heap.size w13 w19) := R19.out
  go_wp2_with (first
    | (at_builtin; refine app_V und44 info33 (base := w13.heap.size) (l := sL ta ++ sL tb ++ sL tc) (k := sL td) (row_later Yu5.out.1 Yu6.out.2) (src_row und44 Yu6.out.1 (sL_one _)) (by simp only [List.length_append, sL_len]; have := HLen.out; omega) (by have := R19.out.size; have := R13.out.size; have := RB13_19.out.size; omega) rfl (.tmp 130) (.tmp 132) rfl rfl rfl ?_; intro u7 w20 hr hb _; have Yu7 : Hid (w20.ownsRow w13.heap.size 33 1 u7 (sL ta ++ sL tb ++ sL tc ++ sL td).length (sL ta ++ sL tb ++ sL tc ++ sL td) ∧ Below w13.heap.size w19 w20) := ⟨hr, hb⟩; have R20 : Hid (Below w13.heap.size w13 w20) := below_trans R19.out (below_mono hb (by have := R13.out.size; omega)); clear hr hb))
  refine (deps_any (X5.out _ (HX.out _ (bstep B13.out R20.out)).1).2.2.2.2.2.1 (by rw [HLen.out.1]; omega)).mono ?_
  rintro e w21 ⟨d1, rfl, hr, hb⟩
  have Yd1 : Hid (w21.ownsRow w20.heap.size 35 1 d1 (dL ta).length (dL ta) ∧ Below w20.heap.size w20 w21) := ⟨hr, hb⟩
  have R21 : Hid (Below w13.heap.size w13 w21) := bstep R20.out hb
  clear hr hb
  go_wp2_with fail
  refine (deps_any (X5.out _ (HX.out _ (bstep B13.out R21.out)).1).2.2.2.2.2.2.1 (by rw [HLen.out.2.1]; omega)).mono ?_
  rintro e w22 ⟨d2, rfl, hr, hb⟩
  have Yd2 : Hid (w22.ownsRow w21.heap.size 35 1 d2 (dL tb).length (dL tb) ∧ Below w21.heap.size w21 w22) := ⟨hr, hb⟩
  have R22 : Hid (Below w13.heap.size w13 w22) := bstep R21.out hb
  clear hr hb
  have RB20_22 : Hid (Below w20.heap.size w20 w22) := bstep Yd1.out.2 Yd2.out.2
  go_wp2_with (first
    | (at_builtin; refine app_V und46 info35 (base := w20.heap.size) (l := dL ta) (k := dL tb) (row_later Yd1.out.1 Yd2.out.2) (src_row und46 Yd2.out.1 (dL_one _)) (by simp only [dL_len]; have := HLen.out; omega) (by have := R22.out.size; have := R20.out.size; have := RB20_22.out.size; omega) rfl (.tmp 135) (.tmp 137) rfl rfl rfl ?_; intro d3 w23 hr hb _; have Yd3 : Hid (w23.ownsRow w20.heap.size 35 1 d3 (dL ta ++ dL tb).length (dL ta ++ dL tb) ∧ Below w20.heap.size w22 w23) := ⟨hr, hb⟩; have R23 : Hid (Below w13.heap.size w13 w23) := below_trans R22.out (below_mono hb (by have := R20.out.size; omega)); clear hr hb))
  have RB20_23 : Hid (Below w20.heap.size w20 w23) := below_trans RB20_22.out Yd3.out.2
  refine (deps_any (X5.out _ (HX.out _ (bstep B13.out R23.out)).1).2.2.2.2.2.2.2.1 (by rw [HLen.out.2.2.1]; omega)).mono ?_
  rintro e w24 ⟨d4, rfl, hr, hb⟩
  have Yd4 : Hid (w24.ownsRow w23.heap.size 35 1 d4 (dL tc).length (dL tc) ∧ Below w23.heap.size w23 w24) := ⟨hr, hb⟩
  have R24 : Hid (Below w13.heap.size w13 w24) := bstep R23.out hb
  clear hr hb
  have RB20_24 : Hid (Below w20.heap.size w20 w24) := bstep RB20_23.out Yd4.out.2
  go_wp2_with (first
    | (at_builtin; refine app_V und46 info35 (base := w20.heap.size) (l := dL ta ++ dL tb) (k := dL tc) (row_later Yd3.out.1 Yd4.out.2) (src_row und46 Yd4.out.1 (dL_one _)) (by simp only [List.length_append, dL_len]; have := HLen.out; omega) (by have := R24.out.size; have := R20.out.size; have := RB20_24.out.size; omega) rfl (.tmp 138) (.tmp 140) rfl rfl rfl ?_; intro d5 w25 hr hb _; have Yd5 : Hid (w25.ownsRow w20.heap.size 35 1 d5 (dL ta ++ dL tb ++ dL tc).length (dL ta ++ dL tb ++ dL tc) ∧ Below w20.heap.size w24 w25) := ⟨hr, hb⟩; have R25 : Hid (Below w13.heap.size w13 w25) := below_trans R24.out (below_mono hb (by have := R20.out.size; omega)); clear hr hb))
  have RB20_25 : Hid (Below w20.heap.size w20 w25) := below_trans RB20_24.out Yd5.out.2
  refine (deps_any (X5.out _ (HX.out _ (bstep B13.out R25.out)).1).2.2.2.2.2.2.2.2 (by rw [HLen.out.2.2.2.1]; omega)).mono ?_
  rintro e w26 ⟨d6, rfl, hr, hb⟩
  have Yd6 : Hid (w26.ownsRow w25.heap.size 35 1 d6 (dL td).length (dL td) ∧ Below w25.heap.size w25 w26) := ⟨hr, hb⟩
  have R26 : Hid (Below w13.heap.size w13 w26) := bstep R25.out hb
  clear hr hb
  have RB20_26 : Hid (Below w20.heap.size w20 w26) := bstep RB20_25.out Yd6.out.2
  go_wp2_with (first
    | (at_builtin; refine app_V und46 info35 (base := w20.heap.size) (l := dL ta ++ dL tb ++ dL tc) (k := dL td) (row_later Yd5.out.1 Yd6.out.2) (src_row und46 Yd6.out.1 (dL_one _)) (by simp only [List.length_append, dL_len]; have := HLen.out; omega) (by have := R26.out.size; have := R20.out.size; have := RB20_26.out.size; omega) rfl (.tmp 141) (.tmp 143) rfl rfl rfl ?_; intro d7 w27 hr hb _; have Yd7 : Hid (w27.ownsRow w20.heap.size 35 1 d7 (dL ta ++ dL tb ++ dL tc ++ dL td).length (dL ta ++ dL tb ++ dL tc ++ dL td) ∧ Below w20.heap.size w26 w27) := ⟨hr, hb⟩; have R27 : Hid (Below w13.heap.size w13 w27) := below_trans R26.out (below_mono hb (by have := R20.out.size; omega)); clear hr hb))
  have RB20_27 : Hid (Below w20.heap.size w20 w27) := below_trans RB20_26.out Yd7.out.2
  have B27 : Hid (Below w11.heap.size w11 w27) := bstep B13.out R27.out
  have Z27 : Hid (w5.heap.size ≤ w9.heap.size ∧ w9.heap.size ≤ w11.heap.size ∧ w11.heap.size ≤ w13.heap.size ∧ w13.heap.size ≤ w20.heap.size ∧ w20.heap.size ≤ w27.heap.size ∧ w1.heap.size ≤ w5.heap.size ∧ w.heap.size ≤ w1.heap.size) := ⟨B9.out.size, XR.out.2.size, B13.out.size, R20.out.size, RB20_27.out.size, B15.out.size, XW.out.2.2.1.size⟩
  have G27 : Hid (Grp w27 w1.heap.size w5.heap.size ([.slice aa l.length ca] ++ [.slice ab l.length cb] ++ [.slice ac lo.length cc] ++ [.slice ad l.length cd]) (sL ta ++ sL tb ++ sL tc ++ sL td) (dL ta ++ dL tb ++ dL tc ++ dL td)) := G5.out.later (HX.out _ B27.out).1
  have T7 : Hid (w27.ownsRow w13.heap.size 33 1 u7 (sL ta ++ sL tb ++ sL tc ++ sL td).length (sL ta ++ sL tb ++ sL tc ++ sL td) ∧ w27.ownsRow w13.heap.size 35 1 d7 (dL ta ++ dL tb ++ dL tc ++ dL td).length (dL ta ++ dL tb ++ dL tc ++ dL td)) := ⟨row_below Yu7.out.1 RB20_27.out (fun g hg => (Yu7.out.1.lt g hg).2), Yd7.out.1.mono Z27.out.2.2.2.1⟩
  clear Yu1 Yu2 Yu3 Yu4 Yu5 Yu6 Yu7 Yd1 Yd2 Yd3 Yd4 Yd5 Yd6 Yd7 RB20_22 RB20_23 RB20_24 RB20_25 RB20_26 RB13_15 RB13_17 RB13_19 R13 R14 R15 R16 R17 R18 R19 R20 R21 R22 R23 R24 R25 R26
  refine (marked_grp (lo := w1.heap.size) (hi := w5.heap.size) (bt := w13.heap.size) G27.out (by have := Z27.out; omega) (by simp only [List.length_append, sL_len]; have := HLen.out; omega) (by simp only [List.length_append, dL_len]; have := HLen.out; omega) T7.out.1 T7.out.2 (by have := Z27.out; omega) ?_).mono ?_
  · rw [← List.length_eq_zero_iff, ← List.length_eq_zero_iff]
    simp only [List.length_append, sL_len, dL_len]
    omega
  rintro e w28 ⟨rfl, hb, hk⟩
  have M28 : Hid (Below w1.heap.size w27 w28 ∧ ∀ x, x < w27.heap.size → (∀ u ∈ (sL ta ++ sL tb ++ sL tc ++ sL td) ++ (dL ta ++ dL tb ++ dL tc ++ dL td), u.ownBlock ≠ some x) → w28.heap[x]? = w27.heap[x]?) := ⟨hb, hk⟩
  clear hb hk
  go_wp2_with fail
  refine (spoiled_grp (lo := w1.heap.size) (hi := w5.heap.size) (ga := w28.heap.size) ((G27.out.after M28.out.2).later (balloc w28 (.cells #[.slice aa l.length ca, .slice ab l.length cb, .slice ac lo.length cc, .slice ad l.length cd] 22))) (by have := Z27.out; have := M28.out.1.size; simp; omega) (by simp) ?_ (by have := Z27.out; have := M28.out.1.size; omega)).mono ?_
  · intro k v hv
    have := cell_lit w28 ([.slice aa l.length ca] ++ [.slice ab l.length cb] ++ [.slice ac lo.length cc] ++ [.slice ad l.length cd]) 22 k v hv
    rw [Nat.zero_add] at this
    exact this
  rintro e w29 ⟨rfl, hb, hk⟩
  have HY : Hid (∀ W, Below w29.heap.size w29 W → Below w1.heap.size w1 W ∧ OwnG w9.heap.size W (.slice (some ⟨gr, 0, none⟩) (l.length + 2) cr) (aw ++ [tvN [111, 110, 101], tvN [116, 119, 111]])) := by
    have z := Z27.out
    have s28 := M28.out.1.size
    have s29 := hb.size
    have al := balloc w28 (.cells #[.slice aa l.length ca, .slice ab l.length cb, .slice ac lo.length cc, .slice ad l.length cd] 22)
    have o27 := (HX.out _ B27.out).2.1
    have o28 : OwnG w9.heap.size w28 (.slice (some ⟨gr, 0, none⟩) (l.length + 2) cr) (aw ++ [tvN [111, 110, 101], tvN [116, 119, 111]]) := row_kept o27 fun g hg => M28.out.2 g (o27.lt hg).2 fun u hu e => by
      have h1 := (o27.lt hg).1
      have h2 := (G27.out.rg u (by rw [List.append_assoc]; exact List.mem_append_right _ hu) g e).2
      omega
    have o29 := o28.later al
    have o30 : OwnG w9.heap.size w29 (.slice (some ⟨gr, 0, none⟩) (l.length + 2) cr) (aw ++ [tvN [111, 110, 101], tvN [116, 119, 111]]) := row_kept o29 fun g hg => hk g (o29.lt hg).2 fun u hu e => by
      have h1 := (o29.lt hg).1
      have h2 := (G27.out.rg u (List.mem_append_left _ (List.mem_append_left _ hu)) g e).2
      omega
    have bl : Below w1.heap.size w1 w29 := below_trans (below_trans (below_trans (bstep B15.out (HX.out _ B27.out).1) M28.out.1) (below_mono al (by omega))) hb
    exact fun W hW => ⟨below_trans bl (below_mono hW (by have := bl.size; omega)), o30.later hW⟩
  have HZ : Hid (∀ W, Below w29.heap.size w29 W → Ev W ∧ GR W (.slice aw1 l.length cw) l ∧ GR W (.slice (some ⟨gr, 0, none⟩) l.length cr) l ∧ Below w.heap.size w W) := fun W hW => by
    have h := HY.out W hW
    exact ⟨XW.out.2.2.2.2.later h.1, XW.out.2.2.2.1.later h.1, room_gr h.2 (XW.out.2.1.later h.1) HLW.out, bstep XW.out.2.2.1 h.1⟩
  have hg9 : w1.heap.size ≤ gr := by have := Z27.out; omega
  clear hb hk M28 G27 T7 G5 X5 HX B27 Z27 B9 B13 XR OW9
  go_wp2_with fail
  refine (HPs.out _ (HZ.out _ (Below.refl _ _)).1).mono ?_
  rintro e w30 ⟨v30, rfl, hg, hb⟩
  have B30 : Hid (Below w29.heap.size w29 w30 ∧ GR w30 v30 l) := ⟨hb, hg.read⟩
  clear hb hg
  go_wp2_with fail
  refine (HPr.out _ _ l (HZ.out _ B30.out.1).1 (HZ.out _ B30.out.1).2.2.1 HWm.out.1).mono ?_
  rintro e w31 ⟨rfl, hb⟩
  have B31 : Hid (Below w29.heap.size w29 w31 ∧ GR w31 v30 l) := ⟨bstep B30.out.1 hb, B30.out.2.later hb⟩
  clear hb B30
  go_wp2_with fail
  refine (HSame.out _ _ _ l HWm.out.1.gsm B31.out.2 (HZ.out _ B31.out.1).2.1).mono ?_
  rintro e w32 ⟨rfl, hb⟩
  have B32 : Hid (Below w29.heap.size w29 w32) := bstep B31.out.1 hb
  clear hb B31
  have f1 := bs_toList (prM p l).1
  have f2 : ((prM p l).2 != (prM p l).2) = false := by simp
  by_cases hl0 : l.length = 0
  · have d0 : ((l.length : Int) == 0) = true := by simp [hl0]
    go_wp2_with fail
    go_ret
    exact ⟨rfl, (HZ.out _ B32.out).2.2.2⟩
  have d0 : ((l.length : Int) == 0) = false := beq_eq_false_iff_ne.2 (by omega)
  have hne : l ≠ [] := fun e => hl0 (by rw [e]; rfl)
  have hane : aw ≠ [] := fun e => hl0 (by rw [← HLW.out, e]; rfl)
  have HNE : Hid (GL p l ∧ aw ≠ []) := ⟨HWm.out.2.2 hne, hane⟩
  have hor : w32.ownsRow w9.heap.size 37 4 (.slice (some ⟨gr, 0, none⟩) (l.length + 2) cr) (l.length + 2) (gc (aw ++ [tvN [111, 110, 101], tvN [116, 119, 111]])) := by
    have h := (HY.out _ B32.out).2
    unfold OwnG at h
    rw [show (aw ++ [tvN [111, 110, 101], tvN [116, 119, 111]]).length = l.length + 2 by simp [HLW.out]] at h
    exact h
  have c0 := row_any hor 0 0 (by omega) (by omega)
  obtain ⟨⟨y0, cy⟩, fy⟩ := c0
  have cy : w32.cell? ⟨gr, 0, none⟩ = some y0 := by simpa using cy
  have fy : w32.frozen? ⟨gr, 0, none⟩ = false := by simpa using fy
  have n1 : (0 : Int) < (l.length : Int) + 2 := by omega
  have HS : Hid (OwnG w9.heap.size (w32.setCell ⟨gr, 0, none⟩ (.string (bs [111, 116, 104, 101, 114, 46, 110, 97, 109, 101]))) (.slice (some ⟨gr, 0, none⟩) (l.length + 2) cr) (renV [111, 116, 104, 101, 114, 46, 110, 97, 109, 101] aw ++ [tvN [111, 110, 101], tvN [116, 119, 111]]) ∧ Below w1.heap.size w1 (w32.setCell ⟨gr, 0, none⟩ (.string (bs [111, 116, 104, 101, 114, 46, 110, 97, 109, 101])))) := by
    have h := (hor.stored 0 (.string (bs [111, 116, 104, 101, 114, 46, 110, 97, 109, 101]))).1
    rw [ren_gc hane] at h
    refine ⟨?_, below_trans (HY.out _ B32.out).1 ((Only.set w32 gr 0 _).below (HY.out _ B32.out).1.size (fun x hx => by simp at hx; omega))⟩
    unfold OwnG
    rw [show (renV [111, 116, 104, 101, 114, 46, 110, 97, 109, 101] aw ++ [tvN [111, 110, 101], tvN [116, 119, 111]]).length = l.length + 2 by simp [renV_len, HLW.out]]
    exact h
  have HS : Hid (∀ W, Below (w32.setCell ⟨gr, 0, none⟩ (.string (bs [111, 116, 104, 101, 114, 46, 110, 97, 109, 101]))).heap.size (w32.setCell ⟨gr, 0, none⟩ (.string (bs [111, 116, 104, 101, 114, 46, 110, 97, 109, 101]))) W → Ev W ∧ GR W (.slice (some ⟨gr, 0, none⟩) l.length cr) (ren [111, 116, 104, 101, 114, 46, 110, 97, 109, 101] l) ∧ Below w.heap.size w W) := fun W hW => by
    have b : Below w1.heap.size w1 W := bstep HS.out.2 hW
    exact ⟨XW.out.2.2.2.2.later b, room_gr (HS.out.1.later hW) (ren_read (XW.out.2.1.later b)) (by rw [renV_len]; exact HLW.out), bstep XW.out.2.2.1 b⟩
  have HRW : Hid (Wm (ren [111, 116, 104, 101, 114, 46, 110, 97, 109, 101] l)) := ren_wm (by decide) HWm.out.1 HWm.out.2.1
  clear hor hne hane
  go_wp2_with fail
  obtain ⟨wS, hwS⟩ : ∃ wS, w32.setCell ⟨gr, 0, none⟩ (.string (bs [111, 116, 104, 101, 114, 46, 110, 97, 109, 101])) = wS := ⟨_, rfl⟩
  rw [hwS] at HS
  obtain ⟨lr, hlr⟩ : ∃ lr, ren [111, 116, 104, 101, 114, 46, 110, 97, 109, 101] l = lr := ⟨_, rfl⟩
  have HLU : Hid (∀ t ∈ lr, ∀ x ∈ t.deps, Lu x) := by rw [← hlr]; exact ren_lu HNE.out.1
  rw [hlr] at HS HRW
  have hwS2 : w32.setCell ⟨gr, 0, none⟩ (.string ⟨#[111, 116, 104, 101, 114, 46, 110, 97, 109, 101]⟩) = wS := hwS
  rw [hwS2]
  clear hlr hwS hwS2 cy fy
  refine (HRp.out _ _ lr (HS.out _ (Below.refl _ _)).2.1 HRW.out HLU.out).mono ?_
  rintro e w33 ⟨rfl, hb⟩
  have B33 : Hid (Below wS.heap.size wS w33) := hb
  clear hb
  go_wp2_with fail
  refine (HPr.out _ _ lr (HS.out _ B33.out).1 (HS.out _ B33.out).2.1 HRW.out).mono ?_
  rintro e w34 ⟨rfl, hb⟩
  have B34 : Hid (Below wS.heap.size wS w34) := bstep B33.out hb
  clear hb
  have f3 := bs_toList (prM p lr).1
  have f4 : ((prM p lr).2 == (prM p lr).2) = true := by simp
  have f5 : ((prM p lr).1 == (prM p lr).1) = true := by simp
  go_wp2_with fail
  go_ret
  exact ⟨rfl, (HS.out _ B34.out).2.2⟩
end Go.Proofs.YtemoplpfndnklaaGreatDoor
