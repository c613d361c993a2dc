/-
  What a directory adds is asked again.
  One step, in memory.
-/
import Derived.Test.YtbaheiimcnfaaaaGreatNo
namespace Go.Proofs.YtbaheiimcnfaaaaGreat
open Go.RowKit Go.Maps
attribute [local go_sem] Oper.semAt_some

def AskA (B : Nat) (w : World) (gm t : Nat) (F : Nat → Prop) (vk vc : Value) (c : Int) (k : List (List UInt8)) (C : List Cnd) (H : List Fl) (d : List UInt8) (e : Ending) (w' : World) : Prop :=
  e = .returned (.tuple #[]) ∧ Below B w w' ∧ ∃ C', MG B w' gm t F vk vc c k C' H ∧ ((∃ i, ∃ hi : i < C.length, (C[i]'hi).p = d ∧ C' = putA C i (ads H d)) ∨ ((∀ x ∈ C, x.p ≠ d) ∧ C' = C))
set_option maxRecDepth 100000 in
set_option maxHeartbeats 4000000 in
theorem ask_any {B : Nat} {w : World} {gm t : Nat} {F : Nat → Prop} {vk vc : Value} {c : Int} {k : List (List UInt8)} {C : List Cnd} {H : List Fl} (h : MG B w gm t F vk vc c k C H) (hB : B ≤ w.heap.size) (up : C.Pairwise fun a b => cf a.p b.p < 0) (hl : C.length ≤ 4000000) (hs : ∀ x ∈ C, x.p.length ≤ 1000000000) (hz : ∀ f ∈ H, 0 ≤ f.size) (d : List UInt8) (hd : okP d = true) :
    Calls Tryz.prog 61 #[.pointer (some ⟨gm, 0, none⟩), .string (bs d)] w (AskA B w gm t F vk vc c k C H d) := by
  have hdl := (okP_len hd).1
  have HSE := hid_of (csearch_any d h.ownc up hl hs (by omega))
  have HSI : Hid (∀ W, Below w.heap.size w W → Calls Tryz.prog 54 #[.pointer (some ⟨t, 0, none⟩), .string (bs d)] W fun e w' => e = .returned (.int .i64 (ads H d)) ∧ Below W.heap.size W w') := fun W hW => by
    rw [← sizeS_ads (L := H) hz hd]
    exact tsize_any (h.later hW).tr d (by omega)
  have HM := hid_of (And.intro h hB)
  obtain ⟨av, cv, hvc⟩ := h.ownc.form
  obtain ⟨n, hn⟩ : ∃ n, C.length = n := ⟨_, rfl⟩
  rw [hn] at hvc hl
  subst hvc
  have HN := hid_of hn
  obtain ⟨q0, q1, q2, q3, qf⟩ := h.cells
  clear h up hs hz hd hn q0 q1 qf
  go_enter Tryz.func61, Tryz.ntmps61
  go_wp2_with fail
  refine HSE.out.mono ?_
  rintro e w1 ⟨a, fb, rfl, hcs, hb1⟩
  have H1 : Hid (MG B w1 gm t F vk (.slice av n cv) c k C H ∧ Below w.heap.size w w1 ∧ Below B w w1) := ⟨HM.out.1.later hb1, hb1, below_mono hb1 HM.out.2⟩
  clear hb1 q2 q3
  obtain ⟨q0, q1, q2, q3, qf⟩ := H1.out.1.cells
  clear q0 q1 qf
  rcases hcs with ⟨ha, rfl, hp⟩ | ⟨rfl, hno⟩
  · have HA := hid_of (And.intro ha hp)
    rw [HN.out] at ha
    have i1 : (a : Int) < (n : Int) := by omega
    have i2 : (0 : Int) ≤ (a : Int) := by omega
    obtain ⟨g, cap, rest, ev, hr⟩ := RW.ofC H1.out.1.ownc (fun e0 => by have := HN.out; rw [e0] at this; simp at this; omega)
    injection ev with ev1 ev2 ev3
    subst ev1
    subst ev3
    obtain ⟨y0, y1, y2⟩ := hr.cellC HA.out.1
    have hrb := hr.blk
    have fz : w1.frozen? ⟨g, a * 3 + 2, none⟩ = false := by simp [World.frozen?, hrb]
    have hgl := hr.lt
    have hne : g ≠ gm := fun e0 => H1.out.1.offC (by rw [← e0]; rfl)
    have HGM := hid_of (And.intro H1.out.1.lt (And.intro hgl hne))
    have HFIN : Hid (∀ W, Below w1.heap.size w1 W → MG B (W.setCell ⟨g, a * 3 + 2, none⟩ (.int .i64 (ads H d))) gm t F vk (.slice (some ⟨g, 0, none⟩) n cv) c k (putA C a (ads H d)) H ∧ Below B w (W.setCell ⟨g, a * 3 + 2, none⟩ (.int .i64 (ads H d)))) := fun W hW => by
      refine ⟨(H1.out.1.later hW).adds HA.out.1 _, ?_⟩
      have hB1 := H1.out.2.2.size
      have hgB := (H1.out.1.ownc.lt (k := g) rfl).1
      have hB2 := HM.out.2
      exact below_trans (below_trans H1.out.2.2 (below_mono hW (by omega))) ((Only.set W g _ _).below (by have := hW.size; omega) (fun x hx => by simp at hx; omega))
    have HYC : Hid (∀ W, Below w1.heap.size w1 W → ∃ u, W.cell? ⟨g, a * 3 + 2, none⟩ = some u ∧ W.frozen? ⟨g, a * 3 + 2, none⟩ = false) := fun W hW => ⟨_, (hW.cell (p := ⟨g, a * 3 + 2, none⟩) hgl).trans y2, (hW.frozen (p := ⟨g, a * 3 + 2, none⟩) hgl).trans fz⟩
    clear hrb hr y0 y1 hp ev2
    go_wp2_with fail
    go_region_held3 (fun w' => w'.cell? ⟨gm, 3, none⟩ = some (.slice (some ⟨g, 0, none⟩) n cv) ∧ w'.cell? ⟨gm, 2, none⟩ = some (.pointer (some ⟨t, 0, none⟩))) (first | (with_reducible exact ⟨q3, q2⟩) | (with_reducible exact KA.out) | (exact KB.out _) | go_keep) (first | (go_at_call 54; refine (HSI.out _ (bstep H1.out.2.1 (Below.refl _ _).drew)).mono ?_; rintro e w2 ⟨rfl, hb2⟩; have HB2 : Hid (Below w1.heap.size w1 w2) := bstep (Below.refl _ _).drew hb2; have KA : Hid (w2.cell? ⟨gm, 3, none⟩ = some (.slice (some ⟨g, 0, none⟩) n cv) ∧ w2.cell? ⟨gm, 2, none⟩ = some (.pointer (some ⟨t, 0, none⟩))) := ⟨(HB2.out.cell (p := ⟨gm, 3, none⟩) HGM.out.1).trans q3, (HB2.out.cell (p := ⟨gm, 2, none⟩) HGM.out.1).trans q2⟩; obtain ⟨yu, y3, y4⟩ := HYC.out w2 HB2.out; have KB : Hid (∀ u, (w2.setCell ⟨g, a * 3 + 2, none⟩ u).cell? ⟨gm, 3, none⟩ = some (.slice (some ⟨g, 0, none⟩) n cv) ∧ (w2.setCell ⟨g, a * 3 + 2, none⟩ u).cell? ⟨gm, 2, none⟩ = some (.pointer (some ⟨t, 0, none⟩))) := fun u => (by have ho := Only.set w2 g (a * 3 + 2) u; have hb := ho.block gm (Nat.lt_of_lt_of_le HGM.out.1 HB2.out.size) (by simpa [eq_comm] using HGM.out.2.2); exact ⟨(World.cell?_of_block hb).trans KA.out.1, (World.cell?_of_block hb).trans KA.out.2⟩); clear hb2))
    go_wp2_with fail
    go_end0
    obtain ⟨f1, f2⟩ := HFIN.out w2 HB2.out
    exact ⟨rfl, f2, _, f1, .inl ⟨a, HA.out.1, HA.out.2, rfl⟩⟩
  · have HNO := hid_of hno
    clear hno
    go_wp2_with fail
    go_end0
    exact ⟨rfl, H1.out.2.2, C, H1.out.1, .inr ⟨HNO.out, rfl⟩⟩
end Go.Proofs.YtbaheiimcnfaaaaGreat

namespace Go.Proofs.YtbaheiimcnfaaaaGreat
open Go.RowKit Go.Maps
attribute [local go_sem] Oper.semAt_some

def StP (B : Nat) (w : World) (gm : Nat) (l : List Fl) (k : List (List UInt8)) (e : Ending) (w' : World) : Prop :=
  e = .returned (.tuple #[]) ∧ ∃ t F vk vc, MG B w' gm t F vk vc (cst l k) k (cdl l k) (hid l k) ∧ Below B w w'
/-- what the files give -/
structure Fok2 (l : List Fl) : Prop where
  fls : Fls l
  top : ∀ f ∈ l, f.size ≤ 4611686018427387904
theorem Fok2.szs {l : List Fl} (h : Fok2 l) (k : List (List UInt8)) : Szs (hid l k) := (Szs.of h.top).sub fun _ hf => (List.mem_filter.1 hf).1
theorem Fok2.pos {l : List Fl} (h : Fok2 l) (k : List (List UInt8)) : ∀ f ∈ hid l k, 0 ≤ f.size := fun f hf => (h.fls f (List.mem_filter.1 hf).1).2.2
/-- what is known of the best candidate -/
structure Bst (l : List Fl) (k : List (List UInt8)) (b : Nat) (d : List UInt8) : Prop where
  lt : b < (norm (cds k)).length
  at' : (norm (cds k))[b] = d
  mem : d ∈ cds k
  ok : okP d = true
  low : ∀ q ∈ cds k, abvV d q = false
  stp : stp l k = wid d false k
  cone : coneE (wid d false k) = 0
  cost : tog (cst l k) (ads (hid l k) d) = cst l (wid d false k)
  hid : (hid l k).filter (fun f => !abvV d f.path) = hid l (wid d false k)
  left : but (norm (cds k)) b = norm (cds (wid d false k))
theorem Bst.of {l : List Fl} {k : List (List UInt8)} (hl : Fls l) (h : coneE k = 0) {b : Nat} (hf : Fst (cst l k) (cdl l k) b (cdl l k).length) : ∃ d, Bst l k b d := by
  obtain ⟨hb, hd, hbest⟩ := best_of hl h hf
  have hlow : ∀ q ∈ cds k, abvV (norm (cds k))[b] q = false := fun q hq => best_low hl h hd hbest hq
  obtain ⟨_, _, _, _, _, _, hok, _⟩ := cone_two h hd
  exact ⟨_, hb, rfl, hd, hok, hlow, stp_best hd hbest, (wid_two h hd).1, (cw_eq hl h hd).symm, (hid_wid hl h hd).symm, norm_but h hb hlow⟩
theorem Bst.start {l : List Fl} {k : List (List UInt8)} {b : Nat} {d : List UInt8} (h : Bst l k b d) : but (cdl l k) b = (norm (cds (wid d false k))).map (cnd (mxd l k (wid d false k) d d)) := by
  unfold cdl
  rw [but_map, h.left]
  exact map_same fun p _ => (mxd_start l k _ d p).symm
theorem Bst.fin {l : List Fl} {k : List (List UInt8)} {b : Nat} {d : List UInt8} (hl : Fls l) (hk : coneE k = 0) (h : Bst l k b d) : (norm (cds (wid d false k))).map (cnd (mxd l k (wid d false k) d [])) = cdl l (wid d false k) := by
  unfold cdl
  refine map_same fun p hp => ?_
  rw [mem_norm, cds_wid hk h.mem h.low] at hp
  exact mxd_end hl hk h.mem hp.2 (h.low p hp.1)
theorem dir_short {c : List UInt8} (h : okP c = true) (hn : c ≠ []) : (dir c).length < c.length := by
  have h1 := abv_dir h hn
  obtain ⟨r, hr, e⟩ := (abvV_iff _ _).1 h1
  rcases Nat.lt_or_ge (dir c).length c.length with h2 | h2
  · exact h2
  · exfalso
    have h3 : dir c = c := by
      unfold dir at h2 ⊢
      split
      · rename_i h4
        rw [if_pos h4] at h2
        simp at h2
        exact absurd h2 hn
      · rename_i h4
        rw [if_neg h4] at h2
        rw [List.take_of_length_le]
        rw [List.length_take] at h2
        omega
    rw [h3, abv_irr] at h1
    cases h1
/-- one directory asked again -/
theorem mxd_ask {l : List Fl} {k k' : List (List UInt8)} {d c : List UInt8} (hc : okP c = true) (hn : c ≠ []) (hd : c = d ∨ abvV c d = true) {N : List (List UInt8)} (hN : Up N) {C' : List Cnd}
    (h : (∃ i, ∃ hi : i < (N.map (cnd (mxd l k k' d c))).length, ((N.map (cnd (mxd l k k' d c)))[i]'hi).p = dir c ∧ C' = putA (N.map (cnd (mxd l k k' d c))) i (ads (Go.Proofs.YtbaheiimcnfaaaaGreat.hid l k') (dir c))) ∨ ((∀ x ∈ N.map (cnd (mxd l k k' d c)), x.p ≠ dir c) ∧ C' = N.map (cnd (mxd l k k' d c)))) :
    C' = N.map (cnd (mxd l k k' d (dir c))) := by
  rcases h with ⟨i, hi, h1, rfl⟩ | ⟨h1, rfl⟩
  · have hi' : i < N.length := by simpa using hi
    rw [List.getElem_map] at h1
    have h1' : N[i] = dir c := h1
    have := putA_map (f := mxd l k k' d c) (g := mxd l k k' d (dir c)) hN hi' (fun p _ hp => mxd_next hc hn (by rw [← h1']; exact hp))
    rw [← this, h1', mxd_at hc hn hd]
  · exact (map_same fun p hp => mxd_next hc hn (fun e => h1 _ (List.mem_map.2 ⟨p, hp, rfl⟩) e)).symm
theorem cdl_sm {f : List UInt8 → Int} {k : List (List UInt8)} (sk : Sm k) : ((norm (cds k)).map (cnd f)).length ≤ 4000000 ∧ ∀ x ∈ (norm (cds k)).map (cnd f), x.p.length ≤ 1000000000 := by
  have h := (cds_sm sk).norm
  refine ⟨by simpa using h.len, fun x hx => ?_⟩
  obtain ⟨p, hp, rfl⟩ := List.mem_map.1 hx
  exact h.each p hp
end Go.Proofs.YtbaheiimcnfaaaaGreat
