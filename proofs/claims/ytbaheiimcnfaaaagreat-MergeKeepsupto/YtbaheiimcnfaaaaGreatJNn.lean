/-
  How far cones have been merged, in memory.
  The candidates as a list, and what a step makes of them.
-/
import Derived.Test.YtbaheiimcnfaaaaGreatJNh
import Derived.Test.YtbaheiimcnfaaaaGreatJNk
import Derived.Test.YtbaheiimcnfaaaaGreatJOe
namespace Go.Proofs.YtbaheiimcnfaaaaGreat
open Go.RowKit Go.Maps

/-- blocks of cells that are no tree's -/
def Oth (w : World) (S : List Nat) : Prop := ∀ g ∈ S, ∃ cur e fr, w.heap[g]? = some (.cells cur e fr) ∧ e ≠ 120 ∧ e ≠ 112
theorem TR.cells {w w' : World} {F : Nat → Prop} {t N : Nat} {L : List Fl} {S : List Nat} (h : TR w F t L N) (ho : Only S w w') (hS : Oth w S) : TR w' F t L N := by
  obtain ⟨h1, ⟨A, M, h2, h3⟩, h4, h5⟩ := h
  have hnode : ∀ {g : Nat} {m : Option Nat} {c a o : Nat}, ND w g m c a o → w'.heap[g]? = w.heap[g]? := fun {g m c a o} n =>
    ho.block g n.lt fun hm => by
      obtain ⟨cur, e, fr, hh, he, _⟩ := hS g hm
      rw [n.blk] at hh
      cases hh
      exact he rfl
  have hmap : ∀ {b N : Nat} {G : List UInt8 → Option Nat}, MP w N b G → w'.heap[b]? = w.heap[b]? := fun {b N G} n =>
    ho.block b n.lt fun hm => by
      obtain ⟨cur, e, fr, hh, he, _⟩ := hS b hm
      obtain ⟨_, _, ⟨es, clock, hb, _⟩, _⟩ := n
      rw [hb] at hh; cases hh
  have ht : w'.heap[t]? = w.heap[t]? := ho.block t (Array.getElem?_eq_some_iff.1 h3).1 fun hm => by
    obtain ⟨cur, e, fr, hh, _, he⟩ := hS t hm
    rw [h3] at hh
    cases hh
    exact he rfl
  refine ⟨h1, ⟨A, M, ⟨fun q c a o e => ?_, fun q s e => ?_, h2.inj, h2.injM⟩, ht.trans h3⟩, h4, fun k hk => Nat.lt_of_lt_of_le (h5 k hk) ho.size⟩
  · obtain ⟨a1, a2, a3, a4⟩ := h2.dirs q c a o e
    exact ⟨a1.block (hnode a1), a2.block (hmap a2), a3, a4⟩
  · obtain ⟨a1, a2⟩ := h2.files q s e
    exact ⟨a1.block (hnode a1), a2⟩
theorem OwnC.ak {base : Nat} {w w' : World} {v : Value} {l : List Cnd} (h : OwnC base w v l) (k : AK w w') : OwnC base w' v l := by
  rcases h with ⟨h0, h | ⟨g, cap, cur, rfl, hb, hg, hr⟩⟩
  · exact ⟨h0, .inl h⟩
  · exact ⟨h0, .inr ⟨g, cap, cur, rfl, hb, (k.block _ _ _ _ hg (by decide)).trans hg, hr⟩⟩
theorem Own.kind {base : Nat} {w : World} {v : Value} {l : List (List UInt8)} (h : Own base w v l) {g : Nat} (hg : v.ownBlock = some g) : ∃ cur, w.heap[g]? = some (.cells cur 9 (0, 0)) := by
  rcases h with ⟨h0, ⟨rfl, _⟩ | ⟨g', cap, cur, rfl, hb, hh, hr⟩⟩
  · cases hg
  · cases hg; exact ⟨cur, hh⟩
theorem OwnC.kind {base : Nat} {w : World} {v : Value} {l : List Cnd} (h : OwnC base w v l) {g : Nat} (hg : v.ownBlock = some g) : ∃ cur, w.heap[g]? = some (.cells cur 87 (0, 0)) := by
  rcases h with ⟨h0, ⟨rfl, _⟩ | ⟨g', cap, cur, rfl, hb, hh, hr⟩⟩
  · cases hg
  · cases hg; exact ⟨cur, hh⟩
/-- the state: block gm -/
structure MG (B : Nat) (w : World) (gm t : Nat) (F : Nat → Prop) (vk vc : Value) (c : Int) (k : List (List UInt8)) (C : List Cnd) (H : List Fl) : Prop where
  blk : w.heap[gm]? = some (.cells #[vk, .int .i64 c, .pointer (some ⟨t, 0, none⟩), vc] 67 (0, 0))
  ge : B ≤ gm
  own : Own B w vk k
  ownc : OwnC B w vc C
  tr : TR w F t H 12000
  low : ∀ i, F i → B ≤ i
section
variable {B : Nat} {w : World} {gm t : Nat} {F : Nat → Prop} {vk vc : Value} {c : Int} {k : List (List UInt8)} {C : List Cnd} {H : List Fl}
theorem MG.lt (h : MG B w gm t F vk vc c k C H) : gm < w.heap.size := (Array.getElem?_eq_some_iff.1 h.blk).1
theorem MG.later {w' : World} (h : MG B w gm t F vk vc c k C H) (hb : Below w.heap.size w w') : MG B w' gm t F vk vc c k C H :=
  ⟨(hb.block gm h.lt).trans h.blk, h.ge, h.own.later hb, h.ownc.later hb, h.tr.later hb, h.low⟩
theorem MG.left {w' : World} {H' : List Fl} (h : MG B w gm t F vk vc c k C H) (hl : Left w w' F t H' 12000) (hB : B ≤ w.heap.size) : MG B w' gm t (fun i => F i ∨ w.heap.size ≤ i ∧ i < w'.heap.size) vk vc c k C H' :=
  ⟨(hl.ak.block _ _ _ _ h.blk (by decide)).trans h.blk, h.ge, h.own.ak hl.ak, h.ownc.ak hl.ak, hl.tr, fun i hi => by
    rcases hi with hi | hi
    · exact h.low i hi
    · omega⟩
theorem MG.cells (h : MG B w gm t F vk vc c k C H) : w.cell? ⟨gm, 0, none⟩ = some vk ∧ w.cell? ⟨gm, 1, none⟩ = some (.int .i64 c) ∧ w.cell? ⟨gm, 2, none⟩ = some (.pointer (some ⟨t, 0, none⟩)) ∧ w.cell? ⟨gm, 3, none⟩ = some vc ∧ ∀ o, w.frozen? ⟨gm, o, none⟩ = false := by
  have hb := h.blk
  refine ⟨?_, ?_, ?_, ?_, fun o => by simp [World.frozen?, hb]⟩ <;> (simp only [World.cell?, hb]; rfl)
theorem Oth.self (h : MG B w gm t F vk vc c k C H) : Oth w [gm] := fun g hg => by
  rw [List.mem_singleton.1 hg]
  exact ⟨_, _, _, h.blk, by decide, by decide⟩
theorem MG.offK (h : MG B w gm t F vk vc c k C H) : vk.ownBlock ≠ some gm := fun e => by
  obtain ⟨cur, hc⟩ := h.own.kind e
  rw [h.blk] at hc; cases hc
theorem MG.offC (h : MG B w gm t F vk vc c k C H) : vc.ownBlock ≠ some gm := fun e => by
  obtain ⟨cur, hc⟩ := h.ownc.kind e
  rw [h.blk] at hc; cases hc
theorem MG.offKC (h : MG B w gm t F vk vc c k C H) {g : Nat} (h1 : vk.ownBlock = some g) (h2 : vc.ownBlock = some g) : False := by
  obtain ⟨cur, hc⟩ := h.own.kind h1
  obtain ⟨cur', hc'⟩ := h.ownc.kind h2
  rw [hc] at hc'; cases hc'
theorem own_set {w : World} {v : Value} {k : List (List UInt8)} {g o : Nat} {u : Value} (h : Own B w v k) (hn : v.ownBlock ≠ some g) : Own B (w.setCell ⟨g, o, none⟩ u) v k :=
  h.only (Only.set w g o u) fun x hx hm => by rw [List.mem_singleton.1 hm] at hx; exact hn hx
theorem ownc_set {w : World} {v : Value} {C : List Cnd} {g o : Nat} {u : Value} (h : OwnC B w v C) (hn : v.ownBlock ≠ some g) : OwnC B (w.setCell ⟨g, o, none⟩ u) v C :=
  h.only (Only.set w g o u) fun x hx hm => by rw [List.mem_singleton.1 hm] at hx; exact hn hx
/-- the cost, written -/
theorem MG.cost (h : MG B w gm t F vk vc c k C H) (c' : Int) : MG B (w.setCell ⟨gm, 1, none⟩ (.int .i64 c')) gm t F vk vc c' k C H :=
  ⟨by rw [hset _ _ _ _ h.blk]; rfl, h.ge, own_set h.own h.offK, ownc_set h.ownc h.offC, h.tr.cells (Only.set w gm 1 _) (Oth.self h), h.low⟩
/-- other cones, written -/
theorem MG.cones {w' : World} {v' : Value} {k' : List (List UInt8)} (h : MG B w gm t F vk vc c k C H) (ho : Own B w' v' k') (hon : Only vk.ownBlock.toList w w') (hv : v'.ownBlock = vk.ownBlock) : MG B (w'.setCell ⟨gm, 0, none⟩ v') gm t F v' vc c k' C H := by
  have hg : w'.heap[gm]? = w.heap[gm]? := hon.block gm h.lt fun hm => by
    have : vk.ownBlock = some gm := by simpa [eq_comm] using hm
    exact h.offK this
  have hoth : Oth w vk.ownBlock.toList := fun g hm => by
    have : vk.ownBlock = some g := by simpa [eq_comm] using hm
    obtain ⟨cur, hc⟩ := h.own.kind this
    exact ⟨_, _, _, hc, by decide, by decide⟩
  have hblk := hg.trans h.blk
  have hC : OwnC B w' vc C := h.ownc.only hon fun x hx hm => by
    have : vk.ownBlock = some x := by simpa [eq_comm] using hm
    exact h.offKC this hx
  refine ⟨by rw [hset _ _ _ _ hblk]; rfl, h.ge, own_set ho (by rw [hv]; exact h.offK), ownc_set hC h.offC, (h.tr.cells hon hoth).cells (Only.set w' gm 0 _) (fun g hg => ?_), h.low⟩
  rw [List.mem_singleton.1 hg]
  exact ⟨_, _, _, hblk, by decide, by decide⟩
/-- other candidates, written -/
theorem MG.cands {w' : World} {v' : Value} {C' : List Cnd} (h : MG B w gm t F vk vc c k C H) (ho : OwnC B w' v' C') (hon : Only vc.ownBlock.toList w w') (hv : v'.ownBlock ≠ some gm) : MG B (w'.setCell ⟨gm, 3, none⟩ v') gm t F vk v' c k C' H := by
  have hg : w'.heap[gm]? = w.heap[gm]? := hon.block gm h.lt fun hm => by
    have : vc.ownBlock = some gm := by simpa [eq_comm] using hm
    exact h.offC this
  have hoth : Oth w vc.ownBlock.toList := fun g hm => by
    have : vc.ownBlock = some g := by simpa [eq_comm] using hm
    obtain ⟨cur, hc⟩ := h.ownc.kind this
    exact ⟨_, _, _, hc, by decide, by decide⟩
  have hblk := hg.trans h.blk
  have hK : Own B w' vk k := h.own.only hon fun x hx hm => by
    have : vc.ownBlock = some x := by simpa [eq_comm] using hm
    exact h.offKC hx this
  refine ⟨by rw [hset _ _ _ _ hblk]; rfl, h.ge, own_set hK h.offK, ownc_set ho hv, (h.tr.cells hon hoth).cells (Only.set w' gm 3 _) (fun g hg => ?_), h.low⟩
  rw [List.mem_singleton.1 hg]
  exact ⟨_, _, _, hblk, by decide, by decide⟩
end
/-- what one candidate adds, written -/
def putA (C : List Cnd) (i : Nat) (a : Int) : List Cnd := C.modify i fun x => { x with a := a }
theorem cc_put : ∀ (C : List Cnd) (i : Nat) (a : Int) (rest : List Value), i < C.length → (cc C ++ rest).set (i * 3 + 2) (.int .i64 a) = cc (putA C i a) ++ rest
  | x :: C, 0, a, rest, _ => by simp [cc, putA]
  | x :: C, i + 1, a, rest, h => by
    have ih := cc_put C i a rest (by simpa using h)
    rw [show (i + 1) * 3 + 2 = i * 3 + 2 + 1 + 1 + 1 by omega]
    unfold putA at ih ⊢
    simp only [List.set_cons_succ, cc, List.cons_append, List.modify_succ_cons]
    rw [← ih]
theorem putA_len (C : List Cnd) (i : Nat) (a : Int) : (putA C i a).length = C.length := by unfold putA; simp
theorem RW.putA {B : Nat} {w : World} {g cap : Nat} {C : List Cnd} {rest : List Value} (h : RW 87 3 B w g cap (cc C) rest) {i : Nat} (hi : i < C.length) (a : Int) : RW 87 3 B (w.setCell ⟨g, i * 3 + 2, none⟩ (.int .i64 a)) g cap (cc (putA C i a)) rest := by
  refine ⟨?_, h.ge, h.cm, by have := h.sz; rw [cc_length] at this ⊢; rw [putA_len]; exact this⟩
  rw [hset _ _ _ _ h.blk]
  congr 2
  apply Array.toList_inj.1
  simp only [Array.toList_setIfInBounds]
  exact cc_put C i a rest hi
theorem MG.adds {B : Nat} {w : World} {gm t : Nat} {F : Nat → Prop} {vk : Value} {c : Int} {k : List (List UInt8)} {C : List Cnd} {H : List Fl} {g n cap : Nat} (h : MG B w gm t F vk (.slice (some ⟨g, 0, none⟩) n cap) c k C H) {i : Nat} (hi : i < C.length) (a : Int) : MG B (w.setCell ⟨g, i * 3 + 2, none⟩ (.int .i64 a)) gm t F vk (.slice (some ⟨g, 0, none⟩) n cap) c k (putA C i a) H := by
  obtain ⟨g', cap', rest, e, hr⟩ := RW.ofC h.ownc (fun e0 => by subst e0; simp at hi)
  injection e with e1 e2 e3
  injection e1 with e1
  injection e1 with e1 _ _
  subst e1
  subst e2
  subst e3
  have hoff := h.offC
  have hK : vk.ownBlock ≠ some g := fun e0 => h.offKC e0 rfl
  refine ⟨?_, h.ge, own_set h.own hK, ?_, h.tr.cells (Only.set w g _ _) (fun x hx => ?_), h.low⟩
  · rw [(Only.set w g (i * 3 + 2) (.int .i64 a)).block gm h.lt (fun hm => hoff (by rw [List.mem_singleton.1 hm]; rfl))]
    exact h.blk
  · have := (hr.putA hi a).ownC
    rwa [putA_len] at this
  · rw [List.mem_singleton.1 hx]
    exact ⟨_, _, _, hr.blk, by decide, by decide⟩
end Go.Proofs.YtbaheiimcnfaaaaGreat

namespace Go.Proofs.YtbaheiimcnfaaaaGreat

def cnd (f : List UInt8 → Int) (p : List UInt8) : Cnd := ⟨p, (dep p : Int), f p⟩
def cdl (l : List Fl) (k : List (List UInt8)) : List Cnd := (norm (cds k)).map (cnd (ads (hid l k)))
theorem map_up {f : List UInt8 → Int} {N : List (List UInt8)} (h : Up N) : (N.map (cnd f)).Pairwise fun a b => cf a.p b.p < 0 := by
  rw [List.pairwise_map]
  exact h
theorem cdl_up (l : List Fl) (k : List (List UInt8)) : (cdl l k).Pairwise fun a b => cf a.p b.p < 0 := map_up (up_norm _)
theorem cdl_len (l : List Fl) (k : List (List UInt8)) : (cdl l k).length = (norm (cds k)).length := by unfold cdl; simp
theorem best_of {l : List Fl} {k : List (List UInt8)} (hl : Fls l) (h : coneE k = 0) {b : Nat} (hf : Fst (cst l k) (cdl l k) b (cdl l k).length) : ∃ hb : b < (norm (cds k)).length, (norm (cds k))[b] ∈ cds k ∧ ∀ p ∈ cds k, p ≠ (norm (cds k))[b] → btr l k (norm (cds k))[b] p = true := by
  obtain ⟨hb, h1, h2⟩ := hf
  have hb' : b < (norm (cds k)).length := by rw [← cdl_len l k]; exact hb
  have hd : (norm (cds k))[b] ∈ cds k := (mem_norm _ _).1 (List.getElem_mem hb')
  refine ⟨hb', hd, fun p hp hne => ?_⟩
  obtain ⟨j, hj, rfl⟩ := List.mem_iff_getElem.1 ((mem_norm p _).2 hp)
  have hj' : j < (cdl l k).length := by rw [cdl_len]; exact hj
  have e1 : (cdl l k)[b] = cnd (ads (hid l k)) (norm (cds k))[b] := List.getElem_map _
  have e2 : (cdl l k)[j] = cnd (ads (hid l k)) (norm (cds k))[j] := List.getElem_map _
  rw [btr_iff, cw_eq hl h hd, cw_eq hl h hp]
  rcases Nat.lt_trichotomy j b with hlt | rfl | hlt
  · have := h1 j hj' hlt
    rw [e1, e2] at this
    unfold plt cnd at this
    simp only at this
    omega
  · exact absurd rfl hne
  · have h3 := h2 j hj' (by omega) hj'
    rw [e1, e2] at h3
    unfold plt cnd at h3
    simp only at h3
    have h4 := up_get (up_norm (cds k)) hlt hj
    omega
/-- all but one -/
def but {α : Type} (N : List α) (b : Nat) : List α := N.take b ++ N.drop (b + 1)
theorem but_map {α β : Type} (f : α → β) (N : List α) (b : Nat) : but (N.map f) b = (but N b).map f := by unfold but; simp [List.map_take, List.map_drop]
theorem but_mem {N : List (List UInt8)} (h : Up N) {b : Nat} (hb : b < N.length) (x : List UInt8) : x ∈ but N b ↔ x ∈ N ∧ x ≠ N[b] := by
  have e : N = N.take b ++ N[b] :: N.drop (b + 1) := by simp
  have hu : Up (N.take b ++ N[b] :: N.drop (b + 1)) := by rw [← e]; exact h
  have hp := List.pairwise_append.1 hu
  have hp2 := List.pairwise_cons.1 hp.2.1
  unfold but
  constructor
  · intro hx
    rcases List.mem_append.1 hx with hx | hx
    · refine ⟨List.mem_of_mem_take hx, fun e2 => ?_⟩
      have := hp.2.2 x hx N[b] (List.mem_cons_self ..)
      rw [e2, cf_self] at this; omega
    · refine ⟨List.mem_of_mem_drop hx, fun e2 => ?_⟩
      have := hp2.1 x hx
      rw [e2, cf_self] at this; omega
  · rintro ⟨hx, hne⟩
    rw [e] at hx
    simp only [List.mem_append, List.mem_cons] at hx ⊢
    rcases hx with hx | hx | hx
    · exact .inl hx
    · exact absurd hx hne
    · exact .inr hx
theorem but_up {N : List (List UInt8)} (h : Up N) (b : Nat) : Up (but N b) := by
  unfold but
  refine List.Pairwise.sublist ?_ h
  have h2 : (N.take b ++ N.drop (b + 1)).Sublist (N.take b ++ N.drop b) := List.Sublist.append_left (by
    rw [← List.drop_drop]
    exact List.drop_sublist _ _) _
  rwa [List.take_append_drop] at h2
theorem norm_but {k : List (List UInt8)} (h : coneE k = 0) {b : Nat} (hb : b < (norm (cds k)).length) (hlow : ∀ q ∈ cds k, abvV (norm (cds k))[b] q = false) : but (norm (cds k)) b = norm (cds (wid (norm (cds k))[b] false k)) := by
  have hd : (norm (cds k))[b] ∈ cds k := (mem_norm _ _).1 (List.getElem_mem hb)
  refine (norm_of (but_up (up_norm _) b) fun x => ?_).symm
  rw [but_mem (up_norm _) hb, mem_norm, cds_wid h hd hlow]
/-- asked again from d up to c: what each adds -/
def mxd (l : List Fl) (k k' : List (List UInt8)) (d c p : List UInt8) : Int := if (abvV p d && !abvV p c) = true then ads (hid l k') p else ads (hid l k) p
theorem mxd_start (l : List Fl) (k k' : List (List UInt8)) (d p : List UInt8) : mxd l k k' d d p = ads (hid l k) p := by
  unfold mxd
  rw [if_neg (by cases abvV p d <;> simp)]
theorem mxd_end {l : List Fl} {k : List (List UInt8)} (hl : Fls l) (h : coneE k = 0) {d p : List UInt8} (hd : d ∈ cds k) (h1 : p ≠ d) (h2 : abvV d p = false) : mxd l k (wid d false k) d [] p = ads (hid l (wid d false k)) p := by
  unfold mxd
  rw [abv_nil, Bool.not_false, Bool.and_true]
  split
  · rfl
  · rename_i hn
    rw [hid_wid hl h hd, ads_stay h1 h2 (by simpa using hn)]
theorem mxd_next {l : List Fl} {k k' : List (List UInt8)} {d c p : List UInt8} (hc : okP c = true) (hn : c ≠ []) (hp : p ≠ dir c) : mxd l k k' d (dir c) p = mxd l k k' d c p := by
  unfold mxd
  have : abvV p c = abvV p (dir c) := by
    rw [Bool.eq_iff_iff, abv_in hc hn]
    exact ⟨fun h => h.resolve_left fun e => hp e.symm, .inr⟩
  rw [this]
theorem mxd_at {l : List Fl} {k k' : List (List UInt8)} {d c : List UInt8} (hc : okP c = true) (hn : c ≠ []) (hd : c = d ∨ abvV c d = true) : mxd l k k' d (dir c) (dir c) = ads (hid l k') (dir c) := by
  unfold mxd
  have h1 : abvV (dir c) d = true := by
    have := abv_dir hc hn
    rcases hd with e | e
    · rw [← e]; exact this
    · exact abv_trans this e
  rw [if_pos (by rw [h1, abv_irr]; rfl)]
theorem putA_map {f g : List UInt8 → Int} {N : List (List UInt8)} (h : Up N) {i : Nat} (hi : i < N.length) (hfg : ∀ p ∈ N, p ≠ N[i] → g p = f p) : putA (N.map (cnd f)) i (g N[i]) = N.map (cnd g) := by
  unfold putA
  apply List.ext_getElem
  · simp
  · intro j h1 h2
    simp only [List.getElem_modify, List.getElem_map]
    simp only [List.length_map] at h2
    by_cases e : i = j
    · subst e
      simp [cnd]
    · rw [if_neg e]
      unfold cnd
      have : N[j] ≠ N[i] := by
        intro e2
        rcases Nat.lt_or_ge i j with h3 | h3
        · have := up_get h h3 h2
          rw [e2, cf_self] at this; omega
        · have := up_get h (show j < i by omega) hi
          rw [e2, cf_self] at this; omega
      rw [hfg _ (List.getElem_mem h2) this]
theorem map_same {f g : List UInt8 → Int} {N : List (List UInt8)} (h : ∀ p ∈ N, g p = f p) : N.map (cnd g) = N.map (cnd f) := by
  apply List.map_congr_left
  intro p hp
  unfold cnd
  rw [h p hp]
end Go.Proofs.YtbaheiimcnfaaaaGreat
