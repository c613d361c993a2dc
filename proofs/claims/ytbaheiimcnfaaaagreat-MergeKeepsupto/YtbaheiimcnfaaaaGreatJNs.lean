/-
  One step, in memory: the code.
  One step, and all steps: the package's calls.
-/
import Derived.Test.YtbaheiimcnfaaaaGreatJNq
namespace Go.Proofs.YtbaheiimcnfaaaaGreat
open Go.RowKit Go.Maps
attribute [local go_sem] Oper.semAt_some

def strN : Value → Nat
  | .string b => b.size
  | _ => 0
theorem strN_bs (l : List UInt8) : strN (.string (bs l)) = l.length := rfl
theorem MG.cellsO {B : Nat} {w w' : World} {gm t : Nat} {F : Nat → Prop} {vk vc : Value} {c : Int} {k : List (List UInt8)} {C : List Cnd} {H : List Fl} {S : List Nat} (h : MG B w gm t F vk vc c k C H) (hon : Only S w w') (hn : gm ∉ S) : w'.cell? ⟨gm, 0, none⟩ = some vk ∧ w'.cell? ⟨gm, 3, none⟩ = some vc ∧ w'.frozen? ⟨gm, 0, none⟩ = false ∧ w'.frozen? ⟨gm, 3, none⟩ = false := by
  have hb := (hon.block gm h.lt hn).trans h.blk
  refine ⟨?_, ?_, by simp [World.frozen?, hb], by simp [World.frozen?, hb]⟩ <;> (simp only [World.cell?, hb]; rfl)
theorem MG.nK {B : Nat} {w : World} {gm t : Nat} {F : Nat → Prop} {vk vc : Value} {c : Int} {k : List (List UInt8)} {C : List Cnd} {H : List Fl} (h : MG B w gm t F vk vc c k C H) : gm ∉ vk.ownBlock.toList := fun hm => h.offK (by simpa [eq_comm] using hm)
theorem MG.nC {B : Nat} {w : World} {gm t : Nat} {F : Nat → Prop} {vk vc : Value} {c : Int} {k : List (List UInt8)} {C : List Cnd} {H : List Fl} (h : MG B w gm t F vk vc c k C H) : gm ∉ vc.ownBlock.toList := fun hm => h.offC (by simpa [eq_comm] using hm)
theorem MG.below {B : Nat} {w w' : World} {gm t o : Nat} {F : Nat → Prop} {vk vc u : Value} {c : Int} {k : List (List UInt8)} {C : List Cnd} {H : List Fl} (h : MG B w gm t F vk vc c k C H) (hB : B ≤ w.heap.size) {S : List Nat} (hon : Only S w w') (hS : ∀ x ∈ S, B ≤ x) : Below B w (w'.setCell ⟨gm, o, none⟩ u) :=
  below_trans (hon.below hB hS) ((Only.set w' gm o u).below (Nat.le_trans hB hon.size) (fun x hx => by rw [List.mem_singleton.1 hx]; exact h.ge))
theorem MG.lowK {B : Nat} {w : World} {gm t : Nat} {F : Nat → Prop} {vk vc : Value} {c : Int} {k : List (List UInt8)} {C : List Cnd} {H : List Fl} (h : MG B w gm t F vk vc c k C H) : ∀ x ∈ vk.ownBlock.toList, B ≤ x := fun x hx => (h.own.lt (k := x) (by simpa [eq_comm] using hx)).1
theorem MG.lowC {B : Nat} {w : World} {gm t : Nat} {F : Nat → Prop} {vk vc : Value} {c : Int} {k : List (List UInt8)} {C : List Cnd} {H : List Fl} (h : MG B w gm t F vk vc c k C H) : ∀ x ∈ vc.ownBlock.toList, B ≤ x := fun x hx => (h.ownc.lt (k := x) (by simpa [eq_comm] using hx)).1
theorem cdel_c {B : Nat} {w : World} {v : Value} {C : List Cnd} (h : OwnC B w v C) (b : Nat) (hb : b < C.length) (hl : C.length ≤ 4000000) :
    ∃ g cap, v = .slice (some ⟨g, 0, none⟩) C.length cap ∧ Calls Tryz.prog 58 #[v, .int .i64 (b : Int), .int .i64 ((b : Int) + 1)] w fun e w' => ∃ a n cp, e = .returned (.slice a n cp) ∧ OwnC B w' (.slice a n cp) (but C b) ∧ (Value.slice a n cp).ownBlock = some g ∧ Only v.ownBlock.toList w w' := by
  obtain ⟨g, cap, rest, e, hr⟩ := RW.ofC h (fun e0 => by subst e0; simp at hb)
  subst e
  refine ⟨g, cap, rfl, (cdel_any hr b (C.length - (b + 1)) (by omega) hl).mono ?_⟩
  rintro e w' ⟨rfl, ⟨rest', hr'⟩, ho⟩
  refine ⟨_, _, _, rfl, ?_, rfl, ho⟩
  have := hr'.ownC
  have hlen : (C.take b ++ C.drop (b + 1)).length = b + (C.length - (b + 1)) := by simp; omega
  rw [hlen] at this
  exact this
set_option maxRecDepth 100000 in
set_option maxHeartbeats 8000000 in
theorem mstep_any {B : Nat} {w : World} {gm t : Nat} {F : Nat → Prop} {vk vc : Value} {l : List Fl} {k : List (List UInt8)} (hl : Fok2 l) (hk : coneE k = 0) (sk : Sm k) (h2 : 2 ≤ k.length) (h : MG B w gm t F vk vc (cst l k) k (cdl l k) (hid l k)) (hB : B ≤ w.heap.size) :
    Calls Tryz.prog 29 #[.pointer (some ⟨gm, 0, none⟩)] w (StP B w gm l (stp l k)) := by
  have hlen := cdl_len l k
  have hne : cdl l k ≠ [] := fun e0 => by
    have h3 : norm (cds k) = [] := List.eq_nil_of_length_eq_zero (by rw [← hlen, e0]; rfl)
    have h4 : cds k = [] := by
      cases e : cds k with
      | nil => rfl
      | cons a r =>
        exfalso
        have := (mem_norm a (cds k)).2 (by rw [e]; simp)
        rw [h3] at this; cases this
    rw [cds_nil] at h4
    omega
  have hcl : (cdl l k).length ≤ 4000000 := (cdl_sm (f := ads (hid l k)) sk).1
  have HLE := hid_of (least_any (gm := gm) (cost := cst l k) h.ownc hne hcl h.lt h.cells.2.1 (cst_pos hl.fls) (fun c hc => by
    obtain ⟨p, hp, rfl⟩ := List.mem_map.1 hc
    exact ads_pos (Fls.hid hl.fls)))
  have HBO := hid_of (fun b (hf : Fst (cst l k) (cdl l k) b (cdl l k).length) => Bst.of hl.fls hk hf)
  have HM := hid_of (And.intro h (And.intro hB (And.intro hl (And.intro hk (And.intro sk hcl)))))
  obtain ⟨av, cv, hvc⟩ := h.ownc.form
  obtain ⟨n, hn⟩ : ∃ n, (cdl l k).length = n := ⟨_, rfl⟩
  rw [hn] at hvc
  subst hvc
  have HN := hid_of hn
  obtain ⟨q0, q1, q2, q3, qf⟩ := h.cells
  clear h hl hk sk h2 hne hcl hlen hn q0 q1 q2 qf
  go_enter Tryz.func29, Tryz.ntmps29
  go_wp2_with fail
  refine HLE.out.mono ?_
  rintro e w1 ⟨b, rfl, hf, hb1⟩
  obtain ⟨d, hd⟩ := HBO.out b hf
  have HD := hid_of hd
  have H1 : Hid (MG B w1 gm t F vk (.slice av n cv) (cst l k) k (cdl l k) (hid l k) ∧ Below B w w1) := ⟨HM.out.1.later hb1, below_mono hb1 HM.out.2.1⟩
  clear hb1 hf hd q3
  have hbl : b < (cdl l k).length := by rw [cdl_len]; exact HD.out.lt
  obtain ⟨g, cap, rest, ev, hr⟩ := RW.ofC H1.out.1.ownc (fun e0 => by rw [e0] at hbl; simp at hbl)
  injection ev with ev1 ev2 ev3
  subst ev1
  subst ev3
  obtain ⟨y0, -, -⟩ := hr.cellC hbl
  have hyp : (cdl l k)[b].p = d := by
    have : (cdl l k)[b] = cnd (ads (hid l k)) ((norm (cds k))[b]'HD.out.lt) := List.getElem_map _
    rw [this, HD.out.at']; rfl
  rw [hyp] at y0
  obtain ⟨g', cap', ev', hcd⟩ := cdel_c H1.out.1.ownc b hbl HM.out.2.2.2.2.2
  injection ev' with ev1' ev2' ev3'
  injection ev1' with ev1'
  injection ev1' with ev1' _ _
  subst ev1'
  have HCD := hid_of hcd
  have i1 : (b : Int) < (n : Int) := by have := HN.out; omega
  have i2 : (0 : Int) ≤ (b : Int) := by omega
  have i3 : b < n := by have := HN.out; omega
  have i4 : n ≤ 4000000 := by have := HN.out; have := HM.out.2.2.2.2.2; omega
  obtain ⟨q0, q1, q2, q3, qf⟩ := H1.out.1.cells
  clear hr ev2 ev2' ev3' hcd hyp q0 q1 q2
  have qf3 := qf 3
  clear qf
  go_wp2_with fail
  refine HCD.out.mono ?_
  rintro e w2 ⟨a2, n2, c2, rfl, ho2, hb2, hon2⟩
  obtain ⟨z0, z3, -, f3⟩ := H1.out.1.cellsO hon2 H1.out.1.nC
  have H2 : Hid (MG B (w2.setCell ⟨gm, 3, none⟩ (.slice a2 n2 c2)) gm t F vk (.slice a2 n2 c2) (cst l k) k (but (cdl l k) b) (hid l k) ∧ Below B w (w2.setCell ⟨gm, 3, none⟩ (.slice a2 n2 c2)) ∧ B ≤ (w2.setCell ⟨gm, 3, none⟩ (.slice a2 n2 c2)).heap.size) := by
    have hB1 : B ≤ w1.heap.size := Nat.le_trans HM.out.2.1 H1.out.2.size
    have hbl2 := below_trans H1.out.2 (H1.out.1.below (o := 3) (u := .slice a2 n2 c2) hB1 hon2 H1.out.1.lowC)
    exact ⟨H1.out.1.cands ho2 hon2 (by rw [hb2]; intro e0; exact H1.out.1.offC (by rw [← e0]; rfl)), hbl2, Nat.le_trans HM.out.2.1 hbl2.size⟩
  obtain ⟨ak, ck, hvk, -⟩ := H1.out.1.own.bs.form
  obtain ⟨kn, hkn⟩ : ∃ kn, k.length = kn := ⟨_, rfl⟩
  rw [hkn] at hvk
  subst hvk
  have hdl := (okP_len HD.out.ok).1
  have HMA := hid_of (mergeAt_any H2.out.1.own HM.out.2.2.2.1 HM.out.2.2.2.2.1 d (by omega))
  clear ho2 hb2 hon2 q3 qf3 y0 hkn
  go_wp2_with fail
  refine HMA.out.mono ?_
  rintro e w4 ⟨v4, rfl, ho4, hon4, hob4⟩
  obtain ⟨a4, c4, hv4, -⟩ := ho4.bs.form
  obtain ⟨n4, hn4⟩ : ∃ n4, (wid d false k).length = n4 := ⟨_, rfl⟩
  rw [hn4] at hv4
  subst hv4
  clear z0 z3 f3
  obtain ⟨z0, z3, f0, -⟩ := H2.out.1.cellsO hon4 H2.out.1.nK
  have H5 : Hid (MG B (w4.setCell ⟨gm, 0, none⟩ (.slice a4 n4 c4)) gm t F (.slice a4 n4 c4) (.slice a2 n2 c2) (cst l k) (wid d false k) (but (cdl l k) b) (hid l k) ∧ Below B w (w4.setCell ⟨gm, 0, none⟩ (.slice a4 n4 c4))) :=
    ⟨H2.out.1.cones ho4 hon4 hob4, below_trans H2.out.2.1 (H2.out.1.below (o := 0) (u := .slice a4 n4 c4) H2.out.2.2 hon4 H2.out.1.lowK)⟩
  clear ho4 hon4 hob4 hn4
  go_wp2_with fail
  clear z0 z3 f0
  generalize w4.setCell ⟨gm, 0, none⟩ (.slice a4 n4 c4) = w5 at H5 ⊢
  obtain ⟨q0, q1, q2, q3, qf⟩ := H5.out.1.cells
  have qf1 := qf 1
  clear q0 q3 qf
  have HSI : Hid (∀ W, Below w5.heap.size w5 W → Calls Tryz.prog 54 #[.pointer (some ⟨t, 0, none⟩), .string (bs d)] W fun e w' => e = .returned (.int .i64 (ads (hid l k) d)) ∧ Below W.heap.size W w') := fun W hW => by
    rw [← sizeS_ads (L := hid l k) (HM.out.2.2.1.pos k) HD.out.ok]
    exact tsize_any (H5.out.1.later hW).tr d (by omega)
  have HTG := hid_of (fun W => together_any (cst l k) (ads (hid l k) d) W (cst_pos HM.out.2.2.1.fls) (ads_pos (Fls.hid HM.out.2.2.1.fls)))
  rw [HD.out.cost] at HTG
  have HG5 := hid_of H5.out.1.lt
  go_region_with (first | (go_at_call 54; refine (HSI.out _ (Below.refl _ _).drew).mono ?_; rintro e w6 ⟨rfl, hb6⟩; have HB6 : Hid (Below w5.heap.size w5 w6) := bstep (Below.refl _ _).drew hb6; have s1 : w6.cell? ⟨gm, 1, none⟩ = some (.int .i64 (cst l k)) := (HB6.out.cell (p := ⟨gm, 1, none⟩) HG5.out).trans q1; have s2 : w6.frozen? ⟨gm, 1, none⟩ = false := (HB6.out.frozen (p := ⟨gm, 1, none⟩) HG5.out).trans qf1; clear hb6) | (go_at_call 47; refine (HTG.out _).mono ?_; rintro e w6 ⟨rfl, rfl⟩))
  all_goals
    have H8 : Hid (MG B (w6.setCell ⟨gm, 1, none⟩ (.int .i64 (cst l (wid d false k)))) gm t F (.slice a4 n4 c4) (.slice a2 n2 c2) (cst l (wid d false k)) (wid d false k) ((norm (cds (wid d false k))).map (cnd (mxd l k (wid d false k) d d))) (hid l k) ∧ Below B w (w6.setCell ⟨gm, 1, none⟩ (.int .i64 (cst l (wid d false k)))) ∧ B ≤ (w6.setCell ⟨gm, 1, none⟩ (.int .i64 (cst l (wid d false k)))).heap.size) := by
      have hB5 : B ≤ w5.heap.size := Nat.le_trans HM.out.2.1 H5.out.2.size
      have hbl := below_trans H5.out.2 (H5.out.1.below (o := 1) (u := .int .i64 (cst l (wid d false k))) hB5 (Only.of_below HB6.out []) (by simp))
      have hmg := (H5.out.1.later HB6.out).cost (cst l (wid d false k))
      rw [HD.out.start] at hmg
      exact ⟨hmg, hbl, Nat.le_trans HM.out.2.1 hbl.size⟩
    clear s1 s2 q1 q2 qf1
    generalize w6.setCell ⟨gm, 1, none⟩ (.int .i64 (cst l (wid d false k))) = w8 at H8 ⊢
    obtain ⟨q0, q1, q2, q3, qf⟩ := H8.out.1.cells
    clear q0 q1 q3 qf
    have HSH := hid_of (show_any 12 d HD.out.ok (by omega) w8 F t (hid l k) H8.out.1.tr (HM.out.2.2.1.szs k))
    rw [HD.out.hid] at HSH
    go_wp2_with fail
    refine HSH.out.mono ?_
    rintro e w9 ⟨rfl, hl9⟩
    have H9 : Hid (MG B w9 gm t (fun i => F i ∨ w8.heap.size ≤ i ∧ i < w9.heap.size) (.slice a4 n4 c4) (.slice a2 n2 c2) (cst l (wid d false k)) (wid d false k) ((norm (cds (wid d false k))).map (cnd (mxd l k (wid d false k) d d))) (hid l (wid d false k)) ∧ Below B w w9) := ⟨H8.out.1.left hl9 H8.out.2.2, below_trans H8.out.2.1 (hl9.below H8.out.2.2 H8.out.1.low)⟩
    generalize (fun i => F i ∨ w8.heap.size ≤ i ∧ i < w9.heap.size) = F9 at H9
    clear hl9 q2
    have HSM : Hid (Sm (wid d false k)) := by
      refine ⟨?_, fun x hx => ?_⟩
      · have := (wid_two HM.out.2.2.2.1 HD.out.mem).2.1
        have := HM.out.2.2.2.2.1.len
        omega
      · rcases wid_mem hx with ⟨rfl, _, _⟩ | ⟨hx, _⟩
        · omega
        · exact HM.out.2.2.2.2.1.each x hx
    go_wp2_with fail
    go_loopw [4] (fun s4 wr => ∃ c : List UInt8, s4 = .string (bs c) ∧ okP c = true ∧ (c = d ∨ abvV c d = true) ∧ MG B wr gm t F9 (.slice a4 n4 c4) (.slice a2 n2 c2) (cst l (wid d false k)) (wid d false k) ((norm (cds (wid d false k))).map (cnd (mxd l k (wid d false k) d c))) (hid l (wid d false k)) ∧ Below B w wr) (fun s4 _ => strN s4)
    case atStart => exact ⟨d, rfl, HD.out.ok, .inl rfl, H9.out.1, H9.out.2⟩
    case round =>
      obtain ⟨c, rfl, hc, hcd, hmg, hb⟩ := hrel
      have HR := hid_of (And.intro hc (And.intro hcd (And.intro hmg hb)))
      clear hc hcd hmg hb
      by_cases h0 : c = []
      · subst h0
        have HFIN : Hid (MG B wr gm t F9 (.slice a4 n4 c4) (.slice a2 n2 c2) (cst l (stp l k)) (stp l k) (cdl l (stp l k)) (hid l (stp l k)) ∧ Below B w wr) := by
          have q := HR.out.2.2.1
          rw [HD.out.fin HM.out.2.2.1.fls HM.out.2.2.2.1, ← HD.out.stp] at q
          exact ⟨q, HR.out.2.2.2⟩
        have he0 : (bs ([] : List UInt8)).toList.isEmpty = true := isE []
        go_wp2_with fail
        go_end0
        exact ⟨rfl, t, F9, _, _, HFIN.out.1, HFIN.out.2⟩
      · have hcl := (okP_len HR.out.1).1
        have HDI := hid_of (dir_any c wr (by omega))
        have HAS := hid_of (ask_any HR.out.2.2.1 (Nat.le_trans HM.out.2.1 HR.out.2.2.2.size) (map_up (up_norm _)) (cdl_sm HSM.out).1 (cdl_sm HSM.out).2 (HM.out.2.2.1.pos _) (dir c) (okP_dir HR.out.1))
        have HN2 : Hid (∀ C', ((∃ i, ∃ hi : i < ((norm (cds (wid d false k))).map (cnd (mxd l k (wid d false k) d c))).length, (((norm (cds (wid d false k))).map (cnd (mxd l k (wid d false k) d c)))[i]'hi).p = dir c ∧ C' = putA ((norm (cds (wid d false k))).map (cnd (mxd l k (wid d false k) d c))) i (ads (hid l (wid d false k)) (dir c))) ∨ ((∀ x ∈ (norm (cds (wid d false k))).map (cnd (mxd l k (wid d false k) d c)), x.p ≠ dir c) ∧ C' = (norm (cds (wid d false k))).map (cnd (mxd l k (wid d false k) d c)))) → C' = (norm (cds (wid d false k))).map (cnd (mxd l k (wid d false k) d (dir c)))) := fun C' hC' => mxd_ask HR.out.1 h0 HR.out.2.1 (up_norm _) hC'
        have HNX : Hid (okP (dir c) = true ∧ (dir c = d ∨ abvV (dir c) d = true) ∧ (dir c).length < c.length) := by
          refine ⟨okP_dir HR.out.1, .inr ?_, dir_short HR.out.1 h0⟩
          have h1 := abv_dir HR.out.1 h0
          rcases HR.out.2.1 with e | e
          · rw [← e]; exact h1
          · exact abv_trans h1 e
        have he := isE c
        have he2 : c.isEmpty = false := by cases c with | nil => exact absurd rfl h0 | cons _ _ => rfl
        go_wp2_with fail
        refine HDI.out.mono ?_
        rintro e w10 ⟨rfl, rfl⟩
        go_wp2_with fail
        refine HAS.out.mono ?_
        rintro e w11 ⟨rfl, hb11, C', hmg11, hC'⟩
        have H11 : Hid (MG B w11 gm t F9 (.slice a4 n4 c4) (.slice a2 n2 c2) (cst l (wid d false k)) (wid d false k) ((norm (cds (wid d false k))).map (cnd (mxd l k (wid d false k) d (dir c)))) (hid l (wid d false k)) ∧ Below B w w11) := by
          rw [HN2.out C' hC'] at hmg11
          exact ⟨hmg11, below_trans HR.out.2.2.2 hb11⟩
        clear hb11 hmg11 hC'
        go_wp2_with fail
        go_roundw
        case rel => exact ⟨dir c, rfl, HNX.out.1, HNX.out.2.1, H11.out.1, H11.out.2⟩
        case measure => rw [strN_bs, strN_bs]; exact HNX.out.2.2
end Go.Proofs.YtbaheiimcnfaaaaGreat

namespace Go.Proofs.YtbaheiimcnfaaaaGreat
open Go.RowKit Go.Maps
attribute [local go_sem] Oper.semAt_some

theorem fok2 {l : List Fl} (h : validE l = 0) (sm : FSm l) : Fok2 l := by
  obtain ⟨h1, h2, _⟩ := valid_fls h sm
  exact ⟨h1, h2⟩
theorem stp_sm {l : List Fl} {k : List (List UInt8)} (hk : coneE k = 0) (sk : Sm k) : Sm (stp l k) := by
  by_cases h2 : 2 ≤ k.length
  · obtain ⟨d, hd, e, _⟩ := stp_at (l := l) h2
    obtain ⟨_, _, _, _, _, _, hok, _⟩ := cone_two hk hd
    rw [e]
    refine ⟨?_, fun x hx => ?_⟩
    · have := (wid_two hk hd).2.1
      have := sk.len
      omega
    · rcases wid_mem hx with ⟨rfl, _, _⟩ | ⟨hx, _⟩
      · have := (okP_len hok).1
        omega
      · exact sk.each x hx
  · rw [stp_short (by omega)]; exact sk
set_option maxRecDepth 100000 in
set_option maxHeartbeats 4000000 in
theorem mStep_any {w : World} {v u : Value} {l : List Fl} {k : List (List UInt8)} (h : FS w v l) (sm : FSm l) (hu : SS w u k) (sk : Sm k) : Calls Tryz.prog 10 #[v, u] w (TwoS w (mstp l k)) := by
  by_cases he : mErr l k = 0
  · have HB := hid_of (begin_good h sm hu sk he)
    obtain ⟨hv, hk⟩ := mErr_zero.1 he
    have HS := hid_of (fun (W : World) (gm t : Nat) (F : Nat → Prop) (vk vc : Value) (h2 : 2 ≤ k.length) (hm : MG w.heap.size W gm t F vk vc (cst l k) k (cdl l k) (hid l k)) (hB : w.heap.size ≤ W.heap.size) => mstep_any (fok2 hv sm) hk sk h2 hm hB)
    have HD : Hid (TwoS w (mstp l k) = TwoS w (stp l k, 0)) := by show _ = _; unfold mstp; rw [if_pos he]
    have HSH := hid_of (fun h2 : k.length < 2 => stp_short (l := l) h2)
    obtain ⟨n, hn⟩ : ∃ n, k.length = n := ⟨_, rfl⟩
    have HN := hid_of hn
    clear h sm hu sk he hv hk hn
    go_enter Tryz.func10, Tryz.ntmps10
    go_wp2_with fail
    refine HB.out.mono ?_
    rintro e w1 ⟨gm, t, F, vk, vc, rfl, hm, hb⟩
    obtain ⟨ak, ck, hvk, -⟩ := hm.own.bs.form
    rw [HN.out] at hvk
    subst hvk
    have H1 := hid_of (And.intro hm hb)
    obtain ⟨q0, -, -, -, -⟩ := hm.cells
    clear hm hb
    by_cases h2 : 2 ≤ n
    · have k1 : (1 : Int) < (n : Int) := by omega
      have HST := hid_of (HS.out w1 gm t F _ vc (by rw [HN.out]; exact h2) H1.out.1 H1.out.2.size)
      go_wp2_with fail
      refine HST.out.mono ?_
      rintro e w2 ⟨rfl, t2, F2, vk2, vc2, hm2, hb2⟩
      obtain ⟨ak2, ck2, hvk2, -⟩ := hm2.own.bs.form
      obtain ⟨n2, hn2⟩ : ∃ n2, (stp l k).length = n2 := ⟨_, rfl⟩
      rw [hn2] at hvk2
      subst hvk2
      have H2 := hid_of (And.intro hm2 (below_trans H1.out.2 hb2))
      clear q0
      obtain ⟨q0, -, -, -, -⟩ := hm2.cells
      clear hm2 hb2 hn2
      go_wp2_with fail
      go_ret2
      rw [HD.out]
      exact ⟨_, rfl, H2.out.1.own, H2.out.2⟩
    · have k1 : ¬ ((1 : Int) < (n : Int)) := by omega
      have HE : Hid (stp l k = k) := HSH.out (by rw [HN.out]; omega)
      go_wp2_with fail
      go_ret2
      rw [HD.out, HE.out]
      exact ⟨_, rfl, H1.out.1.own, H1.out.2⟩
  · have HB := hid_of (begin_bad h sm hu sk he)
    have HD : Hid (TwoS w (mstp l k) = TwoS w ([], mErr l k)) := by show _ = _; unfold mstp; rw [if_neg he]
    obtain ⟨m, hm⟩ : ∃ m, mErr l k = m := ⟨_, rfl⟩
    rw [hm] at HB HD he
    clear h sm hu sk hm
    go_enter Tryz.func10, Tryz.ntmps10
    go_wp2_with fail
    refine HB.out.mono ?_
    rintro e w1 ⟨rfl, hb⟩
    have H1 := hid_of hb
    clear hb
    go_wp2_with fail
    go_ret2
    rw [HD.out]
    exact ⟨_, rfl, Own.nil _ _, H1.out⟩
/-- how many cones the state has -/
def mlen (w : World) (gm : Nat) : Nat := match w.cell? ⟨gm, 0, none⟩ with
  | some (.slice _ n _) => n
  | _ => 0
theorem MG.mlen {B : Nat} {w : World} {gm t : Nat} {F : Nat → Prop} {vk vc : Value} {c : Int} {k : List (List UInt8)} {C : List Cnd} {H : List Fl} (h : MG B w gm t F vk vc c k C H) : mlen w gm = k.length := by
  obtain ⟨q0, -, -, -, -⟩ := h.cells
  obtain ⟨ak, ck, hvk, -⟩ := h.own.bs.form
  unfold Go.Proofs.YtbaheiimcnfaaaaGreat.mlen
  rw [q0, hvk]
/-- the state while there are too many -/
def DnS (w wr : World) (gm : Nat) (l : List Fl) (b : Nat) (k0 : List (List UInt8)) : Prop := ∃ t F vk vc k, MG w.heap.size wr gm t F vk vc (cst l k) k (cdl l k) (hid l k) ∧ coneE k = 0 ∧ Sm k ∧ dwn l b k = dwn l b k0 ∧ Below w.heap.size w wr
set_option maxRecDepth 100000 in
set_option maxHeartbeats 4000000 in
theorem mDown_any {w : World} {v u : Value} {l : List Fl} {k : List (List UInt8)} (b : Int) (h : FS w v l) (sm : FSm l) (hu : SS w u k) (sk : Sm k) (_hb0 : -9223372036854775808 ≤ b) (_hb1 : b ≤ 9223372036854775807) : Calls Tryz.prog 17 #[v, u, .int .i64 b] w (TwoS w (mdwn l k b)) := by
  by_cases he : mErr l k = 0
  · have HB := hid_of (begin_good h sm hu sk he)
    obtain ⟨hv, hk⟩ := mErr_zero.1 he
    have HL := hid_of (And.intro (fok2 hv sm) (And.intro hk sk))
    have HD : Hid (TwoS w (mdwn l k b) = TwoS w (if 1 ≤ b then (dwn l b.toNat k, 0) else ([], 6))) := by show _ = _; unfold mdwn; rw [if_pos he]
    clear h sm hu sk he hv hk
    by_cases h1 : 1 ≤ b
    · rw [if_pos h1] at HD
      obtain ⟨m, rfl⟩ : ∃ m : Nat, b = (m : Int) := ⟨b.toNat, by omega⟩
      rw [Int.toNat_natCast] at HD
      have hm1 : 1 ≤ m := by omega
      go_enter Tryz.func17, Tryz.ntmps17
      go_wp2_with fail
      refine HB.out.mono ?_
      rintro e w1 ⟨gm, t, F, vk, vc, rfl, hm, hb⟩
      have H1 : Hid (DnS w w1 gm l m k) := ⟨t, F, vk, vc, k, hm, HL.out.2.1, HL.out.2.2, rfl, hb⟩
      clear hm hb
      go_wp2_with fail
      go_loopw [] (fun wr => DnS w wr gm l m k) (fun wr => mlen wr gm)
      case atStart => exact H1.out
      case round =>
        obtain ⟨t, F, vk, vc, k1, hm, hk1, sk1, hd1, hb⟩ := hrel
        have HR := hid_of (And.intro hm (And.intro hk1 (And.intro sk1 (And.intro hd1 hb))))
        obtain ⟨ak, ck, hvk, -⟩ := hm.own.bs.form
        obtain ⟨n, hn⟩ : ∃ n, k1.length = n := ⟨_, rfl⟩
        rw [hn] at hvk
        subst hvk
        have HN := hid_of hn
        obtain ⟨q0, -, -, -, -⟩ := hm.cells
        clear hm hk1 sk1 hd1 hb hn
        by_cases hlt : m < n
        · have i1 : (m : Int) < (n : Int) := by omega
          have h2 : 2 ≤ k1.length := by rw [HN.out]; omega
          have HST := hid_of (mstep_any HL.out.1 HR.out.2.1 HR.out.2.2.1 h2 HR.out.1 HR.out.2.2.2.2.size)
          have HNX : Hid (coneE (stp l k1) = 0 ∧ Sm (stp l k1) ∧ dwn l m (stp l k1) = dwn l m k ∧ (stp l k1).length < k1.length) := ⟨stp_ok HR.out.2.1, stp_sm HR.out.2.1 HR.out.2.2.1, by rw [← dwn_step hm1 HR.out.2.1 (by rw [HN.out]; exact hlt)]; exact HR.out.2.2.2.1, (stp_fewer HR.out.2.1 h2).1⟩
          clear h2
          go_wp2_with fail
          refine HST.out.mono ?_
          rintro e w2 ⟨rfl, t2, F2, vk2, vc2, hm2, hb2⟩
          have H2 : Hid (DnS w w2 gm l m k ∧ mlen w2 gm < mlen wr gm) := ⟨⟨t2, F2, vk2, vc2, stp l k1, hm2, HNX.out.1, HNX.out.2.1, HNX.out.2.2.1, below_trans HR.out.2.2.2.2 hb2⟩, by rw [hm2.mlen, HR.out.1.mlen]; exact HNX.out.2.2.2⟩
          clear hm2 hb2
          go_wp2_with fail
          go_roundw
          case rel => exact H2.out.1
          case measure => exact H2.out.2
        · have i1 : ¬ ((m : Int) < (n : Int)) := by omega
          have HE : Hid (dwn l m k = k1) := by
            show _ = _
            rw [← HR.out.2.2.2.1]
            exact dwn_done (by rw [HN.out]; omega)
          go_wp2_with fail
          go_ret2
          rw [HD.out, HE.out]
          exact ⟨_, rfl, HR.out.1.own, HR.out.2.2.2.2⟩
    · rw [if_neg h1] at HD
      have h1' : b < 1 := by omega
      go_enter Tryz.func17, Tryz.ntmps17
      go_wp2_with fail
      refine HB.out.mono ?_
      rintro e w1 ⟨gm, t, F, vk, vc, rfl, hm, hb⟩
      have H1 := hid_of hb
      clear hm hb
      go_wp2_with fail
      go_ret2
      rw [HD.out]
      exact ⟨_, rfl, Own.nil _ _, H1.out⟩
  · have HB := hid_of (begin_bad h sm hu sk he)
    have HD : Hid (TwoS w (mdwn l k b) = TwoS w ([], mErr l k)) := by show _ = _; unfold mdwn; rw [if_neg he]
    obtain ⟨m, hm⟩ : ∃ m, mErr l k = m := ⟨_, rfl⟩
    rw [hm] at HB HD he
    clear h sm hu sk hm
    go_enter Tryz.func17, Tryz.ntmps17
    go_wp2_with fail
    refine HB.out.mono ?_
    rintro e w1 ⟨rfl, hb⟩
    have H1 := hid_of hb
    clear hb
    go_wp2_with fail
    go_ret2
    rw [HD.out]
    exact ⟨_, rfl, Own.nil _ _, H1.out⟩
end Go.Proofs.YtbaheiimcnfaaaaGreat
