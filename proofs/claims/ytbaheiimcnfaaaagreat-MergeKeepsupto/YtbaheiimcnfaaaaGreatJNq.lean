/-
  The state ahead of the first step.
  What a directory adds is asked again.
  One step, in memory.
-/
import Derived.Test.YtbaheiimcnfaaaaGreatJNn
import Derived.Test.YtbaheiimcnfaaaaGreatJNe
namespace Go.Proofs.YtbaheiimcnfaaaaGreat
open Go.RowKit Go.Maps
attribute [local go_sem] Oper.semAt_some

theorem step_app_C {ops : Array Oper} {o : Oper} {a : Act} {w : World} {K : Act → World → Prop} {Q : Exit → Act → World → Prop} {E : Prop} (hgd : o.guard = none) (s y : Operand)
    (ho : o.op = .call { callee := .builtin .append, args := #[s, y], argTypes := #[65, 65] }) (base : Nat) (l k : List Cnd) (v x : Value) (hv : a.eval s = v) (hx : a.eval y = x)
    (hown : OwnC base w v l) (hs : Src Tryz.prog 3 65 x k.length (cc k) w) (hb : l.length + k.length ≤ 100000000) (hbase : base ≤ w.heap.size)
    (h : ∀ v' w', OwnC base w' v' (l ++ k) → w.grownBy w' v.ownBlock → (v'.ownBlock = v.ownBlock ∨ v'.ownBlock = some w.heap.size) → K (a.put o.dst v') w') :
    if Region.wanted o (yielded ops a.tmps) = true then Oper.wp Tryz.prog o a w K Q else E := by
  have hw : Region.wanted o (yielded ops a.tmps) = true := by simp [Region.wanted, hgd]
  rw [if_pos hw]
  obtain ⟨i0, hi, hz0, hz1, hz2⟩ := info_parts info87
  obtain ⟨v', w', hr, h2, h3, h4⟩ := run_append_src (P := Tryz.prog) w base 65 65 o.type 87 i0 _ 3 32 und65 hi hz0 hz1 hz2 rfl v l.length (cc l) hown x k.length (cc k) hs (by simp only [maxLen]; omega) (by omega) hbase
  unfold Oper.wp execOp
  simp only [ho, resolve, invoke, builtin, Sem.run_bind, Sem.run_pure, Result.andThen_ok, List.map_toArray, List.map_cons, List.map_nil, hv, hx, hr]
  exact h v' w' (by unfold OwnC; rw [cc_append, List.length_append]; exact h2) h3 h4
theorem src_C (w : World) (c : Cnd) : Src Tryz.prog 3 65 (.slice (some ⟨w.heap.size, 0, none⟩) 1 1) [c].length (cc [c]) (w.alloc (.cells #[.string (bs c.p), .int .i64 c.d, .int .i64 c.a] 87)) := by
  refine Src.ofSlice _ und65 ⟨w.heap.size, 0, none⟩ 1 1 (cc [c]) (by simp [cc_length]) ?_ (cc_one _)
  exact World.news_of_block (heap_alloc_new w _)
theorem out_hid {l : List Fl} {k : List (List UInt8)} {X : List (List UInt8)} (hX : X = (l.filter (fun f => shw k f.path)).map (·.path)) : l.filter (fun f => !decide (f.path ∈ X)) = hid l k := by
  subst hX
  unfold hid
  refine filt_congr fun f hf => ?_
  rw [Bool.eq_iff_iff]
  simp only [Bool.not_eq_true', decide_eq_false_iff_not, List.mem_map, List.mem_filter, not_exists, not_and]
  constructor
  · intro h
    cases e : shw k f.path with
    | false => rfl
    | true => exact absurd rfl (h f ⟨hf, e⟩)
  · rintro h g ⟨_, h2⟩ e
    rw [e, h] at h2; cases h2
theorem Szs.of {l : List Fl} (h : ∀ f ∈ l, f.size ≤ 4611686018427387904) : Szs l := fun f hf => by
  have := h f hf
  unfold sz
  omega
/-- a new state's block -/
theorem MG.new {B : Nat} {w : World} {t : Nat} {F : Nat → Prop} {vk : Value} {k : List (List UInt8)} {H : List Fl} (c : Int) (hB : B ≤ w.heap.size) (ho : Own B w vk k) (ht : TR w F t H 12000) (hl : ∀ i, F i → B ≤ i) : MG B (w.alloc (.cells #[vk, .int .i64 c, .pointer (some ⟨t, 0, none⟩), .slice none 0 0] 67)) w.heap.size t F vk (.slice none 0 0) c k [] H :=
  ⟨heap_alloc_new _ _, hB, ho.later (balloc _ _), OwnC.nil _ _, ht.later (balloc _ _), hl⟩
/-- a candidate more, in the state -/
theorem MG.more {B : Nat} {w w' : World} {gm t : Nat} {F : Nat → Prop} {vk vc v' : Value} {c : Int} {k : List (List UInt8)} {C : List Cnd} {H : List Fl} (h : MG B w gm t F vk vc c k C H) {o : Obj} {C' : List Cnd} (ho : OwnC B w' v' C') (hg : (w.alloc o).grownBy w' vc.ownBlock) (hv : v'.ownBlock = vc.ownBlock ∨ v'.ownBlock = some (w.alloc o).heap.size) :
    MG B (w'.setCell ⟨gm, 3, none⟩ v') gm t F vk v' c k C' H ∧ (∀ off, w'.frozen? ⟨gm, off, none⟩ = false) ∧ (w'.cell? ⟨gm, 3, none⟩ = some vc) := by
  have hon : Only vc.ownBlock.toList w w' := by
    obtain ⟨h1, h2, h3, h4, h5⟩ := hg
    refine ⟨h1, h2, h3, by simp at h4; omega, fun x hx hn => ?_⟩
    refine (h5 x (by simp; omega) ?_).trans (heap_alloc_old _ _ hx)
    intro e; apply hn; rw [← e]; simp
  have hgm : w'.heap[gm]? = some (.cells #[vk, .int .i64 c, .pointer (some ⟨t, 0, none⟩), vc] 67 (0, 0)) := (hon.block gm h.lt fun hm => by
    have : vc.ownBlock = some gm := by simpa [eq_comm] using hm
    exact h.offC this).trans h.blk
  refine ⟨h.cands ho hon ?_, fun off => by simp [World.frozen?, hgm], by simp only [World.cell?, hgm]; rfl⟩
  rcases hv with e | e
  · rw [e]; exact h.offC
  · rw [e]
    intro e2
    injection e2 with e2
    have := h.lt
    simp at e2
    omega
theorem MG.moreX {B : Nat} {w w' : World} {gm t : Nat} {F : Nat → Prop} {vk vc v' : Value} {c : Int} {k : List (List UInt8)} {C : List Cnd} {H : List Fl} (h : MG B w gm t F vk vc c k C H) {o : Obj} {C' : List Cnd} (ho : OwnC B w' v' C') (hg : (w.alloc o).grownBy w' vc.ownBlock) (hv : v'.ownBlock = vc.ownBlock ∨ v'.ownBlock = some (w.alloc o).heap.size) :
    ∃ a n cp, v' = .slice a n cp ∧ w'.frozen? ⟨gm, 3, none⟩ = false ∧ w'.cell? ⟨gm, 3, none⟩ = some vc ∧ Hid (MG B (w'.setCell ⟨gm, 3, none⟩ (.slice a n cp)) gm t F vk (.slice a n cp) c k C' H ∧ Only vc.ownBlock.toList w w' ∧ Only (gm :: vc.ownBlock.toList) w (w'.setCell ⟨gm, 3, none⟩ (.slice a n cp))) := by
  obtain ⟨h1, h2, h3⟩ := h.more ho hg hv
  obtain ⟨a, cp, e⟩ := ho.form
  have hon : Only vc.ownBlock.toList w w' := by
    obtain ⟨h1, h2, h3, h4, h5⟩ := hg
    refine ⟨h1, h2, h3, by simp at h4; omega, fun x hx hn => ?_⟩
    refine (h5 x (by simp; omega) ?_).trans (heap_alloc_old _ _ hx)
    intro e; apply hn; rw [← e]; simp
  refine ⟨a, _, cp, e, h2 3, h3, by rw [← e]; exact h1, hon, ?_⟩
  have q1 : Only (gm :: vc.ownBlock.toList) w w' := ⟨hon.os, hon.tape, hon.output, hon.size, fun i hi hn => hon.block i hi fun hm => hn (List.mem_cons_of_mem _ hm)⟩
  have q2 := Only.set w' gm 3 (.slice a C'.length cp)
  exact q1.trans ⟨q2.os, q2.tape, q2.output, q2.size, fun i hi hn => q2.block i hi fun hm => hn (by rw [List.mem_singleton.1 hm]; simp)⟩
theorem MG.keepS {B : Nat} {w w' : World} {gm t : Nat} {F : Nat → Prop} {vk vc v : Value} {c : Int} {k N : List (List UInt8)} {C : List Cnd} {H : List Fl} (h : MG B w gm t F vk vc c k C H) (ho : Own B w v N) (hon : Only (gm :: vc.ownBlock.toList) w w') : Own B w' v N :=
  ho.only hon fun x hx hm => by
    obtain ⟨cur, hc⟩ := ho.kind hx
    rcases List.mem_cons.1 hm with rfl | hm
    · rw [h.blk] at hc; cases hc
    · obtain ⟨cur', hc'⟩ := h.ownc.kind (g := x) (by simpa [eq_comm] using hm)
      rw [hc] at hc'; cases hc'
theorem MG.belowO {B : Nat} {w w' : World} {gm t : Nat} {F : Nat → Prop} {vk vc : Value} {c : Int} {k : List (List UInt8)} {C : List Cnd} {H : List Fl} (h : MG B w gm t F vk vc c k C H) (hB : B ≤ w.heap.size) (hon : Only (gm :: vc.ownBlock.toList) w w') : Below B w w' :=
  hon.below hB fun x hx => by
    rcases List.mem_cons.1 hx with rfl | hx
    · exact h.ge
    · exact (h.ownc.lt (k := x) (by simpa [eq_comm] using hx)).1
def BgP (w : World) (l : List Fl) (k : List (List UInt8)) (e : Ending) (w' : World) : Prop := ∃ gm t F vk vc, e = .returned (.tuple #[.pointer (some ⟨gm, 0, none⟩), .int .i64 0]) ∧ MG w.heap.size w' gm t F vk vc (cst l k) k (cdl l k) (hid l k) ∧ Below w.heap.size w w'
set_option maxRecDepth 100000 in
set_option maxHeartbeats 4000000 in
theorem begin_bad {w : World} {v u : Value} {l : List Fl} {k : List (List UInt8)} (h : FS w v l) (sm : FSm l) (hu : SS w u k) (sk : Sm k) (he : mErr l k ≠ 0) :
    Calls Tryz.prog 28 #[v, u] w fun e w' => e = .returned (.tuple #[.pointer none, .int .i64 (mErr l k)]) ∧ Below w.heap.size w w' := by
  have HV := hid_of (view_c h sm hu sk)
  obtain ⟨m, hm⟩ : ∃ m, mErr l k = m := ⟨_, rfl⟩
  rw [hm] at HV he ⊢
  clear h sm hu sk hm
  go_enter Tryz.func28, Tryz.ntmps28
  go_wp2_with fail
  refine HV.out.mono ?_
  rintro e w1 ⟨v1, rfl, ho, hb⟩
  have H1 := hid_of hb
  clear ho hb
  go_wp2_with fail
  go_ret2
  exact ⟨rfl, H1.out⟩
set_option maxRecDepth 100000 in
set_option maxHeartbeats 4000000 in
theorem begin_good {w : World} {v u : Value} {l : List Fl} {k : List (List UInt8)} (h : FS w v l) (sm : FSm l) (hu : SS w u k) (sk : Sm k) (he : mErr l k = 0) :
    Calls Tryz.prog 28 #[v, u] w (BgP w l k) := by
  have HV := hid_of (view_c h sm hu sk)
  rw [he] at HV
  obtain ⟨hv, hk⟩ := mErr_zero.1 he
  rw [viw_ok hv hk] at HV
  obtain ⟨hf, hf2, hlen⟩ := valid_fls hv sm
  have HNEW := hid_of (fun W (hW : Below w.heap.size w W) => new_good (h.later hW) sm hv)
  have HZ : Hid (∀ (W : World) (v' : Value), FS W v' (l.filter (fun f => shw k f.path)) → Calls Tryz.prog 24 #[v'] W fun e w' => e = .returned (.int .i64 (cst l k)) ∧ Below W.heap.size W w') := fun W v' ho => sizes_any ho (fun f hm => ⟨(hf f (List.mem_filter.1 hm).1).2.2, by have := hf2 f (List.mem_filter.1 hm).1; omega⟩) (Nat.le_trans (List.length_filter_le _ _) (by omega))
  have HCL := hid_of (fun W (hW : SS W u k) => sclone_any hW sk)
  have HME := hid_of (fun W (hW : SS W u k) => meetings_any hW sk)
  have HSU := hid_of (And.intro hu (And.intro sk (And.intro hf (And.intro (Szs.of hf2) (And.intro hk hlen)))))
  clear h sm hu sk he hv hk hf hf2 hlen
  obtain ⟨B, hB⟩ : ∃ B, w.heap.size = B := ⟨_, rfl⟩
  have HB0 := hid_of hB
  go_enter Tryz.func28, Tryz.ntmps28
  go_wp2_with fail
  refine HV.out.mono ?_
  rintro e w1 ⟨v1, rfl, ho1, hb1⟩
  obtain ⟨ad1, c1, hv1⟩ := ho1.form
  obtain ⟨n1, hn1⟩ : ∃ n, (l.filter (fun f => shw k f.path)).length = n := ⟨_, rfl⟩
  obtain ⟨V, hV⟩ : ∃ V, l.filter (fun f => shw k f.path) = V := ⟨_, rfl⟩
  rw [hV] at ho1 hn1 hv1 HZ
  rw [hn1] at hv1
  subst hv1
  have H1 : Hid (OwnF w.heap.size w1 (.slice ad1 n1 c1) V ∧ Below w.heap.size w w1 ∧ V.length = n1 ∧ l.filter (fun f => shw k f.path) = V) := ⟨ho1, hb1, hn1, hV⟩
  have hn1b : n1 ≤ 512 := by rw [← hn1, ← hV]; exact Nat.le_trans (List.length_filter_le _ _) HSU.out.2.2.2.2.2
  clear ho1 hb1 hn1 hV
  go_wp2_with fail
  refine (HNEW.out w1 H1.out.2.1).mono ?_
  rintro e w2 ⟨t, rfl, ht, hb2⟩
  have H2 : Hid (TR w2 (fun i => w1.heap.size ≤ i ∧ i < w2.heap.size) t l 12000 ∧ Below w1.heap.size w1 w2 ∧ Below w.heap.size w w2) := ⟨ht, hb2, bstep H1.out.2.1 hb2⟩
  clear ht hb2
  go_wp2_with fail
  go_loopw [11, 31] (fun s11 s31 wr => ∃ i : Nat, s31 = .int .i64 i ∧ i ≤ n1 ∧ AK w2 wr ∧ Left w2 wr (fun i => w1.heap.size ≤ i ∧ i < w2.heap.size) t (l.filter (fun f => !decide (f.path ∈ (V.map (·.path)).take i))) 12000) (fun _ s31 _ => n1 - (intOf s31).toNat)
  case atStart => exact ⟨0, rfl, Nat.zero_le _, AK.refl _, by rw [out_none]; exact Left.same H2.out.1 (Below.refl _ _) (Nat.le_refl _)⟩
  case round =>
    obtain ⟨i, rfl, hi, hak, hlf⟩ := hrel
    have HL := hid_of (And.intro hak hlf)
    clear hlf hak
    by_cases hlt : i < n1
    · have i1 : (i : Int) < (n1 : Int) := by omega
      have i2 : (0 : Int) ≤ (i : Int) := by omega
      have hil : i < V.length := by rw [H1.out.2.2.1]; exact hlt
      obtain ⟨b, off, ea, hbl, d0, d1, d2, d3⟩ := FS.at (by have q := ((H1.out.1.later H2.out.2.1).ak HL.out.1).fs; rw [← H1.out.2.2.1] at q; exact q) (Below.refl _ _) hil
      subst ea
      have hil2 : i < (V.map (·.path)).length := by simpa using hil
      have HC : Hid (outF V[i].path (l.filter (fun f => !decide (f.path ∈ (V.map (·.path)).take i))) = l.filter (fun f => !decide (f.path ∈ (V.map (·.path)).take (i + 1))) ∧ V[i].path.length ≤ 120) := ⟨by
        have q := out_next (L := l) hil2
        rw [List.getElem_map] at q
        exact q, by
        have hm : V[i] ∈ l.filter (fun f => shw k f.path) := by rw [H1.out.2.2.2]; exact List.getElem_mem hil
        exact (okP_len (HSU.out.2.2.1 _ (List.mem_filter.1 hm).1).1).1⟩
      generalize V[i] = f at d0 d1 d2 d3 HC
      obtain ⟨fp, ft, fb, fz⟩ := f
      simp only at d0 d1 d2 d3 HC
      have HDR := hid_of (drop_any (HL.out.2.tr.later (balloc wr (.cells #[.string (bs fp), .string (bs ft), .int .i64 fb, .int .i64 fz] 45))) (HSU.out.2.2.2.1.sub fun f hf => (List.mem_filter.1 hf).1) fp (by have := HC.out.2; omega))
      rw [HC.out.1] at HDR
      go_wp2_with fail
      refine HDR.out.mono ?_
      rintro e w3 ⟨rfl, hl3⟩
      have HL3 : Hid (AK w2 w3 ∧ Left w2 w3 (fun i => w1.heap.size ≤ i ∧ i < w2.heap.size) t (l.filter (fun f => !decide (f.path ∈ (V.map (·.path)).take (i + 1)))) 12000) := by
        have hs := Left.same HL.out.2.tr (balloc wr (.cells #[.string (bs fp), .string (bs ft), .int .i64 fb, .int .i64 fz] 45)) (Nat.le_refl _)
        have q := (HL.out.2.trans hs fun i hi => hi).trans hl3 fun i hi => by
          rcases hi with hi | hi
          · exact .inl hi
          · refine .inr ⟨hi.1, ?_⟩
            have := hi.2
            simp
            omega
        exact ⟨q.ak, q⟩
      clear hl3 d0 d1 d2 d3
      go_wp2_with fail
      go_roundw
      case rel => exact ⟨i + 1, by go_num, by omega, HL3.out.1, HL3.out.2⟩
      case measure => simp [intOf]; omega
    · have hbn' : ¬ ((i : Int) < (n1 : Int)) := by omega
      have HE : Hid (Left w2 wr (fun i => w1.heap.size ≤ i ∧ i < w2.heap.size) t (hid l k) 12000 ∧ FS wr (.slice ad1 n1 c1) V ∧ Below w.heap.size w wr) := by
        have q := HL.out.2
        rw [List.take_of_length_le (by rw [List.length_map, H1.out.2.2.1]; omega), out_hid (k := k) (by rw [H1.out.2.2.2])] at q
        refine ⟨q, ((H1.out.1.later H2.out.2.1).ak HL.out.1).fs, ?_⟩
        exact below_trans H2.out.2.2 (q.below H2.out.2.2.size fun i hi => by have := H1.out.2.1.size; omega)
      have HCC := hid_of (HCL.out wr (HSU.out.1.later HE.out.2.2))
      clear HL
      go_wp2_with fail
      refine HCC.out.mono ?_
      rintro e w4 ⟨vk, rfl, hok, hb4⟩
      obtain ⟨ak, ck, hvk, -⟩ := hok.bs.form
      obtain ⟨kn, hkn⟩ : ∃ kn, k.length = kn := ⟨_, rfl⟩
      rw [hkn] at hvk
      subst hvk
      have H4 := hid_of (And.intro hok hb4)
      clear hok hb4 hkn
      go_wp2_with fail
      refine (HZ.out w4 _ (HE.out.2.1.later H4.out.2)).mono ?_
      rintro e w5 ⟨rfl, hb5⟩
      have H5 := hid_of hb5
      clear hb5
      go_wp2_with fail
      have H6 : Hid (MG w.heap.size (w5.alloc (.cells #[.slice ak kn ck, .int .i64 (cst l k), .pointer (some ⟨t, 0, none⟩), .slice none 0 0] 67)) w5.heap.size t (fun i => (w1.heap.size ≤ i ∧ i < w2.heap.size) ∨ w2.heap.size ≤ i ∧ i < wr.heap.size) (.slice ak kn ck) (.slice none 0 0) (cst l k) k [] (hid l k) ∧ Below w.heap.size w (w5.alloc (.cells #[.slice ak kn ck, .int .i64 (cst l k), .pointer (some ⟨t, 0, none⟩), .slice none 0 0] 67))) := by
        have hs1 := HE.out.2.2.size
        have hs2 := H1.out.2.1.size
        have hs3 := H2.out.2.1.size
        have hb6 := bstep HE.out.2.2 (bstep H4.out.2 H5.out)
        refine ⟨MG.new _ hb6.size ((H4.out.1.mono hs1).later H5.out) (HE.out.1.tr.later (bstep H4.out.2 H5.out)) (fun i hi => by omega), bstep hb6 (balloc _ _)⟩
      generalize w5.heap.size = gm at H6 ⊢
      generalize w5.alloc (.cells #[.slice ak kn ck, .int .i64 (cst l k), .pointer (some ⟨t, 0, none⟩), .slice none 0 0] 67) = w6 at H6 ⊢
      generalize (fun i => (w1.heap.size ≤ i ∧ i < w2.heap.size) ∨ w2.heap.size ≤ i ∧ i < wr.heap.size) = F at H6
      refine (HME.out w6 (HSU.out.1.later H6.out.2)).mono ?_
      rintro e w7 ⟨vm, rfl, hom, hb7⟩
      obtain ⟨am, cm, hvm, -⟩ := hom.bs.form
      obtain ⟨nm, hnm⟩ : ∃ nm, (norm (cds k)).length = nm := ⟨_, rfl⟩
      rw [hnm] at hvm
      subst hvm
      have H7 : Hid (Own w.heap.size w7 (.slice am nm cm) (norm (cds k)) ∧ MG w.heap.size w7 gm t F (.slice ak kn ck) (.slice none 0 0) (cst l k) k [] (hid l k) ∧ Below w.heap.size w w7 ∧ (norm (cds k)).length = nm) := ⟨hom.mono H6.out.2.size, H6.out.1.later hb7, bstep H6.out.2 hb7, hnm⟩
      clear hom hb7 hnm
      go_wp2_with fail
      obtain ⟨N, hN⟩ : ∃ N, norm (cds k) = N := ⟨_, rfl⟩
      rw [hN] at H7
      have HNN := hid_of hN
      have HNS : Hid (∀ p ∈ N, okP p = true) := fun p hp => by
        rw [← hN, mem_norm] at hp
        exact (cone_two HSU.out.2.2.2.2.1 hp).choose_spec.2.choose_spec.2.2.2.1
      have hnmb : nm ≤ 4000000 := by have q := H7.out.2.2.2; rw [← q, ← hN]; exact (cds_sm HSU.out.2.1).norm.len
      clear hN
      go_loopw [14, 50] (fun s14 s50 wr => ∃ (i : Nat) (vc : Value), s50 = .int .i64 i ∧ i ≤ nm ∧ MG w.heap.size wr gm t F (.slice ak kn ck) vc (cst l k) k ((N.take i).map (cnd (ads (hid l k)))) (hid l k) ∧ Own w.heap.size wr (.slice am nm cm) N ∧ Below w.heap.size w wr) (fun _ s50 _ => nm - (intOf s50).toNat)
      case atStart => exact ⟨0, _, rfl, Nat.zero_le _, H7.out.2.1, H7.out.1, H7.out.2.2.1⟩
      case round =>
        obtain ⟨i, vc, rfl, hi, hmg, hown, hb⟩ := hrel
        obtain ⟨av, cv, hvc⟩ := hmg.ownc.form
        obtain ⟨mv, hmv⟩ : ∃ mv, ((N.take i).map (cnd (ads (hid l k)))).length = mv := ⟨_, rfl⟩
        rw [hmv] at hvc
        subst hvc
        have HR := hid_of (And.intro hmg (And.intro hown (And.intro hb hmv)))
        clear hmg hown hb hmv
        by_cases hlt : i < nm
        · have i1 : (i : Int) < (nm : Int) := by omega
          have i2 : (0 : Int) ≤ (i : Int) := by omega
          have hil : i < N.length := by rw [H7.out.2.2.2]; exact hlt
          obtain ⟨a', c', e', ca⟩ := HR.out.2.1.bs.form
          injection e' with e1 e2 e3
          subst e1
          subst e3
          clear e2
          obtain ⟨g, off, e4, hg, hcell⟩ := ca i hil
          subst e4
          have HC : Hid ((N.take (i + 1)).map (cnd (ads (hid l k))) = (N.take i).map (cnd (ads (hid l k))) ++ [cnd (ads (hid l k)) N[i]] ∧ okP N[i] = true) := ⟨by rw [List.take_succ_eq_append_getElem hil, List.map_append]; rfl, HNS.out _ (List.getElem_mem hil)⟩
          generalize N[i] = x at hcell HC
          have hxl := (okP_len HC.out.2).1
          have HDP := hid_of (fun W => depth_any x W (by omega))
          have HSI : Hid (∀ W, Below wr.heap.size wr W → Calls Tryz.prog 54 #[.pointer (some ⟨t, 0, none⟩), .string (bs x)] W fun e w' => e = .returned (.int .i64 (ads (hid l k) x)) ∧ Below W.heap.size W w') := fun W hW => by
            rw [← sizeS_ads (L := hid l k) (fun f hf => (HSU.out.2.2.1 f (List.mem_filter.1 hf).1).2.2) HC.out.2]
            exact tsize_any (HR.out.1.later hW).tr x (by omega)
          have HG := hid_of HR.out.1.lt
          clear ca
          go_wp2_with fail
          obtain ⟨q0, q1, q2, q3, qf⟩ := HR.out.1.cells
          have qf3 := qf 3
          clear q0 q1 q2 qf
          go_region_law (first | (go_simp; go_at_call 53; refine (HDP.out _).mono ?_; rintro e w8 ⟨rfl, rfl⟩) | (go_simp; go_at_call 54; refine (HSI.out _ (Below.refl _ _).drew).mono ?_; rintro e w9 ⟨rfl, hb9⟩; have HB9 : Hid (Below wr.heap.size wr w9) := bstep (Below.refl _ _).drew hb9; have r3 : w9.cell? ⟨gm, 3, none⟩ = some (.slice av mv cv) := (HB9.out.cell (p := ⟨gm, 3, none⟩) HG.out).trans q3; have r4 : ∀ ob, (w9.alloc ob).cell? ⟨gm, 3, none⟩ = some (.slice av mv cv) := fun ob => ((bstep HB9.out (balloc _ ob)).cell (p := ⟨gm, 3, none⟩) HG.out).trans q3) | (refine step_app_C rfl (.tmp 58) (.tmp 66) rfl w.heap.size ((N.take i).map (cnd (ads (hid l k)))) [cnd (ads (hid l k)) x] (.slice av mv cv) _ rfl rfl ((HR.out.1.later HB9.out).ownc.later (balloc _ _)) (src_C w9 (cnd (ads (hid l k)) x)) (by rw [HR.out.2.2.2]; have := HR.out.2.2.2; simp at this; simp; omega) (by have := HB9.out.size; have := HR.out.2.2.1.size; simp; omega) ?_; intro v10 w10 ho10 hg10 hv10; obtain ⟨a10, n10, c10, rfl, z3, hc10, HM10⟩ := (HR.out.1.later HB9.out).moreX ho10 hg10 hv10; clear ho10 hg10 hv10))
          all_goals
            have HE10 : Hid (MG w.heap.size (w10.setCell ⟨gm, 3, none⟩ (.slice a10 n10 c10)) gm t F (.slice ak kn ck) (.slice a10 n10 c10) (cst l k) k ((N.take (i + 1)).map (cnd (ads (hid l k)))) (hid l k) ∧ Own w.heap.size (w10.setCell ⟨gm, 3, none⟩ (.slice a10 n10 c10)) (.slice (some ⟨g, off, none⟩) nm cm) N ∧ Below w.heap.size w (w10.setCell ⟨gm, 3, none⟩ (.slice a10 n10 c10))) := by
              have hmg9 := HR.out.1.later HB9.out
              have hs9 := HB9.out.size
              have hs0 := HR.out.2.2.1.size
              refine ⟨by rw [HC.out.1]; exact HM10.out.1, hmg9.keepS (HR.out.2.1.later HB9.out) HM10.out.2.2, ?_⟩
              exact below_trans (bstep HR.out.2.2.1 HB9.out) (hmg9.belowO (by omega) HM10.out.2.2)
            clear z3 hc10 r3 r4 q3 qf3 hcell hb9
            go_wp2_with fail
            go_roundw
            case rel => exact ⟨i + 1, _, by go_num, by omega, HE10.out.1, HE10.out.2.1, HE10.out.2.2⟩
            case measure => simp [intOf]; omega
        · have hbn2 : ¬ ((i : Int) < (nm : Int)) := by omega
          have HFIN : Hid (MG w.heap.size wr gm t F (.slice ak kn ck) (.slice av mv cv) (cst l k) k (cdl l k) (hid l k) ∧ Below w.heap.size w wr) := by
            have q := HR.out.1
            rw [List.take_of_length_le (by rw [H7.out.2.2.2]; omega), ← HNN.out] at q
            exact ⟨q, HR.out.2.2.1⟩
          go_wp2_with fail
          go_ret2
          exact ⟨gm, t, F, _, _, rfl, HFIN.out.1, HFIN.out.2⟩
end Go.Proofs.YtbaheiimcnfaaaaGreat

namespace Go.Proofs.YtbaheiimcnfaaaaGreat
open Go.RowKit Go.Maps
attribute [local go_sem] Oper.semAt_some

def AskA (B : Nat) (w : World) (gm t : Nat) (F : Nat → Prop) (vk vc : Value) (c : Int) (k : List (List UInt8)) (C : List Cnd) (H : List Fl) (d : List UInt8) (e : Ending) (w' : World) : Prop :=
  e = .returned (.tuple #[]) ∧ Below B w w' ∧ ∃ C', MG B w' gm t F vk vc c k C' H ∧ ((∃ i, ∃ hi : i < C.length, (C[i]'hi).p = d ∧ C' = putA C i (ads H d)) ∨ ((∀ x ∈ C, x.p ≠ d) ∧ C' = C))
set_option maxRecDepth 100000 in
set_option maxHeartbeats 4000000 in
theorem ask_any {B : Nat} {w : World} {gm t : Nat} {F : Nat → Prop} {vk vc : Value} {c : Int} {k : List (List UInt8)} {C : List Cnd} {H : List Fl} (h : MG B w gm t F vk vc c k C H) (hB : B ≤ w.heap.size) (up : C.Pairwise fun a b => cf a.p b.p < 0) (hl : C.length ≤ 4000000) (hs : ∀ x ∈ C, x.p.length ≤ 1000000000) (hz : ∀ f ∈ H, 0 ≤ f.size) (d : List UInt8) (hd : okP d = true) :
    Calls Tryz.prog 61 #[.pointer (some ⟨gm, 0, none⟩), .string (bs d)] w (AskA B w gm t F vk vc c k C H d) := by
  have hdl := (okP_len hd).1
  have HSE := hid_of (csearch_any d h.ownc up hl hs (by omega))
  have HSI : Hid (∀ W, Below w.heap.size w W → Calls Tryz.prog 54 #[.pointer (some ⟨t, 0, none⟩), .string (bs d)] W fun e w' => e = .returned (.int .i64 (ads H d)) ∧ Below W.heap.size W w') := fun W hW => by
    rw [← sizeS_ads (L := H) hz hd]
    exact tsize_any (h.later hW).tr d (by omega)
  have HM := hid_of (And.intro h hB)
  obtain ⟨av, cv, hvc⟩ := h.ownc.form
  obtain ⟨n, hn⟩ : ∃ n, C.length = n := ⟨_, rfl⟩
  rw [hn] at hvc hl
  subst hvc
  have HN := hid_of hn
  obtain ⟨q0, q1, q2, q3, qf⟩ := h.cells
  clear h up hs hz hd hn q0 q1 qf
  go_enter Tryz.func61, Tryz.ntmps61
  go_wp2_with fail
  refine HSE.out.mono ?_
  rintro e w1 ⟨a, fb, rfl, hcs, hb1⟩
  have H1 : Hid (MG B w1 gm t F vk (.slice av n cv) c k C H ∧ Below w.heap.size w w1 ∧ Below B w w1) := ⟨HM.out.1.later hb1, hb1, below_mono hb1 HM.out.2⟩
  clear hb1 q2 q3
  obtain ⟨q0, q1, q2, q3, qf⟩ := H1.out.1.cells
  clear q0 q1 qf
  rcases hcs with ⟨ha, rfl, hp⟩ | ⟨rfl, hno⟩
  · have HA := hid_of (And.intro ha hp)
    rw [HN.out] at ha
    have i1 : (a : Int) < (n : Int) := by omega
    have i2 : (0 : Int) ≤ (a : Int) := by omega
    obtain ⟨g, cap, rest, ev, hr⟩ := RW.ofC H1.out.1.ownc (fun e0 => by have := HN.out; rw [e0] at this; simp at this; omega)
    injection ev with ev1 ev2 ev3
    subst ev1
    subst ev3
    obtain ⟨y0, y1, y2⟩ := hr.cellC HA.out.1
    have hrb := hr.blk
    have fz : w1.frozen? ⟨g, a * 3 + 2, none⟩ = false := by simp [World.frozen?, hrb]
    have hgl := hr.lt
    have hne : g ≠ gm := fun e0 => H1.out.1.offC (by rw [← e0]; rfl)
    have HGM := hid_of (And.intro H1.out.1.lt (And.intro hgl hne))
    have HFIN : Hid (∀ W, Below w1.heap.size w1 W → MG B (W.setCell ⟨g, a * 3 + 2, none⟩ (.int .i64 (ads H d))) gm t F vk (.slice (some ⟨g, 0, none⟩) n cv) c k (putA C a (ads H d)) H ∧ Below B w (W.setCell ⟨g, a * 3 + 2, none⟩ (.int .i64 (ads H d)))) := fun W hW => by
      refine ⟨(H1.out.1.later hW).adds HA.out.1 _, ?_⟩
      have hB1 := H1.out.2.2.size
      have hgB := (H1.out.1.ownc.lt (k := g) rfl).1
      have hB2 := HM.out.2
      exact below_trans (below_trans H1.out.2.2 (below_mono hW (by omega))) ((Only.set W g _ _).below (by have := hW.size; omega) (fun x hx => by simp at hx; omega))
    have HYC : Hid (∀ W, Below w1.heap.size w1 W → ∃ u, W.cell? ⟨g, a * 3 + 2, none⟩ = some u ∧ W.frozen? ⟨g, a * 3 + 2, none⟩ = false) := fun W hW => ⟨_, (hW.cell (p := ⟨g, a * 3 + 2, none⟩) hgl).trans y2, (hW.frozen (p := ⟨g, a * 3 + 2, none⟩) hgl).trans fz⟩
    clear hrb hr y0 y1 hp ev2
    go_wp2_with fail
    go_region_held3 (fun w' => w'.cell? ⟨gm, 3, none⟩ = some (.slice (some ⟨g, 0, none⟩) n cv) ∧ w'.cell? ⟨gm, 2, none⟩ = some (.pointer (some ⟨t, 0, none⟩))) (first | (with_reducible exact ⟨q3, q2⟩) | (with_reducible exact KA.out) | (exact KB.out _) | go_keep) (first | (go_at_call 54; refine (HSI.out _ (bstep H1.out.2.1 (Below.refl _ _).drew)).mono ?_; rintro e w2 ⟨rfl, hb2⟩; have HB2 : Hid (Below w1.heap.size w1 w2) := bstep (Below.refl _ _).drew hb2; have KA : Hid (w2.cell? ⟨gm, 3, none⟩ = some (.slice (some ⟨g, 0, none⟩) n cv) ∧ w2.cell? ⟨gm, 2, none⟩ = some (.pointer (some ⟨t, 0, none⟩))) := ⟨(HB2.out.cell (p := ⟨gm, 3, none⟩) HGM.out.1).trans q3, (HB2.out.cell (p := ⟨gm, 2, none⟩) HGM.out.1).trans q2⟩; obtain ⟨yu, y3, y4⟩ := HYC.out w2 HB2.out; have KB : Hid (∀ u, (w2.setCell ⟨g, a * 3 + 2, none⟩ u).cell? ⟨gm, 3, none⟩ = some (.slice (some ⟨g, 0, none⟩) n cv) ∧ (w2.setCell ⟨g, a * 3 + 2, none⟩ u).cell? ⟨gm, 2, none⟩ = some (.pointer (some ⟨t, 0, none⟩))) := fun u => (by have ho := Only.set w2 g (a * 3 + 2) u; have hb := ho.block gm (Nat.lt_of_lt_of_le HGM.out.1 HB2.out.size) (by simpa [eq_comm] using HGM.out.2.2); exact ⟨(World.cell?_of_block hb).trans KA.out.1, (World.cell?_of_block hb).trans KA.out.2⟩); clear hb2))
    go_wp2_with fail
    go_end0
    obtain ⟨f1, f2⟩ := HFIN.out w2 HB2.out
    exact ⟨rfl, f2, _, f1, .inl ⟨a, HA.out.1, HA.out.2, rfl⟩⟩
  · have HNO := hid_of hno
    clear hno
    go_wp2_with fail
    go_end0
    exact ⟨rfl, H1.out.2.2, C, H1.out.1, .inr ⟨HNO.out, rfl⟩⟩
end Go.Proofs.YtbaheiimcnfaaaaGreat

namespace Go.Proofs.YtbaheiimcnfaaaaGreat
open Go.RowKit Go.Maps
attribute [local go_sem] Oper.semAt_some

def StP (B : Nat) (w : World) (gm : Nat) (l : List Fl) (k : List (List UInt8)) (e : Ending) (w' : World) : Prop :=
  e = .returned (.tuple #[]) ∧ ∃ t F vk vc, MG B w' gm t F vk vc (cst l k) k (cdl l k) (hid l k) ∧ Below B w w'
/-- what the files give -/
structure Fok2 (l : List Fl) : Prop where
  fls : Fls l
  top : ∀ f ∈ l, f.size ≤ 4611686018427387904
theorem Fok2.szs {l : List Fl} (h : Fok2 l) (k : List (List UInt8)) : Szs (hid l k) := (Szs.of h.top).sub fun _ hf => (List.mem_filter.1 hf).1
theorem Fok2.pos {l : List Fl} (h : Fok2 l) (k : List (List UInt8)) : ∀ f ∈ hid l k, 0 ≤ f.size := fun f hf => (h.fls f (List.mem_filter.1 hf).1).2.2
/-- what is known of the best candidate -/
structure Bst (l : List Fl) (k : List (List UInt8)) (b : Nat) (d : List UInt8) : Prop where
  lt : b < (norm (cds k)).length
  at' : (norm (cds k))[b] = d
  mem : d ∈ cds k
  ok : okP d = true
  low : ∀ q ∈ cds k, abvV d q = false
  stp : stp l k = wid d false k
  cone : coneE (wid d false k) = 0
  cost : tog (cst l k) (ads (hid l k) d) = cst l (wid d false k)
  hid : (hid l k).filter (fun f => !abvV d f.path) = hid l (wid d false k)
  left : but (norm (cds k)) b = norm (cds (wid d false k))
theorem Bst.of {l : List Fl} {k : List (List UInt8)} (hl : Fls l) (h : coneE k = 0) {b : Nat} (hf : Fst (cst l k) (cdl l k) b (cdl l k).length) : ∃ d, Bst l k b d := by
  obtain ⟨hb, hd, hbest⟩ := best_of hl h hf
  have hlow : ∀ q ∈ cds k, abvV (norm (cds k))[b] q = false := fun q hq => best_low hl h hd hbest hq
  obtain ⟨_, _, _, _, _, _, hok, _⟩ := cone_two h hd
  exact ⟨_, hb, rfl, hd, hok, hlow, stp_best hd hbest, (wid_two h hd).1, (cw_eq hl h hd).symm, (hid_wid hl h hd).symm, norm_but h hb hlow⟩
theorem Bst.start {l : List Fl} {k : List (List UInt8)} {b : Nat} {d : List UInt8} (h : Bst l k b d) : but (cdl l k) b = (norm (cds (wid d false k))).map (cnd (mxd l k (wid d false k) d d)) := by
  unfold cdl
  rw [but_map, h.left]
  exact map_same fun p _ => (mxd_start l k _ d p).symm
theorem Bst.fin {l : List Fl} {k : List (List UInt8)} {b : Nat} {d : List UInt8} (hl : Fls l) (hk : coneE k = 0) (h : Bst l k b d) : (norm (cds (wid d false k))).map (cnd (mxd l k (wid d false k) d [])) = cdl l (wid d false k) := by
  unfold cdl
  refine map_same fun p hp => ?_
  rw [mem_norm, cds_wid hk h.mem h.low] at hp
  exact mxd_end hl hk h.mem hp.2 (h.low p hp.1)
theorem dir_short {c : List UInt8} (h : okP c = true) (hn : c ≠ []) : (dir c).length < c.length := by
  have h1 := abv_dir h hn
  obtain ⟨r, hr, e⟩ := (abvV_iff _ _).1 h1
  rcases Nat.lt_or_ge (dir c).length c.length with h2 | h2
  · exact h2
  · exfalso
    have h3 : dir c = c := by
      unfold dir at h2 ⊢
      split
      · rename_i h4
        rw [if_pos h4] at h2
        simp at h2
        exact absurd h2 hn
      · rename_i h4
        rw [if_neg h4] at h2
        rw [List.take_of_length_le]
        rw [List.length_take] at h2
        omega
    rw [h3, abv_irr] at h1
    cases h1
/-- one directory asked again -/
theorem mxd_ask {l : List Fl} {k k' : List (List UInt8)} {d c : List UInt8} (hc : okP c = true) (hn : c ≠ []) (hd : c = d ∨ abvV c d = true) {N : List (List UInt8)} (hN : Up N) {C' : List Cnd}
    (h : (∃ i, ∃ hi : i < (N.map (cnd (mxd l k k' d c))).length, ((N.map (cnd (mxd l k k' d c)))[i]'hi).p = dir c ∧ C' = putA (N.map (cnd (mxd l k k' d c))) i (ads (Go.Proofs.YtbaheiimcnfaaaaGreat.hid l k') (dir c))) ∨ ((∀ x ∈ N.map (cnd (mxd l k k' d c)), x.p ≠ dir c) ∧ C' = N.map (cnd (mxd l k k' d c)))) :
    C' = N.map (cnd (mxd l k k' d (dir c))) := by
  rcases h with ⟨i, hi, h1, rfl⟩ | ⟨h1, rfl⟩
  · have hi' : i < N.length := by simpa using hi
    rw [List.getElem_map] at h1
    have h1' : N[i] = dir c := h1
    have := putA_map (f := mxd l k k' d c) (g := mxd l k k' d (dir c)) hN hi' (fun p _ hp => mxd_next hc hn (by rw [← h1']; exact hp))
    rw [← this, h1', mxd_at hc hn hd]
  · exact (map_same fun p hp => mxd_next hc hn (fun e => h1 _ (List.mem_map.2 ⟨p, hp, rfl⟩) e)).symm
theorem cdl_sm {f : List UInt8 → Int} {k : List (List UInt8)} (sk : Sm k) : ((norm (cds k)).map (cnd f)).length ≤ 4000000 ∧ ∀ x ∈ (norm (cds k)).map (cnd f), x.p.length ≤ 1000000000 := by
  have h := (cds_sm sk).norm
  refine ⟨by simpa using h.len, fun x hx => ?_⟩
  obtain ⟨p, hp, rfl⟩ := List.mem_map.1 hx
  exact h.each p hp
end Go.Proofs.YtbaheiimcnfaaaaGreat
