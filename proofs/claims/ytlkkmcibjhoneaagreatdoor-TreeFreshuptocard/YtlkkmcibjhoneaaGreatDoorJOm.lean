/-
  The landed tree: New.
  The landed tree keeps all that the laws ask of it.
-/
import Derived.Test.YtlkkmcibjhoneaaGreatDoorJOb
import Derived.Test.YtlkkmcibjhoneaaGreatDoorOk
import Derived.Test.YtlkkmcibjhoneaaGreatDoorJNf
import Derived.Test.YtlkkmcibjhoneaaGreatDoorNg
import Derived.Test.YtlkkmcibjhoneaaGreatDoorNi
namespace Go.Proofs.YtlkkmcibjhoneaaGreatDoor
open Go.RowKit Go.Maps

theorem insF_last {f : Fl} : ∀ {l : List Fl}, (∀ g ∈ l, cf g.path f.path < 0) → insF f l = l ++ [f]
  | [], _ => rfl
  | g :: r, h => by
    unfold insF
    rw [if_pos (h g (by simp)), insF_last (fun x hx => h x (by simp [hx]))]
    rfl
theorem pw_take {l : List Fl} (h : l.Pairwise (fun a b => cf a.path b.path < 0)) {i : Nat} (hi : i < l.length) : ∀ g ∈ l.take i, cf g.path (l[i]).path < 0 := by
  intro g hg
  obtain ⟨j, hj, rfl⟩ := List.mem_iff_getElem.1 hg
  rw [List.length_take] at hj
  rw [List.getElem_take]
  exact List.pairwise_iff_getElem.1 h j i (by omega) hi (by omega)
theorem new_step {l : List Fl} (hv : validE l = 0) {i : Nat} (hi : i < l.length) : (∀ x ∈ upl (dir (l[i]).path), hasF (l.take i) x = false) ∧ okP (dir (l[i]).path) = true ∧ fileE l[i] = 0 ∧
    ∀ T', AdT (newT (l.take i)) (dir (l[i]).path) T' → wrB T' l[i] = true ∧ ({ T' with fs := insF l[i] T'.fs } : TT) = newT (l.take (i + 1)) := by
  have ok := TOk.new hv
  have hm : l[i] ∈ l := List.getElem_mem hi
  have hfe := ok.fe _ hm
  have hfp := fileE_path hfe
  have hok := okP_dir hfp.2
  have hnds : ∀ x ∈ upl (dir (l[i]).path), x ∈ nds l := fun x hx => by
    unfold nds
    rw [mem_norm, List.mem_flatMap]
    exact ⟨_, hm, hx⟩
  refine ⟨fun x hx => ?_, hok, hfe, fun T' h => ?_⟩
  · rw [Bool.eq_false_iff]
    intro e
    obtain ⟨g, hg, rfl⟩ := hasF_iff.1 e
    exact ok.no g (List.mem_of_mem_take hg) (hnds _ hx)
  · have hsub : ∀ x ∈ T'.ds, x ∈ nds l := fun x hx => by
      rcases (h.mem x).1 hx with e | e
      · have : x ∈ nds (l.take i) := e
        unfold nds at this ⊢
        rw [mem_norm, List.mem_flatMap] at this ⊢
        obtain ⟨g, hg, hx⟩ := this
        exact ⟨g, List.mem_of_mem_take hg, hx⟩
      · exact hnds x e
    refine ⟨?_, ?_⟩
    · have h1 : hasD T'.ds (l[i]).path = false := by
        rw [Bool.eq_false_iff]
        intro e
        rcases hasD_iff.1 e with e | e
        · exact hfp.1 e
        · exact ok.no _ hm (hsub _ e)
      have h2 : hasD T'.ds (dir (l[i]).path) = true := by
        rw [hasD_iff]
        by_cases e : dir (l[i]).path = []
        · exact .inl e
        · exact .inr ((h.mem _).2 (.inr (by rw [upl_cons e]; simp)))
      unfold wrB
      rw [h1, h2]; rfl
    · have hfs : T'.fs = l.take i := by rw [h.rest]; rfl
      have hds : T'.ds = nds (l.take (i + 1)) := by
        refine up_unique h.ok.du (up_norm _) (fun x => ?_)
        rw [h.mem x]
        unfold nds
        rw [mem_norm, List.take_succ_eq_append_getElem hi, List.flatMap_append, List.mem_append]
        show x ∈ nds (l.take i) ∨ _ ↔ _
        unfold nds
        rw [mem_norm]
        simp
      have hins : insF l[i] T'.fs = l.take (i + 1) := by
        rw [hfs, insF_last (l := l.take i) (f := l[i]) (pw_take (l := l) ok.fu hi), List.take_succ_eq_append_getElem hi]
      rw [hins, h.rest, hds]
      rfl
theorem lf0 : LF 0 false 0 := ⟨by decide, by decide, (fun e => by cases e), (fun _ => Or.inl ⟨by decide, rfl⟩)⟩
set_option maxRecDepth 100000 in
set_option maxHeartbeats 8000000 in
theorem new_any {w : World} {v : Value} {l : List Fl} (h : FS w v l) (sm : FSm l) (E : Ev w) : Calls Tryz.prog 7 #[v] w (NwP LT w l) := by
  have hmm := @run_makeMap Tryz.prog
  have HV : Hid (∀ W, FS W v l → Calls Tryz.prog 23 #[v] W fun e w' => e = .returned (.int .i64 (validE l)) ∧ Below W.heap.size W w') := fun W hW => valid2_any hW sm
  have H : Hid (FS w v l ∧ Ev w) := ⟨h, E⟩
  obtain ⟨ec, hec⟩ : ∃ ec, validE l = ec := ⟨_, rfl⟩
  have HEC : Hid (validE l = ec) := hec
  rw [hec] at HV
  obtain ⟨a, cp, e⟩ : ∃ a c, v = .slice a l.length c := by obtain ⟨a, c, e, _⟩ := h.form; exact ⟨a, c, e⟩
  obtain ⟨N, hN⟩ : ∃ N, l.length = N := ⟨_, rfl⟩
  rw [hN] at e
  subst e
  have HN : Hid (l.length = N) := hN
  clear h E sm hec hN
  go_enter Tryz.func7, Tryz.ntmps7
  go_wp2_with fail
  refine (HV.out _ H.out.1).mono ?_
  rintro e w1 ⟨rfl, hb1⟩
  have B1 : Hid (Below w.heap.size w w1) := hb1
  clear hb1 HV
  by_cases he : ec = 0
  case neg =>
    have hne1 : (ec == 0) = false := by simpa using he
    have hne2 : (ec != 0) = true := by simpa using he
    go_wp2_with fail
    refine bodyPost_ret (results_tmp2 rfl _ _ _) rfl ?_
    refine ⟨B1.out, .inr ⟨by rw [HEC.out]; exact he, ?_⟩⟩
    rw [HEC.out]
    rfl
  subst he
  have HL : Hid (l.length ≤ 512 ∧ ∀ f ∈ l, f.path.length ≤ 120) := ⟨(stand_iff.1 ((validE_zero l).1 HEC.out)).1, fun f hf => (okP_len (fileE_path ((TOk.new HEC.out).fe f hf)).2).1⟩
  -- what is made
  have hE1 := H.out.2.later B1.out
  obtain ⟨wd, hwd⟩ : ∃ wd, (w1.alloc (.map #[] 0)).alloc (.map #[] 0) = wd := ⟨_, rfl⟩
  have hsd : wd.heap.size = w1.heap.size + 1 + 1 := by rw [← hwd]; simp
  have bd : Below w1.heap.size w1 wd := by rw [← hwd]; exact bstep (balloc _ _) (balloc _ _)
  have mfd : MP cF wd w1.heap.size (fun _ => none) 0 := by rw [← hwd]; exact (MP.new cF w1).later (balloc _ _)
  have mdd : MP cI wd (w1.heap.size + 1) (fun _ => none) 0 := by
    have := MP.new cI (w1.alloc (.map #[] 0))
    rw [hwd] at this
    simpa using this
  obtain ⟨w3, r3, m3, o3, s3⟩ := mdd.store (k := []) (by unfold Lk; simp) (by omega) 0
  have hr3 : (Instr.mapUpdate 71 (.map (some (w1.heap.size + 1))) (.string ⟨#[]⟩) (.int .i64 0)).run Tryz.prog wd = .ok () w3 := r3
  have hb3 : Below w1.heap.size w1 w3 := bd.trans (o3.below (by omega) (by simp))
  obtain ⟨w4, hw4⟩ : ∃ w4, w3.alloc (.cells #[.map (some w1.heap.size), .map (some (w1.heap.size + 1)), .slice none 0 0, .int .i64 0, .int .i64 0, .bool false, .slice none 0 0] 73) = w4 := ⟨_, rfl⟩
  have hc : w3.heap.size = w1.heap.size + 2 := by rw [s3, hsd]
  have hb4 : Below w1.heap.size w1 w4 := by rw [← hw4]; exact hb3.alloc hb3.size _
  have X0 : Hid (LX w4 (w1.heap.size + 2) w1.heap.size (w1.heap.size + 1) (.slice none 0 0) (.slice none 0 0) 0 (newT (l.take 0)) ∧ Below w1.heap.size w1 w4) := by
    have hbig := hE1.big
    refine ⟨⟨?_, ?_, ?_, OwnB.nil _ _, OwnB.nil _ _, lf0, ⟨by omega, by omega, by omega, fun k e => by cases e⟩, by omega, (fun k e => by cases e), TOk.new (l := []) (by decide), hE1.later hb4⟩, hb4⟩
    · have := heap_alloc_new w3 (.cells #[.map (some w1.heap.size), .map (some (w1.heap.size + 1)), .slice none 0 0, .int .i64 0, .int .i64 0, .bool false, .slice none 0 0] 73)
      rw [hw4, hc] at this
      exact this
    · have e3 : w3.heap[w1.heap.size]? = wd.heap[w1.heap.size]? := o3.block _ (by omega) (by simp)
      have e4 : w4.heap[w1.heap.size]? = w3.heap[w1.heap.size]? := by rw [← hw4]; exact heap_alloc_old _ _ (by omega)
      exact (mfd.block (e4.trans e3)).congr (fun k _ => rfl)
    · have e4 : w4.heap[w1.heap.size + 1]? = w3.heap[w1.heap.size + 1]? := by rw [← hw4]; exact heap_alloc_old _ _ (by omega)
      refine (m3.block e4).congr (fun k _ => ?_)
      by_cases hk : k = []
      · subst hk; rfl
      · simp [hk, dF, newT, hasD, nds, norm]
  obtain ⟨m, hm⟩ : ∃ m, w1.heap.size = m := ⟨_, rfl⟩
  have HM : Hid (w1.heap.size = m) := hm
  rw [hm] at X0 hr3 hc hw4
  clear hE1 hsd bd mfd mdd r3 m3 o3 s3 hb3 hb4
  go_wp2_with fail
  clear hwd hw4 hr3 hc
  go_loopw [20] (fun i wr => ∃ k : Nat, k ≤ N ∧ i = .int .i64 k ∧ LX wr (m + 2) m (m + 1) (.slice none 0 0) (.slice none 0 0) 0 (newT (l.take k)) ∧ Below m w1 wr ∧ (newT (l.take k)).ds.length ≤ k * 120) (fun i _ => N - (intOf i).toNat)
  case atStart => exact ⟨0, by omega, rfl, X0.out.1, X0.out.2, by simp [newT, nds, norm]⟩
  case round =>
    obtain ⟨k, hk, rfl, hx, hbx, hdl⟩ := hrel
    have Hx : Hid (LX wr (m + 2) m (m + 1) (.slice none 0 0) (.slice none 0 0) 0 (newT (l.take k)) ∧ Below m w1 wr ∧ (newT (l.take k)).ds.length ≤ k * 120) := ⟨hx, hbx, hdl⟩
    clear hx hbx hdl
    by_cases hlt : k < N
    · have hkl : k < l.length := by have := HN.out; omega
      have hfs0 := H.out.1
      rw [← HN.out] at hfs0
      obtain ⟨b, off, ea, hbw, d0, d1, d2, d3⟩ := FS.at hfs0 (bstep B1.out (HM.out ▸ Hx.out.2.1)) hkl
      subst ea
      have st := new_step HEC.out hkl
      have hpl := HL.out.2 _ (List.getElem_mem hkl)
      have hll := HL.out.1
      have hdle := dir_le (l[k]'hkl).path
      have STEP : Hid ((∀ x ∈ upl (dir (l[k]'hkl).path), hasF (l.take k) x = false) ∧ okP (dir (l[k]'hkl).path) = true ∧ fileE (l[k]'hkl) = 0 ∧ ∀ T', AdT (newT (l.take k)) (dir (l[k]'hkl).path) T' → wrB T' (l[k]'hkl) = true ∧ ({ T' with fs := insF (l[k]'hkl) T'.fs } : TT) = newT (l.take (k + 1))) := st
      clear st hfs0
      obtain ⟨f, hf⟩ : ∃ f, l[k]'hkl = f := ⟨_, rfl⟩
      rw [hf] at STEP d0 d1 d2 d3 hpl hdle
      obtain ⟨fp, ft, fb, fz⟩ := f
      simp only at d0 d1 d2 d3 hpl hdle
      have HB : Hid (fp.length ≤ 120 ∧ (dir fp).length ≤ 120 ∧ k ≤ 512 ∧ (l.take k).length ≤ 512) := ⟨hpl, by omega, by omega, by rw [List.length_take]; omega⟩
      have HLT : Hid (k < N) := hlt
      have i1 : (0 : Int) ≤ (k : Int) := by omega
      have i2 : (k : Int) < (N : Int) := by omega
      clear hf hpl hdle hll
      go_wp2_with fail
      refine (dir_any fp _ (by have := HB.out.1; omega)).mono ?_
      rintro e wq ⟨rfl, rfl⟩
      obtain ⟨g, hg⟩ : ∃ g, wr.heap.size = g := ⟨_, rfl⟩
      have Y1 : Hid (LX (wr.alloc (.cells #[.string (bs fp), .string (bs ft), .int .i64 fb, .int .i64 fz] 31)) (m + 2) m (m + 1) (.slice none 0 0) (.slice none 0 0) 0 (newT (l.take k)) ∧ (wr.alloc (.cells #[.string (bs fp), .string (bs ft), .int .i64 fb, .int .i64 fz] 31)).heap[g]? = some (.cells #[.string (bs fp), .string (bs ft), .int .i64 fb, .int .i64 fz] 31 (0, 0)) ∧ m + 2 < g ∧ Below m w1 (wr.alloc (.cells #[.string (bs fp), .string (bs ft), .int .i64 fb, .int .i64 fz] 31))) :=
        ⟨Hx.out.1.later (balloc _ _), by rw [← hg]; exact heap_alloc_new _ _, by have := Hx.out.1.clt; omega, Hx.out.2.1.alloc (by have := Hx.out.1.clt; omega) _⟩
      go_wp2_with fail
      refine (addDirs_any 120 Y1.out.1 (dir fp) HB.out.2.1 (.inr STEP.out.2.1) STEP.out.1 (by have := Hx.out.2.2; have := HB.out.2.2.2; have := HB.out.2.1; have := HB.out.2.2.1; show (l.take k).length + (newT (l.take k)).ds.length + (dir fp).length ≤ 100000000; omega)).mono ?_
      rintro e w2 ⟨rfl, T1, h1, h2, o2⟩
      have hg2 := (o2.block g (Array.getElem?_eq_some_iff.1 Y1.out.2.1).1 (by have := Y1.out.2.2.1; simp; omega)).trans Y1.out.2.1
      obtain ⟨v0, v1, v2, v3⟩ := cellsF hg2
      have Y2 : Hid (LX w2 (m + 2) m (m + 1) (.slice none 0 0) (.slice none 0 0) 0 T1 ∧ AdT (newT (l.take k)) (dir fp) T1 ∧ Below m w1 w2) := ⟨h1, h2, Y1.out.2.2.2.trans (o2.below (by have := Y1.out.1.fl.lt; omega) (by simp))⟩
      clear h1 h2 o2 hg2
      go_wp2_with fail
      refine (addFile_any Y2.out.1 ⟨fp, ft, fb, fz⟩ STEP.out.2.2.1 (STEP.out.2.2.2 T1 Y2.out.2.1).1 (by
        have h1 : T1.fs = l.take k := by rw [Y2.out.2.1.rest]; rfl
        have := Y2.out.2.1.len
        have := Hx.out.2.2
        have := HB.out.2.2.2
        have := HB.out.2.1
        have := HB.out.2.2.1
        rw [h1]
        omega)).mono ?_
      rintro e w3 ⟨rfl, h3, o3⟩
      rw [(STEP.out.2.2.2 T1 Y2.out.2.1).2] at h3
      have Y3 : Hid (LX w3 (m + 2) m (m + 1) (.slice none 0 0) (.slice none 0 0) 0 (newT (l.take (k + 1))) ∧ Below m w1 w3 ∧ (newT (l.take (k + 1))).ds.length ≤ (k + 1) * 120) := by
        refine ⟨h3, Y2.out.2.2.trans (o3.below (by have := Y2.out.1.fl.lt; omega) (by simp)), ?_⟩
        have e := congrArg TT.ds (STEP.out.2.2.2 T1 Y2.out.2.1).2
        have e' : T1.ds = (newT (l.take (k + 1))).ds := e
        rw [← e']
        have := Y2.out.2.1.len
        have := Hx.out.2.2
        have := HB.out.2.1
        omega
      clear h3 o3
      have hk5 := HB.out.2.2.1
      have hk6 := HLT.out
      go_wp2_with fail
      go_roundw
      case rel => exact ⟨k + 1, HLT.out, by go_num, Y3.out⟩
      case measure => have := HLT.out; simp [intOf]; omega
    · obtain rfl : N = k := by omega
      have hT : l.take N = l := by rw [← HN.out]; exact List.take_length
      rw [hT] at Hx
      go_wp2_with fail
      refine bodyPost_ret (results_tmp2 rfl _ _ _) rfl ?_
      have hbw : Below w.heap.size w wr := bstep B1.out (HM.out ▸ Hx.out.2.1)
      refine ⟨hbw, .inl ⟨HEC.out, m + 2, rfl, m, m + 1, _, _, 0, Hx.out.1, ?_, fun k hk => hk.2⟩⟩
      have := B1.out.size
      have := HM.out
      have := Hx.out.1.clt
      rintro k (rfl | rfl | rfl | e | e)
      · exact ⟨by omega, by omega⟩
      · exact ⟨by omega, by omega⟩
      · exact ⟨by omega, by omega⟩
      · cases e
      · cases e
end Go.Proofs.YtlkkmcibjhoneaaGreatDoor

namespace Go.Proofs.YtlkkmcibjhoneaaGreatDoor
open Go.RowKit Go.Maps

theorem tcP : TcP LT where
  stay h hs hk hev := h.stay hs hk hev
  ev h := by obtain ⟨_, _, _, _, _, h, _⟩ := h; exact h.ev
  wider h hF hl := h.wider hF hl
  lt h := by obtain ⟨_, _, _, _, _, _, _, h⟩ := h; exact h
  ok h := by obtain ⟨_, _, _, _, _, h, _⟩ := h; exact h.ok
  new h sm E := new_any h sm E
  mkd h hz p hp := mkdir_any h hz p hp
  wri h hz f hf := write_any h hz f hf
  del h hz p hp := delete_any h hz p hp
  rmd h hz p hp := rmdir_any h hz p hp
  app h hz _ _ hv hF hb := append_any h hz hv hF hb
  clr h hz := clear_any h hz
  stp h _ n h0 h1 := lstop_any h n h0 h1
  sts h _ := steps_any h
  cra h hz n _ _ := crash_any h hz n
  fil h hz := lfiles_any h hz
  drs h hz := dirs_any h hz
  jou h hz := journal_any h hz
end Go.Proofs.YtlkkmcibjhoneaaGreatDoor
