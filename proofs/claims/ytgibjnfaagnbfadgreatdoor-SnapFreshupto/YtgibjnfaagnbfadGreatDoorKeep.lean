/-
  The package: the files at some paths.
-/
import Derived.Test.YtgibjnfaagnbfadGreatDoorNorm
import Derived.Test.YtgibjnfaagnbfadGreatDoorPkg3
import Derived.Shelf.SlCmpFuncs.None
namespace Go.Proofs.YtgibjnfaagnbfadGreatDoor
open Go.RowKit Go.Sort Go.Lib

theorem below_grow (w : World) (m : Nat) (os : Array Obj) : Below w.heap.size w (grow (Sort.ahead w m) os) :=
  ⟨rfl, rfl, rfl, by simp [grow, Sort.ahead], fun i hi => by simp only [grow, Sort.ahead]; exact Array.getElem?_append_left hi⟩

/-- where a text would stand in a rising list, and whether it stands there -/
theorem count_mem : ∀ (l : List (List UInt8)) (p : List UInt8), Up l → (decide (l.countP (fun x => decide (cf x p < 0)) < l.length) && decide (cf (l.getD (l.countP (fun x => decide (cf x p < 0))) []) p = 0)) = decide (p ∈ l)
  | [], p, _ => by simp
  | x :: r, p, h => by
    have hr := List.pairwise_cons.1 h
    by_cases hx : cf x p < 0
    · have ih := count_mem r p hr.2
      rw [List.countP_cons_of_pos (by simpa using hx)]
      have hne : x ≠ p := by rintro rfl; rw [cf_self] at hx; omega
      have e1 : decide (p ∈ x :: r) = decide (p ∈ r) := by simp [Ne.symm hne]
      rw [e1, ← ih]
      simp
    · have h0 : (r.countP (fun x => decide (cf x p < 0))) = 0 := by
        rw [List.countP_eq_zero]
        intro z hz
        have h1 := hr.1 z hz
        simp only [decide_eq_true_eq]
        intro h2
        exact hx (cf_trans h1 h2)
      rw [List.countP_cons_of_neg (by simpa using hx), h0]
      simp only [List.length_cons, Nat.zero_lt_succ, decide_true, Bool.true_and, List.getD_cons_zero]
      by_cases hz : cf x p = 0
      · have := cf_zero.1 hz
        subst this; simp [cf_self]
      · have hm : p ∉ x :: r := by
          intro hm
          rcases List.mem_cons.1 hm with rfl | hm
          · exact hz (cf_self _)
          · exact hx (hr.1 p hm)
        simp [hz, hm]

set_option maxRecDepth 100000 in
set_option maxHeartbeats 1000000 in
theorem search_any {w : World} {base : Nat} {v : Value} {l : List (List UInt8)} (p : List UInt8) (h : Own base w v l) (sm : Sm l) (up : Up l) (hp : p.length ≤ 4194304) :
    Calls Tryz.prog 32 #[v, .string (bs p), .func (.func 33) #[] #[]] w fun e w' => ∃ i : Int, e = .returned (.tuple #[.int .i64 i, .bool (decide (p ∈ l))]) ∧ Below w.heap.size w w' := by
  have hinh : Inhabited TS := ⟨tz⟩
  by_cases h0 : l = []
  · subst h0
    obtain ⟨a, c, e, _⟩ := h.bs.form
    have hS := Any.slices_BinarySearchFunc_none Tryz.searchL a c (.string (bs p)) (.func (.func 33) #[] #[]) w
    change Calls Tryz.prog 32 _ _ _ at hS
    rw [e]
    refine hS.mono ?_
    rintro e1 w' ⟨rfl, rfl⟩
    exact ⟨0, by simp, Below.refl _ _⟩
  · obtain ⟨d, hd⟩ := lift l sm.each
    have hdl : d.length = l.length := by rw [← hd]; simp
    rcases h.2 with ⟨_, h1⟩ | ⟨g, cap, cur, rfl, hbg, hg, hn, hcm, hcs, htake⟩
    · exact absurd (List.eq_nil_of_length_eq_zero h1) h0
    · have hH0 : Holds encStr w g 0 l.toArray := holds_of_block hg (by rw [sc_enc]; simpa using htake)
      have hH : Holds encT w g 0 d.toArray := by
        intro j hj
        have hj' : j < d.length := by simpa using hj
        have := hH0 j (by simp; omega)
        refine ⟨?_, this.2⟩
        rw [this.1]
        have hjl : j < l.length := by omega
        simp [hj', hjl]
        have : l[j] = (d[j]).1 := by simp [← hd]
        rw [this]; rfl
      have eg : ∀ args w, (callFunc 33 args).run Tryz.prog w = .ok (.enter 33 args) w := enters_of Tryz.func33 (by kernel_rfl) rfl
      have hcmp : CmpLaysT Tryz.prog 33 #[] encT (.string (bs p)) (fun x : TS => cf x.1 p) g 0 d.toArray.size w := fun m os dk _ x =>
        (cmp_any x.1 p _ (by have := x.2; omega) (by omega)).mono fun e w' ⟨he, hl⟩ => ⟨he, laid_grow hl⟩
      have hS := Any.slices_BinarySearchFunc Tryz.searchL encT (fun _ => rfl) (.string (bs p)) (fun x : TS => cf x.1 p) 33 #[] g 0 cap d.toArray w eg hcmp hH (Array.getElem?_eq_some_iff.1 hg).1 (by have := sm.len; simp; omega) (by
        intro i j hij hj hlt
        have hj' : j < d.length := by simpa using hj
        rcases Nat.lt_or_eq_of_le hij with hlt' | rfl
        · have hij' : i < d.length := by omega
          have e1 : (d.toArray[i]!).1 = l[i]'(by omega) := by rw [getElem!_pos d.toArray i (by simpa using hij')]; simp [← hd]
          have e2 : (d.toArray[j]!).1 = l[j]'(by omega) := by rw [getElem!_pos d.toArray j (by simpa using hj')]; simp [← hd]
          rw [e1]
          rw [e2] at hlt
          exact cf_trans (up_get up hlt' (by omega)) hlt
        · exact hlt)
      change Calls Tryz.prog 32 _ _ _ at hS
      have e1 : d.toArray.size = l.length := by simp [hdl]
      rw [e1] at hS
      refine hS.mono ?_
      rintro e w' ⟨rfl, m, os, rfl⟩
      have ec : d.countP (fun x : TS => decide (cf x.1 p < 0)) = l.countP (fun x => decide (cf x p < 0)) := by rw [← hd, List.countP_map]; rfl
      have e2 : d.toArray.toList = d := by simp
      rw [e2, ec]
      refine ⟨(l.countP (fun x => decide (cf x p < 0)) : Nat), ?_, ?_⟩
      · have hm := count_mem l p up
        rw [← hm]
        congr 5
        by_cases hc : l.countP (fun x => decide (cf x p < 0)) < l.length
        · have hc2 : l.countP (fun x => decide (cf x p < 0)) < d.length := by omega
          have e3 : (d.toArray[l.countP (fun x => decide (cf x p < 0))]!).1 = l.getD (l.countP (fun x => decide (cf x p < 0))) [] := by
            rw [getElem!_pos d.toArray _ (by simpa using hc2), List.getD_eq_getElem?_getD, List.getElem?_eq_getElem hc]
            simp [← hd]
          rw [e3]
        · simp [hc]
      · unfold sortWorld
        rw [putRow_self encT (Sort.ahead w m) g 0 d.toArray (fun j hj => hH j hj)]
        exact below_grow w m os

set_option maxRecDepth 100000 in
set_option maxHeartbeats 4000000 in
theorem keep_any {w : World} {v vp : Value} {l : List Fl} {ps : List (List UInt8)} (h : FS w v l) (hp : SS w vp ps) (sm : FSm l) (sp : Sm ps) :
    Calls Tryz.prog 13 #[v, vp] w fun e w' => ∃ v', e = .returned v' ∧ OwnF w.heap.size w' v' (keep l ps) ∧ Below w.heap.size w w' := by
  have H : Hid (FS w v l) := h
  have HP : Hid (SS w vp ps ∧ Sm ps) := ⟨hp, sp⟩
  have SM : Hid (FSm l) := sm
  have hlen : l.length ≤ 4194304 := sm.len
  clear sm hp sp
  obtain ⟨a, c, rfl, _⟩ := h.form
  rename_i q1
  clear h q1
  obtain ⟨n, hn⟩ : ∃ n, l.length = n := ⟨_, rfl⟩
  have H' : Hid (FS w (.slice a l.length c) l) := H.out
  clear H
  rw [hn] at hlen ⊢
  have HN : Hid (l.length = n) := hn
  clear hn
  go_enter Tryz.func13, Tryz.ntmps13
  go_wp2_with fail
  refine (norm_any HP.out.1 HP.out.2).mono ?_
  rintro e w1 ⟨v1, rfl, ho1, hb1⟩
  have HO1 : Hid (Own w.heap.size w1 v1 (norm ps)) := ho1
  have HB1 : Hid (Below w.heap.size w w1) := hb1
  have hz1 := hb1.size
  obtain ⟨a1, c1, e1, _⟩ := ho1.bs.form
  subst e1
  rename_i q1
  clear ho1 hb1 q1
  obtain ⟨n1, hn1⟩ : ∃ n1, (norm ps).length = n1 := ⟨_, rfl⟩
  rw [hn1] at HO1 ⊢
  clear hn1
  go_wp2_with fail
  go_loopw [5, 15] (fun o i wr => ∃ k : Nat, k ≤ n ∧ i = .int .i64 k ∧ OwnF w1.heap.size wr o (keep (l.take k) ps) ∧ Below w1.heap.size w1 wr) (fun _ i _ => n - (intOf i).toNat)
  case atStart => exact ⟨0, by omega, rfl, by simpa [keep] using OwnF.nil _ _, Below.refl _ _⟩
  case round =>
    obtain ⟨k, hk, rfl, ho, hb⟩ := hrel
    have HO : Hid (OwnF w1.heap.size wr u5 (keep (l.take k) ps)) := ho
    have HB : Hid (Below w1.heap.size w1 wr) := hb
    have hz2 := hb.size
    have hkl0 : (keep (l.take k) ps).length ≤ n := by
      have := List.length_filter_le (fun f : Fl => decide (f.path ∈ ps)) (l.take k)
      have h2 : (l.take k).length ≤ l.length := by simp; omega
      have := HN.out
      unfold keep; omega
    obtain ⟨ao, co, eo⟩ := ho.form
    subst eo
    obtain ⟨no, hno⟩ : ∃ no, (keep (l.take k) ps).length = no := ⟨_, rfl⟩
    rw [hno] at HO hkl0 ⊢
    clear ho hb
    by_cases hlt : k < n
    · have hkl : k < l.length := by have := HN.out; omega
      obtain ⟨b, off, ea, hbw, d0, d1, d2, d3⟩ := FS.at H'.out (bstep HB1.out HB.out) hkl
      subst ea
      have F : Hid (Fok l[k]) := SM.out.at hkl
      have HK : Hid (keep (l.take (k + 1)) ps = keep (l.take k) ps ++ if (l[k]'hkl).path ∈ ps then [l[k]'hkl] else []) := by
        have e : l.take (k + 1) = l.take k ++ [l[k]'hkl] := by rw [List.take_add_one, List.getElem?_eq_getElem hkl]; rfl
        show keep (l.take (k + 1)) ps = _
        rw [e, keep_app]
        congr 1
        rw [keep_cons]; rfl
      obtain ⟨f, hf⟩ : ∃ f, l[k] = f := ⟨_, rfl⟩
      rw [hf] at d0 d1 d2 d3 F HK
      clear hf
      obtain ⟨p, t, bl, s⟩ := f
      simp only at d0 d1 d2 d3
      have k1 : (0 : Int) ≤ (k : Int) := by omega
      have k2 : (k : Int) < (n : Int) := by omega
      go_wp2_with fail
      obtain ⟨w2, hw2⟩ : ∃ w2, wr.alloc (.cells #[.string (bs p), .string (bs t), .int .i64 bl, .int .i64 s] 26) = w2 := ⟨_, rfl⟩
      have FB2 : Hid (FB w2 wr.heap.size ⟨p, t, bl, s⟩) := by rw [← hw2]; exact FB.new wr ⟨p, t, bl, s⟩ 26
      have HB2 : Hid (Below wr.heap.size wr w2) := by rw [← hw2]; exact balloc _ _
      rw [hw2]
      clear hw2 d0 d1 d2 d3
      refine (search_any (base := w.heap.size) p (HO1.out.later (bstep HB.out HB2.out)) HP.out.2.norm (up_norm _) F.out.path).mono ?_
      rintro e w3 ⟨ix, rfl, hb3⟩
      have em : decide (p ∈ norm ps) = decide (p ∈ ps) := by simp [mem_norm]
      rw [em]
      have HB3 : Hid (Below wr.heap.size wr w3) := bstep HB2.out hb3
      obtain ⟨c0, c1', c2, c3, hlt3⟩ := FB2.out.later hb3
      simp only at c0 c1' c2 c3
      have O3 : Hid (OwnF w1.heap.size w3 (.slice ao no co) (keep (l.take k) ps)) := HO.out.later HB3.out
      have hz3 := HB3.out.size
      clear hb3 em
      by_cases hpm : p ∈ ps
      · have hd : decide (p ∈ ps) = true := by simpa using hpm
        rw [hd]
        have HPM : Hid (p ∈ ps) := hpm
        clear hpm
        go_wp2_with (at_builtin; refine app_files (base := w1.heap.size) (l := keep (l.take k) ps) (k := [⟨p, t, bl, s⟩]) (O3.out.later (balloc _ _)) (src_file _ ⟨p, t, bl, s⟩) (by simp; omega) (by simp; omega) rfl _ _ rfl rfl rfl ?_; intro v4 w4 ho4 hg4 _)
        go_roundw
        case rel =>
          refine ⟨k + 1, by omega, by go_num, ?_, ?_⟩
          · rw [HK.out, if_pos HPM.out]; exact ho4
          · refine (bstep (bstep HB.out HB3.out) (balloc _ _)).grown hg4 (by simp; omega) (fun j hj => ?_)
            exact (O3.out.lt hj).1
        case measure => simp [intOf]; omega
      · have hd : decide (p ∈ ps) = false := by simpa using hpm
        rw [hd]
        have HPM : Hid (¬ p ∈ ps) := hpm
        clear hpm
        go_wp2_with fail
        go_roundw
        case rel =>
          refine ⟨k + 1, by omega, by go_num, ?_, bstep HB.out HB3.out⟩
          rw [HK.out, if_neg HPM.out, List.append_nil]; exact O3.out
        case measure => simp [intOf]; omega
    · obtain rfl : k = n := by omega
      go_wp2_with fail
      go_ret
      refine ⟨_, rfl, ?_, bstep HB1.out HB.out⟩
      have e : l.take k = l := List.take_of_length_le (by have := HN.out; omega)
      have := HO.out
      rw [e] at this
      exact this.mono hz1
end Go.Proofs.YtgibjnfaagnbfadGreatDoor
