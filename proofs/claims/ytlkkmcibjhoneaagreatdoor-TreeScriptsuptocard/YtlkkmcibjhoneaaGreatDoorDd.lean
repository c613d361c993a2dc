/-
  The document's tree: an empty directory; Rmdir; Delete.
-/
import Derived.Test.YtlkkmcibjhoneaaGreatDoorDc
namespace Go.Proofs.YtlkkmcibjhoneaaGreatDoor
open Go.RowKit

theorem emp_iff {T : TT} {p : List UInt8} : emp T p = true ↔ (∀ f ∈ T.fs, dir f.path ≠ p) ∧ ∀ d ∈ T.ds, dir d ≠ p := by
  unfold emp
  simp
set_option maxRecDepth 100000 in
set_option maxHeartbeats 4000000 in
theorem rempty_any {w : World} {F : Nat → Prop} {c : Nat} {T : TT} (h : RT w F c T) (hz : TSz 4000000 T) (hp1 : ∀ f ∈ T.fs, f.path.length ≤ 1000) (hp2 : ∀ d ∈ T.ds, d.length ≤ 1000) (p : List UInt8) :
    Calls Tryz.prog 122 #[.pointer (some ⟨c, 0, none⟩), .string (bs p)] w fun e w' => e = .returned (.bool (emp T p)) ∧ w' = w := by
  obtain ⟨vf, vd, vj, vt, h1, h2, h3, h4, h5⟩ := h
  have c0 := h1.cell.1
  have c1 := h1.cell.2.1
  have HF : Hid (FS w vf T.fs) := h4.f.1.fs
  have HD : Hid (SS w vd T.ds) := h4.d.1.ss
  obtain ⟨a, cp, rfl, -⟩ := HF.out.form
  obtain ⟨da, dcp, rfl, hdc⟩ := HD.out.form
  have HDC : Hid (∀ k, (hk : k < T.ds.length) → ∃ b off, da = some ⟨b, off, none⟩ ∧ b < w.heap.size ∧ w.cell? ⟨b, off + k, none⟩ = some (.string (bs T.ds[k]))) := hdc
  obtain ⟨r, hr⟩ : ∃ r, emp T p = r := ⟨_, rfl⟩
  rw [hr]
  have HR : Hid (emp T p = r) := hr
  obtain ⟨N, hN⟩ : ∃ N, T.fs.length = N := ⟨_, rfl⟩
  obtain ⟨M, hM⟩ : ∃ M, T.ds.length = M := ⟨_, rfl⟩
  have hn := hz.nf
  have hm := hz.nd
  rw [hN] at c0 hn
  rw [hM] at c1 hm
  have HN : Hid (T.fs.length = N ∧ T.ds.length = M) := ⟨hN, hM⟩
  have HP : Hid ((∀ f ∈ T.fs, f.path.length ≤ 1000) ∧ ∀ d ∈ T.ds, d.length ≤ 1000) := ⟨hp1, hp2⟩
  clear h1 h2 h3 h4 h5 hdc hr hN hM hz hp1 hp2 HD
  have t1 : (bs p).toList = p := bs_toList _
  go_enter Tryz.func122, Tryz.ntmps122
  go_wp2_with fail
  rename_i hKK
  have HK_ : Hid _ := hKK
  clear hKK
  go_loop [5] (fun i => ∃ k : Nat, k ≤ N ∧ i = .int .i64 k ∧ ∀ j, (hj : j < T.fs.length) → j < k → dir (T.fs[j]'hj).path ≠ p) (fun i => N - (intOf i).toNat)
  case atStart => exact ⟨0, Nat.zero_le _, rfl, fun j _ hj => absurd hj (Nat.not_lt_zero _)⟩
  case round =>
    obtain ⟨k, hk, rfl, hno⟩ := hrel
    have HNO : Hid (∀ j, (hj : j < T.fs.length) → j < k → dir (T.fs[j]'hj).path ≠ p) := hno
    clear hno
    by_cases hlt : k < N
    · have hlt2 : k < T.fs.length := by have := HN.out.1; omega
      obtain ⟨b, off, ea, hbw, d0, d1, d2, d3⟩ := FS.at HF.out (Below.refl _ _) hlt2
      subst ea
      obtain ⟨q, hq⟩ : ∃ q, (T.fs[k]'hlt2).path = q := ⟨_, rfl⟩
      rw [hq] at d0
      have HQ : Hid ((T.fs[k]'hlt2).path = q) := hq
      have hql : q.length ≤ 1000 := hq ▸ HP.out.1 _ (List.getElem_mem hlt2)
      have i1 : (0 : Int) ≤ (k : Int) := by omega
      have i2 : (k : Int) < (N : Int) := by omega
      clear d1 d2 d3 hq
      go_wp2_with fail
      refine (rdir_any q _ (by omega)).mono ?_
      rintro e wq ⟨rfl, rfl⟩
      have t2 : (bs (dir q)).toList = dir q := bs_toList _
      by_cases heq : dir q = p
      · have hre : r = false := by
          rw [← HR.out]
          cases e : emp T p with
          | false => rfl
          | true => exact absurd (by rw [HQ.out]; exact heq) ((emp_iff.1 e).1 _ (List.getElem_mem hlt2))
        subst heq
        go_wp2_with fail
        go_ret
        exact ⟨by rw [hre]; rfl, rfl⟩
      · have t3 : (dir q == p) = false := by rw [beq_eq_false_iff_ne]; exact heq
        have HE : Hid (dir q ≠ p) := heq
        clear heq
        go_wp2_with fail
        go_round
        case rel =>
          refine ⟨k + 1, by omega, by go_num, fun j hj hjk => ?_⟩
          by_cases e : j = k
          · subst e
            rw [HQ.out]; exact HE.out
          · exact HNO.out j hj (by omega)
        case measure => simp [intOf]; omega
    · obtain rfl : k = N := by omega
      have H1 : Hid (∀ f ∈ T.fs, dir f.path ≠ p) := fun f hf => by
        obtain ⟨i, hi, rfl⟩ := List.mem_iff_getElem.1 hf
        exact HNO.out i hi (by have := HN.out.1; omega)
      clear HNO
      go_wp2_with fail
      refine HK_.out _ _ ?_
      clear HK_
      go_wp2_with fail
      go_loop [6] (fun i => ∃ m : Nat, m ≤ M ∧ i = .int .i64 m ∧ ∀ j, (hj : j < T.ds.length) → j < m → dir (T.ds[j]'hj) ≠ p) (fun i => M - (intOf i).toNat)
      case atStart => exact ⟨0, Nat.zero_le _, rfl, fun j _ hj => absurd hj (Nat.not_lt_zero _)⟩
      case round =>
        obtain ⟨m, hm', rfl, hno⟩ := hrel
        have HNO : Hid (∀ j, (hj : j < T.ds.length) → j < m → dir (T.ds[j]'hj) ≠ p) := hno
        clear hno
        by_cases hlt : m < M
        · have hlt2 : m < T.ds.length := by have := HN.out.2; omega
          obtain ⟨b, off, rfl, hbw, d0⟩ := HDC.out m hlt2
          obtain ⟨q, hq⟩ : ∃ q, T.ds[m]'hlt2 = q := ⟨_, rfl⟩
          rw [hq] at d0
          have HQ : Hid (T.ds[m]'hlt2 = q) := hq
          have hql : q.length ≤ 1000 := hq ▸ HP.out.2 _ (List.getElem_mem hlt2)
          have i1 : (0 : Int) ≤ (m : Int) := by omega
          have i2 : (m : Int) < (M : Int) := by omega
          clear hq
          go_wp2_with fail
          refine (rdir_any q _ (by omega)).mono ?_
          rintro e wq ⟨rfl, rfl⟩
          have t2 : (bs (dir q)).toList = dir q := bs_toList _
          by_cases heq : dir q = p
          · have hre : r = false := by
              rw [← HR.out]
              cases e : emp T p with
              | false => rfl
              | true => exact absurd (by rw [HQ.out]; exact heq) ((emp_iff.1 e).2 _ (List.getElem_mem hlt2))
            subst heq
            go_wp2_with fail
            go_ret
            exact ⟨by rw [hre]; rfl, rfl⟩
          · have t3 : (dir q == p) = false := by rw [beq_eq_false_iff_ne]; exact heq
            have HE : Hid (dir q ≠ p) := heq
            clear heq
            go_wp2_with fail
            go_round
            case rel =>
              refine ⟨m + 1, by omega, by go_num, fun j hj hjk => ?_⟩
              by_cases e : j = m
              · subst e
                rw [HQ.out]; exact HE.out
              · exact HNO.out j hj (by omega)
            case measure => simp [intOf]; omega
        · obtain rfl : m = M := by omega
          go_wp2_with fail
          go_ret
          have : emp T p = true := emp_iff.2 ⟨H1.out, fun d hd => by
            obtain ⟨i, hi, rfl⟩ := List.mem_iff_getElem.1 hd
            exact HNO.out i hi (by have := HN.out.2; omega)⟩
          exact ⟨by rw [← HR.out, this]; rfl, rfl⟩
set_option maxRecDepth 100000 in
theorem rEmpty_any {w : World} {F : Nat → Prop} {c : Nat} {T : TT} (h : RT w F c T) (hz : TSz 4000000 T) (hp1 : ∀ f ∈ T.fs, f.path.length ≤ 1000) (hp2 : ∀ d ∈ T.ds, d.length ≤ 1000) (p : List UInt8) :
    Calls Tryz.prog 100 #[.pointer (some ⟨c, 0, none⟩), .string (bs p)] w fun e w' => e = .returned (.bool (rmB T p)) ∧ w' = w := by
  have H : Hid (RT w F c T ∧ TSz 4000000 T ∧ (∀ f ∈ T.fs, f.path.length ≤ 1000) ∧ ∀ d ∈ T.ds, d.length ≤ 1000) := ⟨h, hz, hp1, hp2⟩
  obtain ⟨r, hr⟩ : ∃ r, rmB T p = r := ⟨_, rfl⟩
  rw [hr]
  have HR : Hid (rmB T p = r) := hr
  clear h hz hp1 hp2 hr
  have t1 : (bs p).toList = p := bs_toList _
  cases p with
  | nil =>
    go_enter Tryz.func100, Tryz.ntmps100
    go_wp2_with fail
    go_ret
    exact ⟨by rw [← HR.out]; rfl, rfl⟩
  | cons x p =>
    go_enter Tryz.func100, Tryz.ntmps100
    go_wp2_with fail
    refine (risdir_any H.out.1 H.out.2.1 (x :: p)).mono ?_
    rintro e w1 ⟨rfl, rfl⟩
    rcases hb : hasD T.ds (x :: p) with _ | _
    · go_wp2_with fail
      go_ret
      exact ⟨by rw [← HR.out]; unfold rmB; rw [hb]; simp, rfl⟩
    · go_wp2_with fail
      refine (rempty_any H.out.1 H.out.2.1 H.out.2.2.1 H.out.2.2.2 (x :: p)).mono ?_
      rintro e w1 ⟨rfl, rfl⟩
      go_wp2_with fail
      go_ret
      exact ⟨by rw [← HR.out]; unfold rmB; rw [hb]; simp, rfl⟩
theorem som_one {l : List (List UInt8)} (h : Up l) (p : List UInt8) : som l [p] false = l.filter (fun d => !(d == p)) := by
  unfold som
  have e : (l.filter fun x => decide (x ∈ [p]) == false) = l.filter (fun d => !(d == p)) := List.filter_congr fun x _ => by
    by_cases hx : x = p
    · simp [hx]
    · simp [hx]
  rw [e]
  exact norm_up (up_filter h _)
theorem ss_litp (w : World) (p : List UInt8) : SS (w.alloc (.cells #[.string (bs p)] 9)) (.slice (some ⟨w.heap.size, 0, none⟩) 1 1) [p] := by
  refine .inr ⟨w.heap.size, 0, 1, rfl, by simp, by simp, fun i u hu => ?_⟩
  have hn : (w.alloc (.cells #[.string (bs p)] 9)).heap[w.heap.size]? = some (.cells #[.string (bs p)] 9 (0, 0)) := heap_alloc_new _ _
  have hi : i = 0 := by
    have := (List.getElem?_eq_some_iff.1 hu).1
    simp [sc] at this
    exact this
  subst hi
  have hu' : u = .string (bs p) := by simpa [sc] using hu.symm
  unfold World.cell?; dsimp only; rw [hn, hu']; simp
theorem len_of {T : TT} (h : TOk T) : (∀ f ∈ T.fs, f.path.length ≤ 1000) ∧ ∀ d ∈ T.ds, d.length ≤ 1000 :=
  ⟨fun f hf => Nat.le_trans (okP_len (fileE_path (h.fe f hf)).2).1 (by decide), fun d hd => Nat.le_trans (okP_len (h.de d hd).2).1 (by decide)⟩
set_option maxRecDepth 100000 in
set_option maxHeartbeats 4000000 in
theorem rrmdir_any {w : World} {F : Nat → Prop} {c : Nat} {T : TT} (h : RT w F c T) (hz : TSz 3999999 T) (ho : TOk T) (p : List UInt8) (hp : p.length ≤ 4000000) :
    Calls Tryz.prog 70 #[.pointer (some ⟨c, 0, none⟩), .string (bs p)] w (RSt w F c (T.rm p)) := by
  have H : Hid (RT w F c T ∧ TSz 3999999 T ∧ TOk T) := ⟨h, hz, ho⟩
  clear h hz ho
  obtain ⟨R, hR⟩ : ∃ R, T.rm p = R := ⟨_, rfl⟩
  rw [hR]
  have HR : Hid (T.rm p = R) := hR
  clear hR
  go_enter Tryz.func70, Tryz.ntmps70
  go_wp2_with fail
  refine (counted_any H.out.1 (H.out.2.1.mono (by omega)) H.out.2.2 (nil_bs w) (nil_no F) (by simp)).mono ?_
  rintro e w1 ⟨rfl, h1, o1⟩
  have H1 : Hid (RT w1 (nwF F w w1) c (T.cnt []).1 ∧ OnlyP F w w1) := ⟨h1, o1⟩
  clear h1 o1
  cases hc : (T.cnt []).2 with
  | false =>
    go_wp2_with fail
    go_ret
    rw [← HR.out, show T.rm p = _ from step_not hc]
    exact ⟨rfl, H1.out⟩
  | true =>
    obtain ⟨T1, hT1⟩ : ∃ T1, (T.cnt []).1 = T1 := ⟨_, rfl⟩
    have hz2 : Hid (TSz 4000000 T1) := hT1 ▸ H.out.2.1.cnt []
    have ok1 : Hid (TOk T1) := hT1 ▸ H.out.2.2.cnt []
    have HT : Hid ((T.cnt []).1 = T1) := hT1
    rw [hT1] at H1
    clear hT1
    go_wp2_with fail
    refine (rEmpty_any H1.out.1 hz2.out (len_of ok1.out).1 (len_of ok1.out).2 p).mono ?_
    rintro e wq ⟨rfl, rfl⟩
    rcases hb : rmB T1 p with _ | _
    · go_wp2_with fail
      go_ret
      rw [← HR.out, show T.rm p = _ from step_do hc, HT.out]
      unfold rmG
      rw [if_neg (by rw [hb]; decide)]
      exact ⟨rfl, H1.out⟩
    · have YES : Hid (rmB T1 p = true) := hb
      obtain ⟨vd, c1, od, kd, f1⟩ := H1.out.1.open1
      have OD : Hid (Own 0 wq vd T1.ds) := od
      have HC1 : Hid (c < wq.heap.size) := H1.out.1.lt c H1.out.1.mem
      have C1 : Hid (wq.cell? ⟨c, 1, none⟩ = some vd ∧ wq.frozen? ⟨c, 1, none⟩ = false) := ⟨c1, f1⟩
      have hnd := hz2.out.nd
      clear od kd f1 hb
      go_wp2_with fail
      refine (rminus_any (OD.out.ss.later (balloc _ _)) (ss_litp _ p) ⟨hnd, fun x hx => Nat.le_trans ((len_of ok1.out).2 x hx) (by decide)⟩ ⟨by simp, fun x hx => by simp at hx; rw [hx]; omega⟩).mono ?_
      rintro e w4 ⟨v4, rfl, ho4, hb4⟩
      rw [som_one ok1.out.du] at ho4
      obtain ⟨a4, c4, rfl⟩ := ho4.len
      have bA := balloc wq (.cells #[.string (bs p)] 9)
      have K4 : Hid (Own wq.heap.size w4 (.slice a4 (T1.ds.filter (fun d => !(d == p))).length c4) (T1.ds.filter (fun d => !(d == p))) ∧ Below wq.heap.size wq w4) := ⟨ho4.mono bA.size, bstep bA hb4⟩
      clear ho4 hb4 bA
      generalize (T1.ds.filter (fun d => !(d == p))).length = nn at *
      have hbk : w4.heap[c]? = wq.heap[c]? := K4.out.2.block c HC1.out
      have e1 : w4.cell? ⟨c, 1, none⟩ = some vd := (cell_stay hbk 1).trans C1.out.1
      have g1 : w4.frozen? ⟨c, 1, none⟩ = false := frz_block hbk C1.out.2
      clear hbk
      go_wp2_with fail
      go_ret
      rw [← HR.out, show T.rm p = _ from step_do hc, HT.out]
      unfold rmG
      rw [if_pos YES.out]
      exact ⟨rfl, RT.putD H1.out.1 H1.out.2 K4.out.2 K4.out.1⟩
end Go.Proofs.YtlkkmcibjhoneaaGreatDoor
