/-
  The landed plan: Compact, the search, Reverse.
  The landed plan: the directories of files.
-/
import Derived.Test.YtfdcfcalbongeaaGreatJKShelf
import Derived.Test.YtfdcfcalbongeaaGreatJLent
import Derived.Test.YtfdcfcalbongeaaGreatKa
namespace Go.Proofs.YtfdcfcalbongeaaGreat
open Go.RowKit Go.Sort Go.Lib

theorem below_grow (w : World) (m : Nat) (os : Array Obj) : Below w.heap.size w (grow (Sort.ahead w m) os) :=
  ⟨rfl, rfl, rfl, by simp [grow, Sort.ahead], fun i hi => by simp only [grow, Sort.ahead]; exact Array.getElem?_append_left hi⟩
set_option maxRecDepth 100000 in
set_option maxHeartbeats 1000000 in
theorem compact_short {v : Value} {a : Option Addr} {n c : Nat} (w : World) (hv : v = .slice a n c) (hn : n < 2) :
    Calls Tryz.prog 39 #[v] w fun e w' => e = .returned v ∧ w' = w := by
  subst hv
  go_enter Tryz.func39, Tryz.ntmps39
  go_wp2_with fail
  go_ret
  exact ⟨rfl, rfl⟩

set_option maxHeartbeats 1000000 in
/-- each run made one -/
theorem compact_any {w : World} {base : Nat} {v : Value} {l : List (List UInt8)} (h : Own base w v l) (sm : Sm l) (hs : l.Pairwise fun a b => cf a b ≤ 0) (hbase : base ≤ w.heap.size) :
    Calls Tryz.prog 39 #[v] w fun e w' => ∃ v', e = .returned v' ∧ Own base w' v' (norm l) ∧ Below base w w' := by
  by_cases h0 : l.length < 2
  · obtain ⟨a, c, e, _⟩ := h.bs.form
    refine (compact_short w e h0).mono ?_
    rintro e1 w' ⟨rfl, rfl⟩
    refine ⟨v, rfl, ?_, Below.refl _ _⟩
    have : norm l = l := norm_up (by
      match l, h0 with
      | [], _ => exact .nil
      | [x], _ => exact List.pairwise_singleton _ _)
    rw [this]; exact h
  · rcases h.2 with ⟨_, h1⟩ | ⟨g, cap, cur, rfl, hbg, hg, hn, hcm, hcs, htake⟩
    · exact absurd h1 (by omega)
    · have hH : Holds encStr w g 0 l.toArray := holds_of_block hg (by rw [sc_enc]; simpa using htake)
      have hC := AnyG.slices_Compact_string_arr Tryz.compactL g 0 cap l.toArray w hH (by have := sm.len; simp; omega) (by simpa using hn)
      change Calls Tryz.prog 39 _ _ _ at hC
      rw [compact_norm l l (.refl _) hs] at hC
      have e1 : l.toArray.size = l.length := by simp
      rw [e1] at hC
      refine hC.mono ?_
      rintro e w' ⟨rfl, q, rfl⟩
      have hnl := norm_len l
      obtain ⟨R, hR⟩ : ∃ R, norm l ++ List.replicate (l.length - (norm l).length) [] = R := ⟨_, rfl⟩
      rw [hR]
      have hRl : R.length = l.length := by rw [← hR]; simp; omega
      have ho := ownsRow_sorted (w := w) (base := base) (g := g) (cap := cap) (n := q) (e := 9) (os := #[]) (ss := l) (ts := R) hRl hbg hg hn hcm hcs
      have hgr := grownBy_sorted (w := w) (g := g) (n := q) (os := #[]) R.toArray
      rw [grow_empty] at ho hgr
      refine ⟨_, rfl, ?_, (Below.refl _ _).grown hgr hbase (fun k hk => by cases hk; exact hbg)⟩
      have ho2 : Own base (putRow encStr (Sort.ahead w q) g 0 R.toArray) (.slice (some ⟨g, 0, none⟩) l.length cap) R := by
        unfold Own
        rw [hRl]; exact ho
      have := ho2.cut (norm l).length (by omega)
      have e3 : R.take (norm l).length = norm l := by rw [← hR]; simp
      rw [e3] at this
      exact this
/-- where a text would stand in a rising list, and whether it stands there -/
theorem count_mem : ∀ (l : List (List UInt8)) (p : List UInt8), Up l → (decide (l.countP (fun x => decide (cf x p < 0)) < l.length) && decide (cf (l.getD (l.countP (fun x => decide (cf x p < 0))) []) p = 0)) = decide (p ∈ l)
  | [], p, _ => by simp
  | x :: r, p, h => by
    have hr := List.pairwise_cons.1 h
    by_cases hx : cf x p < 0
    · have ih := count_mem r p hr.2
      rw [List.countP_cons_of_pos (by simpa using hx)]
      have hne : x ≠ p := by rintro rfl; rw [cf_self] at hx; omega
      have e1 : decide (p ∈ x :: r) = decide (p ∈ r) := by simp [Ne.symm hne]
      rw [e1, ← ih]
      simp
    · have h0 : (r.countP (fun x => decide (cf x p < 0))) = 0 := by
        rw [List.countP_eq_zero]
        intro z hz
        have h1 := hr.1 z hz
        simp only [decide_eq_true_eq]
        intro h2
        exact hx (cf_trans h1 h2)
      rw [List.countP_cons_of_neg (by simpa using hx), h0]
      simp only [List.length_cons, Nat.zero_lt_succ, decide_true, Bool.true_and, List.getD_cons_zero]
      by_cases hz : cf x p = 0
      · have := cf_zero.1 hz
        subst this; simp [cf_self]
      · have hm : p ∉ x :: r := by
          intro hm
          rcases List.mem_cons.1 hm with rfl | hm
          · exact hz (cf_self _)
          · exact hx (hr.1 p hm)
        simp [hz, hm]

set_option maxRecDepth 100000 in
set_option maxHeartbeats 1000000 in
theorem search_any {w : World} {base : Nat} {v : Value} {l : List (List UInt8)} (p : List UInt8) (h : Own base w v l) (sm : Sm l) (up : Up l) (hp : p.length ≤ 140737488355328) :
    Calls Tryz.prog 42 #[v, .string (bs p), .func (.func 31) #[] #[]] w fun e w' => e = .returned (.tuple #[.int .i64 ((l.countP (fun x => decide (cf x p < 0)) : Nat) : Int), .bool (decide (p ∈ l))]) ∧ Below w.heap.size w w' := by
  have hinh : Inhabited TS := ⟨tz⟩
  by_cases h0 : l = []
  · subst h0
    obtain ⟨a, c, e, _⟩ := h.bs.form
    have hS := Any.slices_BinarySearchFunc_none Tryz.searchS a c (.string (bs p)) (.func (.func 31) #[] #[]) w
    change Calls Tryz.prog 42 _ _ _ at hS
    rw [e]
    refine hS.mono ?_
    rintro e1 w' ⟨rfl, rfl⟩
    exact ⟨by simp, Below.refl _ _⟩
  · obtain ⟨d, hd⟩ := lift l sm.each
    have hdl : d.length = l.length := by rw [← hd]; simp
    rcases h.2 with ⟨_, h1⟩ | ⟨g, cap, cur, rfl, hbg, hg, hn, hcm, hcs, htake⟩
    · exact absurd (List.eq_nil_of_length_eq_zero h1) h0
    · have hH0 : Holds encStr w g 0 l.toArray := holds_of_block hg (by rw [sc_enc]; simpa using htake)
      have hH : Holds encT w g 0 d.toArray := by
        intro j hj
        have hj' : j < d.length := by simpa using hj
        have := hH0 j (by simp; omega)
        refine ⟨?_, this.2⟩
        rw [this.1]
        have hjl : j < l.length := by omega
        simp [hj', hjl]
        have : l[j] = (d[j]).1 := by simp [← hd]
        rw [this]; rfl
      have eg : ∀ args w, (callFunc 31 args).run Tryz.prog w = .ok (.enter 31 args) w := enters_of Tryz.func31 (by kernel_rfl) rfl
      have hcmp : CmpLaysT Tryz.prog 31 #[] encT (.string (bs p)) (fun x : TS => cf x.1 p) g 0 d.toArray.size w := fun m os dk _ x =>
        (cmp_any x.1 p _ (by have := x.2; omega) (by omega)).mono fun e w' ⟨he, hl⟩ => ⟨he, laid_grow hl⟩
      have hS := Any.slices_BinarySearchFunc Tryz.searchS encT (fun _ => rfl) (.string (bs p)) (fun x : TS => cf x.1 p) 31 #[] g 0 cap d.toArray w eg hcmp hH (Array.getElem?_eq_some_iff.1 hg).1 (by have := sm.len; simp; omega) (by
        intro i j hij hj hlt
        have hj' : j < d.length := by simpa using hj
        rcases Nat.lt_or_eq_of_le hij with hlt' | rfl
        · have hij' : i < d.length := by omega
          have e1 : (d.toArray[i]!).1 = l[i]'(by omega) := by rw [getElem!_pos d.toArray i (by simpa using hij')]; simp [← hd]
          have e2 : (d.toArray[j]!).1 = l[j]'(by omega) := by rw [getElem!_pos d.toArray j (by simpa using hj')]; simp [← hd]
          rw [e1]
          rw [e2] at hlt
          exact cf_trans (up_get up hlt' (by omega)) hlt
        · exact hlt)
      change Calls Tryz.prog 42 _ _ _ at hS
      have e1 : d.toArray.size = l.length := by simp [hdl]
      rw [e1] at hS
      refine hS.mono ?_
      rintro e w' ⟨rfl, m, os, rfl⟩
      have ec : d.countP (fun x : TS => decide (cf x.1 p < 0)) = l.countP (fun x => decide (cf x p < 0)) := by rw [← hd, List.countP_map]; rfl
      have e2 : d.toArray.toList = d := by simp
      rw [e2, ec]
      refine ⟨?_, ?_⟩
      · have hm := count_mem l p up
        rw [← hm]
        congr 5
        by_cases hc : l.countP (fun x => decide (cf x p < 0)) < l.length
        · have hc2 : l.countP (fun x => decide (cf x p < 0)) < d.length := by omega
          have e3 : (d.toArray[l.countP (fun x => decide (cf x p < 0))]!).1 = l.getD (l.countP (fun x => decide (cf x p < 0))) [] := by
            rw [getElem!_pos d.toArray _ (by simpa using hc2), List.getD_eq_getElem?_getD, List.getElem?_eq_getElem hc]
            simp [← hd]
          rw [e3]
        · simp [hc]
      · unfold sortWorld
        rw [putRow_self encT (Sort.ahead w m) g 0 d.toArray (fun j hj => hH j hj)]
        exact below_grow w m os
set_option maxHeartbeats 1000000 in
/-- turned round in place -/
theorem rev_any {w : World} {base : Nat} {v : Value} {l : List (List UInt8)} (h : Own base w v l) (hl : l.length ≤ 100000000) (hbase : base ≤ w.heap.size) :
    Calls Tryz.prog 41 #[v] w fun e w' => e = .returned (.tuple #[]) ∧ Own base w' v l.reverse ∧ Below base w w' := by
  by_cases h0 : l = []
  · subst h0
    obtain ⟨a, c, e, _⟩ := h.bs.form
    have hS := Any.slices_Reverse_string_empty Tryz.reverseL a c w
    change Calls Tryz.prog 41 _ _ _ at hS
    rw [e]
    refine hS.mono ?_
    rintro e1 w' ⟨rfl, rfl⟩
    exact ⟨rfl, by rw [← e]; exact h, Below.refl _ _⟩
  · rcases h.2 with ⟨_, h1⟩ | ⟨g, cap, cur, rfl, hbg, hg, hn, hcm, hcs, htake⟩
    · exact absurd (List.eq_nil_of_length_eq_zero h1) h0
    · have hH : Holds encStr w g 0 l.toArray := holds_of_block hg (by rw [sc_enc]; simpa using htake)
      have hC := Any.slices_Reverse_string Tryz.reverseL g 0 cap l w hH (by omega)
      change Calls Tryz.prog 41 _ _ _ at hC
      refine hC.mono ?_
      rintro e w' ⟨rfl, q, rfl⟩
      have ho := ownsRow_sorted (w := w) (base := base) (g := g) (cap := cap) (n := q) (e := 9) (os := #[]) (ss := l) (ts := l.reverse) (by simp) hbg hg hn hcm hcs
      have hgr := grownBy_sorted (w := w) (g := g) (n := q) (os := #[]) l.reverse.toArray
      rw [grow_empty] at ho hgr
      refine ⟨rfl, ?_, (Below.refl _ _).grown hgr hbase (fun k hk => by cases hk; exact hbg)⟩
      unfold Own
      rw [List.length_reverse]
      exact ho
end Go.Proofs.YtfdcfcalbongeaaGreat

namespace Go.Proofs.YtfdcfcalbongeaaGreat
open Go.RowKit

theorem gth_lenK : ∀ (k : List Fl), (∀ f ∈ k, f.path.length ≤ 120) → (gth k).length ≤ k.length * 120
  | [], _ => by simp [gth]
  | f :: k, h => by
    have h1 := gth_lenK k (fun g hg => h g (by simp [hg]))
    have h2 := upl_len (dir f.path)
    have h3 := dir_le f.path
    have h4 := h f (by simp)
    show (upl (dir f.path) ++ gth k).length ≤ _
    rw [List.length_append, List.length_cons]
    omega
set_option maxHeartbeats 4000000 in
set_option maxRecDepth 100000 in
theorem ldirs_any {w : World} {v : Value} {l : List Fl} (h : FS w v l) (h5 : l.length ≤ 512) (hp : ∀ f ∈ l, f.path.length ≤ 120) :
    Calls Tryz.prog 19 #[v] w fun e w' => ∃ v', e = .returned v' ∧ Own w.heap.size w' v' (nds l) ∧ Below w.heap.size w w' := by
  have H : Hid (FS w v l) := h
  obtain ⟨a, c, rfl, _⟩ := h.form
  rename_i hform
  clear h hform
  obtain ⟨n, hn⟩ : ∃ n, l.length = n := ⟨_, rfl⟩
  have H' : Hid (FS w (.slice a l.length c) l) := H.out
  have HP : Hid (∀ f ∈ l, f.path.length ≤ 120) := hp
  have HG : Hid (Sm (gth l)) := gth_sm h5 hp
  have HGk : Hid (∀ k, (gth (l.take k)).length ≤ 100000) := fun k => by
    have h2 := gth_lenK (l.take k) (fun f hf => hp f (List.mem_of_mem_take hf))
    rw [List.length_take] at h2
    omega
  clear H hp
  rw [hn] at h5 ⊢
  have HN : Hid (l.length = n) := hn
  clear hn
  obtain ⟨G, hG⟩ : ∃ G, w.heap.size = G := ⟨_, rfl⟩
  go_enter Tryz.func19, Tryz.ntmps19
  go_wp2_with fail
  go_loopw [3, 9] (fun o i wr => ∃ k : Nat, k ≤ n ∧ i = .int .i64 k ∧ Own G wr o (gth (l.take k)) ∧ Below G w wr) (fun _ i _ => n - (intOf i).toNat)
  case atStart => exact ⟨0, Nat.zero_le _, rfl, Own.nil _ _, Below.refl _ _⟩
  case round =>
    obtain ⟨k, hk, rfl, ho, hbw⟩ := hrel
    have HB : Hid (Below G w wr ∧ Own G wr u3 (gth (l.take k))) := ⟨hbw, ho⟩
    have hzo : G ≤ wr.heap.size := by have := hbw.size; omega
    clear hbw ho
    by_cases hlt : k < n
    · have hkl : k < l.length := by have := HN.out; omega
      obtain ⟨b, off, ea, hbw, d0, d1, d2, d3⟩ := FS.at H'.out (by rw [hG]; exact HB.out.1) hkl
      subst ea
      have hsn := gth_snoc l k hkl
      have hpl := HP.out l[k] (List.getElem_mem _)
      obtain ⟨f, hf⟩ : ∃ f, l[k] = f := ⟨_, rfl⟩
      rw [hf] at d0 d1 d2 d3 hsn hpl
      obtain ⟨p, t, bl, sz⟩ := f
      simp only at d0 d1 d2 d3 hsn hpl
      have HSN : Hid (gth (l.take (k + 1)) = gth (l.take k) ++ upl (dir p)) := hsn
      have hpd := dir_le p
      have HD : Hid (∀ W, Calls Tryz.prog 38 #[.string (bs p)] W fun e w' => e = .returned (.string (bs (dir p))) ∧ w' = W) := fun W => dir_any p W (by omega)
      have k1 : (0 : Int) ≤ (k : Int) := by omega
      have k2 : (k : Int) < (n : Int) := by omega
      clear hf hsn
      obtain ⟨X0, hX0⟩ : ∃ X, gth (l.take k) = X := ⟨_, rfl⟩
      rw [hX0] at HB HSN
      have HX0 : Hid (X0.length ≤ 100000) := by have := HGk.out k; rw [hX0] at this; exact this
      clear hX0
      obtain ⟨wo, hwo⟩ : ∃ wo, wo = wr := ⟨_, rfl⟩
      subst hwo
      have HA : Hid (Own G (wo.alloc (.cells #[.string (bs p), .string (bs t), .int .i64 bl, .int .i64 sz] 30)) u3 X0 ∧ Below G w (wo.alloc (.cells #[.string (bs p), .string (bs t), .int .i64 bl, .int .i64 sz] 30))) := ⟨HB.out.2.alloc _, below_trans HB.out.1 (below_mono (balloc _ _) hzo)⟩
      go_wp2_with fail
      refine (HD.out _).mono ?_
      rintro e w1 ⟨rfl, rfl⟩
      go_wp2_with fail
      go_loopw [3, 6] (fun o d wr => ∃ (x : List UInt8) (X : List (List UInt8)), d = .string (bs x) ∧ x.length ≤ 120 ∧ X ++ upl x = X0 ++ upl (dir p) ∧ X.length + x.length ≤ 100120 ∧ Own G wr o X ∧ Below G w wr) (fun _ d _ => match d with | .string s => s.size | _ => 0)
      case atStart => exact ⟨dir p, X0, rfl, by omega, rfl, by have := HX0.out; omega, HA.out.1, HA.out.2⟩
      case round =>
        obtain ⟨x, X, rfl, hx, hX, hXl, ho, hbw⟩ := hrel
        have HO : Hid (Own G wr u3 X ∧ Below G w wr) := ⟨ho, hbw⟩
        have HX : Hid (X ++ upl x = X0 ++ upl (dir p)) := hX
        have hz : G ≤ wr.heap.size := by have := hbw.size; omega
        have hxt := bs_toList x
        clear ho hbw hX
        by_cases hx0 : x = []
        · have HX2 : Hid (gth (l.take (k + 1)) = X) := by
            show _ = _
            rw [HSN.out, ← HX.out, hx0, upl_nil, List.append_nil]
          subst hx0
          go_wp2_with fail
          refine ⟨⟨k + 1, by omega, by go_num, by rw [HX2.out]; exact HO.out.1, HO.out.2⟩, ?_⟩
          simp [intOf]; omega
        · have hxe : x.isEmpty = false := by cases x with | nil => exact absurd rfl hx0 | cons _ _ => rfl
          have hxd := dir_lt hx0
          have HXN : Hid ((X ++ [x]) ++ upl (dir x) = X0 ++ upl (dir p)) := by
            show _ = _
            rw [← HX.out, upl_cons hx0]; simp
          have HDx : Hid (∀ W, Calls Tryz.prog 38 #[.string (bs x)] W fun e w' => e = .returned (.string (bs (dir x))) ∧ w' = W) := fun W => dir_any x W (by omega)
          clear hx0
          go_wp2_with (at_builtin; refine app_one (base := G) x HO.out.1 (by omega) hz rfl (.tmp 20) (.tmp 22) rfl rfl rfl ?_; intro v5 w5 ho5 hb5 hbs5 _ _; have O5 : Hid (Own G w5 v5 (X ++ [x]) ∧ Below G w w5) := ⟨ho5, below_trans HO.out.2 hb5⟩; clear ho5 hb5 hbs5)
          refine (HDx.out _).mono ?_
          rintro e w6 ⟨rfl, rfl⟩
          go_wp2_with fail
          go_roundw
          case rel => exact ⟨dir x, X ++ [x], rfl, by omega, HXN.out, by simp; omega, O5.out.1, O5.out.2⟩
          case measure =>
            show (bs (dir x)).size < (bs x).size
            rw [bs_size, bs_size]; exact hxd
    · obtain rfl : k = n := by omega
      have HS := HG.out
      have HE : Hid (Own G wr u3 (gth l) ∧ Below G w wr) := by
        have := HB.out.2
        rw [List.take_of_length_le (by have := HN.out; omega)] at this
        exact ⟨this, HB.out.1⟩
      have HNo : Hid (Calls Tryz.prog 30 #[u3, .func (.func 31) #[] #[]] wr fun e w' => e = .returned (.tuple #[]) ∧ ∃ ts, ts.Perm (gth l) ∧ ts.Pairwise (fun a b => cf a b ≤ 0) ∧ Own G w' u3 ts ∧ Below G wr w') := sort_any HE.out.1 (by have := HS.len; omega) (fun x hx => HS.each x hx) hzo
      clear HS
      go_wp2_with fail
      refine HNo.out.mono ?_
      rintro e w2 ⟨rfl, ts, hpm, hso, ho2, hb2⟩
      have h2z : G ≤ w2.heap.size := Nat.le_trans hzo hb2.size
      have HSt : Sm ts := ⟨by rw [hpm.length_eq]; exact HG.out.len, fun x hx => HG.out.each x (hpm.mem_iff.1 hx)⟩
      have hnn : norm ts = nds l := norm_of (up_norm _) (fun x => (mem_norm x (gth l)).trans hpm.mem_iff.symm)
      have HC : Hid (Calls Tryz.prog 39 #[u3] w2 fun e w' => ∃ v', e = .returned v' ∧ Own G w' v' (nds l) ∧ Below G w2 w') := by
        have := compact_any ho2 HSt hso h2z
        rw [hnn] at this
        exact this
      have H2 : Hid (Below G w w2) := below_trans HE.out.2 hb2
      clear hpm hso ho2 hb2 HSt hnn h2z
      go_wp2_with fail
      refine HC.out.mono ?_
      rintro e w3 ⟨v3, rfl, ho3, hb3⟩
      have O3 : Hid (Own w.heap.size w3 v3 (nds l) ∧ Below w.heap.size w w3) := by
        rw [hG]
        exact ⟨ho3, below_trans H2.out hb3⟩
      clear ho3 hb3
      go_wp2_with fail
      go_ret
      exact ⟨_, rfl, O3.out.1, O3.out.2⟩
end Go.Proofs.YtfdcfcalbongeaaGreat
