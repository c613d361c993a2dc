/-
  The landed plan: rows of steps joined.
  The landed plan: Make.
-/
import Derived.Test.YtfdcfcalbongeaaGreatJKe
import Derived.Lib.AppendZeros
import Derived.Test.YtfdcfcalbongeaaGreatJKb
namespace Go.Proofs.YtfdcfcalbongeaaGreat
open Go.RowKit

/-- steps of the call's own, at their block's head -/
def OwK (base : Nat) (w : World) (v : Value) (l : List Sp) : Prop := w.ownsRow base 42 6 v l.length (pc l)
theorem PS.src {w : World} {v : Value} {l : List Sp} {P : Program} {tx e' : TypeId} (h : PS w v l) (hk : P.underlying tx = some (.slice e')) : Src P 6 tx v l.length (pc l) w := by
  rcases h with ⟨⟨a, c, rfl⟩, rfl⟩ | ⟨b, off, cap, rfl, hc, hlt, hcell⟩
  · cases a with
    | none => exact Src.ofNil w hk c
    | some a => exact Src.ofSlice w hk a 0 c [] (by simp) (fun j u hu => by simp at hu) (fun u hu => by cases hu)
  · exact Src.ofSlice w hk ⟨b, off, none⟩ l.length cap (pc l) (pc_length l) (fun j u hu => by rw [add_lit]; exact hcell j u hu) (pc_one l)
theorem app_stepsK {w : World} {base : Nat} {v x : Value} {l k : List Sp} (hown : OwK base w v l) (hs : PS w x k) (hb : l.length + k.length ≤ 1000000000) (hbase : base ≤ w.heap.size)
    {ops : Array Oper} {rest : List Oper} {o : Oper} {a : Act} {Q : Exit → Act → World → Prop} (hgd : o.guard = none) (s y : Operand)
    (ho : o.op = .call { callee := .builtin .append, args := #[s, y], argTypes := #[23, 23] }) (hv : a.eval s = v) (hx : a.eval y = x)
    (h : ∀ v' w', OwK base w' v' (l ++ k) → Below base w w' → wpList Tryz.prog ops Q rest (a.put o.dst v') w') :
    wpList Tryz.prog ops Q (o :: rest) a w := by
  obtain ⟨i0, hi, hz0, hz1, hz2⟩ := info_parts info42
  refine wpList_append_src w hgd s y 23 23 ho base 42 i0 _ 6 72 und23 hi hz0 hz1 hz2 rfl v l.length (pc l) hv hown x k.length (pc k) hx (hs.src und23) (by simp only [maxLen]; omega) (by omega) hbase ?_
  intro v' w' h1 h2 _
  exact h v' w' (by unfold OwK; rw [pc_append, List.length_append]; exact h1) ((Below.refl _ _).grown h2 hbase (fun j hj => (World.ownsRow.lt hown j hj).1))
theorem und3K : Tryz.prog.underlying 3 = some (.int .i64) := by kernel_rfl
set_option maxRecDepth 100000 in
set_option maxHeartbeats 1000000 in
theorem lgrow_any (n : Nat) (hn : n ≤ 100000000) (w : World) : Calls Tryz.prog 40 #[.slice none 0 0, .int .i64 n] w fun e w' => ∃ v, e = .returned v ∧ OwK w.heap.size w' v [] ∧ Below w.heap.size w w' := by
  by_cases h0 : n = 0
  · subst h0
    go_enter Tryz.func40, Tryz.ntmps40
    go_wp2_with fail
    go_ret
    exact ⟨_, rfl, World.ownsRow_nil w w.heap.size 42 6, Below.refl _ _⟩
  · obtain ⟨i0, hi, hz0, hz1, hz2⟩ := info_parts info42
    have hr := fun ty => Lib.run_append_nil_zeros (P := Tryz.prog) w 23 3 ty 42 i0 _ .i64 .i64 und23 und3K hi hz0 n (by omega) (by omega) (by omega) (by rw [hz2]; omega)
    have HR : Hid _ := hr
    have hge := grownCap_ge w n 0 42
    have hcm : grownCap w n 0 42 ≤ maxLen := grownCap_le_maxLen w n 0 42 (by unfold maxLen; omega)
    obtain ⟨cp, hcp⟩ : ∃ cp, grownCap w n 0 42 = cp := ⟨_, rfl⟩
    have HO : Hid (∀ W, W = w.drew.alloc (.cells (Builtin.zeroCells (Value.agg #[.int .i64 0, .string ⟨#[]⟩, .string ⟨#[]⟩, .string ⟨#[]⟩, .int .i64 0, .int .i64 0]).cells n ++ Builtin.zeroCells (Value.agg #[.int .i64 0, .string ⟨#[]⟩, .string ⟨#[]⟩, .string ⟨#[]⟩, .int .i64 0, .int .i64 0]).cells (cp - n)) 42) → OwK w.heap.size W (.slice (some ⟨w.heap.size, 0, none⟩) 0 cp) [] ∧ Below w.heap.size w W) := by
      rintro W rfl
      refine ⟨⟨rfl, .inr ⟨w.heap.size, cp, _, rfl, Nat.le_refl _, heap_alloc_new w.drew _, Nat.zero_le _, by rw [← hcp]; exact hcm, ?_, rfl⟩⟩, (Below.refl _ _).drew.alloc (Nat.le_refl _) _⟩
      rw [Array.size_append, size_zeroCells, size_zeroCells]
      have : (Value.agg #[.int .i64 0, .string ⟨#[]⟩, .string ⟨#[]⟩, .string ⟨#[]⟩, .int .i64 0, .int .i64 0]).cells.size = 6 := rfl
      rw [this]
      omega
    rw [hcp] at HR hge
    have hn0 : ¬ (n : Int) < 0 := by omega
    have hn1 : (0 : Int) < (n : Int) := by omega
    clear hr hi hz0 hz1 hz2 hcm hcp
    go_enter Tryz.func40, Tryz.ntmps40
    go_wp2_with (at_builtin; refine Lib.wpList_append_run _ rfl _ _ _ _ rfl _ _ rfl rfl _ _ (HR.out _) ?_)
    go_ret
    obtain ⟨h1, h2⟩ := HO.out _ rfl
    exact ⟨_, rfl, h1, h2⟩
theorem flat_snoc (L : List (List Sp)) (k : Nat) (hk : k < L.length) : (L.take (k + 1)).flatten = (L.take k).flatten ++ L[k] := by
  rw [List.take_succ_eq_append_getElem hk, List.flatten_append]
  simp
theorem flat_le (L : List (List Sp)) (k : Nat) : (L.take k).flatten.length ≤ L.flatten.length := by
  have : L.flatten = (L.take k).flatten ++ (L.drop k).flatten := by rw [← List.flatten_append, List.take_append_drop]
  rw [this, List.length_append]
  omega
set_option maxRecDepth 100000 in
set_option maxHeartbeats 4000000 in
theorem lconcat_any {w : World} {g m c : Nat} (V : List Value) (L : List (List Sp)) (hg : g < w.heap.size) (hV : V.length = m) (hL : L.length = m) (hc : ∀ i, (h : i < V.length) → w.cell? ⟨g, i, none⟩ = some V[i])
    (hp : ∀ i, (h : i < V.length) → (h' : i < L.length) → PS w V[i] L[i]) (hs : L.flatten.length ≤ 1000000) (hm : m ≤ 1000000) :
    Calls Tryz.prog 20 #[.slice (some ⟨g, 0, none⟩) m c] w fun e w' => ∃ v, e = .returned v ∧ OwS w.heap.size w' v L.flatten ∧ Below w.heap.size w w' := by
  have HC : Hid ((∀ i, (h : i < V.length) → w.cell? ⟨g, i, none⟩ = some V[i]) ∧ (∀ i, (h : i < V.length) → (h' : i < L.length) → PS w V[i] L[i]) ∧ V.length = m ∧ L.length = m ∧ L.flatten.length ≤ 1000000 ∧ g < w.heap.size) := ⟨hc, hp, hV, hL, hs, hg⟩
  have HA : Hid (∀ k, k < m → ∃ a n cp, (∀ W, Below w.heap.size w W → W.cell? ⟨g, k, none⟩ = some (.slice a n cp) ∧ PS W (.slice a n cp) (L.getD k [])) ∧ (L.take (k + 1)).flatten = (L.take k).flatten ++ L.getD k [] ∧ (L.getD k []).length = n ∧ (L.take k).flatten.length + n ≤ 1000000) := by
    intro k hk
    have hv : k < V.length := by omega
    have hl : k < L.length := by omega
    have e : L.getD k [] = L[k] := by rw [List.getD_eq_getElem?_getD, List.getElem?_eq_getElem hl]; rfl
    obtain ⟨a, cp, hf⟩ := (hp k hv hl).form
    refine ⟨a, L[k].length, cp, fun W hW => ?_, ?_, ?_, ?_⟩
    · rw [e, ← hf]
      exact ⟨(hW.cell (p := ⟨g, k, none⟩) hg).trans (hc k hv), (hp k hv hl).later hW⟩
    · rw [e]
      exact flat_snoc L k hl
    · rw [e]
    · have h1 := flat_le L (k + 1)
      rw [flat_snoc L k hl, List.length_append] at h1
      omega
  have HG : Hid (∀ W, Calls Tryz.prog 40 #[.slice none 0 0, .int .i64 (L.flatten.length : Nat)] W fun e w' => ∃ v, e = .returned v ∧ OwK W.heap.size w' v [] ∧ Below W.heap.size W w') := fun W => lgrow_any _ (by omega) W
  clear hc hp hV hL hs
  obtain ⟨G, hG⟩ : ∃ G, w.heap.size = G := ⟨_, rfl⟩
  have HZ : Hid (w.heap.size = G) := hG
  rw [hG]
  clear hG hg
  go_enter Tryz.func20, Tryz.ntmps20
  go_wp2_with fail
  go_loop [3, 11] (fun s i => ∃ k : Nat, k ≤ m ∧ i = .int .i64 k ∧ s = .int .i64 ((L.take k).flatten.length : Nat)) (fun _ i => m - (intOf i).toNat)
  case atStart => exact ⟨0, Nat.zero_le _, rfl, rfl⟩
  case round =>
    obtain ⟨k, hk, rfl, rfl⟩ := hrel
    by_cases hlt : k < m
    · obtain ⟨a, n, cp, hcell, hsn, hln, hle⟩ := HA.out k hlt
      have d0 := (hcell w (Below.refl _ _)).1
      obtain ⟨s, hs⟩ : ∃ s, (L.take k).flatten.length = s := ⟨_, rfl⟩
      have HS : Hid ((L.take (k + 1)).flatten.length = s + n) := by
        show _ = _
        rw [hsn, List.length_append, hs, hln]
      rw [hs] at hle ⊢
      have k1 : (0 : Int) ≤ (k : Int) := by omega
      have k2 : (k : Int) < (m : Int) := by omega
      have s1 : ¬ ((s : Int) + (n : Int) < 0) := by omega
      clear hcell hsn hln hs
      go_wp2_with fail
      go_round
      case rel => exact ⟨k + 1, by omega, by go_num, by rw [HS.out]; go_num⟩
      case measure => simp [intOf]; omega
    · obtain rfl : k = m := by omega
      have HT : Hid ((L.take k).flatten = L.flatten) := by
        show _ = _
        rw [List.take_of_length_le (by have := HC.out.2.2.2.1; omega)]
      rw [HT.out]
      have HGw0 : Calls Tryz.prog 40 #[.slice none 0 0, .int .i64 (L.flatten.length : Nat)] w fun e w' => ∃ v, e = .returned v ∧ OwK G w' v [] ∧ Below G w w' := by
        have := HG.out w
        rw [HZ.out] at this
        exact this
      obtain ⟨tl, htl⟩ : ∃ n, L.flatten.length = n := ⟨_, rfl⟩
      rw [htl] at HGw0 ⊢
      have HGw : Hid (Calls Tryz.prog 40 #[.slice none 0 0, .int .i64 (tl : Int)] w fun e w' => ∃ v, e = .returned v ∧ OwK G w' v [] ∧ Below G w w') := HGw0
      clear HGw0 htl
      go_wp2_with fail
      refine HGw.out.mono ?_
      rintro e w1 ⟨v, rfl, ho, hb1⟩
      have HI : Hid (OwK G w1 v [] ∧ Below w.heap.size w w1) := ⟨ho, by rw [HZ.out]; exact hb1⟩
      clear ho hb1
      go_wp2_with fail
      go_loopw [6, 27] (fun u i wr => ∃ j : Nat, j ≤ k ∧ i = .int .i64 j ∧ OwK G wr u (L.take j).flatten ∧ Below w.heap.size w wr) (fun _ i _ => k - (intOf i).toNat)
      case atStart => exact ⟨0, by omega, rfl, HI.out.1, HI.out.2⟩
      case round =>
        obtain ⟨j, hj, rfl, ho, hbw⟩ := hrel
        by_cases hlt2 : j < k
        · obtain ⟨a, n, cp, hcell, hsn, hln, hle⟩ := HA.out j hlt2
          obtain ⟨d0, hps⟩ := hcell wr hbw
          have hsz : G ≤ wr.heap.size := by have := hbw.size; have := HZ.out; omega
          have HO : Hid (OwK G wr u6 (L.take j).flatten ∧ Below w.heap.size w wr ∧ PS wr (.slice a n cp) (L.getD j []) ∧ (L.take (j + 1)).flatten = (L.take j).flatten ++ L.getD j [] ∧ (L.take j).flatten.length + (L.getD j []).length ≤ 1000000000) := ⟨ho, hbw, hps, hsn, by omega⟩
          have k1 : (0 : Int) ≤ (j : Int) := by omega
          have k2 : (j : Int) < (k : Int) := by omega
          clear ho hbw hcell hsn hln hle hps
          go_wp2_with (at_builtin; refine app_stepsK (base := G) HO.out.1 HO.out.2.2.1 HO.out.2.2.2.2 hsz rfl (.tmp 31) (.tmp 32) rfl rfl rfl ?_; intro v5 w5 ho5 hb5; have O5 : Hid (OwK G w5 v5 (L.take (j + 1)).flatten ∧ Below w.heap.size w w5) := ⟨by rw [HO.out.2.2.2.1]; exact ho5, below_trans HO.out.2.1 (by rw [HZ.out]; exact hb5)⟩; clear ho5 hb5)
          go_roundw
          case rel => exact ⟨j + 1, by omega, by go_num, O5.out.1, O5.out.2⟩
          case measure => simp [intOf]; omega
        · obtain rfl : j = k := by omega
          have HE : Hid (OwS G wr u6 L.flatten ∧ Below w.heap.size w wr) := by
            rw [HT.out] at ho
            exact ⟨OwR.own ho, hbw⟩
          clear ho hbw
          go_wp2_with fail
          go_ret
          exact ⟨_, rfl, HE.out.1, by rw [← HZ.out]; exact HE.out.2⟩
end Go.Proofs.YtfdcfcalbongeaaGreat

namespace Go.Proofs.YtfdcfcalbongeaaGreat
open Go.RowKit
attribute [local go_sem] Oper.semAt_some

theorem mke_zero {old now : List Fl} : mkE old now = 0 ↔ validE old = 0 ∧ validE now = 0 := by
  unfold mkE
  by_cases h : validE old = 0
  · simp [h]
  · simp [h]
theorem fuN {l : List Fl} (h : validE l = 0) : l.length ≤ 512 ∧ (∀ f ∈ l, f.path.length ≤ 120) ∧ (∀ f ∈ l, f.path ≠ []) ∧ FUp l := by
  have hp := new_parts h
  have hs := (validE_zero l).1 h
  unfold stand at hs
  simp only [Bool.and_eq_true, decide_eq_true_eq] at hs
  refine ⟨hs.1.1, fun f hf => ?_, fun f hf => ?_, hp.2.1⟩
  · have h1 := ((fileE_zero f).1 (hp.1 f hf)).1
    unfold pathOk at h1
    simp only [Bool.and_eq_true] at h1
    exact (okP_len h1.2).1
  · have h1 := ((fileE_zero f).1 (hp.1 f hf)).1
    unfold pathOk at h1
    simp only [Bool.and_eq_true, Bool.not_eq_true', beq_eq_false_iff_ne] at h1
    exact h1.1
theorem nds_lenK {l : List Fl} (h5 : l.length ≤ 512) (hp : ∀ f ∈ l, f.path.length ≤ 120) : Sm (nds l) ∧ (nds l).length ≤ 61440 := by
  have h1 := norm_len (gth l)
  have h2 := gth_lenK l hp
  have h3 : (nds l).length ≤ (gth l).length := h1
  refine ⟨(gth_sm h5 hp).norm, by omega⟩
theorem paths_sm {l : List Fl} (h5 : l.length ≤ 512) (hp : ∀ f ∈ l, f.path.length ≤ 120) : Sm (l.map Fl.path) := by
  refine ⟨by simp; omega, fun x hx => ?_⟩
  obtain ⟨f, hf, rfl⟩ := List.mem_map.1 hx
  have := hp f hf
  omega
end Go.Proofs.YtfdcfcalbongeaaGreat
