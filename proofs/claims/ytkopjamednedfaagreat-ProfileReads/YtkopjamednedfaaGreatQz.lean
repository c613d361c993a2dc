/-
  Read.
-/
import Derived.Test.YtkopjamednedfaaGreatQy
namespace Go.Proofs.YtkopjamednedfaaGreat
open Go.RowKit Go.Maps
attribute [local go_sem] Oper.semAt_some

theorem shB_len (l : List UInt8) : (shB l).length ≤ l.length := by
  by_cases h : l = [47, 42, 10]
  · rw [h]; decide
  · rw [shB_eq l h]
    have h1 := tpf_len [47] l
    have h2 : (tsf [47, 10] (tpf [47] l)).length ≤ (tpf [47] l).length := by
      unfold tsf
      split
      · rw [List.length_take]; omega
      · exact Nat.le_refl _
    omega
theorem stO_mem : ∀ (pre o : List (List UInt8)), ∀ x ∈ pre.foldl stO o, x ∈ o ∨ ∃ l ∈ pre, x = shB l
  | [], o, x, hx => .inl hx
  | l :: pre, o, x, hx => by
    rcases stO_mem pre (stO o l) x hx with h | ⟨m, hm, rfl⟩
    · unfold stO at h
      split at h
      · exact .inl (List.dropLast_subset _ h)
      · rcases List.mem_append.1 h with h | h
        · exact .inl h
        · exact .inr ⟨l, by simp, List.mem_singleton.1 h⟩
    · exact .inr ⟨m, by simp [hm], rfl⟩
theorem lo_sm (s : List UInt8) (hs : s.length ≤ 65536) : Sm (lo s) := by
  obtain ⟨h1, h2⟩ := lnz_len s
  refine ⟨?_, fun x hx => ?_⟩
  · have := stO_len (lnz s) []
    unfold lo
    simp at this
    omega
  · rcases stO_mem (lnz s) [] x hx with h | ⟨l, hl, rfl⟩
    · cases h
    · have := shB_len l
      have := h2 l hl
      omega
set_option maxRecDepth 100000 in
set_option maxHeartbeats 4000000 in
theorem read_any (s : List UInt8) (w : World) (hs : s.length ≤ 1000000000) :
    Calls Tryz.prog 13 #[.string (bs s)] w fun e w' => ∃ v, e = .returned (.tuple #[v, .int .i64 (prd s).2]) ∧ Own w.heap.size w' v (prd s).1 ∧ Below w.heap.size w w' := by
  have z1 : (bs s).size = s.length := rfl
  have HP := hid_of (prd_lo s)
  by_cases hb : s.length ≤ 65536
  · have b1 : ¬ ((65536 : Int) < (s.length : Int)) := by omega
    have HLF := hid_of (left_any s w hb)
    have HSM := hid_of (lo_sm s hb)
    obtain ⟨t, ht⟩ : ∃ t, (pwr (lo s)).1 = t := ⟨_, rfl⟩
    obtain ⟨z, hz⟩ : ∃ z, (pwr (lo s)).2 = z := ⟨_, rfl⟩
    have HB := hid_of hb
    have t1 : (bs t).toList = t := bs_toList _
    have t2 : (bs s).toList = s := bs_toList _
    have HT : Hid (pwr (lo s) = (t, z)) := by show _ = _; rw [← ht, ← hz]
    clear hb
    go_enter Tryz.func13, Tryz.ntmps13
    go_wp2_with fail
    refine HLF.out.mono ?_
    rintro e w1 ⟨v1, rfl, ho1, hb1⟩
    obtain ⟨a, c, ev, -⟩ := ho1.bs.form
    have HWR := hid_of (write_any ho1.bs HSM.out (by have := HSM.out.len; omega))
    rw [ht, hz] at HWR
    have H1 : Hid (Own w.heap.size w1 v1 (lo s) ∧ Below w.heap.size w w1) := ⟨ho1, hb1⟩
    obtain ⟨n, hn⟩ : ∃ n, (lo s).length = n := ⟨_, rfl⟩
    rw [hn] at ev
    subst ev
    clear ho1 hb1 hn ht hz HLF
    go_wp2_with fail
    refine HWR.out.mono ?_
    rintro e w2 ⟨rfl, hb2⟩
    have H2 : Hid (Own w.heap.size w2 (.slice a n c) (lo s) ∧ Below w.heap.size w w2) := ⟨H1.out.1.later hb2, bstep H1.out.2 hb2⟩
    clear hb2 HWR
    by_cases hz0 : z = 0
    · subst hz0
      by_cases hts : t = s
      · subst hts
        have h1 : (t == t) = true := by simp
        have HR : Hid (prd t = (lo t, 0)) := by
          show _ = _
          rw [HP.out, if_pos ⟨HB.out, HT.out⟩]
        go_wp2_with fail
        go_ret2
        exact ⟨_, by rw [HR.out]; rfl, by rw [HR.out]; exact H2.out.1, H2.out.2⟩
      · have h1 : (t == s) = false := by simpa using hts
        have HR : Hid (prd s = ([], 18)) := by
          show _ = _
          rw [HP.out, if_neg]
          rintro ⟨_, h⟩
          rw [HT.out] at h
          injection h with h _
          exact hts h
        clear hts
        go_wp2_with fail
        go_ret2
        exact ⟨_, by rw [HR.out]; rfl, by rw [HR.out]; exact Own.nil _ _, H2.out.2⟩
    · have h1 : (z == 0) = false := by simpa using hz0
      have HR : Hid (prd s = ([], 18)) := by
        show _ = _
        rw [HP.out, if_neg]
        rintro ⟨_, h⟩
        rw [HT.out] at h
        injection h with _ h
        exact hz0 h
      go_wp2_with fail
      go_ret2
      exact ⟨_, by rw [HR.out]; rfl, by rw [HR.out]; exact Own.nil _ _, H2.out.2⟩
  · have b1 : (65536 : Int) < (s.length : Int) := by omega
    have HR : Hid (prd s = ([], 18)) := by
      show _ = _
      rw [HP.out, if_neg (fun h => hb h.1)]
    clear hb
    go_enter Tryz.func13, Tryz.ntmps13
    go_wp2_with fail
    go_ret2
    exact ⟨_, by rw [HR.out]; rfl, by rw [HR.out]; exact Own.nil _ _, Below.refl _ _⟩
end Go.Proofs.YtkopjamednedfaaGreat
