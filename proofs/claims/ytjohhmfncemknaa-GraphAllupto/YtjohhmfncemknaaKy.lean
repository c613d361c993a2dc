/-
  The keys of a map, one by one.
-/
import Derived.Test.YtjohhmfncemknaaSrt
import Derived.RangeFuncNested
import Derived.RangeFuncBound
import Derived.RangeFuncCalls
import Derived.RangeFuncLeaves
import Derived.Shelf.RegionOpen
import Derived.OwnWalkIn
import Derived.TacticsInMore
import Derived.LoopNIn
import Derived.LoopIn
import Derived.Sort.MapsRangeIn
namespace Go.Proofs.Ytjohhmfncemknaa
open Go.RowKit Go.Maps

/-- what has come of the keys -/
structure Cl (D : DataW Unit) (left : Lit → Bool) (ss : List Lb) : Prop where
  nd : ss.Nodup
  key : ∀ a ∈ ss, keyOf Try.prog 31 a.val = some (.string (kb a))
  iff : ∀ a : Lb, keyOf Try.prog 31 a.val = some (.string (kb a)) → (a ∈ ss ↔ Maps.has D (.string (kb a)) = true ∧ left (.string (kb a)) = false)
theorem Cl.start (D : DataW Unit) : Cl D (Maps.has D) [] := ⟨List.nodup_nil, by simp, fun a _ => by simp⟩
theorem Cl.step {D : DataW Unit} {left : Lit → Bool} {ss : List Lb} (h : Cl D left ss) {x : Lb} (hx : keyOf Try.prog 31 x.val = some (.string (kb x))) (hl : left (.string (kb x)) = true) (hh : Maps.has D (.string (kb x)) = true) :
    Cl D (fun z => left z && !z.sameKey (.string (kb x))) (ss ++ [x]) := by
  have hn : x ∉ ss := fun e => by have := ((h.iff x hx).1 e).2; rw [hl] at this; cases this
  refine ⟨?_, ?_, fun a ha => ?_⟩
  · rw [List.nodup_append]
    refine ⟨h.nd, by simp, ?_⟩
    intro y hy z hz
    have : z = x := by simpa using hz
    subst this
    rintro rfl
    exact hn hy
  · intro a ha
    rcases List.mem_append.1 ha with ha | ha
    · exact h.key a ha
    · have : a = x := by simpa using ha
      rw [this]; exact hx
  · rw [List.mem_append, h.iff a ha]
    by_cases e : kb a = kb x
    · have ea : a = x := by rw [e] at ha; exact val_inj (lawL.inj ha hx)
      subst ea
      simp [hh, WideAt.sameKey_self (isKeyLit (kb a))]
    · have hne : a ≠ x := fun h => e (by rw [h])
      rw [Maps.sameKey_ne (fun h => e (Lit.string.inj h))]
      simp [hne]

set_option maxRecDepth 100000 in
set_option maxHeartbeats 4000000 in
theorem keys_it {w : World} {b cnt : Nat} {F : Lb → Option (Option (Nat × Nat × Nat))} (h : MP cS w b F cnt) (Bm : Nat) (hBm : Bm < w.heap.size) (hm : w.cell? ⟨Bm, 0, none⟩ = some (.map (some b))) (n : Nat) (hn : 1 ≤ n) :
    SeqStopsK Fence.wide n Try.prog 53 #[.pointer (some ⟨Bm, 0, none⟩)] (fun x : Lb => #[x.val]) KeepsWalks (fun ss => ss.Nodup ∧ ∀ a, a ∈ ss ↔ Lu a ∧ (F a).isSome = true) (fun _ => True) cnt w := by
  intro l J Jx W hW hJ hJx hY h0
  have hmW := (hW.cell (p := ⟨Bm, 0, none⟩) hBm).trans hm
  obtain ⟨D, hown, hsz, hks, hF⟩ := h.later hW
  clear h hm hBm
  change CallsIn Fence.wide n Try.prog 53 #[.func (.yield l) #[] #[], .pointer (some ⟨Bm, 0, none⟩)] W _
  refine callsIn_of_wp Try.func53 rfl trivial ?_ rfl
  rw [Try.ntmps53, show (#[Value.func (.yield l) #[] #[], .pointer (some ⟨Bm, 0, none⟩)] ++ Array.replicate (14 - (#[Value.func (.yield l) #[] #[], .pointer (some ⟨Bm, 0, none⟩)] : Array Value).size) undef) = #[.func (.yield l) #[] #[], .pointer (some ⟨Bm, 0, none⟩), undef, undef, undef, undef, undef, undef, undef, undef, undef, undef, undef, undef] from rfl]
  have HF : Hid ((∀ k : Lb, Lu k → Maps.has D (.string (kb k)) = (F k).isSome ∧ ∀ x, F k = some x → ∀ zd, D.atKey (.string (kb k)) zd = cS.d x) ∧ Ks D ∧ Maps.size D = cnt) := ⟨hF, hks, hsz⟩
  clear hF hks hsz
  gi_wp2_with (first
    | (gi_at_range; refine wpListIn_range_own _ rfl _ 60 rfl 31 28 lawL cS.und _ b cnt _ rfl hown ?_; intro w0 hrg0 hg0 hs0)
    | gi_in)
  gi_loopw [3] (fun _ wr => ∃ (left : Lit → Bool) (c : Nat) (ss : List Lb), wr.ranges Try.prog 31 cS.R b W.heap.size cnt D left c ∧ ss.length + c ≤ cnt ∧ Cl D left ss ∧ J ss wr)
    (fun _ wr => wr.rangeLeft b W.heap.size)
  case atStart =>
    exact ⟨_, _, [], hrg0, by rw [HF.out.2.2]; simp, Cl.start D, hJ [] W w0 none h0 hg0 (fun r e => by cases e)⟩
  case round =>
    obtain ⟨left, c, ss, hrg, hcs, hC, hJs⟩ := hrel
    gi_wp2_with (first
      | (gi_at_next; refine wpListIn_next_ranges _ rfl _ rfl 31 lawL cS.R (fun x : Lb => Value.agg #[.string (bs x.pkg), .string (bs x.name)]) sv (fun key kl hk => by obtain ⟨x, hx, _⟩ := keyInv hk; exact ⟨x, hx⟩) (fun v y hy => cS.inv v y hy) b W.heap.size cnt _ _ _ rfl hrg ?_ ?_)
      | gi_in)
    · -- nothing is left
      intro hc0 hl0
      gi_wp2
      go_end0
      refine ⟨⟨_, rfl⟩, .inl ⟨ss, ⟨hC.nd, fun a => ?_⟩, hJs⟩⟩
      constructor
      · intro ha
        have hk := hC.key a ha
        have hh := ((hC.iff a hk).1 ha).1
        have hu := HF.out.2.1 a hk hh
        exact ⟨hu, by rw [← (HF.out.1 a hu).1]; exact hh⟩
      · rintro ⟨hu, hs⟩
        exact (hC.iff a (keyL hu)).2 ⟨by rw [(HF.out.1 a hu).1]; exact hs, hl0 _⟩
    · intro x cc kl yd yp w2 cnt2 hkey hlk hv hat hrg2 hlt hg2 hs2 hen
      obtain ⟨x', ex, rfl⟩ := keyInv hkey
      obtain rfl : x = x' := val_inj ex
      have HK : Hid (keyOf Try.prog 31 x.val = some (.string (kb x)) ∧ left (.string (kb x)) = true ∧ Maps.has D (.string (kb x)) = true) := ⟨hkey, hlk, Maps.has_true_of_atKey hat⟩
      clear hkey hlk hat hv ex
      have hJ2 : J ss w2 := hJ ss wr w2 (some W.heap.size) hJs hg2 (fun r e => by cases e; exact ⟨Nat.le_refl _, hrg.iter_walk⟩)
      have hJ3 : J ss (w2.alloc (.cells #[.string (bs x.pkg), .string (bs x.name)] 31)) := hJ ss w2 _ none hJ2 (World.grownBy_alloc _ _ _) (fun r e => by cases e)
      have hrg3 := hrg2.alloc (.cells #[.string (bs x.pkg), .string (bs x.name)] 31)
      obtain ⟨fn, tmps, assign, body, hy, hR⟩ := hY ss x _ hJ3 (by omega)
      have hy2 : (Instr.yield l #[.agg #[.string (bs x.pkg), .string (bs x.name)]]).run Try.prog (w2.alloc (.cells #[.string (bs x.pkg), .string (bs x.name)] 31)) = .ok (.round l fn tmps assign body) (w2.alloc (.cells #[.string (bs x.pkg), .string (bs x.name)] 31)) := hy
      clear hy
      have HR : Hid (w2.ranges Try.prog 31 cS.R b W.heap.size cnt D (fun z => left z && !z.sameKey (.string (kb x))) cnt2) := hrg2
      have HH : Hid ((w2.alloc (.cells #[.string (bs x.pkg), .string (bs x.name)] 31)).ranges Try.prog 31 cS.R b W.heap.size cnt D (fun z => left z && !z.sameKey (.string (kb x))) cnt2 ∧ cnt2 < c ∧ wr.rangeLeft b W.heap.size = c ∧ Cl D left ss ∧ ss.length + c ≤ cnt) := ⟨hrg3, hlt, hrg.left_eq, hC, hcs⟩
      clear hs2 hrg3 hrg2 hg2 hrg hC hJ2 hJs hlt hcs
      gi_wp2
      refine hR.mono ?_
      rintro e W3 (⟨rfl, hJ4, hk4⟩ | ⟨rfl, hJ4⟩)
      · have HR3 : Hid (W3.ranges Try.prog 31 cS.R b W.heap.size cnt D (fun z => left z && !z.sameKey (.string (kb x))) cnt2) := HH.out.1.of_walks hk4
        clear hk4
        gi_wp2
        go_roundw
        case rel => exact ⟨_, cnt2, ss ++ [x], HR3.out, by have := HH.out.2.1; have := HH.out.2.2.2.2; simp; omega, HH.out.2.2.2.1.step HK.out.1 HK.out.2.1 HK.out.2.2, hJ4⟩
        case measure => rw [HR3.out.left_eq, HH.out.2.2.1]; exact HH.out.2.1
      · gi_wp2
        refine bodyPost_ret (results_none rfl _ _ _) rfl ?_
        exact ⟨⟨_, rfl⟩, .inr ⟨ss ++ [x], hJ4⟩⟩

set_option maxHeartbeats 1000000 in
theorem mkeys_any (b : Nat) (w : World) : Calls Try.prog 37 #[.map (some b)] w fun e w' => e = .returned (.func (.func 53) #[] #[.pointer (some ⟨w.heap.size, 0, none⟩)]) ∧ w' = w.alloc (.cells #[.map (some b)] 60) := by
  go_enter Try.func37, Try.ntmps37
  go_wp2_with fail
  go_ret
  exact ⟨rfl, rfl⟩
end Go.Proofs.Ytjohhmfncemknaa
