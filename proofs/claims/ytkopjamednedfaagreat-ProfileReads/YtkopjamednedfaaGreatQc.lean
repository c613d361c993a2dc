/-
  The document's directories.
-/
import Derived.Test.YtkopjamednedfaaGreatQb
import Derived.Test.YtkopjamednedfaaGreatNu
import Derived.Deep.RegionHeld3
import Derived.OrdersHeld
import Derived.Deep.Cut
namespace Go.Proofs.YtkopjamednedfaaGreat
open Go.RowKit Go.Maps
attribute [local go_sem] Oper.semAt_some

theorem ups_nil (n : Nat) : ups n [] = [] := by cases n <;> simp [ups]
theorem ups_len : ∀ (n : Nat) (p : List UInt8), (ups n p).length ≤ n
  | 0, _ => by simp [ups]
  | n + 1, p => by
    unfold ups
    split
    · simp
    · have := ups_len n (dir p)
      simp; omega
theorem dir_le (p : List UInt8) : (dir p).length ≤ p.length := by
  unfold dir
  split
  · simp
  · rw [List.length_take]; omega
theorem psh_len (o : List (List UInt8)) (u : List UInt8) : (psh o u).length ≤ o.length + 1 := by
  unfold psh
  split
  · simp
  · split <;> simp
theorem pshs_len : ∀ (us o : List (List UInt8)), (us.foldl psh o).length ≤ o.length + us.length
  | [], o => by simp
  | u :: us, o => by
    have h1 := pshs_len us (psh o u)
    have h2 := psh_len o u
    rw [List.foldl_cons, List.length_cons]
    omega
theorem ups_each : ∀ (n : Nat) (p : List UInt8), ∀ y ∈ ups n p, y.length ≤ p.length
  | 0, _, y, h => by cases h
  | n + 1, p, y, h => by
    unfold ups at h
    split at h
    · cases h
    · rcases List.mem_cons.1 h with rfl | h
      · exact Nat.le_refl _
      · have := ups_each n (dir p) y h
        have := dir_le p
        omega
theorem psh_sub {o : List (List UInt8)} {u x : List UInt8} (h : x ∈ psh o u) : x ∈ o ∨ x = u := by
  unfold psh at h
  split at h
  · simpa using h
  · split at h
    · simpa using h
    · exact .inl h
theorem pshs_sub : ∀ (us o : List (List UInt8)) (x : List UInt8), x ∈ us.foldl psh o → x ∈ o ∨ x ∈ us
  | [], o, x, h => .inl h
  | u :: us, o, x, h => by
    rcases pshs_sub us (psh o u) x h with h | h
    · rcases psh_sub h with h | h
      · exact .inl h
      · exact .inr (by simp [h])
    · exact .inr (by simp [h])
theorem dsA_len : ∀ (k o : List (List UInt8)), (k.foldl (fun o c => (ups 13 c).reverse.foldl psh o) o).length ≤ o.length + 13 * k.length
  | [], o => by simp
  | c :: k, o => by
    have h1 := dsA_len k ((ups 13 c).reverse.foldl psh o)
    have h2 := pshs_len (ups 13 c).reverse o
    have h3 := ups_len 13 c
    rw [List.length_reverse] at h2
    rw [List.foldl_cons, List.length_cons]
    omega
theorem dsA_next {k : List (List UInt8)} {i : Nat} (h : i < k.length) : dsA (k.take (i + 1)) = (ups 13 k[i]).reverse.foldl psh (dsA (k.take i)) := by
  unfold dsA
  rw [List.take_succ_eq_append_getElem h, List.foldl_append]
  rfl
theorem psh_nil (u : List UInt8) : psh [] u = [u] := rfl
theorem psh_last {D : List (List UInt8)} {la u : List UInt8} (h : D.getLast? = some la) : psh D u = if cf la u < 0 then D ++ [u] else D := by
  unfold psh
  rw [h]
theorem step_rev {U : List (List UInt8)} {r : Nat} (h : r < U.length) (D : List (List UInt8)) : (U.drop r).reverse.foldl psh D = psh ((U.drop (r + 1)).reverse.foldl psh D) U[r] := by
  rw [List.drop_eq_getElem_cons h, List.reverse_cons, List.foldl_append]
  rfl
/-- the list that grows, the steps up beside it -/
structure DR (w : World) (W : World) (v : Value) (uv : Value) (D U : List (List UInt8)) : Prop where
  o : Own w.heap.size W v D
  u : Own w.heap.size W uv U
  ne : ∀ g, v.ownBlock = some g → uv.ownBlock ≠ some g
  below : Below w.heap.size w W
theorem DR.later {w W W' : World} {v uv : Value} {D U : List (List UInt8)} (h : DR w W v uv D U) (hb : Below W.heap.size W W') : DR w W' v uv D U := ⟨h.o.later hb, h.u.later hb, h.ne, bstep h.below hb⟩
theorem DR.app {w W w' : World} {v v' uv : Value} {D D' U : List (List UInt8)} (h : DR w W v uv D U) (ho : Own w.heap.size w' v' D') (hg : W.grownBy w' v.ownBlock) (hk : v'.ownBlock = v.ownBlock ∨ v'.ownBlock = some (W.heap.size + 1)) : DR w w' v' uv D' U := by
  refine ⟨ho, h.u.only (S := v.ownBlock.toList) ⟨hg.os, hg.tape, hg.output, hg.size, fun k hk hn => hg.block k hk (by intro e; apply hn; rw [← e]; simp)⟩ (fun k hk hm => ?_), fun g hv hu => ?_, h.below.grown hg h.below.size (fun k e => (h.o.lt e).1)⟩
  · have hm' : v.ownBlock = some k := by simpa using hm
    exact h.ne k hm' hk
  · rcases hk with e | e
    · exact h.ne g (by rw [← e]; exact hv) hu
    · rw [hv] at e
      injection e with e
      have := (h.u.lt hu).2
      omega
theorem own_at {B : Nat} {W : World} {a : Option Addr} {n c : Nat} {L : List (List UInt8)} (h : Own B W (.slice a n c) L) (i : Nat) (hi : i < L.length) : ∃ g, a = some ⟨g, 0, none⟩ ∧ g < W.heap.size ∧ W.cell? ⟨g, i, none⟩ = some (.string (bs L[i])) := by
  rcases h.2 with ⟨_, h0⟩ | ⟨g, cap, cur, e, _, hg, _, _, _, ht⟩
  · omega
  · injection e with e1 _ _
    refine ⟨g, e1, (Array.getElem?_eq_some_iff.1 hg).1, ?_⟩
    have h1 : (sc L)[i]? = some (.string (bs L[i])) := by simp [sc_get, hi]
    rw [← ht, Nat.mul_one, List.getElem?_take_of_lt hi] at h1
    simp only [World.cell?, hg]
    simpa using h1
theorem wr_o (j : Nat) (h : j ≤ 100000000) : IntKind.i64.wrap ((j : Int) + 1 - 1) = (j : Int) ∧ wrap64 ((j : Int) + 1 - 1) = (j : Int) ∧ IntKind.i64.wrap (j : Int) = (j : Int) ∧ wrap64 (j : Int) = (j : Int) ∧ (0 : Int) ≤ (j : Int) ∧ (j : Int) < (j : Int) + 1 ∧ (0 : Int) ≤ (j : Int) + 1 ∧ ((j : Int) + 1 == 0) = false ∧ wrap64 ((j : Int) - 1) = (j : Int) - 1 := by
  refine ⟨by rw [IntKind.wrap_i64]; omega, by unfold wrap64; omega, by rw [IntKind.wrap_i64]; omega, by unfold wrap64; omega, by omega, by omega, by omega, ?_, by unfold wrap64; omega⟩
  rw [beq_eq_false_iff_ne]
  omega
theorem dir_lt {p : List UInt8} (h : p ≠ []) : (dir p).length < p.length := by
  have h1 := List.length_pos_iff.2 h
  have h2 := lst_lt p
  unfold dir
  split
  · simpa using h1
  · rw [List.length_take]; omega
/-- how long a text is -/
def slen : Value → Nat
  | .string b => b.size
  | _ => 0
set_option maxRecDepth 100000 in
set_option maxHeartbeats 8000000 in
theorem rdirs_any {w : World} {u : Value} {k : List (List UInt8)} (h : SS w u k) (hk : coneE k = 0) (hl : k.length ≤ 4000000) :
    Calls Tryz.prog 28 #[u] w fun e w' => ∃ v, e = .returned v ∧ Own w.heap.size w' v (dsA k) ∧ Below w.heap.size w w' := by
  obtain ⟨ad, c, hv, ca⟩ := h.form
  have HA := hid_of ca
  have HP : Hid (∀ x ∈ k, x.length ≤ 120 ∧ okP x = true) := fun x hx => by
    have := (coneB_iff.1 (coneE_zero.1 hk)).1 x hx
    exact ⟨(okP_len this).1, this⟩
  have HDE : Hid (∀ i, i ≤ k.length → ∀ x ∈ dsA (k.take i), x.length ≤ 120) := fun i hi x hx => by
    obtain ⟨c, hc, h2⟩ := ((dsA_take hk i hi).2 x).1 hx
    have h3 := ups_each 13 c x h2
    have h4 := (HP.out c (List.mem_of_mem_take hc)).1
    omega
  obtain ⟨n, hn⟩ : ∃ n, k.length = n := ⟨_, rfl⟩
  rw [hn] at hv hl
  subst hv
  have HN := hid_of hn
  clear h hn ca hk
  go_enter Tryz.func28, Tryz.ntmps28
  go_wp2_with fail
  go_loopw [3, 4] (fun s3 s4 wr => ∃ i : Nat, s4 = .int .i64 i ∧ i ≤ n ∧ Own w.heap.size wr s3 (dsA (k.take i)) ∧ Below w.heap.size w wr) (fun _ s4 _ => n - (intOf s4).toNat)
  case atStart => exact ⟨0, rfl, Nat.zero_le _, by simpa [dsA] using Own.nil _ _, Below.refl _ _⟩
  case round =>
    obtain ⟨i, rfl, hi, ho, hb⟩ := hrel
    obtain ⟨wo, hwo⟩ : ∃ wo, wo = wr := ⟨_, rfl⟩
    subst hwo
    have HR : Hid (Own w.heap.size wo u3 (dsA (k.take i)) ∧ Below w.heap.size w wo) := ⟨ho, hb⟩
    have hD0 : (dsA (k.take i)).length ≤ 52000000 := by
      have := dsA_len (k.take i) []
      unfold dsA
      rw [List.length_take] at this
      simp at this ⊢
      omega
    clear ho hb
    by_cases hlt : i < n
    · have i1 : (i : Int) < (n : Int) := by omega
      have i2 : (0 : Int) ≤ (i : Int) := by omega
      have hil : i < k.length := by rw [HN.out]; exact hlt
      obtain ⟨b, off, ea, hbl, hcy⟩ := HA.out i hil
      subst ea
      have hc1 : wo.cell? ⟨b, off + i, none⟩ = some (.string (bs k[i])) := (HR.out.2.cell (p := ⟨b, off + i, none⟩) hbl).trans hcy
      obtain ⟨hxl, hxok⟩ := HP.out _ (List.getElem_mem hil)
      have HNX := hid_of (dsA_next hil)
      obtain ⟨x, hx⟩ : ∃ x, k[i] = x := ⟨_, rfl⟩
      rw [hx] at hc1 hxl hxok HNX
      have HOK := hid_of hxok
      clear hcy hx hxok
      go_wp2_with fail
      clear hc1
      go_loopw [5, 6] (fun s5 s6 wr => ∃ (q : List UInt8) (m : Nat) (U : List (List UInt8)), s6 = .string (bs q) ∧ okP q = true ∧ dep q ≤ m ∧ q.length ≤ 120 ∧ U ++ ups m q = ups 13 x ∧ Own wo.heap.size wr s5 U ∧ Below wo.heap.size wo wr) (fun _ s6 _ => slen s6)
      case atStart => exact ⟨x, 13, [], rfl, HOK.out, by have := (okP_len HOK.out).2; omega, hxl, rfl, Own.nil _ _, Below.refl _ _⟩
      case round =>
        obtain ⟨q, m, U, rfl, hqok, hqm, hql, hU, hou, hbu⟩ := hrel
        have HU : Hid (okP q = true ∧ U ++ ups m q = ups 13 x ∧ Own wo.heap.size wr u5 U ∧ Below wo.heap.size wo wr) := ⟨hqok, hU, hou, hbu⟩
        have hUl : U.length ≤ 13 := by
          have h1 := congrArg List.length hU
          have h2 := ups_len 13 x
          rw [List.length_append] at h1
          omega
        have he := isE q
        clear hqok hU hou hbu
        by_cases hq : q = []
        · subst hq
          have HUE : Hid (ups 13 x = U ∧ Own wo.heap.size wr u5 U ∧ Below wo.heap.size wo wr) := ⟨by rw [← HU.out.2.1, ups_nil, List.append_nil], HU.out.2.2⟩
          obtain ⟨au, cu, evu, -⟩ := HUE.out.2.1.bs.form
          obtain ⟨ul, hul⟩ : ∃ ul, U.length = ul := ⟨_, rfl⟩
          rw [hul] at evu hUl
          subst evu
          clear HU
          obtain ⟨uv, huv⟩ : ∃ uv, Value.slice au ul cu = uv := ⟨_, rfl⟩
          have HDR0 : Hid (DR w wr u3 uv (dsA (k.take i)) U) := by
            subst huv
            refine ⟨HR.out.1.later HUE.out.2.2, HUE.out.2.1.mono HR.out.2.size, fun g hg hu => ?_, bstep HR.out.2 HUE.out.2.2⟩
            have h1 := (HR.out.1.lt hg).2
            have h2 := (HUE.out.2.1.lt hu).1
            omega
          have HUV := hid_of huv
          have HUL : Hid (∀ y ∈ U, y.length ≤ 120) := fun y hy => by
            rw [← HUE.out.1] at hy
            have := ups_each 13 x y hy
            omega
          have HD0 := hid_of (HDE.out i (by have := HN.out; omega))
          obtain ⟨D0, hDD⟩ : ∃ D0, dsA (k.take i) = D0 := ⟨_, rfl⟩
          rw [hDD] at HDR0 hD0 HNX HD0
          have HUX : Hid (dsA (k.take (i + 1)) = U.reverse.foldl psh D0) := by show _ = _; rw [HNX.out, HUE.out.1]
          have he0 : (bs ([] : List UInt8)).toList.isEmpty = true := isE []
          clear hDD huv he HNX HR HUE
          obtain ⟨-, -, -, -, -, -, -, -, w9⟩ := wr_o ul (by omega)
          go_wp2_with fail
          go_loopw [3, 7] (fun s3 s7 wr => ∃ r : Nat, s7 = .int .i64 ((r : Int) - 1) ∧ r ≤ ul ∧ DR w wr s3 uv ((U.drop r).reverse.foldl psh D0) U) (fun _ s7 _ => (intOf s7 + 1).toNat)
          case atStart => exact ⟨ul, by first | rfl | exact congrArg (Value.int .i64) w9, Nat.le_refl _, by rw [← hul, List.drop_length]; exact HDR0.out⟩
          case round =>
            obtain ⟨r1, rfl, hr1, hdr⟩ := hrel
            cases r1 with
            | zero =>
              rw [List.drop_zero] at hdr
              have HDR := hid_of hdr
              clear hdr
              have n1 : ¬ ((0 : Int) ≤ ((0 : Nat) : Int) - 1) := by omega
              go_wp2_with fail
              exact ⟨⟨i + 1, by first | rfl | exact congrArg (Value.int .i64) (by omega), by omega, by rw [HUX.out]; exact HDR.out.o, HDR.out.below⟩, by simp [intOf]; omega⟩
            | succ r =>
              have hrU : r < U.length := by omega
              have e1 : ((r + 1 : Nat) : Int) - 1 = (r : Int) := by omega
              rw [e1]
              have r0 : (0 : Int) ≤ (r : Int) := by omega
              have r1 : (r : Int) < (ul : Int) := by omega
              obtain ⟨-, -, -, -, -, -, -, -, w10⟩ := wr_o r (by omega)
              have HRV := hid_of (step_rev hrU D0)
              obtain ⟨D, hD⟩ : ∃ D, (U.drop (r + 1)).reverse.foldl psh D0 = D := ⟨_, rfl⟩
              rw [hD] at hdr HRV
              have hDl : D.length ≤ 53000000 := by
                rw [← hD]
                have := pshs_len (U.drop (r + 1)).reverse D0
                rw [List.length_reverse, List.length_drop] at this
                omega
              have HDE2 : Hid (∀ z ∈ D, z.length ≤ 120) := fun z hz => by
                rw [← hD] at hz
                rcases pshs_sub _ _ z hz with h1 | h1
                · exact HD0.out z h1
                · exact HUL.out z (List.mem_of_mem_drop (List.mem_reverse.1 h1))
              clear hD
              have HDR := hid_of hdr
              obtain ⟨ao, co, evo, -⟩ := hdr.o.bs.form
              obtain ⟨n3, hDn⟩ : ∃ n3, D.length = n3 := ⟨_, rfl⟩
              rw [hDn] at evo hDl
              subst evo
              clear hdr
              obtain ⟨gu, egu, hgl, huc⟩ : ∃ gu, au = some ⟨gu, 0, none⟩ ∧ gu < wr.heap.size ∧ wr.cell? ⟨gu, r, none⟩ = some (.string (bs U[r])) := own_at (by rw [HUV.out]; exact HDR.out.u) r hrU
              subst egu
              have hyl : (U[r]).length ≤ 120 := HUL.out _ (List.getElem_mem hrU)
              obtain ⟨y, hy⟩ : ∃ y, U[r] = y := ⟨_, rfl⟩
              rw [hy] at huc hyl HRV
              clear hy
              by_cases hD0' : D = []
              · subst hD0'
                obtain rfl : n3 = 0 := by rw [← hDn]; rfl
                have HPS : Hid ((U.drop r).reverse.foldl psh D0 = [] ++ [y]) := by show _ = _; rw [HRV.out, psh_nil]; rfl
                have HS : Hid True := trivial
                go_upto_region 13 with fail
                refine wp_region_noPanic ?_
                refine wp_region_held_drew (S := fun _ => True) (by kernel_rfl) trivial (fun hHeld => ?_)
                refine wpAnyH_take (i := 0) (oi := { dst := some 33, op := _, type := _, pos := _, after := _, guard := _ }) (v := ?vx1) rfl (by kernel_rfl) (by kernel_rfl) (by kernel_rfl) (fun _ _ _ h => h) (Or.inl ⟨by rfl, ?hyx1⟩) (by assumption) ?restx1
                case hyx1 => (intro w hSw; (try dsimp only at hSw); go_simp; try with_reducible rfl)
                try simp only [Act.put, List.setIfInBounds_toArray, List.set_cons_zero, List.set_cons_succ]
                refine wpAnyH_take (i := 1) (oi := { dst := some 34, op := _, type := _, pos := _, after := _, guard := _ }) (v := ?vx2) rfl (by kernel_rfl) (by kernel_rfl) (by kernel_rfl) (fun _ _ _ h => h) (Or.inl ⟨by rfl, ?hyx2⟩) (by assumption) ?restx2
                case hyx2 => (intro w hSw; (try dsimp only at hSw); go_simp; try with_reducible rfl)
                try simp only [Act.put, List.setIfInBounds_toArray, List.set_cons_zero, List.set_cons_succ]
                refine wpAnyH_take (i := 2) (oi := { dst := some 35, op := _, type := _, pos := _, after := _, guard := _ }) (v := ?vx3) rfl (by kernel_rfl) (by kernel_rfl) (by kernel_rfl) (fun _ _ _ h => h) (Or.inl ⟨by rfl, ?hyx3⟩) (by assumption) ?restx3
                case hyx3 => (intro w hSw; (try dsimp only at hSw); go_simp; try with_reducible rfl)
                try simp only [Act.put, List.setIfInBounds_toArray, List.set_cons_zero, List.set_cons_succ]
                refine wpAnyH_take (i := 3) (oi := { dst := some 36, op := _, type := _, pos := _, after := _, guard := _ }) (v := ?vx4) rfl (by kernel_rfl) (by kernel_rfl) (by kernel_rfl) (fun _ _ _ h => h) (Or.inl ⟨by rfl, ?hyx4⟩) (by assumption) ?restx4
                case hyx4 => (intro w hSw; (try dsimp only at hSw); go_simp; try with_reducible rfl)
                try simp only [Act.put, List.setIfInBounds_toArray, List.set_cons_zero, List.set_cons_succ]
                refine wpAnyH_take (i := 4) (oi := { dst := some 37, op := _, type := _, pos := _, after := _, guard := _ }) (v := undef) rfl (by kernel_rfl) (by kernel_rfl) (by kernel_rfl) (fun _ _ _ h => h) (Or.inr ⟨by rfl, rfl⟩) (by assumption) ?_
                try simp only [Act.put, List.setIfInBounds_toArray, List.set_cons_zero, List.set_cons_succ]
                refine wpAnyH_take (i := 5) (oi := { dst := some 38, op := _, type := _, pos := _, after := _, guard := _ }) (v := undef) rfl (by kernel_rfl) (by kernel_rfl) (by kernel_rfl) (fun _ _ _ h => h) (Or.inr ⟨by rfl, rfl⟩) (by assumption) ?_
                try simp only [Act.put, List.setIfInBounds_toArray, List.set_cons_zero, List.set_cons_succ]
                refine wpAnyH_take (i := 6) (oi := { dst := some 39, op := _, type := _, pos := _, after := _, guard := _ }) (v := undef) rfl (by kernel_rfl) (by kernel_rfl) (by kernel_rfl) (fun _ _ _ h => h) (Or.inr ⟨by rfl, rfl⟩) (by assumption) ?_
                try simp only [Act.put, List.setIfInBounds_toArray, List.set_cons_zero, List.set_cons_succ]
                refine wpAnyH_take (i := 7) (oi := { dst := some 40, op := _, type := _, pos := _, after := _, guard := _ }) (v := undef) rfl (by kernel_rfl) (by kernel_rfl) (by kernel_rfl) (fun _ _ _ h => h) (Or.inr ⟨by rfl, rfl⟩) (by assumption) ?_
                try simp only [Act.put, List.setIfInBounds_toArray, List.set_cons_zero, List.set_cons_succ]
                refine wpAnyH_take (i := 8) (oi := { dst := some 41, op := _, type := _, pos := _, after := _, guard := _ }) (v := undef) rfl (by kernel_rfl) (by kernel_rfl) (by kernel_rfl) (fun _ _ _ h => h) (Or.inr ⟨by rfl, rfl⟩) (by assumption) ?_
                try simp only [Act.put, List.setIfInBounds_toArray, List.set_cons_zero, List.set_cons_succ]
                refine wpAnyH_take (i := 9) (oi := { dst := some 42, op := _, type := _, pos := _, after := _, guard := _ }) (v := undef) rfl (by kernel_rfl) (by kernel_rfl) (by kernel_rfl) (fun _ _ _ h => h) (Or.inr ⟨by rfl, rfl⟩) (by assumption) ?_
                try simp only [Act.put, List.setIfInBounds_toArray, List.set_cons_zero, List.set_cons_succ]
                refine wpAnyH_take (i := 10) (oi := { dst := some 43, op := _, type := _, pos := _, after := _, guard := _ }) (v := undef) rfl (by kernel_rfl) (by kernel_rfl) (by kernel_rfl) (fun _ _ _ h => h) (Or.inr ⟨by rfl, rfl⟩) (by assumption) ?_
                try simp only [Act.put, List.setIfInBounds_toArray, List.set_cons_zero, List.set_cons_succ]
                refine wpAnyH_take (i := 11) (oi := { dst := some 44, op := _, type := _, pos := _, after := _, guard := _ }) (v := undef) rfl (by kernel_rfl) (by kernel_rfl) (by kernel_rfl) (fun _ _ _ h => h) (Or.inr ⟨by rfl, rfl⟩) (by assumption) ?_
                try simp only [Act.put, List.setIfInBounds_toArray, List.set_cons_zero, List.set_cons_succ]
                refine wpAnyH_take (i := 12) (oi := { dst := some 45, op := _, type := _, pos := _, after := _, guard := _ }) (v := undef) rfl (by kernel_rfl) (by kernel_rfl) (by kernel_rfl) (fun _ _ _ h => h) (Or.inr ⟨by rfl, rfl⟩) (by assumption) ?_
                try simp only [Act.put, List.setIfInBounds_toArray, List.set_cons_zero, List.set_cons_succ]
                refine wpAnyH_take (i := 13) (oi := { dst := some 46, op := _, type := _, pos := _, after := _, guard := _ }) (v := undef) rfl (by kernel_rfl) (by kernel_rfl) (by kernel_rfl) (fun _ _ _ h => h) (Or.inr ⟨by rfl, rfl⟩) (by assumption) ?_
                try simp only [Act.put, List.setIfInBounds_toArray, List.set_cons_zero, List.set_cons_succ]
                refine wpAnyH_take (i := 14) (oi := { dst := some 47, op := _, type := _, pos := _, after := _, guard := _ }) (v := undef) rfl (by kernel_rfl) (by kernel_rfl) (by kernel_rfl) (fun _ _ _ h => h) (Or.inr ⟨by rfl, rfl⟩) (by assumption) ?_
                try simp only [Act.put, List.setIfInBounds_toArray, List.set_cons_zero, List.set_cons_succ]
                refine wpAnyH_take (i := 15) (oi := { dst := some 48, op := _, type := _, pos := _, after := _, guard := _ }) (v := undef) rfl (by kernel_rfl) (by kernel_rfl) (by kernel_rfl) (fun _ _ _ h => h) (Or.inr ⟨by rfl, rfl⟩) (by assumption) ?_
                try simp only [Act.put, List.setIfInBounds_toArray, List.set_cons_zero, List.set_cons_succ]
                refine wpAnyH_take (i := 16) (oi := { dst := some 49, op := _, type := _, pos := _, after := _, guard := _ }) (v := ?vx5) rfl (by kernel_rfl) (by kernel_rfl) (by kernel_rfl) (fun _ _ _ h => h) (Or.inl ⟨by rfl, ?hyx5⟩) (by assumption) ?restx5
                case hyx5 => (intro w hSw; (try dsimp only at hSw); go_simp; try with_reducible rfl)
                try simp only [Act.put, List.setIfInBounds_toArray, List.set_cons_zero, List.set_cons_succ]
                refine wpAnyH_done (by kernel_rfl) ?_ _
                refine NoPanic.normal ?_
                clear hHeld
                have HD9 : Hid (DR w wr.drew (.slice ao 0 co) uv [] U) := HDR.out.later (bd1 _)
                have HO9 : Hid (Own w.heap.size wr.drew (.slice ao 0 co) []) := HD9.out.o
                have hz9 : w.heap.size ≤ wr.drew.heap.size := HD9.out.below.size
                have c9 : wr.drew.cell? ⟨gu, r, none⟩ = some (.string (bs y)) := huc
                clear HS
                go_wp2_with (refine app_one (base := w.heap.size) (l := []) y HO9.out (by omega) (by omega) rfl _ _ rfl rfl rfl ?_; intro v8 w8 ho8 hb8 hz8 hg8 hk8)
                have H8 : Hid (DR w w8 v8 uv ([] ++ [y]) U) := HD9.out.app ho8 hg8 hk8
                obtain ⟨a8, c8, ev8, -⟩ := ho8.bs.form
                rw [show ([] ++ [y] : List (List UInt8)).length = 1 from rfl] at ev8
                subst ev8
                clear ho8 hb8 hz8 hg8 hk8
                go_wp2_with fail
                go_roundw
                case rel => exact ⟨r, by first | rfl | exact congrArg (Value.int .i64) (by omega), by omega, by rw [HPS.out]; exact H8.out⟩
                case measure => first | (simp [intOf]; done) | (simp [intOf]; omega)
              · obtain ⟨od, hod⟩ : ∃ od, n3 = od + 1 := ⟨n3 - 1, by have := List.length_pos_iff.2 hD0'; omega⟩
                subst hod
                have hol : od < D.length := by omega
                obtain ⟨go, ego, hgo, hoc⟩ := own_at HDR.out.o od hol
                subst ego
                obtain ⟨la, hla⟩ : ∃ la, D[od] = la := ⟨_, rfl⟩
                rw [hla] at hoc
                have HLA : Hid (D.getLast? = some la) := by
                  show _ = _
                  rw [List.getLast?_eq_getElem?, hDn, Nat.add_sub_cancel, List.getElem?_eq_getElem hol, hla]
                have hlal : la.length ≤ 120 := HDE2.out la (by rw [← hla]; exact List.getElem_mem hol)
                clear hla
                obtain ⟨k1, k2, k3, k4, k5, k6, k7, k8, -⟩ := wr_o od (by omega)
                obtain ⟨cv, hcv⟩ : ∃ cv, cf la y = cv := ⟨_, rfl⟩
                have HCV := hid_of hcv
                have HCP : Hid (∀ W, Calls Tryz.prog 46 #[.string (bs la), .string (bs y)] W fun e w' => e = .returned (.int .i64 cv) ∧ Below W.heap.size W w') := fun W => by
                  have := rcmp_any la y W (by omega) (by omega)
                  rw [show cmpP (pcs la) (pcs y) = cv from hcv] at this
                  exact this
                have HS : Hid (∀ W, Below wr.heap.size wr W → W.cell? ⟨go, od, none⟩ = some (.string (bs la)) ∧ W.cell? ⟨gu, r, none⟩ = some (.string (bs y))) := fun W hW => ⟨(hW.cell (p := ⟨go, od, none⟩) hgo).trans hoc, (hW.cell (p := ⟨gu, r, none⟩) hgl).trans huc⟩
                clear hcv
                go_upto_region 13 with fail
                refine wp_region_noPanic ?_
                refine wp_region_held_drew (S := fun W' => W'.cell? ⟨go, od, none⟩ = some (.string (bs la)) ∧ W'.cell? ⟨gu, r, none⟩ = some (.string (bs y))) (by kernel_rfl) (by exact HS.out _ (bd1 wr)) (fun hHeld => ?_)
                refine wpAnyH_take (i := 0) (oi := { dst := some 33, op := _, type := _, pos := _, after := _, guard := _ }) (v := ?vx6) rfl (by kernel_rfl) (by kernel_rfl) (by kernel_rfl) (fun _ _ _ h => h) (Or.inl ⟨by rfl, ?hyx6⟩) (by assumption) ?restx6
                case hyx6 => (intro w hSw; (try dsimp only at hSw); go_simp; try with_reducible rfl)
                try simp only [Act.put, List.setIfInBounds_toArray, List.set_cons_zero, List.set_cons_succ]
                refine wpAnyH_take (i := 1) (oi := { dst := some 34, op := _, type := _, pos := _, after := _, guard := _ }) (v := ?vx7) rfl (by kernel_rfl) (by kernel_rfl) (by kernel_rfl) (fun _ _ _ h => h) (Or.inl ⟨by rfl, ?hyx7⟩) (by assumption) ?restx7
                case hyx7 => (intro w hSw; (try dsimp only at hSw); go_simp; try with_reducible rfl)
                try simp only [Act.put, List.setIfInBounds_toArray, List.set_cons_zero, List.set_cons_succ]
                refine wpAnyH_take (i := 2) (oi := { dst := some 35, op := _, type := _, pos := _, after := _, guard := _ }) (v := ?vx8) rfl (by kernel_rfl) (by kernel_rfl) (by kernel_rfl) (fun _ _ _ h => h) (Or.inl ⟨by rfl, ?hyx8⟩) (by assumption) ?restx8
                case hyx8 => (intro w hSw; (try dsimp only at hSw); go_simp; try with_reducible rfl)
                try simp only [Act.put, List.setIfInBounds_toArray, List.set_cons_zero, List.set_cons_succ]
                refine wpAnyH_take (i := 3) (oi := { dst := some 36, op := _, type := _, pos := _, after := _, guard := _ }) (v := ?vx9) rfl (by kernel_rfl) (by kernel_rfl) (by kernel_rfl) (fun _ _ _ h => h) (Or.inl ⟨by rfl, ?hyx9⟩) (by assumption) ?restx9
                case hyx9 => (intro w hSw; (try dsimp only at hSw); go_simp; try with_reducible rfl)
                try simp only [Act.put, List.setIfInBounds_toArray, List.set_cons_zero, List.set_cons_succ]
                refine wpAnyH_take (i := 4) (oi := { dst := some 37, op := _, type := _, pos := _, after := _, guard := _ }) (v := ?vx10) rfl (by kernel_rfl) (by kernel_rfl) (by kernel_rfl) (fun _ _ _ h => h) (Or.inl ⟨by rfl, ?hyx10⟩) (by assumption) ?restx10
                case hyx10 => (intro w hSw; (try dsimp only at hSw); go_simp; try with_reducible rfl)
                try simp only [Act.put, List.setIfInBounds_toArray, List.set_cons_zero, List.set_cons_succ]
                refine wpAnyH_take (i := 5) (oi := { dst := some 38, op := _, type := _, pos := _, after := _, guard := _ }) (v := ?vx11) rfl (by kernel_rfl) (by kernel_rfl) (by kernel_rfl) (fun _ _ _ h => h) (Or.inl ⟨by rfl, ?hyx11⟩) (by assumption) ?restx11
                case hyx11 => (intro w hSw; (try dsimp only at hSw); go_simp; try with_reducible rfl)
                try simp only [Act.put, List.setIfInBounds_toArray, List.set_cons_zero, List.set_cons_succ]
                refine wpAnyH_take (i := 6) (oi := { dst := some 39, op := _, type := _, pos := _, after := _, guard := _ }) (v := ?vx12) rfl (by kernel_rfl) (by kernel_rfl) (by kernel_rfl) (fun _ _ _ h => h) (Or.inl ⟨by rfl, ?hyx12⟩) (by assumption) ?restx12
                case hyx12 => (intro w hSw; (try dsimp only at hSw); go_simp; try with_reducible rfl)
                try simp only [Act.put, List.setIfInBounds_toArray, List.set_cons_zero, List.set_cons_succ]
                refine wpAnyH_take (i := 7) (oi := { dst := some 40, op := _, type := _, pos := _, after := _, guard := _ }) (v := ?vx13) rfl (by kernel_rfl) (by kernel_rfl) (by kernel_rfl) (fun _ _ _ h => h) (Or.inl ⟨by rfl, ?hyx13⟩) (by assumption) ?restx13
                case hyx13 => (intro w hSw; (try dsimp only at hSw); go_simp; try with_reducible rfl)
                try simp only [Act.put, List.setIfInBounds_toArray, List.set_cons_zero, List.set_cons_succ]
                refine wpAnyH_take (i := 8) (oi := { dst := some 41, op := _, type := _, pos := _, after := _, guard := _ }) (v := ?vx14) rfl (by kernel_rfl) (by kernel_rfl) (by kernel_rfl) (fun _ _ _ h => h) (Or.inl ⟨by rfl, ?hyx14⟩) (by assumption) ?restx14
                case hyx14 => (intro w hSw; (try dsimp only at hSw); go_simp; try with_reducible rfl)
                try simp only [Act.put, List.setIfInBounds_toArray, List.set_cons_zero, List.set_cons_succ]
                refine wpAnyH_take (i := 9) (oi := { dst := some 42, op := _, type := _, pos := _, after := _, guard := _ }) (v := ?vx15) rfl (by kernel_rfl) (by kernel_rfl) (by kernel_rfl) (fun _ _ _ h => h) (Or.inl ⟨by rfl, ?hyx15⟩) (by assumption) ?restx15
                case hyx15 => (intro w hSw; (try dsimp only at hSw); go_simp; try with_reducible rfl)
                try simp only [Act.put, List.setIfInBounds_toArray, List.set_cons_zero, List.set_cons_succ]
                refine wpAnyH_take (i := 10) (oi := { dst := some 43, op := _, type := _, pos := _, after := _, guard := _ }) (v := ?vx16) rfl (by kernel_rfl) (by kernel_rfl) (by kernel_rfl) (fun _ _ _ h => h) (Or.inl ⟨by rfl, ?hyx16⟩) (by assumption) ?restx16
                case hyx16 => (intro w hSw; (try dsimp only at hSw); go_simp; try with_reducible rfl)
                try simp only [Act.put, List.setIfInBounds_toArray, List.set_cons_zero, List.set_cons_succ]
                refine wpAnyH_take (i := 11) (oi := { dst := some 44, op := _, type := _, pos := _, after := _, guard := _ }) (v := ?vx17) rfl (by kernel_rfl) (by kernel_rfl) (by kernel_rfl) (fun _ _ _ h => h) (Or.inl ⟨by rfl, ?hyx17⟩) (by assumption) ?restx17
                case hyx17 => (intro w hSw; (try dsimp only at hSw); go_simp; try with_reducible rfl)
                try simp only [Act.put, List.setIfInBounds_toArray, List.set_cons_zero, List.set_cons_succ]
                refine wpAnyH_take (i := 12) (oi := { dst := some 45, op := _, type := _, pos := _, after := _, guard := _ }) (v := ?vx18) rfl (by kernel_rfl) (by kernel_rfl) (by kernel_rfl) (fun _ _ _ h => h) (Or.inl ⟨by rfl, ?hyx18⟩) (by assumption) ?restx18
                case hyx18 => (intro w hSw; (try dsimp only at hSw); go_simp; try with_reducible rfl)
                try simp only [Act.put, List.setIfInBounds_toArray, List.set_cons_zero, List.set_cons_succ]
                refine wpAnyH_take (i := 13) (oi := { dst := some 46, op := _, type := _, pos := _, after := _, guard := _ }) (v := ?vx19) rfl (by kernel_rfl) (by kernel_rfl) (by kernel_rfl) (fun _ _ _ h => h) (Or.inl ⟨by rfl, ?hyx19⟩) (by assumption) ?restx19
                case hyx19 => (intro w hSw; (try dsimp only at hSw); go_simp; try with_reducible rfl)
                try simp only [Act.put, List.setIfInBounds_toArray, List.set_cons_zero, List.set_cons_succ]
                refine wpAnyH_ready (rs := [14]) (by kernel_rfl) (by simp) ?_
                refine AllReadyH.cons (o := { dst := some 47, op := _, type := _, pos := _, after := _, guard := _ }) rfl (fun K hK => ?_) AllReadyH.nil
                go_simp
                with_reducible refine (HCP.out wr.drew).mono ?_
                rintro e z1 ⟨rfl, hb⟩
                have Hz1 : Hid (Below wr.heap.size wr z1) := bstep (bd1 wr) hb
                clear hb
                refine hK.out _ _ (HS.out z1 Hz1.out) (fun hHeld => ?_)
                clear hK K
                try simp only [List.setIfInBounds_toArray, List.set_cons_zero, List.set_cons_succ]
                refine wpAnyH_take (i := 15) (oi := { dst := some 48, op := _, type := _, pos := _, after := _, guard := _ }) (v := ?vx20) rfl (by kernel_rfl) (by kernel_rfl) (by kernel_rfl) (fun _ _ _ h => h) (Or.inl ⟨by rfl, ?hyx20⟩) (by assumption) ?restx20
                case hyx20 => (intro w hSw; (try dsimp only at hSw); go_simp; try with_reducible rfl)
                try simp only [Act.put, List.setIfInBounds_toArray, List.set_cons_zero, List.set_cons_succ]
                refine wpAnyH_take (i := 16) (oi := { dst := some 49, op := _, type := _, pos := _, after := _, guard := _ }) (v := ?vx21) rfl (by kernel_rfl) (by kernel_rfl) (by kernel_rfl) (fun _ _ _ h => h) (Or.inl ⟨by rfl, ?hyx21⟩) (by assumption) ?restx21
                case hyx21 => (intro w hSw; (try dsimp only at hSw); go_simp; try with_reducible rfl)
                try simp only [Act.put, List.setIfInBounds_toArray, List.set_cons_zero, List.set_cons_succ]
                refine wpAnyH_done (by kernel_rfl) ?_ _
                refine NoPanic.normal ?_
                clear hHeld
                clear HS
                by_cases hcm : cv < 0
                · have HPS : Hid ((U.drop r).reverse.foldl psh D0 = D ++ [y]) := by show _ = _; rw [HRV.out, psh_last HLA.out, if_pos (by rw [HCV.out]; exact hcm)]
                  have HD9 : Hid (DR w z1 (.slice (some ⟨go, 0, none⟩) (od + 1) co) uv D U) := HDR.out.later (Hz1.out)
                  have HO9 : Hid (Own w.heap.size z1 (.slice (some ⟨go, 0, none⟩) (od + 1) co) D) := HD9.out.o
                  have hz9 : w.heap.size ≤ z1.heap.size := HD9.out.below.size
                  have c9 : z1.cell? ⟨gu, r, none⟩ = some (.string (bs y)) := (Hz1.out.cell (p := ⟨gu, r, none⟩) hgl).trans huc
                  clear k1 k2 k3 k4 k5 k6 k7 k8 hoc huc hgo HCP
                  go_wp2_with (refine app_one (base := w.heap.size) (l := D) y HO9.out (by omega) (by omega) rfl _ _ rfl rfl rfl ?_; intro v8 w8 ho8 hb8 hz8 hg8 hk8)
                  have H8 : Hid (DR w w8 v8 uv (D ++ [y]) U) := HD9.out.app ho8 hg8 hk8
                  obtain ⟨a8, c8, ev8, -⟩ := ho8.bs.form
                  rw [List.length_append, hDn] at ev8
                  subst ev8
                  clear ho8 hb8 hz8 hg8 hk8
                  go_wp2_with fail
                  go_roundw
                  case rel => exact ⟨r, by first | rfl | exact congrArg (Value.int .i64) (by omega), by omega, by rw [HPS.out]; exact H8.out⟩
                  case measure => first | (simp [intOf]; done) | (simp [intOf]; omega)
                · have HPS : Hid ((U.drop r).reverse.foldl psh D0 = D) := by show _ = _; rw [HRV.out, psh_last HLA.out, if_neg (by rw [HCV.out]; exact hcm)]
                  have HD9 : Hid (DR w z1 (.slice (some ⟨go, 0, none⟩) (od + 1) co) uv D U) := HDR.out.later (Hz1.out)
                  have HO9 : Hid (Own w.heap.size z1 (.slice (some ⟨go, 0, none⟩) (od + 1) co) D) := HD9.out.o
                  have hz9 : w.heap.size ≤ z1.heap.size := HD9.out.below.size
                  have c9 : z1.cell? ⟨gu, r, none⟩ = some (.string (bs y)) := (Hz1.out.cell (p := ⟨gu, r, none⟩) hgl).trans huc
                  clear k1 k2 k3 k4 k5 k6 k7 k8 hoc huc hgo HCP c9
                  go_wp2_with fail
                  go_roundw
                  case rel => exact ⟨r, by first | rfl | exact congrArg (Value.int .i64) (by omega), by omega, by rw [HPS.out]; exact HD9.out⟩
                  case measure => first | (simp [intOf]; done) | (simp [intOf]; omega)
        · have he2 : q.isEmpty = false := by cases q with | nil => exact absurd rfl hq | cons _ _ => rfl
          have hdq := dir_lt hq
          have HDI : Hid (∀ W, Calls Tryz.prog 48 #[.string (bs q)] W fun e w' => e = .returned (.string (bs (dir q))) ∧ w' = W) := fun W => rdir_any q W (by omega)
          have HNQ : Hid (okP (dir q) = true ∧ dep (dir q) ≤ m - 1 ∧ (U ++ [q]) ++ ups (m - 1) (dir q) = ups 13 x) := by
            have h1 := congrArg List.length (dir_pcs (okP_all HU.out.1) hq).1
            rw [List.length_dropLast, dep_eq, dep_eq] at h1
            have h2 : 0 < dep q := by rw [← dep_eq]; exact List.length_pos_iff.2 (fun e => hq ((pcs_eq_nil q).1 e))
            refine ⟨okP_dir HU.out.1, by omega, ?_⟩
            rw [← HU.out.2.1]
            obtain ⟨m', rfl⟩ : ∃ m', m = m' + 1 := ⟨m - 1, by omega⟩
            rw [show ups (m' + 1) q = q :: ups m' (dir q) by rw [ups, if_neg hq]]
            simp
          have hz1 := HU.out.2.2.2.size
          have HOU := hid_of HU.out.2.2.1
          go_wp2_with (refine app_one (base := wo.heap.size) (l := U) q HOU.out (by omega) (by omega) rfl _ _ rfl rfl rfl ?_; intro v8 w8 ho8 hb8 hz8 hg8 hk8)
          have H8 : Hid (Own wo.heap.size w8 v8 (U ++ [q]) ∧ Below wo.heap.size wo w8) := ⟨ho8, below_trans HU.out.2.2.2 hb8⟩
          obtain ⟨a8, c8, ev8, -⟩ := ho8.bs.form
          obtain ⟨n8, hn8⟩ : ∃ n8, (U ++ [q]).length = n8 := ⟨_, rfl⟩
          rw [hn8] at ev8
          subst ev8
          clear ho8 hb8 hz8 hg8 hk8 hn8
          go_wp2_with fail
          refine (HDI.out _).mono ?_
          rintro e w9 ⟨rfl, ew9⟩
          subst ew9
          go_wp2_with fail
          go_roundw
          case rel => exact ⟨dir q, m - 1, U ++ [q], rfl, HNQ.out.1, HNQ.out.2.1, by omega, HNQ.out.2.2, H8.out⟩
          case measure =>
            show (bs (dir q)).size < (bs q).size
            exact hdq
    · obtain rfl : i = n := by omega
      obtain ⟨a3, c3, ev3, -⟩ := HR.out.1.bs.form
      obtain ⟨n3, hn3⟩ : ∃ n3, (dsA (k.take i)).length = n3 := ⟨_, rfl⟩
      rw [hn3] at ev3
      subst ev3
      have HE : Hid (k.take i = k) := List.take_of_length_le (by rw [HN.out]; exact Nat.le_refl _)
      clear hn3
      go_wp2_with fail
      go_ret
      exact ⟨_, rfl, by have := HR.out.1; rw [HE.out] at this; exact this, HR.out.2⟩
end Go.Proofs.YtkopjamednedfaaGreat
