/-
  The document's tokens.
-/
import Derived.Test.YtddaoloabfkheaaGreatDoorJRd
namespace Go.Proofs.YtddaoloabfkheaaGreatDoor
open Go.RowKit

theorem tg_at {l : List UInt8} {k e : Nat} (h : k < l.length) (hk : kd l[k] ≠ 0) (he : k + 1 + ktl l[k] (l.drop (k + 1)) = e) :
    tg (l.drop k) k = (⟨(kd l[k] : Nat), ((bs l).extract k e).data.toList, k⟩ :: (tg (l.drop e) e).1, (tg (l.drop e) e).2) ∧ k < e ∧ e ≤ l.length := by
  have h1 := ktl_le l[k] (l.drop (k + 1))
  rw [List.length_drop] at h1
  refine ⟨?_, by omega, by omega⟩
  rw [drop_lt h, tg_tok hk]
  have e1 : (l.drop (k + 1)).drop (ktl l[k] (l.drop (k + 1))) = l.drop e := by rw [List.drop_drop, he]
  rw [e1, he]
  have e2 : ((bs l).extract k e).data.toList = l[k] :: (l.drop (k + 1)).take (ktl l[k] (l.drop (k + 1))) := by
    rw [bs_extract, bs_data, drop_lt h, show e - k = ktl l[k] (l.drop (k + 1)) + 1 by omega, List.take_succ_cons]
  rw [e2]
theorem tg_no {l : List UInt8} {k : Nat} (h : k < l.length) (h1 : l[k] ≠ 35) (h2 : isB l[k] = false) (hk : kd l[k] = 0) : tg (l.drop k) k = ([], (k : Int)) := by
  rw [drop_lt h, tg_other h1 h2, tq_bad hk]
/-- append of tokens, inside a region that draws -/
theorem step_app_tok {t e : TypeId} (hu : Tryz.prog.underlying t = some (.slice e)) (hinf : (Tryz.prog.info? e).map (fun i => (i.zero, i.size, i.bytes)) = some (some (.agg #[.int .i64 0, .string ⟨#[]⟩, .int .i64 0]), 3, 32)) {ops : Array Oper} {o : Oper} {a : Act} {w : World} {K : Act → World → Prop} {Q : Exit → Act → World → Prop} {E : Prop} (hgd : o.guard = none) (s y : Operand)
    (ho : o.op = .call { callee := .builtin .append, args := #[s, y], argTypes := #[t, t] }) (base : Nat) (l k : List Tk) (v x : Value) (hv : a.eval s = v) (hx : a.eval y = x)
    (hown : OwnT e base w v l) (hs : Src Tryz.prog 3 t x k.length (tc k) w) (hb : l.length + k.length ≤ 1000000000) (hbase : base ≤ w.heap.size)
    (h : ∀ v' w', OwnT e base w' v' (l ++ k) → w.grownBy w' v.ownBlock → K (a.put o.dst v') w') :
    if Region.wanted o (yielded ops a.tmps) = true then Oper.wp Tryz.prog o a w K Q else E := by
  have hw : Region.wanted o (yielded ops a.tmps) = true := by simp [Region.wanted, hgd]
  rw [if_pos hw]
  obtain ⟨i0, hi, hz0, hz1, hz2⟩ := info_parts hinf
  obtain ⟨v', w', hr, h2, h3, h4⟩ := run_append_src (P := Tryz.prog) w base t t o.type e i0 _ 3 32 hu hi hz0 hz1 hz2 rfl v l.length (tc l) hown x k.length (tc k) hs (by simp only [maxLen]; omega) (by omega) hbase
  unfold Oper.wp execOp
  simp only [ho, resolve, invoke, builtin, Sem.run_bind, Sem.run_pure, Result.andThen_ok, List.map_toArray, List.map_cons, List.map_nil, hv, hx, hr]
  exact h v' w' (by unfold OwnT; rw [tc_append, List.length_append]; exact h2) h3
theorem src_tok_d {t e : TypeId} (hu : Tryz.prog.underlying t = some (.slice e)) (w : World) (a b : Int) (X : ByteArray) : Src Tryz.prog 3 t (.slice (some ⟨w.heap.size, 0, none⟩) 1 1) [(⟨a, X.data.toList, b⟩ : Tk)].length (tc [⟨a, X.data.toList, b⟩]) (w.alloc (.cells #[.int .i64 a, .string X, .int .i64 b] e)).drew := by
  refine Src.ofSlice _ hu ⟨w.heap.size, 0, none⟩ 1 1 (tc [⟨a, X.data.toList, b⟩]) (by simp [tc_length]) ?_ (tc_one _)
  exact fun j u hu => World.news_of_block (heap_alloc_new w _) j u hu

set_option maxRecDepth 100000 in
set_option maxHeartbeats 8000000 in
theorem rtokens_any (l : List UInt8) (w : World) (hl : l.length ≤ 500000000) :
    Calls Tryz.prog 40 #[.string (bs l)] w fun e w' => ∃ v, e = .returned (.tuple #[v, .int .i64 (toks l).2]) ∧ OwnT 132 w.heap.size w' v (toks l).1 ∧ Below w.heap.size w w' := by
  have hz : (bs l).size = l.length := rfl
  obtain ⟨S, hS⟩ : ∃ S, toks l = S := ⟨_, rfl⟩
  rw [hS]
  have HS : Hid (tg (l.drop 0) 0 = S) := hS
  clear hS
  obtain ⟨TT, E⟩ := S
  go_enter Tryz.func40, Tryz.ntmps40
  go_wp2_with fail
  go_loopw [4, 5] (fun v s wr => ∃ (k : Nat) (L : List Tk), k ≤ l.length ∧ s = .int .i64 k ∧ OwnT 132 w.heap.size wr v L ∧ Below w.heap.size w wr ∧ L ++ (tg (l.drop k) k).1 = TT ∧ (tg (l.drop k) k).2 = E ∧ L.length ≤ k) (fun _ s _ => l.length - (intOf s).toNat)
  case atStart => exact ⟨0, [], by omega, rfl, OwnT.nil _ _ _, Below.refl _ _, by rw [HS.out]; rfl, by rw [HS.out], by simp⟩
  case round =>
    obtain ⟨k, L, hk, rfl, ho, hb, ht, hE, hL⟩ := hrel
    clear HS
    have HO : Hid (OwnT 132 w.heap.size wr u4 L ∧ Below w.heap.size w wr) := ⟨ho, hb⟩
    have HT : Hid (L ++ (tg (l.drop k) k).1 = TT ∧ (tg (l.drop k) k).2 = E) := ⟨ht, hE⟩
    have hsz := hb.size
    clear ho hb ht hE
    by_cases hlt : k < l.length
    · have k1 : (0 : Int) ≤ (k : Int) := by omega
      have k2 : (k : Int) < (l.length : Int) := by omega
      by_cases h9 : l[k] = 9
      · have f9 : ((((bs l)[k]'(show k < (bs l).size from hlt)).toNat : Int) == 9) = true := at_eq hlt h9
        have HT2 : Hid (L ++ (tg (l.drop (k + 1)) (k + 1)).1 = TT ∧ (tg (l.drop (k + 1)) (k + 1)).2 = E) := by
          have := HT.out
          rw [drop_lt hlt, tg_blank (by rw [h9]; decide)] at this
          exact this
        clear HT
        go_wp2_with fail
        go_roundw
        case rel => exact ⟨k + 1, L, by omega, by go_num, HO.out.1, HO.out.2, HT2.out.1, HT2.out.2, by omega⟩
        case measure => simp [intOf]; omega
      have f9 : ((((bs l)[k]'(show k < (bs l).size from hlt)).toNat : Int) == 9) = false := at_ne hlt h9
      by_cases h10 : l[k] = 10
      · have f10 : ((((bs l)[k]'(show k < (bs l).size from hlt)).toNat : Int) == 10) = true := at_eq hlt h10
        have HT2 : Hid (L ++ (tg (l.drop (k + 1)) (k + 1)).1 = TT ∧ (tg (l.drop (k + 1)) (k + 1)).2 = E) := by
          have := HT.out
          rw [drop_lt hlt, tg_blank (by rw [h10]; decide)] at this
          exact this
        clear HT
        go_wp2_with fail
        go_roundw
        case rel => exact ⟨k + 1, L, by omega, by go_num, HO.out.1, HO.out.2, HT2.out.1, HT2.out.2, by omega⟩
        case measure => simp [intOf]; omega
      have f10 : ((((bs l)[k]'(show k < (bs l).size from hlt)).toNat : Int) == 10) = false := at_ne hlt h10
      by_cases h13 : l[k] = 13
      · have f13 : ((((bs l)[k]'(show k < (bs l).size from hlt)).toNat : Int) == 13) = true := at_eq hlt h13
        have HT2 : Hid (L ++ (tg (l.drop (k + 1)) (k + 1)).1 = TT ∧ (tg (l.drop (k + 1)) (k + 1)).2 = E) := by
          have := HT.out
          rw [drop_lt hlt, tg_blank (by rw [h13]; decide)] at this
          exact this
        clear HT
        go_wp2_with fail
        go_roundw
        case rel => exact ⟨k + 1, L, by omega, by go_num, HO.out.1, HO.out.2, HT2.out.1, HT2.out.2, by omega⟩
        case measure => simp [intOf]; omega
      have f13 : ((((bs l)[k]'(show k < (bs l).size from hlt)).toNat : Int) == 13) = false := at_ne hlt h13
      by_cases h32 : l[k] = 32
      · have f32 : ((((bs l)[k]'(show k < (bs l).size from hlt)).toNat : Int) == 32) = true := at_eq hlt h32
        have HT2 : Hid (L ++ (tg (l.drop (k + 1)) (k + 1)).1 = TT ∧ (tg (l.drop (k + 1)) (k + 1)).2 = E) := by
          have := HT.out
          rw [drop_lt hlt, tg_blank (by rw [h32]; decide)] at this
          exact this
        clear HT
        go_wp2_with fail
        go_roundw
        case rel => exact ⟨k + 1, L, by omega, by go_num, HO.out.1, HO.out.2, HT2.out.1, HT2.out.2, by omega⟩
        case measure => simp [intOf]; omega
      have f32 : ((((bs l)[k]'(show k < (bs l).size from hlt)).toNat : Int) == 32) = false := at_ne hlt h32
      have hB : isB l[k] = false := by simp [isB, h9, h10, h13, h32]
      by_cases h35 : l[k] = 35
      · have f35 : ((((bs l)[k]'(show k < (bs l).size from hlt)).toNat : Int) == 35) = true := at_eq hlt h35
        have HT2 : Hid (L ++ (tg (l.drop (k + 1 + cl (l.drop (k + 1)))) (k + 1 + cl (l.drop (k + 1)))).1 = TT ∧ (tg (l.drop (k + 1 + cl (l.drop (k + 1)))) (k + 1 + cl (l.drop (k + 1)))).2 = E) := by
          have := HT.out
          rw [drop_lt hlt, h35, tg_comment, List.drop_drop] at this
          exact this
        obtain ⟨R, hR⟩ : ∃ R, k + 1 + cl (l.drop (k + 1)) = R := ⟨_, rfl⟩
        have hR2 : k + 1 ≤ R := by omega
        rw [hR] at HT2
        have HR : Hid (k + 1 + cl (l.drop (k + 1)) = R) := hR
        clear HT hR
        go_wp2_with fail
        go_loop [7] (fun s => ∃ j : Nat, k + 1 ≤ j ∧ j ≤ l.length ∧ s = .int .i64 j ∧ j + cl (l.drop j) = R) (fun s => l.length - (intOf s).toNat)
        case atStart => exact ⟨k + 1, by omega, by omega, by go_num, HR.out⟩
        case round =>
          obtain ⟨j, hkj, hj, rfl, hr⟩ := hrel
          clear HR
          have HR : Hid (j + cl (l.drop j) = R) := hr
          clear hr
          by_cases hjl : j < l.length
          · have j1 : (0 : Int) ≤ (j : Int) := by omega
            have j2 : (j : Int) < (l.length : Int) := by omega
            by_cases hj10 : l[j] = 10
            · have g10 : ((((bs l)[j]'(show j < (bs l).size from hjl)).toNat : Int) == 10) = true := at_eq hjl hj10
              have g11 : ((((bs l)[j]'(show j < (bs l).size from hjl)).toNat : Int) != 10) = false := by rw [bne, g10]; rfl
              have HE : Hid (j = R) := by
                have := HR.out
                rw [drop_lt hjl, hj10, cl, if_pos (by decide)] at this
                exact this
              go_wp2_with fail
              obtain rfl : j = R := HE.out
              go_roundw
              case rel => exact ⟨j, L, by omega, rfl, HO.out.1, HO.out.2, HT2.out.1, HT2.out.2, by omega⟩
              case measure => simp [intOf]; omega
            · have g10 : ((((bs l)[j]'(show j < (bs l).size from hjl)).toNat : Int) == 10) = false := at_ne hjl hj10
              have g11 : ((((bs l)[j]'(show j < (bs l).size from hjl)).toNat : Int) != 10) = true := by rw [bne, g10]; rfl
              have HE : Hid (j + 1 + cl (l.drop (j + 1)) = R) := by
                have := HR.out
                rw [drop_lt hjl, cl, if_neg (by simpa using hj10)] at this
                show _ = _
                omega
              go_wp2_with fail
              go_round
              case rel => exact ⟨j + 1, by omega, by omega, by go_num, HE.out⟩
              case measure => simp [intOf]; omega
          · obtain rfl : j = l.length := by omega
            have HE : Hid (l.length = R) := by
              have := HR.out
              rw [List.drop_length] at this
              exact this
            go_wp2_with fail
            have HT3 : Hid (L ++ (tg (l.drop l.length) l.length).1 = TT ∧ (tg (l.drop l.length) l.length).2 = E) := by
              rw [HE.out]; exact HT2.out
            go_roundw
            case rel => exact ⟨l.length, L, by omega, rfl, HO.out.1, HO.out.2, HT3.out.1, HT3.out.2, by omega⟩
            case measure => simp [intOf]; omega
      have f35 : ((((bs l)[k]'(show k < (bs l).size from hlt)).toNat : Int) == 35) = false := at_ne hlt h35
      have HK : Hid (∀ w : World, Calls Tryz.prog 76 #[.int .u8 l[k].toNat] w fun e w' => e = .returned (.int .i64 (mkd l[k] : Nat)) ∧ w' = w) := fun w => rkind_any _ w
      by_cases hm : mkd l[k] = 0
      · rw [hm] at HK
        have HL : Hid (∀ w : World, Calls Tryz.prog 77 #[.int .u8 l[k].toNat] w fun e w' => e = .returned (.bool (inW l[k])) ∧ w' = w) := fun w => letter_any _ w
        cases hw : inW l[k]
        · rw [hw] at HL
          have HT2 : Hid (L = TT ∧ (k : Int) = E) := by
            have := HT.out
            rw [tg_no hlt h35 hB (by unfold kd; rw [hw]; exact hm)] at this
            simp only [List.append_nil] at this
            exact this
          clear HT hw hm hB
          go_wp2_with fail
          refine (HK.out _).mono ?_
          rintro e w1 ⟨rfl, rfl⟩
          go_wp2_with fail
          refine (HL.out _).mono ?_
          rintro e w1 ⟨rfl, rfl⟩
          go_wp2_with fail
          go_ret2
          obtain ⟨a1, a2⟩ := HT2.out
          subst a1 a2
          exact ⟨_, rfl, HO.out.1, HO.out.2⟩
        · rw [hw] at HL
          obtain ⟨en, hen⟩ : ∃ en, k + 1 + ktl l[k] (l.drop (k + 1)) = en := ⟨_, rfl⟩
          have hkd := kd_word hw
          obtain ⟨hq, q1, q2⟩ := tg_at hlt (by rw [hkd]; decide) hen
          have HE : Hid (k + 1 + wl (l.drop (k + 1)) = en) := by unfold ktl at hen; rw [if_pos hw] at hen; exact hen
          have HT2 : Hid ((L ++ [⟨1, ((bs l).extract k en).data.toList, (k : Int)⟩]) ++ (tg (l.drop en) en).1 = TT ∧ (tg (l.drop en) en).2 = E) := by
            have := HT.out
            rw [hq, hkd] at this
            rw [List.append_assoc]
            exact this
          clear HT hw hm hB hq hen hkd
          have c1 : (0 : Int) ≤ (en : Int) := by omega
          have c2 : (en : Int) ≤ (l.length : Int) := by omega
          have c3 : (k : Int) ≤ (en : Int) := by omega
          go_wp2_with fail
          refine (HK.out _).mono ?_
          rintro e w1 ⟨rfl, rfl⟩
          go_wp2_with fail
          refine (HL.out _).mono ?_
          rintro e w1 ⟨rfl, rfl⟩
          go_wp2_with fail
          go_loop [7] (fun s => ∃ j : Nat, k + 1 ≤ j ∧ j ≤ l.length ∧ s = .int .i64 j ∧ j + wl (l.drop j) = en) (fun s => l.length - (intOf s).toNat)
          case atStart => exact ⟨k + 1, by omega, by omega, by go_num, HE.out⟩
          case round =>
            obtain ⟨j, hkj, hj, rfl, hr⟩ := hrel
            clear HE
            have HR : Hid (j + wl (l.drop j) = en) := hr
            clear hr
            by_cases hjl : j < l.length
            · have j1 : (0 : Int) ≤ (j : Int) := by omega
              have j2 : (j : Int) < (l.length : Int) := by omega
              have HC : Hid (∀ w : World, Calls Tryz.prog 77 #[.int .u8 l[j].toNat] w fun e w' => e = .returned (.bool (inW l[j])) ∧ w' = w) := fun w => letter_any _ w
              cases hi : inW l[j]
              · rw [hi] at HC
                have HE : Hid (j = en) := by
                  have := HR.out
                  rw [drop_lt hjl, wl, hi] at this
                  show j = en
                  simpa using this
                clear HR hi
                obtain rfl : j = en := HE.out
                clear HE
                go_wp2_with fail
                refine (HC.out _).mono ?_
                rintro e w1 ⟨rfl, rfl⟩
                go_wp2_with (first
                    | (at_builtin; refine app_tok und93 info132 1 (k : Int) ((bs l).extract k j) HO.out.1 (by omega) hsz rfl (.tmp 79) (.tmp 86) rfl rfl rfl ?_; intro v1 w1 hO1 hB1 hs1; have HO1 : Hid (OwnT 132 w.heap.size w1 v1 (L ++ [⟨1, ((bs l).extract k j).data.toList, (k : Int)⟩]) ∧ Below w.heap.size w w1) := ⟨hO1, below_trans HO.out.2 hB1⟩; clear hO1 hB1))
                go_roundw
                case rel => exact ⟨j, _, q2, rfl, HO1.out.1, HO1.out.2, HT2.out.1, HT2.out.2, by simp; omega⟩
                case measure => simp [intOf]; omega
              · rw [hi] at HC
                have HE : Hid (j + 1 + wl (l.drop (j + 1)) = en) := by
                  have := HR.out
                  rw [drop_lt hjl, wl, hi, if_pos rfl] at this
                  show _ = _
                  omega
                clear HR hi
                go_wp2_with fail
                refine (HC.out _).mono ?_
                rintro e w1 ⟨rfl, rfl⟩
                go_wp2_with fail
                go_round
                case rel => exact ⟨j + 1, by omega, by omega, by go_num, HE.out⟩
                case measure => simp [intOf]; omega
            · obtain rfl : j = l.length := by omega
              have HE : Hid (l.length = en) := by
                have := HR.out
                rw [List.drop_length] at this
                exact this
              clear HR
              obtain rfl : en = l.length := HE.out.symm
              clear HE
              go_wp2_with (first
                    | (at_builtin; refine app_tok und93 info132 1 (k : Int) ((bs l).extract k l.length) HO.out.1 (by omega) hsz rfl (.tmp 79) (.tmp 86) rfl rfl rfl ?_; intro v1 w1 hO1 hB1 hs1; have HO1 : Hid (OwnT 132 w.heap.size w1 v1 (L ++ [⟨1, ((bs l).extract k l.length).data.toList, (k : Int)⟩]) ∧ Below w.heap.size w w1) := ⟨hO1, below_trans HO.out.2 hB1⟩; clear hO1 hB1))
              go_roundw
              case rel => exact ⟨l.length, _, by omega, rfl, HO1.out.1, HO1.out.2, HT2.out.1, HT2.out.2, by simp; omega⟩
              case measure => simp [intOf]; omega
      · have hkd := kd_mark hm
        have htl : ktl l[k] (l.drop (k + 1)) = 0 := by unfold ktl; rw [mkd_word hm]; rfl
        obtain ⟨hq, q1, q2⟩ := tg_at hlt (by rw [hkd]; exact hm) rfl
        rw [htl, Nat.add_zero] at hq q2
        have HT2 : Hid ((L ++ [⟨((mkd l[k] : Nat) : Int), ((bs l).extract k (k + 1)).data.toList, (k : Int)⟩]) ++ (tg (l.drop (k + 1)) (k + 1)).1 = TT ∧ (tg (l.drop (k + 1)) (k + 1)).2 = E) := by
          have := HT.out
          rw [hq, hkd] at this
          rw [List.append_assoc]
          exact this
        clear HT hB hq htl hkd q1
        obtain ⟨m, hmm⟩ : ∃ m, mkd l[k] = m := ⟨_, rfl⟩
        rw [hmm] at HK HT2 hm
        clear hmm
        have m1 : (0 : Int) < (m : Int) := by omega
        have HK2 : Hid (∀ w : World, Calls Tryz.prog 76 #[.int .u8 ((bs l)[k]'(show k < (bs l).size from hlt)).toNat] w fun e w' => e = .returned (.int .i64 (m : Nat)) ∧ w' = w) := HK.out
        have c1 : (0 : Int) ≤ (k : Int) + 1 := by omega
        have c2 : (k : Int) + 1 ≤ (l.length : Int) := by omega
        have c3 : (k : Int) ≤ (k : Int) + 1 := by omega
        go_wp2_with fail
        refine (HK.out _).mono ?_
        rintro e w1 ⟨rfl, rfl⟩
        go_wp2_with fail
        go_region_held3 (fun _ => True) (trivial) (first | (go_at_call 76; (with_reducible refine (HK2.out _).mono ?_); rintro x w8 ⟨rfl, rfl⟩) | (refine step_app_tok und93 info132 rfl (.tmp 53) (.tmp 62) rfl w.heap.size L [(⟨(m : Int), ((bs l).extract k (k + 1)).data.toList, (k : Int)⟩ : Tk)] u4 _ rfl rfl (HO.out.1.later (balloc _ _).drew) (src_tok_d und93 w1 (m : Int) (k : Int) ((bs l).extract k (k + 1))) (by show L.length + 1 ≤ _; omega) (by show w.heap.size ≤ _; simp; omega) ?_; intro v5 w5 ho5 hg5))
        have HB5 : Hid (Below w.heap.size w w5) := (bstep HO.out.2 (balloc _ _).drew).grown hg5 (by simp; omega) (fun j hj => (HO.out.1.lt hj).1)
        have HO5 : Hid (OwnT 132 w.heap.size w5 v5 (L ++ [(⟨(m : Int), ((bs l).extract k (k + 1)).data.toList, (k : Int)⟩ : Tk)])) := ho5
        clear hg5 ho5
        go_wp2_with fail
        go_roundw
        case rel => exact ⟨k + 1, _, q2, by go_num, HO5.out, HB5.out, HT2.out.1, HT2.out.2, by simp; omega⟩
        case measure => simp [intOf]; omega
    · obtain rfl : k = l.length := by omega
      have HT2 : Hid (L = TT ∧ (-1 : Int) = E) := by
        have := HT.out
        rw [List.drop_length, tg_nil] at this
        simp only [List.append_nil] at this
        exact this
      clear HT
      go_wp2_with fail
      go_ret2
      obtain ⟨a1, a2⟩ := HT2.out
      subst a1 a2
      exact ⟨_, rfl, HO.out.1, HO.out.2⟩
end Go.Proofs.YtddaoloabfkheaaGreatDoor
