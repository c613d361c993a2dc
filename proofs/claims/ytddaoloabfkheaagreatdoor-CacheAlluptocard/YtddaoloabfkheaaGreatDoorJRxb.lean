/-
  The document's tokens.
  The document's reader: how far it is, its fault.
  The document's reader: words, faults, what is taken.
-/
import Derived.Test.YtddaoloabfkheaaGreatDoorJRd
import Derived.Test.YtddaoloabfkheaaGreatDoorJPrt
namespace Go.Proofs.YtddaoloabfkheaaGreatDoor
open Go.RowKit

theorem tg_at {l : List UInt8} {k e : Nat} (h : k < l.length) (hk : kd l[k] ≠ 0) (he : k + 1 + ktl l[k] (l.drop (k + 1)) = e) :
    tg (l.drop k) k = (⟨(kd l[k] : Nat), ((bs l).extract k e).data.toList, k⟩ :: (tg (l.drop e) e).1, (tg (l.drop e) e).2) ∧ k < e ∧ e ≤ l.length := by
  have h1 := ktl_le l[k] (l.drop (k + 1))
  rw [List.length_drop] at h1
  refine ⟨?_, by omega, by omega⟩
  rw [drop_lt h, tg_tok hk]
  have e1 : (l.drop (k + 1)).drop (ktl l[k] (l.drop (k + 1))) = l.drop e := by rw [List.drop_drop, he]
  rw [e1, he]
  have e2 : ((bs l).extract k e).data.toList = l[k] :: (l.drop (k + 1)).take (ktl l[k] (l.drop (k + 1))) := by
    rw [bs_extract, bs_data, drop_lt h, show e - k = ktl l[k] (l.drop (k + 1)) + 1 by omega, List.take_succ_cons]
  rw [e2]
theorem tg_no {l : List UInt8} {k : Nat} (h : k < l.length) (h1 : l[k] ≠ 35) (h2 : isB l[k] = false) (hk : kd l[k] = 0) : tg (l.drop k) k = ([], (k : Int)) := by
  rw [drop_lt h, tg_other h1 h2, tq_bad hk]
/-- append of tokens, inside a region that draws -/
theorem step_app_tok {t e : TypeId} (hu : Tryz.prog.underlying t = some (.slice e)) (hinf : (Tryz.prog.info? e).map (fun i => (i.zero, i.size, i.bytes)) = some (some (.agg #[.int .i64 0, .string ⟨#[]⟩, .int .i64 0]), 3, 32)) {ops : Array Oper} {o : Oper} {a : Act} {w : World} {K : Act → World → Prop} {Q : Exit → Act → World → Prop} {E : Prop} (hgd : o.guard = none) (s y : Operand)
    (ho : o.op = .call { callee := .builtin .append, args := #[s, y], argTypes := #[t, t] }) (base : Nat) (l k : List Tk) (v x : Value) (hv : a.eval s = v) (hx : a.eval y = x)
    (hown : OwnT e base w v l) (hs : Src Tryz.prog 3 t x k.length (tc k) w) (hb : l.length + k.length ≤ 1000000000) (hbase : base ≤ w.heap.size)
    (h : ∀ v' w', OwnT e base w' v' (l ++ k) → w.grownBy w' v.ownBlock → K (a.put o.dst v') w') :
    if Region.wanted o (yielded ops a.tmps) = true then Oper.wp Tryz.prog o a w K Q else E := by
  have hw : Region.wanted o (yielded ops a.tmps) = true := by simp [Region.wanted, hgd]
  rw [if_pos hw]
  obtain ⟨i0, hi, hz0, hz1, hz2⟩ := info_parts hinf
  obtain ⟨v', w', hr, h2, h3, h4⟩ := run_append_src (P := Tryz.prog) w base t t o.type e i0 _ 3 32 hu hi hz0 hz1 hz2 rfl v l.length (tc l) hown x k.length (tc k) hs (by simp only [maxLen]; omega) (by omega) hbase
  unfold Oper.wp execOp
  simp only [ho, resolve, invoke, builtin, Sem.run_bind, Sem.run_pure, Result.andThen_ok, List.map_toArray, List.map_cons, List.map_nil, hv, hx, hr]
  exact h v' w' (by unfold OwnT; rw [tc_append, List.length_append]; exact h2) h3
theorem src_tok_d {t e : TypeId} (hu : Tryz.prog.underlying t = some (.slice e)) (w : World) (a b : Int) (X : ByteArray) : Src Tryz.prog 3 t (.slice (some ⟨w.heap.size, 0, none⟩) 1 1) [(⟨a, X.data.toList, b⟩ : Tk)].length (tc [⟨a, X.data.toList, b⟩]) (w.alloc (.cells #[.int .i64 a, .string X, .int .i64 b] e)).drew := by
  refine Src.ofSlice _ hu ⟨w.heap.size, 0, none⟩ 1 1 (tc [⟨a, X.data.toList, b⟩]) (by simp [tc_length]) ?_ (tc_one _)
  exact fun j u hu => World.news_of_block (heap_alloc_new w _) j u hu

set_option maxRecDepth 100000 in
set_option maxHeartbeats 8000000 in
theorem rtokens_any (l : List UInt8) (w : World) (hl : l.length ≤ 500000000) :
    Calls Tryz.prog 40 #[.string (bs l)] w fun e w' => ∃ v, e = .returned (.tuple #[v, .int .i64 (toks l).2]) ∧ OwnT 132 w.heap.size w' v (toks l).1 ∧ Below w.heap.size w w' := by
  have hz : (bs l).size = l.length := rfl
  obtain ⟨S, hS⟩ : ∃ S, toks l = S := ⟨_, rfl⟩
  rw [hS]
  have HS : Hid (tg (l.drop 0) 0 = S) := hS
  clear hS
  obtain ⟨TT, E⟩ := S
  go_enter Tryz.func40, Tryz.ntmps40
  go_wp2_with fail
  go_loopw [4, 5] (fun v s wr => ∃ (k : Nat) (L : List Tk), k ≤ l.length ∧ s = .int .i64 k ∧ OwnT 132 w.heap.size wr v L ∧ Below w.heap.size w wr ∧ L ++ (tg (l.drop k) k).1 = TT ∧ (tg (l.drop k) k).2 = E ∧ L.length ≤ k) (fun _ s _ => l.length - (intOf s).toNat)
  case atStart => exact ⟨0, [], by omega, rfl, OwnT.nil _ _ _, Below.refl _ _, by rw [HS.out]; rfl, by rw [HS.out], by simp⟩
  case round =>
    obtain ⟨k, L, hk, rfl, ho, hb, ht, hE, hL⟩ := hrel
    clear HS
    have HO : Hid (OwnT 132 w.heap.size wr u4 L ∧ Below w.heap.size w wr) := ⟨ho, hb⟩
    have HT : Hid (L ++ (tg (l.drop k) k).1 = TT ∧ (tg (l.drop k) k).2 = E) := ⟨ht, hE⟩
    have hsz := hb.size
    clear ho hb ht hE
    by_cases hlt : k < l.length
    · have k1 : (0 : Int) ≤ (k : Int) := by omega
      have k2 : (k : Int) < (l.length : Int) := by omega
      by_cases h9 : l[k] = 9
      · have f9 : ((((bs l)[k]'(show k < (bs l).size from hlt)).toNat : Int) == 9) = true := at_eq hlt h9
        have HT2 : Hid (L ++ (tg (l.drop (k + 1)) (k + 1)).1 = TT ∧ (tg (l.drop (k + 1)) (k + 1)).2 = E) := by
          have := HT.out
          rw [drop_lt hlt, tg_blank (by rw [h9]; decide)] at this
          exact this
        clear HT
        go_wp2_with fail
        go_roundw
        case rel => exact ⟨k + 1, L, by omega, by go_num, HO.out.1, HO.out.2, HT2.out.1, HT2.out.2, by omega⟩
        case measure => simp [intOf]; omega
      have f9 : ((((bs l)[k]'(show k < (bs l).size from hlt)).toNat : Int) == 9) = false := at_ne hlt h9
      by_cases h10 : l[k] = 10
      · have f10 : ((((bs l)[k]'(show k < (bs l).size from hlt)).toNat : Int) == 10) = true := at_eq hlt h10
        have HT2 : Hid (L ++ (tg (l.drop (k + 1)) (k + 1)).1 = TT ∧ (tg (l.drop (k + 1)) (k + 1)).2 = E) := by
          have := HT.out
          rw [drop_lt hlt, tg_blank (by rw [h10]; decide)] at this
          exact this
        clear HT
        go_wp2_with fail
        go_roundw
        case rel => exact ⟨k + 1, L, by omega, by go_num, HO.out.1, HO.out.2, HT2.out.1, HT2.out.2, by omega⟩
        case measure => simp [intOf]; omega
      have f10 : ((((bs l)[k]'(show k < (bs l).size from hlt)).toNat : Int) == 10) = false := at_ne hlt h10
      by_cases h13 : l[k] = 13
      · have f13 : ((((bs l)[k]'(show k < (bs l).size from hlt)).toNat : Int) == 13) = true := at_eq hlt h13
        have HT2 : Hid (L ++ (tg (l.drop (k + 1)) (k + 1)).1 = TT ∧ (tg (l.drop (k + 1)) (k + 1)).2 = E) := by
          have := HT.out
          rw [drop_lt hlt, tg_blank (by rw [h13]; decide)] at this
          exact this
        clear HT
        go_wp2_with fail
        go_roundw
        case rel => exact ⟨k + 1, L, by omega, by go_num, HO.out.1, HO.out.2, HT2.out.1, HT2.out.2, by omega⟩
        case measure => simp [intOf]; omega
      have f13 : ((((bs l)[k]'(show k < (bs l).size from hlt)).toNat : Int) == 13) = false := at_ne hlt h13
      by_cases h32 : l[k] = 32
      · have f32 : ((((bs l)[k]'(show k < (bs l).size from hlt)).toNat : Int) == 32) = true := at_eq hlt h32
        have HT2 : Hid (L ++ (tg (l.drop (k + 1)) (k + 1)).1 = TT ∧ (tg (l.drop (k + 1)) (k + 1)).2 = E) := by
          have := HT.out
          rw [drop_lt hlt, tg_blank (by rw [h32]; decide)] at this
          exact this
        clear HT
        go_wp2_with fail
        go_roundw
        case rel => exact ⟨k + 1, L, by omega, by go_num, HO.out.1, HO.out.2, HT2.out.1, HT2.out.2, by omega⟩
        case measure => simp [intOf]; omega
      have f32 : ((((bs l)[k]'(show k < (bs l).size from hlt)).toNat : Int) == 32) = false := at_ne hlt h32
      have hB : isB l[k] = false := by simp [isB, h9, h10, h13, h32]
      by_cases h35 : l[k] = 35
      · have f35 : ((((bs l)[k]'(show k < (bs l).size from hlt)).toNat : Int) == 35) = true := at_eq hlt h35
        have HT2 : Hid (L ++ (tg (l.drop (k + 1 + cl (l.drop (k + 1)))) (k + 1 + cl (l.drop (k + 1)))).1 = TT ∧ (tg (l.drop (k + 1 + cl (l.drop (k + 1)))) (k + 1 + cl (l.drop (k + 1)))).2 = E) := by
          have := HT.out
          rw [drop_lt hlt, h35, tg_comment, List.drop_drop] at this
          exact this
        obtain ⟨R, hR⟩ : ∃ R, k + 1 + cl (l.drop (k + 1)) = R := ⟨_, rfl⟩
        have hR2 : k + 1 ≤ R := by omega
        rw [hR] at HT2
        have HR : Hid (k + 1 + cl (l.drop (k + 1)) = R) := hR
        clear HT hR
        go_wp2_with fail
        go_loop [7] (fun s => ∃ j : Nat, k + 1 ≤ j ∧ j ≤ l.length ∧ s = .int .i64 j ∧ j + cl (l.drop j) = R) (fun s => l.length - (intOf s).toNat)
        case atStart => exact ⟨k + 1, by omega, by omega, by go_num, HR.out⟩
        case round =>
          obtain ⟨j, hkj, hj, rfl, hr⟩ := hrel
          clear HR
          have HR : Hid (j + cl (l.drop j) = R) := hr
          clear hr
          by_cases hjl : j < l.length
          · have j1 : (0 : Int) ≤ (j : Int) := by omega
            have j2 : (j : Int) < (l.length : Int) := by omega
            by_cases hj10 : l[j] = 10
            · have g10 : ((((bs l)[j]'(show j < (bs l).size from hjl)).toNat : Int) == 10) = true := at_eq hjl hj10
              have g11 : ((((bs l)[j]'(show j < (bs l).size from hjl)).toNat : Int) != 10) = false := by rw [bne, g10]; rfl
              have HE : Hid (j = R) := by
                have := HR.out
                rw [drop_lt hjl, hj10, cl, if_pos (by decide)] at this
                exact this
              go_wp2_with fail
              obtain rfl : j = R := HE.out
              go_roundw
              case rel => exact ⟨j, L, by omega, rfl, HO.out.1, HO.out.2, HT2.out.1, HT2.out.2, by omega⟩
              case measure => simp [intOf]; omega
            · have g10 : ((((bs l)[j]'(show j < (bs l).size from hjl)).toNat : Int) == 10) = false := at_ne hjl hj10
              have g11 : ((((bs l)[j]'(show j < (bs l).size from hjl)).toNat : Int) != 10) = true := by rw [bne, g10]; rfl
              have HE : Hid (j + 1 + cl (l.drop (j + 1)) = R) := by
                have := HR.out
                rw [drop_lt hjl, cl, if_neg (by simpa using hj10)] at this
                show _ = _
                omega
              go_wp2_with fail
              go_round
              case rel => exact ⟨j + 1, by omega, by omega, by go_num, HE.out⟩
              case measure => simp [intOf]; omega
          · obtain rfl : j = l.length := by omega
            have HE : Hid (l.length = R) := by
              have := HR.out
              rw [List.drop_length] at this
              exact this
            go_wp2_with fail
            have HT3 : Hid (L ++ (tg (l.drop l.length) l.length).1 = TT ∧ (tg (l.drop l.length) l.length).2 = E) := by
              rw [HE.out]; exact HT2.out
            go_roundw
            case rel => exact ⟨l.length, L, by omega, rfl, HO.out.1, HO.out.2, HT3.out.1, HT3.out.2, by omega⟩
            case measure => simp [intOf]; omega
      have f35 : ((((bs l)[k]'(show k < (bs l).size from hlt)).toNat : Int) == 35) = false := at_ne hlt h35
      have HK : Hid (∀ w : World, Calls Tryz.prog 76 #[.int .u8 l[k].toNat] w fun e w' => e = .returned (.int .i64 (mkd l[k] : Nat)) ∧ w' = w) := fun w => rkind_any _ w
      by_cases hm : mkd l[k] = 0
      · rw [hm] at HK
        have HL : Hid (∀ w : World, Calls Tryz.prog 77 #[.int .u8 l[k].toNat] w fun e w' => e = .returned (.bool (inW l[k])) ∧ w' = w) := fun w => letter_any _ w
        cases hw : inW l[k]
        · rw [hw] at HL
          have HT2 : Hid (L = TT ∧ (k : Int) = E) := by
            have := HT.out
            rw [tg_no hlt h35 hB (by unfold kd; rw [hw]; exact hm)] at this
            simp only [List.append_nil] at this
            exact this
          clear HT hw hm hB
          go_wp2_with fail
          refine (HK.out _).mono ?_
          rintro e w1 ⟨rfl, rfl⟩
          go_wp2_with fail
          refine (HL.out _).mono ?_
          rintro e w1 ⟨rfl, rfl⟩
          go_wp2_with fail
          go_ret2
          obtain ⟨a1, a2⟩ := HT2.out
          subst a1 a2
          exact ⟨_, rfl, HO.out.1, HO.out.2⟩
        · rw [hw] at HL
          obtain ⟨en, hen⟩ : ∃ en, k + 1 + ktl l[k] (l.drop (k + 1)) = en := ⟨_, rfl⟩
          have hkd := kd_word hw
          obtain ⟨hq, q1, q2⟩ := tg_at hlt (by rw [hkd]; decide) hen
          have HE : Hid (k + 1 + wl (l.drop (k + 1)) = en) := by unfold ktl at hen; rw [if_pos hw] at hen; exact hen
          have HT2 : Hid ((L ++ [⟨1, ((bs l).extract k en).data.toList, (k : Int)⟩]) ++ (tg (l.drop en) en).1 = TT ∧ (tg (l.drop en) en).2 = E) := by
            have := HT.out
            rw [hq, hkd] at this
            rw [List.append_assoc]
            exact this
          clear HT hw hm hB hq hen hkd
          have c1 : (0 : Int) ≤ (en : Int) := by omega
          have c2 : (en : Int) ≤ (l.length : Int) := by omega
          have c3 : (k : Int) ≤ (en : Int) := by omega
          go_wp2_with fail
          refine (HK.out _).mono ?_
          rintro e w1 ⟨rfl, rfl⟩
          go_wp2_with fail
          refine (HL.out _).mono ?_
          rintro e w1 ⟨rfl, rfl⟩
          go_wp2_with fail
          go_loop [7] (fun s => ∃ j : Nat, k + 1 ≤ j ∧ j ≤ l.length ∧ s = .int .i64 j ∧ j + wl (l.drop j) = en) (fun s => l.length - (intOf s).toNat)
          case atStart => exact ⟨k + 1, by omega, by omega, by go_num, HE.out⟩
          case round =>
            obtain ⟨j, hkj, hj, rfl, hr⟩ := hrel
            clear HE
            have HR : Hid (j + wl (l.drop j) = en) := hr
            clear hr
            by_cases hjl : j < l.length
            · have j1 : (0 : Int) ≤ (j : Int) := by omega
              have j2 : (j : Int) < (l.length : Int) := by omega
              have HC : Hid (∀ w : World, Calls Tryz.prog 77 #[.int .u8 l[j].toNat] w fun e w' => e = .returned (.bool (inW l[j])) ∧ w' = w) := fun w => letter_any _ w
              cases hi : inW l[j]
              · rw [hi] at HC
                have HE : Hid (j = en) := by
                  have := HR.out
                  rw [drop_lt hjl, wl, hi] at this
                  show j = en
                  simpa using this
                clear HR hi
                obtain rfl : j = en := HE.out
                clear HE
                go_wp2_with fail
                refine (HC.out _).mono ?_
                rintro e w1 ⟨rfl, rfl⟩
                go_wp2_with (first
                    | (at_builtin; refine app_tok und93 info132 1 (k : Int) ((bs l).extract k j) HO.out.1 (by omega) hsz rfl (.tmp 79) (.tmp 86) rfl rfl rfl ?_; intro v1 w1 hO1 hB1 hs1; have HO1 : Hid (OwnT 132 w.heap.size w1 v1 (L ++ [⟨1, ((bs l).extract k j).data.toList, (k : Int)⟩]) ∧ Below w.heap.size w w1) := ⟨hO1, below_trans HO.out.2 hB1⟩; clear hO1 hB1))
                go_roundw
                case rel => exact ⟨j, _, q2, rfl, HO1.out.1, HO1.out.2, HT2.out.1, HT2.out.2, by simp; omega⟩
                case measure => simp [intOf]; omega
              · rw [hi] at HC
                have HE : Hid (j + 1 + wl (l.drop (j + 1)) = en) := by
                  have := HR.out
                  rw [drop_lt hjl, wl, hi, if_pos rfl] at this
                  show _ = _
                  omega
                clear HR hi
                go_wp2_with fail
                refine (HC.out _).mono ?_
                rintro e w1 ⟨rfl, rfl⟩
                go_wp2_with fail
                go_round
                case rel => exact ⟨j + 1, by omega, by omega, by go_num, HE.out⟩
                case measure => simp [intOf]; omega
            · obtain rfl : j = l.length := by omega
              have HE : Hid (l.length = en) := by
                have := HR.out
                rw [List.drop_length] at this
                exact this
              clear HR
              obtain rfl : en = l.length := HE.out.symm
              clear HE
              go_wp2_with (first
                    | (at_builtin; refine app_tok und93 info132 1 (k : Int) ((bs l).extract k l.length) HO.out.1 (by omega) hsz rfl (.tmp 79) (.tmp 86) rfl rfl rfl ?_; intro v1 w1 hO1 hB1 hs1; have HO1 : Hid (OwnT 132 w.heap.size w1 v1 (L ++ [⟨1, ((bs l).extract k l.length).data.toList, (k : Int)⟩]) ∧ Below w.heap.size w w1) := ⟨hO1, below_trans HO.out.2 hB1⟩; clear hO1 hB1))
              go_roundw
              case rel => exact ⟨l.length, _, by omega, rfl, HO1.out.1, HO1.out.2, HT2.out.1, HT2.out.2, by simp; omega⟩
              case measure => simp [intOf]; omega
      · have hkd := kd_mark hm
        have htl : ktl l[k] (l.drop (k + 1)) = 0 := by unfold ktl; rw [mkd_word hm]; rfl
        obtain ⟨hq, q1, q2⟩ := tg_at hlt (by rw [hkd]; exact hm) rfl
        rw [htl, Nat.add_zero] at hq q2
        have HT2 : Hid ((L ++ [⟨((mkd l[k] : Nat) : Int), ((bs l).extract k (k + 1)).data.toList, (k : Int)⟩]) ++ (tg (l.drop (k + 1)) (k + 1)).1 = TT ∧ (tg (l.drop (k + 1)) (k + 1)).2 = E) := by
          have := HT.out
          rw [hq, hkd] at this
          rw [List.append_assoc]
          exact this
        clear HT hB hq htl hkd q1
        obtain ⟨m, hmm⟩ : ∃ m, mkd l[k] = m := ⟨_, rfl⟩
        rw [hmm] at HK HT2 hm
        clear hmm
        have m1 : (0 : Int) < (m : Int) := by omega
        have HK2 : Hid (∀ w : World, Calls Tryz.prog 76 #[.int .u8 ((bs l)[k]'(show k < (bs l).size from hlt)).toNat] w fun e w' => e = .returned (.int .i64 (m : Nat)) ∧ w' = w) := HK.out
        have c1 : (0 : Int) ≤ (k : Int) + 1 := by omega
        have c2 : (k : Int) + 1 ≤ (l.length : Int) := by omega
        have c3 : (k : Int) ≤ (k : Int) + 1 := by omega
        go_wp2_with fail
        refine (HK.out _).mono ?_
        rintro e w1 ⟨rfl, rfl⟩
        go_wp2_with fail
        go_region_held3 (fun _ => True) (trivial) (first | (go_at_call 76; (with_reducible refine (HK2.out _).mono ?_); rintro x w8 ⟨rfl, rfl⟩) | (refine step_app_tok und93 info132 rfl (.tmp 53) (.tmp 62) rfl w.heap.size L [(⟨(m : Int), ((bs l).extract k (k + 1)).data.toList, (k : Int)⟩ : Tk)] u4 _ rfl rfl (HO.out.1.later (balloc _ _).drew) (src_tok_d und93 w1 (m : Int) (k : Int) ((bs l).extract k (k + 1))) (by show L.length + 1 ≤ _; omega) (by show w.heap.size ≤ _; simp; omega) ?_; intro v5 w5 ho5 hg5))
        have HB5 : Hid (Below w.heap.size w w5) := (bstep HO.out.2 (balloc _ _).drew).grown hg5 (by simp; omega) (fun j hj => (HO.out.1.lt hj).1)
        have HO5 : Hid (OwnT 132 w.heap.size w5 v5 (L ++ [(⟨(m : Int), ((bs l).extract k (k + 1)).data.toList, (k : Int)⟩ : Tk)])) := ho5
        clear hg5 ho5
        go_wp2_with fail
        go_roundw
        case rel => exact ⟨k + 1, _, q2, by go_num, HO5.out, HB5.out, HT2.out.1, HT2.out.2, by simp; omega⟩
        case measure => simp [intOf]; omega
    · obtain rfl : k = l.length := by omega
      have HT2 : Hid (L = TT ∧ (-1 : Int) = E) := by
        have := HT.out
        rw [List.drop_length, tg_nil] at this
        simp only [List.append_nil] at this
        exact this
      clear HT
      go_wp2_with fail
      go_ret2
      obtain ⟨a1, a2⟩ := HT2.out
      subst a1 a2
      exact ⟨_, rfl, HO.out.1, HO.out.2⟩
end Go.Proofs.YtddaoloabfkheaaGreatDoor

namespace Go.Proofs.YtddaoloabfkheaaGreatDoor
open Go.RowKit

/-- the document's reader -/
structure RX (w : World) (g : Nat) (p : List UInt8) (E : Int) (L : List Tk) (i : Nat) (bad : Int) : Prop where
  it : ∃ a c, w.heap[g]? = some (.cells #[.string (bs p), .slice a L.length c, .int .i64 i, .int .i64 bad, .int .i64 E] 98 (0, 0)) ∧ TS w (.slice a L.length c) L ∧ (L ≠ [] → ∀ b, (Value.slice a L.length c).ownBlock = some b → b < g)
theorem RX.lt {w : World} {g i : Nat} {p : List UInt8} {E bad : Int} {L : List Tk} (h : RX w g p E L i bad) : g < w.heap.size := by
  obtain ⟨a, c, h1, _⟩ := h.it; exact (Array.getElem?_eq_some_iff.1 h1).1
theorem RX.below {w w' : World} {g i B : Nat} {p : List UInt8} {E bad : Int} {L : List Tk} (h : RX w g p E L i bad) (hb : Below B w w') (hg : g < B) : RX w' g p E L i bad := by
  obtain ⟨a, c, h1, h2, h3⟩ := h.it
  refine ⟨a, c, (hb.block g hg).trans h1, ?_, h3⟩
  rcases L with _ | ⟨k, r⟩
  · exact .inl ⟨⟨_, _, rfl⟩, rfl⟩
  · exact h2.below hb fun b hk => Nat.lt_trans (h3 (by simp) b hk) hg
theorem RX.later {w w' : World} {g i : Nat} {p : List UInt8} {E bad : Int} {L : List Tk} (h : RX w g p E L i bad) (hb : Below w.heap.size w w') : RX w' g p E L i bad := h.below hb h.lt
theorem RX.drew {w : World} {g i : Nat} {p : List UInt8} {E bad : Int} {L : List Tk} (h : RX w g p E L i bad) (n : Nat) : RX (w.drewN n) g p E L i bad := h.later (bd _ _)
theorem RX.pkg {w : World} {g i : Nat} {p : List UInt8} {E bad : Int} {L : List Tk} (h : RX w g p E L i bad) : w.cell? ⟨g, 0, none⟩ = some (.string (bs p)) := by
  obtain ⟨a, c, h1, _⟩ := h.it; simp [World.cell?, h1]
/-- the cells, and the token that is next -/
theorem RX.cells {w : World} {g i : Nat} {p : List UInt8} {E bad : Int} {L : List Tk} (h : RX w g p E L i bad) : ∃ a c, w.cell? ⟨g, 1, none⟩ = some (.slice a L.length c) ∧ w.cell? ⟨g, 2, none⟩ = some (.int .i64 i) ∧ w.cell? ⟨g, 3, none⟩ = some (.int .i64 bad) ∧ w.cell? ⟨g, 4, none⟩ = some (.int .i64 E) ∧
    w.frozen? ⟨g, 2, none⟩ = false ∧ w.frozen? ⟨g, 3, none⟩ = false ∧ w.frozen? ⟨g, 4, none⟩ = false ∧ TS w (.slice a L.length c) L ∧ (L ≠ [] → ∀ b, (Value.slice a L.length c).ownBlock = some b → b < g) := by
  obtain ⟨a, c, h1, h2, h3⟩ := h.it
  exact ⟨a, c, by simp [World.cell?, h1], by simp [World.cell?, h1], by simp [World.cell?, h1], by simp [World.cell?, h1], by simp [World.frozen?, h1], by simp [World.frozen?, h1], by simp [World.frozen?, h1], h2, h3⟩
theorem RX.set {w : World} {g i : Nat} {p : List UInt8} {E bad : Int} {L : List Tk} (h : RX w g p E L i bad) : (∀ j : Nat, RX (w.setCell ⟨g, 2, none⟩ (.int .i64 j)) g p E L j bad) ∧ (∀ z : Int, RX (w.setCell ⟨g, 3, none⟩ (.int .i64 z)) g p E L i z) ∧ (∀ z : Int, RX (w.setCell ⟨g, 4, none⟩ (.int .i64 z)) g p z L i bad) := by
  obtain ⟨a, c, h1, h2, h3⟩ := h.it
  have keep : ∀ (o : Nat) (x : Value), TS (w.setCell ⟨g, o, none⟩ x) (.slice a L.length c) L := fun o x => by
    have hb : Below g w (w.setCell ⟨g, o, none⟩ x) := (Below.refl _ _).setCell (p := ⟨g, o, none⟩) (Nat.le_refl _) _
    rcases L with _ | ⟨k, r⟩
    · exact .inl ⟨⟨_, _, rfl⟩, rfl⟩
    · exact h2.below hb (h3 (by simp))
  refine ⟨fun j => ⟨a, c, ?_, keep _ _, h3⟩, fun z => ⟨a, c, ?_, keep _ _, h3⟩, fun z => ⟨a, c, ?_, keep _ _, h3⟩⟩
  · rw [heap_setCell _ _ _ _ h1]; simp
  · rw [heap_setCell _ _ _ _ h1]; simp
  · rw [heap_setCell _ _ _ _ h1]; simp
def nx (L : List Tk) (i : Nat) (q : Int) : Bool := if h : i < L.length then L[i].kind == q else false
def fp (L : List Tk) (i : Nat) (E : Int) : Int := if h : i < L.length then L[i].at' else E
def wo (L : List Tk) (i : Nat) : List UInt8 := if h : i < L.length then (if L[i].kind = 1 then L[i].text else []) else []
set_option maxRecDepth 100000 in
set_option maxHeartbeats 4000000 in
theorem rnext_bad {w : World} {g i : Nat} {p : List UInt8} {E bad q : Int} {L : List Tk} (h : RX w g p E L i bad) (hb : 0 ≤ bad) :
    Calls Tryz.prog 78 #[.pointer (some ⟨g, 0, none⟩), .int .i64 q] w fun e w' => e = .returned (.bool false) ∧ ∃ n, w' = w.drewN n := by
  obtain ⟨a, c, c1, c2, c3, c4, _, _, _, _, _⟩ := h.cells
  have d1 : decide (bad < 0) = false := by simp; omega
  have d2 : ¬ bad < 0 := by omega
  clear h hb
  go_enter Tryz.func78, Tryz.ntmps78
  go_wp2_with fail
  go_quiet (fail)
  go_wp2_with fail
  go_ret
  exact ⟨rfl, _, rfl⟩
set_option maxRecDepth 100000 in
set_option maxHeartbeats 4000000 in
theorem rnext_any {w : World} {g i : Nat} {p : List UInt8} {E q : Int} {L : List Tk} (h : RX w g p E L i (-1)) :
    Calls Tryz.prog 78 #[.pointer (some ⟨g, 0, none⟩), .int .i64 q] w fun e w' => e = .returned (.bool (nx L i q)) ∧ ∃ n, w' = w.drewN n := by
  obtain ⟨a, c, c1, c2, c3, c4, _, _, _, ht, _⟩ := h.cells
  have HT : Hid (TS w (.slice a L.length c) L) := ht
  clear h ht
  unfold nx
  by_cases hi : i < L.length
  · rw [dif_pos hi]
    obtain ⟨b, off, rfl, hb, e0, e1, e2⟩ := HT.out.at (Below.refl _ _) hi
    have d1 : decide ((i : Int) < (L.length : Int)) = true := by simp; omega
    have d2 : (i : Int) < (L.length : Int) := by omega
    have d3 : (0 : Int) ≤ (i : Int) := by omega
    have d4 : decide (i < L.length) = true := by simp; omega
    generalize L[i].kind = kk at *
    clear HT e1 e2
    go_enter Tryz.func78, Tryz.ntmps78
    go_wp2_with fail
    go_quiet (fail)
    go_wp2_with fail
    go_ret
    exact ⟨by simp, _, rfl⟩
  · rw [dif_neg hi]
    have d1 : decide ((i : Int) < (L.length : Int)) = false := by simp; omega
    have d2 : ¬ (i : Int) < (L.length : Int) := by omega
    have d4 : decide (i < L.length) = false := by simp; omega
    clear HT hi
    go_enter Tryz.func78, Tryz.ntmps78
    go_wp2_with fail
    go_quiet (fail)
    go_wp2_with fail
    go_ret
    exact ⟨rfl, _, rfl⟩
end Go.Proofs.YtddaoloabfkheaaGreatDoor

namespace Go.Proofs.YtddaoloabfkheaaGreatDoor
open Go.RowKit

set_option maxRecDepth 100000 in
set_option maxHeartbeats 4000000 in
theorem rword_any {w : World} {g i : Nat} {p : List UInt8} {E : Int} {L : List Tk} (h : RX w g p E L i (-1)) :
    Calls Tryz.prog 41 #[.pointer (some ⟨g, 0, none⟩)] w fun e w' => e = .returned (.string (bs (wo L i))) ∧ ∃ n, w' = w.drewN n := by
  have HN : Hid (Calls Tryz.prog 78 #[.pointer (some ⟨g, 0, none⟩), .int .i64 1] w fun e w' => e = .returned (.bool (nx L i 1)) ∧ ∃ n, w' = w.drewN n) := rnext_any h
  obtain ⟨a, c, c1, c2, c3, c4, _, _, _, ht, _⟩ := h.cells
  have HT : Hid (TS w (.slice a L.length c) L) := ht
  clear h ht
  unfold nx at HN
  unfold wo
  by_cases hi : i < L.length
  · rw [dif_pos hi] at HN ⊢
    obtain ⟨b, off, rfl, hb, e0, e1, e2⟩ := HT.out.at (Below.refl _ _) hi
    have d2 : (i : Int) < (L.length : Int) := by omega
    have d3 : (0 : Int) ≤ (i : Int) := by omega
    by_cases hk : L[i].kind = 1
    · rw [if_pos hk]
      rw [show (L[i].kind == 1) = true by rw [hk]; rfl] at HN
      generalize L[i].text = tx at *
      clear HT e0 e2 hk
      go_enter Tryz.func41, Tryz.ntmps41
      go_wp2_with fail
      refine HN.out.mono ?_
      rintro e w1 ⟨rfl, n, rfl⟩
      go_wp2_with fail
      go_quiet (fail)
      go_wp2_with fail
      go_ret
      exact ⟨rfl, _, World.drewN_drewN _ _ _⟩
    · rw [if_neg hk]
      rw [show (L[i].kind == 1) = false by rw [beq_eq_false_iff_ne]; exact hk] at HN
      clear HT e0 e2 e1 hk
      go_enter Tryz.func41, Tryz.ntmps41
      go_wp2_with fail
      refine HN.out.mono ?_
      rintro e w1 ⟨rfl, n, rfl⟩
      go_wp2_with fail
      go_ret
      exact ⟨rfl, _, rfl⟩
  · rw [dif_neg hi] at HN ⊢
    clear HT hi
    go_enter Tryz.func41, Tryz.ntmps41
    go_wp2_with fail
    refine HN.out.mono ?_
    rintro e w1 ⟨rfl, n, rfl⟩
    go_wp2_with fail
    go_ret
    exact ⟨rfl, _, rfl⟩
set_option maxRecDepth 100000 in
set_option maxHeartbeats 8000000 in
theorem rfault_any {w : World} {g i : Nat} {p : List UInt8} {E : Int} {L : List Tk} (h : RX w g p E L i (-1)) :
    Calls Tryz.prog 42 #[.pointer (some ⟨g, 0, none⟩)] w fun e w' => e = .returned (.tuple #[]) ∧ RX w' g p E L i (fp L i E) ∧ Only [g] w w' := by
  have H1 : Hid (RX (w.setCell ⟨g, 3, none⟩ (.int .i64 E)) g p E L i E) := h.set.2.1 E
  obtain ⟨a, c, c1, c2, c3, c4, f2, f3, f4, ht, _⟩ := h.cells
  obtain ⟨w0, hw0⟩ : ∃ w0, w.setCell ⟨g, 3, none⟩ (.int .i64 E) = w0 := ⟨_, rfl⟩
  rw [hw0] at H1
  have O0 : Hid (Only [g] w w0) := by show Only [g] w w0; rw [← hw0]; exact Only.set _ _ _ _
  have HW : Hid (w.setCell ⟨g, 3, none⟩ (.int .i64 E) = w0) := hw0
  obtain ⟨a', c', b1, b2, b3, b4, x2, x3, x4, bt, hown⟩ := H1.out.cells
  have HT : Hid (TS w0 (.slice a' L.length c') L) := bt
  clear h ht bt hw0
  unfold fp
  by_cases hi : i < L.length
  · rw [dif_pos hi]
    obtain ⟨b, off, rfl, hb, e0, e1, e2⟩ := HT.out.at (Below.refl _ _) hi
    have d1 : decide ((i : Int) < (L.length : Int)) = true := by simp; omega
    have d2 : (i : Int) < (L.length : Int) := by omega
    have d3 : (0 : Int) ≤ (i : Int) := by omega
    have d4 : decide (i < L.length) = true := by simp; omega
    have hbg : b ≠ g := by
      have := hown (by intro e; rw [e] at hi; simp at hi) b rfl
      omega
    generalize L[i].at' = z at *
    clear HT e0 e1 hown
    go_enter Tryz.func42, Tryz.ntmps42
    go_wp2_with fail
    rw [HW.out]
    go_quiet (fail)
    go_wp2_with fail
    obtain ⟨W, hW⟩ : ∃ W, w0.drewN nq = W := ⟨_, rfl⟩
    have HWW : Hid (w0.drewN nq = W) := hW
    replace b1 : W.cell? ⟨g, 1, none⟩ = some (.slice (some ⟨b, off, none⟩) L.length c') := by rw [← hW]; exact b1
    replace b2 : W.cell? ⟨g, 2, none⟩ = some (.int .i64 i) := by rw [← hW]; exact b2
    replace b3 : W.cell? ⟨g, 3, none⟩ = some (.int .i64 E) := by rw [← hW]; exact b3
    replace x3 : W.frozen? ⟨g, 3, none⟩ = false := by rw [← hW]; exact x3
    replace e2 : W.cell? ⟨b, off + i * 3 + 2, none⟩ = some (.int .i64 z) := by rw [← hW]; exact e2
    rw [hW]
    clear hW c1 c2 c3 c4 f2 f3 f4 x2 x4 b4
    refine wp_region_held_drew (S := fun w' => w'.cell? ⟨g, 1, none⟩ = some (.slice (some ⟨b, off, none⟩) L.length c') ∧ w'.cell? ⟨g, 2, none⟩ = some (.int .i64 i) ∧ w'.cell? ⟨b, off + i * 3 + 2, none⟩ = some (.int .i64 z)) (by kernel_rfl) ⟨b1, b2, e2⟩ (fun hHeld => ?_)
    refine wpAnyH_take (i := 0) (oi := { dst := some 24, op := _, type := _, pos := _, after := _, guard := _ }) (v := ?vx1) rfl (by kernel_rfl) (by kernel_rfl) (by kernel_rfl) (fun _ _ _ h => h) (Or.inl ⟨by rfl, ?hyx1⟩) (by assumption) ?restx1
    case hyx1 => (intro w hSw; (try dsimp only at hSw); go_simp; try with_reducible rfl)
    try simp only [Act.put, List.setIfInBounds_toArray, List.set_cons_zero, List.set_cons_succ]
    refine wpAnyH_take (i := 1) (oi := { dst := some 25, op := _, type := _, pos := _, after := _, guard := _ }) (v := ?vx2) rfl (by kernel_rfl) (by kernel_rfl) (by kernel_rfl) (fun _ _ _ h => h) (Or.inl ⟨by rfl, ?hyx2⟩) (by assumption) ?restx2
    case hyx2 => (intro w hSw; (try dsimp only at hSw); go_simp; try with_reducible rfl)
    try simp only [Act.put, List.setIfInBounds_toArray, List.set_cons_zero, List.set_cons_succ]
    refine wpAnyH_take (i := 2) (oi := { dst := some 26, op := _, type := _, pos := _, after := _, guard := _ }) (v := ?vx3) rfl (by kernel_rfl) (by kernel_rfl) (by kernel_rfl) (fun _ _ _ h => h) (Or.inl ⟨by rfl, ?hyx3⟩) (by assumption) ?restx3
    case hyx3 => (intro w hSw; (try dsimp only at hSw); go_simp; try with_reducible rfl)
    try simp only [Act.put, List.setIfInBounds_toArray, List.set_cons_zero, List.set_cons_succ]
    refine wpAnyH_take (i := 3) (oi := { dst := some 27, op := _, type := _, pos := _, after := _, guard := _ }) (v := ?vx4) rfl (by kernel_rfl) (by kernel_rfl) (by kernel_rfl) (fun _ _ _ h => h) (Or.inl ⟨by rfl, ?hyx4⟩) (by assumption) ?restx4
    case hyx4 => (intro w hSw; (try dsimp only at hSw); go_simp; try with_reducible rfl)
    try simp only [Act.put, List.setIfInBounds_toArray, List.set_cons_zero, List.set_cons_succ]
    refine wpAnyH_take (i := 4) (oi := { dst := some 28, op := _, type := _, pos := _, after := _, guard := _ }) (v := ?vx5) rfl (by kernel_rfl) (by kernel_rfl) (by kernel_rfl) (fun _ _ _ h => h) (Or.inl ⟨by rfl, ?hyx5⟩) (by assumption) ?restx5
    case hyx5 => (intro w hSw; (try dsimp only at hSw); go_simp; try with_reducible rfl)
    try simp only [Act.put, List.setIfInBounds_toArray, List.set_cons_zero, List.set_cons_succ]
    refine wpAnyH_take (i := 5) (oi := { dst := some 29, op := _, type := _, pos := _, after := _, guard := _ }) (v := ?vx6) rfl (by kernel_rfl) (by kernel_rfl) (by kernel_rfl) (fun _ _ _ h => h) (Or.inl ⟨by rfl, ?hyx6⟩) (by assumption) ?restx6
    case hyx6 => (intro w hSw; (try dsimp only at hSw); go_simp; try with_reducible rfl)
    try simp only [Act.put, List.setIfInBounds_toArray, List.set_cons_zero, List.set_cons_succ]
    refine wpAnyH_take (i := 6) (oi := { dst := some 30, op := _, type := _, pos := _, after := _, guard := _ }) (v := ?vx7) rfl (by kernel_rfl) (by kernel_rfl) (by kernel_rfl) (fun _ _ _ h => h) (Or.inl ⟨by rfl, ?hyx7⟩) (by assumption) ?restx7
    case hyx7 => (intro w hSw; (try dsimp only at hSw); go_simp; try with_reducible rfl)
    try simp only [Act.put, List.setIfInBounds_toArray, List.set_cons_zero, List.set_cons_succ]
    refine wpAnyH_take (i := 7) (oi := { dst := some 31, op := _, type := _, pos := _, after := _, guard := _ }) (v := ?vx8) rfl (by kernel_rfl) (by kernel_rfl) (by kernel_rfl) (fun _ _ _ h => h) (Or.inl ⟨by rfl, ?hyx8⟩) (by assumption) ?restx8
    case hyx8 => (intro w hSw; (try dsimp only at hSw); go_simp; try with_reducible rfl)
    try simp only [Act.put, List.setIfInBounds_toArray, List.set_cons_zero, List.set_cons_succ]
    refine wpAnyH_take (i := 8) (oi := { dst := some 32, op := _, type := _, pos := _, after := _, guard := _ }) (v := ?vx9) rfl (by kernel_rfl) (by kernel_rfl) (by kernel_rfl) (fun _ _ _ h => h) (Or.inl ⟨by rfl, ?hyx9⟩) (by assumption) ?restx9
    case hyx9 => (intro w hSw; (try dsimp only at hSw); go_simp; try with_reducible rfl)
    try simp only [Act.put, List.setIfInBounds_toArray, List.set_cons_zero, List.set_cons_succ]
    refine wpAnyH_take (i := 9) (oi := { dst := some 33, op := _, type := _, pos := _, after := _, guard := _ }) (v := ?vx10) rfl (by kernel_rfl) (by kernel_rfl) (by kernel_rfl) (fun _ _ _ h => h) (Or.inl ⟨by rfl, ?hyx10⟩) (by assumption) ?restx10
    case hyx10 => (intro w hSw; (try dsimp only at hSw); go_simp; try with_reducible rfl)
    try simp only [Act.put, List.setIfInBounds_toArray, List.set_cons_zero, List.set_cons_succ]
    refine wpAnyH_take (i := 10) (oi := { dst := some 34, op := _, type := _, pos := _, after := _, guard := _ }) (v := ?vx11) rfl (by kernel_rfl) (by kernel_rfl) (by kernel_rfl) (fun _ _ _ h => h) (Or.inl ⟨by rfl, ?hyx11⟩) (by assumption) ?restx11
    case hyx11 => (intro w hSw; (try dsimp only at hSw); go_simp; try with_reducible rfl)
    try simp only [Act.put, List.setIfInBounds_toArray, List.set_cons_zero, List.set_cons_succ]
    refine wpAnyH_take (i := 11) (oi := { dst := some 35, op := _, type := _, pos := _, after := _, guard := _ }) (v := ?vx12) rfl (by kernel_rfl) (by kernel_rfl) (by kernel_rfl) (fun _ _ _ h => h) (Or.inl ⟨by rfl, ?hyx12⟩) (by assumption) ?restx12
    case hyx12 => (intro w hSw; (try dsimp only at hSw); go_simp; try with_reducible rfl)
    try simp only [Act.put, List.setIfInBounds_toArray, List.set_cons_zero, List.set_cons_succ]
    refine wpAnyH_take (i := 12) (oi := { dst := some 36, op := _, type := _, pos := _, after := _, guard := _ }) (v := ?vx13) rfl (by kernel_rfl) (by kernel_rfl) (by kernel_rfl) (fun _ _ _ h => h) (Or.inl ⟨by rfl, ?hyx13⟩) (by assumption) ?restx13
    case hyx13 => (intro w hSw; (try dsimp only at hSw); go_simp; try with_reducible rfl)
    try simp only [Act.put, List.setIfInBounds_toArray, List.set_cons_zero, List.set_cons_succ]
    refine wpAnyH_take (i := 13) (oi := { dst := some 37, op := _, type := _, pos := _, after := _, guard := _ }) (v := ?vx14) rfl (by kernel_rfl) (by kernel_rfl) (by kernel_rfl) (fun _ _ _ h => h) (Or.inl ⟨by rfl, ?hyx14⟩) (by assumption) ?restx14
    case hyx14 => (intro w hSw; (try dsimp only at hSw); go_simp; try with_reducible rfl)
    try simp only [Act.put, List.setIfInBounds_toArray, List.set_cons_zero, List.set_cons_succ]
    refine wpAnyH_ready (rs := [14]) (by kernel_rfl) (by simp) ?_
    refine AllReadyH.cons (o := { dst := none, op := _, type := _, pos := _, after := _, guard := _ }) rfl (fun K hK => ?_) AllReadyH.nil
    have b3' : W.drew.cell? ⟨g, 3, none⟩ = some (.int .i64 E) := b3
    have x3' : W.drew.frozen? ⟨g, 3, none⟩ = false := x3
    go_simp
    refine hK.out _ _ ⟨(World.cell?_setCell_other _ _ _ _ (by simp)).trans hHeld.1, (World.cell?_setCell_other _ _ _ _ (by simp)).trans hHeld.2.1, (World.cell?_setCell_other _ _ _ _ (by simp)).trans hHeld.2.2⟩ (fun _ => ?_)
    clear hK K
    try simp only [Act.put, List.setIfInBounds_toArray, List.set_cons_zero, List.set_cons_succ]
    refine wpAnyH_done (by kernel_rfl) ?_ _
    have HX : RX (W.drew.setCell ⟨g, 3, none⟩ (.int .i64 z)) g p E L i z := by
      have h1 := (H1.out.drew nq).later (bd1 _)
      rw [HWW.out] at h1
      exact h1.set.2.1 z
    have HO : Only [g] w (W.drew.setCell ⟨g, 3, none⟩ (.int .i64 z)) := by
      have h1 : Only [g] w0 W := by rw [← HWW.out]; exact Only.drew _ _ _
      exact ((O0.out.trans h1).trans (Only.of_below (bd1 _) _)).trans (Only.set _ _ _ _)
    exact ⟨rfl, _, results_none rfl _ _ _, rfl, HX, HO⟩
  · rw [dif_neg hi]
    have d1 : decide ((i : Int) < (L.length : Int)) = false := by simp; omega
    have d2 : ¬ (i : Int) < (L.length : Int) := by omega
    have d4 : decide (i < L.length) = false := by simp; omega
    clear HT hi hown
    go_enter Tryz.func42, Tryz.ntmps42
    go_wp2_with fail
    rw [HW.out]
    go_quiet (fail)
    go_wp2_with fail
    exact ⟨rfl, _, results_none rfl _ _ _, rfl, H1.out.drew _, O0.out.trans (Only.drew _ _ _)⟩
end Go.Proofs.YtddaoloabfkheaaGreatDoor
