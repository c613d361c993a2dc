/-
  What a text's lines show: the law's own function; cone.Shows.
-/
import Derived.Test.YtkopjamednedfaaGreatJQg
import Derived.Test.YtkopjamednedfaaGreatJQa
namespace Go.Proofs.YtkopjamednedfaaGreat
open Go.RowKit Go.Maps
attribute [local go_sem] Oper.semAt_some

/-- a line that a text of cones may have -/
inductive Ln : List UInt8 → Prop
  | all : Ln [47, 42]
  | none : Ln []
  | root : Ln [33, 47, 42, 47]
  | dir (d : List UInt8) (h : d ≠ []) : Ln (dl d)
  | out (d : List UInt8) (h : d ≠ []) : Ln (nl d)
theorem ln_lns {k : List (List UInt8)} (hk : coneE k = 0) : ∀ l ∈ lns k ++ [[]], Ln l := by
  intro l hl
  rcases List.mem_append.1 hl with hl | hl
  · unfold lns at hl
    split at hl
    · rw [List.mem_singleton.1 hl]; exact .all
    · rcases List.mem_cons.1 hl with rfl | hl
      · exact .all
      rcases List.mem_cons.1 hl with rfl | hl
      · exact .root
      unfold dln at hl
      obtain ⟨d, hd, hl⟩ := List.mem_flatMap.1 hl
      have h0 := dsL_ne hk d hd
      have : l = dl d ∨ l = nl d := by
        split at hl
        · exact .inl (List.mem_singleton.1 hl)
        · simpa using hl
      rcases this with rfl | rfl
      · exact .dir d h0
      · exact .out d h0
  · rw [List.mem_singleton.1 hl]; exact .none
theorem shT_next {p : List UInt8} {L : List (List UInt8)} {i : Nat} (h : i < L.length) : shT p (L.take (i + 1)) = stl p L[i] (shT p (L.take i)) := by
  unfold shT
  rw [List.take_succ_eq_append_getElem h, List.foldl_append]
  rfl
theorem stl_go {p l D : List UInt8} {b : Bool} (h1 : l ≠ [47, 42]) (h2 : l ≠ []) (hD : lnD l = D) : stl p l b = if decide (p.length ≤ D.length) || !decide (p.take D.length = D) then b else if l.head? = some 33 then (if 47 ∈ p.drop D.length then false else b) else true := by
  unfold stl
  rw [if_neg h1, if_neg h2, hD]
theorem stl_in {p l D : List UInt8} {b : Bool} (h1 : l ≠ [47, 42]) (h2 : l ≠ []) (hD : lnD l = D) (ha : ¬ p.length ≤ D.length) (hb : p.take D.length = D) : stl p l b = if l.head? = some 33 then (if 47 ∈ p.drop D.length then false else b) else true := by
  rw [stl_go h1 h2 hD, decide_eq_false ha, decide_eq_true hb]
  rfl
theorem stl_out {p l D : List UInt8} {b : Bool} (h1 : l ≠ [47, 42]) (h2 : l ≠ []) (hD : lnD l = D) (h : p.length ≤ D.length ∨ ¬ p.take D.length = D) : stl p l b = b := by
  rw [stl_go h1 h2 hD]
  rcases h with h | h
  · rw [decide_eq_true h]; rfl
  · rw [decide_eq_false h]; simp
theorem u8b (a c : UInt8) : ((a.toNat : Int) == (c.toNat : Int)) = decide (a = c) := by
  rw [Bool.eq_iff_iff, beq_iff_eq, decide_eq_true_eq]
  constructor
  · intro e; apply UInt8.toNat_inj.1; exact Int.ofNat.inj e
  · rintro rfl; rfl
theorem wr_2 (q j : Nat) (h : q ≤ 1000000000) (hj : j + 2 = q) : IntKind.i64.wrap ((q : Int) - 2) = (j : Int) ∧ wrap64 ((q : Int) - 2) = (j : Int) ∧ (0 : Int) ≤ (j : Int) ∧ (j : Int) ≤ (q : Int) := by
  refine ⟨by rw [IntKind.wrap_i64]; omega, by unfold wrap64; omega, by omega, by omega⟩
theorem wr_1 (q j : Nat) (h : q ≤ 1000000000) (hj : j + 1 = q) : IntKind.i64.wrap ((q : Int) - 1) = (j : Int) ∧ wrap64 ((q : Int) - 1) = (j : Int) ∧ (0 : Int) ≤ (j : Int) ∧ (j : Int) ≤ (q : Int) := by
  refine ⟨by rw [IntKind.wrap_i64]; omega, by unfold wrap64; omega, by omega, by omega⟩
theorem nl_facts (d : List UInt8) (_hd : d ≠ []) (q : Nat) (hq : (nl d).length = q) : ∃ (ll ee : List UInt8) (q1 m dl0 : Nat), (bs (nl d)).extract 1 q = bs ll ∧ (bs ll).size = q1 ∧ (bs ll).extract 1 m = bs ee ∧ (bs ee).toList = ee ∧ (ee == [42]) = false ∧ (bs ee).size = dl0 + 2 ∧ (bs ee).extract 0 dl0 = bs d ∧ q1 + 1 = q ∧ m + 1 = q1 ∧ 1 ≤ m ∧ (bs d).size = dl0 ∧ dl0 + 5 = q := by
  have hql : q = d.length + 5 := by rw [← hq]; unfold nl; simp
  refine ⟨47 :: (d ++ [47, 42, 47]), d ++ [47, 42], d.length + 4, d.length + 3, d.length, ?_, ?_, ?_, bs_toList _, ?_, ?_, ?_, by omega, by omega, by omega, rfl, by omega⟩
  · rw [bs_extract]
    congr 1
    show (47 :: (d ++ [47, 42, 47])).take (q - 1) = _
    exact List.take_of_length_le (by simp; omega)
  · show (47 :: (d ++ [47, 42, 47])).length = _
    simp
  · rw [bs_extract]
    congr 1
    show (d ++ [47, 42, 47]).take (d.length + 3 - 1) = _
    rw [show d ++ [47, 42, 47] = (d ++ [47, 42]) ++ [47] by simp]
    exact List.take_left' (by simp)
  · rw [beq_eq_false_iff_ne]
    intro e
    have := congrArg List.length e
    simp at this
  · show (d ++ [47, 42]).length = _
    simp
  · rw [bs_extract]
    congr 1
    show (d ++ [47, 42]).take (d.length - 0) = d
    exact List.take_left
theorem deep_next {p : List UInt8} {m j : Nat} (hj : m ≤ j) (h : j < p.length) : decide (47 ∈ (p.drop m).take (j + 1 - m)) = (decide (47 ∈ (p.drop m).take (j - m)) || decide (p[j] = 47)) := by
  rw [drop_take_snoc p m j hj h, Bool.eq_iff_iff]
  simp only [decide_eq_true_eq, Bool.or_eq_true, List.mem_append, List.mem_singleton]
  exact or_congr Iff.rfl eq_comm
set_option maxRecDepth 100000 in
theorem cshows_any {w : World} {v : Value} {k : List (List UInt8)} (p : List UInt8) (h : SS w v k) (sm : Sm k) (hp : p.length ≤ 1000000000) :
    Calls Tryz.prog 11 #[v, .string (bs p)] w fun e w' => e = .returned (.bool (shw k p)) ∧ Below w.heap.size w w' := by
  have HD := hid_of (dir_any p w (by omega))
  have hdl := dir_len p
  have HO := hid_of (open_any (dir p) h sm sm.sh (by omega))
  obtain ⟨ad, c, hv⟩ := h.len2
  obtain ⟨n, hn⟩ : ∃ n, k.length = n := ⟨_, rfl⟩
  rw [hn] at hv
  subst hv
  obtain ⟨b, hb⟩ : ∃ b, shD k (dir p) = b := ⟨_, rfl⟩
  have HB : Hid (shw k p = b) := hb
  rw [hb] at HO
  generalize dir p = d at *
  clear h hb hn
  go_enter Tryz.func11, Tryz.ntmps11
  go_wp2_with fail
  refine HD.out.mono ?_
  rintro e w1 ⟨rfl, rfl⟩
  go_wp2_with fail
  refine HO.out.mono ?_
  rintro e w2 ⟨rfl, hb2⟩
  have H2 := hid_of hb2
  clear hb2
  go_wp2_with fail
  go_ret
  exact ⟨by rw [HB.out]; rfl, H2.out⟩
theorem spl_eachQ : ∀ (l : List UInt8), ∀ x ∈ spl l, x.length ≤ l.length
  | [], x, hx => by simp [spl] at hx; simp [hx]
  | c :: r, x, hx => by
    have ih := spl_eachQ r
    rw [spl] at hx
    split at hx
    · rcases List.mem_cons.1 hx with rfl | hx
      · simp
      · have := ih x hx; simp; omega
    · split at hx
      · rw [List.mem_singleton.1 hx]; simp
      · rename_i l t h
        rcases List.mem_cons.1 hx with rfl | hx
        · have := ih l (by rw [h]; simp); simp; omega
        · have := ih x (by rw [h]; simp [hx]); simp; omega
theorem own_atQ {B : Nat} {W : World} {a : Option Addr} {n c : Nat} {L : List (List UInt8)} (h : Own B W (.slice a n c) L) (i : Nat) (hi : i < L.length) : ∃ g, a = some ⟨g, 0, none⟩ ∧ g < W.heap.size ∧ W.cell? ⟨g, i, none⟩ = some (.string (bs L[i])) := by
  rcases h.2 with ⟨_, h0⟩ | ⟨g, cap, cur, e, _, hg, _, _, _, ht⟩
  · omega
  · injection e with e1 _ _
    refine ⟨g, e1, (Array.getElem?_eq_some_iff.1 hg).1, ?_⟩
    have h1 : (sc L)[i]? = some (.string (bs L[i])) := by simp [sc_get, hi]
    rw [← ht, Nat.mul_one, List.getElem?_take_of_lt hi] at h1
    simp only [World.cell?, hg]
    simpa using h1
set_option maxRecDepth 100000 in
set_option maxHeartbeats 8000000 in
theorem lshown_any (s p : List UInt8) (w : World) (hs : s.length ≤ 100000000) (hp : p.length ≤ 1000000000) (hp0 : p ≠ []) (hL : ∀ l ∈ spl s, Ln l) :
    Calls Tryz.prog 10 #[.string (bs s), .string (bs p)] w fun e w' => e = .returned (.bool (shT p (spl s))) ∧ Below w.heap.size w w' := by
  have HLN := hid_of (rlines_any s w (by omega))
  have HSL := hid_of (And.intro (spl_len s) (spl_eachQ s))
  obtain ⟨pn, hpn⟩ : ∃ pn, p.length = pn := ⟨_, rfl⟩
  have HPN := hid_of hpn
  have zp : (bs p).size = pn := hpn
  have hpb : pn ≤ 1000000000 := by omega
  have hp1 : 0 < pn := by rw [← hpn]; exact List.length_pos_iff.2 hp0
  obtain ⟨L, hLe⟩ : ∃ L, spl s = L := ⟨_, rfl⟩
  rw [hLe] at HLN HSL hL ⊢
  have HLL := hid_of hL
  clear hL hLe hpn hp hp0
  go_enter Tryz.func10, Tryz.ntmps10
  go_wp2_with fail
  refine HLN.out.mono ?_
  rintro e w1 ⟨v1, rfl, ho1, hb1⟩
  have H1 : Hid (Own w.heap.size w1 v1 L ∧ Below w.heap.size w w1) := ⟨ho1, hb1⟩
  obtain ⟨al, cl, evl, -⟩ := ho1.bs.form
  obtain ⟨n, hn⟩ : ∃ n, L.length = n := ⟨_, rfl⟩
  rw [hn] at evl
  subst evl
  have hnb : n ≤ 100000001 := by have := HSL.out.1; omega
  have HN := hid_of hn
  clear ho1 hb1 hn HLN
  go_wp2_with fail
  go_loopw [6, 7] (fun s6 s7 wr => ∃ i : Nat, s7 = .int .i64 i ∧ i ≤ n ∧ s6 = .bool (shT p (L.take i)) ∧ wr = w1) (fun _ s7 _ => n - (intOf s7).toNat)
  case atStart => exact ⟨0, rfl, Nat.zero_le _, rfl, rfl⟩
  case round =>
    obtain ⟨i, rfl, hi, rfl, ewr⟩ := hrel
    have HR : Hid (True ∧ wr = w1) := ⟨trivial, ewr⟩
    obtain ⟨b, hbv⟩ : ∃ b, shT p (L.take i) = b := ⟨_, rfl⟩
    have HBV := hid_of hbv
    rw [hbv]
    clear hbv
    by_cases hlt : i < n
    · have i1 : (i : Int) < (n : Int) := by omega
      have i2 : (0 : Int) ≤ (i : Int) := by omega
      have hil : i < L.length := by rw [HN.out]; exact hlt
      obtain ⟨g, eg, -, hcy0⟩ := own_atQ H1.out.1 i hil
      subst eg
      have HNXT := hid_of (shT_next (p := p) hil)
      rw [HBV.out] at HNXT
      have hln := HLL.out _ (List.getElem_mem hil)
      have hyl := HSL.out.2 _ (List.getElem_mem hil)
      obtain ⟨y, hy⟩ : ∃ y, L[i] = y := ⟨_, rfl⟩
      rw [hy] at hcy0 HNXT hln hyl
      have hcy : wr.cell? ⟨g, i, none⟩ = some (.string (bs y)) := by rw [ewr]; exact hcy0
      clear hy hcy0 ewr
      have ty : (bs y).toList = y := bs_toList _
      obtain ⟨q, hq⟩ : ∃ q, y.length = q := ⟨_, rfl⟩
      have zy : (bs y).size = q := hq
      rw [hq] at hyl
      by_cases ha : y = [47, 42]
      · have hab : (y == [47, 42]) = true := by simp [ha]
        have HSK : Hid (shT p (L.take (i + 1)) = true) := by
          show _ = _
          rw [HNXT.out]
          unfold stl
          rw [if_pos ha]
        clear hln ha hq HNXT
        go_wp2_with fail
        go_roundw
        case rel => exact ⟨i + 1, by go_num, by omega, by rw [HSK.out], HR.out.2⟩
        case measure => simp [intOf]; omega
      · have hab : (y == [47, 42]) = false := by simpa using ha
        by_cases hb : y = []
        · have hbb : y.isEmpty = true := by simp [hb]
          have HSK : Hid (shT p (L.take (i + 1)) = b) := by
            show _ = _
            rw [HNXT.out]
            unfold stl
            rw [if_neg ha, if_pos hb]
          clear hln ha hb hq HNXT
          go_wp2_with fail
          go_roundw
          case rel => exact ⟨i + 1, by go_num, by omega, by rw [HSK.out], HR.out.2⟩
          case measure => simp [intOf]; omega
        · have hbb : y.isEmpty = false := by cases y with | nil => exact absurd rfl hb | cons _ _ => rfl
          have hq0 : 0 < q := by rw [← hq]; exact List.length_pos_iff.2 hb
          have hy0 : 0 < y.length := by omega
          have hs0 : 0 < (bs y).size := by rw [zy]; exact hq0
          have hy1 := ha
          have hy2 := hb
          cases hln with
          | all => exact absurd rfl ha
          | none => exact absurd rfl hb
          | root =>
            have e0 : ((((bs [33, 47, 42, 47])[0]'hs0).toNat : Int) == 33) = true := rfl
            have q4 : q = 4 := by rw [← hq]; rfl
            subst q4
            have hlD : lnD [33, 47, 42, 47] = [] := by decide
            have HHD : Hid (([33, 47, 42, 47] : List UInt8).head? = some 33) := rfl
            have hx1 : (bs [33, 47, 42, 47]).extract 1 4 = bs [47, 42, 47] := bs_extract _ 1 4
            have z1 : (bs [47, 42, 47]).size = 3 := rfl
            have hx2 : (bs [47, 42, 47]).extract 1 2 = bs [42] := bs_extract _ 1 2
            have t2 : (bs [42]).toList = [42] := bs_toList _
            obtain ⟨dn, hdn⟩ : ∃ dn, (([] : List UInt8)).length = dn := ⟨_, rfl⟩
            have zd : ((ByteArray.mk #[])).size = dn := hdn
            by_cases h1 : pn ≤ dn
            · have h1i : (pn : Int) ≤ (dn : Int) := by omega
              have HSK : Hid (shT p (L.take (i + 1)) = b) := by
                show _ = _
                exact HNXT.out.trans (stl_out hy1 hy2 hlD (.inl (by rw [hdn, HPN.out]; exact h1)))
              clear hy1 hy2 hlD hdn ha hb
              go_wp2_with fail
              (try clear m1); (try clear m2); (try clear k1); (try clear k2)
              go_roundw
              case rel => exact ⟨i + 1, by go_num, by omega, by rw [HSK.out], HR.out.2⟩
              case measure => simp [intOf]; omega
            · have h1i : ¬ ((pn : Int) ≤ (dn : Int)) := by omega
              have h1j : (dn : Int) ≤ (pn : Int) := by omega
              have h1k : (0 : Int) ≤ (dn : Int) := by omega
              have hxp : (bs p).extract 0 dn = bs (p.take dn) := extract_to p dn
              have tp : (bs (p.take dn)).toList = p.take dn := bs_toList _
              have td : ((ByteArray.mk #[])).toList = ([] : List UInt8) := bs_toList ([] : List UInt8)
              by_cases h2 : p.take dn = ([] : List UInt8)
              · have h2b : (p.take dn == ([] : List UInt8)) = true := by simp [h2]
                have HDO : Hid (shT p (L.take (i + 1)) = if 47 ∈ p.drop dn then false else b) := by
                  show _ = _
                  rw [HNXT.out, stl_in hy1 hy2 hlD (by rw [hdn, HPN.out]; exact h1) (by rw [hdn]; exact h2), HHD.out, if_pos rfl, hdn]
                have HPD := hid_of h2
                clear h2
                clear hy1 hy2 hlD hdn ha hb
                go_wp2_with fail
                (try clear m1); (try clear m2); (try clear k1); (try clear k2)
                go_loopw [11, 12] (fun s11 s12 wr' => ∃ j : Nat, s12 = .int .i64 j ∧ dn ≤ j ∧ j ≤ pn ∧ s11 = .bool (decide (47 ∈ (p.drop dn).take (j - dn))) ∧ wr' = wr) (fun _ s12 _ => pn - (intOf s12).toNat)
                case atStart => exact ⟨dn, rfl, Nat.le_refl _, by omega, by simp, rfl⟩
                case round =>
                  obtain ⟨j, rfl, hj1, hj2, rfl, rfl⟩ := hrel
                  obtain ⟨dp, hdp⟩ : ∃ dp, decide (47 ∈ (p.drop dn).take (j - dn)) = dp := ⟨_, rfl⟩
                  have HDP := hid_of hdp
                  rw [hdp]
                  clear hdp
                  by_cases hjl : j < pn
                  · have j1 : (j : Int) < (pn : Int) := by omega
                    have j2 : (0 : Int) ≤ (j : Int) := by omega
                    have hjp : j < p.length := by rw [HPN.out]; exact hjl
                    have hjs : j < (bs p).size := hjp
                    have HNX := hid_of (deep_next hj1 hjp)
                    rw [HDP.out] at HNX
                    cases dp
                    · obtain ⟨pj, hpj⟩ : ∃ pj, decide (p[j]'hjp = 47) = pj := ⟨_, rfl⟩
                      have e1 : ((((bs p)[j]'hjs).toNat : Int) == 47) = pj := by rw [← hpj, bs_get _ _ _ hjp]; exact u8b _ 47
                      rw [hpj] at HNX
                      clear hpj
                      go_wp2_with fail
                      go_roundw
                      case rel => exact ⟨j + 1, by go_num, by omega, by omega, by rw [HNX.out]; rfl, by first | rfl | trivial⟩
                      case measure => simp [intOf]; omega
                    · go_wp2_with fail
                      go_roundw
                      case rel => exact ⟨j + 1, by go_num, by omega, by omega, by rw [HNX.out]; rfl, by first | rfl | trivial⟩
                      case measure => simp [intOf]; omega
                  · obtain rfl : j = pn := by omega
                    have HDE : Hid (decide (47 ∈ p.drop dn) = dp) := by
                      show _ = _
                      rw [← HDP.out, List.take_of_length_le (by rw [List.length_drop, HPN.out]; exact Nat.le_refl _)]
                    have j1 : ¬ ((j : Int) < (j : Int)) := by omega
                    cases dp
                    · go_wp2_with fail
                      exact ⟨⟨i + 1, by first | rfl | exact congrArg (Value.int .i64) (by omega), by omega, by rw [HDO.out, if_neg (of_decide_eq_false HDE.out)], HR.out.2⟩, by simp [intOf]; omega⟩
                    · go_wp2_with fail
                      exact ⟨⟨i + 1, by first | rfl | exact congrArg (Value.int .i64) (by omega), by omega, by rw [HDO.out, if_pos (of_decide_eq_true HDE.out)], HR.out.2⟩, by simp [intOf]; omega⟩
              · have h2b : (p.take dn == ([] : List UInt8)) = false := by simpa using h2
                have HSK : Hid (shT p (L.take (i + 1)) = b) := by
                  show _ = _
                  exact HNXT.out.trans (stl_out hy1 hy2 hlD (.inr (by rw [hdn]; exact h2)))
                clear h2
                clear hy1 hy2 hlD hdn ha hb
                go_wp2_with fail
                (try clear m1); (try clear m2); (try clear k1); (try clear k2)
                go_roundw
                case rel => exact ⟨i + 1, by go_num, by omega, by rw [HSK.out], HR.out.2⟩
                case measure => simp [intOf]; omega
          | dir d hd =>
            have e0 : ((((bs (dl d))[0]'hs0).toNat : Int) == 33) = false := rfl
            obtain ⟨m, hm⟩ : ∃ m, m + 1 = q := ⟨q - 1, by omega⟩
            have hql : q = d.length + 2 := by rw [← hq]; unfold dl; simp
            have hqb : q ≤ 1000000000 := by omega
            have hdb : d.length ≤ 1000000000 := by omega
            have m3 : (0 : Int) ≤ (m : Int) := by omega
            have m4 : (m : Int) ≤ (q : Int) := by omega
            have m5 : (1 : Int) ≤ (m : Int) := by have := List.length_pos_iff.2 hd; omega
            have hlD := lnD_dl d
            have HHD : Hid ((dl d).head? ≠ some 33) := by show (dl d).head? ≠ some 33; unfold dl; simp
            have hxt : (bs (dl d)).extract 1 m = bs d := by
              rw [bs_extract]
              congr 1
              show (d ++ [47]).take (m - 1) = d
              rw [show m - 1 = d.length by omega]
              exact List.take_left
            have zd0 : (bs d).size = d.length := rfl
            have hcat : bs d ++ ByteArray.mk #[47] = bs (d ++ [47]) := by rw [show ByteArray.mk #[47] = bs [47] from rfl, bs_app]
            generalize hyy : dl d = y at *
            obtain ⟨dn, hdn⟩ : ∃ dn, ((d ++ [47])).length = dn := ⟨_, rfl⟩
            have zd : ((bs (d ++ [47]))).size = dn := hdn
            by_cases h1 : pn ≤ dn
            · have h1i : (pn : Int) ≤ (dn : Int) := by omega
              have HSK : Hid (shT p (L.take (i + 1)) = b) := by
                show _ = _
                exact HNXT.out.trans (stl_out hy1 hy2 hlD (.inl (by rw [hdn, HPN.out]; exact h1)))
              obtain ⟨m1, m2, -, -⟩ := wr_1 q m hqb hm
              clear hy1 hy2 hlD hdn ha hb hq hql hm hyy
              go_wp2_with fail
              (try clear m1); (try clear m2); (try clear k1); (try clear k2)
              go_roundw
              case rel => exact ⟨i + 1, by go_num, by omega, by rw [HSK.out], HR.out.2⟩
              case measure => simp [intOf]; omega
            · have h1i : ¬ ((pn : Int) ≤ (dn : Int)) := by omega
              have h1j : (dn : Int) ≤ (pn : Int) := by omega
              have h1k : (0 : Int) ≤ (dn : Int) := by omega
              have hxp : (bs p).extract 0 dn = bs (p.take dn) := extract_to p dn
              have tp : (bs (p.take dn)).toList = p.take dn := bs_toList _
              have td : ((bs (d ++ [47]))).toList = (d ++ [47]) := bs_toList _
              by_cases h2 : p.take dn = (d ++ [47])
              · have h2b : (p.take dn == (d ++ [47])) = true := by simp [h2]
                have HDO : Hid (shT p (L.take (i + 1)) = true) := by
                  show _ = _
                  rw [HNXT.out, stl_in hy1 hy2 hlD (by rw [hdn, HPN.out]; exact h1) (by rw [hdn]; exact h2), if_neg HHD.out]
                have HPD := hid_of h2
                clear h2
                obtain ⟨m1, m2, -, -⟩ := wr_1 q m hqb hm
                clear hy1 hy2 hlD hdn ha hb hq hql hm hyy
                go_wp2_with fail
                (try clear m1); (try clear m2); (try clear k1); (try clear k2)
                go_loopw [11, 12] (fun s11 s12 wr' => ∃ j : Nat, s12 = .int .i64 j ∧ dn ≤ j ∧ j ≤ pn ∧ s11 = .bool (decide (47 ∈ (p.drop dn).take (j - dn))) ∧ wr' = wr) (fun _ s12 _ => pn - (intOf s12).toNat)
                case atStart => exact ⟨dn, rfl, Nat.le_refl _, by omega, by simp, rfl⟩
                case round =>
                  obtain ⟨j, rfl, hj1, hj2, rfl, rfl⟩ := hrel
                  obtain ⟨dp, hdp⟩ : ∃ dp, decide (47 ∈ (p.drop dn).take (j - dn)) = dp := ⟨_, rfl⟩
                  have HDP := hid_of hdp
                  rw [hdp]
                  clear hdp
                  by_cases hjl : j < pn
                  · have j1 : (j : Int) < (pn : Int) := by omega
                    have j2 : (0 : Int) ≤ (j : Int) := by omega
                    have hjp : j < p.length := by rw [HPN.out]; exact hjl
                    have hjs : j < (bs p).size := hjp
                    have HNX := hid_of (deep_next hj1 hjp)
                    rw [HDP.out] at HNX
                    cases dp
                    · obtain ⟨pj, hpj⟩ : ∃ pj, decide (p[j]'hjp = 47) = pj := ⟨_, rfl⟩
                      have e1 : ((((bs p)[j]'hjs).toNat : Int) == 47) = pj := by rw [← hpj, bs_get _ _ _ hjp]; exact u8b _ 47
                      rw [hpj] at HNX
                      clear hpj
                      go_wp2_with fail
                      go_roundw
                      case rel => exact ⟨j + 1, by go_num, by omega, by omega, by rw [HNX.out]; rfl, by first | rfl | trivial⟩
                      case measure => simp [intOf]; omega
                    · go_wp2_with fail
                      go_roundw
                      case rel => exact ⟨j + 1, by go_num, by omega, by omega, by rw [HNX.out]; rfl, by first | rfl | trivial⟩
                      case measure => simp [intOf]; omega
                  · obtain rfl : j = pn := by omega
                    have HDE : Hid (decide (47 ∈ p.drop dn) = dp) := by
                      show _ = _
                      rw [← HDP.out, List.take_of_length_le (by rw [List.length_drop, HPN.out]; exact Nat.le_refl _)]
                    have j1 : ¬ ((j : Int) < (j : Int)) := by omega
                    go_wp2_with fail
                    exact ⟨⟨i + 1, by first | rfl | exact congrArg (Value.int .i64) (by omega), by omega, by rw [HDO.out], HR.out.2⟩, by simp [intOf]; omega⟩
              · have h2b : (p.take dn == (d ++ [47])) = false := by simpa using h2
                have HSK : Hid (shT p (L.take (i + 1)) = b) := by
                  show _ = _
                  exact HNXT.out.trans (stl_out hy1 hy2 hlD (.inr (by rw [hdn]; exact h2)))
                clear h2
                obtain ⟨m1, m2, -, -⟩ := wr_1 q m hqb hm
                clear hy1 hy2 hlD hdn ha hb hq hql hm hyy
                go_wp2_with fail
                (try clear m1); (try clear m2); (try clear k1); (try clear k2)
                go_roundw
                case rel => exact ⟨i + 1, by go_num, by omega, by rw [HSK.out], HR.out.2⟩
                case measure => simp [intOf]; omega
          | out d hd =>
            have e0 : ((((bs (nl d))[0]'hs0).toNat : Int) == 33) = true := rfl
            have hql : q = d.length + 5 := by rw [← hq]; unfold nl; simp
            have hd1 := List.length_pos_iff.2 hd
            obtain ⟨ll, ee, q1, m, dl0, hx1, z1, hx2, t2, t3, z2, hx3, hq1, hm, m0, zd0, hd5⟩ := nl_facts d hd q hq
            have hqb : q1 ≤ 1000000000 := by omega
            have m3 : (0 : Int) ≤ (m : Int) := by omega
            have m4 : (m : Int) ≤ (q1 : Int) := by omega
            have m5 : (1 : Int) ≤ (m : Int) := by omega
            have m6 : (1 : Int) ≤ (q : Int) := by omega
            have hlD := lnD_nl d
            have HHD : Hid ((nl d).head? = some 33) := by show _ = _; unfold nl; rfl
            have hdb : dl0 + 2 ≤ 1000000000 := by omega
            have k3 : (0 : Int) ≤ (dl0 : Int) := by omega
            have k5 : (dl0 : Int) ≤ ((dl0 + 2 : Nat) : Int) := by omega
            have hcat : bs d ++ ByteArray.mk #[47] = bs (d ++ [47]) := by rw [show ByteArray.mk #[47] = bs [47] from rfl, bs_app]
            generalize hyy : nl d = y at *
            obtain ⟨dn, hdn⟩ : ∃ dn, ((d ++ [47])).length = dn := ⟨_, rfl⟩
            have zd : ((bs (d ++ [47]))).size = dn := hdn
            by_cases h1 : pn ≤ dn
            · have h1i : (pn : Int) ≤ (dn : Int) := by omega
              have HSK : Hid (shT p (L.take (i + 1)) = b) := by
                show _ = _
                exact HNXT.out.trans (stl_out hy1 hy2 hlD (.inl (by rw [hdn, HPN.out]; exact h1)))
              obtain ⟨m1, m2, -, -⟩ := wr_1 q1 m hqb hm
              obtain ⟨k1, k2, -, -⟩ := wr_2 (dl0 + 2) dl0 hdb rfl
              clear hy1 hy2 hlD hdn ha hb hq hql hq1 hm hyy m0 hd1 hd5
              go_wp2_with fail
              (try clear m1); (try clear m2); (try clear k1); (try clear k2)
              go_roundw
              case rel => exact ⟨i + 1, by go_num, by omega, by rw [HSK.out], HR.out.2⟩
              case measure => simp [intOf]; omega
            · have h1i : ¬ ((pn : Int) ≤ (dn : Int)) := by omega
              have h1j : (dn : Int) ≤ (pn : Int) := by omega
              have h1k : (0 : Int) ≤ (dn : Int) := by omega
              have hxp : (bs p).extract 0 dn = bs (p.take dn) := extract_to p dn
              have tp : (bs (p.take dn)).toList = p.take dn := bs_toList _
              have td : ((bs (d ++ [47]))).toList = (d ++ [47]) := bs_toList _
              by_cases h2 : p.take dn = (d ++ [47])
              · have h2b : (p.take dn == (d ++ [47])) = true := by simp [h2]
                have HDO : Hid (shT p (L.take (i + 1)) = if 47 ∈ p.drop dn then false else b) := by
                  show _ = _
                  rw [HNXT.out, stl_in hy1 hy2 hlD (by rw [hdn, HPN.out]; exact h1) (by rw [hdn]; exact h2), HHD.out, if_pos rfl, hdn]
                have HPD := hid_of h2
                clear h2
                obtain ⟨m1, m2, -, -⟩ := wr_1 q1 m hqb hm
                obtain ⟨k1, k2, -, -⟩ := wr_2 (dl0 + 2) dl0 hdb rfl
                clear hy1 hy2 hlD hdn ha hb hq hql hq1 hm hyy m0 hd1 hd5
                go_wp2_with fail
                (try clear m1); (try clear m2); (try clear k1); (try clear k2)
                go_loopw [11, 12] (fun s11 s12 wr' => ∃ j : Nat, s12 = .int .i64 j ∧ dn ≤ j ∧ j ≤ pn ∧ s11 = .bool (decide (47 ∈ (p.drop dn).take (j - dn))) ∧ wr' = wr) (fun _ s12 _ => pn - (intOf s12).toNat)
                case atStart => exact ⟨dn, rfl, Nat.le_refl _, by omega, by simp, rfl⟩
                case round =>
                  obtain ⟨j, rfl, hj1, hj2, rfl, rfl⟩ := hrel
                  obtain ⟨dp, hdp⟩ : ∃ dp, decide (47 ∈ (p.drop dn).take (j - dn)) = dp := ⟨_, rfl⟩
                  have HDP := hid_of hdp
                  rw [hdp]
                  clear hdp
                  by_cases hjl : j < pn
                  · have j1 : (j : Int) < (pn : Int) := by omega
                    have j2 : (0 : Int) ≤ (j : Int) := by omega
                    have hjp : j < p.length := by rw [HPN.out]; exact hjl
                    have hjs : j < (bs p).size := hjp
                    have HNX := hid_of (deep_next hj1 hjp)
                    rw [HDP.out] at HNX
                    cases dp
                    · obtain ⟨pj, hpj⟩ : ∃ pj, decide (p[j]'hjp = 47) = pj := ⟨_, rfl⟩
                      have e1 : ((((bs p)[j]'hjs).toNat : Int) == 47) = pj := by rw [← hpj, bs_get _ _ _ hjp]; exact u8b _ 47
                      rw [hpj] at HNX
                      clear hpj
                      go_wp2_with fail
                      go_roundw
                      case rel => exact ⟨j + 1, by go_num, by omega, by omega, by rw [HNX.out]; rfl, by first | rfl | trivial⟩
                      case measure => simp [intOf]; omega
                    · go_wp2_with fail
                      go_roundw
                      case rel => exact ⟨j + 1, by go_num, by omega, by omega, by rw [HNX.out]; rfl, by first | rfl | trivial⟩
                      case measure => simp [intOf]; omega
                  · obtain rfl : j = pn := by omega
                    have HDE : Hid (decide (47 ∈ p.drop dn) = dp) := by
                      show _ = _
                      rw [← HDP.out, List.take_of_length_le (by rw [List.length_drop, HPN.out]; exact Nat.le_refl _)]
                    have j1 : ¬ ((j : Int) < (j : Int)) := by omega
                    cases dp
                    · go_wp2_with fail
                      exact ⟨⟨i + 1, by first | rfl | exact congrArg (Value.int .i64) (by omega), by omega, by rw [HDO.out, if_neg (of_decide_eq_false HDE.out)], HR.out.2⟩, by simp [intOf]; omega⟩
                    · go_wp2_with fail
                      exact ⟨⟨i + 1, by first | rfl | exact congrArg (Value.int .i64) (by omega), by omega, by rw [HDO.out, if_pos (of_decide_eq_true HDE.out)], HR.out.2⟩, by simp [intOf]; omega⟩
              · have h2b : (p.take dn == (d ++ [47])) = false := by simpa using h2
                have HSK : Hid (shT p (L.take (i + 1)) = b) := by
                  show _ = _
                  exact HNXT.out.trans (stl_out hy1 hy2 hlD (.inr (by rw [hdn]; exact h2)))
                clear h2
                obtain ⟨m1, m2, -, -⟩ := wr_1 q1 m hqb hm
                obtain ⟨k1, k2, -, -⟩ := wr_2 (dl0 + 2) dl0 hdb rfl
                clear hy1 hy2 hlD hdn ha hb hq hql hq1 hm hyy m0 hd1 hd5
                go_wp2_with fail
                (try clear m1); (try clear m2); (try clear k1); (try clear k2)
                go_roundw
                case rel => exact ⟨i + 1, by go_num, by omega, by rw [HSK.out], HR.out.2⟩
                case measure => simp [intOf]; omega
    · obtain rfl : i = n := by omega
      have HE : Hid (shT p L = b) := by
        show _ = _
        rw [← HBV.out, List.take_of_length_le (by rw [HN.out]; exact Nat.le_refl _)]
      have HW : Hid (Below w.heap.size w wr) := by rw [HR.out.2]; exact H1.out.2
      go_wp2_with fail
      go_ret
      exact ⟨by rw [HE.out]; rfl, by first | exact HW.out | exact H1.out.2⟩
end Go.Proofs.YtkopjamednedfaaGreat
