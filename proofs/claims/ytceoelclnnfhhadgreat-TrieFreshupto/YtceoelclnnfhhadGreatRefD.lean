/-
  The document's tree: directories.
-/
import Derived.Test.YtceoelclnnfhhadGreatRefF
namespace Go.Proofs.YtceoelclnnfhhadGreat
open Go.RowKit

theorem rdirs_step {q : Q} {L : List Fl} {k : Nat} (hk : k < L.length) (acc : List (List UInt8)) : rdirs q (L.drop k) acc = rdirs q (L.drop (k + 1)) (if deep q L[k] then (if acc.getLast? = some (hed q.length L[k]) then acc else acc ++ [hed q.length L[k]]) else acc) := by
  rw [List.drop_eq_getElem_cons hk]; rfl
theorem dir_take {p : List UInt8} (hp : okP p = true) {m : Nat} (h1 : 1 ≤ m) (h2 : m ≤ (pcs p).length) : dir (join ((pcs p).take m)) = join ((pcs p).take (m - 1)) := by
  have hpc : pcs (join ((pcs p).take m)) = (pcs p).take m := pcs_part (okP_all hp) (List.take_prefix _ _)
  have hok := okP_part hp (List.take_prefix m (pcs p))
  have hne : join ((pcs p).take m) ≠ [] := by
    intro e
    have := hpc
    rw [e, pcs_nil] at this
    have := congrArg List.length this
    simp at this; omega
  have hd := (dir_pcs (okP_all hok) hne).1
  rw [hpc] at hd
  have : ((pcs p).take m).dropLast = (pcs p).take (m - 1) := by
    rw [List.dropLast_eq_take, List.length_take, List.take_take]
    congr 1; omega
  rw [this] at hd
  rw [← hd, join_pcs]
theorem own_last {base : Nat} {w : World} {a : Option Addr} {n c : Nat} {l : List (List UInt8)} (h : Own base w (.slice a n c) l) (hn : l.length = n) (h0 : 0 < n) : ∃ b y, a = some ⟨b, 0, none⟩ ∧ b < w.heap.size ∧ w.cell? ⟨b, n - 1, none⟩ = some (.string (bs y)) ∧ l.getLast? = some y := by
  subst hn
  have hs := h.bs
  rcases h with ⟨_, ⟨e, h1⟩ | ⟨g, cap, cur, e, _, hg, _⟩⟩
  · injection e with _ e2 _; omega
  · injection e with e1 _ _
    subst e1
    obtain ⟨b, off, ea, hb, hc⟩ := SS.at1 hs rfl (Below.refl _ _) (k := l.length - 1) (by omega)
    injection ea with ea
    injection ea with e3 e4 _
    subst e3 e4
    refine ⟨g, _, rfl, hb, by rw [Nat.zero_add] at hc; exact hc, ?_⟩
    rw [List.getLast?_eq_getElem?, List.getElem?_eq_getElem (by omega)]

set_option maxRecDepth 100000 in
set_option maxHeartbeats 4000000 in
theorem rdirsT_any {w : World} {base t : Nat} {L : List Fl} (h : RT w base t L) (d : List UInt8) (hd : d.length ≤ 4194304) :
    Calls Tryz.prog 9 #[.pointer (some ⟨t, 0, none⟩), .string (bs d)] w fun e w' => ∃ v, e = .returned v ∧ Own w.heap.size w' v (rdirs (pcs d) L []) ∧ Below w.heap.size w w' := by
  have HT : Hid (RT w base t L ∧ d.length ≤ 4194304) := ⟨h, hd⟩
  obtain ⟨a, c, hc⟩ := h.cell
  have hlen := h.good.len
  clear h
  obtain ⟨n, hn⟩ : ∃ n, L.length = n := ⟨_, rfl⟩
  have HN : Hid (L.length = n) := hn
  rw [hn] at hlen
  have H' : Hid (∀ wr, Below w.heap.size w wr → wr.cell? ⟨t, 0, none⟩ = some (.slice a n c) ∧ FS wr (.slice a L.length c) L) := fun wr hb => ⟨by rw [← hn]; exact (hc wr hb).1, (hc wr hb).2.fs⟩
  clear hn hc
  have HI : Hid (∀ W, Below w.heap.size w W → Calls Tryz.prog 25 #[.pointer (some ⟨t, 0, none⟩), .string (bs d)] W fun e w' => e = .returned (.bool (isD L d)) ∧ Below W.heap.size W w') := fun W hW => ris_any (HT.out.1.later hW) d HT.out.2
  cases hi : isD L d
  · rw [rdirs_none HT.out.1.good HT.out.1.srt hi]
    rw [hi] at HI
    clear hi
    go_enter Tryz.func9, Tryz.ntmps9
    go_wp2_with fail
    refine (rsplit_any d _ (by omega)).mono ?_
    rintro e w1 ⟨v1, rfl, ho1, hb1⟩
    obtain ⟨a1, c1, e1, _⟩ := ho1.bs.form
    subst e1
    have HB1 : Hid (Below w.heap.size w w1) := hb1
    generalize (pcs d).length = m1 at ho1 ⊢
    clear ho1 hb1
    by_cases hn0 : 0 < n
    · go_wp2_with fail
      go_loopw [5, 7] (fun u i wr => u = .slice none 0 0 ∧ i = .int .i64 0 ∧ Below w.heap.size w wr) (fun _ _ _ => 0)
      case atStart => exact ⟨rfl, rfl, HB1.out⟩
      case round =>
        obtain ⟨rfl, rfl, hb⟩ := hrel
        have HB : Hid (Below w.heap.size w wr) := hb
        have c0 := (H'.out wr hb).1
        have hn1 : (0 : Int) < (n : Int) := by omega
        clear hb
        go_wp2_with fail
        refine (HI.out _ HB.out).mono ?_
        rintro e w2 ⟨rfl, hb2⟩
        have HB2 : Hid (Below w.heap.size w w2) := bstep HB.out hb2
        clear hb2
        go_wp2_with fail
        go_ret
        exact ⟨_, rfl, Own.nil _ _, HB2.out⟩
    · obtain rfl : n = 0 := by omega
      go_wp2_with fail
      go_loopw [5, 7] (fun u i wr => u = .slice none 0 0 ∧ i = .int .i64 0 ∧ Below w.heap.size w wr) (fun _ _ _ => 0)
      case atStart => exact ⟨rfl, rfl, HB1.out⟩
      case round =>
        obtain ⟨rfl, rfl, hb⟩ := hrel
        have HB2 : Hid (Below w.heap.size w wr) := hb
        have c0 := (H'.out wr hb).1
        clear hb
        go_wp2_with fail
        go_ret
        exact ⟨_, rfl, Own.nil _ _, HB2.out⟩
  · have hq12 : (pcs d).length ≤ 12 := by
      have := (okP_len (isD_ok hi)).2
      rw [← dep_eq] at this; exact this
    rw [hi] at HI
    clear hi
    obtain ⟨R, hR⟩ : ∃ R, rdirs (pcs d) L [] = R := ⟨_, rfl⟩
    have HR : Hid (rdirs (pcs d) (L.drop 0) [] = R) := hR
    rw [hR]
    clear hR
    go_enter Tryz.func9, Tryz.ntmps9
    go_wp2_with fail
    refine (rsplit_any d _ (by omega)).mono ?_
    rintro e w1 ⟨v1, rfl, ho1, hb1⟩
    obtain ⟨a1, c1, e1, _⟩ := ho1.bs.form
    subst e1
    have HB1 : Hid (Below w.heap.size w w1) := hb1
    obtain ⟨q, hq⟩ : ∃ q, (pcs d).length = q := ⟨_, rfl⟩
    have HQ : Hid ((pcs d).length = q) := hq
    rw [hq] at hq12 ⊢
    clear ho1 hb1 hq
    go_wp2_with fail
    go_loopw [5, 7] (fun u i wr => ∃ (k n5 c5 : Nat) (a5 : Option Addr) (acc : List (List UInt8)), k ≤ n ∧ i = .int .i64 k ∧ u = .slice a5 n5 c5 ∧ acc.length = n5 ∧ n5 ≤ k ∧ Own w.heap.size wr (.slice a5 n5 c5) acc ∧ rdirs (pcs d) (L.drop k) acc = R ∧ Below w.heap.size w wr) (fun _ i _ => n - (intOf i).toNat)
    case atStart => exact ⟨0, 0, 0, none, [], by omega, rfl, rfl, rfl, by omega, Own.nil _ _, HR.out, HB1.out⟩
    case round =>
      rename World => w2
      obtain ⟨k, n5, c5, a5, acc, hk, rfl, rfl, hn5, hnk, ho, hr, hb⟩ := hrel
      have HB : Hid (Below w.heap.size w w2 ∧ Own w.heap.size w2 (.slice a5 n5 c5) acc ∧ acc.length = n5 ∧ rdirs (pcs d) (L.drop k) acc = R) := ⟨hb, ho, hn5, hr⟩
      have c0 := (H'.out w2 hb).1
      clear hb ho hn5 hr
      by_cases hlt : k < n
      · have hkl : k < L.length := by have := HN.out; omega
        have k1 : (0 : Int) ≤ (k : Int) := by omega
        have k2 : (k : Int) < (n : Int) := by omega
        go_wp2_with fail
        refine (HI.out _ HB.out.1).mono ?_
        rintro e w3 ⟨rfl, hb3⟩
        have HB3 : Hid (Below w.heap.size w w3 ∧ Below w2.heap.size w2 w3) := ⟨bstep HB.out.1 hb3, hb3⟩
        clear hb3 c0
        have c0 := (H'.out w3 HB3.out.1).1
        obtain ⟨b, off, ea, hbw, d0, d1, d2, d3⟩ := FS.at (H'.out w3 HB3.out.1).2 (Below.refl _ _) hkl
        subst ea
        have hpl := HT.out.1.pathLen hkl
        have HST : Hid (rdirs (pcs d) (L.drop (k + 1)) (if deep (pcs d) L[k] then (if acc.getLast? = some (hed q L[k]) then acc else acc ++ [hed q L[k]]) else acc) = R ∧ okP L[k].path = true) := by
          refine ⟨?_, HT.out.1.good.ok (List.getElem_mem hkl)⟩
          rw [← HQ.out, ← rdirs_step hkl]; exact HB.out.2.2.2
        have hDP : deep (pcs d) L[k] = (abvV d L[k].path && decide (q + 2 ≤ (pcs L[k].path).length)) := by unfold deep; rw [abv_pre, HQ.out]; rfl
        have hHD : hed q L[k] = join ((pcs L[k].path).take (q + 1)) := rfl
        rw [hDP, hHD] at HST
        obtain ⟨p, hp⟩ : ∃ p, L[k].path = p := ⟨_, rfl⟩
        rw [hp] at d0 hpl HST
        clear hDP hHD hp d1 d2 d3 hkl
        go_wp2_with fail
        refine (rsplit_any p _ (by omega)).mono ?_
        rintro e w4 ⟨v4, rfl, ho4, hb4⟩
        obtain ⟨a4, c4, e4, _⟩ := ho4.bs.form
        subst e4
        have HB4 : Hid (Below w.heap.size w w4 ∧ Below w2.heap.size w2 w4) := ⟨bstep HB3.out.1 hb4, bstep HB3.out.2 hb4⟩
        obtain ⟨np, hnp⟩ : ∃ np, (pcs p).length = np := ⟨_, rfl⟩
        have HNP : Hid ((pcs p).length = np) := hnp
        have hnp12 : np ≤ 12 := by
          have := (okP_len HST.out.2).2
          rw [← dep_eq, hnp] at this; exact this
        rw [hnp] at HST ⊢
        clear ho4 hb4 hnp d0 c0
        go_wp2_with fail
        refine (rabv_any d p _ (by omega) (by omega)).mono ?_
        rintro e w5 ⟨rfl, hb5⟩
        have HB5 : Hid (Below w.heap.size w w5 ∧ Below w2.heap.size w2 w5) := ⟨bstep HB4.out.1 hb5, bstep HB4.out.2 hb5⟩
        clear hb5
        cases ha : abvV d p
        · rw [ha] at HST
          clear ha
          go_wp2_with fail
          go_roundw
          case rel => exact ⟨k + 1, n5, c5, a5, acc, by omega, by go_num, rfl, HB.out.2.2.1, by omega, HB.out.2.1.later HB5.out.2, by have e := HST.out.1; simp at e; exact e, HB5.out.1⟩
          case measure => simp [intOf]; omega
        · rw [ha] at HST
          clear ha
          by_cases hdp : q + 2 ≤ np
          · have hdd : decide (q + 2 ≤ np) = true := decide_eq_true hdp
            rw [hdd] at HST
            have hx : ¬ (np : Int) < (q : Int) + 2 := by omega
            have HHD : Hid (rdirs (pcs d) (L.drop (k + 1)) (if acc.getLast? = some (join ((pcs p).take (q + 1))) then acc else acc ++ [join ((pcs p).take (q + 1))]) = R) := by
              have e := HST.out.1
              simp only [Bool.and_self, if_true] at e
              exact e
            clear hdd
            go_wp2_with fail
            go_loopw [8] (fun u wr => ∃ m : Nat, q + 1 ≤ m ∧ m ≤ np ∧ u = .string (bs (join ((pcs p).take m))) ∧ Below w.heap.size w wr ∧ Below w2.heap.size w2 wr) (fun u _ => match u with | .string s => s.size | _ => 0)
            case atStart =>
              refine ⟨np, by omega, by omega, ?_, HB5.out⟩
              rw [List.take_of_length_le (by have := HNP.out; omega), join_pcs]
            case round =>
              rename World => w6
              obtain ⟨m, hm1, hm2, rfl, hb6, hb7⟩ := hrel
              have HB6 : Hid (Below w.heap.size w w6 ∧ Below w2.heap.size w2 w6) := ⟨hb6, hb7⟩
              clear hb6 hb7
              have hjl : (join ((pcs p).take m)).length ≤ 120 := (okP_len (okP_part HST.out.2 (List.take_prefix m (pcs p)))).1
              have HJ : Hid ((pcs (join ((pcs p).take m))).length = m ∧ (q + 1 < m → dir (join ((pcs p).take m)) = join ((pcs p).take (m - 1))) ∧ (q + 1 < m → (join ((pcs p).take (m - 1))).length < (join ((pcs p).take m)).length)) := by
                refine ⟨by rw [pcs_part (okP_all HST.out.2) (List.take_prefix _ _), List.length_take]; have := HNP.out; omega, fun _ => dir_take HST.out.2 (by omega) (by have := HNP.out; omega), fun hqm => ?_⟩
                have hmm : m - 1 < (pcs p).length := by have := HNP.out; omega
                have e := List.take_append_getElem hmm
                rw [show m - 1 + 1 = m by omega] at e
                rw [← e, join_last _ _ (by intro e2; have e3 := congrArg List.length e2; rw [List.length_take, List.length_nil] at e3; omega)]
                simp
              go_wp2_with fail
              refine (rsplit_any (join ((pcs p).take m)) _ (by omega)).mono ?_
              rintro e w7 ⟨v7, rfl, ho7, hb7⟩
              obtain ⟨a7, c7, e7, _⟩ := ho7.bs.form
              subst e7
              have HB7 : Hid (Below w.heap.size w w7 ∧ Below w2.heap.size w2 w7) := ⟨bstep HB6.out.1 hb7, bstep HB6.out.2 hb7⟩
              rw [HJ.out.1]
              clear ho7 hb7
              by_cases hmq : q + 1 < m
              · have hx2 : (q : Int) + 1 < (m : Int) := by omega
                go_wp2_with fail
                refine (rdir_any (join ((pcs p).take m)) _ (by omega)).mono ?_
                rintro e w8 ⟨rfl, hw8⟩
                subst hw8
                rw [HJ.out.2.1 hmq]
                go_wp2_with fail
                go_roundw
                case rel => exact ⟨m - 1, by omega, by omega, rfl, HB7.out⟩
                case measure => exact HJ.out.2.2 hmq
              · obtain rfl : m = q + 1 := by omega
                have hx2 : ¬ (q : Int) + 1 < ((q + 1 : Nat) : Int) := by omega
                have HBO : Hid (Own w.heap.size w7 (.slice a5 n5 c5) acc) := HB.out.2.1.later HB7.out.2
                obtain ⟨x, hx3⟩ : ∃ x, join ((pcs p).take (q + 1)) = x := ⟨_, rfl⟩
                rw [hx3] at HHD hjl ⊢
                clear HJ hx3
                by_cases h0 : n5 = 0
                · subst h0
                  have hacc : acc = [] := List.eq_nil_of_length_eq_zero HB.out.2.2.1
                  have HHD2 : Hid (rdirs (pcs d) (L.drop (k + 1)) (acc ++ [x]) = R) := by
                    have e := HHD.out
                    show _ = _
                    rw [hacc] at e ⊢
                    simpa using e
                  clear hacc
                  go_wp2_with (first | (at_builtin; refine app_one x HBO.out (by have := HB.out.2.2.1; omega) HB7.out.1.size rfl (.tmp 69) (.tmp 71) rfl rfl rfl ?_; intro v9 w9 ho9 hb9 hz9 hg9 hv9; have H9 : Hid (Own w.heap.size w9 v9 (acc ++ [x]) ∧ Below w.heap.size w w9) := ⟨ho9, below_trans HB7.out.1 hb9⟩; obtain ⟨a9, c9, e9, _⟩ := ho9.bs.form; subst e9; clear ho9 hb9 hz9 hg9 hv9))
                  go_roundw
                  case rel => exact ⟨k + 1, (acc ++ [x]).length, c9, a9, acc ++ [x], by omega, by go_num, by simp, rfl, by have := HB.out.2.2.1; simp; omega, H9.out.1, HHD2.out, H9.out.2⟩
                  case measure => simp [intOf]; omega
                · obtain ⟨b9, y, ea9, hb9, hc9, hly⟩ := own_last HBO.out HB.out.2.2.1 (by omega)
                  subst ea9
                  have h0b : ((n5 : Int) == 0) = false := by rw [beq_eq_false_iff_ne]; omega
                  have i1 : IntKind.i64.wrap ((n5 : Int) - 1) = ((n5 - 1 : Nat) : Int) := by rw [IntKind.wrap_i64]; omega
                  have i2 : (n5 : Int) - 1 = ((n5 - 1 : Nat) : Int) := by omega
                  obtain ⟨n4, hn4⟩ : ∃ n4, n5 = n4 + 1 := ⟨n5 - 1, by omega⟩
                  subst hn4
                  have hc8 : w7.cell? ⟨b9, n4, none⟩ = some (.string (bs y)) := by simpa using hc9
                  clear hc9 i1 i2
                  have j1 : (0 : Int) ≤ (n4 : Int) := by omega
                  have j2 : (n4 : Int) < (n4 : Int) + 1 := by omega
                  have t1 := bs_toList y
                  have t2 := bs_toList x
                  have HLY : Hid (acc.getLast? = some y) := hly
                  clear hly h0
                  by_cases hyx : y = x
                  · have hyb : (y == x) = true := by simpa using hyx
                    have HHD2 : Hid (rdirs (pcs d) (L.drop (k + 1)) acc = R) := by
                      have e := HHD.out
                      rw [HLY.out, hyx, if_pos rfl] at e; exact e
                    clear hyx
                    go_wp2_with fail
                    go_roundw
                    case rel => exact ⟨k + 1, n4 + 1, c5, _, acc, by omega, by go_num, by simp, HB.out.2.2.1, by omega, HBO.out, HHD2.out, HB7.out.1⟩
                    case measure => simp [intOf]; omega
                  · have hyb : (y == x) = false := by simpa using hyx
                    have HHD2 : Hid (rdirs (pcs d) (L.drop (k + 1)) (acc ++ [x]) = R) := by
                      have e := HHD.out
                      rw [HLY.out, if_neg (fun e => hyx (Option.some.inj e))] at e; exact e
                    clear hyx
                    go_wp2_with (first | (at_builtin; refine app_one x HBO.out (by have := HB.out.2.2.1; omega) HB7.out.1.size rfl (.tmp 69) (.tmp 71) rfl rfl rfl ?_; intro v9 w9 ho9 hb9 hz9 hg9 hv9; have H9 : Hid (Own w.heap.size w9 v9 (acc ++ [x]) ∧ Below w.heap.size w w9) := ⟨ho9, below_trans HB7.out.1 hb9⟩; obtain ⟨a9, c9, e9, _⟩ := ho9.bs.form; subst e9; clear ho9 hb9 hz9 hg9 hv9))
                    go_roundw
                    case rel => exact ⟨k + 1, (acc ++ [x]).length, c9, a9, acc ++ [x], by omega, by go_num, by simp, rfl, by have := HB.out.2.2.1; simp; omega, H9.out.1, HHD2.out, H9.out.2⟩
                    case measure => simp [intOf]; omega
          · have hdd : decide (q + 2 ≤ np) = false := decide_eq_false hdp
            rw [hdd] at HST
            have hx : (np : Int) < (q : Int) + 2 := by omega
            clear hdd
            go_wp2_with fail
            go_roundw
            case rel => exact ⟨k + 1, n5, c5, a5, acc, by omega, by go_num, rfl, HB.out.2.2.1, by omega, HB.out.2.1.later HB5.out.2, by have e := HST.out.1; simp at e; exact e, HB5.out.1⟩
            case measure => simp [intOf]; omega
      · obtain rfl : n = k := by omega
        have HE : Hid (acc = R) := by
          have e := HB.out.2.2.2
          rw [List.drop_eq_nil_of_le (by have := HN.out; omega)] at e
          exact e
        go_wp2_with fail
        go_ret
        exact ⟨_, rfl, by rw [← HE.out]; exact HB.out.2.1, HB.out.1⟩
end Go.Proofs.YtceoelclnnfhhadGreat
