/-
  Targets as a text.
-/
import Derived.Test.YtemoplpfndnklaaGreatDoorJEqf
import Derived.Shelf.Strings.BuilderK
namespace Go.Proofs.YtemoplpfndnklaaGreatDoor
open Go.RowKit

theorem IsBuilderF_later {T e : TypeId} {B b : Nat} {l : List Value} {w w' : World} (h : Lib.IsBuilderF T e B b l w) (hb : Below w.heap.size w w') : Lib.IsBuilderF T e B b l w' := by
  have one : ∀ p, Lib.BuilderAtF T e B b p l w → Lib.BuilderAtF T e B b p l w' := by
    rintro p ⟨h1, v, h2, h3, h4⟩
    refine ⟨h1, v, (hb.block b (Array.getElem?_eq_some_iff.1 h2).1).trans h2, ?_, h4⟩
    rcases h3 with ⟨h0, h | ⟨g, cap, cur, f, rfl, hbb, hg, hr⟩⟩
    · exact ⟨h0, .inl h⟩
    · exact ⟨h0, .inr ⟨g, cap, cur, f, rfl, hbb, (hb.block g (Array.getElem?_eq_some_iff.1 hg).1).trans hg, hr⟩⟩
  rcases h with h | h
  · exact .inl (one _ h)
  · exact .inr (one _ h)
theorem TB.kept {w w' : World} {g b : Nat} {t : Tv} (h : TB w g t) (hk : Lib.OthersKept 5 (some b) w w') (hne : g ≠ b) : TB w' g t :=
  ⟨hk g _ h.blk (by simpa using hne) (by intro c fz e; cases e)⟩
/-- WriteString, all else kept -/
theorem writeK {w : World} {B b : Nat} {l : List UInt8} (s : List UInt8) (h : Lib.IsBuilderF 89 5 B b (Lib.byteCells l) w) (hl : l.length + s.length ≤ 8796093022208) (hB : B ≤ w.heap.size) :
    Calls Tryz.prog 42 #[.pointer (some ⟨b, 0, none⟩), .string (bs s)] w fun e w' => ∃ v, e = .returned v ∧ Lib.IsBuilderF 89 5 B b (Lib.byteCells (l ++ s)) w' ∧ Below B w w' ∧ Lib.OthersKept 5 (some b) w w' := by
  have hz : (bs s).size = s.length := rfl
  have hS := Any.Builder_WriteString_k (ρ := Tryz.lays156_ren) { Tryz.lays156 with } Tryz.Builder_Extra_156 B b (Lib.byteCells l) (bs s) w h (by rw [Lib.byteCells_length]; omega) hB
  change Calls Tryz.prog 42 _ _ _ at hS
  refine hS.mono ?_
  rintro e w' ⟨rfl, hk, hb, ho⟩
  refine ⟨_, rfl, .inr ?_, hb, ho⟩
  have e1 : Lib.byteCells (l ++ s) = Lib.byteCells l ++ Lib.strCells (bs s) := by simp [Lib.byteCells, Lib.strCells, bs]
  rw [e1]; exact hk
theorem stringF {w : World} {B b : Nat} {l : List UInt8} (h : Lib.IsBuilderF 89 5 B b (Lib.byteCells l) w) (hB : B ≤ w.heap.size) :
    Calls Tryz.prog 45 #[.pointer (some ⟨b, 0, none⟩)] w fun e w' => e = .returned (.string (bs l)) ∧ Below B w w' := by
  have hS := Any.Builder_String_any_f Tryz.lays169 Tryz.Builder_Extra_169 B b l w h hB
  change Calls Tryz.prog 45 _ _ _ at hS
  exact hS.mono fun e w' h => ⟨h.1, h.2.2⟩

theorem fld_eq {wd : List UInt8} {L : List (List UInt8)} (h : L ≠ []) : fld wd L = [32, 32] ++ wd ++ [32, 61, 32, 91] ++ jnw L ++ [93, 10] := by
  unfold fld
  rw [if_neg (by simpa using h)]
set_option maxHeartbeats 1000000 in
theorem field_any {w : World} {v : Value} {L : List (List UInt8)} (wd : List UInt8) (h : SS w v L) (hw : wd.length ≤ 100) (hL : L.length ≤ 4194304) (hj : (jnw L).length ≤ 900000000) :
    Calls Tryz.prog 43 #[.string (bs wd), v] w fun e w' => e = .returned (.string (bs (fld wd L))) ∧ Below w.heap.size w w' := by
  have HJ : Hid (Calls Tryz.prog 73 #[v, .string (bs [44, 32])] w fun e w' => e = .returned (.string (bs (jnw L))) ∧ Below w.heap.size w w') := sjoin_any h hL (by omega)
  obtain ⟨a, c, rfl, _⟩ := h.form
  clear h
  by_cases h0 : L = []
  · subst h0
    have e1 : fld wd [] = [] := by simp [fld]
    rw [e1]
    clear HJ e1
    go_enter Tryz.func43, Tryz.ntmps43
    go_wp2_with fail
    go_ret
    exact ⟨rfl, Below.refl _ _⟩
  · have hne : L.length ≠ 0 := fun e => h0 (List.eq_nil_of_length_eq_zero e)
    obtain ⟨n, hn⟩ : ∃ n, L.length = n := ⟨_, rfl⟩
    have HE : Hid (bs (fld wd L) = ((((ByteArray.mk #[32, 32] ++ bs wd) ++ ByteArray.mk #[32, 61, 32, 91]) ++ bs (jnw L)) ++ ByteArray.mk #[93, 10])) := by
      show bs (fld wd L) = ((((bs [32, 32] ++ bs wd) ++ bs [32, 61, 32, 91]) ++ bs (jnw L)) ++ bs [93, 10])
      rw [fld_eq h0, bs_app, bs_app, bs_app, bs_app]
    obtain ⟨T, hT⟩ : ∃ T, bs (fld wd L) = T := ⟨_, rfl⟩
    rw [hT] at HE ⊢
    rw [hn] at HJ hne ⊢
    obtain ⟨J, hJ⟩ : ∃ J, jnw L = J := ⟨_, rfl⟩
    rw [hJ] at HJ HE hj
    have z1 : (bs wd).size = wd.length := rfl
    have z2 : (bs J).size = J.length := rfl
    have n1 : ((n : Int) == 0) = false := by rw [beq_eq_false_iff_ne]; omega
    have n2 : ¬ ((n : Int) = 0) := by omega
    have n3 : (n == 0) = false := by simpa using hne
    clear hT hJ hn h0 hL
    go_enter Tryz.func43, Tryz.ntmps43
    go_wp2_with fail
    refine HJ.out.mono ?_
    rintro e w1 ⟨rfl, hb⟩
    have HB : Hid (Below w.heap.size w w1) := hb
    clear hb
    go_wp2_with fail
    go_ret
    exact ⟨by rw [HE.out]; rfl, HB.out⟩

set_option maxHeartbeats 2000000 in
theorem labels_any {w : World} {v : Value} {L : List Lb} (h : LS w v L) (hL : L.length ≤ 4194304) (hm : ∀ x ∈ L, Lm x) :
    Calls Tryz.prog 44 #[v] w fun e w' => ∃ u, e = .returned u ∧ Own w.heap.size w' u (L.map prt) ∧ Below w.heap.size w w' := by
  obtain ⟨a, c, rfl, _⟩ := h.form
  have HL : Hid (LS w (.slice a L.length c) L) := h
  have HM : Hid (∀ x ∈ L, Lm x) := hm
  obtain ⟨n, hn⟩ : ∃ n, L.length = n := ⟨_, rfl⟩
  have HN : Hid (L.length = n) := hn
  rw [hn] at HL hL ⊢
  clear h hm hn
  go_enter Tryz.func44, Tryz.ntmps44
  go_wp2_with fail
  go_loopw [3, 8] (fun u i wr => ∃ k : Nat, k ≤ n ∧ i = .int .i64 k ∧ Own w.heap.size wr u ((L.take k).map prt) ∧ Below w.heap.size w wr) (fun _ i _ => n - (intOf i).toNat)
  case atStart => exact ⟨0, Nat.zero_le _, rfl, Own.nil _ _, Below.refl _ _⟩
  case round =>
    obtain ⟨k, hk, rfl, hO, hb⟩ := hrel
    have HO : Hid (Own w.heap.size wr u3 ((L.take k).map prt) ∧ Below w.heap.size w wr) := ⟨hO, hb⟩
    have hsr := hb.size
    clear hO hb
    by_cases hlt : k < n
    · have hkL : k < L.length := by have := HN.out; omega
      obtain ⟨b, off, rfl, hbl, c0, c1⟩ := HL.out.at HO.out.2 hkL
      have i1 : (0 : Int) ≤ (k : Int) := by omega
      have i2 : (k : Int) < (n : Int) := by omega
      have HP : Hid (∀ W : World, Calls Tryz.prog 74 #[L[k].val] W fun e w' => e = .returned (.string (bs (prt L[k]))) ∧ Below W.heap.size W w') := fun W => lprint_any L[k] W (HM.out _ (List.getElem_mem hkL))
      have HT : Hid ((L.take (k + 1)).map prt = (L.take k).map prt ++ [prt L[k]]) := by
        show (L.take (k + 1)).map prt = _
        rw [List.take_succ_eq_append_getElem hkL, List.map_append]; rfl
      have HLn : Hid (((L.take k).map prt).length ≤ 4194304) := by show ((L.take k).map prt).length ≤ 4194304; simp; omega
      unfold Lb.val at HP
      generalize prt L[k] = T at *
      generalize L[k] = lk at *
      obtain ⟨av, cv, hv⟩ := HO.out.1.frm
      obtain ⟨nv, hnv⟩ : ∃ nv, ((L.take k).map prt).length = nv := ⟨_, rfl⟩
      rw [hnv] at hv
      subst hv
      clear hnv
      go_wp2_with fail
      refine (HP.out _).mono ?_
      rintro e w1 ⟨rfl, hb1⟩
      have HO1 : Hid (Own w.heap.size w1 (.slice av nv cv) ((L.take k).map prt) ∧ Below w.heap.size w w1) := ⟨(HO.out.1.later (balloc _ _)).later hb1, bstep (bstep HO.out.2 (balloc _ _)) hb1⟩
      have hs1 : w.heap.size ≤ w1.heap.size := HO1.out.2.size
      clear hb1
      go_wp2_with (first
        | (at_builtin; refine app_S T HO1.out.1 (by have := HLn.out; omega) (by omega) rfl (.tmp 12) (.tmp 15) rfl rfl rfl ?_; intro v9 w9 hO9 hB9 hN9 hs9 hw9; have O9 : Hid (Own w.heap.size w9 v9 ((L.take k).map prt ++ [T]) ∧ Below w.heap.size w w9) := ⟨hO9, below_trans HO1.out.2 hB9⟩; clear hO9 hB9 hN9 hw9))
      go_roundw
      case rel => exact ⟨k + 1, hlt, rfl, by rw [HT.out]; exact O9.out.1, O9.out.2⟩
      case measure => simp only [intOf]; omega
    · obtain rfl : k = n := by omega
      have HT : Hid ((L.take k).map prt = L.map prt) := by show (L.take k).map prt = _; rw [← HN.out, List.take_length]
      go_wp2_with fail
      go_ret
      exact ⟨_, rfl, by rw [← HT.out]; exact HO.out.1, HO.out.2⟩

def one (t : Tg) : List UInt8 := (wTarget ++ [32] ++ t.name ++ [32, 123, 10]) ++ fld wSrcs t.srcs ++ fld wDeps (t.deps.map prt) ++ fld wSee t.see ++ [125, 10]
theorem wrt_cons (t : Tg) (r : List Tg) : wrt (t :: r) = one t ++ wrt r := by
  simp [wrt, one]
theorem wrt_app : ∀ (a b : List Tg), wrt (a ++ b) = wrt a ++ wrt b
  | [], b => rfl
  | t :: r, b => by rw [List.cons_append, wrt_cons, wrt_cons, wrt_app r b, List.append_assoc]
theorem wrt_one (t : Tg) : wrt [t] = one t := by rw [wrt_cons]; simp [wrt]
/-- targets that a machine writes -/
structure Wm (l : List Tg) : Prop where
  len : l.length ≤ 1000000000
  all : (wrt l).length ≤ 800000000
  each : ∀ t ∈ l, t.srcs.length ≤ 4194304 ∧ t.deps.length ≤ 4194304 ∧ t.see.length ≤ 4194304 ∧ (∀ x ∈ t.deps, Lm x)
theorem jnw_fld (wd : List UInt8) (L : List (List UInt8)) : (jnw L).length ≤ (fld wd L).length := by
  by_cases h : L = []
  · subst h; simp [jnw]
  · rw [fld_eq h]; simp; omega
theorem one_len (t : Tg) : (fld wSrcs t.srcs).length + (fld wDeps (t.deps.map prt)).length + (fld wSee t.see).length + t.name.length + 12 = (one t).length := by
  unfold one wTarget; simp; omega
theorem wrt_take {l : List Tg} {k : Nat} (hk : k < l.length) : wrt (l.take (k + 1)) = wrt (l.take k) ++ one l[k] := by
  rw [List.take_succ_eq_append_getElem hk, wrt_app, wrt_one]
theorem wrt_take_le (l : List Tg) (k : Nat) : (wrt (l.take k)).length ≤ (wrt l).length := by
  have : wrt l = wrt (l.take k) ++ wrt (l.drop k) := by rw [← wrt_app, List.take_append_drop]
  rw [this]; simp
set_option maxRecDepth 100000 in
set_option maxHeartbeats 8000000 in
theorem mwrite_any {w : World} {v : Value} {l : List Tg} (h : GR w v l) (hm : Wm l) :
    Calls Tryz.prog 24 #[v] w fun e w' => e = .returned (.string (bs (wrt l))) ∧ Below w.heap.size w w' := by
  obtain ⟨a, hg, hr⟩ := h.it
  obtain ⟨va, vc, rfl, _⟩ := hg.form
  obtain ⟨n, hn⟩ : ∃ n, a.length = n := ⟨_, rfl⟩
  rw [hn] at hg ⊢
  have HG : Hid (GS w (.slice va n vc) a ∧ TsRead w a l ∧ Wm l) := ⟨hg, hr, hm⟩
  have HN : Hid (a.length = n ∧ l.length = n) := ⟨hn, by rw [← hr.len, hn]⟩
  have hnl : n ≤ 1000000000 := by rw [← hn, hr.len]; exact hm.len
  have HWL : Hid ((wrt l).length ≤ 800000000) := hm.all
  obtain ⟨G, hG⟩ : ∃ G, w.heap.size = G := ⟨_, rfl⟩
  obtain ⟨w0, hw0⟩ : ∃ w0, w.alloc (.cells #[.pointer none, .slice none 0 0] 89) = w0 := ⟨_, rfl⟩
  have I0 : Hid (Lib.IsBuilderF 89 5 G G (Lib.byteCells []) w0 ∧ Below G w w0) := by
    refine ⟨?_, ?_⟩
    · rw [← hw0, ← hG]; exact Lib.IsBuilderF.of (Lib.fresh_isBuilder 89 5 w)
    · rw [← hw0, ← hG]; exact balloc _ _
  have HW0 : Hid (w.alloc (.cells #[.pointer none, .slice none 0 0] 89) = w0 ∧ w.heap.size = G) := ⟨hw0, hG⟩
  have hs0 : G + 1 = w0.heap.size := by rw [← hw0, ← hG]; simp
  clear h hm hg hr hn hw0 hG
  go_enter Tryz.func24, Tryz.ntmps24
  go_wp2_with fail
  rw [HW0.out.1, HW0.out.2]
  go_loopw [8] (fun i wr => ∃ k : Nat, k ≤ n ∧ i = .int .i64 k ∧ Lib.IsBuilderF 89 5 G G (Lib.byteCells (wrt (l.take k))) wr ∧ Below G w wr ∧ G < wr.heap.size) (fun i _ => n - (intOf i).toNat)
  case atStart => exact ⟨0, Nat.zero_le _, rfl, I0.out.1, I0.out.2, by omega⟩
  case round =>
    obtain ⟨k, hk, rfl, hI, hb, hGr⟩ := hrel
    have HI : Hid (Lib.IsBuilderF 89 5 G G (Lib.byteCells (wrt (l.take k))) wr ∧ Below G w wr) := ⟨hI, hb⟩
    have hGw : w.heap.size = G := HW0.out.2
    have HGW : Hid (w.heap.size = G) := hGw
    have hbw : Below w.heap.size w wr := by rw [hGw]; exact hb
    clear I0 hI hb hGw
    by_cases hlt : k < n
    rotate_left
    · obtain rfl : k = n := by omega
      have HT : Hid (wrt (l.take k) = wrt l) := by show wrt (l.take k) = wrt l; rw [← HN.out.2, List.take_length]
      clear hbw
      go_wp2_with fail
      refine (stringF HI.out.1 (by omega)).mono ?_
      rintro e w1 ⟨rfl, hb1⟩
      have HB1 : Hid (Below w.heap.size w w1) := by show Below w.heap.size w w1; rw [HGW.out]; exact below_trans HI.out.2 hb1
      rw [HT.out]
      clear hb1
      go_wp2_with fail
      go_ret
      exact ⟨rfl, HB1.out⟩
    have ka : k < a.length := by have := HN.out; omega
    have kl : k < l.length := by have := HN.out; omega
    obtain ⟨b1, o1, rfl, h1, x0, x1, x2, x3⟩ := HG.out.1.at hbw ka
    have hTw := HG.out.2.1.get k ka kl
    have hT := hTw.later hbw
    have hE := HG.out.2.2.each _ (List.getElem_mem kl)
    have HWk : Hid (wrt (l.take (k + 1)) = wrt (l.take k) ++ one l[k] ∧ (wrt (l.take (k + 1))).length ≤ 800000000) := ⟨wrt_take kl, Nat.le_trans (wrt_take_le l (k + 1)) HWL.out⟩
    have i1 : (0 : Int) ≤ (k : Int) := by omega
    have i2 : (k : Int) < (n : Int) := by omega
    obtain ⟨P, hP⟩ : ∃ P, wrt (l.take k) = P := ⟨_, rfl⟩
    rw [hP] at HI HWk
    generalize l[k] = t at *
    generalize a[k] = tv at *
    have HTW : Hid (TRead w tv t) := hTw
    clear hTw
    obtain ⟨p1, hp1⟩ : ∃ p1, p1 = wTarget ++ [32] ++ t.name ++ [32, 123, 10] := ⟨_, rfl⟩
    have hol := one_len t
    have hlen : P.length + (one t).length ≤ 800000000 := by have := HWk.out.2; rw [HWk.out.1, List.length_append] at this; exact this
    have j1 := jnw_fld wSrcs t.srcs
    have j2 := jnw_fld wDeps (t.deps.map prt)
    have j3 := jnw_fld wSee t.see
    obtain ⟨gt, hgt⟩ : ∃ gt, wr.heap.size = gt := ⟨_, rfl⟩
    obtain ⟨wa, hwa⟩ : ∃ wa, wr.alloc tv.obj = wa := ⟨_, rfl⟩
    have hba : Below wr.heap.size wr wa := by rw [← hwa]; exact balloc _ _
    have hsa : gt + 1 = wa.heap.size := by rw [← hwa, ← hgt]; simp
    have hgs : wr.heap.size ≤ gt := by omega
    have Ta : Hid (TB wa gt tv) := by show TB wa gt tv; rw [← hwa, ← hgt]; exact TB.new wr tv
    have Ia : Hid (Lib.IsBuilderF 89 5 G G (Lib.byteCells P) wa ∧ Below G w wa ∧ TRead wa tv t) := ⟨IsBuilderF_later HI.out.1 hba, below_trans HI.out.2 (below_mono hba (by omega)), hT.later hba⟩
    have HWa : Hid (wr.alloc tv.obj = wa ∧ wr.heap.size = gt) := ⟨hwa, hgt⟩
    have hgG : gt ≠ G := by omega
    have nm := hT.name
    unfold Tv.obj at HWa
    have HX : Hid (t.srcs.length ≤ 4194304 ∧ t.deps.length ≤ 4194304 ∧ t.see.length ≤ 4194304 ∧ (∀ x ∈ t.deps, Lm x)) := hE
    have HTR : Hid (∀ W : World, Below G w W → TRead W tv t) := fun W hW => HTW.out.later (by rw [HGW.out]; exact hW)
    have nmt : tv.name = t.name := hT.name
    have HE1 : Hid (ByteArray.mk #[116, 97, 114, 103, 101, 116, 32] ++ bs tv.name ++ ByteArray.mk #[32, 123, 10] = bs p1) := by
      show bs [116, 97, 114, 103, 101, 116, 32] ++ bs tv.name ++ bs [32, 123, 10] = bs p1
      rw [bs_app, bs_app, hp1, nmt]; simp [wTarget]
    have HO : Hid (one t = p1 ++ fld wSrcs t.srcs ++ fld wDeps (t.deps.map prt) ++ fld wSee t.see ++ [125, 10]) := by rw [hp1]; rfl
    have z1 : (bs tv.name).size = tv.name.length := rfl
    have hnl2 : tv.name.length ≤ 800000000 := by rw [nmt]; omega
    have hp1l : p1.length = t.name.length + 10 := by rw [hp1]; simp [wTarget]
    obtain ⟨f1, hf1⟩ : ∃ f1, fld wSrcs t.srcs = f1 := ⟨_, rfl⟩
    obtain ⟨f2, hf2⟩ : ∃ f2, fld wDeps (t.deps.map prt) = f2 := ⟨_, rfl⟩
    obtain ⟨f3, hf3⟩ : ∃ f3, fld wSee t.see = f3 := ⟨_, rfl⟩
    have HF1 : Hid (∀ W : World, Below G w W → Calls Tryz.prog 43 #[.string (bs wSrcs), .slice tv.sa tv.sn tv.sc] W fun e w' => e = .returned (.string (bs f1)) ∧ Below W.heap.size W w') := fun W hW => by rw [← hf1]; exact field_any wSrcs (HTR.out W hW).s (by decide) HX.out.1 (by omega)
    have HL2 : Hid (∀ W : World, Below G w W → Calls Tryz.prog 44 #[.slice tv.da tv.dn tv.dc] W fun e w' => ∃ u, e = .returned u ∧ Own W.heap.size w' u (t.deps.map prt) ∧ Below W.heap.size W w') := fun W hW => labels_any (HTR.out W hW).d HX.out.2.1 HX.out.2.2.2
    have HF2 : Hid (∀ (W : World) (u : Value), SS W u (t.deps.map prt) → Calls Tryz.prog 43 #[.string (bs wDeps), u] W fun e w' => e = .returned (.string (bs f2)) ∧ Below W.heap.size W w') := fun W u hu => by rw [← hf2]; exact field_any wDeps hu (by decide) (by simpa using HX.out.2.1) (by omega)
    have HF3 : Hid (∀ W : World, Below G w W → Calls Tryz.prog 43 #[.string (bs wSee), .slice tv.ea tv.en tv.ec] W fun e w' => e = .returned (.string (bs f3)) ∧ Below W.heap.size W w') := fun W hW => by rw [← hf3]; exact field_any wSee (HTR.out W hW).e (by decide) HX.out.2.2.1 (by omega)
    rw [hf1, hf2, hf3] at hol HO
    have HP1 : Hid (p1.length + f1.length + f2.length + f3.length + P.length + 2 ≤ 800000000) := by show _ ≤ _; omega
    clear hT hE hP hwa hba hgt hbw hp1 hf1 hf2 hf3 j1 j2 j3 hol hlen nmt nm
    go_wp2_with fail
    rw [HWa.out.1, HWa.out.2, HE1.out]
    refine (writeK p1 Ia.out.1 (by have := HP1.out; omega) (by omega)).mono ?_
    rintro e w1 ⟨_, rfl, hI1, hb1, ho1⟩
    have I1 : Hid (Lib.IsBuilderF 89 5 G G (Lib.byteCells (P ++ p1)) w1 ∧ Below G w w1 ∧ TB w1 gt tv) := ⟨hI1, below_trans Ia.out.2.1 hb1, Ta.out.kept ho1 hgG⟩
    have hs1 := hb1.size
    obtain ⟨_, c1, c2, c3, _, _, _⟩ := I1.out.2.2.cells
    clear hI1 hb1 ho1 Ia Ta HI
    go_wp2_with fail
    refine (HF1.out _ I1.out.2.1).mono ?_
    rintro e w2 ⟨rfl, hb2⟩
    have I2 : Hid (Lib.IsBuilderF 89 5 G G (Lib.byteCells (P ++ p1)) w2 ∧ Below G w w2 ∧ TB w2 gt tv) := ⟨IsBuilderF_later I1.out.1 hb2, below_trans I1.out.2.1 (below_mono hb2 (by omega)), I1.out.2.2.later hb2⟩
    have hs2 := hb2.size
    clear hb2 c1 c2 c3 I1
    go_wp2_with fail
    refine (writeK f1 I2.out.1 (by have := HP1.out; simp; omega) (by omega)).mono ?_
    rintro e w3 ⟨_, rfl, hI3, hb3, ho3⟩
    have I3 : Hid (Lib.IsBuilderF 89 5 G G (Lib.byteCells (P ++ p1 ++ f1)) w3 ∧ Below G w w3 ∧ TB w3 gt tv) := ⟨hI3, below_trans I2.out.2.1 hb3, I2.out.2.2.kept ho3 hgG⟩
    have hs3 := hb3.size
    obtain ⟨_, c1, c2, c3, _, _, _⟩ := I3.out.2.2.cells
    clear hI3 hb3 ho3 I2
    go_wp2_with fail
    refine (HL2.out _ I3.out.2.1).mono ?_
    rintro e w4 ⟨u, rfl, hu, hb4⟩
    have I4 : Hid (Lib.IsBuilderF 89 5 G G (Lib.byteCells (P ++ p1 ++ f1)) w4 ∧ Below G w w4 ∧ TB w4 gt tv ∧ SS w4 u (t.deps.map prt)) := ⟨IsBuilderF_later I3.out.1 hb4, below_trans I3.out.2.1 (below_mono hb4 (by omega)), I3.out.2.2.later hb4, own_ss hu⟩
    have hs4 := hb4.size
    clear hb4 hu c1 c2 c3 I3
    go_wp2_with fail
    refine (HF2.out _ _ I4.out.2.2.2).mono ?_
    rintro e w5 ⟨rfl, hb5⟩
    have I5 : Hid (Lib.IsBuilderF 89 5 G G (Lib.byteCells (P ++ p1 ++ f1)) w5 ∧ Below G w w5 ∧ TB w5 gt tv) := ⟨IsBuilderF_later I4.out.1 hb5, below_trans I4.out.2.1 (below_mono hb5 (by omega)), I4.out.2.2.1.later hb5⟩
    have hs5 := hb5.size
    clear hb5 I4
    go_wp2_with fail
    refine (writeK f2 I5.out.1 (by have := HP1.out; simp; omega) (by omega)).mono ?_
    rintro e w6 ⟨_, rfl, hI6, hb6, ho6⟩
    have I6 : Hid (Lib.IsBuilderF 89 5 G G (Lib.byteCells (P ++ p1 ++ f1 ++ f2)) w6 ∧ Below G w w6 ∧ TB w6 gt tv) := ⟨hI6, below_trans I5.out.2.1 hb6, I5.out.2.2.kept ho6 hgG⟩
    have hs6 := hb6.size
    obtain ⟨_, c1, c2, c3, _, _, _⟩ := I6.out.2.2.cells
    clear hI6 hb6 ho6 I5
    go_wp2_with fail
    refine (HF3.out _ I6.out.2.1).mono ?_
    rintro e w7 ⟨rfl, hb7⟩
    have I7 : Hid (Lib.IsBuilderF 89 5 G G (Lib.byteCells (P ++ p1 ++ f1 ++ f2)) w7 ∧ Below G w w7) := ⟨IsBuilderF_later I6.out.1 hb7, below_trans I6.out.2.1 (below_mono hb7 (by omega))⟩
    have hs7 := hb7.size
    clear hb7 c1 c2 c3 I6
    go_wp2_with fail
    refine (writeK f3 I7.out.1 (by have := HP1.out; simp; omega) (by omega)).mono ?_
    rintro e w8 ⟨_, rfl, hI8, hb8, ho8⟩
    have I8 : Hid (Lib.IsBuilderF 89 5 G G (Lib.byteCells (P ++ p1 ++ f1 ++ f2 ++ f3)) w8 ∧ Below G w w8) := ⟨hI8, below_trans I7.out.2 hb8⟩
    have hs8 := hb8.size
    clear hI8 hb8 ho8 I7
    go_wp2_with fail
    refine (writeK [125, 10] I8.out.1 (by have := HP1.out; simp; omega) (by omega)).mono ?_
    rintro e w9 ⟨_, rfl, hI9, hb9, ho9⟩
    have I9 : Hid (Lib.IsBuilderF 89 5 G G (Lib.byteCells (wrt (l.take (k + 1)))) w9 ∧ Below G w w9) := by
      refine ⟨?_, below_trans I8.out.2 hb9⟩
      rw [HWk.out.1, HO.out]
      simpa [List.append_assoc] using hI9
    have hs9 := hb9.size
    clear hI9 hb9 ho9 I8
    go_wp2_with fail
    go_roundw
    case rel => exact ⟨k + 1, hlt, rfl, I9.out.1, I9.out.2, by omega⟩
    case measure => simp only [intOf]; omega
end Go.Proofs.YtemoplpfndnklaaGreatDoor
