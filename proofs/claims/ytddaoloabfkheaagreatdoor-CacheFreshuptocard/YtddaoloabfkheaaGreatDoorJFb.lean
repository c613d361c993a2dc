/-
  Load; all that the laws ask of the package.
  CacheFresh, what it needs: rows that stay, bytes out of a text, a path's directory by the law's own words.
  A path's directory, by the law's own words.
-/
import Derived.Test.YtddaoloabfkheaaGreatDoorZo
import Derived.Test.YtddaoloabfkheaaGreatDoorJYk
import Derived.Test.YtddaoloabfkheaaGreatDoorJYb
import Derived.Lib.ConvBytes
namespace Go.Proofs.YtddaoloabfkheaaGreatDoor
open Go.RowKit

/-- k entries are taken off: l is left -/
structure LJ (b : List UInt8) (n k : Nat) (Kc : List Lb) (l : List UInt8) : Prop where
  len : Kc.length = k
  ok : OKK Kc
  kn : k ≤ n
  n5 : n ≤ 512
  pre : b = hdP n ++ (Kc.flatMap entB ++ l)
theorem LJ.sub {b : List UInt8} {n k : Nat} {Kc : List Lb} {l : List UInt8} (I : LJ b n k Kc l) {K : List Lb} (ok : OKK K) (e : savB K = b) : K.length = n ∧ K.take k = Kc ∧ (K.drop k).flatMap entB = l := by
  have h1 := I.pre
  have hl := ok.len
  have hkn := I.kn
  have h5 := I.n5
  have e1 : hdP K.length ++ K.flatMap entB = hdP n ++ (Kc.flatMap entB ++ l) := by rw [← h1, ← savB_hd]; exact e
  obtain ⟨h2, h3⟩ := app_inj (by rw [hdP_len, hdP_len]) e1
  unfold hdP at h2
  have h4 := List.append_cancel_left h2
  have hn : K.length = n := by rw [← num_le4 (x := K.length) (by omega), ← num_le4 (x := n) (by omega), h4]
  have e2 : (K.take k).flatMap entB ++ (K.drop k).flatMap entB = Kc.flatMap entB ++ l := by rw [← List.flatMap_append, List.take_append_drop]; exact h3
  obtain ⟨h6, h7⟩ := ents_pre (fun x hx => ⟨ok.rt x (List.mem_of_mem_take hx), ok.tx x (List.mem_of_mem_take hx)⟩) (fun x hx => ⟨I.ok.rt x hx, I.ok.tx x hx⟩) (by rw [List.length_take, I.len]; omega) e2
  exact ⟨hn, h6, h7⟩
theorem LJ.next {b : List UInt8} {n k : Nat} {Kc : List Lb} {l : List UInt8} (I : LJ b n k Kc l) (hk : k < n) {K : List Lb} (ok : OKK K) (e : savB K = b) : ∃ x l', x ∉ Kc ∧ rgt x.pkg = true ∧ x.name.length ≤ 4096 ∧ l = entB x ++ l' := by
  obtain ⟨hn, h1, h2⟩ := I.sub ok e
  have hkl : k < K.length := by omega
  have hx : K[k] ∈ K := List.getElem_mem hkl
  have hnx : K[k] ∉ Kc := by
    rw [← h1]
    intro hm
    have hnd := ok.nd
    rw [← List.take_append_drop k K, List.nodup_append] at hnd
    exact hnd.2.2 _ hm K[k] (by rw [List.drop_eq_getElem_cons hkl]; exact List.mem_cons_self) rfl
  rw [List.drop_eq_getElem_cons hkl, List.flatMap_cons] at h2
  exact ⟨K[k], _, hnx, ok.rt _ hx, ok.tx _ hx, h2.symm⟩
theorem LJ.more {b : List UInt8} {n k : Nat} {Kc : List Lb} {l l' : List UInt8} {x : Lb} (I : LJ b n k Kc l) (hk : k < n) (ok : OKK (Kc ++ [x])) (e : l = entB x ++ l') : LJ b n (k + 1) (Kc ++ [x]) l' := by
  refine ⟨by simp [I.len], ok, by omega, I.n5, ?_⟩
  rw [I.pre, e]
  simp
theorem LJ.whole {b : List UInt8} {n : Nat} {Kc : List Lb} (I : LJ b n n Kc []) : savB Kc = b := by
  rw [savB_hd, I.pre, I.len, List.append_nil]
theorem LJ.rest {b : List UInt8} {n : Nat} {Kc : List Lb} {l : List UInt8} (I : LJ b n n Kc l) {K : List Lb} (ok : OKK K) (e : savB K = b) : l = [] := by
  obtain ⟨h1, _, h3⟩ := I.sub ok e
  rw [List.drop_of_length_le (by omega)] at h3
  exact h3.symm
set_option maxRecDepth 100000 in
set_option maxHeartbeats 8000000 in
theorem cload_any {w : World} {v : Value} {b : List UInt8} (h : BS w v b) (E : Ev w) (hbl : b.length ≤ 4000000000) : Calls Tryz.prog 15 #[v] w (LdC CA w b) := by
  have HRd : Hid (Calls Tryz.prog 33 #[v] w fun e w' => ∃ g d, e = .returned (.pointer (some ⟨g, 0, none⟩)) ∧ RDo w' g d b ∧ w.heap.size ≤ g ∧ w.heap.size ≤ d ∧ Below w.heap.size w w') := newreader_any h (by omega)
  have HEv : Hid (Ev w) := E
  have HT : Hid (∀ W, Calls Tryz.prog 30 #[.string ⟨#[99, 111, 112, 115, 101, 32, 99, 97, 99, 104, 101, 32, 49]⟩] W (BtP W (txB hdW))) := fun W => txrow_any hdW W (by decide)
  have HNo : Hid (∀ w', Below w.heap.size w w' → (∀ K, OKK K → savB K = b → False) → LdC CA w b (.returned (.tuple #[.pointer none, .int .i64 14])) w') := fun w' hb hn => ⟨hb, .inr ⟨hn, rfl⟩⟩
  have HSv : Hid (∀ K, savB K = txB hdW ++ (le 4 K.length ++ K.flatMap entB)) := fun K => by unfold savB; rw [List.append_assoc]
  clear h hbl E
  go_enter Tryz.func15, Tryz.ntmps15
  go_wp2_with fail
  refine HRd.out.mono ?_
  rintro e w1 ⟨g, d, rfl, hr1, hg1, hd1, hb1⟩
  have H1 : Hid (RDo w1 g d b ∧ w.heap.size ≤ g ∧ w.heap.size ≤ d ∧ Below w.heap.size w w1) := ⟨hr1, hg1, hd1, hb1⟩
  clear hr1 hg1 hd1 hb1
  go_wp2_with fail
  refine (HT.out _).mono ?_
  rintro e w2 ⟨v2, rfl, ho2, hb2⟩
  have H2 : Hid (BS w2 v2 (txB hdW) ∧ v2.ownBlock ≠ some g ∧ RDo w2 g d b ∧ Below w.heap.size w w2) := ⟨ho2.bs, fun e => by
    have := (World.ownsRow.lt ho2 g e).1
    have := H1.out.1.lt.1
    omega, H1.out.1.later hb2, bstep H1.out.2.2.2 hb2⟩
  clear ho2 hb2
  go_wp2_with fail
  refine (follows_any H2.out.2.2.1 H2.out.1 H2.out.2.1 (by rw [txB_len]; decide)).mono ?_
  rintro e w3 ⟨R, l1, rfl, hr3, hg3, hT3, hF3⟩
  have hb3 : Below w.heap.size w w3 := below_trans H2.out.2.2.2 ((OnlyP.of_grown (F := fun k => k = g) hg3 rfl).below H2.out.2.2.2.size (fun k hk => by rw [hk]; exact H1.out.2.1))
  cases R with
  | false =>
    have HN : Hid (∀ K, OKK K → savB K = b → False) := fun K _ e => hF3 rfl _ (e.symm.trans (HSv.out K))
    have HB3 : Hid (Below w.heap.size w w3) := hb3
    clear hr3 hg3 hT3 hF3 hb3
    go_wp2_with fail
    go_ret2
    exact HNo.out _ HB3.out HN.out
  | true =>
    have H3 : Hid (b = txB hdW ++ l1 ∧ RDo w3 g d l1 ∧ Below w.heap.size w w3) := ⟨hT3 rfl, hr3, hb3⟩
    have HK3 : Hid (∀ K, savB K = b → l1 = le 4 K.length ++ K.flatMap entB) := fun K e => by
      have h1 : txB hdW ++ (le 4 K.length ++ K.flatMap entB) = txB hdW ++ l1 := by rw [← HSv.out K, e]; exact H3.out.1
      exact (List.append_cancel_left h1).symm
    clear hr3 hg3 hT3 hF3 hb3
    by_cases hl1 : l1.length < 4
    · have HNu : Hid (Calls Tryz.prog 35 #[.pointer (some ⟨g, 0, none⟩), .int .i64 4] w3 fun e w' => e = .returned (.tuple #[.int .u64 0, .int .i64 11]) ∧ w' = w3) := numberNo4 H3.out.2.1 hl1
      have HN : Hid (∀ K, OKK K → savB K = b → False) := fun K _ e => by
        have := HK3.out K e
        rw [this, List.length_append, le_length] at hl1
        omega
      clear hl1
      go_wp2_with fail
      refine HNu.out.mono ?_
      rintro e w4 ⟨rfl, rfl⟩
      go_wp2_with fail
      go_ret2
      exact HNo.out _ H3.out.2.2 HN.out
    obtain ⟨n, hn⟩ : ∃ n, num (l1.take 4) = n := ⟨_, rfl⟩
    have hn4 : n < 4294967296 := by rw [← hn]; exact num4 l1
    have HNu : Hid (Calls Tryz.prog 35 #[.pointer (some ⟨g, 0, none⟩), .int .i64 4] w3 fun e w' => e = .returned (.tuple #[.int .u64 (n : Int), .int .i64 0]) ∧ RDo w' g d (l1.drop 4) ∧ w3.grownBy w' (some g)) := by
      have := number4 H3.out.2.1 (by omega)
      rw [hn] at this
      exact this
    have HLe : Hid (l1 = le 4 n ++ l1.drop 4) := by
      show _ = _
      have := le_num (l1.take 4)
      rw [show (l1.take 4).length = 4 by rw [List.length_take]; omega, hn] at this
      rw [this, List.take_append_drop]
    have HKn : Hid (∀ K, OKK K → savB K = b → K.length = n) := fun K ok e => by
      have h1 := HK3.out K e
      rw [HLe.out] at h1
      have h2 := (app_inj (by rw [le_length, le_length]) h1).1
      have := ok.len
      rw [← num_le4 (x := K.length) (by omega), ← num_le4 (x := n) hn4, h2]
    clear hn hl1
    by_cases h5 : 512 < n
    · have k1 : (512 : Int) < (n : Int) := by omega
      have HN : Hid (∀ K, OKK K → savB K = b → False) := fun K ok e => by
        have := HKn.out K ok e
        have := ok.len
        omega
      clear h5
      go_wp2_with fail
      refine HNu.out.mono ?_
      rintro e w4 ⟨rfl, hr4, hg4⟩
      have H4 : Hid (Below w.heap.size w w4) := below_trans H3.out.2.2 ((OnlyP.of_grown (F := fun k => k = g) hg4 rfl).below H3.out.2.2.size (fun k hk => by rw [hk]; exact H1.out.2.1))
      clear hr4 hg4
      go_wp2_with fail
      go_ret2
      exact HNo.out _ H4.out HN.out
    have k1 : ¬ (512 : Int) < (n : Int) := by omega
    go_wp2_with fail
    refine HNu.out.mono ?_
    rintro e w4 ⟨rfl, hr4, hg4⟩
    have H4 : Hid (RDo w4 g d (l1.drop 4) ∧ Below w.heap.size w w4) := ⟨hr4, below_trans H3.out.2.2 ((OnlyP.of_grown (F := fun k => k = g) hg4 rfl).below H3.out.2.2.size (fun k hk => by rw [hk]; exact H1.out.2.1))⟩
    clear hr4 hg4
    go_wp2_with fail
    refine (cnew_any _).mono ?_
    rintro e w5 ⟨c, rfl, hc5, hb5⟩
    have H5 : Hid (CA w5 (fun k => w4.heap.size ≤ k ∧ k < w5.heap.size) c [] ∧ RDo w5 g d (l1.drop 4) ∧ Below w.heap.size w w5 ∧ LJ b n 0 [] (l1.drop 4) ∧ g < w4.heap.size ∧ d < w4.heap.size) := by
      refine ⟨hc5, H4.out.1.later hb5, bstep H4.out.2 hb5, ⟨rfl, OKK.nil, by omega, by omega, ?_⟩, H4.out.1.lt.1, H4.out.1.lt.2.1⟩
      have h1 := H3.out.1
      rw [HLe.out] at h1
      unfold hdP
      simpa using h1
    clear hc5 hb5
    go_wp2_with fail
    go_loopw [27] (fun s27 wr => ∃ (k : Nat) (Kc : List Lb) (l : List UInt8), s27 = .int .u64 k ∧ LJ b n k Kc l ∧ CA wr (fun j => w4.heap.size ≤ j ∧ j < wr.heap.size) c Kc ∧ RDo wr g d l ∧ Below w.heap.size w wr) (fun s27 _ => n - (intOf s27).toNat)
    case atStart => exact ⟨0, [], _, rfl, H5.out.2.2.2.1, H5.out.1, H5.out.2.1, H5.out.2.2.1⟩
    case round =>
      obtain ⟨k, Kc, l, rfl, hI, hca, hrd, hb⟩ := hrel
      have hkn := hI.kn
      have hn5 := hI.n5
      have HX : Hid (LJ b n k Kc l ∧ CA wr (fun j => w4.heap.size ≤ j ∧ j < wr.heap.size) c Kc ∧ RDo wr g d l ∧ Below w.heap.size w wr) := ⟨hI, hca, hrd, hb⟩
      clear hI hca hrd hb
      by_cases hlt : k < n
      · have k2 : (k : Int) < (n : Int) := by omega
        have HTk : Hid (Calls Tryz.prog 36 #[.pointer (some ⟨c, 0, none⟩), .pointer (some ⟨g, 0, none⟩)] wr (TkP (fun j => w4.heap.size ≤ j ∧ j < wr.heap.size) c g d Kc l wr)) := by
          refine ctake_any HX.out.2.1 HX.out.2.2.1 (fun h => by have := H5.out.2.2.2.2.1; omega) (fun h => by have := H5.out.2.2.2.2.2; omega) (fun W hW => ?_) (by rw [HX.out.1.len]; omega)
          have hwW : Below w.heap.size w W := below_trans HX.out.2.2.2 (hW.below HX.out.2.2.2.size (fun j hj => by
            rcases hj with hj | hj
            · exact Nat.le_trans H4.out.2.size hj.1
            · rw [hj]; exact H1.out.2.1))
          exact HEv.out.later hwW
        go_wp2_with fail
        refine HTk.out.mono ?_
        rintro e w6 ⟨R, rfl, ho6, hT6, hF6⟩
        have hb6 : Below w.heap.size w w6 := below_trans HX.out.2.2.2 (ho6.below HX.out.2.2.2.size (fun j hj => by
            rcases hj with hj | hj
            · exact Nat.le_trans H4.out.2.size hj.1
            · rw [hj]; exact H1.out.2.1))
        cases R with
        | false =>
          have HN : Hid (∀ K, OKK K → savB K = b → False) := fun K ok e => by
            obtain ⟨x, l', a1, a2, a3, a4⟩ := HX.out.1.next hlt ok e
            exact hF6 rfl x l' a1 a2 a3 a4
          have HB6 : Hid (Below w.heap.size w w6) := hb6
          clear ho6 hT6 hF6 hb6
          go_wp2_with fail
          go_ret2
          exact HNo.out _ HB6.out HN.out
        | true =>
          obtain ⟨x, l', a1, a2, a3, a4⟩ := hT6 rfl
          have H6 : Hid (LJ b n (k + 1) (Kc ++ [x]) l' ∧ CA w6 (fun j => w4.heap.size ≤ j ∧ j < w6.heap.size) c (Kc ++ [x]) ∧ RDo w6 g d l' ∧ Below w.heap.size w w6) := by
            refine ⟨HX.out.1.more hlt a2 a1, a3.wider (fun j hj => ?_) (fun j hj => hj.2), a4, hb6⟩
            have hz := ho6.size
            rcases hj with hj | hj
            · exact ⟨hj.1, by omega⟩
            · refine ⟨?_, hj.2⟩
              have := HX.out.2.1.lt c HX.out.2.1.own
              have := HX.out.2.1.own
              omega
          clear ho6 hT6 hF6 hb6 a1 a2 a3 a4
          have kw : IntKind.u64.wrap ((k : Int) + 1) = (k : Int) + 1 := by rw [IntKind.wrap_u64]; omega
          go_wp2_with fail
          go_roundw
          case rel => exact ⟨k + 1, _, l', by go_num, H6.out.1, H6.out.2.1, H6.out.2.2.1, H6.out.2.2.2⟩
          case measure => simp [intOf]; omega
      · obtain rfl : n = k := by omega
        have k2 : ¬ (n : Int) < (n : Int) := by omega
        have HEn : Hid (Calls Tryz.prog 37 #[.pointer (some ⟨g, 0, none⟩)] wr fun e w' => e = .returned (.int .i64 (if l = [] then 0 else 12)) ∧ w' = wr) := end_any HX.out.2.2.1
        by_cases h0 : l = []
        · rw [if_pos h0] at HEn
          have HF : Hid (savB Kc = b) := by
            have := HX.out.1
            rw [h0] at this
            exact this.whole
          clear h0
          go_wp2_with fail
          refine HEn.out.mono ?_
          rintro e w6 ⟨rfl, rfl⟩
          go_wp2_with fail
          go_ret2
          refine ⟨HX.out.2.2.2, .inl ⟨Kc, c, HX.out.1.ok, HF.out, rfl, HX.out.2.1.wider (fun j hj => ⟨Nat.le_trans H4.out.2.size hj.1, hj.2⟩) (fun j hj => hj.2)⟩⟩
        · rw [if_neg h0] at HEn
          have HN : Hid (∀ K, OKK K → savB K = b → False) := fun K ok e => h0 (HX.out.1.rest ok e)
          clear h0
          go_wp2_with fail
          refine HEn.out.mono ?_
          rintro e w6 ⟨rfl, rfl⟩
          go_wp2_with fail
          go_ret2
          exact HNo.out _ HX.out.2.2.2 HN.out
/-- all that the laws ask of the package -/
theorem ccP : CcP CA where
  stay := fun h hz hs => h.stay hz hs
  wider := fun h hF hl => h.wider hF hl
  lt := fun h => h.lt
  ok := fun h => h.ok
  new := cnew_any
  put := fun h E p t hp ht => cput_any h E p t hp ht
  get := fun h _ p t _ _ => cget_any h p t
  len := fun h => clen_any h
  save := fun h _ => csave_any h
  load := fun h E hl => cload_any h E hl
end Go.Proofs.YtddaoloabfkheaaGreatDoor

namespace Go.Proofs.YtddaoloabfkheaaGreatDoor
open Go.RowKit Go.Lib

theorem row_stay {base e sz n : Nat} {w w' : World} {v : Value} {cs : List Value} (h : w.ownsRow base e sz v n cs) (hs : ∀ k, v.ownBlock = some k → w'.heap[k]? = w.heap[k]?) : w'.ownsRow base e sz v n cs := by
  rcases h with ⟨h0, h | ⟨g, cap, cur, rfl, hb, hg, hr⟩⟩
  · exact ⟨h0, .inl h⟩
  · exact ⟨h0, .inr ⟨g, cap, cur, rfl, hb, (hs g rfl).trans hg, hr⟩⟩
theorem TOwn.stay {base : Nat} {w w' : World} {v : Tv} {t : Tg} (h : TOwn base w v t) (hs : ∀ u ∈ v.vals, ∀ k, u.ownBlock = some k → w'.heap[k]? = w.heap[k]?) : TOwn base w' v t :=
  ⟨h.name, row_stay h.s (hs _ (by simp [Tv.vals])), row_stay h.d (hs _ (by simp [Tv.vals])), row_stay h.e (hs _ (by simp [Tv.vals])), h.sd, h.se, h.de⟩
theorem TsOwn.stay {base : Nat} {w w' : World} : ∀ {a : List Tv} {b : List Tg}, TsOwn base w a b → (∀ t ∈ a, ∀ u ∈ t.vals, ∀ k, u.ownBlock = some k → w'.heap[k]? = w.heap[k]?) → TsOwn base w' a b
  | [], [], _, _ => trivial
  | t :: _, _ :: _, h, hs => ⟨h.1.stay (hs t (by simp)), TsOwn.stay h.2 (fun y hy => hs y (by simp [hy]))⟩
theorem G2.stay {w w' : World} {B m M : Nat} {v0 v1 : Value} {a0 a1 : List Tv} {l : List Tg} (h : G2 w B m v0 v1 a0 a1 l) (hM : ∀ u ∈ v1 :: a1.flatMap Tv.vals, ∀ k, u.ownBlock = some k → k < M) (hmM : m ≤ M) (hz : w.heap.size ≤ w'.heap.size) (hs : ∀ k, k < w.heap.size → B ≤ k → k < M → w'.heap[k]? = w.heap[k]?) : G2 w' B m v0 v1 a0 a1 l := by
  have hbm := h.bm
  refine ⟨row_stay h.r0 (fun k hk => hs k (h.r0.lt hk).2 (h.r0.lt hk).1 ?_), h.t0.stay (fun t ht u hu k hk => hs k (h.t0.lt t ht u hu k hk).2 (h.t0.lt t ht u hu k hk).1 ?_), h.p0, h.lt, row_stay h.r1 (fun k hk => hs k (h.r1.lt hk).2 ?_ (hM _ (by simp) k hk)), h.t1.stay (fun t ht u hu k hk => hs k (h.t1.lt t ht u hu k hk).2 ?_ (hM u (List.mem_cons_of_mem _ (List.mem_flatMap.2 ⟨t, ht, hu⟩)) k hk)), h.p1, h.bm, Nat.le_trans h.mw hz, h.n64, h.i64⟩
  · have := h.lt _ (by simp) k hk; omega
  · have := h.lt u (List.mem_cons_of_mem _ (List.mem_flatMap.2 ⟨t, ht, hu⟩)) k hk; omega
  · have := (h.r1.lt hk).1; omega
  · have := (h.t1.lt t ht u hu k hk).1; omega
/-- bytes in a block, whatever mark lies behind them -/
structure RmB (w : World) (g cap : Nat) (l : List UInt8) : Prop where
  le : l.length ≤ cap
  blk : ∃ cur fr, w.heap[g]? = some (.cells cur 5 fr) ∧ cap ≤ cur.size ∧ (∀ o, o < cap → ¬ (fr.1 ≤ o ∧ o < fr.2)) ∧ cur.toList.take l.length = bc l
theorem RmB.lt {w : World} {g cap : Nat} {l : List UInt8} (h : RmB w g cap l) : g < w.heap.size := by
  obtain ⟨cur, fr, h1, _⟩ := h.blk
  exact (Array.getElem?_eq_some_iff.1 h1).1
theorem RmB.free {w : World} {g cap : Nat} {l : List UInt8} (h : RmB w g cap l) (o : Nat) (ho : o < cap) : (∃ u, w.cell? ⟨g, o, none⟩ = some u) ∧ w.frozen? ⟨g, o, none⟩ = false := by
  obtain ⟨cur, fr, h1, h2, h3, _⟩ := h.blk
  have hs : o < cur.size := by omega
  refine ⟨⟨cur[o], by simp [World.cell?, h1, hs]⟩, ?_⟩
  have := h3 o ho
  simp only [World.frozen?, h1]
  simpa using this
theorem RmB.it {w : World} {g cap : Nat} {l : List UInt8} (h : RmB w g cap l) (i : Nat) (u : Value) (hu : (bc l)[i]? = some u) : w.cell? ⟨g, i, none⟩ = some u := by
  obtain ⟨cur, fr, h1, h2, h3, h4⟩ := h.blk
  rw [← h4] at hu
  have hi := (List.getElem?_eq_some_iff.1 hu).1
  rw [List.length_take] at hi
  rw [List.getElem?_take, if_pos (by omega)] at hu
  simp only [World.cell?, h1]
  simpa using hu
theorem RmB.stay {w w' : World} {g cap : Nat} {l : List UInt8} (h : RmB w g cap l) (hs : w'.heap[g]? = w.heap[g]?) : RmB w' g cap l := by
  obtain ⟨cur, fr, h1, h2⟩ := h.blk
  exact ⟨h.le, cur, fr, hs.trans h1, h2⟩
theorem RmB.later {w w' : World} {g cap : Nat} {l : List UInt8} (h : RmB w g cap l) (hb : Below w.heap.size w w') : RmB w' g cap l := h.stay (hb.block g h.lt)
/-- what counts of it is written over: whatever stands there -/
theorem RmB.wipe {w : World} {g cap : Nat} {l : List UInt8} (h : RmB w g cap l) (o : Nat) (v : Value) : RmB (w.setCell ⟨g, o, none⟩ v) g cap [] := by
  obtain ⟨cur, fr, h1, h2, h3, h4⟩ := h.blk
  exact ⟨by simp, _, fr, heap_setCell w g o v h1, by simpa using h2, h3, by simp [bc]⟩
theorem RmB.bs {w : World} {g cap : Nat} {l : List UInt8} (h : RmB w g cap l) : BS w (.slice (some ⟨g, 0, none⟩) l.length cap) l :=
  .inr ⟨g, 0, cap, rfl, h.le, h.lt, fun i u hu => by rw [Nat.zero_add]; exact h.it i u hu⟩
theorem conv_new (W : World) (b : List UInt8) : ∃ cap W', (convert 9 41 (.string (bs b))).run Tryz.prog W = .ok (.slice (some ⟨W.heap.size, 0, none⟩) b.length cap) W' ∧ RmB W' W.heap.size cap b ∧ Below W.heap.size W W' ∧ W'.heap.size = W.heap.size + 1 := by
  have h := Lib.run_convert_string_bytes (P := Tryz.prog) W 9 41 5 (bs b) Tryz.underlying9 Tryz.underlying41 Tryz.underlying5
  have hz : (bs b).size = b.length := rfl
  have hge := grownCap_ge W (bs b).size 0 5
  rw [hz] at h hge
  have hnew := bytesWorld_at_new W 5 (bs b)
  have hsz : (bytesCells W 5 (bs b)).size = grownCap W b.length 0 5 := by
    unfold bytesCells
    have : (bs b).data.size = b.length := by simp [bs]
    simp [this, hz]
    omega
  refine ⟨_, _, h, ⟨hge, _, _, hnew, by omega, fun o ho => by simp only; omega, ?_⟩, ⟨rfl, rfl, rfl, by rw [bytesWorld_size]; omega, fun k hk => bytesWorld_at_old W 5 (bs b) k hk⟩, bytesWorld_size _ _ _⟩
  unfold bytesCells
  have : (bs b).data.size = b.length := by simp [bs]
  rw [Array.toList_append, List.take_left' (by simp [this])]
  simp [bs, bc]
theorem take_three {l : List Value} {y : List Value} {a b c : Value} (h : l.take y.length = y) (hl : y.length + 3 ≤ l.length) : (((l.set y.length a).set (y.length + 1) b).set (y.length + 2) c).take (y.length + 3) = y ++ [a, b, c] := by
  obtain ⟨r, hr⟩ : ∃ r, l.drop y.length = r := ⟨_, rfl⟩
  have e : l = y ++ r := by rw [← hr]; conv => lhs; rw [← List.take_append_drop y.length l, h]
  subst e
  rw [List.length_append] at hl
  rcases r with _ | ⟨r0, _ | ⟨r1, _ | ⟨r2, rs⟩⟩⟩
  · simp only [List.length_nil] at hl; omega
  · simp only [List.length_cons, List.length_nil] at hl; omega
  · simp only [List.length_cons, List.length_nil] at hl; omega
  · simp [List.take_append, List.take_of_length_le]
/-- three bytes more -/
theorem room3 {W : World} {g cap B : Nat} {b : List UInt8} (h : RmB W g cap b) (hB : B ≤ g) (hbl : b.length ≤ 100000000000) (ty : TypeId) : ∃ g' cap' W', (Builtin.append_ #[41, 41] ty #[.slice (some ⟨g, 0, none⟩) b.length cap, .slice (some ⟨W.heap.size, 0, none⟩) 3 3]).run Tryz.prog (W.alloc (.cells #[.int .u8 71, .int .u8 72, .int .u8 73] 5)) = .ok (.slice (some ⟨g', 0, none⟩) (b.length + 3) cap') W' ∧ RmB W' g' cap' (b ++ [71, 72, 73]) ∧ B ≤ g' ∧ Below B W W' := by
  obtain ⟨i0, hi, hz0, hz1, hz2⟩ := info_parts info5
  have hgl := h.lt
  have hbx : bc [71, 72, 73] = [.int .u8 71, .int .u8 72, .int .u8 73] := rfl
  have hsrc : Src Tryz.prog i0.size 41 (.slice (some ⟨W.heap.size, 0, none⟩) 3 3) 3 (bc [71, 72, 73]) (W.alloc (.cells #[.int .u8 71, .int .u8 72, .int .u8 73] 5)) := by
    rw [hz1]
    refine Src.ofSlice _ und41 ⟨W.heap.size, 0, none⟩ 3 3 (bc [71, 72, 73]) rfl ?_ (bc_one _)
    exact World.news_of_block (heap_alloc_new W _)
  have hb1 := balloc W (.cells #[.int .u8 71, .int .u8 72, .int .u8 73] 5)
  have h1 := h.later hb1
  obtain ⟨W1, hW1⟩ : ∃ W1, W.alloc (.cells #[.int .u8 71, .int .u8 72, .int .u8 73] 5) = W1 := ⟨_, rfl⟩
  rw [hW1] at hsrc hb1 h1 ⊢
  have hbB : Below B W W1 := hb1.mono (by omega)
  by_cases hroom : b.length + 3 ≤ cap
  · have hr := run_append_room_src (P := Tryz.prog) W1 41 41 ty 5 i0 und41 hi g 0 b.length cap _ 3 (bc [71, 72, 73]) hsrc hroom (fun j hj => by
      rw [bc_length] at hj
      simp at hj
      obtain ⟨⟨u, hu⟩, _⟩ := h1.free (0 + b.length * i0.size + j) (by rw [hz1]; omega)
      rw [hu]; rfl) (fun j hj => by
      rw [bc_length] at hj
      simp at hj
      exact (h1.free (0 + b.length * i0.size + j) (by rw [hz1]; omega)).2)
    rw [hz1, Nat.zero_add, Nat.mul_one] at hr
    obtain ⟨cur, fr, c1, c2, c3, c4⟩ := h1.blk
    refine ⟨g, cap, _, hr, ⟨by rw [List.length_append]; simp; omega, ?_⟩, hB, ?_⟩
    · refine ⟨_, fr, heap_setCell _ g (b.length + 2) _ (heap_setCell _ g (b.length + 1) _ (heap_setCell _ g b.length _ c1)), by simpa using c2, c3, ?_⟩
      have hlen : (bc b).length = b.length := bc_length b
      have := take_three (l := cur.toList) (y := bc b) (a := .int .u8 71) (b := .int .u8 72) (c := .int .u8 73) (by rw [hlen]; exact c4) (by have e1 : cur.toList.length = cur.size := Array.length_toList; rw [hlen, e1]; exact Nat.le_trans hroom c2)
      rw [hlen] at this
      rw [bc_append, hbx]
      simpa using this
    · exact hbB.trans ((Only.trans (Only.set W1 g b.length _) (Only.trans (Only.set _ g (b.length + 1) _) (Only.set _ g (b.length + 2) _))).below (Nat.le_trans hB (Nat.le_of_lt (Nat.lt_of_lt_of_le hgl hb1.size))) (fun k hk => by have e : k = g := (by simpa using hk); rw [e]; exact hB))
  · have hold : (Builtin.firstCells i0.size b.length (.slice (some ⟨g, 0, none⟩) b.length cap)).run Tryz.prog W1.drew = .ok (bc b).toArray W1.drew :=
      run_firstCells_some (P := Tryz.prog) W1.drew i0.size b.length _ b.length cap (bc b) (by rw [bc_length, hz1, Nat.mul_one]) (fun j u hu => by
        rw [add_lit, Nat.zero_add]
        exact h1.it j u hu)
    have hr := run_append_grow_src (P := Tryz.prog) W1 41 41 ty 5 i0 _ und41 hi hz0 (some ⟨g, 0, none⟩) b.length cap (bc b) hold _ 3 (bc [71, 72, 73]) hsrc (by omega) (by omega) (growslice_fits (by omega) (by rw [hz2]; omega))
    have hge := grownCap_ge W1 (b.length + 3) cap 5
    have hzw := hb1.size
    refine ⟨W1.heap.size, _, _, hr, ⟨by rw [List.length_append]; exact hge, _, (0, 0), heap_alloc_new W1.drew _, ?_, fun o _ h => by have := h.2; simp at this, ?_⟩, by omega, ?_⟩
    · rw [← bc_append]
      rw [Array.size_append, size_zeroCells, List.size_toArray, bc_length, List.length_append]
      simp only [List.length_cons, List.length_nil, Value.cells, List.size_toArray]
      simp
      omega
    · rw [← bc_append]
      simp only [Array.toList_append]
      rw [← bc_length (b ++ [71, 72, 73])]
      exact List.take_left
    · refine hbB.trans ⟨rfl, rfl, rfl, by simp, fun k hk => ?_⟩
      exact Below.heap_alloc W1.drew _ k (by show k < W1.heap.size; omega)
theorem wpList_app_run {P : Program} {w : World} {ops : Array Oper} {rest : List Oper} {o : Oper} {a : Act} {Q : Exit → Act → World → Prop} (hgd : o.guard = none) (d s : Operand) (t t' : TypeId)
    (ho : o.op = .call { callee := .builtin .append, args := #[d, s], argTypes := #[t, t'] }) (v u : Value) (hd : a.eval d = v) (hs : a.eval s = u) {v' : Value} {w' : World}
    (hr : (Builtin.append_ #[t, t'] o.type #[v, u]).run P w = .ok v' w') (h : wpList P ops Q rest (a.put o.dst v') w') : wpList P ops Q (o :: rest) a w := by
  refine wpList_plain hgd fun K hK => ?_
  unfold Oper.wp execOp
  simp only [ho, resolve, invoke, builtin, Sem.run_bind, Sem.run_pure, Result.andThen_ok, List.map_toArray, List.map_cons, List.map_nil, hd, hs, hr]
  exact hK _ _ h
end Go.Proofs.YtddaoloabfkheaaGreatDoor

namespace Go.Proofs.YtddaoloabfkheaaGreatDoor
open Go.RowKit

set_option maxRecDepth 100000 in
set_option maxHeartbeats 2000000 in
theorem ldir_any (l : List UInt8) (w : World) (hm : l.length ≤ 1000000000) :
    Calls Tryz.prog 18 #[.string (bs l)] w fun e w' => e = .returned (.string (bs (dir l))) ∧ w' = w := by
  have hz : (bs l).size = l.length := rfl
  obtain ⟨D, hD⟩ : ∃ D, dir l = D := ⟨_, rfl⟩
  rw [hD]
  have HD : Hid (dir l = D) := hD
  clear hD
  have e5 : (⟨#[]⟩ : ByteArray) = bs [] := rfl
  go_enter Tryz.func18, Tryz.ntmps18
  go_wp2_with fail
  go_loop [3] (fun i => ∃ m : Nat, m ≤ l.length ∧ i = .int .i64 ((m : Int) - 1) ∧ ∀ j, m ≤ j → l[j]? ≠ some 47) (fun i => (intOf i + 1).toNat)
  case atStart => exact ⟨l.length, Nat.le_refl _, by go_num, fun j hj => by rw [List.getElem?_eq_none hj]; simp⟩
  case round =>
    obtain ⟨m, hm2, rfl, hn⟩ := hrel
    have HN : Hid (∀ j, m ≤ j → l[j]? ≠ some 47) := hn
    clear hn
    cases m with
    | zero =>
      obtain rfl : D = [] := by
        rw [← HD.out]
        have := lst_miss l (fun j => HN.out j (by omega))
        simp [dir, this]
      have k1 : ¬ (0 : Int) ≤ (((0 : Nat) : Int) - 1) := by omega
      go_wp2_with fail
      go_ret
      exact ⟨rfl, rfl⟩
    | succ k =>
      have hk : k < l.length := by omega
      have hk2 : k < (bs l).size := hk
      have e0 : (((k + 1 : Nat) : Int) - 1) = (k : Int) := by omega
      rw [e0]
      have k1 : (0 : Int) ≤ (k : Int) := by omega
      have k2 : (k : Int) < (l.length : Int) := by omega
      by_cases hc : l[k]'hk = 47
      · have h1 : (((bs l)[k].toNat : Int) == 47) = true := by rw [bs_get _ _ _ hk, hc]; rfl
        have hl : lst l = (k : Int) := lst_hit l k (by rw [List.getElem?_eq_getElem hk, hc]) (fun j hj => HN.out j (by omega))
        have HE : Hid ((bs l).extract 0 k = bs D) := by
          show _ = _
          rw [← HD.out, show dir l = l.take k by unfold dir; rw [hl, if_neg (by omega)]; simp]
          exact extract_to l k
        clear hl hc
        go_wp2_with fail
        go_ret
        exact ⟨by rw [← HE.out]; rfl, rfl⟩
      · have h1 : (((bs l)[k].toNat : Int) == 47) = false := by
          rw [bs_get _ _ _ hk, beq_eq_false_iff_ne]; intro e; apply hc; apply UInt8.toNat_inj.1; exact Int.ofNat.inj e
        have HN2 : Hid (∀ j, k ≤ j → l[j]? ≠ some 47) := fun j hj => by
          rcases Nat.lt_or_ge k j with h | h
          · exact HN.out j (by omega)
          · obtain rfl : k = j := by omega
            rw [List.getElem?_eq_getElem hk]
            intro e
            injection e with e
            exact hc e
        clear hc
        go_wp2_with fail
        go_round
        case rel => exact ⟨k, by omega, by go_num, HN2.out⟩
        case measure => simp [intOf]
end Go.Proofs.YtddaoloabfkheaaGreatDoor
