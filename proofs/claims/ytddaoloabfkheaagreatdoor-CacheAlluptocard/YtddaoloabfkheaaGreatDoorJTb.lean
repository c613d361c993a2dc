/-
  Load; all that the laws ask of the package.
  What a few Puts leave; bytes with one turned: plain lists.
  The law CacheTrusts.
-/
import Derived.Test.YtddaoloabfkheaaGreatDoorZo
import Derived.Test.YtddaoloabfkheaaGreatDoorJOq
import Derived.Deep.DeepCutAuto
namespace Go.Proofs.YtddaoloabfkheaaGreatDoor
open Go.RowKit

/-- k entries are taken off: l is left -/
structure LJ (b : List UInt8) (n k : Nat) (Kc : List Lb) (l : List UInt8) : Prop where
  len : Kc.length = k
  ok : OKK Kc
  kn : k ≤ n
  n5 : n ≤ 512
  pre : b = hdP n ++ (Kc.flatMap entB ++ l)
theorem LJ.sub {b : List UInt8} {n k : Nat} {Kc : List Lb} {l : List UInt8} (I : LJ b n k Kc l) {K : List Lb} (ok : OKK K) (e : savB K = b) : K.length = n ∧ K.take k = Kc ∧ (K.drop k).flatMap entB = l := by
  have h1 := I.pre
  have hl := ok.len
  have hkn := I.kn
  have h5 := I.n5
  have e1 : hdP K.length ++ K.flatMap entB = hdP n ++ (Kc.flatMap entB ++ l) := by rw [← h1, ← savB_hd]; exact e
  obtain ⟨h2, h3⟩ := app_inj (by rw [hdP_len, hdP_len]) e1
  unfold hdP at h2
  have h4 := List.append_cancel_left h2
  have hn : K.length = n := by rw [← num_le4 (x := K.length) (by omega), ← num_le4 (x := n) (by omega), h4]
  have e2 : (K.take k).flatMap entB ++ (K.drop k).flatMap entB = Kc.flatMap entB ++ l := by rw [← List.flatMap_append, List.take_append_drop]; exact h3
  obtain ⟨h6, h7⟩ := ents_pre (fun x hx => ⟨ok.rt x (List.mem_of_mem_take hx), ok.tx x (List.mem_of_mem_take hx)⟩) (fun x hx => ⟨I.ok.rt x hx, I.ok.tx x hx⟩) (by rw [List.length_take, I.len]; omega) e2
  exact ⟨hn, h6, h7⟩
theorem LJ.next {b : List UInt8} {n k : Nat} {Kc : List Lb} {l : List UInt8} (I : LJ b n k Kc l) (hk : k < n) {K : List Lb} (ok : OKK K) (e : savB K = b) : ∃ x l', x ∉ Kc ∧ rgt x.pkg = true ∧ x.name.length ≤ 4096 ∧ l = entB x ++ l' := by
  obtain ⟨hn, h1, h2⟩ := I.sub ok e
  have hkl : k < K.length := by omega
  have hx : K[k] ∈ K := List.getElem_mem hkl
  have hnx : K[k] ∉ Kc := by
    rw [← h1]
    intro hm
    have hnd := ok.nd
    rw [← List.take_append_drop k K, List.nodup_append] at hnd
    exact hnd.2.2 _ hm K[k] (by rw [List.drop_eq_getElem_cons hkl]; exact List.mem_cons_self) rfl
  rw [List.drop_eq_getElem_cons hkl, List.flatMap_cons] at h2
  exact ⟨K[k], _, hnx, ok.rt _ hx, ok.tx _ hx, h2.symm⟩
theorem LJ.more {b : List UInt8} {n k : Nat} {Kc : List Lb} {l l' : List UInt8} {x : Lb} (I : LJ b n k Kc l) (hk : k < n) (ok : OKK (Kc ++ [x])) (e : l = entB x ++ l') : LJ b n (k + 1) (Kc ++ [x]) l' := by
  refine ⟨by simp [I.len], ok, by omega, I.n5, ?_⟩
  rw [I.pre, e]
  simp
theorem LJ.whole {b : List UInt8} {n : Nat} {Kc : List Lb} (I : LJ b n n Kc []) : savB Kc = b := by
  rw [savB_hd, I.pre, I.len, List.append_nil]
theorem LJ.rest {b : List UInt8} {n : Nat} {Kc : List Lb} {l : List UInt8} (I : LJ b n n Kc l) {K : List Lb} (ok : OKK K) (e : savB K = b) : l = [] := by
  obtain ⟨h1, _, h3⟩ := I.sub ok e
  rw [List.drop_of_length_le (by omega)] at h3
  exact h3.symm
set_option maxRecDepth 100000 in
set_option maxHeartbeats 8000000 in
theorem cload_any {w : World} {v : Value} {b : List UInt8} (h : BS w v b) (E : Ev w) (hbl : b.length ≤ 4000000000) : Calls Tryz.prog 15 #[v] w (LdC CA w b) := by
  have HRd : Hid (Calls Tryz.prog 33 #[v] w fun e w' => ∃ g d, e = .returned (.pointer (some ⟨g, 0, none⟩)) ∧ RDo w' g d b ∧ w.heap.size ≤ g ∧ w.heap.size ≤ d ∧ Below w.heap.size w w') := newreader_any h (by omega)
  have HEv : Hid (Ev w) := E
  have HT : Hid (∀ W, Calls Tryz.prog 30 #[.string ⟨#[99, 111, 112, 115, 101, 32, 99, 97, 99, 104, 101, 32, 49]⟩] W (BtP W (txB hdW))) := fun W => txrow_any hdW W (by decide)
  have HNo : Hid (∀ w', Below w.heap.size w w' → (∀ K, OKK K → savB K = b → False) → LdC CA w b (.returned (.tuple #[.pointer none, .int .i64 14])) w') := fun w' hb hn => ⟨hb, .inr ⟨hn, rfl⟩⟩
  have HSv : Hid (∀ K, savB K = txB hdW ++ (le 4 K.length ++ K.flatMap entB)) := fun K => by unfold savB; rw [List.append_assoc]
  clear h hbl E
  go_enter Tryz.func15, Tryz.ntmps15
  go_wp2_with fail
  refine HRd.out.mono ?_
  rintro e w1 ⟨g, d, rfl, hr1, hg1, hd1, hb1⟩
  have H1 : Hid (RDo w1 g d b ∧ w.heap.size ≤ g ∧ w.heap.size ≤ d ∧ Below w.heap.size w w1) := ⟨hr1, hg1, hd1, hb1⟩
  clear hr1 hg1 hd1 hb1
  go_wp2_with fail
  refine (HT.out _).mono ?_
  rintro e w2 ⟨v2, rfl, ho2, hb2⟩
  have H2 : Hid (BS w2 v2 (txB hdW) ∧ v2.ownBlock ≠ some g ∧ RDo w2 g d b ∧ Below w.heap.size w w2) := ⟨ho2.bs, fun e => by
    have := (World.ownsRow.lt ho2 g e).1
    have := H1.out.1.lt.1
    omega, H1.out.1.later hb2, bstep H1.out.2.2.2 hb2⟩
  clear ho2 hb2
  go_wp2_with fail
  refine (follows_any H2.out.2.2.1 H2.out.1 H2.out.2.1 (by rw [txB_len]; decide)).mono ?_
  rintro e w3 ⟨R, l1, rfl, hr3, hg3, hT3, hF3⟩
  have hb3 : Below w.heap.size w w3 := below_trans H2.out.2.2.2 ((OnlyP.of_grown (F := fun k => k = g) hg3 rfl).below H2.out.2.2.2.size (fun k hk => by rw [hk]; exact H1.out.2.1))
  cases R with
  | false =>
    have HN : Hid (∀ K, OKK K → savB K = b → False) := fun K _ e => hF3 rfl _ (e.symm.trans (HSv.out K))
    have HB3 : Hid (Below w.heap.size w w3) := hb3
    clear hr3 hg3 hT3 hF3 hb3
    go_wp2_with fail
    go_ret2
    exact HNo.out _ HB3.out HN.out
  | true =>
    have H3 : Hid (b = txB hdW ++ l1 ∧ RDo w3 g d l1 ∧ Below w.heap.size w w3) := ⟨hT3 rfl, hr3, hb3⟩
    have HK3 : Hid (∀ K, savB K = b → l1 = le 4 K.length ++ K.flatMap entB) := fun K e => by
      have h1 : txB hdW ++ (le 4 K.length ++ K.flatMap entB) = txB hdW ++ l1 := by rw [← HSv.out K, e]; exact H3.out.1
      exact (List.append_cancel_left h1).symm
    clear hr3 hg3 hT3 hF3 hb3
    by_cases hl1 : l1.length < 4
    · have HNu : Hid (Calls Tryz.prog 35 #[.pointer (some ⟨g, 0, none⟩), .int .i64 4] w3 fun e w' => e = .returned (.tuple #[.int .u64 0, .int .i64 11]) ∧ w' = w3) := numberNo4 H3.out.2.1 hl1
      have HN : Hid (∀ K, OKK K → savB K = b → False) := fun K _ e => by
        have := HK3.out K e
        rw [this, List.length_append, le_length] at hl1
        omega
      clear hl1
      go_wp2_with fail
      refine HNu.out.mono ?_
      rintro e w4 ⟨rfl, rfl⟩
      go_wp2_with fail
      go_ret2
      exact HNo.out _ H3.out.2.2 HN.out
    obtain ⟨n, hn⟩ : ∃ n, num (l1.take 4) = n := ⟨_, rfl⟩
    have hn4 : n < 4294967296 := by rw [← hn]; exact num4 l1
    have HNu : Hid (Calls Tryz.prog 35 #[.pointer (some ⟨g, 0, none⟩), .int .i64 4] w3 fun e w' => e = .returned (.tuple #[.int .u64 (n : Int), .int .i64 0]) ∧ RDo w' g d (l1.drop 4) ∧ w3.grownBy w' (some g)) := by
      have := number4 H3.out.2.1 (by omega)
      rw [hn] at this
      exact this
    have HLe : Hid (l1 = le 4 n ++ l1.drop 4) := by
      show _ = _
      have := le_num (l1.take 4)
      rw [show (l1.take 4).length = 4 by rw [List.length_take]; omega, hn] at this
      rw [this, List.take_append_drop]
    have HKn : Hid (∀ K, OKK K → savB K = b → K.length = n) := fun K ok e => by
      have h1 := HK3.out K e
      rw [HLe.out] at h1
      have h2 := (app_inj (by rw [le_length, le_length]) h1).1
      have := ok.len
      rw [← num_le4 (x := K.length) (by omega), ← num_le4 (x := n) hn4, h2]
    clear hn hl1
    by_cases h5 : 512 < n
    · have k1 : (512 : Int) < (n : Int) := by omega
      have HN : Hid (∀ K, OKK K → savB K = b → False) := fun K ok e => by
        have := HKn.out K ok e
        have := ok.len
        omega
      clear h5
      go_wp2_with fail
      refine HNu.out.mono ?_
      rintro e w4 ⟨rfl, hr4, hg4⟩
      have H4 : Hid (Below w.heap.size w w4) := below_trans H3.out.2.2 ((OnlyP.of_grown (F := fun k => k = g) hg4 rfl).below H3.out.2.2.size (fun k hk => by rw [hk]; exact H1.out.2.1))
      clear hr4 hg4
      go_wp2_with fail
      go_ret2
      exact HNo.out _ H4.out HN.out
    have k1 : ¬ (512 : Int) < (n : Int) := by omega
    go_wp2_with fail
    refine HNu.out.mono ?_
    rintro e w4 ⟨rfl, hr4, hg4⟩
    have H4 : Hid (RDo w4 g d (l1.drop 4) ∧ Below w.heap.size w w4) := ⟨hr4, below_trans H3.out.2.2 ((OnlyP.of_grown (F := fun k => k = g) hg4 rfl).below H3.out.2.2.size (fun k hk => by rw [hk]; exact H1.out.2.1))⟩
    clear hr4 hg4
    go_wp2_with fail
    refine (cnew_any _).mono ?_
    rintro e w5 ⟨c, rfl, hc5, hb5⟩
    have H5 : Hid (CA w5 (fun k => w4.heap.size ≤ k ∧ k < w5.heap.size) c [] ∧ RDo w5 g d (l1.drop 4) ∧ Below w.heap.size w w5 ∧ LJ b n 0 [] (l1.drop 4) ∧ g < w4.heap.size ∧ d < w4.heap.size) := by
      refine ⟨hc5, H4.out.1.later hb5, bstep H4.out.2 hb5, ⟨rfl, OKK.nil, by omega, by omega, ?_⟩, H4.out.1.lt.1, H4.out.1.lt.2.1⟩
      have h1 := H3.out.1
      rw [HLe.out] at h1
      unfold hdP
      simpa using h1
    clear hc5 hb5
    go_wp2_with fail
    go_loopw [27] (fun s27 wr => ∃ (k : Nat) (Kc : List Lb) (l : List UInt8), s27 = .int .u64 k ∧ LJ b n k Kc l ∧ CA wr (fun j => w4.heap.size ≤ j ∧ j < wr.heap.size) c Kc ∧ RDo wr g d l ∧ Below w.heap.size w wr) (fun s27 _ => n - (intOf s27).toNat)
    case atStart => exact ⟨0, [], _, rfl, H5.out.2.2.2.1, H5.out.1, H5.out.2.1, H5.out.2.2.1⟩
    case round =>
      obtain ⟨k, Kc, l, rfl, hI, hca, hrd, hb⟩ := hrel
      have hkn := hI.kn
      have hn5 := hI.n5
      have HX : Hid (LJ b n k Kc l ∧ CA wr (fun j => w4.heap.size ≤ j ∧ j < wr.heap.size) c Kc ∧ RDo wr g d l ∧ Below w.heap.size w wr) := ⟨hI, hca, hrd, hb⟩
      clear hI hca hrd hb
      by_cases hlt : k < n
      · have k2 : (k : Int) < (n : Int) := by omega
        have HTk : Hid (Calls Tryz.prog 36 #[.pointer (some ⟨c, 0, none⟩), .pointer (some ⟨g, 0, none⟩)] wr (TkP (fun j => w4.heap.size ≤ j ∧ j < wr.heap.size) c g d Kc l wr)) := by
          refine ctake_any HX.out.2.1 HX.out.2.2.1 (fun h => by have := H5.out.2.2.2.2.1; omega) (fun h => by have := H5.out.2.2.2.2.2; omega) (fun W hW => ?_) (by rw [HX.out.1.len]; omega)
          have hwW : Below w.heap.size w W := below_trans HX.out.2.2.2 (hW.below HX.out.2.2.2.size (fun j hj => by
            rcases hj with hj | hj
            · exact Nat.le_trans H4.out.2.size hj.1
            · rw [hj]; exact H1.out.2.1))
          exact HEv.out.later hwW
        go_wp2_with fail
        refine HTk.out.mono ?_
        rintro e w6 ⟨R, rfl, ho6, hT6, hF6⟩
        have hb6 : Below w.heap.size w w6 := below_trans HX.out.2.2.2 (ho6.below HX.out.2.2.2.size (fun j hj => by
            rcases hj with hj | hj
            · exact Nat.le_trans H4.out.2.size hj.1
            · rw [hj]; exact H1.out.2.1))
        cases R with
        | false =>
          have HN : Hid (∀ K, OKK K → savB K = b → False) := fun K ok e => by
            obtain ⟨x, l', a1, a2, a3, a4⟩ := HX.out.1.next hlt ok e
            exact hF6 rfl x l' a1 a2 a3 a4
          have HB6 : Hid (Below w.heap.size w w6) := hb6
          clear ho6 hT6 hF6 hb6
          go_wp2_with fail
          go_ret2
          exact HNo.out _ HB6.out HN.out
        | true =>
          obtain ⟨x, l', a1, a2, a3, a4⟩ := hT6 rfl
          have H6 : Hid (LJ b n (k + 1) (Kc ++ [x]) l' ∧ CA w6 (fun j => w4.heap.size ≤ j ∧ j < w6.heap.size) c (Kc ++ [x]) ∧ RDo w6 g d l' ∧ Below w.heap.size w w6) := by
            refine ⟨HX.out.1.more hlt a2 a1, a3.wider (fun j hj => ?_) (fun j hj => hj.2), a4, hb6⟩
            have hz := ho6.size
            rcases hj with hj | hj
            · exact ⟨hj.1, by omega⟩
            · refine ⟨?_, hj.2⟩
              have := HX.out.2.1.lt c HX.out.2.1.own
              have := HX.out.2.1.own
              omega
          clear ho6 hT6 hF6 hb6 a1 a2 a3 a4
          have kw : IntKind.u64.wrap ((k : Int) + 1) = (k : Int) + 1 := by rw [IntKind.wrap_u64]; omega
          go_wp2_with fail
          go_roundw
          case rel => exact ⟨k + 1, _, l', by go_num, H6.out.1, H6.out.2.1, H6.out.2.2.1, H6.out.2.2.2⟩
          case measure => simp [intOf]; omega
      · obtain rfl : n = k := by omega
        have k2 : ¬ (n : Int) < (n : Int) := by omega
        have HEn : Hid (Calls Tryz.prog 37 #[.pointer (some ⟨g, 0, none⟩)] wr fun e w' => e = .returned (.int .i64 (if l = [] then 0 else 12)) ∧ w' = wr) := end_any HX.out.2.2.1
        by_cases h0 : l = []
        · rw [if_pos h0] at HEn
          have HF : Hid (savB Kc = b) := by
            have := HX.out.1
            rw [h0] at this
            exact this.whole
          clear h0
          go_wp2_with fail
          refine HEn.out.mono ?_
          rintro e w6 ⟨rfl, rfl⟩
          go_wp2_with fail
          go_ret2
          refine ⟨HX.out.2.2.2, .inl ⟨Kc, c, HX.out.1.ok, HF.out, rfl, HX.out.2.1.wider (fun j hj => ⟨Nat.le_trans H4.out.2.size hj.1, hj.2⟩) (fun j hj => hj.2)⟩⟩
        · rw [if_neg h0] at HEn
          have HN : Hid (∀ K, OKK K → savB K = b → False) := fun K ok e => h0 (HX.out.1.rest ok e)
          clear h0
          go_wp2_with fail
          refine HEn.out.mono ?_
          rintro e w6 ⟨rfl, rfl⟩
          go_wp2_with fail
          go_ret2
          exact HNo.out _ HX.out.2.2.2 HN.out
/-- all that the laws ask of the package -/
theorem ccP : CcP CA where
  stay := fun h hz hs => h.stay hz hs
  wider := fun h hF hl => h.wider hF hl
  lt := fun h => h.lt
  ok := fun h => h.ok
  new := cnew_any
  put := fun h E p t hp ht => cput_any h E p t hp ht
  get := fun h _ p t _ _ => cget_any h p t
  len := fun h => clen_any h
  save := fun h _ => csave_any h
  load := fun h E hl => cload_any h E hl
end Go.Proofs.YtddaoloabfkheaaGreatDoor

namespace Go.Proofs.YtddaoloabfkheaaGreatDoor
open Go.RowKit

/-- the keys behind some Puts -/
def ptK (L : List Stp) : List Lb := L.foldl (fun K s => putA K s.p s.t) []
theorem ptK_snoc (L : List Stp) (s : Stp) : ptK (L ++ [s]) = putA (ptK L) s.p s.t := by unfold ptK; rw [List.foldl_append]; rfl
theorem putK_few {K : List Lb} {k : Lb} (h : K.length ≤ 500) : putK K k = K.erase k ++ [k] := by
  have : (K.erase k).length ≤ K.length := List.erase_sublist.length_le
  unfold putK
  rw [if_neg (by omega)]
theorem putA_few {K : List Lb} {p t : List UInt8} (h : K.length ≤ 500) : (putA K p t).length ≤ K.length + 1 ∧ (∀ x ∈ K, x ∈ putA K p t) ∧ (rgt p = true → t.length ≤ 4096 → (⟨p, t⟩ : Lb) ∈ putA K p t) := by
  by_cases h1 : rgt p = true
  · by_cases h2 : t.length > 4096
    · have e : pcod p t = 18 := by unfold pcod; rw [if_pos h1, if_pos h2]
      have e2 : putA K p t = K := by unfold putA; rw [if_neg (by rw [e]; decide)]
      rw [e2]
      exact ⟨by omega, fun x hx => hx, fun _ h => by omega⟩
    · rw [(putA_ok h1 h2).2, putK_few h]
      refine ⟨?_, fun x hx => ?_, fun _ _ => by simp⟩
      · have : (K.erase ⟨p, t⟩).length ≤ K.length := List.erase_sublist.length_le
        rw [List.length_append]; simp only [List.length_singleton]; omega
      · by_cases e : x = ⟨p, t⟩
        · simp [e]
        · rw [List.mem_append]; exact .inl ((List.mem_erase_of_ne e).2 hx)
  · have e : pcod p t = 7 := by unfold pcod; rw [if_neg h1]
    have e2 : putA K p t = K := by unfold putA; rw [if_neg (by rw [e]; decide)]
    rw [e2]
    exact ⟨by omega, fun x hx => hx, fun h => absurd h h1⟩
theorem ptK_take (L : List Stp) : ∀ k, k ≤ L.length → k ≤ 400 → (ptK (L.take k)).length ≤ k ∧ ∀ s ∈ L.take k, rgt s.p = true → s.t.length ≤ 4096 → (⟨s.p, s.t⟩ : Lb) ∈ ptK (L.take k)
  | 0, _, _ => ⟨by simp [ptK], by simp⟩
  | k + 1, hk, h4 => by
    obtain ⟨h1, h2⟩ := ptK_take L k (by omega) (by omega)
    rw [List.take_succ_eq_append_getElem (by omega), ptK_snoc]
    obtain ⟨g1, g2, g3⟩ := putA_few (K := ptK (L.take k)) (p := L[k].p) (t := L[k].t) (by omega)
    refine ⟨by omega, fun s hs hr ht => ?_⟩
    rcases List.mem_append.1 hs with hs | hs
    · exact g2 _ (h2 s hs hr ht)
    · have e : s = L[k] := by simpa using hs
      subst e
      exact g3 hr ht

theorem entB_ne (k : Lb) : (entB k).length ≠ 0 := by unfold entB enB txB; simp only [List.length_append, le_length]; omega
theorem ents_len {K K' : List Lb} (h : OKK K) (h' : OKK K') (hl : K.length ≤ K'.length) (e : K.flatMap entB = K'.flatMap entB) : K.length = K'.length := by
  have e2 : K.flatMap entB ++ [] = (K'.take K.length).flatMap entB ++ (K'.drop K.length).flatMap entB := by rw [← List.flatMap_append, List.take_append_drop, List.append_nil]; exact e
  obtain ⟨_, h3⟩ := ents_pre (fun x hx => ⟨h.rt x hx, h.tx x hx⟩) (fun x hx => ⟨h'.rt x (List.mem_of_mem_take hx), h'.tx x (List.mem_of_mem_take hx)⟩) (by rw [List.length_take]; omega) e2
  rcases Nat.lt_or_ge K.length K'.length with hlt | hge
  · exfalso
    rw [List.drop_eq_getElem_cons hlt, List.flatMap_cons] at h3
    have q1 := congrArg List.length h3
    rw [List.length_append, List.length_nil] at q1
    have q2 := entB_ne K'[K.length]
    omega
  · omega
/-- with one byte turned there are as many -/
theorem turned_len {K K' : List Lb} (h : OKK K) (h' : OKK K') {n : Nat} {x : UInt8} (e : savB K' = (savB K).set n x) : K'.length = K.length := by
  rw [savB_hd, savB_hd] at e
  by_cases hn : n < 21
  · rw [List.set_append_left _ _ (by rw [hdP_len]; exact hn)] at e
    obtain ⟨_, h2⟩ := app_inj (by rw [List.length_set, hdP_len, hdP_len]) e
    rcases Nat.le_total K.length K'.length with hl | hl
    · exact (ents_len h h' hl h2.symm).symm
    · exact ents_len h' h hl h2
  · rw [List.set_append_right _ _ (by rw [hdP_len]; omega)] at e
    obtain ⟨h1, _⟩ := app_inj (by rw [hdP_len, hdP_len]) e
    unfold hdP at h1
    have h4 := List.append_cancel_left h1
    have := h.len
    have := h'.len
    rw [← num_le4 (x := K'.length) (by omega), ← num_le4 (x := K.length) (by omega), h4]
theorem cut_none {K K' : List Lb} (h : OKK K) (h' : OKK K') {n : Nat} (hn : n < (savB K).length) (e : savB K' = (savB K).take n) : False := by
  have e2 : savB K' ++ (savB K).drop n = savB K ++ [] := by rw [e, List.take_append_drop, List.append_nil]
  have := (savB_pre h' h e2).2
  have := congrArg List.length this
  rw [List.length_drop] at this
  simp at this
  omega
theorem more_none {K K' : List Lb} (h : OKK K) (h' : OKK K') {x : UInt8} (e : savB K' = savB K ++ [x]) : False := by
  have e2 : savB K' ++ [] = savB K ++ [x] := by rw [e, List.append_nil]
  have := (savB_pre h' h e2).2
  simp at this
end Go.Proofs.YtddaoloabfkheaaGreatDoor

namespace Go.Proofs.YtddaoloabfkheaaGreatDoor
open Go.RowKit
attribute [local go_sem] Oper.semAt_some

/-- what stands behind the Puts: the cache, the keys, all that is new -/
structure TQ (CA : World → (Nat → Prop) → Nat → List Lb → Prop) (B : Nat) (w : World) (c : Nat) (K : List Lb) : Prop where
  it : ∃ F, CA w F c K ∧ ∀ k, F k → B ≤ k
theorem TQ.later {CA : World → (Nat → Prop) → Nat → List Lb → Prop} (C : CcP CA) {B : Nat} {w w' : World} {c : Nat} {K : List Lb} (h : TQ CA B w c K) (hb : Below w.heap.size w w') : TQ CA B w' c K := by
  obtain ⟨F, h1, h2⟩ := h
  exact ⟨F, C.later h1 hb, h2⟩
theorem TQ.ok {CA : World → (Nat → Prop) → Nat → List Lb → Prop} (C : CcP CA) {B : Nat} {w : World} {c : Nat} {K : List Lb} (h : TQ CA B w c K) : OKK K := by obtain ⟨F, h1, _⟩ := h; exact C.ok h1
theorem TQ.new {CA : World → (Nat → Prop) → Nat → List Lb → Prop} (C : CcP CA) {B : Nat} {w : World} (hB : B ≤ w.heap.size) : Calls Tryz.prog 8 #[] w fun e w' => ∃ c, e = .returned (.pointer (some ⟨c, 0, none⟩)) ∧ TQ CA B w' c [] ∧ Below w.heap.size w w' :=
  (C.new w).mono fun _ _ ⟨c, h1, h2, h3⟩ => ⟨c, h1, ⟨_, h2, fun _ hk => Nat.le_trans hB hk.1⟩, h3⟩
theorem TQ.put {CA : World → (Nat → Prop) → Nat → List Lb → Prop} (C : CcP CA) {B : Nat} {w : World} {c : Nat} {K : List Lb} (h : TQ CA B w c K) (E : Ev w) (hB : B ≤ w.heap.size) (p t : List UInt8) (hp : p.length ≤ 1000000000) (ht : t.length ≤ 1000000000) :
    Calls Tryz.prog 10 #[.pointer (some ⟨c, 0, none⟩), .string (bs p), .string (bs t)] w fun e w' => e = .returned (.int .i64 (pcod p t)) ∧ TQ CA B w' c (putA K p t) ∧ Below B w w' := by
  obtain ⟨F, h1, h2⟩ := h
  exact (C.put h1 E p t hp ht).mono fun _ _ ⟨a1, a2, a3⟩ => ⟨a1, ⟨_, a2, fun _ hk => hk.elim (h2 _) (fun e => Nat.le_trans hB e.1)⟩, a3.below hB h2⟩
theorem TQ.get {CA : World → (Nat → Prop) → Nat → List Lb → Prop} (C : CcP CA) {B : Nat} {w : World} {c : Nat} {K : List Lb} (h : TQ CA B w c K) (E : Ev w) (p t : List UInt8) (hp : p.length ≤ 1000000000) (ht : t.length ≤ 1000000000) :
    Calls Tryz.prog 13 #[.pointer (some ⟨c, 0, none⟩), .string (bs p), .string (bs t)] w (LsG w (gtK K p t)) := by
  obtain ⟨F, h1, h2⟩ := h
  exact C.get h1 E p t hp ht
theorem TQ.len {CA : World → (Nat → Prop) → Nat → List Lb → Prop} (C : CcP CA) {B : Nat} {w : World} {c : Nat} {K : List Lb} (h : TQ CA B w c K) : Calls Tryz.prog 12 #[.pointer (some ⟨c, 0, none⟩)] w fun e w' => e = .returned (.int .i64 K.length) ∧ Below w.heap.size w w' := by
  obtain ⟨F, h1, h2⟩ := h
  exact C.len h1
theorem TQ.save {CA : World → (Nat → Prop) → Nat → List Lb → Prop} (C : CcP CA) {B : Nat} {w : World} {c : Nat} {K : List Lb} (h : TQ CA B w c K) (E : Ev w) : Calls Tryz.prog 14 #[.pointer (some ⟨c, 0, none⟩)] w fun e w' => ∃ v', e = .returned v' ∧ OwnB w.heap.size w' v' (savB K) ∧ Below w.heap.size w w' := by
  obtain ⟨F, h1, h2⟩ := h
  exact C.save h1 E
theorem TQ.load {CA : World → (Nat → Prop) → Nat → List Lb → Prop} (C : CcP CA) {w : World} {v : Value} {b : List UInt8} (h : BS w v b) (E : Ev w) (hl : b.length ≤ 4000000000) : Calls Tryz.prog 15 #[v] w fun e w' => Below w.heap.size w w' ∧
    ((∃ K g, OKK K ∧ savB K = b ∧ e = .returned (.tuple #[.pointer (some ⟨g, 0, none⟩), .int .i64 0]) ∧ TQ CA w.heap.size w' g K) ∨ ((∀ K, OKK K → savB K = b → False) ∧ e = .returned (.tuple #[.pointer none, .int .i64 14]))) := by
  refine (C.load h E hl).mono ?_
  rintro e w' ⟨h1, ⟨K, g, h2, h3, h4, h5⟩ | h6⟩
  · exact ⟨h1, .inl ⟨K, g, h2, h3, h4, ⟨_, h5, fun k hk => hk.1⟩⟩⟩
  · exact ⟨h1, .inr h6⟩
/-- what the laws answer -/
def Good (w : World) (e : Ending) (w' : World) : Prop := e = .returned (.bool true) ∧ Below w.heap.size w w'
/-- two caches and the bytes, behind the turn -/
structure TX (CA : World → (Nat → Prop) → Nat → List Lb → Prop) (w W : World) (c g : Nat) (a9 : Option Addr) (n9 c9 : Nat) (K K' : List Lb) : Prop where
  bel : Below w.heap.size w W
  ev : Ev W
  tc : TQ CA w.heap.size W c K
  tg : TQ CA w.heap.size W g K'
  b : BS W (.slice a9 n9 c9) (savB K')
  len : K'.length = K.length
theorem TX.later {CA : World → (Nat → Prop) → Nat → List Lb → Prop} (C : CcP CA) {w W W' : World} {c g n9 c9 : Nat} {a9 : Option Addr} {K K' : List Lb} (h : TX CA w W c g a9 n9 c9 K K') (hb : Below W.heap.size W W') : TX CA w W' c g a9 n9 c9 K K' :=
  ⟨bstep h.bel hb, h.ev.later hb, h.tc.later C hb, h.tg.later C hb, h.b.later hb, h.len⟩

set_option maxRecDepth 100000 in
set_option maxHeartbeats 16000000 in
theorem t31 {CA : World → (Nat → Prop) → Nat → List Lb → Prop} (C : CcP CA) {w W : World} {c g n9 c9 : Nat} {a9 : Option Addr} {K K' : List Lb} {lv0 lv1 lv2 lv3 lv4 lv5 lv6 lv8 lv10 lv11 lv12 lv13 lv14 lv15 lv16 lv18 lv19 lv20 lv21 lv22 lv23 lv24 lv25 lv26 lv27 lv28 lv29 lv30 lv31 lv32 lv33 lv34 lv35 lv36 lv37 lv38 lv39 lv40 lv41 lv42 lv43 lv44 lv45 lv46 lv47 lv48 lv49 lv50 lv51 lv52 lv53 lv54 lv55 lv56 lv57 lv58 lv59 lv60 lv61 lv62 lv63 lv64 lv65 lv66 lv67 lv68 lv69 lv70 lv71 lv72 lv73 lv74 lv75 lv76 lv77 lv78 lv79 lv80 lv81 lv82 lv83 lv84 lv85 lv86 lv87 lv88 lv89 lv90 lv91 lv92 lv93 lv94 lv95 lv96 lv97 lv98 lv99 lv100 lv101 lv102 lv103 lv104 lv105 lv106 lv107 lv108 lv109 lv110 lv111 lv112 lv113 lv114 lv115 lv116 lv117 lv118 lv119 lv120 lv121 lv122 lv123 lv124 lv125 lv126 lv127 lv128 lv129 lv130 lv131 lv132 lv133 lv134 lv135 lv136 lv137 lv138 lv139 lv140 lv141 lv142 lv143 lv144 lv145 lv146 lv147 lv148 lv149 lv150 lv151 lv152 lv153 lv154 lv155 lv156 lv157 lv158 lv159 lv160 lv161 lv162 lv163 lv164 lv165 lv166 lv167 lv168 lv169 lv170 lv171 lv172 lv173 lv174 lv175 lv176 lv177 lv178 lv179 lv180 lv181 lv182 lv183 lv184 lv185 lv186 lv187 lv188 lv189 lv190 lv191 lv192 lv193 lv194 lv195 lv196 lv197 lv198 lv199 lv200 lv201 lv202 lv203 lv204 lv205 lv206 lv207 lv208 lv209 lv210 lv211 lv212 lv213 lv214 lv215 lv216 lv217 lv218 lv219 lv220 lv221 lv222 lv223 lv224 lv225 lv226 lv227 lv228 lv229 lv230 lv231 lv232 lv233 lv234 lv235 : Value} (X : Hid (TX CA w W c g a9 n9 c9 K K')) :
    Code.wp Tryz.prog (suff 31 (Tryz.f4.body.getD .skip)) (bodyPost Tryz.prog Tryz.f4 (Good w)) ⟨#[lv0, lv1, lv2, lv3, lv4, lv5, lv6, .pointer (some ⟨c, 0, none⟩), lv8, .slice a9 n9 c9, lv10, lv11, lv12, lv13, lv14, lv15, lv16, .pointer (some ⟨g, 0, none⟩), lv18, lv19, lv20, lv21, lv22, lv23, lv24, lv25, lv26, lv27, lv28, lv29, lv30, lv31, lv32, lv33, lv34, lv35, lv36, lv37, lv38, lv39, lv40, lv41, lv42, lv43, lv44, lv45, lv46, lv47, lv48, lv49, lv50, lv51, lv52, lv53, lv54, lv55, lv56, lv57, lv58, lv59, lv60, lv61, lv62, lv63, lv64, lv65, lv66, lv67, lv68, lv69, lv70, lv71, lv72, lv73, lv74, lv75, lv76, lv77, lv78, lv79, lv80, lv81, lv82, lv83, lv84, lv85, lv86, lv87, lv88, lv89, lv90, lv91, lv92, lv93, lv94, lv95, lv96, lv97, lv98, lv99, lv100, lv101, lv102, lv103, lv104, lv105, lv106, lv107, lv108, lv109, lv110, lv111, lv112, lv113, lv114, lv115, lv116, lv117, lv118, lv119, lv120, lv121, lv122, lv123, lv124, lv125, lv126, lv127, lv128, lv129, lv130, lv131, lv132, lv133, lv134, lv135, lv136, lv137, lv138, lv139, lv140, lv141, lv142, lv143, lv144, lv145, lv146, lv147, lv148, lv149, lv150, lv151, lv152, lv153, lv154, lv155, lv156, lv157, lv158, lv159, lv160, lv161, lv162, lv163, lv164, lv165, lv166, lv167, lv168, lv169, lv170, lv171, lv172, lv173, lv174, lv175, lv176, lv177, lv178, lv179, lv180, lv181, lv182, lv183, lv184, lv185, lv186, lv187, lv188, lv189, lv190, lv191, lv192, lv193, lv194, lv195, lv196, lv197, lv198, lv199, lv200, lv201, lv202, lv203, lv204, lv205, lv206, lv207, lv208, lv209, lv210, lv211, lv212, lv213, lv214, lv215, lv216, lv217, lv218, lv219, lv220, lv221, lv222, lv223, lv224, lv225, lv226, lv227, lv228, lv229, lv230, lv231, lv232, lv233, lv234, lv235], []⟩ W := by
  conv => arg 2; whnf
  obtain ⟨n, hn⟩ : ∃ n, K'.length = n := ⟨_, rfl⟩
  have HLg : Hid (∀ Z, Below W.heap.size W Z → Calls Tryz.prog 12 #[.pointer (some ⟨g, 0, none⟩)] Z fun e w' => e = .returned (.int .i64 n) ∧ Below Z.heap.size Z w') := fun Z hZ => by rw [← hn]; exact (X.out.later C hZ).tg.len C
  have HLc : Hid (∀ Z, Below W.heap.size W Z → Calls Tryz.prog 12 #[.pointer (some ⟨c, 0, none⟩)] Z fun e w' => e = .returned (.int .i64 n) ∧ Below Z.heap.size Z w') := fun Z hZ => by rw [← hn, X.out.len]; exact (X.out.later C hZ).tc.len C
  obtain ⟨b, hb⟩ : ∃ b, savB K' = b := ⟨_, rfl⟩
  have HSg : Hid (∀ Z, Below W.heap.size W Z → Calls Tryz.prog 14 #[.pointer (some ⟨g, 0, none⟩)] Z fun e w' => ∃ v', e = .returned v' ∧ OwnB Z.heap.size w' v' b ∧ Below Z.heap.size Z w') := fun Z hZ => by rw [← hb]; exact (X.out.later C hZ).tg.save C (X.out.later C hZ).ev
  have HV : Hid (∀ Z, Below W.heap.size W Z → (convert 41 9 (.slice a9 n9 c9)).run Tryz.prog Z = .ok (.string (bs b)) Z) := fun Z hZ => by rw [← hb]; exact conv_bs (X.out.later C hZ).b
  have q1 : ((bs b).toList == (bs b).toList) = true := by simp
  clear hn hb
  go_wp2_with fail
  refine wp_region_noPanic ?_
  refine wp_region_held_drew (S := fun W' => (convert 41 9 (.slice a9 n9 c9)).run Tryz.prog W' = .ok (.string (bs b)) W') (by kernel_rfl) (by exact HV.out _ (bd1 W)) (fun hHeld => ?_)
  refine wpAnyH_take (i := 0) (oi := { dst := some 219, op := _, type := _, pos := _, after := _, guard := _ }) (v := ?vx1) rfl (by kernel_rfl) (by kernel_rfl) (by kernel_rfl) (fun _ _ _ h => h) (Or.inl ⟨by rfl, ?hyx1⟩) (by assumption) ?restx1
  case hyx1 => (intro w hSw; (try dsimp only at hSw); go_simp; try with_reducible rfl)
  try simp only [Act.put, List.setIfInBounds_toArray, List.set_cons_zero, List.set_cons_succ]
  refine wpAnyH_take (i := 1) (oi := { dst := some 220, op := _, type := _, pos := _, after := _, guard := _ }) (v := ?vx2) rfl (by kernel_rfl) (by kernel_rfl) (by kernel_rfl) (fun _ _ _ h => h) (Or.inl ⟨by rfl, ?hyx2⟩) (by assumption) ?restx2
  case hyx2 => (intro w hSw; (try dsimp only at hSw); go_simp; try with_reducible rfl)
  try simp only [Act.put, List.setIfInBounds_toArray, List.set_cons_zero, List.set_cons_succ]
  refine wpAnyH_take (i := 2) (oi := { dst := some 221, op := _, type := _, pos := _, after := _, guard := _ }) (v := ?vx3) rfl (by kernel_rfl) (by kernel_rfl) (by kernel_rfl) (fun _ _ _ h => h) (Or.inl ⟨by rfl, ?hyx3⟩) (by assumption) ?restx3
  case hyx3 => (intro w hSw; (try dsimp only at hSw); go_simp; try with_reducible rfl)
  try simp only [Act.put, List.setIfInBounds_toArray, List.set_cons_zero, List.set_cons_succ]
  refine wpAnyH_take (i := 4) (oi := { dst := some 223, op := _, type := _, pos := _, after := _, guard := _ }) (v := ?vx4) rfl (by kernel_rfl) (by kernel_rfl) (by kernel_rfl) (fun _ _ _ h => h) (Or.inl ⟨by rfl, ?hyx4⟩) (by assumption) ?restx4
  case hyx4 => (intro w hSw; (try dsimp only at hSw); go_simp; try with_reducible rfl)
  try simp only [Act.put, List.setIfInBounds_toArray, List.set_cons_zero, List.set_cons_succ]
  refine wpAnyH_take (i := 5) (oi := { dst := some 224, op := _, type := _, pos := _, after := _, guard := _ }) (v := ?vx5) rfl (by kernel_rfl) (by kernel_rfl) (by kernel_rfl) (fun _ _ _ h => h) (Or.inl ⟨by rfl, ?hyx5⟩) (by assumption) ?restx5
  case hyx5 => (intro w hSw; (try dsimp only at hSw); go_simp; try with_reducible rfl)
  try simp only [Act.put, List.setIfInBounds_toArray, List.set_cons_zero, List.set_cons_succ]
  refine wpAnyH_take (i := 6) (oi := { dst := some 225, op := _, type := _, pos := _, after := _, guard := _ }) (v := ?vx6) rfl (by kernel_rfl) (by kernel_rfl) (by kernel_rfl) (fun _ _ _ h => h) (Or.inl ⟨by rfl, ?hyx6⟩) (by assumption) ?restx6
  case hyx6 => (intro w hSw; (try dsimp only at hSw); go_simp; try with_reducible rfl)
  try simp only [Act.put, List.setIfInBounds_toArray, List.set_cons_zero, List.set_cons_succ]
  refine wpAnyH_ready (rs := [3]) (by kernel_rfl) (by simp) ?_
  refine AllReadyH.cons (o := { dst := some 222, op := _, type := _, pos := _, after := _, guard := _ }) rfl (fun K9 hK => ?_) AllReadyH.nil
  go_simp
  with_reducible refine (HLg.out W.drew (bd1 W)).mono ?_
  rintro e z1 ⟨rfl, hb⟩
  have Bz1 : Hid (Below W.heap.size W z1) := bstep (bd1 W) hb
  clear hb
  refine hK.out _ _ (HV.out z1 Bz1.out) (fun hHeld => ?_)
  clear hK K9
  try simp only [List.setIfInBounds_toArray, List.set_cons_zero, List.set_cons_succ]
  refine wpAnyH_ready (rs := [7]) (by kernel_rfl) (by simp) ?_
  refine AllReadyH.cons (o := { dst := some 226, op := _, type := _, pos := _, after := _, guard := _ }) rfl (fun K9 hK => ?_) AllReadyH.nil
  go_simp
  with_reducible refine (HLc.out z1 Bz1.out).mono ?_
  rintro e z2 ⟨rfl, hb⟩
  have Bz2 : Hid (Below W.heap.size W z2) := bstep Bz1.out hb
  clear hb
  refine hK.out _ _ (HV.out z2 Bz2.out) (fun hHeld => ?_)
  clear hK K9
  try simp only [List.setIfInBounds_toArray, List.set_cons_zero, List.set_cons_succ]
  refine wpAnyH_take (i := 8) (oi := { dst := some 227, op := _, type := _, pos := _, after := _, guard := _ }) (v := ?vx7) rfl (by kernel_rfl) (by kernel_rfl) (by kernel_rfl) (fun _ _ _ h => h) (Or.inl ⟨by rfl, ?hyx7⟩) (by assumption) ?restx7
  case hyx7 => (intro w hSw; (try dsimp only at hSw); go_simp; try with_reducible rfl)
  try simp only [Act.put, List.setIfInBounds_toArray, List.set_cons_zero, List.set_cons_succ]
  refine wpAnyH_take (i := 9) (oi := { dst := some 228, op := _, type := _, pos := _, after := _, guard := _ }) (v := ?vx8) rfl (by kernel_rfl) (by kernel_rfl) (by kernel_rfl) (fun _ _ _ h => h) (Or.inl ⟨by rfl, ?hyx8⟩) (by assumption) ?restx8
  case hyx8 => (intro w hSw; (try dsimp only at hSw); go_simp; try with_reducible rfl)
  try simp only [Act.put, List.setIfInBounds_toArray, List.set_cons_zero, List.set_cons_succ]
  refine wpAnyH_take (i := 10) (oi := { dst := some 229, op := _, type := _, pos := _, after := _, guard := _ }) (v := ?vx9) rfl (by kernel_rfl) (by kernel_rfl) (by kernel_rfl) (fun _ _ _ h => h) (Or.inl ⟨by rfl, ?hyx9⟩) (by assumption) ?restx9
  case hyx9 => (intro w hSw; (try dsimp only at hSw); go_simp; try with_reducible rfl)
  try simp only [Act.put, List.setIfInBounds_toArray, List.set_cons_zero, List.set_cons_succ]
  refine wpAnyH_take (i := 13) (oi := { dst := some 232, op := _, type := _, pos := _, after := _, guard := _ }) (v := ?vx10) rfl (by kernel_rfl) (by kernel_rfl) (by kernel_rfl) (fun _ _ _ h => h) (Or.inl ⟨by rfl, ?hyx10⟩) (by assumption) ?restx10
  case hyx10 => (intro w hSw; (try dsimp only at hSw); go_simp; try with_reducible rfl)
  try simp only [Act.put, List.setIfInBounds_toArray, List.set_cons_zero, List.set_cons_succ]
  refine wpAnyH_take (i := 14) (oi := { dst := some 233, op := _, type := _, pos := _, after := _, guard := _ }) (v := ?vx11) rfl (by kernel_rfl) (by kernel_rfl) (by kernel_rfl) (fun _ _ _ h => h) (Or.inl ⟨by rfl, ?hyx11⟩) (by assumption) ?restx11
  case hyx11 => (intro w hSw; (try dsimp only at hSw); go_simp; try with_reducible rfl)
  try simp only [Act.put, List.setIfInBounds_toArray, List.set_cons_zero, List.set_cons_succ]
  refine wpAnyH_ready (rs := [11]) (by kernel_rfl) (by simp) ?_
  refine AllReadyH.cons (o := { dst := some 230, op := _, type := _, pos := _, after := _, guard := _ }) rfl (fun K9 hK => ?_) AllReadyH.nil
  go_simp
  with_reducible refine (HSg.out z2 Bz2.out).mono ?_
  rintro e z3 ⟨v3, rfl, ho3, hb⟩
  have Bz3 : Hid (Below W.heap.size W z3) := bstep Bz2.out hb
  have hv3 : (convert 41 9 v3).run Tryz.prog z3 = .ok (.string (bs b)) z3 := conv_bs ho3.bs
  clear ho3
  clear hb
  refine hK.out _ _ (HV.out z3 Bz3.out) (fun hHeld => ?_)
  clear hK K9
  try simp only [List.setIfInBounds_toArray, List.set_cons_zero, List.set_cons_succ]
  refine wpAnyH_ready (rs := [12]) (by kernel_rfl) (by simp) ?_
  refine AllReadyH.cons (o := { dst := some 231, op := _, type := _, pos := _, after := _, guard := _ }) rfl (fun K9 hK => ?_) AllReadyH.nil
  go_simp
  refine hK.out _ _ (HV.out z3 Bz3.out) (fun hHeld => ?_)
  clear hK K9
  try simp only [List.setIfInBounds_toArray, List.set_cons_zero, List.set_cons_succ]
  refine wpAnyH_take (i := 15) (oi := { dst := some 234, op := _, type := _, pos := _, after := _, guard := _ }) (v := ?vx12) rfl (by kernel_rfl) (by kernel_rfl) (by kernel_rfl) (fun _ _ _ h => h) (Or.inl ⟨by rfl, ?hyx12⟩) (by assumption) ?restx12
  case hyx12 => (intro w hSw; (try dsimp only at hSw); go_simp; try with_reducible rfl)
  try simp only [Act.put, List.setIfInBounds_toArray, List.set_cons_zero, List.set_cons_succ]
  refine wpAnyH_take (i := 16) (oi := { dst := some 235, op := _, type := _, pos := _, after := _, guard := _ }) (v := ?vx13) rfl (by kernel_rfl) (by kernel_rfl) (by kernel_rfl) (fun _ _ _ h => h) (Or.inl ⟨by rfl, ?hyx13⟩) (by assumption) ?restx13
  case hyx13 => (intro w hSw; (try dsimp only at hSw); go_simp; try with_reducible rfl)
  try simp only [Act.put, List.setIfInBounds_toArray, List.set_cons_zero, List.set_cons_succ]
  refine wpAnyH_take (i := 17) (oi := { dst := some 6, op := _, type := _, pos := _, after := _, guard := _ }) (v := ?vx14) rfl (by kernel_rfl) (by kernel_rfl) (by kernel_rfl) (fun _ _ _ h => h) (Or.inl ⟨by rfl, ?hyx14⟩) (by assumption) ?restx14
  case hyx14 => (intro w hSw; (try dsimp only at hSw); go_simp; try with_reducible rfl)
  try simp only [Act.put, List.setIfInBounds_toArray, List.set_cons_zero, List.set_cons_succ]
  refine wpAnyH_done (by kernel_rfl) ?_ _
  refine NoPanic.normal ?_
  clear hHeld
  go_wp2_with fail
  go_ret
  exact ⟨rfl, bstep X.out.bel Bz3.out⟩
end Go.Proofs.YtddaoloabfkheaaGreatDoor
