/-
  The document's cache: where a key is, what is a manifest's path.
  The document's texts: how many, and each.
  The document's Same: two lists of targets held against each other.
  The document's Same, whole.
-/
import Derived.Test.YtddaoloabfkheaaGreatDoorJCk
import Derived.Test.YtddaoloabfkheaaGreatDoorJJoin
import Derived.Test.YtddaoloabfkheaaGreatDoorJOBase
namespace Go.Proofs.YtddaoloabfkheaaGreatDoor
open Go.RowKit

/-- where a key is; -1: nowhere -/
def kix (K : List Lb) (k : Lb) : Int := if k ∈ K then (K.idxOf k : Int) else -1
theorem kix_here {K : List Lb} {a : Lb} {k : Nat} (hk : k < K.length) (e : K[k] = a) (hn : ∀ x ∈ K.take k, x ≠ a) : kix K a = (k : Int) := by
  have hm : a ∈ K := e ▸ List.getElem_mem hk
  unfold kix
  rw [if_pos hm]
  have e2 : K = K.take k ++ a :: K.drop (k + 1) := by
    rw [← e, List.getElem_cons_drop, List.take_append_drop]
  have h3 : a ∉ K.take k := fun h => hn a h rfl
  rw [e2, List.idxOf_append, if_neg h3, List.length_take, List.idxOf_cons_self]
  omega
theorem kix_none {K : List Lb} {a : Lb} (hn : ∀ x ∈ K, x ≠ a) : kix K a = -1 := by
  unfold kix
  rw [if_neg (fun h => hn a h rfl)]
theorem kix_range (K : List Lb) (a : Lb) : (a ∈ K ∧ 0 ≤ kix K a ∧ kix K a < K.length) ∨ (a ∉ K ∧ kix K a = -1) := by
  unfold kix
  by_cases h : a ∈ K
  · left
    rw [if_pos h]
    have := List.idxOf_lt_length_of_mem h
    exact ⟨h, by omega, by omega⟩
  · right
    rw [if_neg h]
    exact ⟨h, rfl⟩

set_option maxRecDepth 100000 in
set_option maxHeartbeats 2000000 in
theorem rkat_any {w : World} {g : Nat} {v : Value} {K : List Lb} (hc : w.cell? ⟨g, 0, none⟩ = some v) (hgl : g < w.heap.size) (h : LS w v K) (hl : K.length ≤ 100000000) (a : Lb) :
    Calls Tryz.prog 47 #[.pointer (some ⟨g, 0, none⟩), a.val] w fun e w' => e = .returned (.int .i64 (kix K a)) ∧ Below w.heap.size w w' := by
  have H : Hid (LS w v K) := h
  obtain ⟨av, cv, hvv, _⟩ := h.form
  obtain ⟨n, hn⟩ : ∃ n, K.length = n := ⟨_, rfl⟩
  rw [hn] at hvv hl
  subst hvv
  have HN : Hid (K.length = n) := hn
  have HC : Hid (∀ W : World, Below w.heap.size w W → W.cell? ⟨g, 0, none⟩ = some (.slice av n cv)) := fun W hW => (hW.cell (p := ⟨g, 0, none⟩) hgl).trans hc
  clear h hn hc hgl
  obtain ⟨p, m⟩ := a
  simp only [Lb.val]
  have hq := eql_runK'
  have hg := guard_runK
  have HRB : Hid (RBK (w.alloc (.cells #[.string (bs p), .string (bs m)] 106)) w.heap.size ⟨p, m⟩) := RBK.new w ⟨p, m⟩
  go_enter Tryz.func47, Tryz.ntmps47
  go_wp2_with fail
  go_loopw [5] (fun s5 wr => ∃ k : Nat, s5 = .int .i64 k ∧ k ≤ n ∧ RBK wr w.heap.size ⟨p, m⟩ ∧ (∀ x ∈ K.take k, x ≠ ⟨p, m⟩) ∧ Below w.heap.size w wr) (fun s5 _ => n - (intOf s5).toNat)
  case atStart => exact ⟨0, rfl, by omega, HRB.out, by simp, balloc _ _⟩
  case round =>
    obtain ⟨k, rfl, hk, hR, hx, hb⟩ := hrel
    have HX : Hid (RBK wr w.heap.size ⟨p, m⟩ ∧ (∀ x ∈ K.take k, x ≠ ⟨p, m⟩) ∧ Below w.heap.size w wr) := ⟨hR, hx, hb⟩
    obtain ⟨c0, c1, _, _⟩ := hR.cells
    simp only at c0 c1
    have cg := HC.out wr hb
    clear hR hx hb
    by_cases hlt : k < n
    · have hkl : k < K.length := by rw [HN.out]; exact hlt
      obtain ⟨b, off, ea, hbw, d0, d1⟩ := LS.at H.out HX.out.2.2 hkl
      subst ea
      obtain ⟨x, hxe⟩ : ∃ x, K[k] = x := ⟨_, rfl⟩
      have HA : Hid (K[k] = x) := hxe
      rw [hxe] at d0 d1
      clear hxe
      obtain ⟨q, r⟩ := x
      simp only at d0 d1
      have k1 : (k : Int) < (n : Int) := by omega
      by_cases he : (⟨q, r⟩ : Lb) = ⟨p, m⟩
      · have he2 : keq ⟨q, r⟩ ⟨p, m⟩ = true := by unfold keq; simpa using he
        have HE : Hid ((⟨q, r⟩ : Lb) = ⟨p, m⟩) := he
        clear he
        go_wp2_with fail
        go_quiet (fail)
        go_wp2_with fail
        go_ret
        refine ⟨?_, bstep HX.out.2.2 (bd _ _)⟩
        rw [kix_here hkl (HA.out.trans HE.out) HX.out.2.1]; rfl
      · have he2 : keq ⟨q, r⟩ ⟨p, m⟩ = false := by unfold keq; simpa using he
        go_wp2_with fail
        go_quiet (fail)
        go_wp2_with fail
        go_roundw
        case rel =>
          refine ⟨k + 1, by go_num, by omega, HX.out.1.later (bd _ _), ?_, bstep HX.out.2.2 (bd _ _)⟩
          intro x hx
          rw [List.take_succ_eq_append_getElem hkl, List.mem_append, HA.out] at hx
          rcases hx with hx | hx
          · exact HX.out.2.1 x hx
          · have : x = ⟨q, r⟩ := by simpa using hx
            rw [this]; exact he
        case measure => simp [intOf]; omega
    · obtain rfl : n = k := by omega
      have k1 : ¬ (n : Int) < (n : Int) := by omega
      go_wp2_with fail
      go_ret
      refine ⟨?_, HX.out.2.2⟩
      have hx := HX.out.2.1
      rw [← HN.out, List.take_length] at hx
      rw [kix_none hx]; rfl

set_option maxRecDepth 100000 in
set_option maxHeartbeats 1000000 in
theorem rright_any (p : List UInt8) (w : World) (hp : p.length ≤ 1000000000) : Calls Tryz.prog 46 #[.string (bs p)] w fun e w' => e = .returned (.bool (rgt p)) ∧ Below w.heap.size w w' := by
  have HV : Hid (∀ W : World, Calls Tryz.prog 39 #[.string (bs p)] W fun e w' => e = .returned (.bool (okP p)) ∧ Below W.heap.size W w') := fun W => rvalid_any p W hp
  have HB : Hid (∀ W : World, Calls Tryz.prog 83 #[.string (bs p)] W fun e w' => e = .returned (.string (bs (base p))) ∧ w' = W) := fun W => rbase_any p W (by omega)
  have e1 : (⟨#[84, 65, 82, 71, 69, 84, 83]⟩ : ByteArray) = bs wName := rfl
  unfold rgt
  cases hok : okP p
  · rw [hok] at HV
    go_enter Tryz.func46, Tryz.ntmps46
    go_wp2_with fail
    refine (HV.out _).mono ?_
    rintro e w1 ⟨rfl, hb1⟩
    have H1 : Hid (Below w.heap.size w w1) := hb1
    clear hb1
    go_wp2_with fail
    go_ret
    exact ⟨rfl, H1.out⟩
  · rw [hok] at HV
    go_enter Tryz.func46, Tryz.ntmps46
    go_wp2_with fail
    refine (HV.out _).mono ?_
    rintro e w1 ⟨rfl, hb1⟩
    have H1 : Hid (Below w.heap.size w w1) := hb1
    clear hb1
    go_wp2_with fail
    refine (HB.out _).mono ?_
    rintro e w2 ⟨rfl, rfl⟩
    go_wp2_with fail
    go_ret
    refine ⟨?_, H1.out⟩
    show Ending.returned (.bool _) = _
    simp [bs_toList]
end Go.Proofs.YtddaoloabfkheaaGreatDoor

namespace Go.Proofs.YtddaoloabfkheaaGreatDoor
open Go.RowKit

theorem SS.at {w : World} {a : Option Addr} {c n : Nat} {l : List (List UInt8)} (h : SS w (.slice a n c) l) {wr : World} (hb : Below w.heap.size w wr) {k : Nat} (hk : k < l.length) : ∃ b off, a = some ⟨b, off, none⟩ ∧ b < w.heap.size ∧ wr.cell? ⟨b, off + k, none⟩ = some (.string (bs l[k])) := by
  obtain ⟨a', c', e, h2⟩ := h.form
  injection e with e1 e2 e3
  subst e1
  obtain ⟨b, off, e4, h3, h4⟩ := h2 k hk
  exact ⟨b, off, e4, h3, by rw [hb.cell (p := ⟨b, off + k, none⟩) h3]; exact h4⟩
theorem rput_at {w : World} {v : Value} {l : List UInt8} (h : BS w v l) (n : Int) (x : Nat) (hn : n = (x : Int)) (hx : x < 18446744073709551616) (z : Int) (W : Nat) (hz : z = (W : Int)) (hW : W ≤ 8) (hm : l.length ≤ 1000000000000) :
    Calls Tryz.prog 86 #[v, .int .u64 n, .int .i64 z] w fun e w' => ∃ v', e = .returned v' ∧ OwnB w.heap.size w' v' (l ++ le W x) ∧ Below w.heap.size w w' := by
  subst hn hz
  exact rput_any h x hx W hW hm
theorem rtext_at {w : World} {v : Value} {l : List UInt8} (h : BS w v l) (s : List UInt8) (hs : s.length ≤ 1000000000) (hm : l.length ≤ 500000000000) :
    Calls Tryz.prog 85 #[v, .string (bs s)] w fun e w' => ∃ v', e = .returned v' ∧ OwnB w.heap.size w' v' (l ++ txB s) ∧ Below w.heap.size w w' :=
  (rtext_any h (bs s) hs hm).mono fun e w' ⟨v', h1, h2, h3⟩ => ⟨v', h1, by
    have e : l ++ txB s = l ++ le 4 (bs s).size ++ (bs s).data.toList := by unfold txB; rw [List.append_assoc]; rfl
    rw [e]; exact h2, h3⟩
theorem flat_take {α : Type} (f : α → List UInt8) (l : List α) (k : Nat) (hk : k < l.length) : (l.take (k + 1)).flatMap f = (l.take k).flatMap f ++ f l[k] := by
  rw [List.take_succ_eq_append_getElem hk, List.flatMap_append]; simp
theorem flat_le {α : Type} (f : α → List UInt8) (l : List α) (k : Nat) : ((l.take k).flatMap f).length ≤ (l.flatMap f).length := by
  conv => rhs; rw [← List.take_append_drop k l, List.flatMap_append, List.length_append]
  omega
theorem flat_one {α : Type} (f : α → List UInt8) {l : List α} {x : α} (hx : x ∈ l) : (f x).length ≤ (l.flatMap f).length := by
  induction l with
  | nil => simp at hx
  | cons y r ih =>
    rw [List.flatMap_cons, List.length_append]
    rcases List.mem_cons.1 hx with rfl | h
    · omega
    · have := ih h; omega
theorem txB_len (s : List UInt8) : (txB s).length = 4 + s.length := by simp [txB, le_length]
theorem OwnB.later {base : Nat} {w w' : World} {v : Value} {l : List UInt8} (h : OwnB base w v l) (hb : Below w.heap.size w w') : OwnB base w' v l := by
  rcases h with ⟨h0, h | ⟨g, cap, cur, rfl, hb1, hg, hr⟩⟩
  · exact ⟨h0, .inl h⟩
  · exact ⟨h0, .inr ⟨g, cap, cur, rfl, hb1, (hb.block g (Array.getElem?_eq_some_iff.1 hg).1).trans hg, hr⟩⟩

set_option maxRecDepth 100000 in
set_option maxHeartbeats 2000000 in
theorem rtexts_any {w : World} {v u : Value} {b : List UInt8} {l : List (List UInt8)} (h : BS w v b) (hs : SS w u l) (hm : b.length ≤ 200000000000) (hl : l.length ≤ 100000000) (ht : (txsB l).length ≤ 1000000000) :
    Calls Tryz.prog 87 #[v, u] w fun e w' => ∃ v', e = .returned v' ∧ OwnB w.heap.size w' v' (b ++ txsB l) ∧ Below w.heap.size w w' := by
  have H : Hid (BS w v b ∧ SS w u l) := ⟨h, hs⟩
  obtain ⟨av, cv, hvv, _⟩ := hs.form
  obtain ⟨n, hn⟩ : ∃ n, l.length = n := ⟨_, rfl⟩
  rw [hn] at hvv hl
  subst hvv
  have HN : Hid (l.length = n) := hn
  have HT : Hid ((l.flatMap txB).length ≤ 1000000000) := by show _ ≤ _; unfold txsB at ht; rw [List.length_append] at ht; omega
  clear h hs hn ht
  go_enter Tryz.func87, Tryz.ntmps87
  go_wp2_with fail
  refine (rput_at H.out.1 _ n (by simp) (by omega) _ 4 rfl (by omega) (by omega)).mono ?_
  rintro e w1 ⟨v1, rfl, ho1, hb1⟩
  have H1 : Hid (OwnB w.heap.size w1 v1 (b ++ le 4 n) ∧ Below w.heap.size w w1) := ⟨ho1, hb1⟩
  clear ho1 hb1
  go_wp2_with fail
  go_loopw [0, 5] (fun s0 s5 wr => ∃ (k : Nat) (v0 : Value), v0 = s0 ∧ s5 = .int .i64 k ∧ k ≤ n ∧ OwnB w.heap.size wr v0 (b ++ le 4 n ++ (l.take k).flatMap txB) ∧ Below w.heap.size w wr) (fun _ s5 _ => n - (intOf s5).toNat)
  case atStart => exact ⟨0, _, rfl, rfl, by omega, by simpa using H1.out.1, H1.out.2⟩
  case round =>
    obtain ⟨k, v0, rfl, rfl, hk, ho, hb⟩ := hrel
    by_cases hlt : k < n
    · have hkl : k < l.length := by rw [HN.out]; exact hlt
      obtain ⟨g, off, ea, hbw, d0⟩ := SS.at H.out.2 hb hkl
      subst ea
      obtain ⟨x, hxe⟩ : ∃ x, l[k] = x := ⟨_, rfl⟩
      have hx1 := flat_one txB (List.getElem_mem hkl)
      have hx2 := flat_le txB l k
      have hx3 := HT.out
      have HX : Hid (OwnB w.heap.size wr v0 (b ++ le 4 n ++ (l.take k).flatMap txB) ∧ Below w.heap.size w wr ∧ l[k] = x ∧ x.length ≤ 1000000000 ∧ ((l.take k).flatMap txB).length ≤ 1000000000) := ⟨ho, hb, hxe, by rw [hxe, txB_len] at hx1; omega, by omega⟩
      rw [hxe] at d0
      clear hxe ho hb hx1 hx2 hx3
      have k1 : (k : Int) < (n : Int) := by omega
      go_wp2_with fail
      refine (rtext_at HX.out.1.bs x HX.out.2.2.2.1 (by rw [List.length_append, List.length_append, le_length]; have := HX.out.2.2.2.2; omega)).mono ?_
      rintro e w2 ⟨v2, rfl, ho2, hb2⟩
      have H2 : Hid (OwnB w.heap.size w2 v2 (b ++ le 4 n ++ (l.take (k + 1)).flatMap txB) ∧ Below w.heap.size w w2) := by
        refine ⟨?_, bstep HX.out.2.1 hb2⟩
        rw [flat_take txB l k hkl, HX.out.2.2.1, ← List.append_assoc]
        exact ho2.mono HX.out.2.1.size
      clear ho2 hb2
      go_wp2_with fail
      go_roundw
      case rel => exact ⟨k + 1, _, rfl, by go_num, by omega, H2.out.1, H2.out.2⟩
      case measure => simp [intOf]; omega
    · obtain rfl : n = k := by omega
      have HX : Hid (OwnB w.heap.size wr v0 (b ++ le 4 n ++ (l.take n).flatMap txB) ∧ Below w.heap.size w wr) := ⟨ho, hb⟩
      clear ho hb
      have k1 : ¬ (n : Int) < (n : Int) := by omega
      go_wp2_with fail
      go_ret
      refine ⟨_, rfl, ?_, HX.out.2⟩
      have := HX.out.1
      rw [← HN.out, List.take_length, List.append_assoc] at this
      exact this
end Go.Proofs.YtddaoloabfkheaaGreatDoor

namespace Go.Proofs.YtddaoloabfkheaaGreatDoor
open Go.RowKit

/-- a target reads as -/
structure TRead (w : World) (v : Tv) (t : Tg) : Prop where
  name : v.name = t.name
  s : SS w v.s t.srcs
  d : LS w v.d t.deps
  e : SS w v.e t.see
theorem TRead.later {w w' : World} {v : Tv} {t : Tg} (h : TRead w v t) (hb : Below w.heap.size w w') : TRead w' v t := ⟨h.name, h.s.later hb, h.d.later hb, h.e.later hb⟩
def TsRead (w : World) : List Tv → List Tg → Prop
  | [], [] => True
  | a :: r, b :: q => TRead w a b ∧ TsRead w r q
  | _, _ => False
theorem TsRead.len {w : World} : ∀ {a : List Tv} {b : List Tg}, TsRead w a b → a.length = b.length
  | [], [], _ => rfl
  | _ :: _, _ :: _, h => by simp only [List.length_cons, h.2.len]
theorem TsRead.later {w w' : World} (hb : Below w.heap.size w w') : ∀ {a : List Tv} {b : List Tg}, TsRead w a b → TsRead w' a b
  | [], [], _ => trivial
  | _ :: _, _ :: _, h => ⟨h.1.later hb, TsRead.later hb h.2⟩
theorem TsRead.get {w : World} : ∀ {a : List Tv} {b : List Tg}, TsRead w a b → ∀ (k : Nat) (ha : k < a.length) (hb : k < b.length), TRead w a[k] b[k]
  | _ :: _, _ :: _, h, 0, _, _ => h.1
  | _ :: _, _ :: _, h, k + 1, ha, hb => TsRead.get h.2 k (by simpa using ha) (by simpa using hb)
theorem TOwn.read {base : Nat} {w : World} {v : Tv} {t : Tg} (h : TOwn base w v t) : TRead w v t := ⟨h.name, own_ss h.s, h.d.rs, own_ss h.e⟩
theorem TsOwn.read {base : Nat} {w : World} : ∀ {a : List Tv} {b : List Tg}, TsOwn base w a b → TsRead w a b
  | [], [], _ => trivial
  | _ :: _, _ :: _, h => ⟨h.1.read, h.2.read⟩
/-- a list of targets reads as -/
structure GR (w : World) (v : Value) (l : List Tg) : Prop where
  it : ∃ a : List Tv, GS w v a ∧ TsRead w a l
theorem GR.later {w w' : World} {v : Value} {l : List Tg} (h : GR w v l) (hb : Below w.heap.size w w') : GR w' v l := by
  obtain ⟨a, h1, h2⟩ := h.it; exact ⟨a, h1.later hb, TsRead.later hb h2⟩
theorem GOwn.read {base : Nat} {w : World} {v : Value} {l : List Tg} (h : GOwn base w v l) : GR w v l := by
  obtain ⟨a, h1, h2, _⟩ := h.it; exact ⟨a, h1.rs, h2.read⟩

set_option maxRecDepth 100000 in
set_option maxHeartbeats 1000000 in
theorem rlist_any {w : World} {va vb : Value} {A B : List (List UInt8)} (ha : SS w va A) (hb : SS w vb B) (hl : A.length ≤ 1000000000) (_hl2 : B.length ≤ 1000000000) :
    Calls Tryz.prog 38 #[va, vb] w fun e w' => e = .returned (.bool (decide (A = B))) ∧ ∃ n, w' = w.drewN n := by
  obtain ⟨R, hR⟩ : ∃ R, decide (A = B) = R := ⟨_, rfl⟩
  rw [hR]
  have HR : Hid (decide (A = B) = R) := hR
  clear hR
  obtain ⟨a, c, rfl, ca⟩ := ha.form
  obtain ⟨b, d, rfl, cb⟩ := hb.form
  have HA : Hid (∀ k, (hk : k < A.length) → ∃ b off, a = some ⟨b, off, none⟩ ∧ b < w.heap.size ∧ w.cell? ⟨b, off + k, none⟩ = some (.string (bs A[k]))) := ca
  have HB : Hid (∀ k, (hk : k < B.length) → ∃ b' off, b = some ⟨b', off, none⟩ ∧ b' < w.heap.size ∧ w.cell? ⟨b', off + k, none⟩ = some (.string (bs B[k]))) := cb
  clear ha hb ca cb
  by_cases hlen : A.length = B.length
  rotate_left
  · obtain rfl : R = false := by
      rw [← HR.out]; simp; intro e; exact hlen (by rw [e])
    have n1 : ((A.length : Int) != (B.length : Int)) = true := by simp; omega
    have n2 : ((A.length : Int) == (B.length : Int)) = false := by simp; omega
    have n3 : ¬ (A.length : Int) = (B.length : Int) := by omega
    clear HA HB
    go_enter Tryz.func38, Tryz.ntmps38
    go_wp2_with fail
    go_ret
    exact ⟨rfl, 0, rfl⟩
  obtain ⟨nA, hnA⟩ : ∃ nA, A.length = nA := ⟨_, rfl⟩
  have hnB : B.length = nA := by omega
  have HNA : Hid (A.length = nA ∧ B.length = nA) := ⟨hnA, hnB⟩
  rw [hnA, hnB]
  clear hlen
  rw [hnA] at hl
  clear hnA hnB
  go_enter Tryz.func38, Tryz.ntmps38
  go_wp2_with fail
  go_loopw [5] (fun i wr => ∃ k n : Nat, k ≤ nA ∧ i = .int .i64 k ∧ decide (A.drop k = B.drop k) = R ∧ wr = w.drewN n) (fun i _ => nA - (intOf i).toNat)
  case atStart => exact ⟨0, 0, Nat.zero_le _, rfl, by simpa using HR.out, rfl⟩
  case round =>
    obtain ⟨k, m, hk, rfl, hR, rfl⟩ := hrel
    have HRk : Hid (decide (A.drop k = B.drop k) = R) := hR
    clear hR
    by_cases hlt : k < nA
    · have hA : k < A.length := by have := HNA.out; omega
      have hB : k < B.length := by have := HNA.out; omega
      obtain ⟨b1, o1, rfl, h1, c1⟩ := HA.out k hA
      obtain ⟨b2, o2, rfl, h2, c2⟩ := HB.out k hB
      have i1 : (0 : Int) ≤ (k : Int) := by omega
      have i2 : (k : Int) < (nA : Int) := by omega
      have e1 := bs_toList A[k]
      have e2 := bs_toList B[k]
      have hd := drop_same hA hB
      by_cases he : A[k] = B[k]
      · have q1 : (A[k] == B[k]) = true := by rw [he]; simp
        have HR2 : Hid (decide (A.drop (k + 1) = B.drop (k + 1)) = R) := by
          show decide _ = R
          have := HRk.out
          rw [hd, he] at this; simpa using this
        clear he hd
        go_wp2_with fail
        go_quiet (fail)
        go_wp2_with fail
        go_roundw
        case rel => exact ⟨k + 1, _, hlt, rfl, HR2.out, rfl⟩
        case measure => simp only [intOf]; omega
      · have q1 : (A[k] == B[k]) = false := by simpa using he
        obtain rfl : R = false := by
          have := HRk.out
          rw [hd, decide_eq_false he] at this; simpa using this.symm
        clear he hd
        go_wp2_with fail
        go_quiet (fail)
        go_wp2_with fail
        go_ret
        exact ⟨rfl, _, World.drewN_drewN _ _ _⟩
    · obtain rfl : k = nA := by omega
      obtain rfl : R = true := by
        have := HRk.out
        rw [← this, List.drop_eq_nil_of_le (by have := HNA.out; omega), List.drop_eq_nil_of_le (by have := HNA.out; omega)]; simp
      go_wp2_with fail
      go_ret
      exact ⟨rfl, _, rfl⟩
end Go.Proofs.YtddaoloabfkheaaGreatDoor

namespace Go.Proofs.YtddaoloabfkheaaGreatDoor
open Go.RowKit

theorem tg_eq (t u : Tg) : (t = u) ↔ (t.name = u.name ∧ t.srcs = u.srcs ∧ t.see = u.see ∧ t.deps = u.deps) := by
  cases t; cases u
  simp only [Tg.mk.injEq]
  constructor
  · rintro ⟨a, b, c, d⟩; exact ⟨a, b, d, c⟩
  · rintro ⟨a, b, d, c⟩; exact ⟨a, b, c, d⟩
/-- every list is short enough -/
structure GSm (l : List Tg) : Prop where
  len : l.length ≤ 1000000000
  each : ∀ t ∈ l, t.srcs.length ≤ 1000000000 ∧ t.deps.length ≤ 1000000000 ∧ t.see.length ≤ 1000000000
theorem neq58_run (w : World) (p t p' t' : List UInt8) :
    (binOp .neq 92 (.agg #[.string (bs p), .string (bs t)]) (.agg #[.string (bs p'), .string (bs t')])).run Tryz.prog w = .ok (.bool (!decide ((⟨p, t⟩ : Lb) = ⟨p', t'⟩))) w := by
  rw [run_neq_struct, equal_run]; rfl
/-- two lists, at one place -/
structure Pl (w : World) (n : Nat) (v : Value) (l : List Tg) (k : Nat) (t : Tg) (b o : Nat) (c : Nat) (sa : Option Addr) (sn sc : Nat) (da : Option Addr) (dc : Nat) (ea : Option Addr) (en ec : Nat) : Prop where
  v : v = .slice (some ⟨b, o, none⟩) n c
  c0 : w.cell? ⟨b, o + k * 4, none⟩ = some (.string (bs t.name))
  c1 : w.cell? ⟨b, o + k * 4 + 1, none⟩ = some (.slice sa sn sc)
  c2 : w.cell? ⟨b, o + k * 4 + 2, none⟩ = some (.slice da t.deps.length dc)
  c3 : w.cell? ⟨b, o + k * 4 + 3, none⟩ = some (.slice ea en ec)
  s : SS w (.slice sa sn sc) t.srcs
  e : SS w (.slice ea en ec) t.see
  d : ∀ j, (hj : j < t.deps.length) → ∃ b off, da = some ⟨b, off, none⟩ ∧ b < w.heap.size ∧ w.cell? ⟨b, off + j * 2, none⟩ = some (.string (bs t.deps[j].pkg)) ∧ w.cell? ⟨b, off + j * 2 + 1, none⟩ = some (.string (bs t.deps[j].name))
theorem GR.place {w : World} {a : Option Addr} {n c : Nat} {l : List Tg} (h : GR w (.slice a n c) l) (k : Nat) (hk : k < l.length) : ∃ b o sa sn sc da dc ea en ec, Pl w n (.slice a n c) l k l[k] b o c sa sn sc da dc ea en ec := by
  obtain ⟨x, g, r⟩ := h.it
  have hx : k < x.length := by rw [r.len]; exact hk
  obtain ⟨b, o, rfl, _, c0, c1, c2, c3⟩ := g.at (Below.refl _ _) hx
  have t := r.get k hx hk
  obtain ⟨da, dc, hd, hD⟩ := t.d.form
  simp only [Tv.d, Value.slice.injEq] at hd
  refine ⟨b, o, _, _, _, da, dc, _, _, _, rfl, ?_, c1, ?_, c3, t.s, t.e, hD⟩
  · rw [← t.name]; exact c0
  · rw [hd.1, hd.2.1, hd.2.2] at c2; exact c2
theorem GR.len {w : World} {v : Value} {l : List Tg} (h : GR w v l) : ∃ a c, v = .slice a l.length c := by
  obtain ⟨x, g, r⟩ := h.it
  obtain ⟨a, c, e, _⟩ := g.form
  exact ⟨a, c, by rw [e, r.len]⟩
set_option maxRecDepth 100000 in
set_option maxHeartbeats 16000000 in
theorem same_any {w : World} {va vb : Value} {A B : List Tg} (ha : GR w va A) (hb : GR w vb B) (sA : GSm A) (sB : GSm B) :
    Calls Tryz.prog 16 #[va, vb] w fun e w' => e = .returned (.bool (decide (A = B))) ∧ ∃ n, w' = w.drewN n := by
  obtain ⟨R, hR⟩ : ∃ R, decide (A = B) = R := ⟨_, rfl⟩
  rw [hR]
  have HR : Hid (decide (A = B) = R) := hR
  clear hR
  obtain ⟨aa, ca, rfl⟩ := ha.len
  obtain ⟨ab, cb, rfl⟩ := hb.len
  have lA := sA.len
  have lB := sB.len
  by_cases hlen : A.length = B.length
  rotate_left
  · obtain rfl : R = false := by
      rw [← HR.out]; simp; intro e; exact hlen (by rw [e])
    have n1 : ((A.length : Int) != (B.length : Int)) = true := by simp; omega
    have n2 : ((A.length : Int) == (B.length : Int)) = false := by simp; omega
    have n3 : ¬ (A.length : Int) = (B.length : Int) := by omega
    clear ha hb sA sB
    go_enter Tryz.func16, Tryz.ntmps16
    go_wp2_with fail
    go_ret
    exact ⟨rfl, 0, rfl⟩
  obtain ⟨n, hn⟩ : ∃ n, A.length = n := ⟨_, rfl⟩
  have hn2 : B.length = n := by omega
  rw [hn] at ha ⊢
  rw [hn2] at hb ⊢
  have HA : Hid (GR w (.slice aa n ca) A ∧ GSm A) := ⟨ha, sA⟩
  have HB : Hid (GR w (.slice ab n cb) B ∧ GSm B) := ⟨hb, sB⟩
  have HN : Hid (A.length = n ∧ B.length = n) := ⟨hn, hn2⟩
  have hnl : n ≤ 1000000000 := by omega
  clear lA lB hlen hn hn2 ha hb sA sB
  go_enter Tryz.func16, Tryz.ntmps16
  go_wp2_with fail
  go_loopw [5] (fun i wr => ∃ k m : Nat, k ≤ n ∧ i = .int .i64 k ∧ decide (A.drop k = B.drop k) = R ∧ wr = w.drewN m) (fun i _ => n - (intOf i).toNat)
  case atStart => exact ⟨0, 0, Nat.zero_le _, rfl, by simpa using HR.out, rfl⟩
  case round =>
    obtain ⟨k, m, hk, rfl, hR, hwr⟩ := hrel
    have HW : Hid (wr = w.drewN m) := hwr
    have hbw : Below w.heap.size w wr := by rw [hwr]; exact bd _ _
    clear hwr
    have HRk : Hid (decide (A.drop k = B.drop k) = R) := hR
    clear hR HR
    by_cases hlt : k < n
    rotate_left
    · obtain rfl : k = n := by omega
      obtain rfl : R = true := by
        have := HRk.out
        rw [← this, List.drop_eq_nil_of_le (by have := HN.out; omega), List.drop_eq_nil_of_le (by have := HN.out; omega)]; simp
      go_wp2_with fail
      go_ret
      exact ⟨rfl, _, HW.out⟩
    have kA : k < A.length := by have := HN.out; omega
    have kB : k < B.length := by have := HN.out; omega
    obtain ⟨b1, o1, sa, sn, sc, da, dc, ea, en, ec, P1⟩ := (HA.out.1.later hbw).place k kA
    obtain ⟨b2, o2, sa', sn', sc', da', dc', ea', en', ec', P2⟩ := (HB.out.1.later hbw).place k kB
    obtain ⟨a1, a2, a3⟩ := HA.out.2.each _ (List.getElem_mem kA)
    obtain ⟨b1', b2', b3⟩ := HB.out.2.each _ (List.getElem_mem kB)
    have hd := drop_same kA kB
    obtain ⟨tA, htA⟩ : ∃ tA, A[k] = tA := ⟨_, rfl⟩
    obtain ⟨tB, htB⟩ : ∃ tB, B[k] = tB := ⟨_, rfl⟩
    rw [htA] at P1 hd a1 a2 a3
    rw [htB] at P2 hd b1' b2' b3
    clear htA htB
    obtain ⟨hv1, x0, x1, x2, x3, s1, e1, d1⟩ := P1
    obtain ⟨hv2, y0, y1, y2, y3, s2, e2, d2⟩ := P2
    injection hv1 with hv1 _ _
    injection hv2 with hv2 _ _
    subst hv1 hv2
    have HS : Hid (∀ q, Calls Tryz.prog 38 #[.slice sa sn sc, .slice sa' sn' sc'] (wr.drewN q) fun e w' => e = .returned (.bool (decide (tA.srcs = tB.srcs))) ∧ ∃ r, w' = wr.drewN r) := fun q => Calls.quiet_of (rlist_any (s1.later (bd _ q)) (s2.later (bd _ q)) a1 b1')
    have HE : Hid (∀ q, Calls Tryz.prog 38 #[.slice ea en ec, .slice ea' en' ec'] (wr.drewN q) fun e w' => e = .returned (.bool (decide (tA.see = tB.see))) ∧ ∃ r, w' = wr.drewN r) := fun q => Calls.quiet_of (rlist_any (e1.later (bd _ q)) (e2.later (bd _ q)) a3 b3)
    have HD1 : Hid (∀ j, (hj : j < tA.deps.length) → ∃ b off, da = some ⟨b, off, none⟩ ∧ b < wr.heap.size ∧ wr.cell? ⟨b, off + j * 2, none⟩ = some (.string (bs tA.deps[j].pkg)) ∧ wr.cell? ⟨b, off + j * 2 + 1, none⟩ = some (.string (bs tA.deps[j].name))) := d1
    have HD2 : Hid (∀ j, (hj : j < tB.deps.length) → ∃ b off, da' = some ⟨b, off, none⟩ ∧ b < wr.heap.size ∧ wr.cell? ⟨b, off + j * 2, none⟩ = some (.string (bs tB.deps[j].pkg)) ∧ wr.cell? ⟨b, off + j * 2 + 1, none⟩ = some (.string (bs tB.deps[j].name))) := d2
    have q1 := bs_toList tA.name
    have q2 := bs_toList tB.name
    have i1 : (0 : Int) ≤ (k : Int) := by omega
    have i2 : (k : Int) < (n : Int) := by omega
    have HD : Hid ((decide (tA = tB) && decide (A.drop (k + 1) = B.drop (k + 1))) = R) := by
      show (decide (tA = tB) && decide (A.drop (k + 1) = B.drop (k + 1))) = R
      rw [← hd]; exact HRk.out
    clear hbw hd s1 s2 e1 e2 d1 d2 HRk a1 a3 b1' b3
    by_cases g1 : tA.name = tB.name
    rotate_left
    · obtain rfl : R = false := by rw [← HD.out, decide_eq_false (fun e => g1 (by rw [e]))]; rfl
      have g1' : (tA.name == tB.name) = false := by simpa using g1
      clear g1 HD
      go_wp2_with fail
      go_quiet (fail)
      go_wp2_with fail
      go_ret
      exact ⟨rfl, _, by rw [HW.out, World.drewN_drewN]⟩
    have g1' : (tA.name == tB.name) = true := by rw [g1]; simp
    have G1 : Hid (tA.name = tB.name) := g1
    clear g1
    cases g2 : decide (tA.srcs = tB.srcs)
    · obtain rfl : R = false := by rw [← HD.out, decide_eq_false (fun e => by rw [e] at g2; simp at g2)]; rfl
      rw [g2] at HS
      clear g2 HD
      go_wp2_with fail
      go_quiet ((go_at_call 38; with_reducible exact HS.out _))
      go_wp2_with fail
      go_ret
      exact ⟨rfl, _, by rw [HW.out, World.drewN_drewN]⟩
    have g2' : tA.srcs = tB.srcs := of_decide_eq_true g2
    have G2 : Hid (tA.srcs = tB.srcs) := g2'
    clear g2'
    rw [g2] at HS
    clear g2
    cases g3 : decide (tA.see = tB.see)
    · obtain rfl : R = false := by rw [← HD.out, decide_eq_false (fun e => by rw [e] at g3; simp at g3)]; rfl
      rw [g3] at HE
      clear g3 HD
      go_wp2_with fail
      go_quiet ((first | (go_at_call 38; with_reducible exact HS.out _) | (go_at_call 38; with_reducible exact HE.out _)))
      go_wp2_with fail
      go_ret
      exact ⟨rfl, _, by rw [HW.out, World.drewN_drewN]⟩
    have g3' : tA.see = tB.see := of_decide_eq_true g3
    have G3 : Hid (tA.see = tB.see) := g3'
    clear g3'
    rw [g3] at HE
    clear g3
    obtain ⟨nd, hnd⟩ : ∃ nd, tA.deps.length = nd := ⟨_, rfl⟩
    obtain ⟨nd', hnd'⟩ : ∃ nd', tB.deps.length = nd' := ⟨_, rfl⟩
    have HND : Hid (tA.deps.length = nd ∧ tB.deps.length = nd') := ⟨hnd, hnd'⟩
    rw [hnd] at x2 a2
    rw [hnd'] at y2 b2'
    clear hnd hnd'
    by_cases g4 : nd = nd'
    rotate_left
    · obtain rfl : R = false := by rw [← HD.out, decide_eq_false (fun e => g4 (by rw [← HND.out.1, ← HND.out.2, e]))]; rfl
      have g4' : ((nd : Int) != (nd' : Int)) = true := by simp; omega
      have g5' : ((nd : Int) == (nd' : Int)) = false := by simp; omega
      have g6' : (nd == nd') = false := by simpa using g4
      clear g4 HD
      go_wp2_with fail
      go_quiet ((first | (go_at_call 38; with_reducible exact HS.out _) | (go_at_call 38; with_reducible exact HE.out _)))
      go_wp2_with fail
      go_ret
      exact ⟨rfl, _, by rw [HW.out, World.drewN_drewN]⟩
    subst g4
    go_wp2_with fail
    go_quiet ((first | (go_at_call 38; with_reducible exact HS.out _) | (go_at_call 38; with_reducible exact HE.out _)))
    obtain ⟨RD, hRD⟩ : ∃ RD, decide (tA.deps = tB.deps) = RD := ⟨_, rfl⟩
    have HRD : Hid (decide (tA.deps = tB.deps) = RD ∧ (RD && decide (A.drop (k + 1) = B.drop (k + 1))) = R) := by
      refine ⟨hRD, ?_⟩
      rw [← HD.out, ← hRD]
      congr 1
      by_cases e : tA.deps = tB.deps
      · rw [decide_eq_true e, decide_eq_true ((tg_eq tA tB).2 ⟨G1.out, G2.out, G3.out, e⟩)]
      · rw [decide_eq_false e, decide_eq_false (fun h => e ((tg_eq tA tB).1 h).2.2.2)]
    clear hRD HD HS HE g1' q1 q2 x0 x1 x3 y0 y1 y3
    have e2 : ∀ (w : World) (op : BinOp) (y z : Operand) (xs ys : Array Value), (eqGuard op 92 y z (.agg xs) (.agg ys)).run Tryz.prog w = .ok () w := guard_run
    obtain ⟨wo, hwo⟩ : ∃ wo, wo = wr := ⟨_, rfl⟩
    subst hwo
    go_wp2_with fail
    go_loopw [6] (fun i wr => ∃ j q : Nat, j ≤ nd ∧ i = .int .i64 j ∧ decide (tA.deps.drop j = tB.deps.drop j) = RD ∧ wr = wo.drewN q) (fun i _ => nd - (intOf i).toNat)
    case atStart => exact ⟨0, _, Nat.zero_le _, rfl, by simpa using HRD.out.1, rfl⟩
    case round =>
      obtain ⟨j, q, hj, rfl, hRj, hwr⟩ := hrel
      have HWj : Hid (wr = wo.drewN q) := hwr
      have HRj : Hid (decide (tA.deps.drop j = tB.deps.drop j) = RD) := hRj
      have x2' : wr.cell? ⟨b1, o1 + k * 4 + 2, none⟩ = some (.slice da nd dc) := by rw [hwr]; exact x2
      have y2' : wr.cell? ⟨b2, o2 + k * 4 + 2, none⟩ = some (.slice da' nd dc') := by rw [hwr]; exact y2
      clear hwr hRj
      by_cases hjl : j < nd
      rotate_left
      · obtain rfl : j = nd := by omega
        obtain rfl : RD = true := by
          have := HRj.out
          rw [← this, List.drop_eq_nil_of_le (by have := HND.out; omega), List.drop_eq_nil_of_le (by have := HND.out; omega)]; simp
        have HR2 : Hid (decide (A.drop (k + 1) = B.drop (k + 1)) = R) := by
          show decide _ = R
          have := HRD.out.2; simpa using this
        go_wp2_with fail
        go_roundw
        case rel => exact ⟨k + 1, _, hlt, rfl, HR2.out, by rw [HWj.out, HW.out, World.drewN_drewN]⟩
        case measure => simp only [intOf]; omega
      have jA : j < tA.deps.length := by have := HND.out; omega
      have jB : j < tB.deps.length := by have := HND.out; omega
      obtain ⟨g1, f1, rfl, _, z0, z1⟩ := HD1.out j jA
      obtain ⟨g2, f2, rfl, _, z2, z3⟩ := HD2.out j jB
      have u0 : wr.cell? ⟨g1, f1 + j * 2, none⟩ = some (.string (bs tA.deps[j].pkg)) := by rw [HWj.out]; exact z0
      have u1 : wr.cell? ⟨g1, f1 + j * 2 + 1, none⟩ = some (.string (bs tA.deps[j].name)) := by rw [HWj.out]; exact z1
      have u2 : wr.cell? ⟨g2, f2 + j * 2, none⟩ = some (.string (bs tB.deps[j].pkg)) := by rw [HWj.out]; exact z2
      have u3 : wr.cell? ⟨g2, f2 + j * 2 + 1, none⟩ = some (.string (bs tB.deps[j].name)) := by rw [HWj.out]; exact z3
      have i3 : (0 : Int) ≤ (j : Int) := by omega
      have i4 : (j : Int) < (nd : Int) := by omega
      have hdj := drop_same jA jB
      clear z0 z1 z2 z3
      by_cases he : tA.deps[j] = tB.deps[j]
      · have HR2 : Hid (decide (tA.deps.drop (j + 1) = tB.deps.drop (j + 1)) = RD) := by
          show decide _ = RD
          have := HRj.out
          rw [hdj, he] at this; simpa using this
        have e1 : ∀ w : World, (binOp .neq 92 (.agg #[.string (bs tA.deps[j].pkg), .string (bs tA.deps[j].name)]) (.agg #[.string (bs tB.deps[j].pkg), .string (bs tB.deps[j].name)])).run Tryz.prog w = .ok (.bool false) w := fun w => by
          rw [neq58_run]; simp [he]
        generalize tA.deps[j].pkg = lp1 at *
        generalize tA.deps[j].name = ln1 at *
        generalize tB.deps[j].pkg = lp2 at *
        generalize tB.deps[j].name = ln2 at *
        clear he hdj
        go_wp2_with fail
        go_quiet (fail)
        go_wp2_with fail
        go_roundw
        case rel => exact ⟨j + 1, _, hjl, rfl, HR2.out, by rw [HWj.out, World.drewN_drewN]⟩
        case measure => simp only [intOf]; omega
      · obtain rfl : RD = false := by
          have := HRj.out
          rw [hdj, decide_eq_false he] at this; simpa using this.symm
        obtain rfl : R = false := by have := HRD.out.2; simpa using this.symm
        have e1 : ∀ w : World, (binOp .neq 92 (.agg #[.string (bs tA.deps[j].pkg), .string (bs tA.deps[j].name)]) (.agg #[.string (bs tB.deps[j].pkg), .string (bs tB.deps[j].name)])).run Tryz.prog w = .ok (.bool true) w := fun w => by
          rw [neq58_run, decide_eq_false (show ¬ ((⟨tA.deps[j].pkg, tA.deps[j].name⟩ : Lb) = ⟨tB.deps[j].pkg, tB.deps[j].name⟩) from he)]; rfl
        generalize tA.deps[j].pkg = lp1 at *
        generalize tA.deps[j].name = ln1 at *
        generalize tB.deps[j].pkg = lp2 at *
        generalize tB.deps[j].name = ln2 at *
        clear he hdj
        go_wp2_with fail
        go_quiet (fail)
        go_wp2_with fail
        go_ret
        exact ⟨rfl, _, by rw [HWj.out, HW.out, World.drewN_drewN, World.drewN_drewN]⟩
end Go.Proofs.YtddaoloabfkheaaGreatDoor
