/-
  How long an entry is; the document's Save.
  The document's Put and Get.
  The document's Get.
  Bytes that are a cache's, read from the front: plain lists.
  What the laws ask of the package; the document's second example.
  A cache of the program's and one of the document's, with the same keys.
  Steps of a script in memory; the law CacheAll.
  What came in: bytes, steps of a script.
-/
import Derived.Test.YtddaoloabfkheaaGreatDoorJRefP
import Derived.Test.YtddaoloabfkheaaGreatDoorJGd
import Derived.Test.YtddaoloabfkheaaGreatDoorRpar
import Derived.Test.YtddaoloabfkheaaGreatDoorJSame
import Derived.RegionTactic
import Derived.BigRegion
import Derived.OrdersHeld
import Derived.Deep.Cut
import Derived.Test.YtddaoloabfkheaaGreatDoorJOBase
namespace Go.Proofs.YtddaoloabfkheaaGreatDoor
open Go.RowKit

theorem srcW_le {p x : List UInt8} (h : srcW p x = true) : x.length ≤ 300 := by
  refine word_len (p := p) (F := wSrcs) (t := ⟨[], [], [], []⟩) (u := ⟨[], [x], [], []⟩) ?_
  unfold addI; rw [if_pos rfl, if_pos (by simp [h])]; rfl
theorem ser_le {p x : List UInt8} (h : ser x = true) : x.length ≤ 300 := by
  refine word_len (p := p) (F := wSee) (t := ⟨[], [], [], []⟩) (u := ⟨[], [], [], [x]⟩) ?_
  unfold addI; rw [if_neg (by decide), if_neg (by decide), if_pos (by simp [h])]; rfl
theorem okL_le {l : Lb} (h : okL l = true) : l.pkg.length ≤ 120 ∧ l.name.length ≤ 32 := by
  unfold okL at h
  simp only [Bool.and_eq_true] at h
  exact ⟨(okP_len h.1).1, okC_len h.2⟩
theorem txs_le {l : List (List UInt8)} (hl : l.length ≤ 64) (h : ∀ x ∈ l, x.length ≤ 300) : (txsB l).length ≤ 19460 := by
  have h1 := flat_bound txB 304 l (fun x hx => by rw [txB_len]; have := h x hx; omega)
  have h2 : l.length * 304 ≤ 64 * 304 := Nat.mul_le_mul_right _ hl
  unfold txsB
  rw [List.length_append, le_length]
  omega
theorem GT.bd {p : List UInt8} {t : Tg} (h : GT p t) : (tgB t).length ≤ 100000 := by
  have h1 := txs_le h.srcsL (fun x hx => srcW_le (h.srcs x hx).1)
  have h2 := txs_le h.seeL (fun x hx => ser_le (p := p) (h.see x hx).1)
  have h3 := flat_bound lbB 160 t.deps (fun x hx => by have := okL_le (h.deps x hx); simp only [lbB, List.length_append, txB_len]; omega)
  have h4 : t.deps.length * 160 ≤ 64 * 160 := Nat.mul_le_mul_right _ h.depsL
  have h5 := okC_len h.name
  unfold tgB
  simp only [List.length_append, le_length, txB_len]
  omega
theorem prsM_tbd (p s : List UInt8) : TBd (prsM p s).1 := by
  rcases prsM_range p s with h | h
  · have g := prsM_good h
    exact ⟨g.len, fun t ht => ⟨(g.each t ht).srcsL, (g.each t ht).depsL, (g.each t ht).seeL, (g.each t ht).bd⟩⟩
  · rw [h.2]; exact ⟨by simp, by simp⟩
theorem entB_le {k : Lb} (h1 : k.pkg.length ≤ 120) (h2 : k.name.length ≤ 4096) : (entB k).length ≤ 6410000 := by
  have := (prsM_tbd (dir k.pkg) k.name).flat
  unfold entB enB
  simp only [List.length_append, le_length, txB_len]
  omega
theorem OKK.flat {K : List Lb} (h : OKK K) : (K.flatMap entB).length ≤ 3300000000 := by
  have h1 := flat_bound entB 6410000 K (fun k hk => entB_le (rgt_len (h.rt k hk)) (h.tx k hk))
  have h2 : K.length * 6410000 ≤ 512 * 6410000 := Nat.mul_le_mul_right _ h.len
  omega
theorem dir_le (l : List UInt8) : (dir l).length ≤ l.length := by
  unfold dir
  split
  · simp
  · exact List.length_take_le' _ _
end Go.Proofs.YtddaoloabfkheaaGreatDoor

namespace Go.Proofs.YtddaoloabfkheaaGreatDoor
open Go.RowKit

def pcod (p t : List UInt8) : Int := if rgt p = true then (if t.length > 4096 then 18 else 0) else 7
/-- what is there behind a Put -/
def putA (K : List Lb) (p t : List UInt8) : List Lb := if pcod p t = 0 then putK K ⟨p, t⟩ else K
theorem putA_ok {K : List Lb} {p t : List UInt8} (h1 : rgt p = true) (h2 : ¬ t.length > 4096) : pcod p t = 0 ∧ putA K p t = putK K ⟨p, t⟩ := by
  have e : pcod p t = 0 := by unfold pcod; rw [if_pos h1, if_neg h2]
  exact ⟨e, by unfold putA; rw [if_pos e]⟩
theorem OKK.putA {K : List Lb} (h : OKK K) (p t : List UInt8) : OKK (putA K p t) := by
  by_cases h1 : rgt p = true
  · by_cases h2 : t.length > 4096
    · have e : pcod p t = 18 := by unfold pcod; rw [if_pos h1, if_pos h2]
      unfold Go.Proofs.YtddaoloabfkheaaGreatDoor.putA; rw [if_neg (by rw [e]; decide)]; exact h
    · rw [(putA_ok h1 h2).2]; exact h.put h1 (by simp only; omega)
  · have e : pcod p t = 7 := by unfold pcod; rw [if_neg h1]
    unfold Go.Proofs.YtddaoloabfkheaaGreatDoor.putA; rw [if_neg (by rw [e]; decide)]; exact h

end Go.Proofs.YtddaoloabfkheaaGreatDoor

namespace Go.Proofs.YtddaoloabfkheaaGreatDoor
open Go.RowKit

/-- what Get answers -/
def gtK (K : List Lb) (p t : List UInt8) : List Tg × Int × Bool := if (⟨p, t⟩ : Lb) ∈ K then ((prsM (dir p) t).1, (prsM (dir p) t).2, true) else ([], 0, false)
def LsG (w : World) (R : List Tg × Int × Bool) (e : Ending) (w' : World) : Prop := ∃ v, e = .returned (.tuple #[v, .int .i64 R.2.1, .bool R.2.2]) ∧ GOwn w.heap.size w' v R.1 ∧ Below w.heap.size w w'
end Go.Proofs.YtddaoloabfkheaaGreatDoor

namespace Go.Proofs.YtddaoloabfkheaaGreatDoor
open Go.RowKit

/-- the head: how many entries -/
def hdP (n : Nat) : List UInt8 := txB hdW ++ le 4 n
theorem hdP_len (n : Nat) : (hdP n).length = 21 := by unfold hdP; rw [List.length_append, le_length]; rfl
theorem savB_hd (K : List Lb) : savB K = hdP K.length ++ K.flatMap entB := rfl
end Go.Proofs.YtddaoloabfkheaaGreatDoor

namespace Go.Proofs.YtddaoloabfkheaaGreatDoor
open Go.RowKit

/-- what Load answers: a cache of these bytes, or none -/
def LdC (CA : World → (Nat → Prop) → Nat → List Lb → Prop) (w : World) (b : List UInt8) (e : Ending) (w' : World) : Prop :=
  Below w.heap.size w w' ∧ ((∃ K g, OKK K ∧ savB K = b ∧ e = .returned (.tuple #[.pointer (some ⟨g, 0, none⟩), .int .i64 0]) ∧ CA w' (fun k => w.heap.size ≤ k ∧ k < w'.heap.size) g K)
    ∨ ((∀ K, OKK K → savB K = b → False) ∧ e = .returned (.tuple #[.pointer none, .int .i64 14])))
/-- a cache of the program's: its keys, its blocks, what it answers -/
structure CcP (CA : World → (Nat → Prop) → Nat → List Lb → Prop) : Prop where
  stay : ∀ {w w' F c K}, CA w F c K → w.heap.size ≤ w'.heap.size → (∀ k, F k → w'.heap[k]? = w.heap[k]?) → CA w' F c K
  wider : ∀ {w F F' c K}, CA w F c K → (∀ k, F k → F' k) → (∀ k, F' k → k < w.heap.size) → CA w F' c K
  lt : ∀ {w F c K}, CA w F c K → ∀ k, F k → k < w.heap.size
  ok : ∀ {w F c K}, CA w F c K → OKK K
  new : ∀ w : World, Calls Tryz.prog 8 #[] w fun e w' => ∃ c, e = .returned (.pointer (some ⟨c, 0, none⟩)) ∧ CA w' (fun k => w.heap.size ≤ k ∧ k < w'.heap.size) c [] ∧ Below w.heap.size w w'
  put : ∀ {w F c K}, CA w F c K → Ev w → ∀ p t : List UInt8, p.length ≤ 1000000000 → t.length ≤ 1000000000 → Calls Tryz.prog 10 #[.pointer (some ⟨c, 0, none⟩), .string (bs p), .string (bs t)] w fun e w' => e = .returned (.int .i64 (pcod p t)) ∧ CA w' (nwF F w w') c (putA K p t) ∧ OnlyP F w w'
  get : ∀ {w F c K}, CA w F c K → Ev w → ∀ p t : List UInt8, p.length ≤ 1000000000 → t.length ≤ 1000000000 → Calls Tryz.prog 13 #[.pointer (some ⟨c, 0, none⟩), .string (bs p), .string (bs t)] w (LsG w (gtK K p t))
  len : ∀ {w F c K}, CA w F c K → Calls Tryz.prog 12 #[.pointer (some ⟨c, 0, none⟩)] w fun e w' => e = .returned (.int .i64 K.length) ∧ Below w.heap.size w w'
  save : ∀ {w F c K}, CA w F c K → Ev w → Calls Tryz.prog 14 #[.pointer (some ⟨c, 0, none⟩)] w fun e w' => ∃ v', e = .returned v' ∧ OwnB w.heap.size w' v' (savB K) ∧ Below w.heap.size w w'
  load : ∀ {w v b}, BS w v b → Ev w → b.length ≤ 4000000000 → Calls Tryz.prog 15 #[v] w (LdC CA w b)
section
variable {CA : World → (Nat → Prop) → Nat → List Lb → Prop} {w w' : World} {F G : Nat → Prop} {c : Nat} {K : List Lb}
theorem CcP.later (C : CcP CA) (h : CA w F c K) (hb : Below w.heap.size w w') : CA w' F c K := C.stay h hb.size (fun k hk => hb.block k (C.lt h k hk))
theorem CcP.only (C : CcP CA) (h : CA w F c K) (hb : OnlyP G w w') (hd : ∀ k, F k → ¬ G k) : CA w' F c K := C.stay h hb.size (fun k hk => hb.block k (C.lt h k hk) (hd k hk))
end
theorem savB_le {K : List Lb} (h : OKK K) : (savB K).length ≤ 4000000000 := by
  have := h.flat
  rw [savB_hd, List.length_append, hdP_len]
  omega

open Classical in
theorem OnlyP.toOnly {F : Nat → Prop} {w w' : World} (h : OnlyP F w w') : ∃ S : List Nat, Only S w w' ∧ ∀ k ∈ S, F k ∧ k < w.heap.size := by
  refine ⟨(List.range w.heap.size).filter (fun k => decide (F k)), ⟨h.os, h.tape, h.output, h.size, fun k hk hn => h.block k hk (fun hf => hn ?_)⟩, fun k hk => ?_⟩
  · rw [List.mem_filter]; exact ⟨List.mem_range.2 hk, by simpa using hf⟩
  · rw [List.mem_filter] at hk; exact ⟨by simpa using hk.2, List.mem_range.1 hk.1⟩
theorem GOwn.onlyP {base : Nat} {w w' : World} {F : Nat → Prop} {v : Value} {l : List Tg} (h : GOwn base w v l) (ho : OnlyP F w w') (hF : ∀ k, F k → k < base) : GOwn base w' v l := by
  obtain ⟨S, h1, h2⟩ := ho.toOnly
  exact h.only h1 (fun k hk => hF k (h2 k hk).1)

/-! ### the document's second example -/
def xP : List UInt8 := [112, 47, 84, 65, 82, 71, 69, 84, 83]
def xQ : List UInt8 := [113, 47, 84, 65, 82, 71, 69, 84, 83]
def xT : List UInt8 := [116, 97, 114, 103, 101, 116, 32, 97, 123, 125]
theorem x_put : pcod xP xT = 0 ∧ putA [] xP xT = [⟨xP, xT⟩] := by decide +kernel
theorem x_bad (K : List Lb) : pcod [112, 47, 120] [] = 7 ∧ putA K [112, 47, 120] [] = K := by
  have e : pcod [112, 47, 120] [] = 7 := by decide +kernel
  exact ⟨e, by unfold putA; rw [e]; rfl⟩
theorem x_prs : prsM (dir xP) xT = ([⟨[97], [], [], []⟩], -1) := by decide +kernel
theorem x_get : gtK [⟨xP, xT⟩] xP xT = ([⟨[97], [], [], []⟩], -1, true) := by
  unfold gtK
  rw [if_pos (by simp), x_prs]
theorem x_no : gtK [⟨xP, xT⟩] xQ xT = ([], 0, false) := by
  unfold gtK
  rw [if_neg (by decide)]
theorem x_ok : OKK [⟨xP, xT⟩] := by
  have := OKK.nil.putA xP xT
  rwa [x_put.2] at this

set_option maxRecDepth 100000 in
set_option maxHeartbeats 4000000 in
theorem known19 {CA : World → (Nat → Prop) → Nat → List Lb → Prop} (C : CcP CA) {w : World} (E : Ev w) : Calls Tryz.prog 9 #[] w fun e w' => e = .returned (.bool true) ∧ Below w.heap.size w w' := by
  have HE : Hid (Ev w) := E
  have s1 : (⟨#[112, 47, 84, 65, 82, 71, 69, 84, 83]⟩ : ByteArray) = bs xP := rfl
  have s2 : (⟨#[113, 47, 84, 65, 82, 71, 69, 84, 83]⟩ : ByteArray) = bs xQ := rfl
  have s3 : (⟨#[116, 97, 114, 103, 101, 116, 32, 97, 123, 125]⟩ : ByteArray) = bs xT := rfl
  have s4 : (⟨#[112, 47, 120]⟩ : ByteArray) = bs [112, 47, 120] := rfl
  have s5 : (⟨#[]⟩ : ByteArray) = bs [] := rfl
  have s6 : (⟨#[97]⟩ : ByteArray) = bs [97] := rfl
  clear E
  go_enter Tryz.func9, Tryz.ntmps9
  go_wp2_with fail
  refine (C.new _).mono ?_
  rintro e w1 ⟨c, rfl, hc1, hb1⟩
  have H1 : Hid (CA w1 (fun k => w.heap.size ≤ k ∧ k < w1.heap.size) c [] ∧ Below w.heap.size w w1 ∧ Ev w1) := ⟨hc1, hb1, HE.out.later hb1⟩
  clear hc1 hb1
  go_wp2_with fail
  refine (C.put H1.out.1 H1.out.2.2 xP xT (by decide) (by decide)).mono ?_
  rintro e w2 ⟨rfl, hc2, ho2⟩
  rw [x_put.1]
  rw [x_put.2] at hc2
  have hb2 : Below w.heap.size w w2 := H1.out.2.1.trans (ho2.below H1.out.2.1.size (fun k hk => hk.1))
  obtain ⟨F2, hF2⟩ : ∃ F2, nwF (fun k => w.heap.size ≤ k ∧ k < w1.heap.size) w1 w2 = F2 := ⟨_, rfl⟩
  rw [hF2] at hc2
  have hF2b : ∀ k, F2 k → w.heap.size ≤ k := by
    rw [← hF2]
    rintro k (hk | hk)
    · exact hk.1
    · exact Nat.le_trans H1.out.2.1.size hk.1
  have H2 : Hid (CA w2 F2 c [⟨xP, xT⟩] ∧ Below w.heap.size w w2 ∧ Ev w2 ∧ ∀ k, F2 k → w.heap.size ≤ k) := ⟨hc2, hb2, HE.out.later hb2, hF2b⟩
  clear hc2 ho2 hb2 H1 hF2 hF2b
  go_wp2_with fail
  refine (C.get H2.out.1 H2.out.2.2.1 xP xT (by decide) (by decide)).mono ?_
  rw [x_get]
  rintro e w3 ⟨v3, rfl, ho3, hb3⟩
  have H3 : Hid (CA w3 F2 c [⟨xP, xT⟩] ∧ Below w.heap.size w w3 ∧ Ev w3 ∧ GOwn w2.heap.size w3 v3 [⟨[97], [], [], []⟩]) := ⟨C.later H2.out.1 hb3, bstep H2.out.2.1 hb3, H2.out.2.2.1.later hb3, ho3⟩
  clear ho3 hb3
  go_wp2_with fail
  refine (C.get H3.out.1 H3.out.2.2.1 xQ xT (by decide) (by decide)).mono ?_
  rw [x_no]
  rintro e w4 ⟨v4, rfl, ho4, hb4⟩
  have H4 : Hid (CA w4 F2 c [⟨xP, xT⟩] ∧ Below w.heap.size w w4 ∧ Ev w4 ∧ GOwn w2.heap.size w4 v3 [⟨[97], [], [], []⟩]) := ⟨C.later H3.out.1 hb4, bstep H3.out.2.1 hb4, H3.out.2.2.1.later hb4, H3.out.2.2.2.later hb4⟩
  clear ho4 hb4 H3
  go_wp2_with fail
  refine (C.put H4.out.1 H4.out.2.2.1 [112, 47, 120] [] (by decide) (by decide)).mono ?_
  rintro e w5 ⟨rfl, hc5, ho5⟩
  rw [(x_bad [⟨xP, xT⟩]).1]
  rw [(x_bad [⟨xP, xT⟩]).2] at hc5
  have hb5 : Below w.heap.size w w5 := H4.out.2.1.trans (ho5.below H4.out.2.1.size (fun k hk => H2.out.2.2.2 k hk))
  have H5 : Hid (CA w5 (nwF F2 w4 w5) c [⟨xP, xT⟩] ∧ Below w.heap.size w w5 ∧ Ev w5 ∧ GOwn w2.heap.size w5 v3 [⟨[97], [], [], []⟩]) := ⟨hc5, hb5, HE.out.later hb5, H4.out.2.2.2.onlyP ho5 (fun k hk => C.lt H2.out.1 k hk)⟩
  clear hc5 ho5 hb5 H4
  go_wp2_with fail
  refine (C.save H5.out.1 H5.out.2.2.1).mono ?_
  rintro e w6 ⟨v6, rfl, ho6, hb6⟩
  have H6 : Hid (BS w6 v6 (savB [⟨xP, xT⟩]) ∧ Below w.heap.size w w6 ∧ Ev w6 ∧ GOwn w2.heap.size w6 v3 [⟨[97], [], [], []⟩]) := ⟨ho6.bs, bstep H5.out.2.1 hb6, H5.out.2.2.1.later hb6, H5.out.2.2.2.later hb6⟩
  clear ho6 hb6 H5
  go_wp2_with fail
  refine (C.load H6.out.1 H6.out.2.2.1 (savB_le x_ok)).mono ?_
  rintro e w7 ⟨hb7, ⟨K7, g7, ok7, e7, rfl, hc7⟩ | ⟨hno, _⟩⟩
  · obtain rfl : K7 = [⟨xP, xT⟩] := savB_inj ok7 x_ok e7
    have H7 : Hid (CA w7 (fun k => w6.heap.size ≤ k ∧ k < w7.heap.size) g7 [⟨xP, xT⟩] ∧ Below w.heap.size w w7) := ⟨hc7, bstep H6.out.2.1 hb7⟩
    have hG := H6.out.2.2.2.read.later hb7
    obtain ⟨a3, c3, rfl⟩ := hG.len
    obtain ⟨b3, o3, sa, sn, sc, da, dc, ea, en, ec, hP⟩ := hG.place 0 (by simp)
    have hv := hP.v
    injection hv with hv1 _ _
    subst hv1
    have c0 := hP.c0
    simp only [Nat.zero_mul, Nat.add_zero, List.getElem_cons_zero] at c0
    clear hP hG hb7 hc7 e7 ok7
    have q1 : ((bs [97]).toList == (bs [97]).toList) = true := by simp
    go_wp2_with fail
    refine (C.len H7.out.1).mono ?_
    rintro e w8 ⟨rfl, hb8⟩
    have H8 : Hid (Below w.heap.size w w8) := bstep H7.out.2 hb8
    clear hb8
    go_wp2_with fail
    go_ret
    exact ⟨rfl, H8.out⟩
  · exact absurd rfl (fun e => hno _ x_ok e)
end Go.Proofs.YtddaoloabfkheaaGreatDoor

namespace Go.Proofs.YtddaoloabfkheaaGreatDoor
open Go.RowKit

/-- a step -/
structure Stp where
  sec : Bool
  kind : Int
  p : List UInt8
  t : List UInt8
/-- both caches, in blocks of X -/
structure Pq (CA : World → (Nat → Prop) → Nat → List Lb → Prop) (w : World) (X : Nat → Prop) (x : Nat) : Prop where
  it : ∃ F D c r K, w.heap[x]? = some (.cells #[.pointer (some ⟨c, 0, none⟩), .pointer (some ⟨r, 0, none⟩)] 60 (0, 0)) ∧ CA w F c K ∧ RC w D r K ∧ (∀ k, F k → ¬ D k) ∧ ¬ F x ∧ ¬ D x ∧ (∀ k, F k → X k) ∧ (∀ k, D k → X k)
  own : X x
  lt : ∀ k, X k → k < w.heap.size
section
variable {CA : World → (Nat → Prop) → Nat → List Lb → Prop} {w w' : World} {X Y : Nat → Prop} {x : Nat}
end
end Go.Proofs.YtddaoloabfkheaaGreatDoor

namespace Go.Proofs.YtddaoloabfkheaaGreatDoor
open Go.RowKit

def stc : List Stp → List Value
  | [] => []
  | s :: r => .bool s.sec :: .int .i64 s.kind :: .string (bs s.p) :: .string (bs s.t) :: stc r
theorem stc_length : ∀ l, (stc l).length = l.length * 4
  | [] => rfl
  | f :: r => by simp only [stc, List.length_cons, stc_length r]; omega
theorem stc_get : ∀ (l : List Stp) (k : Nat) (h : k < l.length), (stc l)[k * 4]? = some (.bool l[k].sec) ∧ (stc l)[k * 4 + 1]? = some (.int .i64 l[k].kind) ∧ (stc l)[k * 4 + 2]? = some (.string (bs l[k].p)) ∧ (stc l)[k * 4 + 3]? = some (.string (bs l[k].t))
  | f :: r, 0, _ => ⟨rfl, rfl, rfl, rfl⟩
  | f :: r, k + 1, h => by
    have ih := stc_get r k (by simpa using h)
    rw [show (k + 1) * 4 = k * 4 + 4 by omega]
    simp only [stc, List.getElem_cons_succ]
    exact ih
/-- a slice of steps reads as a list -/
def TS4 (w : World) (v : Value) (l : List Stp) : Prop :=
  ((∃ a c, v = .slice a 0 c) ∧ l = []) ∨
  ∃ b off cap, v = .slice (some ⟨b, off, none⟩) l.length cap ∧ l.length ≤ cap ∧ b < w.heap.size ∧ ∀ i u, (stc l)[i]? = some u → w.cell? ⟨b, off + i, none⟩ = some u
theorem TS4.form {w : World} {v : Value} {l : List Stp} (h : TS4 w v l) : ∃ a c, v = .slice a l.length c := by
  rcases h with ⟨⟨a, c, rfl⟩, rfl⟩ | ⟨b, off, cap, rfl, hc, hlt, hcell⟩
  · exact ⟨a, c, rfl⟩
  · exact ⟨_, cap, rfl⟩
theorem TS4.at {w : World} {a : Option Addr} {c n : Nat} {l : List Stp} (h : TS4 w (.slice a n c) l) {wr : World} (hb : Below w.heap.size w wr) {k : Nat} (hk : k < l.length) : ∃ b off, a = some ⟨b, off, none⟩ ∧ b < w.heap.size ∧
    wr.cell? ⟨b, off + k * 4, none⟩ = some (.bool l[k].sec) ∧ wr.cell? ⟨b, off + k * 4 + 1, none⟩ = some (.int .i64 l[k].kind) ∧ wr.cell? ⟨b, off + k * 4 + 2, none⟩ = some (.string (bs l[k].p)) ∧ wr.cell? ⟨b, off + k * 4 + 3, none⟩ = some (.string (bs l[k].t)) := by
  rcases h with ⟨_, rfl⟩ | ⟨b, off, cap, e, hc, hlt, hcell⟩
  · simp at hk
  · injection e with e1 e2 e3
    subst e1
    obtain ⟨c0, c1, c2, c3⟩ := stc_get l k hk
    refine ⟨b, off, rfl, hlt, ?_, ?_, ?_, ?_⟩
    · rw [hb.cell (p := ⟨b, off + k * 4, none⟩) hlt]; exact hcell _ _ c0
    · rw [hb.cell (p := ⟨b, off + k * 4 + 1, none⟩) hlt, Nat.add_assoc]; exact hcell _ _ c1
    · rw [hb.cell (p := ⟨b, off + k * 4 + 2, none⟩) hlt, Nat.add_assoc]; exact hcell _ _ c2
    · rw [hb.cell (p := ⟨b, off + k * 4 + 3, none⟩) hlt, Nat.add_assoc]; exact hcell _ _ c3
/-- what a machine has -/
structure SSm (l : List Stp) : Prop where
  len : l.length ≤ 100000000
  each : ∀ s ∈ l, s.p.length ≤ 1000000000 ∧ s.t.length ≤ 1000000000

/-- two pairs beside one another -/
structure P2 (CA : World → (Nat → Prop) → Nat → List Lb → Prop) (B : Nat) (w : World) (x y M : Nat) : Prop where
  it : ∃ X Y, Pq CA w X x ∧ Pq CA w Y y ∧ (∀ k, X k → ¬ Y k) ∧ (∀ k, X k → B ≤ k ∧ k < M) ∧ (∀ k, Y k → B ≤ k ∧ k < M)
section
variable {CA : World → (Nat → Prop) → Nat → List Lb → Prop} {w w' : World} {B x y M : Nat}
end

/-! ### the law CacheAll -/
end Go.Proofs.YtddaoloabfkheaaGreatDoor

namespace Go.Proofs.YtddaoloabfkheaaGreatDoor
open Go.ChangeShapes Go.WideShapes Go.ChangeAt Go.RowKit Go.Deep

theorem cells9 : Tryz.prog.cellsOf 9 = 1 := by kernel_rfl
theorem cells3' : Tryz.prog.cellsOf 3 = 1 := by kernel_rfl
theorem cells4' : Tryz.prog.cellsOf 4 = 1 := by kernel_rfl
theorem cells40 : Tryz.prog.cellsOf 40 = 4 := by kernel_rfl
def Stp.datum {H : Type} (s : Stp) : DataW H := .agg [.lit (.bool s.sec), .lit (.int .i64 s.kind), .lit (.string s.p), .lit (.string s.t)]
def tots : List Stp → Nat
  | [] => 0
  | s :: r => s.p.length + s.t.length + 5 + tots r
theorem bulk_steps {H : Type} : ∀ l : List Stp, tots l ≤ Rows.uptoBulkAll (l.map (Stp.datum (H := H)))
  | [] => by simp [tots]
  | f :: r => by
    have := bulk_steps (H := H) r
    rw [List.map_cons]
    simp only [Rows.uptoBulkAll, Stp.datum, Rows.uptoBulk, tots]
    omega
theorem tots_len : ∀ l : List Stp, 5 * l.length ≤ tots l
  | [] => by simp [tots]
  | f :: r => by have := tots_len r; simp only [tots, List.length_cons]; omega
theorem tots_mem : ∀ l : List Stp, ∀ f ∈ l, f.p.length + f.t.length ≤ tots l
  | [], f, h => by cases h
  | g :: r, f, h => by
    simp only [tots]
    rcases List.mem_cons.1 h with rfl | h
    · omega
    · have := tots_mem r f h; omega
set_option maxRecDepth 100000 in
theorem open_steps {H : Type} {enc : TypeId × Value → H} {W : World} {base : Nat} {v : Value} {d : DataW H} {ps : List MemPlace} (hok : Value.okWide Tryz.prog W .any base 38 v)
    (h : DataW.Trod enc Tryz.prog W 0 (fun _ => true) true 38 v d ps) (hd : Rows.uptoBulk d ≤ 1048576) :
    ∃ l : List Stp, TS4 W v l ∧ SSm l := by
  suffices hs : ∃ l : List Stp, TS4 W v l ∧ Rows.uptoBulkAll (l.map (Stp.datum (H := H))) ≤ Rows.uptoBulk d by
    obtain ⟨l, h1, h3⟩ := hs
    have h4 := bulk_steps (H := H) l
    have h5 := tots_len l
    have h6 := tots_mem l
    refine ⟨l, h1, ⟨by omega, fun s hs => ?_⟩⟩
    have := h6 s hs
    exact ⟨by omega, by omega⟩
  clear hd
  obtain ⟨a0, len0, cap0, rfl⟩ := okWide_slice Tryz.underlying38 hok
  obtain ⟨fuel, hf⟩ := h
  rcases open_slice Tryz.underlying38 hf with ⟨hcs, _⟩ | ⟨a, len, cap, m, n, D, Pl, hcs, _, hl, hm, hmm, hx, hel⟩
  · simp [Value.cells] at hcs
    obtain ⟨rfl, rfl, rfl⟩ := hcs
    exact ⟨[], .inl ⟨⟨_, _, rfl⟩, rfl⟩, by simp [Rows.uptoBulkAll]⟩
  · simp [Value.cells] at hcs
    obtain ⟨rfl, rfl, rfl⟩ := hcs
    simp at hmm
    subst hmm
    have each : ∀ i, i < m → ∃ q : Stp, W.cell? (a.add (i * 4)) = some (.bool q.sec) ∧ W.cell? (a.add (i * 4 + 1)) = some (.int .i64 q.kind) ∧ W.cell? (a.add (i * 4 + 2)) = some (.string (bs q.p)) ∧ W.cell? (a.add (i * 4 + 3)) = some (.string (bs q.t)) ∧ D i = q.datum := by
      intro i hi
      obtain ⟨cs', h1, h2⟩ := hel i hi
      rw [cells40] at h1
      obtain ⟨_, hlen, hcell⟩ := World.cells?_some h1
      obtain ⟨xs, k, hk, hxy, _, hxl, hfl⟩ := DataW.trod_struct Tryz.underlying40 h2
      match xs, hxl, cs', hlen with
      | [y0, y1, y2, y3], _, [v0, v1, v2, v3], _ =>
        have g0 := hfl 0 _ rfl
        have g1 := hfl 1 _ rfl
        have g2 := hfl 2 _ rfl
        have g3 := hfl 3 _ rfl
        simp [cells3', cells9, cells4'] at g0 g1 g2 g3
        obtain ⟨z0, e0, x0⟩ := DataW.trod_bool Tryz.underlying4 g0
        obtain ⟨z1, e1, x1, wz1⟩ := DataW.trod_int Tryz.underlying3 g1
        obtain ⟨s2, e2, x2, ws2⟩ := DataW.trod_string Tryz.underlying9 g2
        obtain ⟨s3, e3, x3, ws3⟩ := DataW.trod_string Tryz.underlying9 g3
        have c0 := hcell 0 (by simp)
        have c1 := hcell 1 (by simp)
        have c2 := hcell 2 (by simp)
        have c3 := hcell 3 (by simp)
        rw [add_add] at c0 c1 c2 c3
        simp at e0 e1 e2 e3
        subst e0 e1 e2 e3 x0 x1 x2 x3
        simp only [Prod.mk.injEq] at hxy
        have c2' : W.cell? (a.add (i * 4 + 2)) = some (.string s2) := by simpa using c2
        have c3' : W.cell? (a.add (i * 4 + 3)) = some (.string s3) := by simpa using c3
        exact ⟨⟨z0, z1, s2.data.toList, s3.data.toList⟩, by simpa using c0, by simpa using c1, c2', c3', by simpa [Stp.datum] using hxy.1⟩
    have hinh : Inhabited Stp := ⟨⟨false, 0, [], []⟩⟩
    obtain ⟨q, hq⟩ := choose_lt (α := Stp) each
    have hD : (List.range len0).map D = (List.range len0).map fun i => (q i).datum := List.map_congr_left (fun i hi => (hq i (by have := List.mem_range.1 hi; omega)).2.2.2.2)
    refine ⟨(List.range len0).map q, ?_, ?_⟩
    · by_cases h0 : len0 = 0
      · subst h0
        exact .inl ⟨⟨_, _, rfl⟩, rfl⟩
      · obtain ⟨b, off, spot⟩ := a
        have hspot : spot = none := by simpa [Addr.add] using World.cell?_spot (hq 0 (by omega)).1
        subst hspot
        refine .inr ⟨b, off, m, by simp, by simpa using hl, World.block_lt_of_cell? W _ (by have := (hq 0 (by omega)).1; rw [add_lit] at this; exact this), fun i u hu => ?_⟩
        have hi : i < len0 * 4 := by
          have := (List.getElem?_eq_some_iff.1 hu).1
          rw [stc_length] at this
          simpa using this
        have hj : i / 4 < ((List.range len0).map q).length := by simp; omega
        obtain ⟨t0, t1, t2, t3⟩ := stc_get ((List.range len0).map q) (i / 4) hj
        obtain ⟨u0, u1, u2, u3, _⟩ := hq (i / 4) (by omega)
        rw [add_lit] at u0 u1 u2 u3
        simp only [List.getElem_map, List.getElem_range] at t0 t1 t2 t3
        have hr : i % 4 = 0 ∨ i % 4 = 1 ∨ i % 4 = 2 ∨ i % 4 = 3 := by omega
        rcases hr with hr | hr | hr | hr
        · rw [show i / 4 * 4 = i from by omega] at t0 u0
          rw [t0] at hu
          rw [u0]
          exact hu
        · rw [show i / 4 * 4 + 1 = i from by omega] at t1 u1
          rw [t1] at hu
          rw [u1]
          exact hu
        · rw [show i / 4 * 4 + 2 = i from by omega] at t2 u2
          rw [t2] at hu
          rw [u2]
          exact hu
        · rw [show i / 4 * 4 + 3 = i from by omega] at t3 u3
          rw [t3] at hu
          rw [u3]
          exact hu
    · have hd : d = .slice ((List.range len0).map D) ((List.range (m - len0)).map fun j => D (len0 + j)) := by simpa using congrArg Prod.fst hx
      rw [hd, hD]
      simp only [Rows.uptoBulk, List.map_map]
      have e : (List.range len0).map (Stp.datum (H := H) ∘ q) = (List.range len0).map fun i => (q i).datum := rfl
      rw [e]
      omega
end Go.Proofs.YtddaoloabfkheaaGreatDoor
