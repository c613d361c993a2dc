/-
  The order, worked out by counting: plain lists.
  Order.
-/
import Derived.Test.YtjohhmfncemknaaHq
namespace Go.Proofs.Ytjohhmfncemknaa

/-- how many ends are not told yet; those of b's that still wait count b too -/
def wt (out : Lb → List Lb) (T pend : List Lb) (a : Lb) : Nat := (out a).countP (fun c => !decide (c ∈ T)) + (if a ∈ pend then 1 else 0)
structure GF (ns : List Lb) (out : Lb → List Lb) : Prop where
  nd : ns.Nodup
  up : ∀ a, UpL (out a)
  sub : ∀ a b, b ∈ out a → a ∈ ns ∧ b ∈ ns
theorem GR.gf {w : World} {F : Nat → Prop} {g : Nat} {ns : List Lb} {out : Lb → List Lb} (h : GR w F g ns out) : GF ns out := ⟨h.nd, h.up, h.sub⟩
theorem GF.eg {ns : List Lb} {out : Lb → List Lb} (h : GF ns out) (a b : Lb) : (a, b) ∈ Eg ns out ↔ b ∈ out a := by
  unfold Eg
  rw [List.mem_flatMap]
  constructor
  · rintro ⟨x, _, hx⟩
    obtain ⟨y, hy, e⟩ := List.mem_map.1 hx
    injection e with e1 e2
    subst e1 e2
    exact hy
  · intro hb
    exact ⟨a, (h.sub a b hb).1, List.mem_map.2 ⟨b, hb, rfl⟩⟩
structure OI (ns : List Lb) (out : Lb → List Lb) (T fl pend : List Lb) : Prop where
  nd : T.Nodup
  sub : ∀ a ∈ T, a ∈ ns
  cl : ∀ a ∈ T, ∀ c ∈ out a, c ∈ T
  fnd : fl.Nodup
  fm : ∀ a, a ∈ fl ↔ a ∈ ns ∧ a ∉ T ∧ wt out T pend a = 0
  od : Gs.ord (rs ns) (Eg ns out) = Gs.ordF (rs ns) (Eg ns out) ((rs ns).length - T.length) T
  ln : T.length ≤ (rs ns).length
theorem countP_zero {l T : List Lb} : l.countP (fun c => !decide (c ∈ T)) = 0 ↔ ∀ c ∈ l, c ∈ T := by
  rw [List.countP_eq_zero]
  constructor
  · intro h c hc
    have := h c hc
    simpa using this
  · intro h c hc
    simp [h c hc]
theorem find_least {l : List Lb} (hl : UpL l) {p : Lb → Bool} {b : Lb} (hb : b ∈ l) (hp : p b = true) (hm : ∀ x ∈ l, p x = true → leL b x) : l.find? p = some b := by
  induction l with
  | nil => simp at hb
  | cons y r ih =>
    obtain ⟨h1, h2⟩ := List.pairwise_cons.1 hl
    rw [List.find?_cons]
    by_cases hpy : p y = true
    · rw [hpy]
      rcases List.mem_cons.1 hb with rfl | hbr
      · rfl
      · have h3 := hm y (by simp) hpy
        have h4 := h1 b hbr
        unfold leL at h3
        rw [h4] at h3; cases h3
    · have : p y = false := by simpa using hpy
      rw [this]
      rcases List.mem_cons.1 hb with rfl | hbr
      · rw [this] at hp; cases hp
      · exact ih h2 hbr (fun x hx => hm x (by simp [hx]))
theorem OI.cand {ns : List Lb} {out : Lb → List Lb} (g : GF ns out) {T fl : List Lb} (h : OI ns out T fl []) (a : Lb) (ha : a ∈ ns) : (!decide (a ∈ T) && Gs.rdy (Eg ns out) T a) = true ↔ a ∈ fl := by
  rw [h.fm a]
  simp only [Bool.and_eq_true, Bool.not_eq_true', decide_eq_false_iff_not, Gs.rdy_iff, wt]
  have e : (if a ∈ ([] : List Lb) then 1 else 0) = 0 := by simp
  rw [e, Nat.add_zero, countP_zero]
  constructor
  · rintro ⟨h1, h2⟩
    exact ⟨ha, h1, fun c hc => h2 c ((g.eg a c).2 hc)⟩
  · rintro ⟨_, h1, h2⟩
    exact ⟨h1, fun c hc => h2 c ((g.eg a c).1 hc)⟩
theorem OI.nxt {ns : List Lb} {out : Lb → List Lb} (g : GF ns out) {T fl : List Lb} (h : OI ns out T fl []) {b : Lb} (hb : b ∈ fl) (hm : ∀ x ∈ fl, leL b x) : Gs.nxt (rs ns) (Eg ns out) T = some b := by
  have hbn := ((h.fm b).1 hb).1
  refine find_least (Gs.ris_up stoL ns) ((Gs.mem_ris b ns).2 hbn) ((h.cand g b hbn).2 hb) (fun x hx hp => hm x ?_)
  exact (h.cand g x ((Gs.mem_ris x ns).1 hx)).1 hp
theorem OI.last {ns : List Lb} {out : Lb → List Lb} (g : GF ns out) {T : List Lb} (h : OI ns out T [] []) : Gs.ord (rs ns) (Eg ns out) = if T.length < (rs ns).length then none else some T := by
  rw [h.od]
  split
  · rename_i hlt
    obtain ⟨k, hk⟩ : ∃ k, (rs ns).length - T.length = k + 1 := ⟨(rs ns).length - T.length - 1, by omega⟩
    rw [hk]
    unfold Gs.ordF
    have : Gs.nxt (rs ns) (Eg ns out) T = none := by
      unfold Gs.nxt
      rw [List.find?_eq_none]
      intro x hx hp
      have := (h.cand g x ((Gs.mem_ris x ns).1 hx)).1 hp
      simp at this
    rw [this]
  · rename_i hlt
    rw [show (rs ns).length - T.length = 0 by omega]
    rfl
theorem nodup_sub_len {T ns : List Lb} (h : T.Nodup) (hs : ∀ a ∈ T, a ∈ ns) : T.length ≤ (rs ns).length := Gs.nodup_sub T (rs ns) h (fun x hx => (Gs.mem_ris x ns).2 (hs x hx))
theorem countP_snoc {l T : List Lb} {b : Lb} (hl : l.Nodup) (hb : b ∉ T) : l.countP (fun c => !decide (c ∈ T)) = l.countP (fun c => !decide (c ∈ T ++ [b])) + (if b ∈ l then 1 else 0) := by
  induction l with
  | nil => simp
  | cons x r ih =>
    obtain ⟨h1, h2⟩ := List.nodup_cons.1 hl
    have ih := ih h2
    rw [List.countP_cons, List.countP_cons, ih]
    by_cases hx : x = b
    · subst hx
      simp [hb, h1]
    · have hbx : b ≠ x := fun e => hx e.symm
      by_cases hT : x ∈ T
      · simp [hT, hbx]
      · simp [hT, hx, hbx]; omega
theorem OI.pop {ns : List Lb} {out : Lb → List Lb} (g : GF ns out) {T fl : List Lb} (h : OI ns out T fl []) {b : Lb} (hm : ∀ x ∈ fl, leL b x) {fl' : List Lb} (hp : (fl' ++ [b]).Perm fl) {P : List Lb} (hP : ∀ a, a ∈ P ↔ b ∈ out a) :
    OI ns out (T ++ [b]) fl' P ∧ (∀ a, wt out (T ++ [b]) P a = wt out T [] a) ∧ ∀ a ∈ P, a ∈ ns ∧ a ∉ T ++ [b] := by
  have hb : b ∈ fl := hp.mem_iff.1 (by simp)
  obtain ⟨hbn, hbT, hbw⟩ := (h.fm b).1 hb
  have hrb : ∀ c ∈ out b, c ∈ T := by
    unfold wt at hbw
    exact countP_zero.1 (by omega)
  have hw : ∀ a, wt out (T ++ [b]) P a = wt out T [] a := by
    intro a
    unfold wt
    rw [countP_snoc (Gs.Ris.nodup stoL (g.up a)) hbT]
    have e1 : (if a ∈ ([] : List Lb) then 1 else 0) = 0 := by simp
    rw [e1, Nat.add_zero]
    congr 1
    by_cases hx : b ∈ out a
    · rw [if_pos ((hP a).2 hx), if_pos hx]
    · rw [if_neg (fun e => hx ((hP a).1 e)), if_neg hx]
  have hnd : (fl' ++ [b]).Nodup := hp.nodup_iff.2 h.fnd
  have hndT : (T ++ [b]).Nodup := by
    rw [List.nodup_append]
    refine ⟨h.nd, by simp, ?_⟩
    intro x hx y hy
    have : y = b := by simpa using hy
    subst this
    rintro rfl
    exact hbT hx
  have hsubT : ∀ a ∈ T ++ [b], a ∈ ns := by
    intro a ha
    rcases List.mem_append.1 ha with ha | ha
    · exact h.sub a ha
    · have : a = b := by simpa using ha
      rw [this]; exact hbn
  have hlen := nodup_sub_len hndT hsubT
  refine ⟨⟨hndT, hsubT, ?_, (List.nodup_append.1 hnd).1, ?_, ?_, hlen⟩, hw, ?_⟩
  · intro a ha c hc
    rcases List.mem_append.1 ha with ha | ha
    · exact List.mem_append.2 (.inl (h.cl a ha c hc))
    · have : a = b := by simpa using ha
      subst this
      exact List.mem_append.2 (.inl (hrb c hc))
  · intro a
    rw [hw a]
    have h1 : a ∈ fl ↔ a ∈ fl' ∨ a = b := by rw [← hp.mem_iff]; simp
    have h2 : a ∈ fl' → a ≠ b := by
      intro ha e
      exact (List.nodup_append.1 hnd).2.2 a ha b (by simp) e
    rw [show (a ∉ T ++ [b]) ↔ (a ∉ T ∧ a ≠ b) by simp]
    constructor
    · intro ha
      obtain ⟨x1, x2, x3⟩ := (h.fm a).1 (h1.2 (.inl ha))
      exact ⟨x1, ⟨x2, h2 ha⟩, x3⟩
    · rintro ⟨x1, ⟨x2, x3⟩, x4⟩
      rcases h1.1 ((h.fm a).2 ⟨x1, x2, x4⟩) with h5 | h5
      · exact h5
      · exact absurd h5 x3
  · rw [h.od]
    have hl2 : (T ++ [b]).length = T.length + 1 := by simp
    rw [hl2] at hlen ⊢
    obtain ⟨k, hk⟩ : ∃ k, (rs ns).length - T.length = k + 1 := ⟨(rs ns).length - T.length - 1, by omega⟩
    rw [hk, show (rs ns).length - (T.length + 1) = k by omega]
    conv => lhs; unfold Gs.ordF
    rw [h.nxt g hb hm]
  · intro a ha
    have hba := (hP a).1 ha
    refine ⟨(g.sub a b hba).1, ?_⟩
    intro e
    rcases List.mem_append.1 e with e | e
    · exact hbT (h.cl a e b hba)
    · have : a = b := by simpa using e
      subst this
      exact hbT (hrb a hba)
theorem wt_cons {out : Lb → List Lb} {T P : List Lb} {a : Lb} (ha : a ∉ P) : wt out T (a :: P) a = wt out T P a + 1 ∧ ∀ x, x ≠ a → wt out T (a :: P) x = wt out T P x := by
  unfold wt
  refine ⟨by simp [ha], fun x hx => by simp [hx]⟩
theorem OI.more {ns : List Lb} {out : Lb → List Lb} {T fl P : List Lb} {a : Lb} (h : OI ns out T fl (a :: P)) (ha : a ∉ P) (han : a ∈ ns) (haT : a ∉ T) :
    (wt out T P a ≠ 0 → OI ns out T fl P) ∧ (wt out T P a = 0 → ∀ fl' : List Lb, fl'.Perm (fl ++ [a]) → OI ns out T fl' P) := by
  obtain ⟨w1, w2⟩ := wt_cons (out := out) (T := T) ha
  have hna : a ∉ fl := by
    intro e
    have := ((h.fm a).1 e).2.2
    omega
  refine ⟨fun h0 => ⟨h.nd, h.sub, h.cl, h.fnd, fun x => ?_, h.od, h.ln⟩, fun h0 fl' hp => ⟨h.nd, h.sub, h.cl, ?_, fun x => ?_, h.od, h.ln⟩⟩
  · by_cases hx : x = a
    · subst hx
      constructor
      · intro e; exact absurd e hna
      · rintro ⟨_, _, e⟩; exact absurd e h0
    · rw [h.fm x, w2 x hx]
  · rw [hp.nodup_iff, List.nodup_append]
    refine ⟨h.fnd, by simp, ?_⟩
    intro x hx y hy
    have : y = a := by simpa using hy
    subst this
    rintro rfl
    exact hna hx
  · rw [hp.mem_iff, List.mem_append]
    by_cases hx : x = a
    · subst hx
      constructor
      · intro _; exact ⟨han, haT, h0⟩
      · intro _; right; simp
    · rw [h.fm x, w2 x hx]
      simp [hx]
theorem OI.start {ns : List Lb} {out : Lb → List Lb} {fl : List Lb} (hf : fl.Nodup) (hm : ∀ a, a ∈ fl ↔ a ∈ ns ∧ out a = []) : OI ns out [] fl [] := by
  refine ⟨List.nodup_nil, by simp, by simp, hf, fun a => ?_, rfl, by simp⟩
  rw [hm a]
  unfold wt
  have e : (out a).countP (fun c => !decide (c ∈ ([] : List Lb))) = (out a).length := by simp
  rw [e]
  simp
theorem wt_start (out : Lb → List Lb) (a : Lb) : wt out [] [] a = (out a).length := by simp [wt]
end Go.Proofs.Ytjohhmfncemknaa

namespace Go.Proofs.Ytjohhmfncemknaa
open Go.RowKit Go.Maps

def cI : Cd Int where
  R := fun v => match v with | .int .i64 x => some (.lit (.int .i64 x), []) | _ => none
  enc := fun x => .int .i64 x
  d := fun x => .lit (.int .i64 x)
  z := 0
  t := 72
  e := 3
  hR _ := rfl
  inv v y h := by
    split at h
    · exact ⟨_, rfl⟩
    · cases h
  inj x y h := by
    injection h with h
    injection h
  und := by kernel_rfl
  zero w := by kernel_rfl

/-- what Order works with: the graph, the graph turned about -/
structure OW (w w1 : World) (F : Nat → Prop) (g gb : Nat) (ns : List Lb) (out : Lb → List Lb) (Fb : Nat → Prop) (nsb : List Lb) (outb : Lb → List Lb) : Prop where
  gr : GR w F g ns out
  b1 : Below w.heap.size w w1
  gb : GR w1 Fb gb nsb outb
  mb : ∀ x, x ∈ nsb ↔ x ∈ ns
  ob : ∀ x y, y ∈ outb x ↔ x ∈ out y
  sz : ns.length + 2 ≤ 1000000
/-- the counts, the queue -/
structure QS (G : Nat → Prop) (mb q : Nat) (ns : List Lb) (c : Lb → Option Int) (cnt : Nat) (fl : List Lb) (wr : World) : Prop where
  map : MP cI wr mb c cnt
  que : QB G wr q fl
  heap : HO (fA fl) fl.length
  gm : ¬ G mb
  gq : ¬ G q
  new : NewG G wr
  lu : ∀ a ∈ fl, a ∈ ns
section
variable {G : Nat → Prop} {mb q cnt : Nat} {ns fl : List Lb} {c : Lb → Option Int} {wr : World}
theorem QS.later {wr' : World} (h : QS G mb q ns c cnt fl wr) (hb : Below wr.heap.size wr wr') : QS G mb q ns c cnt fl wr' :=
  ⟨h.map.later hb, h.que.later hb, h.heap, h.gm, h.gq, h.new.mono hb.size, h.lu⟩
theorem QS.congr {c' : Lb → Option Int} (h : QS G mb q ns c cnt fl wr) (hc : ∀ k, Lu k → c k = c' k) : QS G mb q ns c' cnt fl wr :=
  ⟨h.map.congr hc, h.que, h.heap, h.gm, h.gq, h.new, h.lu⟩
theorem QS.to {G' : Nat → Prop} (h : QS G mb q ns c cnt fl wr) (hG : ∀ k, k < wr.heap.size → G k → G' k) (hm : ¬ G' mb) (hq : ¬ G' q) (hn : NewG G' wr) : QS G' mb q ns c cnt fl wr := by
  obtain ⟨v, hv, ho, hg⟩ := h.que
  exact ⟨h.map, ⟨v, hv, ho, fun k hk => hG k (ho.lt hk).2 (hg k hk)⟩, h.heap, hm, hq, hn, h.lu⟩
theorem QS.ne (h : QS G mb q ns c cnt fl wr) : mb ≠ q := by
  rintro rfl
  obtain ⟨v, hv, _⟩ := h.que
  obtain ⟨D, ⟨es, clock, hb, _⟩, _⟩ := h.map
  rw [show wr.heap[mb]? = _ from hv] at hb; cases hb
/-- a count stored -/
theorem QS.store {w2 : World} {c' : Lb → Option Int} {cnt' : Nat} (h : QS G mb q ns c cnt fl wr) (hm : MP cI w2 mb c' cnt') (ho : Only [mb] wr w2) : QS G mb q ns c' cnt' fl w2 := by
  have hne := h.ne
  obtain ⟨v, hv, hov, hg⟩ := h.que
  refine ⟨hm, ⟨v, (ho.block q hv.lt (by simpa using hne.symm)).trans hv, hov.only ho (fun k hk hm => ?_), hg⟩, h.heap, h.gm, h.gq, h.new.mono ho.size, h.lu⟩
  have e : k = mb := by simpa using hm
  exact h.gm (e ▸ hg k hk)
/-- what the loops write -/
abbrev oF (G : Nat → Prop) (mb q : Nat) : Nat → Prop := fun k => k = mb ∨ k = q ∨ G k
theorem hpush_q (h : QS G mb q ns c cnt fl wr) (hlu : ∀ a ∈ ns, Lu a) (hl : fl.length + 1 ≤ 1000000) (a : Lb) (ha : a ∈ ns) :
    Calls Try.prog 34 #[.iface 75 (.pointer (some ⟨q, 0, none⟩)), .iface 31 a.val] wr fun e w' => e = .returned (.tuple #[]) ∧ ∃ fl', fl'.Perm (fl ++ [a]) ∧ QS G mb q ns c cnt fl' w' ∧ OnlyP (oF G mb q) wr w' := by
  have hne := h.ne
  refine (hpush_any h.que h.new (fun x hx => hlu x (h.lu x hx)) hl h.heap a (hlu a ha)).mono ?_
  rintro e w' ⟨rfl, l', h1, h2, h3, h4⟩
  refine ⟨rfl, l', h2, ⟨h.map.block (h4.block mb h.map.lt (fun e => ?_)), h1, h3, h.gm, h.gq, h.new.mono h4.size, fun x hx => ?_⟩, ⟨h4.os, h4.tape, h4.output, h4.size, fun k hk hn => h4.block k hk (fun e => hn (.inr e))⟩⟩
  · rcases e with e | e
    · exact hne e
    · exact h.gm e
  · rcases List.mem_append.1 (h2.mem_iff.1 hx) with h5 | h5
    · exact h.lu x h5
    · have : x = a := by simpa using h5
      rw [this]; exact ha
theorem hpop_q (h : QS G mb q ns c cnt fl wr) (hlu : ∀ a ∈ ns, Lu a) (hl : fl.length ≤ 1000000) (hne : 0 < fl.length) :
    Calls Try.prog 35 #[.iface 75 (.pointer (some ⟨q, 0, none⟩))] wr fun e w' => (∃ x, e = .returned x) ∧ ∃ fl', (fl' ++ [fA fl 0]).Perm fl ∧ QS G mb q ns c cnt fl' w' ∧ OnlyP (oF G mb q) wr w' := by
  have hnq := h.ne
  refine (hpop_any h.que h.new (fun x hx => hlu x (h.lu x hx)) hl hne h.heap).mono ?_
  rintro e w' ⟨hx, l', h1, h2, h3, h4⟩
  refine ⟨hx, l', h2, ⟨h.map.block (h4.block mb h.map.lt (fun e => ?_)), h1, h3, h.gm, h.gq, h.new.mono h4.size, fun x hx => h.lu x (h2.mem_iff.1 (by simp [hx]))⟩, ⟨h4.os, h4.tape, h4.output, h4.size, fun k hk hn => h4.block k hk (fun e => hn (.inr e))⟩⟩
  rcases e with e | e
  · exact hnq e
  · exact h.gm e
end
/-- the worlds of the loops -/
structure OR (w w1 wB w2 : World) (v : Value) (F : Nat → Prop) (g gb : Nat) (ns : List Lb) (out : Lb → List Lb) (Fb : Nat → Prop) (nsb : List Lb) (outb : Lb → List Lb) : Prop extends OW w w1 F g gb ns out Fb nsb outb where
  bB : Below w1.heap.size w1 wB
  b2 : Below wB.heap.size wB w2
  own : OwnL wB.heap.size w2 v (rs ns)
  sB : wB.heap.size = w1.heap.size + 2
/-- the loops' blocks: those of G are new -/
abbrev oG (w1 w2 : World) : Nat → Prop := fun k => k = w1.heap.size ∨ k = w1.heap.size + 1 ∨ w2.heap.size ≤ k
section
variable {w w1 wB w2 : World} {v : Value} {F : Nat → Prop} {g gb : Nat} {ns : List Lb} {out : Lb → List Lb} {Fb : Nat → Prop} {nsb : List Lb} {outb : Lb → List Lb}
theorem OR.s2 (h : OR w w1 wB w2 v F g gb ns out Fb nsb outb) : w1.heap.size + 2 ≤ w2.heap.size := by have := h.sB; have := h.b2.size; omega
theorem OR.below1 (h : OR w w1 wB w2 v F g gb ns out Fb nsb outb) {wr : World} (ho : OnlyP (oG w1 w2) w2 wr) : Below w1.heap.size w1 wr := by
  have h1 : Below w1.heap.size w1 w2 := bstep h.bB h.b2
  exact below_trans h1 (ho.below h1.size (fun k hk => by have := h.s2; rcases hk with hk | hk | hk <;> omega))
theorem OR.below (h : OR w w1 wB w2 v F g gb ns out Fb nsb outb) {wr : World} (ho : OnlyP (oG w1 w2) w2 wr) : Below w.heap.size w wr := bstep h.b1 (h.below1 ho)
theorem OR.list (h : OR w w1 wB w2 v F g gb ns out Fb nsb outb) {wr : World} (hon : OnlyP (oG w1 w2) w2 wr) : LS wr v (rs ns) := by
  rcases OL.of h.own with ⟨e, e2⟩ | ⟨q, cap, rest, e, ho⟩
  · exact .inl ⟨⟨_, _, e⟩, e2⟩
  · have h1 : wr.heap[q]? = w2.heap[q]? := hon.block q ho.lt (fun hk => by have := ho.ge; have := ho.lt; have := h.sB; rcases hk with h | h | h <;> omega)
    have ho2 : OL wB.heap.size wr q cap (rs ns) rest := ⟨h1.trans ho.blk, ho.ge, ho.cm, ho.sz⟩
    rw [e]
    exact ho2.own.rs
end
end Go.Proofs.Ytjohhmfncemknaa
