/-
  Order: the worlds of its loops.
-/
import Derived.Test.YtjohhmfncemknaaJOd
namespace Go.Proofs.Ytjohhmfncemknaa
open Go.RowKit Go.Maps

theorem rs_nd (ns : List Lb) : (rs ns).Nodup := Gs.Ris.nodup stoL (Gs.ris_up stoL ns)
theorem nd_take {l : List Lb} (h : l.Nodup) {k : Nat} (hk : k < l.length) : l[k] ∉ l.take k := by
  have h1 := List.take_succ_eq_append_getElem hk
  have h2 : (l.take (k + 1)).Nodup := h.sublist (List.take_sublist _ _)
  rw [h1, List.nodup_append] at h2
  exact fun e => h2.2.2 _ e _ (by simp) rfl
/-- the counts of the first k -/
def cF (ns : List Lb) (out : Lb → List Lb) (k : Nat) : Lb → Option Int := fun a => if a ∈ (rs ns).take k then some ((out a).length : Int) else none
def cW (ns : List Lb) (out : Lb → List Lb) (T P : List Lb) : Lb → Option Int := fun a => if a ∈ ns then some (wt out T P a : Int) else none
theorem cF_end {ns : List Lb} {out : Lb → List Lb} {k : Nat} (hk : (rs ns).length ≤ k) (a : Lb) : cF ns out k a = cW ns out [] [] a := by
  unfold cF cW
  rw [List.take_of_length_le hk, wt_start]
  by_cases h : a ∈ ns
  · rw [if_pos h, if_pos ((Gs.mem_ris _ _).2 h)]
  · rw [if_neg h, if_neg (fun e => h ((Gs.mem_ris _ _).1 e))]
abbrev g1 (w2 : World) : Nat → Prop := fun k => w2.heap.size ≤ k
section
variable {G : Nat → Prop} {mb q cnt : Nat} {ns fl : List Lb} {out : Lb → List Lb} {c : Lb → Option Int} {wr : World}
theorem lp1_store {k : Nat} (h : QS G mb q ns (cF ns out k) k fl wr) (hk : k < (rs ns).length) (hs : k < 1000000) {wA : World} (hb : Below wr.heap.size wr wA) {a : Lb} (ha : (rs ns)[k] = a) (hu : Lu a) :
    ∃ w7, (Instr.mapUpdate 72 (.map (some mb)) a.val (.int .i64 ((out a).length : Int))).run Try.prog wA = .ok () w7 ∧ QS G mb q ns (cF ns out (k + 1)) (k + 1) fl w7 ∧ Only [mb] wA w7 ∧ (Instr.lookup 72 (.map (some mb)) a.val false).run Try.prog w7 = .ok (.int .i64 ((out a).length : Int)) w7 := by
  have hn : a ∉ (rs ns).take k := by rw [← ha]; exact nd_take (rs_nd ns) hk
  have h1 := h.later hb
  obtain ⟨w7, hrun, hm, ho, hsz⟩ := h1.map.store hu (by omega) ((out a).length : Int)
  have e : (if (cF ns out k a).isSome = true then k else k + 1) = k + 1 := by simp [cF, hn]
  rw [e] at hm
  have hm' : MP cI w7 mb (cF ns out (k + 1)) (k + 1) := by
    refine hm.congr (fun y _ => ?_)
    unfold cF
    rw [List.take_succ_eq_append_getElem hk, ha]
    by_cases hy : y = a
    · subst hy; simp
    · simp [hy]
  refine ⟨w7, hrun, h1.store hm' ho, ho, ?_⟩
  have := hm'.look hu false
  have e2 : at_ cI (cF ns out (k + 1) a) = ((out a).length : Int) := by
    unfold cF
    rw [List.take_succ_eq_append_getElem hk, ha]
    simp [at_]
  rw [e2] at this
  exact this
theorem QS.only {S : List Nat} {G' : Nat → Prop} {w' : World} (h : QS G mb q ns c cnt fl wr) (ho : Only S wr w') (hS : ∀ k ∈ S, k ≠ mb ∧ k ≠ q ∧ ¬ G k) (hG : ∀ k, k < wr.heap.size → G k → G' k) (hm : ¬ G' mb) (hq : ¬ G' q) (hn : NewG G' w') : QS G' mb q ns c cnt fl w' := by
  obtain ⟨v, hv, hov, hg⟩ := h.que
  exact ⟨h.map.only ho (fun e => (hS _ e).1 rfl), ⟨v, (ho.block q hv.lt (fun e => (hS _ e).2.1 rfl)).trans hv, hov.only ho (fun k hk e => (hS _ e).2.2 (hg k hk)), fun k hk => hG k (hov.lt hk).2 (hg k hk)⟩, h.heap, hm, hq, hn, h.lu⟩
end
/-- the second loop's: the list, the counts, the queue -/
structure L2 (w1 w2 : World) (G : Nat → Prop) (ns : List Lb) (c : Lb → Option Int) (T fl : List Lb) (v : Value) (wr : World) : Prop where
  qs : QS G w1.heap.size (w1.heap.size + 1) ns c ns.length fl wr
  g2 : ∀ k, G k → w2.heap.size ≤ k
  gv : ∀ k, v.ownBlock = some k → ¬ G k
  own : OwnL w2.heap.size wr v T
  on : OnlyP (oG w1 w2) w2 wr
section
variable {w1 w2 wr : World} {G : Nat → Prop} {ns T fl : List Lb} {c : Lb → Option Int} {v : Value}
theorem L2.later {wr' : World} (h : L2 w1 w2 G ns c T fl v wr) (hb : Below wr.heap.size wr wr') : L2 w1 w2 G ns c T fl v wr' :=
  ⟨h.qs.later hb, h.g2, h.gv, h.own.later hb, h.on.trans (OnlyP.of_below hb (oG w1 w2)) (fun _ _ e => e)⟩
theorem L2.onto {wr' : World} (h : L2 w1 w2 G ns c T fl v wr) (hb : OnlyP (oF G w1.heap.size (w1.heap.size + 1)) wr wr') : OnlyP (oG w1 w2) w2 wr' :=
  h.on.trans hb (fun k _ e => by
    rcases e with e | e | e
    · exact .inl e
    · exact .inr (.inl e)
    · exact .inr (.inr (h.g2 k e)))
theorem L2.keep {wr' : World} (hw : w1.heap.size + 2 ≤ w2.heap.size) (h : L2 w1 w2 G ns c T fl v wr) (hb : OnlyP (oF G w1.heap.size (w1.heap.size + 1)) wr wr') : OwnL w2.heap.size wr' v T := by
  have ho := h.own
  rcases OL.of h.own with ⟨e, e2⟩ | ⟨q, cap, rest, e, hol⟩
  · subst e e2; exact OwnL.nil _ _
  · have hge := hol.ge
    have hq : wr'.heap[q]? = wr.heap[q]? := hb.block q hol.lt (fun hk => by
      rcases hk with hk | hk | hk
      · omega
      · omega
      · exact h.gv q (by rw [e]; rfl) hk)
    have ho2 : OL w2.heap.size wr' q cap T rest := ⟨hq.trans hol.blk, hol.ge, hol.cm, hol.sz⟩
    rw [e]
    exact ho2.own
/-- a box laid beside the queue -/
theorem L2.box (h : L2 w1 w2 G ns c T fl v wr) (o : Obj) : L2 w1 w2 (fun k => G k ∧ k ≠ wr.heap.size) ns c T fl v (wr.alloc o) := by
  have h1 := h.later (balloc wr o)
  obtain ⟨x, hx, hox, hgx⟩ := h.qs.que
  refine ⟨⟨h1.qs.map, ⟨x, (((balloc wr o).block _ hx.lt).trans hx), hox.later (balloc wr o), fun k hk => ⟨hgx k hk, ?_⟩⟩, h.qs.heap, fun e => h.qs.gm e.1, fun e => h.qs.gq e.1, fun k hk => ⟨h1.qs.new k hk, ?_⟩, h.qs.lu⟩, fun k hk => h.g2 k hk.1, fun k hk e => h.gv k hk e.1, h1.own, h1.on⟩
  · have := (hox.lt hk).2; omega
  · have := (balloc wr o).size
    have : (wr.alloc o).heap.size = wr.heap.size + 1 := by simp
    omega
theorem L2.push (hw : w1.heap.size + 2 ≤ w2.heap.size) (h : L2 w1 w2 G ns c T fl v wr) (hlu : ∀ a ∈ ns, Lu a) (hl : fl.length + 1 ≤ 1000000) (a : Lb) (ha : a ∈ ns) :
    Calls Try.prog 34 #[.iface 75 (.pointer (some ⟨w1.heap.size + 1, 0, none⟩)), .iface 31 a.val] wr fun e w' => e = .returned (.tuple #[]) ∧ ∃ fl', fl'.Perm (fl ++ [a]) ∧ L2 w1 w2 G ns c T fl' v w' ∧ OnlyP (oF G w1.heap.size (w1.heap.size + 1)) wr w' := by
  refine (hpush_q h.qs hlu hl a ha).mono ?_
  rintro e w' ⟨rfl, fl', h1, h2, h3⟩
  exact ⟨rfl, fl', h1, ⟨h2, h.g2, h.gv, h.keep hw h3, h.onto h3⟩, h3⟩
theorem L2.pop (hw : w1.heap.size + 2 ≤ w2.heap.size) (h : L2 w1 w2 G ns c T fl v wr) (hlu : ∀ a ∈ ns, Lu a) (hl : fl.length ≤ 1000000) (hne : 0 < fl.length) :
    Calls Try.prog 35 #[.iface 75 (.pointer (some ⟨w1.heap.size + 1, 0, none⟩))] wr fun e w' => (∃ x, e = .returned x) ∧ ∃ fl', (fl' ++ [fA fl 0]).Perm fl ∧ L2 w1 w2 G ns c T fl' v w' ∧ OnlyP (oF G w1.heap.size (w1.heap.size + 1)) wr w' := by
  refine (hpop_q h.qs hlu hl hne).mono ?_
  rintro e w' ⟨hx, fl', h1, h2, h3⟩
  exact ⟨hx, fl', h1, ⟨h2, h.g2, h.gv, h.keep hw h3, h.onto h3⟩, h3⟩
/-- one more told -/
theorem L2.told (hw : w1.heap.size + 2 ≤ w2.heap.size) (h : L2 w1 w2 G ns c T fl v wr) {w' : World} {v' : Value} {b : Lb} (ho : OwnL w2.heap.size w' v' (T ++ [b])) (hon : Only v.ownBlock.toList wr w') (hkk : v'.ownBlock = v.ownBlock ∨ ∃ k, v'.ownBlock = some k ∧ wr.heap.size ≤ k) :
    L2 w1 w2 (fun k => G k ∧ v'.ownBlock ≠ some k) ns c (T ++ [b]) fl v' w' := by
  have hv : ∀ k ∈ v.ownBlock.toList, v.ownBlock = some k := fun k hk => by simpa using hk
  refine ⟨h.qs.only hon (fun k hk => ?_) (fun k hk hg => ⟨hg, fun e => ?_⟩) (fun e => h.qs.gm e.1) (fun e => h.qs.gq e.1) (fun k hk => ⟨h.qs.new k (Nat.le_trans hon.size hk), fun e => ?_⟩), fun k hk => h.g2 k hk.1, fun k hk e => e.2 hk, ho, h.on.trans (OnlyP.of_only (F := oG w1 w2) hon (fun k hk _ => .inr (.inr (h.own.lt (hv k hk)).1))) (fun _ _ e => e)⟩
  · have := (h.own.lt (hv k hk)).1
    exact ⟨by omega, by omega, h.gv k (hv k hk)⟩
  · rcases hkk with h1 | ⟨j, h1, h2⟩
    · exact h.gv k (h1 ▸ e) hg
    · rw [h1] at e
      injection e with e
      omega
  · have := (ho.lt e).2
    omega
/-- one count less -/
theorem L2.count {out : Lb → List Lb} {P : List Lb} {x : Lb} (h : L2 w1 w2 G ns (cW ns out T (x :: P)) T fl v wr) (hw : w1.heap.size + 2 ≤ w2.heap.size) (hx : x ∉ P) (hn : x ∈ ns) (hu : Lu x) (hz : ns.length ≤ 1000000) {wA : World} (hb : Below wr.heap.size wr wA) :
    ∃ (v0 : Value) (st : Nat) (w' : World), (Instr.lookup 72 (.map (some w1.heap.size)) x.val false).run Try.prog wA = .ok (.int .i64 ((wt out T P x : Int) + 1)) wA ∧ (Instr.mapEntry 72 (.map (some w1.heap.size)) x.val).run Try.prog wA = .ok (.tuple #[v0, goInt st]) wA ∧
      (Instr.entryStore 72 (.map (some w1.heap.size)) (goInt st) (.int .i64 (wt out T P x : Int))).run Try.prog wA = .ok () w' ∧ L2 w1 w2 G ns (cW ns out T P) T fl v w' ∧ Only [w1.heap.size] wA w' ∧ (Instr.lookup 72 (.map (some w1.heap.size)) x.val false).run Try.prog w' = .ok (.int .i64 (wt out T P x : Int)) w' := by
  obtain ⟨e1, e2⟩ := wt_cons (out := out) (T := T) hx
  have h1 := h.later hb
  have hc : cW ns out T (x :: P) x = some ((wt out T P x : Int) + 1) := by
    unfold cW
    rw [if_pos hn, e1]; rfl
  obtain ⟨v0, st, hent, hst⟩ := h1.qs.map.entry hu (by omega) hc
  obtain ⟨w', hrun, hm, ho, hsz⟩ := hst (wt out T P x : Int)
  have hm' : MP cI w' w1.heap.size (cW ns out T P) ns.length := by
    refine hm.congr (fun y _ => ?_)
    unfold cW
    by_cases hy : y = x
    · subst hy; simp [hn]
    · rw [if_neg hy, e2 y hy]
  have hl1 := h1.qs.map.look hu false
  rw [hc] at hl1
  have hl2 := hm'.look hu false
  rw [show cW ns out T P x = some (wt out T P x : Int) by unfold cW; rw [if_pos hn]] at hl2
  refine ⟨v0, st, w', hl1, hent, hrun, ⟨h1.qs.store hm' ho, h.g2, h.gv, h1.own.only ho (fun k hk e => ?_), h1.on.trans (OnlyP.of_only (F := oG w1 w2) ho (fun k hk _ => .inl (by simpa using hk))) (fun _ _ e => e)⟩, ho, hl2⟩
  have : k = w1.heap.size := by simpa using e
  have := (h.own.lt hk).1
  omega
theorem L2.congr {c' : Lb → Option Int} (h : L2 w1 w2 G ns c T fl v wr) (hc : ∀ k, Lu k → c k = c' k) : L2 w1 w2 G ns c' T fl v wr := ⟨h.qs.congr hc, h.g2, h.gv, h.own, h.on⟩
end
def slen : Value → Nat
  | .slice _ n _ => n
  | _ => 0
theorem fl_len {ns T fl P : List Lb} {out : Lb → List Lb} (h : OI ns out T fl P) : fl.length ≤ ns.length := Gs.nodup_sub fl ns h.fnd (fun x hx => ((h.fm x).1 hx).1)
theorem T_len {ns T fl P : List Lb} {out : Lb → List Lb} (h : OI ns out T fl P) : T.length ≤ ns.length := Gs.nodup_sub T ns h.nd h.sub
end Go.Proofs.Ytjohhmfncemknaa
