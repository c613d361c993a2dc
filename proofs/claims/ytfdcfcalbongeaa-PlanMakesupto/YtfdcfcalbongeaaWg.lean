/-
  Rows of any elements in memory of the call's own, that begin anywhere in their block.
-/
import Derived.Test.YtfdcfcalbongeaaJLent
import Derived.Deep.AppendSrc
namespace Go.Proofs.Ytfdcfcalbongeaa
open Go.RowKit

/-- n elements of k cells each, of type e, from some place of a block on -/
def OwR (e : TypeId) (k : Nat) (base : Nat) (w : World) (v : Value) (n : Nat) (cs : List Value) : Prop :=
  cs.length = n * k ∧ ((v = .slice none 0 0 ∧ n = 0) ∨ ∃ g off cap cur, v = .slice (some ⟨g, off, none⟩) n cap ∧ base ≤ g ∧ w.heap[g]? = some (.cells cur e (0, 0)) ∧ n ≤ cap ∧ cap ≤ maxLen ∧ off + cap * k ≤ cur.size ∧ ∀ (i : Nat) (u : Value), cs[i]? = some u → cur[off + i]? = some u)
section
variable {e : TypeId} {k base : Nat} {w w' : World} {v : Value} {n : Nat} {cs : List Value}
theorem cell_blkR {g : Nat} {cur : Array Value} {fr : Nat × Nat} (h : w.heap[g]? = some (.cells cur e fr)) (i : Nat) : w.cell? ⟨g, i, none⟩ = cur[i]? := by
  simp [World.cell?, h]
theorem OwR.nil (e : TypeId) (k base : Nat) (w : World) : OwR e k base w (.slice none 0 0) 0 [] := ⟨by simp, .inl ⟨rfl, rfl⟩⟩
/-- a row of the call's own -/
theorem OwR.own (h : w.ownsRow base e k v n cs) : OwR e k base w v n cs := by
  refine ⟨h.1, ?_⟩
  rcases h.2 with ⟨rfl, h0⟩ | ⟨g, cap, cur, rfl, hbg, hg, hn, hcm, hcs, htake⟩
  · exact .inl ⟨rfl, h0⟩
  · refine .inr ⟨g, 0, cap, cur, rfl, hbg, hg, hn, hcm, by omega, fun i u hu => ?_⟩
    have hi := (List.getElem?_eq_some_iff.1 hu).1
    rw [← htake, List.getElem?_take_of_lt (by rw [← h.1]; exact hi)] at hu
    simpa using hu
theorem OwR.mono {base' : Nat} (h : OwR e k base w v n cs) (hb : base' ≤ base) : OwR e k base' w v n cs := by
  refine ⟨h.1, ?_⟩
  rcases h.2 with h | ⟨g, off, cap, cur, h1, h2, h3⟩
  · exact .inl h
  · exact .inr ⟨g, off, cap, cur, h1, Nat.le_trans hb h2, h3⟩
theorem OwR.block (h : OwR e k base w v n cs) (hs : ∀ j, v.ownBlock = some j → w'.heap[j]? = w.heap[j]?) : OwR e k base w' v n cs := by
  refine ⟨h.1, ?_⟩
  rcases h.2 with h | ⟨g, off, cap, cur, rfl, h2, h3, h4⟩
  · exact .inl h
  · exact .inr ⟨g, off, cap, cur, rfl, h2, (hs g rfl).trans h3, h4⟩
theorem OwR.lt (h : OwR e k base w v n cs) {j : Nat} (hj : v.ownBlock = some j) : base ≤ j ∧ j < w.heap.size := by
  rcases h.2 with ⟨rfl, _⟩ | ⟨g, off, cap, cur, rfl, h2, h3, _⟩
  · cases hj
  · simp only [Value.ownBlock, Option.some.injEq] at hj
    subst hj
    exact ⟨h2, (Array.getElem?_eq_some_iff.1 h3).1⟩
theorem OwR.only {S : List Nat} (h : OwR e k base w v n cs) (ho : Only S w w') (hn : ∀ j, v.ownBlock = some j → j ∉ S) : OwR e k base w' v n cs := h.block fun j hj => ho.block j (h.lt hj).2 (hn j hj)
theorem OwR.later (h : OwR e k base w v n cs) (hb : Below w.heap.size w w') : OwR e k base w' v n cs := h.block fun j hj => hb.block j (h.lt hj).2
theorem OwR.len (h : OwR e k base w v n cs) : ∃ a c, v = .slice a n c := by
  rcases h.2 with ⟨rfl, rfl⟩ | ⟨g, off, cap, cur, rfl, _⟩
  · exact ⟨_, _, rfl⟩
  · exact ⟨_, _, rfl⟩
theorem OwR.form (h : OwR e k base w v n cs) : (v = .slice none 0 0 ∧ n = 0) ∨ ∃ g off c, v = .slice (some ⟨g, off, none⟩) n c ∧ n ≤ c ∧ base ≤ g ∧ g < w.heap.size := by
  rcases h.2 with h | ⟨g, off, cap, cur, rfl, h2, h3, h4, _⟩
  · exact .inl h
  · exact .inr ⟨g, off, cap, rfl, h4, h2, (Array.getElem?_eq_some_iff.1 h3).1⟩
/-- opened at a known place -/
theorem OwR.at {g off m cap : Nat} (h : OwR e k base w (.slice (some ⟨g, off, none⟩) m cap) n cs) : ∃ cur, m = n ∧ base ≤ g ∧ w.heap[g]? = some (.cells cur e (0, 0)) ∧ n ≤ cap ∧ cap ≤ maxLen ∧ off + cap * k ≤ cur.size ∧ ∀ (i : Nat) (u : Value), cs[i]? = some u → cur[off + i]? = some u := by
  rcases h.2 with ⟨e, _⟩ | ⟨g', off', cap', cur, e, h2⟩
  · cases e
  · injection e with e1 e2 e3
    injection e1 with e1
    injection e1 with e1 e4 _
    subst e1
    subst e3
    subst e4
    exact ⟨cur, e2, h2⟩
theorem OwR.cell {g off m cap : Nat} (h : OwR e k base w (.slice (some ⟨g, off, none⟩) m cap) n cs) {i : Nat} {u : Value} (hi : cs[i]? = some u) : w.cell? ⟨g, off + i, none⟩ = some u ∧ w.frozen? ⟨g, off + i, none⟩ = false := by
  obtain ⟨cur, rfl, h2, h3, h4, h5, h6, h7⟩ := h.at
  exact ⟨by rw [cell_blkR h3]; exact h7 i u hi, by simp [World.frozen?, h3]⟩
/-- rows of two kinds lie in two blocks -/
theorem OwR.ne {e' : TypeId} {k' base' n' : Nat} {v' : Value} {cs' : List Value} (h : OwR e k base w v n cs) (h' : OwR e' k' base' w v' n' cs') (hne : e ≠ e') : ∀ j, v.ownBlock = some j → v'.ownBlock ≠ some j := by
  intro j h1 h2
  rcases h.2 with ⟨rfl, _⟩ | ⟨g, off, cap, cur, rfl, _, hg, _⟩
  · cases h1
  · rcases h'.2 with ⟨rfl, _⟩ | ⟨g', off', cap', cur', rfl, _, hg', _⟩
    · cases h2
    · simp only [Value.ownBlock, Option.some.injEq] at h1 h2
      subst h1
      subst h2
      rw [hg] at hg'
      injection hg' with hg'
      injection hg' with _ e2 _
      exact hne e2
end
/-- one element more -/
theorem run_app_R {P : Program} (w : World) (base : Nat) (t ty e : TypeId) (i : TypeInfo) (z : Value) (ht : P.underlying t = some (.slice e)) (hi : P.info? e = some i) (hz : i.zero = some z) (hzs : z.cells.size = i.size)
    (v : Value) (n : Nat) (cs : List Value) (h : OwR e i.size base w v n cs) (x : Value) (news : List Value) (hs : Src P i.size t x 1 news w) (h63 : n + 1 ≤ maxLen) (hbytes : (n + 1) * i.bytes ≤ 140737488355328) (hbase : base ≤ w.heap.size) :
    ∃ v' w', (Builtin.append_ #[t, t] ty #[v, x]).run P w = .ok v' w' ∧ OwR e i.size base w' v' (n + 1) (cs ++ news) ∧
      ((∃ g off cap, v = .slice (some ⟨g, off, none⟩) n cap ∧ v' = .slice (some ⟨g, off, none⟩) (n + 1) cap ∧ w.grownBy w' (some g)) ∨ (∃ b, v'.ownBlock = some b ∧ w.heap.size ≤ b ∧ Below w.heap.size w w')) := by
  have hlen : (cs ++ news).length = (n + 1) * i.size := by rw [List.length_append, h.1, hs.newsLen, Nat.add_mul]
  have hsmall : n + 1 ≤ 9223372036854775807 := by simp only [maxLen] at h63; omega
  have grown : ∀ (old : Nat) (olds : List Value), olds = cs → old < n + 1 →
      OwR e i.size base (w.drew.alloc (.cells ((olds ++ news).toArray ++ Builtin.zeroCells z.cells (grownCap w (n + 1) old e - (n + 1))) e)) (.slice (some ⟨w.heap.size, 0, none⟩) (n + 1) (grownCap w (n + 1) old e)) (n + 1) (cs ++ news) := by
    rintro old olds rfl ho
    have hge := grownCap_ge w (n + 1) old e
    have hcm : grownCap w (n + 1) old e ≤ maxLen := grownCap_le_maxLen w (n + 1) old e h63
    refine ⟨hlen, .inr ⟨w.heap.size, 0, _, _, rfl, hbase, heap_alloc_new w.drew _, hge, hcm, ?_, fun j u hu => ?_⟩⟩
    · rw [Array.size_append, List.size_toArray, hlen, size_zeroCells, hzs, Nat.zero_add, ← Nat.add_mul]
      exact Nat.mul_le_mul_right _ (by omega)
    · have hj := (List.getElem?_eq_some_iff.1 hu).1
      rw [Nat.zero_add, Array.getElem?_append_left (by simpa using hj)]
      simpa using hu
  rcases h.2 with ⟨rfl, rfl⟩ | ⟨g, off, cap, cur, rfl, hbg, hg, hnc, hcm, hcs, hcell⟩
  · have hx : cs = [] := List.eq_nil_of_length_eq_zero (by simpa using h.1)
    subst hx
    have hr := run_append_grow_src (P := P) w t t ty e i z ht hi hz none 0 0 [] (run_firstCells_none w.drew i.size 0 0 0) x 1 news hs (by omega) (by omega) (growslice_fits (by omega) hbytes)
    exact ⟨_, _, hr, grown 0 [] rfl (by omega), .inr ⟨w.heap.size, rfl, Nat.le_refl _, (Below.refl _ _).drew.alloc (Nat.le_refl _) _⟩⟩
  · by_cases hroom : n + 1 ≤ cap
    · have hfit : off + n * i.size + news.length ≤ cur.size := by
        have := Nat.mul_le_mul_right i.size hroom
        rw [hs.newsLen]
        rw [Nat.add_mul] at this
        omega
      have hst := run_storeCells_at P g (off + n * i.size) e news 0 cur w hg (by simpa using hfit) hs.one
      simp only [Nat.add_zero] at hst
      have hr : (Builtin.append_ #[t, t] ty #[.slice (some ⟨g, off, none⟩) n cap, x]).run P w =
          .ok (.slice (some ⟨g, off, none⟩) (n + 1) cap) (w.setRow g (cur.toList.take (off + n * i.size) ++ news ++ cur.toList.drop (off + n * i.size + news.length)).toArray) := by
        rcases hs.kind with ⟨e', hk⟩ | hk <;> simp [Builtin.append_, run_underlying ht, sizeOf, typeInfo, hi, hs.len, hroom, hs.cells, Addr.add_lit, hst]
      refine ⟨_, _, hr, ⟨hlen, .inr ⟨g, off, cap, _, rfl, hbg, setRow_heap w g cur _ e _ hg, hroom, hcm, ?_, fun j u hu => ?_⟩⟩, .inl ⟨g, off, cap, rfl, rfl, rfl, rfl, rfl, by simp, fun j _ hj => setRow_other w g j _ (fun e => hj (by simp [e]))⟩⟩
      · simp only [List.size_toArray, List.length_append, List.length_take, List.length_drop, Array.length_toList]
        omega
      · have hj := (List.getElem?_eq_some_iff.1 hu).1
        rw [List.length_append, h.1] at hj
        have hl1 : (cur.toList.take (off + n * i.size)).length = off + n * i.size := by rw [List.length_take, Array.length_toList]; omega
        rw [List.getElem?_toArray]
        by_cases hjn : j < n * i.size
        · rw [List.getElem?_append_left (by rw [h.1]; exact hjn)] at hu
          rw [List.append_assoc, List.getElem?_append_left (by rw [hl1]; omega), List.getElem?_take_of_lt (by omega)]
          simpa using hcell j u hu
        · rw [List.getElem?_append_right (by rw [h.1]; omega), h.1] at hu
          rw [List.append_assoc, List.getElem?_append_right (by rw [hl1]; omega), hl1, List.getElem?_append_left (by omega)]
          rw [show off + j - (off + n * i.size) = j - n * i.size by omega]
          exact hu
    · have holds : ∀ j u, cs[j]? = some u → w.drew.cell? ((⟨g, off, none⟩ : Addr).add j) = some u := fun j u hu => by
        rw [add_lit, cell_blkR (w := w.drew) hg]; exact hcell j u hu
      have hr := run_append_grow_src (P := P) w t t ty e i z ht hi hz (some ⟨g, off, none⟩) n cap cs (run_firstCells_some w.drew i.size n _ n cap cs (by rw [h.1]) holds) x 1 news hs (by omega) (by omega) (growslice_fits (by omega) hbytes)
      exact ⟨_, _, hr, grown cap cs rfl (by omega), .inr ⟨w.heap.size, rfl, Nat.le_refl _, (Below.refl _ _).drew.alloc (Nat.le_refl _) _⟩⟩
end Go.Proofs.Ytfdcfcalbongeaa
