/-
  The document's Dirs.
  Rows of any elements in memory of the call's own, that begin anywhere in their block.
-/
import Derived.Test.YtfdcfcalbongeaaGreatPn
import Derived.Test.YtfdcfcalbongeaaGreatJPl2
import Derived.Test.YtfdcfcalbongeaaGreatJLent
import Derived.Deep.AppendSrc
namespace Go.Proofs.YtfdcfcalbongeaaGreat
open Go.RowKit

theorem ups_len : ∀ (n : Nat) (p : List UInt8), (ups n p).length ≤ n
  | 0, _ => by simp [ups]
  | n + 1, p => by
    unfold ups
    split
    · simp
    · simpa using ups_len n (dir p)
theorem upl_len (p : List UInt8) : (upl p).length ≤ p.length := ups_len _ _
theorem dir_le (p : List UInt8) : (dir p).length ≤ p.length := by
  by_cases h : p = []
  · subst h; decide
  · exact Nat.le_of_lt (dir_lt h)
theorem ups_mem_len : ∀ (n : Nat) (p x : List UInt8), x ∈ ups n p → x.length ≤ p.length
  | 0, _, x, h => by simp [ups] at h
  | n + 1, p, x, h => by
    unfold ups at h
    split at h
    · cases h
    · rcases List.mem_cons.1 h with rfl | h
      · exact Nat.le_refl _
      · exact Nat.le_trans (ups_mem_len n (dir p) x h) (dir_le p)
/-- what Dirs gathers -/
def gth (l : List Fl) : List (List UInt8) := l.flatMap (fun f => upl (dir f.path))
theorem gth_sm {l : List Fl} (h5 : l.length ≤ 512) (hp : ∀ f ∈ l, f.path.length ≤ 120) : Sm (gth l) := by
  refine ⟨?_, fun x hx => ?_⟩
  · have : ∀ k : List Fl, (∀ f ∈ k, f.path.length ≤ 120) → (gth k).length ≤ k.length * 120
      := fun k => by
        induction k with
        | nil => intro _; simp [gth]
        | cons f k ih =>
          intro h
          have h1 := ih (fun g hg => h g (by simp [hg]))
          have h2 := upl_len (dir f.path)
          have h3 := dir_le f.path
          have h4 := h f (by simp)
          show (upl (dir f.path) ++ gth k).length ≤ _
          rw [List.length_append, List.length_cons]
          omega
    have := this l hp
    omega
  · obtain ⟨f, hf, hx⟩ := List.mem_flatMap.1 hx
    have h1 := ups_mem_len _ _ _ hx
    have h2 := dir_le f.path
    have h3 := hp f hf
    omega
theorem gth_snoc (l : List Fl) (k : Nat) (hk : k < l.length) : gth (l.take (k + 1)) = gth (l.take k) ++ upl (dir l[k].path) := by
  unfold gth
  rw [List.take_succ_eq_append_getElem hk, List.flatMap_append]
  simp
set_option maxHeartbeats 4000000 in
set_option maxRecDepth 100000 in
theorem rdirs_any {w : World} {v : Value} {l : List Fl} (h : FS w v l) (h5 : l.length ≤ 512) (hp : ∀ f ∈ l, f.path.length ≤ 120) :
    Calls Tryz.prog 14 #[v] w fun e w' => ∃ v', e = .returned v' ∧ Own w.heap.size w' v' (nds l) ∧ Below w.heap.size w w' := by
  have H : Hid (FS w v l) := h
  obtain ⟨a, c, rfl, _⟩ := h.form
  rename_i hform
  clear h hform
  obtain ⟨n, hn⟩ : ∃ n, l.length = n := ⟨_, rfl⟩
  have H' : Hid (FS w (.slice a l.length c) l) := H.out
  have HP : Hid (∀ f ∈ l, f.path.length ≤ 120) := hp
  have HG : Hid (Sm (gth l)) := gth_sm h5 hp
  have HGk : Hid (∀ k, (gth (l.take k)).length ≤ 100000) := fun k => by
    have h1 := gth_sm (l := l.take k) (by rw [List.length_take]; omega) (fun f hf => hp f (List.mem_of_mem_take hf))
    have : ∀ k : List Fl, (∀ f ∈ k, f.path.length ≤ 120) → (gth k).length ≤ k.length * 120 := fun k => by
      induction k with
      | nil => intro _; simp [gth]
      | cons f k ih =>
        intro h
        have h1 := ih (fun g hg => h g (by simp [hg]))
        have h2 := upl_len (dir f.path)
        have h3 := dir_le f.path
        have h4 := h f (by simp)
        show (upl (dir f.path) ++ gth k).length ≤ _
        rw [List.length_append, List.length_cons]
        omega
    have h2 := this (l.take k) (fun f hf => hp f (List.mem_of_mem_take hf))
    rw [List.length_take] at h2
    omega
  clear H hp
  rw [hn] at h5 ⊢
  have HN : Hid (l.length = n) := hn
  clear hn
  obtain ⟨G, hG⟩ : ∃ G, w.heap.size = G := ⟨_, rfl⟩
  go_enter Tryz.func14, Tryz.ntmps14
  go_wp2_with fail
  go_loopw [3, 4] (fun o i wr => ∃ k : Nat, k ≤ n ∧ i = .int .i64 k ∧ Own G wr o (gth (l.take k)) ∧ Below G w wr) (fun _ i _ => n - (intOf i).toNat)
  case atStart => exact ⟨0, Nat.zero_le _, rfl, Own.nil _ _, Below.refl _ _⟩
  case round =>
    obtain ⟨k, hk, rfl, ho, hbw⟩ := hrel
    have HB : Hid (Below G w wr ∧ Own G wr u3 (gth (l.take k))) := ⟨hbw, ho⟩
    have hzo : G ≤ wr.heap.size := by have := hbw.size; omega
    clear hbw ho
    by_cases hlt : k < n
    · have hkl : k < l.length := by have := HN.out; omega
      obtain ⟨b, off, ea, hbw, d0, -, -, -⟩ := FS.at H'.out (by rw [hG]; exact HB.out.1) hkl
      subst ea
      have hsn := gth_snoc l k hkl
      have hpl := HP.out l[k] (List.getElem_mem _)
      obtain ⟨p, hpp⟩ : ∃ p, l[k].path = p := ⟨_, rfl⟩
      rw [hpp] at d0 hsn hpl
      have HSN : Hid (gth (l.take (k + 1)) = gth (l.take k) ++ upl (dir p)) := hsn
      have hpd := dir_le p
      have HD : Hid (∀ W, Calls Tryz.prog 35 #[.string (bs p)] W fun e w' => e = .returned (.string (bs (dir p))) ∧ w' = W) := fun W => rdir_any p W (by omega)
      have k1 : (0 : Int) ≤ (k : Int) := by omega
      have k2 : (k : Int) < (n : Int) := by omega
      clear hpp hsn
      obtain ⟨X0, hX0⟩ : ∃ X, gth (l.take k) = X := ⟨_, rfl⟩
      rw [hX0] at HB HSN
      have HX0 : Hid (X0.length ≤ 100000) := by have := HGk.out k; rw [hX0] at this; exact this
      clear hX0
      obtain ⟨wo, hwo⟩ : ∃ wo, wo = wr := ⟨_, rfl⟩
      subst hwo
      go_wp2_with fail
      refine (HD.out _).mono ?_
      rintro e w1 ⟨rfl, rfl⟩
      go_wp2_with fail
      go_loopw [3, 5] (fun o d wr => ∃ (x : List UInt8) (X : List (List UInt8)), d = .string (bs x) ∧ x.length ≤ 120 ∧ X ++ upl x = X0 ++ upl (dir p) ∧ X.length + x.length ≤ 100120 ∧ Own G wr o X ∧ Below G w wr) (fun _ d _ => match d with | .string s => s.size | _ => 0)
      case atStart => exact ⟨dir p, X0, rfl, by omega, rfl, by have := HX0.out; omega, HB.out.2, HB.out.1⟩
      case round =>
        obtain ⟨x, X, rfl, hx, hX, hXl, ho, hbw⟩ := hrel
        have HO : Hid (Own G wr u3 X ∧ Below G w wr) := ⟨ho, hbw⟩
        have HX : Hid (X ++ upl x = X0 ++ upl (dir p)) := hX
        have hz : G ≤ wr.heap.size := by have := hbw.size; omega
        have hxt := bs_toList x
        clear ho hbw hX
        by_cases hx0 : x = []
        · have HX2 : Hid (gth (l.take (k + 1)) = X) := by
            show _ = _
            rw [HSN.out, ← HX.out, hx0, upl_nil, List.append_nil]
          subst hx0
          go_wp2_with fail
          refine ⟨⟨k + 1, by omega, by go_num, by rw [HX2.out]; exact HO.out.1, HO.out.2⟩, ?_⟩
          simp [intOf]; omega
        · have hxe : x.isEmpty = false := by cases x with | nil => exact absurd rfl hx0 | cons _ _ => rfl
          have hxd := dir_lt hx0
          have HXN : Hid ((X ++ [x]) ++ upl (dir x) = X0 ++ upl (dir p)) := by
            show _ = _
            rw [← HX.out, upl_cons hx0]; simp
          have HDx : Hid (∀ W, Calls Tryz.prog 35 #[.string (bs x)] W fun e w' => e = .returned (.string (bs (dir x))) ∧ w' = W) := fun W => rdir_any x W (by omega)
          clear hx0
          go_wp2_with (at_builtin; refine app_one (base := G) x HO.out.1 (by omega) hz rfl (.tmp 22) (.tmp 24) rfl rfl rfl ?_; intro v5 w5 ho5 hb5 hbs5 _ _; have O5 : Hid (Own G w5 v5 (X ++ [x]) ∧ Below G w w5) := ⟨ho5, below_trans HO.out.2 hb5⟩; clear ho5 hb5 hbs5)
          refine (HDx.out _).mono ?_
          rintro e w6 ⟨rfl, rfl⟩
          go_wp2_with fail
          go_roundw
          case rel => exact ⟨dir x, X ++ [x], rfl, by omega, HXN.out, by simp; omega, O5.out.1, O5.out.2⟩
          case measure =>
            show (bs (dir x)).size < (bs x).size
            rw [bs_size, bs_size]; exact hxd
    · obtain rfl : k = n := by omega
      have HS := HG.out
      have HE : Hid (Own G wr u3 (gth l) ∧ Below G w wr) := by
        have := HB.out.2
        rw [List.take_of_length_le (by have := HN.out; omega)] at this
        exact ⟨this, HB.out.1⟩
      have HNo : Hid (Calls Tryz.prog 16 #[u3] wr fun e w' => ∃ v', e = .returned v' ∧ Own wr.heap.size w' v' (nds l) ∧ Below wr.heap.size wr w') := r22norm_any HE.out.1.bs HS
      clear HS
      go_wp2_with fail
      refine HNo.out.mono ?_
      rintro e w2 ⟨v2, rfl, ho2, hb2⟩
      have O2 : Hid (Own w.heap.size w2 v2 (nds l) ∧ Below w.heap.size w w2) := by
        rw [hG]
        exact ⟨ho2.mono hzo, below_trans HE.out.2 (below_mono hb2 hzo)⟩
      clear ho2 hb2
      go_wp2_with fail
      go_ret
      exact ⟨_, rfl, O2.out.1, O2.out.2⟩
end Go.Proofs.YtfdcfcalbongeaaGreat

namespace Go.Proofs.YtfdcfcalbongeaaGreat
open Go.RowKit

/-- n elements of k cells each, of type e, from some place of a block on -/
def OwR (e : TypeId) (k : Nat) (base : Nat) (w : World) (v : Value) (n : Nat) (cs : List Value) : Prop :=
  cs.length = n * k ∧ ((v = .slice none 0 0 ∧ n = 0) ∨ ∃ g off cap cur, v = .slice (some ⟨g, off, none⟩) n cap ∧ base ≤ g ∧ w.heap[g]? = some (.cells cur e (0, 0)) ∧ n ≤ cap ∧ cap ≤ maxLen ∧ off + cap * k ≤ cur.size ∧ ∀ (i : Nat) (u : Value), cs[i]? = some u → cur[off + i]? = some u)
section
variable {e : TypeId} {k base : Nat} {w w' : World} {v : Value} {n : Nat} {cs : List Value}
theorem cell_blkR {g : Nat} {cur : Array Value} {fr : Nat × Nat} (h : w.heap[g]? = some (.cells cur e fr)) (i : Nat) : w.cell? ⟨g, i, none⟩ = cur[i]? := by
  simp [World.cell?, h]
theorem OwR.nil (e : TypeId) (k base : Nat) (w : World) : OwR e k base w (.slice none 0 0) 0 [] := ⟨by simp, .inl ⟨rfl, rfl⟩⟩
/-- a row of the call's own -/
theorem OwR.own (h : w.ownsRow base e k v n cs) : OwR e k base w v n cs := by
  refine ⟨h.1, ?_⟩
  rcases h.2 with ⟨rfl, h0⟩ | ⟨g, cap, cur, rfl, hbg, hg, hn, hcm, hcs, htake⟩
  · exact .inl ⟨rfl, h0⟩
  · refine .inr ⟨g, 0, cap, cur, rfl, hbg, hg, hn, hcm, by omega, fun i u hu => ?_⟩
    have hi := (List.getElem?_eq_some_iff.1 hu).1
    rw [← htake, List.getElem?_take_of_lt (by rw [← h.1]; exact hi)] at hu
    simpa using hu
theorem OwR.mono {base' : Nat} (h : OwR e k base w v n cs) (hb : base' ≤ base) : OwR e k base' w v n cs := by
  refine ⟨h.1, ?_⟩
  rcases h.2 with h | ⟨g, off, cap, cur, h1, h2, h3⟩
  · exact .inl h
  · exact .inr ⟨g, off, cap, cur, h1, Nat.le_trans hb h2, h3⟩
theorem OwR.block (h : OwR e k base w v n cs) (hs : ∀ j, v.ownBlock = some j → w'.heap[j]? = w.heap[j]?) : OwR e k base w' v n cs := by
  refine ⟨h.1, ?_⟩
  rcases h.2 with h | ⟨g, off, cap, cur, rfl, h2, h3, h4⟩
  · exact .inl h
  · exact .inr ⟨g, off, cap, cur, rfl, h2, (hs g rfl).trans h3, h4⟩
theorem OwR.lt (h : OwR e k base w v n cs) {j : Nat} (hj : v.ownBlock = some j) : base ≤ j ∧ j < w.heap.size := by
  rcases h.2 with ⟨rfl, _⟩ | ⟨g, off, cap, cur, rfl, h2, h3, _⟩
  · cases hj
  · simp only [Value.ownBlock, Option.some.injEq] at hj
    subst hj
    exact ⟨h2, (Array.getElem?_eq_some_iff.1 h3).1⟩
theorem OwR.only {S : List Nat} (h : OwR e k base w v n cs) (ho : Only S w w') (hn : ∀ j, v.ownBlock = some j → j ∉ S) : OwR e k base w' v n cs := h.block fun j hj => ho.block j (h.lt hj).2 (hn j hj)
theorem OwR.later (h : OwR e k base w v n cs) (hb : Below w.heap.size w w') : OwR e k base w' v n cs := h.block fun j hj => hb.block j (h.lt hj).2
theorem OwR.len (h : OwR e k base w v n cs) : ∃ a c, v = .slice a n c := by
  rcases h.2 with ⟨rfl, rfl⟩ | ⟨g, off, cap, cur, rfl, _⟩
  · exact ⟨_, _, rfl⟩
  · exact ⟨_, _, rfl⟩
theorem OwR.form (h : OwR e k base w v n cs) : (v = .slice none 0 0 ∧ n = 0) ∨ ∃ g off c, v = .slice (some ⟨g, off, none⟩) n c ∧ n ≤ c ∧ base ≤ g ∧ g < w.heap.size := by
  rcases h.2 with h | ⟨g, off, cap, cur, rfl, h2, h3, h4, _⟩
  · exact .inl h
  · exact .inr ⟨g, off, cap, rfl, h4, h2, (Array.getElem?_eq_some_iff.1 h3).1⟩
/-- opened at a known place -/
theorem OwR.at {g off m cap : Nat} (h : OwR e k base w (.slice (some ⟨g, off, none⟩) m cap) n cs) : ∃ cur, m = n ∧ base ≤ g ∧ w.heap[g]? = some (.cells cur e (0, 0)) ∧ n ≤ cap ∧ cap ≤ maxLen ∧ off + cap * k ≤ cur.size ∧ ∀ (i : Nat) (u : Value), cs[i]? = some u → cur[off + i]? = some u := by
  rcases h.2 with ⟨e, _⟩ | ⟨g', off', cap', cur, e, h2⟩
  · cases e
  · injection e with e1 e2 e3
    injection e1 with e1
    injection e1 with e1 e4 _
    subst e1
    subst e3
    subst e4
    exact ⟨cur, e2, h2⟩
theorem OwR.cell {g off m cap : Nat} (h : OwR e k base w (.slice (some ⟨g, off, none⟩) m cap) n cs) {i : Nat} {u : Value} (hi : cs[i]? = some u) : w.cell? ⟨g, off + i, none⟩ = some u ∧ w.frozen? ⟨g, off + i, none⟩ = false := by
  obtain ⟨cur, rfl, h2, h3, h4, h5, h6, h7⟩ := h.at
  exact ⟨by rw [cell_blkR h3]; exact h7 i u hi, by simp [World.frozen?, h3]⟩
/-- rows of two kinds lie in two blocks -/
theorem OwR.ne {e' : TypeId} {k' base' n' : Nat} {v' : Value} {cs' : List Value} (h : OwR e k base w v n cs) (h' : OwR e' k' base' w v' n' cs') (hne : e ≠ e') : ∀ j, v.ownBlock = some j → v'.ownBlock ≠ some j := by
  intro j h1 h2
  rcases h.2 with ⟨rfl, _⟩ | ⟨g, off, cap, cur, rfl, _, hg, _⟩
  · cases h1
  · rcases h'.2 with ⟨rfl, _⟩ | ⟨g', off', cap', cur', rfl, _, hg', _⟩
    · cases h2
    · simp only [Value.ownBlock, Option.some.injEq] at h1 h2
      subst h1
      subst h2
      rw [hg] at hg'
      injection hg' with hg'
      injection hg' with _ e2 _
      exact hne e2
end
/-- one element more -/
theorem run_app_R {P : Program} (w : World) (base : Nat) (t ty e : TypeId) (i : TypeInfo) (z : Value) (ht : P.underlying t = some (.slice e)) (hi : P.info? e = some i) (hz : i.zero = some z) (hzs : z.cells.size = i.size)
    (v : Value) (n : Nat) (cs : List Value) (h : OwR e i.size base w v n cs) (x : Value) (news : List Value) (hs : Src P i.size t x 1 news w) (h63 : n + 1 ≤ maxLen) (hbytes : (n + 1) * i.bytes ≤ 140737488355328) (hbase : base ≤ w.heap.size) :
    ∃ v' w', (Builtin.append_ #[t, t] ty #[v, x]).run P w = .ok v' w' ∧ OwR e i.size base w' v' (n + 1) (cs ++ news) ∧
      ((∃ g off cap, v = .slice (some ⟨g, off, none⟩) n cap ∧ v' = .slice (some ⟨g, off, none⟩) (n + 1) cap ∧ w.grownBy w' (some g)) ∨ (∃ b, v'.ownBlock = some b ∧ w.heap.size ≤ b ∧ Below w.heap.size w w')) := by
  have hlen : (cs ++ news).length = (n + 1) * i.size := by rw [List.length_append, h.1, hs.newsLen, Nat.add_mul]
  have hsmall : n + 1 ≤ 9223372036854775807 := by simp only [maxLen] at h63; omega
  have grown : ∀ (old : Nat) (olds : List Value), olds = cs → old < n + 1 →
      OwR e i.size base (w.drew.alloc (.cells ((olds ++ news).toArray ++ Builtin.zeroCells z.cells (grownCap w (n + 1) old e - (n + 1))) e)) (.slice (some ⟨w.heap.size, 0, none⟩) (n + 1) (grownCap w (n + 1) old e)) (n + 1) (cs ++ news) := by
    rintro old olds rfl ho
    have hge := grownCap_ge w (n + 1) old e
    have hcm : grownCap w (n + 1) old e ≤ maxLen := grownCap_le_maxLen w (n + 1) old e h63
    refine ⟨hlen, .inr ⟨w.heap.size, 0, _, _, rfl, hbase, heap_alloc_new w.drew _, hge, hcm, ?_, fun j u hu => ?_⟩⟩
    · rw [Array.size_append, List.size_toArray, hlen, size_zeroCells, hzs, Nat.zero_add, ← Nat.add_mul]
      exact Nat.mul_le_mul_right _ (by omega)
    · have hj := (List.getElem?_eq_some_iff.1 hu).1
      rw [Nat.zero_add, Array.getElem?_append_left (by simpa using hj)]
      simpa using hu
  rcases h.2 with ⟨rfl, rfl⟩ | ⟨g, off, cap, cur, rfl, hbg, hg, hnc, hcm, hcs, hcell⟩
  · have hx : cs = [] := List.eq_nil_of_length_eq_zero (by simpa using h.1)
    subst hx
    have hr := run_append_grow_src (P := P) w t t ty e i z ht hi hz none 0 0 [] (run_firstCells_none w.drew i.size 0 0 0) x 1 news hs (by omega) (by omega) (growslice_fits (by omega) hbytes)
    exact ⟨_, _, hr, grown 0 [] rfl (by omega), .inr ⟨w.heap.size, rfl, Nat.le_refl _, (Below.refl _ _).drew.alloc (Nat.le_refl _) _⟩⟩
  · by_cases hroom : n + 1 ≤ cap
    · have hfit : off + n * i.size + news.length ≤ cur.size := by
        have := Nat.mul_le_mul_right i.size hroom
        rw [hs.newsLen]
        rw [Nat.add_mul] at this
        omega
      have hst := run_storeCells_at P g (off + n * i.size) e news 0 cur w hg (by simpa using hfit) hs.one
      simp only [Nat.add_zero] at hst
      have hr : (Builtin.append_ #[t, t] ty #[.slice (some ⟨g, off, none⟩) n cap, x]).run P w =
          .ok (.slice (some ⟨g, off, none⟩) (n + 1) cap) (w.setRow g (cur.toList.take (off + n * i.size) ++ news ++ cur.toList.drop (off + n * i.size + news.length)).toArray) := by
        rcases hs.kind with ⟨e', hk⟩ | hk <;> simp [Builtin.append_, run_underlying ht, sizeOf, typeInfo, hi, hs.len, hroom, hs.cells, Addr.add_lit, hst]
      refine ⟨_, _, hr, ⟨hlen, .inr ⟨g, off, cap, _, rfl, hbg, setRow_heap w g cur _ e _ hg, hroom, hcm, ?_, fun j u hu => ?_⟩⟩, .inl ⟨g, off, cap, rfl, rfl, rfl, rfl, rfl, by simp, fun j _ hj => setRow_other w g j _ (fun e => hj (by simp [e]))⟩⟩
      · simp only [List.size_toArray, List.length_append, List.length_take, List.length_drop, Array.length_toList]
        omega
      · have hj := (List.getElem?_eq_some_iff.1 hu).1
        rw [List.length_append, h.1] at hj
        have hl1 : (cur.toList.take (off + n * i.size)).length = off + n * i.size := by rw [List.length_take, Array.length_toList]; omega
        rw [List.getElem?_toArray]
        by_cases hjn : j < n * i.size
        · rw [List.getElem?_append_left (by rw [h.1]; exact hjn)] at hu
          rw [List.append_assoc, List.getElem?_append_left (by rw [hl1]; omega), List.getElem?_take_of_lt (by omega)]
          simpa using hcell j u hu
        · rw [List.getElem?_append_right (by rw [h.1]; omega), h.1] at hu
          rw [List.append_assoc, List.getElem?_append_right (by rw [hl1]; omega), hl1, List.getElem?_append_left (by omega)]
          rw [show off + j - (off + n * i.size) = j - n * i.size by omega]
          exact hu
    · have holds : ∀ j u, cs[j]? = some u → w.drew.cell? ((⟨g, off, none⟩ : Addr).add j) = some u := fun j u hu => by
        rw [add_lit, cell_blkR (w := w.drew) hg]; exact hcell j u hu
      have hr := run_append_grow_src (P := P) w t t ty e i z ht hi hz (some ⟨g, off, none⟩) n cap cs (run_firstCells_some w.drew i.size n _ n cap cs (by rw [h.1]) holds) x 1 news hs (by omega) (by omega) (growslice_fits (by omega) hbytes)
      exact ⟨_, _, hr, grown cap cs rfl (by omega), .inr ⟨w.heap.size, rfl, Nat.le_refl _, (Below.refl _ _).drew.alloc (Nat.le_refl _) _⟩⟩
end Go.Proofs.YtfdcfcalbongeaaGreat
