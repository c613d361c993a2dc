/-
  The document: paths, all paths of two lists, changes turned back.
-/
import Derived.Test.YtinhdjoidbcfaaaRfE
import Derived.Test.YtinhdjoidbcfaaaJnR
namespace Go.Proofs.Ytinhdjoidbcfaaa
open Go.RowKit

set_option maxRecDepth 100000 in
set_option maxHeartbeats 4000000 in
theorem rpaths_any {w : World} {v : Value} {l : List Ch} (h : CS w v l) (hl : l.length ≤ 8000000) :
    Calls Try.prog 28 #[v] w fun e w' => ∃ v', e = .returned v' ∧ Own w.heap.size w' v' (pths l) ∧ Below w.heap.size w w' := by
  have H : Hid (CS w v l) := h
  obtain ⟨a, c, rfl⟩ : ∃ a c, v = .slice a l.length c := h.shape
  clear h
  obtain ⟨n, hn⟩ : ∃ n, l.length = n := ⟨_, rfl⟩
  have H' : Hid (CS w (.slice a l.length c) l) := H.out
  clear H
  rw [hn] at hl ⊢
  have HN : Hid (l.length = n) := hn
  clear hn
  go_enter Try.func28, Try.ntmps28
  go_wp2_with fail
  go_loopw [3, 4] (fun o i wr => ∃ k : Nat, k ≤ n ∧ i = .int .i64 k ∧ Own w.heap.size wr o (pths (l.take k)) ∧ Below w.heap.size w wr) (fun _ i _ => n - (intOf i).toNat)
  case atStart => exact ⟨0, by omega, rfl, Own.nil _ _, Below.refl _ _⟩
  case round =>
    obtain ⟨k, hk, rfl, ho, hb⟩ := hrel
    have HO : Hid (Own w.heap.size wr u3 (pths (l.take k))) := ho
    have HB : Hid (Below w.heap.size w wr) := hb
    clear ho hb
    by_cases hlt : k < n
    · have hkl : k < l.length := by have := HN.out; omega
      obtain ⟨b, off, ea, hbw, _, d0, _⟩ := CS.at H'.out HB.out hkl
      subst ea
      have HT : Hid (pths (l.take (k + 1)) = pths (l.take k) ++ [(l[k]'hkl).path]) := paths_take l k hkl
      generalize (l[k]'hkl).path = p at d0 HT
      have HZ : Hid ((pths (l.take k)).length + 1 ≤ 8796093022208) := by show _ ≤ _; rw [paths_len]; simp; omega
      generalize pths (l.take k) = I at *
      have k1 : (0 : Int) ≤ (k : Int) := by omega
      have k2 : (k : Int) < (n : Int) := by omega
      have hz : w.heap.size ≤ wr.heap.size := HB.out.size
      go_wp2_with (at_builtin; refine app_one (base := w.heap.size) p HO.out HZ.out hz rfl (.tmp 11) (.tmp 17) rfl rfl rfl ?_; intro v' w' ho hbw hbs' hgr hat)
      have H2 : Hid (Own w.heap.size w' v' (I ++ [p]) ∧ Below w.heap.size w w') := ⟨ho, below_trans HB.out hbw⟩
      clear ho hbw hgr hat
      go_wp2_with fail
      go_roundw
      case rel => exact ⟨k + 1, by omega, by go_num, by rw [HT.out]; exact H2.out.1, H2.out.2⟩
      case measure => simp [intOf]; omega
    · obtain rfl : k = n := by omega
      have HE : Hid (pths (l.take k) = pths l) := by show pths (l.take k) = pths l; rw [List.take_of_length_le (by have := HN.out; omega)]
      go_wp2_with fail
      go_ret
      exact ⟨_, rfl, by rw [← HE.out]; exact HO.out, HB.out⟩


def fpths (l : List Fl) : List (List UInt8) := l.map Fl.path
theorem fpths_take (l : List Fl) (k : Nat) (h : k < l.length) : fpths (l.take (k + 1)) = fpths (l.take k) ++ [(l[k]'h).path] := by
  unfold fpths
  rw [List.take_add_one, List.getElem?_eq_getElem h, Option.toList_some, List.map_append]; rfl
theorem fpths_len (l : List Fl) : (fpths l).length = l.length := by simp [fpths]
def rall (a b : List Fl) : List (List UInt8) := norm (fpths a ++ fpths b)
set_option maxRecDepth 100000 in
set_option maxHeartbeats 4000000 in
theorem rall_any {w : World} {va vb : Value} {A B : List Fl} (ha : FS w va A) (hb : FS w vb B) (la : A.length ≤ 1048576) (lb : B.length ≤ 1048576) (ea : ∀ f ∈ A, f.path.length ≤ 1048576) (eb : ∀ f ∈ B, f.path.length ≤ 1048576) :
    Calls Try.prog 44 #[va, vb] w fun e w' => ∃ v', e = .returned v' ∧ Own w.heap.size w' v' (rall A B) ∧ Below w.heap.size w w' := by
  have HSK : Hid (Sk (fpths A ++ fpths B)) := by
    refine ⟨by rw [List.length_append, fpths_len, fpths_len]; omega, fun x hx => ?_⟩
    rcases List.mem_append.1 hx with hx | hx
    · obtain ⟨f, hf, rfl⟩ := List.mem_map.1 hx; exact ea f hf
    · obtain ⟨f, hf, rfl⟩ := List.mem_map.1 hx; exact eb f hf
  clear ea eb
  have H1 : Hid (FS w va A) := ha
  have H2 : Hid (FS w vb B) := hb
  obtain ⟨a, c, rfl⟩ : ∃ a c, va = .slice a A.length c := by obtain ⟨a, c, h, _⟩ := ha.form; exact ⟨a, c, h⟩
  obtain ⟨a2, c2, rfl⟩ : ∃ a c, vb = .slice a B.length c := by obtain ⟨a, c, h, _⟩ := hb.form; exact ⟨a, c, h⟩
  clear ha hb
  obtain ⟨n, hn⟩ : ∃ n, A.length = n := ⟨_, rfl⟩
  obtain ⟨m, hm⟩ : ∃ n, B.length = n := ⟨_, rfl⟩
  have H1' : Hid (FS w (.slice a A.length c) A) := H1.out
  have H2' : Hid (FS w (.slice a2 B.length c2) B) := H2.out
  clear H1 H2
  rw [hn] at la ⊢
  rw [hm] at lb ⊢
  have HN : Hid (A.length = n) := hn
  have HM : Hid (B.length = m) := hm
  clear hn hm
  go_enter Try.func44, Try.ntmps44
  go_wp2_with fail
  go_loopw [5, 6] (fun o i wr => ∃ k : Nat, k ≤ n ∧ i = .int .i64 k ∧ Own w.heap.size wr o (fpths (A.take k)) ∧ Below w.heap.size w wr) (fun _ i _ => n - (intOf i).toNat)
  case atStart => exact ⟨0, by omega, rfl, Own.nil _ _, Below.refl _ _⟩
  case round =>
    obtain ⟨k, hk, rfl, ho, hb⟩ := hrel
    have HO : Hid (Own w.heap.size wr u5 (fpths (A.take k))) := ho
    have HB : Hid (Below w.heap.size w wr) := hb
    clear ho hb
    by_cases hlt : k < n
    · have hkl : k < A.length := by have := HN.out; omega
      obtain ⟨b, off, ea, hbw, d0, _⟩ := FS.at H1'.out HB.out hkl
      subst ea
      have HT : Hid (fpths (A.take (k + 1)) = fpths (A.take k) ++ [(A[k]'hkl).path]) := fpths_take A k hkl
      generalize (A[k]'hkl).path = p at d0 HT
      have HZ : Hid ((fpths (A.take k)).length + 1 ≤ 8796093022208) := by show _ ≤ _; rw [fpths_len]; simp; omega
      generalize fpths (A.take k) = I at *
      have k1 : (0 : Int) ≤ (k : Int) := by omega
      have k2 : (k : Int) < (n : Int) := by omega
      have hz : w.heap.size ≤ wr.heap.size := HB.out.size
      go_wp2_with (at_builtin; refine app_one (base := w.heap.size) p HO.out HZ.out hz rfl (.tmp 14) (.tmp 20) rfl rfl rfl ?_; intro v' w' ho hbw hbs' hgr hat)
      have H2 : Hid (Own w.heap.size w' v' (I ++ [p]) ∧ Below w.heap.size w w') := ⟨ho, below_trans HB.out hbw⟩
      clear ho hbw hgr hat
      go_wp2_with fail
      go_roundw
      case rel => exact ⟨k + 1, by omega, by go_num, by rw [HT.out]; exact H2.out.1, H2.out.2⟩
      case measure => simp [intOf]; omega
    · obtain rfl : k = n := by omega
      have HE : Hid (Own w.heap.size wr u5 (fpths A ++ fpths (B.take 0))) := by
        have h1 := HO.out
        rw [List.take_of_length_le (by have := HN.out; omega)] at h1
        show Own w.heap.size wr u5 (fpths A ++ fpths (B.take 0))
        simpa [fpths] using h1
      clear HO
      obtain ⟨w3, hw3⟩ : ∃ w3, w3 = wr := ⟨_, rfl⟩
      subst hw3
      go_wp2_with fail
      go_loopw [5, 7] (fun o i wr => ∃ k : Nat, k ≤ m ∧ i = .int .i64 k ∧ Own w.heap.size wr o (fpths A ++ fpths (B.take k)) ∧ Below w.heap.size w wr) (fun _ i _ => m - (intOf i).toNat)
      case atStart => exact ⟨0, by omega, rfl, HE.out, HB.out⟩
      case round =>
        obtain ⟨j, hj, rfl, ho, hb⟩ := hrel
        have HO : Hid (Own w.heap.size wr u5 (fpths A ++ fpths (B.take j))) := ho
        have HB : Hid (Below w.heap.size w wr) := hb
        clear ho hb
        by_cases hlt : j < m
        · have hkl : j < B.length := by have := HM.out; omega
          obtain ⟨b, off, ea, hbw, d0, _⟩ := FS.at H2'.out HB.out hkl
          subst ea
          have HT : Hid (fpths (B.take (j + 1)) = fpths (B.take j) ++ [(B[j]'hkl).path]) := fpths_take B j hkl
          generalize (B[j]'hkl).path = p at d0 HT
          have HZ : Hid ((fpths A ++ fpths (B.take j)).length + 1 ≤ 8796093022208) := by show _ ≤ _; rw [List.length_append, fpths_len, fpths_len]; have := HN.out; simp; omega
          have HT2 : Hid (fpths A ++ fpths (B.take (j + 1)) = (fpths A ++ fpths (B.take j)) ++ [p]) := by show _ = _; rw [HT.out, List.append_assoc]
          clear HT
          generalize fpths A ++ fpths (B.take j) = I at *
          have k1 : (0 : Int) ≤ (j : Int) := by omega
          have k2 : (j : Int) < (m : Int) := by omega
          have hz : w.heap.size ≤ wr.heap.size := HB.out.size
          go_wp2_with (at_builtin; refine app_one (base := w.heap.size) p HO.out HZ.out hz rfl (.tmp 28) (.tmp 34) rfl rfl rfl ?_; intro v' w' ho hbw hbs' hgr hat)
          have H2 : Hid (Own w.heap.size w' v' (I ++ [p]) ∧ Below w.heap.size w w') := ⟨ho, below_trans HB.out hbw⟩
          clear ho hbw hgr hat
          go_wp2_with fail
          go_roundw
          case rel => exact ⟨j + 1, by omega, by go_num, by rw [HT2.out]; exact H2.out.1, H2.out.2⟩
          case measure => simp [intOf]; omega
        · obtain rfl : j = m := by omega
          have HE : Hid (Own w.heap.size wr u5 (fpths A ++ fpths B)) := by
            have h1 := HO.out
            show Own w.heap.size wr u5 (fpths A ++ fpths B)
            rwa [List.take_of_length_le (by have := HM.out; omega)] at h1
          clear HO
          go_wp2_with fail
          refine (rnorm_any HE.out.bs HSK.out).mono ?_
          rintro e w4 ⟨v4, rfl, ho4, hb4⟩
          have H4 : Hid (Own w.heap.size w4 v4 (rall A B) ∧ Below w.heap.size w w4) := ⟨ho4.mono HB.out.size, bstep HB.out hb4⟩
          clear ho4 hb4
          go_wp2_with fail
          go_ret
          exact ⟨_, rfl, H4.out.1, H4.out.2⟩


/-- append of changes, inside a region that draws -/
theorem step_app_chs {ops : Array Oper} {o : Oper} {a : Act} {w : World} {K : Act → World → Prop} {Q : Exit → Act → World → Prop} {E : Prop} (hgd : o.guard = none) (s y : Operand)
    (ho : o.op = .call { callee := .builtin .append, args := #[s, y], argTypes := #[23, 23] }) (base : Nat) (l k : List Ch) (v x : Value) (hv : a.eval s = v) (hx : a.eval y = x)
    (hown : OwnC base w v l) (hs : Src Try.prog 11 23 x k.length (cc k) w) (hb : (l.length + k.length) * 120 ≤ 140737488355328) (hbase : base ≤ w.heap.size)
    (h : ∀ v' w', OwnC base w' v' (l ++ k) → w.grownBy w' v.ownBlock → (v'.ownBlock = v.ownBlock ∨ v'.ownBlock = some w.heap.size) → K (a.put o.dst v') w') :
    if Region.wanted o (yielded ops a.tmps) = true then Oper.wp Try.prog o a w K Q else E := by
  have hw : Region.wanted o (yielded ops a.tmps) = true := by simp [Region.wanted, hgd]
  rw [if_pos hw]
  obtain ⟨i0, hi, hz0, hz1, hz2⟩ := info_parts info42
  obtain ⟨v', w', hr, h2, h3, h4⟩ := run_append_src (P := Try.prog) w base 23 23 o.type 42 i0 _ 11 120 und23 hi hz0 hz1 hz2 rfl v l.length (cc l) hown x k.length (cc k) hs (by simp only [maxLen]; omega) (by omega) hbase
  unfold Oper.wp execOp
  simp only [ho, resolve, invoke, builtin, Sem.run_bind, Sem.run_pure, Result.andThen_ok, List.map_toArray, List.map_cons, List.map_nil, hv, hx, hr]
  exact h v' w' (by unfold OwnC; rw [cc_append, List.length_append]; exact h2) h3 h4
theorem src_ch_d (w : World) (c : Ch) : Src Try.prog 11 23 (.slice (some ⟨w.heap.size, 0, none⟩) 1 1) [c].length (cc [c]) (w.alloc (.cells #[.string (bs c.path), .bool c.had, .bool c.has, .string (bs c.old.path), .string (bs c.old.text), .int .i64 c.old.blob, .int .i64 c.old.size, .string (bs c.new.path), .string (bs c.new.text), .int .i64 c.new.blob, .int .i64 c.new.size] 42)).drew := by
  refine Src.ofSlice _ und23 ⟨w.heap.size, 0, none⟩ 1 1 (cc [c]) (by simp [cc_length]) ?_ (cc_one _)
  exact fun j u hu => World.news_of_block (heap_alloc_new w _) j u hu

theorem fm_take {α β : Type} (g : α → Option β) (l : List α) (k : Nat) (h : k < l.length) : (l.take (k + 1)).filterMap g = (l.take k).filterMap g ++ (g (l[k]'h)).toList := by
  rw [List.take_add_one, List.getElem?_eq_getElem h, Option.toList_some, List.filterMap_append]
  cases e : g (l[k]'h) <;> simp [e]
theorem fm_len {α β : Type} (g : α → Option β) (l : List α) : (l.filterMap g).length ≤ l.length := List.length_filterMap_le _ _
theorem oeq_eq (x y : Option Fl) : oeq x y = (x.isSome == y.isSome && feq (x.getD zf) (y.getD zf)) := by
  cases x <;> cases y <;> simp [oeq, feq_self]
theorem feq_symm (x y : Fl) : feq x y = feq y x := by
  rw [Bool.eq_iff_iff, feq_iff, feq_iff]; exact eq_comm

/-! what parts -/
def gd (a b : List Fl) (p : List UInt8) : Option Ch := dlt p (lk Fl.path a p) (lk Fl.path b p)
def rdif (a b : List Fl) : List Ch := if stand a && stand b then (rall a b).filterMap (gd a b) else []
theorem gd_key {a b : List Fl} : ∀ p c, gd a b p = some c → c.path = p := by
  intro p c h
  unfold gd dlt at h
  split at h
  · simp at h
  · injection h with h; rw [← h]; rfl
theorem lk_not {α : Type} {key : α → List UInt8} {l : List α} {p : List UInt8} (h : p ∉ l.map key) : lk key l p = none :=
  lk_none.2 fun x hx e => h (List.mem_map.2 ⟨x, hx, e⟩)
theorem rdif_eq (a b : List Fl) : rdif a b = dif a b := by
  unfold rdif
  by_cases h : stand a = true ∧ stand b = true
  · rw [h.1, h.2]
    simp only [Bool.and_self, if_true]
    obtain ⟨_, hd, hl⟩ := dif_spec h.1 h.2
    obtain ⟨u1, u2⟩ := fm_up (key := Ch.path) (up_norm (fpths a ++ fpths b)) (g := gd a b) gd_key
    refine u1.ext hd.up fun p => ?_
    show lk Ch.path ((norm (fpths a ++ fpths b)).filterMap (gd a b)) p = _
    rw [u2, hl]
    split
    · rfl
    · rename_i hn
      rw [mem_norm, List.mem_append, not_or] at hn
      rw [lk_not (key := Fl.path) hn.1, lk_not (key := Fl.path) hn.2, dlt_self]
  · have : dif a b = [] := by unfold dif; rw [if_neg (by simpa using h)]
    rw [this, if_neg (by simpa using h)]

/-! one behind the other -/
def jp : Option Ch → Option Ch → Option (Option Ch)
  | some x, some y =>
    if y.had != x.has || !feq y.old x.new then none
    else some (if x.had != y.has || !feq x.old y.new then some ⟨x.path, x.had, y.has, x.old, y.new⟩ else none)
  | some x, none => some (some x)
  | none, some y => some (some y)
  | none, none => some (some ⟨[], false, false, zf, zf⟩)
def rjl (d e : List Ch) : List (List UInt8) → Option (List Ch)
  | [] => some []
  | p :: L => (jp (lk Ch.path d p) (lk Ch.path e p)).bind fun o => (rjl d e L).map (o.toList ++ ·)
theorem rjl_step (d e : List Ch) (L : List (List UInt8)) (k : Nat) (h : k < L.length) : rjl d e (L.drop k) = (jp (lk Ch.path d (L[k]'h)) (lk Ch.path e (L[k]'h))).bind fun o => (rjl d e (L.drop (k + 1))).map (o.toList ++ ·) := by
  rw [List.drop_eq_getElem_cons h, rjl]
theorem rjl_none {d e : List Ch} : ∀ {L : List (List UInt8)} {p : List UInt8}, p ∈ L → jp (lk Ch.path d p) (lk Ch.path e p) = none → rjl d e L = none
  | q :: L, p, h, hj => by
    rcases List.mem_cons.1 h with rfl | h
    · rw [rjl, hj]; rfl
    · rw [rjl, rjl_none h hj]
      cases jp (lk Ch.path d q) (lk Ch.path e q) <;> rfl
theorem rjl_some {d e : List Ch} {g : List UInt8 → Option Ch} : ∀ {L : List (List UInt8)}, (∀ p ∈ L, jp (lk Ch.path d p) (lk Ch.path e p) = some (g p)) → rjl d e L = some (L.filterMap g)
  | [], _ => rfl
  | q :: L, h => by
    rw [rjl, h q (by simp), rjl_some (L := L) fun p hp => h p (by simp [hp])]
    cases e : g q <;> simp [e]
theorem jp_fo (x y : Ch) : (y.had != x.has || !feq y.old x.new) = (fo x y).isNone := by
  unfold fo
  rw [feq_symm y.old x.new]
  cases x.has <;> cases y.had <;> cases feq x.new y.old <;> rfl
theorem jp_ss {p : List UInt8} {x y : Ch} {d e : List Ch} (hd : Dl d) (he : Dl e) (hx : lk Ch.path d p = some x) (hy : lk Ch.path e p = some y) :
    jp (some x) (some y) = if (fo x y).isNone then none else some (cb (some x) (some y)) := by
  simp only [jp]
  rw [jp_fo]
  cases hf : fo x y with
  | none => rfl
  | some c =>
    simp only [Option.isNone_some, Bool.false_eq_true, if_false, cb, hf, Option.bind_some]
    obtain ⟨a, b, rfl, hp, h1, h2, _⟩ := hd.at hx
    obtain ⟨a', b', rfl, hp', h1', h2', _⟩ := he.at hy
    rw [fo_ch (pathOk_ne hp) h2 h1'] at hf
    split at hf
    · injection hf with hf
      subst hf
      have e1 : ((ch p a b).had != (ch p a' b').has || !feq (ch p a b).old (ch p a' b').new) = !oeq a b' := by
        show (a.isSome != b'.isSome || !feq (a.getD zf) (b'.getD zf)) = _
        rw [oeq_eq]
        cases a.isSome <;> cases b'.isSome <;> cases feq (a.getD zf) (b'.getD zf) <;> rfl
      have e2 : feq (ch p a b').old (ch p a b').new = oeq a b' := feq_getD (pathOk_ne hp) h1 h2'
      rw [e1, e2]
      show some (if (!oeq a b') = true then some (ch p a b') else none) = some (if oeq a b' = true then none else some (ch p a b'))
      cases oeq a b' <;> rfl
    · simp at hf
theorem rjl_eq {d e : List Ch} (hd : Dl d) (he : Dl e) : rjl d e (norm (pths d ++ pths e)) = mrg d e := by
  have hs := mrg_spec _ d e (Nat.le_refl _) hd he
  have hin : ∀ p ∈ norm (pths d ++ pths e), lk Ch.path d p ≠ none ∨ lk Ch.path e p ≠ none := fun p hp => by
    rw [mem_norm, List.mem_append] at hp
    rcases hp with hp | hp
    · left; intro h; obtain ⟨c, hc, rfl⟩ := List.mem_map.1 hp; exact lk_none.1 h c hc rfl
    · right; intro h; obtain ⟨c, hc, rfl⟩ := List.mem_map.1 hp; exact lk_none.1 h c hc rfl
  cases hm : mrg d e with
  | none =>
    rw [hm] at hs
    obtain ⟨p, x, y, h1, h2, h3⟩ := hs
    refine rjl_none (p := p) ?_ ?_
    · rw [mem_norm, List.mem_append]
      exact .inl (List.mem_map.2 ⟨x, (lk_some h1).1, (lk_some h1).2⟩)
    · rw [h1, h2]
      simp only [jp]
      rw [jp_fo, h3]; rfl
  | some r =>
    rw [hm] at hs
    obtain ⟨hr, h2, h3⟩ := hs
    have hk : ∀ p c, cb (lk Ch.path d p) (lk Ch.path e p) = some c → c.path = p := fun p c h => by
      rw [← h2] at h; exact (lk_some h).2
    rw [rjl_some (g := fun p => cb (lk Ch.path d p) (lk Ch.path e p))]
    · congr 1
      obtain ⟨u1, u2⟩ := fm_up (key := Ch.path) (up_norm (pths d ++ pths e)) (g := fun p => cb (lk Ch.path d p) (lk Ch.path e p)) hk
      refine u1.ext hr.up fun p => ?_
      rw [u2, h2]
      split
      · rfl
      · rename_i hn
        rw [mem_norm, List.mem_append, not_or] at hn
        rw [lk_not (key := Ch.path) hn.1, lk_not (key := Ch.path) hn.2]; rfl
    · intro p hp
      cases e1 : lk Ch.path d p with
      | none =>
        cases e2 : lk Ch.path e p with
        | none => rcases hin p hp with h | h <;> contradiction
        | some y => rfl
      | some x =>
        cases e2 : lk Ch.path e p with
        | none => rfl
        | some y =>
          rw [jp_ss hd he e1 e2, if_neg]
          have := h3 p x y e1 e2
          cases hf : fo x y with
          | none => exact absurd hf this
          | some c => simp

/-! applied -/
def lsc (p : List UInt8) (d : List Ch) (s : Fl × Bool) : Fl × Bool := d.foldl (fun s c => if c.path = p then (c.new, c.has) else s) s
theorem lsc_step (p : List UInt8) (d : List Ch) (s : Fl × Bool) (k : Nat) (h : k < d.length) : lsc p (d.drop k) s = lsc p (d.drop (k + 1)) (if (d[k]'h).path = p then ((d[k]'h).new, (d[k]'h).has) else s) := by
  rw [List.drop_eq_getElem_cons h]; rfl
theorem lsc_none {p : List UInt8} : ∀ {d : List Ch} {s : Fl × Bool}, lk Ch.path d p = none → lsc p d s = s
  | [], _, _ => rfl
  | c :: d, s, h => by
    simp only [lk] at h
    split at h
    · simp at h
    · rename_i hn
      show lsc p d (if c.path = p then _ else s) = s
      rw [if_neg hn]; exact lsc_none h
theorem lsc_eq {p : List UInt8} : ∀ {d : List Ch} {s : Fl × Bool}, RUp Ch.path d → lsc p d s = match lk Ch.path d p with | some c => (c.new, c.has) | none => s
  | [], _, _ => rfl
  | c :: d, s, h => by
    show lsc p d (if c.path = p then (c.new, c.has) else s) = match (if c.path = p then some c else lk Ch.path d p) with | some c => (c.new, c.has) | none => s
    by_cases hp : c.path = p
    · rw [if_pos hp, if_pos hp]
      subst hp
      exact lsc_none (lk_tail_self h)
    · rw [if_neg hp, if_neg hp]; exact lsc_eq h.tail
def sel (a : List Fl) (d : List Ch) (p : List UInt8) : Option Fl :=
  let s := lsc p d ((lk Fl.path a p).getD zf, (lk Fl.path a p).isSome)
  po s.2 s.1
def rout (a : List Fl) (d : List Ch) : List Fl := (norm (fpths a ++ pths d)).filterMap (sel a d)
theorem rout_eq {a : List Fl} {d : List Ch} (ha : stand a = true) (hd : Dl d) (hf : fitA a d = true) : rout a d = res a d := by
  obtain ⟨r1, r2⟩ := res_spec d a (stand_up ha) hd hf
  have hs : ∀ p, sel a d p = lk Fl.path (res a d) p := fun p => by
    rw [r2]
    unfold sel
    rw [lsc_eq hd.up]
    cases lk Ch.path d p with
    | some c => rfl
    | none =>
      cases lk Fl.path a p <;> rfl
  obtain ⟨u1, u2⟩ := fm_up (key := Fl.path) (up_norm (fpths a ++ pths d)) (g := sel a d) (fun p c h => by rw [hs] at h; exact (lk_some h).2)
  refine u1.ext r1 fun p => ?_
  show lk Fl.path ((norm (fpths a ++ pths d)).filterMap (sel a d)) p = _
  rw [u2]
  split
  · exact hs p
  · rename_i hn
    rw [mem_norm, List.mem_append, not_or] at hn
    rw [r2, lk_not (key := Ch.path) hn.2, lk_not (key := Fl.path) hn.1]
def rapl (a : List Fl) (d : List Ch) : List Fl × Int :=
  if stand a then (if vd d && fitA a d && stand (rout a d) then (rout a d, 0) else ([], 9)) else ([], validE a)
theorem rapl_eq (a : List Fl) (d : List Ch) : rapl a d = apl a d := by
  unfold rapl apl
  cases ha : stand a with
  | false => rfl
  | true =>
    cases hv : vd d with
    | false => rfl
    | true =>
      cases hf : fitA a d with
      | false => rfl
      | true => rw [rout_eq ha ((vd_iff d).1 hv) hf]

set_option maxRecDepth 100000 in
set_option maxHeartbeats 4000000 in
theorem rinvert_any {w : World} {v : Value} {l : List Ch} (h : CS w v l) (hl : l.length ≤ 8000000) :
    Calls Try.prog 27 #[v] w fun e w' => ∃ v', e = .returned v' ∧ OwnC w.heap.size w' v' (inv l) ∧ Below w.heap.size w w' := by
  have H : Hid (CS w v l) := h
  obtain ⟨a, c, rfl⟩ : ∃ a c, v = .slice a l.length c := h.shape
  clear h
  obtain ⟨n, hn⟩ : ∃ n, l.length = n := ⟨_, rfl⟩
  have H' : Hid (CS w (.slice a l.length c) l) := H.out
  clear H
  rw [hn] at hl ⊢
  have HN : Hid (l.length = n) := hn
  clear hn
  go_enter Try.func27, Try.ntmps27
  go_wp2_with fail
  go_loopw [3, 4] (fun o i wr => ∃ k : Nat, k ≤ n ∧ i = .int .i64 k ∧ OwnC w.heap.size wr o (inv (l.take k)) ∧ Below w.heap.size w wr) (fun _ i _ => n - (intOf i).toNat)
  case atStart => exact ⟨0, by omega, rfl, OwnC.nil _ _, Below.refl _ _⟩
  case round =>
    obtain ⟨k, hk, rfl, ho, hb⟩ := hrel
    have HO : Hid (OwnC w.heap.size wr u3 (inv (l.take k))) := ho
    have HB : Hid (Below w.heap.size w wr) := hb
    clear ho hb
    by_cases hlt : k < n
    · have hkl : k < l.length := by have := HN.out; omega
      obtain ⟨b, off, ea, hbw, _, d0, d1, d2, d3, d4, d5, d6, d7, d8, d9, d10⟩ := CS.at H'.out HB.out hkl
      subst ea
      have HT : Hid (inv (l.take (k + 1)) = inv (l.take k) ++ [cv (l[k]'hkl)]) := invert_take l k hkl
      generalize hf : l[k] = f at d0 d1 d2 d3 d4 d5 d6 d7 d8 d9 d10 HT
      clear hf
      obtain ⟨p, ha, hb, ⟨q, t, bl, s⟩, ⟨r, y, dd, z⟩⟩ := f
      simp only at d0 d1 d2 d3 d4 d5 d6 d7 d8 d9 d10
      have HZ : Hid ((inv (l.take k)).length ≤ k) := by show _ ≤ _; rw [invert_len]; simp; omega
      generalize inv (l.take k) = I at *
      have k1 : (0 : Int) ≤ (k : Int) := by omega
      have k2 : (k : Int) < (n : Int) := by omega
      have hlt2 : b < wr.heap.size := Nat.lt_of_lt_of_le hbw HB.out.size
      have HK : Hid (∀ W, Below w.heap.size wr W → W.cell? ⟨b, off + k * 11, none⟩ = some (.string (bs p)) ∧ W.cell? ⟨b, off + k * 11 + 1, none⟩ = some (.bool ha) ∧ W.cell? ⟨b, off + k * 11 + 2, none⟩ = some (.bool hb) ∧ W.cell? ⟨b, off + k * 11 + 3, none⟩ = some (.string (bs q)) ∧ W.cell? ⟨b, off + k * 11 + 4, none⟩ = some (.string (bs t)) ∧ W.cell? ⟨b, off + k * 11 + 5, none⟩ = some (.int .i64 bl) ∧ W.cell? ⟨b, off + k * 11 + 6, none⟩ = some (.int .i64 s) ∧ W.cell? ⟨b, off + k * 11 + 7, none⟩ = some (.string (bs r)) ∧ W.cell? ⟨b, off + k * 11 + 8, none⟩ = some (.string (bs y)) ∧ W.cell? ⟨b, off + k * 11 + 9, none⟩ = some (.int .i64 dd) ∧ W.cell? ⟨b, off + k * 11 + 10, none⟩ = some (.int .i64 z)) := fun W hW => ⟨(hW.cell (p := ⟨b, _, none⟩) hbw).trans d0, (hW.cell (p := ⟨b, _, none⟩) hbw).trans d1, (hW.cell (p := ⟨b, _, none⟩) hbw).trans d2, (hW.cell (p := ⟨b, _, none⟩) hbw).trans d3, (hW.cell (p := ⟨b, _, none⟩) hbw).trans d4, (hW.cell (p := ⟨b, _, none⟩) hbw).trans d5, (hW.cell (p := ⟨b, _, none⟩) hbw).trans d6, (hW.cell (p := ⟨b, _, none⟩) hbw).trans d7, (hW.cell (p := ⟨b, _, none⟩) hbw).trans d8, (hW.cell (p := ⟨b, _, none⟩) hbw).trans d9, (hW.cell (p := ⟨b, _, none⟩) hbw).trans d10⟩
      have HA : Hid (∀ (W : World), (wr.alloc (.cells #[.string (bs p), .bool hb, .bool ha, .string (bs r), .string (bs y), .int .i64 dd, .int .i64 z, .string (bs q), .string (bs t), .int .i64 bl, .int .i64 s] 42)).drew.grownBy W u3.ownBlock → Below w.heap.size wr W) := fun W hW => (below_mono (balloc wr _).drew HB.out.size).grown hW (by have := HB.out.size; simp; omega) (fun k hk => (HO.out.lt hk).1)
      go_wp2_with fail
      go_region_held3 (fun w' => w'.cell? ⟨b, off + k * 11, none⟩ = some (.string (bs p)) ∧ w'.cell? ⟨b, off + k * 11 + 1, none⟩ = some (.bool ha) ∧ w'.cell? ⟨b, off + k * 11 + 2, none⟩ = some (.bool hb) ∧ w'.cell? ⟨b, off + k * 11 + 3, none⟩ = some (.string (bs q)) ∧ w'.cell? ⟨b, off + k * 11 + 4, none⟩ = some (.string (bs t)) ∧ w'.cell? ⟨b, off + k * 11 + 5, none⟩ = some (.int .i64 bl) ∧ w'.cell? ⟨b, off + k * 11 + 6, none⟩ = some (.int .i64 s) ∧ w'.cell? ⟨b, off + k * 11 + 7, none⟩ = some (.string (bs r)) ∧ w'.cell? ⟨b, off + k * 11 + 8, none⟩ = some (.string (bs y)) ∧ w'.cell? ⟨b, off + k * 11 + 9, none⟩ = some (.int .i64 dd) ∧ w'.cell? ⟨b, off + k * 11 + 10, none⟩ = some (.int .i64 z)) (first | (with_reducible exact KS) | go_keep) (first | (refine step_app_chs rfl (.tmp 11) (.tmp 38) rfl w.heap.size I [(⟨p, hb, ha, ⟨r, y, dd, z⟩, ⟨q, t, bl, s⟩⟩ : Ch)] u3 _ rfl rfl (HO.out.later (balloc _ _).drew) (src_ch_d wr (⟨p, hb, ha, ⟨r, y, dd, z⟩, ⟨q, t, bl, s⟩⟩ : Ch)) (by have := HZ.out; simp; omega) (by have := HB.out.size; show w.heap.size ≤ _; simp; omega) ?_; intro v2 w2 ho2 hg2 hv2; have KB := HA.out w2 hg2; have KS := HK.out w2 KB))
      have H2 : Hid (OwnC w.heap.size w2 v2 (I ++ [(⟨p, hb, ha, ⟨r, y, dd, z⟩, ⟨q, t, bl, s⟩⟩ : Ch)]) ∧ Below w.heap.size w w2) := ⟨ho2, below_trans HB.out KB⟩
      clear ho2 hg2 hv2 KB
      go_wp2_with fail
      go_roundw
      case rel => exact ⟨k + 1, by omega, by go_num, by rw [HT.out]; exact H2.out.1, H2.out.2⟩
      case measure => simp [intOf]; omega
    · obtain rfl : k = n := by omega
      have HE : Hid (inv (l.take k) = inv l) := by show inv (l.take k) = inv l; rw [List.take_of_length_le (by have := HN.out; omega)]
      go_wp2_with fail
      go_ret
      exact ⟨_, rfl, by rw [← HE.out]; exact HO.out, HB.out⟩
end Go.Proofs.Ytinhdjoidbcfaaa
