/-
  Rows of bytes: joined, made, lengthened; the bytes of a text, of a label.
-/
import Derived.Test.YtddaoloabfkheaaGreatDoorJSameg
import Derived.Deep.RegionHeld3
namespace Go.Proofs.YtddaoloabfkheaaGreatDoor
open Go.RowKit

/-- rows of bytes: a slice of byte slices -/
def Rws (w : World) (v : Value) (ls : List (List UInt8)) : Prop :=
  (v = .slice none 0 0 ∧ ls = []) ∨
  ∃ b cap, v = .slice (some ⟨b, 0, none⟩) ls.length cap ∧ ls.length ≤ cap ∧ b < w.heap.size ∧ ∀ i l, ls[i]? = some l → ∃ x, w.cell? ⟨b, i, none⟩ = some x ∧ BS w x l

/-- so many bytes are there in the first k rows -/
def tot (ls : List (List UInt8)) : Nat := ls.flatten.length
theorem take_snoc {α : Type} (ls : List α) (k : Nat) (h : k < ls.length) : ls.take (k + 1) = ls.take k ++ [ls[k]] := by
  rw [List.take_succ_eq_append_getElem h]
theorem tot_snoc (ls : List (List UInt8)) (k : Nat) (h : k < ls.length) : tot (ls.take (k + 1)) = tot (ls.take k) + ls[k].length := by
  unfold tot
  rw [take_snoc ls k h, List.flatten_append, List.length_append]
  simp only [List.flatten_cons, List.flatten_nil, List.append_nil]
theorem tot_take (ls : List (List UInt8)) (k : Nat) : tot (ls.take k) ≤ tot ls := by
  have : ls.flatten = (ls.take k).flatten ++ (ls.drop k).flatten := by rw [← List.flatten_append, List.take_append_drop]
  unfold tot; rw [this]; simp

theorem BS.form {w : World} {v : Value} {l : List UInt8} (h : BS w v l) : ∃ a c, v = .slice a l.length c := by
  rcases h with ⟨⟨a, c, rfl⟩, rfl⟩ | ⟨b, off, cap, rfl, hc, hlt, hcell⟩
  · exact ⟨_, _, rfl⟩
  · exact ⟨_, _, rfl⟩

set_option maxRecDepth 100000 in
set_option maxHeartbeats 400000 in
theorem ojoin_any {w : World} {v : Value} {ls : List (List UInt8)} (h : Rws w v ls) (hn : ls.length ≤ 1000000000) (hm : tot ls ≤ 10000000000) :
    Calls Tryz.prog 29 #[v] w fun e w' => ∃ v', e = .returned v' ∧ OwnB w.heap.size w' v' ls.flatten ∧ Below w.heap.size w w' := by
  have hlen : ∃ a c, v = .slice a ls.length c ∧ ls.length ≤ c ∧ (∀ k, (hk : k < ls.length) → ∃ b, a = some ⟨b, 0, none⟩ ∧ b < w.heap.size ∧ ∃ x c, w.cell? ⟨b, k, none⟩ = some (.slice x ls[k].length c) ∧ BS w (.slice x ls[k].length c) ls[k]) := by
    rcases h with ⟨rfl, rfl⟩ | ⟨b, cap, rfl, hc, hlt, hcell⟩
    · exact ⟨_, _, rfl, Nat.le_refl _, fun k hk => by simp at hk⟩
    · refine ⟨_, _, rfl, hc, fun k hk => ⟨b, rfl, hlt, ?_⟩⟩
      obtain ⟨x, hx, hs⟩ := hcell k ls[k] (by simp [hk])
      obtain ⟨a', c', rfl⟩ := hs.form
      exact ⟨a', c', hx, hs⟩
  obtain ⟨a, c, rfl, hc, HC0⟩ := hlen
  have HC : Hid (∀ k, (hk : k < ls.length) → ∃ b, a = some ⟨b, 0, none⟩ ∧ b < w.heap.size ∧ ∃ x c, w.cell? ⟨b, k, none⟩ = some (.slice x ls[k].length c) ∧ BS w (.slice x ls[k].length c) ls[k]) := HC0
  clear h HC0
  go_enter Tryz.func29, Tryz.ntmps29
  go_wp2_with fail
  go_loop [3, 11] (fun t i => ∃ k : Nat, k ≤ ls.length ∧ i = .int .i64 k ∧ t = .int .i64 (tot (ls.take k) : Nat)) (fun _ i => ls.length - (intOf i).toNat)
  case atStart => exact ⟨0, Nat.zero_le _, rfl, by simp [tot]⟩
  case round =>
    obtain ⟨k, hk, rfl, rfl⟩ := hrel
    have hb1 := tot_take ls k
    by_cases hlt : k < ls.length
    · obtain ⟨b, rfl, hb, x, c', hcell, _⟩ := HC.out k hlt
      have hs := tot_snoc ls k hlt
      have hb2 := tot_take ls (k + 1)
      have HS : Hid (tot (ls.take (k + 1)) = tot (ls.take k) + ls[k].length) := hs
      have hl : tot (ls.take k) + ls[k].length ≤ 10000000000 := by omega
      clear hs hb2
      go_wp2_with fail
      go_round
      case rel => exact ⟨k + 1, by omega, by go_num, by rw [HS.out]; go_num⟩
      case measure => simp [intOf]; omega
    · obtain rfl : k = ls.length := by omega
      go_wp2_with fail
      refine (room_at (l := []) (BS_nil _) _ (tot ls) (by simp) (by simp; omega)).mono ?_
      rintro e w1 ⟨v1, rfl, ho1, _, hb1⟩
      have hz := hb1.size
      have H1 : Hid (OwnB w.heap.size w1 v1 []) := ho1
      have B1 : Hid (Below w.heap.size w w1) := hb1
      clear ho1 hb1
      go_wp2_with fail
      go_loopw [6, 24] (fun o i wr => ∃ k : Nat, k ≤ ls.length ∧ OwnB w.heap.size wr o (ls.take k).flatten ∧ i = .int .i64 k ∧ Below w.heap.size w wr ∧ w.heap.size ≤ wr.heap.size) (fun _ i _ => ls.length - (intOf i).toNat)
      case atStart => exact ⟨0, Nat.zero_le _, by simpa using H1.out, rfl, B1.out, hz⟩
      case round =>
        obtain ⟨k, hk, ho, rfl, hb, hbs⟩ := hrel
        by_cases hlt : k < ls.length
        · obtain ⟨b, rfl, hblt, x, c', hcell, hbs0⟩ := HC.out k hlt
          have hcell' : wr.cell? ⟨b, k, none⟩ = some (.slice x ls[k].length c') := by rw [hb.cell (p := ⟨b, k, none⟩) hblt]; exact hcell
          have HS : Hid (BS wr (.slice x ls[k].length c') ls[k]) := hbs0.later hb
          have HT : Hid (tot (ls.take (k + 1)) = tot (ls.take k) + ls[k].length) := tot_snoc ls k hlt
          have hl : tot (ls.take k) + ls[k].length ≤ 10000000000 := by have := tot_take ls (k + 1); have := HT.out; omega
          have HB : Hid (Below w.heap.size w wr) := hb
          have HO' : Hid (OwnB w.heap.size wr u6 (ls.take k).flatten) := ho
          clear hb ho hcell hbs0
          go_wp2_with (at_builtin; refine app_bytes (base := w.heap.size) (l := (ls.take k).flatten) (k := ls[k]) (tx := 41) HO'.out (HS.out.src und41) (by unfold tot at hl; omega) hbs rfl (.tmp 28) (.tmp 29) rfl rfl rfl ?_; intro v' w' ho hg hat)
          go_roundw
          case rel =>
            have hB2 : Below w.heap.size w w' := HB.out.grown hg hbs (fun k hk => (World.ownsRow.lt HO'.out k hk).1)
            exact ⟨k + 1, by omega, by rw [take_snoc ls k hlt, List.flatten_append]; simpa using ho, by go_num, hB2, hB2.size⟩
          case measure => simp [intOf]; omega
        · obtain rfl : k = ls.length := by omega
          rw [List.take_length] at ho
          go_wp2_with fail
          go_ret
          exact ⟨_, rfl, ho, hb⟩


/-- a row of slices of the call's own -/
def OwnR (base : Nat) (w : World) (v : Value) (xs : List Value) : Prop := w.ownsRow base 41 1 v xs.length xs
theorem OwnR.lt {base : Nat} {w : World} {v : Value} {l : List Value} (h : OwnR base w v l) {k : Nat} (hk : v.ownBlock = some k) : base ≤ k ∧ k < w.heap.size := World.ownsRow.lt h k hk
theorem OwnR.later {base : Nat} {w w' : World} {v : Value} {l : List Value} (h : OwnR base w v l) (hb : Below w.heap.size w w') : OwnR base w' v l := by
  rcases h with ⟨h0, h | ⟨g, cap, cur, rfl, hb1, hg, hr⟩⟩
  · exact ⟨h0, .inl h⟩
  · exact ⟨h0, .inr ⟨g, cap, cur, rfl, hb1, (hb.block g (Array.getElem?_eq_some_iff.1 hg).1).trans hg, hr⟩⟩
theorem OwnR.new (w : World) (xs : List Value) (hl : xs.length ≤ 1000) : OwnR w.heap.size (w.alloc (.cells xs.toArray 41)) (.slice (some ⟨w.heap.size, 0, none⟩) xs.length xs.length) xs :=
  ⟨by simp, .inr ⟨w.heap.size, xs.length, xs.toArray, rfl, Nat.le_refl _, heap_alloc_new _ _, Nat.le_refl _, by unfold maxLen; omega, by simp, by simp⟩⟩
/-- each reads as -/
def Rds (w : World) : List Value → List (List UInt8) → Prop
  | [], [] => True
  | x :: r, b :: q => BS w x b ∧ Rds w r q
  | _, _ => False
theorem Rds.len {w : World} : ∀ {a : List Value} {b : List (List UInt8)}, Rds w a b → a.length = b.length
  | [], [], _ => rfl
  | _ :: _, _ :: _, h => by simp only [List.length_cons, Rds.len h.2]
theorem Rds.later {w w' : World} (hb : Below w.heap.size w w') : ∀ {a : List Value} {b : List (List UInt8)}, Rds w a b → Rds w' a b
  | [], [], _ => trivial
  | _ :: _, _ :: _, h => ⟨h.1.later hb, Rds.later hb h.2⟩
theorem Rds.snoc {w : World} {x : Value} {s : List UInt8} (hx : BS w x s) : ∀ {a : List Value} {b : List (List UInt8)}, Rds w a b → Rds w (a ++ [x]) (b ++ [s])
  | [], [], _ => ⟨hx, trivial⟩
  | _ :: _, _ :: _, h => ⟨h.1, Rds.snoc hx h.2⟩
theorem Rds.get {w : World} : ∀ {a : List Value} {b : List (List UInt8)}, Rds w a b → ∀ (i : Nat) (s : List UInt8), b[i]? = some s → ∃ x, a[i]? = some x ∧ BS w x s
  | [], [], _, i, s, h => by simp at h
  | x :: _, _ :: _, h, 0, s, e => ⟨x, rfl, by simp at e; subst e; exact h.1⟩
  | _ :: _, _ :: _, h, i + 1, s, e => by
    obtain ⟨x, h1, h2⟩ := Rds.get h.2 i s (by simpa using e)
    exact ⟨x, by simpa using h1, h2⟩
theorem OwnR.rws {base : Nat} {w : World} {v : Value} {xs : List Value} {ls : List (List UInt8)} (h : OwnR base w v xs) (hr : Rds w xs ls) : Rws w v ls := by
  have hl := hr.len
  rcases h.2 with ⟨rfl, h0⟩ | ⟨g, cap, cur, rfl, hb, hg, hn, _⟩
  · exact .inl ⟨rfl, List.eq_nil_of_length_eq_zero (by omega)⟩
  · refine .inr ⟨g, cap, by rw [hl], by omega, (Array.getElem?_eq_some_iff.1 hg).1, fun i s hs => ?_⟩
    obtain ⟨x, h1, h2⟩ := hr.get i s hs
    refine ⟨x, ?_, h2⟩
    have := World.ownsRow.cells h (g := g) rfl i x h1
    rw [add_lit, Nat.zero_add] at this; exact this
theorem undR : Tryz.prog.underlying 119 = some (.slice 41) := by kernel_rfl
theorem infoR : (Tryz.prog.info? 41).map (fun i => (i.zero, i.size, i.bytes)) = some (some (.slice none 0 0), 1, 24) := by kernel_rfl
theorem app_R {w : World} {base : Nat} {v : Value} {xs : List Value} (a0 : Option Addr) (n0 c0 : Nat) (hown : OwnR base w v xs) (hb : xs.length + 1 ≤ 100000000) (hbase : base ≤ w.heap.size)
    {ops : Array Oper} {rest : List Oper} {o : Oper} {a : Act} {Q : Exit → Act → World → Prop} (hgd : o.guard = none) (s y : Operand)
    (ho : o.op = .call { callee := .builtin .append, args := #[s, y], argTypes := #[119, 119] }) (hv : a.eval s = v) (hx : a.eval y = .slice (some ⟨w.heap.size, 0, none⟩) 1 1)
    (h : ∀ v' w', OwnR base w' v' (xs ++ [.slice a0 n0 c0]) → Below base w w' → Only v.ownBlock.toList w w' → (v'.ownBlock = v.ownBlock ∨ v'.ownBlock = some (w.heap.size + 1)) → wpList Tryz.prog ops Q rest (a.put o.dst v') w') :
    wpList Tryz.prog ops Q (o :: rest) a (w.alloc (.cells #[.slice a0 n0 c0] 41)) := by
  obtain ⟨i0, hi, hz0, hz1, hz2⟩ := info_parts infoR
  refine wpList_append_src (w.alloc (.cells #[.slice a0 n0 c0] 41)) hgd s y 119 119 ho base 41 i0 _ 1 24 undR hi hz0 hz1 hz2 rfl v xs.length xs hv (World.ownsRow.alloc hown _) (.slice (some ⟨w.heap.size, 0, none⟩) 1 1) 1 [.slice a0 n0 c0] hx ?_ (by simp only [maxLen]; omega) (by omega) (by simp; omega) ?_
  · refine Src.ofSlice _ undR ⟨w.heap.size, 0, none⟩ 1 1 [.slice a0 n0 c0] (by simp) ?_ (by intro u hu; simp at hu; subst hu; rfl)
    exact World.news_of_block (heap_alloc_new w _)
  · intro v' w' h1 h2 h3
    have hlt := World.ownsRow.lt hown
    have hB : Below base w w' := ((Below.refl _ _).alloc hbase _).grown h2 (by simp; omega) (fun k hk => (hlt k hk).1)
    exact h v' w' (by unfold OwnR; rw [List.length_append]; exact h1) hB (only_grown h2) (by simpa using h3)
theorem BS.stay {w w' : World} {v : Value} {l : List UInt8} (h : BS w v l) (hz : w.heap.size ≤ w'.heap.size) (hs : ∀ k, v.ownBlock = some k → w'.heap[k]? = w.heap[k]?) : BS w' v l := by
  rcases h with h | ⟨b, off, cap, rfl, hc, hlt, hcell⟩
  · exact .inl h
  · refine .inr ⟨b, off, cap, rfl, hc, Nat.lt_of_lt_of_le hlt hz, fun i u hu => ?_⟩
    have e := hs b rfl
    have := hcell i u hu
    unfold World.cell? at this ⊢
    simp only [e]
    exact this
theorem Rds.stay {w w' : World} (hz : w.heap.size ≤ w'.heap.size) : ∀ {a : List Value} {b : List (List UInt8)}, Rds w a b → (∀ x ∈ a, ∀ k, x.ownBlock = some k → w'.heap[k]? = w.heap[k]?) → Rds w' a b
  | [], [], _, _ => trivial
  | x :: _, _ :: _, h, hs => ⟨h.1.stay hz (hs x (by simp)), Rds.stay hz h.2 (fun y hy => hs y (by simp [hy]))⟩
/-- rows of bytes that are made one by one -/
structure RWs (base : Nat) (w : World) (v : Value) (ls : List (List UInt8)) : Prop where
  it : ∃ xs, OwnR base w v xs ∧ Rds w xs ls ∧ ∀ x ∈ xs, ∀ k, x.ownBlock = some k → k < w.heap.size ∧ v.ownBlock ≠ some k
theorem RWs.mono {base base' : Nat} {w : World} {v : Value} {ls : List (List UInt8)} (h : RWs base w v ls) (hb : base' ≤ base) : RWs base' w v ls := by
  obtain ⟨xs, h1, h2, h3⟩ := h.it
  exact ⟨xs, World.ownsRow.mono h1 hb, h2, h3⟩
theorem RWs.rws {base : Nat} {w : World} {v : Value} {ls : List (List UInt8)} (h : RWs base w v ls) : Rws w v ls := by
  obtain ⟨xs, h1, h2, _⟩ := h.it
  exact h1.rws h2
theorem RWs.one {B : Nat} {w : World} {a0 : Option Addr} {n0 c0 : Nat} {b : List UInt8} (h : OwnB B w (.slice a0 n0 c0) b) : RWs w.heap.size (w.alloc (.cells #[.slice a0 n0 c0] 41)) (.slice (some ⟨w.heap.size, 0, none⟩) 1 1) [b] := by
  refine ⟨[.slice a0 n0 c0], OwnR.new w [.slice a0 n0 c0] (by simp), ⟨h.bs.later (balloc _ _), trivial⟩, fun x hx k hk => ?_⟩
  have : x = .slice a0 n0 c0 := by simpa using hx
  subst this
  have hl := (World.ownsRow.lt h k hk).2
  refine ⟨by simp; omega, fun e => ?_⟩
  have e2 : w.heap.size = k := by simpa [Value.ownBlock] using e
  omega
theorem app_RR {w0 w : World} {base B : Nat} {v : Value} {ls : List (List UInt8)} {a0 : Option Addr} {n0 c0 : Nat} {b : List UInt8} (h0 : RWs base w0 v ls) (hb0 : Below w0.heap.size w0 w) (hx0 : OwnB B w (.slice a0 n0 c0) b) (hB : w0.heap.size ≤ B) (hb : ls.length + 1 ≤ 100000000) (hbase : base ≤ w0.heap.size)
    {ops : Array Oper} {rest : List Oper} {o : Oper} {a : Act} {Q : Exit → Act → World → Prop} (hgd : o.guard = none) (s y : Operand)
    (ho : o.op = .call { callee := .builtin .append, args := #[s, y], argTypes := #[119, 119] }) (hv : a.eval s = v) (hx : a.eval y = .slice (some ⟨w.heap.size, 0, none⟩) 1 1)
    (h : ∀ v' w', RWs base w' v' (ls ++ [b]) → Below base w w' → wpList Tryz.prog ops Q rest (a.put o.dst v') w') :
    wpList Tryz.prog ops Q (o :: rest) a (w.alloc (.cells #[.slice a0 n0 c0] 41)) := by
  obtain ⟨xs, h1, h2, h3⟩ := h0.it
  have hl := h2.len
  refine app_R a0 n0 c0 (h1.later hb0) (by omega) (Nat.le_trans hbase hb0.size) hgd s y ho hv hx ?_
  intro v' w' ho1 hb1 hy1 hat
  have hne : ∀ x ∈ xs ++ [Value.slice a0 n0 c0], ∀ k, x.ownBlock = some k → k < w.heap.size ∧ v.ownBlock ≠ some k := by
    intro x hx k hk
    rcases List.mem_append.1 hx with hx | hx
    · exact ⟨Nat.lt_of_lt_of_le (h3 x hx k hk).1 hb0.size, (h3 x hx k hk).2⟩
    · have : x = .slice a0 n0 c0 := by simpa using hx
      subst this
      have hk2 := World.ownsRow.lt hx0 k hk
      refine ⟨hk2.2, fun e => ?_⟩
      have := (h1.lt e).2
      omega
  refine h v' w' ⟨_, ho1, ?_, fun x hx k hk => ⟨Nat.lt_of_lt_of_le (hne x hx k hk).1 hy1.size, fun e => ?_⟩⟩ hb1
  · refine Rds.stay hy1.size (Rds.snoc hx0.bs (Rds.later hb0 h2)) (fun x hx k hk => hy1.block k (hne x hx k hk).1 (fun hm => ?_))
    have := (hne x hx k hk).2
    cases hv0 : v.ownBlock with
    | none => rw [hv0] at hm; simp at hm
    | some j => rw [hv0] at hm; simp at hm; rw [hv0, hm] at this; exact this rfl
  · rcases hat with h | h
    · exact (hne x hx k hk).2 (h ▸ e)
    · rw [h] at e
      injection e with e
      have := (hne x hx k hk).1
      omega
theorem BS.ones {w : World} {v : Value} {l : List UInt8} (h : BS w v l) : ∃ a n c, v = .slice a n c := by
  obtain ⟨a, c, e⟩ := h.form
  exact ⟨a, _, c, e⟩
/-- two rows joined -/
theorem join2 {w : World} {a1 a2 : Option Addr} {n1 c1 n2 c2 : Nat} {b1 b2 : List UInt8} (h1 : BS w (.slice a1 n1 c1) b1) (h2 : BS w (.slice a2 n2 c2) b2) (hl : b1.length + b2.length ≤ 10000000000) :
    Calls Tryz.prog 29 #[.slice (some ⟨w.heap.size, 0, none⟩) 2 2] (w.alloc (.cells #[.slice a1 n1 c1, .slice a2 n2 c2] 41)) fun e w' => ∃ v', e = .returned v' ∧ OwnB w.heap.size w' v' (b1 ++ b2) ∧ Below w.heap.size w w' := by
  have hb := balloc w (.cells #[.slice a1 n1 c1, .slice a2 n2 c2] 41)
  have := ojoin_any ((OwnR.new w [.slice a1 n1 c1, .slice a2 n2 c2] (by simp)).rws (ls := [b1, b2]) ⟨h1.later hb, h2.later hb, trivial⟩) (by simp) (by simp [tot]; omega)
  refine this.mono ?_
  rintro e w' ⟨v', rfl, ho, hb2⟩
  exact ⟨v', rfl, by simpa using ho.mono hb.size, bstep hb hb2⟩
theorem join3 {w : World} {a1 a2 a3 : Option Addr} {n1 c1 n2 c2 n3 c3 : Nat} {b1 b2 b3 : List UInt8} (h1 : BS w (.slice a1 n1 c1) b1) (h2 : BS w (.slice a2 n2 c2) b2) (h3 : BS w (.slice a3 n3 c3) b3) (hl : b1.length + b2.length + b3.length ≤ 10000000000) :
    Calls Tryz.prog 29 #[.slice (some ⟨w.heap.size, 0, none⟩) 3 3] (w.alloc (.cells #[.slice a1 n1 c1, .slice a2 n2 c2, .slice a3 n3 c3] 41)) fun e w' => ∃ v', e = .returned v' ∧ OwnB w.heap.size w' v' (b1 ++ b2 ++ b3) ∧ Below w.heap.size w w' := by
  have hb := balloc w (.cells #[.slice a1 n1 c1, .slice a2 n2 c2, .slice a3 n3 c3] 41)
  have := ojoin_any ((OwnR.new w [.slice a1 n1 c1, .slice a2 n2 c2, .slice a3 n3 c3] (by simp)).rws (ls := [b1, b2, b3]) ⟨h1.later hb, h2.later hb, h3.later hb, trivial⟩) (by simp) (by simp [tot]; omega)
  refine this.mono ?_
  rintro e w' ⟨v', rfl, ho, hb2⟩
  exact ⟨v', rfl, by simpa using ho.mono hb.size, bstep hb hb2⟩
theorem join4 {w : World} {a1 a2 a3 a4 : Option Addr} {n1 c1 n2 c2 n3 c3 n4 c4 : Nat} {b1 b2 b3 b4 : List UInt8} (h1 : BS w (.slice a1 n1 c1) b1) (h2 : BS w (.slice a2 n2 c2) b2) (h3 : BS w (.slice a3 n3 c3) b3) (h4 : BS w (.slice a4 n4 c4) b4) (hl : b1.length + b2.length + b3.length + b4.length ≤ 10000000000) :
    Calls Tryz.prog 29 #[.slice (some ⟨w.heap.size, 0, none⟩) 4 4] (w.alloc (.cells #[.slice a1 n1 c1, .slice a2 n2 c2, .slice a3 n3 c3, .slice a4 n4 c4] 41)) fun e w' => ∃ v', e = .returned v' ∧ OwnB w.heap.size w' v' (b1 ++ b2 ++ b3 ++ b4) ∧ Below w.heap.size w w' := by
  have hb := balloc w (.cells #[.slice a1 n1 c1, .slice a2 n2 c2, .slice a3 n3 c3, .slice a4 n4 c4] 41)
  have := ojoin_any ((OwnR.new w [.slice a1 n1 c1, .slice a2 n2 c2, .slice a3 n3 c3, .slice a4 n4 c4] (by simp)).rws (ls := [b1, b2, b3, b4]) ⟨h1.later hb, h2.later hb, h3.later hb, h4.later hb, trivial⟩) (by simp) (by simp [tot]; omega)
  refine this.mono ?_
  rintro e w' ⟨v', rfl, ho, hb2⟩
  exact ⟨v', rfl, by simpa using ho.mono hb.size, bstep hb hb2⟩
/-- new bytes: what such a call answers -/
def BtP (w : World) (b : List UInt8) (e : Ending) (w' : World) : Prop := ∃ v', e = .returned v' ∧ OwnB w.heap.size w' v' b ∧ Below w.heap.size w w'

set_option maxRecDepth 100000 in
set_option maxHeartbeats 1000000 in
theorem txrow_any (s : List UInt8) (w : World) (hs : s.length ≤ 1000000000) : Calls Tryz.prog 30 #[.string (bs s)] w (BtP w (txB s)) := by
  have HT : Hid (Calls Tryz.prog 67 #[.slice none 0 0, .string (bs s)] w fun e w' => ∃ v', e = .returned v' ∧ OwnB w.heap.size w' v' ([] ++ le 4 (bs s).size ++ (bs s).data.toList) ∧ Below w.heap.size w w') := text_any (BS_nil w) (bs s) hs (by simp)
  have HE : Hid ([] ++ le 4 (bs s).size ++ (bs s).data.toList = txB s) := by show _ = _; unfold txB; rw [List.nil_append]; rfl
  go_enter Tryz.func30, Tryz.ntmps30
  go_wp2_with fail
  refine HT.out.mono ?_
  rintro e w1 ⟨v1, rfl, ho1, hb1⟩
  have H1 : Hid (OwnB w.heap.size w1 v1 (txB s) ∧ Below w.heap.size w w1) := ⟨by rw [← HE.out]; exact ho1, hb1⟩
  clear ho1 hb1
  go_wp2_with fail
  go_ret
  exact ⟨_, rfl, H1.out⟩

set_option maxRecDepth 100000 in
set_option maxHeartbeats 4000000 in
theorem lbrow_any (d : Lb) (w : World) (h1 : d.pkg.length ≤ 1000000000) (h2 : d.name.length ≤ 1000000000) : Calls Tryz.prog 116 #[d.val] w (BtP w (lbB d)) := by
  obtain ⟨p, m⟩ := d
  simp only at h1 h2
  unfold lbB
  simp only [Lb.val]
  have HP : Hid (∀ W, Calls Tryz.prog 30 #[.string (bs p)] W (BtP W (txB p))) := fun W => txrow_any p W h1
  have HM : Hid (∀ W, Calls Tryz.prog 30 #[.string (bs m)] W (BtP W (txB m))) := fun W => txrow_any m W h2
  have HL : Hid ((txB p).length + (txB m).length ≤ 10000000000) := by show _ ≤ _; rw [txB_len, txB_len]; omega
  obtain ⟨w0, hw0⟩ : ∃ w0, w.alloc (.cells #[.string (bs p), .string (bs m)] 92) = w0 := ⟨_, rfl⟩
  have x0 : w0.cell? ⟨w.heap.size, 0, none⟩ = some (.string (bs p)) := by rw [← hw0]; simp
  have x1 : w0.cell? ⟨w.heap.size, 1, none⟩ = some (.string (bs m)) := by rw [← hw0]; simp
  have HS : Hid (∀ W, Below w0.heap.size w0 W → W.cell? ⟨w.heap.size, 0, none⟩ = some (.string (bs p)) ∧ W.cell? ⟨w.heap.size, 1, none⟩ = some (.string (bs m))) := fun W hW => by
    have hlt : w.heap.size < w0.heap.size := by rw [← hw0]; simp
    exact ⟨(hW.cell (p := ⟨w.heap.size, 0, none⟩) hlt).trans x0, (hW.cell (p := ⟨w.heap.size, 1, none⟩) hlt).trans x1⟩
  have HB : Hid (Below w.heap.size w w0) := by rw [← hw0]; exact balloc _ _
  have HW : Hid (w.alloc (.cells #[.string (bs p), .string (bs m)] 92) = w0) := hw0
  clear h1 h2 hw0
  go_enter Tryz.func116, Tryz.ntmps116
  go_wp2_with fail
  rw [HW.out]
  go_region_held3 (fun w' => w'.cell? ⟨w.heap.size, 0, none⟩ = some (.string (bs p)) ∧ w'.cell? ⟨w.heap.size, 1, none⟩ = some (.string (bs m))) (first | (with_reducible exact ⟨x0, x1⟩) | (with_reducible exact HS.out _ (Below.refl _ _).drew) | (with_reducible exact KA.out) | (with_reducible exact KB.out) | (with_reducible exact KC.out) | go_keep) (first
    | (go_at_call 29; (with_reducible refine (join2 (O2.out.1.later (Below.refl _ _)) O2.out.2.1 HL.out).mono ?_); rintro e w3 ⟨v3, rfl, ho3, hb3⟩; have O3 : Hid (OwnB w.heap.size w3 v3 (txB p ++ txB m) ∧ Below w.heap.size w w3) := ⟨ho3.mono (Nat.le_trans HB.out.size O2.out.2.2.size), bstep HB.out (bstep O2.out.2.2 hb3)⟩; have KC : Hid (w3.cell? ⟨w.heap.size, 0, none⟩ = some (.string (bs p)) ∧ w3.cell? ⟨w.heap.size, 1, none⟩ = some (.string (bs m))) := HS.out w3 (bstep O2.out.2.2 hb3); clear ho3 hb3)
    | (go_at_call 30; (with_reducible refine (HM.out _).mono ?_); rintro e w2 ⟨v2, rfl, ho2, hb2⟩; obtain ⟨a2, n2, c2, rfl⟩ := ho2.bs.ones; have O2 : Hid (BS w2 (.slice a1 n1 c1) (txB p) ∧ BS w2 (.slice a2 n2 c2) (txB m) ∧ Below w0.heap.size w0 w2) := ⟨O1.out.1.later hb2, ho2.bs, bstep O1.out.2 hb2⟩; have KB : Hid (w2.cell? ⟨w.heap.size, 0, none⟩ = some (.string (bs p)) ∧ w2.cell? ⟨w.heap.size, 1, none⟩ = some (.string (bs m))) := HS.out w2 O2.out.2.2; clear ho2 hb2)
    | (go_at_call 30; (with_reducible refine (HP.out _).mono ?_); rintro e w1 ⟨v1, rfl, ho1, hb1⟩; obtain ⟨a1, n1, c1, rfl⟩ := ho1.bs.ones; have O1 : Hid (BS w1 (.slice a1 n1 c1) (txB p) ∧ Below w0.heap.size w0 w1) := ⟨ho1.bs, bstep (Below.refl _ _).drew hb1⟩; have KA : Hid (w1.cell? ⟨w.heap.size, 0, none⟩ = some (.string (bs p)) ∧ w1.cell? ⟨w.heap.size, 1, none⟩ = some (.string (bs m))) := HS.out w1 O1.out.2; clear ho1 hb1))
  go_wp2_with fail
  go_ret
  exact ⟨_, rfl, O3.out⟩
end Go.Proofs.YtddaoloabfkheaaGreatDoor
