import Derived.Test.YtlkkmcibjhoneaaGreatDoorJLent
namespace Go.Proofs.YtlkkmcibjhoneaaGreatDoor
open Go.RowKit

/-- the mark of list number k -/
def mk (k : Nat) : List UInt8 := List.replicate (k + 1) 33
theorem bs_add (a b : List UInt8) : bs a ++ bs b = bs (a ++ b) := by
  apply ByteArray.ext; simp [bs]

theorem mk_add (k : Nat) : bs (mk k) ++ (ByteArray.mk #[33]) = bs (mk (k + 1)) := by
  have := bs_add (mk k) [33]
  rw [show (ByteArray.mk #[33]) = bs [33] from rfl, this]
  unfold mk
  rw [List.replicate_succ' (n := k + 1)]

set_option maxHeartbeats 1000000 in
set_option maxRecDepth 100000 in
theorem mark_any (k : Nat) (w : World) (hk : k < 4) :
    Calls Tryz.prog 52 #[.int .i64 k] w fun e w' => e = .returned (.string (bs (mk k))) ∧ w' = w := by
  go_enter Tryz.func52, Tryz.ntmps52
  go_wp2_with fail
  go_loop [3, 4] (fun s i => ∃ j : Nat, j ≤ k ∧ i = .int .i64 j ∧ s = .string (bs (mk j))) (fun _ i => k - (intOf i).toNat)
  case atStart => exact ⟨0, Nat.zero_le _, rfl, rfl⟩
  case round =>
    obtain ⟨j, hj, rfl, rfl⟩ := hrel
    by_cases hlt : j < k
    · have z1 : (bs (mk j)).size = j + 1 := by show (mk j).length = j + 1; simp [mk]
      have HA : Hid (bs (mk j) ++ (ByteArray.mk #[33]) = bs (mk (j + 1))) := mk_add j
      go_wp2_with fail
      go_round
      case rel => exact ⟨j + 1, by omega, by go_num, by rw [← HA.out]⟩
      case measure => simp [intOf]; omega
    · obtain rfl : j = k := by omega
      go_wp2_with fail
      go_ret
      exact ⟨rfl, rfl⟩

set_option maxHeartbeats 1000000 in
set_option maxRecDepth 100000 in
theorem full_any {w : World} {v : Value} {L : List (List UInt8)} (p : List UInt8) (h : SS w v L) (hL : L.length ≤ 8000000) (hp : ∀ x ∈ L, x = p) :
    Calls Tryz.prog 53 #[v, .string (bs p)] w fun e w' => e = .returned (.bool true) ∧ w' = w := by
  obtain ⟨a, c, n, hn, rfl, ca⟩ := h.form'
  have CA : Hid (∀ k, (hk : k < L.length) → ∃ b off, a = some ⟨b, off, none⟩ ∧ b < w.heap.size ∧ w.cell? ⟨b, off + k, none⟩ = some (.string (bs L[k]))) := ca
  have HN : Hid (n = L.length) := hn
  have HP : Hid (∀ x ∈ L, x = p) := hp
  have hnl : n ≤ 8000000 := by omega
  clear ca h hn hL hp
  go_enter Tryz.func53, Tryz.ntmps53
  go_wp2_with fail
  go_loop [5] (fun i => ∃ k : Nat, k ≤ n ∧ i = .int .i64 k) (fun i => n - (intOf i).toNat)
  case atStart => exact ⟨0, Nat.zero_le _, rfl⟩
  case round =>
    obtain ⟨k, hk, rfl⟩ := hrel
    by_cases hlt : k < n
    · have hlt2 : k < L.length := by have := HN.out; omega
      obtain ⟨g1, o1, rfl, hg1, c1⟩ := CA.out k hlt2
      rw [HP.out _ (List.getElem_mem hlt2)] at c1
      have t1 : (bs p).toList = p := bs_toList _
      go_wp2_with fail
      go_round
      case rel => exact ⟨k + 1, by omega, by go_num⟩
      case measure => simp [intOf]; omega
    · go_wp2_with fail
      go_ret
      exact ⟨rfl, rfl⟩

/-- append where there is room: the same row, the same capacity -/
theorem run_append_into (w : World) (base g n cap : Nat) (ty : TypeId) (l : List (List UInt8)) (k : List (List UInt8)) (x : Value)
    (hown : Own base w (.slice (some ⟨g, 0, none⟩) n cap) l) (hs : Src Tryz.prog 1 42 x k.length (sc k) w) (hn : l.length = n) (hroom : n + k.length ≤ cap) :
    ∃ w', (Builtin.append_ #[42, 42] ty #[.slice (some ⟨g, 0, none⟩) n cap, x]).run Tryz.prog w = .ok (.slice (some ⟨g, 0, none⟩) (n + k.length) cap) w' ∧
      Own base w' (.slice (some ⟨g, 0, none⟩) (n + k.length) cap) (l ++ k) ∧ w.grownBy w' (some g) := by
  obtain ⟨i, hi, hz0, hz1, hz2⟩ := info_parts info9
  subst hn
  rcases hown.2 with ⟨h0, _⟩ | ⟨g', cap', cur, e, hbg, hg, hnc, hcm, hcs, htake⟩
  · cases h0
  injection e with e1 e2 e3
  injection e1 with e1
  injection e1 with e1 _ _
  subst e1
  subst e3
  have hlen : (sc l ++ sc k).length = (l.length + k.length) * 1 := by simp [sc_length]
  have hfit : l.length * i.size + (sc k).length ≤ cur.size := by rw [hz1, sc_length, hcs]; omega
  have hst := run_storeCells_at Tryz.prog g (l.length * i.size) 9 (sc k) 0 cur w hg (by simpa using hfit) hs.one
  simp only [Nat.add_zero] at hst
  have hr : (Builtin.append_ #[42, 42] ty #[.slice (some ⟨g, 0, none⟩) l.length cap, x]).run Tryz.prog w =
      .ok (.slice (some ⟨g, 0, none⟩) (l.length + k.length) cap) (w.setRow g (cur.toList.take (l.length * i.size) ++ sc k ++ cur.toList.drop (l.length * i.size + (sc k).length)).toArray) := by
    rw [← hz1] at hs
    simp [Builtin.append_, run_underlying und52, sizeOf, typeInfo, hi, hs.len, hroom, hs.cells, Addr.add_lit, hst]
  refine ⟨_, hr, ⟨by rw [sc_append, List.length_append, sc_length, sc_length, List.length_append]; simp, .inr ⟨g, cap, _, by rw [List.length_append], hbg, setRow_heap w g cur _ 9 _ hg, by rw [List.length_append]; omega, hcm, ?_, ?_⟩⟩, ⟨rfl, rfl, rfl, by simp, fun k' _ hk => setRow_other w g k' _ (fun e => hk (by simp [e]))⟩⟩
  · simp only [List.size_toArray, List.length_append, List.length_take, List.length_drop, Array.length_toList, sc_length, hz1]
    simp only [sc_length, hz1] at hfit
    omega
  · have ht : cur.toList.take (l.length * 1) = sc l := htake
    rw [hz1, ht, sc_append, List.length_append, ← sc_length l, ← sc_length k, ← List.length_append, Nat.mul_one]
    exact List.take_left


theorem below_drew_alloc (w : World) (o : Obj) : Below w.heap.size w (w.drew.alloc o) := (Below.refl _ _).drew.alloc (Nat.le_refl _) o

/-- append of one text: in its place, or in new memory while all else stays -/
theorem app_put {w : World} {base : Nat} {v : Value} {l : List (List UInt8)} (p : List UInt8) (hown : Own base w v l) (hb : l.length + 1 ≤ 8796093022208) (hbase : base ≤ w.heap.size)
    {ops : Array Oper} {rest : List Oper} {o : Oper} {a : Act} {Q : Exit → Act → World → Prop} (hgd : o.guard = none) (s y : Operand)
    (ho : o.op = .call { callee := .builtin .append, args := #[s, y], argTypes := #[42, 42] }) (hv : a.eval s = v) (hx : a.eval y = .slice (some ⟨w.heap.size, 0, none⟩) 1 1)
    (h : ∀ v' w', Own base w' v' (l ++ [p]) → ((∃ g n cap, v = .slice (some ⟨g, 0, none⟩) n cap ∧ v' = .slice (some ⟨g, 0, none⟩) (n + 1) cap ∧ w.grownBy w' (some g)) ∨ (∃ b, v'.ownBlock = some b ∧ w.heap.size ≤ b ∧ Below w.heap.size w w')) → wpList Tryz.prog ops Q rest (a.put o.dst v') w') :
    wpList Tryz.prog ops Q (o :: rest) a (w.alloc (.cells #[.string (bs p)] 9)) := by
  obtain ⟨w1, hw1⟩ : ∃ w1, w.alloc (.cells #[.string (bs p)] 9) = w1 := ⟨_, rfl⟩
  have hsrc : Src Tryz.prog 1 42 (.slice (some ⟨w.heap.size, 0, none⟩) 1 1) [p].length (sc [p]) w1 := by rw [← hw1]; exact src_one w p
  have hown1 : Own base w1 v l := by rw [← hw1]; exact World.ownsRow.alloc hown _
  have hb1 : Below w.heap.size w w1 := by rw [← hw1]; exact balloc _ _
  have hz1 : w1.heap.size = w.heap.size + 1 := by rw [← hw1]; simp
  have hg1 : ∀ row, w.grownBy w1 row := fun row => by rw [← hw1]; exact World.grownBy_alloc w _ _
  rw [hw1]
  obtain ⟨i, hi, hz0, hzs, hz2⟩ := info_parts info9
  have key : ∃ v' w', (Builtin.append_ #[42, 42] o.type #[v, .slice (some ⟨w.heap.size, 0, none⟩) 1 1]).run Tryz.prog w1 = .ok v' w' ∧ Own base w' v' (l ++ [p]) ∧ ((∃ g n cap, v = .slice (some ⟨g, 0, none⟩) n cap ∧ v' = .slice (some ⟨g, 0, none⟩) (n + 1) cap ∧ w.grownBy w' (some g)) ∨ (∃ b, v'.ownBlock = some b ∧ w.heap.size ≤ b ∧ Below w.heap.size w w')) := by
    obtain ⟨v2, w2, hr2, h2, _, _⟩ := run_append_src (P := Tryz.prog) w1 base 42 42 o.type 9 i (.string ByteArray.empty) 1 16 und52 hi hz0 hzs hz2 rfl v l.length (sc l) hown1 (.slice (some ⟨w.heap.size, 0, none⟩) 1 1) 1 (sc [p]) hsrc (by simp only [maxLen]; omega) (by omega) (by omega)
    have hO2 : Own base w2 v2 (l ++ [p]) := by unfold Own; rw [sc_append, List.length_append]; exact h2
    rcases hown1.2 with ⟨rfl, h0⟩ | ⟨g, cap, cur, rfl, hbg, hg, hnc, hcm, hcs, htake⟩
    · have hl : l = [] := List.eq_nil_of_length_eq_zero h0
      subst hl
      have hr := run_append_grow_src (P := Tryz.prog) w1 42 42 o.type 9 i (.string ByteArray.empty) und52 hi hz0 none 0 0 [] (run_firstCells_none w1.drew i.size 0 0 0) (.slice (some ⟨w.heap.size, 0, none⟩) 1 1) 1 (sc [p]) (by rw [hzs]; exact hsrc) (by omega) (by omega) (growslice_fits (by omega) (by rw [hz2]; omega))
      rw [hr2] at hr
      injection hr with e1 e2
      refine ⟨v2, w2, hr2, hO2, .inr ⟨w1.heap.size, by rw [e1]; rfl, by omega, ?_⟩⟩
      rw [e2]
      exact bstep hb1 (below_drew_alloc w1 _)
    · by_cases hroom : l.length + 1 ≤ cap
      · obtain ⟨w3, hr3, h3, hg3⟩ := run_append_into w1 base g l.length cap o.type l [p] _ hown1 hsrc rfl hroom
        exact ⟨_, w3, hr3, h3, .inl ⟨g, l.length, cap, rfl, rfl, (hg1 _).trans hg3⟩⟩
      · have holds : ∀ j u, (sc l)[j]? = some u → w1.cell? ((⟨g, 0, none⟩ : Addr).add j) = some u := World.ownsRow.cells hown1 (g := g) rfl
        have hr := run_append_grow_src (P := Tryz.prog) w1 42 42 o.type 9 i (.string ByteArray.empty) und52 hi hz0 (some ⟨g, 0, none⟩) l.length cap (sc l) (run_firstCells_some w1.drew i.size l.length _ l.length cap (sc l) (by rw [sc_length, hzs]; simp) (by simpa using holds)) (.slice (some ⟨w.heap.size, 0, none⟩) 1 1) 1 (sc [p]) (by rw [hzs]; exact hsrc) (by omega) (by omega) (growslice_fits (by omega) (by rw [hz2]; omega))
        rw [hr2] at hr
        injection hr with e1 e2
        refine ⟨v2, w2, hr2, hO2, .inr ⟨w1.heap.size, by rw [e1]; rfl, by omega, ?_⟩⟩
        rw [e2]
        exact bstep hb1 (below_drew_alloc w1 _)
  obtain ⟨v', w', hr, h1, h2⟩ := key
  refine wpList_plain hgd fun K hK => ?_
  unfold Oper.wp execOp
  simp only [ho, resolve, invoke, builtin, Sem.run_bind, Sem.run_pure, Result.andThen_ok, List.map_toArray, List.map_cons, List.map_nil, hv, hx, hr]
  exact hK _ _ (h v' w' h1 h2)

theorem mark_grow (k : Nat) (hk : k < 4) {w : World} (X : GW w) : Calls Tryz.prog 52 #[.int .i64 k] X.it fun e w' => e = .returned (.string (bs (mk k))) ∧ ∃ Y : GW w, w' = Y.it :=
  (mark_any k X.it hk).mono fun _ _ ⟨he, hw⟩ => ⟨he, X, hw⟩
theorem full_grow {w : World} {v : Value} {L : List (List UInt8)} {p : List UInt8} (h : SS w v L) (hL : L.length ≤ 8000000) (hp : ∀ x ∈ L, x = p) (X : GW w) :
    Calls Tryz.prog 53 #[v, .string (bs p)] X.it fun e w' => e = .returned (.bool true) ∧ ∃ Y : GW w, w' = Y.it :=
  (full_any p (h.later X.below) hL hp).mono fun _ _ ⟨he, hw⟩ => ⟨he, X, hw⟩
theorem texts_grow {w : World} {va vb : Value} {A : List (List UInt8)} (h1 : SS w va A) (h2 : SS w vb A) (hA : A.length ≤ 8000000) (X : GW w) :
    Calls Tryz.prog 16 #[va, vb] X.it fun e w' => e = .returned (.bool true) ∧ ∃ Y : GW w, w' = Y.it :=
  (same_any (h1.later X.below) (h2.later X.below) (by omega)).mono fun _ w' ⟨he, n, hw⟩ => ⟨by rw [he]; simp, ⟨w', by rw [hw]; exact bdN X.below⟩, rfl⟩
theorem step_mark {ops : Array Oper} {o : Oper} {a : Act} {w : World} {K : Act → World → Prop} {Q : Exit → Act → World → Prop} {E : Prop} (hgd : o.guard = none) (arg : Operand)
    (ho : o.op = .call { callee := .value (.func 52), args := #[arg], argTypes := #[3] }) (k : Nat) (hk : k < 4) (hv : a.eval arg = .int .i64 k)
    (h : K (a.put o.dst (.string (bs (mk k)))) w) :
    if Region.wanted o (yielded ops a.tmps) = true then Oper.wp Tryz.prog o a w K Q else E := by
  have hw : Region.wanted o (yielded ops a.tmps) = true := by simp [Region.wanted, hgd]
  rw [if_pos hw]
  have hr : (execOp a.eval o).run Tryz.prog w = .ok (.enter 52 #[.int .i64 k]) w := by
    simp [execOp, ho, resolve, invoke, go_sem]
    cases arg with
    | tmp t => simpa [Act.eval] using hv
    | const v => exact hv
    | global g => exact hv
    | func f => exact hv
  unfold Oper.wp
  rw [hr]
  refine (mark_any k w hk).mono ?_
  rintro e w' ⟨rfl, rfl⟩
  exact h
/-- a region by its number -/
def findReg (n : Nat) : Code → Option Code
  | .region m a b => if m == n then some (.region m a b) else none
  | .seq a b => match findReg n a with
    | some c => some c
    | none => findReg n b
  | .block _ c => findReg n c
  | .loop c => findReg n c
  | .scope c => findReg n c
  | .cond _ a b => match findReg n a with
    | some c => some c
    | none => findReg n b
  | _ => none
end Go.Proofs.YtlkkmcibjhoneaaGreatDoor
