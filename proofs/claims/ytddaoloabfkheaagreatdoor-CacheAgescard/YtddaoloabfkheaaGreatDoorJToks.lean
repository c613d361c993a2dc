/-
  Tokens in memory: one by one, and as rows.
  The program's walk over a text: the line's end, what is passed over, the token's end, the tokens.
-/
import Derived.Test.YtddaoloabfkheaaGreatDoorJWords
namespace Go.Proofs.YtddaoloabfkheaaGreatDoor
open Go.RowKit

def Tk.val (t : Tk) : Value := .agg #[.int .i64 t.kind, .string (bs t.text), .int .i64 t.at']
def tc : List Tk → List Value
  | [] => []
  | t :: r => .int .i64 t.kind :: .string (bs t.text) :: .int .i64 t.at' :: tc r
theorem tc_length : ∀ l, (tc l).length = l.length * 3
  | [] => rfl
  | f :: r => by simp only [tc, List.length_cons, tc_length r]; omega
theorem tc_append : ∀ a b, tc (a ++ b) = tc a ++ tc b
  | [], b => rfl
  | f :: r, b => by simp [tc, tc_append r b]
theorem tc_one : ∀ (l : List Tk), ∀ u ∈ tc l, u.oneCell' = true
  | [], u, h => by simp [tc] at h
  | f :: r, u, h => by
    simp only [tc, List.mem_cons] at h
    rcases h with rfl | rfl | rfl | h
    · rfl
    · rfl
    · rfl
    · exact tc_one r u h
theorem tc_get : ∀ (l : List Tk) (k : Nat) (h : k < l.length), (tc l)[k * 3]? = some (.int .i64 l[k].kind) ∧ (tc l)[k * 3 + 1]? = some (.string (bs l[k].text)) ∧ (tc l)[k * 3 + 2]? = some (.int .i64 l[k].at')
  | f :: r, 0, _ => ⟨rfl, rfl, rfl⟩
  | f :: r, k + 1, h => by
    have ih := tc_get r k (by simpa using h)
    rw [show (k + 1) * 3 = k * 3 + 3 by omega]
    simp only [tc, List.getElem_cons_succ]
    exact ⟨ih.1, ih.2.1, ih.2.2⟩

/-- a slice of tokens reads as a list -/
def TS (w : World) (v : Value) (l : List Tk) : Prop :=
  ((∃ a c, v = .slice a 0 c) ∧ l = []) ∨
  ∃ b off cap, v = .slice (some ⟨b, off, none⟩) l.length cap ∧ l.length ≤ cap ∧ b < w.heap.size ∧ ∀ i u, (tc l)[i]? = some u → w.cell? ⟨b, off + i, none⟩ = some u
theorem TS.below {w w' : World} {v : Value} {l : List Tk} {B : Nat} (h : TS w v l) (hb : Below B w w') (hv : ∀ k, v.ownBlock = some k → k < B) : TS w' v l := by
  rcases h with h | ⟨b, off, cap, rfl, hc, hlt, hcell⟩
  · exact .inl h
  · refine .inr ⟨b, off, cap, rfl, hc, Nat.lt_of_lt_of_le hlt hb.size, fun i u hu => ?_⟩
    rw [hb.cell (p := ⟨b, off + i, none⟩) (hv b rfl)]; exact hcell i u hu
theorem TS.form {w : World} {v : Value} {l : List Tk} (h : TS w v l) : ∃ a c, v = .slice a l.length c ∧ (∀ k, (hk : k < l.length) → ∃ b off, a = some ⟨b, off, none⟩ ∧ b < w.heap.size ∧
    w.cell? ⟨b, off + k * 3, none⟩ = some (.int .i64 l[k].kind) ∧ w.cell? ⟨b, off + k * 3 + 1, none⟩ = some (.string (bs l[k].text)) ∧ w.cell? ⟨b, off + k * 3 + 2, none⟩ = some (.int .i64 l[k].at')) := by
  rcases h with ⟨⟨a, c, rfl⟩, rfl⟩ | ⟨b, off, cap, rfl, hc, hlt, hcell⟩
  · exact ⟨a, c, rfl, fun k hk => by simp at hk⟩
  · refine ⟨_, cap, rfl, fun k hk => ⟨b, off, rfl, hlt, ?_⟩⟩
    obtain ⟨c0, c1, c2⟩ := tc_get l k hk
    exact ⟨hcell _ _ c0, by rw [Nat.add_assoc]; exact hcell _ _ c1, by rw [Nat.add_assoc]; exact hcell _ _ c2⟩
/-- at one place, in a later world -/
theorem TS.at {w : World} {a : Option Addr} {c n : Nat} {l : List Tk} (h : TS w (.slice a n c) l) {wr : World} (hb : Below w.heap.size w wr) {k : Nat} (hk : k < l.length) : ∃ b off, a = some ⟨b, off, none⟩ ∧ b < w.heap.size ∧
    wr.cell? ⟨b, off + k * 3, none⟩ = some (.int .i64 l[k].kind) ∧ wr.cell? ⟨b, off + k * 3 + 1, none⟩ = some (.string (bs l[k].text)) ∧ wr.cell? ⟨b, off + k * 3 + 2, none⟩ = some (.int .i64 l[k].at') := by
  rcases h with ⟨⟨a', c', e⟩, rfl⟩ | ⟨b, off, cap, e, hc, hlt, hcell⟩
  · simp at hk
  · injection e with e1 e2 e3
    subst e1
    obtain ⟨c0, c1, c2⟩ := tc_get l k hk
    refine ⟨b, off, rfl, hlt, ?_, ?_, ?_⟩
    · rw [hb.cell (p := ⟨b, off + k * 3, none⟩) hlt]; exact hcell _ _ c0
    · rw [hb.cell (p := ⟨b, off + k * 3 + 1, none⟩) hlt, Nat.add_assoc]; exact hcell _ _ c1
    · rw [hb.cell (p := ⟨b, off + k * 3 + 2, none⟩) hlt, Nat.add_assoc]; exact hcell _ _ c2
theorem und163 : Tryz.prog.underlying 163 = some (.slice 188) := by kernel_rfl
theorem und93 : Tryz.prog.underlying 93 = some (.slice 132) := by kernel_rfl
theorem info188 : (Tryz.prog.info? 188).map (fun i => (i.zero, i.size, i.bytes)) = some (some (.agg #[.int .i64 0, .string ⟨#[]⟩, .int .i64 0]), 3, 32) := by kernel_rfl
theorem info132 : (Tryz.prog.info? 132).map (fun i => (i.zero, i.size, i.bytes)) = some (some (.agg #[.int .i64 0, .string ⟨#[]⟩, .int .i64 0]), 3, 32) := by kernel_rfl

/-- a row of tokens of the call's own (e: the program's token, or the document's) -/
def OwnT (e : TypeId) (base : Nat) (w : World) (v : Value) (l : List Tk) : Prop := w.ownsRow base e 3 v l.length (tc l)
theorem OwnT.nil (e : TypeId) (base : Nat) (w : World) : OwnT e base w (.slice none 0 0) [] := World.ownsRow_nil w base e 3
theorem OwnT.ts {e : TypeId} {base : Nat} {w : World} {v : Value} {l : List Tk} (h : OwnT e base w v l) : TS w v l := by
  rcases h.2 with ⟨rfl, h0⟩ | ⟨g, cap, cur, rfl, hb, hg, hn, _⟩
  · exact .inl ⟨⟨_, _, rfl⟩, List.eq_nil_of_length_eq_zero h0⟩
  · refine .inr ⟨g, 0, cap, rfl, hn, (Array.getElem?_eq_some_iff.1 hg).1, fun i u hu => ?_⟩
    have := World.ownsRow.cells h (g := g) rfl i u hu
    rw [add_lit] at this; exact this
theorem OwnT.lt {e : TypeId} {base : Nat} {w : World} {v : Value} {l : List Tk} (h : OwnT e base w v l) {k : Nat} (hk : v.ownBlock = some k) : base ≤ k ∧ k < w.heap.size := World.ownsRow.lt h k hk
theorem OwnT.only {S : List Nat} {e : TypeId} {base : Nat} {w w' : World} {v : Value} {l : List Tk} (h : OwnT e base w v l) (ho : Only S w w') (hn : ∀ k, v.ownBlock = some k → k ∉ S) : OwnT e base w' v l := by
  rcases h with ⟨h0, h | ⟨g, cap, cur, rfl, hb, hg, hr⟩⟩
  · exact ⟨h0, .inl h⟩
  · exact ⟨h0, .inr ⟨g, cap, cur, rfl, hb, (ho.block g (Array.getElem?_eq_some_iff.1 hg).1 (hn g rfl)).trans hg, hr⟩⟩
theorem OwnT.later {e : TypeId} {base : Nat} {w w' : World} {v : Value} {l : List Tk} (h : OwnT e base w v l) (hb : Below w.heap.size w w') : OwnT e base w' v l :=
  h.only (Only.of_below hb []) (by simp)
theorem OwnT.form {e : TypeId} {base : Nat} {w : World} {v : Value} {l : List Tk} (h : OwnT e base w v l) : ∃ a c, v = .slice a l.length c := by
  obtain ⟨a, c, e, _⟩ := h.ts.form; exact ⟨a, c, e⟩
/-- append of tokens onto tokens of the call's own -/
theorem app_toks {t e : TypeId} (hu : Tryz.prog.underlying t = some (.slice e)) (hinf : (Tryz.prog.info? e).map (fun i => (i.zero, i.size, i.bytes)) = some (some (.agg #[.int .i64 0, .string ⟨#[]⟩, .int .i64 0]), 3, 32)) {w : World} {base : Nat} {v x : Value} {l k : List Tk} (hown : OwnT e base w v l) (hs : Src Tryz.prog 3 t x k.length (tc k) w) (hb : l.length + k.length ≤ 1000000000) (hbase : base ≤ w.heap.size)
    {ops : Array Oper} {rest : List Oper} {o : Oper} {a : Act} {Q : Exit → Act → World → Prop} (hgd : o.guard = none) (s y : Operand)
    (ho : o.op = .call { callee := .builtin .append, args := #[s, y], argTypes := #[t, t] }) (hv : a.eval s = v) (hx : a.eval y = x)
    (h : ∀ v' w', OwnT e base w' v' (l ++ k) → w.grownBy w' v.ownBlock → (v'.ownBlock = v.ownBlock ∨ v'.ownBlock = some w.heap.size) → wpList Tryz.prog ops Q rest (a.put o.dst v') w') :
    wpList Tryz.prog ops Q (o :: rest) a w := by
  obtain ⟨i0, hi, hz0, hz1, hz2⟩ := info_parts hinf
  refine wpList_append_src w hgd s y t t ho base e i0 _ 3 32 hu hi hz0 hz1 hz2 rfl v l.length (tc l) hv hown x k.length (tc k) hx hs (by simp only [maxLen]; omega) (by omega) hbase ?_
  intro v' w' h1 h2 h3
  exact h v' w' (by unfold OwnT; rw [tc_append, List.length_append]; exact h1) h2 h3
theorem src_tok {t e : TypeId} (hu : Tryz.prog.underlying t = some (.slice e)) (w : World) (a b : Int) (X : ByteArray) : Src Tryz.prog 3 t (.slice (some ⟨w.heap.size, 0, none⟩) 1 1) [(⟨a, X.data.toList, b⟩ : Tk)].length (tc [⟨a, X.data.toList, b⟩]) (w.alloc (.cells #[.int .i64 a, .string X, .int .i64 b] e)) := by
  refine Src.ofSlice _ hu ⟨w.heap.size, 0, none⟩ 1 1 (tc [⟨a, X.data.toList, b⟩]) (by simp [tc_length]) ?_ (tc_one _)
  exact World.news_of_block (heap_alloc_new w _)
/-- append of one token, its own block made ahead of it -/
theorem app_tok {t e : TypeId} (hu : Tryz.prog.underlying t = some (.slice e)) (hinf : (Tryz.prog.info? e).map (fun i => (i.zero, i.size, i.bytes)) = some (some (.agg #[.int .i64 0, .string ⟨#[]⟩, .int .i64 0]), 3, 32)) {w : World} {base : Nat} {v : Value} {l : List Tk} (p q : Int) (X : ByteArray) (hown : OwnT e base w v l) (hb : l.length + 1 ≤ 1000000000) (hbase : base ≤ w.heap.size)
    {ops : Array Oper} {rest : List Oper} {o : Oper} {a : Act} {Q : Exit → Act → World → Prop} (hgd : o.guard = none) (s y : Operand)
    (ho : o.op = .call { callee := .builtin .append, args := #[s, y], argTypes := #[t, t] }) (hv : a.eval s = v) (hx : a.eval y = .slice (some ⟨w.heap.size, 0, none⟩) 1 1)
    (h : ∀ v' w', OwnT e base w' v' (l ++ [⟨p, X.data.toList, q⟩]) → Below base w w' → base ≤ w'.heap.size → wpList Tryz.prog ops Q rest (a.put o.dst v') w') :
    wpList Tryz.prog ops Q (o :: rest) a (w.alloc (.cells #[.int .i64 p, .string X, .int .i64 q] e)) := by
  refine app_toks hu hinf (base := base) (l := l) (k := [⟨p, X.data.toList, q⟩]) (World.ownsRow.alloc hown _) (src_tok hu w p q X) (by simpa using hb) (by simp; omega) hgd s y ho hv hx ?_
  intro v' w' h1 h2 h3
  have hlt := World.ownsRow.lt hown
  have hB : Below base w w' := ((Below.refl _ _).alloc hbase _).grown h2 (by simp; omega) (fun k hk => (hlt k hk).1)
  exact h v' w' h1 hB (Nat.le_trans hbase hB.size)
end Go.Proofs.YtddaoloabfkheaaGreatDoor

namespace Go.Proofs.YtddaoloabfkheaaGreatDoor
open Go.RowKit

theorem idx_cl : ∀ r : List UInt8, (Lib.indexByte r 10 = -1 ∧ cl r = r.length) ∨ (Lib.indexByte r 10 = (cl r : Int) ∧ cl r < r.length)
  | [] => .inl ⟨rfl, rfl⟩
  | c :: r => by
    rw [Lib.indexByte, cl]
    by_cases h : (c == 10) = true
    · rw [if_pos h, if_pos h]; exact .inr ⟨rfl, by simp⟩
    · rw [if_neg h, if_neg h]
      rcases idx_cl r with ⟨h1, h2⟩ | ⟨h1, h2⟩
      · rw [h1]; exact .inl ⟨by simp, by simp; omega⟩
      · rw [h1]
        have e : (((cl r : Int)) == -1) = false := by rw [beq_eq_false_iff_ne]; omega
        rw [e]
        exact .inr ⟨by simp; omega, by simp; omega⟩
theorem drop_lt {α : Type} {l : List α} {k : Nat} (h : k < l.length) : l.drop k = l[k] :: l.drop (k + 1) := List.drop_eq_getElem_cons h

set_option maxRecDepth 100000 in
set_option maxHeartbeats 1000000 in
theorem lineEnd_any (l : List UInt8) (n : Nat) (w : World) (hn : n ≤ l.length) (hl : l.length ≤ 1000000000) :
    Calls Tryz.prog 142 #[.string (bs l), .int .i64 n] w fun e w' => e = .returned (.int .i64 ((n + cl (l.drop n) : Nat) : Int)) ∧ w' = w := by
  have hz : (bs l).size = l.length := rfl
  have HE : Hid ((bs l).extract n l.length = bs (l.drop n)) := by
    show (bs l).extract n l.length = bs (l.drop n)
    rw [bs_extract, List.take_of_length_le (by simp)]
  have n1 : (0 : Int) ≤ (n : Int) := by omega
  have n2 : (n : Int) ≤ (l.length : Int) := by omega
  have HI : Hid (∀ w : World, Calls Tryz.prog 144 #[.string (bs (l.drop n)), .int .u8 10] w fun e w' => e = .returned (.int .i64 (Lib.indexByte (l.drop n) 10)) ∧ w' = w) := fun w => xindexByte_any (l.drop n) 10 w
  have hc := idx_cl (l.drop n)
  rw [List.length_drop] at hc
  generalize cl (l.drop n) = m at *
  generalize Lib.indexByte (l.drop n) 10 = y at *
  rcases hc with ⟨rfl, hm⟩ | ⟨rfl, hm⟩
  · have e1 : n + m = l.length := by omega
    rw [e1]
    clear e1 hm
    go_enter Tryz.func142, Tryz.ntmps142
    go_wp2_with fail
    rw [HE.out]
    refine (HI.out _).mono ?_
    rintro e w1 ⟨rfl, rfl⟩
    go_wp2_with fail
    go_ret
    exact ⟨rfl, rfl⟩
  · have m1 : n + m < l.length := by omega
    clear hm
    go_enter Tryz.func142, Tryz.ntmps142
    go_wp2_with fail
    rw [HE.out]
    refine (HI.out _).mono ?_
    rintro e w1 ⟨rfl, rfl⟩
    go_wp2_with fail
    go_ret
    exact ⟨by go_num, rfl⟩

theorem gp_at {l : List UInt8} {k : Nat} (h : k < l.length) (hc : l[k] = 35) : k + gp false (l.drop k) = (k + cl (l.drop k)) + gp false (l.drop (k + cl (l.drop k))) ∧ 0 < cl (l.drop k) ∧ k + cl (l.drop k) ≤ l.length := by
  have hle := cl_le (l.drop k)
  have e1 : gp false (l.drop k) = gp true (l.drop k) := by
    rw [drop_lt h, hc, gp, gp, if_pos (by decide)]; rfl
  have e2 : 0 < cl (l.drop k) := by
    rw [drop_lt h, hc, cl, if_neg (by decide)]; omega
  refine ⟨?_, e2, by rw [List.length_drop] at hle; omega⟩
  rw [e1, gp_true, List.drop_drop]; omega

set_option maxRecDepth 100000 in
set_option maxHeartbeats 4000000 in
theorem pass_any (l : List UInt8) (n : Nat) (w : World) (hn : n ≤ l.length) (hl : l.length ≤ 1000000000) :
    Calls Tryz.prog 125 #[.string (bs l), .int .i64 n] w fun e w' => e = .returned (.int .i64 ((n + gp false (l.drop n) : Nat) : Int)) ∧ w' = w := by
  have hz : (bs l).size = l.length := rfl
  obtain ⟨R, hR⟩ : ∃ R, n + gp false (l.drop n) = R := ⟨_, rfl⟩
  rw [hR]
  have HR : Hid (n + gp false (l.drop n) = R) := hR
  have HN : Hid (n ≤ l.length) := hn
  clear hR hn
  go_enter Tryz.func125, Tryz.ntmps125
  go_wp2_with fail
  go_loop [1] (fun s => ∃ k : Nat, k ≤ l.length ∧ s = .int .i64 k ∧ k + gp false (l.drop k) = R) (fun s => l.length - (intOf s).toNat)
  case atStart => exact ⟨n, HN.out, rfl, HR.out⟩
  case round =>
    clear HR HN
    obtain ⟨k, hk, rfl, hr⟩ := hrel
    have HR : Hid (k + gp false (l.drop k) = R) := hr
    clear hr
    by_cases hlt : k < l.length
    · have k1 : (0 : Int) ≤ (k : Int) := by omega
      have k2 : (k : Int) < (l.length : Int) := by omega
      by_cases h9 : l[k] = 9
      · have f9 : ((((bs l)[k]'(show k < (bs l).size from hlt)).toNat : Int) == 9) = true := at_eq hlt h9
        have HG : Hid (k + 1 + gp false (l.drop (k + 1)) = R) := by
          have := HR.out
          rw [drop_lt hlt, gp_blank (by rw [h9]; decide)] at this
          show _ = _
          omega
        go_wp2_with fail
        go_round
        case rel => exact ⟨k + 1, by omega, by go_num, HG.out⟩
        case measure => simp [intOf]; omega
      have f9 : ((((bs l)[k]'(show k < (bs l).size from hlt)).toNat : Int) == 9) = false := at_ne hlt h9
      by_cases h10 : l[k] = 10
      · have f10 : ((((bs l)[k]'(show k < (bs l).size from hlt)).toNat : Int) == 10) = true := at_eq hlt h10
        have HG : Hid (k + 1 + gp false (l.drop (k + 1)) = R) := by
          have := HR.out
          rw [drop_lt hlt, gp_blank (by rw [h10]; decide)] at this
          show _ = _
          omega
        go_wp2_with fail
        go_round
        case rel => exact ⟨k + 1, by omega, by go_num, HG.out⟩
        case measure => simp [intOf]; omega
      have f10 : ((((bs l)[k]'(show k < (bs l).size from hlt)).toNat : Int) == 10) = false := at_ne hlt h10
      by_cases h13 : l[k] = 13
      · have f13 : ((((bs l)[k]'(show k < (bs l).size from hlt)).toNat : Int) == 13) = true := at_eq hlt h13
        have HG : Hid (k + 1 + gp false (l.drop (k + 1)) = R) := by
          have := HR.out
          rw [drop_lt hlt, gp_blank (by rw [h13]; decide)] at this
          show _ = _
          omega
        go_wp2_with fail
        go_round
        case rel => exact ⟨k + 1, by omega, by go_num, HG.out⟩
        case measure => simp [intOf]; omega
      have f13 : ((((bs l)[k]'(show k < (bs l).size from hlt)).toNat : Int) == 13) = false := at_ne hlt h13
      by_cases h32 : l[k] = 32
      · have f32 : ((((bs l)[k]'(show k < (bs l).size from hlt)).toNat : Int) == 32) = true := at_eq hlt h32
        have HG : Hid (k + 1 + gp false (l.drop (k + 1)) = R) := by
          have := HR.out
          rw [drop_lt hlt, gp_blank (by rw [h32]; decide)] at this
          show _ = _
          omega
        go_wp2_with fail
        go_round
        case rel => exact ⟨k + 1, by omega, by go_num, HG.out⟩
        case measure => simp [intOf]; omega
      have f32 : ((((bs l)[k]'(show k < (bs l).size from hlt)).toNat : Int) == 32) = false := at_ne hlt h32
      by_cases h35 : l[k] = 35
      · have f35 : ((((bs l)[k]'(show k < (bs l).size from hlt)).toNat : Int) == 35) = true := at_eq hlt h35
        obtain ⟨g1, g2, g3⟩ := gp_at hlt h35
        have HG : Hid ((k + cl (l.drop k)) + gp false (l.drop (k + cl (l.drop k))) = R ∧ k < k + cl (l.drop k) ∧ k + cl (l.drop k) ≤ l.length) := ⟨g1.symm.trans HR.out, by omega, g3⟩
        have HC : Hid (∀ w : World, Calls Tryz.prog 142 #[.string (bs l), .int .i64 k] w fun e w' => e = .returned (.int .i64 ((k + cl (l.drop k) : Nat) : Int)) ∧ w' = w) := fun w => lineEnd_any l k w hk hl
        generalize k + cl (l.drop k) = j at *
        clear g1 g2 g3
        go_wp2_with fail
        refine (HC.out _).mono ?_
        rintro e w1 ⟨rfl, rfl⟩
        go_wp2_with fail
        go_round
        case rel => exact ⟨j, HG.out.2.2, rfl, HG.out.1⟩
        case measure => have := HG.out; simp [intOf]; omega
      have f35 : ((((bs l)[k]'(show k < (bs l).size from hlt)).toNat : Int) == 35) = false := at_ne hlt h35
      have HG : Hid (k = R) := by
        have := HR.out
        rw [drop_lt hlt, gp_other h35 (by simp [isB, h9, h10, h13, h32])] at this
        exact this
      go_wp2_with fail
      go_ret
      exact ⟨by rw [← HG.out]; rfl, rfl⟩
    · obtain rfl : k = l.length := by omega
      have HG : Hid (l.length = R) := by
        have := HR.out
        rw [List.drop_length] at this
        exact this
      go_wp2_with fail
      go_ret
      exact ⟨by rw [← HG.out]; rfl, rfl⟩

set_option maxRecDepth 100000 in
set_option maxHeartbeats 4000000 in
theorem behind_any (l : List UInt8) (n : Nat) (w : World) (hn : n < l.length) (hl : l.length ≤ 1000000000) (_hk : kd l[n] ≠ 0) :
    Calls Tryz.prog 127 #[.string (bs l), .int .i64 n, .int .i64 (kd l[n] : Nat)] w fun e w' => e = .returned (.int .i64 ((n + 1 + ktl l[n] (l.drop (n + 1)) : Nat) : Int)) ∧ w' = w := by
  have hz : (bs l).size = l.length := rfl
  unfold ktl
  cases hw : inW l[n]
  · have hk1 : (((kd l[n] : Nat) : Int) == 1) = false := by
      rw [beq_eq_false_iff_ne]
      unfold kd
      rw [hw]
      have : mkd l[n] ≠ 1 := u8_all (P := fun c => mkd c ≠ 1) (by decide +kernel) _
      simp; omega
    generalize kd l[n] = m at *
    simp only [Bool.false_eq_true, if_false, Nat.add_zero]
    clear hw
    go_enter Tryz.func127, Tryz.ntmps127
    go_wp2_with fail
    go_loop [1] (fun s => s = .int .i64 ((n + 1 : Nat) : Int)) (fun _ => 0)
    case atStart => rfl
    case round =>
      subst hrel
      go_wp2_with fail
      go_ret
      exact ⟨rfl, rfl⟩
  · rw [kd_word hw]
    simp only [if_true]
    show Calls Tryz.prog 127 #[.string (bs l), .int .i64 n, .int .i64 1] w _
    obtain ⟨R, hR⟩ : ∃ R, n + 1 + wl (l.drop (n + 1)) = R := ⟨_, rfl⟩
    rw [hR]
    have HR : Hid (n + 1 + wl (l.drop (n + 1)) = R) := hR
    clear hR hw
    go_enter Tryz.func127, Tryz.ntmps127
    go_wp2_with fail
    go_loop [1] (fun s => ∃ k : Nat, k ≤ l.length ∧ s = .int .i64 k ∧ k + wl (l.drop k) = R) (fun s => l.length - (intOf s).toNat)
    case atStart => exact ⟨n + 1, hn, by go_num, HR.out⟩
    case round =>
      clear HR
      obtain ⟨k, hk, rfl, hr⟩ := hrel
      have HR : Hid (k + wl (l.drop k) = R) := hr
      clear hr
      by_cases hlt : k < l.length
      · have k1 : (0 : Int) ≤ (k : Int) := by omega
        have k2 : (k : Int) < (l.length : Int) := by omega
        have HC : Hid (∀ w : World, Calls Tryz.prog 143 #[.int .u8 l[k].toNat] w fun e w' => e = .returned (.bool (inW l[k])) ∧ w' = w) := fun w => inWord_any _ w
        have hd := drop_lt hlt
        cases hi : inW l[k]
        · rw [hi] at HC
          have HG : Hid (k = R) := by
            have := HR.out
            rw [hd, wl, hi] at this
            show k = R
            simpa using this
          clear hd hi
          go_wp2_with fail
          refine (HC.out _).mono ?_
          rintro e w1 ⟨rfl, rfl⟩
          go_wp2_with fail
          go_ret
          exact ⟨by rw [← HG.out]; rfl, rfl⟩
        · rw [hi] at HC
          have HG : Hid (k + 1 + wl (l.drop (k + 1)) = R) := by
            have := HR.out
            rw [hd, wl, hi, if_pos rfl] at this
            show _ = _
            omega
          clear hd hi
          go_wp2_with fail
          refine (HC.out _).mono ?_
          rintro e w1 ⟨rfl, rfl⟩
          go_wp2_with fail
          go_round
          case rel => exact ⟨k + 1, by omega, by go_num, HG.out⟩
          case measure => simp [intOf]; omega
      · obtain rfl : k = l.length := by omega
        have HG : Hid (l.length = R) := by
          have := HR.out
          rw [List.drop_length] at this
          exact this
        go_wp2_with fail
        go_ret
        exact ⟨by rw [← HG.out]; rfl, rfl⟩
end Go.Proofs.YtddaoloabfkheaaGreatDoor
