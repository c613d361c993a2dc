/-
  The program's tokens.
  Manifests: targets, sources, and the reading of tokens, one at a time.
  The reader: its block, the token that is next, what is taken, where it gives up.
-/
import Derived.Test.YtddaoloabfkheaaGreatDoorJToks
import Derived.Test.YtddaoloabfkheaaGreatDoorJPath
import Derived.Test.YtddaoloabfkheaaGreatDoorJWords
namespace Go.Proofs.YtddaoloabfkheaaGreatDoor
open Go.RowKit

/-- a token at a place: what is told, and where it goes on -/
theorem tq_at {l : List UInt8} {k e p : Nat} (h : k < l.length) (hk : kd l[k] ≠ 0) (he : k + 1 + ktl l[k] (l.drop (k + 1)) = e) (hp : e + gp false (l.drop e) = p) :
    tq (l.drop k) k = (⟨(kd l[k] : Nat), ((bs l).extract k e).data.toList, k⟩ :: (tq (l.drop p) p).1, (tq (l.drop p) p).2) ∧ k < e ∧ e ≤ l.length ∧ e ≤ p ∧ p ≤ l.length := by
  have h1 := ktl_le l[k] (l.drop (k + 1))
  have h2 := gp_le false (l.drop e)
  rw [List.length_drop] at h1 h2
  refine ⟨?_, by omega, by omega, by omega, by omega⟩
  rw [drop_lt h, tq_tok hk]
  have e1 : (l.drop (k + 1)).drop (ktl l[k] (l.drop (k + 1))) = l.drop e := by rw [List.drop_drop, he]
  rw [e1, he]
  have e2 : ((bs l).extract k e).data.toList = l[k] :: (l.drop (k + 1)).take (ktl l[k] (l.drop (k + 1))) := by
    rw [bs_extract, bs_data, drop_lt h, show e - k = ktl l[k] (l.drop (k + 1)) + 1 by omega, List.take_succ_cons]
  rw [e2]
  unfold tg
  rw [List.drop_drop, hp]
theorem tq_no {l : List UInt8} {k : Nat} (h : k < l.length) (hk : kd l[k] = 0) : tq (l.drop k) k = ([], (k : Int)) := by
  rw [drop_lt h, tq_bad hk]

set_option maxRecDepth 100000 in
set_option maxHeartbeats 4000000 in
theorem tokens_any (l : List UInt8) (w : World) (hl : l.length ≤ 500000000) :
    Calls Tryz.prog 111 #[.string (bs l)] w fun e w' => ∃ v, e = .returned (.tuple #[v, .int .i64 (toks l).2]) ∧ OwnT 188 w.heap.size w' v (toks l).1 ∧ Below w.heap.size w w' := by
  have hz : (bs l).size = l.length := rfl
  obtain ⟨S, hS⟩ : ∃ S, toks l = S := ⟨_, rfl⟩
  rw [hS]
  have HP : Hid (∀ w : World, Calls Tryz.prog 125 #[.string (bs l), .int .i64 0] w fun e w' => e = .returned (.int .i64 ((gp false l : Nat) : Int)) ∧ w' = w) := fun w => by
    have := pass_any l 0 w (by omega) (by omega)
    rw [List.drop_zero, Nat.zero_add] at this
    exact this
  have hle := gp_le false l
  have HS : Hid (tq (l.drop (gp false l)) (gp false l) = S ∧ gp false l ≤ l.length) := ⟨by rw [← hS]; unfold toks tg; rw [Nat.zero_add], hle⟩
  generalize gp false l = k0 at *
  clear hS hle
  obtain ⟨TT, E⟩ := S
  go_enter Tryz.func111, Tryz.ntmps111
  go_wp2_with fail
  refine (HP.out _).mono ?_
  rintro e w1 ⟨rfl, hw⟩
  obtain rfl : w = w1 := hw.symm
  go_wp2_with fail
  go_loopw [4, 5] (fun v s wr => ∃ (k : Nat) (L : List Tk), k ≤ l.length ∧ s = .int .i64 k ∧ OwnT 188 w.heap.size wr v L ∧ Below w.heap.size w wr ∧ L ++ (tq (l.drop k) k).1 = TT ∧ (tq (l.drop k) k).2 = E ∧ L.length ≤ k) (fun _ s _ => l.length - (intOf s).toNat)
  case atStart => exact ⟨k0, [], HS.out.2, rfl, OwnT.nil _ _ _, Below.refl _ _, by rw [HS.out.1]; rfl, by rw [HS.out.1], by simp⟩
  case round =>
    obtain ⟨k, L, hk, rfl, ho, hb, ht, hE, hL⟩ := hrel
    clear HS HP
    have HO : Hid (OwnT 188 w.heap.size wr u4 L ∧ Below w.heap.size w wr) := ⟨ho, hb⟩
    have HT : Hid (L ++ (tq (l.drop k) k).1 = TT ∧ (tq (l.drop k) k).2 = E) := ⟨ht, hE⟩
    have hsz := hb.size
    clear ho hb ht hE
    by_cases hlt : k < l.length
    · have k1 : (0 : Int) ≤ (k : Int) := by omega
      have k2 : (k : Int) < (l.length : Int) := by omega
      have HK : Hid (∀ w : World, Calls Tryz.prog 126 #[.int .u8 l[k].toNat] w fun e w' => e = .returned (.int .i64 (kd l[k] : Nat)) ∧ w' = w) := fun w => xkind_any _ w
      by_cases h0 : kd l[k] = 0
      · have hq := tq_no hlt h0
        rw [h0] at HK
        have HT2 : Hid (L = TT ∧ (k : Int) = E) := by
          have := HT.out
          rw [hq] at this
          simp only [List.append_nil] at this
          exact this
        clear HT hq h0
        go_wp2_with fail
        refine (HK.out _).mono ?_
        rintro e w1 ⟨rfl, rfl⟩
        go_wp2_with fail
        go_ret2
        obtain ⟨a1, a2⟩ := HT2.out
        subst a1 a2
        exact ⟨_, rfl, HO.out.1, HO.out.2⟩
      · obtain ⟨en, hen⟩ : ∃ en, k + 1 + ktl l[k] (l.drop (k + 1)) = en := ⟨_, rfl⟩
        obtain ⟨p, hp⟩ : ∃ p, en + gp false (l.drop en) = p := ⟨_, rfl⟩
        obtain ⟨hq, q1, q2, q3, q4⟩ := tq_at hlt h0 hen hp
        have HB : Hid (∀ w : World, Calls Tryz.prog 127 #[.string (bs l), .int .i64 k, .int .i64 (kd l[k] : Nat)] w fun e w' => e = .returned (.int .i64 (en : Int)) ∧ w' = w) := fun w => by
          have := behind_any l k w hlt (by omega) h0
          rw [hen] at this
          exact this
        have HP : Hid (∀ w : World, Calls Tryz.prog 125 #[.string (bs l), .int .i64 en] w fun e w' => e = .returned (.int .i64 (p : Int)) ∧ w' = w) := fun w => by
          have := pass_any l en w q2 (by omega)
          rw [hp] at this
          exact this
        have hne : (((kd l[k] : Nat) : Int) == 0) = false := by rw [beq_eq_false_iff_ne]; omega
        have HT2 : Hid ((L ++ [⟨((kd l[k] : Nat) : Int), ((bs l).extract k en).data.toList, (k : Int)⟩]) ++ (tq (l.drop p) p).1 = TT ∧ (tq (l.drop p) p).2 = E) := by
          have := HT.out
          rw [hq] at this
          rw [List.append_assoc]
          exact this
        generalize kd l[k] = m at *
        clear HT hq h0 hen hp
        have c1 : (0 : Int) ≤ (en : Int) := by omega
        have c2 : (en : Int) ≤ (l.length : Int) := by omega
        have c3 : (k : Int) ≤ (en : Int) := by omega
        go_wp2_with fail
        refine (HK.out _).mono ?_
        rintro e w1 ⟨rfl, rfl⟩
        go_wp2_with fail
        refine (HB.out _).mono ?_
        rintro e w1 ⟨rfl, rfl⟩
        go_wp2_with (first
          | (at_builtin; refine app_tok und163 info188 (m : Int) (k : Int) ((bs l).extract k en) HO.out.1 (by omega) hsz rfl (.tmp 26) (.tmp 34) rfl rfl rfl ?_; intro v1 w1 hO1 hB1 hs1; have HO1 : Hid (OwnT 188 w.heap.size w1 v1 (L ++ [⟨(m : Int), ((bs l).extract k en).data.toList, (k : Int)⟩]) ∧ Below w.heap.size w w1) := ⟨hO1, below_trans HO.out.2 hB1⟩; clear hO1 hB1))
        refine (HP.out _).mono ?_
        rintro e w2 ⟨rfl, rfl⟩
        go_wp2_with fail
        go_roundw
        case rel => exact ⟨p, _, q4, rfl, HO1.out.1, HO1.out.2, HT2.out.1, HT2.out.2, by simp; omega⟩
        case measure => simp [intOf]; omega
    · obtain rfl : k = l.length := by omega
      have HT2 : Hid (L = TT ∧ (-1 : Int) = E) := by
        have := HT.out
        rw [List.drop_length, tq_nil] at this
        simp only [List.append_nil] at this
        exact this
      clear HT
      go_wp2_with fail
      go_ret2
      obtain ⟨a1, a2⟩ := HT2.out
      subst a1 a2
      exact ⟨_, rfl, HO.out.1, HO.out.2⟩
end Go.Proofs.YtddaoloabfkheaaGreatDoor

namespace Go.Proofs.YtddaoloabfkheaaGreatDoor

/-- a target -/
structure Tg where
  name : List UInt8
  srcs : List (List UInt8)
  deps : List Lb
  see : List (List UInt8)
  deriving DecidableEq
def wTarget : List UInt8 := [116, 97, 114, 103, 101, 116]
def wSrcs : List UInt8 := [115, 114, 99, 115]
def wDeps : List UInt8 := [100, 101, 112, 115]
def wSee : List UInt8 := [115, 101, 101]
def wName : List UInt8 := [84, 65, 82, 71, 69, 84, 83]

/-- a literal of a package -/
def lit (p w : List UInt8) : Bool := decide ((jn p w).2 = 0) && !(base w == wName)
/-- the first star made a letter -/
def rep1 : List UInt8 → List UInt8
  | [] => []
  | c :: r => if c = 42 then 97 :: r else c :: rep1 r
def glb (p w : List UInt8) : Bool := (base w).contains 42 && lit p (rep1 w)
def srcW (p w : List UInt8) : Bool := lit p w || glb p w

/-- what a word adds to the list of a field -/
def addI (p f : List UInt8) (t : Tg) (w : List UInt8) : Option Tg :=
  if f = wSrcs then (if (srcW p w && decide (t.srcs.length < 64) && !t.srcs.contains w) = true then some { t with srcs := t.srcs ++ [w] } else none)
  else if f = wDeps then (if (decide ((inn p w).2 = 0) && decide (t.deps.length < 64) && !t.deps.contains (inn p w).1) = true then some { t with deps := t.deps ++ [(inn p w).1] } else none)
  else (if (ser w && decide (t.see.length < 64) && !t.see.contains w) = true then some { t with see := t.see ++ [w] } else none)

/-- where the reading stands -/
inductive St where
  | top (l : List Tg)
  | nm (l : List Tg)
  | op (l : List Tg) (n : List UInt8)
  | fl (l : List Tg) (t : Tg) (had : List (List UInt8))
  | eq (l : List Tg) (t : Tg) (had : List (List UInt8)) (f : List UInt8)
  | bg (l : List Tg) (t : Tg) (had : List (List UInt8)) (f : List UInt8)
  | i0 (l : List Tg) (t : Tg) (had : List (List UInt8)) (f : List UInt8)
  | it (l : List Tg) (t : Tg) (had : List (List UInt8)) (f : List UInt8)
  | sp (l : List Tg) (t : Tg) (had : List (List UInt8)) (f : List UInt8)

def hasN (l : List Tg) (n : List UInt8) : Bool := l.any fun t => t.name == n
def isF (f : List UInt8) : Bool := f == wSrcs || f == wDeps || f == wSee
/-- one token; none: it may not stand there -/
def stp (p : List UInt8) : St → Tk → Option St
  | .top l, k => if k.kind = 1 ∧ k.text = wTarget ∧ l.length < 64 then some (.nm l) else none
  | .nm l, k => if k.kind = 1 ∧ okC k.text = true ∧ hasN l k.text = false then some (.op l k.text) else none
  | .op l n, k => if k.kind = 2 then some (.fl l ⟨n, [], [], []⟩ []) else none
  | .fl l t h, k => if k.kind = 3 then some (.top (l ++ [t])) else if k.kind = 1 ∧ h.contains k.text = false ∧ isF k.text = true then some (.eq l t (h ++ [k.text]) k.text) else none
  | .eq l t h f, k => if k.kind = 7 then some (.bg l t h f) else none
  | .bg l t h f, k => if k.kind = 4 then some (.i0 l t h f) else none
  | .i0 l t h f, k => if k.kind = 5 then some (.fl l t h) else if k.kind = 1 then (addI p f t k.text).map (fun u => .sp l u h f) else none
  | .it l t h f, k => if k.kind = 1 then (addI p f t k.text).map (fun u => .sp l u h f) else none
  | .sp l t h f, k => if k.kind = 5 then some (.fl l t h) else if k.kind = 6 then some (.it l t h f) else none
/-- where the text ends -/
def fin (E S : Int) : St → List Tg × Int
  | .top l => if 0 ≤ S then ([], S) else (l, -1)
  | _ => ([], E)
/-- all tokens from a state on -/
def go (p : List UInt8) (E S : Int) : St → List Tk → List Tg × Int
  | st, [] => fin E S st
  | st, k :: r => match stp p st k with
    | none => ([], k.at')
    | some st' => go p E S st' r
def endE (s : List UInt8) : Int := if 0 ≤ (toks s).2 then (toks s).2 else (s.length : Int)
/-- what Parse answers -/
def prsM (p s : List UInt8) : List Tg × Int :=
  if okP p = true then (if s.length ≤ 4096 then go p (endE s) (toks s).2 (.top []) (toks s).1 else ([], 4096)) else ([], 0)

/-- the text of targets -/
def jnw : List (List UInt8) → List UInt8
  | [] => []
  | [x] => x
  | x :: y :: r => x ++ [44, 32] ++ jnw (y :: r)
def fld (w : List UInt8) (l : List (List UInt8)) : List UInt8 := if l.isEmpty then [] else [32, 32] ++ w ++ [32, 61, 32, 91] ++ jnw l ++ [93, 10]
/-- tokens as they come of a text -/
structure TkOk (k : Tk) : Prop where
  ne : k.text ≠ []
  len : k.text.length ≤ 4096
  at0 : 0 ≤ k.at'
theorem tq_ok : ∀ (n : Nat) (r : List UInt8) (m : Nat), r.length ≤ n → r.length ≤ 4096 → ∀ k ∈ (tq r m).1, TkOk k
  | 0, r, m, h, _, k, hk => by
    have : r = [] := List.eq_nil_of_length_eq_zero (by omega)
    subst this
    rw [tq_nil] at hk
    simp at hk
  | n + 1, [], m, h, _, k, hk => by rw [tq_nil] at hk; simp at hk
  | n + 1, c :: q, m, h, h4, k, hk => by
    by_cases h0 : kd c = 0
    · rw [tq_bad h0] at hk; simp at hk
    · rw [tq_tok h0] at hk
      rcases List.mem_cons.1 hk with rfl | hk
      · refine ⟨by simp, ?_, by simp⟩
        simp only [List.length_cons, List.length_take] at h4 ⊢
        omega
      · unfold tg at hk
        refine tq_ok n _ _ ?_ ?_ k hk
        · simp only [List.length_drop, List.length_cons] at h ⊢; omega
        · simp only [List.length_drop, List.length_cons] at h4 ⊢; omega
theorem toks_ok {s : List UInt8} (h : s.length ≤ 4096) : ∀ k ∈ (toks s).1, TkOk k := by
  unfold toks tg
  exact tq_ok _ _ _ (Nat.le_refl _) (by simp; omega)
theorem tq_num : ∀ (n : Nat) (r : List UInt8) (m : Nat), r.length ≤ n → (tq r m).1.length ≤ r.length ∧ -1 ≤ (tq r m).2 ∧ (tq r m).2 ≤ m + r.length
  | 0, r, m, h => by
    have : r = [] := List.eq_nil_of_length_eq_zero (by omega)
    subst this
    rw [tq_nil]
    simp
  | n + 1, [], m, h => by rw [tq_nil]; simp
  | n + 1, c :: q, m, h => by
    by_cases h0 : kd c = 0
    · rw [tq_bad h0]; simp; omega
    · rw [tq_tok h0]
      have hl := ktl_le c q
      have hg := gp_le false (q.drop (ktl c q))
      have ih := tq_num n ((q.drop (ktl c q)).drop (gp false (q.drop (ktl c q)))) (m + 1 + ktl c q + gp false (q.drop (ktl c q))) (by simp only [List.length_drop, List.length_cons] at h ⊢; omega)
      unfold tg
      simp only [List.length_drop, List.length_cons] at ih hg ⊢
      omega
theorem toks_num (s : List UInt8) : (toks s).1.length ≤ s.length ∧ -1 ≤ (toks s).2 ∧ (toks s).2 ≤ s.length := by
  unfold toks tg
  have hg := gp_le false s
  have := tq_num _ (s.drop (gp false s)) (0 + gp false s) (Nat.le_refl _)
  simp only [List.length_drop] at this
  omega
end Go.Proofs.YtddaoloabfkheaaGreatDoor

namespace Go.Proofs.YtddaoloabfkheaaGreatDoor
open Go.RowKit

/-- given up at a place -/
def flt (z : Int) : Ending := .panicked [{ v := .iface 160 (.int .i64 z), recovered := false }]

set_option maxRecDepth 100000 in
set_option maxHeartbeats 1000000 in
theorem check_ok (k : Tk) (w : World) : Calls Tryz.prog 129 #[k.val, .bool true] w fun e w' => e = .returned (.tuple #[]) ∧ Below w.heap.size w w' := by
  unfold Tk.val
  go_enter Tryz.func129, Tryz.ntmps129
  go_wp2_with fail
  exact ⟨rfl, _, results_none rfl _ _ _, rfl, balloc _ _⟩
set_option maxRecDepth 100000 in
set_option maxHeartbeats 1000000 in
theorem check_no (k : Tk) (w : World) : Calls Tryz.prog 129 #[k.val, .bool false] w fun e w' => e = flt k.at' ∧ Below w.heap.size w w' := by
  unfold Tk.val
  go_enter Tryz.func129, Tryz.ntmps129
  go_wp2_with fail
  exact ⟨rfl, rfl, balloc _ _⟩

/-- the reader's block -/
structure RD (w : World) (g : Nat) (p : List UInt8) (v : Value) (E : Int) : Prop where
  blk : w.heap[g]? = some (.cells #[.string (bs p), v, .int .i64 E] 167 (0, 0))
theorem RD.lt {w : World} {g : Nat} {p : List UInt8} {v : Value} {E : Int} (h : RD w g p v E) : g < w.heap.size := (Array.getElem?_eq_some_iff.1 h.blk).1
theorem RD.below {w w' : World} {g B : Nat} {p : List UInt8} {v : Value} {E : Int} (h : RD w g p v E) (hb : Below B w w') (hg : g < B) : RD w' g p v E := ⟨(hb.block g hg).trans h.blk⟩
theorem RD.cells {w : World} {g : Nat} {p : List UInt8} {v : Value} {E : Int} (h : RD w g p v E) :
    w.cell? ⟨g, 0, none⟩ = some (.string (bs p)) ∧ w.cell? ⟨g, 1, none⟩ = some v ∧ w.cell? ⟨g, 2, none⟩ = some (.int .i64 E) ∧ w.frozen? ⟨g, 1, none⟩ = false ∧ w.frozen? ⟨g, 2, none⟩ = false := by
  have hb := h.blk
  exact ⟨by simp [World.cell?, hb], by simp [World.cell?, hb], by simp [World.cell?, hb], by simp [World.frozen?, hb], by simp [World.frozen?, hb]⟩
theorem RD.set {w : World} {g : Nat} {p : List UInt8} {v : Value} {E : Int} (h : RD w g p v E) (v' : Value) : RD (w.setCell ⟨g, 1, none⟩ v') g p v' E := by
  refine ⟨?_⟩
  rw [heap_setCell _ _ _ _ h.blk]
  simp
/-- what is left of the tokens -/
structure RQ (w : World) (g : Nat) (p : List UInt8) (E : Int) (L : List Tk) : Prop where
  rd : ∃ v, RD w g p v E ∧ TS w v L ∧ (L ≠ [] → ∀ b, v.ownBlock = some b → b < g)
theorem RQ.lt {w : World} {g : Nat} {p : List UInt8} {E : Int} {L : List Tk} (h : RQ w g p E L) : g < w.heap.size := by
  obtain ⟨v, h1, _⟩ := h.rd; exact h1.lt
theorem RQ.below {w w' : World} {g B : Nat} {p : List UInt8} {E : Int} {L : List Tk} (h : RQ w g p E L) (hb : Below B w w') (hg : g < B) : RQ w' g p E L := by
  obtain ⟨v, h1, h2, h3⟩ := h.rd
  refine ⟨v, h1.below hb hg, ?_, h3⟩
  rcases L with _ | ⟨k, r⟩
  · rcases h2 with h2 | ⟨b, off, cap, rfl, hc, hlt, hcell⟩
    · exact .inl h2
    · exact .inl ⟨⟨_, _, rfl⟩, rfl⟩
  · exact h2.below hb fun b hk => Nat.lt_trans (h3 (by simp) b hk) hg
theorem RQ.later {w w' : World} {g : Nat} {p : List UInt8} {E : Int} {L : List Tk} (h : RQ w g p E L) (hb : Below w.heap.size w w') : RQ w' g p E L := h.below hb h.lt

theorem bset3 {B : Nat} {w w' : World} {g : Nat} (hb : Below B w w') (hg : B ≤ g) (a b c : Value) :
    Below B w (((w'.setCell ⟨g, 0, none⟩ a).setCell ⟨g, 1, none⟩ b).setCell ⟨g, 2, none⟩ c) :=
  ((hb.setCell (p := ⟨g, 0, none⟩) hg _).setCell (p := ⟨g, 1, none⟩) hg _).setCell (p := ⟨g, 2, none⟩) hg _
set_option maxRecDepth 100000 in
set_option maxHeartbeats 1000000 in
theorem next_end {w : World} {g : Nat} {p : List UInt8} {E : Int} (h : RQ w g p E []) :
    Calls Tryz.prog 145 #[.pointer (some ⟨g, 0, none⟩)] w fun e w' => e = flt E ∧ Below w.heap.size w w' := by
  have hlt := h.lt
  obtain ⟨v, h1, h2, _⟩ := (h.later (balloc w (.cells #[.int .i64 0, .string ⟨#[]⟩, .int .i64 0] 188))).rd
  obtain ⟨a, c, rfl, _⟩ := h2.form
  obtain ⟨c0, c1, c2, _, _⟩ := h1.cells
  clear h h1 h2
  simp only [List.length_nil] at c1
  go_enter Tryz.func145, Tryz.ntmps145
  go_wp2_with fail
  exact ⟨rfl, rfl, balloc _ _⟩
set_option maxRecDepth 100000 in
set_option maxHeartbeats 1000000 in
theorem next_some {w : World} {g : Nat} {p : List UInt8} {E : Int} {k : Tk} {r : List Tk} (h : RQ w g p E (k :: r)) :
    Calls Tryz.prog 145 #[.pointer (some ⟨g, 0, none⟩)] w fun e w' => e = .returned k.val ∧ Below w.heap.size w w' := by
  have hlt := h.lt
  obtain ⟨v, h1, h2, _⟩ := (h.later (balloc w (.cells #[.int .i64 0, .string ⟨#[]⟩, .int .i64 0] 188))).rd
  obtain ⟨a, c, rfl, hc⟩ := h2.form
  obtain ⟨b, off, rfl, _, d0, d1, d2⟩ := hc 0 (by simp)
  obtain ⟨c0, c1, c2, _, _⟩ := h1.cells
  clear h h1 h2 hc
  simp only [List.length_cons, List.getElem_cons_zero, Nat.zero_mul, Nat.add_zero] at c1 d0 d1 d2
  generalize r.length = n at *
  have n1 : ¬ ((n : Int) + 1 = 0) := by omega
  have n2 : (((n : Int) + 1) == 0) = false := by rw [beq_eq_false_iff_ne]; omega
  have n3 : (0 : Int) < (n : Int) + 1 := by omega
  unfold Tk.val
  go_enter Tryz.func145, Tryz.ntmps145
  go_wp2_with fail
  refine bodyPost_ret (results_cell_row rfl _ _ w.heap.size 188 #[.int .i64 k.kind, .string (bs k.text), .int .i64 k.at'] (0, 0) _ rfl ?_ Tryz.underlying188 rfl (by kernel_rfl)) rfl ?_
  · exact heap_alloc_new _ _
  exact ⟨rfl, balloc _ _⟩

theorem RQ.cut {w : World} {g : Nat} {p : List UInt8} {E : Int} {k : Tk} {r : List Tk} {b off c n : Nat} (h : RD w g p (.slice (some ⟨b, off, none⟩) n c) E) (ht : TS w (.slice (some ⟨b, off, none⟩) n c) (k :: r)) (hg : b < g) (v' : Value)
    (hv : v' = .slice (some ⟨b, off + 3, none⟩) r.length (c - 1) ∨ (r = [] ∧ ∃ a c', v' = .slice a 0 c')) : RQ (w.setCell ⟨g, 1, none⟩ v') g p E r := by
  have hbel : Below g w (w.setCell ⟨g, 1, none⟩ v') := (Below.refl _ _).setCell (p := ⟨g, 1, none⟩) (Nat.le_refl _) _
  refine ⟨v', h.set v', ?_, ?_⟩
  · rcases hv with rfl | ⟨rfl, a, c', rfl⟩
    · rcases ht with ⟨_, e⟩ | ⟨b', off', cap, e, hc, hlt, hcell⟩
      · cases e
      · injection e with e1 e2 e3
        injection e1 with e1
        injection e1 with e1 e4 e5
        subst e1 e4 e3
        refine .inr ⟨b, off + 3, c - 1, rfl, ?_, ?_, ?_⟩
        · simp only [List.length_cons] at hc; omega
        · exact Nat.lt_of_lt_of_le hlt hbel.size
        · intro i u hu
          rw [hbel.cell (p := ⟨b, off + 3 + i, none⟩) hg]
          have := hcell (i + 3) u (by simpa [tc] using hu)
          rw [show off + 3 + i = off + (i + 3) by omega]; exact this
    · exact .inl ⟨⟨_, _, rfl⟩, rfl⟩
  · intro hr b' hb'
    rcases hv with rfl | ⟨rfl, _⟩
    · simp [Value.ownBlock] at hb'; omega
    · exact absurd rfl hr
theorem hset_ne (w : World) {g k : Nat} (h : k ≠ g) (o : Nat) (v : Value) : (w.setCell ⟨g, o, none⟩ v).heap[k]? = w.heap[k]? := by
  have h' : g ≠ k := fun e => h e.symm
  simp [World.setCell, Array.getElem?_modify, h']
theorem only_below {S : List Nat} {w w1 w2 : World} {B : Nat} (h : Only S w w1) (hb : Below B w1 w2) (hB : w.heap.size ≤ B) : Only S w w2 :=
  ⟨hb.os.trans h.os, hb.tape.trans h.tape, hb.output.trans h.output, Nat.le_trans h.size hb.size, fun k hk hn => (hb.block k (Nat.lt_of_lt_of_le hk hB)).trans (h.block k hk hn)⟩
theorem take_fin {w w2 : World} {g : Nat} {p : List UInt8} {E : Int} {t : Tk} {r : List Tk} {b off c n : Nat} {z : Array Value} (B2 : Below w.heap.size w w2) (K2 : w2.heap[w.heap.size]? = some (.cells z 188 (0, 0))) (hD : RD w2 g p (.slice (some ⟨b, off, none⟩) n c) E) (ht : TS w2 (.slice (some ⟨b, off, none⟩) n c) (t :: r)) (hg : b < g) (hlt : g < w.heap.size) (v' : Value)
    (hv : v' = .slice (some ⟨b, off + 3, none⟩) r.length (c - 1) ∨ (r = [] ∧ ∃ a c', v' = .slice a 0 c')) (k : Tk) (hz : z.size = 3 := by rfl) :
    ((((w2.setCell ⟨g, 1, none⟩ v').setCell ⟨w.heap.size, 0, none⟩ (.int .i64 k.kind)).setCell ⟨w.heap.size, 1, none⟩ (.string (bs k.text))).setCell ⟨w.heap.size, 2, none⟩ (.int .i64 k.at')).heap[w.heap.size]? = some (.cells #[.int .i64 k.kind, .string (bs k.text), .int .i64 k.at'] 188 (0, 0)) ∧
    RQ ((((w2.setCell ⟨g, 1, none⟩ v').setCell ⟨w.heap.size, 0, none⟩ (.int .i64 k.kind)).setCell ⟨w.heap.size, 1, none⟩ (.string (bs k.text))).setCell ⟨w.heap.size, 2, none⟩ (.int .i64 k.at')) g p E r ∧
    Only [g] w ((((w2.setCell ⟨g, 1, none⟩ v').setCell ⟨w.heap.size, 0, none⟩ (.int .i64 k.kind)).setCell ⟨w.heap.size, 1, none⟩ (.string (bs k.text))).setCell ⟨w.heap.size, 2, none⟩ (.int .i64 k.at')) := by
  have hb3 : Below w.heap.size (w2.setCell ⟨g, 1, none⟩ v') ((((w2.setCell ⟨g, 1, none⟩ v').setCell ⟨w.heap.size, 0, none⟩ (.int .i64 k.kind)).setCell ⟨w.heap.size, 1, none⟩ (.string (bs k.text))).setCell ⟨w.heap.size, 2, none⟩ (.int .i64 k.at')) := bset3 (Below.refl _ _) (Nat.le_refl _) _ _ _
  refine ⟨?_, (RQ.cut hD ht hg v' hv).below hb3 hlt, only_below ((Only.of_below B2 _).trans (Only.set _ _ _ _)) hb3 (Nat.le_refl _)⟩
  rw [heap_setCell _ _ _ _ (heap_setCell _ _ _ _ (heap_setCell _ _ _ _ ((hset_ne _ (by omega) _ _).trans K2)))]
  obtain ⟨z, rfl⟩ : ∃ l : List Value, z = l.toArray := ⟨z.toList, rfl⟩
  obtain ⟨x, y, u, rfl⟩ : ∃ x y u, z = [x, y, u] := by
    rcases z with _ | ⟨x, _ | ⟨y, _ | ⟨u, _ | ⟨v, q⟩⟩⟩⟩ <;> simp at hz
    exact ⟨x, y, u, rfl⟩
  simp
set_option maxRecDepth 100000 in
set_option maxHeartbeats 2000000 in
theorem take_ok {w : World} {g : Nat} {p : List UInt8} {E q : Int} {k : Tk} {r : List Tk} (h : RQ w g p E (k :: r)) (hq : k.kind = q) (hr : r.length ≤ 1000000) :
    Calls Tryz.prog 128 #[.pointer (some ⟨g, 0, none⟩), .int .i64 q] w fun e w' => e = .returned k.val ∧ RQ w' g p E r ∧ Only [g] w w' := by
  subst hq
  have hlt := h.lt
  have HQ : Hid (RQ w g p E (k :: r)) := h
  clear h
  have HN : Hid (∀ W : World, RQ W g p E (k :: r) → Calls Tryz.prog 145 #[.pointer (some ⟨g, 0, none⟩)] W fun e w' => e = .returned k.val ∧ Below W.heap.size W w') := fun W hW => next_some hW
  have HC : Hid (∀ W : World, Calls Tryz.prog 129 #[k.val, .bool true] W fun e w' => e = .returned (.tuple #[]) ∧ Below W.heap.size W w') := fun W => check_ok k W
  unfold Tk.val at HN HC ⊢
  go_enter Tryz.func128, Tryz.ntmps128
  go_wp2_with fail
  refine (HN.out _ (HQ.out.later (balloc _ _))).mono ?_
  rintro e w1 ⟨rfl, hb1⟩
  have B1 : Hid (Below w.heap.size w w1) := bstep (balloc _ _) hb1
  have hs1 := hb1.size
  have hz1 : w.heap.size + 1 ≤ w1.heap.size := by simpa using hs1
  have K1 : Hid (w1.heap[w.heap.size]? = some (.cells #[.int .i64 0, .string ⟨#[]⟩, .int .i64 0] 188 (0, 0))) := (hb1.block w.heap.size (by simp)).trans (heap_alloc_new _ _)
  clear hb1 hs1
  go_wp2_with fail
  refine (HC.out _).mono ?_
  rintro e w2 ⟨rfl, hb2⟩
  have K2 : Hid (w2.heap[w.heap.size]? = some (.cells #[.int .i64 0, .string ⟨#[]⟩, .int .i64 0] 188 (0, 0))) := (hb2.block w.heap.size (by simp; omega)).trans ((by rw [heap_alloc_old _ _ (by omega)] : (w1.alloc _).heap[w.heap.size]? = _).trans K1.out)
  have T2 : Hid (w2.heap[w1.heap.size]? = some (.cells #[.int .i64 k.kind, .string (bs k.text), .int .i64 k.at'] 188 (0, 0))) := (hb2.block w1.heap.size (by simp)).trans (heap_alloc_new _ _)
  have B2 : Hid (Below w.heap.size w w2) := bstep (bstep B1.out (balloc _ _)) hb2
  have Q2 : Hid (RQ w2 g p E (k :: r)) := HQ.out.later B2.out
  have hz2 : w1.heap.size + 1 ≤ w2.heap.size := by simpa using hb2.size
  clear hb2 HN HC
  obtain ⟨v, d1, d2, d3⟩ := Q2.out.rd
  obtain ⟨a, c, rfl, hc⟩ := d2.form
  obtain ⟨b, off, rfl, hbl, x1, x2, x3⟩ := hc 0 (by simp)
  clear x1 x2 x3
  have D : Hid (RD w2 g p (.slice (some ⟨b, off, none⟩) (k :: r).length c) E ∧ TS w2 (.slice (some ⟨b, off, none⟩) (k :: r).length c) (k :: r) ∧ b < g) := ⟨d1, d2, d3 (by simp) b rfl⟩
  obtain ⟨c0, c1, c2, f1, f2⟩ := d1.cells
  have hcap : r.length + 1 ≤ c := by
    rcases d2 with ⟨_, e⟩ | ⟨b', off', cap, e, hc, hlt, hcell⟩
    · cases e
    · injection e with e1 e2 e3
      subst e3; simpa using hc
  clear d1 d2 d3 hc hbl
  simp only [List.length_cons] at c1
  have t0 : w2.cell? ⟨w1.heap.size, 0, none⟩ = some (.int .i64 k.kind) := by simp [World.cell?, T2.out]
  have t1 : w2.cell? ⟨w1.heap.size, 1, none⟩ = some (.string (bs k.text)) := by simp [World.cell?, T2.out]
  have t2 : w2.cell? ⟨w1.heap.size, 2, none⟩ = some (.int .i64 k.at') := by simp [World.cell?, T2.out]
  have z0 : w2.cell? ⟨w.heap.size, 0, none⟩ = some (.int .i64 0) := by simp [World.cell?, K2.out]
  have z1 : w2.cell? ⟨w.heap.size, 1, none⟩ = some (.string ⟨#[]⟩) := by simp [World.cell?, K2.out]
  have z2 : w2.cell? ⟨w.heap.size, 2, none⟩ = some (.int .i64 0) := by simp [World.cell?, K2.out]
  have y0 : w2.frozen? ⟨w.heap.size, 0, none⟩ = false := by simp [World.frozen?, K2.out]
  have y1 : w2.frozen? ⟨w.heap.size, 1, none⟩ = false := by simp [World.frozen?, K2.out]
  have y2 : w2.frozen? ⟨w.heap.size, 2, none⟩ = false := by simp [World.frozen?, K2.out]
  have n1 : g ≠ w1.heap.size := by omega
  have n2 : g ≠ w.heap.size := by omega
  have n3 : w1.heap.size ≠ w.heap.size := by omega
  obtain ⟨n, hn⟩ : ∃ n, r.length = n := ⟨_, rfl⟩
  rw [hn] at c1 hcap hr
  have HNN : Hid (r.length = n) := hn
  clear hn
  have i1 : (1 : Int) ≤ (n : Int) + 1 := by omega
  have i2 : (n : Int) + 1 ≤ (c : Int) := by omega
  have i3 : (0 : Int) ≤ (n : Int) := by omega
  by_cases hcc : c = 1
  · subst hcc
    obtain rfl : n = 0 := by omega
    go_wp2_with fail
    obtain ⟨R1, R2, R3⟩ := take_fin B2.out K2.out D.out.1 D.out.2.1 D.out.2.2 hlt (.slice (some ⟨b, off, none⟩) 0 0) (.inr ⟨List.eq_nil_of_length_eq_zero HNN.out, _, _, rfl⟩) k
    refine bodyPost_ret (results_cell_row rfl _ _ w.heap.size 188 #[.int .i64 k.kind, .string (bs k.text), .int .i64 k.at'] (0, 0) _ rfl R1 Tryz.underlying188 rfl (by kernel_rfl)) rfl ?_
    exact ⟨rfl, R2, R3⟩
  · have i4 : ¬ ((c : Int) - 1 = 0) := by omega
    have i5 : ¬ (c - 1 = 0) := by omega
    go_wp2_with fail
    obtain ⟨R1, R2, R3⟩ := take_fin B2.out K2.out D.out.1 D.out.2.1 D.out.2.2 hlt (.slice (some ⟨b, off + 3, none⟩) n (c - 1)) (.inl (by rw [HNN.out])) k
    refine bodyPost_ret (results_cell_row rfl _ _ w.heap.size 188 #[.int .i64 k.kind, .string (bs k.text), .int .i64 k.at'] (0, 0) _ rfl R1 Tryz.underlying188 rfl (by kernel_rfl)) rfl ?_
    exact ⟨rfl, R2, R3⟩

set_option maxRecDepth 100000 in
set_option maxHeartbeats 2000000 in
theorem take_no {w : World} {g : Nat} {p : List UInt8} {E q : Int} {k : Tk} {r : List Tk} (h : RQ w g p E (k :: r)) (hq : k.kind ≠ q) :
    Calls Tryz.prog 128 #[.pointer (some ⟨g, 0, none⟩), .int .i64 q] w fun e w' => e = flt k.at' ∧ Below w.heap.size w w' := by
  have HQ : Hid (RQ w g p E (k :: r)) := h
  clear h
  have HN : Hid (∀ W : World, RQ W g p E (k :: r) → Calls Tryz.prog 145 #[.pointer (some ⟨g, 0, none⟩)] W fun e w' => e = .returned k.val ∧ Below W.heap.size W w') := fun W hW => next_some hW
  have HC : Hid (∀ W : World, Calls Tryz.prog 129 #[k.val, .bool false] W fun e w' => e = flt k.at' ∧ Below W.heap.size W w') := fun W => check_no k W
  unfold Tk.val at HN HC
  have hq2 : (k.kind == q) = false := by rw [beq_eq_false_iff_ne]; exact hq
  go_enter Tryz.func128, Tryz.ntmps128
  go_wp2_with fail
  refine (HN.out _ (HQ.out.later (balloc _ _))).mono ?_
  rintro e w1 ⟨rfl, hb1⟩
  have B1 : Hid (Below w.heap.size w w1) := bstep (balloc _ _) hb1
  clear hb1
  go_wp2_with fail
  refine (HC.out _).mono ?_
  rintro e w2 ⟨rfl, hb2⟩
  exact ⟨rfl, rfl, bstep (bstep B1.out (balloc _ _)) hb2⟩
set_option maxRecDepth 100000 in
set_option maxHeartbeats 2000000 in
theorem take_end {w : World} {g : Nat} {p : List UInt8} {E q : Int} (h : RQ w g p E []) :
    Calls Tryz.prog 128 #[.pointer (some ⟨g, 0, none⟩), .int .i64 q] w fun e w' => e = flt E ∧ Below w.heap.size w w' := by
  have HQ : Hid (RQ w g p E []) := h
  clear h
  have HN : Hid (∀ W : World, RQ W g p E [] → Calls Tryz.prog 145 #[.pointer (some ⟨g, 0, none⟩)] W fun e w' => e = flt E ∧ Below W.heap.size W w') := fun W hW => next_end hW
  go_enter Tryz.func128, Tryz.ntmps128
  go_wp2_with fail
  refine (HN.out _ (HQ.out.later (balloc _ _))).mono ?_
  rintro e w1 ⟨rfl, hb1⟩
  exact ⟨rfl, rfl, bstep (balloc _ _) hb1⟩
set_option maxRecDepth 100000 in
set_option maxHeartbeats 2000000 in
theorem passed_end {w : World} {g : Nat} {p : List UInt8} {E q : Int} (h : RQ w g p E []) :
    Calls Tryz.prog 148 #[.pointer (some ⟨g, 0, none⟩), .int .i64 q] w fun e w' => e = flt E ∧ Below w.heap.size w w' := by
  have HQ : Hid (RQ w g p E []) := h
  clear h
  have HN : Hid (∀ W : World, RQ W g p E [] → Calls Tryz.prog 145 #[.pointer (some ⟨g, 0, none⟩)] W fun e w' => e = flt E ∧ Below W.heap.size W w') := fun W hW => next_end hW
  go_enter Tryz.func148, Tryz.ntmps148
  go_wp2_with fail
  refine (HN.out _ HQ.out).mono ?_
  rintro e w1 ⟨rfl, hb1⟩
  exact ⟨rfl, rfl, hb1⟩
theorem fld123 (a b c : Value) (w : World) : (Instr.field 188 (.agg #[a, b, c]) 0).run Tryz.prog w = .ok a w := by kernel_rfl
set_option maxRecDepth 100000 in
set_option maxHeartbeats 2000000 in
theorem passed_no {w : World} {g : Nat} {p : List UInt8} {E q : Int} {k : Tk} {r : List Tk} (h : RQ w g p E (k :: r)) (hq : k.kind ≠ q) :
    Calls Tryz.prog 148 #[.pointer (some ⟨g, 0, none⟩), .int .i64 q] w fun e w' => e = .returned (.bool false) ∧ Below w.heap.size w w' := by
  have HQ : Hid (RQ w g p E (k :: r)) := h
  clear h
  have HN : Hid (∀ W : World, RQ W g p E (k :: r) → Calls Tryz.prog 145 #[.pointer (some ⟨g, 0, none⟩)] W fun e w' => e = .returned k.val ∧ Below W.heap.size W w') := fun W hW => next_some hW
  unfold Tk.val at HN
  have hfl := fld123
  have hq2 : (k.kind != q) = true := by simpa using hq
  have hq3 : (k.kind == q) = false := by rw [beq_eq_false_iff_ne]; exact hq
  go_enter Tryz.func148, Tryz.ntmps148
  go_wp2_with fail
  refine (HN.out _ HQ.out).mono ?_
  rintro e w1 ⟨rfl, hb1⟩
  have B1 : Hid (Below w.heap.size w w1) := hb1
  clear hb1
  go_wp2_with fail
  go_ret
  exact ⟨rfl, B1.out⟩
set_option maxRecDepth 100000 in
set_option maxHeartbeats 2000000 in
theorem passed_ok {w : World} {g : Nat} {p : List UInt8} {E q : Int} {k : Tk} {r : List Tk} (h : RQ w g p E (k :: r)) (hq : k.kind = q) (hr : r.length ≤ 1000000) :
    Calls Tryz.prog 148 #[.pointer (some ⟨g, 0, none⟩), .int .i64 q] w fun e w' => e = .returned (.bool true) ∧ RQ w' g p E r ∧ Only [g] w w' := by
  subst hq
  have HQ : Hid (RQ w g p E (k :: r)) := h
  clear h
  have HN : Hid (∀ W : World, RQ W g p E (k :: r) → Calls Tryz.prog 145 #[.pointer (some ⟨g, 0, none⟩)] W fun e w' => e = .returned k.val ∧ Below W.heap.size W w') := fun W hW => next_some hW
  unfold Tk.val at HN
  have hfl := fld123
  go_enter Tryz.func148, Tryz.ntmps148
  go_wp2_with fail
  refine (HN.out _ HQ.out).mono ?_
  rintro e w2 ⟨rfl, hb1⟩
  have B2 : Hid (Below w.heap.size w w2) := hb1
  have Q2 : Hid (RQ w2 g p E (k :: r)) := HQ.out.later hb1
  clear hb1 HN
  obtain ⟨v, d1, d2, d3⟩ := Q2.out.rd
  obtain ⟨a, c, rfl, hc⟩ := d2.form
  obtain ⟨b, off, rfl, hbl, x1, x2, x3⟩ := hc 0 (by simp)
  clear x1 x2 x3
  have D : Hid (RD w2 g p (.slice (some ⟨b, off, none⟩) (k :: r).length c) E ∧ TS w2 (.slice (some ⟨b, off, none⟩) (k :: r).length c) (k :: r) ∧ b < g) := ⟨d1, d2, d3 (by simp) b rfl⟩
  obtain ⟨c0, c1, c2, f1, f2⟩ := d1.cells
  have hcap : r.length + 1 ≤ c := by
    rcases d2 with ⟨_, e⟩ | ⟨b', off', cap, e, hc, hlt, hcell⟩
    · cases e
    · injection e with e1 e2 e3
      subst e3; simpa using hc
  clear d1 d2 d3 hc hbl
  simp only [List.length_cons] at c1
  obtain ⟨n, hn⟩ : ∃ n, r.length = n := ⟨_, rfl⟩
  rw [hn] at c1 hcap hr
  have HNN : Hid (r.length = n) := hn
  clear hn
  have i1 : (1 : Int) ≤ (n : Int) + 1 := by omega
  have i2 : (n : Int) + 1 ≤ (c : Int) := by omega
  have i3 : (0 : Int) ≤ (n : Int) := by omega
  by_cases hcc : c = 1
  · subst hcc
    obtain rfl : n = 0 := by omega
    go_wp2_with fail
    go_ret
    exact ⟨rfl, RQ.cut D.out.1 D.out.2.1 D.out.2.2 _ (.inr ⟨List.eq_nil_of_length_eq_zero HNN.out, _, _, rfl⟩), (Only.of_below B2.out _).trans (Only.set _ _ _ _)⟩
  · have i4 : ¬ ((c : Int) - 1 = 0) := by omega
    have i5 : ¬ (c - 1 = 0) := by omega
    go_wp2_with fail
    go_ret
    exact ⟨rfl, RQ.cut D.out.1 D.out.2.1 D.out.2.2 _ (.inl (by rw [HNN.out])), (Only.of_below B2.out _).trans (Only.set _ _ _ _)⟩
end Go.Proofs.YtddaoloabfkheaaGreatDoor
