/-
  Labels, their texts, see words: plain lists.
-/
import Derived.Test.YtddaoloabfkheaaGreatDoorJParts
import Derived.Test.YtddaoloabfkheaaGreatDoorProg
import Derived.WalkKit
import Derived.WalkSpells
import Derived.WalkLawsBesides
import Derived.Lib.Bytealg
import Derived.Lib.Walk
import Derived.Deep.QuietTactic
import Derived.BigQuiet
import Derived.Deep.RegionWith
import Derived.Deep.LoopGhost
import Derived.Sort.Grow
namespace Go.Proofs.YtddaoloabfkheaaGreatDoor

def chd : List UInt8 → List UInt8
  | [] => []
  | c :: l => if c = 58 then [] else c :: chd l
def ctl : List UInt8 → List UInt8
  | [] => []
  | c :: l => if c = 58 then l else ctl l
def csl : List UInt8 → Bool
  | [] => false
  | c :: l => if c = 58 then true else csl l
theorem c_cut_eq : ∀ l, l = chd l ++ (if csl l then 58 :: ctl l else [])
  | [] => rfl
  | c :: l => by
    have ih := c_cut_eq l
    by_cases h : c = 58
    · simp [chd, ctl, csl, h]
    · simp only [chd, ctl, csl, h, if_false, List.cons_append, List.cons.injEq, true_and]; exact ih
theorem c_indexByte_eq : ∀ l, Lib.indexByte l 58 = if csl l then ((chd l).length : Int) else -1
  | [] => rfl
  | c :: l => by
    have ih := c_indexByte_eq l
    unfold Lib.indexByte
    by_cases h : c = 58
    · simp [chd, csl, h]
    · have e : (c == 58) = false := by simpa using h
      rw [e, ih]
      simp only [chd, csl, h, if_false, Bool.false_eq_true]
      cases hs : csl l
      · simp
      · simp only [if_true, List.length_cons]
        have : ((((chd l).length : Int)) == -1) = false := by rw [beq_eq_false_iff_ne]; omega
        rw [this]; simp
theorem c_hd_len (l) (h : csl l = true) : (chd l).length + 1 + (ctl l).length = l.length := by
  have := congrArg List.length (c_cut_eq l)
  rw [h] at this; simp at this; omega
theorem c_hd_all (l) (h : csl l = false) : chd l = l := by
  have := c_cut_eq l
  rw [h] at this; simpa using this.symm
theorem c_tl_none : ∀ l, csl l = false → ctl l = []
  | [], _ => rfl
  | c :: l, h => by
    by_cases hc : c = 58
    · simp [csl, hc] at h
    · simp only [csl, hc, if_false] at h; simp only [ctl, hc, if_false]; exact c_tl_none l h
theorem c_hd_le (l) : (chd l).length ≤ l.length := by
  cases h : csl l
  · rw [c_hd_all l h]; exact Nat.le_refl _
  · have := c_hd_len l h; omega
theorem c_tl_le (l) : (ctl l).length ≤ l.length := by
  cases h : csl l
  · rw [c_tl_none l h]; simp
  · have := c_hd_len l h; omega
theorem c_hd_take (l) : chd l = l.take (chd l).length := (take_app (c_cut_eq l)).symm
theorem c_tl_drop (l) (h : csl l = true) : ctl l = l.drop ((chd l).length + 1) := by
  rw [← List.drop_drop, drop_app (c_cut_eq l), h]; rfl

/-- a label -/
structure Lb where
  pkg : List UInt8
  name : List UInt8
  deriving DecidableEq
def zl : Lb := ⟨[], []⟩
def okL (l : Lb) : Bool := okP l.pkg && okC l.name
def prt (l : Lb) : List UInt8 := 47 :: 47 :: (l.pkg ++ 58 :: l.name)
def chk (l : Lb) : Lb × Int := if okL l then (l, 0) else (zl, 10)
def prs (s : List UInt8) : Lb × Int := if [47, 47].isPrefixOf s then chk ⟨chd (s.drop 2), ctl (s.drop 2)⟩ else (zl, 10)
def inn (p s : List UInt8) : Lb × Int := if okP p then (if [58].isPrefixOf s then chk ⟨p, s.drop 1⟩ else prs s) else (zl, 7)
/-- whom a see word names -/
inductive Kd where
  | nobody
  | all
  | one (p : List UInt8)
  | tree (p : List UInt8)
  deriving DecidableEq
def pub : List UInt8 := [112, 117, 98, 108, 105, 99]
def dots : List UInt8 := [47, 46, 46, 46]
def adots : List UInt8 := [47, 47, 46, 46, 46]
def kin (s : List UInt8) : Kd :=
  if s = pub then .all else if s = adots then .tree [] else if s = 47 :: 47 :: dots then .nobody else
  if [47, 47].isPrefixOf s then (if dots.isSuffixOf (s.drop 2) then .tree ((s.drop 2).take ((s.drop 2).length - 4)) else .one (s.drop 2)) else .nobody
def Kd.top : Kd → List UInt8
  | .nobody => []
  | .all => []
  | .one p => p
  | .tree p => p
def rdk (s : List UInt8) : Kd := if okP (kin s).top then kin s else .nobody
def nms : Kd → List UInt8 → Bool
  | .nobody, _ => false
  | .all, _ => true
  | .one p, f => decide (f = p)
  | .tree p, f => decide (f = p) || abvV p f
def ser (s : List UInt8) : Bool := !decide (rdk s = .nobody)
/-- the document's word -/
def wrd (s : List UInt8) : Int × List UInt8 :=
  if s = pub ∨ s = adots then (1, []) else
  if [47, 47].isPrefixOf s then (if okP (s.drop 2) then (2, s.drop 2) else
    if 4 < (s.drop 2).length ∧ (s.drop 2).drop ((s.drop 2).length - 4) = dots ∧ okP ((s.drop 2).take ((s.drop 2).length - 4)) = true then (3, (s.drop 2).take ((s.drop 2).length - 4)) else (0, []))
  else (0, [])

theorem okP_nil : okP [] = true := by decide
theorem okC_dots : okC [46, 46, 46] = false := by decide
theorem okB_colon : okB 58 = false := by decide
theorem suffix_iff (d p : List UInt8) : d.isSuffixOf p = true ↔ d.length ≤ p.length ∧ p.drop (p.length - d.length) = d := by
  rw [List.isSuffixOf_iff_suffix]
  constructor
  · rintro ⟨r, rfl⟩
    exact ⟨by simp, by simp⟩
  · rintro ⟨h1, h2⟩
    exact ⟨p.take (p.length - d.length), by conv => rhs; rw [← List.take_append_drop (p.length - d.length) p, h2]⟩
theorem okP_dots (x : List UInt8) : okP (x ++ dots) = false := by
  have h : pcs (x ++ dots) = sp x ++ [[46, 46, 46]] := by
    unfold pcs
    rw [if_neg (by simp [dots])]
    unfold dots
    rw [sp_append]
    rfl
  unfold okP
  rw [h]
  simp [okC_dots]
theorem abv_root (f : List UInt8) : (decide (f = []) || abvV [] f) = true := by
  by_cases h : f = []
  · simp [h]
  · have : abvV [] f = true := (abvV_iff [] f).2 ⟨pcs f, by rw [Ne, pcs_eq_nil]; exact h, by simp [pcs_nil]⟩
    simp [this]
/-- the document's word is the program's -/
theorem wrd_kin (s f : List UInt8) : (decide ((wrd s).1 = 1) || (decide (2 ≤ (wrd s).1) && decide ((wrd s).2 = f)) || (decide ((wrd s).1 = 3) && abvV (wrd s).2 f)) = nms (rdk s) f ∧ decide (0 < (wrd s).1) = ser s := by
  unfold wrd ser rdk kin
  by_cases h1 : s = pub
  · simp [h1, Kd.top, okP_nil, nms]
  by_cases h2 : s = adots
  · have h0 : adots ≠ pub := by decide
    subst h2
    simp only [or_true, if_true, h0, if_false, Kd.top, okP_nil, nms, abv_root]
    simp
  simp only [h1, h2, or_self, if_false]
  cases h3 : List.isPrefixOf [47, 47] s
  · by_cases h4 : s = 47 :: 47 :: dots
    · subst h4; simp [List.isPrefixOf] at h3
    · simp [h4, nms]
  have h3' : ∃ p, s = 47 :: 47 :: p := by
    obtain ⟨p, hp⟩ := List.isPrefixOf_iff_prefix.1 h3
    exact ⟨p, hp.symm⟩
  obtain ⟨p, rfl⟩ := h3'
  simp only [if_true, List.drop_succ_cons, List.drop_zero]
  by_cases h4 : p = dots
  · subst h4
    have hk : okP dots = false := okP_dots []
    simp only [hk, if_true, Bool.false_eq_true, if_false, nms]
    simp [dots]
  have h4' : ¬ (47 :: 47 :: p = 47 :: 47 :: dots) := by simpa using h4
  simp only [h4', if_false]
  cases h5 : List.isSuffixOf dots p
  · have h6 : ¬ (4 < p.length ∧ p.drop (p.length - 4) = dots ∧ okP (p.take (p.length - 4)) = true) := by
      rintro ⟨h6, h7, _⟩
      have : List.isSuffixOf dots p = true := (suffix_iff dots p).2 ⟨by show 4 ≤ _; omega, h7⟩
      rw [this] at h5; exact absurd h5 (by simp)
    simp only [h6, if_false, Bool.false_eq_true, Kd.top]
    cases hk : okP p
    · simp [nms]
    · simp only [if_true, nms]
      constructor
      · by_cases he : p = f
        · simp [he]
        · have : ¬ (f = p) := fun e => he e.symm
          simp [he, this]
      · simp
  · obtain ⟨h6, h7⟩ := (suffix_iff dots p).1 h5
    have h6' : 4 ≤ p.length := h6
    have h7' : p.drop (p.length - 4) = dots := h7
    obtain ⟨x, hx⟩ : ∃ x, x = p.take (p.length - 4) := ⟨_, rfl⟩
    have hp : p = x ++ dots := by rw [hx, ← h7', List.take_append_drop]
    have hk : okP p = false := by rw [hp]; exact okP_dots x
    have h8 : 4 < p.length := by
      rcases Nat.lt_or_ge 4 p.length with h | h
      · exact h
      · exfalso; apply h4
        have : p.length - 4 = 0 := by omega
        rw [this] at h7'; simpa using h7'
    simp only [hk, Bool.false_eq_true, if_false, if_true, h8, h7', true_and, ← hx, Kd.top]
    cases hkx : okP x
    · simp [nms]
    · simp only [if_true, nms]
      constructor
      · by_cases he : x = f
        · simp [he]
        · have : ¬ (f = x) := fun e => he e.symm
          simp [he, this]
      · simp
/-- no colon in a path -/
theorem sp_mem : ∀ (l : List UInt8) (c : UInt8), c ∈ l → c = 47 ∨ ∃ p ∈ sp l, c ∈ p
  | [], c, h => by cases h
  | d :: r, c, h => by
    have ih := sp_mem r c
    unfold sp
    by_cases hd : d = 47
    · rw [if_pos hd]
      rcases List.mem_cons.1 h with rfl | h
      · exact .inl hd
      · rcases ih h with h | ⟨p, hp, hc⟩
        · exact .inl h
        · exact .inr ⟨p, by simp [hp], hc⟩
    · rw [if_neg hd]
      cases hs : sp r with
      | nil => exact absurd hs (sp_ne r)
      | cons q qs =>
        rcases List.mem_cons.1 h with rfl | h
        · exact .inr ⟨c :: q, by simp, by simp⟩
        · rcases ih h with h | ⟨p, hp, hc⟩
          · exact .inl h
          · rw [hs] at hp
            rcases List.mem_cons.1 hp with rfl | hp
            · exact .inr ⟨d :: p, by simp, by simp [hc]⟩
            · exact .inr ⟨p, by simp [hp], hc⟩
theorem okC_colon {p : List UInt8} (h : okC p = true) : (58 : UInt8) ∉ p := by
  intro hc
  have : p.all okB = true := by unfold okC at h; simp only [Bool.and_eq_true] at h; exact h.2
  have := List.all_eq_true.1 this 58 hc
  rw [okB_colon] at this; cases this
theorem okP_colon {p : List UInt8} (h : okP p = true) : (58 : UInt8) ∉ p := by
  intro hc
  have hne : p ≠ [] := by rintro rfl; cases hc
  have ha := okP_all h
  unfold pcs at ha
  rw [if_neg hne] at ha
  rcases sp_mem p 58 hc with h1 | ⟨q, hq, hc⟩
  · exact absurd h1 (by decide)
  · exact okC_colon (List.all_eq_true.1 ha q hq) hc
theorem cut_colon : ∀ (p n : List UInt8), (58 : UInt8) ∉ p → chd (p ++ 58 :: n) = p ∧ ctl (p ++ 58 :: n) = n
  | [], n, _ => by simp [chd, ctl]
  | c :: r, n, h => by
    have hc : c ≠ 58 := fun e => h (by simp [e])
    have ih := cut_colon r n (fun e => h (by simp [e]))
    simp only [List.cons_append, chd, ctl, hc, if_false]
    exact ⟨by rw [ih.1], ih.2⟩
theorem prs_prt (l : Lb) : prs (prt l) = chk ⟨chd (l.pkg ++ 58 :: l.name), ctl (l.pkg ++ 58 :: l.name)⟩ := by
  unfold prs prt
  simp [List.isPrefixOf]
theorem back_law (l : Lb) : okL l = (decide ((prs (prt l)).2 = 0) && decide ((prs (prt l)).1 = l)) := by
  rw [prs_prt]
  cases h : okL l
  · unfold chk
    by_cases hk : okL ⟨chd (l.pkg ++ 58 :: l.name), ctl (l.pkg ++ 58 :: l.name)⟩ = true
    · rw [if_pos hk]
      by_cases he : (⟨chd (l.pkg ++ 58 :: l.name), ctl (l.pkg ++ 58 :: l.name)⟩ : Lb) = l
      · rw [he] at hk; rw [hk] at h; cases h
      · simp [he]
    · rw [if_neg hk]; simp
  · have h' := h
    unfold okL at h'
    simp only [Bool.and_eq_true] at h'
    obtain ⟨e1, e2⟩ := cut_colon l.pkg l.name (okP_colon h'.1)
    rw [e1, e2]
    unfold chk
    rw [if_pos h]
    simp
theorem prt_inj {a b : Lb} (ha : okL a = true) (hb : okL b = true) : prt a = prt b ↔ a = b := by
  constructor
  · intro h
    have h1 := back_law a
    have h2 := back_law b
    rw [ha] at h1; rw [hb, ← h] at h2
    have h1 := h1.symm; have h2 := h2.symm
    simp only [Bool.and_eq_true, decide_eq_true_eq] at h1 h2
    rw [← h1.2, h2.2]
  · rintro rfl; rfl
end Go.Proofs.YtddaoloabfkheaaGreatDoor

namespace Go.Proofs.YtddaoloabfkheaaGreatDoor
open Go.RowKit

/-- a text of these bytes -/
def bs (l : List UInt8) : ByteArray := ⟨l.toArray⟩
theorem bs_data (l : List UInt8) : (bs l).data.toList = l := rfl
theorem bs_size (l : List UInt8) : (bs l).size = l.length := rfl
theorem bs_toList (l : List UInt8) : (bs l).toList = l := by rw [Lib.toList_data]; rfl
theorem bs_extract (l : List UInt8) (a b : Nat) : (bs l).extract a b = bs ((l.drop a).take (b - a)) := Lib.extract_eq (bs l) a b

set_option maxHeartbeats 1000000 in
set_option maxRecDepth 100000 in
theorem indexByte_any (l : List UInt8) (w : World) :
    Calls Tryz.prog 135 #[.string (bs l), .int .u8 47] w fun e w' => e = .returned (.int .i64 (Lib.indexByte l 47)) ∧ w' = w := by
  go_enter Tryz.func135, Tryz.ntmps135
  go_wp2
  rw [run_callFunc_extern Tryz.func155 (by kernel_rfl) (by kernel_rfl) (by kernel_rfl) (e := Extern.BytealgIndexByte.indexByte) (by kernel_rfl), Lib.run_indexByteString]
  simp only [Result.andThen]
  rw [Oper.upon_value]
  go_wp2
  go_ret
  exact ⟨rfl, rfl⟩

set_option maxHeartbeats 2000000 in
set_option maxRecDepth 100000 in
theorem index_any (l : List UInt8) (w : World) :
    Calls Tryz.prog 120 #[.string (bs l), .string (bs [47])] w fun e w' => e = .returned (.int .i64 (Lib.indexByte l 47)) ∧ w' = w := by
  have hz : (bs [47]).size = 1 := rfl
  by_cases hl : l = [47]
  · subst hl
    have he : ((bs [47]).toList == (bs [47]).toList) = true := by simp
    go_enter Tryz.func120, Tryz.ntmps120
    go_wp2_with fail
    go_ret
    exact ⟨rfl, rfl⟩
  · have he : ((bs [47]).toList == (bs l).toList) = false := by rw [bs_toList, bs_toList, beq_eq_false_iff_ne]; exact fun e => hl e.symm
    go_enter Tryz.func120, Tryz.ntmps120
    go_wp2_with fail
    refine (indexByte_any _ _).mono ?_
    rintro e w1 ⟨rfl, rfl⟩
    go_wp2_with fail
    go_ret
    exact ⟨rfl, rfl⟩

theorem extract_hd (l : List UInt8) : (bs l).extract 0 (hd l).length = bs (hd l) := by
  rw [bs_extract]; congr 1; simp [← hd_take l]
theorem extract_tl (l : List UInt8) (h : sl l = true) : (bs l).extract ((hd l).length + 1) (bs l).size = bs (tl l) := by
  rw [bs_extract, ← tl_drop l h]; congr 1
  rw [bs_size]; have := hd_len l h; exact List.take_of_length_le (by omega)

set_option maxHeartbeats 2000000 in
set_option maxRecDepth 100000 in
theorem cut0_any (l : List UInt8) (w : World) (hm : l.length ≤ 9223372036854775807) :
    Calls Tryz.prog 108 #[.string (bs l), .string (bs [47])] w fun e w' => e = .returned (.tuple #[.string (bs (hd l)), .string (bs (tl l)), .bool (sl l)]) ∧ ∃ n, w' = w.drewN n := by
  have hz : (bs [47]).size = 1 := rfl
  have hx := indexByte_eq l
  cases h : sl l
  · rw [h] at hx
    simp only [Bool.false_eq_true, if_false] at hx
    rw [hd_all l h, tl_none l h]
    go_enter Tryz.func108, Tryz.ntmps108
    go_wp2_with fail
    refine (index_any _ _).mono ?_
    rintro e w1 ⟨rfl, rfl⟩
    rw [hx]
    go_wp2_with fail
    go_ret3
    exact ⟨rfl, 0, rfl⟩
  · rw [h] at hx
    simp only [if_true] at hx
    have hlen := hd_len l h
    have hsz : (bs l).size = l.length := rfl
    obtain ⟨n, hn⟩ : ∃ n, (hd l).length = n := ⟨_, rfl⟩
    have e1 := extract_hd l
    have e2 := extract_tl l h
    rw [hn] at e1 e2 hx hlen
    rw [hsz] at e2
    have E1 : Hid ((bs l).extract 0 n = bs (hd l)) := e1
    have E2 : Hid ((bs l).extract (n + 1) l.length = bs (tl l)) := e2
    clear e1 e2
    have c1 : (0 : Int) ≤ ↑n := by omega
    have c2 : (n : Int) ≤ (l.length : Int) := by omega
    have c3 : (0 : Int) ≤ ↑n + 1 := by omega
    have c4 : (n : Int) + 1 ≤ (l.length : Int) := by omega
    go_enter Tryz.func108, Tryz.ntmps108
    go_wp2_with fail
    refine (index_any _ _).mono ?_
    rintro e w1 ⟨rfl, rfl⟩
    rw [hx]
    go_wp2_with fail
    go_region
    go_wp2_with fail
    go_ret3
    refine ⟨?_, 1, rfl⟩
    rw [← E1.out, ← E2.out]; rfl

set_option maxRecDepth 100000 in
set_option maxHeartbeats 1000000 in
theorem cut_any (l : List UInt8) (w : World) (hm : l.length ≤ 9223372036854775807) :
    Calls Tryz.prog 90 #[.string (bs l), .string (bs [47])] w fun e w' => e = .returned (.tuple #[.string (bs (hd l)), .string (bs (tl l)), .bool (sl l)]) ∧ ∃ n, w' = w.drewN n := by
  have HM : Hid (l.length ≤ 9223372036854775807) := hm
  clear hm
  go_enter Tryz.func90, Tryz.ntmps90
  go_wp2_with fail
  refine (cut0_any _ _ HM.out).mono ?_
  rintro e w1 ⟨rfl, n, rfl⟩
  go_wp2_with fail
  go_ret3
  exact ⟨rfl, n, rfl⟩

theorem bs_get (l : List UInt8) (i : Nat) (h : i < (bs l).size) (h' : i < l.length) : (bs l)[i]'h = l[i]'h' := rfl

set_option maxHeartbeats 1000000 in
set_option maxRecDepth 100000 in
theorem count_any (l : List UInt8) (w : World) :
    Calls Tryz.prog 88 #[.string (bs l), .string (bs [47])] w fun e w' => e = .returned (.int .i64 (l.count 47 : Nat)) ∧ w' = w := by
  go_enter Tryz.func88, Tryz.ntmps88
  go_wp2
  rw [run_callFunc_extern Tryz.func106 (by kernel_rfl) (by kernel_rfl) (by kernel_rfl) (e := Extern.BytealgCount.count) (by kernel_rfl), Lib.run_countString]
  simp only [Result.andThen]
  rw [Oper.upon_value]
  go_wp2
  go_ret
  exact ⟨rfl, rfl⟩

end Go.Proofs.YtddaoloabfkheaaGreatDoor

namespace Go.Proofs.YtddaoloabfkheaaGreatDoor
open Go.RowKit

/-- What was there has not turned, but for the blocks of S. -/
structure Only (S : List Nat) (w w' : World) : Prop where
  os : w'.os = w.os
  tape : w'.tape = w.tape
  output : w'.output = w.output
  size : w.heap.size ≤ w'.heap.size
  block : ∀ k, k < w.heap.size → k ∉ S → w'.heap[k]? = w.heap[k]?

/-- What was there has not turned; it may have drawn. -/
structure Laid (w w' : World) : Prop where
  below : Below w.heap.size w w'
  drawn : w.drawn ≤ w'.drawn

theorem Only.refl (S : List Nat) (w : World) : Only S w w := ⟨rfl, rfl, rfl, Nat.le_refl _, fun _ _ _ => rfl⟩
theorem Only.trans {S : List Nat} {a b c : World} (h : Only S a b) (k : Only S b c) : Only S a c :=
  ⟨k.os.trans h.os, k.tape.trans h.tape, k.output.trans h.output, Nat.le_trans h.size k.size, fun i hi hn => (k.block i (Nat.lt_of_lt_of_le hi h.size) hn).trans (h.block i hi hn)⟩
theorem Only.mono {S T : List Nat} {a b : World} (h : Only S a b) (hs : ∀ k, k ∈ S → k ∈ T) : Only T a b :=
  ⟨h.os, h.tape, h.output, h.size, fun i hi hn => h.block i hi (fun e => hn (hs i e))⟩
theorem Only.of_below {a b : World} (h : Below a.heap.size a b) (S : List Nat) : Only S a b :=
  ⟨h.os, h.tape, h.output, h.size, fun i hi _ => h.block i hi⟩
theorem Only.below {S : List Nat} {a b : World} {B : Nat} (h : Only S a b) (hB : B ≤ a.heap.size) (hS : ∀ k, k ∈ S → B ≤ k) : Below B a b :=
  ⟨h.os, h.tape, h.output, h.size, fun i hi => h.block i (by omega) (fun e => by have := hS i e; omega)⟩
theorem Only.set (w : World) (g o : Nat) (v : Value) : Only [g] w (w.setCell ⟨g, o, none⟩ v) :=
  ⟨rfl, rfl, rfl, by simp [World.setCell], fun k _ hn => Below.heap_setCell _ _ _ _ (fun e => hn (by simp [e]))⟩
theorem Only.drew (S : List Nat) (w : World) (n : Nat) : Only S w (w.drewN n) := ⟨rfl, rfl, rfl, Nat.le_refl _, fun _ _ _ => rfl⟩
theorem balloc (w : World) (o : Obj) : Below w.heap.size w (w.alloc o) := (Below.refl _ _).alloc (Nat.le_refl _) o
theorem below_trans {B : Nat} {a b c : World} (h : Below B a b) (k : Below B b c) : Below B a c :=
  ⟨k.os.trans h.os, k.tape.trans h.tape, k.output.trans h.output, Nat.le_trans h.size k.size, fun i hi => (k.block i hi).trans (h.block i hi)⟩
theorem below_mono {B C : Nat} {a b : World} (h : Below C a b) (hBC : B ≤ C) : Below B a b :=
  ⟨h.os, h.tape, h.output, h.size, fun i hi => h.block i (by omega)⟩

/-- A walk in block g: the text that is left, and whether there is more. -/
structure WK (w : World) (g : Nat) (t : List UInt8) (m : Bool) : Prop where
  text : w.cell? ⟨g, 0, none⟩ = some (.string (bs t))
  more : w.cell? ⟨g, 1, none⟩ = some (.bool m)
  f0 : w.frozen? ⟨g, 0, none⟩ = false
  f1 : w.frozen? ⟨g, 1, none⟩ = false
  lt : g < w.heap.size

theorem WK.only {S : List Nat} {w w' : World} {g : Nat} {t : List UInt8} {m : Bool} (h : WK w g t m) (ho : Only S w w') (hg : g ∉ S) : WK w' g t m := by
  have hb := ho.block g h.lt hg
  exact ⟨by rw [World.cell?_of_block (w := w) hb]; exact h.text, by rw [World.cell?_of_block (w := w) hb]; exact h.more,
    by rw [World.frozen?_of_block (w := w) hb]; exact h.f0, by rw [World.frozen?_of_block (w := w) hb]; exact h.f1, Nat.lt_of_lt_of_le h.lt ho.size⟩
theorem WK.new (w : World) (t : List UInt8) (m : Bool) (k : TypeId) : WK (w.alloc (.cells #[.string (bs t), .bool m] k)) w.heap.size t m :=
  ⟨by simp, by simp, by simp, by simp, by simp⟩
theorem WK.set {w : World} {g : Nat} {t : List UInt8} {m : Bool} (h : WK w g t m) (t' : List UInt8) (m' : Bool) :
    WK ((w.setCell ⟨g, 0, none⟩ (.string (bs t'))).setCell ⟨g, 1, none⟩ (.bool m')) g t' m' := by
  refine ⟨?_, ?_, by simpa using h.f0, by simpa using h.f1, by simpa using h.lt⟩
  · rw [World.cell?_setCell_other _ _ _ _ (by simp)]; exact World.cell?_setCell_same _ _ _ h.text
  · refine World.cell?_setCell_same _ _ _ (u := .bool m) ?_
    rw [World.cell?_setCell_other _ _ _ _ (by simp)]; exact h.more

theorem isE (l : List UInt8) : (bs l).toList.isEmpty = l.isEmpty := by rw [bs_toList]

set_option maxRecDepth 100000 in
set_option maxHeartbeats 1000000 in
theorem begin_any (l : List UInt8) (w : World) :
    Calls Tryz.prog 54 #[.string (bs l)] w fun e w' => e = .returned (.agg #[.string (bs l), .bool (!l.isEmpty)]) ∧ Laid w w' := by
  have he := isE l
  go_enter Tryz.func54, Tryz.ntmps54
  go_wp2_with fail
  refine bodyPost_ret (results_cell_row rfl _ _ w.heap.size 112 #[.string (bs l), .bool (!l.isEmpty)] (0, 0) _ rfl (heap_alloc_new _ _) Tryz.underlying112 rfl (by kernel_rfl)) rfl ?_
  exact ⟨rfl, balloc _ _, Nat.le_refl _⟩

theorem left_start (l : List UInt8) : left l (!l.isEmpty) = pcs l := by
  cases l <;> simp [left, pcs]

set_option maxRecDepth 100000 in
set_option maxHeartbeats 1000000 in
theorem next_any {w : World} {g : Nat} {t : List UInt8} {m : Bool} (h : WK w g t m) (hm : t.length ≤ 9223372036854775807) :
    Calls Tryz.prog 56 #[.pointer (some ⟨g, 0, none⟩)] w fun e w' => e = .returned (.string (bs (hd t))) ∧ WK w' g (tl t) (sl t) ∧ Only [g] w w' ∧ w.drawn ≤ w'.drawn := by
  have H : Hid (WK w g t m) := h
  obtain ⟨h0, h1, h2, h3, h4⟩ := h
  have HM : Hid (t.length ≤ 9223372036854775807) := hm
  clear hm
  go_enter Tryz.func56, Tryz.ntmps56
  go_wp2_with fail
  refine (cut_any _ _ HM.out).mono ?_
  rintro e w1 ⟨rfl, n, rfl⟩
  go_wp2_with fail
  go_ret
  exact ⟨rfl, (H.out.only (Only.drew [] w n) (by simp)).set _ _, ((Only.drew [g] w n).trans (Only.set _ _ _ _)).trans (Only.set _ _ _ _), Nat.le_add_right _ _⟩

end Go.Proofs.YtddaoloabfkheaaGreatDoor

namespace Go.Proofs.YtddaoloabfkheaaGreatDoor
open Go.RowKit

theorem extract_to (l : List UInt8) (n : Nat) : (bs l).extract 0 n = bs (l.take n) := by rw [bs_extract]; simp
theorem extract_from (l : List UInt8) (n : Nat) : (bs l).extract n l.length = bs (l.drop n) := by
  rw [bs_extract]; congr 1; exact List.take_of_length_le (by simp)

set_option maxRecDepth 100000 in
set_option maxHeartbeats 1000000 in
theorem depth_any (l : List UInt8) (w : World) (hl : l.length < 9223372036854775807) :
    Calls Tryz.prog 53 #[.string (bs l)] w fun e w' => e = .returned (.int .i64 (dep l : Nat)) ∧ w' = w := by
  have he := isE l
  by_cases h : l = []
  · subst h
    have hd0 : dep [] = 0 := rfl
    rw [hd0]
    go_enter Tryz.func53, Tryz.ntmps53
    go_wp2_with fail
    go_ret
    exact ⟨rfl, rfl⟩
  · have hd0 : dep l = l.count 47 + 1 := by simp [dep, h]
    have hle := dep_le l
    rw [hd0] at hle
    have hi : l.isEmpty = false := by cases l; exact absurd rfl h; rfl
    rw [hi] at he
    obtain ⟨n, hn⟩ : ∃ n, l.count 47 = n := ⟨_, rfl⟩
    rw [hd0]
    rw [hn] at hle ⊢
    go_enter Tryz.func53, Tryz.ntmps53
    go_wp2_with fail
    refine (count_any _ _).mono ?_
    rintro e w1 ⟨rfl, rfl⟩
    rw [hn]
    go_wp2_with fail
    go_ret
    exact ⟨rfl, rfl⟩

set_option maxRecDepth 100000 in
set_option maxHeartbeats 1000000 in
theorem allowed_any (c : UInt8) (w : World) :
    Calls Tryz.prog 89 #[.int .u8 c.toNat] w fun e w' => e = .returned (.bool (okB c)) ∧ w' = w := by
  obtain ⟨r, hr⟩ : ∃ r, okB c = r := ⟨_, rfl⟩
  rw [hr]
  have HR : Hid (okB c = r) := hr
  clear hr
  obtain ⟨n, hn⟩ : ∃ n, c.toNat = n := ⟨_, rfl⟩
  rw [hn]
  have HR2 : Hid (((97 ≤ n && n ≤ 122) || (65 ≤ n && n ≤ 90) || (48 ≤ n && n ≤ 57) || n == 46 || n == 95 || n == 45) = r) := by rw [← hn]; exact HR.out
  clear HR hn
  by_cases h1 : 97 ≤ n ∧ n ≤ 122
  · obtain ⟨h1, h2⟩ := h1
    go_enter Tryz.func89, Tryz.ntmps89
    go_wp2_with fail
    go_ret
    exact ⟨by rw [← HR2.out]; simp [h1, h2], rfl⟩
  · by_cases h2 : 65 ≤ n ∧ n ≤ 90
    · obtain ⟨h2, h3⟩ := h2
      have h4 : ¬ 97 ≤ n := by omega
      clear h1
      go_enter Tryz.func89, Tryz.ntmps89
      go_wp2_with fail
      go_ret
      exact ⟨by rw [← HR2.out]; simp [h2, h3], rfl⟩
    · by_cases h3 : 48 ≤ n ∧ n ≤ 57
      · obtain ⟨h3, h4⟩ := h3
        have h5 : ¬ 97 ≤ n := by omega
        have h6 : ¬ 65 ≤ n := by omega
        clear h1 h2
        go_enter Tryz.func89, Tryz.ntmps89
        go_wp2_with fail
        go_ret
        exact ⟨by rw [← HR2.out]; simp [h3, h4], rfl⟩
      · by_cases q1 : n = 46
        · subst q1
          clear h1 h2 h3
          go_enter Tryz.func89, Tryz.ntmps89
          go_wp2_with fail
          go_ret
          exact ⟨by rw [← HR2.out]; rfl, rfl⟩
        by_cases q2 : n = 95
        · subst q2
          clear h1 h2 h3
          go_enter Tryz.func89, Tryz.ntmps89
          go_wp2_with fail
          go_ret
          exact ⟨by rw [← HR2.out]; rfl, rfl⟩
        by_cases q3 : n = 45
        · subst q3
          clear h1 h2 h3
          go_enter Tryz.func89, Tryz.ntmps89
          go_wp2_with fail
          go_ret
          exact ⟨by rw [← HR2.out]; rfl, rfl⟩
        have z : r = false := by
          rw [← HR2.out]
          simp only [Bool.or_eq_false_iff, Bool.and_eq_false_iff, decide_eq_false_iff_not, beq_eq_false_iff_ne]
          omega
        subst z
        have e1 : (((n : Int)) == 46) = false := by rw [beq_eq_false_iff_ne]; omega
        have e2 : (((n : Int)) == 95) = false := by rw [beq_eq_false_iff_ne]; omega
        have e3 : (((n : Int)) == 45) = false := by rw [beq_eq_false_iff_ne]; omega
        by_cases p1 : 97 ≤ n
        · have p2 : ¬ n ≤ 122 := by omega
          have p3 : 65 ≤ n := by omega
          have p4 : ¬ n ≤ 90 := by omega
          have p5 : 48 ≤ n := by omega
          have p6 : ¬ n ≤ 57 := by omega
          clear h1 h2 h3
          go_enter Tryz.func89, Tryz.ntmps89
          go_wp2_with fail
          go_ret
          exact ⟨rfl, rfl⟩
        by_cases p3 : 65 ≤ n
        · have p4 : ¬ n ≤ 90 := by omega
          have p5 : 48 ≤ n := by omega
          have p6 : ¬ n ≤ 57 := by omega
          clear h1 h2 h3
          go_enter Tryz.func89, Tryz.ntmps89
          go_wp2_with fail
          go_ret
          exact ⟨rfl, rfl⟩
        by_cases p5 : 48 ≤ n
        · have p6 : ¬ n ≤ 57 := by omega
          clear h1 h2 h3
          go_enter Tryz.func89, Tryz.ntmps89
          go_wp2_with fail
          go_ret
          exact ⟨rfl, rfl⟩
        · clear h1 h2 h3
          go_enter Tryz.func89, Tryz.ntmps89
          go_wp2_with fail
          go_ret
          exact ⟨rfl, rfl⟩

theorem all_take_succ (l : List UInt8) (k : Nat) (h : k < l.length) : (l.drop k).all okB = (okB (l[k]'h) && (l.drop (k + 1)).all okB) := by
  rw [List.drop_eq_getElem_cons h]; rfl

set_option maxHeartbeats 1000000 in
set_option maxRecDepth 100000 in
theorem component_any (l : List UInt8) (w : World) (hm : l.length ≤ 9223372036854775807) :
    Calls Tryz.prog 55 #[.string (bs l)] w fun e w' => e = .returned (.bool (okC l)) ∧ w' = w := by
  have hz : (bs l).size = l.length := rfl
  have e0 : (bs l).toList.isEmpty = l.isEmpty := isE l
  have c1 : (ByteArray.mk #[46]).toList = [46] := ByteArray.toList_mk [46]
  have c2 : (ByteArray.mk #[46, 46]).toList = [46, 46] := ByteArray.toList_mk [46, 46]
  have c3 : (ByteArray.mk #[46, 46, 46]).toList = [46, 46, 46] := ByteArray.toList_mk [46, 46, 46]
  by_cases h0 : l = []
  · subst h0
    have h : okC [] = false := by decide
    rw [h]
    clear c1 c2 c3
    go_enter Tryz.func55, Tryz.ntmps55
    go_wp2_with fail
    go_ret
    exact ⟨rfl, rfl⟩
  have i0 : l.isEmpty = false := by cases l; exact absurd rfl h0; rfl
  rw [i0] at e0
  by_cases h1 : l = [46]
  · subst h1
    have h : okC [46] = false := by decide
    rw [h]
    have e1 : ((bs [46]).toList == [46]) = true := by rw [bs_toList]; rfl
    go_enter Tryz.func55, Tryz.ntmps55
    go_wp2_with fail
    go_ret
    exact ⟨rfl, rfl⟩
  have e1 : ((bs l).toList == [46]) = false := by rw [bs_toList, beq_eq_false_iff_ne]; exact h1
  by_cases h2 : l = [46, 46]
  · subst h2
    have h : okC [46, 46] = false := by decide
    rw [h]
    have e2 : ((bs [46, 46]).toList == [46, 46]) = true := by rw [bs_toList]; rfl
    go_enter Tryz.func55, Tryz.ntmps55
    go_wp2_with fail
    go_ret
    exact ⟨rfl, rfl⟩
  have e2 : ((bs l).toList == [46, 46]) = false := by rw [bs_toList, beq_eq_false_iff_ne]; exact h2
  by_cases h3 : l = [46, 46, 46]
  · subst h3
    have h : okC [46, 46, 46] = false := by decide
    rw [h]
    have e3 : ((bs [46, 46, 46]).toList == [46, 46, 46]) = true := by rw [bs_toList]; rfl
    go_enter Tryz.func55, Tryz.ntmps55
    go_wp2_with fail
    go_ret
    exact ⟨rfl, rfl⟩
  have e3 : ((bs l).toList == [46, 46, 46]) = false := by rw [bs_toList, beq_eq_false_iff_ne]; exact h3
  have hok : okC l = (decide (l.length ≤ 32) && l.all okB) := by
    unfold okC
    rw [show (l == []) = false from by rw [beq_eq_false_iff_ne]; exact h0, show (l == [46]) = false from by rw [beq_eq_false_iff_ne]; exact h1, show (l == [46, 46]) = false from by rw [beq_eq_false_iff_ne]; exact h2, show (l == [46, 46, 46]) = false from by rw [beq_eq_false_iff_ne]; exact h3]
    simp
  rw [hok]
  clear hok h0 h1 h2 h3 i0
  by_cases h4 : 32 < l.length
  · have : decide (l.length ≤ 32) = false := by simpa using h4
    rw [this]
    go_enter Tryz.func55, Tryz.ntmps55
    go_wp2_with fail
    go_ret
    exact ⟨rfl, rfl⟩
  have : decide (l.length ≤ 32) = true := by simpa using Nat.le_of_not_lt h4
  rw [this, Bool.true_and]
  obtain ⟨r, hr⟩ : ∃ r, l.all okB = r := ⟨_, rfl⟩
  rw [hr]
  have HR : Hid ((l.drop 0).all okB = r) := hr
  clear hr this
  go_enter Tryz.func55, Tryz.ntmps55
  go_wp2_with fail
  go_loop [15] (fun i => ∃ k : Nat, k ≤ l.length ∧ i = .int .i64 k ∧ (l.drop k).all okB = r) (fun i => l.length - (intOf i).toNat)
  case atStart => exact ⟨0, Nat.zero_le _, rfl, HR.out⟩
  case round =>
    obtain ⟨k, hk, rfl, ha⟩ := hrel
    have HA : Hid ((l.drop k).all okB = r) := ha
    clear ha
    by_cases hlt : k < l.length
    · have HB : Hid ((okB (l[k]'hlt) && (l.drop (k + 1)).all okB) = r) := by have := HA.out; rw [all_take_succ l k hlt] at this; exact this
      have hkz : k < (bs l).size := hlt
      go_wp2_with fail
      refine (allowed_any (l[k]'hlt) _).mono ?_
      rintro e w1 ⟨rfl, rfl⟩
      have hb := HB.out
      cases ho : okB (l[k]'hlt)
      · rw [ho] at hb
        have hb : false = r := hb
        subst hb
        go_wp2_with fail
        go_ret
        exact ⟨rfl, rfl⟩
      · rw [ho] at hb
        have HB2 : Hid ((l.drop (k + 1)).all okB = r) := hb
        clear hb
        go_wp2_with fail
        go_round
        case rel => exact ⟨k + 1, by omega, by go_num, HB2.out⟩
        case measure => simp [intOf]; omega
    · obtain rfl : k = l.length := by omega
      have hb := HA.out
      rw [List.drop_length] at hb
      have hb : true = r := hb
      subst hb
      go_wp2_with fail
      go_ret
      exact ⟨rfl, rfl⟩

theorem okC_le {l : List UInt8} (h : okC l = true) : l.length ≤ 32 := by
  unfold okC at h
  simp only [Bool.and_eq_true, decide_eq_true_eq] at h
  exact h.1.2

set_option maxHeartbeats 1000000 in
set_option maxRecDepth 100000 in
theorem valid_any (l : List UInt8) (w : World) (hm : l.length < 9223372036854775807) :
    Calls Tryz.prog 22 #[.string (bs l)] w fun e w' => e = .returned (.bool (okP l)) ∧ Below w.heap.size w w' := by
  have hz : (bs l).size = l.length := rfl
  by_cases h1 : 120 < l.length
  · have : okP l = false := by
      unfold okP; rw [show decide (l.length ≤ 120) = false from by simpa using h1]; rfl
    rw [this]
    go_enter Tryz.func22, Tryz.ntmps22
    go_wp2_with fail
    go_ret
    exact ⟨rfl, Below.refl _ _⟩
  have g1 : decide (l.length ≤ 120) = true := by simpa using Nat.le_of_not_lt h1
  by_cases h2 : 12 < dep l
  · have : okP l = false := by
      unfold okP; rw [show decide (dep l ≤ 12) = false from by simpa using h2, g1]; rfl
    rw [this]
    clear g1
    go_enter Tryz.func22, Tryz.ntmps22
    go_wp2_with fail
    refine (depth_any _ _ hm).mono ?_
    rintro e w1 ⟨rfl, rfl⟩
    go_wp2_with fail
    go_ret
    exact ⟨rfl, Below.refl _ _⟩
  have hok : okP l = (left l (!l.isEmpty)).all okC := by
    unfold okP; rw [g1, show decide (dep l ≤ 12) = true from by simpa using Nat.le_of_not_lt h2, left_start]; rfl
  rw [hok]
  obtain ⟨r, hr⟩ : ∃ r, (left l (!l.isEmpty)).all okC = r := ⟨_, rfl⟩
  rw [hr]
  have HR : Hid ((left l (!l.isEmpty)).all okC = r) := hr
  obtain ⟨ma, hma⟩ : ∃ m, (!l.isEmpty) = m := ⟨_, rfl⟩
  rw [hma] at HR
  have HM : Hid (l.length < 9223372036854775807) := hm
  clear hr hok g1
  go_enter Tryz.func22, Tryz.ntmps22
  go_wp2_with fail
  refine (depth_any _ _ HM.out).mono ?_
  rintro e w1 ⟨rfl, rfl⟩
  go_wp2_with fail
  refine (begin_any _ _).mono ?_
  rintro e w2 ⟨rfl, hb2⟩
  rw [hma]
  replace hb2 := hb2.below
  have hz2 := hb2.size
  have B2 : Hid (Below w1.heap.size w1 w2) := hb2
  clear hb2
  go_wp2_with fail
  have K0 : Hid (WK (w2.alloc (.cells #[.string (bs l), .bool ma] 112)) w2.heap.size l ma ∧ Below w1.heap.size w1 (w2.alloc (.cells #[.string (bs l), .bool ma] 112))) := ⟨WK.new _ _ _ _, B2.out.alloc hz2 _⟩
  go_loopg [3] (left l ma).length (fun g p wr => ∃ (gp : Nat) (t : List UInt8) (m : Bool), p = .pointer (some ⟨gp, 0, none⟩) ∧ w1.heap.size ≤ gp ∧ WK wr gp t m ∧ Below w1.heap.size w1 wr ∧ (left t m).all okC = r ∧ t.length ≤ l.length ∧ (left t m).length ≤ g)
  case atStart => exact ⟨_, l, ma, rfl, hz2, K0.out.1, K0.out.2, HR.out, Nat.le_refl _, Nat.le_refl _⟩
  case round =>
    obtain ⟨gp, t, m, rfl, hgp, k, hbw, hall, htl, hg⟩ := hrel
    have HX : Hid (WK wr gp t m) := k
    have HB : Hid (Below w1.heap.size w1 wr) := hbw
    have HA : Hid ((left t m).all okC = r) := hall
    have HG : Hid ((left t m).length ≤ gk) := hg
    have HT : Hid (t.length ≤ l.length) := htl
    obtain ⟨_, x1, _, _, xlt⟩ := k
    clear hbw hall hg htl
    cases m
    · have ha := HA.out
      have ha : true = r := ha
      subst ha
      go_wp2_with fail
      go_ret
      exact ⟨rfl, HB.out⟩
    · go_wp2_with fail
      refine (next_any HX.out (by have := HT.out; have := HM.out; omega)).mono ?_
      rintro e w3 ⟨rfl, k3, o3⟩
      have HX3 : Hid (WK w3 gp (tl t) (sl t)) := k3
      have HB3 : Hid (Below w1.heap.size w1 w3) := below_trans HB.out (o3.1.below (by have := HB.out.size; omega) (by simp; omega))
      have hz3 := HB3.out.size
      obtain ⟨y0, y1, _, _, _⟩ := k3
      clear o3 x1
      go_wp2_with fail
      refine (component_any _ _ (by have := hd_le t; have := HT.out; have := HM.out; omega)).mono ?_
      rintro e w4 ⟨rfl, rfl⟩
      have ha := HA.out
      rw [left_next, List.all_cons] at ha
      have hg := HG.out
      rw [left_next] at hg
      cases hc : okC (hd t)
      · rw [hc] at ha
        have ha : false = r := ha
        subst ha
        go_wp2_with fail
        go_ret
        exact ⟨rfl, HB3.out⟩
      · rw [hc] at ha
        have HA4 : Hid ((left (tl t) (sl t)).all okC = r) := ha
        have HG4 : Hid ((left (tl t) (sl t)).length < gk) := by simp at hg; exact hg
        clear ha hg
        go_wp2_with fail
        go_roundg (left (tl t) (sl t)).length
        case measure => exact HG4.out
        case rel => exact ⟨_, tl t, sl t, rfl, hz3, WK.new _ _ _ _, HB3.out.alloc hz3 _, HA4.out, by have := tl_le t; have := HT.out; omega, Nat.le_refl _⟩

end Go.Proofs.YtddaoloabfkheaaGreatDoor
