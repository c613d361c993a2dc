import Derived.Test.YtefhdnhhcgbbjaaBack
import Derived.Test.YtefhdnhhcgbbjaaInv
import Derived.Test.YtefhdnhhcgbbjaaReg
import Derived.Deep.DrawnRows
namespace Go.Proofs.Ytefhdnhhcgbbjaa
open Go.RowKit

def icells (l : List It) : List Value := l.flatMap It.cells
theorem icells_length (l : List It) : (icells l).length = l.length * 3 := by
  induction l with
  | nil => rfl
  | cons x l ih => simp only [icells, List.flatMap_cons, List.length_append] at *; rw [ih]; simp [It.cells]; omega
theorem icells_append (a b : List It) : icells (a ++ b) = icells a ++ icells b := by simp [icells]
theorem icells_one (l : List It) : ∀ u ∈ icells l, u.oneCell' = true := by
  intro u hu
  obtain ⟨x, _, hx⟩ := List.mem_flatMap.1 hu
  simp [It.cells] at hx
  rcases hx with rfl | rfl | rfl <;> rfl
theorem icells_get (l : List It) (i : Nat) (h : i < l.length) : (icells l)[i * 3]? = some (.int .i64 l[i].k) ∧ (icells l)[i * 3 + 1]? = some (.int .u64 l[i].x) ∧ (icells l)[i * 3 + 2]? = some (.string l[i].s) := by
  induction l generalizing i with
  | nil => simp at h
  | cons x l ih =>
    have e : icells (x :: l) = [.int .i64 x.k, .int .u64 x.x, .string x.s] ++ icells l := by simp [icells, It.cells]
    rw [e]
    rcases i with _ | i
    · simp
    · have := ih i (by simpa using h)
      have e1 : (i + 1) * 3 = i * 3 + 3 := by omega
      rw [e1]
      refine ⟨?_, ?_, ?_⟩
      · rw [List.getElem?_append_right (by simp)]; simpa using this.1
      · rw [List.getElem?_append_right (by simp only [List.length_cons, List.length_nil]; omega)]; simp only [List.length_cons, List.length_nil]; rw [show i * 3 + 3 + 1 - (0 + 1 + 1 + 1) = i * 3 + 1 from by omega]; simpa using this.2.1
      · rw [List.getElem?_append_right (by simp only [List.length_cons, List.length_nil]; omega)]; simp only [List.length_cons, List.length_nil]; rw [show i * 3 + 3 + 2 - (0 + 1 + 1 + 1) = i * 3 + 2 from by omega]; simpa using this.2.2

/-- items that came in -/
def Itm (w : World) (v : Value) (l : List It) : Prop :=
  ((∃ a c, v = .slice a 0 c) ∧ l = []) ∨
  ∃ b off cap, v = .slice (some ⟨b, off, none⟩) l.length cap ∧ b < w.heap.size ∧ ∀ i u, (icells l)[i]? = some u → w.cell? ⟨b, off + i, none⟩ = some u
theorem Itm.later {w w' : World} {v : Value} {l : List It} (h : Itm w v l) (hb : Below w.heap.size w w') : Itm w' v l := by
  rcases h with h | ⟨b, off, cap, rfl, hlt, hcell⟩
  · exact .inl h
  · refine .inr ⟨b, off, cap, rfl, Nat.lt_of_lt_of_le hlt hb.size, fun i u hu => ?_⟩
    rw [hb.cell (p := ⟨b, off + i, none⟩) hlt]; exact hcell i u hu
theorem und22 : Try.prog.underlying 22 = some (.slice 26) := by kernel_rfl
theorem info26 : (Try.prog.info? 26).map (fun i => (i.zero, i.size, i.bytes)) = some (some (.agg #[.int .i64 0, .int .u64 0, .string ⟨#[]⟩]), 3, 32) := by kernel_rfl
theorem Itm.src {w : World} {v : Value} {l : List It} (h : Itm w v l) : Src Try.prog 3 22 v l.length (icells l) w := by
  rcases h with ⟨⟨a, c, rfl⟩, rfl⟩ | ⟨b, off, cap, rfl, hlt, hcell⟩
  · cases a with
    | none => exact Src.ofNil w und22 c
    | some a => exact Src.ofSlice w und22 a 0 c [] (by simp) (fun j u hu => by simp at hu) (fun u hu => by cases hu)
  · exact Src.ofSlice w und22 ⟨b, off, none⟩ l.length cap (icells l) (icells_length l) (fun j u hu => by rw [add_lit]; exact hcell j u hu) (icells_one l)

def OwnI (base : Nat) (w : World) (v : Value) (l : List It) : Prop := w.ownsRow base 26 3 v l.length (icells l)

/-- append of items onto items of the call's own -/
theorem app_items {w : World} {base : Nat} {v x : Value} {l k : List It} (hown : OwnI base w v l) (hs : Src Try.prog 3 22 x k.length (icells k) w) (hb : l.length + k.length ≤ 100000000) (hbase : base ≤ w.heap.size)
    {ops : Array Oper} {rest : List Oper} {o : Oper} {a : Act} {Q : Exit → Act → World → Prop} (hgd : o.guard = none) (s y : Operand)
    (ho : o.op = .call { callee := .builtin .append, args := #[s, y], argTypes := #[22, 22] }) (hv : a.eval s = v) (hx : a.eval y = x)
    (h : ∀ v' w', OwnI base w' v' (l ++ k) → w.grownBy w' v.ownBlock → (v'.ownBlock = v.ownBlock ∨ v'.ownBlock = some w.heap.size) → wpList Try.prog ops Q rest (a.put o.dst v') w') :
    wpList Try.prog ops Q (o :: rest) a w := by
  obtain ⟨i0, hi, hz0, hz1, hz2⟩ := info_parts info26
  refine wpList_append_src w hgd s y 22 22 ho base 26 i0 _ 3 32 und22 hi hz0 hz1 hz2 rfl v l.length (icells l) hv hown x k.length (icells k) hx hs (by simp only [maxLen]; omega) (by omega) hbase ?_
  intro v' w' h1 h2 h3
  exact h v' w' (by unfold OwnI; rw [icells_append, List.length_append]; exact h1) h2 h3

def encs (l : List It) : List UInt8 := (l.map It.enc).flatten
theorem encs_append (a b : List It) : encs (a ++ b) = encs a ++ encs b := by simp [encs]
def eI : It := ⟨5, 0, ⟨#[101, 110, 100]⟩⟩

/-- each item is one -/
def Fit (l : List It) : Prop := ∀ i ∈ l, -9223372036854775808 ≤ i.k ∧ i.k ≤ 9223372036854775807 ∧ i.x < 18446744073709551616 ∧ i.s.size ≤ 1000000000

theorem src_end (w : World) : Src Try.prog 3 22 (.slice (some ⟨w.heap.size, 0, none⟩) 1 1) [eI].length (icells [eI]) (w.alloc (.cells #[.int .i64 5, .int .u64 0, .string ⟨#[101, 110, 100]⟩] 26)) := by
  refine Src.ofSlice _ und22 ⟨w.heap.size, 0, none⟩ 1 1 (icells [eI]) (by simp [icells_length]) ?_ (icells_one _)
  have hb : (w.alloc (.cells #[.int .i64 5, .int .u64 0, .string ⟨#[101, 110, 100]⟩] 26)).heap[w.heap.size]? = some (.cells #[.int .i64 5, .int .u64 0, .string ⟨#[101, 110, 100]⟩] 26 (0, 0)) := heap_alloc_new w _
  exact World.news_of_block hb

theorem OwnI.form {base : Nat} {w : World} {v : Value} {l : List It} (h : OwnI base w v l) (hl : 0 < l.length) :
    ∃ g cap, v = .slice (some ⟨g, 0, none⟩) l.length cap ∧ l.length ≤ cap ∧ base ≤ g ∧ g < w.heap.size ∧ ∀ i u, (icells l)[i]? = some u → w.cell? ⟨g, i, none⟩ = some u := by
  rcases h.2 with ⟨rfl, h0⟩ | ⟨g, cap, cur, rfl, hb, hg, hn, _⟩
  · omega
  · refine ⟨g, cap, rfl, hn, hb, (Array.getElem?_eq_some_iff.1 hg).1, fun i u hu => ?_⟩
    have := World.ownsRow.cells h (g := g) rfl i u hu
    rw [add_lit, Nat.zero_add] at this
    exact this

/-- without the last byte -/
def dl (l : List UInt8) : List UInt8 := l.take (l.length - 1)
theorem dl_append (a r : List UInt8) (h : 0 < r.length) : dl (a ++ r) = a ++ dl r := by
  unfold dl
  rw [List.length_append, List.take_append, List.take_of_length_le (by omega)]
  congr 2
  omega
theorem encs_drop (L : List It) (k : Nat) (h : k < L.length) : encs (L.drop k) = L[k].enc ++ encs (L.drop (k + 1)) := by
  have e := List.drop_eq_getElem_cons h
  unfold encs
  rw [e, List.map_cons, List.flatten_cons]

set_option maxRecDepth 100000 in
set_option maxHeartbeats 4000000 in
theorem back_walk {w : World} {v : Value} {l : List It} (h : Itm w v l) (hf : Fit l) (hl : l.length ≤ 10000000) (he : (encs l).length ≤ 100000000) :
    Calls Try.prog 3 #[v] w fun e w' => e = .returned (.bool true) ∧ Below w.heap.size w w' := by
  have H : Hid (Itm w v l) := h
  clear h
  go_enter Try.func3, Try.ntmps3
  go_wp2_with fail
  refine (head_any w).mono ?_
  rintro e w1 ⟨rfl, hb1⟩
  have B1 : Hid (Below w.heap.size w w1) := hb1
  clear hb1
  go_wp2_with (first | (at_builtin; refine app_items (base := w1.heap.size) (l := []) (k := l) (World.ownsRow_made w1 #[] 0 (Nat.le_refl _) (by simp [maxLen]) rfl) ((H.out.later (bstep B1.out (balloc w1 _))).src) (by simp; omega) (by simp) rfl (.tmp 15) (.tmp 16) rfl rfl rfl ?_; intro v2 w2 ho2 hg2 hat2) | (at_builtin; refine app_items (base := w1.heap.size) (l := l) (k := [eI]) (World.ownsRow.alloc ho2 _) (src_end w2) (by simp; omega) (by have := hg2.size; simp at this ⊢; omega) rfl (.tmp 17) (.tmp 19) rfl rfl rfl ?_; intro v3 w3 ho3 hg3 hat3))
  have B2 : Below w1.heap.size w1 w2 := (balloc w1 _).grown hg2 (by simp) (by intro k hk; simp [Value.ownBlock] at hk; omega)
  have lt2 := World.ownsRow.lt ho2
  have B3 : Hid (Below w1.heap.size w1 w3) := (bstep B2 (balloc w2 _)).grown hg3 (by have := B2.size; simp; omega) (fun k hk => (lt2 k hk).1)
  obtain ⟨gi, ci, rfl, hci, hgi, hgw, hcell⟩ := OwnI.form ho3 (by simp)
  have HI : Hid (∀ i u, (icells (l ++ [eI]))[i]? = some u → w3.cell? ⟨gi, i, none⟩ = some u) := hcell
  have HF : Hid (Fit (l ++ [eI])) := by
    intro i hi
    rcases List.mem_append.1 hi with h | h
    · exact hf i h
    · obtain rfl : i = eI := by simpa using h
      exact ⟨by decide, by decide, by decide, by decide⟩
  have heL : (encs (l ++ [eI])).length ≤ 100000010 := by
    rw [encs_append, List.length_append]
    have : (encs [eI]).length = 7 := by decide
    omega
  have hlL : (l ++ [eI]).length ≤ 10000001 := by simp; omega
  have HL : Hid (l ++ [eI] = l ++ [eI]) := rfl
  have B0 : Hid (Below w.heap.size w w3) := bstep B1.out B3.out
  have hz1 := B1.out.size
  clear ho2 hg2 hat2 ho3 hg3 hat3 B2 lt2 hcell hf B3 B1
  generalize hLL : l ++ [eI] = L at *
  have HLL : Hid (l ++ [eI] = L) := hLL
  clear hLL
  go_wp2_with fail
  go_loopw [3, 4] (fun o i wr => ∃ k : Nat, k ≤ L.length ∧ Own w3.heap.size wr o (encs (L.take k)) ∧ i = .int .i64 k ∧ Below w3.heap.size w3 wr) (fun _ i _ => L.length - (intOf i).toNat)
  case atStart => exact ⟨0, Nat.zero_le _, by simpa [encs] using Own.nil _ _, rfl, Below.refl _ _⟩
  case round =>
    obtain ⟨k, hk, ho, rfl, hb⟩ := hrel
    have HO : Hid (Own w3.heap.size wr u3 (encs (L.take k))) := ho
    have HB : Hid (Below w3.heap.size w3 wr) := hb
    have hle : (encs (L.take k)).length ≤ 100000010 := by
      have : encs L = encs (L.take k) ++ encs (L.drop k) := by rw [← encs_append, List.take_append_drop]
      rw [this, List.length_append] at heL
      omega
    clear ho hb
    by_cases hlt : k < L.length
    · obtain ⟨c0, c1, c2⟩ := icells_get L k hlt
      have d0 : wr.cell? ⟨gi, k * 3, none⟩ = some (.int .i64 L[k].k) := by rw [HB.out.cell (p := ⟨gi, k * 3, none⟩) hgw]; exact HI.out _ _ c0
      have d1 : wr.cell? ⟨gi, k * 3 + 1, none⟩ = some (.int .u64 L[k].x) := by rw [HB.out.cell (p := ⟨gi, k * 3 + 1, none⟩) hgw]; exact HI.out _ _ c1
      have d2 : wr.cell? ⟨gi, k * 3 + 2, none⟩ = some (.string L[k].s) := by rw [HB.out.cell (p := ⟨gi, k * 3 + 2, none⟩) hgw]; exact HI.out _ _ c2
      obtain ⟨f0, f1, f2, f3⟩ := HF.out L[k] (List.getElem_mem hlt)
      clear c0 c1 c2
      go_wp2_with fail
      refine (ilay_any HO.out.bs L[k] f0 f1 f2 f3 (by omega)).mono ?_
      rintro e w4 ⟨v4, rfl, ho4, hb4⟩
      have hzz := HB.out.size
      have HO4 : Hid (Own w3.heap.size w4 v4 (encs (L.take (k + 1)))) := by
        have e : encs (L.take (k + 1)) = encs (L.take k) ++ L[k].enc := by rw [take_snoc L k hlt, encs_append]; simp [encs]
        show Own _ _ _ _
        rw [e]
        exact ho4.mono hzz
      have HB4 : Hid (Below w3.heap.size w3 w4) := HB.out.trans (hb4.mono hzz)
      clear ho4 hb4 d0 d1 d2
      go_wp2_with fail
      go_roundw
      case rel => exact ⟨k + 1, by omega, HO4.out, by go_num, HB4.out⟩
      case measure => simp [intOf]; omega
    · obtain rfl : k = L.length := by omega
      rw [List.take_length] at HO hle
      have hE7 : 7 ≤ (encs L).length := by rw [← HLL.out, encs_append, List.length_append]; have : (encs [eI]).length = 7 := by decide
                                           omega
      obtain ⟨gb, cb, rfl, hgb0, hgbw⟩ := World.ownsRow.form HO.out (by omega)
      have hcb : (encs L).length ≤ cb := by
        rcases HO.out.2 with ⟨h, _⟩ | ⟨g', cap', cur, hv, _, _, hn, _⟩
        · cases h
        · obtain ⟨_, _, _, rfl⟩ := slice_inj hv; exact hn
      have HBS : Hid (BS wr (.slice (some ⟨gb, 0, none⟩) (encs L).length cb) (encs L)) := HO.out.bs
      have HBT : Hid (BS wr (.slice (some ⟨gb, 0, none⟩) ((encs L).length - 1) cb) ((encs L).take ((encs L).length - 1))) := by
        rcases HO.out.bs with ⟨_, h⟩ | ⟨b', off', cap', hv, hc', hlt', hcell'⟩
        · rw [h] at hE7; simp at hE7
        · obtain ⟨rfl, rfl, _, rfl⟩ := slice_inj hv
          refine .inr ⟨b', 0, cap', by simp, by simp; omega, hlt', fun i u hu => hcell' i u ?_⟩
          have hi : i < (encs L).length - 1 := by
            have := (List.getElem?_eq_some_iff.1 hu).1
            simp [bc_length] at this
            omega
          rw [← hu, bc_get, bc_get, List.getElem?_take_of_lt hi]
      have hsl := slice_to gb 0 (encs L).length cb ((encs L).length - 1) (by omega) (((encs L).length : Int) - 1) (by omega)
      clear HO
      go_wp2_with fail
      refine wp_region_any (by kernel_rfl) ?_
      refine wpAny_inv (fun listed a w' => ∃ b0 b1 b2 b3 b4 b5 b6 b7 b8 b9 b10 b11 b12 b13 b14 b15 b16 b17 : Bool, ∃ u5 u6 u7 u33 u34 u35 u36 u37 u38 u39 u40 u41 u42 u43 u44 u45 u46 u47 : Value, ∃ g1 d1 g8 d8 g11 g14 d14 : Nat, listed = #[b0, b1, b2, b3, b4, b5, b6, b7, b8, b9, b10, b11, b12, b13, b14, b15, b16, b17] ∧ a = ⟨((Value.slice (some ⟨gi, 0, none⟩) L.length ci) :: undef :: (Value.bool false) :: (Value.slice (some ⟨gb, 0, none⟩) (encs L).length cb) :: (Value.int IntKind.i64 (L.length : Int)) :: u5 :: u6 :: u7 :: undef :: undef :: undef :: undef :: undef :: (Value.bool true) :: (Value.bool false) :: (Value.slice (some ⟨w1.heap.size, 0, none⟩) 0 0) :: v :: v2 :: (Value.agg #[Value.int IntKind.i64 5, Value.int IntKind.u64 0, Value.string { data := #[101, 110, 100] }]) :: (Value.slice (some ⟨w2.heap.size, 0, none⟩) 1 1) :: (Value.slice (some ⟨gi, 0, none⟩) L.length ci) :: (Value.int IntKind.i64 (L.length : Int)) :: (Value.slice (some ⟨gi, 0, none⟩) L.length ci) :: (Value.int IntKind.i64 (L.length : Int)) :: (Value.bool false) :: u25 :: u26 :: u27 :: u28 :: u29 :: u30 :: u31 :: u32 :: u33 :: u34 :: u35 :: u36 :: u37 :: u38 :: u39 :: u40 :: u41 :: u42 :: u43 :: u44 :: u45 :: u46 :: u47 :: undef :: undef :: undef :: undef :: undef :: undef :: undef :: undef :: undef :: undef :: undef :: undef :: undef :: undef :: undef :: undef :: undef :: undef :: undef :: undef :: undef :: undef :: undef :: undef :: undef :: undef :: undef :: undef :: undef :: undef :: undef :: undef :: undef :: undef :: undef :: undef :: undef :: undef :: undef :: undef :: undef :: undef :: undef :: undef :: undef :: undef :: undef :: undef :: undef :: undef :: undef :: undef :: undef :: undef :: undef :: undef :: undef :: undef :: undef :: undef :: undef :: undef :: undef :: undef :: undef :: undef :: undef :: undef :: undef :: undef :: undef :: undef :: undef :: undef :: undef :: undef :: undef :: undef :: undef :: undef :: undef :: undef :: undef :: undef :: []).toArray, []⟩ ∧ R9 wr (.slice (some ⟨gb, 0, none⟩) (encs L).length cb) (.slice (some ⟨gb, 0, none⟩) ((encs L).length - 1) cb) (encs L) b0 b1 b2 b3 b4 b5 b6 b7 b8 b9 b10 b11 b12 b13 b14 b15 b16 b17 u5 u6 u7 u33 u34 u35 u36 u37 u38 u39 u40 u41 u42 u43 u44 u45 u46 u47 g1 d1 g8 d8 g11 g14 d14 w') ?hsz ?step ?done (by kernel_rfl) _ _ _ _ ?start ?count
      case hsz =>
        rintro listed a w' ⟨b0, b1, b2, b3, b4, b5, b6, b7, b8, b9, b10, b11, b12, b13, b14, b15, b16, b17, u5, u6, u7, u33, u34, u35, u36, u37, u38, u39, u40, u41, u42, u43, u44, u45, u46, u47, g1, d1, g8, d8, g11, g14, d14, rfl, rfl, h⟩
        rfl
      case count => decide
      case start =>
        refine ⟨false, false, false, false, false, false, false, false, false, false, false, false, false, false, false, false, false, false, undef, undef, undef, undef, undef, undef, undef, undef, undef, undef, undef, undef, undef, undef, undef, undef, undef, undef, 0, 0, 0, 0, 0, 0, 0, rfl, rfl, ?_⟩
        refine ⟨⟨rfl, rfl, rfl, Nat.le_refl _, fun _ _ => rfl⟩, (fun e => (by cases e)), (fun e => (by cases e)), (fun e => (by cases e)), (fun e => (by cases e)), (fun e => (by cases e)), (fun e => (by cases e)), (fun e => (by cases e)), (fun e => (by cases e)), (fun e => (by cases e)), (fun e => (by cases e)), (fun e => (by cases e)), (fun e => (by cases e)), (fun e => (by cases e)), (fun e => (by cases e)), (fun e => (by cases e)), (fun e => (by cases e)), (fun e => (by cases e)), (fun e => (by cases e))⟩
      case step =>
        rintro listed a w' ⟨b0, b1, b2, b3, b4, b5, b6, b7, b8, b9, b10, b11, b12, b13, b14, b15, b16, b17, u5, u6, u7, u33, u34, u35, u36, u37, u38, u39, u40, u41, u42, u43, u44, u45, u46, u47, g1, d1, g8, d8, g11, g14, d14, rfl, rfl, h⟩ i o hi ho K' hK
        obtain ⟨hlt', hnb, hdep0⟩ := ready_iff hi
        have hdep := hdep0 o ho
        have hi18 : i < 18 := hlt'
        have HKK : Hid _ := hK
        have HR : Hid _ := h
        clear hi hdep0 hlt' hK h
        have hcases : i = 0 ∨ i = 1 ∨ i = 2 ∨ i = 3 ∨ i = 4 ∨ i = 5 ∨ i = 6 ∨ i = 7 ∨ i = 8 ∨ i = 9 ∨ i = 10 ∨ i = 11 ∨ i = 12 ∨ i = 13 ∨ i = 14 ∨ i = 15 ∨ i = 16 ∨ i = 17 := by omega
        rcases hcases with rfl | rfl | rfl | rfl | rfl | rfl | rfl | rfl | rfl | rfl | rfl | rfl | rfl | rfl | rfl | rfl | rfl | rfl
        · simp only [List.getElem?_toArray, List.getElem?_cons_zero, Option.some.injEq] at ho
          subst ho
          rw [if_pos (by rfl)]
          have hn : b0 = false := hnb
          clear hn
          go_simp
          exact HKK.out _ _ ⟨true, b1, b2, b3, b4, b5, b6, b7, b8, b9, b10, b11, b12, b13, b14, b15, b16, b17, _, _, _, _, _, _, _, _, _, _, _, _, _, _, _, _, _, _, g1, d1, g8, d8, g11, g14, d14, rfl, rfl, HR.out.s0⟩
        · simp only [List.getElem?_toArray, List.getElem?_cons_zero, List.getElem?_cons_succ, Option.some.injEq] at ho
          subst ho
          rw [if_pos (by rfl)]
          have hn : b1 = false := hnb
          have y0 : b0 = true := hdep ⟨0, .data⟩ (by simp) rfl
          obtain rfl := HR.out.h0 y0
          have n8 : b8 = false := Bool.eq_false_iff.2 (fun e => by obtain ⟨_, _, _, _, _, _, y, _⟩ := HR.out.h8 e; rw [hn] at y; cases y)
          have n14 : b14 = false := Bool.eq_false_iff.2 (fun e => by obtain ⟨_, _, _, _, _, y, _⟩ := HR.out.h14 e; rw [hn] at y; cases y)
          have n15 : b15 = false := Bool.eq_false_iff.2 (fun e => by obtain ⟨_, y⟩ := HR.out.h15 e; rw [hn] at y; cases y)
          have HN : Hid (b8 = false ∧ b14 = false ∧ b15 = false) := ⟨n8, n14, n15⟩
          clear hn n8 n14 n15
          go_simp
          refine (newreader_any (HBS.out.later HR.out.bel) (by omega)).mono ?_
          rintro e w'' ⟨g, d, rfl, hr, hg, hd, hb⟩
          have HX : Hid _ := HR.out.s1 g d hb hr hg hd HN.out.1 HN.out.2.1 HN.out.2.2
          clear hr hb
          go_simp
          exact HKK.out _ _ ⟨b0, true, b2, b3, b4, b5, b6, b7, b8, b9, b10, b11, b12, b13, b14, b15, b16, b17, _, _, _, _, _, _, _, _, _, _, _, _, _, _, _, _, _, _, g, d, g8, d8, g11, g14, d14, rfl, rfl, HX.out⟩
        · simp only [List.getElem?_toArray, List.getElem?_cons_zero, List.getElem?_cons_succ, Option.some.injEq] at ho
          subst ho
          rw [if_pos (by rfl)]
          have hn : b2 = false := hnb
          clear hn
          go_simp
          exact HKK.out _ _ ⟨b0, b1, true, b3, b4, b5, b6, b7, b8, b9, b10, b11, b12, b13, b14, b15, b16, b17, _, _, _, _, _, _, _, _, _, _, _, _, _, _, _, _, _, _, g1, d1, g8, d8, g11, g14, d14, rfl, rfl, HR.out.s2⟩
        · simp only [List.getElem?_toArray, List.getElem?_cons_zero, List.getElem?_cons_succ, Option.some.injEq] at ho
          subst ho
          rw [if_pos (by rfl)]
          have hn : b3 = false := hnb
          clear hn
          go_simp
          exact HKK.out _ _ ⟨b0, b1, b2, true, b4, b5, b6, b7, b8, b9, b10, b11, b12, b13, b14, b15, b16, b17, _, _, _, _, _, _, _, _, _, _, _, _, _, _, _, _, _, _, g1, d1, g8, d8, g11, g14, d14, rfl, rfl, HR.out.s3⟩
        · simp only [List.getElem?_toArray, List.getElem?_cons_zero, List.getElem?_cons_succ, Option.some.injEq] at ho
          subst ho
          rw [if_pos (by rfl)]
          have hn : b4 = false := hnb
          have y3 : b3 = true := hdep ⟨3, .data⟩ (by simp) rfl
          obtain rfl := HR.out.h3 y3
          clear hn
          go_simp
          exact HKK.out _ _ ⟨b0, b1, b2, b3, true, b5, b6, b7, b8, b9, b10, b11, b12, b13, b14, b15, b16, b17, _, _, _, _, _, _, _, _, _, _, _, _, _, _, _, _, _, _, g1, d1, g8, d8, g11, g14, d14, rfl, rfl, HR.out.s4⟩
        · simp only [List.getElem?_toArray, List.getElem?_cons_zero, List.getElem?_cons_succ, Option.some.injEq] at ho
          subst ho
          rw [if_pos (by rfl)]
          have hn : b5 = false := hnb
          have y4 : b4 = true := hdep ⟨4, .data⟩ (by simp) rfl
          obtain rfl := HR.out.h4 y4
          have hw : IntKind.i64.wrap (((encs L).length : Int) - 1) = ((encs L).length : Int) - 1 := by rw [IntKind.wrap_i64]; omega
          clear hn
          go_simp
          exact HKK.out _ _ ⟨b0, b1, b2, b3, b4, true, b6, b7, b8, b9, b10, b11, b12, b13, b14, b15, b16, b17, _, _, _, _, _, _, _, _, _, _, _, _, _, _, _, _, _, _, g1, d1, g8, d8, g11, g14, d14, rfl, rfl, HR.out.s5⟩
        · simp only [List.getElem?_toArray, List.getElem?_cons_zero, List.getElem?_cons_succ, Option.some.injEq] at ho
          subst ho
          rw [if_pos (by rfl)]
          have hn : b6 = false := hnb
          have y5 : b5 = true := hdep ⟨5, .data⟩ (by simp) rfl
          obtain rfl := HR.out.h5 y5
          have hw : (1 : Int) < ((encs L).length : Int) := by omega
          clear hn
          go_simp
          exact HKK.out _ _ ⟨b0, b1, b2, b3, b4, b5, true, b7, b8, b9, b10, b11, b12, b13, b14, b15, b16, b17, _, _, _, _, _, _, _, _, _, _, _, _, _, _, _, _, _, _, g1, d1, g8, d8, g11, g14, d14, rfl, rfl, HR.out.s6⟩
        · simp only [List.getElem?_toArray, List.getElem?_cons_zero, List.getElem?_cons_succ, Option.some.injEq] at ho
          subst ho
          rw [if_pos (by rfl)]
          have hn : b7 = false := hnb
          have y2 : b2 = true := hdep ⟨2, .data⟩ (by simp) rfl
          have y6 : b6 = true := hdep ⟨6, .data⟩ (by simp) rfl
          obtain rfl := HR.out.h2 y2
          obtain rfl := HR.out.h6 y6
          clear hn
          go_simp
          exact HKK.out _ _ ⟨b0, b1, b2, b3, b4, b5, b6, true, b8, b9, b10, b11, b12, b13, b14, b15, b16, b17, _, _, _, _, _, _, _, _, _, _, _, _, _, _, _, _, _, _, g1, d1, g8, d8, g11, g14, d14, rfl, rfl, HR.out.s7⟩
        · simp only [List.getElem?_toArray, List.getElem?_cons_zero, List.getElem?_cons_succ, Option.some.injEq] at ho
          subst ho
          rw [if_pos (by rfl)]
          have hn : b8 = false := hnb
          have y7 : b7 = true := hdep ⟨7, .data⟩ (by simp) rfl
          have y1 : b1 = true := hdep ⟨1, .chain⟩ (by simp) rfl
          obtain rfl := HR.out.h7 y7
          have n14 : b14 = false := Bool.eq_false_iff.2 (fun e => by obtain ⟨_, _, _, _, y, _⟩ := HR.out.h14 e; rw [hn] at y; cases y)
          have n16 : b16 = false := Bool.eq_false_iff.2 (fun e => by obtain ⟨_, y⟩ := HR.out.h16 e; rw [hn] at y; cases y)
          have HN : Hid (b1 = true ∧ b14 = false ∧ b16 = false) := ⟨y1, n14, n16⟩
          clear hn n14 n16 y1 y7
          go_simp
          refine (newreader_any (HBT.out.later HR.out.bel) (by simp; omega)).mono ?_
          rintro e w'' ⟨g, d, rfl, hr, hg, hd, hb⟩
          have HX : Hid _ := HR.out.s8 g d hb hr hg hd HN.out.1 HN.out.2.1 HN.out.2.2
          clear hr hb
          go_simp
          exact HKK.out _ _ ⟨b0, b1, b2, b3, b4, b5, b6, b7, true, b9, b10, b11, b12, b13, b14, b15, b16, b17, _, _, _, _, _, _, _, _, _, _, _, _, _, _, _, _, _, _, g1, d1, g, d, g11, g14, d14, rfl, rfl, HX.out⟩
        · simp only [List.getElem?_toArray, List.getElem?_cons_zero, List.getElem?_cons_succ, Option.some.injEq] at ho
          subst ho
          rw [if_pos (by rfl)]
          have hn : b9 = false := hnb
          clear hn
          go_simp
          exact HKK.out _ _ ⟨b0, b1, b2, b3, b4, b5, b6, b7, b8, true, b10, b11, b12, b13, b14, b15, b16, b17, _, _, _, _, _, _, _, _, _, _, _, _, _, _, _, _, _, _, g1, d1, g8, d8, g11, g14, d14, rfl, rfl, (HR.out.grow (balloc w' _)).s9 _⟩
        · simp only [List.getElem?_toArray, List.getElem?_cons_zero, List.getElem?_cons_succ, Option.some.injEq] at ho
          subst ho
          rw [if_pos (by rfl)]
          have hn : b10 = false := hnb
          clear hn
          go_simp
          exact HKK.out _ _ ⟨b0, b1, b2, b3, b4, b5, b6, b7, b8, b9, true, b11, b12, b13, b14, b15, b16, b17, _, _, _, _, _, _, _, _, _, _, _, _, _, _, _, _, _, _, g1, d1, g8, d8, g11, g14, d14, rfl, rfl, HR.out.s10⟩
        · simp only [List.getElem?_toArray, List.getElem?_cons_zero, List.getElem?_cons_succ, Option.some.injEq] at ho
          subst ho
          rw [if_pos (by rfl)]
          have hn : b11 = false := hnb
          have y9 : b9 = true := hdep ⟨9, .data⟩ (by simp) rfl
          have y10 : b10 = true := hdep ⟨10, .data⟩ (by simp) rfl
          obtain ⟨ax, rfl⟩ := HR.out.h9 y9
          obtain rfl := HR.out.h10 y10
          have y8 : b8 = true := hdep ⟨8, .chain⟩ (by simp) rfl
          have n13 : b13 = false := Bool.eq_false_iff.2 (fun e => by obtain ⟨_, y⟩ := HR.out.h13 e; rw [hn] at y; cases y)
          refine wp_append_new (HBS.out.later HR.out.bel) (by omega) (by omega) ax (.tmp 42) (.tmp 43) rfl rfl rfl ?_
          intro d cap w'' ho hb hd hdw
          exact HKK.out _ _ ⟨b0, b1, b2, b3, b4, b5, b6, b7, b8, b9, b10, true, b12, b13, b14, b15, b16, b17, _, _, _, _, _, _, _, _, _, _, _, _, _, _, _, _, _, _, g1, d1, g8, d8, d, g14, d14, rfl, rfl, HR.out.s11 d cap hb ho hd hdw n13 y8⟩
        · simp only [List.getElem?_toArray, List.getElem?_cons_zero, List.getElem?_cons_succ, Option.some.injEq] at ho
          subst ho
          rw [if_pos (by rfl)]
          have hn : b12 = false := hnb
          clear hn
          go_simp
          exact HKK.out _ _ ⟨b0, b1, b2, b3, b4, b5, b6, b7, b8, b9, b10, b11, true, b13, b14, b15, b16, b17, _, _, _, _, _, _, _, _, _, _, _, _, _, _, _, _, _, _, g1, d1, g8, d8, g11, g14, d14, rfl, rfl, (HR.out.grow (balloc w' _)).s12 _ (lit_bs w' _ [7] 1 rfl rfl)⟩
        · simp only [List.getElem?_toArray, List.getElem?_cons_zero, List.getElem?_cons_succ, Option.some.injEq] at ho
          subst ho
          rw [if_pos (by rfl)]
          have hn : b13 = false := hnb
          have y11 : b11 = true := hdep ⟨11, .data⟩ (by simp) rfl
          have y12 : b12 = true := hdep ⟨12, .data⟩ (by simp) rfl
          obtain ⟨cap, p1, p2, p3, p4, p5⟩ := HR.out.h11 y11
          have n14 : b14 = false := Bool.eq_false_iff.2 (fun e => by obtain ⟨_, _, _, _, _, _, y, _⟩ := HR.out.h14 e; rw [hn] at y; cases y)
          have ho := p2 hn
          have hgr : wr.heap.size ≤ g11 := by rw [p1] at ho; exact (World.ownsRow.lt ho g11 rfl).1
          refine wp_append_own ho (HR.out.h12 y12 hn) (by simp; omega) HR.out.bel.size (.tmp 44) (.tmp 45) rfl rfl rfl ?_
          intro v' w'' ho' hg' hat'
          rw [p1] at hg'
          exact HKK.out _ _ ⟨b0, b1, b2, b3, b4, b5, b6, b7, b8, b9, b10, b11, b12, true, b14, b15, b16, b17, _, _, _, _, _, _, _, _, _, _, _, _, _, _, _, _, _, _, g1, d1, g8, d8, g11, g14, d14, rfl, rfl, HR.out.s13 v' y11 ho'.bs hg' hgr n14⟩
        · simp only [List.getElem?_toArray, List.getElem?_cons_zero, List.getElem?_cons_succ, Option.some.injEq] at ho
          subst ho
          rw [if_pos (by rfl)]
          have hn : b14 = false := hnb
          have y13 : b13 = true := hdep ⟨13, .data⟩ (by simp) rfl
          have y8 : b8 = true := by obtain ⟨_, _, _, _, _, _, y⟩ := HR.out.h11 (HR.out.h13 y13).2; exact y
          have y1 : b1 = true := (HR.out.h8 y8).2.2.2.2.2.2.1
          have n17 : b17 = false := Bool.eq_false_iff.2 (fun e => by obtain ⟨_, y⟩ := HR.out.h17 e; rw [hn] at y; cases y)
          have HN : Hid (b1 = true ∧ b8 = true ∧ b13 = true ∧ b17 = false) := ⟨y1, y8, y13, n17⟩
          have HV : Hid _ := (HR.out.h13 y13).1
          clear hn n17 y1 y8 y13
          go_simp
          refine (newreader_any HV.out (by simp; omega)).mono ?_
          rintro e w'' ⟨g, d, rfl, hr, hg, hd, hb⟩
          have HX : Hid _ := HR.out.s14 g d hb hr hg hd HN.out.1 HN.out.2.1 HN.out.2.2.1 HN.out.2.2.2
          clear hr hb
          go_simp
          exact HKK.out _ _ ⟨b0, b1, b2, b3, b4, b5, b6, b7, b8, b9, b10, b11, b12, b13, true, b15, b16, b17, _, _, _, _, _, _, _, _, _, _, _, _, _, _, _, _, _, _, g1, d1, g8, d8, g11, g, d, rfl, rfl, HX.out⟩
        · simp only [List.getElem?_toArray, List.getElem?_cons_zero, List.getElem?_cons_succ, Option.some.injEq] at ho
          subst ho
          rw [if_pos (by rfl)]
          have hn : b15 = false := hnb
          have y1 : b1 = true := hdep ⟨1, .data⟩ (by simp) rfl
          clear hn
          go_simp
          exact HKK.out _ _ ⟨b0, b1, b2, b3, b4, b5, b6, b7, b8, b9, b10, b11, b12, b13, b14, true, b16, b17, _, _, _, _, _, _, _, _, _, _, _, _, _, _, _, _, _, _, g1, d1, g8, d8, g11, g14, d14, rfl, rfl, HR.out.s15 y1⟩
        · simp only [List.getElem?_toArray, List.getElem?_cons_zero, List.getElem?_cons_succ, Option.some.injEq] at ho
          subst ho
          rw [if_pos (by rfl)]
          have hn : b16 = false := hnb
          have y8 : b8 = true := hdep ⟨8, .data⟩ (by simp) rfl
          clear hn
          go_simp
          exact HKK.out _ _ ⟨b0, b1, b2, b3, b4, b5, b6, b7, b8, b9, b10, b11, b12, b13, b14, b15, true, b17, _, _, _, _, _, _, _, _, _, _, _, _, _, _, _, _, _, _, g1, d1, g8, d8, g11, g14, d14, rfl, rfl, HR.out.s16 y8⟩
        · simp only [List.getElem?_toArray, List.getElem?_cons_zero, List.getElem?_cons_succ, Option.some.injEq] at ho
          subst ho
          rw [if_pos (by rfl)]
          have hn : b17 = false := hnb
          have y14 : b14 = true := hdep ⟨14, .data⟩ (by simp) rfl
          clear hn
          go_simp
          exact HKK.out _ _ ⟨b0, b1, b2, b3, b4, b5, b6, b7, b8, b9, b10, b11, b12, b13, b14, b15, b16, true, _, _, _, _, _, _, _, _, _, _, _, _, _, _, _, _, _, _, g1, d1, g8, d8, g11, g14, d14, rfl, rfl, HR.out.s17 y14⟩
      case done =>
        rintro listed a w' ⟨b0, b1, b2, b3, b4, b5, b6, b7, b8, b9, b10, b11, b12, b13, b14, b15, b16, b17, u5, u6, u7, u33, u34, u35, u36, u37, u38, u39, u40, u41, u42, u43, u44, u45, u46, u47, g1, d1, g8, d8, g11, g14, d14, rfl, rfl, h⟩ hall
        have y1 : b1 = true := hall 1 (by decide)
        have y8 : b8 = true := hall 8 (by decide)
        have y14 : b14 = true := hall 14 (by decide)
        have y15 : b15 = true := hall 15 (by decide)
        have y16 : b16 = true := hall 16 (by decide)
        have y17 : b17 = true := hall 17 (by decide)
        obtain ⟨rfl, r1, q1, q2, q3, q4⟩ := h.h1 y1
        obtain ⟨rfl, r8, q5, q6, q7, q8, _, q9, q10, q11, q12⟩ := h.h8 y8
        obtain ⟨rfl, r14, q13, q14, _, _, _, q15, q16, q17, q18, q19, q20, q21, q22⟩ := h.h14 y14
        obtain ⟨rfl, _⟩ := h.h15 y15
        obtain ⟨rfl, _⟩ := h.h16 y16
        obtain ⟨rfl, _⟩ := h.h17 y17
        have hb14 : g14 < w'.heap.size ∧ d14 < w'.heap.size ∧ d14 ≠ g14 := by obtain ⟨_, _, _, _, _, x1, x2, x3, _⟩ := r14; exact ⟨x1, x2, x3⟩
        have hzr := HB.out.size
        have hz3 := B0.out.size
        have BW : Hid (Below w3.heap.size w3 w') := HB.out.trans (h.bel.mono hzr)
        have hx1 : Hid (encs L = encs (L.drop 0)) := rfl
        have F1 : Hid (RD w' g1 d1 (encs (L.drop 0))) := r1
        have F8 : Hid (RD w' g8 d8 (dl (encs (L.drop (min 0 (L.length - 1)))))) := by
          show RD _ _ _ _
          rw [Nat.zero_min]
          exact r8
        have F14 : Hid (RD w' g14 d14 (encs (L.drop 0) ++ [7])) := r14
        have N1 : Hid (w3.heap.size ≤ g1 ∧ w3.heap.size ≤ g8 ∧ w3.heap.size ≤ g14) := by refine ⟨?_, ?_, ?_⟩ <;> omega
        have N2 : Hid (g8 ∉ [g1] ∧ d8 ∉ [g1] ∧ g14 ∉ [g1] ∧ d14 ∉ [g1]) := by refine ⟨?_, ?_, ?_, ?_⟩ <;> (simp only [List.mem_cons, List.not_mem_nil, or_false]; omega)
        have N3 : Hid (g1 ∉ [g8] ∧ d1 ∉ [g8] ∧ g14 ∉ [g8] ∧ d14 ∉ [g8]) := by refine ⟨?_, ?_, ?_, ?_⟩ <;> (simp only [List.mem_cons, List.not_mem_nil, or_false]; omega)
        have N4 : Hid (g1 ∉ [g14] ∧ d1 ∉ [g14] ∧ g8 ∉ [g14] ∧ d8 ∉ [g14]) := by refine ⟨?_, ?_, ?_, ?_⟩ <;> (simp only [List.mem_cons, List.not_mem_nil, or_false]; omega)
        clear h hall r1 r8 r14 y1 y8 y14 y15 y16 y17 q1 q2 q3 q4 q5 q6 q7 q8 q9 q10 q11 q12 q13 q14 q15 q16 q17 q18 q19 q20 q21 q22 hb14 HBS HBT hsl hx1 HB hk hlt
        go_wp2_with fail
        go_loopw [8] (fun i wr2 => ∃ k : Nat, k ≤ L.length ∧ i = .int .i64 k ∧ RD wr2 g1 d1 (encs (L.drop k)) ∧ RD wr2 g8 d8 (dl (encs (L.drop (min k (L.length - 1))))) ∧ RD wr2 g14 d14 (encs (L.drop k) ++ [7]) ∧ Below w3.heap.size w3 wr2) (fun i _ => L.length - (intOf i).toNat)
        case atStart => exact ⟨0, Nat.zero_le _, rfl, F1.out, F8.out, F14.out, BW.out⟩
        case round =>
          clear F1 F8 F14 BW
          obtain ⟨k, hk, rfl, f1, f8, f14, bw⟩ := hrel
          have F1 : Hid (RD wr g1 d1 (encs (L.drop k))) := f1
          have F8 : Hid (RD wr g8 d8 (dl (encs (L.drop (min k (L.length - 1)))))) := f8
          have F14 : Hid (RD wr g14 d14 (encs (L.drop k) ++ [7])) := f14
          have BW : Hid (Below w3.heap.size w3 wr) := bw
          clear f1 f8 f14 bw
          by_cases hlt : k < L.length
          · have HC : Hid ((icells L)[k * 3]? = some (.int .i64 L[k].k) ∧ (icells L)[k * 3 + 1]? = some (.int .u64 L[k].x) ∧ (icells L)[k * 3 + 2]? = some (.string L[k].s)) := icells_get L k hlt
            have HFk : Hid (-9223372036854775808 ≤ L[k].k ∧ L[k].k ≤ 9223372036854775807 ∧ L[k].x < 18446744073709551616 ∧ L[k].s.size ≤ 1000000000) := HF.out L[k] (List.getElem_mem hlt)
            have z0 : wr.cell? ⟨gi, k * 3, none⟩ = some (.int .i64 L[k].k) := by rw [BW.out.cell (p := ⟨gi, k * 3, none⟩) hgw]; exact HI.out _ _ HC.out.1
            have z1 : wr.cell? ⟨gi, k * 3 + 1, none⟩ = some (.int .u64 L[k].x) := by rw [BW.out.cell (p := ⟨gi, k * 3 + 1, none⟩) hgw]; exact HI.out _ _ HC.out.2.1
            have z2 : wr.cell? ⟨gi, k * 3 + 2, none⟩ = some (.string L[k].s) := by rw [BW.out.cell (p := ⟨gi, k * 3 + 2, none⟩) hgw]; exact HI.out _ _ HC.out.2.2
            go_wp2_with fail
            refine (back_any L[k] HFk.out.1 HFk.out.2.1 HFk.out.2.2.1 HFk.out.2.2.2 (r := encs (L.drop (k + 1))) (by rw [← encs_drop L k hlt]; exact F1.out)).mono ?_
            rintro e w4 ⟨rfl, hr4, ho4⟩
            have G1 : Hid (RD w4 g1 d1 (encs (L.drop (k + 1)))) := hr4
            have G8 : Hid (RD w4 g8 d8 (dl (encs (L.drop (min k (L.length - 1)))))) := F8.out.only ho4 N2.out.1 N2.out.2.1
            have G14 : Hid (RD w4 g14 d14 (encs (L.drop k) ++ [7])) := F14.out.only ho4 N2.out.2.2.1 N2.out.2.2.2
            have BW4 : Hid (Below w3.heap.size w3 w4) := BW.out.trans (ho4.below BW.out.size (by have := N1.out; simp; omega))
            clear hr4 ho4 F1 F8 F14 BW z0 z1 z2
            have z0 : w4.cell? ⟨gi, k * 3, none⟩ = some (.int .i64 L[k].k) := by rw [BW4.out.cell (p := ⟨gi, k * 3, none⟩) hgw]; exact HI.out _ _ HC.out.1
            have z1 : w4.cell? ⟨gi, k * 3 + 1, none⟩ = some (.int .u64 L[k].x) := by rw [BW4.out.cell (p := ⟨gi, k * 3 + 1, none⟩) hgw]; exact HI.out _ _ HC.out.2.1
            have z2 : w4.cell? ⟨gi, k * 3 + 2, none⟩ = some (.string L[k].s) := by rw [BW4.out.cell (p := ⟨gi, k * 3 + 2, none⟩) hgw]; exact HI.out _ _ HC.out.2.2
            go_wp2_with fail
            refine (back_any L[k] HFk.out.1 HFk.out.2.1 HFk.out.2.2.1 HFk.out.2.2.2 (r := encs (L.drop (k + 1)) ++ [7]) (by rw [← List.append_assoc, ← encs_drop L k hlt]; exact G14.out)).mono ?_
            rintro e w5 ⟨rfl, hr5, ho5⟩
            have K1 : Hid (RD w5 g1 d1 (encs (L.drop (k + 1)))) := G1.out.only ho5 N4.out.1 N4.out.2.1
            have K8 : Hid (RD w5 g8 d8 (dl (encs (L.drop (min k (L.length - 1)))))) := G8.out.only ho5 N4.out.2.2.1 N4.out.2.2.2
            have K14 : Hid (RD w5 g14 d14 (encs (L.drop (k + 1)) ++ [7])) := hr5
            have BW5 : Hid (Below w3.heap.size w3 w5) := BW4.out.trans (ho5.below BW4.out.size (by have := N1.out; simp; omega))
            clear hr5 ho5 G1 G8 G14 BW4 z0 z1 z2
            by_cases hl2 : k < L.length - 1
            · have z0 : w5.cell? ⟨gi, k * 3, none⟩ = some (.int .i64 L[k].k) := by rw [BW5.out.cell (p := ⟨gi, k * 3, none⟩) hgw]; exact HI.out _ _ HC.out.1
              have z1 : w5.cell? ⟨gi, k * 3 + 1, none⟩ = some (.int .u64 L[k].x) := by rw [BW5.out.cell (p := ⟨gi, k * 3 + 1, none⟩) hgw]; exact HI.out _ _ HC.out.2.1
              have z2 : w5.cell? ⟨gi, k * 3 + 2, none⟩ = some (.string L[k].s) := by rw [BW5.out.cell (p := ⟨gi, k * 3 + 2, none⟩) hgw]; exact HI.out _ _ HC.out.2.2
              have hl3 : (k : Int) < (L.length : Int) - 1 := by omega
              have hmin : Hid (dl (encs (L.drop (min k (L.length - 1)))) = L[k].enc ++ dl (encs (L.drop (min (k + 1) (L.length - 1))))) := by
                show _ = _
                rw [Nat.min_eq_left (by omega), Nat.min_eq_left (by omega), encs_drop L k hlt, dl_append]
                have e1 : L.drop (k + 1) = l.drop (k + 1) ++ [eI] := by rw [← HLL.out, List.drop_append_of_le_length]; rw [← HLL.out] at hl2; simp at hl2; omega
                rw [e1, encs_append, List.length_append]
                have : (encs [eI]).length = 7 := by decide
                omega
              go_wp2_with fail
              refine (back_any L[k] HFk.out.1 HFk.out.2.1 HFk.out.2.2.1 HFk.out.2.2.2 (r := dl (encs (L.drop (min (k + 1) (L.length - 1))))) (by rw [← hmin.out]; exact K8.out)).mono ?_
              rintro e w6 ⟨rfl, hr6, ho6⟩
              have M1 : Hid (RD w6 g1 d1 (encs (L.drop (k + 1)))) := K1.out.only ho6 N3.out.1 N3.out.2.1
              have M8 : Hid (RD w6 g8 d8 (dl (encs (L.drop (min (k + 1) (L.length - 1)))))) := hr6
              have M14 : Hid (RD w6 g14 d14 (encs (L.drop (k + 1)) ++ [7])) := K14.out.only ho6 N3.out.2.2.1 N3.out.2.2.2
              have BW6 : Hid (Below w3.heap.size w3 w6) := BW5.out.trans (ho6.below BW5.out.size (by have := N1.out; simp; omega))
              clear hr6 ho6 K1 K8 K14 BW5 z0 z1 z2
              go_wp2_with fail
              go_roundw
              case rel => exact ⟨k + 1, by omega, by go_num, M1.out, M8.out, M14.out, BW6.out⟩
              case measure => simp [intOf]; omega
            · have hl3 : ¬ (k : Int) < (L.length : Int) - 1 := by omega
              have hmin : Hid (min k (L.length - 1) = min (k + 1) (L.length - 1)) := by show _ = _; omega
              have M8 : Hid (RD w5 g8 d8 (dl (encs (L.drop (min (k + 1) (L.length - 1)))))) := by show RD _ _ _ _; rw [← hmin.out]; exact K8.out
              clear K8
              go_wp2_with fail
              go_roundw
              case rel => exact ⟨k + 1, by omega, by go_num, K1.out, M8.out, K14.out, BW5.out⟩
              case measure => simp [intOf]; omega
          · obtain rfl : k = L.length := by omega
            have F1' : Hid (RD wr g1 d1 []) := by have := F1.out; rw [List.drop_length] at this; exact this
            have F14' : Hid (RD wr g14 d14 [7]) := by have := F14.out; rw [List.drop_length] at this; exact this
            have F8' : Hid (RD wr g8 d8 [3, 0, 0, 0, 101, 110]) := by
              have := F8.out
              have e1 : L.drop (min L.length (L.length - 1)) = [eI] := by
                rw [Nat.min_eq_right (by omega), ← HLL.out]
                simp
              rw [e1] at this
              exact this
            clear F1 F14 F8
            go_wp2_with fail
            refine (left_any F8'.out).mono ?_
            rintro e w4 ⟨rfl, rfl⟩
            go_wp2_with fail
            refine (text_any' F8'.out 3).mono ?_
            rintro e w5 ⟨rfl, hr5, hg5⟩
            rw [show textS 3 [3, 0, 0, 0, 101, 110] = ([], 11, [3, 0, 0, 0, 101, 110]) from by decide] at hr5 ⊢
            have O5 : Hid (Only [g8] _ w5) := Only.of_grown hg5
            have H8 : Hid (RD w5 g8 d8 [3, 0, 0, 0, 101, 110]) := hr5
            have H1 : Hid (RD w5 g1 d1 []) := F1'.out.only O5.out N3.out.1 N3.out.2.1
            have H14 : Hid (RD w5 g14 d14 [7]) := F14'.out.only O5.out N3.out.2.2.1 N3.out.2.2.2
            have B5 : Hid (Below w3.heap.size w3 w5) := BW.out.trans (O5.out.below BW.out.size (by have := N1.out; simp; omega))
            clear hr5 hg5
            go_wp2_with fail
            refine (end_any H1.out).mono ?_
            rintro e w6 ⟨rfl, rfl⟩
            go_wp2_with fail
            refine (left_any H1.out).mono ?_
            rintro e w6 ⟨rfl, rfl⟩
            go_wp2_with fail
            refine (end_any H14.out).mono ?_
            rintro e w6 ⟨rfl, rfl⟩
            go_wp2_with fail
            refine (left_any H14.out).mono ?_
            rintro e w6 ⟨rfl, rfl⟩
            go_wp2_with fail
            refine (left_any H8.out).mono ?_
            rintro e w6 ⟨rfl, rfl⟩
            go_wp2_with fail
            go_ret
            exact ⟨rfl, B0.out.trans (B5.out.mono (by omega))⟩

end Go.Proofs.Ytefhdnhhcgbbjaa
