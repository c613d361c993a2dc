import Derived.Test.YtefhdnhhcgbbjaaRef
namespace Go.Proofs.Ytefhdnhhcgbbjaa
open Go.RowKit

theorem lit_bs (w : World) (cs : Array Value) (l : List UInt8) (n : Nat) (hc : cs = (bc l).toArray) (hn : n = l.length) : BS (w.alloc (.cells cs 5)) (.slice (some ⟨w.heap.size, 0, none⟩) n n) l := by
  subst hc hn
  refine .inr ⟨w.heap.size, 0, l.length, rfl, Nat.le_refl _, by simp, fun i u hu => ?_⟩
  have hb : (w.alloc (.cells (bc l).toArray 5)).heap[w.heap.size]? = some (.cells (bc l).toArray 5 (0, 0)) := heap_alloc_new w _
  have := World.news_of_block hb i u (by simpa using hu)
  rw [add_lit] at this
  exact this

theorem balloc (w : World) (o : Obj) : Below w.heap.size w (w.alloc o) := (Below.refl _ _).alloc (Nat.le_refl _) _
/-- two steps, each of which leaves what was there -/
theorem bstep {a b c : World} (h : Below a.heap.size a b) (k : Below b.heap.size b c) : Below a.heap.size a c := h.trans (k.mono h.size)

set_option maxHeartbeats 1000000 in
theorem head_any (w : World) : Calls Try.prog 7 #[] w fun e w' => e = .returned (.bool true) ∧ Below w.heap.size w w' := by
  go_enter Try.func7, Try.ntmps7
  go_wp2_with fail
  refine (newreader_any (l := [2, 0, 0, 0, 97, 98, 7]) (lit_bs _ _ _ _ (by simp [bc]) rfl) (by simp)).mono ?_
  rintro e w1 ⟨g, d, rfl, hr, hg, hd, hb⟩
  have HB : Hid (Below w.heap.size w w1) := bstep (balloc w _) hb
  have HR : Hid (RD w1 g d [2, 0, 0, 0, 97, 98, 7]) := hr
  clear hb hr
  go_wp2_with fail
  refine (put16_any (l := [9]) (lit_bs _ _ _ _ (by simp [bc]) rfl) _ 258 rfl (by omega) (by simp)).mono ?_
  rintro e w2 ⟨v2, rfl, ho2, hb2⟩
  have HB2 : Hid (Below w1.heap.size w1 w2) := bstep (balloc w1 _) hb2
  have HO2 : Hid (BS w2 v2 [9, 2, 1]) := ho2.bs
  clear hb2 ho2
  go_wp2_with fail
  refine (same_any (HO2.out.later (balloc w2 _)) (lit_bs _ _ [9, 2, 1] _ (by simp [bc]) rfl)).mono ?_
  rintro e w3 ⟨rfl, rfl⟩
  have HB3 : Hid (Below w1.heap.size w1 (w2.alloc (.cells #[.int .u8 9, .int .u8 2, .int .u8 1] 5))) := bstep HB2.out (balloc w2 _)
  go_wp2_with fail
  refine (text_any (l := []) (BS_nil _) ⟨#[97, 98]⟩ (by decide) (by simp)).mono ?_
  rintro e w4 ⟨v4, rfl, ho4, hb4⟩
  have HB4 : Hid (Below w1.heap.size w1 w4) := bstep HB3.out hb4
  have HO4 : Hid (BS w4 v4 [2, 0, 0, 0, 97, 98]) := ho4.bs
  clear hb4 ho4 HB3 HB2 HO2
  go_wp2_with fail
  refine (same_any (HO4.out.later (balloc w4 _)) (lit_bs _ _ [2, 0, 0, 0, 97, 98] _ (by simp [bc]) rfl)).mono ?_
  rintro e w5 ⟨rfl, rfl⟩
  have HB5 : Hid (Below w1.heap.size w1 (w4.alloc (.cells #[.int .u8 2, .int .u8 0, .int .u8 0, .int .u8 0, .int .u8 97, .int .u8 98] 5))) := bstep HB4.out (balloc w4 _)
  generalize w4.alloc (.cells #[.int .u8 2, .int .u8 0, .int .u8 0, .int .u8 0, .int .u8 97, .int .u8 98] 5) = w5 at *
  have HR5 : Hid (RD w5 g d [2, 0, 0, 0, 97, 98, 7]) := HR.out.later HB5.out
  have HBa : Hid (Below w.heap.size w w5) := bstep HB.out HB5.out
  clear HB4 HO4 HB5 HR HB
  go_wp2_with fail
  refine (text_any' HR5.out 1).mono ?_
  rintro e w6 ⟨rfl, hr6, hg6⟩
  have HR6 : Hid (RD w6 g d [2, 0, 0, 0, 97, 98, 7]) := hr6
  have HG6 : Hid (w5.grownBy w6 (some g)) := hg6
  rw [show textS 1 [2, 0, 0, 0, 97, 98, 7] = ([], 12, [2, 0, 0, 0, 97, 98, 7]) from by decide]
  clear hr6 hg6
  go_wp2_with fail
  refine (text_any' HR6.out 2).mono ?_
  rintro e w7 ⟨rfl, hr7, hg7⟩
  have HR7 : Hid (RD w7 g d [7]) := hr7
  have HG7 : Hid (w6.grownBy w7 (some g)) := hg7
  rw [show textS 2 [2, 0, 0, 0, 97, 98, 7] = ([97, 98], 0, [7]) from by decide]
  clear hr7 hg7
  go_wp2_with fail
  refine (left_any HR7.out).mono ?_
  rintro e w8 ⟨rfl, rfl⟩
  go_wp2_with fail
  refine (end_any HR7.out).mono ?_
  rintro e w9 ⟨rfl, rfl⟩
  go_wp2_with fail
  go_ret
  refine ⟨rfl, ?_⟩
  have hg' : w.heap.size ≤ g := by simp at hg; omega
  have h6 := HBa.out.grown HG6.out HBa.out.size (by intro k hk; cases hk; exact hg')
  exact h6.grown HG7.out h6.size (by intro k hk; cases hk; exact hg')

theorem rput_at {w : World} {v : Value} {l : List UInt8} (h : BS w v l) (n : Int) (x : Nat) (hn : n = (x : Int)) (hx : x < 18446744073709551616) (z : Int) (W : Nat) (hz : z = (W : Int)) (hW : W ≤ 8) (hm : l.length ≤ 1000000000000) :
    Calls Try.prog 18 #[v, .int .u64 n, .int .i64 z] w fun e w' => ∃ v', e = .returned v' ∧ Own w.heap.size w' v' (l ++ le W x) ∧ Below w.heap.size w w' := by
  subst hn hz
  exact rput_any h x hx W hW hm

/-- three rows laid in a new block -/
theorem rws3 (w : World) (a b c : Value) (la lb lc : List UInt8) (ha : BS w a la) (hb : BS w b lb) (hc : BS w c lc) : Rws (w.alloc (.cells #[a, b, c] 27)) (.slice (some ⟨w.heap.size, 0, none⟩) 3 3) [la, lb, lc] := by
  refine .inr ⟨w.heap.size, 3, rfl, by simp, by simp, fun i l hl => ?_⟩
  have hB : (w.alloc (.cells #[a, b, c] 27)).heap[w.heap.size]? = some (.cells #[a, b, c] 27 (0, 0)) := heap_alloc_new w _
  have hn := World.news_of_block hB
  have al := balloc w (.cells #[a, b, c] 27)
  match i, hl with
  | 0, hl => cases hl; exact ⟨a, by have := hn 0 a rfl; rw [add_lit] at this; exact this, ha.later al⟩
  | 1, hl => cases hl; exact ⟨b, by have := hn 1 b rfl; rw [add_lit] at this; exact this, hb.later al⟩
  | 2, hl => cases hl; exact ⟨c, by have := hn 2 c rfl; rw [add_lit] at this; exact this, hc.later al⟩

end Go.Proofs.Ytefhdnhhcgbbjaa
