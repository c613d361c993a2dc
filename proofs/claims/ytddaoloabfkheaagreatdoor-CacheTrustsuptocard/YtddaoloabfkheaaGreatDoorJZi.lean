/-
  An entry of a key; the youngest; lists that are copied.
  Lists that are copied: slices.Clone of texts, of labels, of targets; targets whose lists are new memory.
  Targets whose lists are new memory: copies.
-/
import Derived.Test.YtddaoloabfkheaaGreatDoorZf
import Derived.Laws.Rows
namespace Go.Proofs.YtddaoloabfkheaaGreatDoor
open Go.RowKit

set_option maxRecDepth 100000 in
set_option maxHeartbeats 1000000 in
theorem pdir_any (l : List UInt8) (w : World) (hl : l.length ≤ 9223372036854775807) :
    Calls Tryz.prog 62 #[.string (bs l)] w fun e w' => e = .returned (.string (bs (dir l))) ∧ w' = w := by
  have HL : Hid (l.length ≤ 9223372036854775807) := hl
  clear hl
  have hz : (bs l).size = l.length := rfl
  have h2 := lst_lt l
  by_cases h : lst l < 0
  · have hd0 : dir l = [] := by simp [dir, h]
    rw [hd0]
    go_enter Tryz.func62, Tryz.ntmps62
    go_wp2_with fail
    refine (last_any _ _ HL.out).mono ?_
    rintro e w1 ⟨rfl, rfl⟩
    go_wp2_with fail
    go_ret
    exact ⟨rfl, rfl⟩
  · obtain ⟨n, hn⟩ : ∃ n : Nat, lst l = n := ⟨(lst l).toNat, by omega⟩
    have hd0 : dir l = l.take n := by unfold dir; rw [if_neg h, hn]; rfl
    rw [hd0]
    have HE : Hid ((bs l).extract 0 n = bs (l.take n)) := extract_to l n
    rw [hn] at h h2
    go_enter Tryz.func62, Tryz.ntmps62
    go_wp2_with fail
    refine (last_any _ _ HL.out).mono ?_
    rintro e w1 ⟨rfl, rfl⟩
    rw [hn]
    have h3 : n < l.length := by omega
    go_wp2_with fail
    go_ret
    exact ⟨by rw [← HE.out]; rfl, rfl⟩

/-- an entry in a block of its own -/
def EB (w : World) (g : Nat) (x : En) : Prop := w.heap[g]? = some (.cells #[.string (bs x.p), .string (bs x.t), .slice x.a x.n x.c, .int .i64 x.z] 74 (0, 0))
theorem EB.lt {w : World} {g : Nat} {x : En} (h : EB w g x) : g < w.heap.size := (Array.getElem?_eq_some_iff.1 h).1
theorem EB.later {w w' : World} {g : Nat} {x : En} (h : EB w g x) (hb : Below w.heap.size w w') : EB w' g x := (hb.block g h.lt).trans h
theorem EB.cells {w : World} {g : Nat} {x : En} (h : EB w g x) : w.cell? ⟨g, 0, none⟩ = some (.string (bs x.p)) ∧ w.cell? ⟨g, 1, none⟩ = some (.string (bs x.t)) ∧ w.cell? ⟨g, 2, none⟩ = some (.slice x.a x.n x.c) ∧ w.cell? ⟨g, 3, none⟩ = some (.int .i64 x.z) ∧ ∀ o, w.frozen? ⟨g, o, none⟩ = false := by
  have hb : w.heap[g]? = _ := h
  exact ⟨by simp [World.cell?, hb], by simp [World.cell?, hb], by simp [World.cell?, hb], by simp [World.cell?, hb], fun o => by simp [World.frozen?, hb]⟩
theorem EB.new (w : World) (x : En) : EB (w.alloc (.cells #[.string (bs x.p), .string (bs x.t), .slice x.a x.n x.c, .int .i64 x.z] 74)) w.heap.size x := heap_alloc_new _ _
theorem EB.set {w : World} {g : Nat} {y : En} (h : EB w g y) (x : En) : EB ((((w.setCell ⟨g, 0, none⟩ (.string (bs x.p))).setCell ⟨g, 1, none⟩ (.string (bs x.t))).setCell ⟨g, 2, none⟩ (.slice x.a x.n x.c)).setCell ⟨g, 3, none⟩ (.int .i64 x.z)) g x := by
  unfold EB
  rw [heap_setCell _ _ _ _ (heap_setCell _ _ _ _ (heap_setCell _ _ _ _ (heap_setCell _ _ _ _ h)))]
  simp
theorem only4 (w : World) (g : Nat) (x : En) : Only [g] w ((((w.setCell ⟨g, 0, none⟩ (.string (bs x.p))).setCell ⟨g, 1, none⟩ (.string (bs x.t))).setCell ⟨g, 2, none⟩ (.slice x.a x.n x.c)).setCell ⟨g, 3, none⟩ (.int .i64 x.z)) :=
  (((Only.set _ _ _ _).trans (Only.set _ _ _ _)).trans (Only.set _ _ _ _)).trans (Only.set _ _ _ _)
/-- what an entry's call answers -/
def EnP (w : World) (P : World → En → Prop) (e : Ending) (w' : World) : Prop := ∃ x : En, e = .returned x.val ∧ P w' x ∧ Below w.heap.size w w'

set_option maxRecDepth 100000 in
set_option maxHeartbeats 4000000 in
theorem parsed_any (k : Lb) {w : World} (E : Ev w) (hp : k.pkg.length ≤ 1000000000) (ht : k.name.length ≤ 1000000000) : Calls Tryz.prog 27 #[k.val] w (EnP w fun w' x => x.key = k ∧ TF w' (fun j => w.heap.size ≤ j ∧ j < w'.heap.size) x) := by
  obtain ⟨p, t⟩ := k
  simp only at hp ht
  simp only [Lb.val]
  have hdl := dir_le p
  have HD : Hid (∀ W, Calls Tryz.prog 62 #[.string (bs p)] W fun e w' => e = .returned (.string (bs (dir p))) ∧ w' = W) := fun W => pdir_any p W (by omega)
  have HP : Hid (∀ W, Below w.heap.size w W → Calls Tryz.prog 61 #[.string (bs (dir p)), .string (bs t)] W (LsP W (prsM (dir p) t))) := fun W hW => parse_any (dir p) t (E.later hW) (by omega) (by omega)
  obtain ⟨w0, hw0⟩ : ∃ w0, (w.alloc (.cells #[.string (bs p), .string (bs t)] 69)).alloc (.cells #[.string (bs []), .string (bs []), .slice none 0 0, .int .i64 0] 74) = w0 := ⟨_, rfl⟩
  have hb0 : Below w.heap.size w w0 := by rw [← hw0]; exact bstep (balloc _ _) (balloc _ _)
  have hk0 : KB w0 w.heap.size ⟨p, t⟩ := by rw [← hw0]; exact (KB.new w ⟨p, t⟩).later (balloc _ _)
  have he0 : EB w0 (w.heap.size + 1) ⟨[], [], none, 0, 0, 0⟩ := by
    rw [← hw0]
    have := EB.new (w.alloc (.cells #[.string (bs p), .string (bs t)] 69)) ⟨[], [], none, 0, 0, 0⟩
    simpa using this
  have HX : Hid (∀ W, Below w0.heap.size w0 W → W.cell? ⟨w.heap.size, 0, none⟩ = some (.string (bs p)) ∧ W.cell? ⟨w.heap.size, 1, none⟩ = some (.string (bs t))) := fun W hW => (hk0.later hW).cells
  have HE : Hid (EB w0 (w.heap.size + 1) ⟨[], [], none, 0, 0, 0⟩) := he0
  have HB : Hid (Below w.heap.size w w0) := hb0
  have HW : Hid ((w.alloc (.cells #[.string (bs p), .string (bs t)] 69)).alloc (.cells #[.string (bs []), .string (bs []), .slice none 0 0, .int .i64 0] 74) = w0) := hw0
  obtain ⟨x0, x1⟩ := HX.out w0 (Below.refl _ _)
  obtain ⟨⟨A, z⟩, hAz⟩ : ∃ R, prsM (dir p) t = R := ⟨_, rfl⟩
  have HR : Hid (prsM (dir p) t = (A, z)) := hAz
  rw [hAz] at HP
  generalize hdp : dir p = dp at HD HP
  have e5 : (⟨#[]⟩ : ByteArray) = bs [] := rfl
  clear hp ht E hdl hw0 hb0 hk0 he0 hAz hdp
  go_enter Tryz.func27, Tryz.ntmps27
  go_wp2_with fail
  rw [HW.out]
  go_region_held3 (fun w' => w'.cell? ⟨w.heap.size, 0, none⟩ = some (.string (bs p)) ∧ w'.cell? ⟨w.heap.size, 1, none⟩ = some (.string (bs t))) (first | (with_reducible exact ⟨x0, x1⟩) | (with_reducible exact HX.out _ (Below.refl _ _).drew) | (with_reducible exact KQ.out) | go_keep) (first
    | (go_at_call 61; (with_reducible refine (HP.out _ (bstep HB.out (Below.refl _ _).drew)).mono ?_); rintro e w2 ⟨v2, rfl, ho2, hb2⟩; obtain ⟨a2, n2, c2, rfl⟩ := ho2.form; have O2 : Hid (GOwn w0.heap.size w2 (.slice a2 n2 c2) A ∧ Below w0.heap.size w0 w2) := ⟨ho2.mono (Nat.le_refl _), bstep (Below.refl _ _).drew hb2⟩; have KQ := hid_of (HX.out w2 O2.out.2); clear ho2 hb2)
    | (go_at_call 62; (with_reducible refine (HD.out _).mono ?_); rintro e w1 ⟨rfl, rfl⟩))
  obtain ⟨y0, y1⟩ := KQ.out
  obtain ⟨q0, q1, q2, q3, qf⟩ := (HE.out.later O2.out.2).cells
  have f0 := qf 0
  have f1 := qf 1
  have f2 := qf 2
  have f3 := qf 3
  simp only at q0 q1 q2 q3
  clear qf x0 x1 KQ
  go_wp2_with fail
  obtain ⟨w3, hw3⟩ : ∃ w3, (((w2.setCell ⟨w.heap.size + 1, 0, none⟩ (.string (bs p))).setCell ⟨w.heap.size + 1, 1, none⟩ (.string (bs t))).setCell ⟨w.heap.size + 1, 2, none⟩ (.slice a2 n2 c2)).setCell ⟨w.heap.size + 1, 3, none⟩ (.int .i64 z) = w3 := ⟨_, rfl⟩
  rw [hw3]
  have h3 := (HE.out.later O2.out.2).set ⟨p, t, a2, n2, c2, z⟩
  have o3 := only4 w2 (w.heap.size + 1) ⟨p, t, a2, n2, c2, z⟩
  simp only at h3 o3
  rw [hw3] at h3 o3
  refine bodyPost_ret (results_cell_row rfl _ _ (w.heap.size + 1) 74 #[.string (bs p), .string (bs t), .slice a2 n2 c2, .int .i64 z] (0, 0) _ rfl h3 Tryz.underlying74 rfl (by kernel_rfl)) rfl ?_
  have hs0 := HE.out.lt
  refine ⟨⟨p, t, a2, n2, c2, z⟩, rfl, ⟨rfl, ?_, ?_⟩, ?_⟩
  · show GMt w3 _ (.slice a2 n2 c2) (prsM (dir p) t).1
    rw [HR.out]
    have hg := (O2.out.1.only o3 (fun k hk => by simp at hk; omega)).gmt
    exact hg.wider (fun k hk => ⟨Nat.le_trans HB.out.size hk.1, hk.2⟩)
  · show z = (prsM (dir p) t).2
    rw [HR.out]
  · exact below_trans (bstep HB.out O2.out.2) (o3.below (Nat.le_trans HB.out.size O2.out.2.size) (fun k hk => by simp at hk; omega))
end Go.Proofs.YtddaoloabfkheaaGreatDoor

namespace Go.Proofs.YtddaoloabfkheaaGreatDoor
open Go.RowKit

theorem LS.src {w : World} {v : Value} {l : List Lb} (h : LS w v l) : Src Tryz.prog 2 64 v l.length (lc l) w := by
  rcases h with ⟨⟨a, c, rfl⟩, rfl⟩ | ⟨b, off, cap, rfl, hc, hlt, hcell⟩
  · cases a with
    | none => exact Src.ofNil w und_L c
    | some a => exact Src.ofSlice w und_L a 0 c [] (by simp) (fun j u hu => by simp at hu) (fun u hu => by cases hu)
  · exact Src.ofSlice w und_L ⟨b, off, none⟩ l.length cap (lc l) (by simp [lc_length]) (fun j u hu => by rw [add_lit]; exact hcell j u hu) (lc_one l)
theorem GS.src {w : World} {v : Value} {l : List Tv} (h : GS w v l) : Src Tryz.prog 4 34 v l.length (gc l) w := by
  rcases h with ⟨⟨a, c, rfl⟩, rfl⟩ | ⟨b, off, cap, rfl, hc, hlt, hcell⟩
  · cases a with
    | none => exact Src.ofNil w und_G c
    | some a => exact Src.ofSlice w und_G a 0 c [] (by simp) (fun j u hu => by simp at hu) (fun u hu => by cases hu)
  · exact Src.ofSlice w und_G ⟨b, off, none⟩ l.length cap (gc l) (by simp [gc_length]) (fun j u hu => by rw [add_lit]; exact hcell j u hu) (gc_one l)
theorem und_S : Tryz.prog.underlying 63 = some (.slice 9) := by kernel_rfl
theorem row_empty (w : World) (e s : Nat) : w.heap.size ≤ w.heap.size ∧ (w.alloc (.cells #[] e)).ownsRow w.heap.size e s (.slice (some ⟨w.heap.size, 0, none⟩) 0 0) 0 [] :=
  ⟨Nat.le_refl _, by simp, .inr ⟨w.heap.size, 0, #[], rfl, Nat.le_refl _, heap_alloc_new w _, Nat.le_refl _, by unfold maxLen; omega, by simp, by simp⟩⟩

set_option maxRecDepth 100000 in
set_option maxHeartbeats 1000000 in
theorem cloneS_any {w : World} {v : Value} {l : List (List UInt8)} (h : SS w v l) (hl : l.length ≤ 1000000) :
    Calls Tryz.prog 64 #[v] w fun e w' => ∃ v', e = .returned v' ∧ Own w.heap.size w' v' l ∧ Below w.heap.size w w' := by
  have H : Hid (SS w v l ∧ l.length ≤ 1000000) := ⟨h, hl⟩
  have q : ∀ (w : World) (a : Option Addr) (n c n' c' : Nat), (binOp .eql 63 (.slice a n c) (.slice none n' c')).run Tryz.prog w = .ok (.bool a.isNone) w := fun w a n c n' c' => Lib.run_eql_slice_nil w _ _ a n c n' c' und_S
  obtain ⟨a, c, hvv, hat⟩ := h.form
  cases a with
  | none =>
    obtain rfl : l = [] := by
      cases l with
      | nil => rfl
      | cons x r =>
        have := hat 0 (by simp)
        simp at this
    subst hvv
    clear h hl hat H
    go_enter Tryz.func64, Tryz.ntmps64
    go_wp2_with fail
    go_ret
    exact ⟨_, rfl, World.ownsRow_nil _ _ _ _, Below.refl _ _⟩
  | some a =>
    obtain ⟨n, hn⟩ : ∃ n, l.length = n := ⟨_, rfl⟩
    have HN : Hid (l.length = n) := hn
    rw [hn] at hvv
    subst hvv
    clear h hl hat hn
    go_enter Tryz.func64, Tryz.ntmps64
    go_wp2_with (first | (at_builtin; refine app_strs (base := w.heap.size) (l := []) (k := l) (row_empty w 9 1).2 ((H.out.1.later (balloc _ _)).src und_S) (by have := H.out.2; simp; omega) (by simp) rfl (.tmp 5) (.tmp 6) rfl rfl rfl ?_; intro v' w' h1 h2 h3))
    go_ret
    refine ⟨v', rfl, h1, ?_⟩
    exact ((Below.refl _ _).alloc (Nat.le_refl _) _).grown h2 (by simp) (fun k hk => by simp [Value.ownBlock] at hk; omega)

set_option maxRecDepth 100000 in
set_option maxHeartbeats 1000000 in
theorem cloneL_any {w : World} {v : Value} {l : List Lb} (h : LS w v l) (hl : l.length ≤ 1000000) :
    Calls Tryz.prog 65 #[v] w fun e w' => ∃ v', e = .returned v' ∧ OwnL w.heap.size w' v' l ∧ Below w.heap.size w w' := by
  have H : Hid (LS w v l ∧ l.length ≤ 1000000) := ⟨h, hl⟩
  have q : ∀ (w : World) (a : Option Addr) (n c n' c' : Nat), (binOp .eql 64 (.slice a n c) (.slice none n' c')).run Tryz.prog w = .ok (.bool a.isNone) w := fun w a n c n' c' => Lib.run_eql_slice_nil w _ _ a n c n' c' und_L
  obtain ⟨a, c, hvv, hat⟩ := h.form
  cases a with
  | none =>
    obtain rfl : l = [] := by
      cases l with
      | nil => rfl
      | cons x r =>
        have := hat 0 (by simp)
        simp at this
    subst hvv
    clear h hl hat H
    go_enter Tryz.func65, Tryz.ntmps65
    go_wp2_with fail
    go_ret
    exact ⟨_, rfl, OwnL.nil _ _, Below.refl _ _⟩
  | some a =>
    obtain ⟨n, hn⟩ : ∃ n, l.length = n := ⟨_, rfl⟩
    have HN : Hid (l.length = n) := hn
    rw [hn] at hvv
    subst hvv
    clear h hl hat hn
    go_enter Tryz.func65, Tryz.ntmps65
    go_wp2_with (first | (at_builtin; refine app_Ls (base := w.heap.size) (l := []) (k := l) (row_empty w 92 2).2 ((H.out.1.later (balloc _ _)).src) (by have := H.out.2; simp; omega) (by simp) rfl (.tmp 5) (.tmp 6) rfl rfl rfl ?_; intro v' w' h1 h2 h3))
    go_ret
    refine ⟨v', rfl, h1, ?_⟩
    exact ((Below.refl _ _).alloc (Nat.le_refl _) _).grown h2 (by simp) (fun k hk => by simp [Value.ownBlock] at hk; omega)

set_option maxRecDepth 100000 in
set_option maxHeartbeats 1000000 in
theorem cloneG_any {w : World} {v : Value} {l : List Tv} (h : GS w v l) (hl : l.length ≤ 1000000) :
    Calls Tryz.prog 63 #[v] w fun e w' => ∃ v', e = .returned v' ∧ OwnG w.heap.size w' v' l ∧ Below w.heap.size w w' := by
  have H : Hid (GS w v l ∧ l.length ≤ 1000000) := ⟨h, hl⟩
  have q : ∀ (w : World) (a : Option Addr) (n c n' c' : Nat), (binOp .eql 34 (.slice a n c) (.slice none n' c')).run Tryz.prog w = .ok (.bool a.isNone) w := fun w a n c n' c' => Lib.run_eql_slice_nil w _ _ a n c n' c' und_G
  obtain ⟨a, c, hvv, hat⟩ := h.form
  cases a with
  | none =>
    obtain rfl : l = [] := by
      cases l with
      | nil => rfl
      | cons x r =>
        have := hat 0 (by simp)
        simp at this
    subst hvv
    clear h hl hat H
    go_enter Tryz.func63, Tryz.ntmps63
    go_wp2_with fail
    go_ret
    exact ⟨_, rfl, OwnG.nil _ _, Below.refl _ _⟩
  | some a =>
    obtain ⟨n, hn⟩ : ∃ n, l.length = n := ⟨_, rfl⟩
    have HN : Hid (l.length = n) := hn
    rw [hn] at hvv
    subst hvv
    clear h hl hat hn
    go_enter Tryz.func63, Tryz.ntmps63
    go_wp2_with (first | (at_builtin; refine app_Gs (base := w.heap.size) (l := []) (k := l) (row_empty w 66 4).2 ((H.out.1.later (balloc _ _)).src) (by have := H.out.2; simp; omega) (by simp) rfl (.tmp 5) (.tmp 6) rfl rfl rfl ?_; intro v' w' h1 h2 h3))
    go_ret
    refine ⟨v', rfl, h1, ?_⟩
    exact ((Below.refl _ _).alloc (Nat.le_refl _) _).grown h2 (by simp) (fun k hk => by simp [Value.ownBlock] at hk; omega)
end Go.Proofs.YtddaoloabfkheaaGreatDoor

namespace Go.Proofs.YtddaoloabfkheaaGreatDoor
open Go.RowKit

theorem OwnG.at {base : Nat} {w : World} {a : Option Addr} {n c : Nat} {l : List Tv} (h : OwnG base w (.slice a n c) l) (hl : l ≠ []) : ∃ g, a = some ⟨g, 0, none⟩ ∧ base ≤ g ∧ g < w.heap.size := by
  rcases h.2 with ⟨e, h0⟩ | ⟨g, cap, cur, e, hb, hg, _⟩
  · exact absurd (List.eq_nil_of_length_eq_zero h0) hl
  · injection e with e1 e2 e3
    exact ⟨g, e1, hb, (Array.getElem?_eq_some_iff.1 hg).1⟩
theorem OwnG.setc {base : Nat} {w : World} {g n c : Nat} {l l' : List Tv} (h : OwnG base w (.slice (some ⟨g, 0, none⟩) n c) l) (o : Nat) (u : Value) (hl : l'.length = l.length) (hc : gc l' = (gc l).set o u) : OwnG base (w.setCell ⟨g, o, none⟩ u) (.slice (some ⟨g, 0, none⟩) n c) l' := by
  rcases h.2 with ⟨e, _⟩ | ⟨g', cap, cur, e, hb, hg, hn, hm, hs, ht⟩
  · cases e
  · injection e with e1 e2 e3
    injection e1 with e1
    injection e1 with e1 _
    subst e1 e2 e3
    refine ⟨gc_length l', .inr ⟨g, c, cur.setIfInBounds o u, by rw [hl], hb, heap_setCell _ _ _ _ hg, by omega, hm, by simpa using hs, ?_⟩⟩
    rw [hl, hc, ← ht]
    simp [List.take_set]
theorem gc_set {B : List Tv} {x x' : Tv} {r : List Tv} {k j : Nat} (hk : B.length = k) {u : Value} (hx : (gc [x]).set j u = gc [x']) (hj : j < 4) : gc (B ++ x' :: r) = (gc (B ++ x :: r)).set (k * 4 + j) u := by
  have e1 : gc (B ++ x' :: r) = gc B ++ (gc [x'] ++ gc r) := by rw [gc_append]; rfl
  have e2 : gc (B ++ x :: r) = gc B ++ (gc [x] ++ gc r) := by rw [gc_append]; rfl
  have l1 : (gc B).length = k * 4 := by rw [gc_length, hk]
  have l2 : (gc [x]).length = 4 := rfl
  rw [e1, e2, ← hx, List.set_append_right _ _ (by omega), l1, Nat.add_sub_cancel_left, List.set_append_left _ _ (by omega)]
/-- while targets are being copied: the first ones are, x is at work, the others are not yet -/
structure CpI (base : Nat) (w : World) (g n c : Nat) (B : List Tv) (r : List Tv) (A : List Tg) : Prop where
  row : OwnG base w (.slice (some ⟨g, 0, none⟩) n c) (B ++ r)
  ts : TsOwn base w B A
  ap : Aps (.slice (some ⟨g, 0, none⟩) n c) B
section
variable {base : Nat} {w w' : World} {g n c : Nat} {B r : List Tv} {A : List Tg}
theorem CpI.later (h : CpI base w g n c B r A) (hb : Below w.heap.size w w') : CpI base w' g n c B r A := ⟨h.row.later hb, h.ts.later hb, h.ap⟩
theorem CpI.gl (h : CpI base w g n c B r A) : base ≤ g ∧ g < w.heap.size := h.row.lt rfl
theorem CpI.set {x x' : Tv} {k j : Nat} {u : Value} (h : CpI base w g n c B (x :: r) A) (hk : B.length = k) (hx : (gc [x]).set j u = gc [x']) (hj : j < 4) : CpI base (w.setCell ⟨g, k * 4 + j, none⟩ u) g n c B (x' :: r) A := by
  refine ⟨h.row.setc _ _ (by simp) (gc_set hk hx hj), h.ts.only (Only.set _ _ _ _) (fun t ht u hu b hb hm => ?_), h.ap⟩
  have h1 : b = g := by simpa using hm
  subst h1
  have := h.ap
  unfold Aps at this
  rw [List.pairwise_cons] at this
  exact this.1 u (List.mem_flatMap.2 ⟨t, ht, hu⟩) b rfl hb
theorem CpI.cells {x : Tv} {k : Nat} (h : CpI base w g n c B (x :: r) A) (hk : B.length = k) : w.cell? ⟨g, k * 4, none⟩ = some (.string (bs x.name)) ∧ w.cell? ⟨g, k * 4 + 1, none⟩ = some (.slice x.sa x.sn x.sc) ∧ w.cell? ⟨g, k * 4 + 2, none⟩ = some (.slice x.da x.dn x.dc) ∧ w.cell? ⟨g, k * 4 + 3, none⟩ = some (.slice x.ea x.en x.ec) := by
  have hl : k < (B ++ x :: r).length := by simp; omega
  obtain ⟨b, o, e, _, c0, c1, c2, c3⟩ := h.row.rs.at (Below.refl _ _) hl
  rcases h.row.2 with ⟨e, _⟩ | ⟨g', cap, cur, e, hb, hg, hn, hm, hs, ht⟩
  · cases e
  · injection e with e1 e2 e3
    injection e1 with e1
    injection e1 with e1 _
    subst e1 e2 e3
    have hx : (B ++ x :: r)[k] = x := by rw [List.getElem_append_right (by omega)]; simp [hk]
    obtain ⟨g0, g1, g2, g3⟩ := gc_get (B ++ x :: r) k hl
    rw [hx] at g0 g1 g2 g3
    have ha : ∀ i u, (gc (B ++ x :: r))[i]? = some u → w.cell? ⟨g, i, none⟩ = some u := fun i u hu => by
      have := World.ownsRow.cells h.row (g := g) rfl i u hu
      rw [add_lit, Nat.zero_add] at this; exact this
    exact ⟨ha _ _ g0, ha _ _ g1, ha _ _ g2, ha _ _ g3⟩
theorem CpI.frz (h : CpI base w g n c B r A) (o : Nat) : w.frozen? ⟨g, o, none⟩ = false := by
  rcases h.row.2 with ⟨e, _⟩ | ⟨g', cap, cur, e, hb, hg, _⟩
  · cases e
  · injection e with e1 e2 e3
    injection e1 with e1
    injection e1 with e1 _
    subst e1
    simp [World.frozen?, hg]
end
theorem Own.form3 {base : Nat} {w : World} {v : Value} {l : List (List UInt8)} (h : Own base w v l) : ∃ a n c, v = .slice a n c := by
  obtain ⟨a, c, e⟩ := h.frm; exact ⟨a, _, c, e⟩
theorem OwnL.form3 {base : Nat} {w : World} {v : Value} {l : List Lb} (h : OwnL base w v l) : ∃ a n c, v = .slice a n c := by
  obtain ⟨a, c, e⟩ := h.form; exact ⟨a, _, c, e⟩
theorem Own.lt2 {base : Nat} {w : World} {v : Value} {l : List (List UInt8)} (h : Own base w v l) {k : Nat} (hk : v.ownBlock = some k) : base ≤ k ∧ k < w.heap.size := World.ownsRow.lt h k hk
theorem Own.only2 {S : List Nat} {base : Nat} {w w' : World} {v : Value} {l : List (List UInt8)} (h : Own base w v l) (ho : Only S w w') (hn : ∀ k, v.ownBlock = some k → k ∉ S) : Own base w' v l := by
  rcases h with ⟨h0, h | ⟨g, cap, cur, rfl, hb, hg, hr⟩⟩
  · exact ⟨h0, .inl h⟩
  · exact ⟨h0, .inr ⟨g, cap, cur, rfl, hb, (ho.block g (Array.getElem?_eq_some_iff.1 hg).1 (hn g rfl)).trans hg, hr⟩⟩
theorem set_size (w : World) (g o : Nat) (u : Value) : (w.setCell ⟨g, o, none⟩ u).heap.size = w.heap.size := by simp [World.setCell]

set_option maxRecDepth 100000 in
set_option maxHeartbeats 8000000 in
theorem copies_any {w : World} {v : Value} {A : List Tg} (h : GR w v A) (hT : TBd A) : Calls Tryz.prog 28 #[v] w fun e w' => ∃ v', e = .returned v' ∧ GOwn w.heap.size w' v' A ∧ Below w.heap.size w w' := by
  obtain ⟨a, h1, h2⟩ := h.it
  have hal := h2.len
  have hlen := hT.len
  have H : Hid (TsRead w a A ∧ a.length = A.length ∧ TBd A) := ⟨h2, hal, hT⟩
  have HC : Hid (Calls Tryz.prog 63 #[v] w fun e w' => ∃ v', e = .returned v' ∧ OwnG w.heap.size w' v' a ∧ Below w.heap.size w w') := cloneG_any h1 (by omega)
  clear h h1 h2 hT
  go_enter Tryz.func28, Tryz.ntmps28
  go_wp2_with fail
  refine HC.out.mono ?_
  rintro e w1 ⟨v1, rfl, ho1, hb1⟩
  obtain ⟨a1, c1, hv1⟩ := ho1.form
  obtain ⟨n, hn⟩ : ∃ n, a.length = n := ⟨_, rfl⟩
  rw [hn] at hv1
  subst hv1
  have H1 : Hid (OwnG w.heap.size w1 (.slice a1 n c1) a ∧ Below w.heap.size w w1 ∧ a.length = n) := ⟨ho1, hb1, hn⟩
  have hn64 : n ≤ 64 := by omega
  clear ho1 hb1 hn hal hlen HC
  go_wp2_with fail
  go_loopw [9] (fun s9 wr => ∃ (k : Nat) (B : List Tv), s9 = .int .i64 k ∧ k ≤ n ∧ B.length = k ∧ OwnG w.heap.size wr (.slice a1 n c1) (B ++ a.drop k) ∧ TsOwn w.heap.size wr B (A.take k) ∧ Aps (.slice a1 n c1) B ∧ Below w.heap.size w wr) (fun s9 _ => n - (intOf s9).toNat)
  case atStart => exact ⟨0, [], rfl, by omega, rfl, by simpa using H1.out.1, by simp [TsOwn], by simp [Aps], H1.out.2.1⟩
  case round =>
    obtain ⟨k, B, rfl, hk, hB, ho, hts, hap, hb⟩ := hrel
    by_cases hlt : k < n
    · have hka : k < a.length := by rw [H1.out.2.2]; exact hlt
      have hkA : k < A.length := by rw [← H.out.2.1]; exact hka
      have hdr : a.drop k = a[k] :: a.drop (k + 1) := List.drop_eq_getElem_cons hka
      obtain ⟨g, rfl, _, _⟩ := ho.at (by intro e; have := congrArg List.length e; simp at this; omega)
      obtain ⟨r, hr⟩ : ∃ r, a.drop (k + 1) = r := ⟨_, rfl⟩
      rw [hdr, hr] at ho
      have hrd := H.out.1.get k hka hkA
      obtain ⟨tA, htA⟩ : ∃ t, A[k] = t := ⟨_, rfl⟩
      rw [htA] at hrd
      have hbd := H.out.2.2.each tA (htA ▸ List.getElem_mem hkA)
      generalize a[k] = x at ho hrd hdr
      obtain ⟨nm, sa, sn, sc, da, dn, dc, ea, en, ec⟩ := x
      have hc := (⟨ho, hts, hap⟩ : CpI w.heap.size wr g n c1 B (⟨nm, sa, sn, sc, da, dn, dc, ea, en, ec⟩ :: r) (A.take k))
      have HX : Hid (CpI w.heap.size wr g n c1 B (⟨nm, sa, sn, sc, da, dn, dc, ea, en, ec⟩ :: r) (A.take k) ∧ Below w.heap.size w wr ∧ B.length = k ∧ TRead w ⟨nm, sa, sn, sc, da, dn, dc, ea, en, ec⟩ tA) := ⟨hc, hb, hB, hrd⟩
      have HY : Hid (A.take (k + 1) = A.take k ++ [tA] ∧ a.drop (k + 1) = r) := ⟨by rw [List.take_succ_eq_append_getElem hkA, htA], hr⟩
      have HS : Hid (∀ W, Below w.heap.size w W → Calls Tryz.prog 64 #[.slice sa sn sc] W fun e w' => ∃ v', e = .returned v' ∧ Own W.heap.size w' v' tA.srcs ∧ Below W.heap.size W w') := fun W hW => cloneS_any (hrd.s.later hW) (by omega)
      have HD : Hid (∀ W, Below w.heap.size w W → Calls Tryz.prog 65 #[.slice da dn dc] W fun e w' => ∃ v', e = .returned v' ∧ OwnL W.heap.size w' v' tA.deps ∧ Below W.heap.size W w') := fun W hW => cloneL_any (hrd.d.later hW) (by omega)
      have HE : Hid (∀ W, Below w.heap.size w W → Calls Tryz.prog 64 #[.slice ea en ec] W fun e w' => ∃ v', e = .returned v' ∧ Own W.heap.size w' v' tA.see ∧ Below W.heap.size W w') := fun W hW => cloneS_any (hrd.e.later hW) (by omega)
      obtain ⟨d0, d1, d2, d3⟩ := hc.cells hB
      simp only at d0 d1 d2 d3
      clear ho hts hap hb hrd hbd hc hdr hr htA hB hka hkA
      have k1 : (k : Int) < (n : Int) := by omega
      have k2 : (0 : Int) ≤ (k : Int) := by omega
      obtain ⟨w2, hw2⟩ : ∃ w2, wr.alloc (.cells #[.string (bs nm), .slice sa sn sc, .slice da dn dc, .slice ea en ec] 66) = w2 := ⟨_, rfl⟩
      have H2 : Hid (Below wr.heap.size wr w2 ∧ TB w2 wr.heap.size ⟨nm, sa, sn, sc, da, dn, dc, ea, en, ec⟩) := by
        rw [← hw2]; exact ⟨balloc _ _, ⟨heap_alloc_new _ _⟩⟩
      have HW2 : Hid (wr.alloc (.cells #[.string (bs nm), .slice sa sn sc, .slice da dn dc, .slice ea en ec] 66) = w2) := hw2
      clear hw2
      go_wp2_with fail
      rw [HW2.out]
      refine (HS.out _ (bstep HX.out.2.1 H2.out.1)).mono ?_
      rintro e w3 ⟨v3, rfl, ho3, hb3⟩
      obtain ⟨a3, n3, c3, rfl⟩ := ho3.form3
      have hc3 := HX.out.1.later (bstep H2.out.1 hb3)
      obtain ⟨_, e1, _, _⟩ := hc3.cells HX.out.2.2.1
      simp only at e1
      have f1 := hc3.frz (k * 4 + 1)
      obtain ⟨w4, hw4⟩ : ∃ w4, w3.setCell ⟨g, k * 4 + 1, none⟩ (.slice a3 n3 c3) = w4 := ⟨_, rfl⟩
      have hs4 := hc3.set (x' := ⟨nm, a3, n3, c3, da, dn, dc, ea, en, ec⟩) (j := 1) (u := .slice a3 n3 c3) HX.out.2.2.1 rfl (by omega)
      have os4 := Only.set w3 g (k * 4 + 1) (.slice a3 n3 c3)
      rw [hw4] at hs4 os4
      have z4 : w4.heap.size = w3.heap.size := by rw [← hw4]; exact set_size _ _ _ _
      have hgw : g < wr.heap.size := HX.out.1.gl.2
      have hgb : w.heap.size ≤ g := HX.out.1.gl.1
      have hz2 := H2.out.1.size
      have hz3 := hb3.size
      have H4 : Hid (CpI w.heap.size w4 g n c1 B (⟨nm, a3, n3, c3, da, dn, dc, ea, en, ec⟩ :: r) (A.take k) ∧ Own w2.heap.size w4 (.slice a3 n3 c3) tA.srcs ∧ TB w4 wr.heap.size ⟨nm, sa, sn, sc, da, dn, dc, ea, en, ec⟩ ∧ Below w.heap.size w w4 ∧ w3.heap.size = w4.heap.size ∧ w2.heap.size ≤ w3.heap.size ∧ wr.heap.size < w2.heap.size) :=
        ⟨hs4, ho3.only2 os4 (fun b hb hm => by have := (ho3.lt2 hb).1; simp at hm; omega), (H2.out.2.later hb3).only os4 (by simp; omega), below_trans (bstep HX.out.2.1 (bstep H2.out.1 hb3)) (os4.below (by have := HX.out.2.1.size; omega) (fun b hb => by simp at hb; omega)), z4.symm, hz3, H2.out.2.lt⟩
      have HW4 : Hid (w3.setCell ⟨g, k * 4 + 1, none⟩ (.slice a3 n3 c3) = w4) := hw4
      clear hc3 ho3 hb3 hs4 os4 z4 hw4 hz2 hz3 d0 d1 d2 d3
      have q2 : (w3.setCell ⟨g, k * 4 + 1, none⟩ (.slice a3 n3 c3)).cell? ⟨wr.heap.size, 2, none⟩ = some (.slice da dn dc) := by rw [HW4.out]; exact H4.out.2.2.1.cells.2.2.1
      go_wp2_with fail
      rw [HW4.out]
      clear e1 f1
      refine (HD.out _ H4.out.2.2.2.1).mono ?_
      rintro e w5 ⟨v5, rfl, ho5, hb5⟩
      obtain ⟨a5, n5, c5, rfl⟩ := ho5.form3
      have hc5 := H4.out.1.later hb5
      obtain ⟨_, _, e2, _⟩ := hc5.cells HX.out.2.2.1
      simp only at e2
      have f2 := hc5.frz (k * 4 + 2)
      obtain ⟨w6, hw6⟩ : ∃ w6, w5.setCell ⟨g, k * 4 + 2, none⟩ (.slice a5 n5 c5) = w6 := ⟨_, rfl⟩
      have hs6 := hc5.set (x' := ⟨nm, a3, n3, c3, a5, n5, c5, ea, en, ec⟩) (j := 2) (u := .slice a5 n5 c5) HX.out.2.2.1 rfl (by omega)
      have os6 := Only.set w5 g (k * 4 + 2) (.slice a5 n5 c5)
      rw [hw6] at hs6 os6
      have z6 : w6.heap.size = w5.heap.size := by rw [← hw6]; exact set_size _ _ _ _
      have hz5 := hb5.size
      have hq4 := H4.out.2.2.2.2
      have H6 : Hid (CpI w.heap.size w6 g n c1 B (⟨nm, a3, n3, c3, a5, n5, c5, ea, en, ec⟩ :: r) (A.take k) ∧ Own w2.heap.size w6 (.slice a3 n3 c3) tA.srcs ∧ OwnL w4.heap.size w6 (.slice a5 n5 c5) tA.deps ∧ TB w6 wr.heap.size ⟨nm, sa, sn, sc, da, dn, dc, ea, en, ec⟩ ∧ Below w.heap.size w w6 ∧ w5.heap.size = w6.heap.size ∧ w4.heap.size ≤ w5.heap.size) :=
        ⟨hs6, (H4.out.2.1.only2 (Only.of_below hb5 []) (by simp)).only2 os6 (fun b hb hm => by have := (H4.out.2.1.lt2 hb).1; simp at hm; omega), ho5.only os6 (fun b hb hm => by have := (ho5.lt hb).1; simp at hm; omega), (H4.out.2.2.1.later hb5).only os6 (by simp; omega), below_trans (bstep H4.out.2.2.2.1 hb5) (os6.below (by have := HX.out.2.1.size; omega) (fun b hb => by simp at hb; omega)), z6.symm, hz5⟩
      have HW6 : Hid (w5.setCell ⟨g, k * 4 + 2, none⟩ (.slice a5 n5 c5) = w6) := hw6
      have HG5 : Hid (∀ b, (Value.slice a3 n3 c3).ownBlock = some b → w2.heap.size ≤ b ∧ b < w4.heap.size) := fun b hb => H4.out.2.1.lt2 hb
      clear hc5 ho5 hb5 hs6 os6 z6 hw6 hz5 hq4 q2
      have q3 : (w5.setCell ⟨g, k * 4 + 2, none⟩ (.slice a5 n5 c5)).cell? ⟨wr.heap.size, 3, none⟩ = some (.slice ea en ec) := by rw [HW6.out]; exact H6.out.2.2.2.1.cells.2.2.2.1
      go_wp2_with fail
      rw [HW6.out]
      clear e2 f2
      refine (HE.out _ H6.out.2.2.2.2.1).mono ?_
      rintro e w7 ⟨v7, rfl, ho7, hb7⟩
      obtain ⟨a7, n7, c7, rfl⟩ := ho7.form3
      have hc7 := H6.out.1.later hb7
      obtain ⟨_, _, _, e3⟩ := hc7.cells HX.out.2.2.1
      simp only at e3
      have f3 := hc7.frz (k * 4 + 3)
      obtain ⟨w8, hw8⟩ : ∃ w8, w7.setCell ⟨g, k * 4 + 3, none⟩ (.slice a7 n7 c7) = w8 := ⟨_, rfl⟩
      have hs8 := hc7.set (x' := ⟨nm, a3, n3, c3, a5, n5, c5, a7, n7, c7⟩) (j := 3) (u := .slice a7 n7 c7) HX.out.2.2.1 rfl (by omega)
      have os8 := Only.set w7 g (k * 4 + 3) (.slice a7 n7 c7)
      rw [hw8] at hs8 os8
      have z8 : w8.heap.size = w7.heap.size := by rw [← hw8]; exact set_size _ _ _ _
      have hz7 := hb7.size
      have hq4 := H4.out.2.2.2.2
      have hq6 := H6.out.2.2.2.2.2
      have H8 : Hid (∃ B', B'.length = k + 1 ∧ OwnG w.heap.size w8 (.slice (some ⟨g, 0, none⟩) n c1) (B' ++ r) ∧ TsOwn w.heap.size w8 B' (A.take (k + 1)) ∧ Aps (.slice (some ⟨g, 0, none⟩) n c1) B' ∧ Below w.heap.size w w8) := by
        have hbw := HX.out.2.1.size
        have t1 : Own w2.heap.size w8 (.slice a3 n3 c3) tA.srcs := (H6.out.2.1.only2 (Only.of_below hb7 []) (by simp)).only2 os8 (fun b hb hm => by have := (H6.out.2.1.lt2 hb).1; simp at hm; omega)
        have t2 : OwnL w4.heap.size w8 (.slice a5 n5 c5) tA.deps := (H6.out.2.2.1.later hb7).only os8 (fun b hb hm => by have := (H6.out.2.2.1.lt hb).1; simp at hm; omega)
        have t3 : Own w6.heap.size w8 (.slice a7 n7 c7) tA.see := ho7.only2 os8 (fun b hb hm => by have := (ho7.lt2 hb).1; simp at hm; omega)
        have g1 : ∀ b, (Value.slice a3 n3 c3).ownBlock = some b → w2.heap.size ≤ b ∧ b < w4.heap.size := HG5.out
        have g2 : ∀ b, (Value.slice a5 n5 c5).ownBlock = some b → w4.heap.size ≤ b ∧ b < w6.heap.size := fun b hb => H6.out.2.2.1.lt hb
        have g3 : ∀ b, (Value.slice a7 n7 c7).ownBlock = some b → w6.heap.size ≤ b ∧ b < w7.heap.size := fun b hb => ho7.lt2 hb
        have hto : TOwn w.heap.size w8 ⟨nm, a3, n3, c3, a5, n5, c5, a7, n7, c7⟩ tA :=
          ⟨HX.out.2.2.2.name, World.ownsRow.mono t1 (by omega), t2.mono (by omega), World.ownsRow.mono t3 (by omega),
            fun b h1 h2 => by have := g1 b h1; have := g2 b h2; omega, fun b h1 h2 => by have := g1 b h1; have := g3 b h2; omega, fun b h1 h2 => by have := g2 b h1; have := g3 b h2; omega⟩
        refine ⟨B ++ [⟨nm, a3, n3, c3, a5, n5, c5, a7, n7, c7⟩], by simp [HX.out.2.2.1], by simpa using hs8.row, ?_, ?_, ?_⟩
        · rw [HY.out.1]; exact TsOwn.snoc hto hs8.ts
        · refine hs8.ap.snoc (n := wr.heap.size) (m := w8.heap.size) (fun t ht u hu b hb => ((HX.out.1.ts).lt t ht u hu b hb).2) (fun b hb => by have e : g = b := (by simpa [Value.ownBlock] using hb); omega) (fun u hu b hb => ?_) hto.pair (.inl rfl) (by omega)
          simp only [Tv.vals, Tv.s, Tv.d, Tv.e, List.mem_cons, List.mem_nil_iff, or_false] at hu
          rcases hu with rfl | rfl | rfl
          · have := g1 b hb; omega
          · have := g2 b hb; omega
          · have := g3 b hb; omega
        · exact below_trans (bstep H6.out.2.2.2.2.1 hb7) (os8.below (by omega) (fun b hb => by simp at hb; omega))
      have HW8 : Hid (w7.setCell ⟨g, k * 4 + 3, none⟩ (.slice a7 n7 c7) = w8) := hw8
      clear hc7 ho7 hb7 hs8 os8 z8 hw8 hz7 hq4 hq6 q3 hgw hgb
      go_wp2_with fail
      rw [HW8.out]
      clear e3 f3
      obtain ⟨B', h1, h2, h3, h4, h5⟩ := H8.out
      go_roundw
      case rel => exact ⟨k + 1, B', by go_num, by omega, h1, by rw [HY.out.2]; exact h2, h3, h4, h5⟩
      case measure => simp [intOf]; omega
    · obtain rfl : n = k := by omega
      have k1 : ¬ (n : Int) < (n : Int) := by omega
      have HF : Hid (GOwn w.heap.size wr (.slice a1 n c1) A ∧ Below w.heap.size w wr) := by
        refine ⟨⟨B, ?_, ?_, hap⟩, hb⟩
        · rw [List.drop_of_length_le (by rw [H1.out.2.2]; omega), List.append_nil] at ho; exact ho
        · rw [List.take_of_length_le (by rw [← H.out.2.1, H1.out.2.2]; omega)] at hts; exact hts
      clear ho hts hap hb hB
      go_wp2_with fail
      go_ret
      exact ⟨_, rfl, HF.out⟩
end Go.Proofs.YtddaoloabfkheaaGreatDoor
