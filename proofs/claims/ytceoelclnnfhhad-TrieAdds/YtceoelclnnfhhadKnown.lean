/-
  The document's files.
-/
import Derived.Test.YtceoelclnnfhhadTold
import Derived.Test.YtceoelclnnfhhadSum
import Derived.Test.YtceoelclnnfhhadAdd
namespace Go.Proofs.Ytceoelclnnfhhad
open Go.RowKit

def kf1 : Fl := ⟨[97, 47, 98, 47, 121], [], 0, 7⟩
def kf2 : Fl := ⟨[97, 47, 120], [], 0, 5⟩
def kf3 : Fl := ⟨[99], [], 0, 2⟩
def kf4 : Fl := ⟨[97, 47, 98], [], 0, 0⟩
def kl : List Fl := [kf1, kf2, kf3]
theorem k_valid : validE kl = 0 := by decide +kernel
theorem k_srt : Srt kl := (validE_good.1 k_valid).2
theorem k_good : Good kl := (validE_good.1 k_valid).1
theorem k_add : addE kl kf4 = 8 := by decide +kernel
theorem k_addL : addL kl kf4 = kl := by unfold addL; rw [k_add]; rfl
theorem k_files : rfiles kl [] = [[99]] := by decide +kernel
theorem k_dirs : rdirs (pcs [97]) kl [] = [[97, 47, 98]] := by decide +kernel
theorem k_count : countS kl [97] = 2 := by decide +kernel
theorem k_countz : countS kl [122] = 0 := by decide +kernel
theorem k_size : sizeS kl [97] = 12 := by decide +kernel
theorem k_own : ownS kl [97] = 5 := by decide +kernel
theorem fok_small (p : List UInt8) (n : Nat) (hp : p.length ≤ 100) (hn : n ≤ 100) : Fok ⟨p, [], 0, n⟩ := ⟨by show p.length ≤ _; omega, by simp, by simp, by simp, by show (-9223372036854775808 : Int) ≤ (n : Int); omega, by show (n : Int) ≤ _; omega⟩
theorem k_sm : FSm kl := by
  refine ⟨by decide, fun f hf => ?_⟩
  rcases List.mem_cons.1 hf with rfl | hf
  · exact fok_small _ 7 (by decide) (by decide)
  · rcases List.mem_cons.1 hf with rfl | hf
    · exact fok_small _ 5 (by decide) (by decide)
    · obtain rfl : f = kf3 := by simpa using hf
      exact fok_small _ 2 (by decide) (by decide)
theorem szs_all {L : List Fl} (h : Good L) (hf : ∀ f ∈ L, Fok f) : Szs L := fun f hm => (szs_of (h.each f hm) (hf f hm)).1
theorem fs_new (w : World) (l : List Fl) (k : TypeId) : FS (w.alloc (.cells (fc l).toArray k)) (.slice (some ⟨w.heap.size, 0, none⟩) l.length l.length) l := by
  refine .inr ⟨w.heap.size, 0, l.length, rfl, Nat.le_refl _, by simp, fun i u hu => ?_⟩
  rw [show (0 + i) = i by omega]
  have h := heap_alloc_new w (.cells (fc l).toArray k)
  simp only [World.cell?, h]
  simpa using hu

theorem eqT (w : World) (x : Option Addr) : (binOp .eql 24 (.pointer x) (.pointer none)).run Try.prog w = .ok (.bool x.isNone) w := by cases x <;> kernel_rfl
/-- the tree, and that nothing old has turned -/
structure KN (w w' : World) (t N : Nat) : Prop where
  tr : TR w' (fun i => w.heap.size ≤ i ∧ i < w'.heap.size) t kl N
  below : Below w.heap.size w w'
theorem KN.later {w w1 w2 : World} {t N : Nat} (h : KN w w1 t N) (hb : Below w1.heap.size w1 w2) : KN w w2 t N := by
  refine ⟨(h.tr.later hb).wider (fun i hi => ⟨hi.1, Nat.lt_of_lt_of_le hi.2 hb.size⟩) (fun i hi => hi.2) (Nat.le_refl _), bstep h.below hb⟩
theorem kn_new {w w0 : World} {v : Value} (h : FS w v kl) (hb : Below w0.heap.size w0 w) : Calls Try.prog 4 #[v] w fun e w' => ∃ t, e = .returned (.tuple #[.pointer (some ⟨t, 0, none⟩), .int .i64 0]) ∧ KN w0 w' t 12000 := by
  refine (new_good h k_sm k_valid).mono ?_
  rintro e w' ⟨t, rfl, h1, h2⟩
  exact ⟨t, rfl, ⟨h1.wider (fun i hi => ⟨Nat.le_trans hb.size hi.1, hi.2⟩) (fun i hi => hi.2) (Nat.le_refl _), bstep hb h2⟩⟩
theorem kn_add {w w1 : World} {t : Nat} (h : KN w w1 t 12000) : Calls Try.prog 6 #[.pointer (some ⟨t, 0, none⟩), .agg #[.string ⟨#[97, 47, 98]⟩, .string ⟨#[]⟩, .int .i64 0, .int .i64 0]] w1 fun e w' => e = .returned (.int .i64 8) ∧ KN w w' t 12020 := by
  refine (add_any h.tr (szs_all k_good k_sm.each) kf4 (fok_small _ 0 (by decide) (by decide)) (by decide)).mono ?_
  rintro e w' ⟨rfl, h1⟩
  rw [k_add]
  refine ⟨rfl, ?_, ?_⟩
  · have := h1.tr
    rw [k_addL] at this
    have hs := h1.op.size
    have hs2 := h.below.size
    refine this.wider (fun i hi => ?_) (fun i hi => hi.2) (Nat.le_refl _)
    rcases hi with hi | hi
    · exact ⟨hi.1, by omega⟩
    · exact ⟨by omega, hi.2⟩
  · exact below_trans h.below (h1.op.toBelow h.below.size (fun i hi => hi.1))
theorem kn_files {w w1 : World} {t N : Nat} (h : KN w w1 t N) : Calls Try.prog 18 #[.pointer (some ⟨t, 0, none⟩), .string ⟨#[]⟩] w1 fun e w' => ∃ v, e = .returned v ∧ SS w' v [[99]] ∧ KN w w' t N := by
  refine (tfiles_any h.tr [] (by simp)).mono ?_
  rintro e w' ⟨v, X, rfl, h1, h2, h3, _, _, h4⟩
  have e := files_eq k_good k_srt h2 h3
  rw [k_files] at e
  subst e
  exact ⟨v, rfl, h1.bs, h.later h4⟩
theorem kn_dirs {w w1 : World} {t N : Nat} (h : KN w w1 t N) : Calls Try.prog 19 #[.pointer (some ⟨t, 0, none⟩), .string ⟨#[97]⟩] w1 fun e w' => ∃ v, e = .returned v ∧ SS w' v [[97, 47, 98]] ∧ KN w w' t N := by
  refine (tdirs_any h.tr [97] (by simp)).mono ?_
  rintro e w' ⟨v, X, rfl, h1, h2, h3, _, _, h4⟩
  have e := dirs_eq k_good k_srt h2 h3
  rw [k_dirs] at e
  subst e
  exact ⟨v, rfl, h1.bs, h.later h4⟩
theorem kn_count {w w1 : World} {t N : Nat} (h : KN w w1 t N) : Calls Try.prog 12 #[.pointer (some ⟨t, 0, none⟩), .string ⟨#[97]⟩] w1 fun e w' => e = .returned (.int .i64 2) ∧ KN w w' t N := by
  refine (tcount_any h.tr [97] (by simp)).mono ?_
  rintro e w' ⟨rfl, h4⟩
  rw [k_count]
  exact ⟨rfl, h.later h4⟩
theorem kn_countz {w w1 : World} {t N : Nat} (h : KN w w1 t N) : Calls Try.prog 12 #[.pointer (some ⟨t, 0, none⟩), .string ⟨#[122]⟩] w1 fun e w' => e = .returned (.int .i64 0) ∧ KN w w' t N := by
  refine (tcount_any h.tr [122] (by simp)).mono ?_
  rintro e w' ⟨rfl, h4⟩
  rw [k_countz]
  exact ⟨rfl, h.later h4⟩
theorem kn_size {w w1 : World} {t N : Nat} (h : KN w w1 t N) : Calls Try.prog 10 #[.pointer (some ⟨t, 0, none⟩), .string ⟨#[97]⟩] w1 fun e w' => e = .returned (.int .i64 12) ∧ KN w w' t N := by
  refine (tsize_any h.tr [97] (by simp)).mono ?_
  rintro e w' ⟨rfl, h4⟩
  rw [k_size]
  exact ⟨rfl, h.later h4⟩
theorem kn_own {w w1 : World} {t N : Nat} (h : KN w w1 t N) : Calls Try.prog 13 #[.pointer (some ⟨t, 0, none⟩), .string ⟨#[97]⟩] w1 fun e w' => e = .returned (.int .i64 5) ∧ KN w w' t N := by
  refine (town_any h.tr [97] (by simp)).mono ?_
  rintro e w' ⟨rfl, h4⟩
  rw [k_own]
  exact ⟨rfl, h.later h4⟩
theorem kn_same {w w1 : World} {t N : Nat} {v u : Value} {l : List (List UInt8)} (h : KN w w1 t N) (h1 : SS w1 v l) (h2 : SS w1 u l) (hl : l.length ≤ 140737488355328) : Calls Try.prog 17 #[v, u] w1 fun e w' => e = .returned (.bool true) ∧ KN w w' t N := by
  refine (same_any h1 h2 hl).mono ?_
  rintro e w' ⟨rfl, h4⟩
  rw [decide_eq_true rfl]
  exact ⟨rfl, h.later h4⟩

set_option maxRecDepth 100000 in
set_option maxHeartbeats 4000000 in
theorem known_any (w : World) : Calls Try.prog 5 #[] w fun e w' => e = .returned (.bool true) ∧ Below w.heap.size w w' := by
  obtain ⟨w1, hw1⟩ : ∃ w1, w.alloc (.cells (fc kl).toArray 30) = w1 := ⟨_, rfl⟩
  have H1 : Hid (FS w1 (.slice (some ⟨w.heap.size, 0, none⟩) 3 3) kl ∧ Below w.heap.size w w1) := by rw [← hw1]; exact ⟨fs_new w kl 30, balloc _ _⟩
  go_enter Try.func5, Try.ntmps5
  go_wp2_with fail
  rw [show w.alloc (Obj.cells #[Value.string { data := #[97, 47, 98, 47, 121] }, Value.string { data := #[] }, Value.int IntKind.i64 0, Value.int IntKind.i64 7, Value.string { data := #[97, 47, 120] }, Value.string { data := #[] }, Value.int IntKind.i64 0, Value.int IntKind.i64 5, Value.string { data := #[99] }, Value.string { data := #[] }, Value.int IntKind.i64 0, Value.int IntKind.i64 2] 30) = w1 from hw1]
  clear hw1
  refine (kn_new H1.out.1 H1.out.2).mono ?_
  rintro e w2 ⟨t, rfl, hk⟩
  have H2 : Hid (KN w w2 t 12000) := hk
  have q1 := eqT
  clear hk H1
  go_wp2_with fail
  refine (kn_add H2.out).mono ?_
  rintro e w3 ⟨rfl, hk⟩
  have H3 : Hid (KN w w3 t 12020) := hk
  clear hk H2
  go_wp2_with fail
  refine (kn_files H3.out).mono ?_
  rintro e w4 ⟨v4, rfl, hs, hk⟩
  obtain ⟨w5, hw5⟩ : ∃ w5, w4.alloc (.cells (sc [[99]]).toArray 9) = w5 := ⟨_, rfl⟩
  have H5 : Hid (KN w w5 t 12020 ∧ SS w5 v4 [[99]] ∧ SS w5 (.slice (some ⟨w4.heap.size, 0, none⟩) 1 1) [[99]]) := by
    rw [← hw5]
    exact ⟨hk.later (balloc _ _), hs.later (balloc _ _), ss_lit w4 [[99]] 1 rfl⟩
  clear hk hs H3
  go_wp2_with fail
  rw [show w4.alloc (Obj.cells #[Value.string { data := #[99] }] 9) = w5 from hw5]
  clear hw5
  refine (kn_same H5.out.1 H5.out.2.1 H5.out.2.2 (by decide)).mono ?_
  rintro e w6 ⟨rfl, hk⟩
  have H6 : Hid (KN w w6 t 12020) := hk
  clear hk H5
  go_wp2_with fail
  refine (kn_dirs H6.out).mono ?_
  rintro e w7 ⟨v7, rfl, hs, hk⟩
  obtain ⟨w8, hw8⟩ : ∃ w8, w7.alloc (.cells (sc [[97, 47, 98]]).toArray 9) = w8 := ⟨_, rfl⟩
  have H8 : Hid (KN w w8 t 12020 ∧ SS w8 v7 [[97, 47, 98]] ∧ SS w8 (.slice (some ⟨w7.heap.size, 0, none⟩) 1 1) [[97, 47, 98]]) := by
    rw [← hw8]
    exact ⟨hk.later (balloc _ _), hs.later (balloc _ _), ss_lit w7 [[97, 47, 98]] 1 rfl⟩
  clear hk hs H6
  go_wp2_with fail
  rw [show w7.alloc (Obj.cells #[Value.string { data := #[97, 47, 98] }] 9) = w8 from hw8]
  clear hw8
  refine (kn_same H8.out.1 H8.out.2.1 H8.out.2.2 (by decide)).mono ?_
  rintro e w9 ⟨rfl, hk⟩
  have H9 : Hid (KN w w9 t 12020) := hk
  clear hk H8
  go_wp2_with fail
  refine (kn_count H9.out).mono ?_
  rintro e w10 ⟨rfl, hk⟩
  have H10 : Hid (KN w w10 t 12020) := hk
  clear hk H9
  go_wp2_with fail
  refine (kn_size H10.out).mono ?_
  rintro e w11 ⟨rfl, hk⟩
  have H11 : Hid (KN w w11 t 12020) := hk
  clear hk H10
  go_wp2_with fail
  refine (kn_own H11.out).mono ?_
  rintro e w12 ⟨rfl, hk⟩
  have H12 : Hid (KN w w12 t 12020) := hk
  clear hk H11
  go_wp2_with fail
  refine (kn_countz H12.out).mono ?_
  rintro e w13 ⟨rfl, hk⟩
  have H13 : Hid (KN w w13 t 12020) := hk
  clear hk H12
  go_wp2_with fail
  go_ret
  exact ⟨rfl, H13.out.below⟩
end Go.Proofs.Ytceoelclnnfhhad
