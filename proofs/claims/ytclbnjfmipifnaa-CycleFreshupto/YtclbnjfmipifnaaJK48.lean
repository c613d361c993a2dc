/-
  The law of new memory: what follows from a region on; an edge of one of two graphs, beside labels that stand in memory of their own.
  The law of new memory: what is answered of the ring and of the chain.
-/
import Derived.Test.YtclbnjfmipifnaaJFa
import Derived.Test.YtclbnjfmipifnaaCl
import Derived.Laws.BitsLemmas
namespace Go.Proofs.Ytclbnjfmipifnaa
open Go.RowKit Go.Maps

/-- does a statement begin with this region? -/
def beg (n : Nat) : Code → Bool
  | .region m _ _ => m == n
  | .seq a _ => beg n a
  | .block _ c => beg n c
  | .loop c => beg n c
  | .scope c => beg n c
  | _ => false
/-- what stands from there on -/
def suff (n : Nat) : Code → Code
  | .seq a b => if beg n a then .seq a b else suff n b
  | c => c
theorem hid_of {p : Prop} (h : p) : Hid p := h
def GoodE (w : World) (e : Ending) (w' : World) : Prop := e = .returned (.bool true) ∧ Below w.heap.size w w'

theorem Tw.edge2 {B : Nat} {w0 w : World} {g h : Nat} {N M : List Lb} {E D : List Ee} (t : Tw B w0 g h N E M D) (hb0 : Below w0.heap.size w0 w) (hB : B ≤ w0.heap.size) (a b : Lb) (ha : Lu a) (hb : Lu b) (hz : N.length + 2 ≤ 1000000) :
    Calls Try.prog 24 #[.pointer (some ⟨g, 0, none⟩), a.val, b.val] w fun e w' => e = .returned (.tuple #[]) ∧ Tw B w' g h (addN (addN N a) b) (addE E (a, b)) M D ∧ Below B w w' ∧ ∀ k, w0.heap.size ≤ k → k < w.heap.size → w'.heap[k]? = w.heap[k]? := by
  have hs := hb0.size
  obtain ⟨⟨F, G, ns, out, ms, uot, h1, h2, h3, h4, h5, h6, h7⟩, q1, q2⟩ := t
  have hl := h1.nlen h2
  have h3' := h3.later hb0
  refine (edge_any (h1.later hb0) a b ha hb (by omega)).mono fun e w' ⟨k1, k2, k3⟩ => ⟨k1, ⟨⟨_, G, _, _, ms, uot, k2, h2.edge a b, h3'.only k3 (fun k x y => h5 k y x), h4, fun k hk hg => ?_, fun k hk => ?_, h7⟩, fun e he => ?_, q2⟩, k3.below (by omega) h6, fun k hk1 hk2 => k3.block k hk2 (fun hf => by have := h1.lt k hf; omega)⟩
  · rcases hk with hk | hk
    · exact h5 k hk hg
    · have := h3'.lt k hg
      have := hk.1
      omega
  · rcases hk with hk | hk
    · exact h6 k hk
    · have := hk.1
      omega
  · rw [mem_addN, mem_addN, mem_addN, mem_addN]
    rcases mem_addE.1 he with he | he
    · exact ⟨.inl (.inl (q1 e he).1), .inl (.inl (q1 e he).2)⟩
    · subst he
      exact ⟨.inl (.inr rfl), .inr rfl⟩
/-- three bytes as a text -/
theorem conv3 {W : World} {g : Nat} {x y z : UInt8} (h0 : W.cell? ⟨g, 0, none⟩ = some (.int .u8 x.toNat)) (h1 : W.cell? ⟨g, 1, none⟩ = some (.int .u8 y.toNat)) (h2 : W.cell? ⟨g, 2, none⟩ = some (.int .u8 z.toNat)) : (convert 50 9 (.slice (some ⟨g, 0, none⟩) 3 3)).run Try.prog W = .ok (.string (bs [x, y, z])) W := by
  have e : strOfNums ([x, y, z].map fun b => (b.toNat : Int)) = bs [x, y, z] := by
    unfold strOfNums bs
    congr 1
    simp
  rw [← e]
  refine run_convert_bytes_arg (P := Try.prog) _ 50 5 fund50 fund5 g 0 3 3 ([x, y, z].map fun b => (b.toNat : Int)) (by simp) (fun i hi => ?_) 9 fund9
  rcases i with _ | _ | _ | i
  · simpa using h0
  · simpa using h1
  · simpa using h2
  · omega
theorem sm_i64 {n : Nat} (h : n ≤ 4096) : IntKind.i64.wrap (n : Int) = (n : Int) := by rw [IntKind.wrap_i64]; omega
theorem sm_i64s {n : Nat} (h : n ≤ 4096) : IntKind.i64.wrap ((n : Int) + 1) = (n : Int) + 1 := by rw [IntKind.wrap_i64]; omega
theorem sm_64 {n : Nat} (h : n ≤ 4096) : wrap64 (n : Int) = (n : Int) := by unfold wrap64; omega
theorem sm_u8 {n : Nat} (h : n ≤ 100) : IntKind.u8.wrap (n : Int) = (n : Int) := by rw [IntKind.wrap_u8]; omega
theorem sm_u97 {n : Nat} (h : n ≤ 100) : IntKind.u8.wrap (97 + (n : Int)) = 97 + (n : Int) := by rw [IntKind.wrap_u8]; omega
theorem sm_m97 {n : Nat} (h : n ≤ 100) : (97 + (n : Int)) % 256 = 97 + (n : Int) := by omega
theorem td_nat (a b : Nat) : Int.tdiv (a : Int) (b : Int) = ((a / b : Nat) : Int) := by rw [Int.tdiv_eq_ediv_of_nonneg (by omega), Int.natCast_ediv]
theorem tm_nat (a b : Nat) : Int.tmod (a : Int) (b : Int) = ((a % b : Nat) : Int) := by rw [Int.tmod_eq_emod_of_nonneg (by omega), Int.natCast_emod]
theorem nm_lu (i : Nat) : Lu (nmN i) := lu_small (by simp [nmN]) (by simp [nmN])
/-- one of the law's names, as it is laid -/
theorem nm_bytes {i : Nat} (h : i < 4096) : ∃ x y z : UInt8, (nmN i).name = [x, y, z] ∧ (x.toNat : Int) = 97 + ((i / 256 : Nat) : Int) ∧ (y.toNat : Int) = 97 + ((i / 16 % 16 : Nat) : Int) ∧ (z.toNat : Int) = 97 + ((i % 16 : Nat) : Int) := by
  refine ⟨_, _, _, rfl, ?_, ?_, ?_⟩
  · rw [u8_up (by omega)]; omega
  · rw [u8_up (by omega)]; omega
  · rw [u8_up (by omega)]; omega
theorem pts_is (N : List Lb) (E : List Ee) : Gs.Pts ltL N E (Gs.pts ltL N E) := by
  have hm : ∀ x, x ∈ Gs.ris ltL N ↔ x ∈ N := fun x => Gs.mem_ris x N
  have key : ∀ k, k ≤ (Gs.ris ltL N).length → ∃ P, Gs.PtsK ltL N E (Gs.ris ltL N) k P := by
    intro k
    induction k with
    | zero => exact fun _ => ⟨[], Gs.PtsK.nil _ _ _ _⟩
    | succ k ih =>
      intro hk
      obtain ⟨P, hP⟩ := ih (by omega)
      by_cases h : ∃ p ∈ P, (Gs.ris ltL N)[k] ∈ p
      · obtain ⟨p, hp, hx⟩ := h
        exact ⟨P, hP.skip (by omega) hp hx⟩
      · exact ⟨_, hP.add stoL (Gs.ris_up stoL _) hm (by omega) (fun p hp hx => h ⟨p, hp, hx⟩) (Gs.part_up stoL N E _) (fun y => Gs.mem_part)⟩
  obtain ⟨P, hP⟩ := key _ (Nat.le_refl _)
  have hd := hP.done hm
  rw [← hd.eq stoL]
  exact hd
theorem and511 (n : Int) : ∃ q : Nat, bits .and .i64 n 511 = (q : Int) ∧ q ≤ 511 := by
  have h511 : (BitVec.ofInt 64 511).toNat = 2 ^ 9 - 1 := by decide
  have key : (BitVec.ofInt 64 n &&& BitVec.ofInt 64 511).toNat = (n % ((2 ^ 64 : Nat) : Int)).toNat % 2 ^ 9 := by
    rw [BitVec.toNat_and, BitVec.toNat_ofInt, h511, Nat.and_two_pow_sub_one_eq_mod]
  refine ⟨(n % ((2 ^ 64 : Nat) : Int)).toNat % 2 ^ 9, ?_, by omega⟩
  show IntKind.i64.wrap ((BitVec.ofInt 64 n &&& BitVec.ofInt 64 511).toNat : Nat) = _
  rw [key, IntKind.wrap_i64]
  omega
end Go.Proofs.Ytclbnjfmipifnaa

namespace Go.Proofs.Ytclbnjfmipifnaa
open Go.RowKit Go.Maps

/-- the ring and the chain -/
structure TX (w W : World) (r c s : Nat) : Prop where
  bel : Below w.heap.size w W
  it : ∃ N E M D, Tw w.heap.size W r c N E M D ∧ RF s s N E ∧ CF s s M D
  lo : 2 ≤ s
  hi : s ≤ 513
section
variable {w W W' : World} {r c s : Nat}
theorem NF.lu {s : Nat} {N : List Lb} (h : NF s N) : ∀ x ∈ N, Lu x := fun x hx => by
  obtain ⟨k, _, rfl⟩ := h.inn x hx
  exact nm_lu k
theorem TX.first (h : TX w W r c s) (hW : Below W.heap.size W W') : Calls Try.prog 14 #[.pointer (some ⟨r, 0, none⟩)] W' fun e w' => ∃ a k, e = .returned (.tuple #[.slice a s k, .bool true]) ∧ Below W'.heap.size W' w' := by
  obtain ⟨N, E, M, D, t, h1, h2⟩ := h.it
  have h3 := h1.nf.len
  have h4 := h1.el
  have h5 := h.hi
  obtain ⟨_, _, p, _, h6, h7⟩ := h1.done h.lo (by omega) t.s1 (pts_is N E)
  refine ((t.later hW).left.first (by omega) h1.nf.lu (by omega)).mono fun e w' ⟨v, k1, k2, k3⟩ => ?_
  rw [h7] at k1 k2
  obtain ⟨a, k, e2⟩ := k2.form
  subst e2
  rw [Option.getD_some, h6] at k1
  exact ⟨a, k, k1, k3⟩
theorem TX.second (h : TX w W r c s) (hW : Below W.heap.size W W') : Calls Try.prog 14 #[.pointer (some ⟨c, 0, none⟩)] W' fun e w' => ∃ v, e = .returned (.tuple #[v, .bool false]) ∧ Below W'.heap.size W' w' := by
  obtain ⟨N, E, M, D, t, h1, h2⟩ := h.it
  have h3 := h2.nf.len
  have h4 := h2.el
  have h5 := h.hi
  obtain ⟨_, _, h7⟩ := h2.done h.lo (by omega) t.s2 (pts_is M D)
  refine ((t.later hW).right.first (by omega) h2.nf.lu (by omega)).mono fun e w' ⟨v, k1, k2, k3⟩ => ?_
  rw [h7] at k1
  exact ⟨v, k1, k3⟩
theorem TX.parts (h : TX w W r c s) (hW : Below W.heap.size W W') : Calls Try.prog 8 #[.pointer (some ⟨r, 0, none⟩)] W' fun e w' => ∃ a k, e = .returned (.slice a 1 k) ∧ Below W'.heap.size W' w' := by
  obtain ⟨N, E, M, D, t, h1, h2⟩ := h.it
  have h3 := h1.nf.len
  have h5 := h.hi
  refine ((t.later hW).left.parts (by omega)).mono fun e w' ⟨v, V, P, k1, k2, k3, k4, k5⟩ => ?_
  obtain ⟨_, h6, _⟩ := h1.done h.lo (by omega) t.s1 k3
  obtain ⟨a, k, e2⟩ := row_form k2.row
  rw [k2.len, h6] at e2
  subst e2
  exact ⟨a, k, k1, k5⟩
theorem TX.many (h : TX w W r c s) (hW : Below W.heap.size W W') : Calls Try.prog 8 #[.pointer (some ⟨c, 0, none⟩)] W' fun e w' => ∃ a k, e = .returned (.slice a s k) ∧ Below W'.heap.size W' w' := by
  obtain ⟨N, E, M, D, t, h1, h2⟩ := h.it
  have h3 := h2.nf.len
  have h5 := h.hi
  refine ((t.later hW).right.parts (by omega)).mono fun e w' ⟨v, V, P, k1, k2, k3, k4, k5⟩ => ?_
  obtain ⟨_, h6, _⟩ := h2.done h.lo (by omega) t.s2 k3
  obtain ⟨a, k, e2⟩ := row_form k2.row
  rw [k2.len, h6] at e2
  subst e2
  exact ⟨a, k, k1, k5⟩
end

set_option maxRecDepth 100000 in
set_option maxHeartbeats 16000000 in
theorem f48 {w W : World} {r c s : Nat} {lv0 lv1 lv2 lv3 lv4 lv5 lv6 lv7 lv8 lv9 lv10 lv11 lv12 lv13 lv14 lv15 lv16 lv17 lv18 lv19 lv20 lv21 lv25 lv26 lv27 lv28 lv29 lv30 lv31 lv32 lv33 lv34 lv35 lv36 lv37 lv38 lv39 lv40 lv41 lv42 lv43 lv44 lv45 lv46 lv47 lv48 lv49 lv50 lv51 lv52 lv53 lv54 lv55 lv56 lv57 lv58 lv59 lv60 lv61 lv62 lv63 lv64 lv65 lv66 lv67 lv68 lv69 lv70 lv71 lv72 lv73 lv74 lv75 lv76 lv77 lv78 lv79 lv80 lv81 lv82 lv83 lv84 lv85 lv86 lv87 lv88 lv89 lv90 lv91 lv92 lv93 lv94 lv95 lv96 lv97 lv98 lv99 lv100 lv101 lv102 lv103 lv104 lv105 lv106 lv107 lv108 lv109 lv110 lv111 lv112 lv113 lv114 lv115 lv116 lv117 lv118 lv119 lv120 lv121 lv122 lv123 lv124 lv125 lv126 lv127 lv128 lv129 lv130 lv131 lv132 lv133 lv134 lv135 lv136 lv137 lv138 lv139 lv140 lv141 lv142 lv143 lv144 lv145 lv146 lv147 lv148 lv149 lv150 lv151 lv152 lv153 lv154 lv155 lv156 lv157 lv158 lv159 lv160 lv161 lv162 lv163 lv164 lv165 lv166 lv167 lv168 lv169 lv170 lv171 lv172 lv173 lv174 lv175 lv176 lv177 lv178 lv179 lv180 lv181 lv182 lv183 lv184 lv185 lv186 lv187 lv188 lv189 lv190 lv191 lv192 lv193 lv194 lv195 lv196 lv197 lv198 lv199 lv200 lv201 lv202 lv203 lv204 lv205 lv206 lv207 lv208 lv209 lv210 lv211 lv212 lv213 lv214 lv215 lv216 lv217 lv218 lv219 lv220 lv221 lv222 lv223 lv224 lv225 lv226 lv227 lv228 lv229 lv230 lv231 lv232 lv233 lv234 lv235 lv236 lv237 lv238 lv239 lv240 lv241 lv242 lv243 lv244 lv245 lv246 lv247 lv248 lv249 lv250 lv251 lv252 lv253 lv254 lv255 lv256 lv257 lv258 lv259 lv260 lv261 lv262 lv263 lv264 lv265 lv266 lv267 lv268 lv269 lv270 lv271 lv272 lv273 lv274 lv275 lv276 lv277 lv278 lv279 lv280 lv281 lv282 lv283 : Value} (X : Hid (TX w W r c s)) :
    Code.wp Try.prog (suff 48 (Try.f5.body.getD .skip)) (bodyPost Try.prog Try.f5 (GoodE w)) ⟨#[lv0, lv1, lv2, lv3, lv4, lv5, lv6, lv7, lv8, lv9, lv10, lv11, lv12, lv13, lv14, lv15, lv16, lv17, lv18, lv19, lv20, lv21, .int .i64 (s : Int), .pointer (some ⟨r, 0, none⟩), .pointer (some ⟨c, 0, none⟩), lv25, lv26, lv27, lv28, lv29, lv30, lv31, lv32, lv33, lv34, lv35, lv36, lv37, lv38, lv39, lv40, lv41, lv42, lv43, lv44, lv45, lv46, lv47, lv48, lv49, lv50, lv51, lv52, lv53, lv54, lv55, lv56, lv57, lv58, lv59, lv60, lv61, lv62, lv63, lv64, lv65, lv66, lv67, lv68, lv69, lv70, lv71, lv72, lv73, lv74, lv75, lv76, lv77, lv78, lv79, lv80, lv81, lv82, lv83, lv84, lv85, lv86, lv87, lv88, lv89, lv90, lv91, lv92, lv93, lv94, lv95, lv96, lv97, lv98, lv99, lv100, lv101, lv102, lv103, lv104, lv105, lv106, lv107, lv108, lv109, lv110, lv111, lv112, lv113, lv114, lv115, lv116, lv117, lv118, lv119, lv120, lv121, lv122, lv123, lv124, lv125, lv126, lv127, lv128, lv129, lv130, lv131, lv132, lv133, lv134, lv135, lv136, lv137, lv138, lv139, lv140, lv141, lv142, lv143, lv144, lv145, lv146, lv147, lv148, lv149, lv150, lv151, lv152, lv153, lv154, lv155, lv156, lv157, lv158, lv159, lv160, lv161, lv162, lv163, lv164, lv165, lv166, lv167, lv168, lv169, lv170, lv171, lv172, lv173, lv174, lv175, lv176, lv177, lv178, lv179, lv180, lv181, lv182, lv183, lv184, lv185, lv186, lv187, lv188, lv189, lv190, lv191, lv192, lv193, lv194, lv195, lv196, lv197, lv198, lv199, lv200, lv201, lv202, lv203, lv204, lv205, lv206, lv207, lv208, lv209, lv210, lv211, lv212, lv213, lv214, lv215, lv216, lv217, lv218, lv219, lv220, lv221, lv222, lv223, lv224, lv225, lv226, lv227, lv228, lv229, lv230, lv231, lv232, lv233, lv234, lv235, lv236, lv237, lv238, lv239, lv240, lv241, lv242, lv243, lv244, lv245, lv246, lv247, lv248, lv249, lv250, lv251, lv252, lv253, lv254, lv255, lv256, lv257, lv258, lv259, lv260, lv261, lv262, lv263, lv264, lv265, lv266, lv267, lv268, lv269, lv270, lv271, lv272, lv273, lv274, lv275, lv276, lv277, lv278, lv279, lv280, lv281, lv282, lv283], []⟩ W := by
  unfold GoodE
  conv => arg 2; whnf
  have HF : Hid (∀ W', Below W.heap.size W W' → Calls Try.prog 14 #[.pointer (some ⟨r, 0, none⟩)] W' fun e w' => ∃ a k, e = .returned (.tuple #[.slice a s k, .bool true]) ∧ Below W'.heap.size W' w') := fun W' hW => X.out.first hW
  have HS : Hid (∀ W', Below W.heap.size W W' → Calls Try.prog 14 #[.pointer (some ⟨c, 0, none⟩)] W' fun e w' => ∃ v, e = .returned (.tuple #[v, .bool false]) ∧ Below W'.heap.size W' w') := fun W' hW => X.out.second hW
  have HP : Hid (∀ W', Below W.heap.size W W' → Calls Try.prog 8 #[.pointer (some ⟨r, 0, none⟩)] W' fun e w' => ∃ a k, e = .returned (.slice a 1 k) ∧ Below W'.heap.size W' w') := fun W' hW => X.out.parts hW
  have HM : Hid (∀ W', Below W.heap.size W W' → Calls Try.prog 8 #[.pointer (some ⟨c, 0, none⟩)] W' fun e w' => ∃ a k, e = .returned (.slice a s k) ∧ Below W'.heap.size W' w') := fun W' hW => X.out.many hW
  have hs : (s : Int) ≤ 513 := by have := X.out.hi; omega
  have hs0 : (0 : Int) ≤ (s : Int) := by omega
  go_wp2_with fail
  refine (HF.out W (Below.refl _ _)).mono ?_
  rintro e w1 ⟨a1, k1, rfl, hb⟩
  have HB1 : Hid (Below W.heap.size W w1) := hb
  clear hb
  go_wp2_with fail
  refine (HS.out w1 HB1.out).mono ?_
  rintro e w2 ⟨v2, rfl, hb⟩
  have HB2 : Hid (Below W.heap.size W w2) := bstep HB1.out hb
  clear hb
  go_wp2_with fail
  refine (HP.out w2 HB2.out).mono ?_
  rintro e w3 ⟨a3, k3, rfl, hb⟩
  have HB3 : Hid (Below W.heap.size W w3) := bstep HB2.out hb
  clear hb
  go_wp2_with fail
  refine (HM.out w3 HB3.out).mono ?_
  rintro e w4 ⟨a4, k4, rfl, hb⟩
  have HB4 : Hid (Below W.heap.size W w4) := bstep HB3.out hb
  clear hb
  go_wp2_with fail
  go_ret
  exact ⟨rfl, bstep X.out.bel HB4.out⟩
end Go.Proofs.Ytclbnjfmipifnaa
