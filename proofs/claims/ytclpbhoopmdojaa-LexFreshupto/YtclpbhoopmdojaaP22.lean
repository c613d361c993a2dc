/-
  Where tokens stand: behind the last one.
-/
import Derived.Test.YtclpbhoopmdojaaBlank
namespace Go.Proofs.Ytclpbhoopmdojaa
open Go.RowKit

/-- does a statement begin with this region? -/
def beg (n : Nat) : Code → Bool
  | .region m _ _ => m == n
  | .seq a _ => beg n a
  | .block _ c => beg n c
  | .loop c => beg n c
  | .scope c => beg n c
  | _ => false
/-- what stands from there on -/
def suff (n : Nat) : Code → Code
  | .seq a b => if beg n a then .seq a b else suff n b
  | c => c
/-- what the law answers -/
def GoodE (w : World) (e : Ending) (w' : World) : Prop := e = .returned (.bool true) ∧ Below w.heap.size w w'
theorem bad_byte (c : UInt8) (h : kd c = 0) (h1 : c ≠ 35) (h2 : isB c = false) : c ≠ 123 ∧ c ≠ 125 ∧ c ≠ 91 ∧ c ≠ 93 ∧ c ≠ 44 ∧ c ≠ 61 ∧ c ≠ 35 ∧ c ≠ 9 ∧ c ≠ 10 ∧ c ≠ 13 ∧ c ≠ 32 ∧ inW c = false :=
  u8_all (P := fun c => kd c = 0 → c ≠ 35 → isB c = false → c ≠ 123 ∧ c ≠ 125 ∧ c ≠ 91 ∧ c ≠ 93 ∧ c ≠ 44 ∧ c ≠ 61 ∧ c ≠ 35 ∧ c ≠ 9 ∧ c ≠ 10 ∧ c ≠ 13 ∧ c ≠ 32 ∧ inW c = false) (by decide +kernel) c h h1 h2

set_option maxRecDepth 100000 in
set_option maxHeartbeats 8000000 in
theorem p22 {lv1 lv2 lv3 lv6 lv7 lv8 lv9 lv10 lv11 lv12 lv13 lv14 lv15 lv16 lv17 lv18 lv19 lv20 lv21 lv22 lv23 lv24 lv25 lv26 lv27 lv28 lv29 lv30 lv31 lv32 lv33 lv34 lv35 lv36 lv37 lv38 lv39 lv40 lv41 lv42 lv43 lv44 lv45 lv46 lv47 lv48 lv49 lv50 lv51 lv52 lv53 lv54 lv55 lv56 lv57 lv58 lv59 lv60 lv61 lv62 lv63 lv64 lv65 lv66 lv67 lv68 lv69 lv70 lv71 lv72 lv73 lv74 lv75 lv76 lv77 lv78 lv79 lv80 lv81 lv82 lv83 lv84 lv85 lv86 lv87 lv88 lv89 lv90 lv91 lv92 lv93 lv94 lv95 lv96 lv97 lv98 lv99 lv100 lv101 lv102 lv103 lv104 lv105 lv106 lv107 lv108 lv109 lv110 lv111 lv112 lv113 lv114 lv115 lv116 lv117 lv118 lv119 lv120 lv121 lv122 lv123 lv124 lv125 lv126 lv127 lv128 lv129 lv130 lv131 lv132 lv133 lv134 lv135 lv136 lv137 lv138 lv139 lv140 lv141 lv142 lv143 lv144 lv145 lv146 lv147 lv148 lv149 lv150 lv151 lv152 lv153 lv154 lv155 lv156 lv157 lv158 lv159 lv160 lv161 lv162 lv163 lv164 lv165 lv166 lv167 lv168 lv169 lv170 lv171 lv172 lv173 lv174 lv175 lv176 lv177 lv178 lv179 lv180 lv181 lv182 lv183 lv184 lv185 lv186 lv187 lv188 lv189 lv190 lv191 lv192 lv193 lv194 lv195 lv196 lv197 lv198 lv199 lv200 lv201 lv202 lv203 lv204 lv205 lv206 lv207 lv208 lv209 lv210 lv211 lv212 lv213 lv214 lv215 lv216 lv217 lv218 lv219 lv220 lv221 lv222 lv223 lv224 lv225 lv226 lv227 lv228 lv229 lv230 lv231 lv232 lv233 : Value} {w wc : World} {s : List UInt8} {f : Nat} {E : Int} (HB : Hid (Below w.heap.size w wc)) (ht : tg (s.drop f) f = ([], E)) (hf : f ≤ s.length) (hs : s.length ≤ 1000000000) :
    Code.wp Try.prog (suff 22 (Try.f4.body.getD .skip)) (bodyPost Try.prog Try.f4 (GoodE w)) ⟨(.string (bs s) :: lv1 :: lv2 :: lv3 :: .int .i64 E :: .int .i64 (f : Nat) :: lv6 :: lv7 :: lv8 :: lv9 :: lv10 :: lv11 :: lv12 :: lv13 :: lv14 :: lv15 :: lv16 :: lv17 :: lv18 :: lv19 :: lv20 :: lv21 :: lv22 :: lv23 :: lv24 :: lv25 :: lv26 :: lv27 :: lv28 :: lv29 :: lv30 :: lv31 :: lv32 :: lv33 :: lv34 :: lv35 :: lv36 :: lv37 :: lv38 :: lv39 :: lv40 :: lv41 :: lv42 :: lv43 :: lv44 :: lv45 :: lv46 :: lv47 :: lv48 :: lv49 :: lv50 :: lv51 :: lv52 :: lv53 :: lv54 :: lv55 :: lv56 :: lv57 :: lv58 :: lv59 :: lv60 :: lv61 :: lv62 :: lv63 :: lv64 :: lv65 :: lv66 :: lv67 :: lv68 :: lv69 :: lv70 :: lv71 :: lv72 :: lv73 :: lv74 :: lv75 :: lv76 :: lv77 :: lv78 :: lv79 :: lv80 :: lv81 :: lv82 :: lv83 :: lv84 :: lv85 :: lv86 :: lv87 :: lv88 :: lv89 :: lv90 :: lv91 :: lv92 :: lv93 :: lv94 :: lv95 :: lv96 :: lv97 :: lv98 :: lv99 :: lv100 :: lv101 :: lv102 :: lv103 :: lv104 :: lv105 :: lv106 :: lv107 :: lv108 :: lv109 :: lv110 :: lv111 :: lv112 :: lv113 :: lv114 :: lv115 :: lv116 :: lv117 :: lv118 :: lv119 :: lv120 :: lv121 :: lv122 :: lv123 :: lv124 :: lv125 :: lv126 :: lv127 :: lv128 :: lv129 :: lv130 :: lv131 :: lv132 :: lv133 :: lv134 :: lv135 :: lv136 :: lv137 :: lv138 :: lv139 :: lv140 :: lv141 :: lv142 :: lv143 :: lv144 :: lv145 :: lv146 :: lv147 :: lv148 :: lv149 :: lv150 :: lv151 :: lv152 :: lv153 :: lv154 :: lv155 :: lv156 :: lv157 :: lv158 :: lv159 :: lv160 :: lv161 :: lv162 :: lv163 :: lv164 :: lv165 :: lv166 :: lv167 :: lv168 :: lv169 :: lv170 :: lv171 :: lv172 :: lv173 :: lv174 :: lv175 :: lv176 :: lv177 :: lv178 :: lv179 :: lv180 :: lv181 :: lv182 :: lv183 :: lv184 :: lv185 :: lv186 :: lv187 :: lv188 :: lv189 :: lv190 :: lv191 :: lv192 :: lv193 :: lv194 :: lv195 :: lv196 :: lv197 :: lv198 :: lv199 :: lv200 :: lv201 :: lv202 :: lv203 :: lv204 :: lv205 :: lv206 :: lv207 :: lv208 :: lv209 :: lv210 :: lv211 :: lv212 :: lv213 :: lv214 :: lv215 :: lv216 :: lv217 :: lv218 :: lv219 :: lv220 :: lv221 :: lv222 :: lv223 :: lv224 :: lv225 :: lv226 :: lv227 :: lv228 :: lv229 :: lv230 :: lv231 :: lv232 :: lv233 :: []).toArray, []⟩ wc := by
  conv => arg 2; whnf
  have hz : (bs s).size = s.length := rfl
  have f0 : (0 : Int) ≤ (f : Int) := by omega
  have f1 : (f : Int) ≤ (s.length : Int) := by omega
  rcases tg_last ht hf with ⟨rfl, hb⟩ | ⟨p, hp, rfl, hfp, hb, hk, h35, hB⟩
  · have HE : Hid ((bs s).extract f s.length = bs (s.drop f)) := by
      show (bs s).extract f s.length = bs (s.drop f)
      rw [bs_extract, List.take_of_length_le (by simp)]
    have HC : Hid (∀ w : World, Calls Try.prog 9 #[.string (bs (s.drop f))] w fun e w' => e = .returned (.tuple #[.bool true, .bool (blk false (s.drop f)).2]) ∧ w' = w) := fun w => by
      have := blank_any (s.drop f) w (by simp; omega)
      rw [hb] at this
      exact this
    generalize (blk false (s.drop f)).2 = z at *
    clear ht hb hf
    go_wp2_with fail
    rw [HE.out]
    refine (HC.out _).mono ?_
    rintro e w1 ⟨rfl, rfl⟩
    go_wp2_with fail
    go_ret
    exact ⟨rfl, HB.out⟩
  · have HE : Hid ((bs s).extract f p = bs ((s.drop f).take (p - f))) := bs_extract s f p
    have HC : Hid (∀ w : World, Calls Try.prog 9 #[.string (bs ((s.drop f).take (p - f)))] w fun e w' => e = .returned (.tuple #[.bool true, .bool false]) ∧ w' = w) := fun w => by
      have := blank_any ((s.drop f).take (p - f)) w (by simp; omega)
      rw [hb] at this
      exact this
    obtain ⟨n1, n2, n3, n4, n5, n6, n7, n8, n9, n10, n11, n12⟩ := bad_byte _ hk h35 hB
    have HL : Hid (∀ w : World, Calls Try.prog 10 #[.int .u8 ((bs s)[p]'(show p < (bs s).size from hp)).toNat] w fun e w' => e = .returned (.bool false) ∧ w' = w) := fun w => by
      have := letter_any s[p] w
      rw [n12] at this
      exact this
    have e0 : ((((bs s)[p]'(show p < (bs s).size from hp)).toNat : Int) == 123) = false := at_ne hp n1
    have b0 : ((((bs s)[p]'(show p < (bs s).size from hp)).toNat : Int) != 123) = true := by rw [bne, e0]; rfl
    have e1 : ((((bs s)[p]'(show p < (bs s).size from hp)).toNat : Int) == 125) = false := at_ne hp n2
    have b1 : ((((bs s)[p]'(show p < (bs s).size from hp)).toNat : Int) != 125) = true := by rw [bne, e1]; rfl
    have e2 : ((((bs s)[p]'(show p < (bs s).size from hp)).toNat : Int) == 91) = false := at_ne hp n3
    have b2 : ((((bs s)[p]'(show p < (bs s).size from hp)).toNat : Int) != 91) = true := by rw [bne, e2]; rfl
    have e3 : ((((bs s)[p]'(show p < (bs s).size from hp)).toNat : Int) == 93) = false := at_ne hp n4
    have b3 : ((((bs s)[p]'(show p < (bs s).size from hp)).toNat : Int) != 93) = true := by rw [bne, e3]; rfl
    have e4 : ((((bs s)[p]'(show p < (bs s).size from hp)).toNat : Int) == 44) = false := at_ne hp n5
    have b4 : ((((bs s)[p]'(show p < (bs s).size from hp)).toNat : Int) != 44) = true := by rw [bne, e4]; rfl
    have e5 : ((((bs s)[p]'(show p < (bs s).size from hp)).toNat : Int) == 61) = false := at_ne hp n6
    have b5 : ((((bs s)[p]'(show p < (bs s).size from hp)).toNat : Int) != 61) = true := by rw [bne, e5]; rfl
    have e6 : ((((bs s)[p]'(show p < (bs s).size from hp)).toNat : Int) == 35) = false := at_ne hp n7
    have b6 : ((((bs s)[p]'(show p < (bs s).size from hp)).toNat : Int) != 35) = true := by rw [bne, e6]; rfl
    have e7 : ((((bs s)[p]'(show p < (bs s).size from hp)).toNat : Int) == 9) = false := at_ne hp n8
    have b7 : ((((bs s)[p]'(show p < (bs s).size from hp)).toNat : Int) != 9) = true := by rw [bne, e7]; rfl
    have e8 : ((((bs s)[p]'(show p < (bs s).size from hp)).toNat : Int) == 10) = false := at_ne hp n9
    have b8 : ((((bs s)[p]'(show p < (bs s).size from hp)).toNat : Int) != 10) = true := by rw [bne, e8]; rfl
    have e9 : ((((bs s)[p]'(show p < (bs s).size from hp)).toNat : Int) == 13) = false := at_ne hp n10
    have b9 : ((((bs s)[p]'(show p < (bs s).size from hp)).toNat : Int) != 13) = true := by rw [bne, e9]; rfl
    have e10 : ((((bs s)[p]'(show p < (bs s).size from hp)).toNat : Int) == 32) = false := at_ne hp n11
    have b10 : ((((bs s)[p]'(show p < (bs s).size from hp)).toNat : Int) != 32) = true := by rw [bne, e10]; rfl
    have p0 : (0 : Int) ≤ (p : Int) := by omega
    have p1 : (p : Int) < (s.length : Int) := by omega
    have p2 : (p : Int) ≤ (s.length : Int) := by omega
    have p3 : (f : Int) ≤ (p : Int) := by omega
    have p4 : decide ((p : Int) < 0) = false := by simp
    have p5 : ¬ ((p : Int) < 0) := by omega
    clear ht hb hf hk h35 hB n1 n2 n3 n4 n5 n6 n7 n8 n9 n10 n11 n12
    go_wp2_with fail
    rw [HE.out]
    refine (HC.out _).mono ?_
    rintro e w1 ⟨rfl, rfl⟩
    go_wp2_with fail
    refine (HL.out _).mono ?_
    rintro e w1 ⟨rfl, rfl⟩
    go_wp2_with fail
    go_ret
    exact ⟨rfl, HB.out⟩
end Go.Proofs.Ytclpbhoopmdojaa
