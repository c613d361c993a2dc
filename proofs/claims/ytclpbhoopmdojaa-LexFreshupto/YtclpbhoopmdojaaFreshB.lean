/-
  Lists are new memory: what is told behind the marks.
-/
import Derived.Test.YtclpbhoopmdojaaFreshA
namespace Go.Proofs.Ytclpbhoopmdojaa
open Go.RowKit

set_option maxRecDepth 100000 in
set_option maxHeartbeats 8000000 in
theorem f17 {lv1 lv2 lv3 lv4 lv7 lv8 lv9 lv10 lv11 lv12 lv13 lv14 lv16 lv17 lv19 lv20 lv21 lv22 lv23 lv24 lv25 lv26 lv27 lv28 lv29 lv30 lv31 lv32 lv33 lv34 lv35 lv36 lv37 lv38 lv39 lv40 lv41 lv42 lv43 lv44 lv45 lv46 lv47 lv48 lv49 lv50 lv51 lv52 lv53 lv54 lv55 lv56 lv57 lv58 lv59 lv60 lv61 lv62 lv63 lv64 lv65 lv66 lv67 lv68 lv69 lv70 lv71 lv72 lv73 lv74 lv75 lv76 lv77 lv78 lv79 lv80 lv81 lv82 lv83 lv84 lv85 lv86 lv87 lv88 lv89 lv90 lv91 lv92 lv93 lv94 lv95 lv96 lv97 lv98 lv99 lv100 lv101 lv102 lv103 lv104 lv105 lv106 lv107 lv108 lv109 lv110 lv111 lv112 lv113 lv114 lv115 lv116 lv117 lv118 lv119 lv120 lv121 lv122 lv123 lv124 lv125 lv126 lv127 lv128 lv129 lv130 lv131 lv132 lv133 lv134 lv135 lv136 lv137 lv138 lv139 lv140 lv141 lv142 lv143 lv144 lv145 lv146 lv147 lv148 lv149 lv150 lv151 lv152 lv153 lv154 lv155 lv156 lv157 lv158 lv159 lv160 lv161 lv162 lv163 lv164 lv165 lv166 lv167 lv168 lv169 lv170 lv171 lv172 lv173 lv174 lv175 lv176 lv177 lv178 lv179 lv180 lv181 lv182 lv183 lv184 lv185 lv186 lv187 : Value} {w w1 wc : World} {s : List UInt8} {vw : Value} {L : List Tk} {E : Int} {B ga gl : Nat} {V U : Nat → Value} {n : Nat → Nat} (P : Hid (P4 B w1 wc ga gl V U n 0)) (R : Hid (TS w1 vw L ∧ (∀ g, vw.ownBlock = some g → g < B) ∧ Below w.heap.size w w1 ∧ w.heap.size ≤ B)) (hN : ∀ i, n i ≤ 100000000) (hT : toks s = (L, E)) (hs : s.length ≤ 10000000) :
    Code.wp Try.prog (suff 17 (Try.f6.body.getD .skip)) (bodyPost Try.prog Try.f6 (GoodE w)) ⟨(.string (bs s) :: lv1 :: lv2 :: lv3 :: lv4 :: vw :: .int .i64 E :: lv7 :: lv8 :: lv9 :: lv10 :: lv11 :: lv12 :: lv13 :: lv14 :: .slice (some ⟨ga, 0, none⟩) 4 4 :: lv16 :: lv17 :: .slice (some ⟨gl, 0, none⟩) 4 4 :: lv19 :: lv20 :: lv21 :: lv22 :: lv23 :: lv24 :: lv25 :: lv26 :: lv27 :: lv28 :: lv29 :: lv30 :: lv31 :: lv32 :: lv33 :: lv34 :: lv35 :: lv36 :: lv37 :: lv38 :: lv39 :: lv40 :: lv41 :: lv42 :: lv43 :: lv44 :: lv45 :: lv46 :: lv47 :: lv48 :: lv49 :: lv50 :: lv51 :: lv52 :: lv53 :: lv54 :: lv55 :: lv56 :: lv57 :: lv58 :: lv59 :: lv60 :: lv61 :: lv62 :: lv63 :: lv64 :: lv65 :: lv66 :: lv67 :: lv68 :: lv69 :: lv70 :: lv71 :: lv72 :: lv73 :: lv74 :: lv75 :: lv76 :: lv77 :: lv78 :: lv79 :: lv80 :: lv81 :: lv82 :: lv83 :: lv84 :: lv85 :: lv86 :: lv87 :: lv88 :: lv89 :: lv90 :: lv91 :: lv92 :: lv93 :: lv94 :: lv95 :: lv96 :: lv97 :: lv98 :: lv99 :: lv100 :: lv101 :: lv102 :: lv103 :: lv104 :: lv105 :: lv106 :: lv107 :: lv108 :: lv109 :: lv110 :: lv111 :: lv112 :: lv113 :: lv114 :: lv115 :: lv116 :: lv117 :: lv118 :: lv119 :: lv120 :: lv121 :: lv122 :: lv123 :: lv124 :: lv125 :: lv126 :: lv127 :: lv128 :: lv129 :: lv130 :: lv131 :: lv132 :: lv133 :: lv134 :: lv135 :: lv136 :: lv137 :: lv138 :: lv139 :: lv140 :: lv141 :: lv142 :: lv143 :: lv144 :: lv145 :: lv146 :: lv147 :: lv148 :: lv149 :: lv150 :: lv151 :: lv152 :: lv153 :: lv154 :: lv155 :: lv156 :: lv157 :: lv158 :: lv159 :: lv160 :: lv161 :: lv162 :: lv163 :: lv164 :: lv165 :: lv166 :: lv167 :: lv168 :: lv169 :: lv170 :: lv171 :: lv172 :: lv173 :: lv174 :: lv175 :: lv176 :: lv177 :: lv178 :: lv179 :: lv180 :: lv181 :: lv182 :: lv183 :: lv184 :: lv185 :: lv186 :: lv187 :: []).toArray, []⟩ wc := by
  conv => arg 2; whnf
  have HT : Hid (toks s = (L, E) ∧ s.length ≤ 10000000) := ⟨hT, hs⟩
  have HN : Hid (∀ i, n i ≤ 100000000) := hN
  clear hT hs hN
  refine wp_seq_k fun K hK => ?_
  have HK : Hid _ := hK
  clear hK
  go_wp2_with fail
  go_loopw [19] (fun v wr => ∃ (k : Nat) (U : Nat → Value), k ≤ 4 ∧ v = .int .i64 k ∧ P4 B w1 wr ga gl V U n k) (fun v _ => 4 - (intOf v).toNat)
  case atStart => exact ⟨0, U, by omega, rfl, P.out⟩
  case round =>
    clear P
    rename World => wo
    obtain ⟨k, U, hk, rfl, hp⟩ := hrel
    have P : Hid (P4 B w1 wo ga gl V U n k) := hp
    clear hp
    by_cases hlt : k < 4
    · have ca1 := P.out.quad.cell k hlt
      obtain ⟨⟨x0, cl0⟩, fl0⟩ := P.out.cells hlt
      have hnk := HN.out k
      have k1 : (0 : Int) ≤ (k : Int) := by omega
      have k2 : (k : Int) < 4 := by omega
      obtain ⟨av, cv, hv⟩ := (P.out.own k hlt (Nat.le_refl _)).form
      generalize (List.replicate (n k) (mkT k)).length = lv at hv
      have I0 : Hid (In4 B wo (wo.setCell ⟨gl, k, none⟩ (.slice av lv cv)) gl k U (V k) (V k) (n k) (n k)) := by rw [← hv]; exact P.out.begin hlt
      rw [hv] at ca1
      clear hv
      have HB : Hid (B ≤ wo.heap.size) := Nat.le_trans P.out.B0 P.out.below.size
      go_wp2_with fail
      clear ca1 cl0 fl0
      generalize wo.setCell ⟨gl, k, none⟩ (.slice av lv cv) = wb at *
      go_loopw [20] (fun v wr => ∃ (j : Nat) (u : Value), j ≤ 16 ∧ v = .int .i64 j ∧ In4 B wo wr gl k U (V k) u (n k) (n k + j)) (fun v _ => 16 - (intOf v).toNat)
      case atStart => exact ⟨0, V k, by omega, rfl, I0.out⟩
      case round =>
        clear I0
        obtain ⟨j, u, hj, rfl, hi⟩ := hrel
        have I1 : Hid (In4 B wo wr gl k U (V k) u (n k) (n k + j)) := hi
        clear hi
        by_cases hjl : j < 16
        · obtain ⟨c0, f0⟩ := I1.out.cell
          have hsz := I1.out.only.size
          have HS : Hid (wo.heap.size ≤ wr.heap.size) := hsz
          clear hsz
          go_wp2_with (first
            | (at_builtin; refine app_put (mkT k) (I1.out.own.later (balloc _ _)) (src_tok und22 wr (-1 - (k : Int)) 0 ⟨#[]⟩) (by rw [List.length_replicate]; omega) (by have := HS.out; have := HB.out; simp; omega) rfl (.tmp 122) (.tmp 126) rfl rfl rfl ?_; intro u1 y1 ho1 hc1; obtain ⟨au, cu, hu1⟩ := ho1.form; generalize (List.replicate (n k + j) (mkT k) ++ [mkT k]).length = l1 at hu1; subst hu1; obtain ⟨I2, c2, f2⟩ := in4_step I1.out hlt (balloc _ _) ho1 hc1; clear ho1 hc1; have J2 : Hid (In4 B wo (y1.setCell ⟨gl, k, none⟩ (.slice au l1 cu)) gl k U (V k) (.slice au l1 cu) (n k) (n k + j + 1)) := I2; clear I2))
          go_roundw
          case rel => exact ⟨j + 1, _, by omega, by go_num, J2.out⟩
          case measure => simp [intOf]; omega
        · obtain rfl : j = 16 := by omega
          have P2 : Hid (P4 B w1 wr ga gl V (fun i => if i = k then u else U i) n (k + 1)) := p4_next P.out hlt I1.out
          go_wp2_with fail
          go_roundw
          case rel => exact ⟨k + 1, _, by omega, by go_num, P2.out⟩
          case measure => simp [intOf]; omega
    · obtain rfl : k = 4 := by omega
      go_wp2_with fail
      refine HK.out _ _ ?_
      clear HK
      exact f25 P R HN.out HT.out.1 HT.out.2

set_option maxRecDepth 100000 in
set_option maxHeartbeats 8000000 in
theorem f16 {lv1 lv2 lv3 lv4 lv7 lv8 lv9 lv10 lv11 lv12 lv13 lv14 lv16 lv17 lv18 lv19 lv20 lv21 lv22 lv23 lv24 lv25 lv26 lv27 lv28 lv29 lv30 lv31 lv32 lv33 lv34 lv35 lv36 lv37 lv38 lv39 lv40 lv41 lv42 lv43 lv44 lv45 lv46 lv47 lv48 lv49 lv50 lv51 lv52 lv53 lv54 lv55 lv56 lv57 lv58 lv59 lv60 lv61 lv62 lv63 lv64 lv65 lv66 lv67 lv68 lv69 lv70 lv71 lv72 lv73 lv74 lv75 lv76 lv77 lv78 lv79 lv80 lv81 lv82 lv83 lv84 lv85 lv86 lv87 lv88 lv89 lv90 lv91 lv92 lv93 lv94 lv95 lv96 lv97 lv98 lv99 lv100 lv101 lv102 lv103 lv104 lv105 lv106 lv107 lv108 lv109 lv110 lv111 lv112 lv113 lv114 lv115 lv116 lv117 lv118 lv119 lv120 lv121 lv122 lv123 lv124 lv125 lv126 lv127 lv128 lv129 lv130 lv131 lv132 lv133 lv134 lv135 lv136 lv137 lv138 lv139 lv140 lv141 lv142 lv143 lv144 lv145 lv146 lv147 lv148 lv149 lv150 lv151 lv152 lv153 lv154 lv155 lv156 lv157 lv158 lv159 lv160 lv161 lv162 lv163 lv164 lv165 lv166 lv167 lv168 lv169 lv170 lv171 lv172 lv173 lv174 lv175 lv176 lv177 lv178 lv179 lv180 lv181 lv182 lv183 lv184 lv185 lv186 lv187 : Value} {w w1 wc : World} {s : List UInt8} {vw : Value} {L : List Tk} {E : Int} {B ga : Nat} {V : Nat → Value} {n : Nat → Nat} (M : Hid (M4 B w1 wc ga V (fun i => List.replicate (n i) (mkT i)))) (R : Hid (TS w1 vw L ∧ (∀ g, vw.ownBlock = some g → g < B) ∧ Below w.heap.size w w1 ∧ w.heap.size ≤ B)) (hN : ∀ i, n i ≤ 100000000) (hT : toks s = (L, E)) (hs : s.length ≤ 10000000) :
    Code.wp Try.prog (suff 16 (Try.f6.body.getD .skip)) (bodyPost Try.prog Try.f6 (GoodE w)) ⟨(.string (bs s) :: lv1 :: lv2 :: lv3 :: lv4 :: vw :: .int .i64 E :: lv7 :: lv8 :: lv9 :: lv10 :: lv11 :: lv12 :: lv13 :: lv14 :: .slice (some ⟨ga, 0, none⟩) 4 4 :: lv16 :: lv17 :: lv18 :: lv19 :: lv20 :: lv21 :: lv22 :: lv23 :: lv24 :: lv25 :: lv26 :: lv27 :: lv28 :: lv29 :: lv30 :: lv31 :: lv32 :: lv33 :: lv34 :: lv35 :: lv36 :: lv37 :: lv38 :: lv39 :: lv40 :: lv41 :: lv42 :: lv43 :: lv44 :: lv45 :: lv46 :: lv47 :: lv48 :: lv49 :: lv50 :: lv51 :: lv52 :: lv53 :: lv54 :: lv55 :: lv56 :: lv57 :: lv58 :: lv59 :: lv60 :: lv61 :: lv62 :: lv63 :: lv64 :: lv65 :: lv66 :: lv67 :: lv68 :: lv69 :: lv70 :: lv71 :: lv72 :: lv73 :: lv74 :: lv75 :: lv76 :: lv77 :: lv78 :: lv79 :: lv80 :: lv81 :: lv82 :: lv83 :: lv84 :: lv85 :: lv86 :: lv87 :: lv88 :: lv89 :: lv90 :: lv91 :: lv92 :: lv93 :: lv94 :: lv95 :: lv96 :: lv97 :: lv98 :: lv99 :: lv100 :: lv101 :: lv102 :: lv103 :: lv104 :: lv105 :: lv106 :: lv107 :: lv108 :: lv109 :: lv110 :: lv111 :: lv112 :: lv113 :: lv114 :: lv115 :: lv116 :: lv117 :: lv118 :: lv119 :: lv120 :: lv121 :: lv122 :: lv123 :: lv124 :: lv125 :: lv126 :: lv127 :: lv128 :: lv129 :: lv130 :: lv131 :: lv132 :: lv133 :: lv134 :: lv135 :: lv136 :: lv137 :: lv138 :: lv139 :: lv140 :: lv141 :: lv142 :: lv143 :: lv144 :: lv145 :: lv146 :: lv147 :: lv148 :: lv149 :: lv150 :: lv151 :: lv152 :: lv153 :: lv154 :: lv155 :: lv156 :: lv157 :: lv158 :: lv159 :: lv160 :: lv161 :: lv162 :: lv163 :: lv164 :: lv165 :: lv166 :: lv167 :: lv168 :: lv169 :: lv170 :: lv171 :: lv172 :: lv173 :: lv174 :: lv175 :: lv176 :: lv177 :: lv178 :: lv179 :: lv180 :: lv181 :: lv182 :: lv183 :: lv184 :: lv185 :: lv186 :: lv187 :: []).toArray, []⟩ wc := by
  conv => arg 2; whnf
  refine wp_seq_k fun K hK => ?_
  have HK : Hid _ := hK
  clear hK
  have hmk : ∀ u : World, (Instr.makeSlice 37 (.int .i64 4) (.int .i64 4)).run Try.prog u = .ok (.slice (some ⟨u.heap.size, 0, none⟩) 4 4) (u.alloc (.cells #[.slice none 0 0, .slice none 0 0, .slice none 0 0, .slice none 0 0] 22)) := fun _ => by kernel_rfl
  have HP : Hid (P4 B w1 (wc.alloc (.cells #[.slice none 0 0, .slice none 0 0, .slice none 0 0, .slice none 0 0] 22)) ga wc.heap.size V (fun _ => .slice none 0 0) n 0) := by
    have h := M.out
    have hb := balloc wc (.cells #[.slice none 0 0, .slice none 0 0, .slice none 0 0, .slice none 0 0] 22)
    have hB : B ≤ wc.heap.size := Nat.le_trans h.B0 h.below.size
    refine ⟨h.quad.later hb, below_trans h.below (below_mono hb hB), h.B0, fun i hi => (h.own i hi).ts.later hb, fun i hi _ => (h.own i hi).later hb, ⟨_, heap_alloc_new _ _, rfl, fun i hi => by omega⟩, hB, fun e => ?_, fun i hi e => ?_, fun i hi => by omega, fun i hi => by omega, fun i hi => by omega, fun i hi => by omega, fun i hi _ j hj => by omega⟩
    · have := h.quad.galt; omega
    · have := h.quad.lt i hi _ e; omega
  go_wp2_with fail
  refine HK.out _ _ ?_
  clear HK
  exact f17 HP R hN hT hs

end Go.Proofs.Ytclpbhoopmdojaa
