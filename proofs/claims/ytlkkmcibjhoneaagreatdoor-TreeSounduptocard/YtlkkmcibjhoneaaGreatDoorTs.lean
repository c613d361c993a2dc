/-
  The law TreeStops, of the contracts.
-/
import Derived.Test.YtlkkmcibjhoneaaGreatDoorTq
import Derived.Test.YtlkkmcibjhoneaaGreatDoorJFq
namespace Go.Proofs.YtlkkmcibjhoneaaGreatDoor
open Go.RowKit

/-- two trees apart from each other and from P -/
def TP (TA : World → (Nat → Prop) → Nat → TT → Prop) (P : Nat → Prop) (B : Nat) (w w1 : World) (c : Nat) (T : TT) (d : Nat) (U : TT) : Prop :=
  ∃ F G, TA w1 F c T ∧ TA w1 G d U ∧ Below B w w1 ∧ B ≤ w1.heap.size ∧ (∀ k, F k → B ≤ k) ∧ (∀ k, G k → B ≤ k) ∧ (∀ k, F k → ¬ G k) ∧ (∀ k, P k → ¬ F k) ∧ (∀ k, P k → ¬ G k) ∧ ∀ k, P k → k < w1.heap.size
section
variable {TA : World → (Nat → Prop) → Nat → TT → Prop} {P : Nat → Prop} {B c d : Nat} {w w1 w2 : World} {T U R : TT}
theorem TP.swap (h : TP TA P B w w1 c T d U) : TP TA P B w w1 d U c T := by
  obtain ⟨F, G, h1, h2, h3, h4, h5, h6, h7, h8, h9, h10⟩ := h
  exact ⟨G, F, h2, h1, h3, h4, h6, h5, fun k hk hf => h7 k hf hk, h9, h8, h10⟩
theorem TP.two (h : TP TA P B w w1 c T d U) : T2 TA B w w1 c T d U := by
  obtain ⟨F, G, h1, h2, h3, h4, h5, h6, h7, h8, h9, h10⟩ := h
  exact ⟨F, G, h1, h2, h3, h4, h5, h6, h7⟩
theorem TP.step (C : TcP TA) (h : TP TA P B w w1 c T d U) {Q : Ending → World → Prop} {f : FuncId} {args : Array Value} {v : Value} {l : List Opp} (ho : OS P w1 v l)
    (hs : ∀ F, TA w1 F c T → (∀ k, P k → ¬ F k) → Calls Tryz.prog f args w1 fun e w' => Q e w' ∧ TA w' (nwF F w1 w') c R ∧ OnlyP F w1 w') :
    Calls Tryz.prog f args w1 fun e w' => Q e w' ∧ TP TA P B w w' c R d U ∧ OS P w' v l := by
  obtain ⟨F, G, h1, h2, h3, h4, h5, h6, h7, h8, h9, h10⟩ := h
  refine (hs F h1 h8).mono fun e w2 ⟨hq, hc, hon⟩ => ⟨hq, ⟨_, G, hc, C.only h2 hon (fun k hk hf => h7 k hf hk) (C.ev hc), h3.trans (hon.below h4 h5), Nat.le_trans h4 hon.size, ?_, h6, ?_, ?_, h9, fun k hk => Nat.lt_of_lt_of_le (h10 k hk) hon.size⟩, ho.only hon h8⟩
  · rintro k (hk | hk)
    · exact h5 k hk
    · exact Nat.le_trans h4 hk.1
  · rintro k (hk | hk) hg
    · exact h7 k hk hg
    · have := C.lt h2 k hg
      have := hk.1
      omega
  · rintro k hp (hk | hk)
    · exact h8 k hp hk
    · have := h10 k hp
      have := hk.1
      omega
end
theorem stops_at {l : List Fl} {Z : List Opp} {n : Int} {M m : Nat} (hs : ∀ o ∈ Z, isS o = true) (hM : Z.length = M) (hm : mOf n M = m) :
    (runT ((newT l).stop n) Z).st = M ∧ (runT (newT l) (Z.take m)).st = m ∧ (runT ((newT l).stop n) Z).fs = (runT (newT l) (Z.take m)).fs ∧ (runT ((newT l).stop n) Z).ds = (runT (newT l) (Z.take m)).ds ∧
    (runT ((newT l).stop n) Z).jl = (runT (newT l) (Z.take m)).jl ∧ (m = M → (runT ((newT l).stop n) Z).tn = []) ∧
    ∀ h : m < Z.length, (runT ((newT l).stop n) Z).tn = trn (Z[m]'h) ∧ (runT ((newT l).stop n) Z).sp = 1 ∧ (runT ((newT l).stop n) Z).dn = true := by
  subst hM
  subst hm
  exact stops_plain hs
theorem bsm_filter (p : Opp → Bool) : ∀ l : List Opp, bsm (l.filter p) ≤ bsm l
  | [] => by simp [bsm]
  | o :: r => by
    have ih := bsm_filter p r
    unfold bsm at ih ⊢
    rw [List.filter_cons]
    split
    · simp at ih ⊢; omega
    · simp at ih ⊢; omega
theorem TSz.stop {n : Nat} {T : TT} (h : TSz n T) {k : Int} (hk : k ≤ 9223372036854775807) : TSz n (T.stop k) := by
  unfold TT.stop
  split
  · exact h
  · exact ⟨h.nf, h.nd, h.nj, h.nt, h.ns, h.ef, by show (if 1 ≤ k then k else 0) ≤ _; split <;> omega⟩
theorem len_bsm (l : List Opp) : l.length ≤ bsm l := by
  unfold bsm
  induction l with
  | nil => simp
  | cons o r ih => simp at ih ⊢; omega
set_option maxHeartbeats 4000000 in
set_option maxRecDepth 100000 in
theorem p16 {TA : World → (Nat → Prop) → Nat → TT → Prop} (C : TcP TA) {w wr : World} {t u M m sc_ : Nat} {n kp : Int} {sa : Option Addr} {Z : List Opp} {l : List Fl} {lv0 lv1 lv4 lv5 lv6 lv7 lv8 lv10 lv12 lv14 lv16 lv17 lv18 lv19 lv20 lv21 lv22 lv23 lv24 lv25 lv26 lv27 lv28 lv29 lv30 lv31 lv32 lv33 lv34 lv35 lv36 lv37 lv38 lv39 lv40 lv41 lv42 lv43 lv44 lv45 lv46 lv47 lv48 lv49 lv50 lv51 lv52 lv53 lv54 lv55 lv56 lv57 lv58 lv59 lv60 lv61 lv62 lv63 lv64 lv65 lv66 lv67 lv68 lv69 lv70 lv71 lv72 lv73 lv74 lv75 lv76 lv77 lv78 lv79 lv80 lv81 lv82 lv83 lv84 lv85 lv86 lv87 lv88 lv89 lv90 lv91 lv92 lv93 lv94 lv95 lv96 lv97 lv98 lv99 lv100 lv101 lv102 lv103 lv104 lv105 lv106 lv107 lv108 lv109 lv110 lv111 lv112 lv113 lv114 lv115 lv116 lv117 lv118 lv119 lv120 lv121 lv122 lv123 lv124 lv125 lv126 lv127 lv128 lv129 lv130 lv131 lv132 lv133 lv134 lv135 lv136 lv137 lv138 lv139 lv140 lv141 lv142 lv143 lv144 lv145 lv146 lv147 lv148 lv149 lv150 lv151 lv152 lv153 lv154 lv155 lv156 lv157 lv158 lv159 lv160 lv161 lv162 lv163 lv164 lv165 lv166 lv167 lv168 lv169 lv170 lv171 lv172 lv173 lv174 lv175 lv176 lv177 lv178 lv179 lv180 lv181 lv182 lv183 lv184 lv185 lv186 lv187 lv188 lv189 lv190 lv191 lv192 lv193 lv194 lv195 lv196 lv197 lv198 lv199 lv200 lv201 lv202 lv203 lv204 lv205 lv206 lv207 lv208 : Value}
    (T4 : Hid (TP TA (fun j => j < w.heap.size ∨ (Value.slice sa M sc_).ownBlock = some j) w.heap.size w wr t (newT l) u (newT l)))
    (O4 : Hid (OS (fun j => j < w.heap.size ∨ (Value.slice sa M sc_).ownBlock = some j) wr (.slice sa M sc_) Z)) (hv : validE l = 0) (hFS : Hid (FSm l)) (hMl : Z.length = M) (hmO : mOf n M = m) (hmM : m ≤ M) (hMb : M ≤ 4000000) (hcap : M ≤ sc_)
    (hZs : ∀ o ∈ Z, isS o = true) (hZo : ∀ o ∈ Z, Ook o) (hZb : bsm Z ≤ 1900000) (n0 : -9223372036854775808 ≤ n) (n1 : n ≤ 9223372036854775807) (k0 : -9223372036854775808 ≤ kp) (k1 : kp ≤ 9223372036854775807) :
    Code.wp Tryz.prog (suff 16 (Tryz.f3.body.getD .skip)) (bodyPost Tryz.prog Tryz.f3 (fun e w' => e = .returned (.bool true) ∧ Below w.heap.size w w')) ⟨#[lv0, lv1, .int .i64 n, .int .i64 kp, lv4, lv5, lv6, lv7, lv8, .pointer (some ⟨t, 0, none⟩), lv10, .pointer (some ⟨u, 0, none⟩), lv12, .slice sa M sc_, lv14, .int .i64 m, lv16, lv17, lv18, lv19, lv20, lv21, lv22, lv23, lv24, lv25, lv26, lv27, lv28, lv29, lv30, lv31, lv32, lv33, lv34, lv35, lv36, lv37, lv38, lv39, lv40, lv41, lv42, lv43, lv44, lv45, lv46, lv47, lv48, lv49, lv50, lv51, lv52, lv53, lv54, lv55, lv56, lv57, lv58, lv59, lv60, lv61, lv62, lv63, lv64, lv65, lv66, lv67, lv68, lv69, lv70, lv71, lv72, lv73, lv74, lv75, lv76, lv77, lv78, lv79, lv80, lv81, lv82, lv83, lv84, lv85, lv86, lv87, lv88, lv89, lv90, lv91, lv92, lv93, lv94, lv95, lv96, lv97, lv98, lv99, lv100, lv101, lv102, lv103, lv104, lv105, lv106, lv107, lv108, lv109, lv110, lv111, lv112, lv113, lv114, lv115, lv116, lv117, lv118, lv119, lv120, lv121, lv122, lv123, lv124, lv125, lv126, lv127, lv128, lv129, lv130, lv131, lv132, lv133, lv134, lv135, lv136, lv137, lv138, lv139, lv140, lv141, lv142, lv143, lv144, lv145, lv146, lv147, lv148, lv149, lv150, lv151, lv152, lv153, lv154, lv155, lv156, lv157, lv158, lv159, lv160, lv161, lv162, lv163, lv164, lv165, lv166, lv167, lv168, lv169, lv170, lv171, lv172, lv173, lv174, lv175, lv176, lv177, lv178, lv179, lv180, lv181, lv182, lv183, lv184, lv185, lv186, lv187, lv188, lv189, lv190, lv191, lv192, lv193, lv194, lv195, lv196, lv197, lv198, lv199, lv200, lv201, lv202, lv203, lv204, lv205, lv206, lv207, lv208], []⟩ wr := by
  conv => arg 2; whnf
  refine wp_seq_k fun KK hKK => ?_
  have HK_ : Hid _ := hKK
  clear hKK
  go_wp2_with fail
  obtain ⟨PL1, PL2, PL3, PL4, PL5, PL6, PL7⟩ := stops_at (l := l) (Z := Z) (n := n) (M := M) (m := m) hZs hMl hmO
  have hz1 : TSz 70000 (newT l) := TSz.new hv hFS.out
  have hz2 : TSz 70000 ((newT l).stop (n)) := hz1.stop (by omega)
  have hz3 : TSz 2000000 (runT ((newT l).stop (n)) Z) := by
    have := hz2.run hZo Z.length (Nat.le_refl _)
    rw [List.take_length] at this
    exact this.mono (by omega)
  have hz4 : TSz 4000000 (runT (newT l) (Z.take m)) := (hz1.run hZo m (by omega)).mono (by have := bsm_take Z m; omega)
  have hz5 := hz3.cr kp
  have hz6 : TSz 4000000 (runT ((newT l).stop (n)) Z) := hz3.mono (by omega)
  clear hz3
  generalize hTX : runT ((newT l).stop (n)) Z = TX at PL1 PL3 PL4 PL5 PL6 PL7 hz5 hz6
  generalize hTU : runT (newT l) (Z.take m) = TU at PL2 PL3 PL4 PL5 hz4
  refine (TP.step C T4.out O4.out (Q := fun e _ => e = .returned (.tuple #[])) (fun F h _ => C.stp h (hz1.mono (by omega)) _ (by omega) (by omega))).mono ?_
  rintro e w5 ⟨rfl, h5, o5⟩
  have T5 : Hid (TP TA (fun j => j < w.heap.size ∨ (Value.slice sa M sc_).ownBlock = some j) w.heap.size w w5 t ((newT l).stop (n)) u (newT l) ∧ OS (fun j => j < w.heap.size ∨ (Value.slice sa M sc_).ownBlock = some j) w5 (.slice sa M sc_) Z) := ⟨h5, o5⟩
  clear h5 o5 T4 O4
  go_wp2_with fail
  refine HK_.out _ _ ?_
  clear HK_
  refine wp_seq_k fun KK hKK => ?_
  have HK_ : Hid _ := hKK
  clear hKK
  go_wp2_with fail
  refine (TP.step C T5.out.1 T5.out.2 (Q := fun e _ => e = .returned (.tuple #[])) (fun F h hd => run_any C h hz2 T5.out.2 hZo (by omega) hd)).mono ?_
  rintro e w6 ⟨rfl, h6, o6⟩
  rw [hTX] at h6
  have T6 : Hid (TP TA (fun j => j < w.heap.size ∨ (Value.slice sa M sc_).ownBlock = some j) w.heap.size w w6 t TX u (newT l) ∧ OS (fun j => j < w.heap.size ∨ (Value.slice sa M sc_).ownBlock = some j) w6 (.slice sa M sc_) Z) := ⟨h6, o6⟩
  clear h6 o6 T5
  go_wp2_with fail
  refine HK_.out _ _ ?_
  clear HK_
  refine wp_seq_k fun KK hKK => ?_
  have HK_ : Hid _ := hKK
  clear hKK
  go_wp2_with fail
  refine (TP.step C T6.out.1.swap T6.out.2 (Q := fun e _ => e = .returned (.tuple #[])) (fun F h hd => run_any C h hz1 (T6.out.2.take m (by omega) sc_) (fun o h => hZo o (List.mem_of_mem_take h)) (by have := bsm_take Z m; omega) hd)).mono ?_
  rintro e w7 ⟨rfl, h7, o7⟩
  rw [hTU] at h7
  have T7 : Hid (TP TA (fun j => j < w.heap.size ∨ (Value.slice sa M sc_).ownBlock = some j) w.heap.size w w7 t TX u TU ∧ OS (fun j => j < w.heap.size ∨ (Value.slice sa M sc_).ownBlock = some j) w7 (.slice sa M sc_) Z) := ⟨h7.swap, o7⟩
  clear h7 o7 T6 hz1 hz2
  go_wp2_with fail
  refine HK_.out _ _ ?_
  clear HK_
  refine wp_seq_k fun KK hKK => ?_
  have HK_ : Hid _ := hKK
  clear hKK
  go_wp2_with fail
  refine (Tb.steps C T7.out.1.two.fst hz6).mono ?_
  rintro e w8 ⟨rfl, hb8⟩
  rw [PL1]
  have T8 : Hid (T2 TA w.heap.size w w8 t TX u TU ∧ OS (fun j => j < w.heap.size ∨ (Value.slice sa M sc_).ownBlock = some j) w8 (.slice sa M sc_) Z) := ⟨T7.out.1.two.later C hb8, T7.out.2.later hb8⟩
  clear T7 hb8
  go_wp2_with fail
  refine (Tb.steps C T8.out.1.snd hz4).mono ?_
  rintro e w9 ⟨rfl, hb9⟩
  rw [PL2]
  have T9 : Hid (T2 TA w.heap.size w w9 t TX u TU ∧ OS (fun j => j < w.heap.size ∨ (Value.slice sa M sc_).ownBlock = some j) w9 (.slice sa M sc_) Z) := ⟨T8.out.1.later C hb9, T8.out.2.later hb9⟩
  clear T8 hb9
  go_wp2_with fail
  refine HK_.out _ _ ?_
  clear HK_
  refine wp_seq_k fun KK hKK => ?_
  have HK_ : Hid _ := hKK
  clear hKK
  go_wp2_with fail
  refine (Tb.crash C T9.out.1.fst hz6 kp k0 k1).mono ?_
  rintro e wa ⟨d, rfl, hca, hba⟩
  have TA_ : Hid (T2 TA w.heap.size w wa t TX d (TX.cr kp) ∧ Tb TA w.heap.size w wa u TU ∧ OS (fun j => j < w.heap.size ∨ (Value.slice sa M sc_).ownBlock = some j) wa (.slice sa M sc_) Z) := ⟨hca, T9.out.1.snd.later C hba, T9.out.2.later hba⟩
  clear T9 hca hba

  go_wp2_with fail
  refine HK_.out _ _ ?_
  exact p22 C (show Hid (X3 TA (fun j => j < w.heap.size ∨ (Value.slice sa M sc_).ownBlock = some j) w wa t TX d kp u TU (.slice sa M sc_) Z) from ⟨TA_.out.1, TA_.out.2.1, TA_.out.2.2⟩) ⟨hz6, hz5, hz4⟩ hMl hmM hMb ⟨PL3, PL4⟩ ⟨PL5, PL6, PL7⟩ hZo
set_option maxHeartbeats 4000000 in
set_option maxRecDepth 100000 in
theorem p13 {TA : World → (Nat → Prop) → Nat → TT → Prop} (C : TcP TA) {w wr : World} {t u M sc_ : Nat} {n kp : Int} {sa : Option Addr} {Z : List Opp} {l : List Fl} {lv0 lv1 lv4 lv5 lv6 lv7 lv8 lv10 lv12 lv14 lv15 lv16 lv17 lv18 lv19 lv20 lv21 lv22 lv23 lv24 lv25 lv26 lv27 lv28 lv29 lv30 lv31 lv32 lv33 lv34 lv35 lv36 lv37 lv38 lv39 lv40 lv41 lv42 lv43 lv44 lv45 lv46 lv47 lv48 lv49 lv50 lv51 lv52 lv53 lv54 lv55 lv56 lv57 lv58 lv59 lv60 lv61 lv62 lv63 lv64 lv65 lv66 lv67 lv68 lv69 lv70 lv71 lv72 lv73 lv74 lv75 lv76 lv77 lv78 lv79 lv80 lv81 lv82 lv83 lv84 lv85 lv86 lv87 lv88 lv89 lv90 lv91 lv92 lv93 lv94 lv95 lv96 lv97 lv98 lv99 lv100 lv101 lv102 lv103 lv104 lv105 lv106 lv107 lv108 lv109 lv110 lv111 lv112 lv113 lv114 lv115 lv116 lv117 lv118 lv119 lv120 lv121 lv122 lv123 lv124 lv125 lv126 lv127 lv128 lv129 lv130 lv131 lv132 lv133 lv134 lv135 lv136 lv137 lv138 lv139 lv140 lv141 lv142 lv143 lv144 lv145 lv146 lv147 lv148 lv149 lv150 lv151 lv152 lv153 lv154 lv155 lv156 lv157 lv158 lv159 lv160 lv161 lv162 lv163 lv164 lv165 lv166 lv167 lv168 lv169 lv170 lv171 lv172 lv173 lv174 lv175 lv176 lv177 lv178 lv179 lv180 lv181 lv182 lv183 lv184 lv185 lv186 lv187 lv188 lv189 lv190 lv191 lv192 lv193 lv194 lv195 lv196 lv197 lv198 lv199 lv200 lv201 lv202 lv203 lv204 lv205 lv206 lv207 lv208 : Value}
    (T4 : Hid (TP TA (fun j => j < w.heap.size ∨ (Value.slice sa M sc_).ownBlock = some j) w.heap.size w wr t (newT l) u (newT l)))
    (O4 : Hid (OS (fun j => j < w.heap.size ∨ (Value.slice sa M sc_).ownBlock = some j) wr (.slice sa M sc_) Z)) (hv : validE l = 0) (hFS : Hid (FSm l)) (hMl : Z.length = M) (hMb : M ≤ 4000000) (hcap : M ≤ sc_)
    (hZs : ∀ o ∈ Z, isS o = true) (hZo : ∀ o ∈ Z, Ook o) (hZb : bsm Z ≤ 1900000) (n0 : -9223372036854775808 ≤ n) (n1 : n ≤ 9223372036854775807) (k0 : -9223372036854775808 ≤ kp) (k1 : kp ≤ 9223372036854775807) :
    Code.wp Tryz.prog (suff 13 (Tryz.f3.body.getD .skip)) (bodyPost Tryz.prog Tryz.f3 (fun e w' => e = .returned (.bool true) ∧ Below w.heap.size w w')) ⟨#[lv0, lv1, .int .i64 n, .int .i64 kp, lv4, lv5, lv6, lv7, lv8, .pointer (some ⟨t, 0, none⟩), lv10, .pointer (some ⟨u, 0, none⟩), lv12, .slice sa M sc_, lv14, lv15, lv16, lv17, lv18, lv19, lv20, lv21, lv22, lv23, lv24, lv25, lv26, lv27, lv28, lv29, lv30, lv31, lv32, lv33, lv34, lv35, lv36, lv37, lv38, lv39, lv40, lv41, lv42, lv43, lv44, lv45, lv46, lv47, lv48, lv49, lv50, lv51, lv52, lv53, lv54, lv55, lv56, lv57, lv58, lv59, lv60, lv61, lv62, lv63, lv64, lv65, lv66, lv67, lv68, lv69, lv70, lv71, lv72, lv73, lv74, lv75, lv76, lv77, lv78, lv79, lv80, lv81, lv82, lv83, lv84, lv85, lv86, lv87, lv88, lv89, lv90, lv91, lv92, lv93, lv94, lv95, lv96, lv97, lv98, lv99, lv100, lv101, lv102, lv103, lv104, lv105, lv106, lv107, lv108, lv109, lv110, lv111, lv112, lv113, lv114, lv115, lv116, lv117, lv118, lv119, lv120, lv121, lv122, lv123, lv124, lv125, lv126, lv127, lv128, lv129, lv130, lv131, lv132, lv133, lv134, lv135, lv136, lv137, lv138, lv139, lv140, lv141, lv142, lv143, lv144, lv145, lv146, lv147, lv148, lv149, lv150, lv151, lv152, lv153, lv154, lv155, lv156, lv157, lv158, lv159, lv160, lv161, lv162, lv163, lv164, lv165, lv166, lv167, lv168, lv169, lv170, lv171, lv172, lv173, lv174, lv175, lv176, lv177, lv178, lv179, lv180, lv181, lv182, lv183, lv184, lv185, lv186, lv187, lv188, lv189, lv190, lv191, lv192, lv193, lv194, lv195, lv196, lv197, lv198, lv199, lv200, lv201, lv202, lv203, lv204, lv205, lv206, lv207, lv208], []⟩ wr := by
  conv => arg 2; whnf
  by_cases hc : 1 ≤ n ∧ n ≤ M
  · obtain ⟨m, rfl⟩ : ∃ m : Nat, n = m + 1 := ⟨(n - 1).toNat, by omega⟩
    have hc1 := hc.1
    have hc2 := hc.2
    refine wp_seq_k fun KK hKK => ?_
    have HK_ : Hid _ := hKK
    clear hKK
    go_wp2_with fail
    refine HK_.out _ _ ?_
    clear HK_
    refine wp_seq_k fun KK hKK => ?_
    have HK_ : Hid _ := hKK
    clear hKK
    go_wp2_with fail
    refine HK_.out _ _ ?_
    exact p16 C T4 O4 hv hFS hMl (by unfold mOf; rw [if_pos hc]; omega) (by omega) hMb hcap hZs hZo hZb n0 n1 k0 k1
  · have hmo : mOf n M = M := by unfold mOf; rw [if_neg hc]
    by_cases hc1 : 1 ≤ n
    · have hc2 : ¬ n ≤ M := fun e => hc ⟨hc1, e⟩
      refine wp_seq_k fun KK hKK => ?_
      have HK_ : Hid _ := hKK
      clear hKK
      go_wp2_with fail
      refine HK_.out _ _ ?_
      clear HK_
      refine wp_seq_k fun KK hKK => ?_
      have HK_ : Hid _ := hKK
      clear hKK
      go_wp2_with fail
      refine HK_.out _ _ ?_
      exact p16 C T4 O4 hv hFS hMl hmo (by omega) hMb hcap hZs hZo hZb n0 n1 k0 k1
    · skip
      refine wp_seq_k fun KK hKK => ?_
      have HK_ : Hid _ := hKK
      clear hKK
      go_wp2_with fail
      refine HK_.out _ _ ?_
      clear HK_
      refine wp_seq_k fun KK hKK => ?_
      have HK_ : Hid _ := hKK
      clear hKK
      go_wp2_with fail
      refine HK_.out _ _ ?_
      exact p16 C T4 O4 hv hFS hMl hmo (by omega) hMb hcap hZs hZo hZb n0 n1 k0 k1
set_option maxHeartbeats 4000000 in
set_option maxRecDepth 100000 in
theorem tstops_law {TA : World → (Nat → Prop) → Nat → TT → Prop} (C : TcP TA) {w : World} (E : Ev w) {vl vs : Value} {l : List Fl} {S : List Opp} (hl : FS w vl l) (hm : FSm l) (hs : OS (fun k => k < w.heap.size) w vs S)
    (ho : ∀ o ∈ S, Ook o) (hn : bsm S ≤ 1900000) (n kp : Int) (n0 : -9223372036854775808 ≤ n) (n1 : n ≤ 9223372036854775807) (k0 : -9223372036854775808 ≤ kp) (k1 : kp ≤ 9223372036854775807) :
    Calls Tryz.prog 3 #[vl, vs, .int .i64 n, .int .i64 kp] w fun e w' => e = .returned (.bool true) ∧ Below w.heap.size w w' := by
  have H0 : Hid (FS w vl l ∧ FSm l ∧ OS (fun k => k < w.heap.size) w vs S) := ⟨hl, hm, hs⟩
  have HEV : Hid (Ev w) := E
  clear hl hm hs E
  go_enter Tryz.func3, Tryz.ntmps3
  go_wp2_with fail
  refine (C.new H0.out.1 H0.out.2.1 HEV.out).mono ?_
  rintro e w1 ⟨hb1, ⟨hv, t, rfl, hc1⟩ | ⟨hno, rfl⟩⟩
  case inr =>
    have B1 : Hid (Below w.heap.size w w1) := hb1
    clear hb1
    go_wp2_with fail
    refine (C.new (H0.out.1.later B1.out) H0.out.2.1 (HEV.out.later B1.out)).mono ?_
    rintro e w2 ⟨hb2, ⟨hv, _⟩ | ⟨_, rfl⟩⟩
    · exact absurd hv hno
    · have B2 : Hid (Below w.heap.size w w2) := bstep B1.out hb2
      clear hb2
      go_wp2_with fail
      refine (alive_any C w2 (HEV.out.later B2.out)).mono ?_
      rintro e w3 ⟨rfl, hb3⟩
      have B3 : Hid (Below w.heap.size w w3) := bstep B2.out hb3
      clear hb3
      go_wp2_with (go_at_call 9; refine (num_any _ _).mono ?_; rintro e wq ⟨rfl, rfl⟩)
      go_ret
      exact ⟨rfl, B3.out⟩
  have hF1 : ∀ k, (fun k => w.heap.size ≤ k ∧ k < w1.heap.size) k → w.heap.size ≤ k := fun k hk => hk.1
  have T1 : Hid (Tb TA w.heap.size w w1 t (newT l)) := ⟨_, hc1, hb1, hb1.size, hF1⟩
  have B1 : Hid (Below w.heap.size w w1) := hb1
  clear hc1 hb1 hF1
  go_wp2_with fail
  refine (C.new (H0.out.1.later B1.out) H0.out.2.1 (HEV.out.later B1.out)).mono ?_
  rintro e w2 ⟨hb2, ⟨_, u, rfl, hc2⟩ | ⟨hno, _⟩⟩
  case inr => exact absurd hv hno
  have T2' : Hid (T2 TA w.heap.size w w2 t (newT l) u (newT l)) := by
    obtain ⟨F, h1, h2, h3, h4⟩ := T1.out
    refine ⟨F, _, C.later h1 hb2, hc2, h2.trans (below_mono hb2 h3), Nat.le_trans h3 hb2.size, h4, fun k hk => Nat.le_trans h3 hk.1, fun k hk hg => ?_⟩
    have := C.lt h1 k hk
    have := hg.1
    omega
  clear hc2 hb2 T1 B1
  go_wp2_with fail
  refine (alive_any C w2 (T2'.out.ev C)).mono ?_
  rintro e w3 ⟨rfl, hb3⟩
  have T3 : Hid (T2 TA w.heap.size w w3 t (newT l) u (newT l)) := T2'.out.later C hb3
  clear hb3 T2'
  go_wp2_with (go_at_call 9; refine (num_any _ _).mono ?_; rintro e wq ⟨rfl, rfl⟩)
  rename_i hKK
  have HL_ : Hid _ := hKK
  clear hKK
  obtain ⟨a, cp, rfl, hcell⟩ := H0.out.2.2.form
  have HC : Hid (∀ wr, Below w.heap.size w wr → ∀ k, (hk : k < S.length) → ∃ g off u, a = some ⟨g, off, none⟩ ∧ g < w.heap.size ∧ OpC wr g (off + k * 8) S[k] u ∧ BS w u S[k].b ∧ (S[k].b ≠ [] → ∀ j, u.ownBlock = some j → j < w.heap.size)) := fun wr hb k hk => by
    obtain ⟨g, off, u, ha, hg, hc, hu⟩ := hcell k hk
    exact ⟨g, off, u, ha, hg, hc.stay hb.size (hb.block g hg) (fun hne j hj => hb.block j (hu hne j hj)), hc.bs, hu⟩
  have hlen : S.length ≤ 4000000 := by
    have : S.length ≤ bsm S := len_bsm S
    omega
  obtain ⟨N, hN⟩ : ∃ N, S.length = N := ⟨_, rfl⟩
  clear hcell
  rw [hN]
  obtain ⟨_, _, -, -, hb3, hz3, -⟩ := T3.out
  have B3 : Hid (Below w.heap.size w wq ∧ w.heap.size ≤ wq.heap.size) := ⟨hb3, hz3⟩
  clear hb3 hz3
  go_loopw [13, 14] (fun sv i wr => ∃ (k : Nat) (x : Value), k ≤ N ∧ x = sv ∧ i = .int .i64 k ∧ Hid (∃ L : List (Opp × Value), L.map Prod.fst = (S.take k).filter isS ∧ L.length ≤ k ∧ OwnO wq.heap.size wr x L ∧ (∀ x ∈ L, BS w x.2 x.1.b ∧ x.2.oneCell' = true ∧ (x.1.b ≠ [] → ∀ j, x.2.ownBlock = some j → j < w.heap.size)) ∧ Below wq.heap.size wq wr)) (fun _ i _ => N - (intOf i).toNat)
  case atStart => exact ⟨0, _, by omega, rfl, rfl, [], by simp, by simp, OwnO.nil _ _, (fun x hx => by cases hx), Below.refl _ _⟩
  case round =>
    obtain ⟨k, x, hk, rfl, rfl, HL⟩ := hrel
    by_cases hlt : k < N
    · obtain ⟨L, e1, e2, e3, e4, e5⟩ := HL.out
      have hk' : k < S.length := by omega
      obtain ⟨g, off, u, rfl, hg, hc, hbs, hu⟩ := HC.out wr (B3.out.1.trans (below_mono e5 B3.out.2)) k hk'
      obtain ⟨o, hoe⟩ : ∃ o, S[k] = o := ⟨_, rfl⟩
      have ho' := ho _ (List.getElem_mem hk')
      have htk : S.take (k + 1) = S.take k ++ [S[k]] := List.take_succ_eq_append_getElem hk'
      rw [hoe] at hc hbs ho' htk hu
      obtain ⟨ua, um, uc, rfl⟩ : ∃ a m c, u = .slice a m c := by
        rcases hbs with ⟨⟨a, c, rfl⟩, _⟩ | ⟨b, of, cap, rfl, _⟩
        · exact ⟨_, _, _, rfl⟩
        · exact ⟨_, _, _, rfl⟩
      have c0 := hc.c0
      have c1 := hc.c1
      have c2 := hc.c2
      have c3 := hc.c3
      have c4 := hc.c4
      have c5 := hc.c5
      have c6 := hc.c6
      have c7 := hc.c7
      have HK : Hid (OwnO wq.heap.size wr x L ∧ Below wq.heap.size wq wr) := ⟨e3, e5⟩
      have hb0 := ho'.k0
      have hb1 := ho'.k1
      clear hc
      by_cases h1 : 1 ≤ o.kind
      · by_cases h6 : o.kind ≤ 6
        · go_wp2_with (at_builtin; refine app_op1 (base := wq.heap.size) (l := L) o (.slice ua um uc) HK.out.1 rfl (by omega) HK.out.2.size rfl (.tmp 67) (.tmp 72) rfl rfl rfl ?_; intro v1 w9 hO hB; have HO : Hid (OwnO wq.heap.size w9 v1 (L ++ [(o, .slice ua um uc)]) ∧ Below wq.heap.size wq w9) := ⟨hO, HK.out.2.trans hB⟩; clear hO hB)
          have hyes : isS o = true := isS_iff.2 ⟨h1, h6⟩
          refine ⟨⟨k + 1, v1, by omega, rfl, by push_cast; rfl, L ++ [(o, .slice ua um uc)], by rw [htk, List.filter_append, List.filter_cons, hyes, List.map_append, e1]; simp, by simp; omega, HO.out.1, ?_, HO.out.2⟩, by simp only [intOf]; omega⟩
          intro y hy
          rcases List.mem_append.1 hy with hy | hy
          · exact e4 y hy
          · simp only [List.mem_singleton] at hy
            subst hy
            exact ⟨hbs, rfl, hu⟩
        · go_wp2_with fail
          have hno : isS o = false := by unfold isS; simp; omega
          refine ⟨⟨k + 1, x, by omega, rfl, by push_cast; rfl, L, by rw [htk, List.filter_append, List.filter_cons, hno, e1]; simp, by omega, HK.out.1, e4, HK.out.2⟩, by simp only [intOf]; omega⟩
      · go_wp2_with fail
        have hno : isS o = false := by unfold isS; simp; omega
        refine ⟨⟨k + 1, x, by omega, rfl, by push_cast; rfl, L, by rw [htk, List.filter_append, List.filter_cons, hno, e1]; simp, by omega, HK.out.1, e4, HK.out.2⟩, by simp only [intOf]; omega⟩
    · obtain rfl : k = N := by omega
      obtain ⟨L, e1, e2, e3, e4, e5⟩ := HL.out
      rw [← hN, List.take_length] at e1
      obtain ⟨sa, sc_, rfl, hcap⟩ := e3.form
      obtain ⟨M, hM⟩ : ∃ M, L.length = M := ⟨_, rfl⟩
      rw [hM] at hcap
      obtain ⟨Z, hZ⟩ : ∃ Z, S.filter isS = Z := ⟨_, rfl⟩
      rw [hZ] at e1
      have hMl : Z.length = M := by rw [← e1, List.length_map, hM]
      have hZs : ∀ o ∈ Z, isS o = true := fun o h => by rw [← hZ] at h; exact (List.mem_filter.1 h).2
      have hZo : ∀ o ∈ Z, Ook o := fun o h => by rw [← hZ] at h; exact ho o (List.mem_filter.1 h).1
      have hZb : bsm Z ≤ 1900000 := by rw [← hZ]; exact Nat.le_trans (bsm_filter _ _) hn
      rw [hM] at e3
      have hP : ∀ j, (j < w.heap.size ∨ (Value.slice sa M sc_).ownBlock = some j) → j < wr.heap.size := by
        rintro j (hj | hj)
        · exact Nat.lt_of_lt_of_le (Nat.lt_of_lt_of_le hj B3.out.2) e5.size
        · exact (e3.lt hj).2
      have T4 : Hid (TP TA (fun j => j < w.heap.size ∨ (Value.slice sa M sc_).ownBlock = some j) w.heap.size w wr t (newT l) u (newT l)) := by
        obtain ⟨F, G, h1, h2, h3, h4, h5, h6, h7⟩ := T3.out
        refine ⟨F, G, C.later h1 e5, C.later h2 e5, h3.trans (below_mono e5 h4), Nat.le_trans h4 e5.size, h5, h6, h7, ?_, ?_, hP⟩
        · rintro j (hj | hj) hf
          · have := h5 j hf
            omega
          · have := C.lt h1 j hf
            have := (e3.lt hj).1
            omega
        · rintro j (hj | hj) hf
          · have := h6 j hf
            omega
          · have := C.lt h2 j hf
            have := (e3.lt hj).1
            omega
      have O4 : Hid (OS (fun j => j < w.heap.size ∨ (Value.slice sa M sc_).ownBlock = some j) wr (.slice sa M sc_) Z) := by
        have := e3.os (P := fun j => j < w.heap.size ∨ (Value.slice sa M sc_).ownBlock = some j) hP (fun j hj => .inr hj) (fun y hy => by
          obtain ⟨y1, y2, y3⟩ := e4 y hy
          exact ⟨y1.later (B3.out.1.trans (below_mono e5 B3.out.2)), fun hne j hj => .inl (y3 hne j hj)⟩)
        rwa [e1] at this
      clear e3 e4 e1 hP HL hZ T3 e5
      rw [hM]
      go_wp2_with fail
      refine HL_.out _ _ ?_
      exact p13 C T4 O4 hv H0.out.2.1 hMl (by omega) hcap hZs hZo hZb n0 n1 k0 k1
end Go.Proofs.YtlkkmcibjhoneaaGreatDoor
