/-
  The law TreeFresh: what was answered is written over and lengthened.
-/
import Derived.Test.YtlkkmcibjhoneaaGreatDoorGb
import Derived.OrdersHeld
import Derived.Deep.Cut
namespace Go.Proofs.YtlkkmcibjhoneaaGreatDoor
open Go.RowKit
attribute [local go_sem] Oper.semAt_some

/-- files that may be written over -/
def XR (G : Nat → Prop) (W : World) (v : Value) (n : Nat) : Prop := ∃ B l, l.length = n ∧ B ≤ W.heap.size ∧ OwnF B W v l ∧ ∀ k, v.ownBlock = some k → ¬ G k
/-- bytes that may be written over -/
def JR (G : Nat → Prop) (W : World) (v : Value) (n : Nat) : Prop := ∃ B l, l.length = n ∧ B ≤ W.heap.size ∧ OwnB B W v l ∧ ∀ k, v.ownBlock = some k → ¬ G k
section
variable {TA : World → (Nat → Prop) → Nat → TT → Prop} {G : Nat → Prop} {w W W' : World} {t n m : Nat} {T : TT} {b : List UInt8} {vy vk vw v x : Value}
theorem XR.later (h : XR G W v n) (hb : Below W.heap.size W W') : XR G W' v n := by
  obtain ⟨B, l, h1, h2, h3, h4⟩ := h
  exact ⟨B, l, h1, Nat.le_trans h2 hb.size, h3.later hb, h4⟩
theorem JR.later (h : JR G W v n) (hb : Below W.heap.size W W') : JR G W' v n := by
  obtain ⟨B, l, h1, h2, h3, h4⟩ := h
  exact ⟨B, l, h1, Nat.le_trans h2 hb.size, h3.later hb, h4⟩
/-- the files' block alone is written -/
theorem lay_x (C : TcP TA) (hX : FrX TA G w W t T b vy vk vw) (hx : XR G W v n) (hj : JR G W x m) {g : Nat} (hg : v.ownBlock = some g) (ho : Only [g] W W') : FrX TA G w W' t T b vy vk vw ∧ JR G W' x m := by
  obtain ⟨B, l, h1, h2, h3, h4⟩ := hx
  obtain ⟨B', l', k1, k2, k3, k4⟩ := hj
  exact ⟨hX.only C (OnlyP.of_only ho (fun k hk => by have : k = g := by simpa using hk
                                                     subst this
                                                     exact h4 _ hg)),
    B', l', k1, Nat.le_trans k2 ho.size, k3.only ho (fun k hk hm => by have : k = g := by simpa using hm
                                                                       subst this
                                                                       exact fb_ne h3 k3 _ hg hk), k4⟩
theorem lay_j (C : TcP TA) (hX : FrX TA G w W t T b vy vk vw) (hx : XR G W v n) (hj : JR G W x m) {g : Nat} (hg : x.ownBlock = some g) (ho : Only [g] W W') : FrX TA G w W' t T b vy vk vw ∧ XR G W' v n := by
  obtain ⟨B, l, h1, h2, h3, h4⟩ := hx
  obtain ⟨B', l', k1, k2, k3, k4⟩ := hj
  exact ⟨hX.only C (OnlyP.of_only ho (fun k hk => by have : k = g := by simpa using hk
                                                     subst this
                                                     exact k4 _ hg)),
    B, l, h1, Nat.le_trans h2 ho.size, h3.only ho (fun k hk hm => by have : k = g := by simpa using hm
                                                                     subst this
                                                                     exact fb_ne h3 k3 _ hk hg), h4⟩
end
theorem u8_inc (u : UInt8) : IntKind.u8.wrap ((u.toNat : Int) + 1) = ((u + 1).toNat : Int) := by
  have h : ∀ n : Fin 256, IntKind.u8.wrap ((n.val : Int) + 1) = (((UInt8.ofNat n.val) + 1).toNat : Int) := by decide +kernel
  have := h ⟨u.toNat, u.toNat_lt⟩
  simpa using this
theorem src_byte (w : World) (u : UInt8) : Src Tryz.prog 1 32 (.slice (some ⟨w.heap.size, 0, none⟩) 1 1) [u].length (bc [u]) (w.alloc (.cells #[.int .u8 u.toNat] 5)) := by
  refine Src.ofSlice _ und32 ⟨w.heap.size, 0, none⟩ 1 1 (bc [u]) (by simp [bc]) ?_ (bc_one _)
  exact World.news_of_block (heap_alloc_new w _)
/-- the files are lengthened by one -/
theorem app_x1 {TA : World → (Nat → Prop) → Nat → TT → Prop} (C : TcP TA) {G : Nat → Prop} {w W : World} {t n m : Nat} {T : TT} {b : List UInt8} {vy vk vw v x : Value} (hX : FrX TA G w W t T b vy vk vw) (hx : XR G W v n) (hj : JR G W x m) (hn : n ≤ 50000000) (f : Fl)
    {ops : Array Oper} {rest : List Oper} {o : Oper} {a : Act} {Q : Exit → Act → World → Prop} (hgd : o.guard = none) (s y : Operand)
    (ho : o.op = .call { callee := .builtin .append, args := #[s, y], argTypes := #[22, 22] }) (hv : a.eval s = v) (hy : a.eval y = .slice (some ⟨W.heap.size, 0, none⟩) 1 1)
    (h : ∀ v' w', FrX TA G w w' t T b vy vk vw ∧ XR G w' v' (n + 1) ∧ JR G w' x m → wpList Tryz.prog ops Q rest (a.put o.dst v') w') :
    wpList Tryz.prog ops Q (o :: rest) a (W.alloc (.cells #[.string (bs f.path), .string (bs f.text), .int .i64 f.blob, .int .i64 f.size] 31)) := by
  obtain ⟨B, l, h1, h2, h3, h4⟩ := hx
  have hb := balloc W (.cells #[.string (bs f.path), .string (bs f.text), .int .i64 f.blob, .int .i64 f.size] 31)
  refine app_files (base := B) (l := l) (k := [f]) (h3.later hb) (src_file W f) (by simp; omega) (Nat.le_trans h2 hb.size) hgd s y ho hv hy ?_
  intro v' w' k1 k2 k3
  have hX1 := hX.later C hb
  have hj1 := hj.later hb
  have hon := only_grown k2
  have hne : ∀ k, v.ownBlock = some k → ¬ G k := h4
  obtain ⟨B', l', j1, j2, j3, j4⟩ := hj1
  refine h v' w' ⟨hX1.only C (OnlyP.of_only hon (fun k hk => hne k (by simpa [Option.mem_toList] using hk))), ⟨B, l ++ [f], by simp [h1], Nat.le_trans (Nat.le_trans h2 hb.size) k2.size, k1, fun k hk hg => ?_⟩,
    B', l', j1, Nat.le_trans j2 k2.size, j3.only hon (fun k hk hm => fb_ne (h3.later hb) j3 k (by simpa [Option.mem_toList] using hm) hk), j4⟩
  rcases k3 with e | e
  · exact hne k (e ▸ hk) hg
  · rw [e] at hk
    have := hX1.lt k hg
    have : k = _ := (Option.some.inj hk).symm
    omega
theorem app_j1 {TA : World → (Nat → Prop) → Nat → TT → Prop} (C : TcP TA) {G : Nat → Prop} {w W : World} {t n m : Nat} {T : TT} {b : List UInt8} {vy vk vw v x : Value} (hX : FrX TA G w W t T b vy vk vw) (hx : XR G W v n) (hj : JR G W x m) (hn : m ≤ 50000000) (u : UInt8)
    {ops : Array Oper} {rest : List Oper} {o : Oper} {a : Act} {Q : Exit → Act → World → Prop} (hgd : o.guard = none) (s y : Operand)
    (ho : o.op = .call { callee := .builtin .append, args := #[s, y], argTypes := #[32, 32] }) (hv : a.eval s = x) (hy : a.eval y = .slice (some ⟨W.heap.size, 0, none⟩) 1 1)
    (h : ∀ x' w', FrX TA G w w' t T b vy vk vw ∧ XR G w' v n ∧ JR G w' x' (m + 1) → wpList Tryz.prog ops Q rest (a.put o.dst x') w') :
    wpList Tryz.prog ops Q (o :: rest) a (W.alloc (.cells #[.int .u8 u.toNat] 5)) := by
  obtain ⟨B, l, h1, h2, h3, h4⟩ := hj
  have hb := balloc W (.cells #[.int .u8 u.toNat] 5)
  refine app_bytes (base := B) (l := l) (k := [u]) (h3.later hb) (src_byte W u) (by simp; omega) (Nat.le_trans h2 hb.size) hgd s y ho hv hy ?_
  intro v' w' k1 k2 k3
  have hX1 := hX.later C hb
  have hj1 := hx.later hb
  have hon := only_grown k2
  have hne : ∀ k, x.ownBlock = some k → ¬ G k := h4
  obtain ⟨B', l', j1, j2, j3, j4⟩ := hj1
  refine h v' w' ⟨hX1.only C (OnlyP.of_only hon (fun k hk => hne k (by simpa [Option.mem_toList] using hk))), ⟨B', l', j1, Nat.le_trans j2 k2.size, j3.only hon (fun k hk hm => fb_ne j3 (h3.later hb) k hk (by simpa [Option.mem_toList] using hm)), j4⟩,
    B, l ++ [u], by simp [h1], Nat.le_trans (Nat.le_trans h2 hb.size) k2.size, k1, fun k hk hg => ?_⟩
  rcases k3 with e | e
  · exact hne k (e ▸ hk) hg
  · rw [e] at hk
    have := hX1.lt k hg
    have : k = _ := (Option.some.inj hk).symm
    omega
set_option maxRecDepth 100000 in
set_option maxHeartbeats 16000000 in
theorem fr21 {TA : World → (Nat → Prop) → Nat → TT → Prop} (C : TcP TA) {G : Nat → Prop} {w W : World} {t NF lc NB cb ND dc gw : Nat} {la ba da : Option Addr} {T : TT} {b : List UInt8} {vy vk : Value} {xa ja : Option Addr} {xc jc : Nat} {lv2 lv3 lv4 lv6 lv13 lv14 lv15 lv16 lv17 lv18 lv19 lv20 lv21 lv22 lv23 lv24 lv25 lv26 lv27 lv28 lv29 lv30 lv31 lv32 lv33 lv34 lv35 lv36 lv37 lv38 lv39 lv40 lv41 lv42 lv43 lv44 lv45 lv46 lv47 lv48 lv49 lv50 lv51 lv52 lv53 lv54 lv55 lv56 lv57 lv58 lv59 lv60 lv61 lv62 lv63 lv64 lv65 lv66 lv67 lv68 lv69 lv70 lv71 lv72 lv73 lv74 lv75 lv76 lv77 lv78 lv79 lv80 lv81 lv82 lv83 lv84 lv85 lv86 lv87 lv88 lv89 lv90 lv91 lv92 lv93 lv94 lv95 lv96 lv97 lv98 lv99 lv100 lv101 lv102 lv103 lv104 lv105 lv106 lv107 lv108 lv109 lv110 lv111 lv112 lv113 lv114 lv115 lv116 lv117 lv118 lv119 lv120 lv121 lv122 lv123 lv124 lv125 lv126 lv127 lv128 lv129 lv130 lv131 lv132 lv133 lv134 lv135 lv136 lv137 lv138 lv139 lv140 lv141 lv142 lv143 lv144 lv145 lv146 lv147 lv148 lv149 lv150 lv151 lv152 lv153 lv154 lv155 lv156 lv157 lv158 lv159 lv160 lv161 lv162 lv163 lv164 lv165 : Value}
    (X : Hid (FrX TA G w W t T b vy vk (.slice (some ⟨gw, 0, none⟩) ND (ND + 30)) ∧ XR G W (.slice xa NF xc) (NF) ∧ JR G W (.slice ja NB jc) (NB))) (H0 : Hid (FS w (.slice la NF lc) T.fs ∧ BS w (.slice ba NB cb) b)) (hz : Hid (TSz 4000000 T)) (hl : Hid (T.fs.length = NF ∧ T.ds.length = ND ∧ b.length = NB ∧ T.jl = b)) (hb : NF ≤ 4000000 ∧ NB ≤ 4000000 ∧ ND ≤ 4000000) :
    Code.wp Tryz.prog (suff 21 (Tryz.f4.body.getD .skip)) (bodyPost Tryz.prog Tryz.f4 (fun e w' => e = .returned (.bool true) ∧ Below w.heap.size w w')) ⟨#[.slice la NF lc, .slice ba NB cb, lv2, lv3, lv4, .pointer (some ⟨t, 0, none⟩), lv6, .slice xa NF xc, vy, .slice ja NB jc, vk, .slice da ND dc, .slice (some ⟨gw, 0, none⟩) (ND + 30) (ND + 30), lv13, lv14, lv15, lv16, lv17, lv18, lv19, lv20, lv21, lv22, lv23, lv24, lv25, lv26, lv27, lv28, lv29, lv30, lv31, lv32, lv33, lv34, lv35, lv36, lv37, lv38, lv39, lv40, lv41, lv42, lv43, lv44, lv45, lv46, lv47, lv48, lv49, lv50, lv51, lv52, lv53, lv54, lv55, lv56, lv57, lv58, lv59, lv60, lv61, lv62, lv63, lv64, lv65, lv66, lv67, lv68, lv69, lv70, lv71, lv72, lv73, lv74, lv75, lv76, lv77, lv78, lv79, lv80, lv81, lv82, lv83, lv84, lv85, lv86, lv87, lv88, lv89, lv90, lv91, lv92, lv93, lv94, lv95, lv96, lv97, lv98, lv99, lv100, lv101, lv102, lv103, lv104, lv105, lv106, lv107, lv108, lv109, lv110, lv111, lv112, lv113, lv114, lv115, lv116, lv117, lv118, lv119, lv120, lv121, lv122, lv123, lv124, lv125, lv126, lv127, lv128, lv129, lv130, lv131, lv132, lv133, lv134, lv135, lv136, lv137, lv138, lv139, lv140, lv141, lv142, lv143, lv144, lv145, lv146, lv147, lv148, lv149, lv150, lv151, lv152, lv153, lv154, lv155, lv156, lv157, lv158, lv159, lv160, lv161, lv162, lv163, lv164, lv165], []⟩ W := by
  conv => arg 2; whnf
  refine wp_seq_k fun KK hKK => ?_
  have HK_ : Hid _ := hKK
  clear hKK
  go_wp2_with fail
  obtain ⟨b1, b2, b3⟩ := hb
  go_loopw [7, 9, 15] (fun x j i wr => ∃ q : Nat, q ≤ 30 ∧ i = .int .i64 q ∧ FrX TA G w wr t T b vy vk (.slice (some ⟨gw, 0, none⟩) ND (ND + 30)) ∧ XR G wr (x) (NF + q) ∧ JR G wr (j) (NB + q)) (fun _ _ i _ => 30 - (intOf i).toNat)
  case atStart => exact ⟨0, by omega, rfl, X.out⟩
  case round =>
    obtain ⟨q, hq, rfl, hx⟩ := hrel
    have Hx : Hid (FrX TA G w wr t T b vy vk (.slice (some ⟨gw, 0, none⟩) ND (ND + 30)) ∧ XR G wr (u7) (NF + q) ∧ JR G wr (u9) (NB + q)) := hx
    clear hx
    by_cases hlt : q < 30
    · have k2 : (q : Int) < 30 := by omega
      go_wp2_with (first
        | (at_builtin; refine app_x1 C Hx.out.1 Hx.out.2.1 Hx.out.2.2 (by omega) (mkP 49) rfl (.tmp 110) (.tmp 112) rfl rfl rfl ?_; intro v2 w8 h8; have H8 : Hid (FrX TA G w w8 t T b vy vk (.slice (some ⟨gw, 0, none⟩) ND (ND + 30)) ∧ XR G w8 (v2) (NF + q + 1) ∧ JR G w8 (u9) (NB + q)) := h8; clear h8)
        | (at_builtin; refine app_j1 C H8.out.1 H8.out.2.1 H8.out.2.2 (by omega) 7 rfl (.tmp 114) (.tmp 115) rfl rfl rfl ?_; intro v3 w9 h9; have H9 : Hid (FrX TA G w w9 t T b vy vk (.slice (some ⟨gw, 0, none⟩) ND (ND + 30)) ∧ XR G w9 (v2) (NF + q + 1) ∧ JR G w9 (v3) (NB + q + 1)) := h9; clear h9))
      go_roundw
      case rel => exact ⟨q + 1, by omega, by go_num, H9.out⟩
      case measure => simp [intOf]; omega
    · have hq30 : q = 30 := by omega
      have kq : ¬ (q : Int) < 30 := by omega
      obtain ⟨B, lx, h1, h2, h3, h4⟩ := Hx.out.2.1
      obtain ⟨B', lj, k1, k2, k3, k4⟩ := Hx.out.2.2
      obtain ⟨xa, xc, hx⟩ := h3.form
      obtain ⟨ja, jc, hj⟩ : ∃ a c, u9 = .slice a lj.length c := by
        rcases k3.form' with ⟨e, e'⟩ | ⟨g, c, e, _⟩
        · exact ⟨none, 0, by rw [e, e']; rfl⟩
        · exact ⟨_, c, e⟩
      rw [h1, hq30] at hx
      rw [k1, hq30] at hj
      obtain ⟨NX, hNX⟩ : ∃ NX, NX = NF + 30 := ⟨_, rfl⟩
      obtain ⟨NJ, hNJ⟩ : ∃ NJ, NJ = NB + 30 := ⟨_, rfl⟩
      rw [← hNX] at hx
      rw [← hNJ] at hj
      have X1 : Hid (FrX TA G w wr t T b vy vk (.slice (some ⟨gw, 0, none⟩) ND (ND + 30))) := Hx.out.1
      have HNX : Hid (NX = NF + 30) := hNX
      have HNJ : Hid (NJ = NB + 30) := hNJ
      clear hNX hNJ
      clear h1 h2 h3 h4 k1 k2 k3 k4 Hx hq30
      subst hx
      subst hj
      go_wp2_with fail
      refine HK_.out _ _ ?_
      exact fr26 C X1 H0 hz hl ⟨b1, b2, b3⟩ HNX HNJ
set_option maxRecDepth 100000 in
set_option maxHeartbeats 16000000 in
theorem fr17 {TA : World → (Nat → Prop) → Nat → TT → Prop} (C : TcP TA) {G : Nat → Prop} {w W : World} {t NF lc NB cb ND dc gw : Nat} {la ba da : Option Addr} {T : TT} {b : List UInt8} {vy vk : Value} {xa ja : Option Addr} {xc jc : Nat} {lv2 lv3 lv4 lv6 lv13 lv14 lv15 lv16 lv17 lv18 lv19 lv20 lv21 lv22 lv23 lv24 lv25 lv26 lv27 lv28 lv29 lv30 lv31 lv32 lv33 lv34 lv35 lv36 lv37 lv38 lv39 lv40 lv41 lv42 lv43 lv44 lv45 lv46 lv47 lv48 lv49 lv50 lv51 lv52 lv53 lv54 lv55 lv56 lv57 lv58 lv59 lv60 lv61 lv62 lv63 lv64 lv65 lv66 lv67 lv68 lv69 lv70 lv71 lv72 lv73 lv74 lv75 lv76 lv77 lv78 lv79 lv80 lv81 lv82 lv83 lv84 lv85 lv86 lv87 lv88 lv89 lv90 lv91 lv92 lv93 lv94 lv95 lv96 lv97 lv98 lv99 lv100 lv101 lv102 lv103 lv104 lv105 lv106 lv107 lv108 lv109 lv110 lv111 lv112 lv113 lv114 lv115 lv116 lv117 lv118 lv119 lv120 lv121 lv122 lv123 lv124 lv125 lv126 lv127 lv128 lv129 lv130 lv131 lv132 lv133 lv134 lv135 lv136 lv137 lv138 lv139 lv140 lv141 lv142 lv143 lv144 lv145 lv146 lv147 lv148 lv149 lv150 lv151 lv152 lv153 lv154 lv155 lv156 lv157 lv158 lv159 lv160 lv161 lv162 lv163 lv164 lv165 : Value}
    (X : Hid (FrX TA G w W t T b vy vk (.slice (some ⟨gw, 0, none⟩) ND (ND + 30)) ∧ XR G W (.slice xa NF xc) (NF) ∧ JR G W (.slice ja NB jc) (NB))) (H0 : Hid (FS w (.slice la NF lc) T.fs ∧ BS w (.slice ba NB cb) b)) (hz : Hid (TSz 4000000 T)) (hl : Hid (T.fs.length = NF ∧ T.ds.length = ND ∧ b.length = NB ∧ T.jl = b)) (hb : NF ≤ 4000000 ∧ NB ≤ 4000000 ∧ ND ≤ 4000000) :
    Code.wp Tryz.prog (suff 17 (Tryz.f4.body.getD .skip)) (bodyPost Tryz.prog Tryz.f4 (fun e w' => e = .returned (.bool true) ∧ Below w.heap.size w w')) ⟨#[.slice la NF lc, .slice ba NB cb, lv2, lv3, lv4, .pointer (some ⟨t, 0, none⟩), lv6, .slice xa NF xc, vy, .slice ja NB jc, vk, .slice da ND dc, .slice (some ⟨gw, 0, none⟩) (ND + 30) (ND + 30), lv13, lv14, lv15, lv16, lv17, lv18, lv19, lv20, lv21, lv22, lv23, lv24, lv25, lv26, lv27, lv28, lv29, lv30, lv31, lv32, lv33, lv34, lv35, lv36, lv37, lv38, lv39, lv40, lv41, lv42, lv43, lv44, lv45, lv46, lv47, lv48, lv49, lv50, lv51, lv52, lv53, lv54, lv55, lv56, lv57, lv58, lv59, lv60, lv61, lv62, lv63, lv64, lv65, lv66, lv67, lv68, lv69, lv70, lv71, lv72, lv73, lv74, lv75, lv76, lv77, lv78, lv79, lv80, lv81, lv82, lv83, lv84, lv85, lv86, lv87, lv88, lv89, lv90, lv91, lv92, lv93, lv94, lv95, lv96, lv97, lv98, lv99, lv100, lv101, lv102, lv103, lv104, lv105, lv106, lv107, lv108, lv109, lv110, lv111, lv112, lv113, lv114, lv115, lv116, lv117, lv118, lv119, lv120, lv121, lv122, lv123, lv124, lv125, lv126, lv127, lv128, lv129, lv130, lv131, lv132, lv133, lv134, lv135, lv136, lv137, lv138, lv139, lv140, lv141, lv142, lv143, lv144, lv145, lv146, lv147, lv148, lv149, lv150, lv151, lv152, lv153, lv154, lv155, lv156, lv157, lv158, lv159, lv160, lv161, lv162, lv163, lv164, lv165], []⟩ W := by
  conv => arg 2; whnf
  refine wp_seq_k fun KK hKK => ?_
  have HK_ : Hid _ := hKK
  clear hKK
  go_wp2_with fail
  have hb' := hb
  obtain ⟨b1, b2, b3⟩ := hb
  go_loopw [14] (fun i wr => ∃ k : Nat, k ≤ NB ∧ i = .int .i64 k ∧ FrX TA G w wr t T b vy vk (.slice (some ⟨gw, 0, none⟩) ND (ND + 30)) ∧ XR G wr (.slice xa NF xc) (NF) ∧ JR G wr (.slice ja NB jc) (NB)) (fun i _ => NB - (intOf i).toNat)
  case atStart => exact ⟨0, by omega, rfl, X.out⟩
  case round =>
    obtain ⟨k, hk, rfl, hx⟩ := hrel
    have Hx : Hid (FrX TA G w wr t T b vy vk (.slice (some ⟨gw, 0, none⟩) ND (ND + 30)) ∧ XR G wr (.slice xa NF xc) (NF) ∧ JR G wr (.slice ja NB jc) (NB)) := hx
    clear hx
    by_cases hlt : k < NB
    · obtain ⟨B', lj, k1, k2, k3, k4⟩ := Hx.out.2.2
      rcases k3.form' with ⟨_, h0⟩ | ⟨g, c', e, _, _, _⟩
      · rw [h0] at k1; simp at k1; omega
      obtain rfl : ja = some ⟨g, 0, none⟩ := by injection e
      have hkl : k < lj.length := by omega
      obtain ⟨c0, f0⟩ := ownB_cell k3 k hkl
      obtain ⟨u, hu⟩ : ∃ u, lj[k]'hkl = u := ⟨_, rfl⟩
      rw [hu] at c0
      have HS : Hid (OwnB B' (wr.setCell ⟨g, k, none⟩ (.int .u8 ((u + 1).toNat : Int))) (.slice (some ⟨g, 0, none⟩) NB jc) (lj.set k (u + 1)) ∧ lj.length = NB ∧ B' ≤ wr.heap.size ∧ ∀ j, (Value.slice (some ⟨g, 0, none⟩) NB jc).ownBlock = some j → ¬ G j) := ⟨ownB_set k3 k (u + 1), k1, k2, k4⟩
      have hw := u8_inc u
      obtain ⟨y, hy⟩ : ∃ y, (u + 1).toNat = y := ⟨_, rfl⟩
      obtain ⟨x, hx⟩ : ∃ x, u.toNat = x := ⟨_, rfl⟩
      rw [hy] at hw HS
      rw [hx] at hw c0
      have i1 : (0 : Int) ≤ (k : Int) := by omega
      have i2 : (k : Int) < (NB : Int) := by omega
      clear hu hy hx k1 k2 k3 k4 e
      go_wp2_with fail
      go_roundw
      case rel =>
        have o1 : Only [g] wr (wr.setCell ⟨g, k, none⟩ (.int .u8 (y : Int))) := Only.set _ _ _ _
        obtain ⟨x1, x2⟩ := lay_j C Hx.out.1 Hx.out.2.1 Hx.out.2.2 rfl o1
        exact ⟨k + 1, by omega, by go_num, x1, x2, B', _, by rw [List.length_set]; exact HS.out.2.1, Nat.le_trans HS.out.2.2.1 o1.size, HS.out.1, HS.out.2.2.2⟩
      case measure => simp [intOf]; omega
    · obtain rfl : NB = k := by omega
      go_wp2_with fail
      refine HK_.out _ _ ?_
      exact fr21 C Hx H0 hz hl hb'
set_option maxRecDepth 100000 in
set_option maxHeartbeats 16000000 in
theorem fr13 {TA : World → (Nat → Prop) → Nat → TT → Prop} (C : TcP TA) {G : Nat → Prop} {w W : World} {t NF lc NB cb ND dc gw : Nat} {la ba da : Option Addr} {T : TT} {b : List UInt8} {vy vk : Value} {xa ja : Option Addr} {xc jc : Nat} {lv2 lv3 lv4 lv6 lv13 lv14 lv15 lv16 lv17 lv18 lv19 lv20 lv21 lv22 lv23 lv24 lv25 lv26 lv27 lv28 lv29 lv30 lv31 lv32 lv33 lv34 lv35 lv36 lv37 lv38 lv39 lv40 lv41 lv42 lv43 lv44 lv45 lv46 lv47 lv48 lv49 lv50 lv51 lv52 lv53 lv54 lv55 lv56 lv57 lv58 lv59 lv60 lv61 lv62 lv63 lv64 lv65 lv66 lv67 lv68 lv69 lv70 lv71 lv72 lv73 lv74 lv75 lv76 lv77 lv78 lv79 lv80 lv81 lv82 lv83 lv84 lv85 lv86 lv87 lv88 lv89 lv90 lv91 lv92 lv93 lv94 lv95 lv96 lv97 lv98 lv99 lv100 lv101 lv102 lv103 lv104 lv105 lv106 lv107 lv108 lv109 lv110 lv111 lv112 lv113 lv114 lv115 lv116 lv117 lv118 lv119 lv120 lv121 lv122 lv123 lv124 lv125 lv126 lv127 lv128 lv129 lv130 lv131 lv132 lv133 lv134 lv135 lv136 lv137 lv138 lv139 lv140 lv141 lv142 lv143 lv144 lv145 lv146 lv147 lv148 lv149 lv150 lv151 lv152 lv153 lv154 lv155 lv156 lv157 lv158 lv159 lv160 lv161 lv162 lv163 lv164 lv165 : Value}
    (X : Hid (FrX TA G w W t T b vy vk (.slice (some ⟨gw, 0, none⟩) ND (ND + 30)) ∧ XR G W (.slice xa NF xc) (NF) ∧ JR G W (.slice ja NB jc) (NB))) (H0 : Hid (FS w (.slice la NF lc) T.fs ∧ BS w (.slice ba NB cb) b)) (hz : Hid (TSz 4000000 T)) (hl : Hid (T.fs.length = NF ∧ T.ds.length = ND ∧ b.length = NB ∧ T.jl = b)) (hb : NF ≤ 4000000 ∧ NB ≤ 4000000 ∧ ND ≤ 4000000) :
    Code.wp Tryz.prog (suff 13 (Tryz.f4.body.getD .skip)) (bodyPost Tryz.prog Tryz.f4 (fun e w' => e = .returned (.bool true) ∧ Below w.heap.size w w')) ⟨#[.slice la NF lc, .slice ba NB cb, lv2, lv3, lv4, .pointer (some ⟨t, 0, none⟩), lv6, .slice xa NF xc, vy, .slice ja NB jc, vk, .slice da ND dc, .slice (some ⟨gw, 0, none⟩) (ND + 30) (ND + 30), lv13, lv14, lv15, lv16, lv17, lv18, lv19, lv20, lv21, lv22, lv23, lv24, lv25, lv26, lv27, lv28, lv29, lv30, lv31, lv32, lv33, lv34, lv35, lv36, lv37, lv38, lv39, lv40, lv41, lv42, lv43, lv44, lv45, lv46, lv47, lv48, lv49, lv50, lv51, lv52, lv53, lv54, lv55, lv56, lv57, lv58, lv59, lv60, lv61, lv62, lv63, lv64, lv65, lv66, lv67, lv68, lv69, lv70, lv71, lv72, lv73, lv74, lv75, lv76, lv77, lv78, lv79, lv80, lv81, lv82, lv83, lv84, lv85, lv86, lv87, lv88, lv89, lv90, lv91, lv92, lv93, lv94, lv95, lv96, lv97, lv98, lv99, lv100, lv101, lv102, lv103, lv104, lv105, lv106, lv107, lv108, lv109, lv110, lv111, lv112, lv113, lv114, lv115, lv116, lv117, lv118, lv119, lv120, lv121, lv122, lv123, lv124, lv125, lv126, lv127, lv128, lv129, lv130, lv131, lv132, lv133, lv134, lv135, lv136, lv137, lv138, lv139, lv140, lv141, lv142, lv143, lv144, lv145, lv146, lv147, lv148, lv149, lv150, lv151, lv152, lv153, lv154, lv155, lv156, lv157, lv158, lv159, lv160, lv161, lv162, lv163, lv164, lv165], []⟩ W := by
  conv => arg 2; whnf
  refine wp_seq_k fun KK hKK => ?_
  have HK_ : Hid _ := hKK
  clear hKK
  go_wp2_with fail
  have hb' := hb
  obtain ⟨b1, b2, b3⟩ := hb
  go_loopw [13] (fun i wr => ∃ k : Nat, k ≤ NF ∧ i = .int .i64 k ∧ FrX TA G w wr t T b vy vk (.slice (some ⟨gw, 0, none⟩) ND (ND + 30)) ∧ XR G wr (.slice xa NF xc) (NF) ∧ JR G wr (.slice ja NB jc) (NB)) (fun i _ => NF - (intOf i).toNat)
  case atStart => exact ⟨0, by omega, rfl, X.out⟩
  case round =>
    obtain ⟨k, hk, rfl, hx⟩ := hrel
    have Hx : Hid (FrX TA G w wr t T b vy vk (.slice (some ⟨gw, 0, none⟩) ND (ND + 30)) ∧ XR G wr (.slice xa NF xc) (NF) ∧ JR G wr (.slice ja NB jc) (NB)) := hx
    clear hx
    by_cases hlt : k < NF
    · obtain ⟨B', lx, k1, k2, k3, k4⟩ := Hx.out.2.1
      rcases k3.form' with ⟨_, h0⟩ | ⟨g, c', e, _, _, _⟩
      · rw [h0] at k1; simp at k1; omega
      obtain rfl : xa = some ⟨g, 0, none⟩ := by injection e
      have hkl : k < lx.length := by omega
      obtain ⟨⟨c0, c1, c2, c3⟩, ⟨f0, f1, f2, f3⟩, _, hgl⟩ := own_cellF k3 k hkl
      have HS : Hid (OwnF B' ((((wr.setCell ⟨g, k * 4, none⟩ (.string (bs [49]))).setCell ⟨g, k * 4 + 1, none⟩ (.string (bs []))).setCell ⟨g, k * 4 + 2, none⟩ (.int .i64 0)).setCell ⟨g, k * 4 + 3, none⟩ (.int .i64 0)) (.slice (some ⟨g, 0, none⟩) NF xc) (lx.set k (mkP 49)) ∧ lx.length = NF ∧ B' ≤ wr.heap.size ∧ ∀ j, (Value.slice (some ⟨g, 0, none⟩) NF xc).ownBlock = some j → ¬ G j) := ⟨own_setF k3 k (mkP 49), k1, k2, k4⟩
      have i1 : (0 : Int) ≤ (k : Int) := by omega
      have i2 : (k : Int) < (NF : Int) := by omega
      clear k1 k2 k3 k4 e
      go_wp2_with fail
      go_roundw
      case rel =>
        have o1 : Only [g] wr ((((wr.setCell ⟨g, k * 4, none⟩ (.string (bs [49]))).setCell ⟨g, k * 4 + 1, none⟩ (.string (bs []))).setCell ⟨g, k * 4 + 2, none⟩ (.int .i64 0)).setCell ⟨g, k * 4 + 3, none⟩ (.int .i64 0)) := (((Only.set _ _ _ _).trans (Only.set _ _ _ _)).trans (Only.set _ _ _ _)).trans (Only.set _ _ _ _)
        obtain ⟨x1, x2⟩ := lay_x C Hx.out.1 Hx.out.2.1 Hx.out.2.2 rfl o1
        exact ⟨k + 1, by omega, by go_num, x1, ⟨B', _, by rw [List.length_set]; exact HS.out.2.1, Nat.le_trans HS.out.2.2.1 o1.size, HS.out.1, HS.out.2.2.2⟩, x2⟩
      case measure => simp [intOf]; omega
    · obtain rfl : NF = k := by omega
      go_wp2_with fail
      refine HK_.out _ _ ?_
      exact fr17 C Hx H0 hz hl hb'
end Go.Proofs.YtlkkmcibjhoneaaGreatDoor
