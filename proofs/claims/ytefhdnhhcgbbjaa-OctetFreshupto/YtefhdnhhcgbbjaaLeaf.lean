import Derived.Test.YtefhdnhhcgbbjaaBase
namespace Go.Proofs.Ytefhdnhhcgbbjaa
open Go.RowKit

theorem conv_bs {w : World} {v : Value} {l : List UInt8} (h : BS w v l) : (convert 27 9 v).run Try.prog w = .ok (.string ⟨l.toArray⟩) w := by
  rcases h with ⟨⟨a, c, rfl⟩, rfl⟩ | ⟨b, off, cap, rfl, hc, hlt, hcell⟩
  · cases a with
    | none => exact run_convert_bytes_nil (P := Try.prog) w 27 5 und27 und5 0 c 9 und9
    | some a =>
      rw [run_convert_bytes_string w 27 9 5 (some a) 0 c und27 und5 und9, run_bytesToString w a 0 c [] (run_loadCells_list (P := Try.prog) w a [] (fun j v hj => by simp at hj))]
      rfl
  · have e : strOfNums (l.map fun b => (b.toNat : Int)) = ⟨l.toArray⟩ := by
      unfold strOfNums
      congr 1
      simp [Function.comp_def]
    rw [← e]
    refine run_convert_bytes_arg (P := Try.prog) w 27 5 und27 und5 b off l.length cap (l.map fun b => (b.toNat : Int)) (by simp) (fun i hi => ?_) 9 und9
    rw [hcell i (.int .u8 (l[i].toNat : Int)) (by simp [bc, hi])]
    simp [hi]

set_option maxHeartbeats 400000 in
theorem same_any {w : World} {a b : Value} {la lb : List UInt8} (ha : BS w a la) (hb : BS w b lb) :
    Calls Try.prog 16 #[a, b] w fun e w' => e = .returned (.bool (la == lb)) ∧ w' = w := by
  have h1 := conv_bs ha
  have h2 := conv_bs hb
  clear ha hb
  go_enter Try.func16, Try.ntmps16
  go_wp2
  go_ret
  exact ⟨rfl, rfl⟩

set_option maxHeartbeats 400000 in
theorem room_any {w : World} {v : Value} {l : List UInt8} (h : BS w v l) (m : Nat) (hm : l.length + m ≤ 140737488355328) :
    Calls Try.prog 29 #[v, .int .i64 m] w fun e w' => ∃ v' , e = .returned v' ∧ Own w.heap.size w' v' l ∧ (∃ g, v'.ownBlock = some g) ∧ Below w.heap.size w w' := by
  obtain ⟨i0, hi, hz0, hz1, hz2⟩ := info_parts info5
  have hmk : ∀ u : World, (Instr.makeSlice 27 (.int .i64 0) (.int .i64 ((l.length : Int) + (m : Int)))).run Try.prog u =
      .ok (.slice (some ⟨u.heap.size, 0, none⟩) 0 (l.length + m)) (u.alloc (.cells (madeCells #[.int .u8 0] (l.length + m)) 5)) := fun u => by
    have h := run_make (P := Try.prog) u 27 5 i0 (.int .u8 0) und27 hi hz0 .i64 .i64 0 ((l.length : Int) + (m : Int)) (by omega) (by omega) (by rw [hz2]; omega) (by omega)
    have e : ((l.length : Int) + (m : Int)).toNat = l.length + m := by omega
    rw [e] at h
    simpa [hz1, Value.cells] using h
  have hlen : ∃ a c, v = .slice a l.length c := by
    rcases h with ⟨⟨a, c, rfl⟩, rfl⟩ | ⟨b, off, cap, rfl, hc, hlt, hcell⟩
    · exact ⟨_, _, rfl⟩
    · exact ⟨_, _, rfl⟩
  obtain ⟨a, c, rfl⟩ := hlen
  clear hi hz0 hz1 hz2
  have own0 : ∀ cur : Array Value, cur.size = l.length + m → Own w.heap.size (w.alloc (.cells cur 5)) (.slice (some ⟨w.heap.size, 0, none⟩) 0 (l.length + m)) [] := fun cur hc =>
    World.ownsRow_made w cur (l.length + m) (Nat.le_refl _) (by simp only [maxLen]; omega) (by simpa using hc)
  have HB : Hid (BS w (.slice a l.length c) l) := h
  clear h
  go_enter Try.func29, Try.ntmps29
  go_wp2_with (at_builtin; refine app_bytes (base := w.heap.size) (l := []) (k := l) (tx := 27) (own0 _ (by simp [size_madeCells])) ((HB.out.later ((Below.refl _ _).alloc (Nat.le_refl _) _)).src und27) (by simp; omega) (by simp) rfl (.tmp 9) (.tmp 10) rfl rfl rfl ?_; intro v' w' ho hg hat)
  go_ret
  refine ⟨v', rfl, by simpa using ho, ?_, ?_⟩
  · rcases hat with h | h <;> exact ⟨_, h⟩
  · exact ((Below.refl _ _).alloc (Nat.le_refl _) _).grown hg (by simp) (by intro k hk; simp [Value.ownBlock] at hk; omega)

theorem src_one (w : World) (n : Int) (b : UInt8) (h : n = (b.toNat : Int)) : Src Try.prog 1 27 (.slice (some ⟨w.heap.size, 0, none⟩) 1 1) 1 (bc [b]) (w.alloc (.cells #[.int .u8 n] 5)) := by
  subst h
  exact Src.ofSlice _ und27 ⟨w.heap.size, 0, none⟩ 1 1 (bc [b]) (by simp [bc]) (cell_one_new w _ 5) (bc_one _)

/-- append of one byte onto bytes of the call's own -/
theorem app_one {w : World} {base : Nat} {v : Value} {l : List UInt8} {n : Int} (b : UInt8) (hown : Own base w v l) (hn : n = (b.toNat : Int)) (hb : l.length + 1 ≤ 140737488355328) (hbase : base ≤ w.heap.size)
    {ops : Array Oper} {rest : List Oper} {o : Oper} {a : Act} {Q : Exit → Act → World → Prop} (hgd : o.guard = none) (s y : Operand) 
    (ho : o.op = .call { callee := .builtin .append, args := #[s, y], argTypes := #[27, 27] }) (hv : a.eval s = v) (hx : a.eval y = .slice (some ⟨w.heap.size, 0, none⟩) 1 1)
    (h : ∀ v' w', Own base w' v' (l ++ [b]) → Below base w w' → base ≤ w'.heap.size → w.grownBy w' v.ownBlock → (v'.ownBlock = v.ownBlock ∨ v'.ownBlock = some (w.heap.size + 1)) → wpList Try.prog ops Q rest (a.put o.dst v') w') :
    wpList Try.prog ops Q (o :: rest) a (w.alloc (.cells #[.int .u8 n] 5)) := by
  refine app_bytes (base := base) (l := l) (k := [b]) (tx := 27) (World.ownsRow.alloc hown _) (src_one w n b hn) (by simpa using hb) (by simp; omega) hgd s y ho hv hx ?_
  intro v' w' h1 h2 h3
  have hlt := World.ownsRow.lt hown
  have hB : Below base w w' := ((Below.refl _ _).alloc hbase _).grown h2 (by simp; omega) (fun k hk => (hlt k hk).1)
  refine h v' w' h1 hB (Nat.le_trans hbase hB.size) ((World.grownBy_alloc w _ _).trans h2) (by simpa using h3)

/-- the bytes of a number, the lowest first -/
def le : Nat → Nat → List UInt8
  | 0, _ => []
  | k + 1, v => le k v ++ [UInt8.ofNat (v / 256 ^ k)]
theorem le_length : ∀ k v, (le k v).length = k
  | 0, _ => rfl
  | k + 1, v => by simp [le, le_length k v]
def sh (x k : Nat) : Nat := x / 256 ^ k
theorem sh_zero (x : Nat) : sh x 0 = x := by simp [sh]
theorem sh_succ (x k : Nat) : sh x (k + 1) = sh x k / 256 := by simp [sh, Nat.pow_succ, Nat.div_div_eq_div_mul]
theorem le_succ (k x : Nat) : le (k + 1) x = le k x ++ [UInt8.ofNat (sh x k)] := rfl
/-- a mask of j bytes -/
def mk (j : Nat) : Nat := 256 ^ j - 1
theorem mk_pos (j : Nat) : 0 < mk (j + 1) := by
  have : 0 < 256 ^ j := Nat.pow_pos (by omega)
  simp only [mk, Nat.pow_succ]
  omega
theorem mk_succ (j : Nat) : mk (j + 1) / 256 = mk j := by
  have : 0 < 256 ^ j := Nat.pow_pos (by omega)
  simp only [mk, Nat.pow_succ]
  omega
theorem mk_lt (j : Nat) : mk j < mk (j + 1) := by
  have : 0 < 256 ^ j := Nat.pow_pos (by omega)
  simp only [mk, Nat.pow_succ]
  omega
theorem low_byte (n : Nat) : ((n : Int) % 256) = ((UInt8.ofNat n).toNat : Int) := by
  simp

theorem start32 : IntKind.u64.wrap (bits BinOp.xor IntKind.u32 IntKind.u32.max 0) = ((mk 4 : Nat) : Int) := by decide
theorem start16 : IntKind.u64.wrap (bits BinOp.xor IntKind.u16 IntKind.u16.max 0) = ((mk 2 : Nat) : Int) := by decide
theorem start8 : IntKind.u64.wrap (bits BinOp.xor IntKind.u8 IntKind.u8.max 0) = ((mk 1 : Nat) : Int) := by decide
theorem sh_le (x k : Nat) : sh x k ≤ x := Nat.div_le_self _ _
theorem wrap_u64_id (n : Int) (h0 : 0 ≤ n) (h1 : n < 18446744073709551616) : IntKind.u64.wrap n = n := by
  have := IntKind.wrap_u64 n
  rw [this]
  omega
theorem start64 : bits BinOp.xor IntKind.u64 IntKind.u64.max 0 = ((mk 8 : Nat) : Int) := by decide

set_option maxHeartbeats 400000 in
theorem lay64_any {w : World} {base : Nat} {v : Value} {l : List UInt8} (h : Own base w v l) (x : Nat) (hm : l.length ≤ 1000000000000) (hbase : base ≤ w.heap.size) :
    Calls Try.prog 36 #[v, .int .u64 x] w fun e w' => ∃ v', e = .returned v' ∧ Own base w' v' (l ++ le 8 x) ∧ Below base w w' := by
  have HO : Hid (Own base w v l) := h
  clear h
  go_enter Try.func36, Try.ntmps36
  go_wp2_with fail
  go_loopw [0, 5, 6] (fun o r m wr => ∃ k j : Nat, k + j = 8 ∧ Own base wr o (l ++ le k x) ∧ r = .int .u64 (sh x k : Int) ∧ m = .int .u64 ((mk j : Nat) : Int) ∧ Below base w wr ∧ base ≤ wr.heap.size) (fun _ _ m _ => (intOf m).toNat)
  case atStart =>
    refine ⟨0, 8, rfl, by simpa [le] using HO.out, by rw [sh_zero], by rw [start64], Below.refl _ _, hbase⟩
  case round =>
    obtain ⟨k, j, hkj, ho, rfl, rfl, hb, hbs⟩ := hrel
    rcases j with _ | j
    · have e0 : (((mk 0 : Nat) : Int) != 0) = false := by decide
      obtain rfl : k = 8 := by omega
      go_wp2_with fail
      go_ret
      exact ⟨_, rfl, ho, hb⟩
    · have e0 : (((mk (j + 1) : Nat) : Int) != 0) = true := by
        have := mk_pos j
        rw [bne_iff_ne]; omega
      have HB : Hid (Below base w wr) := hb
      have HO' : Hid (Own base wr u0 (l ++ le k x)) := ho
      have hlen : (l ++ le k x).length + 1 ≤ 140737488355328 := by simp [le_length]; omega
      clear hb ho
      go_wp2_with (at_builtin; refine app_one (base := base) (UInt8.ofNat (sh x k)) HO'.out (low_byte _) hlen hbs rfl (.tmp 14) (.tmp 17) rfl rfl rfl ?_; intro v' w' ho hg hbs' hgr hat)
      go_roundw
      case rel => exact ⟨k + 1, j, by omega, by simpa [le_succ] using ho, by rw [sh_succ]; simp, by rw [← mk_succ j]; simp, HB.out.trans hg, hbs'⟩
      case measure =>
        have h1 := mk_lt j
        have h2 := mk_succ j
        simp only [intOf]
        omega

set_option maxHeartbeats 400000 in
theorem lay32_any {w : World} {base : Nat} {v : Value} {l : List UInt8} (h : Own base w v l) (x : Nat) (hx : x < 4294967296) (hm : l.length ≤ 1000000000000) (hbase : base ≤ w.heap.size) :
    Calls Try.prog 33 #[v, .int .u32 x] w fun e w' => ∃ v', e = .returned v' ∧ Own base w' v' (l ++ le 4 x) ∧ Below base w w' := by
  have HO : Hid (Own base w v l) := h
  clear h
  go_enter Try.func33, Try.ntmps33
  go_wp2_with fail
  go_loopw [0, 5, 6] (fun o r m wr => ∃ k j : Nat, k + j = 4 ∧ Own base wr o (l ++ le k x) ∧ r = .int .u64 (sh x k : Int) ∧ m = .int .u64 ((mk j : Nat) : Int) ∧ Below base w wr ∧ base ≤ wr.heap.size) (fun _ _ m _ => (intOf m).toNat)
  case atStart =>
    refine ⟨0, 4, rfl, by simpa [le] using HO.out, by rw [sh_zero], by rw [start32], Below.refl _ _, hbase⟩
  case round =>
    obtain ⟨k, j, hkj, ho, rfl, rfl, hb, hbs⟩ := hrel
    rcases j with _ | j
    · have e0 : (((mk 0 : Nat) : Int) != 0) = false := by decide
      obtain rfl : k = 4 := by omega
      go_wp2_with fail
      go_ret
      exact ⟨_, rfl, ho, hb⟩
    · have e0 : (((mk (j + 1) : Nat) : Int) != 0) = true := by
        have := mk_pos j
        rw [bne_iff_ne]; omega
      have HB : Hid (Below base w wr) := hb
      have HO' : Hid (Own base wr u0 (l ++ le k x)) := ho
      have hlen : (l ++ le k x).length + 1 ≤ 140737488355328 := by simp [le_length]; omega
      clear hb ho
      go_wp2_with (at_builtin; refine app_one (base := base) (UInt8.ofNat (sh x k)) HO'.out (low_byte _) hlen hbs rfl (.tmp 16) (.tmp 19) rfl rfl rfl ?_; intro v' w' ho hg hbs' hgr hat)
      go_roundw
      case rel => exact ⟨k + 1, j, by omega, by simpa [le_succ] using ho, by rw [sh_succ]; simp, by rw [← mk_succ j]; simp, HB.out.trans hg, hbs'⟩
      case measure =>
        have h1 := mk_lt j
        have h2 := mk_succ j
        simp only [intOf]
        omega

set_option maxHeartbeats 400000 in
theorem lay16_any {w : World} {base : Nat} {v : Value} {l : List UInt8} (h : Own base w v l) (x : Nat) (hx : x < 65536) (hm : l.length ≤ 1000000000000) (hbase : base ≤ w.heap.size) :
    Calls Try.prog 35 #[v, .int .u16 x] w fun e w' => ∃ v', e = .returned v' ∧ Own base w' v' (l ++ le 2 x) ∧ Below base w w' := by
  have HO : Hid (Own base w v l) := h
  clear h
  go_enter Try.func35, Try.ntmps35
  go_wp2_with fail
  go_loopw [0, 5, 6] (fun o r m wr => ∃ k j : Nat, k + j = 2 ∧ Own base wr o (l ++ le k x) ∧ r = .int .u64 (sh x k : Int) ∧ m = .int .u64 ((mk j : Nat) : Int) ∧ Below base w wr ∧ base ≤ wr.heap.size) (fun _ _ m _ => (intOf m).toNat)
  case atStart =>
    refine ⟨0, 2, rfl, by simpa [le] using HO.out, by rw [sh_zero], by rw [start16], Below.refl _ _, hbase⟩
  case round =>
    obtain ⟨k, j, hkj, ho, rfl, rfl, hb, hbs⟩ := hrel
    rcases j with _ | j
    · have e0 : (((mk 0 : Nat) : Int) != 0) = false := by decide
      obtain rfl : k = 2 := by omega
      go_wp2_with fail
      go_ret
      exact ⟨_, rfl, ho, hb⟩
    · have e0 : (((mk (j + 1) : Nat) : Int) != 0) = true := by
        have := mk_pos j
        rw [bne_iff_ne]; omega
      have HB : Hid (Below base w wr) := hb
      have HO' : Hid (Own base wr u0 (l ++ le k x)) := ho
      have hlen : (l ++ le k x).length + 1 ≤ 140737488355328 := by simp [le_length]; omega
      clear hb ho
      go_wp2_with (at_builtin; refine app_one (base := base) (UInt8.ofNat (sh x k)) HO'.out (low_byte _) hlen hbs rfl (.tmp 16) (.tmp 19) rfl rfl rfl ?_; intro v' w' ho hg hbs' hgr hat)
      go_roundw
      case rel => exact ⟨k + 1, j, by omega, by simpa [le_succ] using ho, by rw [sh_succ]; simp, by rw [← mk_succ j]; simp, HB.out.trans hg, hbs'⟩
      case measure =>
        have h1 := mk_lt j
        have h2 := mk_succ j
        simp only [intOf]
        omega

set_option maxHeartbeats 400000 in
theorem lay8_any {w : World} {base : Nat} {v : Value} {l : List UInt8} (h : Own base w v l) (x : Nat) (hx : x < 256) (hm : l.length ≤ 1000000000000) (hbase : base ≤ w.heap.size) :
    Calls Try.prog 34 #[v, .int .u8 x] w fun e w' => ∃ v', e = .returned v' ∧ Own base w' v' (l ++ le 1 x) ∧ Below base w w' := by
  have HO : Hid (Own base w v l) := h
  clear h
  go_enter Try.func34, Try.ntmps34
  go_wp2_with fail
  go_loopw [0, 5, 6] (fun o r m wr => ∃ k j : Nat, k + j = 1 ∧ Own base wr o (l ++ le k x) ∧ r = .int .u64 (sh x k : Int) ∧ m = .int .u64 ((mk j : Nat) : Int) ∧ Below base w wr ∧ base ≤ wr.heap.size) (fun _ _ m _ => (intOf m).toNat)
  case atStart =>
    refine ⟨0, 1, rfl, by simpa [le] using HO.out, by rw [sh_zero], by rw [start8], Below.refl _ _, hbase⟩
  case round =>
    obtain ⟨k, j, hkj, ho, rfl, rfl, hb, hbs⟩ := hrel
    rcases j with _ | j
    · have e0 : (((mk 0 : Nat) : Int) != 0) = false := by decide
      obtain rfl : k = 1 := by omega
      go_wp2_with fail
      go_ret
      exact ⟨_, rfl, ho, hb⟩
    · have e0 : (((mk (j + 1) : Nat) : Int) != 0) = true := by
        have := mk_pos j
        rw [bne_iff_ne]; omega
      have HB : Hid (Below base w wr) := hb
      have HO' : Hid (Own base wr u0 (l ++ le k x)) := ho
      have hlen : (l ++ le k x).length + 1 ≤ 140737488355328 := by simp [le_length]; omega
      clear hb ho
      go_wp2_with (at_builtin; refine app_one (base := base) (UInt8.ofNat (sh x k)) HO'.out (low_byte _) hlen hbs rfl (.tmp 16) (.tmp 19) rfl rfl rfl ?_; intro v' w' ho hg hbs' hgr hat)
      go_roundw
      case rel => exact ⟨k + 1, j, by omega, by simpa [le_succ] using ho, by rw [sh_succ]; simp, by rw [← mk_succ j]; simp, HB.out.trans hg, hbs'⟩
      case measure =>
        have h1 := mk_lt j
        have h2 := mk_succ j
        simp only [intOf]
        omega

set_option maxHeartbeats 400000 in
theorem rput_any {w : World} {v : Value} {l : List UInt8} (h : BS w v l) (x : Nat) (hx : x < 18446744073709551616) (W : Nat) (hW : W ≤ 8) (hm : l.length ≤ 1000000000000) :
    Calls Try.prog 18 #[v, .int .u64 x, .int .i64 W] w fun e w' => ∃ v', e = .returned v' ∧ Own w.heap.size w' v' (l ++ le W x) ∧ Below w.heap.size w w' := by
  have HO : Hid (BS w v l) := h
  clear h
  go_enter Try.func18, Try.ntmps18
  go_wp2_with (at_builtin; refine app_bytes (base := w.heap.size) (l := []) (k := l) (tx := 27) (Own.nil _ _) (HO.out.src und27) (by simp; omega) (by simp) rfl (.tmp 9) (.tmp 10) rfl rfl rfl ?_; intro v1 w1 ho1 hg1 hat1)
  have hB1 : Hid (Below w.heap.size w w1) := (Below.refl _ _).grown hg1 (Nat.le_refl _) (by intro k hk; simp [Value.ownBlock] at hk)
  have hz1 : w.heap.size ≤ w1.heap.size := hB1.out.size
  rw [List.nil_append] at ho1
  have ho1' : Hid (Own w.heap.size w1 v1 l) := ho1
  clear ho1 hg1 hat1
  go_loopw [1, 7, 8] (fun r o i wr => ∃ k : Nat, k ≤ W ∧ Own w.heap.size wr o (l ++ le k x) ∧ r = .int .u64 (sh x k : Int) ∧ i = .int .i64 k ∧ Below w.heap.size w wr ∧ w.heap.size ≤ wr.heap.size) (fun _ _ i _ => W - (intOf i).toNat)
  case atStart => exact ⟨0, Nat.zero_le _, by simpa [le] using ho1'.out, by rw [sh_zero], rfl, hB1.out, hz1⟩
  case round =>
    obtain ⟨k, hk, ho, rfl, rfl, hb, hbs⟩ := hrel
    by_cases hlt : k < W
    · have HB : Hid (Below w.heap.size w wr) := hb
      have HO' : Hid (Own w.heap.size wr u7 (l ++ le k x)) := ho
      have hlen : (l ++ le k x).length + 1 ≤ 140737488355328 := by simp [le_length]; omega
      clear hb ho
      go_wp2_with (at_builtin; refine app_one (base := w.heap.size) (UInt8.ofNat (sh x k)) HO'.out (low_byte _) hlen hbs rfl (.tmp 17) (.tmp 21) rfl rfl rfl ?_; intro v' w' ho hg hbs' hgr hat)
      go_roundw
      case rel => exact ⟨k + 1, by omega, by simpa [le_succ] using ho, by rw [wrap_u64_id _ (by omega) (by have := sh_le x k; omega), sh_succ]; simp, by go_num, HB.out.trans hg, hbs'⟩
      case measure => simp [intOf]; omega
    · obtain rfl : k = W := by omega
      go_wp2_with fail
      go_ret
      exact ⟨_, rfl, ho, hb⟩

end Go.Proofs.Ytefhdnhhcgbbjaa
