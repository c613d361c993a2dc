import Derived.Test.YtddaoloabfkheaaGreatDoorJOBase
namespace Go.Proofs.YtddaoloabfkheaaGreatDoor
open Go.RowKit

theorem conv_bs {w : World} {v : Value} {l : List UInt8} (h : BS w v l) : (convert 41 9 v).run Tryz.prog w = .ok (.string ⟨l.toArray⟩) w := by
  rcases h with ⟨⟨a, c, rfl⟩, rfl⟩ | ⟨b, off, cap, rfl, hc, hlt, hcell⟩
  · cases a with
    | none => exact run_convert_bytes_nil (P := Tryz.prog) w 41 5 und41 und5 0 c 9 und9
    | some a =>
      rw [run_convert_bytes_string w 41 9 5 (some a) 0 c und41 und5 und9, run_bytesToString w a 0 c [] (run_loadCells_list (P := Tryz.prog) w a [] (fun j v hj => by simp at hj))]
      rfl
  · have e : strOfNums (l.map fun b => (b.toNat : Int)) = ⟨l.toArray⟩ := by
      unfold strOfNums
      congr 1
      simp [Function.comp_def]
    rw [← e]
    refine run_convert_bytes_arg (P := Tryz.prog) w 41 5 und41 und5 b off l.length cap (l.map fun b => (b.toNat : Int)) (by simp) (fun i hi => ?_) 9 und9
    rw [hcell i (.int .u8 (l[i].toNat : Int)) (by simp [bc, hi])]
    simp [hi]

set_option maxRecDepth 100000 in
set_option maxHeartbeats 400000 in
theorem room_any {w : World} {v : Value} {l : List UInt8} (h : BS w v l) (m : Nat) (hm : l.length + m ≤ 140737488355328) :
    Calls Tryz.prog 66 #[v, .int .i64 m] w fun e w' => ∃ v' , e = .returned v' ∧ OwnB w.heap.size w' v' l ∧ (∃ g, v'.ownBlock = some g) ∧ Below w.heap.size w w' := by
  obtain ⟨i0, hi, hz0, hz1, hz2⟩ := info_parts info5
  have hmk : ∀ u : World, (Instr.makeSlice 41 (.int .i64 0) (.int .i64 ((l.length : Int) + (m : Int)))).run Tryz.prog u =
      .ok (.slice (some ⟨u.heap.size, 0, none⟩) 0 (l.length + m)) (u.alloc (.cells (madeCells #[.int .u8 0] (l.length + m)) 5)) := fun u => by
    have h := run_make (P := Tryz.prog) u 41 5 i0 (.int .u8 0) und41 hi hz0 .i64 .i64 0 ((l.length : Int) + (m : Int)) (by omega) (by omega) (by rw [hz2]; omega) (by omega)
    have e : ((l.length : Int) + (m : Int)).toNat = l.length + m := by omega
    rw [e] at h
    simpa [hz1, Value.cells] using h
  have hlen : ∃ a c, v = .slice a l.length c := by
    rcases h with ⟨⟨a, c, rfl⟩, rfl⟩ | ⟨b, off, cap, rfl, hc, hlt, hcell⟩
    · exact ⟨_, _, rfl⟩
    · exact ⟨_, _, rfl⟩
  obtain ⟨a, c, rfl⟩ := hlen
  clear hi hz0 hz1 hz2
  have own0 : ∀ cur : Array Value, cur.size = l.length + m → OwnB w.heap.size (w.alloc (.cells cur 5)) (.slice (some ⟨w.heap.size, 0, none⟩) 0 (l.length + m)) [] := fun cur hc =>
    World.ownsRow_made w cur (l.length + m) (Nat.le_refl _) (by simp only [maxLen]; omega) (by simpa using hc)
  have HB : Hid (BS w (.slice a l.length c) l) := h
  clear h
  go_enter Tryz.func66, Tryz.ntmps66
  go_wp2_with (at_builtin; refine app_bytes (base := w.heap.size) (l := []) (k := l) (tx := 41) (own0 _ (by simp [size_madeCells])) ((HB.out.later ((Below.refl _ _).alloc (Nat.le_refl _) _)).src und41) (by simp; omega) (by simp) rfl (.tmp 9) (.tmp 10) rfl rfl rfl ?_; intro v' w' ho hg hat)
  go_ret
  refine ⟨v', rfl, by simpa using ho, ?_, ?_⟩
  · rcases hat with h | h <;> exact ⟨_, h⟩
  · exact ((Below.refl _ _).alloc (Nat.le_refl _) _).grown hg (by simp) (by intro k hk; simp [Value.ownBlock] at hk; omega)

theorem src_oneB (w : World) (n : Int) (b : UInt8) (h : n = (b.toNat : Int)) : Src Tryz.prog 1 41 (.slice (some ⟨w.heap.size, 0, none⟩) 1 1) 1 (bc [b]) (w.alloc (.cells #[.int .u8 n] 5)) := by
  subst h
  exact Src.ofSlice _ und41 ⟨w.heap.size, 0, none⟩ 1 1 (bc [b]) (by simp [bc]) (cell_one_new w _ 5) (bc_one _)

/-- append of one byte onto bytes of the call's own -/
theorem app_oneB {w : World} {base : Nat} {v : Value} {l : List UInt8} {n : Int} (b : UInt8) (hown : OwnB base w v l) (hn : n = (b.toNat : Int)) (hb : l.length + 1 ≤ 140737488355328) (hbase : base ≤ w.heap.size)
    {ops : Array Oper} {rest : List Oper} {o : Oper} {a : Act} {Q : Exit → Act → World → Prop} (hgd : o.guard = none) (s y : Operand) 
    (ho : o.op = .call { callee := .builtin .append, args := #[s, y], argTypes := #[41, 41] }) (hv : a.eval s = v) (hx : a.eval y = .slice (some ⟨w.heap.size, 0, none⟩) 1 1)
    (h : ∀ v' w', OwnB base w' v' (l ++ [b]) → Below base w w' → base ≤ w'.heap.size → w.grownBy w' v.ownBlock → (v'.ownBlock = v.ownBlock ∨ v'.ownBlock = some (w.heap.size + 1)) → wpList Tryz.prog ops Q rest (a.put o.dst v') w') :
    wpList Tryz.prog ops Q (o :: rest) a (w.alloc (.cells #[.int .u8 n] 5)) := by
  refine app_bytes (base := base) (l := l) (k := [b]) (tx := 41) (World.ownsRow.alloc hown _) (src_oneB w n b hn) (by simpa using hb) (by simp; omega) hgd s y ho hv hx ?_
  intro v' w' h1 h2 h3
  have hlt := World.ownsRow.lt hown
  have hB : Below base w w' := ((Below.refl _ _).alloc hbase _).grown h2 (by simp; omega) (fun k hk => (hlt k hk).1)
  refine h v' w' h1 hB (Nat.le_trans hbase hB.size) ((World.grownBy_alloc w _ _).trans h2) (by simpa using h3)

def sh (x k : Nat) : Nat := x / 256 ^ k
theorem sh_zero (x : Nat) : sh x 0 = x := by simp [sh]
theorem sh_succ (x k : Nat) : sh x (k + 1) = sh x k / 256 := by simp [sh, Nat.pow_succ, Nat.div_div_eq_div_mul]
theorem le_succ (k x : Nat) : le (k + 1) x = le k x ++ [UInt8.ofNat (sh x k)] := rfl
/-- a mask of j bytes -/
def mk (j : Nat) : Nat := 256 ^ j - 1
theorem mk_pos (j : Nat) : 0 < mk (j + 1) := by
  have : 0 < 256 ^ j := Nat.pow_pos (by omega)
  simp only [mk, Nat.pow_succ]
  omega
theorem mk_succ (j : Nat) : mk (j + 1) / 256 = mk j := by
  have : 0 < 256 ^ j := Nat.pow_pos (by omega)
  simp only [mk, Nat.pow_succ]
  omega
theorem mk_lt (j : Nat) : mk j < mk (j + 1) := by
  have : 0 < 256 ^ j := Nat.pow_pos (by omega)
  simp only [mk, Nat.pow_succ]
  omega
theorem low_byte (n : Nat) : ((n : Int) % 256) = ((UInt8.ofNat n).toNat : Int) := by
  simp

theorem start32 : IntKind.u64.wrap (bits BinOp.xor IntKind.u32 IntKind.u32.max 0) = ((mk 4 : Nat) : Int) := by decide
theorem sh_le (x k : Nat) : sh x k ≤ x := Nat.div_le_self _ _
theorem wrap_u64_id (n : Int) (h0 : 0 ≤ n) (h1 : n < 18446744073709551616) : IntKind.u64.wrap n = n := by
  have := IntKind.wrap_u64 n
  rw [this]
  omega
theorem start64 : bits BinOp.xor IntKind.u64 IntKind.u64.max 0 = ((mk 8 : Nat) : Int) := by decide

set_option maxRecDepth 100000 in
set_option maxHeartbeats 400000 in
theorem lay64_any {w : World} {base : Nat} {v : Value} {l : List UInt8} (h : OwnB base w v l) (x : Nat) (hm : l.length ≤ 1000000000000) (hbase : base ≤ w.heap.size) :
    Calls Tryz.prog 113 #[v, .int .u64 x] w fun e w' => ∃ v', e = .returned v' ∧ OwnB base w' v' (l ++ le 8 x) ∧ Below base w w' := by
  have HO : Hid (OwnB base w v l) := h
  clear h
  go_enter Tryz.func113, Tryz.ntmps113
  go_wp2_with fail
  go_loopw [0, 5, 6] (fun o r m wr => ∃ k j : Nat, k + j = 8 ∧ OwnB base wr o (l ++ le k x) ∧ r = .int .u64 (sh x k : Int) ∧ m = .int .u64 ((mk j : Nat) : Int) ∧ Below base w wr ∧ base ≤ wr.heap.size) (fun _ _ m _ => (intOf m).toNat)
  case atStart =>
    refine ⟨0, 8, rfl, by simpa [le] using HO.out, by rw [sh_zero], by rw [start64], Below.refl _ _, hbase⟩
  case round =>
    obtain ⟨k, j, hkj, ho, rfl, rfl, hb, hbs⟩ := hrel
    rcases j with _ | j
    · have e0 : (((mk 0 : Nat) : Int) != 0) = false := by decide
      obtain rfl : k = 8 := by omega
      go_wp2_with fail
      go_ret
      exact ⟨_, rfl, ho, hb⟩
    · have e0 : (((mk (j + 1) : Nat) : Int) != 0) = true := by
        have := mk_pos j
        rw [bne_iff_ne]; omega
      have HB : Hid (Below base w wr) := hb
      have HO' : Hid (OwnB base wr u0 (l ++ le k x)) := ho
      have hlen : (l ++ le k x).length + 1 ≤ 140737488355328 := by simp [le_length]; omega
      clear hb ho
      go_wp2_with (at_builtin; refine app_oneB (base := base) (UInt8.ofNat (sh x k)) HO'.out (low_byte _) hlen hbs rfl (.tmp 14) (.tmp 17) rfl rfl rfl ?_; intro v' w' ho hg hbs' hgr hat)
      go_roundw
      case rel => exact ⟨k + 1, j, by omega, by simpa [le_succ] using ho, by rw [sh_succ]; simp, by rw [← mk_succ j]; simp, HB.out.trans hg, hbs'⟩
      case measure =>
        have h1 := mk_lt j
        have h2 := mk_succ j
        simp only [intOf]
        omega

set_option maxRecDepth 100000 in
set_option maxHeartbeats 400000 in
theorem lay32_any {w : World} {base : Nat} {v : Value} {l : List UInt8} (h : OwnB base w v l) (x : Nat) (hx : x < 4294967296) (hm : l.length ≤ 1000000000000) (hbase : base ≤ w.heap.size) :
    Calls Tryz.prog 96 #[v, .int .u32 x] w fun e w' => ∃ v', e = .returned v' ∧ OwnB base w' v' (l ++ le 4 x) ∧ Below base w w' := by
  have HO : Hid (OwnB base w v l) := h
  clear h
  go_enter Tryz.func96, Tryz.ntmps96
  go_wp2_with fail
  go_loopw [0, 5, 6] (fun o r m wr => ∃ k j : Nat, k + j = 4 ∧ OwnB base wr o (l ++ le k x) ∧ r = .int .u64 (sh x k : Int) ∧ m = .int .u64 ((mk j : Nat) : Int) ∧ Below base w wr ∧ base ≤ wr.heap.size) (fun _ _ m _ => (intOf m).toNat)
  case atStart =>
    refine ⟨0, 4, rfl, by simpa [le] using HO.out, by rw [sh_zero], by rw [start32], Below.refl _ _, hbase⟩
  case round =>
    obtain ⟨k, j, hkj, ho, rfl, rfl, hb, hbs⟩ := hrel
    rcases j with _ | j
    · have e0 : (((mk 0 : Nat) : Int) != 0) = false := by decide
      obtain rfl : k = 4 := by omega
      go_wp2_with fail
      go_ret
      exact ⟨_, rfl, ho, hb⟩
    · have e0 : (((mk (j + 1) : Nat) : Int) != 0) = true := by
        have := mk_pos j
        rw [bne_iff_ne]; omega
      have HB : Hid (Below base w wr) := hb
      have HO' : Hid (OwnB base wr u0 (l ++ le k x)) := ho
      have hlen : (l ++ le k x).length + 1 ≤ 140737488355328 := by simp [le_length]; omega
      clear hb ho
      go_wp2_with (at_builtin; refine app_oneB (base := base) (UInt8.ofNat (sh x k)) HO'.out (low_byte _) hlen hbs rfl (.tmp 16) (.tmp 19) rfl rfl rfl ?_; intro v' w' ho hg hbs' hgr hat)
      go_roundw
      case rel => exact ⟨k + 1, j, by omega, by simpa [le_succ] using ho, by rw [sh_succ]; simp, by rw [← mk_succ j]; simp, HB.out.trans hg, hbs'⟩
      case measure =>
        have h1 := mk_lt j
        have h2 := mk_succ j
        simp only [intOf]
        omega

set_option maxRecDepth 100000 in
set_option maxHeartbeats 400000 in
theorem rput_any {w : World} {v : Value} {l : List UInt8} (h : BS w v l) (x : Nat) (hx : x < 18446744073709551616) (W : Nat) (hW : W ≤ 8) (hm : l.length ≤ 1000000000000) :
    Calls Tryz.prog 86 #[v, .int .u64 x, .int .i64 W] w fun e w' => ∃ v', e = .returned v' ∧ OwnB w.heap.size w' v' (l ++ le W x) ∧ Below w.heap.size w w' := by
  have HO : Hid (BS w v l) := h
  clear h
  go_enter Tryz.func86, Tryz.ntmps86
  go_wp2_with (at_builtin; refine app_bytes (base := w.heap.size) (l := []) (k := l) (tx := 41) (OwnB.nil _ _) (HO.out.src und41) (by simp; omega) (by simp) rfl (.tmp 9) (.tmp 10) rfl rfl rfl ?_; intro v1 w1 ho1 hg1 hat1)
  have hB1 : Hid (Below w.heap.size w w1) := (Below.refl _ _).grown hg1 (Nat.le_refl _) (by intro k hk; simp [Value.ownBlock] at hk)
  have hz1 : w.heap.size ≤ w1.heap.size := hB1.out.size
  rw [List.nil_append] at ho1
  have ho1' : Hid (OwnB w.heap.size w1 v1 l) := ho1
  clear ho1 hg1 hat1
  go_loopw [1, 7, 8] (fun r o i wr => ∃ k : Nat, k ≤ W ∧ OwnB w.heap.size wr o (l ++ le k x) ∧ r = .int .u64 (sh x k : Int) ∧ i = .int .i64 k ∧ Below w.heap.size w wr ∧ w.heap.size ≤ wr.heap.size) (fun _ _ i _ => W - (intOf i).toNat)
  case atStart => exact ⟨0, Nat.zero_le _, by simpa [le] using ho1'.out, by rw [sh_zero], rfl, hB1.out, hz1⟩
  case round =>
    obtain ⟨k, hk, ho, rfl, rfl, hb, hbs⟩ := hrel
    by_cases hlt : k < W
    · have HB : Hid (Below w.heap.size w wr) := hb
      have HO' : Hid (OwnB w.heap.size wr u7 (l ++ le k x)) := ho
      have hlen : (l ++ le k x).length + 1 ≤ 140737488355328 := by simp [le_length]; omega
      clear hb ho
      go_wp2_with (at_builtin; refine app_oneB (base := w.heap.size) (UInt8.ofNat (sh x k)) HO'.out (low_byte _) hlen hbs rfl (.tmp 17) (.tmp 21) rfl rfl rfl ?_; intro v' w' ho hg hbs' hgr hat)
      go_roundw
      case rel => exact ⟨k + 1, by omega, by simpa [le_succ] using ho, by rw [wrap_u64_id _ (by omega) (by have := sh_le x k; omega), sh_succ]; simp, by go_num, HB.out.trans hg, hbs'⟩
      case measure => simp [intOf]; omega
    · obtain rfl : k = W := by omega
      go_wp2_with fail
      go_ret
      exact ⟨_, rfl, ho, hb⟩

end Go.Proofs.YtddaoloabfkheaaGreatDoor

namespace Go.Proofs.YtddaoloabfkheaaGreatDoor
open Go.RowKit

theorem room_at {w : World} {v : Value} {l : List UInt8} (h : BS w v l) (n : Int) (m : Nat) (hn : n = (m : Int)) (hm : l.length + m ≤ 140737488355328) :
    Calls Tryz.prog 66 #[v, .int .i64 n] w fun e w' => ∃ v' , e = .returned v' ∧ OwnB w.heap.size w' v' l ∧ (∃ g, v'.ownBlock = some g) ∧ Below w.heap.size w w' := by
  subst hn
  exact room_any h m hm

set_option maxRecDepth 100000 in
set_option maxHeartbeats 400000 in
theorem put64_any {w : World} {v : Value} {l : List UInt8} (h : BS w v l) (n : Int) (x : Nat) (hn : n = (x : Int)) (hm : l.length ≤ 500000000000) :
    Calls Tryz.prog 97 #[v, .int .u64 n] w fun e w' => ∃ v', e = .returned v' ∧ OwnB w.heap.size w' v' (l ++ le 8 x) ∧ Below w.heap.size w w' := by
  subst hn
  have HO : Hid (BS w v l) := h
  clear h
  go_enter Tryz.func97, Tryz.ntmps97
  go_wp2_with fail
  refine (room_at HO.out _ 8 rfl (by omega)).mono ?_
  rintro e w1 ⟨v1, rfl, ho1, _, hb1⟩
  have hz := hb1.size
  have H1 : Hid (OwnB w.heap.size w1 v1 l) := ho1
  have B1 : Hid (Below w.heap.size w w1) := hb1
  clear ho1 hb1
  go_wp2_with fail
  refine (lay64_any H1.out x (by omega) hz).mono ?_
  rintro e w2 ⟨v2, rfl, ho2, hb2⟩
  go_wp2_with fail
  go_ret
  exact ⟨_, rfl, ho2, B1.out.trans hb2⟩

set_option maxRecDepth 100000 in
set_option maxHeartbeats 400000 in
theorem put32_any {w : World} {v : Value} {l : List UInt8} (h : BS w v l) (n : Int) (x : Nat) (hn : n = (x : Int)) (hx : x < 4294967296) (hm : l.length ≤ 500000000000) :
    Calls Tryz.prog 68 #[v, .int .u32 n] w fun e w' => ∃ v', e = .returned v' ∧ OwnB w.heap.size w' v' (l ++ le 4 x) ∧ Below w.heap.size w w' := by
  subst hn
  have HO : Hid (BS w v l) := h
  clear h
  go_enter Tryz.func68, Tryz.ntmps68
  go_wp2_with fail
  refine (room_at HO.out _ 8 rfl (by omega)).mono ?_
  rintro e w1 ⟨v1, rfl, ho1, _, hb1⟩
  have hz := hb1.size
  have H1 : Hid (OwnB w.heap.size w1 v1 l) := ho1
  have B1 : Hid (Below w.heap.size w w1) := hb1
  clear ho1 hb1
  go_wp2_with fail
  refine (lay32_any H1.out x hx (by omega) hz).mono ?_
  rintro e w2 ⟨v2, rfl, ho2, hb2⟩
  go_wp2_with fail
  go_ret
  exact ⟨_, rfl, ho2, B1.out.trans hb2⟩

theorem src_str (w : World) (s : ByteArray) : Src Tryz.prog 1 9 (.string s) s.data.toList.length (bc s.data.toList) w := by
  have e : s.data.toList.length = s.size := by rw [Array.length_toList]; rfl
  rw [e]
  exact Src.ofString w und9 s
theorem size_toList (s : ByteArray) : s.data.toList.length = s.size := by rw [Array.length_toList]; rfl

set_option maxRecDepth 100000 in
set_option maxHeartbeats 400000 in
theorem text_any {w : World} {v : Value} {l : List UInt8} (h : BS w v l) (s : ByteArray) (hs : s.size ≤ 1000000000) (hm : l.length ≤ 500000000000) :
    Calls Tryz.prog 67 #[v, .string s] w fun e w' => ∃ v', e = .returned v' ∧ OwnB w.heap.size w' v' (l ++ le 4 s.size ++ s.data.toList) ∧ Below w.heap.size w w' := by
  have HO : Hid (BS w v l) := h
  clear h
  go_enter Tryz.func67, Tryz.ntmps67
  go_wp2_with fail
  refine (room_at HO.out _ (4 + s.size) (by omega) (by omega)).mono ?_
  rintro e w1 ⟨v1, rfl, ho1, _, hb1⟩
  have hz := hb1.size
  have H1 : Hid (OwnB w.heap.size w1 v1 l) := ho1
  have B1 : Hid (Below w.heap.size w w1) := hb1
  clear ho1 hb1
  go_wp2_with fail
  refine (lay32_any H1.out s.size (by omega) (by omega) hz).mono ?_
  rintro e w2 ⟨v2, rfl, ho2, hb2⟩
  have hz2 := hb2.size
  have H2 : Hid (OwnB w.heap.size w2 v2 (l ++ le 4 s.size)) := ho2
  have B2 : Hid (Below w.heap.size w1 w2) := hb2
  clear ho2 hb2
  go_wp2_with (at_builtin; refine app_bytes (base := w.heap.size) (l := l ++ le 4 s.size) (k := s.data.toList) (tx := 9) H2.out (src_str w2 s) (by rw [List.length_append, le_length, size_toList]; omega) (by omega) rfl (.tmp 15) (.tmp 16) rfl rfl rfl ?_; intro v3 w3 ho3 hg3 hat3)
  go_ret
  exact ⟨_, rfl, ho3, (B1.out.trans B2.out).grown hg3 (by omega) (fun k hk => (World.ownsRow.lt H2.out k hk).1)⟩

set_option maxRecDepth 100000 in
set_option maxHeartbeats 400000 in
theorem rtext_any {w : World} {v : Value} {l : List UInt8} (h : BS w v l) (s : ByteArray) (hs : s.size ≤ 1000000000) (hm : l.length ≤ 500000000000) :
    Calls Tryz.prog 85 #[v, .string s] w fun e w' => ∃ v', e = .returned v' ∧ OwnB w.heap.size w' v' (l ++ le 4 s.size ++ s.data.toList) ∧ Below w.heap.size w w' := by
  have HO : Hid (BS w v l) := h
  clear h
  go_enter Tryz.func85, Tryz.ntmps85
  go_wp2_with fail
  refine (rput_any HO.out s.size (by omega) 4 (by omega) (by omega)).mono ?_
  rintro e w2 ⟨v2, rfl, ho2, hb2⟩
  have hz2 := hb2.size
  have H2 : Hid (OwnB w.heap.size w2 v2 (l ++ le 4 s.size)) := ho2
  have B2 : Hid (Below w.heap.size w w2) := hb2
  clear ho2 hb2
  go_wp2_with (at_builtin; refine app_bytes (base := w.heap.size) (l := l ++ le 4 s.size) (k := s.data.toList) (tx := 9) H2.out (src_str w2 s) (by rw [List.length_append, le_length, size_toList]; omega) (by omega) rfl (.tmp 11) (.tmp 12) rfl rfl rfl ?_; intro v3 w3 ho3 hg3 hat3)
  go_ret
  exact ⟨_, rfl, ho3, B2.out.grown hg3 (by omega) (fun k hk => (World.ownsRow.lt H2.out k hk).1)⟩

end Go.Proofs.YtddaoloabfkheaaGreatDoor

namespace Go.Proofs.YtddaoloabfkheaaGreatDoor
open Go.RowKit

theorem slice_inj {g o n c g' o' n' c' : Nat} (h : Value.slice (some ⟨g, o, none⟩) n c = .slice (some ⟨g', o', none⟩) n' c') : g' = g ∧ o' = o ∧ n' = n ∧ c' = c := by
  injection h with h1 h2 h3
  injection h1 with h1
  injection h1 with h1 h4
  exact ⟨h1.symm, h4.symm, h2.symm, h3.symm⟩

/-- A reader at block g whose bytes lie in block d; l is left. -/
def RDo (w : World) (g d : Nat) (l : List UInt8) : Prop :=
  ∃ off cap, w.cell? ⟨g, 0, none⟩ = some (.slice (some ⟨d, off, none⟩) l.length cap) ∧ w.frozen? ⟨g, 0, none⟩ = false ∧ l.length ≤ cap ∧ g < w.heap.size ∧ d < w.heap.size ∧ d ≠ g ∧ l.length ≤ 140737488355328 ∧
    ∀ i u, (bc l)[i]? = some u → w.cell? ⟨d, off + i, none⟩ = some u

theorem RDo.grown {w w' : World} {g d : Nat} {l : List UInt8} {row : Option Nat} (h : RDo w g d l) (hg : w.grownBy w' row) (h1 : some g ≠ row) (h2 : some d ≠ row) : RDo w' g d l := by
  obtain ⟨off, cap, hc, hf, hl, hgs, hds, hne, hb, hcell⟩ := h
  refine ⟨off, cap, ?_, ?_, hl, Nat.lt_of_lt_of_le hgs hg.size, Nat.lt_of_lt_of_le hds hg.size, hne, hb, fun i u hu => ?_⟩
  · rw [hg.cell_far ⟨g, 0, none⟩ hgs h1]; exact hc
  · rw [hg.frozen_far ⟨g, 0, none⟩ hgs h1]; exact hf
  · rw [hg.cell_far ⟨d, off + i, none⟩ hds h2]; exact hcell i u hu

theorem grown_of_below {w w' : World} (h : Below w.heap.size w w') : w.grownBy w' none := ⟨h.os, h.tape, h.output, h.size, fun k hk _ => h.block k hk⟩
theorem RDo.later {w w' : World} {g d : Nat} {l : List UInt8} (h : RDo w g d l) (hb : Below w.heap.size w w') : RDo w' g d l :=
  h.grown (grown_of_below hb) (by simp) (by simp)

set_option maxRecDepth 100000 in
set_option maxHeartbeats 400000 in
theorem left_any {w : World} {g d : Nat} {l : List UInt8} (h : RDo w g d l) :
    Calls Tryz.prog 73 #[.pointer (some ⟨g, 0, none⟩)] w fun e w' => e = .returned (.int .i64 l.length) ∧ w' = w := by
  obtain ⟨off, cap, hc, hf, hl, hgs, hds, hne, hb, hcell⟩ := h
  clear hcell hf hgs hds hne
  go_enter Tryz.func73, Tryz.ntmps73
  go_wp2_with fail
  go_ret
  exact ⟨rfl, rfl⟩

set_option maxRecDepth 100000 in
set_option maxHeartbeats 400000 in
theorem end_any {w : World} {g d : Nat} {l : List UInt8} (h : RDo w g d l) :
    Calls Tryz.prog 37 #[.pointer (some ⟨g, 0, none⟩)] w fun e w' => e = .returned (.int .i64 (if l = [] then 0 else 12)) ∧ w' = w := by
  have H : Hid (RDo w g d l) := h
  clear h
  go_enter Tryz.func37, Tryz.ntmps37
  go_wp2_with fail
  refine (left_any H.out).mono ?_
  rintro e w1 ⟨rfl, rfl⟩
  by_cases h0 : l = []
  · subst h0
    go_wp2_with fail
    go_ret
    exact ⟨rfl, rfl⟩
  · have e0 : ((l.length : Int) != 0) = true := by
      have := List.length_pos_iff.2 h0
      rw [bne_iff_ne]; omega
    go_wp2_with fail
    go_ret
    exact ⟨rfl, rfl⟩

theorem OwnB.form {base d : Nat} {w : World} {v : Value} {l : List UInt8} (h : OwnB base w v l) (hd : v.ownBlock = some d) :
    ∃ cap, v = .slice (some ⟨d, 0, none⟩) l.length cap ∧ l.length ≤ cap ∧ base ≤ d ∧ d < w.heap.size := by
  rcases h.2 with ⟨rfl, h0⟩ | ⟨g, cap, cur, rfl, hb, hg, hn, _⟩
  · simp [Value.ownBlock] at hd
  · simp [Value.ownBlock] at hd
    subst hd
    exact ⟨cap, rfl, hn, hb, (Array.getElem?_eq_some_iff.1 hg).1⟩

set_option maxRecDepth 100000 in
set_option maxHeartbeats 400000 in
theorem newreader_any {w : World} {v : Value} {l : List UInt8} (h : BS w v l) (hm : l.length ≤ 140737488355328) :
    Calls Tryz.prog 33 #[v] w fun e w' => ∃ g d, e = .returned (.pointer (some ⟨g, 0, none⟩)) ∧ RDo w' g d l ∧ w.heap.size ≤ g ∧ w.heap.size ≤ d ∧ Below w.heap.size w w' := by
  have H : Hid (BS w v l) := h
  clear h
  go_enter Tryz.func33, Tryz.ntmps33
  go_wp2_with fail
  refine (room_at H.out _ 0 rfl (by omega)).mono ?_
  rintro e w1 ⟨v1, rfl, ho1, ⟨d, hd⟩, hb1⟩
  obtain ⟨cap, rfl, hlc, hbd, hdw⟩ := ho1.form hd
  have HO : Hid (OwnB w.heap.size w1 (.slice (some ⟨d, 0, none⟩) l.length cap) l) := ho1
  have HB : Hid (Below w.heap.size w w1) := hb1
  have hz := hb1.size
  clear ho1 hb1 hd
  go_wp2_with fail
  go_ret
  refine ⟨w1.heap.size, d, rfl, ⟨0, cap, by simp, by simp, hlc, by simp, by simp; omega, by omega, hm, fun i u hu => ?_⟩, hz, hbd, HB.out.alloc hz _⟩
  have hc := World.ownsRow.cells HO.out (g := d) rfl i u hu
  rw [add_lit] at hc
  rw [Below.cell (B := w1.heap.size) ((Below.refl _ _).alloc (Nat.le_refl _) _) (p := ⟨d, 0 + i, none⟩) hdw]
  exact hc

theorem num_lt8 (l : List UInt8) (n : Nat) (h : l.length ≤ n) (hn : n ≤ 7) : num l < 72057594037927936 := by
  have h1 := num_lt l
  have h2 : 256 ^ l.length ≤ 256 ^ 7 := Nat.pow_le_pow_right (by omega) (by omega)
  omega
theorem or_byte (a : Nat) (b : UInt8) : a * 256 ||| b.toNat = b.toNat + 256 * a := by
  have h := Nat.shiftLeft_add_eq_or_of_lt (b := b.toNat) (i := 8) (by have := b.toNat_lt; omega) a
  rw [Nat.shiftLeft_eq, show (2 : Nat) ^ 8 = 256 from rfl] at h
  omega
theorem peek_step (a : Nat) (b : UInt8) (ha : a < 72057594037927936) : bits .or .u64 (IntKind.u64.wrap ((a : Int) * 256)) (IntKind.u64.wrap (b.toNat : Int)) = ((b.toNat + 256 * a : Nat) : Int) := by
  have hb := b.toNat_lt
  have e1 : IntKind.u64.wrap ((a : Int) * 256) = ((a * 256 : Nat) : Int) := by rw [wrap_u64_id _ (by omega) (by omega)]; omega
  rw [e1, wrap_u64_id _ (by omega) (by omega), bits_or_u64_nat _ _ (by omega) (by omega), or_byte]
theorem drop_num (l : List UInt8) (n k : Nat) (hk : k < n) (hn : n ≤ l.length) : num ((l.take n).drop k) = (l[k]'(by omega)).toNat + 256 * num ((l.take n).drop (k + 1)) := by
  rw [List.drop_eq_getElem_cons (by simp; omega)]
  simp [num]

set_option maxRecDepth 100000 in
set_option maxHeartbeats 400000 in
theorem peek_ok {w : World} {g d : Nat} {l : List UInt8} (h : RDo w g d l) (n : Nat) (hn : n ≤ 8) (hl : n ≤ l.length) :
    Calls Tryz.prog 70 #[.pointer (some ⟨g, 0, none⟩), .int .i64 n] w fun e w' => e = .returned (.tuple #[.int .u64 (num (l.take n) : Nat), .int .i64 0]) ∧ w' = w := by
  obtain ⟨off, cap, hc, hf, hlc, hgs, hds, hne, hb, hcell⟩ := h
  have HC : Hid (∀ i u, (bc l)[i]? = some u → w.cell? ⟨d, off + i, none⟩ = some u) := hcell
  clear hcell hf hgs hds hne
  go_enter Tryz.func70, Tryz.ntmps70
  go_wp2_with fail
  go_loop [6, 7] (fun v i => ∃ k : Nat, k ≤ n ∧ i = .int .i64 ((k : Int) - 1) ∧ v = .int .u64 (num ((l.take n).drop k) : Nat)) (fun _ i => (intOf i + 1).toNat)
  case atStart => exact ⟨n, Nat.le_refl _, rfl, by simp [num]⟩
  case round =>
    obtain ⟨k, hk, rfl, rfl⟩ := hrel
    rcases k with _ | k
    · go_wp2_with fail
      go_ret2
      exact ⟨rfl, rfl⟩
    · have hkl : k < l.length := by omega
      have hcell := HC.out k (.int .u8 (l[k].toNat : Nat)) (by simp [bc_get, hkl])
      have HN : Hid (num ((l.take n).drop k) = l[k].toNat + 256 * num ((l.take n).drop (k + 1))) := drop_num l n k (by omega) hl
      go_wp2_with fail
      go_round
      case rel => exact ⟨k, by omega, by go_num, by rw [peek_step _ _ (num_lt8 _ 7 (by simp; omega) (by omega)), HN.out]⟩
      case measure => simp only [intOf]; omega

set_option maxRecDepth 100000 in
set_option maxHeartbeats 400000 in
theorem peek_short {w : World} {g d : Nat} {l : List UInt8} (h : RDo w g d l) (n : Nat) (hl : l.length < n) :
    Calls Tryz.prog 70 #[.pointer (some ⟨g, 0, none⟩), .int .i64 n] w fun e w' => e = .returned (.tuple #[.int .u64 0, .int .i64 11]) ∧ w' = w := by
  obtain ⟨off, cap, hc, hf, hlc, hgs, hds, hne, hb, hcell⟩ := h
  clear hcell hf hgs hds hne
  go_enter Tryz.func70, Tryz.ntmps70
  go_wp2_with fail
  go_ret2
  exact ⟨rfl, rfl⟩

/-- the reader's cell is turned: so many bytes are taken -/
theorem RDo.take {w : World} {g d : Nat} {l : List UInt8} {off cap : Nat} (h : RDo w g d l) (hc : w.cell? ⟨g, 0, none⟩ = some (.slice (some ⟨d, off, none⟩) l.length cap)) (n : Nat) (hn : n ≤ l.length) (off' : Nat) (hoff : n < l.length → off' = off + n) :
    RDo (w.setCell ⟨g, 0, none⟩ (.slice (some ⟨d, off', none⟩) (l.length - n) (cap - n))) g d (l.drop n) ∧ w.grownBy (w.setCell ⟨g, 0, none⟩ (.slice (some ⟨d, off', none⟩) (l.length - n) (cap - n))) (some g) := by
  obtain ⟨off0, cap0, hc0, hf, hlc, hgs, hds, hne, hb, hcell⟩ := h
  rw [hc] at hc0
  obtain ⟨_, rfl, _, rfl⟩ := slice_inj (Option.some.inj hc0)
  have hg : w.grownBy (w.setCell ⟨g, 0, none⟩ (.slice (some ⟨d, off', none⟩) (l.length - n) (cap0 - n))) (some g) :=
    ⟨rfl, rfl, rfl, by simp [World.setCell], fun k hk hne => Below.heap_setCell _ _ _ _ (fun e => hne (by simp [e]))⟩
  refine ⟨⟨off', cap0 - n, ?_, ?_, by simp; omega, Nat.lt_of_lt_of_le hgs hg.size, Nat.lt_of_lt_of_le hds hg.size, hne, by simp; omega, fun i u hu => ?_⟩, hg⟩
  · rw [World.cell?_setCell_same _ _ _ hc]; simp
  · simp [hf]
  · rw [hg.cell_far ⟨d, _, none⟩ hds (by simp [hne])]
    rw [bc_get, List.getElem?_drop] at hu
    have hlt : n + i < l.length := by
      rcases Nat.lt_or_ge (n + i) l.length with h | h
      · exact h
      · rw [List.getElem?_eq_none h] at hu; cases hu
    rw [hoff (by omega), Nat.add_assoc]
    exact hcell (n + i) u (by rw [bc_get]; exact hu)

theorem elem27 : Tryz.prog.elem 41 = 5 := by kernel_rfl
theorem slice_from (d off len cap n : Nat) (h1 : n ≤ len) (h2 : len ≤ cap) :
    ∃ so, (n < len → so = off + n) ∧ ∀ (z : Int), z = (n : Int) → ∀ u : World, (Instr.slice 41 (.slice (some ⟨d, off, none⟩) len cap) (some (.int .i64 z)) none none).run Tryz.prog u = .ok (.slice (some ⟨d, so, none⟩) (len - n) (cap - n)) u := by
  obtain ⟨i0, hi, hz0, hz1, hz2⟩ := info_parts info5
  refine ⟨if cap = n then off else off + n, fun h => by rw [if_neg (by omega)], fun z hz u => ?_⟩
  subst hz
  rw [run_slice_l (P := Tryz.prog) u 41 (some ⟨d, off, none⟩) len cap (by rw [elem27]; exact und41) .i64 n (by omega) (by omega)]
  have hsz : (sizeOf 5).run Tryz.prog u = .ok 1 u := by simp [sizeOf, typeInfo, hi, hz1]
  rw [elem27, hsz]
  simp only [Result.andThen_ok, sliced, Int.toNat_natCast, Nat.mul_one, Option.map_some, add_lit]
  by_cases e : cap = n <;> simp [e]

theorem peek_at {w : World} {g d : Nat} {l : List UInt8} (h : RDo w g d l) (z : Int) (n : Nat) (hz : z = (n : Int)) (hn : n ≤ 8) (hl : n ≤ l.length) :
    Calls Tryz.prog 70 #[.pointer (some ⟨g, 0, none⟩), .int .i64 z] w fun e w' => e = .returned (.tuple #[.int .u64 (num (l.take n) : Nat), .int .i64 0]) ∧ w' = w := by
  subst hz
  exact peek_ok h n hn hl
theorem peek_no {w : World} {g d : Nat} {l : List UInt8} (h : RDo w g d l) (z : Int) (n : Nat) (hz : z = (n : Int)) (hl : l.length < n) :
    Calls Tryz.prog 70 #[.pointer (some ⟨g, 0, none⟩), .int .i64 z] w fun e w' => e = .returned (.tuple #[.int .u64 0, .int .i64 11]) ∧ w' = w := by
  subst hz
  exact peek_short h n hl

set_option maxRecDepth 100000 in
set_option maxHeartbeats 400000 in
theorem number1 {w : World} {g d : Nat} {l : List UInt8} (h : RDo w g d l) (hl : 1 ≤ l.length) :
    Calls Tryz.prog 35 #[.pointer (some ⟨g, 0, none⟩), .int .i64 1] w fun e w' => e = .returned (.tuple #[.int .u64 (num (l.take 1) : Nat), .int .i64 0]) ∧ RDo w' g d (l.drop 1) ∧ w.grownBy w' (some g) := by
  have H : Hid (RDo w g d l) := h
  obtain ⟨off, cap, hc, hf, hlc, hgs, hds, hne, hb, hcell⟩ := h
  clear hcell hgs hds hne
  obtain ⟨so, hso, hsl⟩ := slice_from d off l.length cap 1 hl hlc
  have HSO : Hid (1 < l.length → so = off + 1) := hso
  have hsl' := hsl 1 rfl
  clear hso hsl
  go_enter Tryz.func35, Tryz.ntmps35
  go_wp2_with fail
  refine (peek_at H.out _ 1 rfl (by omega) hl).mono ?_
  rintro e w1 ⟨rfl, rfl⟩
  go_wp2_with fail
  go_ret2
  exact ⟨rfl, H.out.take hc 1 hl so HSO.out⟩

set_option maxRecDepth 100000 in
set_option maxHeartbeats 400000 in
theorem numberNo1 {w : World} {g d : Nat} {l : List UInt8} (h : RDo w g d l) (hl : l.length < 1) :
    Calls Tryz.prog 35 #[.pointer (some ⟨g, 0, none⟩), .int .i64 1] w fun e w' => e = .returned (.tuple #[.int .u64 0, .int .i64 11]) ∧ w' = w := by
  have H : Hid (RDo w g d l) := h
  clear h
  go_enter Tryz.func35, Tryz.ntmps35
  go_wp2_with fail
  refine (peek_no H.out _ 1 rfl hl).mono ?_
  rintro e w1 ⟨rfl, rfl⟩
  go_wp2_with fail
  go_ret2
  exact ⟨rfl, rfl⟩

set_option maxRecDepth 100000 in
set_option maxHeartbeats 400000 in
theorem number4 {w : World} {g d : Nat} {l : List UInt8} (h : RDo w g d l) (hl : 4 ≤ l.length) :
    Calls Tryz.prog 35 #[.pointer (some ⟨g, 0, none⟩), .int .i64 4] w fun e w' => e = .returned (.tuple #[.int .u64 (num (l.take 4) : Nat), .int .i64 0]) ∧ RDo w' g d (l.drop 4) ∧ w.grownBy w' (some g) := by
  have H : Hid (RDo w g d l) := h
  obtain ⟨off, cap, hc, hf, hlc, hgs, hds, hne, hb, hcell⟩ := h
  clear hcell hgs hds hne
  obtain ⟨so, hso, hsl⟩ := slice_from d off l.length cap 4 hl hlc
  have HSO : Hid (4 < l.length → so = off + 4) := hso
  have hsl' := hsl 4 rfl
  clear hso hsl
  go_enter Tryz.func35, Tryz.ntmps35
  go_wp2_with fail
  refine (peek_at H.out _ 4 rfl (by omega) hl).mono ?_
  rintro e w1 ⟨rfl, rfl⟩
  go_wp2_with fail
  go_ret2
  exact ⟨rfl, H.out.take hc 4 hl so HSO.out⟩

set_option maxRecDepth 100000 in
set_option maxHeartbeats 400000 in
theorem numberNo4 {w : World} {g d : Nat} {l : List UInt8} (h : RDo w g d l) (hl : l.length < 4) :
    Calls Tryz.prog 35 #[.pointer (some ⟨g, 0, none⟩), .int .i64 4] w fun e w' => e = .returned (.tuple #[.int .u64 0, .int .i64 11]) ∧ w' = w := by
  have H : Hid (RDo w g d l) := h
  clear h
  go_enter Tryz.func35, Tryz.ntmps35
  go_wp2_with fail
  refine (peek_no H.out _ 4 rfl hl).mono ?_
  rintro e w1 ⟨rfl, rfl⟩
  go_wp2_with fail
  go_ret2
  exact ⟨rfl, rfl⟩

theorem grownBy_refl (w : World) (row : Option Nat) : w.grownBy w row := ⟨rfl, rfl, rfl, Nat.le_refl _, fun _ _ _ => rfl⟩

end Go.Proofs.YtddaoloabfkheaaGreatDoor
