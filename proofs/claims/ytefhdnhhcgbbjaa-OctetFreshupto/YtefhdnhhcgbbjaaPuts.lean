import Derived.Test.YtefhdnhhcgbbjaaLeaf
namespace Go.Proofs.Ytefhdnhhcgbbjaa
open Go.RowKit

theorem room_at {w : World} {v : Value} {l : List UInt8} (h : BS w v l) (n : Int) (m : Nat) (hn : n = (m : Int)) (hm : l.length + m ≤ 140737488355328) :
    Calls Try.prog 29 #[v, .int .i64 n] w fun e w' => ∃ v' , e = .returned v' ∧ Own w.heap.size w' v' l ∧ (∃ g, v'.ownBlock = some g) ∧ Below w.heap.size w w' := by
  subst hn
  exact room_any h m hm

set_option maxHeartbeats 400000 in
theorem put64_any {w : World} {v : Value} {l : List UInt8} (h : BS w v l) (n : Int) (x : Nat) (hn : n = (x : Int)) (hm : l.length ≤ 1000000000) :
    Calls Try.prog 21 #[v, .int .u64 n] w fun e w' => ∃ v', e = .returned v' ∧ Own w.heap.size w' v' (l ++ le 8 x) ∧ Below w.heap.size w w' := by
  subst hn
  have HO : Hid (BS w v l) := h
  clear h
  go_enter Try.func21, Try.ntmps21
  go_wp2_with fail
  refine (room_at HO.out _ 8 rfl (by omega)).mono ?_
  rintro e w1 ⟨v1, rfl, ho1, _, hb1⟩
  have hz := hb1.size
  have H1 : Hid (Own w.heap.size w1 v1 l) := ho1
  have B1 : Hid (Below w.heap.size w w1) := hb1
  clear ho1 hb1
  go_wp2_with fail
  refine (lay64_any H1.out x (by omega) hz).mono ?_
  rintro e w2 ⟨v2, rfl, ho2, hb2⟩
  go_wp2_with fail
  go_ret
  exact ⟨_, rfl, ho2, B1.out.trans hb2⟩

set_option maxHeartbeats 400000 in
theorem put32_any {w : World} {v : Value} {l : List UInt8} (h : BS w v l) (n : Int) (x : Nat) (hn : n = (x : Int)) (hx : x < 4294967296) (hm : l.length ≤ 1000000000) :
    Calls Try.prog 20 #[v, .int .u32 n] w fun e w' => ∃ v', e = .returned v' ∧ Own w.heap.size w' v' (l ++ le 4 x) ∧ Below w.heap.size w w' := by
  subst hn
  have HO : Hid (BS w v l) := h
  clear h
  go_enter Try.func20, Try.ntmps20
  go_wp2_with fail
  refine (room_at HO.out _ 8 rfl (by omega)).mono ?_
  rintro e w1 ⟨v1, rfl, ho1, _, hb1⟩
  have hz := hb1.size
  have H1 : Hid (Own w.heap.size w1 v1 l) := ho1
  have B1 : Hid (Below w.heap.size w w1) := hb1
  clear ho1 hb1
  go_wp2_with fail
  refine (lay32_any H1.out x hx (by omega) hz).mono ?_
  rintro e w2 ⟨v2, rfl, ho2, hb2⟩
  go_wp2_with fail
  go_ret
  exact ⟨_, rfl, ho2, B1.out.trans hb2⟩

set_option maxHeartbeats 400000 in
theorem put16_any {w : World} {v : Value} {l : List UInt8} (h : BS w v l) (n : Int) (x : Nat) (hn : n = (x : Int)) (hx : x < 65536) (hm : l.length ≤ 1000000000) :
    Calls Try.prog 19 #[v, .int .u16 n] w fun e w' => ∃ v', e = .returned v' ∧ Own w.heap.size w' v' (l ++ le 2 x) ∧ Below w.heap.size w w' := by
  subst hn
  have HO : Hid (BS w v l) := h
  clear h
  go_enter Try.func19, Try.ntmps19
  go_wp2_with fail
  refine (room_at HO.out _ 8 rfl (by omega)).mono ?_
  rintro e w1 ⟨v1, rfl, ho1, _, hb1⟩
  have hz := hb1.size
  have H1 : Hid (Own w.heap.size w1 v1 l) := ho1
  have B1 : Hid (Below w.heap.size w w1) := hb1
  clear ho1 hb1
  go_wp2_with fail
  refine (lay16_any H1.out x hx (by omega) hz).mono ?_
  rintro e w2 ⟨v2, rfl, ho2, hb2⟩
  go_wp2_with fail
  go_ret
  exact ⟨_, rfl, ho2, B1.out.trans hb2⟩

set_option maxHeartbeats 400000 in
theorem put8_any {w : World} {v : Value} {l : List UInt8} (h : BS w v l) (n : Int) (x : Nat) (hn : n = (x : Int)) (hx : x < 256) (hm : l.length ≤ 1000000000) :
    Calls Try.prog 17 #[v, .int .u8 n] w fun e w' => ∃ v', e = .returned v' ∧ Own w.heap.size w' v' (l ++ le 1 x) ∧ Below w.heap.size w w' := by
  subst hn
  have HO : Hid (BS w v l) := h
  clear h
  go_enter Try.func17, Try.ntmps17
  go_wp2_with fail
  refine (room_at HO.out _ 8 rfl (by omega)).mono ?_
  rintro e w1 ⟨v1, rfl, ho1, _, hb1⟩
  have hz := hb1.size
  have H1 : Hid (Own w.heap.size w1 v1 l) := ho1
  have B1 : Hid (Below w.heap.size w w1) := hb1
  clear ho1 hb1
  go_wp2_with fail
  refine (lay8_any H1.out x hx (by omega) hz).mono ?_
  rintro e w2 ⟨v2, rfl, ho2, hb2⟩
  go_wp2_with fail
  go_ret
  exact ⟨_, rfl, ho2, B1.out.trans hb2⟩

theorem src_str (w : World) (s : ByteArray) : Src Try.prog 1 9 (.string s) s.data.toList.length (bc s.data.toList) w := by
  have e : s.data.toList.length = s.size := by rw [Array.length_toList]; rfl
  rw [e]
  exact Src.ofString w und9 s
theorem size_toList (s : ByteArray) : s.data.toList.length = s.size := by rw [Array.length_toList]; rfl

set_option maxHeartbeats 400000 in
theorem text_any {w : World} {v : Value} {l : List UInt8} (h : BS w v l) (s : ByteArray) (hs : s.size ≤ 1000000000) (hm : l.length ≤ 1000000000) :
    Calls Try.prog 15 #[v, .string s] w fun e w' => ∃ v', e = .returned v' ∧ Own w.heap.size w' v' (l ++ le 4 s.size ++ s.data.toList) ∧ Below w.heap.size w w' := by
  have HO : Hid (BS w v l) := h
  clear h
  go_enter Try.func15, Try.ntmps15
  go_wp2_with fail
  refine (room_at HO.out _ (4 + s.size) (by omega) (by omega)).mono ?_
  rintro e w1 ⟨v1, rfl, ho1, _, hb1⟩
  have hz := hb1.size
  have H1 : Hid (Own w.heap.size w1 v1 l) := ho1
  have B1 : Hid (Below w.heap.size w w1) := hb1
  clear ho1 hb1
  go_wp2_with fail
  refine (lay32_any H1.out s.size (by omega) (by omega) hz).mono ?_
  rintro e w2 ⟨v2, rfl, ho2, hb2⟩
  have hz2 := hb2.size
  have H2 : Hid (Own w.heap.size w2 v2 (l ++ le 4 s.size)) := ho2
  have B2 : Hid (Below w.heap.size w1 w2) := hb2
  clear ho2 hb2
  go_wp2_with (at_builtin; refine app_bytes (base := w.heap.size) (l := l ++ le 4 s.size) (k := s.data.toList) (tx := 9) H2.out (src_str w2 s) (by rw [List.length_append, le_length, size_toList]; omega) (by omega) rfl (.tmp 15) (.tmp 16) rfl rfl rfl ?_; intro v3 w3 ho3 hg3 hat3)
  go_ret
  exact ⟨_, rfl, ho3, (B1.out.trans B2.out).grown hg3 (by omega) (fun k hk => (World.ownsRow.lt H2.out k hk).1)⟩

set_option maxHeartbeats 400000 in
theorem rtext_any {w : World} {v : Value} {l : List UInt8} (h : BS w v l) (s : ByteArray) (hs : s.size ≤ 1000000000) (hm : l.length ≤ 1000000000) :
    Calls Try.prog 22 #[v, .string s] w fun e w' => ∃ v', e = .returned v' ∧ Own w.heap.size w' v' (l ++ le 4 s.size ++ s.data.toList) ∧ Below w.heap.size w w' := by
  have HO : Hid (BS w v l) := h
  clear h
  go_enter Try.func22, Try.ntmps22
  go_wp2_with fail
  refine (rput_any HO.out s.size (by omega) 4 (by omega) (by omega)).mono ?_
  rintro e w2 ⟨v2, rfl, ho2, hb2⟩
  have hz2 := hb2.size
  have H2 : Hid (Own w.heap.size w2 v2 (l ++ le 4 s.size)) := ho2
  have B2 : Hid (Below w.heap.size w w2) := hb2
  clear ho2 hb2
  go_wp2_with (at_builtin; refine app_bytes (base := w.heap.size) (l := l ++ le 4 s.size) (k := s.data.toList) (tx := 9) H2.out (src_str w2 s) (by rw [List.length_append, le_length, size_toList]; omega) (by omega) rfl (.tmp 11) (.tmp 12) rfl rfl rfl ?_; intro v3 w3 ho3 hg3 hat3)
  go_ret
  exact ⟨_, rfl, ho3, B2.out.grown hg3 (by omega) (fun k hk => (World.ownsRow.lt H2.out k hk).1)⟩

/-- the marks behind what is lent -/
def marks (n : Nat) : List UInt8 := (List.range n).map UInt8.ofNat
theorem marks_length (n : Nat) : (marks n).length = n := by simp [marks]
theorem marks_succ (n : Nat) : marks (n + 1) = marks n ++ [UInt8.ofNat n] := by simp [marks, List.range_succ]

/-- lent: bytes of the call's own, with 300 marks behind them -/
def Lent (base : Nat) (w : World) (v : Value) (l : List UInt8) : Prop :=
  ∃ g cap, v = .slice (some ⟨g, 0, none⟩) l.length cap ∧ Own base w (.slice (some ⟨g, 0, none⟩) (l.length + 300) cap) (l ++ marks 300)

set_option maxRecDepth 100000 in
set_option maxHeartbeats 400000 in
theorem lent_any {w : World} {v : Value} {l : List UInt8} (h : BS w v l) (hm : l.length ≤ 140737488351232) :
    Calls Try.prog 14 #[v] w fun e w' => ∃ v', e = .returned v' ∧ Lent w.heap.size w' v' l ∧ Below w.heap.size w w' := by
  have HO : Hid (BS w v l) := h
  have hlen : ∃ a c, v = .slice a l.length c := by
    rcases h with ⟨⟨a, c, rfl⟩, rfl⟩ | ⟨b, off, cap, rfl, hc, hlt, hcell⟩
    · exact ⟨_, _, rfl⟩
    · exact ⟨_, _, rfl⟩
  obtain ⟨a0, c0, rfl⟩ := hlen
  clear h
  go_enter Try.func14, Try.ntmps14
  go_wp2_with (at_builtin; refine app_bytes (base := w.heap.size) (l := []) (k := l) (tx := 27) (Own.nil _ _) (HO.out.src und27) (by simp; omega) (by simp) rfl (.tmp 5) (.tmp 6) rfl rfl rfl ?_; intro v1 w1 ho1 hg1 hat1)
  have hB1 : Hid (Below w.heap.size w w1) := (Below.refl _ _).grown hg1 (Nat.le_refl _) (by intro k hk; simp [Value.ownBlock] at hk)
  have hz1 : w.heap.size ≤ w1.heap.size := hB1.out.size
  rw [List.nil_append] at ho1
  have ho1' : Hid (Own w.heap.size w1 v1 l) := ho1
  clear ho1 hg1 hat1
  go_loopw [3, 4] (fun o i wr => ∃ k : Nat, k ≤ 300 ∧ Own w.heap.size wr o (l ++ marks k) ∧ i = .int .i64 k ∧ Below w.heap.size w wr ∧ w.heap.size ≤ wr.heap.size) (fun _ i _ => 300 - (intOf i).toNat)
  case atStart => exact ⟨0, Nat.zero_le _, by simpa [marks] using ho1'.out, rfl, hB1.out, hz1⟩
  case round =>
    obtain ⟨k, hk, ho, rfl, hb, hbs⟩ := hrel
    by_cases hlt : k < 300
    · have HB : Hid (Below w.heap.size w wr) := hb
      have HO' : Hid (Own w.heap.size wr u3 (l ++ marks k)) := ho
      have hlen : (l ++ marks k).length + 1 ≤ 140737488355328 := by simp [marks_length]; omega
      clear hb ho
      go_wp2_with (at_builtin; refine app_one (base := w.heap.size) (UInt8.ofNat k) HO'.out (low_byte _) hlen hbs rfl (.tmp 12) (.tmp 15) rfl rfl rfl ?_; intro v' w' ho hg hbs' hgr hat)
      go_roundw
      case rel => exact ⟨k + 1, by omega, by simpa [marks_succ] using ho, by go_num, HB.out.trans hg, hbs'⟩
      case measure => simp [intOf]; omega
    · obtain rfl : k = 300 := by omega
      obtain ⟨g, cap, rfl, hg0, hglt⟩ := World.ownsRow.form ho (by simp [marks_length])
      have hcap : l.length + 300 ≤ cap := by
        rcases ho.2 with ⟨h, _⟩ | ⟨g', cap', cur, hv, _, _, hn, _⟩
        · cases h
        · cases hv; simpa [marks_length] using hn
      have HO' : Hid (Own w.heap.size wr (.slice (some ⟨g, 0, none⟩) (l ++ marks 300).length cap) (l ++ marks 300)) := ho
      have HB : Hid (Below w.heap.size w wr) := hb
      clear hb ho
      go_wp2_with fail
      go_ret
      refine ⟨_, rfl, ⟨g, cap, by simp, ?_⟩, HB.out⟩
      have := HO'.out
      rw [List.length_append, marks_length] at this
      exact this

end Go.Proofs.Ytefhdnhhcgbbjaa
