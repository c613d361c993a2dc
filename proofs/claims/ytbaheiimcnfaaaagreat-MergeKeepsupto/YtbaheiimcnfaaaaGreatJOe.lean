/-
  Where neighbours meet.
  Lists of several kinds, each in memory of its own, marked and grown.
-/
import Derived.Test.YtbaheiimcnfaaaaGreatJPath
import Derived.Test.YtbaheiimcnfaaaaGreatJNorm
import Derived.Test.YtbaheiimcnfaaaaGreatJNb
import Derived.Test.YtbaheiimcnfaaaaGreatCv
import Derived.Test.YtbaheiimcnfaaaaGreatJOrd
import Derived.Laws.BytesArg
import Derived.Laws.Tables
import Derived.Laws.OwnMore
import Derived.Deep.OwnRows
import Derived.Deep.AppendSrc
import Derived.Deep.RegionLaw
namespace Go.Proofs.YtbaheiimcnfaaaaGreat
open Go.RowKit Go.Maps
attribute [local go_sem] Oper.semAt_some

set_option maxRecDepth 100000 in
set_option maxHeartbeats 1000000 in
theorem common_any (a b : List UInt8) (w : World) (ha : a.length ≤ 1000000000) (hb : b.length ≤ 1000000000) :
    Calls Tryz.prog 86 #[.string (bs a), .string (bs b)] w fun e w' => e = .returned (.string (bs (cmn a b))) ∧ Below w.heap.size w w' := by
  have HA : Hid (a.length ≤ 1000000000 ∧ b.length ≤ 1000000000) := ⟨ha, hb⟩
  have HM := hid_of (meet_any a b w (by omega) (by omega))
  clear ha hb
  have hz : (bs a).size = a.length := rfl
  have hle := cmn_le a b
  have HE : Hid ((bs a).extract 0 (cmn a b).length = bs (cmn a b)) := (extract_to a _).trans (congrArg bs (cmn_take a b).symm)
  go_enter Tryz.func86, Tryz.ntmps86
  go_wp2_with fail
  refine HM.out.mono ?_
  rintro e w1 ⟨rfl, hb1⟩
  have B1 := hid_of hb1.below
  clear hb1
  go_wp2_with fail
  go_ret
  exact ⟨by rw [← HE.out]; rfl, B1.out⟩
theorem step_app_S {ops : Array Oper} {o : Oper} {a : Act} {w : World} {K : Act → World → Prop} {Q : Exit → Act → World → Prop} {E : Prop} (hgd : o.guard = none) (s y : Operand)
    (ho : o.op = .call { callee := .builtin .append, args := #[s, y], argTypes := #[23, 23] }) (base : Nat) (l k : List (List UInt8)) (v x : Value) (hv : a.eval s = v) (hx : a.eval y = x)
    (hown : Own base w v l) (hs : Src Tryz.prog 1 23 x k.length (sc k) w) (hb : l.length + k.length ≤ 100000000) (hbase : base ≤ w.heap.size)
    (h : ∀ v' w', Own base w' v' (l ++ k) → w.grownBy w' v.ownBlock → (v'.ownBlock = v.ownBlock ∨ v'.ownBlock = some w.heap.size) → K (a.put o.dst v') w') :
    if Region.wanted o (yielded ops a.tmps) = true then Oper.wp Tryz.prog o a w K Q else E := by
  have hw : Region.wanted o (yielded ops a.tmps) = true := by simp [Region.wanted, hgd]
  rw [if_pos hw]
  obtain ⟨i0, hi, hz0, hz1, hz2⟩ := info_parts info9
  obtain ⟨v', w', hr, h2, h3, h4⟩ := run_append_src (P := Tryz.prog) w base 23 23 o.type 9 i0 _ 1 16 und70 hi hz0 hz1 hz2 rfl v l.length (sc l) hown x k.length (sc k) hs (by simp only [maxLen]; omega) (by omega) hbase
  unfold Oper.wp execOp
  simp only [ho, resolve, invoke, builtin, Sem.run_bind, Sem.run_pure, Result.andThen_ok, List.map_toArray, List.map_cons, List.map_nil, hv, hx, hr]
  exact h v' w' (by unfold Own; rw [sc_append, List.length_append]; exact h2) h3 h4
theorem src_new (w : World) (p : List UInt8) : Src Tryz.prog 1 23 (.slice (some ⟨w.heap.size, 0, none⟩) 1 1) [p].length (sc [p]) (w.alloc (.cells #[.string (bs p)] 9)) := src_one w p
/-- a row grown behind others: what lies below stays -/
theorem app_keep {base : Nat} {w w' : World} {v : Value} {l : List (List UInt8)} {o : Obj} (hown : Own base w v l) (hg : (w.alloc o).grownBy w' v.ownBlock) (hb : base ≤ w.heap.size) : Below base w w' := by
  have h1 : Below base w (w.alloc o) := (Below.refl _ _).alloc hb _
  exact h1.grown hg (by simp; omega) (fun k hk => (hown.lt hk).1)
theorem cds_take (k : List (List UInt8)) (i : Nat) (h : i + 1 < k.length) : (cds k).take (i + 1) = (cds k).take i ++ [cmn k[i] k[i + 1]] := by
  have hl := cds_len k
  have hi : i < (cds k).length := by omega
  rw [List.take_succ_eq_append_getElem hi]
  have := cds_get k i h
  rw [List.getElem?_eq_getElem hi] at this
  injection this with this
  rw [this]
theorem cds_sm {k : List (List UInt8)} (h : Sm k) : Sm (cds k) := by
  refine ⟨?_, fun x hx => ?_⟩
  · have := cds_len k
    have := h.len
    omega
  · obtain ⟨a, ha, b, _, rfl⟩ := cds_two hx
    have := cmn_le a b
    have := h.each a ha
    omega
set_option maxRecDepth 100000 in
set_option maxHeartbeats 4000000 in
theorem meetings_any {w : World} {v : Value} {k : List (List UInt8)} (h : SS w v k) (sm : Sm k) :
    Calls Tryz.prog 52 #[v] w fun e w' => ∃ v', e = .returned v' ∧ Own w.heap.size w' v' (norm (cds k)) ∧ Below w.heap.size w w' := by
  have HCM := hid_of (fun a c (W : World) (ha : a ∈ k) (hc : c ∈ k) => common_any a c W (sm.each a ha) (sm.each c hc))
  have H := hid_of (And.intro h (And.intro sm (cds_sm sm)))
  have hl := sm.len
  obtain ⟨ad, c, hv, ca⟩ := h.form
  have HA := hid_of ca
  obtain ⟨n, hn⟩ : ∃ n, k.length = n := ⟨_, rfl⟩
  rw [hn] at hv hl
  subst hv
  have HN := hid_of hn
  clear h sm hn ca
  obtain ⟨B, hB⟩ : ∃ B, w.heap.size = B := ⟨_, rfl⟩
  have HB0 := hid_of hB
  go_enter Tryz.func52, Tryz.ntmps52
  go_wp2_with fail
  go_loopw [3, 4] (fun s3 s4 wr => ∃ i : Nat, s4 = .int .i64 ((i : Int) + 1) ∧ i ≤ n ∧ Own B wr s3 ((cds k).take i) ∧ Below B w wr) (fun _ s4 _ => n - (intOf s4).toNat)
  case atStart => exact ⟨0, rfl, by omega, by simpa using Own.nil _ _, Below.refl _ _⟩
  case round =>
    obtain ⟨i, rfl, hi, ho, hb⟩ := hrel
    obtain ⟨ad3, c3, hv3, -⟩ := ho.bs.form
    obtain ⟨m, hm⟩ : ∃ m, ((cds k).take i).length = m := ⟨_, rfl⟩
    rw [hm] at hv3
    subst hv3
    have HR := hid_of (And.intro ho (And.intro hb hm))
    clear ho hb
    by_cases hlt : i + 1 < n
    · have i1 : (i : Int) + 1 < (n : Int) := by omega
      have i2 : (0 : Int) ≤ (i : Int) := by omega
      have i3 : (0 : Int) ≤ (i : Int) + 1 := by omega
      have i4 : (i : Int) < (n : Int) := by omega
      have i5 : IntKind.i64.wrap ((i : Int) + 1 - 1) = (i : Int) := by rw [IntKind.wrap_i64]; omega
      have i6 : IntKind.i64.wrap (i : Int) = (i : Int) := by rw [IntKind.wrap_i64]; omega
      have i7 : wrap64 ((i : Int) + 1 - 1) = (i : Int) := by unfold wrap64; omega
      have i8 : wrap64 (i : Int) = (i : Int) := by unfold wrap64; omega
      have hil : i + 1 < k.length := by rw [HN.out]; exact hlt
      obtain ⟨g, off, e4, hg, hc1⟩ := HA.out (i + 1) hil
      subst e4
      obtain ⟨g', off', e4', hg', hc0⟩ := HA.out i (by omega)
      cases e4'
      have HT := hid_of (cds_take k i hil)
      have HCI := hid_of (fun W => HCM.out _ _ W (List.getElem_mem (show i < k.length by omega)) (List.getElem_mem hil))
      have c0 : wr.cell? ⟨g, off + i, none⟩ = some (.string (bs k[i])) := (HR.out.2.1.cell (p := ⟨g, off + i, none⟩) (by show g < B; omega)).trans hc0
      have c1 : wr.cell? ⟨g, off + (i + 1), none⟩ = some (.string (bs k[i + 1])) := (HR.out.2.1.cell (p := ⟨g, off + (i + 1), none⟩) (by show g < B; omega)).trans hc1
      generalize k[i] = x at c0 HT HCI
      generalize k[i + 1] = y at c1 HT HCI
      obtain ⟨z, hz⟩ : ∃ z, cmn x y = z := ⟨_, rfl⟩
      rw [hz] at HT HCI
      have hwr : B ≤ wr.heap.size := by have := HR.out.2.1.size; omega
      have hgB : g < B := by omega
      have hmb : m ≤ 4000000 := by have := HR.out.2.2; rw [← this]; have := cds_len k; simp; omega
      clear hc0 hc1 hz hm
      go_wp2_with fail
      go_region_held3 (fun w' => w'.cell? ⟨g, off + i, none⟩ = some (.string (bs x)) ∧ w'.cell? ⟨g, off + (i + 1), none⟩ = some (.string (bs y))) (first | (with_reducible exact ⟨c0, c1⟩) | (with_reducible exact KA.out) | (with_reducible exact KB.out) | go_keep) (first | (go_at_call 86; refine (HCI.out _).mono ?_; rintro e w1 ⟨rfl, hb1⟩; have HB1 : Hid (Below wr.heap.size wr w1) := bstep (Below.refl _ _).drew hb1; have KA : Hid (w1.cell? ⟨g, off + i, none⟩ = some (.string (bs x)) ∧ w1.cell? ⟨g, off + (i + 1), none⟩ = some (.string (bs y))) := ⟨(HB1.out.cell (p := ⟨g, off + i, none⟩) (by show g < _; omega)).trans c0, (HB1.out.cell (p := ⟨g, off + (i + 1), none⟩) (by show g < _; omega)).trans c1⟩; clear hb1) | (refine step_app_S rfl (.tmp 11) (.tmp 22) rfl B ((cds k).take i) [z] (.slice ad3 m c3) _ rfl rfl (HR.out.1.later (bstep HB1.out (balloc _ _))) (src_new w1 z) (by rw [HR.out.2.2]; simp; omega) (by have := HB1.out.size; simp; omega) ?_; intro v2 w2 ho2 hg2 hl2; have HB2 : Hid (Below B w1 w2 ∧ Own B w2 v2 ((cds k).take i ++ [z])) := ⟨app_keep (HR.out.1.later HB1.out) hg2 (by have := HB1.out.size; omega), ho2⟩; have KB : Hid (w2.cell? ⟨g, off + i, none⟩ = some (.string (bs x)) ∧ w2.cell? ⟨g, off + (i + 1), none⟩ = some (.string (bs y))) := ⟨(HB2.out.1.cell (p := ⟨g, off + i, none⟩) hgB).trans KA.out.1, (HB2.out.1.cell (p := ⟨g, off + (i + 1), none⟩) hgB).trans KA.out.2⟩; clear ho2 hg2 hl2))
      have HE : Hid (Own B w2 v2 ((cds k).take (i + 1)) ∧ Below B w w2) := ⟨by rw [HT.out]; exact HB2.out.2, below_trans HR.out.2.1 (below_trans (below_mono HB1.out hwr) HB2.out.1)⟩
      go_wp2_with fail
      go_roundw
      case rel => exact ⟨i + 1, by go_num, by omega, HE.out.1, HE.out.2⟩
      case measure => simp [intOf]; omega
    · have hbn' : ¬ ((i : Int) + 1 < (n : Int)) := by omega
      have HE : Hid (Own B wr (.slice ad3 m c3) (cds k)) := by
        have q := HR.out.1
        rw [List.take_of_length_le (by have := cds_len k; have := HN.out; omega)] at q
        exact q
      have hwr : B ≤ wr.heap.size := by have := HR.out.2.1.size; omega
      have HSO := hid_of (ssort_any HE.out H.out.2.2 hwr)
      clear hm
      go_wp2_with fail
      refine HSO.out.mono ?_
      rintro e w1 ⟨rfl, ts, hp, hpw, ho1, hb1⟩
      have HTS : Sm ts := ⟨by rw [hp.length_eq]; exact H.out.2.2.len, fun x hx => H.out.2.2.each x (hp.mem_iff.1 hx)⟩
      have HCO := hid_of (compact_any ho1 HTS hpw (Nat.le_trans hwr hb1.size))
      have HNO : Hid (norm ts = norm (cds k)) := norm_of (up_norm _) fun x => by rw [mem_norm]; exact hp.mem_iff.symm
      have HB1 := hid_of (below_trans HR.out.2.1 hb1)
      rw [HNO.out] at HCO
      clear hp hpw ho1 hb1 HTS
      go_wp2_with fail
      refine HCO.out.mono ?_
      rintro e w2 ⟨v2, rfl, ho2, hb2⟩
      have HB2 := hid_of (And.intro ho2 (below_trans HB1.out hb2))
      clear ho2 hb2
      go_wp2_with fail
      go_ret
      rw [HB0.out]
      exact ⟨v2, rfl, HB2.out.1, HB2.out.2⟩
end Go.Proofs.YtbaheiimcnfaaaaGreat

namespace Go.Proofs.YtbaheiimcnfaaaaGreat
open Go.RowKit Go.Maps

def bl (v : Value) : List Nat := v.ownBlock.toList
theorem only_grownK {w w' : World} {row : Option Nat} (h : w.grownBy w' row) : Only row.toList w w' :=
  ⟨h.os, h.tape, h.output, h.size, fun k hk hn => h.block k hk (by
    intro e
    apply hn
    rw [← e]; simp)⟩
theorem row_only {S : List Nat} {base e sz n : Nat} {w w' : World} {v : Value} {l : List Value} (h : w.ownsRow base e sz v n l) (ho : Only S w w') (hn : ∀ k, v.ownBlock = some k → k ∉ S) : w'.ownsRow base e sz v n l := by
  rcases h with ⟨h0, h | ⟨g, cap, cur, rfl, hb, hg, hr⟩⟩
  · exact ⟨h0, .inl h⟩
  · exact ⟨h0, .inr ⟨g, cap, cur, rfl, hb, (ho.block g (Array.getElem?_eq_some_iff.1 hg).1 (hn g rfl)).trans hg, hr⟩⟩
theorem row_later {base e sz n : Nat} {w w' : World} {v : Value} {l : List Value} (h : w.ownsRow base e sz v n l) (hb : Below w.heap.size w w') : w'.ownsRow base e sz v n l := row_only h (Only.of_below hb []) (by simp)
theorem row_kept {base e sz n : Nat} {w w' : World} {v : Value} {l : List Value} (h : w.ownsRow base e sz v n l) (hk : ∀ g, v.ownBlock = some g → w'.heap[g]? = w.heap[g]?) : w'.ownsRow base e sz v n l := by
  rcases h with ⟨h0, h | ⟨g, cap, cur, rfl, hb, hg, hr⟩⟩
  · exact ⟨h0, .inl h⟩
  · exact ⟨h0, .inr ⟨g, cap, cur, rfl, hb, (hk g rfl).trans hg, hr⟩⟩
theorem row_form {base e sz n : Nat} {w : World} {v : Value} {l : List Value} (h : w.ownsRow base e sz v n l) : ∃ a c, v = .slice a n c := by
  rcases h.2 with ⟨rfl, rfl⟩ | ⟨g, cap, cur, rfl, _⟩
  · exact ⟨_, _, rfl⟩
  · exact ⟨_, _, rfl⟩
theorem row_place {base e sz n : Nat} {w : World} {v : Value} {l : List Value} (h : w.ownsRow base e sz v n l) (hn : 0 < n) : ∃ g c, v = .slice (some ⟨g, 0, none⟩) n c ∧ n ≤ c ∧ base ≤ g ∧ g < w.heap.size := by
  rcases h.2 with ⟨rfl, rfl⟩ | ⟨g, cap, cur, rfl, hb, hg, hc, _⟩
  · omega
  · exact ⟨g, cap, rfl, hc, hb, (Array.getElem?_eq_some_iff.1 hg).1⟩
theorem row_cell {base e sz n : Nat} {w : World} {g c : Nat} {l : List Value} (h : w.ownsRow base e sz (.slice (some ⟨g, 0, none⟩) n c) n l) {i : Nat} {u : Value} (hi : l[i]? = some u) : w.cell? ⟨g, i, none⟩ = some u := by
  have := World.ownsRow.cells h (g := g) rfl i u hi
  rw [add_lit] at this
  simpa using this
/-- a kind of list: its type, its elements', how many cells one has, and the cells of its mark -/
structure Knd where
  ty : TypeId
  e : TypeId
  sz : Nat
  c : List Value
structure KOk (K : Knd) : Prop where
  und : Tryz.prog.underlying K.ty = some (.slice K.e)
  info : ∃ z b, (Tryz.prog.info? K.e).map (fun i => (i.zero, i.size, i.bytes)) = some (some z, K.sz, b) ∧ z.cells.size = K.sz ∧ b ≤ 100
  len : K.c.length = K.sz
  pos : 0 < K.sz
/-- n marks -/
def rep (n : Nat) (c : List Value) : List Value := (List.replicate n c).flatten
theorem rep_succ (n : Nat) (c : List Value) : rep (n + 1) c = rep n c ++ c := by simp [rep, List.replicate_succ']
theorem rep_len (n : Nat) (c : List Value) : (rep n c).length = n * c.length := by
  induction n with
  | zero => simp [rep]
  | succ n ih => rw [rep_succ, List.length_append, ih, Nat.succ_mul]
theorem rep_get {c : List Value} {s : Nat} (hc : c.length = s) : ∀ (n y : Nat), y < n * s → (rep n c)[y]? = c[y % s]?
  | 0, y, h => by simp at h
  | n + 1, y, h => by
    rw [rep_succ]
    by_cases hy : y < n * s
    · rw [List.getElem?_append_left (by rw [rep_len, hc]; exact hy)]
      exact rep_get hc n y hy
    · rw [List.getElem?_append_right (by rw [rep_len, hc]; omega), rep_len, hc]
      rw [Nat.succ_mul] at h
      congr 1
      have e : y = y - n * s + n * s := by omega
      conv => rhs; rw [e]
      rw [Nat.add_mul_mod_self_right, Nat.mod_eq_of_lt (by omega)]
theorem rep_take {c : List Value} {s : Nat} (hc : c.length = s) {l : List Value} {m : Nat} : l.take (m * s) = rep m c ↔ ∀ y, y < m * s → l[y]? = c[y % s]? := by
  constructor
  · intro h y hy
    have h2 : (l.take (m * s))[y]? = (rep m c)[y]? := by rw [h]
    rw [List.getElem?_take, if_pos hy, rep_get hc m y hy] at h2
    exact h2
  · intro h
    apply List.ext_getElem?
    intro y
    rw [List.getElem?_take]
    by_cases hy : y < m * s
    · rw [if_pos hy, rep_get hc m y hy]; exact h y hy
    · rw [if_neg hy, List.getElem?_eq_none (by rw [rep_len, hc]; omega)]
theorem mem_bl {v : Value} {g : Nat} : g ∈ bl v ↔ v.ownBlock = some g := by
  unfold bl
  cases v.ownBlock with
  | none => simp
  | some k => simp [eq_comm]
theorem below_drew_allocK (w : World) (o : Obj) : Below w.heap.size w (w.drew.alloc o) := (Below.refl _ _).drew.alloc (Nat.le_refl _) o

/-- marks, one more appended: what is marked alike stays so -/
theorem run_append_k {K : Knd} (hK : KOk K) {w : World} {base : Nat} {v : Value} {n : Nat} (x : Value) (ty : TypeId) (hown : w.ownsRow base K.e K.sz v n (rep n K.c))
    (hsrc : Src Tryz.prog K.sz K.ty x 1 K.c w) (hb : n + 1 ≤ 100000000) (hbase : base ≤ w.heap.size) :
    ∃ a c w', (Builtin.append_ #[K.ty, K.ty] ty #[v, x]).run Tryz.prog w = .ok (.slice a (n + 1) c) w' ∧ w'.ownsRow base K.e K.sz (.slice a (n + 1) c) (n + 1) (rep (n + 1) K.c) ∧ Only (bl v) w w' ∧
      ((Value.slice a (n + 1) c).ownBlock = v.ownBlock ∨ ∃ b, (Value.slice a (n + 1) c).ownBlock = some b ∧ w.heap.size ≤ b) ∧ ∀ b' u m, w.ownsRow b' K.e K.sz u m (rep m K.c) → w'.ownsRow b' K.e K.sz u m (rep m K.c) := by
  obtain ⟨z, by', hinf, hz1, hby⟩ := hK.info
  obtain ⟨i, hi, hz0, hzs, hz2⟩ := info_parts hinf
  have hlen := hK.len
  have hbb : (n + 1) * by' ≤ 140737488355328 := by
    have : (n + 1) * by' ≤ 100000000 * 100 := Nat.mul_le_mul hb hby
    omega
  obtain ⟨v2, w2, hr2, h2, hgr, hwh⟩ := run_append_src (P := Tryz.prog) w base K.ty K.ty ty K.e i z K.sz by' hK.und hi hz0 hzs hz2 hz1 v n (rep n K.c) hown x 1 K.c hsrc (by simp only [maxLen]; omega) hbb hbase
  rw [← rep_succ] at h2
  have hkeep : ∀ b' u m, w.ownsRow b' K.e K.sz u m (rep m K.c) → w2.ownsRow b' K.e K.sz u m (rep m K.c) := by
    intro b' u m hu
    rcases hown.2 with ⟨rfl, h0⟩ | ⟨g, cap, cur, rfl, hbg, hg, hnc, hcm, hcs, htake⟩
    · exact row_only hu (only_grownK hgr) (by simp [Value.ownBlock])
    · by_cases hroom : n + 1 ≤ cap
      · have hmul : n * K.sz + K.sz ≤ cap * K.sz := by
          have := Nat.mul_le_mul_right K.sz hroom
          rw [Nat.succ_mul] at this; exact this
        have hfit : n * i.size + K.c.length ≤ cur.size := by rw [hzs, hlen, hcs]; exact hmul
        have hst := run_storeCells_at Tryz.prog g (n * i.size) K.e K.c 0 cur w hg (by simpa using hfit) hsrc.one
        simp only [Nat.add_zero] at hst
        have hr : (Builtin.append_ #[K.ty, K.ty] ty #[.slice (some ⟨g, 0, none⟩) n cap, x]).run Tryz.prog w =
            .ok (.slice (some ⟨g, 0, none⟩) (n + 1) cap) (w.setRow g (cur.toList.take (n * i.size) ++ K.c ++ cur.toList.drop (n * i.size + K.c.length)).toArray) := by
          have hs2 := hsrc
          rw [← hzs] at hs2
          simp [Builtin.append_, run_underlying hK.und, sizeOf, typeInfo, hi, hs2.len, hroom, hs2.cells, Addr.add_lit, hst]
        rw [hr2] at hr
        injection hr with e1 e2
        rcases hu.2 with ⟨rfl, h0⟩ | ⟨g', cap', cur', rfl, hbg', hg', hnc', hcm', hcs', htake'⟩
        · exact ⟨hu.1, .inl ⟨rfl, h0⟩⟩
        · by_cases hgg : g' = g
          · subst hgg
            rw [hg] at hg'
            injection hg' with hg'
            injection hg' with hc1 _ _
            subst hc1
            have hmm : m * K.sz ≤ cur.size := by rw [hcs']; exact Nat.mul_le_mul_right _ hnc'
            have hnn : n * K.sz ≤ cur.size := by rw [hcs]; omega
            have hlt : (cur.toList.take (n * i.size)).length = n * K.sz := by rw [List.length_take, Array.length_toList, hzs]; omega
            refine ⟨hu.1, .inr ⟨g', cap', _, rfl, hbg', by rw [e2]; exact setRow_heap w g' cur _ K.e _ hg, hnc', hcm', ?_, ?_⟩⟩
            · simp only [List.size_toArray, List.length_append, List.length_take, List.length_drop, Array.length_toList]
              omega
            · rw [rep_take hlen] at htake'
              rw [rep_take hlen] at htake
              have hsz : (cur.toList.take (n * i.size) ++ K.c ++ cur.toList.drop (n * i.size + K.c.length)).length = cur.size := by
                simp only [List.length_append, List.length_take, List.length_drop, Array.length_toList]; omega
              rw [rep_take hlen]
              intro y hy
              by_cases h1 : y < n * K.sz
              · rw [List.append_assoc, List.getElem?_append_left (by rw [hlt]; exact h1), List.getElem?_take, if_pos (by rw [hzs]; exact h1)]
                exact htake y h1
              · by_cases h3 : y < n * K.sz + K.sz
                · rw [List.append_assoc, List.getElem?_append_right (by rw [hlt]; omega), List.getElem?_append_left (by rw [hlt, hlen]; omega), hlt]
                  have e : y % K.sz = y - n * K.sz := by
                    have e : y = y - n * K.sz + n * K.sz := by omega
                    rw [e, Nat.add_mul_mod_self_right, Nat.mod_eq_of_lt (by omega), ← e]
                  rw [e]
                · rw [List.getElem?_append_right (by rw [List.length_append, hlt, hlen]; omega), List.length_append, hlt, hlen, List.getElem?_drop, hzs]
                  have e5 : n * K.sz + K.sz + (y - (n * K.sz + K.sz)) = y := by omega
                  rw [e5]
                  exact htake' y hy
          · refine row_only hu (only_grownK hgr) (fun b hb => ?_)
            have hb2 : g' = b := by simpa [Value.ownBlock] using hb
            subst hb2
            simp [Value.ownBlock, hgg]
      · have holds : ∀ j u, (rep n K.c)[j]? = some u → w.cell? ((⟨g, 0, none⟩ : Addr).add j) = some u := hown.cells (g := g) rfl
        have hr := run_append_grow_src (P := Tryz.prog) w K.ty K.ty ty K.e i _ hK.und hi hz0 (some ⟨g, 0, none⟩) n cap (rep n K.c) (run_firstCells_some w.drew i.size n _ n cap _ (by rw [rep_len, hzs, hlen]) (by simpa using holds)) x 1 K.c (by rw [hzs]; exact hsrc) (by omega) (by omega) (growslice_fits (by omega) (by rw [hz2]; exact hbb))
        rw [hr2] at hr
        injection hr with e1 e2
        exact row_later hu (by rw [e2]; exact below_drew_allocK w _)
  obtain ⟨a, c, e3⟩ := row_form h2
  subst e3
  refine ⟨a, c, w2, hr2, h2, only_grownK hgr, ?_, hkeep⟩
  rcases hwh with h | h
  · exact .inl h
  · exact .inr ⟨_, h, Nat.le_refl _⟩
/-- an append of a mark, as one operation of a region that draws -/
theorem step_append_k {K : Knd} (hK : KOk K) {ops : Array Oper} {o : Oper} {a : Act} {w : World} {J : Act → World → Prop} {Q : Exit → Act → World → Prop} {E : Prop} (hgd : o.guard = none) (s y : Operand)
    (ho : o.op = .call { callee := .builtin .append, args := #[s, y], argTypes := #[K.ty, K.ty] }) (base n : Nat) (v x : Value) (hv : a.eval s = v) (hx : a.eval y = x)
    (hown : w.ownsRow base K.e K.sz v n (rep n K.c)) (hs : Src Tryz.prog K.sz K.ty x 1 K.c w) (hb : n + 1 ≤ 100000000) (hbase : base ≤ w.heap.size)
    (h : ∀ A C w', w'.ownsRow base K.e K.sz (.slice A (n + 1) C) (n + 1) (rep (n + 1) K.c) → Only (bl v) w w' → ((Value.slice A (n + 1) C).ownBlock = v.ownBlock ∨ ∃ b, (Value.slice A (n + 1) C).ownBlock = some b ∧ w.heap.size ≤ b) →
      (∀ u m, w.ownsRow base K.e K.sz u m (rep m K.c) → w'.ownsRow base K.e K.sz u m (rep m K.c)) → J (a.put o.dst (.slice A (n + 1) C)) w') :
    if Region.wanted o (yielded ops a.tmps) = true then Oper.wp Tryz.prog o a w J Q else E := by
  have hw : Region.wanted o (yielded ops a.tmps) = true := by simp [Region.wanted, hgd]
  rw [if_pos hw]
  obtain ⟨A, C, w', hr, h1, h2, h3, h4⟩ := run_append_k hK x o.type hown hs hb hbase
  unfold Oper.wp execOp
  simp only [ho, resolve, invoke, builtin, Sem.run_bind, Sem.run_pure, Result.andThen_ok, List.map_toArray, List.map_cons, List.map_nil, hv, hx, hr]
  exact h A C w' h1 h2 h3 (fun u m hu => h4 base u m hu)

/-- cells laid one behind the other -/
def putC (w : World) (g : Nat) : Nat → List Value → World
  | _, [] => w
  | o, c :: r => putC (w.setCell ⟨g, o, none⟩ c) g (o + 1) r
def setC : List Value → Nat → List Value → List Value
  | l, _, [] => l
  | l, o, c :: r => setC (l.set o c) (o + 1) r
theorem setC_len : ∀ (r l : List Value) (o : Nat), (setC l o r).length = l.length
  | [], _, _ => rfl
  | c :: r, l, o => by rw [setC, setC_len r, List.length_set]
theorem setC_get : ∀ (r l : List Value) (o y : Nat), o + r.length ≤ l.length → (setC l o r)[y]? = if o ≤ y ∧ y < o + r.length then r[y - o]? else l[y]?
  | [], l, o, y, _ => by rw [if_neg (by simp)]; rfl
  | c :: r, l, o, y, h => by
    simp only [List.length_cons] at h ⊢
    rw [setC, setC_get r _ _ y (by rw [List.length_set]; omega)]
    by_cases h1 : y = o
    · subst h1
      rw [if_neg (by omega), if_pos (by omega), List.getElem?_set_self (by omega), Nat.sub_self]; rfl
    · by_cases h2 : o ≤ y ∧ y < o + (r.length + 1)
      · rw [if_pos h2, if_pos (by omega)]
        have e : y - o = (y - (o + 1)) + 1 := by omega
        rw [e, List.getElem?_cons_succ]
      · rw [if_neg h2, if_neg (by omega), List.getElem?_set_ne (by omega)]
theorem putC_only (g : Nat) : ∀ (r : List Value) (w : World) (o : Nat), Only [g] w (putC w g o r)
  | [], _, _ => Only.refl _ _
  | c :: r, w, o => (Only.set w g o c).trans (putC_only g r _ _)
theorem row_putC {base e sz n g cap : Nat} : ∀ (r : List Value) (w : World) (l : List Value) (o : Nat), w.ownsRow base e sz (.slice (some ⟨g, 0, none⟩) n cap) n l → (putC w g o r).ownsRow base e sz (.slice (some ⟨g, 0, none⟩) n cap) n (setC l o r)
  | [], _, _, _, h => h
  | c :: r, _, _, o, h => row_putC r _ _ _ (h.stored o c).1

/-- T lists of their kinds, each in memory of its own: D i are the blocks of list i, D0 i those that it had at first -/
structure QN (B : Nat) (w wr : World) (T : Nat) (F : Nat → Knd) (V : Nat → Value) (n : Nat → Nat) (C : Nat → List Value) (D0 D : Nat → Nat → Prop) : Prop where
  own : ∀ i, i < T → wr.ownsRow B (F i).e (F i).sz (V i) (n i) (C i)
  vd : ∀ i, i < T → ∀ g, (V i).ownBlock = some g → D i g
  inj : ∀ i j g, D i g → D j g → i = j
  dlt : ∀ i g, D i g → B ≤ g ∧ g < wr.heap.size
  old : ∀ i g, D i g → g < w.heap.size → D0 i g
  base : B ≤ w.heap.size
  below : Below B w wr
  kept : ∀ g, g < w.heap.size → (∀ i, ¬ D0 i g) → wr.heap[g]? = w.heap[g]?
section
variable {B : Nat} {w wr w' : World} {T : Nat} {F : Nat → Knd} {V : Nat → Value} {n : Nat → Nat} {C : Nat → List Value} {D0 D : Nat → Nat → Prop}
theorem QN.size (h : QN B w wr T F V n C D0 D) : w.heap.size ≤ wr.heap.size := h.below.size
theorem QN.later (h : QN B w wr T F V n C D0 D) (hb : Below wr.heap.size wr w') : QN B w w' T F V n C D0 D := by
  have hs := h.size
  have hB := h.base
  exact ⟨fun i hi => row_later (h.own i hi) hb, h.vd, h.inj, fun i g hg => by have := h.dlt i g hg; have := hb.size; omega, h.old, hB, below_trans h.below (below_mono hb (by omega)), fun g hg hn => (hb.block g (by omega)).trans (h.kept g hg hn)⟩
/-- what lies in no list's memory stays as it was at first -/
theorem QN.cell (h : QN B w wr T F V n C D0 D) {g o : Nat} {u : Value} (hc : w.cell? ⟨g, o, none⟩ = some u) (hn : ∀ i, ¬ D0 i g) : wr.cell? ⟨g, o, none⟩ = some u := by
  have hg : g < w.heap.size := World.block_lt_of_cell? w ⟨g, o, none⟩ hc
  rw [World.cell?_of_block (w := w) (h.kept g hg hn)]; exact hc
/-- a mark is laid at place m of list k -/
theorem QN.put (h : QN B w wr T F V n C D0 D) {k g c : Nat} (hk : k < T) (hv : V k = .slice (some ⟨g, 0, none⟩) (n k) c) (m : Nat) (r : List Value) :
    QN B w (putC wr g m r) T F V n (fun i => if i = k then setC (C k) m r else C i) D0 D := by
  have hd := h.vd k hk g (by rw [hv]; rfl)
  have hdl := h.dlt k g hd
  have ho := putC_only g r wr m
  have hs := h.size
  have hB := h.base
  refine ⟨fun i hi => ?_, h.vd, h.inj, fun i g' hg' => by have := h.dlt i g' hg'; have := ho.size; omega, h.old, hB, below_trans h.below (ho.below (by omega) (fun x hx => by simp at hx; subst hx; exact hdl.1)), fun x hx hn => ?_⟩
  · show World.ownsRow _ B _ _ (V i) (n i) (if i = k then setC (C k) m r else C i)
    by_cases e : i = k
    · subst e
      rw [if_pos rfl]
      have h1 := h.own i hi
      rw [hv] at h1 ⊢
      exact row_putC r wr _ m h1
    · rw [if_neg e]
      refine row_only (h.own i hi) ho (fun b hb => ?_)
      simp only [List.mem_singleton]
      rintro rfl
      exact e (h.inj i k b (h.vd i hi b hb) hd)
  · rw [ho.block x (by omega) (by simp only [List.mem_singleton]; rintro rfl; exact hn k (h.old k x hd hx))]
    exact h.kept x hx hn
theorem QN.congr {C' : Nat → List Value} (h : QN B w wr T F V n C D0 D) (e : ∀ i, i < T → C i = C' i) : QN B w wr T F V n C' D0 D :=
  ⟨fun i hi => by rw [← e i hi]; exact h.own i hi, h.vd, h.inj, h.dlt, h.old, h.base, h.below, h.kept⟩
end
end Go.Proofs.YtbaheiimcnfaaaaGreat
