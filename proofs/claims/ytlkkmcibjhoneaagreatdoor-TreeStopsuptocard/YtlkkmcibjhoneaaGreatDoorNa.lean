/-
  The landed tree: a directory more, a file more.
-/
import Derived.Test.YtlkkmcibjhoneaaGreatDoorJLz
namespace Go.Proofs.YtlkkmcibjhoneaaGreatDoor
open Go.RowKit Go.Maps

theorem cin_le (fs : List Fl) (ds : List (List UInt8)) (k : List UInt8) : cin fs ds k ≤ fs.length + ds.length := by
  unfold cin
  have h1 := List.countP_le_length (p := fun p => dir p == k) (l := fs.map Fl.path)
  have h2 := List.countP_le_length (p := fun d => dir d == k) (l := ds)
  rw [List.length_map] at h1
  omega
theorem hasD_ins (ds : List (List UInt8)) (p k : List UInt8) : hasD (ins p ds) k = (k == p || hasD ds k) := by
  rw [Bool.eq_iff_iff]
  simp only [hasD, Bool.or_eq_true, beq_iff_eq, decide_eq_true_eq, mem_ins]
  constructor
  · rintro (h | h | h)
    · exact .inr (.inl h)
    · exact .inl h
    · exact .inr (.inr h)
  · rintro (h | h | h)
    · exact .inr (.inl h)
    · exact .inl h
    · exact .inr (.inr h)
theorem dF_mk {T : TT} (h : TOk T) {p : List UInt8} (hp : hasD T.ds p = false) (hd : hasD T.ds (dir p) = true) (k : List UInt8) :
    (if k = dir p then some ((cin T.fs T.ds (dir p) : Int) + 1) else if k = p then some 0 else dF T.fs T.ds k) = dF T.fs (ins p T.ds) k := by
  have hne : p ≠ [] := by rintro rfl; simp [hasD] at hp
  have hn : p ∉ T.ds := fun hm => by simp [hasD, hm] at hp
  unfold dF
  rw [hasD_ins, cin_dir hn]
  by_cases e1 : k = dir p
  · subst e1
    simp [hd]
  · by_cases e2 : k = p
    · subst e2
      have : ¬ dir k = k := dir_ne hne
      simp [e1, this, cin_none h hp]
    · have : ¬ dir p = k := fun e => e1 e.symm
      simp [e1, e2, this]
theorem dF_wr {T : TT} (h : TOk T) {f : Fl} (hf : hasF T.fs f.path = false) (hd : hasD T.ds (dir f.path) = true) (k : List UInt8) :
    (if k = dir f.path then some ((cin T.fs T.ds (dir f.path) : Int) + 1) else dF T.fs T.ds k) = dF (insF f T.fs) T.ds k := by
  unfold dF
  rw [cin_file h.fu, hf]
  by_cases e1 : k = dir f.path
  · subst e1; simp [hd]
  · have : ¬ dir f.path = k := fun e => e1 e.symm
    simp [e1, this]
theorem dF_wr' {T : TT} (h : TOk T) {f : Fl} (hf : hasF T.fs f.path = true) (k : List UInt8) : dF T.fs T.ds k = dF (insF f T.fs) T.ds k := by
  unfold dF
  rw [cin_file h.fu, hf]
  simp
theorem dF_dl {T : TT} (h : TOk T) {p : List UInt8} (hf : hasF T.fs p = true) (hd : hasD T.ds (dir p) = true) (k : List UInt8) :
    (if k = dir p then some ((cin T.fs T.ds (dir p) : Int) - 1) else dF T.fs T.ds k) = dF (T.fs.filter (fun f => !(f.path == p))) T.ds k := by
  unfold dF
  have := cin_del (ds := T.ds) h.fu hf k
  by_cases e1 : k = dir p
  · subst e1
    simp only [if_true, hd]
    rw [this]
    simp
  · have e2 : ¬ dir p = k := fun e => e1 e.symm
    rw [if_neg e2] at this
    simp only [e1, if_false, this, Nat.add_zero]
theorem hasD_rm (ds : List (List UInt8)) (p k : List UInt8) (hp : p ≠ []) : hasD (ds.filter (fun d => !(d == p))) k = (hasD ds k && !(k == p)) := by
  rw [Bool.eq_iff_iff]
  simp only [hasD, Bool.or_eq_true, Bool.and_eq_true, beq_iff_eq, decide_eq_true_eq, List.mem_filter, Bool.not_eq_true', beq_eq_false_iff_ne]
  constructor
  · rintro (rfl | ⟨h1, h2⟩)
    · exact ⟨.inl rfl, fun e => hp e.symm⟩
    · exact ⟨.inr h1, h2⟩
  · rintro ⟨rfl | h1, h2⟩
    · exact .inl rfl
    · exact .inr ⟨h1, h2⟩
theorem dF_rm {T : TT} (h : TOk T) {p : List UInt8} (hp : p ∈ T.ds) (k : List UInt8) :
    (if k = dir p then some ((cin T.fs T.ds (dir p) : Int) - 1) else if k = p then none else dF T.fs T.ds k) = dF T.fs (T.ds.filter (fun d => !(d == p))) k := by
  have hne := (h.de p hp).1
  have hd := h.dd p hp
  have hdn := dir_ne hne
  unfold dF
  rw [hasD_rm _ _ _ hne]
  have := cin_rm (fs := T.fs) h.du hp k
  by_cases e1 : k = dir p
  · subst e1
    simp only [if_true, hd, Bool.true_and]
    rw [this]
    simp [hdn]
  · have e2 : ¬ dir p = k := fun e => e1 e.symm
    rw [if_neg e2] at this
    by_cases e3 : k = p
    · subst e3; simp [Ne.symm hdn]
    · simp [e1, e3, this]
section
variable {w w' : World} {c mf md : Nat} {vj vt : Value} {lf : Int} {T : TT}
/-- the maps are turned -/
theorem LX.maps (h : LX w c mf md vj vt lf T) {T' : TT} (ho : Only [mf, md] w w') (hf : MP cF w' mf (fF T'.fs) T'.fs.length) (hd : MP cI w' md (dF T'.fs T'.ds) (T'.ds.length + 1))
    (e : T' = { T with fs := T'.fs, ds := T'.ds }) (hok : TOk T') : LX w' c mf md vj vt lf T' := by
  have hs : ∀ k, LB c mf md vj vt k → k ≠ mf → k ≠ md → w'.heap[k]? = w.heap[k]? := fun k hk h1 h2 => ho.block k (h.blt k hk) (by simp [h1, h2])
  have ⟨n1, n2⟩ := h.cm
  have e1 : T'.st = T.st := by rw [e]
  have e2 : T'.dn = T.dn := by rw [e]
  have e3 : T'.jl = T.jl := by rw [e]
  have e4 : T'.tn = T.tn := by rw [e]
  have e5 : T'.sp = T.sp := by rw [e]
  refine ⟨by rw [e1, e2]; exact (hs c (.inl rfl) n1 n2).trans h.blk, hf, hd, ?_, ?_, by rw [e5, e2]; exact h.rel, h.low, h.nm, h.nj, hok, h.ev.only ho (by simpa using ⟨h.low.2.1, h.low.2.2.1⟩)⟩
  · rw [e3]; exact row_stay h.jo (fun k hk => hs k (.inr (.inr (.inr (.inl hk)))) (h.row_ne h.jo k hk).2.1 (h.row_ne h.jo k hk).2.2)
  · rw [e4]; exact row_stay h.ton (fun k hk => hs k (.inr (.inr (.inr (.inr hk)))) (h.row_ne h.ton k hk).2.1 (h.row_ne h.ton k hk).2.2)
end
theorem Only.wide {S S' : List Nat} {w w' : World} (h : Only S w w') (hS : ∀ k ∈ S, k ∈ S') : Only S' w w' := ⟨h.os, h.tape, h.output, h.size, fun k hk hn => h.block k hk (fun hm => hn (hS k hm))⟩
theorem okP_lk {p : List UInt8} (h : okP p = true) : Lk p := by have := (okP_len h).1; unfold Lk; omega
theorem dir_le (p : List UInt8) : (dir p).length ≤ p.length := by
  by_cases h : p = []
  · subst h; simp [dir_nil]
  · exact Nat.le_of_lt (dir_lt h)
theorem lk_dir {p : List UInt8} (h : Lk p) : Lk (dir p) := Nat.le_trans (dir_le p) h
theorem wrapIn {x : Int} (h0 : -9223372036854775808 ≤ x) (h1 : x ≤ 9223372036854775807) : IntKind.i64.wrap x = x := by rw [IntKind.wrap_i64]; omega
set_option maxRecDepth 100000 in
set_option maxHeartbeats 8000000 in
theorem addDir_any {w : World} {c mf md : Nat} {vj vt : Value} {lf : Int} {T : TT} (h : LX w c mf md vj vt lf T) (p : List UInt8) (hp : mkB T p = true) (hz : T.fs.length + T.ds.length ≤ 100000000) :
    Calls Tryz.prog 59 #[.pointer (some ⟨c, 0, none⟩), .string (bs p)] w fun e w' => e = .returned (.tuple #[]) ∧ LX w' c mf md vj vt lf { T with ds := ins p T.ds } ∧ Only [mf, md] w w' := by
  have hp' := hp
  simp only [mkB, Bool.and_eq_true, Bool.not_eq_true'] at hp
  obtain ⟨⟨⟨hpo, hnf⟩, hnd⟩, hdd⟩ := hp
  have hlk := okP_lk hpo
  have hne : p ≠ [] := by rintro rfl; simp [hasD] at hnd
  obtain ⟨w1, r1, m1, o1, s1⟩ := h.dr.store hlk (by omega) 0
  have g1 : (dF T.fs T.ds p).isSome = false := by rw [dF_has]; exact hnd
  rw [g1] at m1
  have m1d : MP cI w1.drew md (fun y => if y = p then some 0 else dF T.fs T.ds y) (T.ds.length + 1 + 1) := m1.later (Below.refl _ _).drew
  have hle := cin_le T.fs T.ds (dir p)
  obtain ⟨n, hn⟩ : ∃ n, cin T.fs T.ds (dir p) = n := ⟨_, rfl⟩
  have gd : (if dir p = p then some 0 else dF T.fs T.ds (dir p)) = some (n : Int) := by
    rw [if_neg (dir_ne hne)]; unfold dF; rw [if_pos hdd, hn]
  have l2 := m1d.look (lk_dir hlk) false
  simp only [gd, at_, Option.getD_some] at l2
  obtain ⟨w2, r2, m2, o2, s2⟩ := m1d.store (lk_dir hlk) (by omega) ((n : Int) + 1)
  simp only [gd, Option.isSome_some, if_true] at m2
  have hl2 : (Instr.lookup 71 (.map (some md)) (.string (bs (dir p))) false).run Tryz.prog w1.drew = .ok (.int .i64 n) w1.drew := l2
  have hr1 : (Instr.mapUpdate 71 (.map (some md)) (.string (bs p)) (.int .i64 0)).run Tryz.prog w = .ok () w1 := r1
  have hw : wrap64 ((n : Int) + 1) = (n : Int) + 1 := IntWalk.wrap64_in _ (by omega)
  have hr2 : (Instr.mapUpdate 71 (.map (some md)) (.string (bs (dir p))) (.int .i64 (IntKind.i64.wrap ((n : Int) + 1)))).run Tryz.prog w1.drew = .ok () w2 := by
    rw [wrapIn (by omega) (by omega)]; exact r2
  obtain ⟨c0, c1, -⟩ := h.cells
  have d1 : w1.cell? ⟨c, 1, none⟩ = some (.map (some md)) := (cell_stay (o1.block c h.clt (by simpa using h.cm.2)) 1).trans c1
  have hok : TOk ({ T with ds := ins p T.ds } : TT) := by
    have := h.ok.mkG p
    unfold mkG at this
    rw [if_pos hp'] at this
    exact this
  have H : Hid (LX w2 c mf md vj vt lf { T with ds := ins p T.ds } ∧ Only [mf, md] w w2) := by
    have ho : Only [mf, md] w w2 := (o1.wide (by simp)).trans ((Only.of_below ((Below.refl w1.heap.size w1).drew) [mf, md]).trans (o2.wide (by simp)))
    have hmf : w2.heap[mf]? = w.heap[mf]? := by
      have a1 := o1.block mf h.fl.lt (by simpa using h.nm)
      have a2 := o2.block mf (by have := h.fl.lt; show mf < w1.heap.size; omega) (by simpa using h.nm)
      exact a2.trans a1
    refine ⟨h.maps ho (h.fl.block hmf) ?_ rfl hok, ho⟩
    have hlen : (ins p T.ds).length = T.ds.length + 1 := by
      have hn : p ∉ T.ds := fun hm => by simp [hasD, hm] at hnd
      simpa using (ins_perm hn).length_eq
    rw [hlen]
    refine m2.congr (fun k _ => ?_)
    have := dF_mk h.ok hnd hdd k
    rw [hn] at this
    exact this
  have HP : Hid (p.length ≤ 9223372036854775807) := by unfold Lk at hlk; show p.length ≤ 9223372036854775807; omega
  clear h hp' hpo hnf hnd hdd hlk hne r1 m1 o1 s1 g1 m1d hle hn gd l2 r2 m2 o2 s2 c0 hok
  go_enter Tryz.func59, Tryz.ntmps59
  go_wp2_with fail
  refine wp_region_noPanic ?_
  go_region_with (go_at_call 25; refine (dir_any p _ HP.out).mono ?_; rintro e wq ⟨rfl, rfl⟩)
  all_goals
    refine NoPanic.normal ?_
    go_wp2_with fail
    go_end0
    exact ⟨rfl, H.out⟩
end Go.Proofs.YtlkkmcibjhoneaaGreatDoor
