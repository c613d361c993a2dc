/-
  What TreeSound asks, plain.
-/
import Derived.Test.YtfdcfcalbongeaaGreatTt1
namespace Go.Proofs.YtfdcfcalbongeaaGreat

def TT.up (T : TT) (k : Nat) : TT := { T with st := T.st + k }
theorem up_up (T : TT) (a b : Nat) : (T.up a).up b = T.up (a + b) := by unfold TT.up; simp [Nat.add_assoc]
theorem cnt_free {T : TT} (h : T.sp = 0) (b : List UInt8) : T.cnt b = (T.up 1, true) := by unfold TT.cnt TT.up; rw [if_pos h]
theorem mk_free {T : TT} (h : T.sp = 0) (p : List UInt8) : T.mk' p = mkG p (T.up 1) := by unfold TT.mk' TT.step; rw [cnt_free h]; rfl
theorem dl_free {T : TT} (h : T.sp = 0) (p : List UInt8) : T.dl p = dlG p (T.up 1) := by unfold TT.dl TT.step; rw [cnt_free h]; rfl
theorem rm_free {T : TT} (h : T.sp = 0) (p : List UInt8) : T.rm p = rmG p (T.up 1) := by unfold TT.rm TT.step; rw [cnt_free h]; rfl
theorem wr_free {T : TT} (h : T.sp = 0) (f : Fl) : T.wr f = wrG f (T.up 1) := by unfold TT.wr TT.step; rw [cnt_free h]; rfl
/-- a directory is not made again, and is no file -/
theorem dir_refused {T : TT} (h : TOk T) (h0 : T.sp = 0) {d : List UInt8} (hd : d ∈ T.ds) : T.mk' d = (T.up 1, 16) ∧ T.dl d = (T.up 1, 16) := by
  rw [mk_free h0, dl_free h0]
  have h1 : hasD T.ds d = true := hasD_iff.2 (.inr hd)
  have h2 : hasF T.fs d = false := by
    cases e : hasF T.fs d with
    | false => rfl
    | true =>
      obtain ⟨f, hf, rfl⟩ := hasF_iff.1 e
      exact absurd hd (h.no f hf)
  constructor
  · unfold mkG mkB
    rw [show (T.up 1).ds = T.ds from rfl, show (T.up 1).fs = T.fs from rfl, h1]
    simp
  · unfold dlG
    rw [show (T.up 1).fs = T.fs from rfl, h2]
    simp
theorem ins_new {x : List UInt8} : ∀ {l : List (List UInt8)}, x ∉ l → (ins x l).length = l.length + 1 ∧ (ins x l).filter (fun d => !(d == x)) = l
  | [], _ => by simp [ins]
  | y :: l, h => by
    have hy : y ≠ x := fun e => h (by simp [e])
    have hl : x ∉ l := fun e => h (by simp [e])
    obtain ⟨h1, h2⟩ := ins_new hl
    have hf : ∀ m : List (List UInt8), x ∉ m → m.filter (fun d => !(d == x)) = m := fun m hm => List.filter_eq_self.2 fun d hd => by
      have : d ≠ x := fun e => hm (e ▸ hd)
      simpa using this
    unfold ins
    split
    · rw [List.filter_cons]
      simp only [beq_self_eq_true, Bool.not_true, Bool.false_eq_true, if_false]
      exact ⟨by simp, hf _ h⟩
    · split
      · rename_i e
        exact absurd (cf_zero.1 e).symm hy
      · rw [List.filter_cons, if_pos (by simpa using hy), h2, List.length_cons, h1]
        exact ⟨by simp, rfl⟩
theorem dir_ne {p : List UInt8} (h : p ≠ []) : dir p ≠ p := fun e => by
  have := dir_lt h
  rw [e] at this
  omega
/-- a new directory comes and goes without a trace -/
theorem mk_rm {T : TT} (h : TOk T) (h0 : T.sp = 0) {p : List UInt8} (hb : mkB T p = true) :
    T.mk' p = ({ T.up 1 with ds := ins p T.ds }, 0) ∧ (ins p T.ds).length = T.ds.length + 1 ∧
    (∀ f : Fl, f.path = p → ({ T.up 1 with ds := ins p T.ds } : TT).wr f = ({ T.up 2 with ds := ins p T.ds }, if fileE f = 0 then 16 else fileE f)) ∧
    ({ T.up 2 with ds := ins p T.ds } : TT).rm p = (T.up 3, 0) := by
  have hb' := hb
  unfold mkB at hb'
  simp only [Bool.and_eq_true, Bool.not_eq_true'] at hb'
  obtain ⟨⟨⟨h1, h2⟩, h3⟩, h4⟩ := hb'
  have hp : p ≠ [] := fun e => by rw [e] at h3; simp [hasD] at h3
  have hn : p ∉ T.ds := fun e => by rw [hasD_iff.2 (.inr e)] at h3; cases h3
  obtain ⟨l1, l2⟩ := ins_new hn
  have hm : hasD (ins p T.ds) p = true := hasD_iff.2 (.inr ((mem_ins p p _).2 (.inl rfl)))
  refine ⟨?_, l1, fun f hf => ?_, ?_⟩
  · rw [mk_free h0]
    unfold mkG
    rw [if_pos (show mkB (T.up 1) p = true from hb)]
    rfl
  · rw [wr_free (show ({ T.up 1 with ds := ins p T.ds } : TT).sp = 0 from h0)]
    unfold wrG wrB
    rw [hf]
    have e2 : ({ T.up 1 with ds := ins p T.ds } : TT).up 1 = { T.up 2 with ds := ins p T.ds } := by unfold TT.up; simp
    rw [e2, show ({ T.up 2 with ds := ins p T.ds } : TT).ds = ins p T.ds from rfl, hm]
    simp
    split <;> rfl
  · rw [rm_free (show ({ T.up 2 with ds := ins p T.ds } : TT).sp = 0 from h0)]
    have e2 : ({ T.up 2 with ds := ins p T.ds } : TT).up 1 = { T.up 3 with ds := ins p T.ds } := by unfold TT.up; simp
    rw [e2]
    unfold rmG
    have hr : rmB { T.up 3 with ds := ins p T.ds } p = true := by
      unfold rmB emp
      simp only [Bool.and_eq_true, Bool.not_eq_true', List.all_eq_true, beq_eq_false_iff_ne]
      refine ⟨⟨hp, hm⟩, fun f hf e => ?_, fun d hd e => ?_⟩
      · have := h.fd f hf
        rw [e, h3] at this
        cases this
      · rcases (mem_ins p d _).1 hd with rfl | hd
        · exact dir_ne hp e
        · have := h.dd d hd
          rw [e, h3] at this
          cases this
    rw [if_pos hr]
    show ((_ : TT), (0 : Int)) = _
    simp only [l2]
    rfl
theorem mk_no {T : TT} (h0 : T.sp = 0) {p : List UInt8} (hb : mkB T p = false) : T.mk' p = (T.up 1, 16) := by
  rw [mk_free h0]
  unfold mkG
  rw [if_neg (by rw [show mkB (T.up 1) p = mkB T p from rfl, hb]; decide)]
theorem TOk.up {T : TT} (h : TOk T) (k : Nat) : TOk (T.up k) := ⟨h.fe, h.fu, h.du, h.de, h.fd, h.dd, h.no, h.sp0, h.dn1, h.tn0⟩
end Go.Proofs.YtfdcfcalbongeaaGreat
