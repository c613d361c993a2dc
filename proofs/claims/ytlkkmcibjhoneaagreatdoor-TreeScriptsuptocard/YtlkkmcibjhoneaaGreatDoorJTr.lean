/-
  What the laws ask of the package; a script in memory.
  A script run without crashes: what it leaves.
-/
import Derived.Test.YtlkkmcibjhoneaaGreatDoorTt1
import Derived.Test.YtlkkmcibjhoneaaGreatDoorFiles
import Derived.Test.YtlkkmcibjhoneaaGreatDoorJWw
import Derived.WalkMore
namespace Go.Proofs.YtlkkmcibjhoneaaGreatDoor
open Go.RowKit

/-- only blocks of F changed -/
structure OnlyP (F : Nat → Prop) (w w' : World) : Prop where
  os : w'.os = w.os
  tape : w'.tape = w.tape
  output : w'.output = w.output
  size : w.heap.size ≤ w'.heap.size
  block : ∀ k, k < w.heap.size → ¬ F k → w'.heap[k]? = w.heap[k]?
theorem OnlyP.refl (F : Nat → Prop) (w : World) : OnlyP F w w := ⟨rfl, rfl, rfl, Nat.le_refl _, fun _ _ _ => rfl⟩
theorem OnlyP.of_below {a b : World} (h : Below a.heap.size a b) (F : Nat → Prop) : OnlyP F a b := ⟨h.os, h.tape, h.output, h.size, fun i hi _ => h.block i hi⟩
theorem OnlyP.mono {F G : Nat → Prop} {w w' : World} (h : OnlyP F w w') (hF : ∀ k, F k → G k) : OnlyP G w w' := ⟨h.os, h.tape, h.output, h.size, fun k hk hn => h.block k hk (fun hf => hn (hF k hf))⟩
theorem OnlyP.trans {F G : Nat → Prop} {a b c : World} (h : OnlyP F a b) (k : OnlyP G b c) (hG : ∀ i, i < a.heap.size → G i → F i) : OnlyP F a c :=
  ⟨k.os.trans h.os, k.tape.trans h.tape, k.output.trans h.output, Nat.le_trans h.size k.size, fun i hi hn => (k.block i (Nat.lt_of_lt_of_le hi h.size) (fun hg => hn (hG i hi hg))).trans (h.block i hi hn)⟩
theorem OnlyP.below {F : Nat → Prop} {a b : World} {B : Nat} (h : OnlyP F a b) (hB : B ≤ a.heap.size) (hF : ∀ k, F k → B ≤ k) : Below B a b :=
  ⟨h.os, h.tape, h.output, h.size, fun i hi => h.block i (Nat.lt_of_lt_of_le hi hB) (fun hf => absurd (hF i hf) (Nat.not_le.2 hi))⟩
/-- and what is new -/
abbrev nwF (F : Nat → Prop) (w w' : World) : Nat → Prop := fun k => F k ∨ w.heap.size ≤ k ∧ k < w'.heap.size

/-- a script's step, plain -/
structure Opp where
  kind : Int
  p : List UInt8
  f : Fl
  b : List UInt8
  n : Int
/-- a step's cells, but that of its bytes -/
structure OpC (w : World) (g off : Nat) (o : Opp) (v : Value) : Prop where
  c0 : w.cell? ⟨g, off, none⟩ = some (.int .i64 o.kind)
  c1 : w.cell? ⟨g, off + 1, none⟩ = some (.string (bs o.p))
  c2 : w.cell? ⟨g, off + 2, none⟩ = some (.string (bs o.f.path))
  c3 : w.cell? ⟨g, off + 3, none⟩ = some (.string (bs o.f.text))
  c4 : w.cell? ⟨g, off + 4, none⟩ = some (.int .i64 o.f.blob)
  c5 : w.cell? ⟨g, off + 5, none⟩ = some (.int .i64 o.f.size)
  c6 : w.cell? ⟨g, off + 6, none⟩ = some v
  c7 : w.cell? ⟨g, off + 7, none⟩ = some (.int .i64 o.n)
  bs : BS w v o.b
/-- a script, all of it in blocks of P -/
structure OS (P : Nat → Prop) (w : World) (v : Value) (l : List Opp) : Prop where
  lt : ∀ k, P k → k < w.heap.size
  form : ∃ a c, v = .slice a l.length c ∧ ∀ k, (hk : k < l.length) → ∃ g off u, a = some ⟨g, off, none⟩ ∧ P g ∧ OpC w g (off + k * 8) l[k] u ∧ (l[k].b ≠ [] → ∀ j, u.ownBlock = some j → P j)
/-- how much a step may bring -/
structure Ook (o : Opp) : Prop where
  p : o.p.length ≤ 4000000
  f : Fok o.f
  b : o.b.length ≤ 4000000
  n0 : -9223372036854775808 ≤ o.n
  n1 : o.n ≤ 9223372036854775807
  k0 : -9223372036854775808 ≤ o.kind
  k1 : o.kind ≤ 9223372036854775807
/-- what a tree holds is at most n of each -/
structure TSz (n : Nat) (T : TT) : Prop where
  nf : T.fs.length ≤ n
  nd : T.ds.length ≤ n
  nj : T.jl.length ≤ n
  nt : T.tn.length ≤ n
  ns : T.st ≤ n
  ef : ∀ f ∈ T.fs, Fok f
  s1 : T.sp ≤ 9223372036854775807
theorem cell_stay {w w' : World} {g : Nat} (h : w'.heap[g]? = w.heap[g]?) (d : Nat) : w'.cell? ⟨g, d, none⟩ = w.cell? ⟨g, d, none⟩ := by
  unfold World.cell?
  simp only [h]
theorem BS.stay {w w' : World} {v : Value} {l : List UInt8} (h : BS w v l) (hz : w.heap.size ≤ w'.heap.size) (hs : l ≠ [] → ∀ k, v.ownBlock = some k → w'.heap[k]? = w.heap[k]?) : BS w' v l := by
  rcases h with h | ⟨b, off, cap, rfl, hc, hlt, hcell⟩
  · exact .inl h
  · exact .inr ⟨b, off, cap, rfl, hc, Nat.lt_of_lt_of_le hlt hz, fun i u hu => (cell_stay (hs (by rintro rfl; simp [bc] at hu) b rfl) _).trans (hcell i u hu)⟩
theorem OpC.stay {w w' : World} {g off : Nat} {o : Opp} {v : Value} (h : OpC w g off o v) (hz : w.heap.size ≤ w'.heap.size) (hg : w'.heap[g]? = w.heap[g]?) (hv : o.b ≠ [] → ∀ k, v.ownBlock = some k → w'.heap[k]? = w.heap[k]?) : OpC w' g off o v := by
  have e := cell_stay hg
  exact ⟨(e _).trans h.c0, (e _).trans h.c1, (e _).trans h.c2, (e _).trans h.c3, (e _).trans h.c4, (e _).trans h.c5, (e _).trans h.c6, (e _).trans h.c7, h.bs.stay hz hv⟩
theorem OS.only {P F : Nat → Prop} {w w' : World} {v : Value} {l : List Opp} (h : OS P w v l) (hb : OnlyP F w w') (hd : ∀ k, P k → ¬ F k) : OS P w' v l := by
  obtain ⟨a, c, e, hf⟩ := h.form
  refine ⟨fun k hk => Nat.lt_of_lt_of_le (h.lt k hk) hb.size, a, c, e, fun k hk => ?_⟩
  obtain ⟨g, off, u, ha, hg, hc, hu⟩ := hf k hk
  exact ⟨g, off, u, ha, hg, hc.stay hb.size (hb.block g (h.lt g hg) (hd g hg)) (fun hne j hj => hb.block j (h.lt j (hu hne j hj)) (hd j (hu hne j hj))), hu⟩
theorem OS.later {P : Nat → Prop} {w w' : World} {v : Value} {l : List Opp} (h : OS P w v l) (hb : Below w.heap.size w w') : OS P w' v l := h.only (OnlyP.of_below hb fun _ => False) (fun _ _ h => h)
/-- the first ones of a script -/
theorem OS.take {P : Nat → Prop} {w : World} {a : Option Addr} {n c : Nat} {l : List Opp} (h : OS P w (.slice a n c) l) (k : Nat) (hk : k ≤ l.length) (d : Nat) : OS P w (.slice a k d) (l.take k) := by
  obtain ⟨a', c', e, hf⟩ := h.form
  injection e with e1 e2 e3
  subst e1
  refine ⟨h.lt, a, d, by rw [List.length_take, Nat.min_eq_left hk], fun i hi => ?_⟩
  rw [List.length_take] at hi
  obtain ⟨g, off, u, ha, hg, hc, hu⟩ := hf i (by omega)
  exact ⟨g, off, u, ha, hg, by rw [List.getElem_take]; exact hc, by rw [List.getElem_take]; exact hu⟩

/-- a step of the program's: it answers its number, it changes the tree alone -/
abbrev StP (TA : World → (Nat → Prop) → Nat → TT → Prop) (w : World) (F : Nat → Prop) (c : Nat) (R : TT × Int) (e : Ending) (w' : World) : Prop :=
  e = .returned (.int .i64 R.2) ∧ TA w' (nwF F w w') c R.1 ∧ OnlyP F w w'
/-- what New answers -/
def NwP (TA : World → (Nat → Prop) → Nat → TT → Prop) (w : World) (l : List Fl) (e : Ending) (w' : World) : Prop :=
  Below w.heap.size w w' ∧ ((validE l = 0 ∧ ∃ c, e = .returned (.tuple #[.pointer (some ⟨c, 0, none⟩), .int .i64 0]) ∧ TA w' (fun k => w.heap.size ≤ k ∧ k < w'.heap.size) c (newT l))
    ∨ (validE l ≠ 0 ∧ e = .returned (.tuple #[.pointer none, .int .i64 (validE l)])))
/-- a tree of the program's: what it holds, its blocks, what it answers -/
structure TcP (TA : World → (Nat → Prop) → Nat → TT → Prop) : Prop where
  stay : ∀ {w w' F c T}, TA w F c T → w.heap.size ≤ w'.heap.size → (∀ k, F k → w'.heap[k]? = w.heap[k]?) → Ev w' → TA w' F c T
  ev : ∀ {w F c T}, TA w F c T → Ev w
  wider : ∀ {w F F' c T}, TA w F c T → (∀ k, F k → F' k) → (∀ k, F' k → k < w.heap.size) → TA w F' c T
  lt : ∀ {w F c T}, TA w F c T → ∀ k, F k → k < w.heap.size
  ok : ∀ {w F c T}, TA w F c T → TOk T
  new : ∀ {w v l}, FS w v l → FSm l → Ev w → Calls Tryz.prog 7 #[v] w (NwP TA w l)
  mkd : ∀ {w F c T}, TA w F c T → TSz 4000000 T → ∀ p : List UInt8, p.length ≤ 4000000 → Calls Tryz.prog 28 #[.pointer (some ⟨c, 0, none⟩), .string (bs p)] w (StP TA w F c (T.mk' p))
  wri : ∀ {w F c T}, TA w F c T → TSz 4000000 T → ∀ f : Fl, Fok f → Calls Tryz.prog 32 #[.pointer (some ⟨c, 0, none⟩), f.val] w (StP TA w F c (T.wr f))
  del : ∀ {w F c T}, TA w F c T → TSz 4000000 T → ∀ p : List UInt8, p.length ≤ 4000000 → Calls Tryz.prog 29 #[.pointer (some ⟨c, 0, none⟩), .string (bs p)] w (StP TA w F c (T.dl p))
  rmd : ∀ {w F c T}, TA w F c T → TSz 4000000 T → ∀ p : List UInt8, p.length ≤ 4000000 → Calls Tryz.prog 33 #[.pointer (some ⟨c, 0, none⟩), .string (bs p)] w (StP TA w F c (T.rm p))
  app : ∀ {w F c T}, TA w F c T → TSz 4000000 T → ∀ {v b}, BS w v b → (b ≠ [] → ∀ k, v.ownBlock = some k → ¬ F k) → b.length ≤ 4000000 → Calls Tryz.prog 20 #[.pointer (some ⟨c, 0, none⟩), v] w (StP TA w F c (T.ap b))
  clr : ∀ {w F c T}, TA w F c T → TSz 4000000 T → Calls Tryz.prog 19 #[.pointer (some ⟨c, 0, none⟩)] w (StP TA w F c T.cl)
  stp : ∀ {w F c T}, TA w F c T → TSz 4000000 T → ∀ n : Int, -9223372036854775808 ≤ n → n ≤ 9223372036854775807 → Calls Tryz.prog 10 #[.pointer (some ⟨c, 0, none⟩), .int .i64 n] w fun e w' => e = .returned (.tuple #[]) ∧ TA w' (nwF F w w') c (T.stop n) ∧ OnlyP F w w'
  sts : ∀ {w F c T}, TA w F c T → TSz 4000000 T → Calls Tryz.prog 12 #[.pointer (some ⟨c, 0, none⟩)] w fun e w' => e = .returned (.int .i64 T.st) ∧ Below w.heap.size w w'
  cra : ∀ {w F c T}, TA w F c T → TSz 4000000 T → ∀ n : Int, -9223372036854775808 ≤ n → n ≤ 9223372036854775807 → Calls Tryz.prog 13 #[.pointer (some ⟨c, 0, none⟩), .int .i64 n] w fun e w' => ∃ c', e = .returned (.pointer (some ⟨c', 0, none⟩)) ∧ TA w' (fun k => w.heap.size ≤ k ∧ k < w'.heap.size) c' (T.cr n) ∧ Below w.heap.size w w'
  fil : ∀ {w F c T}, TA w F c T → TSz 4000000 T → Calls Tryz.prog 15 #[.pointer (some ⟨c, 0, none⟩)] w fun e w' => ∃ v, e = .returned v ∧ OwnF w.heap.size w' v T.fs ∧ Below w.heap.size w w'
  drs : ∀ {w F c T}, TA w F c T → TSz 4000000 T → Calls Tryz.prog 17 #[.pointer (some ⟨c, 0, none⟩)] w fun e w' => ∃ v, e = .returned v ∧ Oww w.heap.size w' v T.ds ∧ Below w.heap.size w w'
  jou : ∀ {w F c T}, TA w F c T → TSz 4000000 T → Calls Tryz.prog 18 #[.pointer (some ⟨c, 0, none⟩)] w fun e w' => ∃ v, e = .returned v ∧ OwnB w.heap.size w' v T.jl ∧ Below w.heap.size w w'
section
variable {TA : World → (Nat → Prop) → Nat → TT → Prop} {w w' : World} {F G : Nat → Prop} {c : Nat} {T : TT}
theorem TcP.later (C : TcP TA) (h : TA w F c T) (hb : Below w.heap.size w w') : TA w' F c T := C.stay h hb.size (fun k hk => hb.block k (C.lt h k hk)) ((C.ev h).later hb)
theorem TcP.only (C : TcP TA) (h : TA w F c T) (hb : OnlyP G w w') (hd : ∀ k, F k → ¬ G k) (hev : Ev w') : TA w' F c T := C.stay h hb.size (fun k hk => hb.block k (C.lt h k hk) (hd k hk)) hev
end
end Go.Proofs.YtlkkmcibjhoneaaGreatDoor

namespace Go.Proofs.YtlkkmcibjhoneaaGreatDoor
open Go.RowKit

/-- a step of a script, but a crash or a stop -/
def opR (o : Opp) (T : TT) : TT × Int :=
  if o.kind = 1 then T.mk' o.p else if o.kind = 2 then T.wr o.f else if o.kind = 3 then T.dl o.p else if o.kind = 4 then T.rm o.p else if o.kind = 5 then T.ap o.b else if o.kind = 6 then T.cl else (T, 0)
def runT (T : TT) (l : List Opp) : TT := l.foldl (fun T o => (opR o T).1) T
theorem runT_snoc (T : TT) (l : List Opp) (k : Nat) (h : k < l.length) : runT T (l.take (k + 1)) = (opR l[k] (runT T (l.take k))).1 := by
  unfold runT
  rw [List.take_succ_eq_append_getElem h, List.foldl_append]
  rfl
/-- how much a script may bring -/
def bsm (l : List Opp) : Nat := (l.map (fun o => o.b.length + 1)).sum
theorem bsm_snoc (l : List Opp) (k : Nat) (h : k < l.length) : bsm (l.take (k + 1)) = bsm (l.take k) + (l[k].b.length + 1) := by
  unfold bsm
  rw [List.take_succ_eq_append_getElem h, List.map_append, List.sum_append]
  simp
theorem bsm_take (l : List Opp) (k : Nat) : bsm (l.take k) ≤ bsm l := by
  have e : bsm l = bsm (l.take k) + bsm (l.drop k) := by
    unfold bsm
    rw [← List.sum_append, ← List.map_append, List.take_append_drop]
  omega
theorem ins_lenT (x : List UInt8) : ∀ l, (ins x l).length ≤ l.length + 1
  | [] => by simp [ins]
  | y :: l => by
    have := ins_lenT x l
    unfold ins
    split
    · simp
    · split
      · simp
      · simp; omega
theorem insF_len (f : Fl) : ∀ l, (insF f l).length ≤ l.length + 1
  | [] => by simp [insF]
  | g :: l => by
    have := insF_len f l
    unfold insF
    split
    · simp; omega
    · split <;> simp
theorem TSz.mono {n m : Nat} {T : TT} (h : TSz n T) (hm : n ≤ m) : TSz m T := ⟨Nat.le_trans h.nf hm, Nat.le_trans h.nd hm, Nat.le_trans h.nj hm, Nat.le_trans h.nt hm, Nat.le_trans h.ns hm, h.ef, h.s1⟩
theorem TSz.cnt {n : Nat} {T : TT} (h : TSz n T) (b : List UInt8) : TSz (n + b.length + 1) (T.cnt b).1 := by
  have h1 := h.nf
  have h2 := h.nd
  have h3 := h.nj
  have h4 := h.nt
  have h5 := h.ns
  have h6 := h.s1
  unfold TT.cnt
  split
  · exact ⟨by show T.fs.length ≤ _; omega, by show T.ds.length ≤ _; omega, by show T.jl.length ≤ _; omega, by show T.tn.length ≤ _; omega, by show T.st + 1 ≤ _; omega, h.ef, h6⟩
  · split
    · exact ⟨by show T.fs.length ≤ _; omega, by show T.ds.length ≤ _; omega, by show T.jl.length ≤ _; omega, by show T.tn.length ≤ _; omega, by show T.st + 1 ≤ _; omega, h.ef, by show T.sp - 1 ≤ _; omega⟩
    · split
      · exact ⟨by show T.fs.length ≤ _; omega, by show T.ds.length ≤ _; omega, by show T.jl.length ≤ _; omega, by show T.tn.length ≤ _; omega, by show T.st + 1 ≤ _; omega, h.ef, h6⟩
      · exact ⟨by show T.fs.length ≤ _; omega, by show T.ds.length ≤ _; omega, by show T.jl.length ≤ _; omega, by show b.length ≤ _; omega, by show T.st + 1 ≤ _; omega, h.ef, h6⟩
theorem cnt_jl (T : TT) (b : List UInt8) : (T.cnt b).1.jl = T.jl ∧ (T.cnt b).1.fs = T.fs ∧ (T.cnt b).1.ds = T.ds := by
  unfold TT.cnt
  split
  · exact ⟨rfl, rfl, rfl⟩
  · split
    · exact ⟨rfl, rfl, rfl⟩
    · split <;> exact ⟨rfl, rfl, rfl⟩
theorem TSz.step {n : Nat} {T : TT} (h : TSz n T) (b : List UInt8) {g : TT → TT × Int} (hg : TSz (n + b.length + 1) (T.cnt b).1 → TSz (n + b.length + 1) (g (T.cnt b).1).1) : TSz (n + b.length + 1) (T.step b g).1 := by
  unfold TT.step
  split
  · exact hg (h.cnt b)
  · exact h.cnt b
theorem TSz.op {n : Nat} {T : TT} (h : TSz n T) {o : Opp} (ho : Ook o) : TSz (n + (o.b.length + 1)) (opR o T).1 := by
  have h1 := h.nf
  have h2 := h.nd
  have h3 := h.nj
  obtain ⟨j1, j2, j3⟩ := cnt_jl T []
  unfold opR
  split
  · refine (TSz.step (g := mkG o.p) h [] fun hc => ?_).mono (by simp)
    unfold mkG
    split
    · exact ⟨hc.nf, by show (ins _ (T.cnt []).1.ds).length ≤ _; rw [j3]; have := ins_lenT o.p T.ds; simp; omega, hc.nj, hc.nt, hc.ns, hc.ef, hc.s1⟩
    · exact hc
  · split
    · refine (TSz.step (g := wrG o.f) h [] fun hc => ?_).mono (by simp)
      unfold wrG
      split
      · split
        · exact ⟨by show (insF _ (T.cnt []).1.fs).length ≤ _; rw [j2]; have := insF_len o.f T.fs; simp; omega, hc.nd, hc.nj, hc.nt, hc.ns, fun x hx => by
            rcases mem_insF hx with rfl | hx
            · exact ho.f
            · exact hc.ef x hx, hc.s1⟩
        · exact hc
      · exact hc
    · split
      · refine (TSz.step (g := dlG o.p) h [] fun hc => ?_).mono (by simp)
        unfold dlG
        split
        · exact ⟨Nat.le_trans (List.length_filter_le _ _) hc.nf, hc.nd, hc.nj, hc.nt, hc.ns, fun x hx => hc.ef x (List.mem_filter.1 hx).1, hc.s1⟩
        · exact hc
      · split
        · refine (TSz.step (g := rmG o.p) h [] fun hc => ?_).mono (by simp)
          unfold rmG
          split
          · exact ⟨hc.nf, Nat.le_trans (List.length_filter_le _ _) hc.nd, hc.nj, hc.nt, hc.ns, hc.ef, hc.s1⟩
          · exact hc
        · split
          · refine (TSz.step (g := apG o.b) h o.b fun hc => ?_)
            exact ⟨hc.nf, hc.nd, by show ((T.cnt o.b).1.jl ++ o.b).length ≤ _; rw [(cnt_jl T o.b).1, List.length_append]; omega, hc.nt, hc.ns, hc.ef, hc.s1⟩
          · split
            · refine (TSz.step (g := clG) h [] fun hc => ?_).mono (by simp)
              exact ⟨hc.nf, hc.nd, Nat.zero_le _, hc.nt, hc.ns, hc.ef, hc.s1⟩
            · exact h.mono (by omega)
theorem TSz.run {n : Nat} {T : TT} (h : TSz n T) {l : List Opp} (ho : ∀ o ∈ l, Ook o) : ∀ k, k ≤ l.length → TSz (n + bsm (l.take k)) (runT T (l.take k))
  | 0, _ => by simpa [bsm, runT] using h
  | k + 1, hk => by
    have ih := h.run ho k (by omega)
    rw [runT_snoc T l k (by omega), bsm_snoc l k (by omega), ← Nat.add_assoc]
    exact ih.op (ho _ (List.getElem_mem _))

end Go.Proofs.YtlkkmcibjhoneaaGreatDoor
