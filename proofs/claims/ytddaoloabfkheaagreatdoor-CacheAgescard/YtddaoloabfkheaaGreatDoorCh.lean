/-
  The document's Load.
-/
import Derived.Test.YtddaoloabfkheaaGreatDoorJCd
import Derived.RegionTactic
import Derived.BigRegion
namespace Go.Proofs.YtddaoloabfkheaaGreatDoor
open Go.RowKit

theorem cell_alloc {w : World} {g i : Nat} {v : Value} (o : Obj) (hg : g < w.heap.size) (hc : w.cell? ⟨g, i, none⟩ = some v) : (w.alloc o).cell? ⟨g, i, none⟩ = some v := ((balloc w o).cell (p := ⟨g, i, none⟩) hg).trans hc
theorem step_app_K {ops : Array Oper} {o : Oper} {a : Act} {w : World} {K : Act → World → Prop} {Q : Exit → Act → World → Prop} {E : Prop} (hgd : o.guard = none) (s y : Operand)
    (ho : o.op = .call { callee := .builtin .append, args := #[s, y], argTypes := #[54, 54] }) (base : Nat) (l k : List Lb) (v x : Value) (hv : a.eval s = v) (hx : a.eval y = x)
    (hown : OwnK base w v l) (hs : Src Tryz.prog 2 54 x k.length (lc k) w) (hb : l.length + k.length ≤ 100000000) (hbase : base ≤ w.heap.size)
    (h : ∀ v' w', OwnK base w' v' (l ++ k) → w.grownBy w' v.ownBlock → (v'.ownBlock = v.ownBlock ∨ v'.ownBlock = some w.heap.size) → K (a.put o.dst v') w') :
    if Region.wanted o (yielded ops a.tmps) = true then Oper.wp Tryz.prog o a w K Q else E := by
  have hw : Region.wanted o (yielded ops a.tmps) = true := by simp [Region.wanted, hgd]
  rw [if_pos hw]
  obtain ⟨i0, hi, hz0, hz1, hz2⟩ := info_parts info_K
  obtain ⟨v', w', hr, h2, h3, h4⟩ := run_append_src (P := Tryz.prog) w base 54 54 o.type 106 i0 _ 2 32 und_K hi hz0 hz1 hz2 rfl v l.length (lc l) hown x k.length (lc k) hs (by simp only [maxLen]; omega) (by omega) hbase
  unfold Oper.wp execOp
  simp only [ho, resolve, invoke, builtin, Sem.run_bind, Sem.run_pure, Result.andThen_ok, List.map_toArray, List.map_cons, List.map_nil, hv, hx, hr]
  exact h v' w' (by unfold OwnK; rw [lc_append, List.length_append]; exact h2) h3 h4
theorem src_Kd (w : World) (t : Lb) : Src Tryz.prog 2 54 (.slice (some ⟨w.heap.size, 0, none⟩) 1 1) [t].length (lc [t]) (w.alloc (.cells #[.string (bs t.pkg), .string (bs t.name)] 106)).drew := by
  refine Src.ofSlice _ und_K ⟨w.heap.size, 0, none⟩ 1 1 (lc [t]) (by simp [lc_length]) ?_ (lc_one _)
  exact fun j u hu => World.news_of_block (heap_alloc_new w _) j u hu
theorem OwnK.blk {base : Nat} {w : World} {v : Value} {l : List Lb} (h : OwnK base w v l) {k : Nat} (hk : v.ownBlock = some k) : ∃ cs fr, w.heap[k]? = some (.cells cs 106 fr) := by
  rcases h.2 with ⟨rfl, _⟩ | ⟨g, cap, cur, rfl, _, hg, _⟩
  · cases hk
  · simp only [Value.ownBlock, Option.some.injEq] at hk; subst hk; exact ⟨_, _, hg⟩
/-- a cache that is being read: its block gc, its row, both new since B -/
structure LC (B : Nat) (w : World) (gc : Nat) (Kc : List Lb) : Prop where
  it : ∃ v, w.heap[gc]? = some (.cells #[v] 56 (0, 0)) ∧ OwnK B w v Kc
  ge : B ≤ gc
section
variable {B gc : Nat} {w w' w3 w4 : World} {Kc : List Lb}
theorem LC.lt (h : LC B w gc Kc) : gc < w.heap.size := by obtain ⟨v, h1, _⟩ := h.it; exact (Array.getElem?_eq_some_iff.1 h1).1
theorem LC.later (h : LC B w gc Kc) (hb : Below w.heap.size w w') : LC B w' gc Kc := by
  have hl := h.lt
  obtain ⟨⟨v, h1, h2⟩, h3⟩ := h
  exact ⟨⟨v, (hb.block gc hl).trans h1, h2.later hb⟩, h3⟩
theorem LC.new (w : World) (hB : B ≤ w.heap.size) : LC B (w.alloc (.cells #[.slice none 0 0] 56)) w.heap.size [] := ⟨⟨_, heap_alloc_new _ _, OwnK.nil _ _⟩, hB⟩
theorem LC.row (h : LC B w gc Kc) : ∃ a c, w.cell? ⟨gc, 0, none⟩ = some (.slice a Kc.length c) ∧ OwnK B w (.slice a Kc.length c) Kc := by
  obtain ⟨v, h1, h2⟩ := h.it
  obtain ⟨a, c, e⟩ := h2.form
  subst e
  exact ⟨a, c, by simp [World.cell?, h1], h2⟩
theorem LC.rc (h : LC B w gc Kc) (ok : OKK Kc) : RC w (fun k => B ≤ k ∧ k < w.heap.size) gc Kc := by
  have hl := h.lt
  obtain ⟨⟨v, h1, h2⟩, h3⟩ := h
  exact ⟨⟨v, h1, h2.rs, fun k hk => h2.lt hk⟩, ⟨h3, hl⟩, fun k hk => hk.2, ok⟩
theorem LC.more (h : LC B w gc Kc) {o : Obj} {v v' : Value} {a : Lb} (hv : w.cell? ⟨gc, 0, none⟩ = some v) (ho : OwnK B w3 v' (Kc ++ [a])) (hg : (w.alloc o).drew.grownBy w3 v.ownBlock) (hB : B ≤ w.heap.size) :
    w3.cell? ⟨gc, 0, none⟩ = some v ∧ w3.frozen? ⟨gc, 0, none⟩ = false ∧ Hid (LC B (w3.setCell ⟨gc, 0, none⟩ v') gc (Kc ++ [a]) ∧ Below B w (w3.setCell ⟨gc, 0, none⟩ v')) := by
  have hl := h.lt
  have hge := h.ge
  obtain ⟨⟨v0, h1, h2⟩, _⟩ := h
  have e0 : v0 = v := by simpa [World.cell?, h1] using hv
  subst e0
  have hb2 : Below w.heap.size w (w.alloc o).drew := (balloc w o).drew
  have hon : Only v0.ownBlock.toList w w3 := by
    obtain ⟨g1, g2, g3, g4, g5⟩ := hg
    have h5 : Only v0.ownBlock.toList (w.alloc o).drew w3 := ⟨g1, g2, g3, g4, fun k hk hn => g5 k hk (fun e => hn (by rw [← e]; simp))⟩
    exact (Only.of_below hb2 _).trans h5
  have hne : ∀ k, v0.ownBlock = some k → k ≠ gc := by
    rintro k hk rfl
    obtain ⟨cs, fr, e⟩ := h2.blk hk
    rw [h1] at e
    injection e with e; injection e with _ e _; exact absurd e (by decide)
  have hg3 : w3.heap[gc]? = some (.cells #[v0] 56 (0, 0)) := (hon.block gc hl (fun hm => hne gc (by simpa using hm) rfl)).trans h1
  have hvd : ∀ k, v'.ownBlock = some k → k ≠ gc := by
    rintro k hk rfl
    obtain ⟨cs, fr, e⟩ := ho.blk hk
    rw [hg3] at e
    injection e with e; injection e with _ e _; exact absurd e (by decide)
  have hse := Only.set w3 gc 0 v'
  refine ⟨by simp [World.cell?, hg3], by simp [World.frozen?, hg3], ⟨⟨v', ?_, ho.only hse (fun k hk e => hvd k hk (by simpa using e))⟩, hge⟩, ?_⟩
  · rw [heap_setCell _ _ _ _ hg3]; simp
  · have hb4 : Below B w w3 := hon.below hB (fun k hk => by have := h2.lt (k := k) (by simpa using hk); exact this.1)
    exact hb4.trans (hse.below (Nat.le_trans hB hb4.size) (fun k hk => by have e : k = gc := (by simpa using hk); omega))
end
/-- what Load answers: a cache of these bytes, or none -/
def LdP (w : World) (b : List UInt8) (e : Ending) (w' : World) : Prop :=
  Below w.heap.size w w' ∧ ((∃ K g, OKK K ∧ savB K = b ∧ e = .returned (.tuple #[.pointer (some ⟨g, 0, none⟩), .int .i64 0]) ∧ RC w' (fun k => w.heap.size ≤ k ∧ k < w'.heap.size) g K)
    ∨ ((∀ K, OKK K → savB K = b → False) ∧ e = .returned (.tuple #[.pointer none, .int .i64 14])))

set_option maxRecDepth 100000 in
set_option maxHeartbeats 16000000 in
theorem rload_any {w : World} {v : Value} {b : List UInt8} (h : BS w v b) (hl : b.length ≤ 1000000000) : Calls Tryz.prog 20 #[v] w (LdP w b) := by
  have H : Hid (BS w v b) := h
  have HTx : Hid (∀ (W : World) (z : Int), Below w.heap.size w W → -1 ≤ z → z ≤ 1000000000000 → Calls Tryz.prog 44 #[v, .int .i64 z] W fun e w' => e = .returned (.tuple #[.string (bs (txP b z).1), .int .i64 (txP b z).2]) ∧ Below W.heap.size W w') := fun W z hW h1 h2 => rtxt_any (h.later hW) z h1 h2 (by omega)
  have HNm : Hid (∀ (W : World) (z : Int), Below w.heap.size w W → -1 ≤ z → z ≤ 1000000000000 → Calls Tryz.prog 45 #[v, .int .i64 z] W fun e w' => e = .returned (.int .i64 (nmP b z)) ∧ Below W.heap.size W w') := fun W z hW h1 h2 => rnumb_any (h.later hW) z h1 h2
  have t1 := txP_range b 0
  have n1 := nmP_range b (txP b 0).2
  have HH : Hid (∀ K, OKK K → savB K = b → txP b 0 = (hdW, 17) ∧ nmP b 17 = (K.length : Int) ∧ K.length ≤ 512) := fun K ok e => by
    have := ld_head ok
    rw [e] at this
    exact ⟨this.1, this.2, ok.len⟩
  have HS : Hid ((txP b 0).1 = hdW → (txP b 0).2 = 17) := fun e => (txP_hd e).1
  have HI : Hid (∀ n : Nat, (txP b 0).1 = hdW → nmP b 17 = (n : Int) → n ≤ 512 → LI b n 0 [] 21) := fun n h1 h2 h3 => LI.start h1 h2 h3
  have HT0 := HTx.out w 0 (Below.refl _ _) (by omega) (by omega)
  obtain ⟨⟨hd, at0⟩, hR0⟩ : ∃ R, txP b 0 = R := ⟨_, rfl⟩
  rw [hR0] at t1 n1 HH HS HI HT0
  simp only at t1 n1 HH HS HI HT0
  have HT0 : Hid (Calls Tryz.prog 44 #[v, .int .i64 0] w fun e w' => e = .returned (.tuple #[.string (bs hd), .int .i64 at0]) ∧ Below w.heap.size w w') := HT0
  obtain ⟨n0, hn0⟩ : ∃ n0, nmP b at0 = n0 := ⟨_, rfl⟩
  have HN0 : Hid (∀ W : World, Below w.heap.size w W → Calls Tryz.prog 45 #[v, .int .i64 at0] W fun e w' => e = .returned (.int .i64 n0) ∧ Below W.heap.size W w') := fun W hW => by
    have := HNm.out W at0 hW (by omega) (by omega)
    rw [hn0] at this; exact this
  rw [hn0] at n1
  have HNE : Hid (nmP b at0 = n0) := hn0
  obtain ⟨av, cv, hvv, _⟩ := h.len
  obtain ⟨N, hN⟩ : ∃ N, b.length = N := ⟨_, rfl⟩
  rw [hN] at hvv hl n1
  subst hvv
  have HN : Hid (b.length = N) := hN
  clear h hR0 hn0 hN
  have hsz : (⟨#[99, 111, 112, 115, 101, 32, 99, 97, 99, 104, 101, 32, 49]⟩ : ByteArray) = bs hdW := rfl
  by_cases hbad : hd ≠ hdW ∨ n0 < 0 ∨ 512 < n0
  · have HNo : Hid (∀ K, OKK K → savB K = b → False) := fun K ok e => by
      obtain ⟨h1, h2, h3⟩ := HH.out K ok e
      injection h1 with h1 h4
      have h5 := HNE.out
      rw [h4, h2] at h5
      rcases hbad with hb | hb | hb
      · exact hb h1
      · omega
      · omega
    clear HH HS HI
    go_enter Tryz.func20, Tryz.ntmps20
    go_wp2_with fail
    refine HT0.out.mono ?_
    rintro e w1 ⟨rfl, hb1⟩
    have H1 : Hid (Below w.heap.size w w1) := hb1
    clear hb1
    go_wp2_with fail
    refine (HN0.out _ H1.out).mono ?_
    rintro e w2 ⟨rfl, hb2⟩
    have H2 : Hid (Below w.heap.size w w2) := bstep H1.out hb2
    clear hb2
    by_cases hh : hd = hdW
    · have q1 : (hd == hdW) = true := by simpa using hh
      by_cases hm : n0 < 0
      · go_wp2_with fail
        go_ret2
        exact ⟨H2.out, .inr ⟨HNo.out, rfl⟩⟩
      · have hm2 : 512 < n0 := by
          rcases hbad with hb | hb | hb
          · exact absurd hh hb
          · exact absurd hb hm
          · exact hb
        go_wp2_with fail
        go_ret2
        exact ⟨H2.out, .inr ⟨HNo.out, rfl⟩⟩
    · have q1 : ((bs hd).toList == (bs hdW).toList) = false := by rw [bs_toList, bs_toList]; simpa using hh
      go_wp2_with fail
      go_ret2
      exact ⟨H2.out, .inr ⟨HNo.out, rfl⟩⟩
  · have e1 : hd = hdW := Classical.not_not.1 (fun e => hbad (.inl e))
    have e2 : ¬ n0 < 0 := fun e => hbad (.inr (.inl e))
    have e3 : ¬ 512 < n0 := fun e => hbad (.inr (.inr e))
    obtain rfl : at0 = 17 := HS.out e1
    obtain ⟨n, rfl⟩ : ∃ n : Nat, n0 = (n : Int) := ⟨n0.toNat, by omega⟩
    have HL0 : Hid (LI b n 0 [] 21) := HI.out n e1 HNE.out (by omega)
    have hn5 : n ≤ 512 := by omega
    subst e1
    clear HH HS HI hbad e2 e3 HNE n1 HNm t1
    go_enter Tryz.func20, Tryz.ntmps20
    go_wp2_with fail
    refine HT0.out.mono ?_
    rintro e w1 ⟨rfl, hb1⟩
    have H1 : Hid (Below w.heap.size w w1) := hb1
    clear hb1
    go_wp2_with fail
    refine (HN0.out _ H1.out).mono ?_
    rintro e w2 ⟨rfl, hb2⟩
    have H2 : Hid (Below w.heap.size w w2) := bstep H1.out hb2
    clear hb2
    obtain ⟨gc, hgc⟩ : ∃ gc, w2.heap.size = gc := ⟨_, rfl⟩
    obtain ⟨wA, hwA⟩ : ∃ wA, w2.alloc (.cells #[.slice none 0 0] 56) = wA := ⟨_, rfl⟩
    have HA : Hid (LC w.heap.size wA gc [] ∧ Below w.heap.size w wA) := by rw [← hwA, ← hgc]; exact ⟨LC.new w2 H2.out.size, bstep H2.out (balloc _ _)⟩
    have q1 : (hdW == hdW) = true := by simp
    have m1 : ¬ (n : Int) < 0 := by omega
    have m2 : ¬ (512 : Int) < (n : Int) := by omega
    go_wp2_with fail
    clear hgc hwA HT0 HN0 H1 H2 q1
    go_loopw [5, 8] (fun s5 s8 wr => ∃ (k q : Nat) (Kc : List Lb), s5 = .int .i64 q ∧ s8 = .int .i64 k ∧ k ≤ n ∧ q ≤ N ∧ LI b n k Kc q ∧ LC w.heap.size wr gc Kc ∧ Below w.heap.size w wr) (fun _ s8 _ => n - (intOf s8).toNat)
    case atStart => exact ⟨0, 21, [], rfl, rfl, by omega, by have := HL0.out.lb; rw [HN.out] at this; exact this, HL0.out, HA.out.1, HA.out.2⟩
    case round =>
      obtain ⟨k, q, Kc, rfl, rfl, hk, hqN, hI, hC, hb⟩ := hrel
      have HX : Hid (LI b n k Kc q ∧ LC w.heap.size wr gc Kc ∧ Below w.heap.size w wr) := ⟨hI, hC, hb⟩
      clear hI hC hb
      by_cases hlt : k < n
      · have k1 : (k : Int) < (n : Int) := by omega
        obtain ⟨⟨p, nx⟩, hp⟩ : ∃ R, txP b q = R := ⟨_, rfl⟩
        obtain ⟨⟨s, ns⟩, hs⟩ : ∃ R, txP b nx = R := ⟨_, rfl⟩
        have r1 := txP_range b q
        have r2 := txP_range b nx
        have HNx : Hid (∀ K, OKK K → savB K = b → 0 ≤ nx ∧ rgt p = true ∧ s.length ≤ 4096 ∧ (⟨p, s⟩ : Lb) ∉ Kc ∧ (b.drop q).take (entB ⟨p, s⟩).length = entB ⟨p, s⟩ ∧ q + (entB ⟨p, s⟩).length ≤ b.length) := HX.out.1.next2 hlt hp hs
        rw [hp, HN.out] at r1
        rw [hs, HN.out] at r2
        simp only at r1 r2
        have HT1 : Hid (∀ W : World, Below w.heap.size w W → Calls Tryz.prog 44 #[.slice av N cv, .int .i64 q] W fun e w' => e = .returned (.tuple #[.string (bs p), .int .i64 nx]) ∧ Below W.heap.size W w') := fun W hW => by
          have := HTx.out W q hW (by omega) (by omega)
          rw [hp] at this; exact this
        have HT2 : Hid (∀ W : World, Below w.heap.size w W → Calls Tryz.prog 44 #[.slice av N cv, .int .i64 nx] W fun e w' => e = .returned (.tuple #[.string (bs s), .int .i64 ns]) ∧ Below W.heap.size W w') := fun W hW => by
          have := HTx.out W nx hW (by omega) (by omega)
          rw [hs] at this; exact this
        have HR : Hid (∀ W : World, Calls Tryz.prog 46 #[.string (bs p)] W fun e w' => e = .returned (.bool (rgt p)) ∧ Below W.heap.size W w') := fun W => rright_any p W (by omega)
        have HK : Hid (∀ W : World, LC w.heap.size W gc Kc → Calls Tryz.prog 47 #[.pointer (some ⟨gc, 0, none⟩), .agg #[.string (bs p), .string (bs s)]] W fun e w' => e = .returned (.int .i64 (kix Kc ⟨p, s⟩)) ∧ Below W.heap.size W w') := fun W hW => by
          obtain ⟨a, c, h1, h2⟩ := hW.row
          exact rkat_any h1 hW.lt h2.rs (by have := HX.out.1.ok.len; omega) ⟨p, s⟩
        clear hp hs
        have hzs : (bs s).size = s.length := rfl
        go_wp2_with fail
        refine (HT1.out _ HX.out.2.2).mono ?_
        rintro e w3 ⟨rfl, hb3⟩
        have H3 : Hid (Below wr.heap.size wr w3 ∧ Below w.heap.size w w3) := ⟨hb3, bstep HX.out.2.2 hb3⟩
        clear hb3
        go_wp2_with fail
        refine (HT2.out _ H3.out.2).mono ?_
        rintro e w4 ⟨rfl, hb4⟩
        obtain ⟨gk, hgk⟩ : ∃ gk, w4.heap.size = gk := ⟨_, rfl⟩
        obtain ⟨w5, hw5⟩ : ∃ w5, w4.alloc (.cells #[.string (bs p), .string (bs s)] 106) = w5 := ⟨_, rfl⟩
        have H5 : Hid (LC w.heap.size w5 gc Kc ∧ Below w.heap.size w w5 ∧ RBK w5 gk ⟨p, s⟩) := by
          have h1 : Below wr.heap.size wr w5 := by rw [← hw5]; exact bstep (bstep H3.out.1 hb4) (balloc _ _)
          exact ⟨HX.out.2.1.later h1, bstep HX.out.2.2 h1, by rw [← hw5, ← hgk]; exact RBK.new w4 ⟨p, s⟩⟩
        clear hb4 H3 HT1 HT2
        obtain ⟨b0, b1, _, _⟩ := H5.out.2.2.cells
        simp only at b0 b1
        by_cases c1 : nx < 0
        · go_wp2_with fail
          go_ret2
          exact ⟨H5.out.2.1, .inr ⟨fun K ok e => (by have := (HNx.out K ok e).1; omega), rfl⟩⟩
        · cases c2 : rgt p
          · rw [c2] at HR
            go_wp2_with fail
            refine (HR.out _).mono ?_
            rintro e w6 ⟨rfl, hb6⟩
            have H6 : Hid (Below w.heap.size w w6) := bstep H5.out.2.1 hb6
            clear hb6
            go_wp2_with fail
            go_ret2
            exact ⟨H6.out, .inr ⟨fun K ok e => (by have := (HNx.out K ok e).2.1; rw [c2] at this; exact Bool.noConfusion this), rfl⟩⟩
          · rw [c2] at HR
            by_cases c3 : 4096 < s.length
            · have l1 : (4096 : Int) < ((bs s).size : Int) := by rw [hzs]; omega
              go_wp2_with fail
              refine (HR.out _).mono ?_
              rintro e w6 ⟨rfl, hb6⟩
              have H6 : Hid (Below w.heap.size w w6) := bstep H5.out.2.1 hb6
              clear hb6
              go_wp2_with fail
              go_ret2
              exact ⟨H6.out, .inr ⟨fun K ok e => (by have := (HNx.out K ok e).2.2.1; omega), rfl⟩⟩
            · have l1 : ¬ (4096 : Int) < ((bs s).size : Int) := by rw [hzs]; omega
              have hkr := kix_range Kc ⟨p, s⟩
              obtain ⟨x, hx⟩ : ∃ x, kix Kc ⟨p, s⟩ = x := ⟨_, rfl⟩
              rw [hx] at hkr HK
              clear hx
              rcases hkr with ⟨c4, hx0, hx1⟩ | ⟨c4, rfl⟩
              · have x1 : ¬ x < 0 := by omega
                have HC4 : Hid ((⟨p, s⟩ : Lb) ∈ Kc) := c4
                clear c4 hx1
                go_wp2_with fail
                refine (HR.out _).mono ?_
                rintro e w6 ⟨rfl, hb6⟩
                obtain ⟨d0, d1, _, _⟩ := (H5.out.2.2.later hb6).cells
                simp only at d0 d1
                have H6 : Hid (Below w.heap.size w w6 ∧ LC w.heap.size w6 gc Kc) := ⟨bstep H5.out.2.1 hb6, H5.out.1.later hb6⟩
                clear hb6 b0 b1
                go_wp2_with fail
                refine (HK.out _ H6.out.2).mono ?_
                rintro e w7 ⟨rfl, hb7⟩
                have H7 : Hid (Below w.heap.size w w7) := bstep H6.out.1 hb7
                clear hb7 d0 d1
                go_wp2_with fail
                go_ret2
                exact ⟨H7.out, .inr ⟨fun K ok e => (HNx.out K ok e).2.2.2.1 HC4.out, rfl⟩⟩
              · have HC4 : Hid ((⟨p, s⟩ : Lb) ∉ Kc) := c4
                clear c4
                have hdl := dir_le p
                have HD : Hid (∀ W, Calls Tryz.prog 48 #[.string (bs p)] W fun e w' => e = .returned (.string (bs (dir p))) ∧ w' = W) := fun W => rdir_any p W (by omega)
                have HPr : Hid (∀ W, Calls Tryz.prog 17 #[.string (bs (dir p)), .string (bs s)] W (LsP W (prsM (dir p) s))) := fun W => rpars_any (dir p) s (by omega) (by omega)
                have HTB : Hid (TBd (prsM (dir p) s).1) := prsM_tbd _ _
                have hEq := @entB_eq ⟨p, s⟩
                have hel := entB_le (k := ⟨p, s⟩) (rgt_len c2) (by simp only; omega)
                have hel4 : 4 ≤ (entB ⟨p, s⟩).length := by unfold entB enB txB; simp only [List.length_append, le_length]; omega
                obtain ⟨⟨A, z⟩, hAz⟩ : ∃ R, prsM (dir p) s = R := ⟨_, rfl⟩
                have HEq : Hid (entB ⟨p, s⟩ = enB ⟨p, s⟩ (A, z)) := hEq hAz
                rw [hAz] at HPr HTB
                obtain ⟨O, hO⟩ : ∃ O, entB ⟨p, s⟩ = O := ⟨_, rfl⟩
                have HMo : Hid ((b.drop q).take O.length = O → q + O.length ≤ b.length → LI b n (k + 1) (Kc ++ [⟨p, s⟩]) (q + O.length)) := by
                  intro h1 h2
                  rw [← hO] at h1 h2 ⊢
                  exact HX.out.1.more hlt HC4.out c2 (by simp only; omega) h1 h2
                rw [hO] at HNx HEq hel hel4
                obtain ⟨m, hm⟩ : ∃ m, O.length = m := ⟨_, rfl⟩
                rw [hm] at HNx HMo hel hel4
                have HM : Hid (O.length = m) := hm
                clear hEq hAz hdl hO hm
                generalize dir p = dp at *
                go_wp2_with fail
                refine (HR.out _).mono ?_
                rintro e w6 ⟨rfl, hb6⟩
                obtain ⟨d0, d1, _, _⟩ := (H5.out.2.2.later hb6).cells
                simp only at d0 d1
                have H6 : Hid (Below w.heap.size w w6 ∧ LC w.heap.size w6 gc Kc ∧ RBK w6 gk ⟨p, s⟩) := ⟨bstep H5.out.2.1 hb6, H5.out.1.later hb6, H5.out.2.2.later hb6⟩
                clear hb6 b0 b1 H5
                go_wp2_with fail
                refine (HK.out _ H6.out.2.1).mono ?_
                rintro e w7 ⟨rfl, hb7⟩
                have H7 : Hid (Below w.heap.size w w7 ∧ LC w.heap.size w7 gc Kc ∧ RBK w7 gk ⟨p, s⟩) := ⟨bstep H6.out.1 hb7, H6.out.2.1.later hb7, H6.out.2.2.later hb7⟩
                clear hb7 d0 d1 H6
                go_wp2_with fail
                refine (HD.out _).mono ?_
                rintro e w8 ⟨rfl, rfl⟩
                go_wp2_with fail
                refine (HPr.out _).mono ?_
                rintro e w9 ⟨v9, rfl, ho9, hb9⟩
                obtain ⟨d0, d1, _, _⟩ := (H7.out.2.2.later hb9).cells
                simp only at d0 d1
                have H9 : Hid (Below w.heap.size w w9 ∧ LC w.heap.size w9 gc Kc ∧ RBK w9 gk ⟨p, s⟩ ∧ GR w9 v9 A) := ⟨bstep H7.out.1 hb9, H7.out.2.1.later hb9, H7.out.2.2.later hb9, ho9.read⟩
                clear hb9 ho9 H7
                go_wp2_with fail
                refine (rentry_any (BS_nil _) ⟨p, s⟩ H9.out.2.2.2 z HTB.out (by simp) (by show p.length ≤ _; omega) (by show s.length ≤ _; omega)).mono ?_
                rintro e w10 ⟨v10, rfl, ho10, hb10⟩
                rw [List.nil_append, ← HEq.out] at ho10
                obtain ⟨a10, c10, hv10, _⟩ := ho10.bs.len
                rw [HM.out] at hv10
                subst hv10
                obtain ⟨d0, d1, _, _⟩ := (H9.out.2.2.1.later hb10).cells
                simp only at d0 d1
                have H10 : Hid (Below w.heap.size w w10 ∧ LC w.heap.size w10 gc Kc ∧ RBK w10 gk ⟨p, s⟩ ∧ BS w10 (.slice a10 m c10) O) := ⟨bstep H9.out.1 hb10, H9.out.2.1.later hb10, H9.out.2.2.1.later hb10, ho10.bs⟩
                clear hb10 ho10 H9 HPr HD HR HK HTx
                have w4 : IntKind.i64.wrap ((q : Int) + m) = (q : Int) + m := wrap_small _ (by omega) (by omega)
                by_cases c5 : (N : Int) < (q : Int) + m
                · go_wp2_with fail
                  go_quiet (fail)
                  go_wp2_with fail
                  go_ret2
                  exact ⟨bstep H10.out.1 (bd _ _), .inr ⟨fun K ok e => (by have h1 := (HNx.out K ok e).2.2.2.2.2; rw [HN.out] at h1; omega), rfl⟩⟩
                · obtain ⟨g0, o0, ea, hg0, _⟩ := H.out.at (k := 0) (by rw [HN.out]; omega)
                  subst ea
                  obtain ⟨x1, hx1⟩ : ∃ x1, (b.drop q).take m = x1 := ⟨_, rfl⟩
                  obtain ⟨so, hso, hs⟩ := slice_both g0 o0 N cv q (q + m) (by omega) (by have := H.out.len; obtain ⟨_, _, e, h⟩ := this; injection e with _ _ e; rw [HN.out, ← e] at h; omega)
                  rw [show q + m - q = m by omega] at hs hso
                  have hs := hs (q : Int) ((q : Int) + m) rfl (by omega)
                  have hcv : N ≤ cv := by have := H.out.len; obtain ⟨_, _, e, h⟩ := this; injection e with _ _ e; rw [HN.out, ← e] at h; exact h
                  have hB1 : BS w10 (.slice (some ⟨g0, so, none⟩) m (cv - q)) x1 := by
                    rw [hso (by omega), ← hx1]
                    exact (H.out.sub HN.out.symm q m (by rw [HN.out]; omega) (cv - q) (by omega)).later H10.out.1
                  have hv1 : ∀ d, (convert 41 9 (.slice (some ⟨g0, so, none⟩) m (cv - q))).run Tryz.prog (w10.drewN d) = .ok (.string (bs x1)) (w10.drewN d) := fun d => conv_bs (hB1.later (bd _ _))
                  have hv2 : ∀ d, (convert 41 9 (.slice a10 m c10)).run Tryz.prog (w10.drewN d) = .ok (.string (bs O)) (w10.drewN d) := fun d => conv_bs (H10.out.2.2.2.later (bd _ _))
                  clear hB1 hcv hso hg0
                  rw [hx1] at HMo HNx
                  clear hx1
                  by_cases c6 : x1 = O
                  · subst c6
                    have q1 : ((bs x1).toList == (bs x1).toList) = true := by simp
                    go_wp2_with fail
                    go_quiet (fail)
                    go_wp2_with fail
                    obtain ⟨w11, hw11⟩ : ∃ w11, w10.drewN nq = w11 := ⟨_, rfl⟩
                    have hb11 : Below w10.heap.size w10 w11 := by rw [← hw11]; exact bd _ _
                    have H11 : Hid (Below w.heap.size w w11 ∧ LC w.heap.size w11 gc Kc ∧ w.heap.size ≤ w11.heap.size) := ⟨bstep H10.out.1 hb11, H10.out.2.1.later hb11, (bstep H10.out.1 hb11).size⟩
                    obtain ⟨e0, e1, _, _⟩ := (H10.out.2.2.1.later hb11).cells
                    simp only at e0 e1
                    obtain ⟨an, cn, cg, hoK⟩ := H11.out.2.1.row
                    have hlk : Kc.length = k := HX.out.1.len
                    rw [hlk] at cg hoK
                    have HoK : Hid (OwnK w.heap.size w11 (.slice an k cn) Kc ∧ Kc.length = k ∧ w11.cell? ⟨gc, 0, none⟩ = some (.slice an k cn)) := ⟨hoK, hlk, cg⟩
                    have cg2 := cell_alloc (.cells #[.string (bs p), .string (bs s)] 106) H11.out.2.1.lt cg
                    rw [hw11]
                    clear hb11 hoK hlk H10 d0 d1 hw11 hv1 hv2 hs
                    go_region_law (refine step_app_K rfl (.tmp 112) (.tmp 114) rfl w.heap.size Kc [⟨p, s⟩] (.slice an k cn) _ rfl rfl (HoK.out.1.later (balloc _ _).drew) (src_Kd w11 ⟨p, s⟩) (by have := HoK.out.2.1; simp; omega) (by have := H11.out.2.2; simp; omega) ?_; intro v12 w12 ho12 hg12 hl12; obtain ⟨z1, z2, HZ⟩ := LC.more H11.out.2.1 HoK.out.2.2 ho12 hg12 H11.out.2.2; clear hl12 hg12; obtain ⟨av', cv', hvv'⟩ := ho12.form; subst hvv'; clear ho12)
                    all_goals go_wp2_with fail
                    all_goals go_roundw
                    all_goals try (simp [intOf]; omega)
                    all_goals exact ⟨k + 1, q + m, Kc ++ [⟨p, s⟩], by go_num, by go_num, by omega, by omega, HMo.out (by trivial) (by rw [HN.out]; omega), by simpa using HZ.out.1, H11.out.1.trans (by simpa using HZ.out.2)⟩
                  · have q1 : ((bs x1).toList == (bs O).toList) = false := by rw [bs_toList, bs_toList]; simpa using c6
                    go_wp2_with fail
                    go_quiet (fail)
                    go_wp2_with fail
                    go_ret2
                    exact ⟨bstep H10.out.1 (bd _ _), .inr ⟨fun K ok e => c6 (HNx.out K ok e).2.2.2.2.1, rfl⟩⟩
      · obtain rfl : n = k := by omega
        have k1 : ¬ (n : Int) < (n : Int) := by omega
        by_cases c7 : q = N
        · subst c7
          go_wp2_with fail
          go_ret2
          exact ⟨HX.out.2.2, .inl ⟨Kc, gc, HX.out.1.ok, HX.out.1.full HN.out.symm, rfl, HX.out.2.1.rc HX.out.1.ok⟩⟩
        · have c8 : ((q : Int) == (N : Int)) = false := by rw [beq_eq_false_iff_ne]; omega
          go_wp2_with fail
          go_ret2
          exact ⟨HX.out.2.2, .inr ⟨fun K ok e => HX.out.1.none (by rw [HN.out]; exact c7) ok e, rfl⟩⟩
end Go.Proofs.YtddaoloabfkheaaGreatDoor
