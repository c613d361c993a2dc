/-
  The directories left open.
-/
import Derived.Test.YtkopjamednedfaaGreatQx
namespace Go.Proofs.YtkopjamednedfaaGreat
open Go.RowKit Go.Maps
attribute [local go_sem] Oper.semAt_some

theorem lnz_flat : ∀ s : List UInt8, (lnz s).flatten = s
  | [] => rfl
  | c :: r => by
    have ih := lnz_flat r
    rw [lnz]
    split
    · rename_i h
      rw [List.flatten_cons, ih, h]; rfl
    · split
      · rename_i h
        rw [h] at ih
        have : r = [] := by simpa using ih.symm
        rw [this]; rfl
      · rename_i l t h
        rw [h] at ih
        split
        · rename_i h2
          rw [h2]; rfl
        · rw [List.flatten_cons] at ih ⊢
          rw [List.cons_append, ih]
theorem lnz_ne : ∀ s : List UInt8, ∀ x ∈ lnz s, x ≠ []
  | [], x, hx => by cases hx
  | c :: r, x, hx => by
    have ih := lnz_ne r
    rw [lnz] at hx
    split at hx
    · rcases List.mem_cons.1 hx with rfl | hx
      · simp
      · exact ih x hx
    · split at hx
      · rw [List.mem_singleton.1 hx]; simp
      · rename_i l t h
        split at hx
        · rw [List.mem_singleton.1 hx]; simp
        · rcases List.mem_cons.1 hx with rfl | hx
          · simp
          · exact ih x (by rw [h]; simp [hx])
theorem flat_len : ∀ (L : List (List UInt8)), (∀ x ∈ L, x ≠ []) → L.length ≤ L.flatten.length ∧ ∀ x ∈ L, x.length ≤ L.flatten.length
  | [], _ => ⟨by simp, fun x hx => by cases hx⟩
  | a :: L, h => by
    obtain ⟨h1, h2⟩ := flat_len L fun x hx => h x (by simp [hx])
    have ha := List.length_pos_iff.2 (h a (by simp))
    refine ⟨by rw [List.flatten_cons, List.length_append, List.length_cons]; omega, fun x hx => ?_⟩
    rw [List.flatten_cons, List.length_append]
    rcases List.mem_cons.1 hx with rfl | hx
    · omega
    · have := h2 x hx; omega
theorem lnz_len (s : List UInt8) : (lnz s).length ≤ s.length ∧ ∀ x ∈ lnz s, x.length ≤ s.length := by
  have := flat_len (lnz s) (lnz_ne s)
  rw [lnz_flat] at this
  exact this
theorem stO_len : ∀ (pre o : List (List UInt8)), (pre.foldl stO o).length ≤ o.length + pre.length
  | [], o => by simp
  | l :: pre, o => by
    have := stO_len pre (stO o l)
    have h1 : (stO o l).length ≤ o.length + 1 := by
      unfold stO
      split
      · rw [List.length_dropLast]; omega
      · simp
    rw [List.foldl_cons, List.length_cons]
    omega
theorem gl_max (n : Nat) (h : n ≤ 100000000) : IntKind.i64.wrap ((n : Int) - 1) = (n : Int) - 1 ∧ wrap64 ((n : Int) - 1) = (n : Int) - 1 ∧ (n : Int) - 1 ≤ (n : Int) := by
  refine ⟨?_, ?_, by omega⟩
  · rw [IntKind.wrap_i64]; omega
  · unfold wrap64; omega
theorem own_pop {B : Nat} {W : World} {a : Option Addr} {n cc : Nat} {D : List (List UInt8)} (h : Own B W (.slice a n cc) D) (hn : D.length = n) : Own B W (.slice a (n - 1) cc) D.dropLast ∧ n ≤ cc := by
  rcases h.2 with ⟨e, h0⟩ | ⟨g, cap, cur, e, hbg, hg, h3, _⟩
  · injection e with e1 e2 e3
    subst e1; subst e2; subst e3
    have : D = [] := List.eq_nil_of_length_eq_zero h0
    subst this
    exact ⟨h, Nat.le_refl _⟩
  · injection e with e1 e2 e3
    subst e1
    have := h.cut (n - 1) (by omega)
    rw [List.dropLast_eq_take, hn]
    exact ⟨this, by omega⟩
theorem Lo.store {w : World} {pre ys : List (List UInt8)} {A B : World} {v u : Value} (h : Lo w pre A v) (hb : B.heap[w.heap.size]? = A.heap[w.heap.size]?) (hbl : Below w.heap.size w B) (hsz : A.heap.size ≤ B.heap.size) (ho : Own (w.heap.size + 2) B u (ys.foldl stO [])) : Lo w ys (B.setCell ⟨w.heap.size, 0, none⟩ u) u := by
  have hx : Boxed B w.heap.size 22 v := hb.trans h.box
  refine ⟨Boxed.set u hx, ho.only (Only.set B w.heap.size 0 u) (fun k hk => by have := (ho.lt hk).1; simp; omega), hbl.setCell (p := ⟨w.heap.size, 0, none⟩) (Nat.le_refl _) _, ?_⟩
  have := h.big
  simp [World.setCell]
  omega
theorem still_set {m : Nat} (W : World) (a : Addr) (v : Value) : Still m W (W.setCell a v) := fun k o _ ho hc => (KeepsOthers.setCell W a v).same k o ho hc
theorem nth_set (W : World) (g k : Nat) (v : Value) (h : k ≠ g) : (W.setCell ⟨g, 0, none⟩ v).heap[k]? = W.heap[k]? := Below.heap_setCell _ _ _ _ h
theorem stepIn_app {F : Fence} {nF : Nat} {w w' : World} {v' : Value} {ops : Array Oper} {o : Oper} {a : Act} {K : Act → World → Prop} {Q : Exit → Act → World → Prop} (hgd : o.guard = none) (s y : Operand)
    (ho : o.op = .call { callee := .builtin .append, args := #[s, y], argTypes := #[22, 22] }) (hr : (Builtin.append_ #[22, 22] o.type #[a.eval s, a.eval y]).run Tryz.prog w = .ok v' w') (h : K (a.put o.dst v') w') :
    if Region.wanted o (yielded ops a.tmps) = true then Oper.wpIn F nF Tryz.prog o a w K Q else (∀ f, o.about Tryz.prog w a.eval = some f → F.fn f) ∧ K (a.put o.dst undef) w := by
  rw [if_pos (by simp [Region.wanted, hgd])]
  unfold Oper.wpIn
  refine ⟨by simp [Oper.about, ho, resolve, Target.leads, Sem.run_pure], ?_⟩
  rw [Oper.semAt_plain F _ _ (by rw [ho]; intro c hc'; cases hc')]
  simp [execOp, ho, resolve, invoke, builtin, hr, Result.andThen]
  exact h
set_option maxRecDepth 100000 in
set_option maxHeartbeats 8000000 in
theorem left_any (s : List UInt8) (w : World) (hs : s.length ≤ 65536) :
    Calls Tryz.prog 30 #[.string (bs s)] w fun e w' => ∃ v, e = .returned v ∧ Own w.heap.size w' v (lo s) ∧ Below w.heap.size w w' := by
  refine (callsIn_wide (n := 8)).1 ?_
  refine callsIn_of_wp_marks Tryz.func30 rfl trivial ?_ rfl
  simp only [Tryz.ntmps30, List.size_toArray, List.length_cons, List.length_nil, Nat.reduceAdd, Nat.reduceSub, Array.replicate_succ, Array.replicate_zero, List.push_toArray, List.append_toArray, List.nil_append, List.cons_append]
  obtain ⟨G, hG⟩ : ∃ G, w.heap.size = G := ⟨_, rfl⟩
  have HG : Hid (w.heap.size = G) := hG
  obtain ⟨w1, hw1⟩ : ∃ w1, w.alloc (.cells #[.slice none 0 0] 22) = w1 := ⟨_, rfl⟩
  obtain ⟨w2, hw2⟩ : ∃ w2, w1.alloc (.cells #[.string (bs s)] 9) = w2 := ⟨_, rfl⟩
  have H1 : Hid (w.alloc (.cells #[.slice none 0 0] 22) = w1 ∧ w1.alloc (.cells #[.string (bs s)] 9) = w2 ∧ w1.heap.size = G + 1 ∧ w2.heap.size = G + 2 ∧ Lo w [] w2 (.slice none 0 0) ∧ w2.heap[G + 1]? = some (.cells #[.string (bs s)] 9 (0, 0))) := by
    subst hG
    have e1 : w1.heap.size = w.heap.size + 1 := by rw [← hw1]; simp
    have b1 : Below w.heap.size w w1 := by rw [← hw1]; exact balloc _ _
    have b2 : Below w1.heap.size w1 w2 := by rw [← hw2]; exact balloc _ _
    have x1 : Boxed w1 w.heap.size 22 (.slice none 0 0) := by rw [← hw1]; exact Boxed.new _ _ _
    have x2 : Boxed w2 w1.heap.size 9 (.string (bs s)) := by rw [← hw2]; exact Boxed.new _ _ _
    have e2 : w2.heap.size = w.heap.size + 2 := by rw [← hw2]; simp [e1]
    refine ⟨hw1, hw2, e1, e2, ⟨(b2.block _ x1.lt).trans x1, Own.nil _ _, bstep b1 b2, by omega⟩, by rw [e1] at x2; exact x2⟩
  clear hw1 hw2
  gi_wp2_with fail
  rw [H1.out.1]
  refine ⟨trivial, (callsIn_wide.2 (lines_any s w1)).mono ?_⟩
  rintro e w3 ⟨rfl, ew3⟩
  rw [H1.out.2.1] at ew3
  subst ew3
  rw [H1.out.2.2.1]
  clear hG
  gi_wp2_with fail
  have hGs := HG.out
  refine range_gives (gf := 69) (lb := #[.pointer (some ⟨G + 1, 0, none⟩)]) rfl (enters_of Tryz.func69 (by kernel_rfl) rfl) (encs := fun x : List UInt8 => #[.string (bs x)]) (fun _ => rfl) (Bs := G + 1) (by have := H1.out.2.2.2.1; omega) (xs := lnz s)
    (by rw [H1.out.2.2.2.2.2]; exact lines_gives s _ (G + 1) (by omega))
    (fun pre W => ∃ v, Lo w pre W v) (fun _ => False) (fun pre A B h hg => by obtain ⟨v, h⟩ := h; exact ⟨v, h.turn (by rw [HG.out]; exact hg)⟩) (fun _ _ h _ => h)
    (fun pre A l o o' h hl ho hc => by obtain ⟨v, h⟩ := h; exact ⟨v, h.put (by have := H1.out.2.2.2.1; omega) ho hc⟩) (fun _ _ _ _ h _ _ _ => h) ⟨_, H1.out.2.2.2.2.1⟩
    (fun x => { tmps := #[.string (bs s), undef, .slice none 0 0, .pointer (some ⟨G, 0, none⟩), .string (bs x), .string (bs s), .func (.func 69) #[] #[.pointer (some ⟨G + 1, 0, none⟩)], .string (bs x), undef, undef, undef, undef, undef, undef, undef, undef, undef, undef, undef, undef, undef, undef], defers := [] }) ?assign ?body ?done ?stop
  case assign =>
    intro l x W K hK
    gi_wp2_with fail
    exact hK
  case body =>
    rintro l pre x W hl ⟨v, hi⟩ ⟨rr, hrr⟩
    have HI : Hid (Lo w pre W v) := hi
    have hxl : x.length ≤ s.length := (lnz_len s).2 x (by rw [hrr]; simp)
    obtain ⟨D, hD⟩ : ∃ D, pre.foldl stO [] = D := ⟨_, rfl⟩
    have hDl : D.length ≤ 65536 := by
      have h1 := stO_len pre []
      rw [hD] at h1
      have h2 := (lnz_len s).1
      rw [hrr] at h2
      simp at h1 h2
      omega
    have ho := hi.own
    rw [hD] at ho
    have HD : Hid (pre.foldl stO [] = D) := hD
    have HO : Hid (Own (w.heap.size + 2) W v D) := ho
    obtain ⟨a, cc, ev, -⟩ := ho.bs.form
    obtain ⟨n, hn⟩ : ∃ n, D.length = n := ⟨_, rfl⟩
    rw [hn] at ev hDl
    subst ev
    have c0 := hi.box.cell
    have f0 := hi.box.frozen
    rw [HG.out] at c0 f0
    have HPX : Hid (∀ W, Calls Tryz.prog 50 #[.string (bs x), .string ⟨#[33]⟩] W fun e w' => e = .returned (.bool ([33].isPrefixOf x)) ∧ w' = W) := fun W => hasP_any x [33] W (by omega) (by simp)
    clear hi hrr hD ho
    cases hp : [33].isPrefixOf x
    · rw [hp] at HPX
      have HF : Hid ((pre ++ [x]).foldl stO [] = D ++ [shB x]) := by
        show _ = _
        rw [List.foldl_append, HD.out]
        show stO D x = _
        unfold stO
        rw [hp]; rfl
      have HSB : Hid (∀ W, Calls Tryz.prog 51 #[.string (bs x)] W fun e w' => e = .returned (.string (bs (shB x))) ∧ w' = W) := fun W => shown_any x W (by omega)
      clear hp
      gi_wp2_with fail
      refine ⟨trivial, (CallsIn.inRound l (callsIn_wide.2 (HPX.out _))).mono ?_⟩
      rintro e W1 ⟨rfl, eW1⟩
      subst eW1
      have hm : Tryz.prog.follows .mixedOrders = true := by kernel_rfl
      have hbig := HI.out.big
      rw [HG.out] at hbig
      have c0d : W1.drew.cell? ⟨G, 0, none⟩ = some (.slice a n cc) := c0
      have c0a : (W1.alloc (.cells #[.string (bs (shB x))] 9)).cell? ⟨G, 0, none⟩ = some (.slice a n cc) := by rw [(balloc W1 _).cell (p := ⟨G, 0, none⟩) (by show G < _; omega)]; exact c0
      obtain ⟨i0, hi0, hz0, hz1, hz2⟩ := info_parts info9
      have hod : Own (w.heap.size + 2) (W1.drew.alloc (.cells #[.string (bs (shB x))] 9)) (.slice a n cc) D := World.ownsRow.alloc (HO.out.later (bd1 _)) _
      obtain ⟨v', w', hr, h2, h3, h4⟩ := run_append_src (P := Tryz.prog) (W1.drew.alloc (.cells #[.string (bs (shB x))] 9)) (w.heap.size + 2) 22 22 22 9 i0 _ 1 16 und70 hi0 hz0 hz1 hz2 rfl (.slice a n cc) D.length (sc D) hod (.slice (some ⟨W1.heap.size, 0, none⟩) 1 1) 1 (sc [shB x]) (src_one W1.drew (shB x)) (by simp only [maxLen]; omega) (by omega) (by have := HI.out.big; simp; omega)
      have ho2 : Own (w.heap.size + 2) w' v' (D ++ [shB x]) := by unfold Own; rw [sc_append, List.length_append]; exact h2
      have hz5 : w'.heap[G]? = W1.heap[G]? := by
        have e1 := h3.block G (by simp; omega) (fun e => by have := (HO.out.lt e.symm).1; omega)
        exact e1.trans ((balloc W1.drew _).block G (by show G < W1.heap.size; omega))
      have c5 : w'.cell? ⟨G, 0, none⟩ = some (.slice a n cc) := by rw [← c0]; simp only [World.cell?, hz5]
      have f5 : w'.frozen? ⟨G, 0, none⟩ = false := by rw [← f0]; simp only [World.frozen?, hz5]
      obtain ⟨g', cap', ev'⟩ : ∃ g' cap', v' = .slice (some ⟨g', 0, none⟩) (n + 1) cap' := by
        rcases ho2.2 with ⟨_, e0⟩ | ⟨g', cap', cur, e, _⟩
        · simp at e0
        · exact ⟨g', cap', by rw [e]; simp [hn]⟩
      subst ev'
      have HW : Hid (Own (w.heap.size + 2) w' (.slice (some ⟨g', 0, none⟩) (n + 1) cap') (D ++ [shB x]) ∧ w'.heap[G]? = W1.heap[G]? ∧ Below w.heap.size w w' ∧ W1.heap.size ≤ w'.heap.size ∧ Still w3.heap.size W1 (w'.setCell ⟨G, 0, none⟩ (.slice (some ⟨g', 0, none⟩) (n + 1) cap')) ∧ (w'.setCell ⟨G, 0, none⟩ (.slice (some ⟨g', 0, none⟩) (n + 1) cap')).heap[G + 1]? = W1.heap[G + 1]?) := by
        have hal : Below W1.heap.size W1 (W1.drew.alloc (.cells #[.string (bs (shB x))] 9)) := bstep (bd1 _) (balloc _ _)
        refine ⟨ho2, hz5, ?_, Nat.le_trans hal.size h3.size, ?_, ?_⟩
        · refine (bstep HI.out.below hal).grown h3 ?_ (fun k e => ?_)
          · have := hal.size; have := HI.out.big; omega
          · have := (HO.out.lt e).1; omega
        · intro k o _ hk hc
          refine still_set (m := 0) w' _ _ k o (Nat.zero_le _) ?_ hc
          have h1 := (hal.block k (Array.getElem?_eq_some_iff.1 hk).1).trans hk
          refine (h3.block k (Array.getElem?_eq_some_iff.1 h1).1 (fun e => ?_)).trans h1
          rw [HO.out.nocell e.symm hk] at hc; cases hc
        · rw [nth_set _ _ _ _ (by omega)]
          rw [h3.block (G + 1) (by have := hal.size; have := HI.out.big; omega) (fun e => by have := (HO.out.lt e.symm).1; omega)]
          exact hal.block (G + 1) (by omega)
      clear hod h2 h3 h4 ho2 hz5 hi0 hz0 hz1 hz2
      gi_wp2_with fail
      refine wpIn_region_any hm ?_
      refine wpAnyIn_ready (rs := [0, 1]) (by kernel_rfl) (by simp) ?_
      refine AllReadyIn.cons (o := { dst := some 16, op := _, type := _, pos := _, after := _, guard := _ }) rfl (fun K hK => ?_) (AllReadyIn.cons (o := { dst := some 17, op := _, type := _, pos := _, after := _, guard := _ }) rfl (fun K hK => ?_) (AllReadyIn.nil))
      · go_simp
        refine hK _ _ ?_
        clear hK K
        try simp only [Act.put, List.setIfInBounds_toArray, List.set_cons_zero, List.set_cons_succ]
        refine wpAnyIn_ready (rs := [1]) (by kernel_rfl) (by simp) ?_
        refine AllReadyIn.cons (o := { dst := some 17, op := _, type := _, pos := _, after := _, guard := _ }) rfl (fun K hK => ?_) (AllReadyIn.nil)
        · go_simp
          refine hK _ _ ?_
          clear hK K
          try simp only [Act.put, List.setIfInBounds_toArray, List.set_cons_zero, List.set_cons_succ]
          refine wpAnyIn_ready (rs := [2]) (by kernel_rfl) (by simp) ?_
          refine AllReadyIn.cons (o := { dst := some 18, op := _, type := _, pos := _, after := _, guard := _ }) rfl (fun K hK => ?_) (AllReadyIn.nil)
          · go_simp
            refine ⟨trivial, (CallsIn.inRound l (callsIn_wide.2 (HSB.out _))).mono ?_⟩
            rintro e wq ⟨rfl, ewq⟩
            subst ewq
            refine hK _ _ ?_
            clear hK K
            try simp only [Act.put, List.setIfInBounds_toArray, List.set_cons_zero, List.set_cons_succ]
            refine wpAnyIn_ready (rs := [3]) (by kernel_rfl) (by simp) ?_
            refine AllReadyIn.cons (o := { dst := some 19, op := _, type := _, pos := _, after := _, guard := _ }) rfl (fun K hK => ?_) (AllReadyIn.nil)
            · go_simp
              refine hK _ _ ?_
              clear hK K
              try simp only [Act.put, List.setIfInBounds_toArray, List.set_cons_zero, List.set_cons_succ]
              refine wpAnyIn_ready (rs := [4]) (by kernel_rfl) (by simp) ?_
              refine AllReadyIn.cons (o := { dst := some 20, op := _, type := _, pos := _, after := _, guard := _ }) rfl (fun K hK => ?_) (AllReadyIn.nil)
              · refine stepIn_app rfl (.tmp 16) (.tmp 19) rfl hr ?_
                refine hK _ _ ?_
                clear hK K
                try simp only [Act.put, List.setIfInBounds_toArray, List.set_cons_zero, List.set_cons_succ]
                refine wpAnyIn_ready (rs := [5]) (by kernel_rfl) (by simp) ?_
                refine AllReadyIn.cons (o := { dst := none, op := _, type := _, pos := _, after := _, guard := _ }) rfl (fun K hK => ?_) (AllReadyIn.nil)
                · go_simp
                  refine hK _ _ ?_
                  clear hK K
                  try simp only [Act.put, List.setIfInBounds_toArray, List.set_cons_zero, List.set_cons_succ]
                  refine wpAnyIn_done (by kernel_rfl) ?_ _
                  have hlo := HI.out.store (ys := pre ++ [x]) (B := w') (by rw [HG.out]; exact HW.out.2.1) HW.out.2.2.1 HW.out.2.2.2.1 (by rw [HF.out]; exact HW.out.1)
                  rw [HG.out] at hlo
                  exact ⟨HW.out.2.2.2.2.1, HW.out.2.2.2.2.2, _, hlo⟩
      · go_simp
        refine hK _ _ ?_
        clear hK K
        try simp only [Act.put, List.setIfInBounds_toArray, List.set_cons_zero, List.set_cons_succ]
        refine wpAnyIn_ready (rs := [0, 2]) (by kernel_rfl) (by simp) ?_
        refine AllReadyIn.cons (o := { dst := some 16, op := _, type := _, pos := _, after := _, guard := _ }) rfl (fun K hK => ?_) (AllReadyIn.cons (o := { dst := some 18, op := _, type := _, pos := _, after := _, guard := _ }) rfl (fun K hK => ?_) (AllReadyIn.nil))
        · go_simp
          refine hK _ _ ?_
          clear hK K
          try simp only [Act.put, List.setIfInBounds_toArray, List.set_cons_zero, List.set_cons_succ]
          refine wpAnyIn_ready (rs := [2]) (by kernel_rfl) (by simp) ?_
          refine AllReadyIn.cons (o := { dst := some 18, op := _, type := _, pos := _, after := _, guard := _ }) rfl (fun K hK => ?_) (AllReadyIn.nil)
          · go_simp
            refine ⟨trivial, (CallsIn.inRound l (callsIn_wide.2 (HSB.out _))).mono ?_⟩
            rintro e wq ⟨rfl, ewq⟩
            subst ewq
            refine hK _ _ ?_
            clear hK K
            try simp only [Act.put, List.setIfInBounds_toArray, List.set_cons_zero, List.set_cons_succ]
            refine wpAnyIn_ready (rs := [3]) (by kernel_rfl) (by simp) ?_
            refine AllReadyIn.cons (o := { dst := some 19, op := _, type := _, pos := _, after := _, guard := _ }) rfl (fun K hK => ?_) (AllReadyIn.nil)
            · go_simp
              refine hK _ _ ?_
              clear hK K
              try simp only [Act.put, List.setIfInBounds_toArray, List.set_cons_zero, List.set_cons_succ]
              refine wpAnyIn_ready (rs := [4]) (by kernel_rfl) (by simp) ?_
              refine AllReadyIn.cons (o := { dst := some 20, op := _, type := _, pos := _, after := _, guard := _ }) rfl (fun K hK => ?_) (AllReadyIn.nil)
              · refine stepIn_app rfl (.tmp 16) (.tmp 19) rfl hr ?_
                refine hK _ _ ?_
                clear hK K
                try simp only [Act.put, List.setIfInBounds_toArray, List.set_cons_zero, List.set_cons_succ]
                refine wpAnyIn_ready (rs := [5]) (by kernel_rfl) (by simp) ?_
                refine AllReadyIn.cons (o := { dst := none, op := _, type := _, pos := _, after := _, guard := _ }) rfl (fun K hK => ?_) (AllReadyIn.nil)
                · go_simp
                  refine hK _ _ ?_
                  clear hK K
                  try simp only [Act.put, List.setIfInBounds_toArray, List.set_cons_zero, List.set_cons_succ]
                  refine wpAnyIn_done (by kernel_rfl) ?_ _
                  have hlo := HI.out.store (ys := pre ++ [x]) (B := w') (by rw [HG.out]; exact HW.out.2.1) HW.out.2.2.1 HW.out.2.2.2.1 (by rw [HF.out]; exact HW.out.1)
                  rw [HG.out] at hlo
                  exact ⟨HW.out.2.2.2.2.1, HW.out.2.2.2.2.2, _, hlo⟩
        · go_simp
          refine ⟨trivial, (CallsIn.inRound l (callsIn_wide.2 (HSB.out _))).mono ?_⟩
          rintro e wq ⟨rfl, ewq⟩
          subst ewq
          refine hK _ _ ?_
          clear hK K
          try simp only [Act.put, List.setIfInBounds_toArray, List.set_cons_zero, List.set_cons_succ]
          refine wpAnyIn_ready (rs := [0, 3]) (by kernel_rfl) (by simp) ?_
          refine AllReadyIn.cons (o := { dst := some 16, op := _, type := _, pos := _, after := _, guard := _ }) rfl (fun K hK => ?_) (AllReadyIn.cons (o := { dst := some 19, op := _, type := _, pos := _, after := _, guard := _ }) rfl (fun K hK => ?_) (AllReadyIn.nil))
          · go_simp
            refine hK _ _ ?_
            clear hK K
            try simp only [Act.put, List.setIfInBounds_toArray, List.set_cons_zero, List.set_cons_succ]
            refine wpAnyIn_ready (rs := [3]) (by kernel_rfl) (by simp) ?_
            refine AllReadyIn.cons (o := { dst := some 19, op := _, type := _, pos := _, after := _, guard := _ }) rfl (fun K hK => ?_) (AllReadyIn.nil)
            · go_simp
              refine hK _ _ ?_
              clear hK K
              try simp only [Act.put, List.setIfInBounds_toArray, List.set_cons_zero, List.set_cons_succ]
              refine wpAnyIn_ready (rs := [4]) (by kernel_rfl) (by simp) ?_
              refine AllReadyIn.cons (o := { dst := some 20, op := _, type := _, pos := _, after := _, guard := _ }) rfl (fun K hK => ?_) (AllReadyIn.nil)
              · refine stepIn_app rfl (.tmp 16) (.tmp 19) rfl hr ?_
                refine hK _ _ ?_
                clear hK K
                try simp only [Act.put, List.setIfInBounds_toArray, List.set_cons_zero, List.set_cons_succ]
                refine wpAnyIn_ready (rs := [5]) (by kernel_rfl) (by simp) ?_
                refine AllReadyIn.cons (o := { dst := none, op := _, type := _, pos := _, after := _, guard := _ }) rfl (fun K hK => ?_) (AllReadyIn.nil)
                · go_simp
                  refine hK _ _ ?_
                  clear hK K
                  try simp only [Act.put, List.setIfInBounds_toArray, List.set_cons_zero, List.set_cons_succ]
                  refine wpAnyIn_done (by kernel_rfl) ?_ _
                  have hlo := HI.out.store (ys := pre ++ [x]) (B := w') (by rw [HG.out]; exact HW.out.2.1) HW.out.2.2.1 HW.out.2.2.2.1 (by rw [HF.out]; exact HW.out.1)
                  rw [HG.out] at hlo
                  exact ⟨HW.out.2.2.2.2.1, HW.out.2.2.2.2.2, _, hlo⟩
          · go_simp
            refine hK _ _ ?_
            clear hK K
            try simp only [Act.put, List.setIfInBounds_toArray, List.set_cons_zero, List.set_cons_succ]
            refine wpAnyIn_ready (rs := [0]) (by kernel_rfl) (by simp) ?_
            refine AllReadyIn.cons (o := { dst := some 16, op := _, type := _, pos := _, after := _, guard := _ }) rfl (fun K hK => ?_) (AllReadyIn.nil)
            · go_simp
              refine hK _ _ ?_
              clear hK K
              try simp only [Act.put, List.setIfInBounds_toArray, List.set_cons_zero, List.set_cons_succ]
              refine wpAnyIn_ready (rs := [4]) (by kernel_rfl) (by simp) ?_
              refine AllReadyIn.cons (o := { dst := some 20, op := _, type := _, pos := _, after := _, guard := _ }) rfl (fun K hK => ?_) (AllReadyIn.nil)
              · refine stepIn_app rfl (.tmp 16) (.tmp 19) rfl hr ?_
                refine hK _ _ ?_
                clear hK K
                try simp only [Act.put, List.setIfInBounds_toArray, List.set_cons_zero, List.set_cons_succ]
                refine wpAnyIn_ready (rs := [5]) (by kernel_rfl) (by simp) ?_
                refine AllReadyIn.cons (o := { dst := none, op := _, type := _, pos := _, after := _, guard := _ }) rfl (fun K hK => ?_) (AllReadyIn.nil)
                · go_simp
                  refine hK _ _ ?_
                  clear hK K
                  try simp only [Act.put, List.setIfInBounds_toArray, List.set_cons_zero, List.set_cons_succ]
                  refine wpAnyIn_done (by kernel_rfl) ?_ _
                  have hlo := HI.out.store (ys := pre ++ [x]) (B := w') (by rw [HG.out]; exact HW.out.2.1) HW.out.2.2.1 HW.out.2.2.2.1 (by rw [HF.out]; exact HW.out.1)
                  rw [HG.out] at hlo
                  exact ⟨HW.out.2.2.2.2.1, HW.out.2.2.2.2.2, _, hlo⟩
    · rw [hp] at HPX
      have HF : Hid ((pre ++ [x]).foldl stO [] = D.dropLast) := by
        show _ = _
        rw [List.foldl_append, HD.out]
        show stO D x = _
        unfold stO
        rw [hp]; rfl
      clear hp
      gi_wp2_with fail
      refine ⟨trivial, (CallsIn.inRound l (callsIn_wide.2 (HPX.out _))).mono ?_⟩
      rintro e W1 ⟨rfl, eW1⟩
      subst eW1
      obtain ⟨k1, k2, k3⟩ := gl_max n (by omega)
      obtain ⟨hop, hnc⟩ := own_pop HO.out hn
      obtain ⟨m, hm⟩ : ∃ m, n - 1 = m := ⟨_, rfl⟩
      rw [hm] at hop
      have k4 : max ((n : Int) - 1) 0 = (m : Int) := by omega
      have k5 : (m : Int) ≤ (cc : Int) := by omega
      have k6 : (0 : Int) ≤ (m : Int) := by omega
      have HOP : Hid (Own (w.heap.size + 2) W1 (.slice a m cc) D.dropLast) := hop
      clear hop hm
      gi_wp2_with fail
      have hlo := HI.out.store (ys := pre ++ [x]) (B := W1) rfl HI.out.below (Nat.le_refl _) (by rw [HF.out]; exact HOP.out)
      rw [HG.out] at hlo
      exact ⟨still_set _ _ _, nth_set _ _ _ _ (by omega), _, hlo⟩
  case done =>
    intro D W hD hI hK
    obtain ⟨v, hi⟩ := hI
    have HI : Hid (Lo w (lnz s) W v) := hi
    obtain ⟨a, cc, ev, -⟩ := hi.own.bs.form
    have c0 := hi.box.cell
    rw [HG.out] at c0
    generalize hnn : (List.foldl stO [] (lnz s)).length = nn at ev
    subst ev
    clear hi
    gi_wp2_with fail
    refine ⟨by simp, .inl ⟨_, _, rfl, run_takeDeferred hK, ?_⟩⟩
    have hlo := HI.out.put (l := D) (o' := .deferred none) (by have := H1.out.2.2.2.1; omega) hK rfl
    exact ⟨_, results_tmp rfl _ _ _, _, rfl, hlo.own.mono (by omega), hlo.below⟩
  case stop => intro D W hD hI hK; exact hI.elim
end Go.Proofs.YtkopjamednedfaaGreat
