import Derived.Test.YtppnbdnpapellaaGreatDoorJKy
set_option maxRecDepth 100000
set_option maxHeartbeats 16000000
namespace Go.Proofs.YtppnbdnpapellaaGreatDoor
section
open Go.RowKit Go.Maps
attribute [local go_sem] Oper.semAt_some
theorem OwnL.cellsB {base:Nat} {w:World} {v:Value} {l:List Lb} (h:OwnL base w v l):∀ (j:Nat) (o:Obj),v.ownBlock=some j→w.heap[j]? = some o→o.isCells=true:=by
 intro j o hj ho
 rcases OL.of h with ⟨rfl,_⟩ | ⟨g,cap,rest,rfl,hol⟩
 ·cases hj
 ·simp only [Value.ownBlock,Option.some.injEq] at hj
  subst hj
  rw [hol.blk] at ho;cases ho;rfl
structure Gb (n₀:Nat) (w:World) (B:Nat) (pre:List Lb) (W:World):Prop where
 box:∃ v,Boxed W B 23 v∧OwnL n₀ W v pre
 below:Below n₀ w W
theorem Gb.own {n₀ B m:Nat} {w:World} (hn:n₀≤w.heap.size) (hB:n₀≤m):OwnFrom m (Gb n₀ w B):=by
 intro pre W W' row h hg hr
 obtain ⟨⟨v,hv,hrow⟩,hb⟩:=h
 have hc:∀ j o,W.heap[j]? = some o→o.isCells=true→some j≠row:=by
  intro j o hj ho e
  obtain ⟨_,o',ho',hc'⟩:=hr j e.symm
  rw [hj] at ho';cases ho';rw [ho] at hc';cases hc'
 refine ⟨⟨v,hv.kept hg (hc B _ hv rfl),?_⟩,hb.grown hg (Nat.le_trans hn hb.size) (fun k hk=>Nat.le_trans hB (hr k hk).1)⟩
 refine OwnL.only hrow (S:=row.toList) ⟨hg.os,hg.tape,hg.output,hg.size,fun k hk hn=>hg.block k hk (by intro e;apply hn;rw [← e];simp)⟩ ?_
 intro k hk hm
 have hm':row=some k:=by simpa using hm
 have hlt:=(hrow.lt hk).2
 exact hc k _ (Array.getElem?_eq_getElem hlt) (hrow.cellsB k _ hk (Array.getElem?_eq_getElem hlt)) hm'.symm
theorem appendSeq_in {gf:Nat} {lb:Array Value} (eg:∀ args w,(callFunc gf args).run Tryz.prog w=.ok (.enter gf args) w) {S:List Lb→Prop} {N:Nat} (hN:N≤2000000) (w:World) (n:Nat) (hn:2≤n)
  (hseq:SeqStopsK Fence.wide (n - 1) Tryz.prog gf lb (fun x:Lb=>#[x.val]) KeepsWalks S (fun _=>True) N w) :
  CallsIn Fence.wide n Tryz.prog 180 #[.slice none 0 0,.func (.func gf) #[] lb] w fun e w'=>∃ (v:Value) (ss:List Lb),e=.returned v∧S ss∧OwnL w.heap.size w' v ss∧Below w.heap.size w w':=by
 refine callsIn_of_wp_marks Tryz.func180 rfl trivial ?_ rfl
 simp only [Tryz.ntmps180,List.size_toArray,List.length_cons,List.length_nil,Nat.reduceAdd,Nat.reduceSub,Array.replicate_succ,Array.replicate_zero,List.push_toArray,List.append_toArray,List.nil_append,List.cons_append]
 gi_wp2
 obtain ⟨W0,hW0⟩:∃ W0,w.alloc (.cells #[.slice none 0 0] 23)=W0:=⟨_,rfl⟩
 have hs0:W0.heap.size=w.heap.size+1:=by rw [← hW0];simp
 have hv0:Boxed W0 w.heap.size 23 (.slice none 0 0):=by rw [← hW0];exact Boxed.new w _ _
 have hb0:Below w.heap.size w W0:=by rw [← hW0];exact balloc w _
 rw [hW0]
 refine wpIn_rangeFunc_ownH (F:=Fence.wide) rfl (by omega) (gf:=gf) (lb:=lb) rfl trivial eg hseq walksK_t (fun W l o o' hl h hc hw=>walksK_b (w:=W0) W l o o' hl h hc hw) hb0 (fun _=>rfl)
  (Gb w.heap.size w w.heap.size) (fun _ _ _=>False) (Gb.own (Nat.le_refl _) (by omega)) (fun _ s W W' row h _ _=>h) ⟨⟨_,hv0,OwnL.nil _ _⟩,hb0⟩
  (fun x a' W=>∃ Bx,w.heap.size < Bx∧RB W Bx x∧a'={ tmps:=#[.slice none 0 0,.func (.func gf) #[] lb,.pointer (some ⟨w.heap.size,0,none⟩),undef,.slice none 0 0,.pointer (some ⟨Bx,0,none⟩),.func (.func gf) #[] lb,x.val,undef,undef,undef,undef,undef],defers:=[] }) ?hAx ?assign ?body ?done ?stop
 case hAx=>
  rintro x a' _ W W' row ⟨Bx,h1,h2,h3⟩ hg hr
  refine ⟨Bx,h1,⟨(hg.block Bx h2.lt ?_).trans h2.blk⟩,h3⟩
  intro e
  obtain ⟨_,o',ho',hc'⟩:=hr Bx e.symm
  rw [h2.blk] at ho';cases ho';cases hc'
 case assign=>
  rintro l pre ⟨p,m⟩ W K hI hK
  simp only [Lb.val] at hK ⊢
  gi_wp2
  have hsz:=hI.below.size
  obtain ⟨⟨v,hv,hrow⟩,hb⟩:=hI
  refine hK _ _ ((KeepsOthers.alloc _ _).from _) (KeepsWalks.alloc _ _) ⟨⟨v,hv.alloc _,hrow.later (balloc _ _)⟩,hb.alloc hsz _⟩ ⟨W.heap.size,?_,RB.new W ⟨p,m⟩,rfl⟩
  exact hv.lt
 case body=>
  rintro l pre ⟨p,m⟩ a' W hl ⟨r,hr⟩ hI ⟨Bx,hBx,hRB,rfl⟩ hlt
  obtain ⟨⟨v,hv,hrow⟩,hb⟩:=hI
  obtain ⟨c0,c1,_,_⟩:=hRB.cells
  simp only [Lb.val] at c0 c1 ⊢
  have hc:=hv.cell
  obtain ⟨i0,hi,hz0,hz1,hz2⟩:=info_parts info_L
  obtain ⟨k,hk⟩:∃ k,pre.length=k:=⟨_,rfl⟩
  obtain ⟨av,cv,hvv⟩:=hrow.form
  rw [hk] at hvv hlt
  subst hvv
  have hrow':W.ownsRow w.heap.size 27 2 (.slice av k cv) k (lc pre):=by rw [← hk];rw [← hk] at hrow;exact hrow
  have hsz:=hb.size
  have hne:∀ (o:Obj) (j:Nat),W.heap[j]? = some o→(∀ cur,o≠.cells cur 27 (0,0))→(Value.slice av k cv).ownBlock≠some j:=by
   intro o j hj hno e
   rcases OL.of hrow with ⟨e2,_⟩ | ⟨g,cap,rest,e2,hol⟩
   ·rw [e2] at e;cases e
   ·rw [e2] at e
    simp only [Value.ownBlock,Option.some.injEq] at e
    subst e
    rw [hol.blk] at hj;cases hj;exact hno _ rfl
  have HB:Hid (Below w.heap.size w W∧Boxed W w.heap.size 23 (.slice av k cv)∧W.heap[l]? = some (.loop r)∧pre.length=k∧OwnL w.heap.size W (.slice av k cv) pre∧∀ (o:Obj) (j:Nat),W.heap[j]? = some o→(∀ cur,o≠.cells cur 27 (0,0))→(Value.slice av k cv).ownBlock≠some j):=⟨hb,hv,hr,hk,hrow,hne⟩
  clear hne hr hk hrow hb hv hRB
  gi_wp2_with (first
   | (gi_at_builtin;refine wpListIn_append_own _ rfl _ _ 23 rfl w.heap.size 27 i0 (.agg #[.string ⟨#[]⟩,.string ⟨#[]⟩]) 2 32 und_L hi hz0 hz1 hz2 rfl (by decide) _ _ _ rfl (hrow'.alloc _) ⟨W.heap.size,0,none⟩ 1 1 [.string (bs p),.string (bs m)] rfl rfl (World.news_of_block (heap_alloc_new W _)) (by simp [Value.oneCell']) (by unfold maxLen;omega) (by omega) (by simp;omega) ?_;intro v' w3 hown' hg3 hnil3;obtain ⟨g',cap',rfl⟩:=ownsRow_succ hown';have hbx:Boxed w3 w.heap.size 23 (.slice av k cv):=(HB.out.2.1.alloc _).kept hg3 (fun e=>HB.out.2.2.2.2.2 _ _ HB.out.2.1 (fun cur h=>by cases h) e.symm);have hc3:=hbx.cell;have hf3:=hbx.frozen;go_frame)
   | gi_in)
  have hb3:Below w.heap.size w w3:=(HB.out.1.alloc HB.out.1.size _).grown hg3 (by have:=HB.out.1.size;simp;omega) (fun j e=>(HB.out.2.2.2.2.1.lt e).1)
  have hown3:OwnL w.heap.size w3 (.slice (some ⟨g',0,none⟩) (k+1) cap') (pre++[⟨p,m⟩]):=by
   unfold OwnL
   rw [lc_append,List.length_append,HB.out.2.2.2.1]
   exact hown'
  have hob:g'≠w.heap.size:=by
   rintro rfl
   rcases OL.of hown3 with ⟨e2,_⟩ | ⟨g,cap,rest,e2,hol⟩
   ·cases e2
   ·injection e2 with e2 _ _
    injection e2 with e2
    injection e2 with e2 _ _
    have h9:=hol.blk
    rw [← e2,hbx] at h9
    injection h9 with h9
    injection h9 with _ h9 _
    exact absurd h9 (by decide)
  have hKO:KeepsOthers W w3:=(KeepsOthers.alloc W _).trans (KeepsOthers.of_grownBy hg3 (fun j o e ho=>by
   have hj:=(HB.out.2.2.2.2.1.lt e).2
   exact HB.out.2.2.2.2.1.cellsB j o e (by rw [← ho];exact (heap_alloc_old _ _ hj).symm)))
  have hK2:=KeepsOthers.setCell w3 ⟨w.heap.size,0,none⟩ (.slice (some ⟨g',0,none⟩) (k+1) cap')
  refine ⟨(hKO.trans hK2).from _,(hKO.trans hK2).walks,⟨_,hbx.set _,?_⟩,hb3.setCell (p:=⟨w.heap.size,0,none⟩) (Nat.le_refl _) _⟩
  refine OwnL.only hown3 (Only.set w3 w.heap.size 0 _) ?_
  intro j hj hm
  simp only [Value.ownBlock,Option.some.injEq] at hj
  have:j=w.heap.size:=by simpa using hm
  exact hob (hj.trans this)
 case done=>
  rintro D xs W hD hS hI hK
  obtain ⟨⟨v,hv,hrow⟩,hb⟩:=hI
  have hc:=hv.cell
  gi_wp2
  refine ⟨by simp,.inl ⟨_,_,rfl,run_takeDeferred hK,?_⟩⟩
  refine ⟨_,results_tmp rfl _ _ _,v,xs,rfl,hS,?_,hb.trans (belowK_b (w:=w) (Nat.le_refl _) W D _ _ (by omega) hK rfl rfl)⟩
  refine OwnL.only hrow (S:=[D]) ⟨rfl,rfl,rfl,by simp,fun k hk hn=>World.putObj_heap_other (by simpa using hn)⟩ ?_
  intro k hk hm
  have:k=D:=by simpa using hm
  subst this
  have:=hrow.cellsB k _ hk hK
  cases this
 case stop=>
  rintro D c pre W _ _ h
  exact h.elim
end
section
open Go.RowKit Go.Maps
theorem collect_in {gf:Nat} {lb:Array Value} (eg:∀ args w,(callFunc gf args).run Tryz.prog w=.ok (.enter gf args) w) {S:List Lb→Prop} {N:Nat} (hN:N≤2000000) (w:World) (n:Nat) (hn:3≤n)
  (hseq:SeqStopsK Fence.wide (n - 1 - 1) Tryz.prog gf lb (fun x:Lb=>#[x.val]) KeepsWalks S (fun _=>True) N w) :
  CallsIn Fence.wide n Tryz.prog 138 #[.func (.func gf) #[] lb] w fun e w'=>∃ (v:Value) (ss:List Lb),e=.returned v∧S ss∧OwnL w.heap.size w' v ss∧Below w.heap.size w w':=by
 refine callsIn_of_wp Tryz.func138 rfl trivial ?_ rfl
 simp only [Tryz.ntmps138,List.size_toArray,List.length_cons,List.length_nil,Nat.reduceAdd,Nat.reduceSub,Array.replicate_succ,Array.replicate_zero,List.push_toArray,List.append_toArray,List.nil_append,List.cons_append]
 have e70:∀ args w,(callFunc 180 args).run Tryz.prog w=.ok (.enter 180 args) w:=enters_of Tryz.func180 (by kernel_rfl) rfl
 have HA:Hid (CallsIn Fence.wide (n - 1) Tryz.prog 180 #[.slice none 0 0,.func (.func gf) #[] lb] w fun e w'=>∃ (v:Value) (ss:List Lb),e=.returned v∧S ss∧OwnL w.heap.size w' v ss∧Below w.heap.size w w'):=appendSeq_in eg hN w (n - 1) (by omega) hseq
 clear hseq
 clear eg
 gi_wp2_with fail
 refine ⟨trivial,fun _=>by omega,HA.out.mono ?_⟩
 rintro e W ⟨v,ss,rfl,hS,hrow,hb⟩
 gi_wp2_with fail
 go_ret
 exact ⟨v,ss,rfl,hS,hrow,hb⟩
theorem collect_any {b cnt:Nat} {F:Lb→Option (Option (Nat×Nat×Nat))} {w:World} (h:MP cS w b F cnt) (Bm:Nat) (hBm:Bm < w.heap.size) (hm:w.cell? ⟨Bm,0,none⟩=some (.map (some b))) (hN:cnt≤2000000) :
  Calls Tryz.prog 138 #[.func (.func 140) #[] #[.pointer (some ⟨Bm,0,none⟩)]] w fun e w'=>∃ (v:Value) (ss:List Lb),e=.returned v∧(ss.Nodup∧∀ a,a∈ss↔Lu a∧(F a).isSome=true)∧OwnL w.heap.size w' v ss∧Below w.heap.size w w':=
 (callsIn_wide (n:=6)).1 (collect_in (enters_of Tryz.func140 (by kernel_rfl) rfl) hN w 6 (by omega) (keys_it h Bm hBm hm 4 (by omega)))
theorem sorted_any {b cnt:Nat} {F:Lb→Option (Option (Nat×Nat×Nat))} {w:World} (h:MP cS w b F cnt) (Bm:Nat) (hBm:Bm < w.heap.size) (hm:w.cell? ⟨Bm,0,none⟩=some (.map (some b))) (ns:List Lb) (hns:ns.Nodup) (hlu:∀ a∈ns,Lu a) (hF:∀ a,Lu a→((F a).isSome=true↔a∈ns)) (hN:cnt≤2000000) (hl:ns.length≤2000000) :
  Calls Tryz.prog 90 #[.func (.func 140) #[] #[.pointer (some ⟨Bm,0,none⟩)],.func (.func 87) #[] #[]] w fun e w'=>∃ (v:Value),e=.returned v∧OwnL w.heap.size w' v (rs ns)∧Below w.heap.size w w':=by
 have HC:Hid (Calls Tryz.prog 138 #[.func (.func 140) #[] #[.pointer (some ⟨Bm,0,none⟩)]] w fun e w'=>∃ (v:Value) (ss:List Lb),e=.returned v∧(ss.Nodup∧∀ a,a∈ss↔Lu a∧(F a).isSome=true)∧OwnL w.heap.size w' v ss∧Below w.heap.size w w'):=collect_any h Bm hBm hm hN
 have HX:Hid (ns.Nodup∧(∀ a∈ns,Lu a)∧(∀ a,Lu a→((F a).isSome=true↔a∈ns))∧ns.length≤2000000):=⟨hns,hlu,hF,hl⟩
 clear h hBm hm hns hlu hF hN hl
 go_enter Tryz.func90,Tryz.ntmps90
 go_wp2_with fail
 refine HC.out.mono ?_
 rintro e w1 ⟨v,ss,rfl,⟨hnd,hmem⟩,hrow,hb⟩
 have hm2:∀ a,a∈ss↔a∈ns:=fun a=>by
  rw [hmem a]
  exact ⟨fun ⟨h1,h2⟩=>(HX.out.2.2.1 a h1).1 h2,fun h1=>⟨HX.out.2.1 a h1,(HX.out.2.2.1 a (HX.out.2.1 a h1)).2 h1⟩⟩
 have hlen:ss.length≤2000000:=Nat.le_trans (Gs.nodup_sub ss ns hnd (fun x hx=>(hm2 x).1 hx)) HX.out.2.2.2
 have HS:Hid (Calls Tryz.prog 139 #[v,.func (.func 87) #[] #[]] w1 fun e w'=>e=.returned (.tuple #[])∧OwnL w.heap.size w' v (rs ss)∧Below w.heap.size w1 w'∧Only (bl v) w1 w'):=sort_any hrow hlen (fun x hx=>HX.out.2.1 x ((hm2 x).1 hx)) hnd hb.size
 have HE:Hid (rs ss=rs ns∧Below w.heap.size w w1):=⟨Gs.ris_eq stoL hm2,hb⟩
 clear hnd hmem hrow hb hm2 hlen HC
 go_wp2_with fail
 refine HS.out.mono ?_
 rintro e w2 ⟨rfl,hr2,hb2,_⟩
 rw [HE.out.1] at hr2
 go_wp2_with fail
 go_ret
 exact ⟨v,rfl,hr2,below_trans HE.out.2 hb2⟩
theorem nodes_any {w:World} {F:Nat→Prop} {g:Nat} {ns:List Lb} {out:Lb→List Lb} (h:GR w F g ns out) :
  Calls Tryz.prog 55 #[.pointer (some ⟨g,0,none⟩)] w fun e w'=>∃ v,e=.returned v∧OwnL w.heap.size w' v (rs ns)∧Below w.heap.size w w':=by
 have hz:=h.sz
 have hlu:=h.lu
 have hnd:=h.nd
 obtain ⟨⟨b,A,h1,h2,h3,h4,h5,h6⟩,own,lt,_⟩:=h
 have hc:w.cell? ⟨g,0,none⟩=some (.map (some b)):=by simp [World.cell?,h1]
 have HS:Hid (Calls Tryz.prog 90 #[.func (.func 140) #[] #[.pointer (some ⟨w.heap.size,0,none⟩)],.func (.func 87) #[] #[]] (w.alloc (.cells #[.map (some b)] 104)) fun e w'=>∃ (v:Value),e=.returned v∧OwnL (w.alloc (.cells #[.map (some b)] 104)).heap.size w' v (rs ns)∧Below (w.alloc (.cells #[.map (some b)] 104)).heap.size (w.alloc (.cells #[.map (some b)] 104)) w'):=
  sorted_any (h2.later (balloc _ _)) w.heap.size (by simp) (by simp) ns hnd hlu (fun a _=>by by_cases hm:a∈ns<;>simp [hm]) hz hz
 have HK:Hid (Calls Tryz.prog 91 #[.map (some b)] w fun e w'=>e=.returned (.func (.func 140) #[] #[.pointer (some ⟨w.heap.size,0,none⟩)])∧w'=w.alloc (.cells #[.map (some b)] 104)):=mkeys_any b w
 clear h1 h2 h3 h4 h5 h6 own lt hz hlu hnd
 go_enter Tryz.func55,Tryz.ntmps55
 go_wp2_with fail
 refine HK.out.mono ?_
 rintro e w1 ⟨rfl,rfl⟩
 go_wp2_with fail
 refine HS.out.mono ?_
 rintro e w2 ⟨v,rfl,hr,hb⟩
 go_wp2_with fail
 go_ret
 exact ⟨v,rfl,hr.mono (by simp),bstep (balloc _ _) hb⟩
end
section
open Go.RowKit Go.Maps
abbrev bkF (w w1 w2:World):Nat→Prop:=fun k=>w.heap.size≤k∧(k < w1.heap.size∨w2.heap.size≤k)
structure BKI (w w1 w2:World) (gb:Nat) (Av:Nat→Prop) (P:Lb→Prop) (Q:Lb→Lb→Prop) (wr:World):Prop where
 it:∃ Fb nsb outb,GR wr Fb gb nsb outb∧(∀ k,Fb k→bkF w w1 w2 k)∧(∀ x,x∈nsb↔P x)∧(∀ x y,y∈outb x↔Q x y)∧(∀ k,Fb k→¬ Av k)
 av:∀ k,Av k→k < wr.heap.size
 on:OnlyP (bkF w w1 w2) w2 wr
theorem BKI.later {w w1 w2 wr wr':World} {gb:Nat} {Av:Nat→Prop} {P:Lb→Prop} {Q:Lb→Lb→Prop} (h:BKI w w1 w2 gb Av P Q wr) (hb:Below wr.heap.size wr wr'):BKI w w1 w2 gb Av P Q wr':=by
 obtain ⟨⟨Fb,nsb,outb,h1,h2⟩,h4,h3⟩:=h
 exact ⟨⟨Fb,nsb,outb,h1.later hb,h2⟩,fun k hk=>Nat.lt_of_lt_of_le (h4 k hk) hb.size,h3.trans (OnlyP.of_below hb _) (fun i _ h=>h)⟩
theorem BKI.with {w w1 w2 wr wr':World} {gb:Nat} {P:Lb→Prop} {Q:Lb→Lb→Prop} (h:BKI w w1 w2 gb (fun _=>False) P Q wr) (hb:Below wr.heap.size wr wr') (B:Nat) (h1:wr.heap.size≤B) (h2:B < wr'.heap.size):BKI w w1 w2 gb (fun k=>k=B) P Q wr':=by
 obtain ⟨⟨Fb,nsb,outb,g1,g2,g3,g4,g5⟩,h4,h3⟩:=h
 refine ⟨⟨Fb,nsb,outb,g1.later hb,g2,g3,g4,fun k hk e=>?_⟩,fun k hk=>by rw [hk];exact h2,h3.trans (OnlyP.of_below hb _) (fun i _ h=>h)⟩
 have:=g1.lt k hk
 omega
theorem BKI.less {w w1 w2 wr:World} {gb:Nat} {Av:Nat→Prop} {P:Lb→Prop} {Q:Lb→Lb→Prop} (h:BKI w w1 w2 gb Av P Q wr):BKI w w1 w2 gb (fun _=>False) P Q wr:=by
 obtain ⟨⟨Fb,nsb,outb,g1,g2,g3,g4,g5⟩,h4,h3⟩:=h
 exact ⟨⟨Fb,nsb,outb,g1,g2,g3,g4,fun k hk e=>e⟩,fun k hk=>hk.elim,h3⟩
theorem BKI.congr {w w1 w2 wr:World} {gb:Nat} {Av:Nat→Prop} {P P':Lb→Prop} {Q Q':Lb→Lb→Prop} (h:BKI w w1 w2 gb Av P Q wr) (hP:∀ x,P x↔P' x) (hQ:∀ x y,Q x y↔Q' x y):BKI w w1 w2 gb Av P' Q' wr:=by
 obtain ⟨⟨Fb,nsb,outb,h1,h2,h3,h4,h6⟩,h7,h5⟩:=h
 exact ⟨⟨Fb,nsb,outb,h1,h2,fun x=>(h3 x).trans (hP x),fun x y=>(h4 x y).trans (hQ x y),h6⟩,h7,h5⟩
theorem nw_bk {w w1 w2 wr wr':World} {Fb:Nat→Prop} (h:∀ k,Fb k→bkF w w1 w2 k) (hon:OnlyP (bkF w w1 w2) w2 wr) (hw:w.heap.size≤w2.heap.size):∀ k,nw Fb wr wr' k→bkF w w1 w2 k:=by
 rintro k (hk | hk)
 ·exact h k hk
 ·have:=hon.size
  exact ⟨by omega,.inr (by omega)⟩
theorem nw_av {wr wr':World} {Fb Av:Nat→Prop} (h:∀ k,Fb k→¬ Av k) (ha:∀ k,Av k→k < wr.heap.size):∀ k,nw Fb wr wr' k→¬ Av k:=by
 rintro k (hk | hk) e
 ·exact h k hk e
 ·have:=ha k e;omega
theorem bk_node {w w1 w2 wr:World} {gb:Nat} {Av:Nat→Prop} {P:Lb→Prop} {Q:Lb→Lb→Prop} {ns:List Lb} (h:BKI w w1 w2 gb Av P Q wr) (hw:w.heap.size≤w2.heap.size) (hP:∀ x,P x→x∈ns) (hz:ns.length+2≤2000000) (a:Lb) (ha:Lu a) :
  Calls Tryz.prog 52 #[.pointer (some ⟨gb,0,none⟩),a.val] wr fun e w'=>e=.returned (.tuple #[])∧BKI w w1 w2 gb Av (fun x=>P x∨x=a) Q w'∧∀ k,Av k→w'.heap[k]? = wr.heap[k]?:=by
 obtain ⟨⟨Fb,nsb,outb,h1,h2,h3,h4,h6⟩,h7,h5⟩:=h
 have hl:=Gs.nodup_sub nsb ns h1.nd (fun x hx=>hP x ((h3 x).1 hx))
 refine (node_any h1 a ha (by omega)).mono ?_
 rintro e w' ⟨rfl,hg,ho⟩
 refine ⟨rfl,⟨⟨_,_,outb,hg,nw_bk h2 h5 hw,fun x=>by rw [mem_addN,h3],h4,nw_av h6 h7⟩,fun k hk=>Nat.lt_of_lt_of_le (h7 k hk) ho.size,h5.trans ho (fun i _ h=>h2 i h)⟩,fun k hk=>ho.block k (h7 k hk) (fun e=>h6 k e hk)⟩
theorem bk_edge {w w1 w2 wr:World} {gb:Nat} {Av:Nat→Prop} {P:Lb→Prop} {Q:Lb→Lb→Prop} {ns:List Lb} (h:BKI w w1 w2 gb Av P Q wr) (hw:w.heap.size≤w2.heap.size) (hP:∀ x,P x→x∈ns) (hz:ns.length+2≤2000000) (b a:Lb) (hb:Lu b) (ha:Lu a) :
  Calls Tryz.prog 53 #[.pointer (some ⟨gb,0,none⟩),b.val,a.val] wr fun e w'=>e=.returned (.tuple #[])∧BKI w w1 w2 gb Av (fun x=>(P x∨x=b)∨x=a) (fun x y=>Q x y∨x=b∧y=a) w'∧∀ k,Av k→w'.heap[k]? = wr.heap[k]?:=by
 obtain ⟨⟨Fb,nsb,outb,h1,h2,h3,h4,h6⟩,h7,h5⟩:=h
 have hl:=Gs.nodup_sub nsb ns h1.nd (fun x hx=>hP x ((h3 x).1 hx))
 refine (edge_any h1 b a hb ha (by omega)).mono ?_
 rintro e w' ⟨rfl,hg,ho⟩
 refine ⟨rfl,⟨⟨_,_,_,hg,nw_bk h2 h5 hw,fun x=>by rw [mem_addN,mem_addN,h3],fun x y=>?_,nw_av h6 h7⟩,fun k hk=>Nat.lt_of_lt_of_le (h7 k hk) ho.size,h5.trans ho (fun i _ h=>h2 i h)⟩,fun k hk=>ho.block k (h7 k hk) (fun e=>h6 k e hk)⟩
 unfold outI
 split
 ·rename_i e
  subst e
  rw [Gs.mem_insr,h4]
  constructor
  ·rintro (rfl | h)
   ·exact .inr ⟨rfl,rfl⟩
   ·exact .inl h
  ·rintro (h | ⟨_,rfl⟩)
   ·exact .inr h
   ·exact .inl rfl
 ·rename_i e
  rw [h4]
  constructor
  ·exact .inl
  ·rintro (h | ⟨h,_⟩)
   ·exact h
   ·exact absurd h e
structure BKR (w w1 w2:World) (F:Nat→Prop) (g:Nat) (ns:List Lb) (out:Lb→List Lb) (v:Value):Prop where
 gr:GR w F g ns out
 b1:Below w.heap.size w w1
 b2:Below w1.heap.size w1 w2
 own:OwnL w1.heap.size w2 v (rs ns)
 sz:ns.length+2≤2000000
theorem BKR.below {w w1 w2:World} {F:Nat→Prop} {g:Nat} {ns:List Lb} {out:Lb→List Lb} {v:Value} (h:BKR w w1 w2 F g ns out v) {wr:World} (hon:OnlyP (bkF w w1 w2) w2 wr):Below w.heap.size w wr:=by
 have h0:=bstep h.b1 h.b2
 exact below_trans h0 (hon.below h0.size (fun k hk=>hk.1))
theorem BKR.list {w w1 w2:World} {F:Nat→Prop} {g:Nat} {ns:List Lb} {out:Lb→List Lb} {v:Value} (h:BKR w w1 w2 F g ns out v) {wr:World} (hon:OnlyP (bkF w w1 w2) w2 wr):LS wr v (rs ns):=by
 rcases OL.of h.own with ⟨e,e2⟩ | ⟨q,cap,rest,e,ho⟩
 ·exact .inl ⟨⟨_,_,e⟩,e2⟩
 ·have h1:wr.heap[q]? = w2.heap[q]?:=hon.block q ho.lt (fun hk=>by have:=ho.ge;have:=ho.lt;rcases hk.2 with h | h<;>omega)
  have ho2:OL w1.heap.size wr q cap (rs ns) rest:=⟨h1.trans ho.blk,ho.ge,ho.cm,ho.sz⟩
  rw [e]
  exact ho2.own.rs
theorem rs_len {w:World} {F:Nat→Prop} {g:Nat} {ns:List Lb} {out:Lb→List Lb} (h:GR w F g ns out):(rs ns).length=ns.length:=by
 apply Nat.le_antisymm
 ·exact Gs.ris_le ns
 ·exact Gs.nodup_sub ns (rs ns) h.nd (fun x hx=>(Gs.mem_ris x ns).2 hx)
theorem back_any {w:World} {F:Nat→Prop} {g:Nat} {ns:List Lb} {out:Lb→List Lb} (h:GR w F g ns out) (hz:ns.length+2≤2000000) :
  Calls Tryz.prog 61 #[.pointer (some ⟨g,0,none⟩)] w fun e w'=>∃ gb Fb nsb outb,e=.returned (.pointer (some ⟨gb,0,none⟩))∧GR w' Fb gb nsb outb∧(∀ k,Fb k→w.heap.size≤k)∧(∀ x,x∈nsb↔x∈ns)∧(∀ x y,y∈outb x↔x∈out y)∧Below w.heap.size w w':=by
 have H:Hid (GR w F g ns out∧ns.length+2≤2000000):=⟨h,hz⟩
 clear h hz
 go_enter Tryz.func61,Tryz.ntmps61
 go_wp2_with fail
 refine (new_any w).mono ?_
 rintro e w1 ⟨gb,rfl,hg1,hb1⟩
 have HG1:Hid (GR w1 (fun k=>w.heap.size≤k∧k < w1.heap.size) gb [] (fun _=>[])∧Below w.heap.size w w1):=⟨hg1,hb1⟩
 clear hg1 hb1
 go_wp2_with fail
 refine (nodes_any (H.out.1.later HG1.out.2)).mono ?_
 rintro e w2 ⟨v,rfl,hov,hb2⟩
 have HR:Hid (BKR w w1 w2 F g ns out v):=⟨H.out.1,HG1.out.2,hb2,hov,H.out.2⟩
 have HI0:Hid (BKI w w1 w2 gb (fun _=>False) (fun _=>False) (fun _ _=>False) w2):=⟨⟨_,[],fun _=>[],HG1.out.1.later hb2,fun k hk=>⟨hk.1,.inl hk.2⟩,by simp,by simp,fun _ _ e=>e⟩,fun _ e=>e.elim,OnlyP.refl _ _⟩
 obtain ⟨av,cv,hvv⟩:=hov.form
 clear hov hb2
 obtain ⟨nl,hnl⟩:∃ nl,(rs ns).length=nl:=⟨_,rfl⟩
 rw [hnl] at hvv
 have HNL:Hid ((rs ns).length=nl∧nl≤2000000):=⟨hnl,by rw [← hnl,rs_len H.out.1];have:=H.out.2;omega⟩
 clear hnl
 subst hvv
 have hnl2:nl≤2000000:=HNL.out.2
 have hWW:Hid (w.heap.size≤w2.heap.size):=(bstep HR.out.b1 HR.out.b2).size
 go_wp2_with fail
 go_loopw [12] (fun s12 wr=>∃ k:Nat,s12=.int .i64 k∧k≤nl∧BKI w w1 w2 gb (fun _=>False) (fun x=>∃ y∈(rs ns).take k,x=y∨x∈out y) (fun x y=>y∈(rs ns).take k∧x∈out y) wr) (fun s12 _=>nl - (intOf s12).toNat)
 case atStart=>exact ⟨0,rfl,by omega,HI0.out.congr (by simp) (by simp)⟩
 case round=>
  obtain ⟨k,rfl,hk,hI⟩:=hrel
  have HI:Hid (BKI w w1 w2 gb (fun _=>False) (fun x=>∃ y∈(rs ns).take k,x=y∨x∈out y) (fun x y=>y∈(rs ns).take k∧x∈out y) wr):=hI
  clear hI
  by_cases hlt:k < nl
  ·have hkl:k < (rs ns).length:=by rw [HNL.out.1];exact hlt
   obtain ⟨b,off,ea,hbw,d0,d1⟩:=LS.at (HR.out.list HI.out.on) (Below.refl _ wr) hkl
   subst ea
   obtain ⟨a,hae⟩:∃ a,(rs ns)[k]=a:=⟨_,rfl⟩
   have HA:Hid ((rs ns)[k]=a∧a∈ns∧Lu a):=by
    have hm:a∈ns:=by rw [← hae];exact (Gs.mem_ris _ _).1 (List.getElem_mem hkl)
    exact ⟨hae,hm,HR.out.gr.lu a hm⟩
   rw [hae] at d0 d1
   clear hae
   have k1:(k:Int) < (nl:Int):=by omega
   obtain ⟨p,n⟩:=a
   simp only at d0 d1
   rename World=>wo
   obtain ⟨wA,hwA⟩:∃ wA,wo.alloc (.cells #[.string (bs p),.string (bs n)] 27)=wA:=⟨_,rfl⟩
   have hIA:BKI w w1 w2 gb (fun j=>j=wo.heap.size) (fun x=>∃ y∈(rs ns).take k,x=y∨x∈out y) (fun x y=>y∈(rs ns).take k∧x∈out y) wA:=by
    rw [← hwA];exact HI.out.with (balloc _ _) wo.heap.size (Nat.le_refl _) (by simp)
   have hRA:RB wA wo.heap.size ⟨p,n⟩:=by rw [← hwA];exact RB.new wo ⟨p,n⟩
   have HWA:Hid (wo.alloc (.cells #[.string (bs p),.string (bs n)] 27)=wA∧RB wA wo.heap.size ⟨p,n⟩):=⟨hwA,hRA⟩
   have hPn:∀ x,(∃ y∈(rs ns).take k,x=y∨x∈out y)→x∈ns:=by
    rintro x ⟨y,hy,(rfl | hx)⟩
    ·exact (Gs.mem_ris _ _).1 (List.mem_of_mem_take hy)
    ·exact (HR.out.gr.sub y x hx).2
   have HN:Hid (Calls Tryz.prog 52 #[.pointer (some ⟨gb,0,none⟩),.agg #[.string (bs p),.string (bs n)]] wA fun e w'=>e=.returned (.tuple #[])∧BKI w w1 w2 gb (fun j=>j=wo.heap.size) (fun x=>(∃ y∈(rs ns).take k,x=y∨x∈out y)∨x=⟨p,n⟩) (fun x y=>y∈(rs ns).take k∧x∈out y) w'∧∀ k,k=wo.heap.size→w'.heap[k]? = wA.heap[k]?):=bk_node hIA hWW.out hPn HR.out.sz ⟨p,n⟩ HA.out.2.2
   clear hIA hRA hwA hPn
   go_wp2_with fail
   rw [HWA.out.1]
   refine HN.out.mono ?_
   rintro e w3 ⟨rfl,hI3,hk3⟩
   have hR3:RB w3 wo.heap.size ⟨p,n⟩:=⟨(hk3 _ rfl).trans HWA.out.2.blk⟩
   obtain ⟨c0,c1,_,_⟩:=hR3.cells
   simp only at c0 c1
   have HI3:Hid (BKI w w1 w2 gb (fun j=>j=wo.heap.size) (fun x=>(∃ y∈(rs ns).take k,x=y∨x∈out y)∨x=⟨p,n⟩) (fun x y=>y∈(rs ns).take k∧x∈out y) w3∧RB w3 wo.heap.size ⟨p,n⟩):=⟨hI3,hR3⟩
   clear hk3 hI3 hR3 d0 d1
   have hb3:=HR.out.below HI3.out.1.on
   obtain ⟨mm,hmc,_,hml,_,_,hlk⟩:=HR.out.gr.map
   obtain ⟨va,hva,_,hlook⟩:=hlk ⟨p,n⟩ HA.out.2.2
   have hmc3:=(hb3.cell (p:=⟨g,0,none⟩) HR.out.gr.glt).trans hmc
   have hlook':∀ j,(Instr.lookup 104 (.map (some mm)) (.agg #[.string (bs p),.string (bs n)]) false).run Tryz.prog (w3.drewN j)=.ok va (w3.drewN j):=fun j=>(hlook (w3.drewN j) (hb3.block mm hml)).1
   have hol:=HR.out.gr.olen ⟨p,n⟩
   obtain ⟨ol,hole⟩:∃ ol,(out ⟨p,n⟩).length=ol:=⟨_,rfl⟩
   obtain ⟨aa,ca,hvv⟩:=hva.form
   rw [hole] at hvv hol
   subst hvv
   have HVA:Hid (LS w (.slice aa ol ca) (out ⟨p,n⟩)∧(out ⟨p,n⟩).length=ol):=⟨hva.rs,hole⟩
   have hol2:ol≤2000000:=by have:=HR.out.sz;omega
   clear hlook hlk hmc hva hole hb3 hml
   go_wp2_with fail
   go_quiet (fail)
   go_wp2_with fail
   have HI4:Hid (∀ q,BKI w w1 w2 gb (fun j=>j=wo.heap.size) (fun x=>(∃ y∈(rs ns).take k,x=y∨x∈out y)∨x=⟨p,n⟩) (fun x y=>y∈(rs ns).take k∧x∈out y) (w3.drewN q)∧RB (w3.drewN q) wo.heap.size ⟨p,n⟩):=fun q=>⟨HI3.out.1.later (bd w3 q),HI3.out.2.later (bd w3 q)⟩
   clear c0 c1 hmc3 hlook'
   go_loopw [26] (fun s26 wr=>∃ j:Nat,s26=.int .i64 j∧j≤ol∧RB wr wo.heap.size ⟨p,n⟩∧BKI w w1 w2 gb (fun j=>j=wo.heap.size) (fun x=>(∃ y∈(rs ns).take k,x=y∨x∈out y)∨x=⟨p,n⟩∨x∈(out ⟨p,n⟩).take j) (fun x y=>y∈(rs ns).take k∧x∈out y∨y=⟨p,n⟩∧x∈(out ⟨p,n⟩).take j) wr) (fun s26 _=>ol - (intOf s26).toNat)
   case atStart=>exact ⟨0,rfl,by omega,(HI4.out _).2,(HI4.out _).1.congr (by simp) (by simp)⟩
   case round=>
    obtain ⟨j,rfl,hj,hRj,hIj⟩:=hrel
    have HIJ:Hid (RB wr wo.heap.size ⟨p,n⟩∧BKI w w1 w2 gb (fun j=>j=wo.heap.size) (fun x=>(∃ y∈(rs ns).take k,x=y∨x∈out y)∨x=⟨p,n⟩∨x∈(out ⟨p,n⟩).take j) (fun x y=>y∈(rs ns).take k∧x∈out y∨y=⟨p,n⟩∧x∈(out ⟨p,n⟩).take j) wr):=⟨hRj,hIj⟩
    clear hRj hIj
    by_cases hjl:j < ol
    ·have hjl2:j < (out ⟨p,n⟩).length:=by rw [HVA.out.2];exact hjl
     obtain ⟨b2,off2,ea,hbw2,d0,d1⟩:=LS.at (HVA.out.1.below (HR.out.below HIJ.out.2.on) (fun _ q hq=>by
      rcases HVA.out.1 with ⟨_,h0⟩ | ⟨b3,o3,c3,e3,_,hlt3,_⟩
      ·rw [h0] at hjl2;simp at hjl2
      ·rw [e3] at hq;simp only [Value.ownBlock,Option.some.injEq] at hq;omega)) (Below.refl _ wr) hjl2
     subst ea
     obtain ⟨x,hxe⟩:∃ x,(out ⟨p,n⟩)[j]=x:=⟨_,rfl⟩
     have HX:Hid ((out ⟨p,n⟩)[j]=x∧x∈out ⟨p,n⟩∧Lu x):=by
      have hm:x∈out ⟨p,n⟩:=by rw [← hxe];exact List.getElem_mem hjl2
      exact ⟨hxe,hm,HR.out.gr.lu x (HR.out.gr.sub _ x hm).2⟩
     rw [hxe] at d0 d1
     clear hxe
     have k2:(j:Int) < (ol:Int):=by omega
     obtain ⟨q,m⟩:=x
     simp only at d0 d1
     have hRB2:=HIJ.out.1.later (balloc wr (.cells #[.string (bs q),.string (bs m)] 27))
     obtain ⟨c0,c1,_,_⟩:=hRB2.cells
     simp only at c0 c1
     have hPn:∀ x,(((∃ y∈(rs ns).take k,x=y∨x∈out y)∨x=⟨p,n⟩∨x∈(out ⟨p,n⟩).take j))→x∈ns:=by
      rintro x (⟨y,hy,(rfl | hx)⟩ | rfl | hx)
      ·exact (Gs.mem_ris _ _).1 (List.mem_of_mem_take hy)
      ·exact (HR.out.gr.sub y x hx).2
      ·exact HA.out.2.1
      ·exact (HR.out.gr.sub _ x (List.mem_of_mem_take hx)).2
     have HE:Hid (Calls Tryz.prog 53 #[.pointer (some ⟨gb,0,none⟩),.agg #[.string (bs q),.string (bs m)],.agg #[.string (bs p),.string (bs n)]] (wr.alloc (.cells #[.string (bs q),.string (bs m)] 27)) fun e w'=>e=.returned (.tuple #[])∧BKI w w1 w2 gb (fun j=>j=wo.heap.size) (fun x=>(((∃ y∈(rs ns).take k,x=y∨x∈out y)∨x=⟨p,n⟩∨x∈(out ⟨p,n⟩).take j)∨x=⟨q,m⟩)∨x=⟨p,n⟩) (fun x y=>(y∈(rs ns).take k∧x∈out y∨y=⟨p,n⟩∧x∈(out ⟨p,n⟩).take j)∨x=⟨q,m⟩∧y=⟨p,n⟩) w'∧∀ k,k=wo.heap.size→w'.heap[k]? = (wr.alloc (.cells #[.string (bs q),.string (bs m)] 27)).heap[k]?):=
      bk_edge (HIJ.out.2.later (balloc _ _)) hWW.out hPn HR.out.sz ⟨q,m⟩ ⟨p,n⟩ HX.out.2.2 HA.out.2.2
     have HRB2:Hid (RB (wr.alloc (.cells #[.string (bs q),.string (bs m)] 27)) wo.heap.size ⟨p,n⟩):=hRB2
     clear hRB2 hPn
     go_wp2_with fail
     refine HE.out.mono ?_
     rintro e w5 ⟨rfl,hI5,hk5⟩
     have HI5:Hid (RB w5 wo.heap.size ⟨p,n⟩∧BKI w w1 w2 gb (fun j=>j=wo.heap.size) (fun x=>(∃ y∈(rs ns).take k,x=y∨x∈out y)∨x=⟨p,n⟩∨x∈(out ⟨p,n⟩).take (j+1)) (fun x y=>y∈(rs ns).take k∧x∈out y∨y=⟨p,n⟩∧x∈(out ⟨p,n⟩).take (j+1)) w5):=by
      refine ⟨⟨(hk5 _ rfl).trans HRB2.out.blk⟩,hI5.congr (fun x=>?_) (fun x y=>?_)⟩
      ·rw [List.take_succ_eq_append_getElem hjl2,List.mem_append,HX.out.1]
       simp only [List.mem_singleton]
       constructor
       ·rintro ((((h | h | h) | h)) | h)
        ·exact .inl h
        ·exact .inr (.inl h)
        ·exact .inr (.inr (.inl h))
        ·exact .inr (.inr (.inr h))
        ·exact .inr (.inl h)
       ·rintro (h | h | h | h)
        ·exact .inl (.inl (.inl h))
        ·exact .inr h
        ·exact .inl (.inl (.inr (.inr h)))
        ·exact .inl (.inr h)
      ·rw [List.take_succ_eq_append_getElem hjl2,List.mem_append,HX.out.1]
       simp only [List.mem_singleton]
       constructor
       ·rintro ((h | ⟨h1,h2⟩) | ⟨h1,h2⟩)
        ·exact .inl h
        ·exact .inr ⟨h1,.inl h2⟩
        ·exact .inr ⟨h2,.inr h1⟩
       ·rintro (h | ⟨h1,(h2 | h2)⟩)
        ·exact .inl (.inl h)
        ·exact .inl (.inr ⟨h1,h2⟩)
        ·exact .inr ⟨h2,h1⟩
     clear hI5 hk5 c0 c1 d0 d1
     go_wp2_with fail
     go_roundw
     case rel=>exact ⟨j+1,by go_num,by omega,HI5.out.1,HI5.out.2⟩
     case measure=>simp [intOf];omega
    ·obtain rfl:ol=j:=by omega
     go_wp2_with fail
     go_roundw
     case rel=>
      refine ⟨k+1,by go_num,by omega,HIJ.out.2.less.congr (fun x=>?_) (fun x y=>?_)⟩
      ·rw [List.take_of_length_le (l:=out ⟨p,n⟩) (by rw [HVA.out.2];omega),List.take_succ_eq_append_getElem (by rw [HNL.out.1];exact hlt),HA.out.1]
       simp only [List.mem_append,List.mem_singleton]
       constructor
       ·rintro (⟨y,hy,h⟩ | rfl | h)
        ·exact ⟨y,.inl hy,h⟩
        ·exact ⟨_,.inr rfl,.inl rfl⟩
        ·exact ⟨_,.inr rfl,.inr h⟩
       ·rintro ⟨y,(hy | rfl),h⟩
        ·exact .inl ⟨y,hy,h⟩
        ·rcases h with rfl | h
         ·exact .inr (.inl rfl)
         ·exact .inr (.inr h)
      ·rw [List.take_of_length_le (l:=out ⟨p,n⟩) (by rw [HVA.out.2];omega),List.take_succ_eq_append_getElem (by rw [HNL.out.1];exact hlt),HA.out.1]
       simp only [List.mem_append,List.mem_singleton]
       constructor
       ·rintro (⟨h1,h2⟩ | ⟨rfl,h2⟩)
        ·exact ⟨.inl h1,h2⟩
        ·exact ⟨.inr rfl,h2⟩
       ·rintro ⟨(h1 | rfl),h2⟩
        ·exact .inl ⟨h1,h2⟩
        ·exact .inr ⟨rfl,h2⟩
     case measure=>simp [intOf];omega
  ·obtain rfl:nl=k:=by omega
   go_wp2_with fail
   go_ret
   obtain ⟨⟨Fb,nsb,outb,h1,h2,h3,h4,_⟩,_,h5⟩:=HI.out
   refine ⟨gb,Fb,nsb,outb,rfl,h1,fun k hk=>(h2 k hk).1,fun x=>?_,fun x y=>?_,HR.out.below h5⟩
   ·rw [h3]
    rw [List.take_of_length_le (by rw [HNL.out.1];omega)]
    constructor
    ·rintro ⟨y,hy,(rfl | hx)⟩
     ·exact (Gs.mem_ris _ _).1 hy
     ·exact (HR.out.gr.sub y x hx).2
    ·intro hx
     exact ⟨x,(Gs.mem_ris _ _).2 hx,.inl rfl⟩
   ·rw [h4,List.take_of_length_le (by rw [HNL.out.1];omega)]
    exact ⟨fun h=>h.2,fun h=>⟨(Gs.mem_ris _ _).2 (HR.out.gr.sub y x h).1,h⟩⟩
end
end Go.Proofs.YtppnbdnpapellaaGreatDoor
