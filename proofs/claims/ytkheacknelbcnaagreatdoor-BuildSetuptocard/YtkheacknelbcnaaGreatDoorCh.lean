/-
  The first manifest that does not parse.
-/
import Derived.Test.YtkheacknelbcnaaGreatDoorJCg
namespace Go.Proofs.YtkheacknelbcnaaGreatDoor
open Go.RowKit Go.Maps
/-- the place of a file's fault, as a manifest that was read -/
def brkL (l:List Fl) (c:List (List UInt8)) (q:List UInt8):Int:=match c.find? (fun p=>decide (q=whl p wName)) with
 | some p=>(says l p).2
 | none=>-1
def isBk (l:List Fl) (c:List (List UInt8)) (f:Fl):Bool:=brkL l c f.path != -1
def brkV (l:List Fl) (c:List (List UInt8)) (f:Fl):Fv:=⟨1,⟨[],[]⟩,⟨[],[]⟩,f.path,brkL l c f.path,none,0,0⟩
def brkF (l:List Fl) (c:List (List UInt8)):Fv:=match l.find? (isBk l c) with
 | some f=>brkV l c f
 | none=>zFv
theorem brkL_none {l:List Fl} {c:List (List UInt8)} {q:List UInt8} (h:¬ ∃ p,p∈c∧q=whl p wName):brkL l c q = -1:=by
 unfold brkL
 rw [List.find?_eq_none.2 (fun p hp=>by simp;intro e;exact h ⟨p,hp,e⟩)]
theorem brkL_some {l:List Fl} {c:List (List UInt8)} {p:List UInt8} (h:p∈c):brkL l c (whl p wName)=(says l p).2:=by
 unfold brkL
 cases e:c.find? (fun p'=>decide (whl p wName=whl p' wName)) with
 | none=>exact absurd (List.find?_eq_none.1 e p h) (by simp)
 | some p'=>
  have:=List.find?_some e
  rw [whl_inj (of_decide_eq_true this)]
theorem brkF_at {l:List Fl} {c:List (List UInt8)} {i:Nat} (hi:i < l.length) (h:∀ a∈l.take i,isBk l c a=false) (hq:isBk l c l[i]=true):brkF l c=brkV l c l[i]∧l.any (isBk l c)=true:=by
 have e:l.take i++l[i]::l.drop (i+1)=l:=by rw [← List.drop_eq_getElem_cons hi,List.take_append_drop]
 have h1:=find_mid (f:=isBk l c) (A:=l.take i) (B:=l.drop (i+1)) (x:=l[i]) h hq
 rw [e] at h1
 refine ⟨by unfold brkF;rw [h1],?_⟩
 rw [List.any_eq_true]
 exact ⟨l[i],List.getElem_mem hi,hq⟩
set_option maxRecDepth 100000 in
set_option maxHeartbeats 8000000 in
theorem bbroken_any {w0 w:World} {R:Nat→Prop} {r:Nat} {c:List (List UInt8)} {l:List Fl} (H:RX w0 w R r l c) (sm:FQ l) :
  Calls Tryz.prog 45 #[.pointer (some ⟨r,0,none⟩)] w (AskP w (brkF l c) (l.any (isBk l c))):=by
 obtain ⟨fv,mb,F,cnt,hr,hfs,hms,hcnt,hne,hRr,hRm,hsh⟩:=H.it
 have hrl:=(H.rlo r hRr).2
 have r0:w.cell? ⟨r,0,none⟩=some fv:=by simp [World.cell?,hr]
 have r1:w.cell? ⟨r,1,none⟩=some (.map (some mb)):=by simp [World.cell?,hr]
 have HR1:Hid (∀ W,Below w.heap.size w W→W.cell? ⟨r,1,none⟩=some (.map (some mb))):=fun W hW=>by simp [World.cell?,hW.block r hrl,hr]
 have HLK:Hid (∀ W,Below w.heap.size w W→∀ q:List UInt8,q.length≤100000000→(Instr.lookup 57 (.map (some mb)) (.string (bs q)) true).run Tryz.prog W=.ok (.tuple #[shV ((F q).getD (none,0)),.bool (F q).isSome]) W):=fun W hW q hq=>(hms.later hW).look (by omega)
 have HBR:Hid (∀ q,(F q=none→brkL l c q = -1)∧∀ x,F q=some x→brkL l c q=x.2):=fun q=>by
  refine ⟨fun h=>brkL_none (fun hp=>?_),fun x hx=>?_⟩
  ·have:=(hsh.2 q).2 hp
   rw [h] at this
   cases this
  ·obtain ⟨p,e1,e2,_⟩:=hsh.1 q x hx
   obtain ⟨p',m1,m2⟩:=(hsh.2 q).1 (by rw [hx];rfl)
   obtain rfl:=whl_inj (e1.symm.trans m2)
   rw [e1,brkL_some m1,e2]
 obtain ⟨a0,c0,hfv,_⟩:=hfs.form
 obtain ⟨n,hln⟩:∃ n,l.length=n:=⟨_,rfl⟩
 have HFS:Hid (FS w0 fv l∧fv=.slice a0 l.length c0):=⟨hfs,hfv⟩
 rw [hln] at hfv
 subst hfv
 have W0:=cell_alloc (.cells #[.int .i64 0,.string { data:=#[] },.string { data:=#[] },.string { data:=#[] },.string { data:=#[] },.string { data:=#[] },.int .i64 0,.slice none 0 0] 30) hrl r0
 have HX:Hid (RX w0 w R r l c∧FQ l∧l.length=n):=⟨H,sm,hln⟩
 have hn8:n≤4000000:=by rw [← hln];exact sm.len
 clear H sm hln hr hfs hms hcnt hsh r0 r1
 have HZ:Hid (FK (w.alloc (.cells #[.int .i64 0,.string { data:=#[] },.string { data:=#[] },.string { data:=#[] },.string { data:=#[] },.string { data:=#[] },.int .i64 0,.slice none 0 0] 30)) w.heap.size zFv):=FK.new w zFv
 go_enter Tryz.func45,Tryz.ntmps45
 go_wp2_with fail
 clear W0
 go_loopw [13] (fun iv wr=>∃ (i:Nat),i≤n∧iv=.int .i64 i∧(∀ a∈l.take i,isBk l c a=false)∧Below w.heap.size w wr∧FK wr w.heap.size zFv) (fun iv _=>n - (intOf iv).toNat)
 case atStart=>exact ⟨0,by omega,rfl,by simp,balloc _ _,HZ.out⟩
 case round=>
  obtain ⟨i,hi0,rfl,h1,h2,h3⟩:=hrel
  have X5:Hid ((∀ a∈l.take i,isBk l c a=false)∧Below w.heap.size w wr∧FK wr w.heap.size zFv):=⟨h1,h2,h3⟩
  have hs0:w.heap.size < wr.heap.size:=h3.lt
  clear h1 h2 h3
  by_cases hi:i < n
  ·have i1:(i:Int) < (n:Int):=by omega
   have i2:(0:Int)≤(i:Int):=by omega
   have hil:i < l.length:=by rw [HX.out.2.2];exact hi
   obtain ⟨b,off,ea,hbw,d0,d1,d2,d3⟩:=FS.at (a:=a0) (c:=c0) (by have:=HFS.out;rw [this.2] at this;exact this.1) (below_trans HX.out.1.bel (below_mono X5.out.2.1 HX.out.1.bel.size)) hil
   subst ea
   have HTK:Hid (l.take (i+1)=l.take i++[l[i]]):=List.take_succ_eq_append_getElem hil
   have HFI:Hid (isBk l c l[i]=true→brkF l c=brkV l c l[i]∧l.any (isBk l c)=true):=fun h=>brkF_at hil X5.out.1 h
   have hpl:=HX.out.2.1.pat hil
   obtain ⟨x,hx⟩:∃ x,l[i]=x:=⟨_,rfl⟩
   rw [hx] at d0 d1 d2 d3 HTK HFI hpl
   clear hx
   obtain ⟨q,tx,bl,sz⟩:=x
   simp only at d0 d1 d2 d3 hpl
   obtain ⟨ya,yn,yc,k,m,hlook,hbl⟩:∃ ya yn yc k m,(∀ W,Below w.heap.size w W→(Instr.lookup 57 (.map (some mb)) (.string (bs q)) true).run Tryz.prog W=.ok (.tuple #[.agg #[.slice ya yn yc,.int .i64 k],.bool m]) W)∧brkL l c q=if m then k else -1:=by
    cases hF:F q with
    | none=>exact ⟨none,0,0,0,false,fun W hW=>by have h:=HLK.out W hW q hpl;rw [hF] at h;exact h,(HBR.out q).1 hF⟩
    | some x=>
     obtain ⟨y,k⟩:=x
     obtain ⟨ya,yn,yc,hy⟩:=sv_form y
     exact ⟨ya,yn,yc,k,true,fun W hW=>by have h:=HLK.out W hW q hpl;rw [hF] at h;simp only [Option.getD_some,Option.isSome_some,shV,hy] at h;exact h,(HBR.out q).2 _ hF⟩
   have HBL:Hid (brkL l c q=if m then k else -1):=hbl
   have HS0:Hid (∀ W,Below (wr.alloc (.cells #[.string (bs q),.string (bs tx),.int .i64 bl,.int .i64 sz] 42)).heap.size (wr.alloc (.cells #[.string (bs q),.string (bs tx),.int .i64 bl,.int .i64 sz] 42)) W→W.cell? ⟨r,1,none⟩=some (.map (some mb))∧W.cell? ⟨wr.heap.size,0,none⟩=some (.string (bs q))∧(Instr.lookup 57 (.map (some mb)) (.string (bs q)) true).run Tryz.prog W=.ok (.tuple #[.agg #[.slice ya yn yc,.int .i64 k],.bool m]) W):=fun W hW=>by
    have hb:Below w.heap.size w W:=bstep (bstep X5.out.2.1 (balloc _ _)) hW
    exact ⟨HR1.out W hb,(hW.cell (p:=⟨wr.heap.size,0,none⟩) (by simp)).trans (by simp),hlook W hb⟩
   clear hlook hbl hpl
   go_upto_region 4 with fail
   obtain ⟨x1,x2,x3⟩:=HS0.out _ (bd (wr.alloc (.cells #[.string (bs q),.string (bs tx),.int .i64 bl,.int .i64 sz] 42)) 1)
   refine wp_region_noPanic ?_
   refine wp_region_held_drew (S:=fun W'=>W'.cell? ⟨r,1,none⟩=some (.map (some mb))∧W'.cell? ⟨wr.heap.size,0,none⟩=some (.string (bs q))∧(Instr.lookup 57 (.map (some mb)) (.string (bs q)) true).run Tryz.prog W'=.ok (.tuple #[.agg #[.slice ya yn yc,.int .i64 k],.bool m]) W') (by kernel_rfl) (by exact HS0.out _ (bd _ 1)) (fun hHeld=>?_)
   refine wpAnyH_take (i:=0) (oi:=⟨some 18,_,_,_,_,_⟩) (v:=?vx1) rfl (by kernel_rfl) (by kernel_rfl) (by kernel_rfl) (fun _ _ _ h=>h) (Or.inl ⟨by rfl,?hyx1⟩) (by assumption) ?restx1
   case hyx1=>(intro w hSw;(try dsimp only at hSw);go_simp;try with_reducible rfl)
   try simp only [Act.put,List.setIfInBounds_toArray,List.set_cons_zero,List.set_cons_succ]
   refine wpAnyH_take (i:=1) (oi:=⟨some 19,_,_,_,_,_⟩) (v:=?vx2) rfl (by kernel_rfl) (by kernel_rfl) (by kernel_rfl) (fun _ _ _ h=>h) (Or.inl ⟨by rfl,?hyx2⟩) (by assumption) ?restx2
   case hyx2=>(intro w hSw;(try dsimp only at hSw);go_simp;try with_reducible rfl)
   try simp only [Act.put,List.setIfInBounds_toArray,List.set_cons_zero,List.set_cons_succ]
   refine wpAnyH_take (i:=2) (oi:=⟨some 20,_,_,_,_,_⟩) (v:=?vx3) rfl (by kernel_rfl) (by kernel_rfl) (by kernel_rfl) (fun _ _ _ h=>h) (Or.inl ⟨by rfl,?hyx3⟩) (by assumption) ?restx3
   case hyx3=>(intro w hSw;(try dsimp only at hSw);go_simp;try with_reducible rfl)
   try simp only [Act.put,List.setIfInBounds_toArray,List.set_cons_zero,List.set_cons_succ]
   refine wpAnyH_take (i:=3) (oi:=⟨some 21,_,_,_,_,_⟩) (v:=?vx4) rfl (by kernel_rfl) (by kernel_rfl) (by kernel_rfl) (fun _ _ _ h=>h) (Or.inl ⟨by rfl,?hyx4⟩) (by assumption) ?restx4
   case hyx4=>(intro w hSw;(try dsimp only at hSw);go_simp;try with_reducible rfl)
   try simp only [Act.put,List.setIfInBounds_toArray,List.set_cons_zero,List.set_cons_succ]
   refine wpAnyH_take (i:=4) (oi:=⟨some 22,_,_,_,_,_⟩) (v:=?vx5) rfl (by kernel_rfl) (by kernel_rfl) (by kernel_rfl) (fun _ _ _ h=>h) (Or.inl ⟨by rfl,?hyx5⟩) (by assumption) ?restx5
   case hyx5=>(intro w hSw;(try dsimp only at hSw);go_simp;try with_reducible rfl)
   try simp only [Act.put,List.setIfInBounds_toArray,List.set_cons_zero,List.set_cons_succ]
   refine wpAnyH_take (i:=5) (oi:=⟨some 23,_,_,_,_,_⟩) (v:=?vx6) rfl (by kernel_rfl) (by kernel_rfl) (by kernel_rfl) (fun _ _ _ h=>h) (Or.inl ⟨by rfl,?hyx6⟩) (by assumption) ?restx6
   case hyx6=>(intro w hSw;(try dsimp only at hSw);go_simp;try with_reducible rfl)
   try simp only [Act.put,List.setIfInBounds_toArray,List.set_cons_zero,List.set_cons_succ]
   refine wpAnyH_take (i:=6) (oi:=⟨some 24,_,_,_,_,_⟩) (v:=?vx7) rfl (by kernel_rfl) (by kernel_rfl) (by kernel_rfl) (fun _ _ _ h=>h) (Or.inl ⟨by rfl,?hyx7⟩) (by assumption) ?restx7
   case hyx7=>(intro w hSw;(try dsimp only at hSw);go_simp;try with_reducible rfl)
   try simp only [Act.put,List.setIfInBounds_toArray,List.set_cons_zero,List.set_cons_succ]
   refine wpAnyH_take (i:=7) (oi:=⟨some 17,_,_,_,_,_⟩) (v:=?vx8) rfl (by kernel_rfl) (by kernel_rfl) (by kernel_rfl) (fun _ _ _ h=>h) (Or.inl ⟨by rfl,?hyx8⟩) (by assumption) ?restx8
   case hyx8=>(intro w hSw;(try dsimp only at hSw);go_simp;try with_reducible rfl)
   try simp only [Act.put,List.setIfInBounds_toArray,List.set_cons_zero,List.set_cons_succ]
   refine wpAnyH_take (i:=8) (oi:=⟨some 25,_,_,_,_,_⟩) (v:=?vx9) rfl (by kernel_rfl) (by kernel_rfl) (by kernel_rfl) (fun _ _ _ h=>h) (Or.inl ⟨by rfl,?hyx9⟩) (by assumption) ?restx9
   case hyx9=>(intro w hSw;(try dsimp only at hSw);go_simp;try with_reducible rfl)
   try simp only [Act.put,List.setIfInBounds_toArray,List.set_cons_zero,List.set_cons_succ]
   refine wpAnyH_take (i:=9) (oi:=⟨some 26,_,_,_,_,_⟩) (v:=?vx10) rfl (by kernel_rfl) (by kernel_rfl) (by kernel_rfl) (fun _ _ _ h=>h) (Or.inl ⟨by rfl,?hyx10⟩) (by assumption) ?restx10
   case hyx10=>(intro w hSw;(try dsimp only at hSw);go_simp;try with_reducible rfl)
   try simp only [Act.put,List.setIfInBounds_toArray,List.set_cons_zero,List.set_cons_succ]
   refine wpAnyH_ready (rs:=[10]) (by kernel_rfl) (by simp) ?_
   refine AllReadyH.cons (o:=⟨some 6,_,_,_,_,_⟩) rfl (fun K hK=>?_) AllReadyH.nil
   go_simp
   refine hK.out _ _ (by exact HS0.out _ (bstep (bd _ 1) (balloc _ _))) (fun hHeld=>?_)
   clear hK K
   try simp only [List.setIfInBounds_toArray,List.set_cons_zero,List.set_cons_succ]
   refine wpAnyH_ready (rs:=[11]) (by kernel_rfl) (by simp) ?_
   refine AllReadyH.cons (o:=⟨none,_,_,_,_,_⟩) rfl (fun K hK=>?_) AllReadyH.nil
   go_simp
   refine hK.out _ _ (by exact HS0.out _ (bstep (bd _ 1) (balloc _ _))) (fun hHeld=>?_)
   clear hK K
   try simp only [List.setIfInBounds_toArray,List.set_cons_zero,List.set_cons_succ]
   refine wpAnyH_take (i:=12) (oi:=⟨some 7,_,_,_,_,_⟩) (v:=?vx11) rfl (by kernel_rfl) (by kernel_rfl) (by kernel_rfl) (fun _ _ _ h=>h) (Or.inl ⟨by rfl,?hyx11⟩) (by assumption) ?restx11
   case hyx11=>(intro w hSw;(try dsimp only at hSw);go_simp;try with_reducible rfl)
   try simp only [Act.put,List.setIfInBounds_toArray,List.set_cons_zero,List.set_cons_succ]
   refine wpAnyH_done (by kernel_rfl) ?_ _
   refine NoPanic.normal ?_
   obtain ⟨w8,hw8⟩:∃ w8,((wr.alloc (.cells #[.string (bs q),.string (bs tx),.int .i64 bl,.int .i64 sz] 42)).alloc (.cells #[.slice ya yn yc,.int .i64 k] 123)).drew=w8:=⟨_,rfl⟩
   have HB8:Hid (Below wr.heap.size wr w8):=by
    show Below wr.heap.size wr w8
    rw [← hw8];exact bstep (bstep (balloc _ _) (balloc _ _)) (bd _ 1)
   have v0:w8.cell? ⟨wr.heap.size,0,none⟩=some (.string (bs q)):=by
    rw [← hw8]
    exact (HS0.out _ (bstep (balloc _ _) (bd _ 1))).2.1
   have v1:w8.cell? ⟨wr.heap.size+1,1,none⟩=some (.int .i64 k):=by
    have h1:=heap_alloc_new (wr.alloc (.cells #[.string (bs q),.string (bs tx),.int .i64 bl,.int .i64 sz] 42)) (.cells #[.slice ya yn yc,.int .i64 k] 123)
    have hz:(wr.alloc (.cells #[.string (bs q),.string (bs tx),.int .i64 bl,.int .i64 sz] 42)).heap.size=wr.heap.size+1:=by simp
    rw [hz] at h1
    have h2:w8.heap[wr.heap.size+1]? = some (.cells #[.slice ya yn yc,.int .i64 k] 123 (0,0)):=by rw [← hw8];exact h1
    simp [World.cell?,h2]
   have Z1:FK w8 w.heap.size zFv:=X5.out.2.2.later HB8.out
   rw [hw8]
   clear hw8 x1 x2 x3
   obtain ⟨z0,z1,z2,z3,z4,z5,z6,z7⟩:=Z1.get
   have y0:=Z1.soft 0
   have y1:=Z1.soft 1
   have y2:=Z1.soft 2
   have y3:=Z1.soft 3
   have y4:=Z1.soft 4
   have y5:=Z1.soft 5
   have y6:=Z1.soft 6
   have y7:=Z1.soft 7
   have HZ8:Hid (FK w8 w.heap.size zFv):=Z1
   clear Z1
   have HNX:Hid (isBk l c ⟨q,tx,bl,sz⟩=false→∀ a∈l.take (i+1),isBk l c a=false):=fun hb a ha=>by
    rw [HTK.out] at ha
    rcases List.mem_append.1 ha with h | h
    ·exact X5.out.1 a h
    ·rw [List.mem_singleton.1 h];exact hb
   cases m with
   | false=>
    go_wp2_with fail
    refine ⟨⟨i+1,by omega,by simp,HNX.out (by unfold isBk;rw [HBL.out];rfl),bstep X5.out.2.1 HB8.out,HZ8.out⟩,?_⟩
    simp only [intOf]
    omega
   | true=>
    by_cases hk:k = -1
    ·have HK:Hid (k = -1):=hk
     subst hk
     go_wp2_with fail
     refine ⟨⟨i+1,by omega,by simp,HNX.out (by unfold isBk;rw [HBL.out];rfl),bstep X5.out.2.1 HB8.out,HZ8.out⟩,?_⟩
     simp only [intOf]
     omega
    ·have HK:Hid (k≠-1):=hk
     have hk2:(k == -1)=false:=by simpa using hk
     have hk3:decide (k = -1)=false:=by simpa using hk
     go_wp2_with fail
     obtain ⟨j1,j2⟩:=HFI.out (by unfold isBk;rw [HBL.out];simpa using HK.out)
     have HP:=putF_only w8 w.heap.size (brkV l c ⟨q,tx,bl,sz⟩)
     have hbk:brkV l c ⟨q,tx,bl,sz⟩=⟨1,⟨[],[]⟩,⟨[],[]⟩,q,k,none,0,0⟩:=by unfold brkV;rw [HBL.out];rfl
     rw [hbk] at HP j1
     refine bodyPost_ret (results_ct rfl _ _ w.heap.size 30 #[.int .i64 1,.string (bs []),.string (bs []),.string (bs []),.string (bs []),.string (bs q),.int .i64 k,.slice none 0 0] (0,0) _ rfl (HZ8.out.set ⟨1,⟨[],[]⟩,⟨[],[]⟩,q,k,none,0,0⟩).blk Tryz.underlying30 rfl (by kernel_rfl)) rfl ?_
     unfold AskP
     exact ⟨by rw [j1,j2];rfl,below_trans (bstep X5.out.2.1 HB8.out) (HP.below (bstep X5.out.2.1 HB8.out).size (fun x hx=>by simp at hx;omega))⟩
  ·have Z1:FK wr w.heap.size zFv:=X5.out.2.2
   obtain ⟨z0,z1,z2,z3,z4,z5,z6,z7⟩:=Z1.get
   have y0:=Z1.soft 0
   have y1:=Z1.soft 1
   have y2:=Z1.soft 2
   have y3:=Z1.soft 3
   have y4:=Z1.soft 4
   have y5:=Z1.soft 5
   have y6:=Z1.soft 6
   have y7:=Z1.soft 7
   clear Z1
   go_wp2_with fail
   have HP:=putF_only wr w.heap.size zFv
   refine bodyPost_ret (results_ct rfl _ _ w.heap.size 30 #[.int .i64 0,.string { data:=#[] },.string { data:=#[] },.string { data:=#[] },.string { data:=#[] },.string { data:=#[] },.int .i64 0,.slice none 0 0] (0,0) _ rfl (X5.out.2.2.set zFv).blk Tryz.underlying30 rfl (by kernel_rfl)) rfl ?_
   have hin:i=n:=by omega
   have hno:=X5.out.1
   rw [List.take_of_length_le (by rw [HX.out.2.2,hin];exact Nat.le_refl _)] at hno
   have j1:brkF l c=zFv:=by
    unfold brkF
    rw [List.find?_eq_none.2 (fun a ha=>by simp [hno a ha])]
   have j2:l.any (isBk l c)=false:=List.any_eq_false.2 (fun a ha=>by simp [hno a ha])
   unfold AskP
   exact ⟨by rw [j1,j2];rfl,below_trans X5.out.2.1 (HP.below X5.out.2.1.size (fun x hx=>by simp at hx;omega))⟩
end Go.Proofs.YtkheacknelbcnaaGreatDoor
