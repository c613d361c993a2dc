import Derived.Test.YtppnbdnpapellaaGreatDoorJBr
import Derived.Deep.RegionLaw
import Derived.Deep.RegionHeld3
set_option maxRecDepth 100000
set_option maxHeartbeats 16000000
namespace Go.Proofs.YtppnbdnpapellaaGreatDoor
open Go.RowKit Go.Maps
theorem whl_le (p n:List UInt8):(whl p n).length≤p.length+n.length+1:=by
 unfold whl
 split
 ·omega
 ·simp;omega
theorem sv_form (y:Option (Nat×Nat×Nat)):∃ a n c,sv y=.slice a n c:=by
 cases y with
 | none=>exact ⟨_,_,_,rfl⟩
 | some y=>obtain ⟨g,n,c⟩:=y;exact ⟨_,_,_,rfl⟩
theorem row_sv {w:World} {base e sz n:Nat} {v:Value} {l:List Value} (h:w.ownsRow base e sz v n l):∃ y,v=sv y:=by
 rcases h.2 with ⟨rfl,_⟩ | ⟨g,cap,cur,rfl,_⟩
 ·exact ⟨none,rfl⟩
 ·exact ⟨some (g,n,cap),rfl⟩
theorem RX.more {w0 w:World} {R:Nat→Prop} {r:Nat} {c:List (List UInt8)} {l:List Fl} (h:RX w0 w R r l c) {p:List UInt8} (hp:p∈c):RX w0 w R r l (p::c):=by
 obtain ⟨fv,mb,F,cnt,h1,h2,h3,h4,h5,h6,h7,h8,h9⟩:=h.it
 refine ⟨h.bel,h.rlo,fv,mb,F,cnt,h1,h2,h3,by simp;omega,h5,h6,h7,h8,fun k=>?_⟩
 rw [h9 k]
 constructor
 ·rintro ⟨p',m1,m2⟩
  exact ⟨p',List.mem_cons_of_mem _ m1,m2⟩
 ·rintro ⟨p',m1,m2⟩
  rcases List.mem_cons.1 m1 with m | m
  ·exact ⟨p,hp,by rw [m2,m]⟩
  ·exact ⟨p',m,m2⟩
theorem RX.put {w0 w W4 w5 Wf:World} {R:Nat→Prop} {r:Nat} {c:List (List UInt8)} {l:List Fl} (H:RX w0 w R r l c) {fv:Value} {mb:Nat} {F:List UInt8→Option Shv} {cnt:Nat} (hr:w.heap[r]? = some (.cells #[fv,.map (some mb)] 66 (0,0))) (hfs:FS w0 fv l) (hcnt:cnt≤c.length) (hne:r≠mb) (hRr:R r) (hRm:R mb)
  (hsh:(∀ k x,F k=some x→∃ p,k=whl p wName∧x.2=(says l p).2∧GIn (fun j=>R j∧j≠mb) w (sv x.1) (says l p).1)∧∀ k,(F k).isSome=true↔∃ p,p∈c∧k=whl p wName) {p q:List UInt8} (hq:whl p wName=q) {y:Option (Nat×Nat×Nat)} {base:Nat} (hb:Below w.heap.size w W4) (hg:GOwn base W4 (sv y) (says l p).1) (hbase:w.heap.size < base)
  (ho:Only [mb] W4 w5) {cnt':Nat} (hc':cnt'≤cnt+1) (hms:MS w5 mb (fun z=>if z=q then some (y,(says l p).2) else F z) cnt') (hf:Only [w.heap.size] w5 Wf) :
  ∃ R',RX w0 Wf R' r l (p::c)∧GIn R' Wf (sv y) (says l p).1∧OnlyP R w Wf∧(∀ k,R k→R' k)∧(∀ k,R' k→R k∨w.heap.size≤k):=by
 have hml:=(H.rlo mb hRm).2
 have hrl:=(H.rlo r hRr).2
 have s1:=hb.size
 have s2:=ho.size
 have s3:=hf.size
 have hold:∀ k,k < w.heap.size→k≠mb→Wf.heap[k]? = w.heap[k]?:=fun k hk hm=>by
  rw [hf.block k (by omega) (by simp;omega),ho.block k (by omega) (by simpa using hm),hb.block k hk]
 have hnew:∀ k,base≤k→k < W4.heap.size→Wf.heap[k]? = W4.heap[k]?:=fun k hk hl=>by
  rw [hf.block k (by omega) (by simp;omega),ho.block k hl (by simp;omega)]
 have hmb:Wf.heap[mb]? = w5.heap[mb]?:=hf.block mb (by omega) (by simp;omega)
 have hon:OnlyP R w Wf:=⟨by rw [hf.os,ho.os,hb.os],by rw [hf.tape,ho.tape,hb.tape],by rw [hf.output,ho.output,hb.output],by omega,fun k hk hn=>hold k hk (fun e=>hn (e▸hRm))⟩
 have hgi:GIn (fun j=>(R j∨(base≤j∧j < W4.heap.size))∧j≠mb) Wf (sv y) (says l p).1:=⟨base,W4,hg,fun k a b=>⟨⟨.inr ⟨a,b⟩,by omega⟩,hnew k a b⟩⟩
 refine ⟨fun k=>R k∨(base≤k∧k < W4.heap.size),⟨below_trans H.bel (hon.below H.bel.size (fun k hk=>(H.rlo k hk).1)),fun k hk=>?_,fv,mb,_,cnt',(hold r hrl hne).trans hr,hfs,hms.block hmb,by simp;omega,hne,.inl hRr,.inl hRm,fun k x hk=>?_,fun k=>?_⟩,hgi.keep (fun _ _=>rfl) (fun k hk=>hk.1),hon,fun k hk=>.inl hk,fun k hk=>?_⟩
 ·have h0:=H.bel.size
  rcases hk with hk | hk
  ·have:=H.rlo k hk;omega
  ·omega
 ·by_cases e:k=q
  ·have hk:(if k=q then some (y,(says l p).2) else F k)=some x:=hk
   rw [if_pos e] at hk
   injection hk with hk
   subst hk
   exact ⟨p,by rw [e,hq],rfl,hgi⟩
  ·have hk:(if k=q then some (y,(says l p).2) else F k)=some x:=hk
   rw [if_neg e] at hk
   obtain ⟨p',e1,e2,e3⟩:=hsh.1 k x hk
   exact ⟨p',e1,e2,e3.keep (fun j hj=>hold j (H.rlo j hj.1).2 hj.2) (fun j hj=>⟨.inl hj.1,hj.2⟩)⟩
 ·show (if k=q then some (y,(says l p).2) else F k).isSome=true↔_
  by_cases e:k=q
  ·rw [if_pos e]
   simp only [Option.isSome_some,true_iff]
   exact ⟨p,List.mem_cons_self,by rw [e,hq]⟩
  ·rw [if_neg e,hsh.2 k]
   constructor
   ·rintro ⟨p',m1,m2⟩
    exact ⟨p',List.mem_cons_of_mem _ m1,m2⟩
   ·rintro ⟨p',m1,m2⟩
    rcases List.mem_cons.1 m1 with m | m
    ·exact absurd (by rw [m2,m,hq]) e
    ·exact ⟨p',m,m2⟩
 ·rcases hk with hk | hk
  ·exact .inl hk
  ·exact .inr (by omega)
theorem fnd_in {l:List Fl} {q:List UInt8} {f:Fl} (h:fnd l q=some f):f∈l:=by
 unfold fnd at h
 exact List.mem_of_find?_eq_some h
theorem bread_any {w0 w:World} {R:Nat→Prop} {r:Nat} {c:List (List UInt8)} {l:List Fl} (H:RX w0 w R r l c) (E0:Ev w0) (sm:FQ l) (hc:c.length≤1000000000) (p:List UInt8) (hp:p.length≤400000000) :
  Calls Tryz.prog 89 #[.pointer (some ⟨r,0,none⟩),.string (bs p)] w fun e w'=>∃ x R',e=.returned (shV x)∧x.2=(says l p).2∧RX w0 w' R' r l (p::c)∧GIn R' w' (sv x.1) (says l p).1∧OnlyP R w w'∧(∀ k,R k→R' k)∧(∀ k,R' k→R k∨w.heap.size≤k):=by
 have hq:=whl_le p wName
 have hqn:wName.length=7:=rfl
 have HBL:Hid (∀ W:World,Calls Tryz.prog 92 #[.string (bs p),.string { data:=#[84,65,82,71,69,84,83] }] W fun e w'=>e=.returned (.string (bs (whl p wName)))∧w'=W):=fun W=>bbelow_any p wName W (by omega) (by omega)
 obtain ⟨fv,mb,F,cnt,hr,hfs,hms,hcnt,hne,hRr,hRm,hsh⟩:=H.it
 obtain ⟨q,hqe⟩:∃ q,whl p wName=q:=⟨_,rfl⟩
 have HQ:Hid (whl p wName=q∧q.length≤400000008):=⟨hqe,by rw [hqe] at hq;omega⟩
 rw [hqe] at HBL
 have hrl:=(H.rlo r hRr).2
 have hml:=(H.rlo mb hRm).2
 have r0:w.cell? ⟨r,0,none⟩=some fv:=by simp [World.cell?,hr]
 have r1:w.cell? ⟨r,1,none⟩=some (.map (some mb)):=by simp [World.cell?,hr]
 obtain ⟨fa,fn,fc,hfv⟩:∃ a n c,fv=.slice a n c:=by obtain ⟨a,c,e,_⟩:=hfs.form;exact ⟨a,_,c,e⟩
 subst hfv
 have HR:Hid (w.heap[r]? = some (.cells #[.slice fa fn fc,.map (some mb)] 66 (0,0))):=hr
 have HX:Hid (RX w0 w R r l c∧Ev w0∧FQ l∧c.length≤1000000000∧FS w0 (.slice fa fn fc) l∧MS w mb F cnt∧cnt≤c.length∧r≠mb∧R r∧R mb∧(∀ k x,F k=some x→∃ p,k=whl p wName∧x.2=(says l p).2∧GIn (fun j=>R j∧j≠mb) w (sv x.1) (says l p).1)∧∀ k,(F k).isSome=true↔∃ p,p∈c∧k=whl p wName):=⟨H,E0,sm,hc,hfs,hms,hcnt,hne,hRr,hRm,hsh⟩
 have HLK:Hid (∀ W,Below w.heap.size w W→(Instr.lookup 64 (.map (some mb)) (.string (bs q)) true).run Tryz.prog W=.ok (.tuple #[shV ((F q).getD (none,0)),.bool (F q).isSome]) W):=fun W hW=>(hms.later hW).look (by have:=HQ.out.2;omega)
 clear H E0 sm hc hfs hms hcnt hsh hqe hq hqn hr
 have W1r0:=cell_alloc (.cells #[.slice none 0 0,.int .i64 0] 136) hrl r0
 have W1r1:=cell_alloc (.cells #[.slice none 0 0,.int .i64 0] 136) hrl r1
 have hlk:=HLK.out _ (balloc w (.cells #[.slice none 0 0,.int .i64 0] 136))
 cases hF:F q with
 | some x=>
  obtain ⟨y,k⟩:=x
  obtain ⟨ya,yn,yc,hy⟩:=sv_form y
  rw [hF] at hlk
  simp only [Option.getD_some,Option.isSome_some,shV,hy] at hlk
  go_enter Tryz.func89,Tryz.ntmps89
  go_wp2_with fail
  refine (HBL.out _).mono ?_
  rintro e w1 ⟨rfl,rfl⟩
  go_wp2_with fail
  have hb:Below w.heap.size w ((w.alloc (.cells #[.slice ya yn yc,.int .i64 k] 136)).alloc (.cells #[.slice ya yn yc,.int .i64 k] 136)):=bstep (balloc _ _) (balloc _ _)
  refine bodyPost_ret (results_cell_row rfl _ _ w.heap.size 136 #[.slice ya yn yc,.int .i64 k] (0,0) _ rfl (((balloc (w.alloc (.cells #[.slice ya yn yc,.int .i64 k] 136)) _).block w.heap.size (by simp)).trans (heap_alloc_new _ _)) Tryz.underlying136 rfl (by kernel_rfl)) rfl ?_
  obtain ⟨p',e1,e2,e3⟩:=HX.out.2.2.2.2.2.2.2.2.2.2.1 q (y,k) hF
  obtain rfl:p'=p:=whl_inj (e1.symm.trans HQ.out.1.symm)
  refine ⟨(y,k),R,by unfold shV;rw [hy],e2,(HX.out.1.later hb).more (by obtain ⟨p2,m1,m2⟩:=(HX.out.2.2.2.2.2.2.2.2.2.2.2 q).1 (by rw [hF];rfl);rw [whl_inj (e1.symm.trans m2)];exact m1),e3.keep (fun j hj=>hb.block j (HX.out.1.rlo j hj.1).2) (fun j hj=>hj.1),OnlyP.of_below hb R,fun k hk=>hk,fun k hk=>.inl hk⟩
 | none=>
  rw [hF] at hlk
  simp only [Option.getD_none,Option.isSome_none,shV,sv] at hlk
  have HFD:Hid (∀ W,Below w.heap.size w W→Calls Tryz.prog 136 #[.slice fa fn fc,.string (bs q)] W fun e w'=>e=.returned (.tuple #[(fopt (fnd l q)).val,.bool (fnd l q).isSome])∧Below W.heap.size W w'):=fun W hW=>find_any q (HX.out.2.2.2.2.1.later (bstep HX.out.1.bel hW)) HX.out.2.2.1
  have HC:Hid (∀ W,Below w.heap.size w W→W.cell? ⟨r,0,none⟩=some (.slice fa fn fc)∧W.cell? ⟨r,1,none⟩=some (.map (some mb))):=fun W hW=>⟨(hW.cell (p:=⟨r,0,none⟩) hrl).trans r0,(hW.cell (p:=⟨r,1,none⟩) hrl).trans r1⟩
  have hb3:Below w.heap.size w (((w.alloc (.cells #[.slice none 0 0,.int .i64 0] 136)).alloc (.cells #[.slice none 0 0,.int .i64 0] 136)).alloc (.cells #[.slice none 0 0,.int .i64 (-1)] 136)):=bstep (bstep (balloc _ _) (balloc _ _)) (balloc _ _)
  have HB3:Hid (Below w.heap.size w (((w.alloc (.cells #[.slice none 0 0,.int .i64 0] 136)).alloc (.cells #[.slice none 0 0,.int .i64 0] 136)).alloc (.cells #[.slice none 0 0,.int .i64 (-1)] 136))):=hb3
  have d3:=(HC.out _ hb3).1
  have HG8:Hid (∀ W',Below (((w.alloc (.cells #[.slice none 0 0,.int .i64 0] 136)).alloc (.cells #[.slice none 0 0,.int .i64 0] 136)).alloc (.cells #[.slice none 0 0,.int .i64 (-1)] 136)).heap.size (((w.alloc (.cells #[.slice none 0 0,.int .i64 0] 136)).alloc (.cells #[.slice none 0 0,.int .i64 0] 136)).alloc (.cells #[.slice none 0 0,.int .i64 (-1)] 136)) W'→W'.heap[w.heap.size+2]? = some (.cells #[.slice none 0 0,.int .i64 (-1)] 136 (0,0))∧W'.heap[w.heap.size]? = some (.cells #[.slice none 0 0,.int .i64 0] 136 (0,0))):=fun W' hW=>by
   have hz:((w.alloc (.cells #[.slice none 0 0,.int .i64 0] 136)).alloc (.cells #[.slice none 0 0,.int .i64 0] 136)).heap.size=w.heap.size+2:=by simp
   have hz3:(((w.alloc (.cells #[.slice none 0 0,.int .i64 0] 136)).alloc (.cells #[.slice none 0 0,.int .i64 0] 136)).alloc (.cells #[.slice none 0 0,.int .i64 (-1)] 136)).heap.size=w.heap.size+3:=by simp
   have h1:=heap_alloc_new ((w.alloc (.cells #[.slice none 0 0,.int .i64 0] 136)).alloc (.cells #[.slice none 0 0,.int .i64 0] 136)) (.cells #[.slice none 0 0,.int .i64 (-1)] 136)
   rw [hz] at h1
   refine ⟨(hW.block _ (by omega)).trans h1,(hW.block _ (by omega)).trans ?_⟩
   exact ((bstep (balloc (w.alloc (.cells #[.slice none 0 0,.int .i64 0] 136)) (.cells #[.slice none 0 0,.int .i64 0] 136)) (balloc _ (.cells #[.slice none 0 0,.int .i64 (-1)] 136))).block w.heap.size (by simp)).trans (heap_alloc_new w _)
  clear hb3
  cases hfn:fnd l q with
  | none=>
   rw [hfn] at HFD
   have HSY:Hid (says l p=([],-1)):=by show says l p=([],-1);unfold says;rw [HQ.out.1,hfn]
   go_enter Tryz.func89,Tryz.ntmps89
   go_wp2_with fail
   refine (HBL.out _).mono ?_
   rintro e w1 ⟨rfl,rfl⟩
   go_wp2_with fail
   refine (HFD.out _ HB3.out).mono ?_
   rintro e w4 ⟨rfl,hb⟩
   have HB4':Hid (Below (((w.alloc (.cells #[.slice none 0 0,.int .i64 0] 136)).alloc (.cells #[.slice none 0 0,.int .i64 0] 136)).alloc (.cells #[.slice none 0 0,.int .i64 (-1)] 136)).heap.size (((w.alloc (.cells #[.slice none 0 0,.int .i64 0] 136)).alloc (.cells #[.slice none 0 0,.int .i64 0] 136)).alloc (.cells #[.slice none 0 0,.int .i64 (-1)] 136)) w4):=hb
   clear hb
   simp only [fopt,zf,Fl.val]
   go_upto_region 9 with fail
   obtain ⟨w5,hw5⟩:∃ w5,w4.alloc (.cells #[.string (bs []),.string (bs []),.int .i64 0,.int .i64 0] 55)=w5:=⟨_,rfl⟩
   obtain ⟨g8,hg8⟩:∃ g8,w.heap.size+1+1=g8:=⟨_,rfl⟩
   have hb35:Below (((w.alloc (.cells #[.slice none 0 0,.int .i64 0] 136)).alloc (.cells #[.slice none 0 0,.int .i64 0] 136)).alloc (.cells #[.slice none 0 0,.int .i64 (-1)] 136)).heap.size (((w.alloc (.cells #[.slice none 0 0,.int .i64 0] 136)).alloc (.cells #[.slice none 0 0,.int .i64 0] 136)).alloc (.cells #[.slice none 0 0,.int .i64 (-1)] 136)) w5:=by rw [← hw5];exact bstep HB4'.out (balloc _ _)
   have hz3:(((w.alloc (.cells #[.slice none 0 0,.int .i64 0] 136)).alloc (.cells #[.slice none 0 0,.int .i64 0] 136)).alloc (.cells #[.slice none 0 0,.int .i64 (-1)] 136)).heap.size=w.heap.size+3:=by simp
   have hs35:=hb35.size
   have HB5:Hid (Below w.heap.size w w5):=bstep HB3.out hb35
   have HG:Hid (w.heap.size < g8∧g8 < w5.heap.size):=⟨by omega,by omega⟩
   have hg8':w.heap.size+2=g8:=by omega
   have HG4:Hid (w5.heap[w.heap.size]? = some (.cells #[.slice none 0 0,.int .i64 0] 136 (0,0))):=(HG8.out w5 hb35).2
   have HS5:Hid (w5.cell? ⟨r,1,none⟩=some (.map (some mb))∧w5.cell? ⟨g8,0,none⟩=some (.slice none 0 0)∧w5.cell? ⟨g8,1,none⟩=some (.int .i64 (-1))):=by
    have h8:=(HG8.out w5 hb35).1
    rw [hg8'] at h8
    exact ⟨(HC.out w5 HB5.out).2,by simp [World.cell?,h8],by simp [World.cell?,h8]⟩
   have HY8:Hid (sv none=.slice none 0 0):=rfl
   have HK8:Hid ((-1:Int)=(says l p).2):=by rw [HSY.out];rfl
   have HGO:Hid (GOwn w5.heap.size w5.drew (sv none) (says l p).1):=by rw [HSY.out];exact GOwn.nil _ _
   have HBA:Hid (w.heap.size < w5.heap.size):=by have:=HG.out;show w.heap.size < w5.heap.size;omega
   rw [hw5,hg8]
   clear hw5 hg8 hb35 hz3 hs35 hg8'
   obtain ⟨w6,hup,⟨cnt',hc',hms'⟩,hon,hsz⟩:=(HX.out.2.2.2.2.2.1.later (bstep HB5.out (bd w5 1))).store (k:=q) (by have:=HQ.out.2;omega) (by have:=HX.out.2.2.2.1;have:=HX.out.2.2.2.2.2.2.1;omega) (none,(-1))
   simp only [shV,HY8.out] at hup
   have hup2:(Instr.mapUpdate 64 (.map (some mb)) (.string (bs q)) (.agg #[.slice none 0 0,.int .i64 (-1)])).run Tryz.prog w5.drew=.ok () w6:=hup
   clear hup
   have HP:Hid ((∃ cnt',cnt'≤cnt+1∧MS w6 mb (fun z=>if z=q then some (none,(-1)) else F z) cnt')∧Only [mb] w5.drew w6):=⟨⟨cnt',hc',hms'⟩,hon⟩
   have HS6:Hid (w6.cell? ⟨r,1,none⟩=some (.map (some mb))∧w6.cell? ⟨g8,0,none⟩=some (.slice none 0 0)∧w6.cell? ⟨g8,1,none⟩=some (.int .i64 (-1))):=by
    obtain ⟨x1,x2,x3⟩:=HS5.out
    have n1:=HG.out
    refine ⟨?_,?_,?_⟩
    ·rw [World.cell?_of_block (w:=w5) (hon.block r (by have:=HB5.out.size;show r < w5.heap.size;omega) (by simpa using hne))];exact x1
    ·rw [World.cell?_of_block (w:=w5) (hon.block g8 (by show g8 < w5.heap.size;omega) (by simp;omega))];exact x2
    ·rw [World.cell?_of_block (w:=w5) (hon.block g8 (by show g8 < w5.heap.size;omega) (by simp;omega))];exact x3
   have HB4:Hid (w6.heap[w.heap.size]? = some (.cells #[.slice none 0 0,.int .i64 0] 136 (0,0))):=(hon.block w.heap.size (by have:=HG.out;show w.heap.size < w5.heap.size;omega) (by simp;omega)).trans HG4.out
   obtain ⟨x1,x2,x3⟩:=HS5.out
   clear hms' hon hsz hc'
   refine wp_region_noPanic ?_
   refine wp_region_held_drew (S:=fun W'=>W'.cell? ⟨r,1,none⟩=some (.map (some mb))∧W'.cell? ⟨g8,0,none⟩=some (.slice none 0 0)∧W'.cell? ⟨g8,1,none⟩=some (.int .i64 (-1))) (by kernel_rfl) (by exact HS5.out) (fun hHeld=>?_)
   refine tkH 0 ⟨some 44,_,_,_,_,_⟩ ?v1 rfl (Or.inl ⟨by rfl,?y1⟩) ?r1
   case y1=>(intro w h;(try dsimp only at h);go_simp;try with_reducible rfl)
   try simp only [Act.put,sA,sB,sC]
   refine tkH 1 ⟨some 45,_,_,_,_,_⟩ ?v2 rfl (Or.inl ⟨by rfl,?y2⟩) ?r2
   case y2=>(intro w h;(try dsimp only at h);go_simp;try with_reducible rfl)
   try simp only [Act.put,sA,sB,sC]
   refine tkH 2 ⟨some 46,_,_,_,_,_⟩ ?v3 rfl (Or.inl ⟨by rfl,?y3⟩) ?r3
   case y3=>(intro w h;(try dsimp only at h);go_simp;try with_reducible rfl)
   try simp only [Act.put,sA,sB,sC]
   refine tkH 3 ⟨some 47,_,_,_,_,_⟩ ?v4 rfl (Or.inl ⟨by rfl,?y4⟩) ?r4
   case y4=>(intro w h;(try dsimp only at h);go_simp;try with_reducible rfl)
   try simp only [Act.put,sA,sB,sC]
   refine tkH 4 ⟨some 48,_,_,_,_,_⟩ ?v5 rfl (Or.inl ⟨by rfl,?y5⟩) ?r5
   case y5=>(intro w h;(try dsimp only at h);go_simp;try with_reducible rfl)
   try simp only [Act.put,sA,sB,sC]
   refine tkH 5 ⟨some 49,_,_,_,_,_⟩ ?v6 rfl (Or.inl ⟨by rfl,?y6⟩) ?r6
   case y6=>(intro w h;(try dsimp only at h);go_simp;try with_reducible rfl)
   try simp only [Act.put,sA,sB,sC]
   refine wpAnyH_ready (rs:=[6]) (by kernel_rfl) (by simp) ?_
   refine AllReadyH.cons (o:=⟨none,_,_,_,_,_⟩) rfl (fun K hK=>?_) AllReadyH.nil
   go_simp
   refine hK.out _ _ HS6.out (fun hHeld=>?_)
   clear hK K
   try simp only [sA,sB,sC]
   refine wpAnyH_done (by kernel_rfl) ?_ _
   refine NoPanic.normal ?_
   clear x1 x2 x3 hup2
   obtain ⟨x1,x2,x3⟩:=HS6.out
   obtain ⟨b0,b1,b2,b3⟩:w6.cell? ⟨w.heap.size,0,none⟩=some (.slice none 0 0)∧w6.cell? ⟨w.heap.size,1,none⟩=some (.int .i64 0)∧w6.frozen? ⟨w.heap.size,0,none⟩=false∧w6.frozen? ⟨w.heap.size,1,none⟩=false:=by
    have hb:=HB4.out
    exact ⟨by simp [World.cell?,hb],by simp [World.cell?,hb],by simp [World.frozen?,hb],by simp [World.frozen?,hb]⟩
   go_wp2_with fail
   refine bodyPost_ret (results_cell_row rfl _ _ w.heap.size 136 #[.slice none 0 0,.int .i64 (-1)] (0,0) _ rfl (by rw [heap_setCell _ _ _ _ (heap_setCell _ _ _ _ HB4.out)];rfl) Tryz.underlying136 rfl (by kernel_rfl)) rfl ?_
   obtain ⟨cnt',q1,q2⟩:=HP.out.1
   have hk8:=HK8.out
   rw [hk8] at q2
   obtain ⟨R',z1,z2,z3,z4,z5⟩:=HX.out.1.put HR.out HX.out.2.2.2.2.1 HX.out.2.2.2.2.2.2.1 hne hRr hRm HX.out.2.2.2.2.2.2.2.2.2.2 HQ.out.1 (bstep HB5.out (bd w5 1)) HGO.out HBA.out HP.out.2 q1 q2 (only_set2 w6 w.heap.size 0 1 (.slice none 0 0) (.int .i64 (-1)))
   exact ⟨(none,(-1)),R',by unfold shV;rw [HY8.out],hk8,z1,z2,z3,z4,z5⟩
  | some f=>
   obtain ⟨fp,ft,fb,fs⟩:=f
   have HTL:Hid (ft.length≤140737488355328):=(HX.out.2.2.1.each _ (fnd_in hfn)).text
   rw [hfn] at HFD
   have HSY:Hid (says l p=prsM p ft):=by show says l p=prsM p ft;unfold says;rw [HQ.out.1,hfn]
   have HPA:Hid (∀ W,Below w.heap.size w W→Calls Tryz.prog 137 #[.string (bs p),.string (bs ft)] W (LsP W (prsM p ft))):=fun W hW=>parse_any p ft (HX.out.2.1.below (bstep HX.out.1.bel hW) HX.out.2.1.big) (by omega) (by have:=HTL.out;omega)
   obtain ⟨PR,hPR⟩:∃ PR,prsM p ft=PR:=⟨_,rfl⟩
   rw [hPR] at HPA HSY
   obtain ⟨ts,k8⟩:=PR
   clear hPR
   go_enter Tryz.func89,Tryz.ntmps89
   go_wp2_with fail
   refine (HBL.out _).mono ?_
   rintro e w1 ⟨rfl,rfl⟩
   go_wp2_with fail
   refine (HFD.out _ HB3.out).mono ?_
   rintro e w4 ⟨rfl,hb⟩
   have HB4':Hid (Below (((w.alloc (.cells #[.slice none 0 0,.int .i64 0] 136)).alloc (.cells #[.slice none 0 0,.int .i64 0] 136)).alloc (.cells #[.slice none 0 0,.int .i64 (-1)] 136)).heap.size (((w.alloc (.cells #[.slice none 0 0,.int .i64 0] 136)).alloc (.cells #[.slice none 0 0,.int .i64 0] 136)).alloc (.cells #[.slice none 0 0,.int .i64 (-1)] 136)) w4):=hb
   clear hb
   simp only [fopt,Fl.val]
   go_wp2_with fail
   refine (HPA.out _ (bstep HB3.out (bstep HB4'.out (balloc _ _)))).mono ?_
   rintro e w6p ⟨v,rfl,hgo,hb6⟩
   obtain ⟨y8,hy8⟩:∃ y8,v=sv y8:=by obtain ⟨a,h1,_⟩:=hgo.it;exact row_sv h1
   obtain ⟨ya,yn,yc,hyf⟩:=sv_form y8
   have HY8:Hid (sv y8=.slice ya yn yc):=hyf
   rw [hyf] at hy8
   subst hy8
   obtain ⟨g8,hg8⟩:∃ g8,w.heap.size+1+1=g8:=⟨_,rfl⟩
   have hg8':w.heap.size+2=g8:=by omega
   have hz3:(((w.alloc (.cells #[.slice none 0 0,.int .i64 0] 136)).alloc (.cells #[.slice none 0 0,.int .i64 0] 136)).alloc (.cells #[.slice none 0 0,.int .i64 (-1)] 136)).heap.size=w.heap.size+3:=by simp
   have hs34:=HB4'.out.size
   have hza:(w4.alloc (.cells #[.string (bs fp),.string (bs ft),.int .i64 fb,.int .i64 fs] 55)).heap.size=w4.heap.size+1:=by simp
   have hb36:Below (((w.alloc (.cells #[.slice none 0 0,.int .i64 0] 136)).alloc (.cells #[.slice none 0 0,.int .i64 0] 136)).alloc (.cells #[.slice none 0 0,.int .i64 (-1)] 136)).heap.size (((w.alloc (.cells #[.slice none 0 0,.int .i64 0] 136)).alloc (.cells #[.slice none 0 0,.int .i64 0] 136)).alloc (.cells #[.slice none 0 0,.int .i64 (-1)] 136)) w6p:=bstep HB4'.out (bstep (balloc _ _) hb6)
   have hs36:=hb6.size
   obtain ⟨h8,h4⟩:=HG8.out w6p hb36
   rw [hg8'] at h8
   have HGP:Hid (GOwn (w4.heap.size+1) w6p (sv y8) ts∧w.heap.size+3≤w4.heap.size∧w4.heap.size+1≤w6p.heap.size∧g8=w.heap.size+2∧Below w.heap.size w w6p∧w6p.heap[g8]? = some (.cells #[.slice none 0 0,.int .i64 (-1)] 136 (0,0))∧w6p.heap[w.heap.size]? = some (.cells #[.slice none 0 0,.int .i64 0] 136 (0,0))):=by
    rw [hza] at hgo hs36
    rw [hyf]
    exact ⟨hgo,by omega,by omega,by omega,bstep HB3.out hb36,h8,h4⟩
   have c0:w6p.cell? ⟨g8,0,none⟩=some (.slice none 0 0):=by simp [World.cell?,h8]
   have c1:w6p.cell? ⟨g8,1,none⟩=some (.int .i64 (-1)):=by simp [World.cell?,h8]
   have f0:w6p.frozen? ⟨g8,0,none⟩=false:=by simp [World.frozen?,h8]
   have f1:w6p.frozen? ⟨g8,1,none⟩=false:=by simp [World.frozen?,h8]
   rw [hg8]
   clear hgo hb6 hyf hg8 hg8' hz3 hs34 hza hb36 hs36 h8 h4
   go_upto_region 9 with fail
   obtain ⟨w5,hw5⟩:∃ w5,((w6p.setCell ⟨g8,0,none⟩ (.slice ya yn yc)).setCell ⟨g8,1,none⟩ (.int .i64 k8))=w5:=⟨_,rfl⟩
   have hon5:Only [g8] w6p w5:=by rw [← hw5];exact only_set2 w6p g8 0 1 _ _
   have hblk5:w5.heap[g8]? = some (.cells #[.slice ya yn yc,.int .i64 k8] 136 (0,0)):=by rw [← hw5,heap_setCell _ _ _ _ (heap_setCell _ _ _ _ HGP.out.2.2.2.2.2.1)];rfl
   have hs5:=hon5.size
   have HB5:Hid (Below w.heap.size w w5):=by
    obtain ⟨_,_,_,q4,q5,_⟩:=HGP.out
    exact below_trans q5 (hon5.below q5.size (fun x hx=>by simp at hx;omega))
   have HG:Hid (w.heap.size < g8∧g8 < w5.heap.size):=by
    obtain ⟨_,q2,q3,q4,_⟩:=HGP.out
    exact ⟨by omega,by omega⟩
   have HG4:Hid (w5.heap[w.heap.size]? = some (.cells #[.slice none 0 0,.int .i64 0] 136 (0,0))):=by
    obtain ⟨_,q2,q3,q4,_,_,q7⟩:=HGP.out
    exact (hon5.block w.heap.size (by omega) (by simp;omega)).trans q7
   have HS5:Hid (w5.cell? ⟨r,1,none⟩=some (.map (some mb))∧w5.cell? ⟨g8,0,none⟩=some (.slice ya yn yc)∧w5.cell? ⟨g8,1,none⟩=some (.int .i64 k8)):=⟨(HC.out w5 HB5.out).2,by simp [World.cell?,hblk5],by simp [World.cell?,hblk5]⟩
   have HK8:Hid (k8=(says l p).2):=by rw [HSY.out];rfl
   have HGO:Hid (GOwn (w4.heap.size+1) w5.drew (sv y8) (says l p).1):=by
    obtain ⟨q1,q2,q3,q4,_⟩:=HGP.out
    rw [HSY.out]
    exact (q1.stay (fun k a b=>hon5.block k b (by simp;omega))).later (bd w5 1)
   have HBA:Hid (w.heap.size < w4.heap.size+1):=by have:=HGP.out.2.1;show w.heap.size < w4.heap.size+1;omega
   rw [hw5]
   clear hw5 hon5 hblk5 hs5 c0 c1 f0 f1
   obtain ⟨w6,hup,⟨cnt',hc',hms'⟩,hon,hsz⟩:=(HX.out.2.2.2.2.2.1.later (bstep HB5.out (bd w5 1))).store (k:=q) (by have:=HQ.out.2;omega) (by have:=HX.out.2.2.2.1;have:=HX.out.2.2.2.2.2.2.1;omega) (y8,k8)
   simp only [shV,HY8.out] at hup
   have hup2:(Instr.mapUpdate 64 (.map (some mb)) (.string (bs q)) (.agg #[.slice ya yn yc,.int .i64 k8])).run Tryz.prog w5.drew=.ok () w6:=hup
   clear hup
   have HP:Hid ((∃ cnt',cnt'≤cnt+1∧MS w6 mb (fun z=>if z=q then some (y8,k8) else F z) cnt')∧Only [mb] w5.drew w6):=⟨⟨cnt',hc',hms'⟩,hon⟩
   have HS6:Hid (w6.cell? ⟨r,1,none⟩=some (.map (some mb))∧w6.cell? ⟨g8,0,none⟩=some (.slice ya yn yc)∧w6.cell? ⟨g8,1,none⟩=some (.int .i64 k8)):=by
    obtain ⟨x1,x2,x3⟩:=HS5.out
    have n1:=HG.out
    refine ⟨?_,?_,?_⟩
    ·rw [World.cell?_of_block (w:=w5) (hon.block r (by have:=HB5.out.size;show r < w5.heap.size;omega) (by simpa using hne))];exact x1
    ·rw [World.cell?_of_block (w:=w5) (hon.block g8 (by show g8 < w5.heap.size;omega) (by simp;omega))];exact x2
    ·rw [World.cell?_of_block (w:=w5) (hon.block g8 (by show g8 < w5.heap.size;omega) (by simp;omega))];exact x3
   have HB4:Hid (w6.heap[w.heap.size]? = some (.cells #[.slice none 0 0,.int .i64 0] 136 (0,0))):=(hon.block w.heap.size (by have:=HG.out;show w.heap.size < w5.heap.size;omega) (by simp;omega)).trans HG4.out
   obtain ⟨x1,x2,x3⟩:=HS5.out
   clear hms' hon hsz hc'
   refine wp_region_noPanic ?_
   refine wp_region_held_drew (S:=fun W'=>W'.cell? ⟨r,1,none⟩=some (.map (some mb))∧W'.cell? ⟨g8,0,none⟩=some (.slice ya yn yc)∧W'.cell? ⟨g8,1,none⟩=some (.int .i64 k8)) (by kernel_rfl) (by exact HS5.out) (fun hHeld=>?_)
   refine tkH 0 ⟨some 44,_,_,_,_,_⟩ ?v7 rfl (Or.inl ⟨by rfl,?y7⟩) ?r7
   case y7=>(intro w h;(try dsimp only at h);go_simp;try with_reducible rfl)
   try simp only [Act.put,sA,sB,sC]
   refine tkH 1 ⟨some 45,_,_,_,_,_⟩ ?v8 rfl (Or.inl ⟨by rfl,?y8⟩) ?r8
   case y8=>(intro w h;(try dsimp only at h);go_simp;try with_reducible rfl)
   try simp only [Act.put,sA,sB,sC]
   refine tkH 2 ⟨some 46,_,_,_,_,_⟩ ?v9 rfl (Or.inl ⟨by rfl,?y9⟩) ?r9
   case y9=>(intro w h;(try dsimp only at h);go_simp;try with_reducible rfl)
   try simp only [Act.put,sA,sB,sC]
   refine tkH 3 ⟨some 47,_,_,_,_,_⟩ ?v10 rfl (Or.inl ⟨by rfl,?y10⟩) ?r10
   case y10=>(intro w h;(try dsimp only at h);go_simp;try with_reducible rfl)
   try simp only [Act.put,sA,sB,sC]
   refine tkH 4 ⟨some 48,_,_,_,_,_⟩ ?v11 rfl (Or.inl ⟨by rfl,?y11⟩) ?r11
   case y11=>(intro w h;(try dsimp only at h);go_simp;try with_reducible rfl)
   try simp only [Act.put,sA,sB,sC]
   refine tkH 5 ⟨some 49,_,_,_,_,_⟩ ?v12 rfl (Or.inl ⟨by rfl,?y12⟩) ?r12
   case y12=>(intro w h;(try dsimp only at h);go_simp;try with_reducible rfl)
   try simp only [Act.put,sA,sB,sC]
   refine wpAnyH_ready (rs:=[6]) (by kernel_rfl) (by simp) ?_
   refine AllReadyH.cons (o:=⟨none,_,_,_,_,_⟩) rfl (fun K hK=>?_) AllReadyH.nil
   go_simp
   refine hK.out _ _ HS6.out (fun hHeld=>?_)
   clear hK K
   try simp only [sA,sB,sC]
   refine wpAnyH_done (by kernel_rfl) ?_ _
   refine NoPanic.normal ?_
   clear x1 x2 x3 hup2
   obtain ⟨x1,x2,x3⟩:=HS6.out
   obtain ⟨b0,b1,b2,b3⟩:w6.cell? ⟨w.heap.size,0,none⟩=some (.slice none 0 0)∧w6.cell? ⟨w.heap.size,1,none⟩=some (.int .i64 0)∧w6.frozen? ⟨w.heap.size,0,none⟩=false∧w6.frozen? ⟨w.heap.size,1,none⟩=false:=by
    have hb:=HB4.out
    exact ⟨by simp [World.cell?,hb],by simp [World.cell?,hb],by simp [World.frozen?,hb],by simp [World.frozen?,hb]⟩
   go_wp2_with fail
   refine bodyPost_ret (results_cell_row rfl _ _ w.heap.size 136 #[.slice ya yn yc,.int .i64 k8] (0,0) _ rfl (by rw [heap_setCell _ _ _ _ (heap_setCell _ _ _ _ HB4.out)];rfl) Tryz.underlying136 rfl (by kernel_rfl)) rfl ?_
   obtain ⟨cnt',q1,q2⟩:=HP.out.1
   have hk8:=HK8.out
   rw [hk8] at q2
   obtain ⟨R',z1,z2,z3,z4,z5⟩:=HX.out.1.put HR.out HX.out.2.2.2.2.1 HX.out.2.2.2.2.2.2.1 hne hRr hRm HX.out.2.2.2.2.2.2.2.2.2.2 HQ.out.1 (bstep HB5.out (bd w5 1)) HGO.out HBA.out HP.out.2 q1 q2 (only_set2 w6 w.heap.size 0 1 (.slice ya yn yc) (.int .i64 k8))
   exact ⟨(y8,k8),R',by unfold shV;rw [HY8.out],hk8,z1,z2,z3,z4,z5⟩
end Go.Proofs.YtppnbdnpapellaaGreatDoor
