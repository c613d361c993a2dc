/-
  The build.
-/
import Derived.Test.YtppnbdnpapellaaGreatDoorJCo
import Derived.Test.YtppnbdnpapellaaGreatDoorCs
import Derived.Test.YtppnbdnpapellaaGreatDoorJCq
import Derived.Test.YtppnbdnpapellaaGreatDoorOf
namespace Go.Proofs.YtppnbdnpapellaaGreatDoor
open Go.RowKit Go.Maps
theorem results_tmp_cell {fn:Func} {u p:Tmp} {ty:TypeId} (h:fn.results = #[.tmp u,.cell p ty]) (tmps:Array Value) (P:Program) (w:World) :
  (results fn tmps).run P w=((asAddr (tmps.getD p undef)).run P w).andThen fun a w'=>((loadVar ty a).run P w').andThen fun v w''=>.ok (.tuple #[tmps.getD u undef,v]) w'':=by
 simp only [results,h]
 simp [Sem.run_bind,Result.andThen]
theorem results_tc {P:Program} {fn:Func} {p u:Tmp} {ty:TypeId} (h:fn.results = #[.tmp u,.cell p ty]) (tmps:Array Value) (w:World) (g:Nat) (t:TypeId) (cs:Array Value) (fr:Nat×Nat) (d:TypeDesc)
  (hp:tmps.getD p undef=.pointer (some ⟨g,0,none⟩)) (hg:w.heap[g]? = some (.cells cs t fr))
  (hu:P.underlying ty=some d) (hd:(match d with | .struct _ | .array _ _=>true | _=>false)=true) (hi:(P.info? ty).map (·.size)=some cs.size) :
  (results fn tmps).run P w=.ok (.tuple #[tmps.getD u undef,.agg cs]) w:=by
 rw [results_tmp_cell h]
 rw [hp]
 simp only [asAddr,Sem.run_pure,Result.andThen_ok]
 rw [run_loadVar_row w g t ty cs fr d hg hu hd hi]
 rfl
def zPf:Pf:=⟨0,⟨[],[]⟩,⟨[],[]⟩,[],0,[]⟩
/-- what is reached, as lists in some order -/
structure RchS (l:List Fl) (t N:List Lb) (E:List Ee) (c:List (List UInt8)):Prop where
 nn:∀ x,x∈N↔Rea l t x
 ee:∀ a b,(a,b)∈E↔Rea l t a∧b∈dpsL l a
 cc:∀ q,q∈c↔∃ a,Rea l t a∧a.pkg=q
/-- the nodes in their order -/
def ndsP (l:List Fl) (N:List Lb) (E:List Ee):List Nd:=((Gs.ord (rs N) E).getD []).map (ndF (srcL l) (fun a=>rs (oE E a)))
/-- the build: nodes, or a fault -/
noncomputable def bldP (l:List Fl) (t N:List Lb) (E:List Ee) (c:List (List UInt8)):List Nd×Pf:=
 if refE l t=0 then (if (fltP l N E c).2 then ([],(fltP l N E c).1) else (ndsP l N E,zPf))
 else ([],⟨refE l t,⟨[],[]⟩,⟨[],[]⟩,[],0,[]⟩)
def OfP (w:World) (l:List Fl) (t:List Lb) (e:Ending) (w':World):Prop:=
 ∃ nv fv N E c,e=.returned (.tuple #[nv,Fv.val fv])∧(refE l t=0→RchS l t N E c)∧NOwn w.heap.size w' nv (bldP l t N E c).1∧FvIs w.heap.size w' fv (bldP l t N E c).2∧Below w.heap.size w w'
theorem refE_ok {l:List Fl} {t:List Lb} (h:refE l t=0):validE l=0∧t.all okL=true:=by
 unfold refE at h
 by_cases hv:validE l=0
 ·rw [if_pos hv] at h
  refine ⟨hv,?_⟩
  cases e:t.all okL with
  | true=>rfl
  | false=>rw [e] at h;simp at h
 ·rw [if_neg hv] at h
  exact absurd h hv
theorem NOwn.kept {base:Nat} {w w':World} {v:Value} {l:List Nd} {S:List Nat} (h:NOwn base w v l) (ho:Only S w w') (hs:∀ k∈S,k < base):NOwn base w' v l:=by
 obtain ⟨a,h1,h2,h3,h4,h5⟩:=h.it
 exact ⟨a,h1.only ho (fun k hk e=>by have:=hs k e;have:=(h1.lt hk).1;omega),h2,fun i x y=>(h3 i x y).only ho (fun k hk e=>by have:=hs k e;have:=((h3 i x y).lt hk).1;omega),h4,h5⟩
theorem NOwn.mono {base base':Nat} {w:World} {v:Value} {l:List Nd} (h:NOwn base w v l) (hb:base'≤base):NOwn base' w v l:=by
 obtain ⟨a,h1,h2,h3,h4,h5⟩:=h.it
 exact ⟨a,h1.mono hb,h2,fun i x y=>⟨(h3 i x y).lab,(h3 i x y).s.mono hb,(h3 i x y).d.mono hb⟩,h4,h5⟩
theorem FvIs.mono {base base':Nat} {w:World} {v:Fv} {f:Pf} (h:FvIs base w v f) (hb:base'≤base):FvIs base' w v f:=⟨h.it,h.ci.mono hb⟩
theorem FvIs.kept {base:Nat} {w w':World} {v:Fv} {f:Pf} {S:List Nat} (h:FvIs base w v f) (ho:Only S w w') (hs:∀ k∈S,k < base):FvIs base w' v f:=
 ⟨h.it,h.ci.only ho (fun k hk e=>by have:=hs k e;have:=(h.ci.lt hk).1;omega)⟩
theorem FvIs.later {base:Nat} {w w':World} {v:Fv} {f:Pf} (h:FvIs base w v f) (hb:Below w.heap.size w w'):FvIs base w' v f:=⟨h.it,h.ci.later hb⟩
theorem PG.order {B:Nat} {w W:World} {g:Nat} {N:List Lb} {E:List Ee} (h:PG B w g N E) (hz:N.length+2≤2000000) (hb:Below w.heap.size w W):Ow2 31 #[.pointer (some ⟨g,0,none⟩)] W ((Gs.ord (rs N) E).getD []) (Gs.ord (rs N) E).isSome:=by
 obtain ⟨⟨F,ns,out,h1,h2,h3⟩,h4⟩:=h.later hb
 have hl:=h1.nlen h2
 have:=order_any h1 (by omega)
 rw [h2.ord_eq h1.gf] at this
 exact this
theorem ord_in {N:List Lb} {E:List Ee} {a:Lb} (h:a∈(Gs.ord (rs N) E).getD []):a∈N:=by
 cases e:Gs.ord (rs N) E with
 | none=>rw [e] at h;simp at h
 | some L=>
  rw [e] at h
  exact (Gs.mem_ris _ _).1 ((Gs.ordF_some _ _ _ (Gs.Tld.nil _ _) e).1.sub a h)
theorem ordL_len (N:List Lb) (E:List Ee):((Gs.ord (rs N) E).getD []).length≤N.length:=by
 cases e:Gs.ord (rs N) E with
 | none=>simp
 | some L=>
  have h1:=(Gs.ordF_some _ _ _ (Gs.Tld.nil _ _) e).2.1
  have h2:(rs N).length≤N.length:=Gs.ris_le N
  simp only [Option.getD_some,List.length_nil] at h1 ⊢
  omega
theorem valid_len {l:List Fl} (h:validE l=0):l.length≤512:=by
 have h1:=(validE_zero l).1 h
 unfold stand at h1
 simp only [Bool.and_eq_true,decide_eq_true_eq] at h1
 omega
/-- what Of needs of its arguments -/
structure OfB (l:List Fl) (t:List Lb):Prop where
 fq:FQ l
 fs:FSm l
 ll:l.length≤2000000
 tl:t.length≤1100000
 lm:∀ x∈t,Lm x
 ul:t.length+txt l≤1500000
set_option maxRecDepth 100000 in
set_option maxHeartbeats 8000000 in
theorem bof_any {w:World} {lv tv:Value} {l:List Fl} {t:List Lb} (E0:Ev w) (hf:FS w lv l) (ht:LS w tv t) (B:OfB l t) :
  Calls Tryz.prog 11 #[lv,tv] w (OfP w l t):=by
 have hmm:=@run_makeMap Tryz.prog
 have HRF:=hid_of (fun W (hW:Below w.heap.size w W)=>brefused_any (hf.later hW) B.fs (ht.later hW) B.lm (by have:=B.tl;omega))
 have HX:Hid (Ev w∧FS w lv l∧LS w tv t∧OfB l t):=⟨E0,hf,ht,B⟩
 obtain ⟨fa,fcp,hfv,_⟩:=hf.form
 obtain ⟨fn,hfn⟩:∃ fn,l.length=fn:=⟨_,rfl⟩
 rw [hfn] at hfv
 subst hfv
 obtain ⟨ta,tc,htv,-⟩:=ht.form
 obtain ⟨tn,htn⟩:∃ tn,t.length=tn:=⟨_,rfl⟩
 rw [htn] at htv
 subst htv
 obtain ⟨ev,hev⟩:∃ ev,refE l t=ev:=⟨_,rfl⟩
 have HEV:Hid (refE l t=ev):=hev
 rw [hev] at HRF
 clear E0 hf ht B hfn htn hev
 have HFw1:Hid (FK (w.alloc (.cells #[.int .i64 0,.string { data:=#[] },.string { data:=#[] },.string { data:=#[] },.string { data:=#[] },.string { data:=#[] },.int .i64 0,.slice none 0 0] 29)) w.heap.size zFv):=FK.new w zFv
 go_enter Tryz.func11,Tryz.ntmps11
 go_wp2_with fail
 refine (HRF.out _ (balloc _ _)).mono ?_
 rintro e w1 ⟨rfl,hb1⟩
 have HB1:Hid (Below w.heap.size w w1):=bstep (balloc _ _) hb1
 have HF1:Hid (FK w1 w.heap.size zFv):=HFw1.out.later hb1
 clear hb1 HFw1 HRF
 by_cases h0:ev=0
 ·subst h0
  have HU:=hid_of (uni_ok l t)
  obtain ⟨hv0,hal⟩:=refE_ok HEV.out
  have hll:l.length≤512:=valid_len hv0
  have HAL:Hid (t.all okL=true∧l.length≤512):=⟨hal,hll⟩
  have hul:=uni_le l t
  have hub:=HX.out.2.2.2.ul
  have HR2:Hid (RX w1 ((w1.alloc (.map #[] 0)).alloc (.cells #[.slice fa fn fcp,.map (some w1.heap.size)] 66)) (fun k=>k=w1.heap.size∨k=w1.heap.size+1) (w1.heap.size+1) l []):=by
   refine ⟨bstep (balloc _ _) (balloc _ _),fun k hk=>?_,?_⟩
   ·have hz2:((w1.alloc (.map #[] 0)).alloc (.cells #[.slice fa fn fcp,.map (some w1.heap.size)] 66)).heap.size=w1.heap.size+1+1:=by simp
    rcases hk with rfl | rfl<;>omega
   ·have hbk:=heap_alloc_new (w1.alloc (.map #[] 0)) (.cells #[.slice fa fn fcp,.map (some w1.heap.size)] 66)
    have hz:(w1.alloc (.map #[] 0)).heap.size=w1.heap.size+1:=by simp
    rw [hz] at hbk
    exact ⟨.slice fa fn fcp,w1.heap.size,fun _=>none,0,hbk,HX.out.2.1.later HB1.out,(MS.new w1).later (balloc _ _),Nat.zero_le _,by omega,.inr rfl,.inl rfl,(fun k x h=>by cases h),fun k=>by simp⟩
  have HRC:=hid_of (breached_any HR2.out (HX.out.1.later HB1.out) HX.out.2.2.2.fq (HX.out.2.2.1.later (bstep HB1.out (bstep (balloc _ _) (balloc _ _)))) HU.out (fun x hx=>by
   have h:=okL_small (uni_all HAL.out.1 x hx)
   exact ⟨⟨by omega,by omega⟩,by omega⟩) (by omega) (by omega) (by omega))
  clear hv0 hal hll hul hub HR2
  go_wp2_with fail
  refine HRC.out.mono ?_
  rintro e w3 h
  unfold RcP at h
  obtain ⟨g,N,E,R,c,rfl,hrx,⟨F,ns,out,hgr,hlnk,hF⟩,hN,hE,hnd,hed,hcl,hcc⟩:=h
  have hul:=uni_le l t
  have hub:=HX.out.2.2.2.ul
  have hNl:N.length≤1500000:=by
   have:=Gs.nodup_sub N (uniL l t) hnd (fun x hx=>HU.out.all x ((hN x).1 hx))
   omega
  have hEl:E.length≤1500000:=by
   have h1:=Gs.nodup_sub E (l.flatMap edgF) hed (fun e he=>by
    obtain ⟨x,y⟩:=e
    exact edg_mem ((hE x y).1 he).2)
   have h2:=edg_le l
   omega
  have hPG:PG w1.heap.size w3 g N E:=⟨⟨F,ns,out,hgr,hlnk,fun k hk=>(hF k hk).1⟩,fun e he=>by
   obtain ⟨x,y⟩:=e
   have h1:=(hE x y).1 he
   exact ⟨(hN x).2 h1.1,(hN y).2 (.step h1.1 h1.2)⟩⟩
  have hsm:∀ a∈N,Lu a∧Lm a∧a.pkg∈c∧a.pkg.length≤400000000∧∀ b∈dpsL l a,b∈N:=fun a ha=>by
   have h1:=(hN a).1 ha
   have h2:=okL_small (rea_ok HAL.out.1 h1)
   exact ⟨⟨by omega,by omega⟩,⟨by omega,by omega⟩,(hcc _).2 ⟨a,h1,rfl⟩,by omega,fun b hb=>(hN b).2 (.step h1 hb)⟩
  have htg:∀ a,(((tgtL l a).getD zT).srcs).length≤64∧(∀ s∈((tgtL l a).getD zT).srcs,s.length≤400000000)∧(dpsL l a).length≤1000∧((tgtL l a).getD zT).see.length≤1125899906842624∧∀ x∈((tgtL l a).getD zT).see,x.length≤1125899906842624:=fun a=>by
   obtain ⟨g1,g2,g3,g4,g5⟩:=tgt_small (l:=l) a
   exact ⟨g1,fun s hs=>by have:=g2 s hs;omega,by omega,by omega,fun x hx=>by have:=g5 x hx;omega⟩
  have HQ:Hid (RX w1 w3 R (w1.heap.size+1) l c∧PG w1.heap.size w3 g N E∧(∀ a∈N,Lu a∧Lm a∧a.pkg∈c∧a.pkg.length≤400000000∧∀ b∈dpsL l a,b∈N)∧(∀ a,(((tgtL l a).getD zT).srcs).length≤64∧(∀ s∈((tgtL l a).getD zT).srcs,s.length≤400000000)∧(dpsL l a).length≤1000∧((tgtL l a).getD zT).see.length≤1125899906842624∧∀ x∈((tgtL l a).getD zT).see,x.length≤1125899906842624)∧RchS l t N E c∧N.length≤1500000∧c.length≤1500000):=⟨hrx,hPG,hsm,htg,⟨hN,hE,hcc⟩,hNl,by omega⟩
  have HFL:=hid_of (bfault_any hrx (HX.out.1.later HB1.out) HX.out.2.2.2.fq (by omega) hPG (by omega) (by omega) hsm htg)
  have HOR:=hid_of (fun W (hW:Below w3.heap.size w3 W)=>hPG.order (by omega) hW)
  have HB3:Hid (Below w1.heap.size w1 w3):=hrx.bel
  have HF3:Hid (FK w3 w.heap.size zFv):=HF1.out.later hrx.bel
  clear hul hub hNl hEl hPG hsm htg hrx hgr hlnk hF hN hE hnd hed hcl hcc HRC
  go_wp2_with fail
  refine HFL.out.mono ?_
  rintro e w4 h
  unfold FltP at h
  obtain ⟨fv,rfl,his,hb4⟩:=h
  have HB4:Hid (Below w3.heap.size w3 w4):=hb4
  have HIS:Hid (FvIs w3.heap.size w4 fv (fltP l N E c).1):=his
  clear hb4 his HFL
  obtain ⟨bq,hbq⟩:∃ bq,(fltP l N E c).2=bq:=⟨_,rfl⟩
  have HBQ:Hid ((fltP l N E c).2=bq):=hbq
  rw [hbq]
  clear hbq
  obtain ⟨fc,⟨lp,ln⟩,⟨op,on⟩,fp,fa',ca,cn,cc⟩:=fv
  have hval:Fv.val ⟨fc,⟨lp,ln⟩,⟨op,on⟩,fp,fa',ca,cn,cc⟩=.agg #[.int .i64 fc,.string (bs lp),.string (bs ln),.string (bs op),.string (bs on),.string (bs fp),.int .i64 fa',.slice ca cn cc]:=rfl
  rw [hval]
  clear hval
  obtain ⟨w5,hw5⟩:∃ w5,w4.alloc (.cells #[.int .i64 fc,.string (bs lp),.string (bs ln),.string (bs op),.string (bs on),.string (bs fp),.int .i64 fa',.slice ca cn cc] 29)=w5:=⟨_,rfl⟩
  have HB5:Hid (Below w4.heap.size w4 w5):=by
   show Below w4.heap.size w4 w5
   rw [← hw5];exact balloc _ _
  have HF5:Hid (FK w5 w.heap.size zFv):=(HF3.out.later HB4.out).later HB5.out
  have HG5:Hid (FK w5 w4.heap.size ⟨fc,⟨lp,ln⟩,⟨op,on⟩,fp,fa',ca,cn,cc⟩):=by
   show FK w5 w4.heap.size ⟨fc,⟨lp,ln⟩,⟨op,on⟩,fp,fa',ca,cn,cc⟩
   rw [← hw5];exact FK.new _ ⟨fc,⟨lp,ln⟩,⟨op,on⟩,fp,fa',ca,cn,cc⟩
  have HWZ:Hid (w.heap.size < w1.heap.size):=HF1.out.lt
  cases bq with
  | true=>
   go_upto_region 8 with fail
   try rw [hw5]
   clear hw5
   refine wp_region_noPanic ?_
   refine wp_region_held_drew (S:=fun _=>True) (by kernel_rfl) trivial (fun hHeld=>?_)
   obtain ⟨wd,hwd⟩:∃ wd,w5.drew=wd:=⟨_,rfl⟩
   have HD:Hid (Below w5.heap.size w5 wd):=by
    show Below w5.heap.size w5 wd
    rw [← hwd];exact bd1 w5
   rw [hwd]
   clear hwd
   obtain ⟨z0,z1,z2,z3,z4,z5,z6,z7⟩:=(HF5.out.later HD.out).get
   have y0:=(HF5.out.later HD.out).soft 0
   have y1:=(HF5.out.later HD.out).soft 1
   have y2:=(HF5.out.later HD.out).soft 2
   have y3:=(HF5.out.later HD.out).soft 3
   have y4:=(HF5.out.later HD.out).soft 4
   have y5:=(HF5.out.later HD.out).soft 5
   have y6:=(HF5.out.later HD.out).soft 6
   have y7:=(HF5.out.later HD.out).soft 7
   obtain ⟨u0,u1,u2,u3,u4,u5,u6,u7⟩:=(HG5.out.later HD.out).get
   refine tkH 1 ⟨some 4,_,_,_,_,_⟩ ?v1 rfl (Or.inl ⟨by rfl,?y1⟩) ?r1
   case y1=>(intro w h;(try dsimp only at h);go_simp;try with_reducible rfl)
   try simp only [Act.put,sA,sB,sC]
   refine wpAnyH_ready (rs:=[0]) (by kernel_rfl) (by simp) ?_
   refine AllReadyH.cons (o:=⟨some 35,_,_,_,_,_⟩) rfl (fun K hK=>?_) AllReadyH.nil
   go_simp
   refine hK.out _ _ trivial (fun hHeld=>?_)
   clear hK K
   try simp only [sA,sB,sC]
   refine wpAnyH_ready (rs:=[2]) (by kernel_rfl) (by simp) ?_
   refine AllReadyH.cons (o:=⟨none,_,_,_,_,_⟩) rfl (fun K hK=>?_) AllReadyH.nil
   go_simp
   refine hK.out _ _ trivial (fun hHeld=>?_)
   clear hK K
   try simp only [sA,sB,sC]
   refine wpAnyH_done (by kernel_rfl) ?_ _
   refine NoPanic.normal ?_
   clear z0 z1 z2 z3 z4 z5 z6 z7 y0 y1 y2 y3 y4 y5 y6 y7 u0 u1 u2 u3 u4 u5 u6 u7
   go_wp2_with fail
   have HP:=putF_only wd w.heap.size ⟨fc,⟨lp,ln⟩,⟨op,on⟩,fp,fa',ca,cn,cc⟩
   refine bodyPost_ret (results_tc rfl _ _ w.heap.size 29 #[.int .i64 fc,.string (bs lp),.string (bs ln),.string (bs op),.string (bs on),.string (bs fp),.int .i64 fa',.slice ca cn cc] (0,0) _ rfl ((HF5.out.later HD.out).set ⟨fc,⟨lp,ln⟩,⟨op,on⟩,fp,fa',ca,cn,cc⟩).blk Tryz.underlying29 rfl (by kernel_rfl)) rfl ?_
   unfold OfP
   have hbb:=bstep (bstep (bstep (bstep HB1.out HB3.out) HB4.out) HB5.out) HD.out
   have hbz:=below_trans hbb (HP.below hbb.size (fun x hx=>by simp at hx;omega))
   have e0:bldP l t N E c=([],(fltP l N E c).1):=by
    unfold bldP;rw [HEV.out,if_pos rfl,HBQ.out,if_pos rfl]
   refine ⟨.slice none 0 0,⟨fc,⟨lp,ln⟩,⟨op,on⟩,fp,fa',ca,cn,cc⟩,N,E,c,rfl,fun _=>HQ.out.2.2.2.2.1,?_,?_,hbz⟩
   ·rw [e0];exact NOwn.nil _ _
   ·rw [e0]
    have h1:=((HIS.out.later HB5.out).later HD.out).kept HP (fun k hk=>by
     simp at hk
     have h2:=HB3.out.size
     have h3:=HWZ.out
     omega)
    exact h1.mono (bstep HB1.out HB3.out).size
  | false=>
   go_upto_region 9 with fail
   try rw [hw5]
   clear hw5
   go_wp2_with fail
   refine (HOR.out w5 (bstep HB4.out HB5.out)).mono ?_
   rintro e w6 ⟨ov,rfl,hoo,hb6⟩
   have HB36:Hid (Below w3.heap.size w3 w6):=bstep (bstep HB4.out HB5.out) hb6
   have HTO:=hid_of (btold_any (r:=w1.heap.size+1) (g:=g) (sf:=srcL l) (df:=fun a=>rs (oE E a)) hoo.rs (by have:=ordL_len N E;have:=HQ.out.2.2.2.2.2.1;omega) (fun W a hW ha=>bsrcs_known (HQ.out.1.later (bstep HB36.out hW)) (HX.out.1.later HB1.out) HX.out.2.2.2.fq HX.out.2.2.2.fs HAL.out.2 (by have:=HQ.out.2.2.2.2.2.2;omega) a (HQ.out.2.2.1 a (ord_in ha)).2.2.2.1 (HQ.out.2.2.1 a (ord_in ha)).2.2.1 (HQ.out.2.2.2.1 a).1 (HQ.out.2.2.2.1 a).2.1) (fun W a hW ha=>(HQ.out.2.1.later (bstep HB36.out hW)).outs a (HQ.out.2.2.1 a (ord_in ha)).1))
   obtain ⟨oa,oc,hov⟩:=hoo.form
   obtain ⟨oN,hoN⟩:∃ oN,((Gs.ord (rs N) E).getD []).length=oN:=⟨_,rfl⟩
   rw [hoN] at hov
   subst hov
   clear hoN hoo hb6
   obtain ⟨ob,hob⟩:∃ ob,(Gs.ord (rs N) E).isSome=ob:=⟨_,rfl⟩
   rw [hob]
   clear hob
   go_wp2_with fail
   refine HTO.out.mono ?_
   rintro e w7 ⟨nv,rfl,hno,hb7⟩
   have HB7:Hid (Below w3.heap.size w3 w7):=bstep HB36.out hb7
   have HF7:Hid (FK w7 w.heap.size zFv):=HF3.out.later HB7.out
   have HNO:Hid (NOwn w6.heap.size w7 nv (ndsP l N E)):=hno
   obtain ⟨na,ncp,hnv⟩:=hno.form
   obtain ⟨nN,hnN⟩:∃ nN,(((Gs.ord (rs N) E).getD []).map (ndF (srcL l) (fun a=>rs (oE E a)))).length=nN:=⟨_,rfl⟩
   rw [hnN] at hnv
   subst hnv
   clear hnN hno hb7 HTO
   obtain ⟨z0,z1,z2,z3,z4,z5,z6,z7⟩:=HF7.out.get
   have y0:=HF7.out.soft 0
   have y1:=HF7.out.soft 1
   have y2:=HF7.out.soft 2
   have y3:=HF7.out.soft 3
   have y4:=HF7.out.soft 4
   have y5:=HF7.out.soft 5
   have y6:=HF7.out.soft 6
   have y7:=HF7.out.soft 7
   go_wp2_with fail
   have HP:=putF_only w7 w.heap.size zFv
   refine bodyPost_ret (results_tc rfl _ _ w.heap.size 29 #[.int .i64 0,.string { data:=#[] },.string { data:=#[] },.string { data:=#[] },.string { data:=#[] },.string { data:=#[] },.int .i64 0,.slice none 0 0] (0,0) _ rfl (HF7.out.set zFv).blk Tryz.underlying29 rfl (by kernel_rfl)) rfl ?_
   unfold OfP
   have hbb:=bstep (bstep HB1.out HB3.out) HB7.out
   have hbz:=below_trans hbb (HP.below hbb.size (fun x hx=>by simp at hx;omega))
   have e0:bldP l t N E c=(ndsP l N E,zPf):=by
    unfold bldP;rw [HEV.out,if_pos rfl,HBQ.out];rfl
   have hlt:w.heap.size < w6.heap.size:=by
    have h1:=HB36.out.size
    have h2:=HB3.out.size
    have h3:=HWZ.out
    omega
   refine ⟨.slice na nN ncp,zFv,N,E,c,rfl,fun _=>HQ.out.2.2.2.2.1,?_,?_,hbz⟩
   ·rw [e0]
    exact (HNO.out.kept HP (fun k hk=>by simp at hk;omega)).mono (Nat.le_of_lt hlt)
   ·rw [e0];exact ⟨rfl,OwnL.nil _ _⟩
 ·have n1:(ev == 0)=false:=by simpa using h0
  have n2:decide (ev=0)=false:=by simpa using h0
  have HN0:Hid (ev≠0):=h0
  obtain ⟨z0,z1,z2,z3,z4,z5,z6,z7⟩:=HF1.out.get
  have y0:=HF1.out.soft 0
  have y1:=HF1.out.soft 1
  have y2:=HF1.out.soft 2
  have y3:=HF1.out.soft 3
  have y4:=HF1.out.soft 4
  have y5:=HF1.out.soft 5
  have y6:=HF1.out.soft 6
  have y7:=HF1.out.soft 7
  go_wp2_with fail
  have HP:=putF_only w1 w.heap.size ⟨ev,⟨[],[]⟩,⟨[],[]⟩,[],0,none,0,0⟩
  refine bodyPost_ret (results_tc rfl _ _ w.heap.size 29 #[.int .i64 ev,.string (bs []),.string (bs []),.string (bs []),.string (bs []),.string (bs []),.int .i64 0,.slice none 0 0] (0,0) _ rfl (HF1.out.set ⟨ev,⟨[],[]⟩,⟨[],[]⟩,[],0,none,0,0⟩).blk Tryz.underlying29 rfl (by kernel_rfl)) rfl ?_
  unfold OfP
  have hbb:=HB1.out
  have hbz:=below_trans hbb (HP.below hbb.size (fun x hx=>by simp at hx;omega))
  have e0:bldP l t [] [] []=([],⟨ev,⟨[],[]⟩,⟨[],[]⟩,[],0,[]⟩):=by
   unfold bldP;rw [HEV.out,if_neg HN0.out]
  refine ⟨.slice none 0 0,⟨ev,⟨[],[]⟩,⟨[],[]⟩,[],0,none,0,0⟩,[],[],[],rfl,fun h=>absurd (HEV.out.symm.trans h) HN0.out,?_,?_,hbz⟩
  ·rw [e0];exact NOwn.nil _ _
  ·rw [e0];exact ⟨rfl,OwnL.nil _ _⟩
end Go.Proofs.YtppnbdnpapellaaGreatDoor
