/-
  The build.
  The build hangs on the set of the labels alone.
  A part of the files that has the closure builds the same.
-/
import Derived.Test.YtkheacknelbcnaaGreatDoorJCo
import Derived.Test.YtkheacknelbcnaaGreatDoorCs
import Derived.Test.YtkheacknelbcnaaGreatDoorJCq
import Derived.Test.YtkheacknelbcnaaGreatDoorOf
namespace Go.Proofs.YtkheacknelbcnaaGreatDoor
open Go.RowKit Go.Maps
theorem results_tmp_cell {fn:Func} {u p:Tmp} {ty:TypeId} (h:fn.results = #[.tmp u,.cell p ty]) (tmps:Array Value) (P:Program) (w:World) :
  (results fn tmps).run P w=((asAddr (tmps.getD p undef)).run P w).andThen fun a w'=>((loadVar ty a).run P w').andThen fun v w''=>.ok (.tuple #[tmps.getD u undef,v]) w'':=by
 simp only [results,h]
 simp [Sem.run_bind,Result.andThen]
theorem results_tc {P:Program} {fn:Func} {p u:Tmp} {ty:TypeId} (h:fn.results = #[.tmp u,.cell p ty]) (tmps:Array Value) (w:World) (g:Nat) (t:TypeId) (cs:Array Value) (fr:Nat×Nat) (d:TypeDesc)
  (hp:tmps.getD p undef=.pointer (some ⟨g,0,none⟩)) (hg:w.heap[g]? = some (.cells cs t fr))
  (hu:P.underlying ty=some d) (hd:(match d with | .struct _ | .array _ _=>true | _=>false)=true) (hi:(P.info? ty).map (·.size)=some cs.size) :
  (results fn tmps).run P w=.ok (.tuple #[tmps.getD u undef,.agg cs]) w:=by
 rw [results_tmp_cell h]
 rw [hp]
 simp only [asAddr,Sem.run_pure,Result.andThen_ok]
 rw [run_loadVar_row w g t ty cs fr d hg hu hd hi]
 rfl
def zPf:Pf:=⟨0,⟨[],[]⟩,⟨[],[]⟩,[],0,[]⟩
/-- what is reached, as lists in some order -/
structure RchS (l:List Fl) (t N:List Lb) (E:List Ee) (c:List (List UInt8)):Prop where
 nn:∀ x,x∈N↔Rea l t x
 ee:∀ a b,(a,b)∈E↔Rea l t a∧b∈dpsL l a
 cc:∀ q,q∈c↔∃ a,Rea l t a∧a.pkg=q
/-- the nodes in their order -/
def ndsP (l:List Fl) (N:List Lb) (E:List Ee):List Nd:=((Gs.ord (rs N) E).getD []).map (ndF (srcL l) (fun a=>rs (oE E a)))
/-- the build: nodes, or a fault -/
noncomputable def bldP (l:List Fl) (t N:List Lb) (E:List Ee) (c:List (List UInt8)):List Nd×Pf:=
 if refE l t=0 then (if (fltP l N E c).2 then ([],(fltP l N E c).1) else (ndsP l N E,zPf))
 else ([],⟨refE l t,⟨[],[]⟩,⟨[],[]⟩,[],0,[]⟩)
def OfP (w:World) (l:List Fl) (t:List Lb) (e:Ending) (w':World):Prop:=
 ∃ nv fv N E c,e=.returned (.tuple #[nv,Fv.val fv])∧(refE l t=0→RchS l t N E c)∧NOwn w.heap.size w' nv (bldP l t N E c).1∧FvIs w.heap.size w' fv (bldP l t N E c).2∧Below w.heap.size w w'
theorem refE_ok {l:List Fl} {t:List Lb} (h:refE l t=0):validE l=0∧t.all okL=true:=by
 unfold refE at h
 by_cases hv:validE l=0
 ·rw [if_pos hv] at h
  refine ⟨hv,?_⟩
  cases e:t.all okL with
  | true=>rfl
  | false=>rw [e] at h;simp at h
 ·rw [if_neg hv] at h
  exact absurd h hv
theorem NOwn.kept {base:Nat} {w w':World} {v:Value} {l:List Nd} {S:List Nat} (h:NOwn base w v l) (ho:Only S w w') (hs:∀ k∈S,k < base):NOwn base w' v l:=by
 obtain ⟨a,h1,h2,h3,h4,h5⟩:=h.it
 exact ⟨a,h1.only ho (fun k hk e=>by have:=hs k e;have:=(h1.lt hk).1;omega),h2,fun i x y=>(h3 i x y).only ho (fun k hk e=>by have:=hs k e;have:=((h3 i x y).lt hk).1;omega),h4,h5⟩
theorem NOwn.mono {base base':Nat} {w:World} {v:Value} {l:List Nd} (h:NOwn base w v l) (hb:base'≤base):NOwn base' w v l:=by
 obtain ⟨a,h1,h2,h3,h4,h5⟩:=h.it
 exact ⟨a,h1.mono hb,h2,fun i x y=>⟨(h3 i x y).lab,(h3 i x y).s.mono hb,(h3 i x y).d.mono hb⟩,h4,h5⟩
theorem FvIs.mono {base base':Nat} {w:World} {v:Fv} {f:Pf} (h:FvIs base w v f) (hb:base'≤base):FvIs base' w v f:=⟨h.it,h.ci.mono hb⟩
theorem FvIs.kept {base:Nat} {w w':World} {v:Fv} {f:Pf} {S:List Nat} (h:FvIs base w v f) (ho:Only S w w') (hs:∀ k∈S,k < base):FvIs base w' v f:=
 ⟨h.it,h.ci.only ho (fun k hk e=>by have:=hs k e;have:=(h.ci.lt hk).1;omega)⟩
theorem FvIs.later {base:Nat} {w w':World} {v:Fv} {f:Pf} (h:FvIs base w v f) (hb:Below w.heap.size w w'):FvIs base w' v f:=⟨h.it,h.ci.later hb⟩
theorem PG.order {B:Nat} {w W:World} {g:Nat} {N:List Lb} {E:List Ee} (h:PG B w g N E) (hz:N.length+2≤2000000) (hb:Below w.heap.size w W):Ow2 25 #[.pointer (some ⟨g,0,none⟩)] W ((Gs.ord (rs N) E).getD []) (Gs.ord (rs N) E).isSome:=by
 obtain ⟨⟨F,ns,out,h1,h2,h3⟩,h4⟩:=h.later hb
 have hl:=h1.nlen h2
 have:=order_any h1 (by omega)
 rw [h2.ord_eq h1.gf] at this
 exact this
theorem ord_in {N:List Lb} {E:List Ee} {a:Lb} (h:a∈(Gs.ord (rs N) E).getD []):a∈N:=by
 cases e:Gs.ord (rs N) E with
 | none=>rw [e] at h;simp at h
 | some L=>
  rw [e] at h
  exact (Gs.mem_ris _ _).1 ((Gs.ordF_some _ _ _ (Gs.Tld.nil _ _) e).1.sub a h)
theorem ordL_len (N:List Lb) (E:List Ee):((Gs.ord (rs N) E).getD []).length≤N.length:=by
 cases e:Gs.ord (rs N) E with
 | none=>simp
 | some L=>
  have h1:=(Gs.ordF_some _ _ _ (Gs.Tld.nil _ _) e).2.1
  have h2:(rs N).length≤N.length:=Gs.ris_le N
  simp only [Option.getD_some,List.length_nil] at h1 ⊢
  omega
theorem valid_len {l:List Fl} (h:validE l=0):l.length≤512:=by
 have h1:=(validE_zero l).1 h
 unfold stand at h1
 simp only [Bool.and_eq_true,decide_eq_true_eq] at h1
 omega
/-- what Of needs of its arguments -/
structure OfB (l:List Fl) (t:List Lb):Prop where
 fq:FQ l
 fs:FSm l
 ll:l.length≤2000000
 tl:t.length≤1100000
 lm:∀ x∈t,Lm x
 ul:t.length+txt l≤1500000
set_option maxRecDepth 100000 in
set_option maxHeartbeats 8000000 in
theorem bof_any {w:World} {lv tv:Value} {l:List Fl} {t:List Lb} {bt:Nat} (E0:Ev w) (hf:FS w lv l) (ht:OwnL bt w tv t) (B:OfB l t) :
  Calls Tryz.prog 8 #[lv,tv] w (OfP w l t):=by
 have hmm:=@run_makeMap Tryz.prog
 have HRF:=hid_of (fun W (hW:Below w.heap.size w W)=>brefused_any (hf.later hW) B.fs (ht.rs.later hW) B.lm (by have:=B.tl;omega))
 have HX:Hid (Ev w∧FS w lv l∧OwnL bt w tv t∧OfB l t):=⟨E0,hf,ht,B⟩
 obtain ⟨fa,fcp,hfv,_⟩:=hf.form
 obtain ⟨fn,hfn⟩:∃ fn,l.length=fn:=⟨_,rfl⟩
 rw [hfn] at hfv
 subst hfv
 obtain ⟨ta,tc,htv⟩:=ht.form
 obtain ⟨tn,htn⟩:∃ tn,t.length=tn:=⟨_,rfl⟩
 rw [htn] at htv
 subst htv
 obtain ⟨ev,hev⟩:∃ ev,refE l t=ev:=⟨_,rfl⟩
 have HEV:Hid (refE l t=ev):=hev
 rw [hev] at HRF
 clear E0 hf ht B hfn htn hev
 have HFw1:Hid (FK (w.alloc (.cells #[.int .i64 0,.string { data:=#[] },.string { data:=#[] },.string { data:=#[] },.string { data:=#[] },.string { data:=#[] },.int .i64 0,.slice none 0 0] 30)) w.heap.size zFv):=FK.new w zFv
 go_enter Tryz.func8,Tryz.ntmps8
 go_wp2_with fail
 refine (HRF.out _ (balloc _ _)).mono ?_
 rintro e w1 ⟨rfl,hb1⟩
 have HB1:Hid (Below w.heap.size w w1):=bstep (balloc _ _) hb1
 have HF1:Hid (FK w1 w.heap.size zFv):=HFw1.out.later hb1
 clear hb1 HFw1 HRF
 by_cases h0:ev=0
 ·subst h0
  have HU:=hid_of (uni_ok l t)
  obtain ⟨hv0,hal⟩:=refE_ok HEV.out
  have hll:l.length≤512:=valid_len hv0
  have HAL:Hid (t.all okL=true∧l.length≤512):=⟨hal,hll⟩
  have hul:=uni_le l t
  have hub:=HX.out.2.2.2.ul
  have HR2:Hid (RX w1 ((w1.alloc (.map #[] 0)).alloc (.cells #[.slice fa fn fcp,.map (some w1.heap.size)] 59)) (fun k=>k=w1.heap.size∨k=w1.heap.size+1) (w1.heap.size+1) l []):=by
   refine ⟨bstep (balloc _ _) (balloc _ _),fun k hk=>?_,?_⟩
   ·have hz2:((w1.alloc (.map #[] 0)).alloc (.cells #[.slice fa fn fcp,.map (some w1.heap.size)] 59)).heap.size=w1.heap.size+1+1:=by simp
    rcases hk with rfl | rfl<;>omega
   ·have hbk:=heap_alloc_new (w1.alloc (.map #[] 0)) (.cells #[.slice fa fn fcp,.map (some w1.heap.size)] 59)
    have hz:(w1.alloc (.map #[] 0)).heap.size=w1.heap.size+1:=by simp
    rw [hz] at hbk
    exact ⟨.slice fa fn fcp,w1.heap.size,fun _=>none,0,hbk,HX.out.2.1.later HB1.out,(MS.new w1).later (balloc _ _),Nat.zero_le _,by omega,.inr rfl,.inl rfl,(fun k x h=>by cases h),fun k=>by simp⟩
  have HRC:=hid_of (breached_any HR2.out (HX.out.1.later HB1.out) HX.out.2.2.2.fq (HX.out.2.2.1.later (bstep HB1.out (bstep (balloc _ _) (balloc _ _)))) HU.out (fun x hx=>by
   have h:=okL_small (uni_all HAL.out.1 x hx)
   exact ⟨⟨by omega,by omega⟩,by omega⟩) (by omega) (by omega) (by omega))
  clear hv0 hal hll hul hub HR2
  go_wp2_with fail
  refine HRC.out.mono ?_
  rintro e w3 h
  unfold RcP at h
  obtain ⟨g,N,E,R,c,rfl,hrx,⟨F,ns,out,hgr,hlnk,hF⟩,hN,hE,hnd,hed,hcl,hcc⟩:=h
  have hul:=uni_le l t
  have hub:=HX.out.2.2.2.ul
  have hNl:N.length≤1500000:=by
   have:=Gs.nodup_sub N (uniL l t) hnd (fun x hx=>HU.out.all x ((hN x).1 hx))
   omega
  have hEl:E.length≤1500000:=by
   have h1:=Gs.nodup_sub E (l.flatMap edgF) hed (fun e he=>by
    obtain ⟨x,y⟩:=e
    exact edg_mem ((hE x y).1 he).2)
   have h2:=edg_le l
   omega
  have hPG:PG w1.heap.size w3 g N E:=⟨⟨F,ns,out,hgr,hlnk,fun k hk=>(hF k hk).1⟩,fun e he=>by
   obtain ⟨x,y⟩:=e
   have h1:=(hE x y).1 he
   exact ⟨(hN x).2 h1.1,(hN y).2 (.step h1.1 h1.2)⟩⟩
  have hsm:∀ a∈N,Lu a∧Lm a∧a.pkg∈c∧a.pkg.length≤400000000∧∀ b∈dpsL l a,b∈N:=fun a ha=>by
   have h1:=(hN a).1 ha
   have h2:=okL_small (rea_ok HAL.out.1 h1)
   exact ⟨⟨by omega,by omega⟩,⟨by omega,by omega⟩,(hcc _).2 ⟨a,h1,rfl⟩,by omega,fun b hb=>(hN b).2 (.step h1 hb)⟩
  have htg:∀ a,(((tgtL l a).getD zT).srcs).length≤64∧(∀ s∈((tgtL l a).getD zT).srcs,s.length≤400000000)∧(dpsL l a).length≤1000∧((tgtL l a).getD zT).see.length≤1125899906842624∧∀ x∈((tgtL l a).getD zT).see,x.length≤1125899906842624:=fun a=>by
   obtain ⟨g1,g2,g3,g4,g5⟩:=tgt_small (l:=l) a
   exact ⟨g1,fun s hs=>by have:=g2 s hs;omega,by omega,by omega,fun x hx=>by have:=g5 x hx;omega⟩
  have HQ:Hid (RX w1 w3 R (w1.heap.size+1) l c∧PG w1.heap.size w3 g N E∧(∀ a∈N,Lu a∧Lm a∧a.pkg∈c∧a.pkg.length≤400000000∧∀ b∈dpsL l a,b∈N)∧(∀ a,(((tgtL l a).getD zT).srcs).length≤64∧(∀ s∈((tgtL l a).getD zT).srcs,s.length≤400000000)∧(dpsL l a).length≤1000∧((tgtL l a).getD zT).see.length≤1125899906842624∧∀ x∈((tgtL l a).getD zT).see,x.length≤1125899906842624)∧RchS l t N E c∧N.length≤1500000∧c.length≤1500000):=⟨hrx,hPG,hsm,htg,⟨hN,hE,hcc⟩,hNl,by omega⟩
  have HFL:=hid_of (bfault_any hrx (HX.out.1.later HB1.out) HX.out.2.2.2.fq (by omega) hPG (by omega) (by omega) hsm htg)
  have HOR:=hid_of (fun W (hW:Below w3.heap.size w3 W)=>hPG.order (by omega) hW)
  have HB3:Hid (Below w1.heap.size w1 w3):=hrx.bel
  have HF3:Hid (FK w3 w.heap.size zFv):=HF1.out.later hrx.bel
  clear hul hub hNl hEl hPG hsm htg hrx hgr hlnk hF hN hE hnd hed hcl hcc HRC
  go_wp2_with fail
  refine HFL.out.mono ?_
  rintro e w4 h
  unfold FltP at h
  obtain ⟨fv,rfl,his,hb4⟩:=h
  have HB4:Hid (Below w3.heap.size w3 w4):=hb4
  have HIS:Hid (FvIs w3.heap.size w4 fv (fltP l N E c).1):=his
  clear hb4 his HFL
  obtain ⟨bq,hbq⟩:∃ bq,(fltP l N E c).2=bq:=⟨_,rfl⟩
  have HBQ:Hid ((fltP l N E c).2=bq):=hbq
  rw [hbq]
  clear hbq
  obtain ⟨fc,⟨lp,ln⟩,⟨op,on⟩,fp,fa',ca,cn,cc⟩:=fv
  have hval:Fv.val ⟨fc,⟨lp,ln⟩,⟨op,on⟩,fp,fa',ca,cn,cc⟩=.agg #[.int .i64 fc,.string (bs lp),.string (bs ln),.string (bs op),.string (bs on),.string (bs fp),.int .i64 fa',.slice ca cn cc]:=rfl
  rw [hval]
  clear hval
  obtain ⟨w5,hw5⟩:∃ w5,w4.alloc (.cells #[.int .i64 fc,.string (bs lp),.string (bs ln),.string (bs op),.string (bs on),.string (bs fp),.int .i64 fa',.slice ca cn cc] 30)=w5:=⟨_,rfl⟩
  have HB5:Hid (Below w4.heap.size w4 w5):=by
   show Below w4.heap.size w4 w5
   rw [← hw5];exact balloc _ _
  have HF5:Hid (FK w5 w.heap.size zFv):=(HF3.out.later HB4.out).later HB5.out
  have HG5:Hid (FK w5 w4.heap.size ⟨fc,⟨lp,ln⟩,⟨op,on⟩,fp,fa',ca,cn,cc⟩):=by
   show FK w5 w4.heap.size ⟨fc,⟨lp,ln⟩,⟨op,on⟩,fp,fa',ca,cn,cc⟩
   rw [← hw5];exact FK.new _ ⟨fc,⟨lp,ln⟩,⟨op,on⟩,fp,fa',ca,cn,cc⟩
  have HWZ:Hid (w.heap.size < w1.heap.size):=HF1.out.lt
  cases bq with
  | true=>
   go_upto_region 8 with fail
   try rw [hw5]
   clear hw5
   refine wp_region_noPanic ?_
   refine wp_region_held_drew (S:=fun _=>True) (by kernel_rfl) trivial (fun hHeld=>?_)
   obtain ⟨wd,hwd⟩:∃ wd,w5.drew=wd:=⟨_,rfl⟩
   have HD:Hid (Below w5.heap.size w5 wd):=by
    show Below w5.heap.size w5 wd
    rw [← hwd];exact bd1 w5
   rw [hwd]
   clear hwd
   obtain ⟨z0,z1,z2,z3,z4,z5,z6,z7⟩:=(HF5.out.later HD.out).get
   have y0:=(HF5.out.later HD.out).soft 0
   have y1:=(HF5.out.later HD.out).soft 1
   have y2:=(HF5.out.later HD.out).soft 2
   have y3:=(HF5.out.later HD.out).soft 3
   have y4:=(HF5.out.later HD.out).soft 4
   have y5:=(HF5.out.later HD.out).soft 5
   have y6:=(HF5.out.later HD.out).soft 6
   have y7:=(HF5.out.later HD.out).soft 7
   obtain ⟨u0,u1,u2,u3,u4,u5,u6,u7⟩:=(HG5.out.later HD.out).get
   refine tkH 1 ⟨some 4,_,_,_,_,_⟩ ?v1 rfl (Or.inl ⟨by rfl,?y1⟩) ?r1
   case y1=>(intro w h;(try dsimp only at h);go_simp;try with_reducible rfl)
   try simp only [Act.put,sA,sB,sC]
   refine wpAnyH_ready (rs:=[0]) (by kernel_rfl) (by simp) ?_
   refine AllReadyH.cons (o:=⟨some 35,_,_,_,_,_⟩) rfl (fun K hK=>?_) AllReadyH.nil
   go_simp
   refine hK.out _ _ trivial (fun hHeld=>?_)
   clear hK K
   try simp only [sA,sB,sC]
   refine wpAnyH_ready (rs:=[2]) (by kernel_rfl) (by simp) ?_
   refine AllReadyH.cons (o:=⟨none,_,_,_,_,_⟩) rfl (fun K hK=>?_) AllReadyH.nil
   go_simp
   refine hK.out _ _ trivial (fun hHeld=>?_)
   clear hK K
   try simp only [sA,sB,sC]
   refine wpAnyH_done (by kernel_rfl) ?_ _
   refine NoPanic.normal ?_
   clear z0 z1 z2 z3 z4 z5 z6 z7 y0 y1 y2 y3 y4 y5 y6 y7 u0 u1 u2 u3 u4 u5 u6 u7
   go_wp2_with fail
   have HP:=putF_only wd w.heap.size ⟨fc,⟨lp,ln⟩,⟨op,on⟩,fp,fa',ca,cn,cc⟩
   refine bodyPost_ret (results_tc rfl _ _ w.heap.size 30 #[.int .i64 fc,.string (bs lp),.string (bs ln),.string (bs op),.string (bs on),.string (bs fp),.int .i64 fa',.slice ca cn cc] (0,0) _ rfl ((HF5.out.later HD.out).set ⟨fc,⟨lp,ln⟩,⟨op,on⟩,fp,fa',ca,cn,cc⟩).blk Tryz.underlying30 rfl (by kernel_rfl)) rfl ?_
   unfold OfP
   have hbb:=bstep (bstep (bstep (bstep HB1.out HB3.out) HB4.out) HB5.out) HD.out
   have hbz:=below_trans hbb (HP.below hbb.size (fun x hx=>by simp at hx;omega))
   have e0:bldP l t N E c=([],(fltP l N E c).1):=by
    unfold bldP;rw [HEV.out,if_pos rfl,HBQ.out,if_pos rfl]
   refine ⟨.slice none 0 0,⟨fc,⟨lp,ln⟩,⟨op,on⟩,fp,fa',ca,cn,cc⟩,N,E,c,rfl,fun _=>HQ.out.2.2.2.2.1,?_,?_,hbz⟩
   ·rw [e0];exact NOwn.nil _ _
   ·rw [e0]
    have h1:=((HIS.out.later HB5.out).later HD.out).kept HP (fun k hk=>by
     simp at hk
     have h2:=HB3.out.size
     have h3:=HWZ.out
     omega)
    exact h1.mono (bstep HB1.out HB3.out).size
  | false=>
   go_upto_region 9 with fail
   try rw [hw5]
   clear hw5
   go_wp2_with fail
   refine (HOR.out w5 (bstep HB4.out HB5.out)).mono ?_
   rintro e w6 ⟨ov,rfl,hoo,hb6⟩
   have HB36:Hid (Below w3.heap.size w3 w6):=bstep (bstep HB4.out HB5.out) hb6
   have HTO:=hid_of (btold_any (r:=w1.heap.size+1) (g:=g) (sf:=srcL l) (df:=fun a=>rs (oE E a)) hoo.rs (by have:=ordL_len N E;have:=HQ.out.2.2.2.2.2.1;omega) (fun W a hW ha=>bsrcs_known (HQ.out.1.later (bstep HB36.out hW)) (HX.out.1.later HB1.out) HX.out.2.2.2.fq HX.out.2.2.2.fs HAL.out.2 (by have:=HQ.out.2.2.2.2.2.2;omega) a (HQ.out.2.2.1 a (ord_in ha)).2.2.2.1 (HQ.out.2.2.1 a (ord_in ha)).2.2.1 (HQ.out.2.2.2.1 a).1 (HQ.out.2.2.2.1 a).2.1) (fun W a hW ha=>(HQ.out.2.1.later (bstep HB36.out hW)).outs a (HQ.out.2.2.1 a (ord_in ha)).1))
   obtain ⟨oa,oc,hov⟩:=hoo.form
   obtain ⟨oN,hoN⟩:∃ oN,((Gs.ord (rs N) E).getD []).length=oN:=⟨_,rfl⟩
   rw [hoN] at hov
   subst hov
   clear hoN hoo hb6
   obtain ⟨ob,hob⟩:∃ ob,(Gs.ord (rs N) E).isSome=ob:=⟨_,rfl⟩
   rw [hob]
   clear hob
   go_wp2_with fail
   refine HTO.out.mono ?_
   rintro e w7 ⟨nv,rfl,hno,hb7⟩
   have HB7:Hid (Below w3.heap.size w3 w7):=bstep HB36.out hb7
   have HF7:Hid (FK w7 w.heap.size zFv):=HF3.out.later HB7.out
   have HNO:Hid (NOwn w6.heap.size w7 nv (ndsP l N E)):=hno
   obtain ⟨na,ncp,hnv⟩:=hno.form
   obtain ⟨nN,hnN⟩:∃ nN,(((Gs.ord (rs N) E).getD []).map (ndF (srcL l) (fun a=>rs (oE E a)))).length=nN:=⟨_,rfl⟩
   rw [hnN] at hnv
   subst hnv
   clear hnN hno hb7 HTO
   obtain ⟨z0,z1,z2,z3,z4,z5,z6,z7⟩:=HF7.out.get
   have y0:=HF7.out.soft 0
   have y1:=HF7.out.soft 1
   have y2:=HF7.out.soft 2
   have y3:=HF7.out.soft 3
   have y4:=HF7.out.soft 4
   have y5:=HF7.out.soft 5
   have y6:=HF7.out.soft 6
   have y7:=HF7.out.soft 7
   go_wp2_with fail
   have HP:=putF_only w7 w.heap.size zFv
   refine bodyPost_ret (results_tc rfl _ _ w.heap.size 30 #[.int .i64 0,.string { data:=#[] },.string { data:=#[] },.string { data:=#[] },.string { data:=#[] },.string { data:=#[] },.int .i64 0,.slice none 0 0] (0,0) _ rfl (HF7.out.set zFv).blk Tryz.underlying30 rfl (by kernel_rfl)) rfl ?_
   unfold OfP
   have hbb:=bstep (bstep HB1.out HB3.out) HB7.out
   have hbz:=below_trans hbb (HP.below hbb.size (fun x hx=>by simp at hx;omega))
   have e0:bldP l t N E c=(ndsP l N E,zPf):=by
    unfold bldP;rw [HEV.out,if_pos rfl,HBQ.out];rfl
   have hlt:w.heap.size < w6.heap.size:=by
    have h1:=HB36.out.size
    have h2:=HB3.out.size
    have h3:=HWZ.out
    omega
   refine ⟨.slice na nN ncp,zFv,N,E,c,rfl,fun _=>HQ.out.2.2.2.2.1,?_,?_,hbz⟩
   ·rw [e0]
    exact (HNO.out.kept HP (fun k hk=>by simp at hk;omega)).mono (Nat.le_of_lt hlt)
   ·rw [e0];exact ⟨rfl,OwnL.nil _ _⟩
 ·have n1:(ev == 0)=false:=by simpa using h0
  have n2:decide (ev=0)=false:=by simpa using h0
  have HN0:Hid (ev≠0):=h0
  obtain ⟨z0,z1,z2,z3,z4,z5,z6,z7⟩:=HF1.out.get
  have y0:=HF1.out.soft 0
  have y1:=HF1.out.soft 1
  have y2:=HF1.out.soft 2
  have y3:=HF1.out.soft 3
  have y4:=HF1.out.soft 4
  have y5:=HF1.out.soft 5
  have y6:=HF1.out.soft 6
  have y7:=HF1.out.soft 7
  go_wp2_with fail
  have HP:=putF_only w1 w.heap.size ⟨ev,⟨[],[]⟩,⟨[],[]⟩,[],0,none,0,0⟩
  refine bodyPost_ret (results_tc rfl _ _ w.heap.size 30 #[.int .i64 ev,.string (bs []),.string (bs []),.string (bs []),.string (bs []),.string (bs []),.int .i64 0,.slice none 0 0] (0,0) _ rfl (HF1.out.set ⟨ev,⟨[],[]⟩,⟨[],[]⟩,[],0,none,0,0⟩).blk Tryz.underlying30 rfl (by kernel_rfl)) rfl ?_
  unfold OfP
  have hbb:=HB1.out
  have hbz:=below_trans hbb (HP.below hbb.size (fun x hx=>by simp at hx;omega))
  have e0:bldP l t [] [] []=([],⟨ev,⟨[],[]⟩,⟨[],[]⟩,[],0,[]⟩):=by
   unfold bldP;rw [HEV.out,if_neg HN0.out]
  refine ⟨.slice none 0 0,⟨ev,⟨[],[]⟩,⟨[],[]⟩,[],0,none,0,0⟩,[],[],[],rfl,fun h=>absurd (HEV.out.symm.trans h) HN0.out,?_,?_,hbz⟩
  ·rw [e0];exact NOwn.nil _ _
  ·rw [e0];exact ⟨rfl,OwnL.nil _ _⟩
end Go.Proofs.YtkheacknelbcnaaGreatDoor

namespace Go.Proofs.YtkheacknelbcnaaGreatDoor
open Go.RowKit Go.Maps
namespace Gs
theorem pts_ext {α:Type} {lt:α→α→Bool} [DecidableEq α] (h:Sto lt) {N N':List α} {E E':List (α×α)} (hn:∀ x,x∈N↔x∈N') (he:∀ e,e∈E↔e∈E'):pts lt N E=pts lt N' E':=by
 have hm:∀ a b,Mut E a b↔Mut E' a b:=fun a b=>⟨fun k=>⟨Way.mono (fun e q=>(he e).1 q) k.1,Way.mono (fun e q=>(he e).1 q) k.2⟩,fun k=>⟨Way.mono (fun e q=>(he e).2 q) k.1,Way.mono (fun e q=>(he e).2 q) k.2⟩⟩
 have hp:part lt N E=part lt N' E':=funext fun a=>ris_ext h (part_up h N E a) (part_up h N' E' a) (fun x=>by rw [mem_part,mem_part,hn,hm])
 have hl:∀ a,lst lt N E a=lst lt N' E' a:=fun a=>by
  unfold lst
  exact decide_eq_decide.2 ⟨fun k x hx hq=>k x ((hn x).2 hx) ((hm a x).2 hq),fun k x hx hq=>k x ((hn x).1 hx) ((hm a x).1 hq)⟩
 unfold pts
 rw [hp]
 congr 1
 exact ris_eq h (fun x=>by rw [List.mem_filter,List.mem_filter,hn,hl])
end Gs
theorem crcB_ext {E E':List Ee} (he:∀ e,e∈E↔e∈E'):crcB E=crcB E':=funext fun p=>by
 unfold crcB
 cases p with
 | nil=>rfl
 | cons a r=>simp only [he]
theorem crcL_ext {N N':List Lb} {E E':List Ee} (hn:∀ x,x∈N↔x∈N') (he:∀ e,e∈E↔e∈E'):crcL N E=crcL N' E':=by
 unfold crcL frs
 rw [Gs.pts_ext stoL hn he,crcB_ext he]
theorem rs_ext {N N':List Lb} (hn:∀ x,x∈N↔x∈N'):rs N=rs N':=Gs.ris_eq stoL hn
theorem brkL_ext {l:List Fl} {c c':List (List UInt8)} (h:∀ q,q∈c↔q∈c'):brkL l c=brkL l c':=funext fun q=>by
 by_cases k:∃ p,p∈c∧q=whl p wName
 ·obtain ⟨p,hp,rfl⟩:=k
  rw [brkL_some hp,brkL_some ((h p).1 hp)]
 ·rw [brkL_none k,brkL_none (fun ⟨p,hp,e⟩=>k ⟨p,(h p).2 hp,e⟩)]
theorem isBk_ext {l:List Fl} {c c':List (List UInt8)} (h:∀ q,q∈c↔q∈c'):isBk l c=isBk l c':=funext fun f=>by
 unfold isBk;rw [brkL_ext h]
theorem brkF_ext {l:List Fl} {c c':List (List UInt8)} (h:∀ q,q∈c↔q∈c'):brkF l c=brkF l c':=by
 unfold brkF
 rw [isBk_ext h]
 have:brkV l c=brkV l c':=funext fun f=>by unfold brkV;rw [brkL_ext h]
 rw [this]
theorem fltP_ext {l:List Fl} {N N':List Lb} {E E':List Ee} {c c':List (List UInt8)} (hn:∀ x,x∈N↔x∈N') (he:∀ e,e∈E↔e∈E') (hc:∀ q,q∈c↔q∈c'):fltP l N E c=fltP l N' E' c':=by
 unfold fltP
 rw [isBk_ext hc,brkF_ext hc,rs_ext hn,crcL_ext hn he]
theorem ndsP_ext {l:List Fl} {N N':List Lb} {E E':List Ee} (hn:∀ x,x∈N↔x∈N') (he:∀ e,e∈E↔e∈E'):ndsP l N E=ndsP l N' E':=by
 unfold ndsP
 rw [rs_ext hn,ord_ext he]
 have:(fun a=>rs (oE E a))=(fun a=>rs (oE E' a)):=funext fun a=>rs_ext (fun x=>by rw [mem_oE,mem_oE,he])
 rw [this]
theorem Rea.mono {l:List Fl} {t t':List Lb} (h:∀ x,x∈t→x∈t') {x:Lb} (hx:Rea l t x):Rea l t' x:=by
 induction hx with
 | base hm=>exact .base (h _ hm)
 | step _ hd ih=>exact .step ih hd
theorem Rea.ext {l:List Fl} {t t':List Lb} (h:∀ x,x∈t↔x∈t') (x:Lb):Rea l t x↔Rea l t' x:=⟨Rea.mono fun x=>(h x).1,Rea.mono fun x=>(h x).2⟩
theorem refE_ext {l:List Fl} {t t':List Lb} (h:∀ x,x∈t↔x∈t'):refE l t=refE l t':=by
 have e:t.all okL=t'.all okL:=by
  rw [Bool.eq_iff_iff,List.all_eq_true,List.all_eq_true]
  exact ⟨fun k x hx=>k x ((h x).2 hx),fun k x hx=>k x ((h x).1 hx)⟩
 unfold refE
 rw [e]
theorem RchS.ext {l:List Fl} {t t' N N':List Lb} {E E':List Ee} {c c':List (List UInt8)} (h:∀ x,x∈t↔x∈t') (a:RchS l t N E c) (b:RchS l t' N' E' c'):(∀ x,x∈N↔x∈N')∧(∀ e,e∈E↔e∈E')∧(∀ q,q∈c↔q∈c'):=by
 refine ⟨fun x=>?_,fun e=>?_,fun q=>?_⟩
 ·rw [a.nn,b.nn];exact Rea.ext h x
 ·obtain ⟨x,y⟩:=e
  rw [a.ee,b.ee,Rea.ext h x]
 ·rw [a.cc,b.cc]
  exact exists_congr fun x=>and_congr_left fun _=>Rea.ext h x
theorem bldP_ext {l:List Fl} {t t' N N':List Lb} {E E':List Ee} {c c':List (List UInt8)} (h:∀ x,x∈t↔x∈t') (a:refE l t=0→RchS l t N E c) (b:refE l t'=0→RchS l t' N' E' c'):bldP l t N E c=bldP l t' N' E' c':=by
 have hr:=refE_ext (l:=l) h
 unfold bldP
 rw [← hr]
 by_cases h0:refE l t=0
 ·obtain ⟨h1,h2,h3⟩:=RchS.ext h (a h0) (b (hr.symm.trans h0))
  rw [if_pos h0,if_pos h0,fltP_ext h1 h2 h3,ndsP_ext h1 h2]
 ·rw [if_neg h0,if_neg h0]
end Go.Proofs.YtkheacknelbcnaaGreatDoor

namespace Go.Proofs.YtkheacknelbcnaaGreatDoor
open Go.RowKit Go.Maps
theorem fol_trans {a b c:List UInt8} (h:fol a b=true) (k:fol b c=true):fol a c=true:=by
 unfold fol at h k ⊢
 simp only [Bool.and_eq_true,decide_eq_true_eq,Bool.not_eq_true'] at h k ⊢
 refine ⟨cf_trans h.1 k.1,?_⟩
 cases e:abvV a c with
 | false=>rfl
 | true=>
  have:=abv_between e h.1 k.1
  rw [h.2] at this
  cases this
theorem chain_pw:∀ l:List Fl,chain l=true↔l.Pairwise (fun a b=>fol a.path b.path=true)
 | []=>by simp [chain]
 | [a]=>by simp [chain]
 | a::b::r=>by
  have ih:=chain_pw (b::r)
  rw [List.pairwise_cons]
  simp only [chain,Bool.and_eq_true]
  rw [ih]
  constructor
  ·rintro ⟨h,h1⟩
   refine ⟨fun x hx=>?_,h1⟩
   rcases List.mem_cons.1 hx with rfl | hx
   ·exact h
   ·exact fol_trans h ((List.pairwise_cons.1 h1).1 x hx)
  ·rintro ⟨h,h1⟩
   exact ⟨h b (by simp),h1⟩
theorem fol_ne {a b:List UInt8} (h:fol a b=true):a≠b:=by
 rintro rfl
 unfold fol at h
 simp only [Bool.and_eq_true,decide_eq_true_eq] at h
 have:=h.1
 rw [cmpP_refl] at this
 omega
theorem stand_pw {l:List Fl} (h:validE l=0):l.Pairwise (fun a b=>fol a.path b.path=true):=by
 have h1:=(validE_zero l).1 h
 unfold stand at h1
 simp only [Bool.and_eq_true] at h1
 exact (chain_pw l).1 h1.2
theorem valid_sub {l p:List Fl} (hs:p.Sublist l) (h:validE l=0):validE p=0:=by
 have h1:=(validE_zero l).1 h
 rw [validE_zero]
 unfold stand at h1 ⊢
 simp only [Bool.and_eq_true,decide_eq_true_eq,List.all_eq_true] at h1 ⊢
 refine ⟨⟨Nat.le_trans hs.length_le h1.1.1,fun f hf=>h1.1.2 f (hs.subset hf)⟩,?_⟩
 exact (chain_pw p).2 (((chain_pw l).1 h1.2).sublist hs)
theorem pw_nodup {l:List Fl} (h:l.Pairwise (fun a b=>fol a.path b.path=true)):l.Nodup:=by
 unfold List.Nodup
 exact h.imp (fun hab e=>fol_ne hab (congrArg Fl.path e))
theorem pw_inj:∀ {l:List Fl},l.Pairwise (fun a b=>fol a.path b.path=true)→∀ f∈l,∀ g∈l,f.path=g.path→f=g
 | [],_,f,hf,_,_,_=>by cases hf
 | a::r,h,f,hf,g,hg,e=>by
  obtain ⟨h1,h2⟩:=List.pairwise_cons.1 h
  rcases List.mem_cons.1 hf with rfl | hf'
  ·rcases List.mem_cons.1 hg with rfl | hg'
   ·rfl
   ·exact absurd e (fol_ne (h1 g hg'))
  ·rcases List.mem_cons.1 hg with rfl | hg'
   ·exact absurd e.symm (fol_ne (h1 f hf'))
   ·exact pw_inj h2 f hf' g hg' e
theorem filt_sub {l p:List Fl} {g:Fl→Bool} (hs:p.Sublist l) (hn:l.Nodup) (h:∀ f∈l,g f=true→f∈p):p.filter g=l.filter g:=by
 have h1:(p.filter g).Sublist (l.filter g):=hs.filter g
 refine h1.eq_of_length_le ?_
 classical
 exact Gs.nodup_sub _ _ (hn.filter g) (fun x hx=>by
  obtain ⟨a,b⟩:=List.mem_filter.1 hx
  exact List.mem_filter.2 ⟨h x a b,b⟩)
theorem fnd_path {l:List Fl} {q:List UInt8} {f:Fl} (h:fnd l q=some f):f.path=q:=by
 have:=List.find?_some h
 simpa using this
theorem fnd_sub {l p:List Fl} {q:List UInt8} (hp:l.Pairwise (fun a b=>fol a.path b.path=true)) (hs:p.Sublist l) (h:∀ f∈l,f.path=q→f∈p):fnd p q=fnd l q:=by
 cases e:fnd l q with
 | none=>
  unfold fnd at e ⊢
  rw [List.find?_eq_none] at e ⊢
  exact fun x hx=>e x (hs.subset hx)
 | some f=>
  have h1:=fnd_in e
  have h2:=fnd_path e
  have h3:=h f h1 h2
  cases e2:fnd p q with
  | none=>
   unfold fnd at e2
   rw [List.find?_eq_none] at e2
   exact absurd (by simpa using h2) (e2 f h3)
  | some g=>
   rw [pw_inj hp g (hs.subset (fnd_in e2)) f h1 ((fnd_path e2).trans h2.symm)]
/-- a part that has what the labels need -/
structure Prt (l p:List Fl) (t:List Lb):Prop where
 sub:p.Sublist l
 man:∀ a,Rea l t a→∀ f∈l,f.path=whl a.pkg wName→f∈p
 src:∀ a,Rea l t a→∀ f∈srcL l a,f∈p
section
variable {l p:List Fl} {t:List Lb}
theorem Prt.says (h:Prt l p t) (hp:l.Pairwise (fun a b=>fol a.path b.path=true)) {a:Lb} (ha:Rea l t a):says p a.pkg=says l a.pkg:=by
 unfold Go.Proofs.YtkheacknelbcnaaGreatDoor.says
 rw [fnd_sub hp h.sub (h.man a ha)]
theorem Prt.tgt (h:Prt l p t) (hp:l.Pairwise (fun a b=>fol a.path b.path=true)) {a:Lb} (ha:Rea l t a):tgtL p a=tgtL l a:=by
 unfold tgtL
 rw [h.says hp ha]
theorem Prt.dps (h:Prt l p t) (hp:l.Pairwise (fun a b=>fol a.path b.path=true)) {a:Lb} (ha:Rea l t a):dpsL p a=dpsL l a:=by
 unfold dpsL
 rw [h.tgt hp ha]
theorem Prt.rea (h:Prt l p t) (hp:l.Pairwise (fun a b=>fol a.path b.path=true)) (x:Lb):Rea p t x↔Rea l t x:=by
 constructor
 ·intro k
  induction k with
  | base hm=>exact .base hm
  | step _ hd ih=>rw [h.dps hp ih] at hd;exact .step ih hd
 ·intro k
  induction k with
  | base hm=>exact .base hm
  | step ha hd ih=>exact .step ih (by rw [h.dps hp ha];exact hd)
theorem Prt.rch {N:List Lb} {E:List Ee} {c:List (List UInt8)} (h:Prt l p t) (hp:l.Pairwise (fun a b=>fol a.path b.path=true)) (S:RchS l t N E c):RchS p t N E c:=by
 refine ⟨fun x=>?_,fun a b=>?_,fun q=>?_⟩
 ·rw [S.nn,h.rea hp]
 ·rw [S.ee,h.rea hp]
  exact and_congr_right fun ha=>by rw [h.dps hp ha]
 ·rw [S.cc]
  exact exists_congr fun a=>and_congr_left fun _=>(h.rea hp a).symm
/-- a source's file is one of the label's -/
theorem src_in {a:Lb} {s:List UInt8} {f:Fl} (hs:s∈((tgtL l a).getD zT).srcs) (hf:f∈(exl l (whl a.pkg s)).1):f∈srcL l a:=by
 unfold srcL keep
 refine List.mem_filter.2 ⟨exl_sub hf,?_⟩
 rw [decide_eq_true_eq]
 unfold srcP
 exact List.mem_flatMap.2 ⟨s,hs,List.mem_map.2 ⟨f,hf,rfl⟩⟩
theorem Prt.exl (h:Prt l p t) (hp:l.Pairwise (fun a b=>fol a.path b.path=true)) {a:Lb} (ha:Rea l t a) {s:List UInt8} (hs:s∈((tgtL l a).getD zT).srcs):exl p (whl a.pkg s)=exl l (whl a.pkg s):=by
 have key:∀ f∈(Go.Proofs.YtkheacknelbcnaaGreatDoor.exl l (whl a.pkg s)).1,f∈p:=fun f hf=>h.src a ha f (src_in hs hf)
 unfold Go.Proofs.YtkheacknelbcnaaGreatDoor.exl at key ⊢
 by_cases h1:litP (whl a.pkg s)=true
 ·rw [if_pos h1] at key
  rw [if_pos h1,if_pos h1,fnd_sub hp h.sub (fun f hf e=>?_)]
  cases e2:fnd l (whl a.pkg s) with
  | none=>
   unfold fnd at e2
   rw [List.find?_eq_none] at e2
   exact absurd (by simpa using e) (e2 f hf)
  | some g=>
   rw [e2] at key
   rw [pw_inj hp f hf g (fnd_in e2) (e.trans (fnd_path e2).symm)]
   exact key g (by simp)
 ·rw [if_neg h1] at key
  rw [if_neg h1,if_neg h1]
  by_cases h2:starP (whl a.pkg s)=true
  ·rw [if_pos h2] at key
   rw [if_pos h2,if_pos h2,filt_sub h.sub (pw_nodup hp) (fun f hf hg=>key f (List.mem_filter.2 ⟨hf,hg⟩))]
  ·rw [if_neg h2,if_neg h2]
theorem Prt.srcP (h:Prt l p t) (hp:l.Pairwise (fun a b=>fol a.path b.path=true)) {a:Lb} (ha:Rea l t a):srcP p a=srcP l a:=by
 unfold Go.Proofs.YtkheacknelbcnaaGreatDoor.srcP
 rw [h.tgt hp ha]
 have key:∀ s∈((tgtL l a).getD zT).srcs,pthL p a.pkg s=pthL l a.pkg s:=fun s hs=>by
  unfold pthL
  rw [h.exl hp ha hs]
 generalize ((tgtL l a).getD zT).srcs=L at key
 induction L with
 | nil=>rfl
 | cons s r ih=>rw [List.flatMap_cons,List.flatMap_cons,key s (by simp),ih (fun x hx=>key x (by simp [hx]))]
theorem Prt.srcL (h:Prt l p t) (hp:l.Pairwise (fun a b=>fol a.path b.path=true)) {a:Lb} (ha:Rea l t a):srcL p a=srcL l a:=by
 have h1:=h.src a ha
 unfold Go.Proofs.YtkheacknelbcnaaGreatDoor.srcL keep at h1 ⊢
 rw [h.srcP hp ha]
 exact filt_sub h.sub (pw_nodup hp) (fun f hf hg=>h1 f (List.mem_filter.2 ⟨hf,hg⟩))
theorem Prt.lst (h:Prt l p t) (hp:l.Pairwise (fun a b=>fol a.path b.path=true)) {a:Lb} (ha:Rea l t a):lstL p a.pkg ((tgtL l a).getD zT).srcs=lstL l a.pkg ((tgtL l a).getD zT).srcs:=by
 unfold lstL
 have e:((tgtL l a).getD zT).srcs.filter (fun s=>!(Go.Proofs.YtkheacknelbcnaaGreatDoor.exl p (whl a.pkg s)).2)=((tgtL l a).getD zT).srcs.filter (fun s=>!(Go.Proofs.YtkheacknelbcnaaGreatDoor.exl l (whl a.pkg s)).2):=List.filter_congr (fun s hs=>by rw [h.exl hp ha hs])
 rw [e]
theorem Prt.mis (h:Prt l p t) (hp:l.Pairwise (fun a b=>fol a.path b.path=true)) {a:Lb} (ha:Rea l t a):misB p a=misB l a:=by
 have h1:=h.lst hp ha
 unfold misB
 rw [h.tgt hp ha]
 cases e:tgtL l a with
 | none=>rfl
 | some T=>
  rw [e] at h1
  simp only [Option.getD_some] at h1
  simp only [h1]
theorem Prt.uns (h:Prt l p t) (hp:l.Pairwise (fun a b=>fol a.path b.path=true)) {a:Lb} (ha:Rea l t a):unsB p a=unsB l a:=by
 unfold unsB hdnL
 rw [h.dps hp ha]
 have e:(dpsL l a).filter (fun b=>!ses ((tgtL p b).getD zT).see b.pkg a.pkg)=(dpsL l a).filter (fun b=>!ses ((tgtL l b).getD zT).see b.pkg a.pkg):=List.filter_congr (fun b hb=>by rw [h.tgt hp (.step ha hb)])
 rw [e]
theorem Prt.brk {c:List (List UInt8)} (h:Prt l p t) (hp:l.Pairwise (fun a b=>fol a.path b.path=true)) (hc:∀ q,q∈c→∃ a,Rea l t a∧a.pkg=q):brkL p c=brkL l c:=funext fun q=>by
 by_cases k:∃ x,x∈c∧q=whl x wName
 ·obtain ⟨x,hx,rfl⟩:=k
  rw [brkL_some hx,brkL_some hx]
  obtain ⟨a,ha,rfl⟩:=hc x hx
  rw [h.says hp ha]
 ·rw [brkL_none k,brkL_none k]
/-- the build of the part is that of the whole, where that has no fault -/
theorem Prt.bld {N N':List Lb} {E E':List Ee} {c c':List (List UInt8)} (h:Prt l p t) (h0:refE l t=0) (S:RchS l t N E c) (hf:(fltP l N E c).2=false) (S':refE p t=0→RchS p t N' E' c'):bldP p t N' E' c'=bldP l t N E c:=by
 obtain ⟨hv,hal⟩:=refE_ok h0
 have hp:=stand_pw hv
 have h0':refE p t=0:=by
  unfold refE
  rw [if_pos (valid_sub h.sub hv),hal]
  rfl
 have R:=h.rch hp S
 rw [bldP_ext (fun _=>Iff.rfl) S' (fun _=>R)]
 have hN:∀ a∈rs N,Rea l t a:=fun a ha=>(S.nn a).1 ((Gs.mem_ris a N).1 ha)
 have hfp:(fltP p N E c).2=false:=by
  unfold fltP at hf ⊢
  by_cases b1:l.any (isBk l c)=true
  ·rw [if_pos b1] at hf;cases hf
  ·rw [if_neg b1] at hf
   have b1':¬ p.any (isBk p c)=true:=by
    intro k
    obtain ⟨f,hfp,hk⟩:=List.any_eq_true.1 k
    refine b1 (List.any_eq_true.2 ⟨f,h.sub.subset hfp,?_⟩)
    unfold isBk at hk ⊢
    rw [h.brk hp (fun q hq=>(S.cc q).1 hq)] at hk
    exact hk
   rw [if_neg b1']
   have e2:(rs N).any (misB p)=(rs N).any (misB l):=by
    rw [Bool.eq_iff_iff,List.any_eq_true,List.any_eq_true]
    exact exists_congr fun a=>and_congr_right fun ha=>by rw [h.mis hp (hN a ha)]
   rw [e2]
   by_cases b2:(rs N).any (misB l)=true
   ·rw [if_pos b2] at hf;cases hf
   ·rw [if_neg b2] at hf
    rw [if_neg b2]
    by_cases b3:(crcL N E).isSome=true
    ·rw [if_pos b3] at hf;cases hf
    ·rw [if_neg b3] at hf
     rw [if_neg b3]
     have e4:(rs N).any (unsB p)=(rs N).any (unsB l):=by
      rw [Bool.eq_iff_iff,List.any_eq_true,List.any_eq_true]
      exact exists_congr fun a=>and_congr_right fun ha=>by rw [h.uns hp (hN a ha)]
     show (rs N).any (unsB p)=false
     rw [e4]
     exact hf
 have hnd:ndsP p N E=ndsP l N E:=by
  unfold ndsP
  exact List.map_congr_left (fun a ha=>by
   unfold ndF
   rw [h.srcL hp ((S.nn a).1 (ord_in ha))])
 unfold bldP
 rw [if_pos h0,if_pos h0',hf,hfp,hnd]
 rfl
end
end Go.Proofs.YtkheacknelbcnaaGreatDoor
