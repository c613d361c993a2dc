/-
  The files that a label's sources name, of a package that has been read.
-/
import Derived.Test.YtppnbdnpapellaaGreatDoorJCf
import Derived.Test.YtppnbdnpapellaaGreatDoorJLSees
namespace Go.Proofs.YtppnbdnpapellaaGreatDoor
open Go.RowKit Go.Maps
set_option maxRecDepth 100000 in
set_option maxHeartbeats 8000000 in
theorem bsrcs_known {w0 w:World} {R:Nat→Prop} {r:Nat} {c:List (List UInt8)} {l:List Fl} (H:RX w0 w R r l c) (E0:Ev w0) (sm:FQ l) (fsm:FSm l) (hll:l.length≤512) (hc:c.length≤1000000000) (a:Lb) (ha:a.pkg.length≤400000000) (hpc:a.pkg∈c) (hs64:(((tgtL l a).getD zT).srcs).length≤64) (hsl:∀ s∈((tgtL l a).getD zT).srcs,s.length≤400000000) :
  Calls Tryz.prog 33 #[.pointer (some ⟨r,0,none⟩),a.val] w fun e w'=>∃ v,e=.returned v∧OwnF w.heap.size w' v (srcL l a)∧Below w.heap.size w w':=by
 have HT:=hid_of (btarget_known (H.later (balloc w (.cells #[.string (bs a.pkg),.string (bs a.name)] 27))) E0 sm hc a ha hpc)
 have HX:Hid (RX w0 w R r l c∧Ev w0∧FQ l∧FSm l∧l.length≤512∧a.pkg.length≤400000000):=⟨H,E0,sm,fsm,hll,ha⟩
 obtain ⟨S,hS⟩:∃ S,((tgtL l a).getD zT).srcs=S:=⟨_,rfl⟩
 rw [hS] at hs64 hsl
 have HS:Hid (((tgtL l a).getD zT).srcs=S∧S.length≤64∧∀ s∈S,s.length≤400000000):=⟨hS,hs64,hsl⟩
 clear hS hs64 hsl
 obtain ⟨p,n⟩:=a
 show Calls Tryz.prog 33 #[.pointer (some ⟨r,0,none⟩),.agg #[.string (bs p),.string (bs n)]] w _
 have HT':Hid (Calls Tryz.prog 54 #[.pointer (some ⟨r,0,none⟩),.agg #[.string (bs p),.string (bs n)]] (w.alloc (.cells #[.string (bs p),.string (bs n)] 27)) (TgtK (w.alloc (.cells #[.string (bs p),.string (bs n)] 27)) R l ⟨p,n⟩)):=HT.out
 clear H E0 sm fsm hll hc ha HT hpc
 go_enter Tryz.func33,Tryz.ntmps33
 go_wp2_with fail
 refine HT'.out.mono ?_
 rintro e w1 h
 unfold TgtK at h
 obtain ⟨t,rfl,hti,hbe⟩:=h
 have hbw1:Below w.heap.size w w1:=bstep (balloc _ _) hbe
 have hrx:RX w0 w1 R r l c:=HX.out.1.later hbw1
 obtain ⟨tn,sa,sn,sc,da,dn,dc,ea,en,ec⟩:=t
 obtain ⟨base,hto⟩:=hti.own
 have hso:Own base w1 (.slice sa sn sc) S:=by
  have h:=hto.s
  rw [HS.out.1] at h
  exact h
 obtain ⟨fv,mb,F,cnt,hr,hfs,_⟩:=hrx.it
 obtain ⟨fa,fc0,hfv,_⟩:=hfs.form
 obtain ⟨fn,hfn⟩:∃ fn,l.length=fn:=⟨_,rfl⟩
 rw [hfn] at hfv
 subst hfv
 have hRB:RB w1 w.heap.size ⟨p,n⟩:=(RB.new w ⟨p,n⟩).later hbe
 obtain ⟨fc,hfce⟩:∃ fc,fc0=fc:=⟨_,rfl⟩
 rw [hfce] at hr hfs
 have hrl:r < w1.heap.size:=(Array.getElem?_eq_some_iff.1 hr).1
 obtain ⟨xb,hxb⟩:∃ xb,w.heap.size=xb:=⟨_,rfl⟩
 rw [hxb] at hRB
 obtain ⟨w2,hw2⟩:∃ w2,w1.alloc (.cells #[.string (bs tn),.slice sa sn sc,.slice da dn dc,.slice ea en ec] 95)=w2:=⟨_,rfl⟩
 have hb12:Below w1.heap.size w1 w2:=by rw [← hw2];exact balloc _ _
 have c21:w2.cell? ⟨w1.heap.size,1,none⟩=some (.slice sa sn sc):=by rw [← hw2];simp
 have H1:Hid (RX w0 w1 R r l c∧Below w.heap.size w w1∧True∧True∧FS w0 (.slice fa fn fc) l∧Below w1.heap.size w1 w2∧w.heap.size=xb∧Own base w2 (.slice sa sn sc) S):=⟨hrx,hbw1,trivial,trivial,hfs,hb12,hxb,hso.later hb12⟩
 have HCS:Hid (∀ W,Below w2.heap.size w2 W→W.cell? ⟨r,0,none⟩=some (.slice fa fn fc)∧W.cell? ⟨xb,0,none⟩=some (.string (bs p))):=fun W hW=>by
  obtain ⟨q0,_,_,_⟩:=(hRB.later (bstep hb12 hW)).cells
  refine ⟨?_,q0⟩
  have h0:w1.cell? ⟨r,0,none⟩=some (.slice fa fn fc):=by simp [World.cell?,hr]
  exact ((bstep hb12 hW).cell (p:=⟨r,0,none⟩) hrl).trans h0
 have HEX:Hid (∀ W,Below w2.heap.size w2 W→∀ s,s∈S→Calls Tryz.prog 64 #[.slice fa fn fc,.string (bs p),.string (bs s)] W fun e w'=>∃ u,e=.returned (.tuple #[u,.bool (exl l (whl p s)).2])∧OwnF W.heap.size w' u (exl l (whl p s)).1∧Below W.heap.size W w'):=fun W hW s hs=>by
  have hb:Below w0.heap.size w0 W:=bstep H1.out.1.bel (bstep hb12 hW)
  exact expand_any p s (H1.out.2.2.2.2.1.later hb) HX.out.2.2.1 (HX.out.2.1.below hb HX.out.2.1.big) HX.out.2.2.2.2.2 (HS.out.2.2 s hs)
 obtain ⟨sa',sc',hsv⟩:=hso.len
 injection hsv with e1 hsn e3
 have hv:Tv.val ⟨tn,sa,sn,sc,da,dn,dc,ea,en,ec⟩=.agg #[.string (bs tn),.slice sa sn sc,.slice da dn dc,.slice ea en ec]:=rfl
 rw [hv]
 clear hv e1 e3 hrx hti hbe hbw1 hto hso hr hfs hrl hRB hfce hfn hb12
 have hsn64:sn≤64:=by have:=HS.out.2.1;omega
 have HSN:Hid (sn=S.length):=hsn
 clear hsn
 go_upto_region 4 with fail
 try rw [hw2]
 try rw [hxb]
 clear hw2 hxb c21
 go_loopw [7,23] (fun pv iv wr=>∃ j:Nat,j≤sn∧iv=.int .i64 j∧Own w2.heap.size wr pv ((S.take j).flatMap (pthL l p))∧Below w2.heap.size w2 wr) (fun _ iv _=>sn - (intOf iv).toNat)
 case atStart=>exact ⟨0,by omega,rfl,by simpa using Own.nil _ _,Below.refl _ _⟩
 case round=>
  obtain ⟨j,hj0,rfl,hps,hb⟩:=hrel
  obtain ⟨pa,pc,hpv⟩:=hps.len
  obtain ⟨pn,hpn⟩:∃ pn,((S.take j).flatMap (pthL l p)).length=pn:=⟨_,rfl⟩
  rw [hpn] at hpv
  subst hpv
  have X5:Hid (Own w2.heap.size wr (.slice pa pn pc) ((S.take j).flatMap (pthL l p))∧Below w2.heap.size w2 wr):=⟨hps,hb⟩
  have hpn9:pn≤32768:=by
   rw [← hpn]
   have h1:=flat_le (p:=p) HX.out.2.2.2.2.1 (S.take j)
   have h2:(S.take j).length≤64:=by rw [List.length_take];have:=HS.out.2.1;omega
   omega
  have HPN:Hid (((S.take j).flatMap (pthL l p)).length=pn):=hpn
  clear hps hb hpn
  by_cases hj:j < sn
  ·have j1:(j:Int) < (sn:Int):=by omega
   have j2:(0:Int)≤(j:Int):=by omega
   have hjl:j < S.length:=by rw [← HSN.out];exact hj
   obtain ⟨a',c',e,hf⟩:=(H1.out.2.2.2.2.2.2.2.later X5.out.2).bs.form
   injection e with e1 e2 e3
   obtain ⟨b,off,ea',hbl,c0⟩:=hf j hjl
   rw [ea'] at e1
   subst e1
   clear e2 e3 hf ea'
   have HSS:Hid (S.take (j+1)=S.take j++[S[j]]):=List.take_succ_eq_append_getElem hjl
   have HSJ':Hid (S[j]∈S):=List.getElem_mem hjl
   obtain ⟨sj,hsj⟩:∃ sj,S[j]=sj:=⟨_,rfl⟩
   rw [hsj] at c0 HSS HSJ'
   have HSJ:Hid (sj∈S):=HSJ'.out
   clear hsj HSJ'
   obtain ⟨d0,d1⟩:=HCS.out wr X5.out.2
   go_wp2_with fail
   refine wp_region_noPanic ?_
   refine wp_region_held_drew (S:=fun W'=>W'.cell? ⟨r,0,none⟩=some (.slice fa fn fc)∧W'.cell? ⟨xb,0,none⟩=some (.string (bs p))) (by kernel_rfl) (by exact HCS.out wr X5.out.2) (fun hHeld=>?_)
   refine tkH 0 ⟨some 28,_,_,_,_,_⟩ ?v1 rfl (Or.inl ⟨by rfl,?y1⟩) ?r1
   case y1=>(intro w h;(try dsimp only at h);go_simp;try with_reducible rfl)
   try simp only [Act.put,sA,sB,sC]
   refine tkH 1 ⟨some 29,_,_,_,_,_⟩ ?v2 rfl (Or.inl ⟨by rfl,?y2⟩) ?r2
   case y2=>(intro w h;(try dsimp only at h);go_simp;try with_reducible rfl)
   try simp only [Act.put,sA,sB,sC]
   refine tkH 2 ⟨some 30,_,_,_,_,_⟩ ?v3 rfl (Or.inl ⟨by rfl,?y3⟩) ?r3
   case y3=>(intro w h;(try dsimp only at h);go_simp;try with_reducible rfl)
   try simp only [Act.put,sA,sB,sC]
   refine tkH 3 ⟨some 31,_,_,_,_,_⟩ ?v4 rfl (Or.inl ⟨by rfl,?y4⟩) ?r4
   case y4=>(intro w h;(try dsimp only at h);go_simp;try with_reducible rfl)
   try simp only [Act.put,sA,sB,sC]
   refine tkH 4 ⟨some 32,_,_,_,_,_⟩ ?v5 rfl (Or.inl ⟨by rfl,?y5⟩) ?r5
   case y5=>(intro w h;(try dsimp only at h);go_simp;try with_reducible rfl)
   try simp only [Act.put,sA,sB,sC]
   refine tkH 5 ⟨some 33,_,_,_,_,_⟩ ?v6 rfl (Or.inl ⟨by rfl,?y6⟩) ?r6
   case y6=>(intro w h;(try dsimp only at h);go_simp;try with_reducible rfl)
   try simp only [Act.put,sA,sB,sC]
   refine tkH 6 ⟨some 34,_,_,_,_,_⟩ ?v7 rfl (Or.inl ⟨by rfl,?y7⟩) ?r7
   case y7=>(intro w h;(try dsimp only at h);go_simp;try with_reducible rfl)
   try simp only [Act.put,sA,sB,sC]
   refine wpAnyH_ready (rs:=[7]) (by kernel_rfl) (by simp) ?_
   refine AllReadyH.cons (o:=⟨some 35,_,_,_,_,_⟩) rfl (fun K hK=>?_) AllReadyH.nil
   go_simp
   with_reducible refine (HEX.out wr.drew (bstep X5.out.2 (Below.refl _ wr).drew) sj HSJ.out).mono ?_
   rintro e z1 ⟨u,rfl,hu,hb⟩
   obtain ⟨ua,uc,huv⟩:=hu.form
   obtain ⟨un,hun⟩:∃ un,(exl l (whl p sj)).1.length=un:=⟨_,rfl⟩
   rw [hun] at huv
   subst huv
   have HU:Hid (OwnF wr.heap.size z1 (.slice ua un uc) (exl l (whl p sj)).1∧Below wr.heap.size wr z1∧(exl l (whl p sj)).1.length=un∧un≤l.length):=⟨hu,bstep (Below.refl _ wr).drew hb,hun,by rw [← hun];exact exl_len l _⟩
   clear hu hb hun
   refine hK.out _ _ (HCS.out z1 (bstep X5.out.2 HU.out.2.1)) (fun hHeld=>?_)
   clear hK K
   try simp only [sA,sB,sC]
   refine tkH 8 ⟨some 27,_,_,_,_,_⟩ ?v8 rfl (Or.inl ⟨by rfl,?y8⟩) ?r8
   case y8=>(intro w h;(try dsimp only at h);go_simp;try with_reducible rfl)
   try simp only [Act.put,sA,sB,sC]
   refine tkH 9 ⟨some 36,_,_,_,_,_⟩ ?v9 rfl (Or.inl ⟨by rfl,?y9⟩) ?r9
   case y9=>(intro w h;(try dsimp only at h);go_simp;try with_reducible rfl)
   try simp only [Act.put,sA,sB,sC]
   refine tkH 10 ⟨some 37,_,_,_,_,_⟩ ?v10 rfl (Or.inl ⟨by rfl,?y10⟩) ?r10
   case y10=>(intro w h;(try dsimp only at h);go_simp;try with_reducible rfl)
   try simp only [Act.put,sA,sB,sC]
   refine tkH 11 ⟨some 10,_,_,_,_,_⟩ ?v11 rfl (Or.inl ⟨by rfl,?y11⟩) ?r11
   case y11=>(intro w h;(try dsimp only at h);go_simp;try with_reducible rfl)
   try simp only [Act.put,sA,sB,sC]
   refine tkH 12 ⟨some 11,_,_,_,_,_⟩ ?v12 rfl (Or.inl ⟨by rfl,?y12⟩) ?r12
   case y12=>(intro w h;(try dsimp only at h);go_simp;try with_reducible rfl)
   try simp only [Act.put,sA,sB,sC]
   refine wpAnyH_done (by kernel_rfl) ?_ _
   refine NoPanic.normal ?_
   clear hHeld
   go_wp2_with fail
   go_loopw [7,40] (fun pv kv wq=>∃ k:Nat,k≤un∧kv=.int .i64 k∧Own w2.heap.size wq pv ((S.take j).flatMap (pthL l p)++(pthL l p sj).take k)∧Below w2.heap.size w2 wq∧OwnF wr.heap.size wq (.slice ua un uc) (exl l (whl p sj)).1∧(∀ q,pv.ownBlock=some q→q < wr.heap.size∨z1.heap.size≤q)∧z1.heap.size≤wq.heap.size∧∀ q,(Value.slice ua un uc).ownBlock=some q→q < z1.heap.size) (fun _ kv _=>un - (intOf kv).toNat)
   case atStart=>exact ⟨0,by omega,rfl,by simpa using X5.out.1.later HU.out.2.1,bstep X5.out.2 HU.out.2.1,HU.out.1,fun q hq=>.inl (X5.out.1.lt hq).2,Nat.le_refl _,fun q hq=>(HU.out.1.lt hq).2⟩
   case round=>
    rename World=>wq
    obtain ⟨k,hk0,rfl,hps,hb,hu,hap,hz,huq⟩:=hrel
    obtain ⟨pa2,pc2,hpv⟩:=hps.len
    obtain ⟨pn2,hpn2⟩:∃ pn2,((S.take j).flatMap (pthL l p)++(pthL l p sj).take k).length=pn2:=⟨_,rfl⟩
    rw [hpn2] at hpv
    subst hpv
    have hpl:(pthL l p sj).length=un:=by unfold pthL;rw [List.length_map];exact HU.out.2.2.1
    have hll:=HX.out.2.2.2.2.1
    have hul:=HU.out.2.2.2
    have hpn3:pn2≤40000:=by
     rw [← hpn2,List.length_append,HPN.out,List.length_take]
     omega
    have X6:Hid (Own w2.heap.size wq (.slice pa2 pn2 pc2) ((S.take j).flatMap (pthL l p)++(pthL l p sj).take k)∧Below w2.heap.size w2 wq∧OwnF wr.heap.size wq (.slice ua un uc) (exl l (whl p sj)).1∧(∀ q,(Value.slice pa2 pn2 pc2).ownBlock=some q→q < wr.heap.size∨z1.heap.size≤q)∧z1.heap.size≤wq.heap.size∧(∀ q,(Value.slice ua un uc).ownBlock=some q→q < z1.heap.size)∧((S.take j).flatMap (pthL l p)++(pthL l p sj).take k).length=pn2∧(pthL l p sj).length=un):=⟨hps,hb,hu,hap,hz,huq,hpn2,hpl⟩
    clear hps hb hu hap hz huq hpn2 hpl
    by_cases hk:k < un
    ·have k1:(k:Int) < (un:Int):=by omega
     have k2:(0:Int)≤(k:Int):=by omega
     have hkl:k < (exl l (whl p sj)).1.length:=by rw [HU.out.2.2.1];exact hk
     have hfs9:=X6.out.2.2.1.fs
     rw [← HU.out.2.2.1] at hfs9
     obtain ⟨b9,off9,ea,hbl9,g0,g1,g2,g3⟩:=FS.at hfs9 (Below.refl _ _) hkl
     subst ea
     have HPK:Hid ((pthL l p sj).take (k+1)=(pthL l p sj).take k++[((exl l (whl p sj)).1[k]).path]):=by
      have h9:k < (pthL l p sj).length:=by rw [X6.out.2.2.2.2.2.2.2];exact hk
      show _=_
      rw [List.take_succ_eq_append_getElem h9]
      simp [pthL]
     obtain ⟨f,hf⟩:∃ f,(exl l (whl p sj)).1[k]=f:=⟨_,rfl⟩
     rw [hf] at g0 g1 g2 g3 HPK
     clear hf hfs9
     obtain ⟨fp,ft,fb,fs⟩:=f
     simp only at g0 g1 g2 g3 HPK
     have hlen1:((S.take j).flatMap (pthL l p)++(pthL l p sj).take k).length+1≤8796093022208:=by rw [X6.out.2.2.2.2.2.2.1];omega
     obtain ⟨wB,hwB⟩:∃ wB,wq.alloc (.cells #[.string (bs fp),.string (bs ft),.int .i64 fb,.int .i64 fs] 55)=wB:=⟨_,rfl⟩
     have HWB:Hid (Below wq.heap.size wq wB):=by rw [← hwB];exact balloc _ _
     have cB:wB.cell? ⟨wq.heap.size,0,none⟩=some (.string (bs fp)):=by rw [← hwB];simp
     have hba:w2.heap.size≤wB.heap.size:=Nat.le_trans X6.out.2.1.size HWB.out.size
     go_wp2_with (first | (at_builtin;refine app_one (base:=w2.heap.size) fp (X6.out.1.later HWB.out) hlen1 hba rfl (.tmp 44) (.tmp 47) rfl rfl rfl ?_;intro v' wA ho hbA hsA hgA hwhA))
     obtain ⟨aA,cA,hvA⟩:=ho.len
     have XC:Hid (Own w2.heap.size wA v' ((S.take j).flatMap (pthL l p)++(pthL l p sj).take (k+1))∧Below w2.heap.size w2 wA∧OwnF wr.heap.size wA (.slice (some ⟨b9,off9,none⟩) un uc) (exl l (whl p sj)).1∧(∀ q,v'.ownBlock=some q→q < wr.heap.size∨z1.heap.size≤q)∧z1.heap.size≤wA.heap.size):=by
      have hs1:=HWB.out.size
      have hs2:=hgA.size
      refine ⟨by rw [HPK.out,← List.append_assoc];exact ho,below_trans (bstep X6.out.2.1 HWB.out) hbA,(X6.out.2.2.1.later HWB.out).only (only_grownK hgA) (fun q hq=>?_),fun q hq=>?_,by have:=X6.out.2.2.2.2.1;omega⟩
      ·have h1:=(X6.out.2.2.1.lt hq).1
       have h2:=X6.out.2.2.2.2.2.1 q hq
       intro e
       have e':(Value.slice pa2 pn2 pc2).ownBlock=some q:=by
        cases ho:(Value.slice pa2 pn2 pc2).ownBlock with
        | none=>rw [ho] at e;simp at e
        | some q'=>rw [ho] at e;simp at e;rw [e]
       rcases X6.out.2.2.2.1 q e' with h | h<;>omega
      ·rcases hwhA with h | h
       ·exact X6.out.2.2.2.1 q (h▸hq)
       ·rw [h] at hq
        injection hq with hq
        have:=X6.out.2.2.2.2.1
        exact .inr (by omega)
     subst hvA
     clear ho hbA hsA hgA hwhA
     go_wp2_with fail
     go_roundw
     case rel=>exact ⟨k+1,by omega,by go_num,XC.out.1,XC.out.2.1,XC.out.2.2.1,XC.out.2.2.2.1,XC.out.2.2.2.2,X6.out.2.2.2.2.2.1⟩
     case measure=>simp [intOf];omega
    ·obtain rfl:k=un:=by omega
     go_wp2_with fail
     go_roundw
     case rel=>
      refine ⟨j+1,by omega,by go_num,?_,X6.out.2.1⟩
      have h1:=X6.out.1
      rw [List.take_of_length_le (Nat.le_of_eq X6.out.2.2.2.2.2.2.2)] at h1
      rw [HSS.out,List.flatMap_append]
      simpa using h1
     case measure=>simp [intOf];omega
  ·obtain rfl:j=sn:=by omega
   have HPS:Hid ((S.take j).flatMap (pthL l p)=srcP l ⟨p,n⟩):=by
    show _=_
    unfold srcP
    rw [HS.out.1,List.take_of_length_le (by rw [HSN.out];exact Nat.le_refl _)]
   have h5:=X5.out.1
   rw [HPS.out] at h5
   have hpl:=HPN.out
   rw [HPS.out] at hpl
   have HKP:Hid (Calls Tryz.prog 13 #[.slice fa fn fc,.slice pa pn pc] wr fun e w'=>∃ v',e=.returned v'∧OwnF wr.heap.size w' v' (keep l (srcP l ⟨p,n⟩))∧Below wr.heap.size wr w'):=by
    refine keep_any (H1.out.2.2.2.2.1.later (bstep H1.out.1.bel (bstep H1.out.2.2.2.2.2.1 X5.out.2))) h5.bs HX.out.2.2.2.1 ⟨by omega,fun x hx=>?_⟩ (by have:=HX.out.2.2.2.2.1;omega)
    unfold srcP at hx
    obtain ⟨s,_,hx⟩:=List.mem_flatMap.1 hx
    unfold pthL at hx
    obtain ⟨f,hf,rfl⟩:=List.mem_map.1 hx
    exact (HX.out.2.2.1.each f (exl_sub hf)).path
   obtain ⟨d0,d1⟩:=HCS.out wr X5.out.2
   clear h5 hpl
   go_wp2_with fail
   refine HKP.out.mono ?_
   rintro e w9 ⟨v9,rfl,ho9,hb9⟩
   have H9:=hid_of (And.intro ho9 hb9)
   clear ho9 hb9
   go_wp2_with fail
   go_ret
   have hb19:Below w1.heap.size w1 w9:=bstep H1.out.2.2.2.2.2.1 (bstep X5.out.2 H9.out.2)
   have hbz:=bstep H1.out.2.1 hb19
   have hsz:=(bstep H1.out.2.1 (bstep H1.out.2.2.2.2.2.1 X5.out.2)).size
   exact ⟨v9,rfl,H9.out.1.mono hsz,hbz⟩
end Go.Proofs.YtppnbdnpapellaaGreatDoor
