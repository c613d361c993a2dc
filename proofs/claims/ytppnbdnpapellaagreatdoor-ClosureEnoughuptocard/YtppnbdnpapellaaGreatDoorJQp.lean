import Derived.Test.YtppnbdnpapellaaGreatDoorJCf
import Derived.Test.YtppnbdnpapellaaGreatDoorJLSees
import Derived.Test.YtppnbdnpapellaaGreatDoorJRw
import Derived.BigRegion
import Derived.Deep.RegionLaw
set_option maxRecDepth 100000
set_option maxHeartbeats 16000000
namespace Go.Proofs.YtppnbdnpapellaaGreatDoor
section
open Go.RowKit Go.Maps
theorem bsrcs_known {w0 w:World} {R:Nat→Prop} {r:Nat} {c:List (List UInt8)} {l:List Fl} (H:RX w0 w R r l c) (E0:Ev w0) (sm:FQ l) (fsm:FSm l) (hll:l.length≤512) (hc:c.length≤1000000000) (a:Lb) (ha:a.pkg.length≤400000000) (hpc:a.pkg∈c) (hs64:(((tgtL l a).getD zT).srcs).length≤64) (hsl:∀ s∈((tgtL l a).getD zT).srcs,s.length≤400000000) :
  Calls Tryz.prog 33 #[.pointer (some ⟨r,0,none⟩),a.val] w fun e w'=>∃ v,e=.returned v∧OwnF w.heap.size w' v (srcL l a)∧Below w.heap.size w w':=by
 have HT:=hid_of (btarget_known (H.later (balloc w (.cells #[.string (bs a.pkg),.string (bs a.name)] 27))) E0 sm hc a ha hpc)
 have HX:Hid (RX w0 w R r l c∧Ev w0∧FQ l∧FSm l∧l.length≤512∧a.pkg.length≤400000000):=⟨H,E0,sm,fsm,hll,ha⟩
 obtain ⟨S,hS⟩:∃ S,((tgtL l a).getD zT).srcs=S:=⟨_,rfl⟩
 rw [hS] at hs64 hsl
 have HS:Hid (((tgtL l a).getD zT).srcs=S∧S.length≤64∧∀ s∈S,s.length≤400000000):=⟨hS,hs64,hsl⟩
 clear hS hs64 hsl
 obtain ⟨p,n⟩:=a
 show Calls Tryz.prog 33 #[.pointer (some ⟨r,0,none⟩),.agg #[.string (bs p),.string (bs n)]] w _
 have HT':Hid (Calls Tryz.prog 54 #[.pointer (some ⟨r,0,none⟩),.agg #[.string (bs p),.string (bs n)]] (w.alloc (.cells #[.string (bs p),.string (bs n)] 27)) (TgtK (w.alloc (.cells #[.string (bs p),.string (bs n)] 27)) R l ⟨p,n⟩)):=HT.out
 clear H E0 sm fsm hll hc ha HT hpc
 go_enter Tryz.func33,Tryz.ntmps33
 go_wp2_with fail
 refine HT'.out.mono ?_
 rintro e w1 h
 unfold TgtK at h
 obtain ⟨t,rfl,hti,hbe⟩:=h
 have hbw1:Below w.heap.size w w1:=bstep (balloc _ _) hbe
 have hrx:RX w0 w1 R r l c:=HX.out.1.later hbw1
 obtain ⟨tn,sa,sn,sc,da,dn,dc,ea,en,ec⟩:=t
 obtain ⟨base,hto⟩:=hti.own
 have hso:Own base w1 (.slice sa sn sc) S:=by
  have h:=hto.s
  rw [HS.out.1] at h
  exact h
 obtain ⟨fv,mb,F,cnt,hr,hfs,_⟩:=hrx.it
 obtain ⟨fa,fc0,hfv,_⟩:=hfs.form
 obtain ⟨fn,hfn⟩:∃ fn,l.length=fn:=⟨_,rfl⟩
 rw [hfn] at hfv
 subst hfv
 have hRB:RB w1 w.heap.size ⟨p,n⟩:=(RB.new w ⟨p,n⟩).later hbe
 obtain ⟨fc,hfce⟩:∃ fc,fc0=fc:=⟨_,rfl⟩
 rw [hfce] at hr hfs
 have hrl:r < w1.heap.size:=(Array.getElem?_eq_some_iff.1 hr).1
 obtain ⟨xb,hxb⟩:∃ xb,w.heap.size=xb:=⟨_,rfl⟩
 rw [hxb] at hRB
 obtain ⟨w2,hw2⟩:∃ w2,w1.alloc (.cells #[.string (bs tn),.slice sa sn sc,.slice da dn dc,.slice ea en ec] 95)=w2:=⟨_,rfl⟩
 have hb12:Below w1.heap.size w1 w2:=by rw [← hw2];exact balloc _ _
 have c21:w2.cell? ⟨w1.heap.size,1,none⟩=some (.slice sa sn sc):=by rw [← hw2];simp
 have H1:Hid (RX w0 w1 R r l c∧Below w.heap.size w w1∧True∧True∧FS w0 (.slice fa fn fc) l∧Below w1.heap.size w1 w2∧w.heap.size=xb∧Own base w2 (.slice sa sn sc) S):=⟨hrx,hbw1,trivial,trivial,hfs,hb12,hxb,hso.later hb12⟩
 have HCS:Hid (∀ W,Below w2.heap.size w2 W→W.cell? ⟨r,0,none⟩=some (.slice fa fn fc)∧W.cell? ⟨xb,0,none⟩=some (.string (bs p))):=fun W hW=>by
  obtain ⟨q0,_,_,_⟩:=(hRB.later (bstep hb12 hW)).cells
  refine ⟨?_,q0⟩
  have h0:w1.cell? ⟨r,0,none⟩=some (.slice fa fn fc):=by simp [World.cell?,hr]
  exact ((bstep hb12 hW).cell (p:=⟨r,0,none⟩) hrl).trans h0
 have HEX:Hid (∀ W,Below w2.heap.size w2 W→∀ s,s∈S→Calls Tryz.prog 64 #[.slice fa fn fc,.string (bs p),.string (bs s)] W fun e w'=>∃ u,e=.returned (.tuple #[u,.bool (exl l (whl p s)).2])∧OwnF W.heap.size w' u (exl l (whl p s)).1∧Below W.heap.size W w'):=fun W hW s hs=>by
  have hb:Below w0.heap.size w0 W:=bstep H1.out.1.bel (bstep hb12 hW)
  exact expand_any p s (H1.out.2.2.2.2.1.later hb) HX.out.2.2.1 (HX.out.2.1.below hb HX.out.2.1.big) HX.out.2.2.2.2.2 (HS.out.2.2 s hs)
 obtain ⟨sa',sc',hsv⟩:=hso.len
 injection hsv with e1 hsn e3
 have hv:Tv.val ⟨tn,sa,sn,sc,da,dn,dc,ea,en,ec⟩=.agg #[.string (bs tn),.slice sa sn sc,.slice da dn dc,.slice ea en ec]:=rfl
 rw [hv]
 clear hv e1 e3 hrx hti hbe hbw1 hto hso hr hfs hrl hRB hfce hfn hb12
 have hsn64:sn≤64:=by have:=HS.out.2.1;omega
 have HSN:Hid (sn=S.length):=hsn
 clear hsn
 go_upto_region 4 with fail
 try rw [hw2]
 try rw [hxb]
 clear hw2 hxb c21
 go_loopw [7,23] (fun pv iv wr=>∃ j:Nat,j≤sn∧iv=.int .i64 j∧Own w2.heap.size wr pv ((S.take j).flatMap (pthL l p))∧Below w2.heap.size w2 wr) (fun _ iv _=>sn - (intOf iv).toNat)
 case atStart=>exact ⟨0,by omega,rfl,by simpa using Own.nil _ _,Below.refl _ _⟩
 case round=>
  obtain ⟨j,hj0,rfl,hps,hb⟩:=hrel
  obtain ⟨pa,pc,hpv⟩:=hps.len
  obtain ⟨pn,hpn⟩:∃ pn,((S.take j).flatMap (pthL l p)).length=pn:=⟨_,rfl⟩
  rw [hpn] at hpv
  subst hpv
  have X5:Hid (Own w2.heap.size wr (.slice pa pn pc) ((S.take j).flatMap (pthL l p))∧Below w2.heap.size w2 wr):=⟨hps,hb⟩
  have hpn9:pn≤32768:=by
   rw [← hpn]
   have h1:=flat_le (p:=p) HX.out.2.2.2.2.1 (S.take j)
   have h2:(S.take j).length≤64:=by rw [List.length_take];have:=HS.out.2.1;omega
   omega
  have HPN:Hid (((S.take j).flatMap (pthL l p)).length=pn):=hpn
  clear hps hb hpn
  by_cases hj:j < sn
  ·have j1:(j:Int) < (sn:Int):=by omega
   have j2:(0:Int)≤(j:Int):=by omega
   have hjl:j < S.length:=by rw [← HSN.out];exact hj
   obtain ⟨a',c',e,hf⟩:=(H1.out.2.2.2.2.2.2.2.later X5.out.2).bs.form
   injection e with e1 e2 e3
   obtain ⟨b,off,ea',hbl,c0⟩:=hf j hjl
   rw [ea'] at e1
   subst e1
   clear e2 e3 hf ea'
   have HSS:Hid (S.take (j+1)=S.take j++[S[j]]):=List.take_succ_eq_append_getElem hjl
   have HSJ':Hid (S[j]∈S):=List.getElem_mem hjl
   obtain ⟨sj,hsj⟩:∃ sj,S[j]=sj:=⟨_,rfl⟩
   rw [hsj] at c0 HSS HSJ'
   have HSJ:Hid (sj∈S):=HSJ'.out
   clear hsj HSJ'
   obtain ⟨d0,d1⟩:=HCS.out wr X5.out.2
   go_wp2_with fail
   refine wp_region_noPanic ?_
   refine wp_region_held_drew (S:=fun W'=>W'.cell? ⟨r,0,none⟩=some (.slice fa fn fc)∧W'.cell? ⟨xb,0,none⟩=some (.string (bs p))) (by kernel_rfl) (by exact HCS.out wr X5.out.2) (fun hHeld=>?_)
   refine tkH 0 ⟨some 28,_,_,_,_,_⟩ ?v1 rfl (Or.inl ⟨by rfl,?y1⟩) ?r1
   case y1=>(intro w h;(try dsimp only at h);go_simp;try with_reducible rfl)
   try simp only [Act.put,sA,sB,sC]
   refine tkH 1 ⟨some 29,_,_,_,_,_⟩ ?v2 rfl (Or.inl ⟨by rfl,?y2⟩) ?r2
   case y2=>(intro w h;(try dsimp only at h);go_simp;try with_reducible rfl)
   try simp only [Act.put,sA,sB,sC]
   refine tkH 2 ⟨some 30,_,_,_,_,_⟩ ?v3 rfl (Or.inl ⟨by rfl,?y3⟩) ?r3
   case y3=>(intro w h;(try dsimp only at h);go_simp;try with_reducible rfl)
   try simp only [Act.put,sA,sB,sC]
   refine tkH 3 ⟨some 31,_,_,_,_,_⟩ ?v4 rfl (Or.inl ⟨by rfl,?y4⟩) ?r4
   case y4=>(intro w h;(try dsimp only at h);go_simp;try with_reducible rfl)
   try simp only [Act.put,sA,sB,sC]
   refine tkH 4 ⟨some 32,_,_,_,_,_⟩ ?v5 rfl (Or.inl ⟨by rfl,?y5⟩) ?r5
   case y5=>(intro w h;(try dsimp only at h);go_simp;try with_reducible rfl)
   try simp only [Act.put,sA,sB,sC]
   refine tkH 5 ⟨some 33,_,_,_,_,_⟩ ?v6 rfl (Or.inl ⟨by rfl,?y6⟩) ?r6
   case y6=>(intro w h;(try dsimp only at h);go_simp;try with_reducible rfl)
   try simp only [Act.put,sA,sB,sC]
   refine tkH 6 ⟨some 34,_,_,_,_,_⟩ ?v7 rfl (Or.inl ⟨by rfl,?y7⟩) ?r7
   case y7=>(intro w h;(try dsimp only at h);go_simp;try with_reducible rfl)
   try simp only [Act.put,sA,sB,sC]
   refine wpAnyH_ready (rs:=[7]) (by kernel_rfl) (by simp) ?_
   refine AllReadyH.cons (o:=⟨some 35,_,_,_,_,_⟩) rfl (fun K hK=>?_) AllReadyH.nil
   go_simp
   with_reducible refine (HEX.out wr.drew (bstep X5.out.2 (Below.refl _ wr).drew) sj HSJ.out).mono ?_
   rintro e z1 ⟨u,rfl,hu,hb⟩
   obtain ⟨ua,uc,huv⟩:=hu.form
   obtain ⟨un,hun⟩:∃ un,(exl l (whl p sj)).1.length=un:=⟨_,rfl⟩
   rw [hun] at huv
   subst huv
   have HU:Hid (OwnF wr.heap.size z1 (.slice ua un uc) (exl l (whl p sj)).1∧Below wr.heap.size wr z1∧(exl l (whl p sj)).1.length=un∧un≤l.length):=⟨hu,bstep (Below.refl _ wr).drew hb,hun,by rw [← hun];exact exl_len l _⟩
   clear hu hb hun
   refine hK.out _ _ (HCS.out z1 (bstep X5.out.2 HU.out.2.1)) (fun hHeld=>?_)
   clear hK K
   try simp only [sA,sB,sC]
   refine tkH 8 ⟨some 27,_,_,_,_,_⟩ ?v8 rfl (Or.inl ⟨by rfl,?y8⟩) ?r8
   case y8=>(intro w h;(try dsimp only at h);go_simp;try with_reducible rfl)
   try simp only [Act.put,sA,sB,sC]
   refine tkH 9 ⟨some 36,_,_,_,_,_⟩ ?v9 rfl (Or.inl ⟨by rfl,?y9⟩) ?r9
   case y9=>(intro w h;(try dsimp only at h);go_simp;try with_reducible rfl)
   try simp only [Act.put,sA,sB,sC]
   refine tkH 10 ⟨some 37,_,_,_,_,_⟩ ?v10 rfl (Or.inl ⟨by rfl,?y10⟩) ?r10
   case y10=>(intro w h;(try dsimp only at h);go_simp;try with_reducible rfl)
   try simp only [Act.put,sA,sB,sC]
   refine tkH 11 ⟨some 10,_,_,_,_,_⟩ ?v11 rfl (Or.inl ⟨by rfl,?y11⟩) ?r11
   case y11=>(intro w h;(try dsimp only at h);go_simp;try with_reducible rfl)
   try simp only [Act.put,sA,sB,sC]
   refine tkH 12 ⟨some 11,_,_,_,_,_⟩ ?v12 rfl (Or.inl ⟨by rfl,?y12⟩) ?r12
   case y12=>(intro w h;(try dsimp only at h);go_simp;try with_reducible rfl)
   try simp only [Act.put,sA,sB,sC]
   refine wpAnyH_done (by kernel_rfl) ?_ _
   refine NoPanic.normal ?_
   clear hHeld
   go_wp2_with fail
   go_loopw [7,40] (fun pv kv wq=>∃ k:Nat,k≤un∧kv=.int .i64 k∧Own w2.heap.size wq pv ((S.take j).flatMap (pthL l p)++(pthL l p sj).take k)∧Below w2.heap.size w2 wq∧OwnF wr.heap.size wq (.slice ua un uc) (exl l (whl p sj)).1∧(∀ q,pv.ownBlock=some q→q < wr.heap.size∨z1.heap.size≤q)∧z1.heap.size≤wq.heap.size∧∀ q,(Value.slice ua un uc).ownBlock=some q→q < z1.heap.size) (fun _ kv _=>un - (intOf kv).toNat)
   case atStart=>exact ⟨0,by omega,rfl,by simpa using X5.out.1.later HU.out.2.1,bstep X5.out.2 HU.out.2.1,HU.out.1,fun q hq=>.inl (X5.out.1.lt hq).2,Nat.le_refl _,fun q hq=>(HU.out.1.lt hq).2⟩
   case round=>
    rename World=>wq
    obtain ⟨k,hk0,rfl,hps,hb,hu,hap,hz,huq⟩:=hrel
    obtain ⟨pa2,pc2,hpv⟩:=hps.len
    obtain ⟨pn2,hpn2⟩:∃ pn2,((S.take j).flatMap (pthL l p)++(pthL l p sj).take k).length=pn2:=⟨_,rfl⟩
    rw [hpn2] at hpv
    subst hpv
    have hpl:(pthL l p sj).length=un:=by unfold pthL;rw [List.length_map];exact HU.out.2.2.1
    have hll:=HX.out.2.2.2.2.1
    have hul:=HU.out.2.2.2
    have hpn3:pn2≤40000:=by
     rw [← hpn2,List.length_append,HPN.out,List.length_take]
     omega
    have X6:Hid (Own w2.heap.size wq (.slice pa2 pn2 pc2) ((S.take j).flatMap (pthL l p)++(pthL l p sj).take k)∧Below w2.heap.size w2 wq∧OwnF wr.heap.size wq (.slice ua un uc) (exl l (whl p sj)).1∧(∀ q,(Value.slice pa2 pn2 pc2).ownBlock=some q→q < wr.heap.size∨z1.heap.size≤q)∧z1.heap.size≤wq.heap.size∧(∀ q,(Value.slice ua un uc).ownBlock=some q→q < z1.heap.size)∧((S.take j).flatMap (pthL l p)++(pthL l p sj).take k).length=pn2∧(pthL l p sj).length=un):=⟨hps,hb,hu,hap,hz,huq,hpn2,hpl⟩
    clear hps hb hu hap hz huq hpn2 hpl
    by_cases hk:k < un
    ·have k1:(k:Int) < (un:Int):=by omega
     have k2:(0:Int)≤(k:Int):=by omega
     have hkl:k < (exl l (whl p sj)).1.length:=by rw [HU.out.2.2.1];exact hk
     have hfs9:=X6.out.2.2.1.fs
     rw [← HU.out.2.2.1] at hfs9
     obtain ⟨b9,off9,ea,hbl9,g0,g1,g2,g3⟩:=FS.at hfs9 (Below.refl _ _) hkl
     subst ea
     have HPK:Hid ((pthL l p sj).take (k+1)=(pthL l p sj).take k++[((exl l (whl p sj)).1[k]).path]):=by
      have h9:k < (pthL l p sj).length:=by rw [X6.out.2.2.2.2.2.2.2];exact hk
      show _=_
      rw [List.take_succ_eq_append_getElem h9]
      simp [pthL]
     obtain ⟨f,hf⟩:∃ f,(exl l (whl p sj)).1[k]=f:=⟨_,rfl⟩
     rw [hf] at g0 g1 g2 g3 HPK
     clear hf hfs9
     obtain ⟨fp,ft,fb,fs⟩:=f
     simp only at g0 g1 g2 g3 HPK
     have hlen1:((S.take j).flatMap (pthL l p)++(pthL l p sj).take k).length+1≤8796093022208:=by rw [X6.out.2.2.2.2.2.2.1];omega
     obtain ⟨wB,hwB⟩:∃ wB,wq.alloc (.cells #[.string (bs fp),.string (bs ft),.int .i64 fb,.int .i64 fs] 55)=wB:=⟨_,rfl⟩
     have HWB:Hid (Below wq.heap.size wq wB):=by rw [← hwB];exact balloc _ _
     have cB:wB.cell? ⟨wq.heap.size,0,none⟩=some (.string (bs fp)):=by rw [← hwB];simp
     have hba:w2.heap.size≤wB.heap.size:=Nat.le_trans X6.out.2.1.size HWB.out.size
     go_wp2_with (first | (at_builtin;refine app_one (base:=w2.heap.size) fp (X6.out.1.later HWB.out) hlen1 hba rfl (.tmp 44) (.tmp 47) rfl rfl rfl ?_;intro v' wA ho hbA hsA hgA hwhA))
     obtain ⟨aA,cA,hvA⟩:=ho.len
     have XC:Hid (Own w2.heap.size wA v' ((S.take j).flatMap (pthL l p)++(pthL l p sj).take (k+1))∧Below w2.heap.size w2 wA∧OwnF wr.heap.size wA (.slice (some ⟨b9,off9,none⟩) un uc) (exl l (whl p sj)).1∧(∀ q,v'.ownBlock=some q→q < wr.heap.size∨z1.heap.size≤q)∧z1.heap.size≤wA.heap.size):=by
      have hs1:=HWB.out.size
      have hs2:=hgA.size
      refine ⟨by rw [HPK.out,← List.append_assoc];exact ho,below_trans (bstep X6.out.2.1 HWB.out) hbA,(X6.out.2.2.1.later HWB.out).only (only_grownK hgA) (fun q hq=>?_),fun q hq=>?_,by have:=X6.out.2.2.2.2.1;omega⟩
      ·have h1:=(X6.out.2.2.1.lt hq).1
       have h2:=X6.out.2.2.2.2.2.1 q hq
       intro e
       have e':(Value.slice pa2 pn2 pc2).ownBlock=some q:=by
        cases ho:(Value.slice pa2 pn2 pc2).ownBlock with
        | none=>rw [ho] at e;simp at e
        | some q'=>rw [ho] at e;simp at e;rw [e]
       rcases X6.out.2.2.2.1 q e' with h | h<;>omega
      ·rcases hwhA with h | h
       ·exact X6.out.2.2.2.1 q (h▸hq)
       ·rw [h] at hq
        injection hq with hq
        have:=X6.out.2.2.2.2.1
        exact .inr (by omega)
     subst hvA
     clear ho hbA hsA hgA hwhA
     go_wp2_with fail
     go_roundw
     case rel=>exact ⟨k+1,by omega,by go_num,XC.out.1,XC.out.2.1,XC.out.2.2.1,XC.out.2.2.2.1,XC.out.2.2.2.2,X6.out.2.2.2.2.2.1⟩
     case measure=>simp [intOf];omega
    ·obtain rfl:k=un:=by omega
     go_wp2_with fail
     go_roundw
     case rel=>
      refine ⟨j+1,by omega,by go_num,?_,X6.out.2.1⟩
      have h1:=X6.out.1
      rw [List.take_of_length_le (Nat.le_of_eq X6.out.2.2.2.2.2.2.2)] at h1
      rw [HSS.out,List.flatMap_append]
      simpa using h1
     case measure=>simp [intOf];omega
  ·obtain rfl:j=sn:=by omega
   have HPS:Hid ((S.take j).flatMap (pthL l p)=srcP l ⟨p,n⟩):=by
    show _=_
    unfold srcP
    rw [HS.out.1,List.take_of_length_le (by rw [HSN.out];exact Nat.le_refl _)]
   have h5:=X5.out.1
   rw [HPS.out] at h5
   have hpl:=HPN.out
   rw [HPS.out] at hpl
   have HKP:Hid (Calls Tryz.prog 13 #[.slice fa fn fc,.slice pa pn pc] wr fun e w'=>∃ v',e=.returned v'∧OwnF wr.heap.size w' v' (keep l (srcP l ⟨p,n⟩))∧Below wr.heap.size wr w'):=by
    refine keep_any (H1.out.2.2.2.2.1.later (bstep H1.out.1.bel (bstep H1.out.2.2.2.2.2.1 X5.out.2))) h5.bs HX.out.2.2.2.1 ⟨by omega,fun x hx=>?_⟩ (by have:=HX.out.2.2.2.2.1;omega)
    unfold srcP at hx
    obtain ⟨s,_,hx⟩:=List.mem_flatMap.1 hx
    unfold pthL at hx
    obtain ⟨f,hf,rfl⟩:=List.mem_map.1 hx
    exact (HX.out.2.2.1.each f (exl_sub hf)).path
   obtain ⟨d0,d1⟩:=HCS.out wr X5.out.2
   clear h5 hpl
   go_wp2_with fail
   refine HKP.out.mono ?_
   rintro e w9 ⟨v9,rfl,ho9,hb9⟩
   have H9:=hid_of (And.intro ho9 hb9)
   clear ho9 hb9
   go_wp2_with fail
   go_ret
   have hb19:Below w1.heap.size w1 w9:=bstep H1.out.2.2.2.2.2.1 (bstep X5.out.2 H9.out.2)
   have hbz:=bstep H1.out.2.1 hb19
   have hsz:=(bstep H1.out.2.1 (bstep H1.out.2.2.2.2.2.1 X5.out.2)).size
   exact ⟨v9,rfl,H9.out.1.mono hsz,hbz⟩
end
def leL (a b:Lb):Prop:=ltL b a=false
theorem leL_refl (a:Lb):leL a a:=stoL.irr a
theorem leL_of_lt {a b:Lb} (h:ltL a b=true):leL a b:=stoL.asym h
theorem leL_trans {a b c:Lb} (h:leL a b) (k:leL b c):leL a c:=by
 unfold leL at *
 cases e:ltL c a
 ·rfl
 ·by_cases hab:a=b
  ·subst hab;rw [e] at k;cases k
  ·rcases stoL.tot a b hab with h1 | h1
   ·have:=stoL.trans c a b e h1
    rw [this] at k;cases k
   ·rw [h1] at h;cases h
def par (k:Nat):Nat:=(k - 1) / 2
def swF (f:Nat→Lb) (i j:Nat):Nat→Lb:=fun k=>if k=i then f j else if k=j then f i else f k
def HO (f:Nat→Lb) (n:Nat):Prop:=∀ k,0 < k→k < n→leL (f (par k)) (f k)
structure UpI (f:Nat→Lb) (n j:Nat):Prop where
 rest:∀ k,0 < k→k < n→k≠j→leL (f (par k)) (f k)
 over:∀ k,0 < k→k < n→par k=j→0 < j→leL (f (par j)) (f k)
theorem UpI.step {f:Nat→Lb} {n j:Nat} (h:UpI f n j) (hj:0 < j) (hn:j < n) (hlt:ltL (f j) (f (par j))=true):UpI (swF f (par j) j) n (par j):=by
 have hp:par j < j:=by unfold par;omega
 have hle:=leL_of_lt hlt
 refine ⟨fun k h0 hk hne=>?_,fun k h0 hk hpk hi=>?_⟩
 ·by_cases hkj:k=j
  ·subst hkj
   unfold swF
   rw [if_pos rfl,if_neg (by omega),if_pos rfl]
   exact hle
  ·have e1:swF f (par j) j k=f k:=by unfold swF;rw [if_neg hne,if_neg hkj]
   rw [e1]
   by_cases h1:par k=j
   ·have e2:swF f (par j) j (par k)=f (par j):=by unfold swF;rw [if_neg (by omega),if_pos h1]
    rw [e2]
    exact h.over k h0 hk h1 hj
   ·by_cases h2:par k=par j
    ·have e2:swF f (par j) j (par k)=f j:=by unfold swF;rw [if_pos h2]
     rw [e2]
     have h3:=h.rest k h0 hk hkj
     rw [h2] at h3
     exact leL_trans hle h3
    ·have e2:swF f (par j) j (par k)=f (par k):=by unfold swF;rw [if_neg h2,if_neg h1]
     rw [e2]
     exact h.rest k h0 hk hkj
 ·have hpp:par (par j) < par j:=by unfold par at *;omega
  have e2:swF f (par j) j (par (par j))=f (par (par j)):=by unfold swF;rw [if_neg (by omega),if_neg (by omega)]
  rw [e2]
  have h1:=h.rest (par j) hi (by omega) (by omega)
  by_cases hkj:k=j
  ·subst hkj
   have e1:swF f (par k) k k=f (par k):=by unfold swF;rw [if_neg (by omega),if_pos rfl]
   rw [e1];exact h1
  ·have hki:k≠par j:=by intro e;rw [← e] at hpk;unfold par at hpk;omega
   have e1:swF f (par j) j k=f k:=by unfold swF;rw [if_neg hki,if_neg hkj]
   rw [e1]
   have h3:=h.rest k h0 hk hkj
   rw [hpk] at h3
   exact leL_trans h1 h3
theorem UpI.done {f:Nat→Lb} {n j:Nat} (h:UpI f n j) (hd:j=0∨leL (f (par j)) (f j)):HO f n:=by
 intro k h0 hk
 by_cases hkj:k=j
 ·subst hkj
  rcases hd with hd | hd
  ·omega
  ·exact hd
 ·exact h.rest k h0 hk hkj
structure DnI (f:Nat→Lb) (n i:Nat):Prop where
 rest:∀ k,0 < k→k < n→par k≠i→leL (f (par k)) (f k)
 over:∀ k,0 < k→k < n→par k=i→0 < i→leL (f (par i)) (f k)
structure Mn (f:Nat→Lb) (n i j:Nat):Prop where
 pos:0 < j
 lt:j < n
 par:par j=i
 min:∀ k,0 < k→k < n→Go.Proofs.YtppnbdnpapellaaGreatDoor.par k=i→leL (f j) (f k)
theorem DnI.step {f:Nat→Lb} {n i j:Nat} (h:DnI f n i) (hm:Mn f n i j) (hlt:ltL (f j) (f i)=true):DnI (swF f i j) n j:=by
 have hp:=hm.par
 have hj:=hm.pos
 have hij:i < j:=by rw [← hp];unfold par;omega
 have hle:=leL_of_lt hlt
 refine ⟨fun k h0 hk hne=>?_,fun k h0 hk hpk _=>?_⟩
 ·have hpk:par k < k:=by unfold par;omega
  by_cases hkj:k=j
  ·subst hkj
   rw [hp]
   unfold swF
   rw [if_pos rfl,if_neg (by omega),if_pos rfl]
   exact hle
  ·by_cases hki:k=i
   ·subst hki
    have e1:swF f k j k=f j:=by unfold swF;rw [if_pos rfl]
    have e2:swF f k j (par k)=f (par k):=by unfold swF;rw [if_neg (by omega),if_neg hne]
    rw [e1,e2]
    exact h.over j hj hm.lt hp h0
   ·have e1:swF f i j k=f k:=by unfold swF;rw [if_neg hki,if_neg hkj]
    rw [e1]
    by_cases h1:par k=i
    ·have e2:swF f i j (par k)=f j:=by unfold swF;rw [if_pos h1]
     rw [e2]
     exact hm.min k h0 hk h1
    ·have e2:swF f i j (par k)=f (par k):=by unfold swF;rw [if_neg h1,if_neg hne]
     rw [e2]
     exact h.rest k h0 hk h1
 ·have hpkk:par k < k:=by unfold par;omega
  rw [hp]
  have e2:swF f i j i=f j:=by unfold swF;rw [if_pos rfl]
  have e1:swF f i j k=f k:=by unfold swF;rw [if_neg (by omega),if_neg (by omega)]
  rw [e1,e2]
  have:=h.rest k h0 hk (by omega)
  rwa [hpk] at this
theorem DnI.done {f:Nat→Lb} {n i:Nat} (h:DnI f n i) (hd:∀ k,0 < k→k < n→par k=i→leL (f i) (f k)):HO f n:=by
 intro k h0 hk
 by_cases hkj:par k=i
 ·rw [hkj];exact hd k h0 hk hkj
 ·exact h.rest k h0 hk hkj
theorem HO.min {f:Nat→Lb} {n:Nat} (h:HO f n):∀ k,k < n→leL (f 0) (f k):=by
 intro k
 induction k using Nat.strongRecOn with
 | ind k ih=>
  intro hk
  by_cases h0:k=0
  ·subst h0;exact leL_refl _
  ·have hp:par k < k:=by unfold par;omega
   exact leL_trans (ih (par k) hp (by omega)) (h k (by omega) hk)
def fA (l:List Lb):Nat→Lb:=fun k=>l.getD k zl
def swL (l:List Lb) (i j:Nat):List Lb:=(l.set i (fA l j)).set j (fA l i)
theorem swL_len (l:List Lb) (i j:Nat):(swL l i j).length=l.length:=by simp [swL]
theorem fA_get {l:List Lb} {k:Nat} (h:k < l.length):fA l k=l[k]:=by simp [fA,List.getD,h]
theorem fA_sw {l:List Lb} {i j:Nat} (_hi:i < l.length) (_hj:j < l.length):∀ k,k < l.length→fA (swL l i j) k=swF (fA l) i j k:=by
 intro k hk
 rw [fA_get (by rw [swL_len];exact hk)]
 unfold swF swL
 rw [List.getElem_set]
 by_cases h1:j=k
 ·subst h1
  rw [if_pos rfl]
  by_cases h2:j=i
  ·subst h2;rw [if_pos rfl]
  ·rw [if_neg h2,if_pos rfl]
 ·rw [if_neg h1,List.getElem_set]
  by_cases h2:i=k
  ·subst h2;rw [if_pos rfl,if_pos rfl]
  ·rw [if_neg h2,if_neg (fun e=>h2 e.symm),if_neg (fun e=>h1 e.symm),fA_get hk]
theorem swL_perm (l:List Lb) (i j:Nat) (hi:i < l.length) (hj:j < l.length):(swL l i j).Perm l:=by
 unfold swL
 rw [fA_get hi,fA_get hj]
 exact List.set_set_perm hi hj
theorem HO.congr {f g:Nat→Lb} {n:Nat} (h:HO f n) (e:∀ k,k < n→f k=g k):HO g n:=by
 intro k h0 hk
 rw [← e k hk,← e (par k) (by unfold par;omega)]
 exact h k h0 hk
theorem UpI.congr {f g:Nat→Lb} {n j:Nat} (h:UpI f n j) (e:∀ k,k < n→f k=g k) (_hj:j < n):UpI g n j:=by
 refine ⟨fun k h0 hk hne=>?_,fun k h0 hk hp h1=>?_⟩
 ·rw [← e k hk,← e (par k) (by unfold par;omega)];exact h.rest k h0 hk hne
 ·rw [← e k hk,← e (par j) (by unfold par;omega)];exact h.over k h0 hk hp h1
theorem DnI.congr {f g:Nat→Lb} {n i:Nat} (h:DnI f n i) (e:∀ k,k < n→f k=g k) (_hi:i < n∨n=0):DnI g n i:=by
 refine ⟨fun k h0 hk hne=>?_,fun k h0 hk hp h1=>?_⟩
 ·rw [← e k hk,← e (par k) (by unfold par;omega)];exact h.rest k h0 hk hne
 ·rw [← e k hk,← e (par i) (by unfold par;omega)];exact h.over k h0 hk hp h1
section
open Go.RowKit Go.Maps
theorem m_push (q : Nat) (w : World) : (Go.method 470 109 (.pointer (some ⟨q, 0, none⟩)) "Push").run Tryz.prog w = .ok (320, .pointer (some ⟨q, 0, none⟩)) w := by kernel_rfl
theorem m_pop (q : Nat) (w : World) : (Go.method 470 109 (.pointer (some ⟨q, 0, none⟩)) "Pop").run Tryz.prog w = .ok (319, .pointer (some ⟨q, 0, none⟩)) w := by kernel_rfl
theorem ld73 (q:Nat) (v:Value) (w:World) (h:w.cell? ⟨q,0,none⟩=some v):(loadVar 107 ⟨q,0,none⟩).run Tryz.prog w=.ok v w:=by
 have h73:=Tryz.isAgg107
 go_simp
theorem meth_of (name : String) (f : FuncId) (hm : (Tryz.prog.info? 109).map (fun i => (i.methods.find? (fun m => m.name == name)).map (fun m => (m.path, m.func))) = some (some (#[], some (f, false)))) (q : Nat) (v : Value) (w : World) (hw : (Builtin.ssaWrapNilChk_ #[109] 109 #[.pointer (some ⟨q, 0, none⟩), strVal "", strVal ((name.splitOn ".").getLastD name)]).run Tryz.prog w = .ok (.pointer (some ⟨q, 0, none⟩)) w) (h : w.cell? ⟨q, 0, none⟩ = some v) :
  (Go.method 470 109 (.pointer (some ⟨q,0,none⟩)) name).run Tryz.prog w=.ok (f,v) w:=by
 obtain ⟨i,hi,hm⟩:=Option.map_eq_some_iff.1 hm
 obtain ⟨m,hm1,hm2⟩:=Option.map_eq_some_iff.1 hm
 simp only [Prod.mk.injEq] at hm2
 obtain ⟨hp,hf⟩:=hm2
 have h75:Tryz.prog.underlying 109=some (.pointer 107):=by kernel_rfl
 have hl:=ld73 q v w h
 unfold Go.method
 simp [typeInfo,hi,hm1,hp,hf,Go.follow,Go.receiverAt,Go.Place.get,run_underlying h75,asAddr]
 rw [List.getLastD_eq_getLast?] at hw
 rw [hw]
 simp [hl]
theorem m_len (q : Nat) (v : Value) (w : World) (h : w.cell? ⟨q, 0, none⟩ = some v) : (Go.method 470 109 (.pointer (some ⟨q, 0, none⟩)) "Len").run Tryz.prog w = .ok (316, v) w := meth_of "Len" 316 (by kernel_rfl) q v w (by kernel_rfl) h
theorem m_less (q : Nat) (v : Value) (w : World) (h : w.cell? ⟨q, 0, none⟩ = some v) : (Go.method 470 109 (.pointer (some ⟨q, 0, none⟩)) "Less").run Tryz.prog w = .ok (317, v) w := meth_of "Less" 317 (by kernel_rfl) q v w (by kernel_rfl) h
theorem m_swap (q : Nat) (v : Value) (w : World) (h : w.cell? ⟨q, 0, none⟩ = some v) : (Go.method 470 109 (.pointer (some ⟨q, 0, none⟩)) "Swap").run Tryz.prog w = .ok (318, v) w := meth_of "Swap" 318 (by kernel_rfl) q v w (by kernel_rfl) h
theorem und107:Tryz.prog.underlying 107=some (.slice 27):=by kernel_rfl
def OwnQ (G:Nat→Prop) (w:World) (v:Value) (l:List Lb):Prop:=OwnL 0 w v l∧∀ k,v.ownBlock=some k→G k
def NewG (G:Nat→Prop) (w:World):Prop:=∀ k,w.heap.size≤k→G k
theorem NewG.mono {G:Nat→Prop} {w w':World} (h:NewG G w) (hs:w.heap.size≤w'.heap.size):NewG G w':=fun k hk=>h k (Nat.le_trans hs hk)
theorem OwnQ.later {G:Nat→Prop} {w w':World} {v:Value} {l:List Lb} (h:OwnQ G w v l) (hb:Below w.heap.size w w'):OwnQ G w' v l:=⟨h.1.later hb,h.2⟩
def QB (G:Nat→Prop) (w:World) (q:Nat) (l:List Lb):Prop:=∃ v,Boxed w q 107 v∧OwnQ G w v l
theorem QB.later {G:Nat→Prop} {q:Nat} {w w':World} {l:List Lb} (h:QB G w q l) (hb:Below w.heap.size w w'):QB G w' q l:=by
 obtain ⟨v,h1,h2⟩:=h
 exact ⟨v,(hb.block q h1.lt).trans h1,h2.later hb⟩
theorem qlen_any (w:World) (a:Option Addr) (n c:Nat):Calls Tryz.prog 316 #[.slice a n c] w fun e w'=>e=.returned (.int .i64 n)∧w'=w:=by
 go_enter Tryz.func316,Tryz.ntmps316
 go_wp2_with fail
 go_ret
 exact ⟨rfl,rfl⟩
theorem qless_any {w:World} {v:Value} {l:List Lb} (h:LS w v l) (hu:∀ x∈l,Lu x) (i j:Nat) (hi:i < l.length) (hj:j < l.length) :
  Calls Tryz.prog 317 #[v,.int .i64 (i:Int),.int .i64 (j:Int)] w fun e w'=>e=.returned (.bool (ltL (fA l i) (fA l j)))∧Below w.heap.size w w':=by
 obtain ⟨a,c,rfl,hf⟩:=h.form
 obtain ⟨b,off,ea,hb,c0,c1⟩:=hf i hi
 obtain ⟨b',off',ea',hb',d0,d1⟩:=hf j hj
 rw [ea] at ea'
 injection ea' with ea'
 injection ea' with e1 e2 _
 subst e1 e2 ea
 have HI:Hid (l[i]=fA l i∧l[j]=fA l j∧Lu (fA l i)∧Lu (fA l j)):=⟨(fA_get hi).symm,(fA_get hj).symm,by rw [fA_get hi];exact hu _ (List.getElem_mem hi),by rw [fA_get hj];exact hu _ (List.getElem_mem hj)⟩
 rw [HI.out.1] at c0 c1
 rw [HI.out.2.1] at d0 d1
 have HR:Hid (∀ W:World,Calls Tryz.prog 87 #[(fA l i).val,(fA l j).val] W fun e w'=>e=.returned (.int .i64 (cmpL (fA l i) (fA l j)))∧Below W.heap.size W w'):=fun W=>(rising_any _ _ W HI.out.2.2.1.lm HI.out.2.2.2.lm).mono fun e w' ⟨h1,h2⟩=>⟨h1,h2.below⟩
 obtain ⟨n,hn⟩:∃ n,l.length=n:=⟨_,rfl⟩
 rw [hn] at hi hj ⊢
 clear hf h hu hn
 unfold ltL
 generalize cmpL (fA l i) (fA l j)=o at *
 generalize fA l i=x at *
 generalize fA l j=y at *
 obtain ⟨p,m⟩:=x
 obtain ⟨q,r⟩:=y
 simp only [Lb.val] at c0 c1 d0 d1 HR
 have k1:(0:Int)≤(i:Int):=by omega
 have k2:(i:Int) < (n:Int):=by omega
 have k3:(0:Int)≤(j:Int):=by omega
 have k4:(j:Int) < (n:Int):=by omega
 have y0:∀ X:GW w,X.it.cell? ⟨b,off+i * 2,none⟩=some (.string (bs p)):=fun X=>X.cell (p:=⟨b,off+i * 2,none⟩) hb c0
 have y1:∀ X:GW w,X.it.cell? ⟨b,off+i * 2+1,none⟩=some (.string (bs m)):=fun X=>X.cell (p:=⟨b,off+i * 2+1,none⟩) hb c1
 have z0:∀ X:GW w,X.it.cell? ⟨b,off+j * 2,none⟩=some (.string (bs q)):=fun X=>X.cell (p:=⟨b,off+j * 2,none⟩) hb d0
 have z1:∀ X:GW w,X.it.cell? ⟨b,off+j * 2+1,none⟩=some (.string (bs r)):=fun X=>X.cell (p:=⟨b,off+j * 2+1,none⟩) hb d1
 have xne:=gw_ne w
 have HC:Hid (∀ X:GW w,Calls Tryz.prog 87 #[.agg #[.string (bs p),.string (bs m)],.agg #[.string (bs q),.string (bs r)]] X.it fun e w'=>e=.returned (.int .i64 o)∧∃ Y:GW w,w'=Y.it):=fun X=>gw_of HR.out X
 clear c0 c1 d0 d1 HI
 go_enter Tryz.func317,Tryz.ntmps317
 go_wp2_with fail
 refine wp_region_grow (by kernel_rfl) (by kernel_rfl) ?_
 repeat (go_big_quiet_step (fail))
 go_big_quiet_step (exact HC.out _)
 repeat (go_big_quiet_step (fail))
 refine wpQuiet_nil ?_
 rintro w2 ⟨⟨w2,bx⟩,rfl⟩
 have HB5:Hid (Below w.heap.size w w2):=bx
 clear bx y0 y1 z0 z1
 go_wp2_with fail
 go_ret
 exact ⟨rfl,HB5.out⟩
end
section
open Go.RowKit Go.Maps
theorem qswap_ne {base:Nat} {w:World} {g cap:Nat} {l:List Lb} {rest:List Value} (h:OL base w g cap l rest) (i j:Nat) (hi:i < l.length) (hj:j < l.length) (hne:i≠j) :
  Calls Tryz.prog 318 #[.slice (some ⟨g,0,none⟩) l.length cap,.int .i64 (i:Int),.int .i64 (j:Int)] w fun e w'=>e=.returned (.tuple #[])∧OL base w' g cap (swL l i j) rest∧Only [g] w w':=by
 obtain ⟨c0,c1⟩:=h.cell hi
 obtain ⟨d0,d1⟩:=h.cell hj
 have f0:=h.soft (i * 2)
 have f1:=h.soft (i * 2+1)
 have g0:=h.soft (j * 2)
 have g1:=h.soft (j * 2+1)
 rw [← fA_get hi] at c0 c1
 rw [← fA_get hj] at d0 d1
 have H:Hid (OL base w g cap l rest∧i < l.length∧j < l.length∧i≠j):=⟨h,hi,hj,hne⟩
 obtain ⟨n,hn⟩:∃ n,l.length=n:=⟨_,rfl⟩
 rw [hn] at hi hj ⊢
 have HX:Hid (swL l i j=(l.set i (fA l j)).set j (fA l i)):=rfl
 clear h hn
 generalize swL l i j=S at *
 generalize fA l i=x at *
 generalize fA l j=y at *
 obtain ⟨p,m⟩:=x
 obtain ⟨q,r⟩:=y
 simp only at c0 c1 d0 d1
 have k1:(0:Int)≤(i:Int):=by omega
 have k2:(i:Int) < (n:Int):=by omega
 have k3:(0:Int)≤(j:Int):=by omega
 have k4:(j:Int) < (n:Int):=by omega
 have HA:Hid (OL base ((((w.setCell ⟨g,i * 2,none⟩ (.string (bs q))).setCell ⟨g,i * 2+1,none⟩ (.string (bs r))).setCell ⟨g,j * 2,none⟩ (.string (bs p))).setCell ⟨g,j * 2+1,none⟩ (.string (bs m))) g cap S rest):=by
  rw [HX.out]
  exact (H.out.1.set H.out.2.1 ⟨q,r⟩).set (by simpa using H.out.2.2.1) ⟨p,m⟩
 have HB:Hid (OL base ((((w.setCell ⟨g,j * 2,none⟩ (.string (bs p))).setCell ⟨g,j * 2+1,none⟩ (.string (bs m))).setCell ⟨g,i * 2,none⟩ (.string (bs q))).setCell ⟨g,i * 2+1,none⟩ (.string (bs r))) g cap S rest):=by
  rw [HX.out,List.set_comm _ _ H.out.2.2.2]
  exact (H.out.1.set H.out.2.2.1 ⟨p,m⟩).set (by simpa using H.out.2.1) ⟨q,r⟩
 go_enter Tryz.func318,Tryz.ntmps318
 go_wp2_with fail
 go_region
 go_end0
 refine ⟨rfl,⟨HA.out.blk,HA.out.ge,HA.out.cm,HA.out.sz⟩,?_⟩
 exact ((only_set2 w g _ _ _ _).trans (only_set2 _ g _ _ _ _)).trans (Only.drew _ _ 1)
theorem qswap_eq {base:Nat} {w:World} {g cap:Nat} {l:List Lb} {rest:List Value} (h:OL base w g cap l rest) (i:Nat) (hi:i < l.length) :
  Calls Tryz.prog 318 #[.slice (some ⟨g,0,none⟩) l.length cap,.int .i64 (i:Int),.int .i64 (i:Int)] w fun e w'=>e=.returned (.tuple #[])∧OL base w' g cap (swL l i i) rest∧Only [g] w w':=by
 obtain ⟨c0,c1⟩:=h.cell hi
 have f0:=h.soft (i * 2)
 have f1:=h.soft (i * 2+1)
 rw [← fA_get hi] at c0 c1
 have H:Hid (OL base w g cap l rest∧i < l.length):=⟨h,hi⟩
 obtain ⟨n,hn⟩:∃ n,l.length=n:=⟨_,rfl⟩
 rw [hn] at hi ⊢
 have HX:Hid (swL l i i=(l.set i (fA l i)).set i (fA l i)):=rfl
 clear h hn
 generalize swL l i i=S at *
 generalize fA l i=x at *
 obtain ⟨p,m⟩:=x
 simp only at c0 c1
 have k1:(0:Int)≤(i:Int):=by omega
 have k2:(i:Int) < (n:Int):=by omega
 have HA:Hid (OL base ((((w.setCell ⟨g,i * 2,none⟩ (.string (bs p))).setCell ⟨g,i * 2+1,none⟩ (.string (bs m))).setCell ⟨g,i * 2,none⟩ (.string (bs p))).setCell ⟨g,i * 2+1,none⟩ (.string (bs m))) g cap S rest):=by
  rw [HX.out]
  exact (H.out.1.set H.out.2 ⟨p,m⟩).set (by simpa using H.out.2) ⟨p,m⟩
 go_enter Tryz.func318,Tryz.ntmps318
 go_wp2_with fail
 go_region
 go_end0
 refine ⟨rfl,⟨HA.out.blk,HA.out.ge,HA.out.cm,HA.out.sz⟩,?_⟩
 exact ((only_set2 w g _ _ _ _).trans (only_set2 _ g _ _ _ _)).trans (Only.drew _ _ 1)
theorem qswap_any {base:Nat} {w:World} {v:Value} {l:List Lb} (h:OwnL base w v l) (i j:Nat) (hi:i < l.length) (hj:j < l.length) :
  Calls Tryz.prog 318 #[v,.int .i64 (i:Int),.int .i64 (j:Int)] w fun e w'=>e=.returned (.tuple #[])∧OwnL base w' v (swL l i j)∧Only (bl v) w w':=by
 rcases OL.of h with ⟨_,rfl⟩ | ⟨g,cap,rest,rfl,ho⟩
 ·simp at hi
 ·have hfin:∀ w',OL base w' g cap (swL l i j) rest→OwnL base w' (.slice (some ⟨g,0,none⟩) l.length cap) (swL l i j):=by
   intro w' h1
   have:=h1.own
   rw [swL_len] at this
   exact this
  by_cases e:i=j
  ·subst e
   exact (qswap_eq ho i hi).mono fun e w' ⟨h1,h2,h3⟩=>⟨h1,hfin w' h2,h3⟩
  ·exact (qswap_ne ho i j hi hj e).mono fun e w' ⟨h1,h2,h3⟩=>⟨h1,hfin w' h2,h3⟩
end
section
open Go.RowKit Go.Maps
abbrev QX (q:Nat) (G:Nat→Prop) (w w':World):Prop:=OnlyP (fun k=>k=q∨G k) w w'
theorem QX.of {q:Nat} {G:Nat→Prop} {w w':World} (h:Below w.heap.size w w'):QX q G w w':=OnlyP.of_below h _
theorem QX.trans {q:Nat} {G:Nat→Prop} {a b c:World} (h:QX q G a b) (k:QX q G b c):QX q G a c:=OnlyP.trans h k (fun _ _ e=>e)
theorem QX.own {q:Nat} {G:Nat→Prop} {w w':World} {v:Value} {l:List Lb} (h:OwnQ G w v l) (ho:Only (bl v) w w'):QX q G w w':=
 OnlyP.of_only ho (fun k hk _=>.inr (h.2 k (show v.ownBlock=some k by unfold bl at hk;simpa using hk)))
theorem QX.set {q:Nat} {G:Nat→Prop} {w w':World} (h:QX q G w w') (v:Value):QX q G w (w'.setCell ⟨q,0,none⟩ v):=
 QX.trans h (OnlyP.of_only (Only.set w' q 0 v) (fun k hk _=>.inl (by simpa using hk)))
theorem ta31 (p n:List UInt8) (w:World):(Instr.typeAssert (.iface 27 (.agg #[.string (bs p),.string (bs n)])) 20 27 false).run Tryz.prog w=.ok (.agg #[.string (bs p),.string (bs n)]) w:=by kernel_rfl
theorem box_ne {base:Nat} {w:World} {v u:Value} {l:List Lb} {q:Nat} (ho:OwnL base w v l) (hb:Boxed w q 107 u):v.ownBlock≠some q:=by
 intro e
 rcases OL.of ho with ⟨e2,_⟩ | ⟨g,cap,rest,e2,hol⟩
 ·rw [e2] at e;cases e
 ·rw [e2] at e
  simp only [Value.ownBlock,Option.some.injEq] at e
  subst e
  have:=hol.blk.symm.trans hb
  injection this with this
  injection this with _ this _
  exact absurd this (by decide)
theorem box_kept {base:Nat} {w w3:World} {v u:Value} {l:List Lb} {q:Nat} {o:Obj} (hb:Boxed w q 107 u) (ho:OwnL base w v l) (hg:(w.alloc o).drew.grownBy w3 v.ownBlock):Boxed w3 q 107 u:=
 (hg.block q (by have:=hb.lt;simp;omega) (fun e=>box_ne ho hb e.symm)).trans ((heap_alloc_old w o hb.lt).trans hb)
theorem own_box {base:Nat} {w:World} {v u v':Value} {l:List Lb} {q:Nat} (ho:OwnL base w v l) (hb:Boxed w q 107 u):OwnL base (w.setCell ⟨q,0,none⟩ v') v l:=
 ho.only (Only.set w q 0 v') (fun k hk hm=>by have e:k=q:=(by simpa using hm);exact box_ne ho hb (by rw [hk,e]))
theorem qpush_any {G:Nat→Prop} {w:World} {q:Nat} {l:List Lb} (h:QB G w q l) (hbase:NewG G w) (hl:l.length+1≤2000000) (a:Lb) :
  Calls Tryz.prog 320 #[.pointer (some ⟨q,0,none⟩),.iface 27 a.val] w fun e w'=>e=.returned (.tuple #[])∧QB G w' q (l++[a])∧QX q G w w':=by
 obtain ⟨v,hv,ho,hG⟩:=h
 have hc:=hv.cell
 have hf:=hv.frozen
 obtain ⟨av,cv,hvv⟩:=ho.form
 obtain ⟨n,hn⟩:∃ n,l.length=n:=⟨_,rfl⟩
 rw [hn] at hvv
 subst hvv
 have H:Hid (Boxed w q 107 (.slice av n cv)∧OwnL 0 w (.slice av n cv) l∧(∀ k,(Value.slice av n cv).ownBlock=some k→G k)∧NewG G w∧l.length+1≤2000000):=⟨hv,ho,hG,hbase,hl⟩
 clear hv ho hG hbase hl hn
 obtain ⟨p,m⟩:=a
 have hta:=ta31 p m
 have hca:=cell_alloc (.cells #[.string (bs p),.string (bs m)] 27) H.out.1.lt hc
 simp only [Lb.val]
 go_enter Tryz.func320,Tryz.ntmps320
 go_wp2_with fail
 go_region_law (refine step_app_L und107 rfl (.tmp 7) (.tmp 10) rfl 0 l [⟨p,m⟩] (.slice av n cv) _ rfl rfl (own_d H.out.2.1 _) (src_Ld und107 w ⟨p,m⟩) (by have:=H.out.2.2.2.2;simp;omega) (Nat.zero_le _) ?_;intro v' w3 ho3 hg3 hl3;have HL3:Hid (v'.ownBlock=(Value.slice av n cv).ownBlock∨v'.ownBlock=some (w.alloc (.cells #[.string (bs p),.string (bs m)] 27)).drew.heap.size):=hl3;clear hl3;obtain ⟨av',cv',hvv'⟩:=ho3.form;subst hvv';have hb3:Boxed w3 q 107 (.slice av n cv):=box_kept H.out.1 H.out.2.1 hg3;have hc3:=hb3.cell;have hf3:=hb3.frozen)
 all_goals go_end0
 all_goals have hB3:QX q G w w3:=⟨hg3.os,hg3.tape,hg3.output,by have:=hg3.size;simp at this;omega,fun k hk hn=>(hg3.block k (by simp;omega) (fun e=>hn (.inr (H.out.2.2.1 k e.symm)))).trans (heap_alloc_old w _ hk)⟩
 all_goals have hG3:=fun k (hk:(Value.slice av' (l++[(⟨p,m⟩:Lb)]).length cv').ownBlock=some k)=>(show G k from by
  rcases HL3.out with e | e
  ·exact H.out.2.2.1 k (by rw [← e];exact hk)
  ·rw [e] at hk
   simp only [Option.some.injEq] at hk
   rw [← hk];exact H.out.2.2.2.1 _ (by simp))
 all_goals rw [show (l++[(⟨p,m⟩:Lb)]).length=l.length+1 by simp] at ho3 hG3
 all_goals exact ⟨rfl,⟨_,hb3.set _,own_box ho3 hb3,hG3⟩,QX.set hB3 _⟩
theorem slice_73 (g n cap:Nat) (k:Nat) (hk:k≤n) (hn:n≤cap) (hc:cap≠0) (W:World):(Instr.slice 107 (.slice (some ⟨g,0,none⟩) n cap) none (some (.int .i64 (k:Int))) none).run Tryz.prog W=.ok (.slice (some ⟨g,0,none⟩) k cap) W:=by
 have e73:Tryz.prog.underlying 107=some (.slice (Tryz.prog.elem 107)):=by kernel_rfl
 have el73:Tryz.prog.elem 107=27:=by kernel_rfl
 rw [run_slice_h (P:=Tryz.prog) (w:=W) 107 _ n cap e73 .i64 (k:Int) (by omega) (by omega),el73,Tryz.sizeOf27]
 simp only [Result.andThen_ok,sliced,Int.toNat_natCast,Option.map_some,Addr.add_lit]
 rw [if_neg hc]
 simp
theorem qpop_any {G:Nat→Prop} {w:World} {q:Nat} {l:List Lb} (h:QB G w q l) (hl:l.length≤2000000) (hne:0 < l.length) :
  Calls Tryz.prog 319 #[.pointer (some ⟨q,0,none⟩)] w fun e w'=>(∃ x,e=.returned x)∧QB G w' q (l.take (l.length - 1))∧QX q G w w':=by
 obtain ⟨v,hv,ho,hG⟩:=h
 have hc:=hv.cell
 have hf:=hv.frozen
 rcases OL.of ho with ⟨_,e⟩ | ⟨g,cap,rest,rfl,hol⟩
 ·rw [e] at hne;simp at hne
 ·obtain ⟨m,hm⟩:∃ m,l.length=m+1:=⟨l.length - 1,by omega⟩
  have hml:m < l.length:=by omega
  obtain ⟨c0,c1⟩:=hol.cell hml
  have hcl:=hol.len
  have hcm:=hol.cm
  unfold maxLen at hcm
  have hsl:=slice_73 g (m+1) cap m (by omega) (by omega) (by omega)
  have H:Hid (Boxed w q 107 (.slice (some ⟨g,0,none⟩) (m+1) cap)∧OL 0 w g cap l rest∧G g∧l.length=m+1):=⟨by rw [← hm];exact hv,hol,hG g rfl,hm⟩
  rw [hm] at hc hl hcl
  generalize l[m]=x at c0 c1
  obtain ⟨p,n⟩:=x
  simp only at c0 c1
  have hca:=cell_alloc (.cells #[.string (bs p),.string (bs n)] 27) H.out.1.lt hc
  have hfa:(w.alloc (.cells #[.string (bs p),.string (bs n)] 27)).frozen? ⟨q,0,none⟩=false:=(H.out.1.alloc _).frozen
  have k1:(m:Int) < (m:Int)+1:=by omega
  have hRX:RB ((w.alloc (.cells #[.string (bs p),.string (bs n)] 27)).setCell ⟨q,0,none⟩ (.slice (some ⟨g,0,none⟩) m cap)) w.heap.size ⟨p,n⟩:=⟨((Only.set (w.alloc (.cells #[.string (bs p),.string (bs n)] 27)) q 0 (.slice (some ⟨g,0,none⟩) m cap)).block w.heap.size (by simp) (by have:=H.out.1.lt;simp;omega)).trans (RB.new w ⟨p,n⟩).blk⟩
  obtain ⟨x0,x1,_,_⟩:=hRX.cells
  simp only at x0 x1
  clear hRX
  rw [hm,show m+1 - 1=m by omega]
  clear hv ho hG hne hml hm hol
  go_enter Tryz.func319,Tryz.ntmps319
  go_wp2_with fail
  go_ret
  have hb1:Boxed (w.alloc (.cells #[.string (bs p),.string (bs n)] 27)) q 107 (.slice (some ⟨g,0,none⟩) (m+1) cap):=H.out.1.alloc _
  have hB:QX q G w (w.alloc (.cells #[.string (bs p),.string (bs n)] 27)):=QX.of (balloc _ _)
  have ho2:OwnL 0 (w.alloc (.cells #[.string (bs p),.string (bs n)] 27)) (.slice (some ⟨g,0,none⟩) m cap) (l.take m):=by
   have h1:OL 0 (w.alloc (.cells #[.string (bs p),.string (bs n)] 27)) g cap (l.take m++l.drop m) rest:=by rw [List.take_append_drop];exact H.out.2.1.later (balloc _ _)
   have h2:=h1.split.own
   rw [List.length_take,Nat.min_eq_left (by have:=H.out.2.2.2;omega)] at h2
   exact h2
  exact ⟨⟨_,rfl⟩,⟨_,hb1.set _,own_box ho2 hb1,fun k hk=>by cases hk;exact H.out.2.2.1⟩,QX.set hB _⟩
end
end Go.Proofs.YtppnbdnpapellaaGreatDoor
