import Derived.Test.YtppnbdnpapellaaGreatDoorJCh
import Derived.Test.YtppnbdnpapellaaGreatDoorJMShelf
set_option maxRecDepth 100000
set_option maxHeartbeats 16000000
namespace Go.Proofs.YtppnbdnpapellaaGreatDoor
section
open Go.RowKit Go.Maps
theorem bread_known {w0 w:World} {R:Nat→Prop} {r:Nat} {c:List (List UInt8)} {l:List Fl} (H:RX w0 w R r l c) (E0:Ev w0) (sm:FQ l) (hc:c.length≤1000000000) (p:List UInt8) (hp:p.length≤400000000) (hpc:p∈c) :
  Calls Tryz.prog 89 #[.pointer (some ⟨r,0,none⟩),.string (bs p)] w fun e w'=>∃ x,e=.returned (shV x)∧x.2=(says l p).2∧GIn R w' (sv x.1) (says l p).1∧Below w.heap.size w w':=by
 have hq:=whl_le p wName
 have hqn:wName.length=7:=rfl
 have HBL:Hid (∀ W:World,Calls Tryz.prog 92 #[.string (bs p),.string { data:=#[84,65,82,71,69,84,83] }] W fun e w'=>e=.returned (.string (bs (whl p wName)))∧w'=W):=fun W=>bbelow_any p wName W (by omega) (by omega)
 obtain ⟨fv,mb,F,cnt,hr,hfs,hms,hcnt,hne,hRr,hRm,hsh⟩:=H.it
 obtain ⟨q,hqe⟩:∃ q,whl p wName=q:=⟨_,rfl⟩
 have HQ:Hid (whl p wName=q∧q.length≤400000008):=⟨hqe,by rw [hqe] at hq;omega⟩
 rw [hqe] at HBL
 have hrl:=(H.rlo r hRr).2
 have hml:=(H.rlo mb hRm).2
 have r0:w.cell? ⟨r,0,none⟩=some fv:=by simp [World.cell?,hr]
 have r1:w.cell? ⟨r,1,none⟩=some (.map (some mb)):=by simp [World.cell?,hr]
 obtain ⟨fa,fn,fc,hfv⟩:∃ a n c,fv=.slice a n c:=by obtain ⟨a,c,e,_⟩:=hfs.form;exact ⟨a,_,c,e⟩
 subst hfv
 have HR:Hid (w.heap[r]? = some (.cells #[.slice fa fn fc,.map (some mb)] 66 (0,0))):=hr
 have HX:Hid (RX w0 w R r l c∧Ev w0∧FQ l∧c.length≤1000000000∧FS w0 (.slice fa fn fc) l∧MS w mb F cnt∧cnt≤c.length∧r≠mb∧R r∧R mb∧(∀ k x,F k=some x→∃ p,k=whl p wName∧x.2=(says l p).2∧GIn (fun j=>R j∧j≠mb) w (sv x.1) (says l p).1)∧∀ k,(F k).isSome=true↔∃ p,p∈c∧k=whl p wName):=⟨H,E0,sm,hc,hfs,hms,hcnt,hne,hRr,hRm,hsh⟩
 have HLK:Hid (∀ W,Below w.heap.size w W→(Instr.lookup 64 (.map (some mb)) (.string (bs q)) true).run Tryz.prog W=.ok (.tuple #[shV ((F q).getD (none,0)),.bool (F q).isSome]) W):=fun W hW=>(hms.later hW).look (by have:=HQ.out.2;omega)
 clear H E0 sm hc hfs hms hcnt hsh hqe hq hqn hr
 have W1r0:=cell_alloc (.cells #[.slice none 0 0,.int .i64 0] 136) hrl r0
 have W1r1:=cell_alloc (.cells #[.slice none 0 0,.int .i64 0] 136) hrl r1
 have hlk:=HLK.out _ (balloc w (.cells #[.slice none 0 0,.int .i64 0] 136))
 cases hF:F q with
 | some x=>
  obtain ⟨y,k⟩:=x
  obtain ⟨ya,yn,yc,hy⟩:=sv_form y
  rw [hF] at hlk
  simp only [Option.getD_some,Option.isSome_some,shV,hy] at hlk
  go_enter Tryz.func89,Tryz.ntmps89
  go_wp2_with fail
  refine (HBL.out _).mono ?_
  rintro e w1 ⟨rfl,rfl⟩
  go_wp2_with fail
  have hb:Below w.heap.size w ((w.alloc (.cells #[.slice ya yn yc,.int .i64 k] 136)).alloc (.cells #[.slice ya yn yc,.int .i64 k] 136)):=bstep (balloc _ _) (balloc _ _)
  refine bodyPost_ret (results_cell_row rfl _ _ w.heap.size 136 #[.slice ya yn yc,.int .i64 k] (0,0) _ rfl (((balloc (w.alloc (.cells #[.slice ya yn yc,.int .i64 k] 136)) _).block w.heap.size (by simp)).trans (heap_alloc_new _ _)) Tryz.underlying136 rfl (by kernel_rfl)) rfl ?_
  obtain ⟨p',e1,e2,e3⟩:=HX.out.2.2.2.2.2.2.2.2.2.2.1 q (y,k) hF
  obtain rfl:p'=p:=whl_inj (e1.symm.trans HQ.out.1.symm)
  exact ⟨(y,k),by unfold shV;rw [hy],e2,e3.keep (fun j hj=>hb.block j (HX.out.1.rlo j hj.1).2) (fun j hj=>hj.1),hb⟩
 | none=>
  exfalso
  have h:=(HX.out.2.2.2.2.2.2.2.2.2.2.2 q).2 ⟨p,hpc,HQ.out.1.symm⟩
  rw [hF] at h
  cases h
def TgtK (w:World) (R:Nat→Prop) (l:List Fl) (a:Lb) (e:Ending) (w':World):Prop:=∃ t,e=.returned (.tuple #[t.val,.bool (tgtL l a).isSome])∧TIn R w' t ((tgtL l a).getD zT)∧Below w.heap.size w w'
theorem btarget_known {w0 w:World} {R:Nat→Prop} {r:Nat} {c:List (List UInt8)} {l:List Fl} (H:RX w0 w R r l c) (E0:Ev w0) (sm:FQ l) (hc:c.length≤1000000000) (a:Lb) (ha:a.pkg.length≤400000000) (hpc:a.pkg∈c) :
  Calls Tryz.prog 54 #[.pointer (some ⟨r,0,none⟩),a.val] w (TgtK w R l a):=by
 obtain ⟨p,n⟩:=a
 show Calls Tryz.prog 54 #[.pointer (some ⟨r,0,none⟩),.agg #[.string (bs p),.string (bs n)]] w _
 simp only at ha hpc
 have hb2:Below w.heap.size w ((w.alloc (.cells #[.string (bs p),.string (bs n)] 27)).alloc (.cells #[.string { data:=#[] },.slice none 0 0,.slice none 0 0,.slice none 0 0] 95)):=bstep (balloc _ _) (balloc _ _)
 have HRD:=hid_of (bread_known (H.later hb2) E0 sm hc p ha hpc)
 have HX:Hid (RX w0 w R r l c):=H
 have HZ:Hid (TB ((w.alloc (.cells #[.string (bs p),.string (bs n)] 27)).alloc (.cells #[.string { data:=#[] },.slice none 0 0,.slice none 0 0,.slice none 0 0] 95)) (w.heap.size+1) zTv∧RB ((w.alloc (.cells #[.string (bs p),.string (bs n)] 27)).alloc (.cells #[.string { data:=#[] },.slice none 0 0,.slice none 0 0,.slice none 0 0] 95)) w.heap.size ⟨p,n⟩):=by
  have hz:(w.alloc (.cells #[.string (bs p),.string (bs n)] 27)).heap.size=w.heap.size+1:=by simp
  have h1:=TB.new (w.alloc (.cells #[.string (bs p),.string (bs n)] 27)) zTv
  rw [hz] at h1
  exact ⟨h1,(RB.new w ⟨p,n⟩).later (balloc _ _)⟩
 obtain ⟨W2,hW2⟩:∃ W2,(w.alloc (.cells #[.string (bs p),.string (bs n)] 27)).alloc (.cells #[.string { data:=#[] },.slice none 0 0,.slice none 0 0,.slice none 0 0] 95)=W2:=⟨_,rfl⟩
 have hz2:W2.heap.size=w.heap.size+2:=by rw [← hW2];simp
 rw [hW2] at HRD HZ hb2
 have HB2:Hid (Below w.heap.size w W2∧W2.heap.size=w.heap.size+2):=⟨hb2,hz2⟩
 obtain ⟨b0,b1,_,_⟩:=HZ.out.2.cells
 clear H E0 sm hc ha hb2 hz2
 go_enter Tryz.func54,Tryz.ntmps54
 go_upto_region 1 with fail
 try rw [hW2]
 clear hW2
 simp only at b0 b1
 go_wp2_with fail
 refine HRD.out.mono ?_
 rintro e w1 ⟨x,rfl,hx2,hgi,hbe⟩
 have hrx:RX w0 w1 R r l (p::c):=((HX.out.later HB2.out.1).later hbe).more hpc
 have hon:OnlyP R W2 w1:=OnlyP.of_below hbe R
 have hm1:∀ k,R k→R k:=fun k h=>h
 have hm2:∀ k,R k→R k∨W2.heap.size≤k:=fun k h=>.inl h
 have HBE:Hid (Below w.heap.size w w1):=bstep HB2.out.1 hbe
 clear hbe hpc
 obtain ⟨y,k0⟩:=x
 obtain ⟨ya,yn,yc,hy⟩:=sv_form y
 obtain ⟨base,wq,hgo,hin⟩:=hgi
 obtain ⟨tv,o1,o2,_⟩:=hgo.it
 simp only at o1
 have o1':OwnG base w1 (sv y) tv:=row_kept o1 (fun k hk=>by obtain ⟨q1,q2⟩:=World.ownsRow.lt o1 k hk;exact (hin k q1 q2).2)
 obtain ⟨a',c',e1⟩:=o1'.form
 have hmx:=row_max o1'
 rw [hy] at e1 o1'
 injection e1 with e1 e2 e3
 clear e1 e3 o1 hgo hx2
 have hlt:=o2.len
 obtain ⟨ts,hts⟩:∃ ts,(says l p).1=ts:=⟨_,rfl⟩
 rw [hts] at o2 hlt
 have HN:Hid (tv.length=yn∧ts.length=yn∧(says l p).1=ts∧GS w1 (.slice ya yn yc) tv∧TsOwn base wq tv ts∧∀ k,base≤k→k < wq.heap.size→R k∧w1.heap[k]? = wq.heap[k]?):=⟨e2.symm,by omega,hts,o1'.rs,o2,hin⟩
 have hnR:∀ k,w.heap.size≤k→¬ R k:=fun k hk hR=>by have:=(HX.out.rlo k hR).2;omega
 have H1:Hid (RX w0 w1 R r l (p::c)∧OnlyP R w w1∧(∀ k,R k→R k)∧(∀ k,R k→R k∨w.heap.size≤k)∧RB w1 w.heap.size ⟨p,n⟩∧TB w1 (w.heap.size+1) zTv∧¬ R (w.heap.size+1)):=by
  have hz:=HB2.out.2
  refine ⟨hrx,(OnlyP.of_below HB2.out.1 R).trans hon (fun i _ h=>h),hm1,fun k hk=>(hm2 k hk).imp id (fun h=>by omega),HZ.out.2.onlyP hon (hnR _ (Nat.le_refl _)),⟨(hon.block _ (by omega) (hnR _ (by omega))).trans HZ.out.1.blk⟩,fun hR=>?_⟩
  rcases hm2 _ hR with h | h
  ·exact hnR _ (by omega) h
  ·omega
 unfold maxLen at hmx
 rw [e2.symm] at hmx
 have hfl:=fldS
 have hsv:shV (y,k0)=.agg #[.slice ya yn yc,.int .i64 k0]:=by unfold shV;simp only [hy]
 rw [hsv]
 clear hsv
 clear hrx hon hm1 hm2 hin hts o1' o2 hlt e2 hy hnR HRD
 go_wp2_with fail
 go_loopw [14] (fun iv wr=>∃ i:Nat,i≤yn∧iv=.int .i64 i∧(∀ t∈ts.take i,t.name≠n)∧Below w1.heap.size w1 wr) (fun iv _=>yn - (intOf iv).toNat)
 case atStart=>exact ⟨0,by omega,rfl,by simp,Below.refl _ _⟩
 case round=>
  obtain ⟨i,hi0,rfl,hno,hb⟩:=hrel
  have X5:Hid ((∀ t∈ts.take i,t.name≠n)∧Below w1.heap.size w1 wr):=⟨hno,hb⟩
  clear hno hb
  by_cases hi:i < yn
  ·have i1:(i:Int) < (yn:Int):=by omega
   have i2:(0:Int)≤(i:Int):=by omega
   have hil:i < tv.length:=by rw [HN.out.1];exact hi
   have his:i < ts.length:=by rw [HN.out.2.1];exact hi
   obtain ⟨b,off,hya,hbl,c0,c1,c2,c3⟩:=HN.out.2.2.2.1.at X5.out.2 hil
   subst hya
   have HTO:Hid (TOwn base wq tv[i] ts[i]):=HN.out.2.2.2.2.1.at i hil his
   obtain ⟨t,ht⟩:∃ t,tv[i]=t:=⟨_,rfl⟩
   rw [ht] at c0 c1 c2 c3 HTO
   clear ht
   obtain ⟨tn,sa,sn,sc,da,dn,dc,ea,en,ec⟩:=t
   simp only at c0 c1 c2 c3
   have HBA:Hid (Below w1.heap.size w1 (wr.alloc (.cells #[.string (bs tn),.slice sa sn sc,.slice da dn dc,.slice ea en ec] 95))):=bstep X5.out.2 (balloc wr (.cells #[.string (bs tn),.slice sa sn sc,.slice da dn dc,.slice ea en ec] 95))
   obtain ⟨_,d1,_,_⟩:=(H1.out.2.2.2.2.1.later HBA.out).cells
   have HTB:Hid (TB (wr.alloc (.cells #[.string (bs tn),.slice sa sn sc,.slice da dn dc,.slice ea en ec] 95)) (w.heap.size+1) zTv):=H1.out.2.2.2.2.2.1.later HBA.out
   obtain ⟨s0,s1,s2,s3,f1,f2,f3⟩:=HTB.out.cells
   have f0:=HTB.out.cells2
   simp only [zTv] at d1 s0 s1 s2 s3
   by_cases hnm:tn=n
   ·have hqe:((bs tn).toList == (bs n).toList)=true:=by rw [hnm];simp
    have HNM:Hid (tn=n):=hnm
    clear hnm
    go_wp2_with fail
    refine bodyPost_ret (results_ct rfl _ _ (w.heap.size+1) 95 #[.string (bs tn),.slice sa sn sc,.slice da dn dc,.slice ea en ec] (0,0) _ rfl (HTB.out.set ⟨tn,sa,sn,sc,da,dn,dc,ea,en,ec⟩).blk Tryz.underlying95 rfl (by kernel_rfl)) rfl ?_
    have hfd:tgtL l ⟨p,n⟩=some ts[i]:=by
     unfold tgtL
     rw [HN.out.2.2.1]
     exact find_at his X5.out.1 (HTO.out.name.symm.trans HNM.out)
    obtain ⟨z1,z2⟩:=H1.out.1.after HBA.out (((Only.set (wr.alloc (.cells #[.string (bs tn),.slice sa sn sc,.slice da dn dc,.slice ea en ec] 95)) (w.heap.size+1) 0 (.string (bs tn))).trans (Only.set _ _ 1 (.slice sa sn sc))).trans ((Only.set _ _ 2 (.slice da dn dc)).trans (Only.set _ _ 3 (.slice ea en ec)))) (by have:=HX.out.bel.size;omega) H1.out.2.2.2.2.2.2
    unfold TgtK
    refine ⟨⟨tn,sa,sn,sc,da,dn,dc,ea,en,ec⟩,by rw [hfd];rfl,?_,?_⟩
    ·rw [hfd]
     exact ⟨base,wq,HTO.out,fun k q1 q2=>⟨(HN.out.2.2.2.2.2 k q1 q2).1,(z2 k (HN.out.2.2.2.2.2 k q1 q2).1).trans (HN.out.2.2.2.2.2 k q1 q2).2⟩⟩
    ·exact below_trans (bstep HBE.out HBA.out) (Only.below (((Only.set (wr.alloc (.cells #[.string (bs tn),.slice sa sn sc,.slice da dn dc,.slice ea en ec] 95)) (w.heap.size+1) 0 (.string (bs tn))).trans (Only.set _ _ 1 (.slice sa sn sc))).trans ((Only.set _ _ 2 (.slice da dn dc)).trans (Only.set _ _ 3 (.slice ea en ec)))) (by have:=HBE.out.size;have:=HBA.out.size;omega) (fun x hx=>by simp at hx;omega))
   ·have hqe:((bs tn).toList == (bs n).toList)=false:=by rw [bs_toList,bs_toList];simpa using hnm
    have HNM:Hid (tn≠n):=hnm
    clear hnm
    go_wp2_with fail
    go_roundw
    case rel=>
     refine ⟨i+1,by omega,by go_num,fun t ht=>?_,HBA.out⟩
     rw [List.take_succ_eq_append_getElem his] at ht
     rcases List.mem_append.1 ht with ht | ht
     ·exact X5.out.1 t ht
     ·rw [List.mem_singleton.1 ht,← HTO.out.name]
      exact HNM.out
    case measure=>simp [intOf];omega
  ·obtain rfl:i=yn:=by omega
   have HTB:Hid (TB wr (w.heap.size+1) zTv):=H1.out.2.2.2.2.2.1.later X5.out.2
   obtain ⟨s0,s1,s2,s3,f1,f2,f3⟩:=HTB.out.cells
   have f0:=HTB.out.cells2
   simp only [zTv] at s0 s1 s2 s3
   go_wp2_with fail
   refine bodyPost_ret (results_ct rfl _ _ (w.heap.size+1) 95 #[.string { data:=#[] },.slice none 0 0,.slice none 0 0,.slice none 0 0] (0,0) _ rfl (HTB.out.set zTv).blk Tryz.underlying95 rfl (by kernel_rfl)) rfl ?_
   have hfd:tgtL l ⟨p,n⟩=none:=by
    unfold tgtL
    rw [HN.out.2.2.1,List.find?_eq_none]
    intro t ht
    have:=X5.out.1 t (by rw [List.take_of_length_le (by have:=HN.out.2.1;omega)];exact ht)
    simpa using this
   obtain ⟨z1,z2⟩:=H1.out.1.after X5.out.2 (((Only.set wr (w.heap.size+1) 0 (.string { data:=#[] })).trans (Only.set _ _ 1 (.slice none 0 0))).trans ((Only.set _ _ 2 (.slice none 0 0)).trans (Only.set _ _ 3 (.slice none 0 0)))) (by have:=HX.out.bel.size;omega) H1.out.2.2.2.2.2.2
   unfold TgtK
   refine ⟨zTv,by rw [hfd];rfl,by rw [hfd];exact TIn.zero _ _,?_⟩
   exact below_trans (bstep HBE.out X5.out.2) (Only.below (((Only.set wr (w.heap.size+1) 0 (.string { data:=#[] })).trans (Only.set _ _ 1 (.slice none 0 0))).trans ((Only.set _ _ 2 (.slice none 0 0)).trans (Only.set _ _ 3 (.slice none 0 0)))) (by have:=HBE.out.size;have:=X5.out.2.size;omega) (fun x hx=>by simp at hx;omega))
end
section
open Go.RowKit Go.Maps
def DepK (w:World) (R:Nat→Prop) (l:List Fl) (a:Lb) (e:Ending) (w':World):Prop:=∃ t,e=.returned t.d∧TIn R w' t ((tgtL l a).getD zT)∧Below w.heap.size w w'
theorem bdeps_known {w0 w:World} {R:Nat→Prop} {r:Nat} {c:List (List UInt8)} {l:List Fl} (H:RX w0 w R r l c) (E0:Ev w0) (sm:FQ l) (hc:c.length≤1000000000) (a:Lb) (ha:a.pkg.length≤400000000) (hpc:a.pkg∈c) :
  Calls Tryz.prog 29 #[.pointer (some ⟨r,0,none⟩),a.val] w (DepK w R l a):=by
 have HT:=hid_of (btarget_known (H.later (balloc w (.cells #[.string (bs a.pkg),.string (bs a.name)] 27))) E0 sm hc a ha hpc)
 have HX:Hid (RX w0 w R r l c):=H
 obtain ⟨p,n⟩:=a
 show Calls Tryz.prog 29 #[.pointer (some ⟨r,0,none⟩),.agg #[.string (bs p),.string (bs n)]] w _
 have HT':Hid (Calls Tryz.prog 54 #[.pointer (some ⟨r,0,none⟩),.agg #[.string (bs p),.string (bs n)]] (w.alloc (.cells #[.string (bs p),.string (bs n)] 27)) (TgtK (w.alloc (.cells #[.string (bs p),.string (bs n)] 27)) R l ⟨p,n⟩)):=HT.out
 clear H E0 sm hc ha HT hpc
 go_enter Tryz.func29,Tryz.ntmps29
 go_wp2_with fail
 refine HT'.out.mono ?_
 rintro e w1 h
 unfold TgtK at h
 obtain ⟨t,rfl,hti,hbe⟩:=h
 obtain ⟨tn,sa,sn,sc,da,dn,dc,ea,en,ec⟩:=t
 have H1:=hid_of (And.intro hti hbe)
 clear hti hbe
 have hv:Tv.val ⟨tn,sa,sn,sc,da,dn,dc,ea,en,ec⟩=.agg #[.string (bs tn),.slice sa sn sc,.slice da dn dc,.slice ea en ec]:=rfl
 rw [hv]
 clear hv
 go_wp2_with fail
 go_ret
 obtain ⟨h2,h3⟩:=H1.out
 have hb:Below w.heap.size w w1:=bstep (balloc _ _) h3
 obtain ⟨z1,z2⟩:=(HX.out.later hb).off h2 (balloc w1 (.cells #[.string (bs tn),.slice sa sn sc,.slice da dn dc,.slice ea en ec] 95))
 exact ⟨⟨tn,sa,sn,sc,da,dn,dc,ea,en,ec⟩,rfl,z2,bstep hb (balloc _ _)⟩
end
section
open Go.RowKit
theorem ta65_65 (w:World):(Instr.typeAssert (.iface 226 (.agg #[])) 190 226 true).run Tryz.prog w=.ok (.tuple #[.agg #[],.bool true]) w:=by kernel_rfl
theorem ta66_65 (w:World) (v:ByteArray):(Instr.typeAssert (.iface 227 (.string v)) 190 226 true).run Tryz.prog w=.ok (.tuple #[.agg #[],.bool false]) w:=by kernel_rfl
theorem ta66_66 (w:World) (v:ByteArray):(Instr.typeAssert (.iface 227 (.string v)) 190 227 true).run Tryz.prog w=.ok (.tuple #[.string v,.bool true]) w:=by kernel_rfl
theorem ta67_65 (w:World) (v:ByteArray):(Instr.typeAssert (.iface 228 (.string v)) 190 226 true).run Tryz.prog w=.ok (.tuple #[.agg #[],.bool false]) w:=by kernel_rfl
theorem ta67_66 (w:World) (v:ByteArray):(Instr.typeAssert (.iface 228 (.string v)) 190 227 true).run Tryz.prog w=.ok (.tuple #[.string ⟨#[]⟩,.bool false]) w:=by kernel_rfl
theorem ta67_67 (w:World) (v:ByteArray):(Instr.typeAssert (.iface 228 (.string v)) 190 228 true).run Tryz.prog w=.ok (.tuple #[.string v,.bool true]) w:=by kernel_rfl
theorem tan_65 (w:World):(Instr.typeAssert .nilIface 190 226 true).run Tryz.prog w=.ok (.tuple #[.agg #[],.bool false]) w:=by kernel_rfl
theorem tan_66 (w:World):(Instr.typeAssert .nilIface 190 227 true).run Tryz.prog w=.ok (.tuple #[.string ⟨#[]⟩,.bool false]) w:=by kernel_rfl
theorem tan_67 (w:World):(Instr.typeAssert .nilIface 190 228 true).run Tryz.prog w=.ok (.tuple #[.string ⟨#[]⟩,.bool false]) w:=by kernel_rfl
theorem names_any (k:Kd) (f:List UInt8) (w:World) (hk:k.top.length≤1125899906842624) (hf:f.length≤1125899906842624):Calls Tryz.prog 144 #[k.val,.string (bs f)] w fun e w'=>e=.returned (.bool (nms k f))∧Below w.heap.size w w':=by
 have e1:=bs_toList f
 cases k with
 | nobody=>
  simp only [Kd.val,nms]
  have a65:=tan_65
  have a66:=tan_66
  have a67:=tan_67
  go_enter Tryz.func144,Tryz.ntmps144
  go_wp2_with fail
  go_ret
  exact ⟨rfl,Below.refl _ _⟩
 | all=>
  simp only [Kd.val,nms]
  have a65:=ta65_65
  go_enter Tryz.func144,Tryz.ntmps144
  go_wp2_with fail
  go_ret
  exact ⟨rfl,balloc _ _⟩
 | one p=>
  simp only [Kd.val,nms]
  have a65:=ta66_65
  have a66:=ta66_66
  have e2:=bs_toList p
  rw [← beq_dec]
  go_enter Tryz.func144,Tryz.ntmps144
  go_wp2_with fail
  go_ret
  exact ⟨rfl,Below.refl _ _⟩
 | tree p=>
  have HA:Hid (∀ w:World,Calls Tryz.prog 174 #[.string (bs p),.string (bs f)] w fun e w'=>e=.returned (.bool (abvV p f))∧Laid w w'):=fun w=>above_any p f w (by simp only [Kd.top] at hk;omega) (by omega)
  simp only [Kd.val,nms]
  clear hk hf
  have a65:=ta67_65
  have a66:=ta67_66
  have a67:=ta67_67
  have e2:=bs_toList p
  rw [← beq_dec]
  generalize abvV p f=z at *
  cases h:(f == p)
  ·rw [Bool.false_or]
   go_enter Tryz.func144,Tryz.ntmps144
   go_wp2_with fail
   refine (HA.out _).mono ?_
   rintro e w1 ⟨rfl,hb1⟩
   have HB:Hid (Below w.heap.size w w1):=hb1.below
   clear hb1
   go_wp2_with fail
   go_ret
   exact ⟨rfl,HB.out⟩
  ·rw [Bool.true_or]
   go_enter Tryz.func144,Tryz.ntmps144
   go_wp2_with fail
   go_ret
   exact ⟨rfl,Below.refl _ _⟩
theorem sees_any {w:World} {v:Value} {l:List (List UInt8)} (own fr:List UInt8) (h:SS w v l) (hl:l.length≤1125899906842624) (he:∀ x∈l,x.length≤1125899906842624) (hf:fr.length≤1125899906842624) :
  Calls Tryz.prog 97 #[v,.string (bs own),.string (bs fr)] w fun e w'=>e=.returned (.bool (ses l own fr))∧Below w.heap.size w w':=by
 have e1:=bs_toList own
 have e2:=bs_toList fr
 unfold ses
 rw [← beq_dec]
 cases ho:(own == fr)
 rotate_left
 ·rw [Bool.true_or]
  clear h hl he hf
  go_enter Tryz.func97,Tryz.ntmps97
  go_wp2_with fail
  go_ret
  exact ⟨rfl,Below.refl _ _⟩
 rw [Bool.false_or]
 obtain ⟨r,hr⟩:∃ r,(l.any fun s=>nms (rdk s) fr)=r:=⟨_,rfl⟩
 rw [hr]
 have HR:Hid (((l.drop 0).any fun s=>nms (rdk s) fr)=r):=hr
 have H:Hid (SS w v l):=h
 clear hr
 obtain ⟨a,c,rfl,_⟩:=h.form
 clear h
 rename_i hform
 clear hform
 obtain ⟨n,hn⟩:∃ n,l.length=n:=⟨_,rfl⟩
 have H':Hid (SS w (.slice a l.length c) l):=H.out
 clear H
 rw [hn] at hl ⊢
 have HN:Hid (l.length=n):=hn
 have HE:Hid (∀ x∈l,x.length≤1125899906842624):=he
 have HK:Hid (∀ x∈l,∀ w:World,Calls Tryz.prog 145 #[.string (bs x)] w fun e w'=>e=.returned (rdk x).val∧Below w.heap.size w w'):=fun x hx w=>read_any x w (he x hx)
 have HM:Hid (∀ x∈l,∀ w:World,Calls Tryz.prog 144 #[(rdk x).val,.string (bs fr)] w fun e w'=>e=.returned (.bool (nms (rdk x) fr))∧Below w.heap.size w w'):=fun x hx w=>names_any (rdk x) fr w (Nat.le_trans (rdk_top x) (he x hx)) hf
 clear hn he hf
 go_enter Tryz.func97,Tryz.ntmps97
 go_wp2_with fail
 go_loopw [14] (fun i wr=>∃ k:Nat,k≤n∧i=.int .i64 k∧Below w.heap.size w wr∧((l.drop k).any fun s=>nms (rdk s) fr)=r) (fun i _=>n - (intOf i).toNat)
 case atStart=>exact ⟨0,by omega,rfl,Below.refl _ _,HR.out⟩
 case round=>
  obtain ⟨k,hk,rfl,hb,hd⟩:=hrel
  have HB:Hid (Below w.heap.size w wr):=hb
  have HD:Hid (((l.drop k).any fun s=>nms (rdk s) fr)=r):=hd
  clear hd
  by_cases hlt:k < n
  ·have hkl:k < l.length:=by have:=HN.out;omega
   obtain ⟨a',c',ev,hcell⟩:=(H'.out.later hb).form
   obtain ⟨b,off,ea,hbw,hc⟩:=hcell k hkl
   simp only [Value.slice.injEq] at ev
   obtain ⟨rfl,_,rfl⟩:=ev
   subst ea
   clear hcell hb
   obtain ⟨x,hx⟩:∃ x,l[k]=x:=⟨_,rfl⟩
   rw [hx] at hc
   have hm:x∈l:=by rw [← hx];exact List.getElem_mem _
   have HKx:Hid (∀ w:World,Calls Tryz.prog 145 #[.string (bs x)] w fun e w'=>e=.returned (rdk x).val∧Below w.heap.size w w'):=HK.out x hm
   have HMx:Hid (∀ w:World,Calls Tryz.prog 144 #[(rdk x).val,.string (bs fr)] w fun e w'=>e=.returned (.bool (nms (rdk x) fr))∧Below w.heap.size w w'):=HM.out x hm
   have HS:Hid ((nms (rdk x) fr || ((l.drop (k+1)).any fun s=>nms (rdk s) fr))=r):=by
    have h1:=HD.out
    rw [List.drop_eq_getElem_cons hkl,List.any_cons,hx] at h1;exact h1
   generalize nms (rdk x) fr=z at *
   generalize (rdk x).val=kv at *
   clear hx hm HD hkl
   have k1:(0:Int)≤(k:Int):=by omega
   have k2:(k:Int) < (n:Int):=by omega
   cases z
   ·go_wp2_with fail
    refine (HKx.out _).mono ?_
    rintro e w1 ⟨rfl,hb1⟩
    have HB1:Hid (Below w.heap.size w w1):=bstep HB.out hb1
    clear hb1
    go_wp2_with fail
    refine (HMx.out _).mono ?_
    rintro e w2 ⟨rfl,hb2⟩
    have HB2:Hid (Below w.heap.size w w2):=bstep HB1.out hb2
    clear hb2
    go_wp2_with fail
    go_round
    case rel=>exact ⟨k+1,by omega,by simp,HB2.out,by have:=HS.out;simpa using this⟩
    case measure=>simp only [intOf];omega
   ·go_wp2_with fail
    refine (HKx.out _).mono ?_
    rintro e w1 ⟨rfl,hb1⟩
    have HB1:Hid (Below w.heap.size w w1):=bstep HB.out hb1
    clear hb1
    go_wp2_with fail
    refine (HMx.out _).mono ?_
    rintro e w2 ⟨rfl,hb2⟩
    have HB2:Hid (Below w.heap.size w w2):=bstep HB1.out hb2
    clear hb2
    go_wp2_with fail
    go_ret
    exact ⟨by rw [← HS.out,Bool.true_or];rfl,HB2.out⟩
  ·have hkn:k=n:=by omega
   have HF:Hid (r=false):=by
    have h1:=HD.out
    rw [List.drop_eq_nil_of_le (by have:=HN.out;omega)] at h1;exact h1.symm
   clear hb
   subst hkn
   go_wp2_with fail
   go_ret
   exact ⟨by rw [HF.out];rfl,HB.out⟩
end
end Go.Proofs.YtppnbdnpapellaaGreatDoor
