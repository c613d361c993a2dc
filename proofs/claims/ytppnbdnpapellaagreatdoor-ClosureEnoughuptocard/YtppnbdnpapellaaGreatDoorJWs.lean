import Derived.Test.YtppnbdnpapellaaGreatDoorBt
import Derived.Test.YtppnbdnpapellaaGreatDoorJEs
import Derived.BigQuiet
import Derived.Handy
set_option maxRecDepth 100000
set_option maxHeartbeats 16000000
namespace Go.Proofs.YtppnbdnpapellaaGreatDoor
section
open Go.RowKit Go.Maps
theorem hid_of {p:Prop} (h:p):Hid p:=h
def tgtL (l:List Fl) (a:Lb):Option Tg:=(says l a.pkg).1.find? (fun t=>decide (t.name=a.name))
def zT:Tg:=⟨[],[],[],[]⟩
def zTv:Tv:=⟨[],none,0,0,none,0,0,none,0,0⟩
def TIn (R:Nat→Prop) (w:World) (t:Tv) (g:Tg):Prop:=∃ base w1,TOwn base w1 t g∧∀ k,base≤k→k < w1.heap.size→R k∧w.heap[k]? = w1.heap[k]?
section
variable {R R':Nat→Prop} {w w':World} {t:Tv} {g:Tg}
theorem TIn.own (h:TIn R w t g):∃ base,TOwn base w t g:=by
 obtain ⟨base,w1,h1,h2⟩:=h
 exact ⟨base,h1.stay (fun k a b=>(h2 k a b).2)⟩
theorem TIn.keep (h:TIn R w t g) (hs:∀ k,R k→w'.heap[k]? = w.heap[k]?) (hm:∀ k,R k→R' k):TIn R' w' t g:=by
 obtain ⟨base,w1,h1,h2⟩:=h
 exact ⟨base,w1,h1,fun k a b=>⟨hm k (h2 k a b).1,(hs k (h2 k a b).1).trans (h2 k a b).2⟩⟩
theorem TIn.zero (R:Nat→Prop) (w:World):TIn R w zTv zT:=
 ⟨w.heap.size,w,⟨rfl,Own.nil _ _,OwnL.nil _ _,Own.nil _ _,(fun k hk=>by cases hk),(fun k hk=>by cases hk),(fun k hk=>by cases hk)⟩,fun k a b=>by omega⟩
end
theorem TsOwn.at {base:Nat} {w:World}:∀ {a:List Tv} {b:List Tg} (_:TsOwn base w a b) (k:Nat) (h1:k < a.length) (h2:k < b.length),TOwn base w a[k] b[k]
 | _::_,_::_,h,0,_,_=>h.1
 | _::_,_::_,h,k+1,h1,h2=>TsOwn.at h.2 k (by simpa using h1) (by simpa using h2)
theorem row_max {w:World} {base e sz n:Nat} {v:Value} {l:List Value} (h:w.ownsRow base e sz v n l):n≤maxLen:=by
 rcases h.2 with ⟨_,h0⟩ | ⟨g,cap,cur,_,_,_,hn,hcm,_⟩
 ·omega
 ·omega
theorem fldS (a b:Value) (w:World):(Instr.field 136 (.agg #[a,b]) 0).run Tryz.prog w=.ok a w:=by kernel_rfl
theorem find_mid {α:Type} {f:α→Bool} {A B:List α} {x:α} (h:∀ t∈A,f t=false) (hx:f x=true):(A++x::B).find? f=some x:=by
 rw [List.find?_append,List.find?_eq_none.2 (fun t ht=>by rw [h t ht];simp)]
 simp [hx]
theorem find_at {l:List Tg} {q:List UInt8} {i:Nat} (hi:i < l.length) (h:∀ t∈l.take i,t.name≠q) (hn:l[i].name=q):l.find? (fun t=>decide (t.name=q))=some l[i]:=by
 have e:l.take i++l[i]::l.drop (i+1)=l:=by rw [← List.drop_eq_getElem_cons hi,List.take_append_drop]
 have:=find_mid (f:=fun t:Tg=>decide (t.name=q)) (A:=l.take i) (B:=l.drop (i+1)) (x:=l[i]) (fun t ht=>by simpa using h t ht) (by simpa using hn)
 rwa [e] at this
theorem RX.after {w0 w1 wr wf:World} {R:Nat→Prop} {r g:Nat} {c:List (List UInt8)} {l:List Fl} (h:RX w0 w1 R r l c) (hb:Below w1.heap.size w1 wr) (ho:Only [g] wr wf) (hg:w0.heap.size≤g) (hn:¬ R g):RX w0 wf R r l c∧∀ k,R k→wf.heap[k]? = w1.heap[k]?:=by
 have key:∀ k,R k→wf.heap[k]? = w1.heap[k]?:=fun k hk=>by
  have h1:=(h.rlo k hk).2
  have h2:=hb.size
  rw [ho.block k (by omega) (by simp;rintro rfl;exact hn hk),hb.block k h1]
 refine ⟨h.stay (below_trans (below_mono hb h.bel.size) (ho.below (Nat.le_trans h.bel.size hb.size) (fun x hx=>by simp at hx;omega))) key,key⟩
def TgtP (w0 w:World) (R:Nat→Prop) (r:Nat) (l:List Fl) (c:List (List UInt8)) (a:Lb) (e:Ending) (w':World):Prop:=∃ t R',e=.returned (.tuple #[t.val,.bool (tgtL l a).isSome])∧RX w0 w' R' r l (a.pkg::c)∧TIn R' w' t ((tgtL l a).getD zT)∧OnlyP R w w'∧(∀ k,R k→R' k)∧(∀ k,R' k→R k∨w.heap.size≤k)
theorem btarget_any {w0 w:World} {R:Nat→Prop} {r:Nat} {c:List (List UInt8)} {l:List Fl} (H:RX w0 w R r l c) (E0:Ev w0) (sm:FQ l) (hc:c.length≤1000000000) (a:Lb) (ha:a.pkg.length≤400000000) :
  Calls Tryz.prog 54 #[.pointer (some ⟨r,0,none⟩),a.val] w (TgtP w0 w R r l c a):=by
 obtain ⟨p,n⟩:=a
 show Calls Tryz.prog 54 #[.pointer (some ⟨r,0,none⟩),.agg #[.string (bs p),.string (bs n)]] w _
 simp only at ha
 have hb2:Below w.heap.size w ((w.alloc (.cells #[.string (bs p),.string (bs n)] 27)).alloc (.cells #[.string { data:=#[] },.slice none 0 0,.slice none 0 0,.slice none 0 0] 95)):=bstep (balloc _ _) (balloc _ _)
 have HRD:=hid_of (bread_any (H.later hb2) E0 sm hc p ha)
 have HX:Hid (RX w0 w R r l c):=H
 have HZ:Hid (TB ((w.alloc (.cells #[.string (bs p),.string (bs n)] 27)).alloc (.cells #[.string { data:=#[] },.slice none 0 0,.slice none 0 0,.slice none 0 0] 95)) (w.heap.size+1) zTv∧RB ((w.alloc (.cells #[.string (bs p),.string (bs n)] 27)).alloc (.cells #[.string { data:=#[] },.slice none 0 0,.slice none 0 0,.slice none 0 0] 95)) w.heap.size ⟨p,n⟩):=by
  have hz:(w.alloc (.cells #[.string (bs p),.string (bs n)] 27)).heap.size=w.heap.size+1:=by simp
  have h1:=TB.new (w.alloc (.cells #[.string (bs p),.string (bs n)] 27)) zTv
  rw [hz] at h1
  exact ⟨h1,(RB.new w ⟨p,n⟩).later (balloc _ _)⟩
 obtain ⟨W2,hW2⟩:∃ W2,(w.alloc (.cells #[.string (bs p),.string (bs n)] 27)).alloc (.cells #[.string { data:=#[] },.slice none 0 0,.slice none 0 0,.slice none 0 0] 95)=W2:=⟨_,rfl⟩
 have hz2:W2.heap.size=w.heap.size+2:=by rw [← hW2];simp
 rw [hW2] at HRD HZ hb2
 have HB2:Hid (Below w.heap.size w W2∧W2.heap.size=w.heap.size+2):=⟨hb2,hz2⟩
 obtain ⟨b0,b1,_,_⟩:=HZ.out.2.cells
 clear H E0 sm hc ha hb2 hz2
 go_enter Tryz.func54,Tryz.ntmps54
 go_upto_region 1 with fail
 try rw [hW2]
 clear hW2
 simp only at b0 b1
 go_wp2_with fail
 refine HRD.out.mono ?_
 rintro e w1 ⟨x,R1,rfl,hx2,hrx,hgi,hon,hm1,hm2⟩
 obtain ⟨y,k0⟩:=x
 obtain ⟨ya,yn,yc,hy⟩:=sv_form y
 obtain ⟨base,wq,hgo,hin⟩:=hgi
 obtain ⟨tv,o1,o2,_⟩:=hgo.it
 simp only at o1
 have o1':OwnG base w1 (sv y) tv:=row_kept o1 (fun k hk=>by obtain ⟨q1,q2⟩:=World.ownsRow.lt o1 k hk;exact (hin k q1 q2).2)
 obtain ⟨a',c',e1⟩:=o1'.form
 have hmx:=row_max o1'
 rw [hy] at e1 o1'
 injection e1 with e1 e2 e3
 clear e1 e3 o1 hgo hx2
 have hlt:=o2.len
 obtain ⟨ts,hts⟩:∃ ts,(says l p).1=ts:=⟨_,rfl⟩
 rw [hts] at o2 hlt
 have HN:Hid (tv.length=yn∧ts.length=yn∧(says l p).1=ts∧GS w1 (.slice ya yn yc) tv∧TsOwn base wq tv ts∧∀ k,base≤k→k < wq.heap.size→R1 k∧w1.heap[k]? = wq.heap[k]?):=⟨e2.symm,by omega,hts,o1'.rs,o2,hin⟩
 have hnR:∀ k,w.heap.size≤k→¬ R k:=fun k hk hR=>by have:=(HX.out.rlo k hR).2;omega
 have H1:Hid (RX w0 w1 R1 r l (p::c)∧OnlyP R w w1∧(∀ k,R k→R1 k)∧(∀ k,R1 k→R k∨w.heap.size≤k)∧RB w1 w.heap.size ⟨p,n⟩∧TB w1 (w.heap.size+1) zTv∧¬ R1 (w.heap.size+1)):=by
  have hz:=HB2.out.2
  refine ⟨hrx,(OnlyP.of_below HB2.out.1 R).trans hon (fun i _ h=>h),hm1,fun k hk=>(hm2 k hk).imp id (fun h=>by omega),HZ.out.2.onlyP hon (hnR _ (Nat.le_refl _)),⟨(hon.block _ (by omega) (hnR _ (by omega))).trans HZ.out.1.blk⟩,fun hR=>?_⟩
  rcases hm2 _ hR with h | h
  ·exact hnR _ (by omega) h
  ·omega
 unfold maxLen at hmx
 rw [e2.symm] at hmx
 have hfl:=fldS
 have hsv:shV (y,k0)=.agg #[.slice ya yn yc,.int .i64 k0]:=by unfold shV;simp only [hy]
 rw [hsv]
 clear hsv
 clear hrx hon hm1 hm2 hin hts o1' o2 hlt e2 hy hnR HRD
 go_wp2_with fail
 go_loopw [14] (fun iv wr=>∃ i:Nat,i≤yn∧iv=.int .i64 i∧(∀ t∈ts.take i,t.name≠n)∧Below w1.heap.size w1 wr) (fun iv _=>yn - (intOf iv).toNat)
 case atStart=>exact ⟨0,by omega,rfl,by simp,Below.refl _ _⟩
 case round=>
  obtain ⟨i,hi0,rfl,hno,hb⟩:=hrel
  have X5:Hid ((∀ t∈ts.take i,t.name≠n)∧Below w1.heap.size w1 wr):=⟨hno,hb⟩
  clear hno hb
  by_cases hi:i < yn
  ·have i1:(i:Int) < (yn:Int):=by omega
   have i2:(0:Int)≤(i:Int):=by omega
   have hil:i < tv.length:=by rw [HN.out.1];exact hi
   have his:i < ts.length:=by rw [HN.out.2.1];exact hi
   obtain ⟨b,off,hya,hbl,c0,c1,c2,c3⟩:=HN.out.2.2.2.1.at X5.out.2 hil
   subst hya
   have HTO:Hid (TOwn base wq tv[i] ts[i]):=HN.out.2.2.2.2.1.at i hil his
   obtain ⟨t,ht⟩:∃ t,tv[i]=t:=⟨_,rfl⟩
   rw [ht] at c0 c1 c2 c3 HTO
   clear ht
   obtain ⟨tn,sa,sn,sc,da,dn,dc,ea,en,ec⟩:=t
   simp only at c0 c1 c2 c3
   have HBA:Hid (Below w1.heap.size w1 (wr.alloc (.cells #[.string (bs tn),.slice sa sn sc,.slice da dn dc,.slice ea en ec] 95))):=bstep X5.out.2 (balloc wr (.cells #[.string (bs tn),.slice sa sn sc,.slice da dn dc,.slice ea en ec] 95))
   obtain ⟨_,d1,_,_⟩:=(H1.out.2.2.2.2.1.later HBA.out).cells
   have HTB:Hid (TB (wr.alloc (.cells #[.string (bs tn),.slice sa sn sc,.slice da dn dc,.slice ea en ec] 95)) (w.heap.size+1) zTv):=H1.out.2.2.2.2.2.1.later HBA.out
   obtain ⟨s0,s1,s2,s3,f1,f2,f3⟩:=HTB.out.cells
   have f0:=HTB.out.cells2
   simp only [zTv] at d1 s0 s1 s2 s3
   by_cases hnm:tn=n
   ·have hqe:((bs tn).toList == (bs n).toList)=true:=by rw [hnm];simp
    have HNM:Hid (tn=n):=hnm
    clear hnm
    go_wp2_with fail
    refine bodyPost_ret (results_ct rfl _ _ (w.heap.size+1) 95 #[.string (bs tn),.slice sa sn sc,.slice da dn dc,.slice ea en ec] (0,0) _ rfl (HTB.out.set ⟨tn,sa,sn,sc,da,dn,dc,ea,en,ec⟩).blk Tryz.underlying95 rfl (by kernel_rfl)) rfl ?_
    have hfd:tgtL l ⟨p,n⟩=some ts[i]:=by
     unfold tgtL
     rw [HN.out.2.2.1]
     exact find_at his X5.out.1 (HTO.out.name.symm.trans HNM.out)
    obtain ⟨z1,z2⟩:=H1.out.1.after HBA.out (((Only.set (wr.alloc (.cells #[.string (bs tn),.slice sa sn sc,.slice da dn dc,.slice ea en ec] 95)) (w.heap.size+1) 0 (.string (bs tn))).trans (Only.set _ _ 1 (.slice sa sn sc))).trans ((Only.set _ _ 2 (.slice da dn dc)).trans (Only.set _ _ 3 (.slice ea en ec)))) (by have:=HX.out.bel.size;omega) H1.out.2.2.2.2.2.2
    unfold TgtP
    refine ⟨⟨tn,sa,sn,sc,da,dn,dc,ea,en,ec⟩,R1,by rw [hfd];rfl,z1,?_,?_,H1.out.2.2.1,H1.out.2.2.2.1⟩
    ·rw [hfd]
     exact ⟨base,wq,HTO.out,fun k q1 q2=>⟨(HN.out.2.2.2.2.2 k q1 q2).1,(z2 k (HN.out.2.2.2.2.2 k q1 q2).1).trans (HN.out.2.2.2.2.2 k q1 q2).2⟩⟩
    ·refine (H1.out.2.1.trans (OnlyP.of_below HBA.out R) (fun i _ h=>h)).trans (OnlyP.of_only (F:=fun k=>k=w.heap.size+1) (((Only.set (wr.alloc (.cells #[.string (bs tn),.slice sa sn sc,.slice da dn dc,.slice ea en ec] 95)) (w.heap.size+1) 0 (.string (bs tn))).trans (Only.set _ _ 1 (.slice sa sn sc))).trans ((Only.set _ _ 2 (.slice da dn dc)).trans (Only.set _ _ 3 (.slice ea en ec)))) (fun k hk _=>by simpa using hk)) (fun i h1 h2=>by omega)
   ·have hqe:((bs tn).toList == (bs n).toList)=false:=by rw [bs_toList,bs_toList];simpa using hnm
    have HNM:Hid (tn≠n):=hnm
    clear hnm
    go_wp2_with fail
    go_roundw
    case rel=>
     refine ⟨i+1,by omega,by go_num,fun t ht=>?_,HBA.out⟩
     rw [List.take_succ_eq_append_getElem his] at ht
     rcases List.mem_append.1 ht with ht | ht
     ·exact X5.out.1 t ht
     ·rw [List.mem_singleton.1 ht,← HTO.out.name]
      exact HNM.out
    case measure=>simp [intOf];omega
  ·obtain rfl:i=yn:=by omega
   have HTB:Hid (TB wr (w.heap.size+1) zTv):=H1.out.2.2.2.2.2.1.later X5.out.2
   obtain ⟨s0,s1,s2,s3,f1,f2,f3⟩:=HTB.out.cells
   have f0:=HTB.out.cells2
   simp only [zTv] at s0 s1 s2 s3
   go_wp2_with fail
   refine bodyPost_ret (results_ct rfl _ _ (w.heap.size+1) 95 #[.string { data:=#[] },.slice none 0 0,.slice none 0 0,.slice none 0 0] (0,0) _ rfl (HTB.out.set zTv).blk Tryz.underlying95 rfl (by kernel_rfl)) rfl ?_
   have hfd:tgtL l ⟨p,n⟩=none:=by
    unfold tgtL
    rw [HN.out.2.2.1,List.find?_eq_none]
    intro t ht
    have:=X5.out.1 t (by rw [List.take_of_length_le (by have:=HN.out.2.1;omega)];exact ht)
    simpa using this
   obtain ⟨z1,z2⟩:=H1.out.1.after X5.out.2 (((Only.set wr (w.heap.size+1) 0 (.string { data:=#[] })).trans (Only.set _ _ 1 (.slice none 0 0))).trans ((Only.set _ _ 2 (.slice none 0 0)).trans (Only.set _ _ 3 (.slice none 0 0)))) (by have:=HX.out.bel.size;omega) H1.out.2.2.2.2.2.2
   unfold TgtP
   refine ⟨zTv,R1,by rw [hfd];rfl,z1,by rw [hfd];exact TIn.zero _ _,?_,H1.out.2.2.1,H1.out.2.2.2.1⟩
   refine (H1.out.2.1.trans (OnlyP.of_below X5.out.2 R) (fun i _ h=>h)).trans (OnlyP.of_only (F:=fun k=>k=w.heap.size+1) (((Only.set wr (w.heap.size+1) 0 (.string { data:=#[] })).trans (Only.set _ _ 1 (.slice none 0 0))).trans ((Only.set _ _ 2 (.slice none 0 0)).trans (Only.set _ _ 3 (.slice none 0 0)))) (fun k hk _=>by simpa using hk)) (fun i h1 h2=>by omega)
end
section
open Go.RowKit Go.Maps
def dpsL (l:List Fl) (a:Lb):List Lb:=((tgtL l a).getD zT).deps
def DepP (w0 w:World) (R:Nat→Prop) (r:Nat) (l:List Fl) (c:List (List UInt8)) (a:Lb) (e:Ending) (w':World):Prop:=∃ t R',e=.returned t.d∧RX w0 w' R' r l (a.pkg::c)∧TIn R' w' t ((tgtL l a).getD zT)∧OnlyP R w w'∧(∀ k,R k→R' k)∧(∀ k,R' k→R k∨w.heap.size≤k)
theorem RX.off {w0 w w':World} {R:Nat→Prop} {r:Nat} {c:List (List UInt8)} {l:List Fl} {t:Tv} {g:Tg} (h:RX w0 w R r l c) (k:TIn R w t g) (hb:Below w.heap.size w w'):RX w0 w' R r l c∧TIn R w' t g:=
 ⟨h.later hb,k.keep (fun j hj=>hb.block j (h.rlo j hj).2) (fun _ hj=>hj)⟩
theorem bdeps_any {w0 w:World} {R:Nat→Prop} {r:Nat} {c:List (List UInt8)} {l:List Fl} (H:RX w0 w R r l c) (E0:Ev w0) (sm:FQ l) (hc:c.length≤1000000000) (a:Lb) (ha:a.pkg.length≤400000000) :
  Calls Tryz.prog 29 #[.pointer (some ⟨r,0,none⟩),a.val] w (DepP w0 w R r l c a):=by
 have HT:=hid_of (btarget_any (H.later (balloc w (.cells #[.string (bs a.pkg),.string (bs a.name)] 27))) E0 sm hc a ha)
 have HX:Hid (RX w0 w R r l c):=H
 obtain ⟨p,n⟩:=a
 show Calls Tryz.prog 29 #[.pointer (some ⟨r,0,none⟩),.agg #[.string (bs p),.string (bs n)]] w _
 have HT':Hid (Calls Tryz.prog 54 #[.pointer (some ⟨r,0,none⟩),.agg #[.string (bs p),.string (bs n)]] (w.alloc (.cells #[.string (bs p),.string (bs n)] 27)) (TgtP w0 (w.alloc (.cells #[.string (bs p),.string (bs n)] 27)) R r l c ⟨p,n⟩)):=HT.out
 clear H E0 sm hc ha HT
 go_enter Tryz.func29,Tryz.ntmps29
 go_wp2_with fail
 refine HT'.out.mono ?_
 rintro e w1 h
 unfold TgtP at h
 obtain ⟨t,R1,rfl,hrx,hti,hon,hm1,hm2⟩:=h
 obtain ⟨tn,sa,sn,sc,da,dn,dc,ea,en,ec⟩:=t
 have H1:=hid_of (And.intro hrx (And.intro hti (And.intro hon (And.intro hm1 hm2))))
 clear hrx hti hon hm1 hm2
 have hv:Tv.val ⟨tn,sa,sn,sc,da,dn,dc,ea,en,ec⟩=.agg #[.string (bs tn),.slice sa sn sc,.slice da dn dc,.slice ea en ec]:=rfl
 rw [hv]
 clear hv
 go_wp2_with fail
 go_ret
 obtain ⟨h1,h2,h3,h4,h5⟩:=H1.out
 obtain ⟨z1,z2⟩:=h1.off h2 (balloc w1 (.cells #[.string (bs tn),.slice sa sn sc,.slice da dn dc,.slice ea en ec] 95))
 exact ⟨⟨tn,sa,sn,sc,da,dn,dc,ea,en,ec⟩,R1,rfl,z1,z2,((OnlyP.of_below (balloc _ _) R).trans h3 (fun i _ h=>h)).trans (OnlyP.of_below (balloc _ _) R) (fun i _ h=>h),h4,fun k hk=>(h5 k hk).imp id (fun h=>by simp at h;omega)⟩
end
section
open Go.RowKit Go.Maps
theorem min_any {w:World} {b off n c:Nat} {l:List Nat} (hc:∀ k,(hk:k < l.length)→w.cell? ⟨b,off+k,none⟩=some (.int .i64 (l[k]:Int))) (hn:l.length=n) (h0:0 < n) (hz:n≤2000000) :
  Calls Tryz.prog 252 #[.slice (some ⟨b,off,none⟩) n c] w fun e w'=>∃ m:Nat,e=.returned (.int .i64 (m:Int))∧m∈l∧(∀ x∈l,m≤x)∧w'=w:=by
 have H:Hid ((∀ k,(hk:k < l.length)→w.cell? ⟨b,off+k,none⟩=some (.int .i64 (l[k]:Int)))∧l.length=n):=⟨hc,hn⟩
 have c0:=hc 0 (by omega)
 rw [Nat.add_zero] at c0
 have h0l:0 < l.length:=by omega
 obtain ⟨x0,hx0⟩:∃ x,l[0]=x:=⟨_,rfl⟩
 rw [hx0] at c0
 have HX0:Hid (l[0]? = some x0):=by
  show l[0]? = some x0
  rw [List.getElem?_eq_getElem h0l,hx0]
 have k1:(1:Int)≤(n:Int):=by omega
 have k2:(0:Int) < (n:Int):=by omega
 have k3:¬ (n:Int) < 1:=by omega
 clear hc hn hx0
 go_enter Tryz.func252,Tryz.ntmps252
 go_wp2_with fail
 go_loopw [3,4] (fun s3 s4 wr=>∃ (m i:Nat),s3=.int .i64 (m:Int)∧s4=.int .i64 (i:Int)∧0 < i∧i≤n∧m∈l∧(∀ x∈l.take i,m≤x)∧wr=w) (fun _ s4 _=>n - (intOf s4).toNat)
 case atStart=>
  refine ⟨x0,1,rfl,rfl,by omega,by omega,List.mem_of_getElem? HX0.out,fun x hx=>?_,rfl⟩
  obtain ⟨j,hj,e⟩:=List.getElem_of_mem hx
  simp only [List.length_take] at hj
  have hj0:j=0:=by omega
  subst hj0
  have:=HX0.out
  rw [List.getElem?_eq_getElem (by omega)] at this
  injection this with this
  rw [List.getElem_take] at e
  omega
 case round=>
  obtain ⟨m,i,rfl,rfl,hi0,hi,hm,hle,rfl⟩:=hrel
  have HM:Hid (m∈l∧∀ x∈l.take i,m≤x):=⟨hm,hle⟩
  clear hm hle
  by_cases hlt:i < n
  ·have hil:i < l.length:=by rw [H.out.2];exact hlt
   have ci:=H.out.1 i hil
   obtain ⟨x,hx⟩:∃ x,l[i]=x:=⟨_,rfl⟩
   rw [hx] at ci
   have HX:Hid (l[i]=x):=hx
   clear hx
   have q1:(i:Int) < (n:Int):=by omega
   go_wp2_with fail
   go_roundw
   case rel=>
    refine ⟨min m x,i+1,by congr 1;omega,by go_num,by omega,by omega,?_,fun y hy=>?_,by first | rfl | trivial⟩
    ·rcases Nat.le_total m x with h | h
     ·rw [Nat.min_eq_left h];exact HM.out.1
     ·rw [Nat.min_eq_right h,← HX.out];exact List.getElem_mem hil
    ·rw [List.take_succ_eq_append_getElem hil,List.mem_append,HX.out] at hy
     rcases hy with hy | hy
     ·exact Nat.le_trans (Nat.min_le_left _ _) (HM.out.2 y hy)
     ·rw [List.mem_singleton.1 hy];exact Nat.min_le_right _ _
   case measure=>simp [intOf];omega
  ·obtain rfl:n=i:=by omega
   go_wp2_with fail
   go_ret
   refine ⟨m,rfl,HM.out.1,?_,rfl⟩
   have:=HM.out.2
   rw [List.take_of_length_le (by rw [H.out.2];omega)] at this
   exact this
def clp (s:Tj.St) (f m i:Nat):Tj.St:={ s with early:=fun x=>if x∈(s.op.drop f).take i then 0 else s.early x,least:=fun x=>if x∈(s.op.drop f).take i then m else s.least x }
theorem clp_zero (s:Tj.St) (f m:Nat):clp s f m 0=s:=by simp [clp]
theorem clp_step {s:Tj.St} {f m i b:Nat} (hi:i < (s.op.drop f).length) (hb:(s.op.drop f)[i]=b):(⟨s.met,Tj.upd (clp s f m i).early b 0,Tj.upd (clp s f m i).least b m,s.op,s.cnt⟩:Tj.St)=clp s f m (i+1):=by
 have e:∀ x,x∈(s.op.drop f).take (i+1)↔x∈(s.op.drop f).take i∨x=b:=fun x=>by
  rw [List.take_succ_eq_append_getElem hi,hb,List.mem_append,List.mem_singleton]
 show Tj.St.mk _ _ _ _ _=Tj.St.mk _ _ _ _ _
 congr 1
 ·funext x
  by_cases h:x=b
  ·simp [Tj.upd,e,h]
  ·simp [Tj.upd,e,h,clp]
 ·funext x
  by_cases h:x=b
  ·simp [Tj.upd,e,h]
  ·simp [Tj.upd,e,h,clp]
theorem clp_end {s:Tj.St} {f m i:Nat} (hi:(s.op.drop f).length≤i):(⟨s.met,(clp s f m i).early,(clp s f m i).least,s.op.take f,s.cnt⟩:Tj.St)=Tj.close s f m:=by
 unfold clp Tj.close
 rw [List.take_of_length_le hi]
theorem leave_any {w0 w:World} {K:SK} {vp:Value} {s:Tj.St} (hF:SF w0 K) (h:SE w0 K vp s w) (a:Nat) (ha:a < K.n) (hle:s.early a≤s.met a) (hop:a∈s.op) (hon:∀ x∈s.op,x < K.n) (hl:s.op.length≤2000000) :
  Calls Tryz.prog 220 #[.pointer (some ⟨K.sb,0,none⟩),.int .i64 (a:Int)] w fun e w'=>e=.returned (.tuple #[])∧∃ vp' s1,Tj.Lv s s1 a∧SE w0 K vp' s1 w'∧SX K vp vp' w w':=by
 obtain ⟨gp,cv,hvv,hcv,hgp,hgl⟩:=row_place h.rp (List.length_pos_of_mem hop)
 obtain ⟨k0,hk0,ek0⟩:=List.getElem_of_mem hop
 obtain ⟨ol,hol⟩:∃ ol,s.op.length=ol:=⟨_,rfl⟩
 rw [hol] at hvv hk0 hcv hl
 subst hvv
 have H:Hid (SF w0 K∧SE w0 K (.slice (some ⟨gp,0,none⟩) ol cv) s w∧s.op.length=ol∧(∀ x∈s.op,x < K.n)):=⟨hF,h,hol,hon⟩
 have HK0:Hid (s.op[k0]? = some a):=by
  show s.op[k0]? = some a
  rw [List.getElem?_eq_getElem (by omega),ek0]
 have d2:=h.c2
 have d1:=h.c1
 have ce:=arr_cell h.re ha
 have cm:=arr_cell h.rm ha
 obtain ⟨n,hn⟩:∃ n,K.n=n:=⟨_,rfl⟩
 rw [hn] at d2 d1 ha
 obtain ⟨ea,hea⟩:∃ x,s.early a=x:=⟨_,rfl⟩
 obtain ⟨ma,hma⟩:∃ x,s.met a=x:=⟨_,rfl⟩
 rw [hea] at ce hle
 rw [hma] at cm hle
 have HE:Hid (s.early a=ea∧s.met a=ma∧K.n=n):=⟨hea,hma,hn⟩
 have k1:(0:Int)≤(a:Int):=by omega
 have k2:(a:Int) < (n:Int):=by omega
 clear h hea hma hF hop hon hol ek0 hn
 by_cases hlt:ea < ma
 ·have p1:(ea:Int) < (ma:Int):=by omega
  go_enter Tryz.func220,Tryz.ntmps220
  go_wp2_with fail
  go_quiet (fail)
  go_wp2_with fail
  go_returns
  exact ⟨rfl,_,s,.inl ⟨by rw [HE.out.1,HE.out.2.1];exact hlt,rfl⟩,H.out.2.1.later (bd _ _),sx_below (bd _ _)⟩
 ·have p1:¬ (ea:Int) < (ma:Int):=by omega
  have HEQ:Hid (s.early a=s.met a):=by show s.early a=s.met a;rw [HE.out.1,HE.out.2.1];omega
  go_enter Tryz.func220,Tryz.ntmps220
  go_wp2_with fail
  go_quiet (fail)
  have HW:Hid (SE w0 K (.slice (some ⟨gp,0,none⟩) ol cv) s (w.drewN nq)∧SX K (.slice (some ⟨gp,0,none⟩) ol cv) (.slice (some ⟨gp,0,none⟩) ol cv) w (w.drewN nq)):=⟨H.out.2.1.later (bd _ _),sx_below (bd _ _)⟩
  clear d1 d2 ce cm p1
  generalize w.drewN nq=w1 at HW ⊢
  have d4:=HW.out.1.c4
  have l1:(1:Int)≤(ol:Int):=by omega
  have l2:(ol:Int)≤2000000:=by omega
  go_wp2_with fail
  go_loopw [4] (fun s4 wr=>∃ f:Nat,s4=.int .i64 (f:Int)∧k0≤f∧f < ol∧wr=w1) (fun s4 _=>(intOf s4).toNat)
  case atStart=>exact ⟨ol - 1,by go_num,by omega,by omega,rfl⟩
  case round=>
   obtain ⟨f,rfl,hf1,hf2,rfl⟩:=hrel
   have hfl:f < s.op.length:=by rw [H.out.2.2.1];exact hf2
   obtain ⟨b,hb⟩:∃ b,s.op[f]=b:=⟨_,rfl⟩
   have cf:wr.cell? ⟨gp,f,none⟩=some (.int .i64 (b:Int)):=by
    have h1:=HW.out.1.rp
    rw [H.out.2.2.1] at h1
    have h2:=row_cell h1 (nv_get hfl)
    rw [hb] at h2
    exact h2
   have m1:(f:Int) < (ol:Int):=by omega
   have m2:(0:Int)≤(f:Int):=by omega
   by_cases hba:b=a
   ·subst hba
    have HFB:Hid (s.op[f]=b):=hb
    have HLD:Hid ((s.op.drop f).length=ol - f):=by show (s.op.drop f).length=ol - f;rw [List.length_drop,H.out.2.2.1]
    have HMIN:Hid (Calls Tryz.prog 252 #[.slice (some ⟨gp,f,none⟩) (ol - f) (cv - f)] wr fun e w'=>∃ m:Nat,e=.returned (.int .i64 (m:Int))∧m∈s.op.drop f∧(∀ x∈s.op.drop f,m≤x)∧w'=wr):=by
     refine min_any (fun k hk=>?_) HLD.out (by omega) (by omega)
     rw [HLD.out] at hk
     have h1:=HW.out.1.rp
     rw [H.out.2.2.1] at h1
     have h3:f+k < s.op.length:=by rw [H.out.2.2.1];omega
     have h2:=row_cell h1 (nv_get h3)
     rw [List.getElem_drop]
     exact h2
    clear hb
    go_wp2_with fail
    refine HMIN.out.mono ?_
    rintro e w9 ⟨m,rfl,hm,hmin,rfl⟩
    have HM:Hid (m∈s.op.drop f∧∀ x∈s.op.drop f,m≤x):=⟨hm,hmin⟩
    clear hm hmin HMIN cf
    rename World=>wz
    go_wp2_with fail
    have x1:(0:Int)≤((ol - f:Nat):Int):=by omega
    go_loopw [51] (fun s51 wr=>∃ i:Nat,s51=.int .i64 (i:Int)∧i≤ol - f∧SE w0 K (.slice (some ⟨gp,0,none⟩) ol cv) (clp s f m i) wr∧SX K (.slice (some ⟨gp,0,none⟩) ol cv) (.slice (some ⟨gp,0,none⟩) ol cv) w wr) (fun s51 _=>(ol - f) - (intOf s51).toNat)
    case atStart=>exact ⟨0,rfl,by omega,by rw [clp_zero];exact HW.out.1,HW.out.2⟩
    case round=>
     obtain ⟨i,rfl,hi,hS,hX⟩:=hrel
     have HS:Hid (SE w0 K (.slice (some ⟨gp,0,none⟩) ol cv) (clp s f m i) wr∧SX K (.slice (some ⟨gp,0,none⟩) ol cv) (.slice (some ⟨gp,0,none⟩) ol cv) w wr):=⟨hS,hX⟩
     clear hS hX
     by_cases hil:i < ol - f
     ·have hfi:f+i < s.op.length:=by rw [H.out.2.2.1];omega
      obtain ⟨x,hx⟩:∃ x,s.op[f+i]=x:=⟨_,rfl⟩
      have HXN:Hid (x < K.n):=by
       show x < K.n
       rw [← hx];exact H.out.2.2.2 _ (List.getElem_mem hfi)
      have cx:wr.cell? ⟨gp,f+i,none⟩=some (.int .i64 (x:Int)):=by
       have h1:=HS.out.1.rp
       rw [show (clp s f m i).op=s.op from rfl,H.out.2.2.1] at h1
       have h2:=row_cell h1 (nv_get hfi)
       rw [hx] at h2
       exact h2
      have HST:Hid ((⟨s.met,Tj.upd (clp s f m i).early x 0,Tj.upd (clp s f m i).least x m,s.op,s.cnt⟩:Tj.St)=clp s f m (i+1)):=clp_step (by rw [HLD.out];exact hil) (by rw [List.getElem_drop];exact hx)
      have d3:=HS.out.1.c3
      have g3:=arr_cell HS.out.1.rl HXN.out
      have f3:=arr_soft HS.out.1.rl x
      have HS2:Hid (SE w0 K (.slice (some ⟨gp,0,none⟩) ol cv) ⟨s.met,(clp s f m i).early,Tj.upd (clp s f m i).least x m,s.op,s.cnt⟩ (wr.setCell ⟨K.gl,x,none⟩ (.int .i64 (m:Int)))):=HS.out.1.setl H.out.1 x m
      have d2:=HS2.out.c2
      have g2:=arr_cell HS2.out.re HXN.out
      have f2:=arr_soft HS2.out.re x
      have HS3:Hid (SE w0 K (.slice (some ⟨gp,0,none⟩) ol cv) (clp s f m (i+1)) ((wr.setCell ⟨K.gl,x,none⟩ (.int .i64 (m:Int))).setCell ⟨K.ge,x,none⟩ (.int .i64 0))∧SX K (.slice (some ⟨gp,0,none⟩) ol cv) (.slice (some ⟨gp,0,none⟩) ol cv) w ((wr.setCell ⟨K.gl,x,none⟩ (.int .i64 (m:Int))).setCell ⟨K.ge,x,none⟩ (.int .i64 0))):=by
       have h9:=HS2.out.sete H.out.1 x 0
       refine ⟨?_,(HS.out.2.trans (sx_set _ _ (.inr (.inr (.inr (.inl rfl)))))).trans (sx_set _ _ (.inr (.inr (.inl rfl))))⟩
       rw [← HST.out]
       exact h9
      have hxn:x < n:=by have:=HXN.out;rw [HE.out.2.2] at this;exact this
      rw [HE.out.2.2] at d3 d2
      have y1:(x:Int) < (n:Int):=by omega
      have y2:(0:Int)≤(x:Int):=by omega
      have y3:(i:Int) < ((ol - f:Nat):Int):=by omega
      generalize (clp s f m i).early x=ex at g2
      generalize (clp s f m i).least x=lx at g3
      clear hx
      go_wp2_with fail
      go_roundw
      case rel=>exact ⟨i+1,by go_num,by omega,HS3.out.1,HS3.out.2⟩
      case measure=>simp [intOf];omega
     ·have hie:i=ol - f:=by omega
      subst hie
      have d4':=HS.out.1.c4
      have f4:=HS.out.1.soft 4
      clear d4
      go_wp2_with fail
      go_end0
      refine ⟨rfl,.slice (some ⟨gp,0,none⟩) f cv,Tj.close s f m,.inr ⟨HEQ.out,f,m,by rw [List.getElem?_eq_getElem hfl,HFB.out],HM.out.1,HM.out.2,rfl⟩,?_,?_⟩
      ·have h1:=HS.out.1.rp
       rw [show (clp s f m (ol - f)).op=s.op from rfl,H.out.2.2.1] at h1
       have h2:=row_take h1 f (by omega)
       have e3:(nv s.op).take (f * 1)=nv (s.op.take f):=by simp [nv,List.map_take]
       have e4:(s.op.take f).length=f:=by rw [List.length_take,H.out.2.2.1];omega
       rw [e3] at h2
       have h3:=HS.out.1.setp H.out.1 (v':=.slice (some ⟨gp,0,none⟩) f cv) (l:=s.op.take f) (by rw [e4];exact h2) (fun k hk=>HS.out.1.pn k hk)
       have h5:=clp_end (s:=s) (f:=f) (m:=m) (i:=ol - f) (by rw [HLD.out];exact Nat.le_refl _)
       rw [← h5]
       exact h3
      ·refine HS.out.2.trans ⟨OnlyP.of_only (Only.set _ _ _ _) (fun k hk _=>.inl (List.mem_singleton.1 hk)),fun k hk=>.inl hk⟩
   ·have hne:¬ ((b:Int)=(a:Int)):=by omega
    have hfk:f≠k0:=by
     rintro rfl
     have:=HK0.out
     rw [List.getElem?_eq_getElem hfl,hb] at this
     injection this with this
     exact hba this
    clear hb
    go_wp2_with fail
    go_roundw
    case rel=>exact ⟨f - 1,by go_num,by omega,by omega,by first | rfl | trivial⟩
    case measure=>simp [intOf];omega
end
section
open Go.RowKit Go.Maps
def pv:List (Nat×Nat)→List Value
 | []=>[]
 | p::r=>.int .i64 (p.1:Int)::.int .i64 (p.2:Int)::pv r
theorem pv_length:∀ l,(pv l).length=l.length * 2
 | []=>rfl
 | p::r=>by simp only [pv,List.length_cons,pv_length r];omega
theorem pv_append:∀ a b,pv (a++b)=pv a++pv b
 | [],b=>rfl
 | p::r,b=>by simp [pv,pv_append r b]
theorem pv_get:∀ (l:List (Nat×Nat)) (k:Nat) (h:k < l.length),(pv l)[k * 2]? = some (.int .i64 (l[k].1:Int))∧(pv l)[k * 2+1]? = some (.int .i64 (l[k].2:Int))
 | p::r,0,_=>⟨rfl,rfl⟩
 | p::r,k+1,h=>by
  have ih:=pv_get r k (by simpa using h)
  rw [show (k+1) * 2=k * 2+2 by omega]
  simp only [pv,List.getElem_cons_succ]
  exact ih
theorem pv_take (l:List (Nat×Nat)) (k:Nat) (h:k≤l.length):(pv l).take (k * 2)=pv (l.take k):=by
 have e:=List.take_append_drop k l
 have e2:pv l=pv (l.take k)++pv (l.drop k):=by rw [← pv_append,e]
 rw [e2,List.take_append_of_le_length (by rw [pv_length,List.length_take];omega),List.take_of_length_le (by rw [pv_length,List.length_take];omega)]
theorem app_P {w:World} {base N:Nat} (hN:w.heap.size=N) {v:Value} {l:List (Nat×Nat)} (x g:Nat) (hown:w.ownsRow base 262 2 v l.length (pv l)) (hb:l.length+1≤2000000) (hbase:base≤w.heap.size)
  {ops:Array Oper} {rest:List Oper} {o:Oper} {a:Act} {Q:Exit→Act→World→Prop} (hgd:o.guard=none) (s y:Operand)
  (ho:o.op=.call { callee:=.builtin .append,args:=#[s,y],argTypes:=#[260,260] }) (hv:a.eval s=v) (hx:a.eval y=.slice (some ⟨N,0,none⟩) 1 1)
  (h:∀ v' w',w'.ownsRow base 262 2 v' (l++[(x,g)]).length (pv (l++[(x,g)]))→(w.alloc (.cells #[.int .i64 (x:Int),.int .i64 (g:Int)] 262)).grownBy w' v.ownBlock→(v'.ownBlock=v.ownBlock∨v'.ownBlock=some (w.alloc (.cells #[.int .i64 (x:Int),.int .i64 (g:Int)] 262)).heap.size)→wpList Tryz.prog ops Q rest (a.put o.dst v') w') :
  wpList Tryz.prog ops Q (o::rest) a (w.alloc (.cells #[.int .i64 (x:Int),.int .i64 (g:Int)] 262)):=by
 have h1:(w.alloc (.cells #[.int .i64 (x:Int),.int .i64 (g:Int)] 262)).ownsRow base kP.e kP.sz v l.length (pv l):=row_later hown (balloc w _)
 have h2:Src Tryz.prog kP.sz kP.T (.slice (some ⟨w.heap.size,0,none⟩) 1 1) 1 [.int .i64 (x:Int),.int .i64 (g:Int)] (w.alloc (.cells #[.int .i64 (x:Int),.int .i64 (g:Int)] 262)):=src_K kP_ok w [.int .i64 (x:Int),.int .i64 (g:Int)] rfl (by simp [Value.oneCell'])
 subst hN
 refine app_K kP_ok h1 h2 (by omega) (Nat.le_trans hbase (balloc w _).size) hgd s y ho hv hx (fun v' w' g1 g2 g3=>h v' w' ?_ g2 g3)
 rw [pv_append,List.length_append]
 exact g1
section
variable {w0 w w' wE:World} {K:SK} {vp0 vp va:Value} {s:Tj.St} {v g:Nat} {R:List (Nat×Nat)}
theorem SE.tag (h:SE w0 K vp s w) {k:Nat} (hk:sF K vp k):∃ cur t,w.heap[k]? = some (.cells cur t (0,0))∧t≠262:=by
 rcases hk with e | e | e | e | e
 ·rw [e];exact ⟨_,224,h.blk,by decide⟩
 ·rw [e];exact ⟨_,3,h.rm,by decide⟩
 ·rw [e];exact ⟨_,3,h.re,by decide⟩
 ·rw [e];exact ⟨_,3,h.rl,by decide⟩
 ·obtain ⟨_,_,cur,hc⟩:=row_tag h.rp e
  exact ⟨cur,3,hc,by decide⟩
theorem SE.notag (h:SE w0 K vp s w) {k:Nat} {cur:Array Value} (hc:w.heap[k]? = some (.cells cur 262 (0,0))):¬ sF K vp k:=fun hk=>by
 obtain ⟨c2,t,h2,h3⟩:=h.tag hk
 rw [hc] at h2
 injection h2 with h2
 injection h2 with _ h2 _
 exact h3 h2.symm
structure WI (w0 wE:World) (K:SK) (vp0 vp va:Value) (s:Tj.St) (v g:Nat) (R:List (Nat×Nat)) (w:World):Prop where
 se:SE w0 K vp s w
 sx:SX K vp0 vp wE w
 bx:w.heap[wE.heap.size]? = some (.cells #[.int .i64 (v:Int),.int .i64 (g:Int)] 262 (0,0))
 rw:w.ownsRow (wE.heap.size+1) 262 2 va R.length (pv R.reverse)
 bE:w0.heap.size≤wE.heap.size
theorem WI.blt (h:WI w0 wE K vp0 vp va s v g R w):wE.heap.size < w.heap.size:=(Array.getElem?_eq_some_iff.1 h.bx).1
theorem WI.p0 (h:WI w0 wE K vp0 vp va s v g R w):w.cell? ⟨wE.heap.size,0,none⟩=some (.int .i64 (v:Int)):=by simp [World.cell?,h.bx]
theorem WI.p1 (h:WI w0 wE K vp0 vp va s v g R w):w.cell? ⟨wE.heap.size,1,none⟩=some (.int .i64 (g:Int)):=by simp [World.cell?,h.bx]
theorem WI.soft (h:WI w0 wE K vp0 vp va s v g R w) (o:Nat):w.frozen? ⟨wE.heap.size,o,none⟩=false:=by simp [World.frozen?,h.bx]
theorem WI.later (h:WI w0 wE K vp0 vp va s v g R w) (hb:Below w.heap.size w w'):WI w0 wE K vp0 vp va s v g R w':=
 ⟨h.se.later hb,h.sx.trans (sx_below hb),(hb.block _ h.blt).trans h.bx,row_later h.rw hb,h.bE⟩
theorem WI.va_ne (h:WI w0 wE K vp0 vp va s v g R w) {k:Nat} (hk:va.ownBlock=some k):k≠wE.heap.size∧¬ sF K vp k∧wE.heap.size < k:=by
 obtain ⟨h1,_,cur,h2⟩:=row_tag h.rw hk
 exact ⟨by omega,h.se.notag h2,by omega⟩
theorem WI.call {vp':Value} {s':Tj.St} (h:WI w0 wE K vp0 vp va s v g R w) (hs:SE w0 K vp' s' w') (hx:SX K vp vp' w w'):WI w0 wE K vp0 vp' va s' v g R w':=by
 refine ⟨hs,h.sx.trans hx,(hx.1.block _ h.blt (h.se.notag h.bx)).trans h.bx,row_kept h.rw (fun k hk=>?_),h.bE⟩
 exact hx.1.block k (row_tag h.rw hk).2.1 (h.va_ne hk).2.1
theorem WI.box (h:WI w0 wE K vp0 vp va s v g R w) {v' g':Nat} (ho:Only [wE.heap.size] w w') (hb:w'.heap[wE.heap.size]? = some (.cells #[.int .i64 (v':Int),.int .i64 (g':Int)] 262 (0,0))):WI w0 wE K vp0 vp va s v' g' R w':=by
 have hn:∀ k,sF K vp k→k∉[wE.heap.size]:=fun k hk e=>by
  rw [List.mem_singleton.1 e] at hk
  exact h.se.notag h.bx hk
 refine ⟨h.se.only ho (fun k hk=>by rw [List.mem_singleton.1 hk];exact h.bE) (hn _ (.inl rfl)) (hn _ (.inr (.inl rfl))) (hn _ (.inr (.inr (.inl rfl)))) (hn _ (.inr (.inr (.inr (.inl rfl))))) (fun k hk=>hn _ (.inr (.inr (.inr (.inr hk))))),⟨h.sx.1.trans (OnlyP.of_only (F:=fun k=>k=wE.heap.size) ho (fun k hk _=>List.mem_singleton.1 hk)) (fun i hi e=>by omega),h.sx.2⟩,hb,row_only h.rw ho (fun k hk e=>(h.va_ne hk).1 (List.mem_singleton.1 e)),h.bE⟩
theorem WI.setg (h:WI w0 wE K vp0 vp va s v g R w) (g':Nat):WI w0 wE K vp0 vp va s v g' R (w.setCell ⟨wE.heap.size,1,none⟩ (.int .i64 (g':Int))):=
 h.box (Only.set _ _ _ _) (by rw [heap_setCell w _ 1 _ h.bx];rfl)
theorem WI.setat (h:WI w0 wE K vp0 vp va s v g R w) (v' g':Nat):WI w0 wE K vp0 vp va s v' g' R ((w.setCell ⟨wE.heap.size,0,none⟩ (.int .i64 (v':Int))).setCell ⟨wE.heap.size,1,none⟩ (.int .i64 (g':Int))):=by
 refine h.box (only_set2 _ _ _ _ _ _) ?_
 rw [heap_setCell _ _ 1 _ (heap_setCell w _ 0 _ h.bx)]
 rfl
theorem WI.push (h:WI w0 wE K vp0 vp va s v g R w) {o:Obj} {v':Value} {p:Nat×Nat} (hg:(w.alloc o).grownBy w' va.ownBlock) (hr:w'.ownsRow (wE.heap.size+1) 262 2 v' (R.reverse++[p]).length (pv (R.reverse++[p]))):WI w0 wE K vp0 vp v' s v g (p::R) w':=by
 have ho:Only va.ownBlock.toList w w':=only_alloc hg
 have hn:∀ k,k∈va.ownBlock.toList→va.ownBlock=some k:=fun k hk=>by simpa using hk
 have hf:∀ k,sF K vp k→k∉va.ownBlock.toList:=fun k hk e=>(h.va_ne (hn k e)).2.1 hk
 refine ⟨h.se.only ho (fun k hk=>by have:=(h.va_ne (hn k hk)).2.2;have:=h.bE;omega) (hf _ (.inl rfl)) (hf _ (.inr (.inl rfl))) (hf _ (.inr (.inr (.inl rfl)))) (hf _ (.inr (.inr (.inr (.inl rfl))))) (fun k hk=>hf _ (.inr (.inr (.inr (.inr hk))))),⟨h.sx.1.trans (OnlyP.of_only (F:=fun k=>wE.heap.size < k) ho (fun k hk _=>(h.va_ne (hn k hk)).2.2)) (fun i hi e=>by omega),h.sx.2⟩,(ho.block _ h.blt (fun e=>(h.va_ne (hn _ e)).1 rfl)).trans h.bx,?_,h.bE⟩
 rw [List.reverse_cons]
 simpa using hr
theorem WI.last {p:Nat×Nat} (h:WI w0 wE K vp0 vp va s v g (p::R) w):∃ ga ca,va=.slice (some ⟨ga,0,none⟩) (R.length+1) ca∧R.length+1≤ca∧w.cell? ⟨ga,R.length * 2,none⟩=some (.int .i64 (p.1:Int))∧w.cell? ⟨ga,R.length * 2+1,none⟩=some (.int .i64 (p.2:Int))∧
  ga≠wE.heap.size∧WI w0 wE K vp0 vp (.slice (some ⟨ga,0,none⟩) R.length ca) s v g R w:=by
 obtain ⟨ga,ca,e,hc,hg,hl⟩:=row_place h.rw (by simp)
 simp only [List.length_cons] at e hc
 have h1:=h.rw
 rw [e] at h1
 simp only [List.length_cons,List.reverse_cons] at h1
 have hk:R.length < (R.reverse++[p]).length:=by simp
 obtain ⟨a1,a2⟩:=pv_get (R.reverse++[p]) R.length hk
 have e3:(R.reverse++[p])[R.length]=p:=by
  rw [List.getElem_append_right (by simp)]
  simp
 rw [e3] at a1 a2
 refine ⟨ga,ca,e,hc,row_cell h1 a1,row_cell h1 a2,by omega,⟨h.se,h.sx,h.bx,?_,h.bE⟩⟩
 have h2:=row_take h1 R.length (by omega)
 rw [pv_take _ _ (by simp)] at h2
 rw [List.take_append_of_le_length (by simp),List.take_of_length_le (by simp)] at h2
 exact h2
end
end
end Go.Proofs.YtppnbdnpapellaaGreatDoor
