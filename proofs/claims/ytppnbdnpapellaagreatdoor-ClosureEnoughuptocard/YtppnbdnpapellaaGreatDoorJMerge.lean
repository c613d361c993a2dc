import Derived.Test.YtppnbdnpapellaaGreatDoorLo
import Derived.Test.YtppnbdnpapellaaGreatDoorJFil
import Derived.Test.YtppnbdnpapellaaGreatDoorJBase
import Derived.Test.YtppnbdnpapellaaGreatDoorJOrd
import Derived.Deep.RegionLaw
import Derived.Deep.RegionHeld3
set_option maxRecDepth 100000
set_option maxHeartbeats 16000000
namespace Go.Proofs.YtppnbdnpapellaaGreatDoor
section
open Go.RowKit Go.Maps
attribute [local go_sem] Oper.semAt_some
theorem cof_none {w:World} {lv tv:Value} {l:List Fl} {t:List Lb} (E0:Ev w) (hf:FS w lv l) (ht:LS w tv t) (B:OfB l t) (hz:¬ (refE l t=0∧NoF l t)) :
  Calls Tryz.prog 7 #[lv,tv] w (CloP w l t):=by
 obtain ⟨fa,fcp,hfv,_⟩:=hf.form
 obtain ⟨fn,hfn⟩:∃ fn,l.length=fn:=⟨_,rfl⟩
 rw [hfn] at hfv
 subst hfv
 obtain ⟨ta,tc,htv,-⟩:=ht.form
 obtain ⟨tn,htn⟩:∃ tn,t.length=tn:=⟨_,rfl⟩
 rw [htn] at htv
 subst htv
 obtain ⟨w0,hw0⟩:∃ w0,w.alloc (.cells #[.int .i64 0,.string { data:=#[] },.string { data:=#[] },.string { data:=#[] },.string { data:=#[] },.string { data:=#[] },.int .i64 0,.slice none 0 0] 29)=w0:=⟨_,rfl⟩
 have b0:Below w.heap.size w w0:=by rw [← hw0];exact balloc _ _
 have H0:Hid (w.alloc (.cells #[.int .i64 0,.string { data:=#[] },.string { data:=#[] },.string { data:=#[] },.string { data:=#[] },.string { data:=#[] },.int .i64 0,.slice none 0 0] 29)=w0∧Below w.heap.size w w0∧FK w0 w.heap.size zFv):=⟨hw0,b0,by rw [← hw0];exact FK.new w zFv⟩
 have HBO:Hid (Calls Tryz.prog 11 #[.slice fa fn fcp,.slice ta tn tc] w0 (OfP w0 l t)):=bof_any (E0.later b0) (hf.later b0) (ht.later b0) B
 have HZ:Hid (¬ (refE l t=0∧NoF l t)):=hz
 clear E0 hf ht B hz hfn htn hw0 b0
 go_enter Tryz.func7,Tryz.ntmps7
 go_wp2_with fail
 try rw [H0.out.1]
 refine HBO.out.mono ?_
 rintro e w1 h
 unfold OfP at h
 obtain ⟨nv,fv,N,E,c,rfl,hS,hno,hfi,hb1⟩:=h
 have hcode:(bldP l t N E c).2.code≠0:=fun h=>HZ.out ((bld_zero hS).1 h)
 have hnil:(bldP l t N E c).1=[]:=by
  rcases bld_ok (l:=l) (t:=t) (N:=N) (E:=E) (c:=c) with ⟨_,h⟩ | ⟨h,_⟩
  ·exact h
  ·exact absurd h hcode
 rw [hnil] at hno
 obtain ⟨na,ncp,hnv⟩:=hno.form
 simp only [List.length_nil] at hnv
 subst hnv
 obtain ⟨fc,⟨lp,ln⟩,⟨op,on⟩,fp,fa',ca,cn,cc⟩:=fv
 have hfc:fc=(bldP l t N E c).2.code:=congrArg Pf.code hfi.it
 rw [← hfc] at hcode
 have n1:(fc == 0)=false:=by simpa using hcode
 have n2:decide (fc=0)=false:=by simpa using hcode
 have HIS:Hid (FvIs w0.heap.size w1 ⟨fc,⟨lp,ln⟩,⟨op,on⟩,fp,fa',ca,cn,cc⟩ (bldP l t N E c).2∧(bldP l t N E c).1=[]∧(refE l t=0→RchS l t N E c)):=⟨hfi,hnil,hS⟩
 have HB1:Hid (Below w0.heap.size w0 w1):=hb1
 clear hfi hnil hS hb1 hno hfc HBO hcode
 have hval:Fv.val ⟨fc,⟨lp,ln⟩,⟨op,on⟩,fp,fa',ca,cn,cc⟩=.agg #[.int .i64 fc,.string (bs lp),.string (bs ln),.string (bs op),.string (bs on),.string (bs fp),.int .i64 fa',.slice ca cn cc]:=rfl
 rw [hval]
 clear hval
 obtain ⟨w5,hw5⟩:∃ w5,w1.alloc (.cells #[.int .i64 fc,.string (bs lp),.string (bs ln),.string (bs op),.string (bs on),.string (bs fp),.int .i64 fa',.slice ca cn cc] 29)=w5:=⟨_,rfl⟩
 have HB5:Hid (Below w1.heap.size w1 w5):=by
  show Below w1.heap.size w1 w5
  rw [← hw5];exact balloc _ _
 have HF5:Hid (FK w5 w.heap.size zFv):=(H0.out.2.2.later HB1.out).later HB5.out
 have HG5:Hid (FK w5 w1.heap.size ⟨fc,⟨lp,ln⟩,⟨op,on⟩,fp,fa',ca,cn,cc⟩):=by
  show FK w5 w1.heap.size ⟨fc,⟨lp,ln⟩,⟨op,on⟩,fp,fa',ca,cn,cc⟩
  rw [← hw5];exact FK.new _ ⟨fc,⟨lp,ln⟩,⟨op,on⟩,fp,fa',ca,cn,cc⟩
 have HWZ:Hid (w.heap.size < w0.heap.size):=H0.out.2.2.lt
 have q0:w5.cell? ⟨w1.heap.size,0,none⟩=some (.int .i64 fc):=HG5.out.get.1
 go_upto_region 3 with fail
 try rw [hw5]
 clear hw5 q0
 refine wp_region_noPanic ?_
 refine wp_region_held_drew (S:=fun _=>True) (by kernel_rfl) trivial (fun hHeld=>?_)
 obtain ⟨wd,hwd⟩:∃ wd,w5.drew=wd:=⟨_,rfl⟩
 have HD:Hid (Below w5.heap.size w5 wd):=by
  show Below w5.heap.size w5 wd
  rw [← hwd];exact bd1 w5
 rw [hwd]
 clear hwd
 obtain ⟨z0,z1,z2,z3,z4,z5,z6,z7⟩:=(HF5.out.later HD.out).get
 have y0:=(HF5.out.later HD.out).soft 0
 have y1:=(HF5.out.later HD.out).soft 1
 have y2:=(HF5.out.later HD.out).soft 2
 have y3:=(HF5.out.later HD.out).soft 3
 have y4:=(HF5.out.later HD.out).soft 4
 have y5:=(HF5.out.later HD.out).soft 5
 have y6:=(HF5.out.later HD.out).soft 6
 have y7:=(HF5.out.later HD.out).soft 7
 obtain ⟨u0,u1,u2,u3,u4,u5,u6,u7⟩:=(HG5.out.later HD.out).get
 refine tkH 1 ⟨some 4,_,_,_,_,_⟩ ?v1 rfl (Or.inl ⟨by rfl,?y1⟩) ?r1
 case y1=>(intro w h;(try dsimp only at h);go_simp;try with_reducible rfl)
 try simp only [Act.put,sA,sB,sC]
 refine wpAnyH_ready (rs:=[0]) (by kernel_rfl) (by simp) ?_
 refine AllReadyH.cons (o:=⟨some 19,_,_,_,_,_⟩) rfl (fun K hK=>?_) AllReadyH.nil
 go_simp
 refine hK.out _ _ trivial (fun hHeld=>?_)
 clear hK K
 try simp only [sA,sB,sC]
 refine wpAnyH_ready (rs:=[2]) (by kernel_rfl) (by simp) ?_
 refine AllReadyH.cons (o:=⟨none,_,_,_,_,_⟩) rfl (fun K hK=>?_) AllReadyH.nil
 go_simp
 refine hK.out _ _ trivial (fun hHeld=>?_)
 clear hK K
 try simp only [sA,sB,sC]
 refine wpAnyH_done (by kernel_rfl) ?_ _
 refine NoPanic.normal ?_
 clear z0 z1 z2 z3 z4 z5 z6 z7 y0 y1 y2 y3 y4 y5 y6 y7 u0 u1 u2 u3 u4 u5 u6 u7
 go_wp2_with fail
 have HP:=putF_only wd w.heap.size ⟨fc,⟨lp,ln⟩,⟨op,on⟩,fp,fa',ca,cn,cc⟩
 refine bodyPost_ret (results_tc rfl _ _ w.heap.size 29 #[.int .i64 fc,.string (bs lp),.string (bs ln),.string (bs op),.string (bs on),.string (bs fp),.int .i64 fa',.slice ca cn cc] (0,0) _ rfl ((HF5.out.later HD.out).set ⟨fc,⟨lp,ln⟩,⟨op,on⟩,fp,fa',ca,cn,cc⟩).blk Tryz.underlying29 rfl (by kernel_rfl)) rfl ?_
 unfold CloP
 have hbb:=bstep (bstep (bstep H0.out.2.1 HB1.out) HB5.out) HD.out
 have hbz:=below_trans hbb (HP.below hbb.size (fun x hx=>by simp at hx;omega))
 refine ⟨.slice none 0 0,⟨fc,⟨lp,ln⟩,⟨op,on⟩,fp,fa',ca,cn,cc⟩,N,E,c,rfl,HIS.out.2.2,?_,?_,hbz⟩
 ·rw [HIS.out.2.1];exact Own.nil _ _
 ·have h1:=((HIS.out.1.later HB5.out).later HD.out).kept HP (fun k hk=>by
   simp at hk
   have h3:=HWZ.out
   omega)
  exact h1.mono H0.out.2.1.size
theorem cof_any {w:World} {lv tv:Value} {l:List Fl} {t:List Lb} (E0:Ev w) (hf:FS w lv l) (ht:LS w tv t) (B:OfB l t) :
  Calls Tryz.prog 7 #[lv,tv] w (CloP w l t):=by
 by_cases hz:refE l t=0∧NoF l t
 ·exact cof_some E0 hf ht B hz
 ·exact cof_none E0 hf ht B hz
end
section
open Go.RowKit
theorem same_any {w:World} {va vb:Value} {A B:List (List UInt8)} (h1:SS w va A) (h2:SS w vb B) (hA:A.length≤9223372036854775807) :
  Calls Tryz.prog 9 #[va,vb] w fun e w'=>e=.returned (.bool (decide (A=B)))∧∃ n,w'=w.drewN n:=by
 obtain ⟨a,c,rfl,ca⟩:=h1.form
 obtain ⟨b,c',rfl,cb⟩:=h2.form
 have CA:Hid (∀ k,(hk:k < A.length)→∃ b off,a=some ⟨b,off,none⟩∧b < w.heap.size∧w.cell? ⟨b,off+k,none⟩=some (.string (bs A[k]))):=ca
 have CB:Hid (∀ k,(hk:k < B.length)→∃ b' off,b=some ⟨b',off,none⟩∧b' < w.heap.size∧w.cell? ⟨b',off+k,none⟩=some (.string (bs B[k]))):=cb
 clear ca cb h1 h2
 by_cases hl:A.length=B.length
 ·have e1:(((A.length:Int)) != (B.length:Int))=false:=by rw [hl];simp
  obtain ⟨r,hr⟩:∃ r,decide (A=B)=r:=⟨_,rfl⟩
  rw [hr]
  have HR:Hid (decide (A.drop 0=B.drop 0)=r):=hr
  clear hr
  go_enter Tryz.func9,Tryz.ntmps9
  go_wp2_with fail
  go_loopw [5] (fun i wr=>∃ k n:Nat,k≤A.length∧i=.int .i64 k∧wr=w.drewN n∧decide (A.drop k=B.drop k)=r) (fun i _=>A.length - (intOf i).toNat)
  case atStart=>exact ⟨0,0,Nat.zero_le _,rfl,rfl,HR.out⟩
  case round=>
   obtain ⟨k,n,hk,rfl,rfl,hd⟩:=hrel
   have HD:Hid (decide (A.drop k=B.drop k)=r):=hd
   clear hd
   by_cases hlt:k < A.length
   ·have hlt2:k < B.length:=by omega
    obtain ⟨g1,o1,rfl,hg1,c1⟩:=CA.out k hlt
    obtain ⟨g2,o2,rfl,hg2,c2⟩:=CB.out k hlt2
    have hd:=HD.out
    rw [drop_same hlt hlt2] at hd
    by_cases heq:A[k]'hlt=B[k]'hlt2
    ·have t1:(bs (A[k]'hlt)).toList=A[k]'hlt:=bs_toList _
     have t2:(bs (B[k]'hlt2)).toList=A[k]'hlt:=by rw [bs_toList,heq]
     have hd2:decide (A.drop (k+1)=B.drop (k+1))=r:=by rw [← hd];simp [heq]
     have HD2:Hid (decide (A.drop (k+1)=B.drop (k+1))=r):=hd2
     clear hd hd2
     go_wp2_with fail
     go_region
     go_wp2_with fail
     go_roundw
     case rel=>exact ⟨k+1,n+1,by omega,by go_num,rfl,HD2.out⟩
     case measure=>simp [intOf];omega
    ·have t1:(bs (A[k]'hlt)).toList=A[k]'hlt:=bs_toList _
     have t2:(bs (B[k]'hlt2)).toList=B[k]'hlt2:=bs_toList _
     have t3:((A[k]'hlt) == (B[k]'hlt2))=false:=by rw [beq_eq_false_iff_ne];exact heq
     have hd2:false=r:=by rw [← hd];simp [heq]
     subst hd2
     clear hd
     go_wp2_with fail
     go_region
     go_wp2_with fail
     go_ret
     exact ⟨rfl,n+1,rfl⟩
   ·obtain rfl:k=A.length:=by omega
    have hd:=HD.out
    have hd2:true=r:=by rw [← hd,List.drop_length,hl,List.drop_length];simp
    subst hd2
    clear hd
    go_wp2_with fail
    go_ret
    exact ⟨rfl,n,rfl⟩
 ·have e1:(((A.length:Int)) != (B.length:Int))=true:=by rw [bne_iff_ne];omega
  have e2:decide (A=B)=false:=by rw [decide_eq_false_iff_not];intro e;exact hl (by rw [e])
  rw [e2]
  go_enter Tryz.func9,Tryz.ntmps9
  go_wp2_with fail
  go_ret
  exact ⟨rfl,0,rfl⟩
end
section
open Go.RowKit
theorem qtake_any {w:World} {base:Nat} {v x:Value} {l k:List (List UInt8)} (wt:Bool) (hown:Own base w v l) (hs:SS w x k) (hb:l.length+k.length≤2000000000) (hbase:base≤w.heap.size) :
  Calls Tryz.prog 80 #[v,x,.bool wt] w fun e w'=>∃ v',e=.returned v'∧Own base w' v' (l++if wt then k else [])∧Below base w w':=by
 have HO:Hid (Own base w v l):=hown
 have HS:Hid (Src Tryz.prog 1 24 x k.length (sc k) w):=hs.src und86
 clear hown hs
 cases wt
 ·go_enter Tryz.func80,Tryz.ntmps80
  go_wp2_with fail
  go_ret
  exact ⟨v,rfl,by simpa using HO.out,Below.refl _ _⟩
 ·go_enter Tryz.func80,Tryz.ntmps80
  go_wp2_with (at_builtin;refine app_strs HO.out HS.out (by omega) hbase rfl (.tmp 10) (.tmp 11) rfl rfl rfl ?_;intro v' w' h1 h2 h3)
  have H1:Hid (Own base w' v' (l++k)):=h1
  have H2:Hid (Below base w w'):=(Below.refl _ _).grown h2 hbase (fun k hk=>(HO.out.lt hk).1)
  clear h1 h2 h3
  go_wp2_with fail
  go_ret
  exact ⟨v',rfl,by simpa using H1.out,H2.out⟩
end
section
open Go.RowKit
theorem SS.tail {w:World} {a:Option Addr} {c n:Nat} {x:List UInt8} {A:List (List UInt8)} (h:SS w (.slice a n c) (x::A)) :
  ∃ b off,a=some ⟨b,off,none⟩∧b < w.heap.size∧n=A.length+1∧n≤c∧w.cell? ⟨b,off,none⟩=some (.string (bs x))∧SS w (.slice (some ⟨b,off,none⟩) 1 c) [x]∧SS w (.slice (some ⟨b,off+1,none⟩) (n - 1) (c - 1)) A:=by
 rcases h with ⟨_,h0⟩ | ⟨b,off,cap,e,hc,hlt,hcell⟩
 ·cases h0
 ·injection e with e1 e2 e3
  subst e1
  subst e3
  have hn:n=A.length+1:=by simpa using e2
  have hc':n≤c:=by simp at hc;omega
  have h0:=hcell 0 (.string (bs x)) (by simp [sc])
  refine ⟨b,off,rfl,hlt,hn,hc',h0,.inr ⟨b,off,c,rfl,by simp;omega,hlt,fun i u hu=>?_⟩,.inr ⟨b,off+1,c - 1,by rw [hn];rfl,by omega,hlt,fun i u hu=>?_⟩⟩
  ·cases i with
   | zero=>simp [sc] at hu;subst hu;exact h0
   | succ i=>simp [sc] at hu
  ·have:=hcell (i+1) u (by simpa [sc] using hu)
   rw [show off+1+i=off+(i+1) by omega];exact this
theorem SS.zero {w:World} {p:Option Addr} {n c:Nat} {A:List (List UInt8)} (h:SS w (.slice p n c) A) (hc:n≤c) (h0:c=0) (p':Option Addr) (c':Nat):SS w (.slice p' n c') A:=by
 have hn:n=0:=by omega
 subst hn
 refine .inl ⟨⟨_,_,rfl⟩,?_⟩
 obtain ⟨a,c2,e,_⟩:=h.form
 injection e with _ e2 _
 exact List.eq_nil_of_length_eq_zero e2.symm
theorem bdrw {B:Nat} {w w1:World} (h:Below B w w1):Below B w w1.drew:=⟨h.os,h.tape,h.output,h.size,h.block⟩
theorem SS.len' {w:World} {v:Value} {L:List (List UInt8)} (h:SS w v L):∃ a c n,n=L.length∧v=.slice a n c:=by
 obtain ⟨a,c,e,_⟩:=h.form
 exact ⟨a,c,_,rfl,e⟩
theorem SS.own {w:World} {v:Value} {L:List (List UInt8)} (h:SS w v L) {B:Nat} (hB:w.heap.size≤B):∀ k,v.ownBlock=some k→k < B∨L=[]:=by
 intro k hk
 rcases h with ⟨⟨a,c,rfl⟩,h0⟩ | ⟨b,off,cap,rfl,hc,hlt,hcell⟩
 ·exact .inr h0
 ·simp [Value.ownBlock] at hk;subst hk;exact .inl (by omega)
theorem SS.kept {w w':World} {v:Value} {l:List (List UInt8)} {B:Nat} (h:SS w v l) (hB:w.heap.size≤B) (hb:Below B w w'):SS w' v l:=by
 rcases h with h | ⟨b,off,cap,rfl,hc,hlt,hcell⟩
 ·exact .inl h
 ·refine .inr ⟨b,off,cap,rfl,hc,Nat.lt_of_lt_of_le hlt hb.size,fun i u hu=>?_⟩
  rw [hb.cell (p:=⟨b,off+i,none⟩) (by show b < B;omega)];exact hcell i u hu
theorem merge_any {w:World} {va vb:Value} {A B:List (List UInt8)} (f m s:Bool) (h1:SS w va A) (h2:SS w vb B) (ua:Up A) (ub:Up B) (sa:Sm A) (sb:Sm B) :
  Calls Tryz.prog 47 #[va,vb,.func (.func 36) #[] #[],.agg #[.bool f,.bool m,.bool s]] w fun e w'=>∃ v',e=.returned v'∧Own w.heap.size w' v' (pick f m s A B)∧Below w.heap.size w w':=by
 obtain ⟨R,hR⟩:∃ R,pick f m s A B=R:=⟨_,rfl⟩
 rw [hR]
 have HR:Hid (pick f m s A B=R):=hR
 clear hR
 have H1:Hid (SS w va A∧Up A∧Sm A):=⟨h1,ua,sa⟩
 have H2:Hid (SS w vb B∧Up B∧Sm B):=⟨h2,ub,sb⟩
 clear h1 h2 ua ub sa sb
 obtain ⟨G,hG⟩:∃ G,w.heap.size=G:=⟨_,rfl⟩
 have hga:w.heap.size≤G:=by omega
 have hgb:G≤w.heap.size:=by omega
 obtain ⟨wb,hwb⟩:∃ wb,w.alloc (.cells #[.bool f,.bool m,.bool s] 61)=wb:=⟨_,rfl⟩
 have HB0:Hid (wb.heap.size=G+1∧Below G w wb∧wb.cell? ⟨G,0,none⟩=some (.bool f)∧wb.cell? ⟨G,1,none⟩=some (.bool m)∧wb.cell? ⟨G,2,none⟩=some (.bool s)):=by
  rw [← hwb,← hG]
  exact ⟨by simp,balloc _ _,by simp,by simp,by simp⟩
 go_enter Tryz.func47,Tryz.ntmps47
 go_wp2_with fail
 clear hwb
 go_loopg [0,1,9] (A.length+B.length) (fun g xa xb xo wr=>∃ (A' B' O:List (List UInt8)),SS w xa A'∧SS w xb B'∧Up A'∧Up B'∧Sm A'∧Sm B'∧Own (G+1) wr xo O∧Below (G+1) wb wr∧O++pick f m s A' B'=R∧O.length+A'.length+B'.length≤2000000000∧A'.length+B'.length≤g)
 case atStart=>exact ⟨A,B,[],H1.out.1,H2.out.1,H1.out.2.1,H2.out.2.1,H1.out.2.2,H2.out.2.2,Own.nil _ _,Below.refl _ _,HR.out,by have:=H1.out.2.2.len;have:=H2.out.2.2.len;simp;omega,Nat.le_refl _⟩
 case round=>
  obtain ⟨A',B',O,hx,hy,ua,ub,sa,sb,ho,hbw,hp,hlen,hg⟩:=hrel
  have hwr:G+1≤wr.heap.size:=by have:=hbw.size;have:=HB0.out.1;omega
  have c0:wr.cell? ⟨G,0,none⟩=some (.bool f):=by rw [hbw.cell (p:=⟨G,0,none⟩) (by simp)];exact HB0.out.2.2.1
  have c1:wr.cell? ⟨G,1,none⟩=some (.bool m):=by rw [hbw.cell (p:=⟨G,1,none⟩) (by simp)];exact HB0.out.2.2.2.1
  have c2:wr.cell? ⟨G,2,none⟩=some (.bool s):=by rw [hbw.cell (p:=⟨G,2,none⟩) (by simp)];exact HB0.out.2.2.2.2
  have hwwr:Below G w wr:=below_trans HB0.out.2.1 (below_mono hbw (by omega))
  have HO:Hid (Own (G+1) wr u9 O):=ho
  have HW:Hid (Below (G+1) wb wr):=hbw
  have HWW:Hid (Below G w wr):=hwwr
  have HP:Hid (O++pick f m s A' B'=R):=hp
  have HX:Hid (SS w u0 A'∧Up A'∧Sm A'):=⟨hx,ua,sa⟩
  have HY:Hid (SS w u1 B'∧Up B'∧Sm B'):=⟨hy,ub,sb⟩
  have HL:Hid (O.length+A'.length+B'.length≤2000000000):=hlen
  have HG:Hid (A'.length+B'.length≤gk):=hg
  have HE:Hid (A'=[]∨B'=[]→(O++if f then A' else [])++(if s then B' else [])=R):=fun he=>by
   rw [← HP.out,List.append_assoc]
   congr 1
   rcases he with rfl | rfl
   ·rw [nil_pick f m s HY.out.2.1];simp
   ·rw [pick_nil f m s HX.out.2.1];simp
  clear ho hbw hwwr hp ua ub sa sb hlen hg
  obtain ⟨a,ca,na,hna,rfl⟩:=hx.len'
  obtain ⟨b,cb,nb,hnb,rfl⟩:=hy.len'
  clear hx hy
  by_cases he:A'=[]∨B'=[]
  ·have hlz:0 < na→¬ 0 < nb:=by
    rcases he with rfl | rfl
    ·simp at hna;omega
    ·simp at hnb;omega
   have HE2:Hid ((O++if f=true then A' else [])++(if s=true then B' else [])=R):=HE.out he
   have HN:Hid (na=A'.length∧nb=B'.length):=⟨hna,hnb⟩
   clear he hna hnb
   by_cases h0:0 < na
   ·have h00:¬ 0 < nb:=hlz h0
    clear hlz
    go_wp2_with fail
    refine (qtake_any f HO.out (HX.out.1.kept hga HWW.out) (by have:=HL.out;omega) hwr).mono ?_
    rintro e w1 ⟨v1,rfl,ho1,hb1⟩
    have HO1:Hid (Own (G+1) w1 v1 (O++if f=true then A' else [])):=ho1
    have HB1:Hid (Below G w w1):=below_trans HWW.out (below_mono hb1 (by omega))
    have c3:w1.cell? ⟨G,2,none⟩=some (.bool s):=by rw [hb1.cell (p:=⟨G,2,none⟩) (by simp)];exact c2
    have hw1:G+1≤w1.heap.size:=by have:=hb1.size;omega
    have hl1:(O++if f=true then A' else []).length+B'.length≤2000000000:=by
     have:=HL.out
     rw [List.length_append]
     cases f
     ·simp;omega
     ·simp;omega
    have HL1:Hid ((O++if f=true then A' else []).length+B'.length≤2000000000):=hl1
    clear hl1
    clear ho1 hb1
    go_wp2_with fail
    refine (qtake_any s HO1.out (HY.out.1.kept hga HB1.out) HL1.out hw1).mono ?_
    rintro e w2 ⟨v2,rfl,ho2,hb2⟩
    have HO2:Hid (Own (G+1) w2 v2 ((O++if f=true then A' else [])++if s=true then B' else [])):=ho2
    have HB2:Hid (Below G w w2):=below_trans HB1.out (below_mono hb2 (by omega))
    clear ho2 hb2
    go_wp2_with fail
    go_ret
    refine ⟨v2,rfl,?_,below_mono HB2.out hga⟩
    have h:=HO2.out
    rw [HE2.out] at h
    exact h.mono (by omega)
   ·clear hlz
    go_wp2_with fail
    refine (qtake_any f HO.out (HX.out.1.kept hga HWW.out) (by have:=HL.out;omega) hwr).mono ?_
    rintro e w1 ⟨v1,rfl,ho1,hb1⟩
    have HO1:Hid (Own (G+1) w1 v1 (O++if f=true then A' else [])):=ho1
    have HB1:Hid (Below G w w1):=below_trans HWW.out (below_mono hb1 (by omega))
    have c3:w1.cell? ⟨G,2,none⟩=some (.bool s):=by rw [hb1.cell (p:=⟨G,2,none⟩) (by simp)];exact c2
    have hw1:G+1≤w1.heap.size:=by have:=hb1.size;omega
    have hl1:(O++if f=true then A' else []).length+B'.length≤2000000000:=by
     have:=HL.out
     rw [List.length_append]
     cases f
     ·simp;omega
     ·simp;omega
    have HL1:Hid ((O++if f=true then A' else []).length+B'.length≤2000000000):=hl1
    clear hl1
    clear ho1 hb1
    go_wp2_with fail
    refine (qtake_any s HO1.out (HY.out.1.kept hga HB1.out) HL1.out hw1).mono ?_
    rintro e w2 ⟨v2,rfl,ho2,hb2⟩
    have HO2:Hid (Own (G+1) w2 v2 ((O++if f=true then A' else [])++if s=true then B' else [])):=ho2
    have HB2:Hid (Below G w w2):=below_trans HB1.out (below_mono hb2 (by omega))
    clear ho2 hb2
    go_wp2_with fail
    go_ret
    refine ⟨v2,rfl,?_,below_mono HB2.out hga⟩
    have h:=HO2.out
    rw [HE2.out] at h
    exact h.mono (by omega)
  ·obtain ⟨x,A2,rfl⟩:∃ x A2,A'=x::A2:=by
    cases A' with
    | nil=>exact absurd (Or.inl rfl) he
    | cons x A2=>exact ⟨x,A2,rfl⟩
   obtain ⟨y,B2,rfl⟩:∃ x A2,B'=x::A2:=by
    cases B' with
    | nil=>exact absurd (Or.inr rfl) he
    | cons x A2=>exact ⟨x,A2,rfl⟩
   clear he HE hna hnb
   obtain ⟨ga,oa,rfl,lga,na2,kca,cxa,sxa,txa⟩:=HX.out.1.tail
   obtain ⟨gb,ob,rfl,lgb,nb2,kcb,cxb,sxb,txb⟩:=HY.out.1.tail
   have hna:1≤na:=by omega
   have hnb:1≤nb:=by omega
   have ka1:(1:Int)≤(ca:Int):=by omega
   have kb1:(1:Int)≤(cb:Int):=by omega
   have HN:Hid (na=A2.length+1∧nb=B2.length+1):=⟨na2,nb2⟩
   have SX:Hid (SS w (.slice (some ⟨ga,oa,none⟩) 1 ca) [x]∧SS w (.slice (some ⟨ga,oa+1,none⟩) (na - 1) (ca - 1)) A2):=⟨sxa,txa⟩
   have SY:Hid (SS w (.slice (some ⟨gb,ob,none⟩) 1 cb) [y]∧SS w (.slice (some ⟨gb,ob+1,none⟩) (nb - 1) (cb - 1)) B2):=⟨sxb,txb⟩
   have cA:wr.cell? ⟨ga,oa,none⟩=some (.string (bs x)):=by rw [HWW.out.cell (p:=⟨ga,oa,none⟩) (by show ga < G;omega)];exact cxa
   have cB:wr.cell? ⟨gb,ob,none⟩=some (.string (bs y)):=by rw [HWW.out.cell (p:=⟨gb,ob,none⟩) (by show gb < G;omega)];exact cxb
   clear cxa cxb sxa txa sxb txb na2 nb2
   have lga2:ga < wr.heap.size:=by omega
   have lgb2:gb < wr.heap.size:=by omega
   obtain ⟨o,hoo⟩:∃ o,cf x y=o:=⟨_,rfl⟩
   have HC:Hid (∀ W:World,Calls Tryz.prog 36 #[.string (bs x),.string (bs y)] W fun e w'=>e=.returned (.int .i64 o)∧Laid W w'):=fun W=>by
    rw [← hoo]
    exact cmp_any x y W (by have:=HX.out.2.2.each x (by simp);omega) (by have:=HY.out.2.2.each y (by simp);omega)
   have HOO:Hid (cf x y=o):=hoo
   clear hoo
   go_wp2_with fail
   go_region_held3 (fun w'=>w'.cell? ⟨ga,oa,none⟩=some (.string (bs x))∧w'.cell? ⟨gb,ob,none⟩=some (.string (bs y))) (first | go_keep | (exact ⟨(by rw [hb8.cell (p:=⟨ga,oa,none⟩) lga2];exact cA),(by rw [hb8.cell (p:=⟨gb,ob,none⟩) lgb2];exact cB)⟩)) (first | (go_at_call 36;refine (HC.out _).mono ?_;rintro e w' ⟨rfl,hl9⟩;have hb8:Below wr.heap.size wr w':=bstep (Below.refl _ _).drew hl9.below))
   obtain ⟨wx,hwx⟩:∃ wx,wx=w':=⟨_,rfl⟩
   subst hwx
   have HO8:Hid (Own (G+1) wx u9 O):=HO.out.later hb8
   have HWW8:Hid (Below G w wx):=below_trans HWW.out (below_mono hb8 (by omega))
   have HW8:Hid (Below (G+1) wb wx):=below_trans HW.out (below_mono hb8 hwr)
   have hwx:G+1≤wx.heap.size:=by have:=hb8.size;omega
   have d0:wx.cell? ⟨G,0,none⟩=some (.bool f):=by rw [hb8.cell (p:=⟨G,0,none⟩) hwr];exact c0
   have d1:wx.cell? ⟨G,1,none⟩=some (.bool m):=by rw [hb8.cell (p:=⟨G,1,none⟩) hwr];exact c1
   have d2:wx.cell? ⟨G,2,none⟩=some (.bool s):=by rw [hb8.cell (p:=⟨G,2,none⟩) hwr];exact c2
   have SX8:Hid (SS wx (.slice (some ⟨ga,oa,none⟩) 1 ca) [x]):=SX.out.1.kept hga HWW8.out
   have SY8:Hid (SS wx (.slice (some ⟨gb,ob,none⟩) 1 cb) [y]):=SY.out.1.kept hga HWW8.out
   have hl8:O.length+1≤2000000000:=by have:=HL.out;simp at this;omega
   have HL8:Hid (O.length+1≤2000000000):=hl8
   have smA:Sm A2:=⟨by have:=HX.out.2.2.len;simp at this;omega,fun z hz=>HX.out.2.2.each z (by simp [hz])⟩
   have smB:Sm B2:=⟨by have:=HY.out.2.2.len;simp at this;omega,fun z hz=>HY.out.2.2.each z (by simp [hz])⟩
   have HSA:Hid (Sm A2∧Up A2):=⟨smA,(List.pairwise_cons.1 HX.out.2.1).2⟩
   have HSB:Hid (Sm B2∧Up B2):=⟨smB,(List.pairwise_cons.1 HY.out.2.1).2⟩
   clear hb8 hl9 cA cB c0 c1 c2 hl8 smA smB
   have c0:=d0
   have c1:=d1
   have c2:=d2
   clear d0 d1 d2
   by_cases o1:o < 0
   ·have hp:=HP.out
    rw [pick_lt f m s HX.out.2.1 HY.out.2.1 (by rw [HOO.out];exact o1),← List.append_assoc] at hp
    have HP8:Hid ((O++if f=true then [x] else [])++pick f m s A2 (y::B2)=R):=hp
    have hgx:A2.length+(y::B2).length < gk:=by have:=HG.out;simp at this ⊢;omega
    have HGX:Hid (A2.length+(y::B2).length < gk):=hgx
    have hlx:(O++if f=true then [x] else []).length+A2.length+(y::B2).length≤2000000000:=by
     have:=HL.out
     cases f<;>simp at this ⊢<;>omega
    have HLX:Hid ((O++if f=true then [x] else []).length+A2.length+(y::B2).length≤2000000000):=hlx
    clear hp hgx hlx
    go_wp2_with fail
    go_region_held3 (fun w'=>w'.cell? ⟨G,0,none⟩=some (.bool f)) (first | go_keep | (exact (by rw [hb7.cell (p:=⟨G,0,none⟩) (by simp)];exact c0))) (first | (go_at_call 80;refine (qtake_any f (HO8.out.later (Below.refl _ _).drew) (SX8.out.later (Below.refl _ _).drew) HL8.out (by show G+1≤wx.heap.size;omega)).mono ?_;rintro e w' ⟨v9,rfl,ho9,hb9⟩;have hb7:Below (G+1) wx w':=below_trans (Below.refl _ _).drew hb9))
    have HO9:Hid (Own (G+1) w' v9 (O++if f=true then [x] else [])):=ho9
    have HB9:Hid (Below (G+1) wb w'):=below_trans HW8.out hb7
    clear ho9 hb9 hb7
    go_wp2_with fail
    all_goals (go_roundg (A2.length+(y::B2).length))
    all_goals first | exact HGX.out | exact ⟨A2,y::B2,_,SX.out.2,HY.out.1,HSA.out.2,HY.out.2.1,HSA.out.1,HY.out.2.2,HO9.out,HB9.out,HP8.out,HLX.out,Nat.le_refl _⟩ | exact ⟨A2,y::B2,_,SX.out.2.zero (by omega) (by omega) _ _,HY.out.1,HSA.out.2,HY.out.2.1,HSA.out.1,HY.out.2.2,HO9.out,HB9.out,HP8.out,HLX.out,Nat.le_refl _⟩
   ·by_cases o2:0 < o
    ·have hp:=HP.out
     rw [pick_gt f m s HX.out.2.1 HY.out.2.1 (by rw [HOO.out];exact o2),← List.append_assoc] at hp
     have HP8:Hid ((O++if s=true then [y] else [])++pick f m s (x::A2) B2=R):=hp
     have hgx:(x::A2).length+B2.length < gk:=by have:=HG.out;simp at this ⊢;omega
     have HGX:Hid ((x::A2).length+B2.length < gk):=hgx
     have hlx:(O++if s=true then [y] else []).length+(x::A2).length+B2.length≤2000000000:=by
      have:=HL.out
      cases s<;>simp at this ⊢<;>omega
     have HLX:Hid ((O++if s=true then [y] else []).length+(x::A2).length+B2.length≤2000000000):=hlx
     clear hp hgx hlx
     go_wp2_with fail
     go_region_held3 (fun w'=>w'.cell? ⟨G,2,none⟩=some (.bool s)) (first | go_keep | (exact (by rw [hb7.cell (p:=⟨G,2,none⟩) (by simp)];exact c2))) (first | (go_at_call 80;refine (qtake_any s (HO8.out.later (Below.refl _ _).drew) (SY8.out.later (Below.refl _ _).drew) HL8.out (by show G+1≤wx.heap.size;omega)).mono ?_;rintro e w' ⟨v9,rfl,ho9,hb9⟩;have hb7:Below (G+1) wx w':=below_trans (Below.refl _ _).drew hb9))
     have HO9:Hid (Own (G+1) w' v9 (O++if s=true then [y] else [])):=ho9
     have HB9:Hid (Below (G+1) wb w'):=below_trans HW8.out hb7
     clear ho9 hb9 hb7
     go_wp2_with fail
     all_goals (go_roundg ((x::A2).length+B2.length))
     all_goals first | exact HGX.out | exact ⟨x::A2,B2,_,HX.out.1,SY.out.2,HX.out.2.1,HSB.out.2,HX.out.2.2,HSB.out.1,HO9.out,HB9.out,HP8.out,HLX.out,Nat.le_refl _⟩ | exact ⟨x::A2,B2,_,HX.out.1,SY.out.2.zero (by omega) (by omega) _ _,HX.out.2.1,HSB.out.2,HX.out.2.2,HSB.out.1,HO9.out,HB9.out,HP8.out,HLX.out,Nat.le_refl _⟩
    ·have o3:o=0:=by omega
     have exy:x=y:=cf_zero.1 (HOO.out.trans o3)
     have hp:=HP.out
     rw [exy] at hp
     rw [pick_eq f m s (exy▸HX.out.2.1) HY.out.2.1,← exy,← List.append_assoc] at hp
     have HP8:Hid ((O++if m=true then [x] else [])++pick f m s A2 B2=R):=hp
     have hgx:A2.length+B2.length < gk:=by have:=HG.out;simp at this ⊢;omega
     have HGX:Hid (A2.length+B2.length < gk):=hgx
     have hlx:(O++if m=true then [x] else []).length+A2.length+B2.length≤2000000000:=by
      have:=HL.out
      cases m<;>simp at this ⊢<;>omega
     have HLX:Hid ((O++if m=true then [x] else []).length+A2.length+B2.length≤2000000000):=hlx
     clear hp hgx hlx exy
     go_wp2_with fail
     go_region_held3 (fun w'=>w'.cell? ⟨G,1,none⟩=some (.bool m)) (first | go_keep | (exact (by rw [hb7.cell (p:=⟨G,1,none⟩) (by simp)];exact c1))) (first | (go_at_call 80;refine (qtake_any m (HO8.out.later (Below.refl _ _).drew) (SX8.out.later (Below.refl _ _).drew) HL8.out (by show G+1≤wx.heap.size;omega)).mono ?_;rintro e w' ⟨v9,rfl,ho9,hb9⟩;have hb7:Below (G+1) wx w':=below_trans (Below.refl _ _).drew hb9))
     have HO9:Hid (Own (G+1) w' v9 (O++if m=true then [x] else [])):=ho9
     have HB9:Hid (Below (G+1) wb w'):=below_trans HW8.out hb7
     clear ho9 hb9 hb7
     go_wp2_with fail
     go_region
     all_goals go_wp2_with fail
     all_goals (go_roundg (A2.length+B2.length))
     all_goals first | exact HGX.out | exact ⟨A2,B2,_,SX.out.2,SY.out.2,HSA.out.2,HSB.out.2,HSA.out.1,HSB.out.1,HO9.out,bdrw HB9.out,HP8.out,HLX.out,Nat.le_refl _⟩ | exact ⟨A2,B2,_,SX.out.2.zero (by omega) (by omega) _ _,SY.out.2,HSA.out.2,HSB.out.2,HSA.out.1,HSB.out.1,HO9.out,bdrw HB9.out,HP8.out,HLX.out,Nat.le_refl _⟩ | exact ⟨A2,B2,_,SX.out.2,SY.out.2.zero (by omega) (by omega) _ _,HSA.out.2,HSB.out.2,HSA.out.1,HSB.out.1,HO9.out,bdrw HB9.out,HP8.out,HLX.out,Nat.le_refl _⟩ | exact ⟨A2,B2,_,SX.out.2.zero (by omega) (by omega) _ _,SY.out.2.zero (by omega) (by omega) _ _,HSA.out.2,HSB.out.2,HSA.out.1,HSB.out.1,HO9.out,bdrw HB9.out,HP8.out,HLX.out,Nat.le_refl _⟩ | exact ⟨A2,B2,_,SX.out.2,SY.out.2,HSA.out.2,HSB.out.2,HSA.out.1,HSB.out.1,HO9.out,HB9.out,HP8.out,HLX.out,Nat.le_refl _⟩ | exact ⟨A2,B2,_,SX.out.2.zero (by omega) (by omega) _ _,SY.out.2,HSA.out.2,HSB.out.2,HSA.out.1,HSB.out.1,HO9.out,HB9.out,HP8.out,HLX.out,Nat.le_refl _⟩ | exact ⟨A2,B2,_,SX.out.2,SY.out.2.zero (by omega) (by omega) _ _,HSA.out.2,HSB.out.2,HSA.out.1,HSB.out.1,HO9.out,HB9.out,HP8.out,HLX.out,Nat.le_refl _⟩ | exact ⟨A2,B2,_,SX.out.2.zero (by omega) (by omega) _ _,SY.out.2.zero (by omega) (by omega) _ _,HSA.out.2,HSB.out.2,HSA.out.1,HSB.out.1,HO9.out,HB9.out,HP8.out,HLX.out,Nat.le_refl _⟩
end
end Go.Proofs.YtppnbdnpapellaaGreatDoor
