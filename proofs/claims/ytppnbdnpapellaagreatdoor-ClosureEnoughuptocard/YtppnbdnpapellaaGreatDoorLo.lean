import Derived.Test.YtppnbdnpapellaaGreatDoorJUa
import Derived.Test.YtppnbdnpapellaaGreatDoorJGy
import Derived.Maps.AppendAt
import Derived.Maps.OwnIn
set_option maxRecDepth 100000
set_option maxHeartbeats 16000000
namespace Go.Proofs.YtppnbdnpapellaaGreatDoor
open Go.RowKit Go.Maps
attribute [local go_sem] Oper.semAt_some
theorem nds_small {l:List Fl} {t N:List Lb} {E:List Ee} {c:List (List UInt8)} (S:RchS l t N E c) (hf:(fltP l N E c).2=false) (hr:refE l t=0) (hu:t.length+txt l≤1500000) :
  (ndsP l N E).length≤1500000∧∀ n∈ndsP l N E,okP n.lab.pkg=true∧okP (whl n.lab.pkg wName)=true∧n.srcs.length≤512∧∀ f∈n.srcs,f.path.length≤1000:=by
 obtain ⟨hv,ht⟩:=refE_ok hr
 have hl:l.length≤512:=valid_len hv
 refine ⟨?_,fun n hn=>?_⟩
 ·have hE:∀ a b,(a,b)∈E→a∈N∧b∈N:=fun a b h=>by
   obtain ⟨h1,h2⟩:=(S.ee a b).1 h
   exact ⟨(S.nn a).2 h1,(S.nn b).2 (.step h1 h2)⟩
  unfold ndsP
  rw [List.length_map]
  cases e:Gs.ord (rs N) E with
  | none=>simp
  | some L=>
   rw [Option.getD_some]
   obtain ⟨h1,_,_⟩:=Gs.ordF_some _ _ _ (Gs.Tld.nil _ _) e
   have h3:=Gs.nodup_sub L (uniL l t) h1.nodup (fun x hx=>(uni_ok l t).all x ((S.nn x).1 ((Gs.mem_ris x N).1 (h1.sub x hx))))
   have h4:=uni_le l t
   omega
 ·obtain ⟨a,ha,rfl⟩:=(mem_nds S hf).1 hn
  have h1:=rea_ok ht ha
  unfold okL at h1
  rw [Bool.and_eq_true] at h1
  obtain ⟨f,hfl,hfp⟩:=clo_file S hf ((mem_clo S hf).2 ⟨a,ha,.inl rfl⟩)
  have h2:=(fileE_zero f).1 (stand_all ((validE_zero l).1 hv) f hfl)
  have h3:=h2.1
  unfold pathOk at h3
  rw [Bool.and_eq_true,hfp] at h3
  refine ⟨h1.1,h3.2,?_,fun g hg=>?_⟩
  ·show (srcL l a).length≤512
   unfold srcL keep
   exact Nat.le_trans (List.length_filter_le _ _) hl
  ·have hg':g∈srcL l a:=hg
   unfold srcL keep at hg'
   have h4:=(fileE_zero g).1 (stand_all ((validE_zero l).1 hv) g (List.mem_filter.1 hg').1)
   have h5:=h4.1
   unfold pathOk at h5
   rw [Bool.and_eq_true] at h5
   have:=(okP_len h5.2).1
   omega
theorem ask_each {nd:List Nd} (h:∀ n∈nd,okP (whl n.lab.pkg wName)=true∧∀ f∈n.srcs,f.path.length≤1000):∀ q∈askL nd,q.length≤1000:=fun q hq=>by
 unfold askL at hq
 obtain ⟨n,hn,hq⟩:=List.mem_flatMap.1 hq
 unfold askN at hq
 rcases List.mem_cons.1 hq with rfl | hq
 ·have:=(okP_len (h n hn).1).1;omega
 ·obtain ⟨f,hf,rfl⟩:=List.mem_map.1 hq
  exact (h n hn).2 f hf
theorem ask_le:∀ nd:List Nd,(∀ n∈nd,n.srcs.length≤512)→(askL nd).length≤nd.length * 513
 | [],_=>by simp [askL]
 | n::r,h=>by
  have ih:=ask_le r (fun x hx=>h x (by simp [hx]))
  have h1:=h n (by simp)
  have e:askL (n::r)=askN n++askL r:=rfl
  rw [e,List.length_append,List.length_cons,Nat.add_mul]
  unfold askN
  simp only [List.length_cons,List.length_map]
  omega
def CloP (w:World) (l:List Fl) (t:List Lb) (e:Ending) (w':World):Prop:=
 ∃ pv fv N E c,e=.returned (.tuple #[pv,Fv.val fv])∧(refE l t=0→RchS l t N E c)∧Own w.heap.size w' pv (cloL (bldP l t N E c).1)∧FvIs w.heap.size w' fv (bldP l t N E c).2∧Below w.heap.size w w'
structure Lv (w2:World) (Bv:Nat) (pre:List (List UInt8)) (W:World):Prop where
 box:∃ v,Boxed W Bv 24 v∧Own w2.heap.size W v pre
 below:Below w2.heap.size w2 W
theorem Own.cellsB {base:Nat} {w:World} {v:Value} {l:List (List UInt8)} (h:Own base w v l):∀ (j:Nat) (o:Obj),v.ownBlock=some j→w.heap[j]? = some o→o.isCells=true:=by
 intro j o hj ho
 rcases h.2 with ⟨rfl,_⟩ | ⟨g,cap,cur,rfl,_,hg,_⟩
 ·cases hj
 ·simp only [Value.ownBlock,Option.some.injEq] at hj
  subst hj
  rw [hg] at ho;cases ho;rfl
theorem Own.slc {base:Nat} {w:World} {v:Value} {l:List (List UInt8)} (h:Own base w v l):∃ a c,v=.slice a l.length c:=by
 rcases h.2 with ⟨rfl,h0⟩ | ⟨g,cap,cur,rfl,_⟩
 ·exact ⟨none,0,by rw [h0]⟩
 ·exact ⟨_,_,rfl⟩
theorem Own.notN {base:Nat} {w:World} {v:Value} {l:List (List UInt8)} (h:Own base w v l) {q:Nat} {cs:Array Value} {fr:Nat×Nat} (hq:w.heap[q]? = some (.cells cs 80 fr)):some q≠v.ownBlock:=by
 intro e
 rcases h.2 with ⟨e2,_⟩ | ⟨g,cap,cur,e2,_,hg,_⟩
 ·rw [e2] at e;cases e
 ·rw [e2] at e
  simp only [Value.ownBlock,Option.some.injEq] at e
  subst e
  rw [hg] at hq
  injection hq with hq
  injection hq with _ h9 _
  exact absurd h9 (by decide)
theorem Lv.own {w2:World} {Bv m:Nat} (hB:w2.heap.size≤m):OwnFrom m (Lv w2 Bv):=by
 intro pre W W' row h hg hr
 obtain ⟨⟨v,hv,hrow⟩,hb⟩:=h
 refine ⟨⟨v,hv.kept hg (fun e=>?_),?_⟩,hb.grown hg hb.size (fun j hj=>Nat.le_trans hB (hr j hj).1)⟩
 ·obtain ⟨_,o,ho,hc⟩:=hr Bv e.symm
  rw [show W.heap[Bv]? = _ from hv] at ho;cases ho;cases hc
 ·refine Own.only hrow (S:=row.toList) ⟨hg.os,hg.tape,hg.output,hg.size,fun j hj hn=>hg.block j hj (by intro e;apply hn;rw [← e];simp)⟩ ?_
  intro j hj hm
  have hm':row=some j:=by simpa using hm
  obtain ⟨_,o,ho,hc⟩:=hr j hm'
  rw [hrow.cellsB j o hj ho] at hc;cases hc
theorem FK.putObj {W:World} {g D:Nat} {f:Fv} (h:FK W g f) (o o':Obj) (hD:W.heap[D]? = some o) (hc:o.isCells=false):FK (W.putObj D o') g f:=by
 refine ⟨?_⟩
 rw [World.putObj_heap_other (fun e=>?_)]
 ·exact h.blk
 ·subst e
  rw [h.blk] at hD;cases hD;cases hc
theorem cof_some {w:World} {lv tv:Value} {l:List Fl} {t:List Lb} (E0:Ev w) (hf:FS w lv l) (ht:LS w tv t) (B:OfB l t) (hz:refE l t=0∧NoF l t) :
  Calls Tryz.prog 7 #[lv,tv] w (CloP w l t):=by
 obtain ⟨fa,fcp,hfv,_⟩:=hf.form
 obtain ⟨fn,hfn⟩:∃ fn,l.length=fn:=⟨_,rfl⟩
 rw [hfn] at hfv
 subst hfv
 obtain ⟨ta,tc,htv,-⟩:=ht.form
 obtain ⟨tn,htn⟩:∃ tn,t.length=tn:=⟨_,rfl⟩
 rw [htn] at htv
 subst htv
 obtain ⟨w0,hw0⟩:∃ w0,w.alloc (.cells #[.int .i64 0,.string { data:=#[] },.string { data:=#[] },.string { data:=#[] },.string { data:=#[] },.string { data:=#[] },.int .i64 0,.slice none 0 0] 29)=w0:=⟨_,rfl⟩
 have b0:Below w.heap.size w w0:=by rw [← hw0];exact balloc _ _
 have H0:Hid (w.alloc (.cells #[.int .i64 0,.string { data:=#[] },.string { data:=#[] },.string { data:=#[] },.string { data:=#[] },.string { data:=#[] },.int .i64 0,.slice none 0 0] 29)=w0∧Below w.heap.size w w0∧FK w0 w.heap.size zFv):=⟨hw0,b0,by rw [← hw0];exact FK.new w zFv⟩
 have HBO:Hid (Calls Tryz.prog 11 #[.slice fa fn fcp,.slice ta tn tc] w0 (OfP w0 l t)):=bof_any (E0.later b0) (hf.later b0) (ht.later b0) B
 have HZ:Hid ((refE l t=0∧NoF l t)∧t.length+txt l≤1500000):=⟨hz,B.ul⟩
 clear E0 hf ht B hz hfn htn hw0 b0
 refine (callsIn_wide (n:=8)).1 ?_
 refine callsIn_of_wp_marks Tryz.func7 rfl trivial ?_ rfl
 simp only [Tryz.ntmps7,List.size_toArray,List.length_cons,List.length_nil,Nat.reduceAdd,Nat.reduceSub,Array.replicate_succ,Array.replicate_zero,List.push_toArray,List.append_toArray,List.nil_append,List.cons_append]
 gi_wp2_with fail
 try rw [H0.out.1]
 refine ⟨trivial,(callsIn_wide.2 HBO.out).mono ?_⟩
 rintro e w1 h
 unfold OfP at h
 obtain ⟨nv,fv,N,E,c,rfl,hS,hno,hfi,hb1⟩:=h
 have hcode:=(bld_zero hS).2 HZ.out.1
 obtain ⟨hr0,hf0,hbl⟩:refE l t=0∧(fltP l N E c).2=false∧bldP l t N E c=(ndsP l N E,zPf):=by
  rcases bld_ok (l:=l) (t:=t) (N:=N) (E:=E) (c:=c) with ⟨h,_⟩ | ⟨_,h0,hf,hb⟩
  ·exact absurd hcode h
  ·exact ⟨h0,hf,hb⟩
 rw [hbl] at hno hfi
 obtain ⟨hs1,hs2⟩:=nds_small (hS hr0) hf0 hr0 HZ.out.2
 have hs3:=ask_le (ndsP l N E) (fun n hn=>(hs2 n hn).2.2.1)
 have hs4:=ask_each (fun n hn=>⟨(hs2 n hn).2.1,(hs2 n hn).2.2.2⟩)
 obtain ⟨nd,hnd⟩:∃ nd,ndsP l N E=nd:=⟨_,rfl⟩
 rw [hnd] at hno hs1 hs2 hs3 hs4 hbl
 have HS:Hid ((refE l t=0→RchS l t N E c)∧bldP l t N E c=(nd,zPf)):=⟨hS,hbl⟩
 have hs5:(askL nd).length≤900000000:=by
  have:=Nat.mul_le_mul_right 513 hs1
  omega
 have HK:Hid ((∀ x∈nd,okP x.lab.pkg=true∧okP (whl x.lab.pkg wName)=true∧x.srcs.length≤100000000)∧nd.length≤1500000∧(askL nd).length≤900000000∧∀ q∈askL nd,q.length≤1000):=⟨fun x hx=>⟨(hs2 x hx).1,(hs2 x hx).2.1,by have:=(hs2 x hx).2.2.1;omega⟩,hs1,hs5,hs4⟩
 obtain ⟨na,ncp,hnv⟩:=hno.form
 obtain ⟨nn,hnn⟩:∃ nn,nd.length=nn:=⟨_,rfl⟩
 rw [hnn] at hnv
 subst hnv
 obtain ⟨fc,⟨lp,ln⟩,⟨op,on⟩,fp,fa',ca,cn,cc⟩:=fv
 have hfc:fc=0:=congrArg Pf.code hfi.it
 subst hfc
 have hval:Fv.val ⟨0,⟨lp,ln⟩,⟨op,on⟩,fp,fa',ca,cn,cc⟩=.agg #[.int .i64 0,.string (bs lp),.string (bs ln),.string (bs op),.string (bs on),.string (bs fp),.int .i64 fa',.slice ca cn cc]:=rfl
 rw [hval]
 obtain ⟨w2,hw2⟩:∃ w2,w1.alloc (.cells #[.int .i64 0,.string (bs lp),.string (bs ln),.string (bs op),.string (bs on),.string (bs fp),.int .i64 fa',.slice ca cn cc] 29)=w2:=⟨_,rfl⟩
 have b2:Below w1.heap.size w1 w2:=by rw [← hw2];exact balloc _ _
 obtain ⟨w3,hw3⟩:∃ w3,w2.alloc (.cells #[.slice none 0 0] 24)=w3:=⟨_,rfl⟩
 obtain ⟨w4,hw4⟩:∃ w4,w3.alloc (.cells #[.slice na nn ncp] 36)=w4:=⟨_,rfl⟩
 have b3:Below w2.heap.size w2 w3:=by rw [← hw3];exact balloc _ _
 have b4:Below w3.heap.size w3 w4:=by rw [← hw4];exact balloc _ _
 have e3:w3.heap.size=w2.heap.size+1:=by rw [← hw3];simp
 have e4:w4.heap.size=w2.heap.size+2:=by rw [← hw4];simp [e3]
 have x3:Boxed w3 w2.heap.size 24 (.slice none 0 0):=by rw [← hw3];exact Boxed.new _ _ _
 have x4:w4.cell? ⟨w3.heap.size,0,none⟩=some (.slice na nn ncp):=by rw [← hw4];simp
 have b24:Below w2.heap.size w2 w4:=bstep b3 b4
 have hbw2:Below w.heap.size w w2:=bstep (bstep H0.out.2.1 hb1) b2
 have H4:Hid (w1.alloc (.cells #[.int .i64 0,.string (bs lp),.string (bs ln),.string (bs op),.string (bs on),.string (bs fp),.int .i64 fa',.slice ca cn cc] 29)=w2∧w2.alloc (.cells #[.slice none 0 0] 24)=w3∧w3.alloc (.cells #[.slice na nn ncp] 36)=w4∧w3.heap.size=w2.heap.size+1∧w4.heap.size=w2.heap.size+2∧w1.heap.size+1=w2.heap.size):=⟨hw2,hw3,hw4,e3,e4,by rw [← hw2];simp⟩
 have H5:Hid (Lv w2 w2.heap.size [] w4∧Below w.heap.size w w2∧FK w2 w.heap.size zFv∧NQ w2.heap.size w4 na nd∧w4.cell? ⟨w2.heap.size+1,0,none⟩=some (.slice na nn ncp)):=by
  refine ⟨⟨⟨_,(b4.block _ x3.lt).trans x3,Own.nil _ _⟩,b24⟩,hbw2,(H0.out.2.2.later hb1).later b2,?_,by rw [← e3];exact x4⟩
  exact ((hno.later b2).nq).below b24
 have u0:w2.cell? ⟨w1.heap.size,0,none⟩=some (.int .i64 0):=by rw [← hw2];simp
 have HNN:Hid (nd.length=nn):=hnn
 clear hw2 hw3 hw4 b2 b3 b4 e3 e4 x3 x4 b24 hbw2 hno hfi hb1 hS hcode hr0 hf0 hbl hs1 hs2 hs3 hs4 hs5 hval hnn HBO H0
 gi_wp2_with fail
 rw [H4.out.1,H4.out.2.1]
 refine ⟨trivial,(callsIn_wide.2 (asked_any na nn ncp w3)).mono ?_⟩
 rintro e w5 ⟨rfl,ew5⟩
 rw [H4.out.2.2.1] at ew5
 subst ew5
 rw [H4.out.2.2.2.1]
 gi_wp2_with fail
 rw [H4.out.2.2.2.2.2]
 refine wpIn_rangeFunc_ownG (F:=Fence.wide) rfl (by omega) (gf:=43) (lb:=#[.pointer (some ⟨w2.heap.size+1,0,none⟩)]) rfl trivial (enters_of Tryz.func43 (by kernel_rfl) rfl)
  (asked_stops (Bl:=w2.heap.size+1) (n₀:=w2.heap.size) HNN.out (by have:=HK.out.2.1;have:=HNN.out;omega) H5.out.2.2.2.2 (by have:=H4.out.2.2.2.2.1;omega) H5.out.2.2.2.1 (by have:=H4.out.2.2.2.2.1;omega) HK.out.1 7 (by omega))
  (fun h k=>h.trans k) (fun W q o o' h1 h2 h3 h4=>⟨belowK_b (w:=w2) (Nat.le_refl _) W q o o' (by have:=H4.out.2.2.2.2.1;omega) h2 h3 h4,fun x cs fr hx=>by
   have hne:x≠q:=by
    rintro rfl
    rw [h2] at hx;cases hx;cases h3
   exact (World.putObj_heap_other hne).trans hx⟩) (Below.refl _ _) (fun _=>rfl)
  (Lv w2 w2.heap.size) (fun _ _ _=>False) (Lv.own (by have:=H4.out.2.2.2.2.1;omega)) (fun _ s W W' row h _ _=>h) H5.out.1
  (fun x=>{ tmps:=#[.slice fa fn fcp,.slice ta tn tc,undef,undef,.slice none 0 0,.pointer (some ⟨w.heap.size,0,none⟩),.slice na nn ncp,.pointer (some ⟨w1.heap.size,0,none⟩),.pointer (some ⟨w2.heap.size,0,none⟩),.string (bs x),.tuple #[.slice na nn ncp,.agg #[.int .i64 0,.string (bs lp),.string (bs ln),.string (bs op),.string (bs on),.string (bs fp),.int .i64 fa',.slice ca cn cc]],.slice fa fn fcp,.slice ta tn tc,.tuple #[.slice na nn ncp,.agg #[.int .i64 0,.string (bs lp),.string (bs ln),.string (bs op),.string (bs on),.string (bs fp),.int .i64 fa',.slice ca cn cc]],.slice na nn ncp,.agg #[.int .i64 0,.string (bs lp),.string (bs ln),.string (bs op),.string (bs on),.string (bs fp),.int .i64 fa',.slice ca cn cc],.pointer (some ⟨w1.heap.size,0,none⟩),.int .i64 0,.bool false,undef,.slice na nn ncp,.func (.func 43) #[] #[.pointer (some ⟨w2.heap.size+1,0,none⟩)],.string (bs x),undef,undef,undef,undef,undef,undef,undef],defers:=[] }) ?assign ?body ?done ?stop
 case assign=>
  intro rp x W K hK
  gi_wp2_with fail
  exact hK
 case body=>
  rintro rp pre x W hI hlt
  obtain ⟨⟨v,hv,hrow⟩,hb⟩:=hI
  have hc:=hv.cell
  obtain ⟨i0,hi,hz0,hz1,hz2⟩:=info_parts info9
  obtain ⟨k,hk⟩:∃ k,pre.length=k:=⟨_,rfl⟩
  obtain ⟨av,cv,hvv⟩:=hrow.slc
  rw [hk] at hvv hlt
  subst hvv
  have hrow':W.ownsRow w2.heap.size 9 1 (.slice av k cv) k (sc pre):=by rw [← hk];rw [← hk] at hrow;exact hrow
  have hsz:=hb.size
  have hne:=hv.not_row (e:=9) (by decide) hrow
  have HB:Hid (Below w2.heap.size w2 W∧Boxed W w2.heap.size 24 (.slice av k cv)∧pre.length=k∧Own w2.heap.size W (.slice av k cv) pre∧some w2.heap.size≠(Value.slice av k cv).ownBlock):=⟨hb,hv,hk,hrow,hne⟩
  have hk9:k+1≤900000000:=by have:=HK.out.2.2.1;omega
  clear hne hk hrow hb hv
  gi_wp2_with (first
   | (gi_at_builtin;refine wpListIn_append_own _ rfl _ _ 24 rfl w2.heap.size 9 i0 (.string ByteArray.empty) 1 16 und86 hi hz0 hz1 hz2 rfl (by decide) _ _ _ rfl (hrow'.alloc _) ⟨W.heap.size,0,none⟩ 1 1 [.string (bs x)] rfl rfl (World.news_of_block (heap_alloc_new W _)) (by simp [Value.oneCell']) (by unfold maxLen;omega) (by omega) (by simp;omega) ?_;intro v' w6 hown' hg6 hnil6;obtain ⟨g',cap',rfl⟩:=ownsRow_succ hown';have hbx:Boxed w6 w2.heap.size 24 (.slice av k cv):=(HB.out.2.1.alloc _).kept hg6 HB.out.2.2.2.2;have hc6:=hbx.cell;have hf6:=hbx.frozen;go_frame)
   | gi_in)
  have hb6:Below w2.heap.size w2 w6:=(HB.out.1.alloc HB.out.1.size _).grown hg6 (by have:=HB.out.1.size;simp;omega) (fun j e=>(HB.out.2.2.2.1.lt e).1)
  have hown6:Own w2.heap.size w6 (.slice (some ⟨g',0,none⟩) (k+1) cap') (pre++[x]):=by
   unfold Own
   rw [sc_append,List.length_append,HB.out.2.2.1]
   exact hown'
  have hob:g'≠w2.heap.size:=by
   intro e
   exact hbx.not_row (e:=9) (by decide) hown6 (by rw [← e];rfl)
  have hKO:KeepsOthers W w6:=(KeepsOthers.alloc W _).trans (KeepsOthers.of_grownBy hg6 (fun j o e ho=>by
   have hj:=(HB.out.2.2.2.1.lt e).2
   exact HB.out.2.2.2.1.cellsB j o e (by rw [← ho];exact (heap_alloc_old _ _ hj).symm)))
  have hK2:=KeepsOthers.setCell w6 ⟨w2.heap.size,0,none⟩ (.slice (some ⟨g',0,none⟩) (k+1) cap')
  have hO:Only [w2.heap.size] w6 (w6.setCell ⟨w2.heap.size,0,none⟩ (.slice (some ⟨g',0,none⟩) (k+1) cap')):=Only.set w6 w2.heap.size 0 _
  have hb7:=hb6.setCell (p:=⟨w2.heap.size,0,none⟩) (Nat.le_refl _) (.slice (some ⟨g',0,none⟩) (k+1) cap')
  refine ⟨(hKO.trans hK2).from _,⟨?_,?_⟩,⟨_,hbx.set _,?_⟩,hb7⟩
  ·refine ⟨?_,?_,?_,?_,?_⟩
   ·exact hb7.os.trans HB.out.1.os.symm
   ·exact hb7.tape.trans HB.out.1.tape.symm
   ·exact hb7.output.trans HB.out.1.output.symm
   ·exact (hKO.trans hK2).size
   ·intro j hj
    exact (hb7.block j hj).trans (HB.out.1.block j hj).symm
  ·intro q cs fr hq
   have hql:=(Array.getElem?_eq_some_iff.1 hq).1
   have hq1:(W.alloc (.cells #[.string (bs x)] 9)).heap[q]? = some (.cells cs 80 fr):=(heap_alloc_old _ _ hql).trans hq
   have hq2:w6.heap[q]? = some (.cells cs 80 fr):=(hg6.block q (Array.getElem?_eq_some_iff.1 hq1).1 (HB.out.2.2.2.1.notN hq)).trans hq1
   refine (hO.block q (Array.getElem?_eq_some_iff.1 hq2).1 (fun e=>?_)).trans hq2
   have e9:q=w2.heap.size:=by simpa using e
   subst e9
   rw [show w6.heap[w2.heap.size]? = _ from hbx] at hq2
   injection hq2 with hq2
   injection hq2 with _ h9 _
   exact absurd h9 (by decide)
  ·refine Own.only hown6 hO ?_
   intro j hj hm
   simp only [Value.ownBlock,Option.some.injEq] at hj
   have:j=w2.heap.size:=by simpa using hm
   exact hob (hj.trans this)
 case done=>
  rintro D xs W hD hS hI hK
  subst hS
  obtain ⟨⟨v,hv,hrow⟩,hb⟩:=hI
  obtain ⟨av,cv,hvv⟩:=hrow.slc
  obtain ⟨k,hk⟩:∃ k,(askL nd).length=k:=⟨_,rfl⟩
  rw [hk] at hvv
  subst hvv
  have hc:=hv.cell
  have HD:Hid (W.heap[D]? = some (.deferred (some []))∧Below w2.heap.size w2 W∧w5.heap.size≤D):=⟨hK,hb,hD⟩
  have HNM:=hid_of (norm_any hrow.bs ⟨by have:=HK.out.2.2.1;omega,fun q hq=>by have:=HK.out.2.2.2 q hq;omega⟩)
  clear hv hrow hb hk hK hD
  gi_wp2_with fail
  refine ⟨trivial,(callsIn_wide.2 HNM.out).mono ?_⟩
  rintro e w8 ⟨pv,rfl,hpo,hb8⟩
  obtain ⟨pa,pc,hpv⟩:=hpo.slc
  obtain ⟨pn,hpn⟩:∃ pn,(norm (askL nd)).length=pn:=⟨_,rfl⟩
  rw [hpn] at hpv
  subst hpv
  have HF8:Hid (FK w8 w.heap.size zFv):=(H5.out.2.2.1.kept (HD.out.2.1.block _ H5.out.2.2.1.lt)).later hb8
  have HP8:Hid (Own W.heap.size w8 (.slice pa pn pc) (norm (askL nd))∧Below W.heap.size W w8):=⟨hpo,hb8⟩
  obtain ⟨z0,z1,z2,z3,z4,z5,z6,z7⟩:=HF8.out.get
  have y0:=HF8.out.soft 0
  have y1:=HF8.out.soft 1
  have y2:=HF8.out.soft 2
  have y3:=HF8.out.soft 3
  have y4:=HF8.out.soft 4
  have y5:=HF8.out.soft 5
  have y6:=HF8.out.soft 6
  have y7:=HF8.out.soft 7
  clear hpo hb8 hpn HNM
  gi_wp2_with fail
  have HP:=putF_only w8 w.heap.size zFv
  have HF9:=HF8.out.set zFv
  clear z0 z1 z2 z3 z4 z5 z6 z7 y0 y1 y2 y3 y4 y5 y6 y7
  change bodyPostM Fence.wide 8 Tryz.prog Tryz.f7 (CloP w l t) Exit.ret _ (putF w8 w.heap.size zFv)
  generalize putF w8 w.heap.size zFv=w9 at HP HF9 ⊢
  have hDW:D < W.heap.size:=(Array.getElem?_eq_some_iff.1 HD.out.1).1
  have hw2:w.heap.size < w2.heap.size:=H5.out.2.2.1.lt
  have h25:=H4.out.2.2.2.2.1
  have hD5:=HD.out.2.2
  have hD8:w8.heap[D]? = some (.deferred (some [])):=(HP8.out.2.block D hDW).trans HD.out.1
  have hDP:w9.heap[D]? = some (.deferred (some [])):=(HP.block D (Array.getElem?_eq_some_iff.1 hD8).1 (by simp;omega)).trans hD8
  have hO2:Only [D] w9 (w9.putObj D (.deferred none)):=⟨rfl,rfl,rfl,by simp,fun k hk hn=>World.putObj_heap_other (by simpa using hn)⟩
  have hWz:=HD.out.2.1.size
  refine ⟨by simp,.inl ⟨_,_,rfl,run_takeDeferred hDP,?_⟩⟩
  have hFX:=HF9.putObj _ (.deferred none) hDP rfl
  have hRC:Own w.heap.size (w9.putObj D (.deferred none)) (.slice pa pn pc) (cloL (bldP l t N E c).1)∧FvIs w.heap.size (w9.putObj D (.deferred none)) zFv (bldP l t N E c).2∧Below w.heap.size w (w9.putObj D (.deferred none)):=by
   have hbb:Below w.heap.size w w8:=below_trans (below_trans H5.out.2.1 (below_mono HD.out.2.1 (by omega))) (below_mono HP8.out.2 (by omega))
   refine ⟨?_,?_,?_⟩
   ·rw [HS.out.2]
    have h1:=HP8.out.1
    refine Own.mono (base:=W.heap.size) ((h1.only HP (fun k hk hm=>?_)).only hO2 (fun k hk hm=>?_)) (by omega)
    ·have:=(h1.lt hk).1
     simp at hm;omega
    ·have:=(h1.lt hk).1
     simp at hm;omega
   ·rw [HS.out.2];exact ⟨rfl,OwnL.nil _ _⟩
   ·exact below_trans (below_trans hbb (HP.below hbb.size (fun x hx=>by simp at hx;omega))) (hO2.below (Nat.le_trans hbb.size HP.size) (fun x hx=>by simp at hx;omega))
  generalize w9.putObj D (.deferred none)=wz at hFX hRC ⊢
  refine ⟨_,results_tc rfl _ _ w.heap.size 29 #[.int .i64 0,.string { data:=#[] },.string { data:=#[] },.string { data:=#[] },.string { data:=#[] },.string { data:=#[] },.int .i64 0,.slice none 0 0] (0,0) _ rfl hFX.blk Tryz.underlying29 rfl (by kernel_rfl),?_⟩
  unfold CloP
  exact ⟨.slice pa pn pc,zFv,N,E,c,rfl,HS.out.1,hRC.1,hRC.2.1,hRC.2.2⟩
 case stop=>
  rintro D c pre W _ _ h
  exact h.elim
end Go.Proofs.YtppnbdnpapellaaGreatDoor
