import Derived.Test.YtppnbdnpapellaaGreatDoorJLj
import Derived.Test.YtppnbdnpapellaaGreatDoorMa
import Derived.Test.YtppnbdnpapellaaGreatDoorJGy
import Derived.Test.YtppnbdnpapellaaGreatDoorJYf
import Derived.Test.YtppnbdnpapellaaGreatDoorJCf
set_option maxRecDepth 100000
set_option maxHeartbeats 16000000
namespace Go.Proofs.YtppnbdnpapellaaGreatDoor
section
open Go.RowKit Go.Maps
attribute [local go_sem] Oper.semAt_some
theorem same_law {w:World} {lv tv nv pv:Value} {l:List Fl} {t:List Lb} {nd:List Nd} {b0:Nat} (E0:Ev w) (hf:FS w lv l) (ht:LS w tv t) (B:OfB l t) (hn:NOwn b0 w nv nd) (hp:SS w pv (cloL nd))
  (hb:∀ N E c,(refE l t=0→RchS l t N E c)→bldP l t N E c=(nd,zPf)) :
  Calls Tryz.prog 14 #[lv,tv,nv,pv] w fun e w'=>e=.returned (.bool true)∧Below w.heap.size w w':=by
 have HX:Hid (Ev w∧FS w lv l∧LS w tv t∧OfB l t∧NOwn b0 w nv nd∧SS w pv (cloL nd)∧∀ N E c,(refE l t=0→RchS l t N E c)→bldP l t N E c=(nd,zPf)):=⟨E0,hf,ht,B,hn,hp,hb⟩
 have HB:=hid_of (bof_any E0 hf ht B)
 have HC:=hid_of (fun W (hW:Below w.heap.size w W)=>cof_any (E0.later hW) (hf.later hW) (ht.later hW) B)
 obtain ⟨fa,fcp,hfv,_⟩:=hf.form
 obtain ⟨fn,hfn⟩:∃ fn,l.length=fn:=⟨_,rfl⟩
 rw [hfn] at hfv
 subst hfv
 obtain ⟨ta,tc,htv,-⟩:=ht.form
 obtain ⟨tn,htn⟩:∃ tn,t.length=tn:=⟨_,rfl⟩
 rw [htn] at htv
 subst htv
 obtain ⟨na,ncp,hnv⟩:=hn.form
 obtain ⟨nn,hnn⟩:∃ nn,nd.length=nn:=⟨_,rfl⟩
 rw [hnn] at hnv
 subst hnv
 obtain ⟨pa,pc,hpv,-⟩:=hp.form
 obtain ⟨pn,hpn⟩:∃ pn,(cloL nd).length=pn:=⟨_,rfl⟩
 rw [hpn] at hpv
 subst hpv
 clear E0 hf ht B hn hp hb hfn htn hnn hpn
 go_enter Tryz.func14,Tryz.ntmps14
 go_wp2_with fail
 refine HB.out.mono ?_
 rintro e w1a h
 unfold OfP at h
 obtain ⟨nv1,fv1,N1,E1,c1,rfl,hS1,hno1,hfi1,hb1⟩:=h
 have hfine:=bld_fine HX.out.2.2.2.1 hS1
 rw [HX.out.2.2.2.2.2.2 _ _ _ hS1] at hno1 hfi1 hfine
 simp only at hno1 hfi1 hfine
 obtain ⟨ma,mcp,hmv⟩:=hno1.form
 obtain ⟨mn,hmn⟩:∃ mn,nd.length=mn:=⟨_,rfl⟩
 rw [hmn] at hmv
 subst hmv
 obtain ⟨fc1,⟨lp1,ln1⟩,⟨op1,on1⟩,fp1,fa1,ca1,cn1,cc1⟩:=fv1
 have hval:Fv.val ⟨fc1,⟨lp1,ln1⟩,⟨op1,on1⟩,fp1,fa1,ca1,cn1,cc1⟩=.agg #[.int .i64 fc1,.string (bs lp1),.string (bs ln1),.string (bs op1),.string (bs on1),.string (bs fp1),.int .i64 fa1,.slice ca1 cn1 cc1]:=rfl
 obtain ⟨w1b,hw1b⟩:∃ x,w1a.alloc (.cells #[.int .i64 fc1,.string (bs lp1),.string (bs ln1),.string (bs op1),.string (bs on1),.string (bs fp1),.int .i64 fa1,.slice ca1 cn1 cc1] 29)=x:=⟨_,rfl⟩
 have b1b:Below w1a.heap.size w1a w1b:=by rw [← hw1b];exact balloc _ _
 have K1:FK w1b w1a.heap.size ⟨fc1,⟨lp1,ln1⟩,⟨op1,on1⟩,fp1,fa1,ca1,cn1,cc1⟩:=by rw [← hw1b];exact FK.new _ ⟨fc1,⟨lp1,ln1⟩,⟨op1,on1⟩,fp1,fa1,ca1,cn1,cc1⟩
 rw [hval]
 clear hval
 have hc1:fc1=0:=congrArg Pf.code hfi1.it
 subst hc1
 have H1:Hid (Below w.heap.size w w1b∧NOwn w.heap.size w1b (.slice ma mn mcp) nd∧FK w1b w1a.heap.size ⟨0,⟨lp1,ln1⟩,⟨op1,on1⟩,fp1,fa1,ca1,cn1,cc1⟩∧nd.length≤100000000∧∀ n∈nd,n.srcs.length≤100000000∧n.deps.length≤100000000):=⟨bstep hb1 b1b,hno1.later b1b,K1,hfine.2.1,hfine.2.2⟩
 clear hno1 hfi1 hb1 b1b K1 hS1 hfine hmn HB
 go_wp2_with fail
 try rw [hw1b]
 clear hw1b
 refine (HC.out w1b H1.out.1).mono ?_
 rintro e w2a h
 unfold CloP at h
 obtain ⟨pv2,fv2,N2,E2,c2,rfl,hS2,hno2,hfi2,hb2⟩:=h
 have hsm:=clo_small HX.out.2.2.2.1 hS2
 rw [HX.out.2.2.2.2.2.2 _ _ _ hS2] at hno2 hfi2 hsm
 simp only at hno2 hfi2 hsm
 obtain ⟨qa,qc,hqv⟩:=hno2.slc
 obtain ⟨qn,hqn⟩:∃ qn,(cloL nd).length=qn:=⟨_,rfl⟩
 rw [hqn] at hqv
 subst hqv
 obtain ⟨fc2,⟨lp2,ln2⟩,⟨op2,on2⟩,fp2,fa2,ca2,cn2,cc2⟩:=fv2
 have hval:Fv.val ⟨fc2,⟨lp2,ln2⟩,⟨op2,on2⟩,fp2,fa2,ca2,cn2,cc2⟩=.agg #[.int .i64 fc2,.string (bs lp2),.string (bs ln2),.string (bs op2),.string (bs on2),.string (bs fp2),.int .i64 fa2,.slice ca2 cn2 cc2]:=rfl
 obtain ⟨w2b,hw2b⟩:∃ x,w2a.alloc (.cells #[.int .i64 fc2,.string (bs lp2),.string (bs ln2),.string (bs op2),.string (bs on2),.string (bs fp2),.int .i64 fa2,.slice ca2 cn2 cc2] 29)=x:=⟨_,rfl⟩
 have b2b:Below w2a.heap.size w2a w2b:=by rw [← hw2b];exact balloc _ _
 have K2:FK w2b w2a.heap.size ⟨fc2,⟨lp2,ln2⟩,⟨op2,on2⟩,fp2,fa2,ca2,cn2,cc2⟩:=by rw [← hw2b];exact FK.new _ ⟨fc2,⟨lp2,ln2⟩,⟨op2,on2⟩,fp2,fa2,ca2,cn2,cc2⟩
 rw [hval]
 clear hval
 have hc2:fc2=0:=congrArg Pf.code hfi2.it
 subst hc2
 have H2:Hid (Below w1b.heap.size w1b w2b∧SS w2b (.slice qa qn qc) (cloL nd)∧(cloL nd).length≤1000000000):=⟨bstep hb2 b2b,hno2.bs.later b2b,hsm.len⟩
 have u2:=K2.get.1
 have u1:=(H1.out.2.2.1.later H2.out.1).get.1
 clear hno2 hfi2 hb2 b2b K2 hS2 hsm hqn HC
 have HNQ:=hid_of (ndq_any (H1.out.2.1.later H2.out.1) (HX.out.2.2.2.2.1.later (bstep H1.out.1 H2.out.1)) H1.out.2.2.2.1 H1.out.2.2.2.2)
 go_wp2_with fail
 try rw [hw2b]
 clear hw2b
 refine HNQ.out.mono ?_
 rintro e w3 ⟨r,rfl,hr,hb3⟩
 obtain rfl:r=true:=hr.2 trivial
 have HT:=hid_of (same_any (H2.out.2.1.later hb3) (HX.out.2.2.2.2.2.1.later (bstep (bstep H1.out.1 H2.out.1) hb3)) (by have:=H2.out.2.2;omega))
 have HB3:Hid (Below w.heap.size w w3):=bstep (bstep H1.out.1 H2.out.1) hb3
 clear hb3 hr HNQ
 go_wp2_with fail
 refine HT.out.mono ?_
 rintro e w4 ⟨rfl,n,rfl⟩
 simp only [decide_true]
 have HB4:Hid (Below w.heap.size w (w3.drewN n)):=bstep HB3.out ((Only.drew [] _ n).below (Nat.le_refl _) (fun x hx=>by cases hx))
 generalize w3.drewN n=w5 at HB4 ⊢
 clear HT
 go_wp2_with fail
 go_ret
 exact ⟨rfl,HB4.out⟩
theorem clo_len {l:List Fl} {t N:List Lb} {E:List Ee} {c:List (List UInt8)} (B:OfB l t) (h:refE l t=0→RchS l t N E c):(cloL (bldP l t N E c).1).length≤769500000:=by
 rcases bld_ok (l:=l) (t:=t) (N:=N) (E:=E) (c:=c) with ⟨_,hb⟩ | ⟨_,hr0,hf0,hb⟩
 ·rw [hb];decide
 ·rw [hb]
  obtain ⟨hs1,hs2⟩:=nds_small (h hr0) hf0 hr0 B.ul
  have hs3:=ask_le (ndsP l N E) (fun n hn=>(hs2 n hn).2.2.1)
  have:=Nat.mul_le_mul_right 513 hs1
  have h4:=norm_len (askL (ndsP l N E))
  show (norm (askL (ndsP l N E))).length≤_
  omega
theorem uni_small {a b:List (List UInt8)} (ha:Sm a) (hb:Sm b) (hl:a.length+b.length≤1000000000):Sm (uni a b):=
 ⟨Nat.le_trans (norm_len _) (by rw [List.length_append];exact hl),fun x hx=>(mem_uni.1 hx).elim (ha.each x) (hb.each x)⟩
theorem clo_less {l:List Fl} {t N M:List Lb} {E F:List Ee} {d:List (List UInt8)} {q:List UInt8} (S:refE (keep l (som (cloL (ndsP l N E)) [q] false)) t=0→RchS (keep l (som (cloL (ndsP l N E)) [q] false)) t M F d) (hq:q∈cloL (ndsP l N E)) (h0:(bldP (keep l (som (cloL (ndsP l N E)) [q] false)) t M F d).2.code=0):(bldP (keep l (som (cloL (ndsP l N E)) [q] false)) t M F d).1≠ndsP l N E:=by
 intro he
 rcases bld_ok (l:=keep l (som (cloL (ndsP l N E)) [q] false)) (t:=t) (N:=M) (E:=F) (c:=d) with ⟨h,_⟩ | ⟨_,hr,hf,hb⟩
 ·exact h h0
 ·rw [hb] at he
  obtain ⟨f,hfk,hfp⟩:=clo_needs (S hr) hf he q hq
  unfold keep at hfk
  have h1:=(List.mem_filter.1 hfk).2
  rw [decide_eq_true_eq,hfp,mem_mns] at h1
  exact h1.2 (by simp)
theorem SS.part {w:World} {b off n c i:Nat} {A:List (List UInt8)} (h:SS w (.slice (some ⟨b,off,none⟩) n c) A) (hi:i < A.length) (c':Nat) (hc:1≤c'):SS w (.slice (some ⟨b,off+i,none⟩) 1 c') [A[i]'hi]:=by
 obtain ⟨a,c2,e,hcell⟩:=h.form
 obtain ⟨b',off',ea,hlt,h0⟩:=hcell i hi
 injection e with e1 _ _
 rw [← e1] at ea
 injection ea with ea
 injection ea with ea1 ea2 _
 subst ea1
 subst ea2
 refine .inr ⟨b,off+i,c',rfl,hc,hlt,fun j u hu=>?_⟩
 match j,hu with
 | 0,hu=>
  have:u=.string (bs (A[i]'hi)):=by simpa [sc] using hu.symm
  rw [this];exact h0
theorem enough_law {w:World} {lv tv mv:Value} {l:List Fl} {t:List Lb} {more:List (List UInt8)} (E0:Ev w) (hf:FS w lv l) (ht:LS w tv t) (hm:SS w mv more) (B:OfB l t) (sm:Sm more) (hl:l.length≤1000000) (hms:more.length≤100000000) :
  Calls Tryz.prog 4 #[lv,tv,mv] w fun e w'=>e=.returned (.bool true)∧Below w.heap.size w w':=by
 have HX:Hid (Ev w∧FS w lv l∧LS w tv t∧SS w mv more∧OfB l t∧Sm more∧l.length≤1000000∧more.length≤100000000):=⟨E0,hf,ht,hm,B,sm,hl,hms⟩
 obtain ⟨fa,fcp,hfv,_⟩:=hf.form
 obtain ⟨fn,hfn⟩:∃ fn,l.length=fn:=⟨_,rfl⟩
 rw [hfn] at hfv
 subst hfv
 obtain ⟨ta,tc,htv,-⟩:=ht.form
 obtain ⟨tn,htn⟩:∃ tn,t.length=tn:=⟨_,rfl⟩
 rw [htn] at htv
 subst htv
 obtain ⟨ma,mc,hmv,-⟩:=hm.form
 obtain ⟨mn,hmn⟩:∃ mn,more.length=mn:=⟨_,rfl⟩
 rw [hmn] at hmv
 subst hmv
 clear E0 hf ht hm B sm hl hms hfn htn hmn
 go_enter Tryz.func4,Tryz.ntmps4
 go_wp2_with fail
 refine (cof_any HX.out.1 HX.out.2.1 HX.out.2.2.1 HX.out.2.2.2.2.1).mono ?_
 rintro e w1a h
 unfold CloP at h
 obtain ⟨pv,fv1,N1,E1,c1,rfl,hS1,hno1,hfi1,hb1⟩:=h
 obtain ⟨pa,pc,hpv⟩:=hno1.slc
 obtain ⟨pn,hpn⟩:∃ pn,(cloL (bldP l t N1 E1 c1).1).length=pn:=⟨_,rfl⟩
 rw [hpn] at hpv
 subst hpv
 obtain ⟨fc1,⟨lp1,ln1⟩,⟨op1,on1⟩,fp1,fa1,ca1,cn1,cc1⟩:=fv1
 have hval:Fv.val ⟨fc1,⟨lp1,ln1⟩,⟨op1,on1⟩,fp1,fa1,ca1,cn1,cc1⟩=.agg #[.int .i64 fc1,.string (bs lp1),.string (bs ln1),.string (bs op1),.string (bs on1),.string (bs fp1),.int .i64 fa1,.slice ca1 cn1 cc1]:=rfl
 obtain ⟨w1b,hw1b⟩:∃ x,w1a.alloc (.cells #[.int .i64 fc1,.string (bs lp1),.string (bs ln1),.string (bs op1),.string (bs on1),.string (bs fp1),.int .i64 fa1,.slice ca1 cn1 cc1] 29)=x:=⟨_,rfl⟩
 have b1b:Below w1a.heap.size w1a w1b:=by rw [← hw1b];exact balloc _ _
 have K1:FK w1b w1a.heap.size ⟨fc1,⟨lp1,ln1⟩,⟨op1,on1⟩,fp1,fa1,ca1,cn1,cc1⟩:=by rw [← hw1b];exact FK.new _ ⟨fc1,⟨lp1,ln1⟩,⟨op1,on1⟩,fp1,fa1,ca1,cn1,cc1⟩
 rw [hval]
 clear hval
 have H1:Hid (Below w.heap.size w w1b∧SS w1b (.slice pa pn pc) (cloL (bldP l t N1 E1 c1).1)∧FK w1b w1a.heap.size ⟨fc1,⟨lp1,ln1⟩,⟨op1,on1⟩,fp1,fa1,ca1,cn1,cc1⟩∧FvIs w.heap.size w1b ⟨fc1,⟨lp1,ln1⟩,⟨op1,on1⟩,fp1,fa1,ca1,cn1,cc1⟩ (bldP l t N1 E1 c1).2∧(cloL (bldP l t N1 E1 c1).1).length=pn∧(refE l t=0→RchS l t N1 E1 c1)):=⟨bstep hb1 b1b,hno1.bs.later b1b,K1,hfi1.later b1b,hpn,hS1⟩
 clear hno1 hfi1 hb1 b1b K1 hpn hS1
 have HB:=hid_of (bof_any (HX.out.1.later H1.out.1) (HX.out.2.1.later H1.out.1) (HX.out.2.2.1.later H1.out.1) HX.out.2.2.2.2.1)
 go_wp2_with fail
 try rw [hw1b]
 clear hw1b
 refine HB.out.mono ?_
 rintro e w2a h
 unfold OfP at h
 obtain ⟨nv,fv2,N,E,c,rfl,hS,hno2,hfi2,hb2⟩:=h
 obtain ⟨na,nc,hnv⟩:=hno2.form
 obtain ⟨nn,hnn⟩:∃ nn,(bldP l t N E c).1.length=nn:=⟨_,rfl⟩
 rw [hnn] at hnv
 subst hnv
 obtain ⟨fc2,⟨lp2,ln2⟩,⟨op2,on2⟩,fp2,fa2,ca2,cn2,cc2⟩:=fv2
 have hval:Fv.val ⟨fc2,⟨lp2,ln2⟩,⟨op2,on2⟩,fp2,fa2,ca2,cn2,cc2⟩=.agg #[.int .i64 fc2,.string (bs lp2),.string (bs ln2),.string (bs op2),.string (bs on2),.string (bs fp2),.int .i64 fa2,.slice ca2 cn2 cc2]:=rfl
 obtain ⟨w2b,hw2b⟩:∃ x,w2a.alloc (.cells #[.int .i64 fc2,.string (bs lp2),.string (bs ln2),.string (bs op2),.string (bs on2),.string (bs fp2),.int .i64 fa2,.slice ca2 cn2 cc2] 29)=x:=⟨_,rfl⟩
 have b2b:Below w2a.heap.size w2a w2b:=by rw [← hw2b];exact balloc _ _
 have K2:FK w2b w2a.heap.size ⟨fc2,⟨lp2,ln2⟩,⟨op2,on2⟩,fp2,fa2,ca2,cn2,cc2⟩:=by rw [← hw2b];exact FK.new _ ⟨fc2,⟨lp2,ln2⟩,⟨op2,on2⟩,fp2,fa2,ca2,cn2,cc2⟩
 rw [hval]
 clear hval
 have heq:bldP l t N1 E1 c1=bldP l t N E c:=bldP_ext (fun _=>Iff.rfl) H1.out.2.2.2.2.2 hS
 have hcode1:fc1=(bldP l t N E c).2.code:=by rw [← heq];exact congrArg Pf.code H1.out.2.2.2.1.it
 rw [heq] at H1
 have H2:Hid (Below w1b.heap.size w1b w2b∧NOwn w1b.heap.size w2b (.slice na nn nc) (bldP l t N E c).1∧FK w2b w2a.heap.size ⟨fc2,⟨lp2,ln2⟩,⟨op2,on2⟩,fp2,fa2,ca2,cn2,cc2⟩∧FvIs w1b.heap.size w2b ⟨fc2,⟨lp2,ln2⟩,⟨op2,on2⟩,fp2,fa2,ca2,cn2,cc2⟩ (bldP l t N E c).2∧(refE l t=0→RchS l t N E c)∧fc1=(bldP l t N E c).2.code):=⟨bstep hb2 b2b,hno2.later b2b,K2,hfi2.later b2b,hS,hcode1⟩
 clear hno2 hfi2 hb2 b2b K2 hnn hS heq hcode1 HB
 have HW2:Hid (Below w.heap.size w w2b):=bstep H1.out.1 H2.out.1
 have HAL:=hid_of (alive_any (HX.out.1.later HW2.out))
 go_wp2_with fail
 try rw [hw2b]
 clear hw2b
 refine HAL.out.mono ?_
 rintro e w3 ⟨rfl,hb3⟩
 have b13:Below w1b.heap.size w1b w3:=bstep H2.out.1 hb3
 obtain ⟨z0,z1,z2,z3,z4,z5,z6,z7⟩:=(H1.out.2.2.1.later b13).get
 obtain ⟨u0,u1,u2,u3,u4,u5,u6,u7⟩:=(H2.out.2.2.1.later hb3).get
 have HSF:=hid_of (sameFault_any (H1.out.2.2.2.1.later b13) (H2.out.2.2.2.1.later hb3) (bld_fine HX.out.2.2.2.2.1 H2.out.2.2.2.2.1).1)
 have HB3:Hid (Below w.heap.size w w3∧SS w3 (.slice pa pn pc) (cloL (bldP l t N E c).1)∧NOwn w1b.heap.size w3 (.slice na nn nc) (bldP l t N E c).1∧FK w3 w1a.heap.size ⟨fc1,⟨lp1,ln1⟩,⟨op1,on1⟩,fp1,fa1,ca1,cn1,cc1⟩):=⟨bstep HW2.out hb3,H1.out.2.1.later b13,H2.out.2.1.later hb3,H1.out.2.2.1.later b13⟩
 clear hb3 b13 HAL
 simp only [Fv.val] at HSF
 go_wp2_with fail
 refine HSF.out.mono ?_
 rintro e w4 ⟨rfl,hb4⟩
 have q0:=(HB3.out.2.2.2.later hb4).get.1
 have HB4:Hid (Below w.heap.size w w4∧SS w4 (.slice pa pn pc) (cloL (bldP l t N E c).1)∧NOwn w1b.heap.size w4 (.slice na nn nc) (bldP l t N E c).1):=⟨bstep HB3.out.1 hb4,HB3.out.2.1.later hb4,HB3.out.2.2.1.later hb4⟩
 clear hb4 HSF z0 z1 z2 z3 z4 z5 z6 z7 u0 u1 u2 u3 u4 u5 u6 u7
 by_cases hc0:fc1=0
 ·subst hc0
  obtain ⟨hr0,hf0,hbl⟩:refE l t=0∧(fltP l N E c).2=false∧bldP l t N E c=(ndsP l N E,zPf):=by
   rcases bld_ok (l:=l) (t:=t) (N:=N) (E:=E) (c:=c) with ⟨h,_⟩ | ⟨_,h0,hf,hb⟩
   ·exact absurd H2.out.2.2.2.2.2.symm h
   ·exact ⟨h0,hf,hb⟩
  have hS0:=H2.out.2.2.2.2.1 hr0
  have hsm:=clo_small HX.out.2.2.2.2.1 H2.out.2.2.2.2.1
  have hcl:=clo_len HX.out.2.2.2.2.1 H2.out.2.2.2.2.1
  have hkl:(keep l (cloL (bldP l t N E c).1)).length=(cloL (bldP l t N E c).1).length:=by
   rw [hbl]
   exact keep_len (refE_ok hr0).1 (up_norm _) (fun q hq=>clo_file hS0 hf0 hq)
  have hpn:=H1.out.2.2.2.2.1
  rw [hbl] at hsm hcl hkl hpn
  simp only at hsm hcl hkl hpn
  rw [hpn] at hkl
  have HG:Hid (∀ ps,(∀ q∈cloL (ndsP l N E),q∈ps)→∀ N' E' c',(refE (keep l ps) t=0→RchS (keep l ps) t N' E' c')→bldP (keep l ps) t N' E' c'=(ndsP l N E,zPf)):=fun ps hps N' E' c' S'=>((clo_prt hS0 hf0 hps).bld hr0 hS0 hf0 S').trans hbl
  have HM:Hid (Sm (cloL (ndsP l N E))∧(cloL (ndsP l N E)).length≤769500000∧(keep l (cloL (ndsP l N E))).length=pn∧(cloL (ndsP l N E)).length=pn):=⟨hsm,hcl,hkl,hpn⟩
  have HFN:Hid ((ndsP l N E).length≤100000000∧∀ n∈ndsP l N E,n.srcs.length≤100000000∧n.deps.length≤100000000):=by
   have h:=(bld_fine HX.out.2.2.2.2.1 H2.out.2.2.2.2.1).2
   rw [hbl] at h
   exact h
  rw [hbl] at HB4
  have HB4':Hid (Below w.heap.size w w4∧SS w4 (.slice pa pn pc) (cloL (ndsP l N E))∧NOwn w1b.heap.size w4 (.slice na nn nc) (ndsP l N E)):=HB4.out
  clear hr0 hf0 hbl hS0 hsm hcl hkl hpn H1 H2 HB3 HB4
  have HU:=hid_of (union_any HB4'.out.2.1 (HX.out.2.2.2.1.later HB4'.out.1) HM.out.1 HX.out.2.2.2.2.2.1)
  go_wp2_with fail
  refine HU.out.mono ?_
  rintro e w5 ⟨uv,rfl,huo,hb5⟩
  obtain ⟨ua,uc,hx⟩:=huo.slc
  obtain ⟨un,hun⟩:∃ un,(uni (cloL (ndsP l N E)) more).length=un:=⟨_,rfl⟩
  rw [hun] at hx
  subst hx
  have HK:=hid_of (keep_any (HX.out.2.1.later (bstep HB4'.out.1 hb5)) huo.bs HX.out.2.2.2.2.1.fs (uni_small HM.out.1 HX.out.2.2.2.2.2.1 (by have:=HM.out.2.1;have:=HX.out.2.2.2.2.2.2.2;omega)) HX.out.2.2.2.2.2.2.1)
  have HB5:Hid (Below w4.heap.size w4 w5):=hb5
  clear huo hb5 hun HU
  go_wp2_with fail
  refine HK.out.mono ?_
  rintro e w6 ⟨kv,rfl,hko,hb6⟩
  obtain ⟨ka,kc,hx,-⟩:=hko.fs.form
  obtain ⟨kn,hkn⟩:∃ kn,(keep l (uni (cloL (ndsP l N E)) more)).length=kn:=⟨_,rfl⟩
  rw [hkn] at hx
  subst hx
  have HB6:Hid (Below w4.heap.size w4 w6∧FS w6 (.slice ka kn kc) (keep l (uni (cloL (ndsP l N E)) more))):=⟨bstep HB5.out hb6,hko.fs⟩
  have HK2:=hid_of (keep_any (HX.out.2.1.later (bstep HB4'.out.1 HB6.out.1)) (HB4'.out.2.1.later HB6.out.1) HX.out.2.2.2.2.1.fs HM.out.1 HX.out.2.2.2.2.2.2.1)
  clear hko hb6 hkn HK HB5
  go_wp2_with fail
  refine HK2.out.mono ?_
  rintro e w7 ⟨sv,rfl,hso,hb7⟩
  obtain ⟨sa,scp,hx,-⟩:=hso.fs.form
  rw [HM.out.2.2.1] at hx
  subst hx
  have HB7:Hid (Below w4.heap.size w4 w7∧FS w7 (.slice ka kn kc) (keep l (uni (cloL (ndsP l N E)) more))∧FS w7 (.slice sa pn scp) (keep l (cloL (ndsP l N E)))):=⟨bstep HB6.out.1 hb7,HB6.out.2.later hb7,hso.fs⟩
  have HA:=hid_of (same_law (HX.out.1.later (bstep HB4'.out.1 HB7.out.1)) HB7.out.2.1 (HX.out.2.2.1.later (bstep HB4'.out.1 HB7.out.1)) (HX.out.2.2.2.2.1.sub List.filter_sublist) (HB4'.out.2.2.later HB7.out.1) (HB4'.out.2.1.later HB7.out.1) (HG.out _ (fun q hq=>mem_uni.2 (.inl hq))))
  clear hso hb7 HK2 HB6
  go_wp2_with fail
  refine HA.out.mono ?_
  rintro e w8 ⟨rfl,hb8⟩
  have HB8:Hid (Below w4.heap.size w4 w8):=bstep HB7.out.1 hb8
  have HA2:=hid_of (same_law (HX.out.1.later (bstep HB4'.out.1 HB8.out)) (HB7.out.2.2.later hb8) (HX.out.2.2.1.later (bstep HB4'.out.1 HB8.out)) (HX.out.2.2.2.2.1.sub List.filter_sublist) (HB4'.out.2.2.later HB8.out) (HB4'.out.2.1.later HB8.out) (HG.out _ (fun q hq=>hq)))
  clear hb8 HA HB7
  go_wp2_with fail
  refine HA2.out.mono ?_
  rintro e w9 ⟨rfl,hb9⟩
  have HB9:Hid (Below w4.heap.size w4 w9):=bstep HB8.out hb9
  clear hb9 HA2 HB8 q0
  go_wp2_with fail
  go_loopw [13] (fun s13 wr=>∃ i:Nat,s13=.int .i64 i∧i≤pn∧Below w4.heap.size w4 wr) (fun s13 _=>pn - (intOf s13).toNat)
  case atStart=>exact ⟨0,rfl,Nat.zero_le _,HB9.out⟩
  case round=>
   obtain ⟨i,rfl,hi,hb⟩:=hrel
   have HBr:Hid (Below w4.heap.size w4 wr):=hb
   clear hb
   by_cases hlt:i < pn
   ·by_cases h24:i < 24
    ·have i1:(i:Int) < (pn:Int):=by omega
     have i2:(i:Int) < 24:=by omega
     have hil:i < (cloL (ndsP l N E)).length:=by rw [HM.out.2.2.2];exact hlt
     obtain ⟨b,off,hpa,hcap⟩:∃ b off,pa=some ⟨b,off,none⟩∧pn≤pc:=by
      rcases HB4'.out.2.1 with ⟨_,h0⟩ | ⟨b,off,cap,e,hc,_,_⟩
      ·rw [h0] at hil;simp at hil
      ·injection e with e1 _ e3
       rw [HM.out.2.2.2,← e3] at hc
       exact ⟨b,off,e1,hc⟩
     subst hpa
     have j1:(i:Int)+1≤(pc:Int):=by omega
     have j2:(0:Int)≤(i:Int):=by omega
     have hcq:1≤pc - i:=by omega
     have HMN:=hid_of (minus_any (HB4'.out.2.1.later HBr.out) ((HB4'.out.2.1.later HBr.out).part hil (pc - i) hcq) HM.out.1 ⟨by simp,fun x hx=>by rw [List.mem_singleton.1 hx];exact HM.out.1.each _ (List.getElem_mem _)⟩)
     have HQI:Hid ((cloL (ndsP l N E))[i]∈cloL (ndsP l N E)):=List.getElem_mem _
     go_wp2_with fail
     refine HMN.out.mono ?_
     rintro e w10 ⟨xv,rfl,hxo,hb10⟩
     obtain ⟨xa,xc,hx⟩:=hxo.slc
     obtain ⟨xn,hxn⟩:∃ xn,(som (cloL (ndsP l N E)) [(cloL (ndsP l N E))[i]] false).length=xn:=⟨_,rfl⟩
     rw [hxn] at hx
     subst hx
     have HB10:Hid (Below w4.heap.size w4 w10):=bstep HBr.out hb10
     have HKK:=hid_of (keep_any (HX.out.2.1.later (bstep HB4'.out.1 HB10.out)) hxo.bs HX.out.2.2.2.2.1.fs (Sm.som false HM.out.1) HX.out.2.2.2.2.2.2.1)
     clear hxo hb10 hxn HMN
     go_wp2_with fail
     refine HKK.out.mono ?_
     rintro e w11 ⟨yv,rfl,hyo,hb11⟩
     obtain ⟨ya,yc,hx,-⟩:=hyo.fs.form
     obtain ⟨yn,hyn⟩:∃ yn,(keep l (som (cloL (ndsP l N E)) [(cloL (ndsP l N E))[i]] false)).length=yn:=⟨_,rfl⟩
     rw [hyn] at hx
     subst hx
     have HB11:Hid (Below w4.heap.size w4 w11):=bstep HB10.out hb11
     have HOF:=hid_of (bof_any (HX.out.1.later (bstep HB4'.out.1 HB11.out)) hyo.fs (HX.out.2.2.1.later (bstep HB4'.out.1 HB11.out)) (HX.out.2.2.2.2.1.sub List.filter_sublist))
     clear hyo hb11 hyn HKK
     go_wp2_with fail
     refine HOF.out.mono ?_
     rintro e wza h
     unfold OfP at h
     obtain ⟨nvz,fvz,N3,E3,c3,rfl,hS3,hno3,hfi3,hb12⟩:=h
     have hfine:=(bld_fine (HX.out.2.2.2.2.1.sub List.filter_sublist) hS3).2
     obtain ⟨za,zc,hzv⟩:=hno3.form
     obtain ⟨zn,hzn⟩:∃ zn,(bldP (keep l (som (cloL (ndsP l N E)) [(cloL (ndsP l N E))[i]] false)) t N3 E3 c3).1.length=zn:=⟨_,rfl⟩
     rw [hzn] at hzv
     subst hzv
     obtain ⟨fcz,⟨lpz,lnz⟩,⟨opz,onz⟩,fpz,faz,caz,cnz,ccz⟩:=fvz
     have hval:Fv.val ⟨fcz,⟨lpz,lnz⟩,⟨opz,onz⟩,fpz,faz,caz,cnz,ccz⟩=.agg #[.int .i64 fcz,.string (bs lpz),.string (bs lnz),.string (bs opz),.string (bs onz),.string (bs fpz),.int .i64 faz,.slice caz cnz ccz]:=rfl
     obtain ⟨wzb,hwzb⟩:∃ x,wza.alloc (.cells #[.int .i64 fcz,.string (bs lpz),.string (bs lnz),.string (bs opz),.string (bs onz),.string (bs fpz),.int .i64 faz,.slice caz cnz ccz] 29)=x:=⟨_,rfl⟩
     have bzb:Below wza.heap.size wza wzb:=by rw [← hwzb];exact balloc _ _
     have Kz:FK wzb wza.heap.size ⟨fcz,⟨lpz,lnz⟩,⟨opz,onz⟩,fpz,faz,caz,cnz,ccz⟩:=by rw [← hwzb];exact FK.new _ ⟨fcz,⟨lpz,lnz⟩,⟨opz,onz⟩,fpz,faz,caz,cnz,ccz⟩
     rw [hval]
     clear hval
     have hcz:fcz=(bldP (keep l (som (cloL (ndsP l N E)) [(cloL (ndsP l N E))[i]] false)) t N3 E3 c3).2.code:=congrArg Pf.code hfi3.it
     have u0:=Kz.get.1
     have HZ:Hid (Below w4.heap.size w4 wzb∧NOwn w11.heap.size wzb (.slice za zn zc) (bldP (keep l (som (cloL (ndsP l N E)) [(cloL (ndsP l N E))[i]] false)) t N3 E3 c3).1∧(refE (keep l (som (cloL (ndsP l N E)) [(cloL (ndsP l N E))[i]] false)) t=0→RchS (keep l (som (cloL (ndsP l N E)) [(cloL (ndsP l N E))[i]] false)) t N3 E3 c3)∧fcz=(bldP (keep l (som (cloL (ndsP l N E)) [(cloL (ndsP l N E))[i]] false)) t N3 E3 c3).2.code∧(bldP (keep l (som (cloL (ndsP l N E)) [(cloL (ndsP l N E))[i]] false)) t N3 E3 c3).1.length≤100000000∧∀ n∈(bldP (keep l (som (cloL (ndsP l N E)) [(cloL (ndsP l N E))[i]] false)) t N3 E3 c3).1,n.srcs.length≤100000000∧n.deps.length≤100000000):=⟨bstep (bstep HB11.out hb12) bzb,hno3.later bzb,hS3,hcz,hfine⟩
     clear hS3 hno3 hfi3 hb12 hfine hzn Kz bzb hcz HOF
     by_cases hz0:fcz=0
     ·have HNE:Hid ((bldP (keep l (som (cloL (ndsP l N E)) [(cloL (ndsP l N E))[i]] false)) t N3 E3 c3).1≠ndsP l N E):=clo_less HZ.out.2.2.1 HQI.out (HZ.out.2.2.2.1.symm.trans hz0)
      have HNQ:=hid_of (ndq_any HZ.out.2.1 (HB4'.out.2.2.later HZ.out.1) HZ.out.2.2.2.2.1 HZ.out.2.2.2.2.2)
      subst hz0
      go_wp2_with fail
      try rw [hwzb]
      clear hwzb
      refine HNQ.out.mono ?_
      rintro e w13 ⟨r,rfl,hr,hb13⟩
      obtain rfl:r=false:=by
       cases r
       ·rfl
       ·exact absurd (hr.1 rfl) HNE.out
      have HB13:Hid (Below w4.heap.size w4 w13):=bstep HZ.out.1 hb13
      clear hr hb13 HNQ
      go_wp2_with fail
      go_roundw
      case rel=>exact ⟨i+1,by go_num,by omega,HB13.out⟩
      case measure=>simp [intOf];omega
     ·have n1:(fcz == 0)=false:=by simpa using hz0
      have n2:decide (fcz=0)=false:=by simpa using hz0
      clear hz0
      go_wp2_with fail
      try rw [hwzb]
      clear hwzb
      go_roundw
      case rel=>exact ⟨i+1,by go_num,by omega,HZ.out.1⟩
      case measure=>simp [intOf];omega
    ·have i1:(i:Int) < (pn:Int):=by omega
     have i2:¬ (i:Int) < 24:=by omega
     go_wp2_with fail
     go_ret
     exact ⟨rfl,bstep HB4'.out.1 HBr.out⟩
   ·have i1:¬ (i:Int) < (pn:Int):=by omega
    go_wp2_with fail
    go_ret
    exact ⟨rfl,bstep HB4'.out.1 HBr.out⟩
 ·have n1:(fc1 == 0)=false:=by simpa using hc0
  have n2:decide (fc1=0)=false:=by simpa using hc0
  have n3:(fc1 != 0)=true:=by simpa using hc0
  have hp0:pn=0:=by
   have h1:=H1.out.2.2.2.2.1
   rcases bld_ok (l:=l) (t:=t) (N:=N) (E:=E) (c:=c) with ⟨_,h⟩ | ⟨h,_⟩
   ·rw [← h1,h];rfl
   ·exact absurd (H2.out.2.2.2.2.2.trans h) hc0
  subst hp0
  clear hc0
  go_wp2_with fail
  go_ret
  exact ⟨rfl,HB4.out.1⟩
end
section
open Go.ChangeShapes Go.WideShapes Go.ChangeAt Go.RowKit Go.Deep
theorem bulk_strs {H:Type}:∀ l:List (List UInt8),l.length≤Rows.uptoBulkAll (l.map fun s=>(DataW.lit (.string s):DataW H))∧∀ x∈l,x.length≤Rows.uptoBulkAll (l.map fun s=>(DataW.lit (.string s):DataW H))
 | []=>⟨by simp,fun x hx=>by cases hx⟩
 | y::l=>by
  obtain ⟨h1,h2⟩:=bulk_strs (H:=H) l
  rw [List.map_cons]
  simp only [Rows.uptoBulkAll,Rows.uptoBulk,List.length_cons]
  refine ⟨by omega,fun x hx=>?_⟩
  rcases List.mem_cons.1 hx with rfl | hx
  ·omega
  ·have:=h2 x hx;omega
theorem open_texts {H:Type} {enc:TypeId×Value→H} {W:World} {base:Nat} {v:Value} {d:DataW H} {ps:List MemPlace} (hok:Value.okWide Tryz.prog W .any base 24 v)
  (h:DataW.Trod enc Tryz.prog W 0 (fun _=>true) true 24 v d ps) (hd:Rows.uptoBulk d≤1048576):∃ l:List (List UInt8),SS W v l∧l.length≤1048576∧Sm l:=by
 obtain ⟨a0,len0,cap0,rfl⟩:=okWide_slice Tryz.underlying24 hok
 obtain ⟨fuel,hf⟩:=h
 rcases open_strs Tryz.underlying24 Tryz.underlying9 cells9 hf with ⟨hcs,_⟩ | ⟨a,len,cap,m,Sx,hcs,_,hl,hm,hmm,hx,hcell⟩
 ·simp [Value.cells] at hcs
  obtain ⟨rfl,rfl,rfl⟩:=hcs
  exact ⟨[],SS_nil _,by simp,⟨by simp,fun x hx=>by cases hx⟩⟩
 ·simp [Value.cells] at hcs
  obtain ⟨rfl,rfl,rfl⟩:=hcs
  simp at hmm
  subst hmm
  have hd2:d=.slice ((List.range len0).map fun i=>.lit (.string (Sx i).data.toList)) ((List.range (m - len0)).map fun j=>.lit (.string (Sx (len0+j)).data.toList)):=by simpa using congrArg Prod.fst hx
  have e1:(List.range len0).map (fun i=>(DataW.lit (.string (Sx i).data.toList):DataW H))=((List.range len0).map fun i=>(Sx i).data.toList).map fun s=>.lit (.string s):=by simp [Function.comp_def]
  obtain ⟨h1,h2⟩:=bulk_strs (H:=H) ((List.range len0).map fun i=>(Sx i).data.toList)
  rw [← e1] at h1 h2
  rw [hd2] at hd
  simp only [Rows.uptoBulk] at hd
  refine ⟨(List.range len0).map fun i=>(Sx i).data.toList,?_,by omega,⟨by omega,fun x hx=>by have:=h2 x hx;omega⟩⟩
  by_cases h0:len0=0
  ·subst h0
   exact .inl ⟨⟨_,_,rfl⟩,rfl⟩
  ·obtain ⟨b,off,spot⟩:=a
   have hspot:spot=none:=by simpa [Addr.add] using World.cell?_spot (hcell 0 (by omega)).1
   subst hspot
   have hc0:=(hcell 0 (by omega)).1
   rw [add_lit] at hc0
   refine .inr ⟨b,off,m,by simp,by simpa using hl,World.block_lt_of_cell? W _ hc0,fun i u hu=>?_⟩
   have hi:i < len0:=by
    have:=(List.getElem?_eq_some_iff.1 hu).1
    simpa [sc_length] using this
   have hc:=(hcell i (by omega)).1
   rw [add_lit] at hc
   rw [hc,← hu]
   simp [sc,hi]
   rfl
end
end Go.Proofs.YtppnbdnpapellaaGreatDoor
