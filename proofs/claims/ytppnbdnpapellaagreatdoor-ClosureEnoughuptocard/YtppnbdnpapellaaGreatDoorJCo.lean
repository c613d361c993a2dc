import Derived.Test.YtppnbdnpapellaaGreatDoorJCl
import Derived.Test.YtppnbdnpapellaaGreatDoorJBy
import Derived.Test.YtppnbdnpapellaaGreatDoorJCf
import Derived.Test.YtppnbdnpapellaaGreatDoorJLSees
set_option maxRecDepth 100000
set_option maxHeartbeats 16000000
namespace Go.Proofs.YtppnbdnpapellaaGreatDoor
section
open Go.RowKit Go.Maps
structure Pf where
 code:Int
 lab:Lb
 oth:Lb
 path:List UInt8
 at':Int
 circ:List Lb
def Fv.pf (f:Fv) (q:List Lb):Pf:=⟨f.code,f.lab,f.oth,f.path,f.at',q⟩
structure FvIs (base:Nat) (w:World) (v:Fv) (f:Pf):Prop where
 it:v.pf f.circ=f
 ci:OwnL base w (.slice v.ca v.cn v.cc) f.circ
def Fv.bare (f:Fv):Prop:=f.ca=none∧f.cn=0∧f.cc=0
theorem zFv_bare:zFv.bare:=⟨rfl,rfl,rfl⟩
theorem fstF_bare {fd:Lb→Bool} {ft:Lb→Fv} (h:∀ a,(ft a).bare) (ls:List Lb):(fstF fd ft ls).bare:=by
 unfold fstF
 split
 ·exact h _
 ·exact zFv_bare
theorem brkF_bare (l:List Fl) (c:List (List UInt8)):(brkF l c).bare:=by
 unfold brkF
 split
 ·exact ⟨rfl,rfl,rfl⟩
 ·exact zFv_bare
theorem misF_bare (l:List Fl) (a:Lb):(misF l a).bare:=by
 unfold misF
 split
 ·exact ⟨rfl,rfl,rfl⟩
 ·split
  ·exact zFv_bare
  ·exact ⟨rfl,rfl,rfl⟩
theorem unsF_bare (l:List Fl) (a:Lb):(unsF l a).bare:=by
 unfold unsF
 split
 ·exact ⟨rfl,rfl,rfl⟩
 ·exact zFv_bare
theorem FvIs.bare {base:Nat} {w:World} {f:Fv} (h:f.bare):FvIs base w f (f.pf []):=by
 obtain ⟨h1,h2,h3⟩:=h
 refine ⟨rfl,?_⟩
 rw [h1,h2,h3]
 exact OwnL.nil _ _
noncomputable def crcL (N:List Lb) (E:List Ee):Option (List Lb):=frs E (Gs.pts ltL N E)
noncomputable def fltP (l:List Fl) (N:List Lb) (E:List Ee) (c:List (List UInt8)):Pf×Bool:=
 if l.any (isBk l c) then ((brkF l c).pf [],true)
 else if (rs N).any (misB l) then ((fstF (misB l) (misF l) (rs N)).pf [],true)
 else if (crcL N E).isSome then (⟨3,⟨[],[]⟩,⟨[],[]⟩,[],0,(crcL N E).getD []⟩,true)
 else ((fstF (unsB l) (unsF l) (rs N)).pf [],(rs N).any (unsB l))
def FltP (w:World) (f:Pf×Bool) (e:Ending) (w':World):Prop:=∃ v:Fv,e=.returned (.tuple #[v.val,.bool f.2])∧FvIs w.heap.size w' v f.1∧Below w.heap.size w w'
theorem bfault_any {w0 w:World} {R:Nat→Prop} {r g B:Nat} {c:List (List UInt8)} {l:List Fl} {N:List Lb} {E:List Ee} (H:RX w0 w R r l c) (E0:Ev w0) (sm:FQ l) (hc:c.length≤1000000000) (P:PG B w g N E) (hz:N.length≤2000000) (hez:E.length≤2000000)
  (hn:∀ a∈N,Lu a∧Lm a∧a.pkg∈c∧a.pkg.length≤400000000∧∀ b∈dpsL l a,b∈N)
  (ht:∀ a,(((tgtL l a).getD zT).srcs).length≤64∧(∀ s∈((tgtL l a).getD zT).srcs,s.length≤400000000)∧(dpsL l a).length≤1000∧((tgtL l a).getD zT).see.length≤1125899906842624∧∀ x∈((tgtL l a).getD zT).see,x.length≤1125899906842624) :
  Calls Tryz.prog 30 #[.pointer (some ⟨r,0,none⟩),.pointer (some ⟨g,0,none⟩)] w (FltP w (fltP l N E c)):=by
 have hmr:∀ a,a∈rs N↔a∈N:=fun a=>Gs.mem_ris a N
 have hrl:(rs N).length≤N.length:=Gs.ris_le N
 have HND:=hid_of (fun W (hW:Below w.heap.size w W)=>(P.later hW).nodes)
 have HBK:=hid_of (fun W (hW:Below w.heap.size w W)=>bbroken_any (H.later hW) sm)
 have HMI:=hid_of (fun W (hW:Below w.heap.size w W) (lv:Value) (hl:LS W lv (rs N))=>bfirst47_any (r:=r) (fd:=misB l) (ft:=misF l) hl (by omega) (fun W' a hW' ha=>bmissing_any ((H.later hW).later hW') E0 sm hc a (hn a ((hmr a).1 ha)).2.2.2.1 (hn a ((hmr a).1 ha)).2.2.1 (ht a).1 (ht a).2.1))
 have HUN:=hid_of (fun W (hW:Below w.heap.size w W) (lv:Value) (hl:LS W lv (rs N))=>bfirst49_any (r:=r) (fd:=unsB l) (ft:=unsF l) hl (by omega) (fun W' a hW' ha=>bunseen_any ((H.later hW).later hW') E0 sm hc a (hn a ((hmr a).1 ha)).2.2.2.1 (hn a ((hmr a).1 ha)).2.2.1 (ht a).2.2.1 (fun b hb=>⟨(hn b ((hn a ((hmr a).1 ha)).2.2.2.2 b hb)).2.2.1,(hn b ((hn a ((hmr a).1 ha)).2.2.2.2 b hb)).2.2.2.1,(hn b ((hn a ((hmr a).1 ha)).2.2.2.2 b hb)).2.1,(ht b).2.2.2.1,(ht b).2.2.2.2⟩)))
 have HCI:=hid_of (fun W (hW:Below w.heap.size w W)=>(P.later hW).first hz (fun x hx=>(hn x hx).1) hez)
 obtain ⟨cf,hcf⟩:∃ cf,crcL N E=cf:=⟨_,rfl⟩
 have hcf':frs E (Gs.pts ltL N E)=cf:=hcf
 rw [hcf'] at HCI
 have HCF:Hid (crcL N E=cf):=hcf
 clear hcf hcf'
 obtain ⟨ns,hns⟩:∃ ns,rs N=ns:=⟨_,rfl⟩
 rw [hns] at HND HMI HUN
 have HNS:Hid (rs N=ns):=hns
 clear hns hmr hrl H E0 sm hc P hz hez hn ht
 have HFw1:Hid (FK (w.alloc (.cells #[.int .i64 0,.string { data:=#[] },.string { data:=#[] },.string { data:=#[] },.string { data:=#[] },.string { data:=#[] },.int .i64 0,.slice none 0 0] 29)) w.heap.size zFv):=FK.new w zFv
 go_enter Tryz.func30,Tryz.ntmps30
 go_wp2_with fail
 refine (HND.out _ (balloc _ _)).mono ?_
 rintro e w2 ⟨nv,rfl,hno,hb⟩
 have HBw2:Hid (Below w.heap.size w w2):=bstep (balloc _ _) hb
 have HFw2:Hid (FK w2 w.heap.size zFv):=HFw1.out.later hb
 obtain ⟨na,nc,hnv⟩:=hno.form
 have HLS:Hid (LS w2 nv ns):=hno.rs
 obtain ⟨nn,hnn⟩:∃ nn,ns.length=nn:=⟨_,rfl⟩
 rw [hnn] at hnv
 subst hnv
 clear hno hb hnn HFw1
 go_wp2_with fail
 have HCw2:Hid (Below w2.heap.size w2 w2):=Below.refl _ _
 refine (HBK.out _ HBw2.out).mono ?_
 rintro e w2x h
 unfold AskP at h
 obtain ⟨rfl,hbx⟩:=h
 have HCw2x:Hid (Below w2.heap.size w2 w2x):=bstep HCw2.out hbx
 have HFw2x:Hid (FK w2x w.heap.size zFv):=HFw2.out.later HCw2x.out
 clear hbx
 have HNI:=hid_of (brkF_bare l c)
 obtain ⟨fx,hfx⟩:∃ fx,brkF l c=fx:=⟨_,rfl⟩
 obtain ⟨bx,hbx⟩:∃ bx,l.any (isBk l c)=bx:=⟨_,rfl⟩
 have HFX:Hid (brkF l c=fx∧l.any (isBk l c)=bx):=⟨hfx,hbx⟩
 rw [hfx] at HNI
 rw [hfx,hbx]
 clear hfx hbx
 obtain ⟨fc,⟨lp,ln⟩,⟨op,on⟩,fp,fa,ca,cn,cc⟩:=fx
 have hval:Fv.val ⟨fc,⟨lp,ln⟩,⟨op,on⟩,fp,fa,ca,cn,cc⟩=.agg #[.int .i64 fc,.string (bs lp),.string (bs ln),.string (bs op),.string (bs on),.string (bs fp),.int .i64 fa,.slice ca cn cc]:=rfl
 rw [hval]
 clear hval
 obtain ⟨w2y,hW3⟩:∃ W3,w2x.alloc (.cells #[.int .i64 fc,.string (bs lp),.string (bs ln),.string (bs op),.string (bs on),.string (bs fp),.int .i64 fa,.slice ca cn cc] 29)=W3:=⟨_,rfl⟩
 have HCw2y:Hid (Below w2.heap.size w2 w2y):=by
  show Below w2.heap.size w2 w2y
  rw [← hW3];exact bstep HCw2x.out (balloc _ _)
 have HF3:Hid (FK w2y w.heap.size zFv):=HFw2.out.later HCw2y.out
 have HW3:Hid (FK w2y w2x.heap.size ⟨fc,⟨lp,ln⟩,⟨op,on⟩,fp,fa,ca,cn,cc⟩):=by
  show FK w2y w2x.heap.size ⟨fc,⟨lp,ln⟩,⟨op,on⟩,fp,fa,ca,cn,cc⟩
  rw [← hW3];exact FK.new _ ⟨fc,⟨lp,ln⟩,⟨op,on⟩,fp,fa,ca,cn,cc⟩
 cases bx with
 | true=>
  go_upto_region 3 with fail
  try rw [hW3]
  clear hW3
  obtain ⟨z0,z1,z2,z3,z4,z5,z6,z7⟩:=HF3.out.get
  have y0:=HF3.out.soft 0
  have y1:=HF3.out.soft 1
  have y2:=HF3.out.soft 2
  have y3:=HF3.out.soft 3
  have y4:=HF3.out.soft 4
  have y5:=HF3.out.soft 5
  have y6:=HF3.out.soft 6
  have y7:=HF3.out.soft 7
  obtain ⟨u0,u1,u2,u3,u4,u5,u6,u7⟩:=HW3.out.get
  go_wp2_with fail
  have HP:=putF_only w2y w.heap.size ⟨fc,⟨lp,ln⟩,⟨op,on⟩,fp,fa,ca,cn,cc⟩
  refine bodyPost_ret (results_ct rfl _ _ w.heap.size 29 #[.int .i64 fc,.string (bs lp),.string (bs ln),.string (bs op),.string (bs on),.string (bs fp),.int .i64 fa,.slice ca cn cc] (0,0) _ rfl (HF3.out.set ⟨fc,⟨lp,ln⟩,⟨op,on⟩,fp,fa,ca,cn,cc⟩).blk Tryz.underlying29 rfl (by kernel_rfl)) rfl ?_
  unfold FltP
  have hbb:=bstep HBw2.out HCw2y.out
  have e0:fltP l N E c=(Fv.pf ⟨fc,⟨lp,ln⟩,⟨op,on⟩,fp,fa,ca,cn,cc⟩ [],true):=by
   unfold fltP;rw [HFX.out.2,HFX.out.1];rfl
  rw [e0]
  exact ⟨⟨fc,⟨lp,ln⟩,⟨op,on⟩,fp,fa,ca,cn,cc⟩,rfl,FvIs.bare HNI.out,below_trans hbb (HP.below hbb.size (fun x hx=>by simp at hx;omega))⟩
 | false=>
  go_upto_region 3 with fail
  try rw [hW3]
  clear hW3 HW3 HF3 HCw2x HFw2x
  have HNO1:Hid (l.any (isBk l c)=false):=HFX.out.2
  clear HFX HNI
  go_wp2_with fail
  refine (HMI.out _ (bstep HBw2.out HCw2y.out) _ (HLS.out.later HCw2y.out)).mono ?_
  rintro e w2yx h
  unfold AskP at h
  obtain ⟨rfl,hbx⟩:=h
  have HCw2yx:Hid (Below w2.heap.size w2 w2yx):=bstep HCw2y.out hbx
  have HFw2yx:Hid (FK w2yx w.heap.size zFv):=HFw2.out.later HCw2yx.out
  clear hbx
  have HNI:=hid_of (fstF_bare (fd:=misB l) (misF_bare l) ns)
  obtain ⟨fx,hfx⟩:∃ fx,fstF (misB l) (misF l) ns=fx:=⟨_,rfl⟩
  obtain ⟨bx,hbx⟩:∃ bx,ns.any (misB l)=bx:=⟨_,rfl⟩
  have HFX:Hid (fstF (misB l) (misF l) ns=fx∧ns.any (misB l)=bx):=⟨hfx,hbx⟩
  rw [hfx] at HNI
  rw [hfx,hbx]
  clear hfx hbx
  obtain ⟨fc,⟨lp,ln⟩,⟨op,on⟩,fp,fa,ca,cn,cc⟩:=fx
  have hval:Fv.val ⟨fc,⟨lp,ln⟩,⟨op,on⟩,fp,fa,ca,cn,cc⟩=.agg #[.int .i64 fc,.string (bs lp),.string (bs ln),.string (bs op),.string (bs on),.string (bs fp),.int .i64 fa,.slice ca cn cc]:=rfl
  rw [hval]
  clear hval
  obtain ⟨w2yy,hW3⟩:∃ W3,w2yx.alloc (.cells #[.int .i64 fc,.string (bs lp),.string (bs ln),.string (bs op),.string (bs on),.string (bs fp),.int .i64 fa,.slice ca cn cc] 29)=W3:=⟨_,rfl⟩
  have HCw2yy:Hid (Below w2.heap.size w2 w2yy):=by
   show Below w2.heap.size w2 w2yy
   rw [← hW3];exact bstep HCw2yx.out (balloc _ _)
  have HF3:Hid (FK w2yy w.heap.size zFv):=HFw2.out.later HCw2yy.out
  have HW3:Hid (FK w2yy w2yx.heap.size ⟨fc,⟨lp,ln⟩,⟨op,on⟩,fp,fa,ca,cn,cc⟩):=by
   show FK w2yy w2yx.heap.size ⟨fc,⟨lp,ln⟩,⟨op,on⟩,fp,fa,ca,cn,cc⟩
   rw [← hW3];exact FK.new _ ⟨fc,⟨lp,ln⟩,⟨op,on⟩,fp,fa,ca,cn,cc⟩
  cases bx with
  | true=>
   go_upto_region 6 with fail
   try rw [hW3]
   clear hW3
   obtain ⟨z0,z1,z2,z3,z4,z5,z6,z7⟩:=HF3.out.get
   have y0:=HF3.out.soft 0
   have y1:=HF3.out.soft 1
   have y2:=HF3.out.soft 2
   have y3:=HF3.out.soft 3
   have y4:=HF3.out.soft 4
   have y5:=HF3.out.soft 5
   have y6:=HF3.out.soft 6
   have y7:=HF3.out.soft 7
   obtain ⟨u0,u1,u2,u3,u4,u5,u6,u7⟩:=HW3.out.get
   go_wp2_with fail
   have HP:=putF_only w2yy w.heap.size ⟨fc,⟨lp,ln⟩,⟨op,on⟩,fp,fa,ca,cn,cc⟩
   refine bodyPost_ret (results_ct rfl _ _ w.heap.size 29 #[.int .i64 fc,.string (bs lp),.string (bs ln),.string (bs op),.string (bs on),.string (bs fp),.int .i64 fa,.slice ca cn cc] (0,0) _ rfl (HF3.out.set ⟨fc,⟨lp,ln⟩,⟨op,on⟩,fp,fa,ca,cn,cc⟩).blk Tryz.underlying29 rfl (by kernel_rfl)) rfl ?_
   unfold FltP
   have hbb:=bstep HBw2.out HCw2yy.out
   have e0:fltP l N E c=(Fv.pf ⟨fc,⟨lp,ln⟩,⟨op,on⟩,fp,fa,ca,cn,cc⟩ [],true):=by
    unfold fltP;rw [HNO1.out,HNS.out,HFX.out.2,HFX.out.1];rfl
   rw [e0]
   exact ⟨⟨fc,⟨lp,ln⟩,⟨op,on⟩,fp,fa,ca,cn,cc⟩,rfl,FvIs.bare HNI.out,below_trans hbb (HP.below hbb.size (fun x hx=>by simp at hx;omega))⟩
  | false=>
   go_upto_region 6 with fail
   try rw [hW3]
   clear hW3 HW3 HF3 HCw2yx HFw2yx
   have HNO2:Hid (ns.any (misB l)=false):=HFX.out.2
   clear HFX HNI
   go_wp2_with fail
   refine (HCI.out _ (bstep HBw2.out HCw2yy.out)).mono ?_
   rintro e w6 ⟨cv,rfl,hco,hb⟩
   have HCw6:Hid (Below w2.heap.size w2 w6):=bstep HCw2yy.out hb
   have HF6:Hid (FK w6 w.heap.size zFv):=HFw2.out.later HCw6.out
   obtain ⟨qa,qc,hqv⟩:=hco.form
   obtain ⟨qn,hqn⟩:∃ qn,(cf.getD []).length=qn:=⟨_,rfl⟩
   rw [hqn] at hqv
   subst hqv
   have HCO:Hid (OwnL w.heap.size w6 (.slice qa qn qc) (cf.getD [])):=hco.mono (bstep HBw2.out HCw2yy.out).size
   have HCB:Hid (∀ k,(Value.slice qa qn qc).ownBlock=some k→w.heap.size < k):=fun k hk=>by
    have h1:=(hco.lt hk).1
    have h2:=HCw2yy.out.size
    have h3:=HFw2.out.lt
    omega
   clear hco hqn hb
   obtain ⟨bq,hbq⟩:∃ bq,cf.isSome=bq:=⟨_,rfl⟩
   have HBQ:Hid (cf.isSome=bq):=hbq
   rw [hbq]
   clear hbq
   cases bq with
   | true=>
    obtain ⟨z0,z1,z2,z3,z4,z5,z6,z7⟩:=HF6.out.get
    have y0:=HF6.out.soft 0
    have y1:=HF6.out.soft 1
    have y2:=HF6.out.soft 2
    have y3:=HF6.out.soft 3
    have y4:=HF6.out.soft 4
    have y5:=HF6.out.soft 5
    have y6:=HF6.out.soft 6
    have y7:=HF6.out.soft 7
    go_wp2_with fail
    have HP:=putF_only w6 w.heap.size ⟨3,⟨[],[]⟩,⟨[],[]⟩,[],0,qa,qn,qc⟩
    refine bodyPost_ret (results_ct rfl _ _ w.heap.size 29 #[.int .i64 3,.string (bs []),.string (bs []),.string (bs []),.string (bs []),.string (bs []),.int .i64 0,.slice qa qn qc] (0,0) _ rfl (HF6.out.set ⟨3,⟨[],[]⟩,⟨[],[]⟩,[],0,qa,qn,qc⟩).blk Tryz.underlying29 rfl (by kernel_rfl)) rfl ?_
    unfold FltP
    have hbb:=bstep HBw2.out HCw6.out
    have e0:fltP l N E c=(⟨3,⟨[],[]⟩,⟨[],[]⟩,[],0,cf.getD []⟩,true):=by
     unfold fltP;rw [HNO1.out,HNS.out,HNO2.out,HCF.out,HBQ.out];rfl
    rw [e0]
    refine ⟨⟨3,⟨[],[]⟩,⟨[],[]⟩,[],0,qa,qn,qc⟩,rfl,⟨rfl,?_⟩,below_trans hbb (HP.below hbb.size (fun x hx=>by simp at hx;omega))⟩
    exact OwnL.only HCO.out HP (fun k hk e=>by
     have h1:=HCB.out k hk
     simp at e
     omega)
   | false=>
    go_wp2_with fail
    refine (HUN.out _ (bstep HBw2.out HCw6.out) _ (HLS.out.later HCw6.out)).mono ?_
    rintro e w7 h
    unfold AskP at h
    obtain ⟨rfl,hb⟩:=h
    have HCw7:Hid (Below w2.heap.size w2 w7):=bstep HCw6.out hb
    have HF7:Hid (FK w7 w.heap.size zFv):=HFw2.out.later HCw7.out
    have HNI:=hid_of (fstF_bare (fd:=unsB l) (unsF_bare l) ns)
    obtain ⟨fx,hfx⟩:∃ fx,fstF (unsB l) (unsF l) ns=fx:=⟨_,rfl⟩
    obtain ⟨bx,hbx⟩:∃ bx,ns.any (unsB l)=bx:=⟨_,rfl⟩
    have HFX:Hid (fstF (unsB l) (unsF l) ns=fx∧ns.any (unsB l)=bx):=⟨hfx,hbx⟩
    rw [hfx] at HNI
    rw [hfx,hbx]
    clear hfx hbx hb HF6
    obtain ⟨fc,⟨lp,ln⟩,⟨op,on⟩,fp,fa,ca,cn,cc⟩:=fx
    have hval:Fv.val ⟨fc,⟨lp,ln⟩,⟨op,on⟩,fp,fa,ca,cn,cc⟩=.agg #[.int .i64 fc,.string (bs lp),.string (bs ln),.string (bs op),.string (bs on),.string (bs fp),.int .i64 fa,.slice ca cn cc]:=rfl
    rw [hval]
    clear hval
    obtain ⟨z0,z1,z2,z3,z4,z5,z6,z7⟩:=HF7.out.get
    have y0:=HF7.out.soft 0
    have y1:=HF7.out.soft 1
    have y2:=HF7.out.soft 2
    have y3:=HF7.out.soft 3
    have y4:=HF7.out.soft 4
    have y5:=HF7.out.soft 5
    have y6:=HF7.out.soft 6
    have y7:=HF7.out.soft 7
    go_wp2_with fail
    have HP:=putF_only w7 w.heap.size ⟨fc,⟨lp,ln⟩,⟨op,on⟩,fp,fa,ca,cn,cc⟩
    refine bodyPost_ret (results_ct rfl _ _ w.heap.size 29 #[.int .i64 fc,.string (bs lp),.string (bs ln),.string (bs op),.string (bs on),.string (bs fp),.int .i64 fa,.slice ca cn cc] (0,0) _ rfl (HF7.out.set ⟨fc,⟨lp,ln⟩,⟨op,on⟩,fp,fa,ca,cn,cc⟩).blk Tryz.underlying29 rfl (by kernel_rfl)) rfl ?_
    unfold FltP
    have hbb:=bstep HBw2.out HCw7.out
    have e0:fltP l N E c=(Fv.pf ⟨fc,⟨lp,ln⟩,⟨op,on⟩,fp,fa,ca,cn,cc⟩ [],bx):=by
     unfold fltP;rw [HNO1.out,HNS.out,HNO2.out,HCF.out,HBQ.out,HFX.out.1,HFX.out.2];rfl
    rw [e0]
    exact ⟨⟨fc,⟨lp,ln⟩,⟨op,on⟩,fp,fa,ca,cn,cc⟩,rfl,FvIs.bare HNI.out,below_trans hbb (HP.below hbb.size (fun x hx=>by simp at hx;omega))⟩
end
section
open Go.RowKit Go.Maps
structure Nv where
 pkg:List UInt8
 name:List UInt8
 sa:Option Addr
 sn:Nat
 sc:Nat
 da:Option Addr
 dn:Nat
 dc:Nat
def nc:List Nv→List Value
 | []=>[]
 | t::r=>.string (bs t.pkg)::.string (bs t.name)::.slice t.sa t.sn t.sc::.slice t.da t.dn t.dc::nc r
theorem nc_length:∀ l,(nc l).length=l.length * 4
 | []=>rfl
 | f::r=>by simp only [nc,List.length_cons,nc_length r];omega
theorem nc_append:∀ a b,nc (a++b)=nc a++nc b
 | [],b=>rfl
 | f::r,b=>by simp [nc,nc_append r b]
theorem nc_one:∀ (l:List Nv),∀ u∈nc l,u.oneCell'=true
 | [],u,h=>by simp [nc] at h
 | f::r,u,h=>by
  simp only [nc,List.mem_cons] at h
  rcases h with rfl | rfl | rfl | rfl | h
  ·rfl
  ·rfl
  ·rfl
  ·rfl
  ·exact nc_one r u h
theorem nc_get:∀ (l:List Nv) (k:Nat) (h:k < l.length),(nc l)[k * 4]? = some (.string (bs l[k].pkg))∧(nc l)[k * 4+1]? = some (.string (bs l[k].name))∧(nc l)[k * 4+2]? = some (.slice l[k].sa l[k].sn l[k].sc)∧(nc l)[k * 4+3]? = some (.slice l[k].da l[k].dn l[k].dc)
 | f::r,0,_=>⟨rfl,rfl,rfl,rfl⟩
 | f::r,k+1,h=>by
  have ih:=nc_get r k (by simpa using h)
  rw [show (k+1) * 4=k * 4+4 by omega]
  simp only [nc,List.getElem_cons_succ]
  exact ih
def NS (w:World) (v:Value) (l:List Nv):Prop:=
 ((∃ a c,v=.slice a 0 c)∧l=[])∨
 ∃ b off cap,v=.slice (some ⟨b,off,none⟩) l.length cap∧l.length≤cap∧b < w.heap.size∧∀ i u,(nc l)[i]? = some u→w.cell? ⟨b,off+i,none⟩=some u
theorem NS.form {w:World} {v:Value} {l:List Nv} (h:NS w v l):∃ a c,v=.slice a l.length c∧(∀ k,(hk:k < l.length)→∃ b off,a=some ⟨b,off,none⟩∧b < w.heap.size∧
  w.cell? ⟨b,off+k * 4,none⟩=some (.string (bs l[k].pkg))∧w.cell? ⟨b,off+k * 4+1,none⟩=some (.string (bs l[k].name))∧w.cell? ⟨b,off+k * 4+2,none⟩=some (.slice l[k].sa l[k].sn l[k].sc)∧w.cell? ⟨b,off+k * 4+3,none⟩=some (.slice l[k].da l[k].dn l[k].dc)):=by
 rcases h with ⟨⟨a,c,rfl⟩,rfl⟩ | ⟨b,off,cap,rfl,hc,hlt,hcell⟩
 ·exact ⟨a,c,rfl,fun k hk=>by simp at hk⟩
 ·refine ⟨_,cap,rfl,fun k hk=>⟨b,off,rfl,hlt,?_⟩⟩
  obtain ⟨c0,c1,c2,c3⟩:=nc_get l k hk
  exact ⟨hcell _ _ c0,by rw [Nat.add_assoc];exact hcell _ _ c1,by rw [Nat.add_assoc];exact hcell _ _ c2,by rw [Nat.add_assoc];exact hcell _ _ c3⟩
theorem NS.at {w:World} {a:Option Addr} {c n:Nat} {l:List Nv} (h:NS w (.slice a n c) l) {wr:World} (hb:Below w.heap.size w wr) {k:Nat} (hk:k < l.length):∃ b off,a=some ⟨b,off,none⟩∧b < w.heap.size∧
  wr.cell? ⟨b,off+k * 4,none⟩=some (.string (bs l[k].pkg))∧wr.cell? ⟨b,off+k * 4+1,none⟩=some (.string (bs l[k].name))∧wr.cell? ⟨b,off+k * 4+2,none⟩=some (.slice l[k].sa l[k].sn l[k].sc)∧wr.cell? ⟨b,off+k * 4+3,none⟩=some (.slice l[k].da l[k].dn l[k].dc):=by
 rcases h with ⟨⟨a',c',e⟩,rfl⟩ | ⟨b,off,cap,e,hc,hlt,hcell⟩
 ·simp at hk
 ·injection e with e1 e2 e3
  subst e1
  obtain ⟨c0,c1,c2,c3⟩:=nc_get l k hk
  refine ⟨b,off,rfl,hlt,?_,?_,?_,?_⟩
  ·rw [hb.cell (p:=⟨b,off+k * 4,none⟩) hlt];exact hcell _ _ c0
  ·rw [hb.cell (p:=⟨b,off+k * 4+1,none⟩) hlt,Nat.add_assoc];exact hcell _ _ c1
  ·rw [hb.cell (p:=⟨b,off+k * 4+2,none⟩) hlt,Nat.add_assoc];exact hcell _ _ c2
  ·rw [hb.cell (p:=⟨b,off+k * 4+3,none⟩) hlt,Nat.add_assoc];exact hcell _ _ c3
def OwnN (base:Nat) (w:World) (v:Value) (l:List Nv):Prop:=w.ownsRow base 80 4 v l.length (nc l)
theorem OwnN.nil (base:Nat) (w:World):OwnN base w (.slice none 0 0) []:=World.ownsRow_nil w base 80 4
theorem OwnN.mono {base base':Nat} {w:World} {v:Value} {l:List Nv} (h:OwnN base w v l) (hb:base'≤base):OwnN base' w v l:=World.ownsRow.mono h hb
theorem OwnN.rs {base:Nat} {w:World} {v:Value} {l:List Nv} (h:OwnN base w v l):NS w v l:=by
 rcases h.2 with ⟨rfl,h0⟩ | ⟨g,cap,cur,rfl,hb,hg,hn,_⟩
 ·exact .inl ⟨⟨_,_,rfl⟩,List.eq_nil_of_length_eq_zero h0⟩
 ·refine .inr ⟨g,0,cap,rfl,hn,(Array.getElem?_eq_some_iff.1 hg).1,fun i u hu=>?_⟩
  have:=World.ownsRow.cells h (g:=g) rfl i u hu
  rw [add_lit] at this;exact this
theorem OwnN.lt {base:Nat} {w:World} {v:Value} {l:List Nv} (h:OwnN base w v l) {k:Nat} (hk:v.ownBlock=some k):base≤k∧k < w.heap.size:=World.ownsRow.lt h k hk
theorem OwnN.only {S:List Nat} {base:Nat} {w w':World} {v:Value} {l:List Nv} (h:OwnN base w v l) (ho:Only S w w') (hn:∀ k,v.ownBlock=some k→k∉S):OwnN base w' v l:=by
 rcases h with ⟨h0,h | ⟨g,cap,cur,rfl,hb,hg,hr⟩⟩
 ·exact ⟨h0,.inl h⟩
 ·exact ⟨h0,.inr ⟨g,cap,cur,rfl,hb,(ho.block g (Array.getElem?_eq_some_iff.1 hg).1 (hn g rfl)).trans hg,hr⟩⟩
theorem OwnN.later {base:Nat} {w w':World} {v:Value} {l:List Nv} (h:OwnN base w v l) (hb:Below w.heap.size w w'):OwnN base w' v l:=
 h.only (Only.of_below hb []) (by simp)
theorem OwnN.form {base:Nat} {w:World} {v:Value} {l:List Nv} (h:OwnN base w v l):∃ a c,v=.slice a l.length c:=by
 obtain ⟨a,c,e,_⟩:=h.rs.form;exact ⟨a,c,e⟩
theorem und_N:Tryz.prog.underlying 36=some (.slice 80):=by kernel_rfl
theorem info_N:(Tryz.prog.info? 80).map (fun i=>(i.zero,i.size,i.bytes))=some (some (.agg #[.string ⟨#[]⟩,.string ⟨#[]⟩,.slice none 0 0,.slice none 0 0]),4,80):=by kernel_rfl
theorem app_Ns {w:World} {base:Nat} {v x:Value} {l k:List Nv} (hown:OwnN base w v l) (hs:Src Tryz.prog 4 36 x k.length (nc k) w) (hb:l.length+k.length≤100000000) (hbase:base≤w.heap.size)
  {ops:Array Oper} {rest:List Oper} {o:Oper} {a:Act} {Q:Exit→Act→World→Prop} (hgd:o.guard=none) (s y:Operand)
  (ho:o.op=.call { callee:=.builtin .append,args:=#[s,y],argTypes:=#[36,36] }) (hv:a.eval s=v) (hx:a.eval y=x)
  (h:∀ v' w',OwnN base w' v' (l++k)→w.grownBy w' v.ownBlock→(v'.ownBlock=v.ownBlock∨v'.ownBlock=some w.heap.size)→wpList Tryz.prog ops Q rest (a.put o.dst v') w') :
  wpList Tryz.prog ops Q (o::rest) a w:=by
 obtain ⟨i0,hi,hz0,hz1,hz2⟩:=info_parts info_N
 refine wpList_append_src w hgd s y 36 36 ho base 80 i0 _ 4 80 und_N hi hz0 hz1 hz2 rfl v l.length (nc l) hv hown x k.length (nc k) hx hs (by simp only [maxLen];omega) (by omega) hbase ?_
 intro v' w' h1 h2 h3
 exact h v' w' (by unfold OwnN;rw [nc_append,List.length_append];exact h1) h2 h3
theorem src_N (w:World) (t:Nv):Src Tryz.prog 4 36 (.slice (some ⟨w.heap.size,0,none⟩) 1 1) [t].length (nc [t]) (w.alloc (.cells #[.string (bs t.pkg),.string (bs t.name),.slice t.sa t.sn t.sc,.slice t.da t.dn t.dc] 80)):=by
 refine Src.ofSlice _ und_N ⟨w.heap.size,0,none⟩ 1 1 (nc [t]) (by simp [nc_length]) ?_ (nc_one _)
 exact World.news_of_block (heap_alloc_new w _)
theorem step_app_N {ops:Array Oper} {o:Oper} {a:Act} {w:World} {K:Act→World→Prop} {Q:Exit→Act→World→Prop} {E:Prop} (hgd:o.guard=none) (s y:Operand)
  (ho:o.op=.call { callee:=.builtin .append,args:=#[s,y],argTypes:=#[36,36] }) (base:Nat) (l k:List Nv) (v x:Value) (hv:a.eval s=v) (hx:a.eval y=x)
  (hown:OwnN base w v l) (hs:Src Tryz.prog 4 36 x k.length (nc k) w) (hb:l.length+k.length≤100000000) (hbase:base≤w.heap.size)
  (h:∀ v' w',OwnN base w' v' (l++k)→w.grownBy w' v.ownBlock→(v'.ownBlock=v.ownBlock∨v'.ownBlock=some w.heap.size)→K (a.put o.dst v') w') :
  if Region.wanted o (yielded ops a.tmps)=true then Oper.wp Tryz.prog o a w K Q else E:=by
 have hw:Region.wanted o (yielded ops a.tmps)=true:=by simp [Region.wanted,hgd]
 rw [if_pos hw]
 obtain ⟨i0,hi,hz0,hz1,hz2⟩:=info_parts info_N
 obtain ⟨v',w',hr,h2,h3,h4⟩:=run_append_src (P:=Tryz.prog) w base 36 36 o.type 80 i0 _ 4 80 und_N hi hz0 hz1 hz2 rfl v l.length (nc l) hown x k.length (nc k) hs (by simp only [maxLen];omega) (by omega) hbase
 unfold Oper.wp execOp
 simp only [ho,resolve,invoke,builtin,Sem.run_bind,Sem.run_pure,Result.andThen_ok,List.map_toArray,List.map_cons,List.map_nil,hv,hx,hr]
 exact h v' w' (by unfold OwnN;rw [nc_append,List.length_append];exact h2) h3 h4
structure Nd where
 lab:Lb
 srcs:List Fl
 deps:List Lb
def Nv.s (x:Nv):Value:=.slice x.sa x.sn x.sc
def Nv.d (x:Nv):Value:=.slice x.da x.dn x.dc
structure NdIs (base:Nat) (w:World) (x:Nv) (n:Nd):Prop where
 lab:(⟨x.pkg,x.name⟩:Lb)=n.lab
 s:OwnF base w x.s n.srcs
 d:OwnL base w x.d n.deps
def bks (a:List Nv):List Nat:=a.flatMap (fun x=>x.s.ownBlock.toList++x.d.ownBlock.toList)
structure NOwn (base:Nat) (w:World) (v:Value) (l:List Nd):Prop where
 it:∃ a,OwnN base w v a∧a.length=l.length∧(∀ i,(h1:i < a.length)→(h2:i < l.length)→NdIs base w a[i] l[i])∧(bks a).Nodup∧∀ k,v.ownBlock=some k→k∉bks a
section
variable {base:Nat} {w w':World} {v:Value}
theorem NdIs.later {x:Nv} {n:Nd} (h:NdIs base w x n) (hb:Below w.heap.size w w'):NdIs base w' x n:=⟨h.lab,h.s.later hb,h.d.later hb⟩
theorem NdIs.lt {x:Nv} {n:Nd} (h:NdIs base w x n) {k:Nat} (hk:k∈x.s.ownBlock.toList++x.d.ownBlock.toList):base≤k∧k < w.heap.size:=by
 rcases List.mem_append.1 hk with e | e
 ·exact h.s.lt (Option.mem_toList.1 e)
 ·exact h.d.lt (Option.mem_toList.1 e)
theorem NdIs.only {x:Nv} {n:Nd} {S:List Nat} (h:NdIs base w x n) (ho:Only S w w') (hn:∀ k∈x.s.ownBlock.toList++x.d.ownBlock.toList,k∉S):NdIs base w' x n:=
 ⟨h.lab,h.s.only ho (fun k hk=>hn k (List.mem_append_left _ (Option.mem_toList.2 hk))),h.d.only ho (fun k hk=>hn k (List.mem_append_right _ (Option.mem_toList.2 hk)))⟩
theorem NOwn.nil (base:Nat) (w:World):NOwn base w (.slice none 0 0) []:=⟨[],OwnN.nil _ _,rfl,fun i h=>by simp at h,by simp [bks],fun k hk=>by cases hk⟩
theorem NOwn.later {l:List Nd} (h:NOwn base w v l) (hb:Below w.heap.size w w'):NOwn base w' v l:=by
 obtain ⟨a,h1,h2,h3,h4,h5⟩:=h.it
 exact ⟨a,h1.later hb,h2,fun i x y=>(h3 i x y).later hb,h4,h5⟩
theorem NOwn.form {l:List Nd} (h:NOwn base w v l):∃ a c,v=.slice a l.length c:=by
 obtain ⟨a,h1,h2,_⟩:=h.it
 obtain ⟨x,c,e⟩:=h1.form
 exact ⟨x,c,by rw [e,h2]⟩
theorem mem_bks {a:List Nv} {k:Nat}:k∈bks a↔∃ x∈a,k∈x.s.ownBlock.toList++x.d.ownBlock.toList:=by unfold bks;rw [List.mem_flatMap]
theorem bks_snoc (a:List Nv) (x:Nv):bks (a++[x])=bks a++(x.s.ownBlock.toList++x.d.ownBlock.toList):=by simp [bks]
theorem NOwn.add {wm w1:World} {l:List Nd} {a:List Nv} {x:Nv} {n:Nd} {v':Value} (h1:OwnN base wm v a) (h2:a.length=l.length) (h3:∀ i,(h1:i < a.length)→(h2:i < l.length)→NdIs base wm a[i] l[i]) (h4:(bks a).Nodup) (h5:∀ k,v.ownBlock=some k→k∉bks a)
  (hb:Below wm.heap.size wm w1) (hx:NdIs wm.heap.size w1 x n) (hne:∀ k,x.s.ownBlock=some k→x.d.ownBlock≠some k) (hbase:base≤wm.heap.size) (ho:OwnN base w' v' (a++[x])) (hon:Only v.ownBlock.toList w1 w') (hv:v'.ownBlock=v.ownBlock∨v'.ownBlock=some w1.heap.size):NOwn base w' v' (l++[n]):=by
 have hvl:∀ k,v.ownBlock=some k→k < wm.heap.size:=fun k hk=>(h1.lt hk).2
 have hxs:∀ k∈x.s.ownBlock.toList++x.d.ownBlock.toList,wm.heap.size≤k∧k < w1.heap.size:=fun k hk=>hx.lt hk
 have hbk:∀ k∈bks a,base≤k∧k < wm.heap.size:=fun k hk=>by
  obtain ⟨y,hy,hk⟩:=mem_bks.1 hk
  obtain ⟨i,hi,rfl⟩:=List.getElem_of_mem hy
  exact (h3 i hi (by omega)).lt hk
 have hs:=hb.size
 refine ⟨a++[x],ho,by simp [h2],fun i x1 x2=>?_,?_,fun k hk=>?_⟩
 ·by_cases hi:i < a.length
  ·rw [List.getElem_append_left hi,List.getElem_append_left (by omega)]
   refine ((h3 i hi (by omega)).later hb).only hon (fun k hk e=>?_)
   have e':=Option.mem_toList.1 e
   exact h5 k e' (mem_bks.2 ⟨_,List.getElem_mem hi,hk⟩)
  ·have hi':i=a.length:=by simp at x1;omega
   subst hi'
   have hg:(l++[n])[a.length]'x2=n:=by
    rw [List.getElem_append_right (by omega)];simp [h2]
   rw [hg]
   simp only [List.getElem_append_right (Nat.le_refl a.length),Nat.sub_self,List.getElem_cons_zero]
   have hx':NdIs base w1 x n:=⟨hx.lab,hx.s.mono hbase,hx.d.mono hbase⟩
   refine hx'.only hon (fun k hk e=>?_)
   have h6:=hvl k (Option.mem_toList.1 e)
   have h7:=(hxs k hk).1
   omega
 ·rw [bks_snoc,List.nodup_append]
  refine ⟨h4,?_,fun k hk j hj e=>?_⟩
  ·rw [List.nodup_append]
   refine ⟨?_,?_,fun k hk j hj e=>?_⟩
   ·cases x.s.ownBlock<;>simp
   ·cases x.d.ownBlock<;>simp
   ·subst e
    exact hne k (Option.mem_toList.1 hk) (Option.mem_toList.1 hj)
  ·subst e
   have h6:=(hbk k hk).2
   have h7:=(hxs k hj).1
   omega
 ·rw [bks_snoc,List.mem_append]
  rintro (e | e)
  ·rcases hv with hv | hv
   ·exact h5 k (hv▸hk) e
   ·rw [hv] at hk
    injection hk with hk
    have:=(hbk k e).2
    omega
  ·rcases hv with hv | hv
   ·have h6:=hvl k (hv▸hk)
    have h7:=(hxs k e).1
    omega
   ·rw [hv] at hk
    injection hk with hk
    have h7:=(hxs k e).2
    omega
end
end
section
open Go.RowKit Go.Maps
def ndF (sf:Lb→List Fl) (df:Lb→List Lb) (a:Lb):Nd:=⟨a,sf a,df a⟩
theorem btold_any {w:World} {r g:Nat} {ov:Value} {os:List Lb} {sf:Lb→List Fl} {df:Lb→List Lb} (ho:LS w ov os) (hl:os.length≤10000000)
  (HS:∀ W a,Below w.heap.size w W→a∈os→Calls Tryz.prog 33 #[.pointer (some ⟨r,0,none⟩),a.val] W fun e w'=>∃ v,e=.returned v∧OwnF W.heap.size w' v (sf a)∧Below W.heap.size W w')
  (HD:∀ W a,Below w.heap.size w W→a∈os→Calls Tryz.prog 34 #[.pointer (some ⟨g,0,none⟩),a.val] W fun e w'=>∃ v,e=.returned v∧OwnL W.heap.size w' v (df a)∧Below W.heap.size W w') :
  Calls Tryz.prog 32 #[ov,.func (.func 33) #[.pointer (some ⟨r,0,none⟩)] #[],.func (.func 34) #[.pointer (some ⟨g,0,none⟩)] #[]] w fun e w'=>∃ v,e=.returned v∧NOwn w.heap.size w' v (os.map (ndF sf df))∧Below w.heap.size w w':=by
 obtain ⟨a0,c0,hov,_⟩:=ho.form
 obtain ⟨on,hon⟩:∃ on,os.length=on:=⟨_,rfl⟩
 have HX:Hid (LS w ov os∧os.length=on):=⟨ho,hon⟩
 rw [hon] at hov
 subst hov
 have HSS:=hid_of HS
 have HDD:=hid_of HD
 have hn8:on≤10000000:=by omega
 clear ho hl HS HD hon
 go_enter Tryz.func32,Tryz.ntmps32
 go_wp2_with fail
 go_loopw [7,12] (fun nv iv wr=>∃ i:Nat,i≤on∧iv=.int .i64 i∧NOwn w.heap.size wr nv ((os.take i).map (ndF sf df))∧Below w.heap.size w wr) (fun _ iv _=>on - (intOf iv).toNat)
 case atStart=>exact ⟨0,by omega,rfl,by simpa using NOwn.nil _ _,Below.refl _ _⟩
 case round=>
  obtain ⟨i,hi0,rfl,hno,hb⟩:=hrel
  obtain ⟨xa,xc,hxv⟩:=hno.form
  obtain ⟨xn,hxn⟩:∃ xn,((os.take i).map (ndF sf df)).length=xn:=⟨_,rfl⟩
  rw [hxn] at hxv
  subst hxv
  have HNO:Hid (NOwn w.heap.size wr (.slice xa xn xc) ((os.take i).map (ndF sf df))∧Below w.heap.size w wr):=⟨hno,hb⟩
  have HXN:Hid (((os.take i).map (ndF sf df)).length=xn∧xn≤on):=⟨hxn,by rw [← hxn,List.length_map,List.length_take];omega⟩
  clear hxn
  by_cases hi:i < on
  ·have i1:(i:Int) < (on:Int):=by omega
   have i2:(0:Int)≤(i:Int):=by omega
   have hil:i < os.length:=by rw [HX.out.2];exact hi
   obtain ⟨b,off,ea,hbl,q0,q1⟩:=LS.at HX.out.1 hb hil
   subst ea
   obtain ⟨av,h1,h2,h3,h4,h5⟩:=hno.it
   have X5:=hid_of (And.intro h1 (And.intro h2 (And.intro h3 (And.intro h4 (And.intro h5 hb)))))
   clear hno hb h1 h2 h3 h4 h5
   have HTK:Hid (os.take (i+1)=os.take i++[os[i]]):=List.take_succ_eq_append_getElem hil
   have HSA:=hid_of (fun W (hW:Below w.heap.size w W)=>HSS.out W os[i] hW (List.getElem_mem hil))
   have HDA:=hid_of (fun W (hW:Below w.heap.size w W)=>HDD.out W os[i] hW (List.getElem_mem hil))
   obtain ⟨x,hx⟩:∃ x,os[i]=x:=⟨_,rfl⟩
   rw [hx] at q0 q1 HSA HDA HTK
   clear hx
   obtain ⟨p,n⟩:=x
   simp only [Lb.val] at q0 q1 HSA HDA
   obtain ⟨w1,hw1⟩:∃ w1,wr.alloc (.cells #[.string (bs p),.string (bs n)] 27)=w1:=⟨_,rfl⟩
   have HW1:Hid (Below wr.heap.size wr w1):=by
    show Below wr.heap.size wr w1
    rw [← hw1];exact balloc _ _
   have HWL:Hid (wr.heap.size < w1.heap.size):=by
    show wr.heap.size < w1.heap.size
    rw [← hw1];simp
   have HS1:Hid (∀ W,Below w1.heap.size w1 W→W.cell? ⟨wr.heap.size,0,none⟩=some (.string (bs p))∧W.cell? ⟨wr.heap.size,1,none⟩=some (.string (bs n))):=fun W hW=>by
    have hz:wr.heap.size < w1.heap.size:=by rw [← hw1];simp
    have hk:w1.heap[wr.heap.size]? = some (.cells #[.string (bs p),.string (bs n)] 27 (0,0)):=by rw [← hw1];exact heap_alloc_new _ _
    have hk':=(hW.block wr.heap.size hz).trans hk
    exact ⟨by simp [World.cell?,hk'],by simp [World.cell?,hk']⟩
   go_upto_region 5 with fail
   try rw [hw1]
   clear hw1
   obtain ⟨x1,x2⟩:=HS1.out _ (bd w1 1)
   have HBW:Hid (∀ W,Below w1.heap.size w1 W→Below w.heap.size w W):=fun W hW=>bstep (bstep X5.out.2.2.2.2.2 HW1.out) hW
   refine wp_region_noPanic ?_
   refine wp_region_held_drew (S:=fun W'=>W'.cell? ⟨wr.heap.size,0,none⟩=some (.string (bs p))∧W'.cell? ⟨wr.heap.size,1,none⟩=some (.string (bs n))) (by kernel_rfl) (by exact HS1.out _ (bd w1 1)) (fun hHeld=>?_)
   refine tkH 0 ⟨some 16,_,_,_,_,_⟩ ?v5 rfl (Or.inl ⟨by rfl,?y5⟩) ?r5
   case y5=>(intro w h;(try dsimp only at h);go_simp;try with_reducible rfl)
   try simp only [Act.put,sA,sB,sC]
   refine tkH 1 ⟨some 17,_,_,_,_,_⟩ ?v6 rfl (Or.inl ⟨by rfl,?y6⟩) ?r6
   case y6=>(intro w h;(try dsimp only at h);go_simp;try with_reducible rfl)
   try simp only [Act.put,sA,sB,sC]
   refine tkH 2 ⟨some 18,_,_,_,_,_⟩ ?v7 rfl (Or.inl ⟨by rfl,?y7⟩) ?r7
   case y7=>(intro w h;(try dsimp only at h);go_simp;try with_reducible rfl)
   try simp only [Act.put,sA,sB,sC]
   refine tkH 3 ⟨some 19,_,_,_,_,_⟩ ?v8 rfl (Or.inl ⟨by rfl,?y8⟩) ?r8
   case y8=>(intro w h;(try dsimp only at h);go_simp;try with_reducible rfl)
   try simp only [Act.put,sA,sB,sC]
   refine tkH 5 ⟨some 21,_,_,_,_,_⟩ ?v9 rfl (Or.inl ⟨by rfl,?y9⟩) ?r9
   case y9=>(intro w h;(try dsimp only at h);go_simp;try with_reducible rfl)
   try simp only [Act.put,sA,sB,sC]
   refine tkH 6 ⟨some 22,_,_,_,_,_⟩ ?v10 rfl (Or.inl ⟨by rfl,?y10⟩) ?r10
   case y10=>(intro w h;(try dsimp only at h);go_simp;try with_reducible rfl)
   try simp only [Act.put,sA,sB,sC]
   refine wpAnyH_ready (rs:=[4]) (by kernel_rfl) (by simp) ?_
   refine AllReadyH.cons (o:=⟨some 20,_,_,_,_,_⟩) rfl (fun K hK=>?_) AllReadyH.nil
   go_simp
   with_reducible refine (HSA.out w1.drew (HBW.out _ (bd1 w1))).mono ?_
   rintro e z1 ⟨vs,rfl,hso,hb⟩
   obtain ⟨sa,sc,hsv⟩:=hso.form
   obtain ⟨sn,hsn⟩:∃ sn,(sf ⟨p,n⟩).length=sn:=⟨_,rfl⟩
   rw [hsn] at hsv
   subst hsv
   clear hsn
   have HSO:Hid (OwnF w1.heap.size z1 (.slice sa sn sc) (sf ⟨p,n⟩)∧Below w1.heap.size w1 z1):=⟨hso,bstep (bd1 _) hb⟩
   clear hso hb
   refine hK.out _ _ (HS1.out z1 HSO.out.2) (fun hHeld=>?_)
   clear hK K
   try simp only [sA,sB,sC]
   refine wpAnyH_ready (rs:=[7]) (by kernel_rfl) (by simp) ?_
   refine AllReadyH.cons (o:=⟨some 23,_,_,_,_,_⟩) rfl (fun K hK=>?_) AllReadyH.nil
   go_simp
   with_reducible refine (HDA.out z1 (HBW.out _ HSO.out.2)).mono ?_
   rintro e z2 ⟨vd,rfl,hdo,hb⟩
   obtain ⟨da,dc,hdv⟩:=hdo.form
   obtain ⟨dn,hdn⟩:∃ dn,(df ⟨p,n⟩).length=dn:=⟨_,rfl⟩
   rw [hdn] at hdv
   subst hdv
   clear hdn
   have HDO:Hid (OwnL z1.heap.size z2 (.slice da dn dc) (df ⟨p,n⟩)∧Below z1.heap.size z1 z2):=⟨hdo,hb⟩
   clear hdo hb
   refine hK.out _ _ (HS1.out z2 (bstep HSO.out.2 HDO.out.2)) (fun hHeld=>?_)
   clear hK K
   try simp only [sA,sB,sC]
   have HZ:Hid (Below w1.heap.size w1 z2∧OwnF w1.heap.size z2 (.slice sa sn sc) (sf ⟨p,n⟩)∧OwnL w1.heap.size z2 (.slice da dn dc) (df ⟨p,n⟩)∧∀ k,(Value.slice sa sn sc).ownBlock=some k→(Value.slice da dn dc).ownBlock≠some k):=by
    have hz:=HSO.out.2.size
    exact ⟨bstep HSO.out.2 HDO.out.2,HSO.out.1.later HDO.out.2,HDO.out.1.mono hz,fun k hk hd=>by
     have h1:=(HSO.out.1.lt hk).2
     have h2:=(HDO.out.1.lt hd).1
     omega⟩
   clear HSO HDO
   refine tkH 8 ⟨some 24,_,_,_,_,_⟩ ?v1 rfl (Or.inl ⟨by rfl,?y1⟩) ?r1
   case y1=>(intro w h;(try dsimp only at h);go_simp;try with_reducible rfl)
   try simp only [Act.put,sA,sB,sC]
   refine wpAnyH_ready (rs:=[9]) (by kernel_rfl) (by simp) ?_
   refine AllReadyH.cons (o:=⟨some 25,_,_,_,_,_⟩) rfl (fun K hK=>?_) AllReadyH.nil
   go_simp
   refine hK.out _ _ (by exact HS1.out _ (bstep HZ.out.1 (balloc _ _))) (fun hHeld=>?_)
   clear hK K
   try simp only [sA,sB,sC]
   refine wpAnyH_ready (rs:=[10]) (by kernel_rfl) (by simp) ?_
   refine AllReadyH.cons (o:=⟨some 26,_,_,_,_,_⟩) rfl (fun K hK=>?_) AllReadyH.nil
   have HZ3:Hid (Below wr.heap.size wr (z2.alloc (.cells #[.string (bs p),.string (bs n),.slice sa sn sc,.slice da dn dc] 80))):=bstep (bstep HW1.out HZ.out.1) (balloc _ _)
   refine step_app_N rfl (.tmp 16) (.tmp 25) rfl w.heap.size av [⟨p,n,sa,sn,sc,da,dn,dc⟩] (.slice xa xn xc) _ rfl rfl (X5.out.1.later HZ3.out) (src_N z2 ⟨p,n,sa,sn,sc,da,dn,dc⟩) (by have:=X5.out.2.1;simp only [List.length_cons,List.length_nil];have:=HXN.out;omega) (bstep X5.out.2.2.2.2.2 HZ3.out).size ?_
   intro v6 w6 ho6 hg6 hw6
   have hz2:(z2.alloc (.cells #[.string (bs p),.string (bs n),.slice sa sn sc,.slice da dn dc] 80)).heap.size=z2.heap.size+1:=by simp
   have XN:Hid (NOwn w.heap.size w6 v6 ((os.take i).map (ndF sf df)++[ndF sf df ⟨p,n⟩])∧Below w.heap.size w w6∧w6.cell? ⟨wr.heap.size,0,none⟩=some (.string (bs p))∧w6.cell? ⟨wr.heap.size,1,none⟩=some (.string (bs n))):=by
    have hzz:Below wr.heap.size wr z2:=bstep HW1.out HZ.out.1
    have h9:=HW1.out.size
    have hon:=only_grownK hg6
    have hvl:∀ k,(Value.slice xa xn xc).ownBlock=some k→w.heap.size≤k∧k < wr.heap.size:=fun k hk=>X5.out.1.lt hk
    refine ⟨?_,?_,?_⟩
    ·refine NOwn.add (x:=⟨p,n,sa,sn,sc,da,dn,dc⟩) (n:=ndF sf df ⟨p,n⟩) X5.out.1 X5.out.2.1 X5.out.2.2.1 X5.out.2.2.2.1 X5.out.2.2.2.2.1 HZ3.out ⟨rfl,(HZ.out.2.1.later (balloc _ _)).mono h9,(HZ.out.2.2.1.later (balloc _ _)).mono h9⟩ HZ.out.2.2.2 X5.out.2.2.2.2.2.size ho6 hon hw6
    ·exact below_trans (bstep X5.out.2.2.2.2.2 HZ3.out) (hon.below (bstep X5.out.2.2.2.2.2 HZ3.out).size (fun k hk=>(hvl k (Option.mem_toList.1 hk)).1))
    ·have h2:=HS1.out _ (bstep HZ.out.1 (balloc z2 (.cells #[.string (bs p),.string (bs n),.slice sa sn sc,.slice da dn dc] 80)))
     have hlt:wr.heap.size < (z2.alloc (.cells #[.string (bs p),.string (bs n),.slice sa sn sc,.slice da dn dc] 80)).heap.size:=by have:=HZ.out.1.size;have:=HWL.out;omega
     have hblk:=hon.block wr.heap.size hlt (fun e=>by have:=(hvl _ (Option.mem_toList.1 e)).2;omega)
     exact ⟨(World.cell?_of_block (w:=z2.alloc (.cells #[.string (bs p),.string (bs n),.slice sa sn sc,.slice da dn dc] 80)) hblk).trans h2.1,(World.cell?_of_block (w:=z2.alloc (.cells #[.string (bs p),.string (bs n),.slice sa sn sc,.slice da dn dc] 80)) hblk).trans h2.2⟩
   obtain ⟨xa2,xc2,hxv2⟩:=XN.out.1.form
   obtain ⟨xn2,hxn2⟩:∃ xn2,((os.take i).map (ndF sf df)++[ndF sf df ⟨p,n⟩]).length=xn2:=⟨_,rfl⟩
   rw [hxn2] at hxv2
   subst hxv2
   clear hxn2 ho6 hg6 hw6
   refine hK.out _ _ XN.out.2.2 (fun hHeld=>?_)
   clear hK K
   try simp only [Act.put,sA,sB,sC]
   refine tkH 11 ⟨some 7,_,_,_,_,_⟩ ?v2 rfl (Or.inl ⟨by rfl,?y2⟩) ?r2
   case y2=>(intro w h;(try dsimp only at h);go_simp;try with_reducible rfl)
   try simp only [Act.put,sA,sB,sC]
   refine wpAnyH_done (by kernel_rfl) ?_ _
   refine NoPanic.normal ?_
   go_wp2_with fail
   go_roundw
   case rel=>exact ⟨i+1,by omega,by go_num,by rw [HTK.out,List.map_append];exact XN.out.1,XN.out.2.1⟩
   case measure=>simp [intOf];omega
  ·obtain rfl:i=on:=by omega
   clear hno hb
   go_wp2_with fail
   go_ret
   have h:=HNO.out
   rw [List.take_of_length_le (by rw [HX.out.2];exact Nat.le_refl _)] at h
   exact ⟨_,rfl,h.1,h.2⟩
end
end Go.Proofs.YtppnbdnpapellaaGreatDoor
