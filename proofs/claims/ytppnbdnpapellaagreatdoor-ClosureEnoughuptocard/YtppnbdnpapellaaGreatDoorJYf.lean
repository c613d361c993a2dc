import Derived.Test.YtppnbdnpapellaaGreatDoorJCp
import Derived.Test.YtppnbdnpapellaaGreatDoorJBy
import Derived.Test.YtppnbdnpapellaaGreatDoorJLab
import Derived.Test.YtppnbdnpapellaaGreatDoorJCf
import Derived.Deep.DeepCutAuto
set_option maxRecDepth 100000
set_option maxHeartbeats 16000000
namespace Go.Proofs.YtppnbdnpapellaaGreatDoor
open Go.RowKit Go.Maps
namespace Gs
theorem pts_ext {α:Type} {lt:α→α→Bool} [DecidableEq α] (h:Sto lt) {N N':List α} {E E':List (α×α)} (hn:∀ x,x∈N↔x∈N') (he:∀ e,e∈E↔e∈E'):pts lt N E=pts lt N' E':=by
 have hm:∀ a b,Mut E a b↔Mut E' a b:=fun a b=>⟨fun k=>⟨Way.mono (fun e q=>(he e).1 q) k.1,Way.mono (fun e q=>(he e).1 q) k.2⟩,fun k=>⟨Way.mono (fun e q=>(he e).2 q) k.1,Way.mono (fun e q=>(he e).2 q) k.2⟩⟩
 have hp:part lt N E=part lt N' E':=funext fun a=>ris_ext h (part_up h N E a) (part_up h N' E' a) (fun x=>by rw [mem_part,mem_part,hn,hm])
 have hl:∀ a,lst lt N E a=lst lt N' E' a:=fun a=>by
  unfold lst
  exact decide_eq_decide.2 ⟨fun k x hx hq=>k x ((hn x).2 hx) ((hm a x).2 hq),fun k x hx hq=>k x ((hn x).1 hx) ((hm a x).1 hq)⟩
 unfold pts
 rw [hp]
 congr 1
 exact ris_eq h (fun x=>by rw [List.mem_filter,List.mem_filter,hn,hl])
end Gs
theorem crcB_ext {E E':List Ee} (he:∀ e,e∈E↔e∈E'):crcB E=crcB E':=funext fun p=>by
 unfold crcB
 cases p with
 | nil=>rfl
 | cons a r=>simp only [he]
theorem crcL_ext {N N':List Lb} {E E':List Ee} (hn:∀ x,x∈N↔x∈N') (he:∀ e,e∈E↔e∈E'):crcL N E=crcL N' E':=by
 unfold crcL frs
 rw [Gs.pts_ext stoL hn he,crcB_ext he]
theorem rs_ext {N N':List Lb} (hn:∀ x,x∈N↔x∈N'):rs N=rs N':=Gs.ris_eq stoL hn
theorem brkL_ext {l:List Fl} {c c':List (List UInt8)} (h:∀ q,q∈c↔q∈c'):brkL l c=brkL l c':=funext fun q=>by
 by_cases k:∃ p,p∈c∧q=whl p wName
 ·obtain ⟨p,hp,rfl⟩:=k
  rw [brkL_some hp,brkL_some ((h p).1 hp)]
 ·rw [brkL_none k,brkL_none (fun ⟨p,hp,e⟩=>k ⟨p,(h p).2 hp,e⟩)]
theorem isBk_ext {l:List Fl} {c c':List (List UInt8)} (h:∀ q,q∈c↔q∈c'):isBk l c=isBk l c':=funext fun f=>by
 unfold isBk;rw [brkL_ext h]
theorem brkF_ext {l:List Fl} {c c':List (List UInt8)} (h:∀ q,q∈c↔q∈c'):brkF l c=brkF l c':=by
 unfold brkF
 rw [isBk_ext h]
 have:brkV l c=brkV l c':=funext fun f=>by unfold brkV;rw [brkL_ext h]
 rw [this]
theorem fltP_ext {l:List Fl} {N N':List Lb} {E E':List Ee} {c c':List (List UInt8)} (hn:∀ x,x∈N↔x∈N') (he:∀ e,e∈E↔e∈E') (hc:∀ q,q∈c↔q∈c'):fltP l N E c=fltP l N' E' c':=by
 unfold fltP
 rw [isBk_ext hc,brkF_ext hc,rs_ext hn,crcL_ext hn he]
theorem ndsP_ext {l:List Fl} {N N':List Lb} {E E':List Ee} (hn:∀ x,x∈N↔x∈N') (he:∀ e,e∈E↔e∈E'):ndsP l N E=ndsP l N' E':=by
 unfold ndsP
 rw [rs_ext hn,ord_ext he]
 have:(fun a=>rs (oE E a))=(fun a=>rs (oE E' a)):=funext fun a=>rs_ext (fun x=>by rw [mem_oE,mem_oE,he])
 rw [this]
theorem Rea.mono {l:List Fl} {t t':List Lb} (h:∀ x,x∈t→x∈t') {x:Lb} (hx:Rea l t x):Rea l t' x:=by
 induction hx with
 | base hm=>exact .base (h _ hm)
 | step _ hd ih=>exact .step ih hd
theorem Rea.ext {l:List Fl} {t t':List Lb} (h:∀ x,x∈t↔x∈t') (x:Lb):Rea l t x↔Rea l t' x:=⟨Rea.mono fun x=>(h x).1,Rea.mono fun x=>(h x).2⟩
theorem refE_ext {l:List Fl} {t t':List Lb} (h:∀ x,x∈t↔x∈t'):refE l t=refE l t':=by
 have e:t.all okL=t'.all okL:=by
  rw [Bool.eq_iff_iff,List.all_eq_true,List.all_eq_true]
  exact ⟨fun k x hx=>k x ((h x).2 hx),fun k x hx=>k x ((h x).1 hx)⟩
 unfold refE
 rw [e]
theorem RchS.ext {l:List Fl} {t t' N N':List Lb} {E E':List Ee} {c c':List (List UInt8)} (h:∀ x,x∈t↔x∈t') (a:RchS l t N E c) (b:RchS l t' N' E' c'):(∀ x,x∈N↔x∈N')∧(∀ e,e∈E↔e∈E')∧(∀ q,q∈c↔q∈c'):=by
 refine ⟨fun x=>?_,fun e=>?_,fun q=>?_⟩
 ·rw [a.nn,b.nn];exact Rea.ext h x
 ·obtain ⟨x,y⟩:=e
  rw [a.ee,b.ee,Rea.ext h x]
 ·rw [a.cc,b.cc]
  exact exists_congr fun x=>and_congr_left fun _=>Rea.ext h x
theorem bldP_ext {l:List Fl} {t t' N N':List Lb} {E E':List Ee} {c c':List (List UInt8)} (h:∀ x,x∈t↔x∈t') (a:refE l t=0→RchS l t N E c) (b:refE l t'=0→RchS l t' N' E' c'):bldP l t N E c=bldP l t' N' E' c':=by
 have hr:=refE_ext (l:=l) h
 unfold bldP
 rw [← hr]
 by_cases h0:refE l t=0
 ·obtain ⟨h1,h2,h3⟩:=RchS.ext h (a h0) (b (hr.symm.trans h0))
  rw [if_pos h0,if_pos h0,fltP_ext h1 h2 h3,ndsP_ext h1 h2]
 ·rw [if_neg h0,if_neg h0]
end Go.Proofs.YtppnbdnpapellaaGreatDoor
namespace Go.Proofs.YtppnbdnpapellaaGreatDoor
section
open Go.RowKit Go.Maps
theorem fol_trans {a b c:List UInt8} (h:fol a b=true) (k:fol b c=true):fol a c=true:=by
 unfold fol at h k ⊢
 simp only [Bool.and_eq_true,decide_eq_true_eq,Bool.not_eq_true'] at h k ⊢
 refine ⟨cf_trans h.1 k.1,?_⟩
 cases e:abvV a c with
 | false=>rfl
 | true=>
  have:=abv_between e h.1 k.1
  rw [h.2] at this
  cases this
theorem chain_pw:∀ l:List Fl,chain l=true↔l.Pairwise (fun a b=>fol a.path b.path=true)
 | []=>by simp [chain]
 | [a]=>by simp [chain]
 | a::b::r=>by
  have ih:=chain_pw (b::r)
  rw [List.pairwise_cons]
  simp only [chain,Bool.and_eq_true]
  rw [ih]
  constructor
  ·rintro ⟨h,h1⟩
   refine ⟨fun x hx=>?_,h1⟩
   rcases List.mem_cons.1 hx with rfl | hx
   ·exact h
   ·exact fol_trans h ((List.pairwise_cons.1 h1).1 x hx)
  ·rintro ⟨h,h1⟩
   exact ⟨h b (by simp),h1⟩
theorem fol_ne {a b:List UInt8} (h:fol a b=true):a≠b:=by
 rintro rfl
 unfold fol at h
 simp only [Bool.and_eq_true,decide_eq_true_eq] at h
 have:=h.1
 rw [cmpP_refl] at this
 omega
theorem stand_pw {l:List Fl} (h:validE l=0):l.Pairwise (fun a b=>fol a.path b.path=true):=by
 have h1:=(validE_zero l).1 h
 unfold stand at h1
 simp only [Bool.and_eq_true] at h1
 exact (chain_pw l).1 h1.2
theorem valid_sub {l p:List Fl} (hs:p.Sublist l) (h:validE l=0):validE p=0:=by
 have h1:=(validE_zero l).1 h
 rw [validE_zero]
 unfold stand at h1 ⊢
 simp only [Bool.and_eq_true,decide_eq_true_eq,List.all_eq_true] at h1 ⊢
 refine ⟨⟨Nat.le_trans hs.length_le h1.1.1,fun f hf=>h1.1.2 f (hs.subset hf)⟩,?_⟩
 exact (chain_pw p).2 (((chain_pw l).1 h1.2).sublist hs)
theorem pw_nodup {l:List Fl} (h:l.Pairwise (fun a b=>fol a.path b.path=true)):l.Nodup:=by
 unfold List.Nodup
 exact h.imp (fun hab e=>fol_ne hab (congrArg Fl.path e))
theorem pw_inj:∀ {l:List Fl},l.Pairwise (fun a b=>fol a.path b.path=true)→∀ f∈l,∀ g∈l,f.path=g.path→f=g
 | [],_,f,hf,_,_,_=>by cases hf
 | a::r,h,f,hf,g,hg,e=>by
  obtain ⟨h1,h2⟩:=List.pairwise_cons.1 h
  rcases List.mem_cons.1 hf with rfl | hf'
  ·rcases List.mem_cons.1 hg with rfl | hg'
   ·rfl
   ·exact absurd e (fol_ne (h1 g hg'))
  ·rcases List.mem_cons.1 hg with rfl | hg'
   ·exact absurd e.symm (fol_ne (h1 f hf'))
   ·exact pw_inj h2 f hf' g hg' e
theorem filt_sub {l p:List Fl} {g:Fl→Bool} (hs:p.Sublist l) (hn:l.Nodup) (h:∀ f∈l,g f=true→f∈p):p.filter g=l.filter g:=by
 have h1:(p.filter g).Sublist (l.filter g):=hs.filter g
 refine h1.eq_of_length_le ?_
 classical
 exact Gs.nodup_sub _ _ (hn.filter g) (fun x hx=>by
  obtain ⟨a,b⟩:=List.mem_filter.1 hx
  exact List.mem_filter.2 ⟨h x a b,b⟩)
theorem fnd_path {l:List Fl} {q:List UInt8} {f:Fl} (h:fnd l q=some f):f.path=q:=by
 have:=List.find?_some h
 simpa using this
theorem fnd_sub {l p:List Fl} {q:List UInt8} (hp:l.Pairwise (fun a b=>fol a.path b.path=true)) (hs:p.Sublist l) (h:∀ f∈l,f.path=q→f∈p):fnd p q=fnd l q:=by
 cases e:fnd l q with
 | none=>
  unfold fnd at e ⊢
  rw [List.find?_eq_none] at e ⊢
  exact fun x hx=>e x (hs.subset hx)
 | some f=>
  have h1:=fnd_in e
  have h2:=fnd_path e
  have h3:=h f h1 h2
  cases e2:fnd p q with
  | none=>
   unfold fnd at e2
   rw [List.find?_eq_none] at e2
   exact absurd (by simpa using h2) (e2 f h3)
  | some g=>
   rw [pw_inj hp g (hs.subset (fnd_in e2)) f h1 ((fnd_path e2).trans h2.symm)]
structure Prt (l p:List Fl) (t:List Lb):Prop where
 sub:p.Sublist l
 man:∀ a,Rea l t a→∀ f∈l,f.path=whl a.pkg wName→f∈p
 src:∀ a,Rea l t a→∀ f∈srcL l a,f∈p
section
variable {l p:List Fl} {t:List Lb}
theorem Prt.says (h:Prt l p t) (hp:l.Pairwise (fun a b=>fol a.path b.path=true)) {a:Lb} (ha:Rea l t a):says p a.pkg=says l a.pkg:=by
 unfold Go.Proofs.YtppnbdnpapellaaGreatDoor.says
 rw [fnd_sub hp h.sub (h.man a ha)]
theorem Prt.tgt (h:Prt l p t) (hp:l.Pairwise (fun a b=>fol a.path b.path=true)) {a:Lb} (ha:Rea l t a):tgtL p a=tgtL l a:=by
 unfold tgtL
 rw [h.says hp ha]
theorem Prt.dps (h:Prt l p t) (hp:l.Pairwise (fun a b=>fol a.path b.path=true)) {a:Lb} (ha:Rea l t a):dpsL p a=dpsL l a:=by
 unfold dpsL
 rw [h.tgt hp ha]
theorem Prt.rea (h:Prt l p t) (hp:l.Pairwise (fun a b=>fol a.path b.path=true)) (x:Lb):Rea p t x↔Rea l t x:=by
 constructor
 ·intro k
  induction k with
  | base hm=>exact .base hm
  | step _ hd ih=>rw [h.dps hp ih] at hd;exact .step ih hd
 ·intro k
  induction k with
  | base hm=>exact .base hm
  | step ha hd ih=>exact .step ih (by rw [h.dps hp ha];exact hd)
theorem Prt.rch {N:List Lb} {E:List Ee} {c:List (List UInt8)} (h:Prt l p t) (hp:l.Pairwise (fun a b=>fol a.path b.path=true)) (S:RchS l t N E c):RchS p t N E c:=by
 refine ⟨fun x=>?_,fun a b=>?_,fun q=>?_⟩
 ·rw [S.nn,h.rea hp]
 ·rw [S.ee,h.rea hp]
  exact and_congr_right fun ha=>by rw [h.dps hp ha]
 ·rw [S.cc]
  exact exists_congr fun a=>and_congr_left fun _=>(h.rea hp a).symm
theorem src_in {a:Lb} {s:List UInt8} {f:Fl} (hs:s∈((tgtL l a).getD zT).srcs) (hf:f∈(exl l (whl a.pkg s)).1):f∈srcL l a:=by
 unfold srcL keep
 refine List.mem_filter.2 ⟨exl_sub hf,?_⟩
 rw [decide_eq_true_eq]
 unfold srcP
 exact List.mem_flatMap.2 ⟨s,hs,List.mem_map.2 ⟨f,hf,rfl⟩⟩
theorem Prt.exl (h:Prt l p t) (hp:l.Pairwise (fun a b=>fol a.path b.path=true)) {a:Lb} (ha:Rea l t a) {s:List UInt8} (hs:s∈((tgtL l a).getD zT).srcs):exl p (whl a.pkg s)=exl l (whl a.pkg s):=by
 have key:∀ f∈(Go.Proofs.YtppnbdnpapellaaGreatDoor.exl l (whl a.pkg s)).1,f∈p:=fun f hf=>h.src a ha f (src_in hs hf)
 unfold Go.Proofs.YtppnbdnpapellaaGreatDoor.exl at key ⊢
 by_cases h1:litP (whl a.pkg s)=true
 ·rw [if_pos h1] at key
  rw [if_pos h1,if_pos h1,fnd_sub hp h.sub (fun f hf e=>?_)]
  cases e2:fnd l (whl a.pkg s) with
  | none=>
   unfold fnd at e2
   rw [List.find?_eq_none] at e2
   exact absurd (by simpa using e) (e2 f hf)
  | some g=>
   rw [e2] at key
   rw [pw_inj hp f hf g (fnd_in e2) (e.trans (fnd_path e2).symm)]
   exact key g (by simp)
 ·rw [if_neg h1] at key
  rw [if_neg h1,if_neg h1]
  by_cases h2:starP (whl a.pkg s)=true
  ·rw [if_pos h2] at key
   rw [if_pos h2,if_pos h2,filt_sub h.sub (pw_nodup hp) (fun f hf hg=>key f (List.mem_filter.2 ⟨hf,hg⟩))]
  ·rw [if_neg h2,if_neg h2]
theorem Prt.srcP (h:Prt l p t) (hp:l.Pairwise (fun a b=>fol a.path b.path=true)) {a:Lb} (ha:Rea l t a):srcP p a=srcP l a:=by
 unfold Go.Proofs.YtppnbdnpapellaaGreatDoor.srcP
 rw [h.tgt hp ha]
 have key:∀ s∈((tgtL l a).getD zT).srcs,pthL p a.pkg s=pthL l a.pkg s:=fun s hs=>by
  unfold pthL
  rw [h.exl hp ha hs]
 generalize ((tgtL l a).getD zT).srcs=L at key
 induction L with
 | nil=>rfl
 | cons s r ih=>rw [List.flatMap_cons,List.flatMap_cons,key s (by simp),ih (fun x hx=>key x (by simp [hx]))]
theorem Prt.srcL (h:Prt l p t) (hp:l.Pairwise (fun a b=>fol a.path b.path=true)) {a:Lb} (ha:Rea l t a):srcL p a=srcL l a:=by
 have h1:=h.src a ha
 unfold Go.Proofs.YtppnbdnpapellaaGreatDoor.srcL keep at h1 ⊢
 rw [h.srcP hp ha]
 exact filt_sub h.sub (pw_nodup hp) (fun f hf hg=>h1 f (List.mem_filter.2 ⟨hf,hg⟩))
theorem Prt.lst (h:Prt l p t) (hp:l.Pairwise (fun a b=>fol a.path b.path=true)) {a:Lb} (ha:Rea l t a):lstL p a.pkg ((tgtL l a).getD zT).srcs=lstL l a.pkg ((tgtL l a).getD zT).srcs:=by
 unfold lstL
 have e:((tgtL l a).getD zT).srcs.filter (fun s=>!(Go.Proofs.YtppnbdnpapellaaGreatDoor.exl p (whl a.pkg s)).2)=((tgtL l a).getD zT).srcs.filter (fun s=>!(Go.Proofs.YtppnbdnpapellaaGreatDoor.exl l (whl a.pkg s)).2):=List.filter_congr (fun s hs=>by rw [h.exl hp ha hs])
 rw [e]
theorem Prt.mis (h:Prt l p t) (hp:l.Pairwise (fun a b=>fol a.path b.path=true)) {a:Lb} (ha:Rea l t a):misB p a=misB l a:=by
 have h1:=h.lst hp ha
 unfold misB
 rw [h.tgt hp ha]
 cases e:tgtL l a with
 | none=>rfl
 | some T=>
  rw [e] at h1
  simp only [Option.getD_some] at h1
  simp only [h1]
theorem Prt.uns (h:Prt l p t) (hp:l.Pairwise (fun a b=>fol a.path b.path=true)) {a:Lb} (ha:Rea l t a):unsB p a=unsB l a:=by
 unfold unsB hdnL
 rw [h.dps hp ha]
 have e:(dpsL l a).filter (fun b=>!ses ((tgtL p b).getD zT).see b.pkg a.pkg)=(dpsL l a).filter (fun b=>!ses ((tgtL l b).getD zT).see b.pkg a.pkg):=List.filter_congr (fun b hb=>by rw [h.tgt hp (.step ha hb)])
 rw [e]
theorem Prt.brk {c:List (List UInt8)} (h:Prt l p t) (hp:l.Pairwise (fun a b=>fol a.path b.path=true)) (hc:∀ q,q∈c→∃ a,Rea l t a∧a.pkg=q):brkL p c=brkL l c:=funext fun q=>by
 by_cases k:∃ x,x∈c∧q=whl x wName
 ·obtain ⟨x,hx,rfl⟩:=k
  rw [brkL_some hx,brkL_some hx]
  obtain ⟨a,ha,rfl⟩:=hc x hx
  rw [h.says hp ha]
 ·rw [brkL_none k,brkL_none k]
theorem Prt.bld {N N':List Lb} {E E':List Ee} {c c':List (List UInt8)} (h:Prt l p t) (h0:refE l t=0) (S:RchS l t N E c) (hf:(fltP l N E c).2=false) (S':refE p t=0→RchS p t N' E' c'):bldP p t N' E' c'=bldP l t N E c:=by
 obtain ⟨hv,hal⟩:=refE_ok h0
 have hp:=stand_pw hv
 have h0':refE p t=0:=by
  unfold refE
  rw [if_pos (valid_sub h.sub hv),hal]
  rfl
 have R:=h.rch hp S
 rw [bldP_ext (fun _=>Iff.rfl) S' (fun _=>R)]
 have hN:∀ a∈rs N,Rea l t a:=fun a ha=>(S.nn a).1 ((Gs.mem_ris a N).1 ha)
 have hfp:(fltP p N E c).2=false:=by
  unfold fltP at hf ⊢
  by_cases b1:l.any (isBk l c)=true
  ·rw [if_pos b1] at hf;cases hf
  ·rw [if_neg b1] at hf
   have b1':¬ p.any (isBk p c)=true:=by
    intro k
    obtain ⟨f,hfp,hk⟩:=List.any_eq_true.1 k
    refine b1 (List.any_eq_true.2 ⟨f,h.sub.subset hfp,?_⟩)
    unfold isBk at hk ⊢
    rw [h.brk hp (fun q hq=>(S.cc q).1 hq)] at hk
    exact hk
   rw [if_neg b1']
   have e2:(rs N).any (misB p)=(rs N).any (misB l):=by
    rw [Bool.eq_iff_iff,List.any_eq_true,List.any_eq_true]
    exact exists_congr fun a=>and_congr_right fun ha=>by rw [h.mis hp (hN a ha)]
   rw [e2]
   by_cases b2:(rs N).any (misB l)=true
   ·rw [if_pos b2] at hf;cases hf
   ·rw [if_neg b2] at hf
    rw [if_neg b2]
    by_cases b3:(crcL N E).isSome=true
    ·rw [if_pos b3] at hf;cases hf
    ·rw [if_neg b3] at hf
     rw [if_neg b3]
     have e4:(rs N).any (unsB p)=(rs N).any (unsB l):=by
      rw [Bool.eq_iff_iff,List.any_eq_true,List.any_eq_true]
      exact exists_congr fun a=>and_congr_right fun ha=>by rw [h.uns hp (hN a ha)]
     show (rs N).any (unsB p)=false
     rw [e4]
     exact hf
 have hnd:ndsP p N E=ndsP l N E:=by
  unfold ndsP
  exact List.map_congr_left (fun a ha=>by
   unfold ndF
   rw [h.srcL hp ((S.nn a).1 (ord_in ha))])
 unfold bldP
 rw [if_pos h0,if_pos h0',hf,hfp,hnd]
 rfl
end
end
section
open Go.RowKit Go.Maps
theorem pts_is (N:List Lb) (E:List Ee):Gs.Pts ltL N E (Gs.pts ltL N E):=by
 have hm:∀ x,x∈Gs.ris ltL N↔x∈N:=fun x=>Gs.mem_ris x N
 have key:∀ k,k≤(Gs.ris ltL N).length→∃ P,Gs.PtsK ltL N E (Gs.ris ltL N) k P:=by
  intro k
  induction k with
  | zero=>exact fun _=>⟨[],Gs.PtsK.nil _ _ _ _⟩
  | succ k ih=>
   intro hk
   obtain ⟨P,hP⟩:=ih (by omega)
   by_cases h:∃ p∈P,(Gs.ris ltL N)[k]∈p
   ·obtain ⟨p,hp,hx⟩:=h
    exact ⟨P,hP.skip (by omega) hp hx⟩
   ·exact ⟨_,hP.add stoL (Gs.ris_up stoL _) hm (by omega) (fun p hp hx=>h ⟨p,hp,hx⟩) (Gs.part_up stoL N E _) (fun y=>Gs.mem_part)⟩
 obtain ⟨P,hP⟩:=key _ (Nat.le_refl _)
 have hd:=hP.done hm
 rw [← hd.eq stoL]
 exact hd
theorem ord_there {N:List Lb} {E:List Ee} (hE:∀ a b,(a,b)∈E→a∈N∧b∈N) (hc:crcL N E=none):∃ L,Gs.ord (rs N) E=some L:=by
 refine (Gs.ord_some_iff (rs_nd N) (fun a b h=>⟨(Gs.mem_ris a N).2 (hE a b h).1,(Gs.mem_ris b N).2 (hE a b h).2⟩)).2 ?_
 refine (Gs.Pts.free stoL (pts_is N E) hE).1 (fun p hp hq=>?_)
 unfold crcL frs at hc
 rw [List.find?_eq_none] at hc
 refine hc p hp ?_
 unfold crcB
 rcases hq with h | ⟨a,ha,hae⟩
 ·simp only [Bool.or_eq_true,decide_eq_true_eq]
  exact .inl (by omega)
 ·match p,ha with
  | [x],ha=>
   have:a=x:=List.mem_singleton.1 ha
   subst this
   simp [hae]
  | x::y::r,_=>simp
end
section
open Go.RowKit Go.Maps
def tqF:Nat→List UInt8→Nat→List Tk×Int
 | 0,_,_=>([],-1)
 | _+1,[],_=>([],-1)
 | n+1,c::q,m=>if kd c=0 then ([],(m:Int)) else
  match tqF n ((q.drop (ktl c q)).drop (gp false (q.drop (ktl c q)))) (m+1+ktl c q+gp false (q.drop (ktl c q))) with
  | (a,b)=>(⟨(kd c:Int),c::q.take (ktl c q),(m:Int)⟩::a,b)
theorem tq_fuel:∀ (n:Nat) (r:List UInt8) (m:Nat),r.length≤n→tq r m=tqF n r m
 | 0,r,m,h=>by
  have:r=[]:=List.eq_nil_of_length_eq_zero (by omega)
  subst this
  rw [tq_nil];rfl
 | n+1,[],m,h=>by rw [tq_nil];rfl
 | n+1,c::q,m,h=>by
  unfold tqF
  by_cases h0:kd c=0
  ·rw [tq_bad h0,if_pos h0]
  ·rw [tq,if_neg h0,if_neg h0,tq_fuel n _ _ (by simp only [List.length_drop,List.length_cons] at h ⊢;omega)]
theorem toks_fuel (s:List UInt8):toks s=tqF s.length (s.drop (gp false s)) (0+gp false s):=by
 unfold toks tg
 exact tq_fuel _ _ _ (by simp)
def tkF (s:List UInt8):List Tk×Int:=tqF s.length (s.drop (gp false s)) (0+gp false s)
def prsF (p s:List UInt8):List Tg×Int:=
 if okP p=true then (if s.length≤4096 then go p (if 0≤(tkF s).2 then (tkF s).2 else (s.length:Int)) (tkF s).2 (.top []) (tkF s).1 else ([],4096)) else ([],0)
theorem prsM_fuel (p s:List UInt8):prsM p s=prsF p s:=by
 unfold prsM prsF endE tkF
 rw [toks_fuel]
end
section
open Go.RowKit Go.Maps
theorem fs_block {w:World} {g:Nat} {l:List Fl} {arr:Array Value} {fr:Nat×Nat} (hg:w.heap[g]? = some (.cells arr 55 fr)) (ha:arr=(fc l).toArray):FS w (.slice (some ⟨g,0,none⟩) l.length l.length) l:=by
 subst ha
 refine .inr ⟨g,0,l.length,rfl,Nat.le_refl _,(Array.getElem?_eq_some_iff.1 hg).1,fun i u hu=>?_⟩
 simp only [World.cell?,hg]
 simpa using hu
theorem own_block {w:World} (x:Lb):OwnL w.heap.size (w.alloc (.cells #[.string (bs x.pkg),.string (bs x.name)] 27)) (.slice (some ⟨w.heap.size,0,none⟩) 1 1) [x]:=
 ⟨rfl,.inr ⟨w.heap.size,1,#[.string (bs x.pkg),.string (bs x.name)],rfl,Nat.le_refl _,heap_alloc_new w _,Nat.le_refl _,by unfold maxLen;omega,rfl,rfl⟩⟩
end
section
open Go.RowKit Go.Maps
theorem sameL_any {w:World} {u v:Value} {l:List Lb} (h:LS w u l) (h':LS w v l) (hl:l.length≤100000000) :
  Calls Tryz.prog 23 #[u,v] w fun e w'=>e=.returned (.bool true)∧Below w.heap.size w w':=by
 have H:Hid (LS w u l∧LS w v l):=⟨h,h'⟩
 obtain ⟨au,cu,hvv,_⟩:=h.form
 obtain ⟨n,hn⟩:∃ n,l.length=n:=⟨_,rfl⟩
 rw [hn] at hvv hl
 subst hvv
 obtain ⟨av,cv,hvv,_⟩:=h'.form
 rw [hn] at hvv
 subst hvv
 have HN:Hid (l.length=n):=hn
 clear h h' hn
 have hq:=lneq_run'
 have hg:=guard_run
 go_enter Tryz.func23,Tryz.ntmps23
 go_wp2_with fail
 go_loopw [5] (fun s5 wr=>∃ i:Nat,s5=.int .i64 i∧i≤n∧Below w.heap.size w wr) (fun s5 _=>n - (intOf s5).toNat)
 case atStart=>exact ⟨0,rfl,by omega,Below.refl _ _⟩
 case round=>
  obtain ⟨i,rfl,hi,hb⟩:=hrel
  have HX:Hid (Below w.heap.size w wr):=hb
  clear hb
  by_cases hlt:i < n
  ·have hll:i < l.length:=by rw [HN.out];exact hlt
   obtain ⟨b,off,ea,hbw,d0,d1⟩:=LS.at (by have q:=H.out.1;rw [← HN.out] at q;exact q) HX.out hll
   subst ea
   obtain ⟨b',off',ea,hbw',e0,e1⟩:=LS.at (by have q:=H.out.2;rw [← HN.out] at q;exact q) HX.out hll
   subst ea
   obtain ⟨x,hxe⟩:∃ x,l[i]=x:=⟨_,rfl⟩
   rw [hxe] at d0 d1 e0 e1
   clear hxe
   obtain ⟨x0,x1⟩:=x
   simp only at d0 d1 e0 e1
   have k1:(i:Int) < (n:Int):=by omega
   have k2:(0:Int)≤(i:Int):=by omega
   have he2:lleq ⟨x0,x1⟩ ⟨x0,x1⟩=true:=by unfold lleq;simp
   go_wp2_with fail
   go_quiet (fail)
   go_wp2_with fail
   go_roundw
   case rel=>exact ⟨i+1,by go_num,by omega,bstep HX.out (bd _ _)⟩
   case measure=>simp [intOf];omega
  ·obtain rfl:n=i:=by omega
   go_wp2_with fail
   go_ret
   exact ⟨rfl,HX.out⟩
end
section
open Go.RowKit Go.Maps
theorem sameFault_any {w:World} {v v2:Fv} {f:Pf} {b b2:Nat} (h:FvIs b w v f) (h2:FvIs b2 w v2 f) (hl:f.circ.length≤100000000) :
  Calls Tryz.prog 12 #[v.val,v2.val] w fun e w'=>e=.returned (.bool true)∧Below w.heap.size w w':=by
 obtain ⟨fc,⟨lp,ln⟩,⟨op,on⟩,fp,fa,ca,cn,cc⟩:=v
 obtain ⟨fc2,⟨lp2,ln2⟩,⟨op2,on2⟩,fp2,fa2,ca2,cn2,cc2⟩:=v2
 have e:=h.it.trans h2.it.symm
 simp only [Fv.pf,Pf.mk.injEq,Lb.mk.injEq,and_true] at e
 obtain ⟨rfl,⟨rfl,rfl⟩,⟨rfl,rfl⟩,rfl,rfl⟩:=e
 have HL:Hid (LS w (.slice ca cn cc) f.circ∧LS w (.slice ca2 cn2 cc2) f.circ∧f.circ.length≤100000000):=⟨h.ci.rs,h2.ci.rs,hl⟩
 have HSL:=hid_of (fun W (hW:Below w.heap.size w W)=>sameL_any (HL.out.1.later hW) (HL.out.2.1.later hW) HL.out.2.2)
 clear h h2 hl
 have hq:=leql_run'
 have hg:=guard_run
 have q1:lleq ⟨lp,ln⟩ ⟨lp,ln⟩=true:=by unfold lleq;simp
 have q2:lleq ⟨op,on⟩ ⟨op,on⟩=true:=by unfold lleq;simp
 simp only [Fv.val]
 go_enter Tryz.func12,Tryz.ntmps12
 go_wp2_with fail
 refine (HSL.out _ (bstep (balloc _ _) (balloc _ _))).mono ?_
 rintro e w3 ⟨rfl,hb⟩
 have HB:Hid (Below w.heap.size w w3):=bstep (bstep (balloc _ _) (balloc _ _)) hb
 clear hb
 go_wp2_with fail
 go_ret
 exact ⟨rfl,HB.out⟩
end
section
open Go.RowKit Go.Maps
theorem srcL_len (l:List Fl) (a:Lb):(srcL l a).length≤l.length:=by
 unfold srcL keep
 exact List.length_filter_le _ _
theorem bld_fine {l:List Fl} {t N:List Lb} {E:List Ee} {c:List (List UInt8)} (B:OfB l t) (h:refE l t=0→RchS l t N E c):(bldP l t N E c).2.circ.length≤100000000∧(bldP l t N E c).1.length≤100000000∧∀ n∈(bldP l t N E c).1,n.srcs.length≤100000000∧n.deps.length≤100000000:=by
 unfold bldP
 by_cases h0:refE l t=0
 ·rw [if_pos h0]
  have S:=h h0
  have hu:=uni_le l t
  have hb:=B.ul
  have hU:∀ x∈N,x∈uniL l t:=fun x hx=>(uni_ok l t).all x ((S.nn x).1 hx)
  have hrs:(rs N).length≤(uniL l t).length:=Gs.nodup_sub (rs N) _ (rs_nd N) (fun x hx=>hU x ((Gs.mem_ris x N).1 hx))
  split
  ·refine ⟨?_,by simp,fun n hn=>by simp at hn⟩
   unfold fltP
   split
   ·simp [Fv.pf]
   ·split
    ·simp [Fv.pf]
    ·split
     ·show ((crcL N E).getD []).length≤_
      cases hc:crcL N E with
      | none=>simp
      | some p=>
       have hp:p∈Gs.pts ltL N E:=List.mem_of_find?_eq_some hc
       unfold Gs.pts at hp
       obtain ⟨a,_,rfl⟩:=List.mem_map.1 hp
       have h1:=Gs.nodup_sub (Gs.part ltL N E a) (uniL l t) (Gs.Ris.nodup stoL (Gs.part_up stoL N E a)) (fun x hx=>hU x (Gs.mem_part.1 hx).1)
       simp only [Option.getD_some]
       omega
     ·simp [Fv.pf]
  ·refine ⟨by simp [zPf],?_,fun n hn=>?_⟩
   ·unfold ndsP
    rw [List.length_map]
    cases e:Gs.ord (rs N) E with
    | none=>simp
    | some L=>
     have h1:=(Gs.ordF_some _ _ _ (Gs.Tld.nil _ _) e).2.1
     simp only [Option.getD_some,List.length_nil] at h1 ⊢
     omega
   ·unfold ndsP at hn
    obtain ⟨a,_,rfl⟩:=List.mem_map.1 hn
    have h1:=srcL_len l a
    have h2:=B.ll
    have h3:=Gs.nodup_sub (rs (oE E a)) (dpsL l a) (rs_nd _) (fun x hx=>((S.ee a x).1 (mem_oE.1 ((Gs.mem_ris x _).1 hx))).2)
    have h4:=(dps_small (l:=l) a).1
    simp only [ndF]
    omega
 ·rw [if_neg h0]
  simp
end
section
open Go.RowKit Go.Maps
theorem fine_of {l:List Fl} {t:List Lb} (h:totf l+totl t≤1048576) (hb:∀ i∈l,-9223372036854775808≤i.blob∧i.blob≤9223372036854775807∧-9223372036854775808≤i.size∧i.size≤9223372036854775807):OfB l t:=by
 have h1:=totf_len l
 have h2:=totf_mem l
 have h3:=totl_len t
 have h4:=totl_mem t
 have hok:∀ f∈l,Fok f:=fun f hf=>by
  have:=h2 f hf
  obtain ⟨g1,g2,g3,g4⟩:=hb f hf
  exact ⟨by omega,by omega,g1,g2,g3,g4⟩
 refine ⟨⟨by omega,hok,fun f hf=>by have:=h2 f hf;omega⟩,⟨by omega,hok⟩,by omega,by omega,fun x hx=>?_,by omega⟩
 have:=h4 x hx
 exact ⟨by omega,by omega⟩
end
section
open Go.RowKit Go.Maps
theorem txt_sub {p l:List Fl} (h:p.Sublist l):txt p≤txt l:=by
 induction h with
 | slnil=>exact Nat.le_refl _
 | cons a _ ih=>simp only [txt];omega
 | cons_cons a _ ih=>simp only [txt];omega
theorem OfB.sub {l p:List Fl} {t:List Lb} (B:OfB l t) (h:p.Sublist l):OfB p t:=by
 have h1:=txt_sub h
 have h2:=h.length_le
 have h3:=B.fs.len
 have h4:=B.ll
 have h5:=B.ul
 exact ⟨B.fq.sub h2 (fun f hf=>h.subset hf),⟨by omega,fun f hf=>B.fs.each f (h.subset hf)⟩,by omega,B.tl,B.lm,by omega⟩
end
section
open Go.RowKit Go.Maps
end
section
open Go.RowKit Go.Maps
end
section
open Go.RowKit Go.Maps
theorem flt_code {l:List Fl} {N:List Lb} {E:List Ee} {c:List (List UInt8)} (h:(fltP l N E c).2=true):(fltP l N E c).1.code≠0:=by
 unfold fltP at h ⊢
 split
 ·rename_i h1
  unfold brkF
  split
  ·simp [brkV,Fv.pf]
  ·rename_i e
   obtain ⟨f,hf,hk⟩:=List.any_eq_true.1 h1
   exact absurd hk (by rw [List.find?_eq_none] at e;exact e f hf)
 ·rename_i h1
  rw [if_neg h1] at h
  split
  ·rename_i h2
   unfold fstF
   split
   ·rename_i a e
    have hb:=List.find?_some e
    unfold misB at hb
    unfold misF
    split
    ·simp [Fv.pf]
    ·rename_i T hT
     rw [hT] at hb
     simp only [Bool.not_eq_true'] at hb
     rw [if_neg (by rw [hb];simp)]
     simp [Fv.pf]
   ·rename_i e
    obtain ⟨f,hf,hk⟩:=List.any_eq_true.1 h2
    exact absurd hk (by rw [List.find?_eq_none] at e;exact e f hf)
  ·rename_i h2
   rw [if_neg h2] at h
   split
   ·simp
   ·rename_i h3
    rw [if_neg h3] at h
    unfold fstF
    split
    ·rename_i a e
     have hb:=List.find?_some e
     unfold unsF
     rw [if_pos hb]
     simp [Fv.pf]
    ·rename_i e
     obtain ⟨f,hf,hk⟩:=List.any_eq_true.1 h
     exact absurd hk (by rw [List.find?_eq_none] at e;exact e f hf)
theorem bld_ok {l:List Fl} {t N:List Lb} {E:List Ee} {c:List (List UInt8)}:((bldP l t N E c).2.code≠0∧(bldP l t N E c).1=[])∨((bldP l t N E c).2.code=0∧refE l t=0∧(fltP l N E c).2=false∧bldP l t N E c=(ndsP l N E,zPf)):=by
 unfold bldP
 by_cases h0:refE l t=0
 ·rw [if_pos h0]
  cases hf:(fltP l N E c).2 with
  | true=>exact .inl ⟨flt_code hf,rfl⟩
  | false=>exact .inr ⟨rfl,h0,rfl,rfl⟩
 ·rw [if_neg h0]
  exact .inl ⟨h0,rfl⟩
end
end Go.Proofs.YtppnbdnpapellaaGreatDoor
