/-
  The example of the closure.
  The law of ClosureJoins.
-/
import Derived.Test.YtppnbdnpapellaaGreatDoorJMerge
import Derived.Test.YtppnbdnpapellaaGreatDoorJBase
import Derived.Test.YtppnbdnpapellaaGreatDoorJOrd
import Derived.Test.YtppnbdnpapellaaGreatDoorJGy
import Derived.Test.YtppnbdnpapellaaGreatDoorJLa
namespace Go.Proofs.YtppnbdnpapellaaGreatDoor
open Go.RowKit
theorem Own.ss {base:Nat} {w:World} {v:Value} {l:List (List UInt8)} (h:Own base w v l):SS w v l:=h.bs
set_option maxHeartbeats 2000000 in
set_option maxRecDepth 100000 in
theorem sets_any {w:World} {va vb:Value} {A B:List (List UInt8)} (f m s:Bool) (h1:SS w va A) (h2:SS w vb B) (sa:Sm A) (sb:Sm B) :
  Calls Tryz.prog 26 #[va,vb,.agg #[.bool f,.bool m,.bool s]] w fun e w'=>∃ v',e=.returned v'∧Own w.heap.size w' v' (pick f m s (norm A) (norm B))∧Below w.heap.size w w':=by
 have HA:Hid (SS w va A∧Sm A):=⟨h1,sa⟩
 have HB:Hid (SS w vb B∧Sm B):=⟨h2,sb⟩
 clear h1 h2 sa sb
 obtain ⟨R,hR⟩:∃ R,pick f m s (norm A) (norm B)=R:=⟨_,rfl⟩
 rw [hR]
 have HR:Hid (pick f m s (norm A) (norm B)=R):=hR
 clear hR
 obtain ⟨G,hG⟩:∃ G,w.heap.size=G:=⟨_,rfl⟩
 obtain ⟨wb,hwb⟩:∃ wb,w.alloc (.cells #[.bool f,.bool m,.bool s] 61)=wb:=⟨_,rfl⟩
 have HB0:Hid (wb.heap.size=G+1∧Below G w wb):=by rw [← hwb,← hG];exact ⟨by simp,balloc _ _⟩
 have c0:wb.cell? ⟨G,0,none⟩=some (.bool f):=by rw [← hwb,← hG];simp
 have c1:wb.cell? ⟨G,1,none⟩=some (.bool m):=by rw [← hwb,← hG];simp
 have c2:wb.cell? ⟨G,2,none⟩=some (.bool s):=by rw [← hwb,← hG];simp
 have SA:Hid (SS wb va A):=by rw [← hwb];exact HA.out.1.later (balloc _ _)
 have SB:Hid (SS wb vb B):=by rw [← hwb];exact HB.out.1.later (balloc _ _)
 have hwz:G < wb.heap.size:=by have:=HB0.out.1;omega
 go_enter Tryz.func26,Tryz.ntmps26
 go_wp2_with fail
 clear hwb
 go_region_held3 (fun w'=>w'.cell? ⟨G,0,none⟩=some (.bool f)∧w'.cell? ⟨G,1,none⟩=some (.bool m)∧w'.cell? ⟨G,2,none⟩=some (.bool s)) (first | go_keep | (exact ⟨(by rw [hb8.cell (p:=⟨G,0,none⟩) hwz];exact c0),(by rw [hb8.cell (p:=⟨G,1,none⟩) hwz];exact c1),(by rw [hb8.cell (p:=⟨G,2,none⟩) hwz];exact c2)⟩)) (first | (go_at_call 47;refine (merge_any f m s (ho8.ss.later hb6) ho9.ss (up_norm _) (up_norm _) HA.out.2.norm HB.out.2.norm).mono ?_;rintro e w' ⟨v6,rfl,ho6,hb5⟩;have ho5:=ho6.mono hb8.size;have hb8:Below wb.heap.size wb w':=bstep hb8 hb5) | (go_at_call 25;refine (norm_any (SA.out.later (Below.refl _ _).drew) HA.out.2).mono ?_;rintro e w' ⟨v8,rfl,ho8,hb7⟩;have hb8:Below wb.heap.size wb w':=bstep (Below.refl _ _).drew hb7) | (go_at_call 25;refine (norm_any (SB.out.later hb8) HB.out.2).mono ?_;rintro e w' ⟨v9,rfl,ho9,hb6⟩;have hb8:Below wb.heap.size wb w':=bstep hb8 hb6))
 have HO:Hid (Own G w' v6 R):=by rw [← HR.out];exact ho5.mono (by omega)
 have HBB:Hid (Below G w w'):=below_trans HB0.out.2 (below_mono hb8 (by omega))
 clear ho5 hb8 ho6 hb5 ho9 hb6 ho8 hb7
 go_wp2_with fail
 go_ret
 exact ⟨v6,rfl,by rw [hG];exact HO.out,by rw [hG];exact HBB.out⟩
set_option maxRecDepth 100000 in
set_option maxHeartbeats 1000000 in
theorem union_any {w:World} {va vb:Value} {A B:List (List UInt8)} (h1:SS w va A) (h2:SS w vb B) (sa:Sm A) (sb:Sm B) :
  Calls Tryz.prog 10 #[va,vb] w fun e w'=>∃ v',e=.returned v'∧Own w.heap.size w' v' (uni A B)∧Below w.heap.size w w':=by
 have HA:Hid (SS w va A∧Sm A):=⟨h1,sa⟩
 have HB:Hid (SS w vb B∧Sm B):=⟨h2,sb⟩
 clear h1 h2 sa sb
 obtain ⟨R,hR⟩:∃ R,uni A B=R:=⟨_,rfl⟩
 rw [hR]
 have HR:Hid (uni A B=R):=hR
 clear hR
 go_enter Tryz.func10,Tryz.ntmps10
 go_wp2_with fail
 refine (sets_any true true true HA.out.1 HB.out.1 HA.out.2 HB.out.2).mono ?_
 rintro e w1 ⟨v1,rfl,ho,hb⟩
 have HO:Hid (Own w.heap.size w1 v1 R):=by rw [← HR.out,← pick_uni];exact ho
 have HW:Hid (Below w.heap.size w w1):=hb
 clear ho hb
 go_wp2_with fail
 go_ret
 exact ⟨v1,rfl,HO.out,HW.out⟩
end Go.Proofs.YtppnbdnpapellaaGreatDoor

namespace Go.Proofs.YtppnbdnpapellaaGreatDoor
open Go.RowKit Go.Maps
attribute [local go_sem] Oper.semAt_some
def cxX:List UInt8:=[116,97,114,103,101,116,32,98,123,115,114,99,115,61,91,42,46,104,93,125]
def cxL:List Fl:=[⟨[120,47,84,65,82,71,69,84,83],cxX,0,20⟩,⟨[120,47,98,46,104],[],0,0⟩,⟨[121],[],0,0⟩]
def cxA:Lb:=⟨[120],[98]⟩
def cxT:Tg:=⟨[98],[[42,46,104]],[],[]⟩
def cxC:List (List UInt8):=[[120,47,84,65,82,71,69,84,83],[120,47,98,46,104]]
theorem cx_p:prsF [120] cxX=([cxT],-1):=by kernel_rfl
theorem cx_s:says cxL [120]=([cxT],-1):=by
 have e:says cxL [120]=prsM [120] cxX:=rfl
 exact e.trans ((prsM_fuel _ _).trans cx_p)
theorem cx_t:tgtL cxL cxA=some cxT:=by
 unfold tgtL
 rw [show cxA.pkg=[120] from rfl,cx_s]
 kernel_rfl
theorem cx_d:dpsL cxL cxA=[]:=by unfold dpsL;rw [cx_t];rfl
theorem cx_rea (x:Lb):Rea cxL [cxA] x↔x=cxA:=by
 constructor
 ·intro h
  induction h with
  | base hm=>exact List.mem_singleton.1 hm
  | step _ hd ih=>
   subst ih
   rw [cx_d] at hd;cases hd
 ·rintro rfl
  exact .base (by simp)
theorem cx_noF:NoF cxL [cxA]:=by
 refine ⟨fun a ha f _ _=>?_,fun a ha=>?_,fun a ha b hb=>?_,fun a ha=>?_⟩<;>obtain rfl:=(cx_rea a).1 ha
 ·rw [show cxA.pkg=[120] from rfl,cx_s]
 ·unfold misB;rw [cx_t];kernel_rfl
 ·rw [cx_d] at hb;cases hb
 ·unfold unsB hdnL;rw [cx_d];rfl
theorem cx_src:srcL cxL cxA=[⟨[120,47,98,46,104],[],0,0⟩]:=by
 unfold srcL srcP
 rw [cx_t]
 kernel_rfl
theorem cx_ref:refE cxL [cxA]=0:=by kernel_rfl
theorem cx_up:Up cxC:=by
 have h:cf [120,47,84,65,82,71,69,84,83] [120,47,98,46,104] = -1:=by kernel_rfl
 refine List.pairwise_cons.2 ⟨fun x hx=>?_,List.pairwise_singleton _ _⟩
 rw [List.mem_singleton.1 hx,h]
 decide
theorem cx_any {N:List Lb} {E:List Ee} {c:List (List UInt8)} (h:refE cxL [cxA]=0→RchS cxL [cxA] N E c):(bldP cxL [cxA] N E c).2=zPf∧cloL (bldP cxL [cxA] N E c).1=cxC:=by
 have hc:=(bld_zero h).2 ⟨cx_ref,cx_noF⟩
 rcases bld_ok (l:=cxL) (t:=[cxA]) (N:=N) (E:=E) (c:=c) with ⟨h1,_⟩ | ⟨_,_,hf,hb⟩
 ·exact absurd hc h1
 ·rw [hb]
  refine ⟨rfl,norm_of cx_up fun q=>?_⟩
  have hm:=mem_clo (h cx_ref) hf (q:=q)
  unfold cloL at hm
  rw [mem_norm] at hm
  rw [hm]
  constructor
  ·intro hq
   refine ⟨cxA,(cx_rea _).2 rfl,?_⟩
   have hq':q=[120,47,84,65,82,71,69,84,83]∨q=[120,47,98,46,104]:=by simpa [cxC] using hq
   rcases hq' with rfl | rfl
   ·exact .inl (by decide)
   ·exact .inr ⟨_,by rw [cx_src];exact List.mem_singleton.2 rfl,rfl⟩
  ·rintro ⟨a,ha,hq⟩
   obtain rfl:=(cx_rea a).1 ha
   rw [cx_src] at hq
   rcases hq with rfl | ⟨f,hf,rfl⟩
   ·decide
   ·rw [List.mem_singleton.1 hf];decide
theorem ss_block {w:World} {g:Nat} {l:List (List UInt8)} {arr:Array Value} {fr:Nat×Nat} (hg:w.heap[g]? = some (.cells arr 9 fr)) (ha:arr=(sc l).toArray):SS w (.slice (some ⟨g,0,none⟩) l.length l.length) l:=by
 subst ha
 refine .inr ⟨g,0,l.length,rfl,Nat.le_refl _,(Array.getElem?_eq_some_iff.1 hg).1,fun i u hu=>?_⟩
 simp only [World.cell?,hg]
 simpa using hu
set_option maxRecDepth 100000 in
theorem cx_small:OfB cxL [cxA]:=by
 have hlen:∀ f∈cxL,f.path.length≤100∧f.text.length≤100∧f.blob=0∧0≤f.size∧f.size≤100:=by decide
 have hok:∀ f∈cxL,Fok f:=fun f hf=>by
  obtain ⟨h1,h2,h3,h4,h5⟩:=hlen f hf
  exact ⟨by omega,by omega,by omega,by omega,by omega,by omega⟩
 refine ⟨⟨by decide,hok,fun f hf=>by have:=hlen f hf;omega⟩,⟨by decide,hok⟩,by decide,by decide,fun x hx=>?_,by decide⟩
 have:x=cxA:=by simpa using hx
 subst this
 exact ⟨by decide,by decide⟩
theorem cx_none:OfB cxL []:=by
 have h:=cx_small
 exact ⟨h.fq,h.fs,h.ll,by decide,(fun x hx=>by cases hx),by decide⟩
set_option maxRecDepth 100000 in
set_option maxHeartbeats 8000000 in
/-- Each is there -/
theorem each_any {w:World} {lv tv:Value} {l:List Fl} {t:List Lb} (E0:Ev w) (hf:FS w lv l) (ht:LS w tv t) (B:OfB l t) :
  Calls Tryz.prog 21 #[lv,tv] w fun e w'=>(∃ b,e=.returned (.func (.func 42) #[] #[.pointer (some ⟨b,0,none⟩)]))∧Below w.heap.size w w':=by
 have HC:=hid_of (cof_any E0 hf ht B)
 obtain ⟨fa,fcp,hfv,_⟩:=hf.form
 obtain ⟨fn,hfn⟩:∃ fn,l.length=fn:=⟨_,rfl⟩
 rw [hfn] at hfv
 subst hfv
 obtain ⟨ta,tc,htv,-⟩:=ht.form
 obtain ⟨tn,htn⟩:∃ tn,t.length=tn:=⟨_,rfl⟩
 rw [htn] at htv
 subst htv
 clear E0 hf ht B hfn htn
 go_enter Tryz.func21,Tryz.ntmps21
 go_wp2_with fail
 refine HC.out.mono ?_
 rintro e w1 h
 unfold CloP at h
 obtain ⟨pv,fv,N,E,c,rfl,_,hpo,_,hb1⟩:=h
 obtain ⟨pa,pc,hpv⟩:=hpo.slc
 subst hpv
 generalize (cloL (bldP l t N E c).1).length=pn at *
 have HB1:Hid (Below w.heap.size w w1):=hb1
 obtain ⟨fc,⟨lp,ln⟩,⟨op,on⟩,fp,fa',ca,cn,cc⟩:=fv
 have hval:Fv.val ⟨fc,⟨lp,ln⟩,⟨op,on⟩,fp,fa',ca,cn,cc⟩=.agg #[.int .i64 fc,.string (bs lp),.string (bs ln),.string (bs op),.string (bs on),.string (bs fp),.int .i64 fa',.slice ca cn cc]:=rfl
 rw [hval]
 clear hval HC hpo hb1
 go_wp2_with fail
 go_ret
 exact ⟨⟨_,rfl⟩,bstep HB1.out (bstep (balloc _ _) (balloc _ _))⟩
theorem run_neqF (w:World) (f:Fn) (a b:Array Value):(binOp .neq 50 (.func f a b) .nilFunc).run Tryz.prog w=.ok (.bool true) w:=by
 have h:∀ d:Nat,(Op.equalIn (d+1) 50 (.func f a b) .nilFunc).run Tryz.prog w=.ok false w:=fun d=>by
  simp [Op.equalIn,run_underlying Tryz.underlying50]
 have h2:(Op.equal 50 (.func f a b) .nilFunc).run Tryz.prog w=.ok false w:=h 9999
 simp [binOp,h2]
set_option maxRecDepth 100000 in
set_option maxHeartbeats 8000000 in
theorem alive_any {w:World} (E0:Ev w):Calls Tryz.prog 8 #[] w fun e w'=>e=.returned (.bool true)∧Below w.heap.size w w':=by
 have HE:=hid_of E0
 clear E0
 go_enter Tryz.func8,Tryz.ntmps8
 have hz1:(w.alloc (.cells (fc cxL).toArray 55)).heap.size=w.heap.size+1:=by simp
 have hfs:FS (w.alloc (.cells (fc cxL).toArray 55)) (.slice (some ⟨w.heap.size,0,none⟩) 3 3) cxL:=fs_block (l:=cxL) (heap_alloc_new w _) rfl
 have hol:OwnL (w.heap.size+1) ((w.alloc (.cells (fc cxL).toArray 55)).alloc (.cells #[.string (bs cxA.pkg),.string (bs cxA.name)] 27)) (.slice (some ⟨w.heap.size+1,0,none⟩) 1 1) [cxA]:=by
  have h:=own_block (w:=w.alloc (.cells (fc cxL).toArray 55)) cxA
  rw [hz1] at h
  exact h
 have HOF:=hid_of (cof_any (HE.out.later (bstep (balloc _ _) (balloc _ _))) (hfs.later (balloc _ _)) hol.rs cx_small)
 have HBW:Hid (Below w.heap.size w ((w.alloc (.cells (fc cxL).toArray 55)).alloc (.cells #[.string (bs cxA.pkg),.string (bs cxA.name)] 27))):=bstep (balloc _ _) (balloc _ _)
 have HFS:Hid (FS ((w.alloc (.cells (fc cxL).toArray 55)).alloc (.cells #[.string (bs cxA.pkg),.string (bs cxA.name)] 27)) (.slice (some ⟨w.heap.size,0,none⟩) 3 3) cxL):=hfs.later (balloc _ _)
 clear hfs hol hz1
 go_wp2_with fail
 change Calls Tryz.prog 7 #[.slice (some ⟨w.heap.size,0,none⟩) 3 3,.slice (some ⟨w.heap.size+1,0,none⟩) 1 1] ((w.alloc (.cells (fc cxL).toArray 55)).alloc (.cells #[.string (bs cxA.pkg),.string (bs cxA.name)] 27)) _
 obtain ⟨W1,hW1⟩:∃ W1,((w.alloc (.cells (fc cxL).toArray 55)).alloc (.cells #[.string (bs cxA.pkg),.string (bs cxA.name)] 27))=W1:=⟨_,rfl⟩
 rw [hW1] at HOF HBW HFS ⊢
 clear hW1
 refine HOF.out.mono ?_
 rintro e w3 h
 unfold CloP at h
 obtain ⟨pv,fv,N,E,c,rfl,hR,hno,hfi,hb3⟩:=h
 have hex:=cx_any hR
 rw [hex.2] at hno
 rw [hex.1] at hfi
 have HB3:Hid (Below w.heap.size w w3∧FS w3 (.slice (some ⟨w.heap.size,0,none⟩) 3 3) cxL):=⟨bstep HBW.out hb3,HFS.out.later hb3⟩
 clear hex hR hb3 HOF HBW HFS
 obtain ⟨fc,⟨lp,ln⟩,⟨op,on⟩,fp,fa,ca,cn,cc⟩:=fv
 have hit:=hfi.it
 simp only [Fv.pf,zPf,Pf.mk.injEq,Lb.mk.injEq,and_true] at hit
 obtain ⟨rfl,⟨rfl,rfl⟩,⟨rfl,rfl⟩,rfl,rfl⟩:=hit
 clear hfi
 obtain ⟨pa,pc,hpv⟩:=hno.slc
 rw [show cxC.length=2 from rfl] at hpv
 subst hpv
 have HNO:Hid (SS w3 (.slice pa 2 pc) cxC):=hno.bs
 clear hno
 have hval:Fv.val ⟨0,⟨[],[]⟩,⟨[],[]⟩,[],0,ca,cn,cc⟩=.agg #[.int .i64 0,.string (bs []),.string (bs []),.string (bs []),.string (bs []),.string (bs []),.int .i64 0,.slice ca cn cc]:=rfl
 rw [hval]
 clear hval
 go_wp2_with fail
 obtain ⟨w4,hw4⟩:∃ w4,w3.alloc (.cells #[.int .i64 0,.string (bs []),.string (bs []),.string (bs []),.string (bs []),.string (bs []),.int .i64 0,.slice ca cn cc] 29)=w4:=⟨_,rfl⟩
 have b4:Below w3.heap.size w3 w4:=by rw [← hw4];exact balloc _ _
 have e4:w4.heap.size=w3.heap.size+1:=by rw [← hw4];simp
 rw [hw4,← e4]
 change Calls Tryz.prog 9 #[.slice pa 2 pc,.slice (some ⟨w4.heap.size,0,none⟩) 2 2] (w4.alloc (.cells (sc cxC).toArray 9)) _
 refine (same_any (HNO.out.later (bstep b4 (balloc _ _))) (ss_block (l:=cxC) (heap_alloc_new w4 _) rfl) (by decide)).mono ?_
 rintro e w5 ⟨rfl,n5,rfl⟩
 have b5:Below w3.heap.size w3 ((w4.alloc (.cells (sc cxC).toArray 9)).drewN n5):=bstep (bstep b4 (balloc _ _)) ((Only.drew [] _ n5).below (Nat.le_refl _) (fun x hx=>by cases hx))
 rw [decide_eq_true (rfl:cxC=cxC)]
 generalize (w4.alloc (.cells (sc cxC).toArray 9)).drewN n5=w5 at b5 ⊢
 have HEA:=hid_of (each_any (HE.out.later (bstep HB3.out.1 b5)) (HB3.out.2.later b5) (OwnL.nil 0 w5).rs cx_none)
 have HB5:Hid (Below w.heap.size w w5):=bstep HB3.out.1 b5
 clear hw4 b4 e4 b5
 go_wp2_with fail
 refine HEA.out.mono ?_
 rintro e w6 ⟨⟨b,rfl⟩,hb6⟩
 have hnq:=run_neqF w6 (.func 42) #[] #[.pointer (some ⟨b,0,none⟩)]
 have HB6:Hid (Below w.heap.size w w6):=bstep HB5.out hb6
 clear HEA hb6
 go_wp2_with fail
 go_ret
 exact ⟨rfl,HB6.out⟩
end Go.Proofs.YtppnbdnpapellaaGreatDoor

namespace Go.Proofs.YtppnbdnpapellaaGreatDoor
open Go.RowKit Go.Maps
attribute [local go_sem] Oper.semAt_some
theorem clo_small {l:List Fl} {t N:List Lb} {E:List Ee} {c:List (List UInt8)} (B:OfB l t) (h:refE l t=0→RchS l t N E c):Sm (cloL (bldP l t N E c).1):=by
 rcases bld_ok (l:=l) (t:=t) (N:=N) (E:=E) (c:=c) with ⟨_,hb⟩ | ⟨_,hr0,hf0,hb⟩
 ·rw [hb];exact ⟨by decide,fun x hx=>by cases hx⟩
 ·rw [hb]
  obtain ⟨hs1,hs2⟩:=nds_small (h hr0) hf0 hr0 B.ul
  have hs3:=ask_le (ndsP l N E) (fun n hn=>(hs2 n hn).2.2.1)
  have hs4:=ask_each (fun n hn=>⟨(hs2 n hn).2.1,(hs2 n hn).2.2.2⟩)
  have:=Nat.mul_le_mul_right 513 hs1
  exact Sm.norm ⟨by show (askL (ndsP l N E)).length≤_;omega,fun q hq=>by have:=hs4 q hq;omega⟩
set_option maxRecDepth 100000 in
set_option maxHeartbeats 8000000 in
theorem joins_law {w:World} {lv tv uv:Value} {l:List Fl} {t u:List Lb} (E0:Ev w) (hf:FS w lv l) (ht:LS w tv t) (hu:LS w uv u) (B1:OfB l t) (B2:OfB l u) (B3:OfB l (t++u)) :
  Calls Tryz.prog 3 #[lv,tv,uv] w fun e w'=>e=.returned (.bool true)∧Below w.heap.size w w':=by
 have HX:Hid (Ev w∧FS w lv l∧LS w tv t∧LS w uv u∧OfB l t∧OfB l u∧OfB l (t++u)):=⟨E0,hf,ht,hu,B1,B2,B3⟩
 obtain ⟨fa,fcp,hfv,_⟩:=hf.form
 obtain ⟨fn,hfn⟩:∃ fn,l.length=fn:=⟨_,rfl⟩
 rw [hfn] at hfv
 subst hfv
 obtain ⟨ta,tc,htv,-⟩:=ht.form
 obtain ⟨tn,htn⟩:∃ tn,t.length=tn:=⟨_,rfl⟩
 rw [htn] at htv
 subst htv
 obtain ⟨ua,uc,huv,-⟩:=hu.form
 obtain ⟨un,hun⟩:∃ un,u.length=un:=⟨_,rfl⟩
 rw [hun] at huv
 subst huv
 have HTN:Hid (t.length=tn∧u.length=un):=⟨htn,hun⟩
 have HL:Hid (t.length+u.length≤1100000):=by
  have:=B3.tl
  rw [List.length_append] at this
  exact this
 clear E0 hf ht hu B1 B2 B3 hfn htn hun
 go_enter Tryz.func3,Tryz.ntmps3
 go_wp2_with fail
 refine (cof_any HX.out.1 HX.out.2.1 HX.out.2.2.1 HX.out.2.2.2.2.1).mono ?_
 rintro e w1a h
 unfold CloP at h
 obtain ⟨pv1,fv1,N1,E1,c1,rfl,hR1,hno1,hfi1,hb1⟩:=h
 obtain ⟨pa1,pc1,hpv1⟩:=hno1.slc
 obtain ⟨pn1,hpn1⟩:∃ pn,(cloL (bldP l t N1 E1 c1).1).length=pn:=⟨_,rfl⟩
 rw [hpn1] at hpv1
 subst hpv1
 obtain ⟨fc1,⟨lp1,ln1⟩,⟨op1,on1⟩,fp1,fa1,ca1,cn1,cc1⟩:=fv1
 have hc1:fc1=(bldP l t N1 E1 c1).2.code:=congrArg Pf.code hfi1.it
 obtain ⟨w1b,hw1b⟩:∃ x,w1a.alloc (.cells #[.int .i64 fc1,.string (bs lp1),.string (bs ln1),.string (bs op1),.string (bs on1),.string (bs fp1),.int .i64 fa1,.slice ca1 cn1 cc1] 29)=x:=⟨_,rfl⟩
 have b1b:Below w1a.heap.size w1a w1b:=by rw [← hw1b];exact balloc _ _
 have HQ1:Hid ((refE l t=0→RchS l t N1 E1 c1)∧SS w1b (.slice pa1 pn1 pc1) (cloL (bldP l t N1 E1 c1).1)∧fc1=(bldP l t N1 E1 c1).2.code∧Below w.heap.size w w1b∧FK w1b w1a.heap.size ⟨fc1,⟨lp1,ln1⟩,⟨op1,on1⟩,fp1,fa1,ca1,cn1,cc1⟩∧(cloL (bldP l t N1 E1 c1).1).length=pn1):=⟨hR1,hno1.bs.later b1b,hc1,bstep hb1 b1b,by rw [← hw1b];exact FK.new _ ⟨fc1,⟨lp1,ln1⟩,⟨op1,on1⟩,fp1,fa1,ca1,cn1,cc1⟩,hpn1⟩
 have hval:Fv.val ⟨fc1,⟨lp1,ln1⟩,⟨op1,on1⟩,fp1,fa1,ca1,cn1,cc1⟩=.agg #[.int .i64 fc1,.string (bs lp1),.string (bs ln1),.string (bs op1),.string (bs on1),.string (bs fp1),.int .i64 fa1,.slice ca1 cn1 cc1]:=rfl
 rw [hval]
 clear hval hR1 hno1 hfi1 hb1 hc1 hpn1 b1b
 have HC2:=hid_of (cof_any (HX.out.1.later HQ1.out.2.2.2.1) (HX.out.2.1.later HQ1.out.2.2.2.1) (HX.out.2.2.2.1.later HQ1.out.2.2.2.1) HX.out.2.2.2.2.2.1)
 go_wp2_with fail
 try rw [hw1b]
 clear hw1b
 refine HC2.out.mono ?_
 rintro e w2a h
 unfold CloP at h
 obtain ⟨pv2,fv2,N2,E2,c2,rfl,hR2,hno2,hfi2,hb2⟩:=h
 obtain ⟨pa2,pc2,hpv2⟩:=hno2.slc
 obtain ⟨pn2,hpn2⟩:∃ pn,(cloL (bldP l u N2 E2 c2).1).length=pn:=⟨_,rfl⟩
 rw [hpn2] at hpv2
 subst hpv2
 obtain ⟨fc2,⟨lp2,ln2⟩,⟨op2,on2⟩,fp2,fa2,ca2,cn2,cc2⟩:=fv2
 have hc2:fc2=(bldP l u N2 E2 c2).2.code:=congrArg Pf.code hfi2.it
 obtain ⟨w2b,hw2b⟩:∃ x,w2a.alloc (.cells #[.int .i64 fc2,.string (bs lp2),.string (bs ln2),.string (bs op2),.string (bs on2),.string (bs fp2),.int .i64 fa2,.slice ca2 cn2 cc2] 29)=x:=⟨_,rfl⟩
 have b2b:Below w2a.heap.size w2a w2b:=by rw [← hw2b];exact balloc _ _
 have HQ2:Hid ((refE l u=0→RchS l u N2 E2 c2)∧SS w2b (.slice pa2 pn2 pc2) (cloL (bldP l u N2 E2 c2).1)∧fc2=(bldP l u N2 E2 c2).2.code∧Below w1b.heap.size w1b w2b∧FK w2b w2a.heap.size ⟨fc2,⟨lp2,ln2⟩,⟨op2,on2⟩,fp2,fa2,ca2,cn2,cc2⟩∧(cloL (bldP l u N2 E2 c2).1).length=pn2):=⟨hR2,hno2.bs.later b2b,hc2,bstep hb2 b2b,by rw [← hw2b];exact FK.new _ ⟨fc2,⟨lp2,ln2⟩,⟨op2,on2⟩,fp2,fa2,ca2,cn2,cc2⟩,hpn2⟩
 have hval:Fv.val ⟨fc2,⟨lp2,ln2⟩,⟨op2,on2⟩,fp2,fa2,ca2,cn2,cc2⟩=.agg #[.int .i64 fc2,.string (bs lp2),.string (bs ln2),.string (bs op2),.string (bs on2),.string (bs fp2),.int .i64 fa2,.slice ca2 cn2 cc2]:=rfl
 rw [hval]
 clear hval hR2 hno2 hfi2 hb2 hc2 hpn2 b2b
 clear HC2
 go_upto_region 4 with fail
 try rw [hw2b]
 clear hw2b
 obtain ⟨v0,hv0⟩:∃ v0,v0=Value.slice none 0 0:=⟨_,rfl⟩
 rw [← hv0]
 have HO0:Hid (OwnL w2b.heap.size w2b v0 []):=by
  show OwnL w2b.heap.size w2b v0 []
  rw [hv0];exact OwnL.nil _ _
 have HV0:Hid (v0=Value.slice none 0 0):=hv0
 clear hv0
 have HW2:Hid (Below w.heap.size w w2b):=bstep HQ1.out.2.2.2.1 HQ2.out.2.2.2.1
 go_upto_region 5 with (at_builtin;refine app_Lt und_L (base:=w2b.heap.size) (l:=[]) (k:=t) HO0.out (by have:=(HX.out.2.2.1.later HW2.out).src;rw [HTN.out.1] at this ⊢;exact this) (by have:=HL.out;simp;omega) (Nat.le_refl _) rfl (.tmp 26) (.tmp 27) rfl rfl rfl ?_;intro v5 w5 ho5 hg5 hv5)
 rw [List.nil_append] at ho5
 have b5:Below w2b.heap.size w2b w5:=by
  rw [HV0.out] at hg5
  exact ⟨hg5.os,hg5.tape,hg5.output,hg5.size,fun k hk=>hg5.block k hk (by simp [Value.ownBlock])⟩
 have HO5:Hid (OwnL w2b.heap.size w5 v5 t∧Below w2b.heap.size w2b w5):=⟨ho5,b5⟩
 clear ho5 hg5 hv5 b5
 go_upto_region 6 with (at_builtin;refine app_Lt und_L (base:=w2b.heap.size) (l:=t) (k:=u) HO5.out.1 (by have:=(HX.out.2.2.2.1.later (bstep HW2.out HO5.out.2)).src;rw [HTN.out.2] at this ⊢;exact this) (by have:=HL.out;omega) HO5.out.2.size rfl (.tmp 29) (.tmp 30) rfl rfl rfl ?_;intro v6 w6 ho6 hg6 hv6)
 have b6:Below w2b.heap.size w2b w6:=HO5.out.2.grown hg6 HO5.out.2.size (fun j e=>(HO5.out.1.lt e).1)
 have HW6:Hid (Below w2b.heap.size w2b w6∧Below w.heap.size w w6):=⟨b6,below_trans HW2.out (below_mono b6 HW2.out.size)⟩
 obtain ⟨xa,xc,hx⟩:=ho6.form
 obtain ⟨xn,hxn⟩:∃ xn,(t++u).length=xn:=⟨_,rfl⟩
 rw [hxn] at hx
 subst hx
 have HC3:=hid_of (cof_any (HX.out.1.later HW6.out.2) (HX.out.2.1.later HW6.out.2) ho6.rs HX.out.2.2.2.2.2.2)
 clear ho6 hg6 hv6 b6 hxn HO0 HV0 HO5
 go_wp2_with fail
 refine HC3.out.mono ?_
 rintro e w3a h
 unfold CloP at h
 obtain ⟨pv3,fv3,N3,E3,c3,rfl,hR3,hno3,hfi3,hb3⟩:=h
 obtain ⟨pa3,pc3,hpv3⟩:=hno3.slc
 obtain ⟨pn3,hpn3⟩:∃ pn,(cloL (bldP l (t++u) N3 E3 c3).1).length=pn:=⟨_,rfl⟩
 rw [hpn3] at hpv3
 subst hpv3
 obtain ⟨fc3,⟨lp3,ln3⟩,⟨op3,on3⟩,fp3,fa3,ca3,cn3,cc3⟩:=fv3
 have hc3:fc3=(bldP l (t++u) N3 E3 c3).2.code:=congrArg Pf.code hfi3.it
 obtain ⟨w3b,hw3b⟩:∃ x,w3a.alloc (.cells #[.int .i64 fc3,.string (bs lp3),.string (bs ln3),.string (bs op3),.string (bs on3),.string (bs fp3),.int .i64 fa3,.slice ca3 cn3 cc3] 29)=x:=⟨_,rfl⟩
 have b3b:Below w3a.heap.size w3a w3b:=by rw [← hw3b];exact balloc _ _
 have HQ3:Hid ((refE l (t++u)=0→RchS l (t++u) N3 E3 c3)∧SS w3b (.slice pa3 pn3 pc3) (cloL (bldP l (t++u) N3 E3 c3).1)∧fc3=(bldP l (t++u) N3 E3 c3).2.code∧Below w6.heap.size w6 w3b∧FK w3b w3a.heap.size ⟨fc3,⟨lp3,ln3⟩,⟨op3,on3⟩,fp3,fa3,ca3,cn3,cc3⟩∧(cloL (bldP l (t++u) N3 E3 c3).1).length=pn3):=⟨hR3,hno3.bs.later b3b,hc3,bstep hb3 b3b,by rw [← hw3b];exact FK.new _ ⟨fc3,⟨lp3,ln3⟩,⟨op3,on3⟩,fp3,fa3,ca3,cn3,cc3⟩,hpn3⟩
 have hval:Fv.val ⟨fc3,⟨lp3,ln3⟩,⟨op3,on3⟩,fp3,fa3,ca3,cn3,cc3⟩=.agg #[.int .i64 fc3,.string (bs lp3),.string (bs ln3),.string (bs op3),.string (bs on3),.string (bs fp3),.int .i64 fa3,.slice ca3 cn3 cc3]:=rfl
 rw [hval]
 clear hval hR3 hno3 hfi3 hb3 hc3 hpn3 b3b
 clear HC3
 have HW3:Hid (Below w.heap.size w w3b):=bstep HW6.out.2 HQ3.out.2.2.2.1
 have HAL:=hid_of (alive_any (HX.out.1.later HW3.out))
 go_wp2_with fail
 try rw [hw3b]
 clear hw3b
 refine HAL.out.mono ?_
 rintro e w9 ⟨rfl,hb9⟩
 have f3:=(HQ3.out.2.2.2.2.1.later hb9).get.1
 have b39:Below w2b.heap.size w2b w9:=below_trans HW6.out.1 (below_mono (bstep HQ3.out.2.2.2.1 hb9) HW6.out.1.size)
 have f2:=(HQ2.out.2.2.2.2.1.later b39).get.1
 have f1:=(HQ1.out.2.2.2.2.1.later (bstep HQ2.out.2.2.2.1 b39)).get.1
 obtain ⟨hj1,hj2⟩:=clo_joins HQ1.out.1 HQ2.out.1 HQ3.out.1
 rw [← HQ1.out.2.2.1,← HQ2.out.2.2.1,← HQ3.out.2.2.1] at hj1
 rw [← HQ3.out.2.2.1] at hj2
 have HB9:Hid (Below w.heap.size w w9∧SS w9 (.slice pa3 pn3 pc3) (cloL (bldP l (t++u) N3 E3 c3).1)∧SS w9 (.slice pa2 pn2 pc2) (cloL (bldP l u N2 E2 c2).1)∧SS w9 (.slice pa1 pn1 pc1) (cloL (bldP l t N1 E1 c1).1)):=⟨bstep HW3.out hb9,HQ3.out.2.1.later hb9,HQ2.out.2.1.later b39,HQ1.out.2.1.later (bstep HQ2.out.2.2.2.1 b39)⟩
 clear b39 hb9 HAL
 by_cases h3:fc3=0
 ·obtain ⟨h1,h2⟩:=hj1.1 h3
  have HJ:Hid (cloL (bldP l (t++u) N3 E3 c3).1=uni (cloL (bldP l t N1 E1 c1).1) (cloL (bldP l u N2 E2 c2).1)):=hj2 h3
  subst h1 h2 h3
  clear hj1 hj2
  have HU:=hid_of (union_any HB9.out.2.2.2 HB9.out.2.2.1 (clo_small HX.out.2.2.2.2.1 HQ1.out.1) (clo_small HX.out.2.2.2.2.2.1 HQ2.out.1))
  go_wp2_with fail
  refine HU.out.mono ?_
  rintro e w10 ⟨uv,rfl,huo,hb10⟩
  obtain ⟨xa',xc',hx⟩:=huo.slc
  obtain ⟨xn',hxn⟩:∃ xn,(uni (cloL (bldP l t N1 E1 c1).1) (cloL (bldP l u N2 E2 c2).1)).length=xn:=⟨_,rfl⟩
  rw [hxn] at hx
  subst hx
  have HT:=hid_of (same_any (HB9.out.2.1.later hb10) huo.bs (by have:=(clo_small HX.out.2.2.2.2.2.2 HQ3.out.1).len;omega))
  have HB10:Hid (Below w.heap.size w w10):=bstep HB9.out.1 hb10
  clear huo hb10 hxn HU
  go_wp2_with fail
  refine HT.out.mono ?_
  rintro e w11 ⟨rfl,n,rfl⟩
  rw [decide_eq_true HJ.out]
  have HB11:Hid (Below w.heap.size w (w10.drewN n)):=bstep HB10.out ((Only.drew [] _ n).below (Nat.le_refl _) (fun x hx=>by cases hx))
  generalize w10.drewN n=w12 at HB11 ⊢
  clear HT
  go_wp2_with fail
  go_ret
  exact ⟨rfl,HB11.out⟩
 ·have hnil:cloL (bldP l (t++u) N3 E3 c3).1=[]:=by
   rcases bld_ok (l:=l) (t:=t++u) (N:=N3) (E:=E3) (c:=c3) with ⟨_,h⟩ | ⟨h,_⟩
   ·rw [h];rfl
   ·exact absurd (HQ3.out.2.2.1.trans h) h3
  have hp0:pn3=0:=by rw [← HQ3.out.2.2.2.2.2,hnil];rfl
  subst hp0
  have n1:(fc3 == 0)=false:=by simpa using h3
  have n2:decide (fc3=0)=false:=by simpa using h3
  by_cases h1:fc1=0
  ·have h2:fc2≠0:=fun h=>h3 (hj1.2 ⟨h1,h⟩)
   subst h1
   have m1:(fc2 == 0)=false:=by simpa using h2
   have m3:(fc2 != 0)=true:=by simpa using h2
   have m2:decide (fc2=0)=false:=by simpa using h2
   clear hj1 hj2 h2 h3 hnil
   go_wp2_with fail
   go_ret
   exact ⟨rfl,HB9.out.1⟩
  ·have m3:(fc1 != 0)=true:=by simpa using h1
   have m1:(fc1 == 0)=false:=by simpa using h1
   have m2:decide (fc1=0)=false:=by simpa using h1
   clear hj1 hj2 h1 h3 hnil
   go_wp2_with fail
   go_ret
   exact ⟨rfl,HB9.out.1⟩
theorem totl_app:∀ t u:List Lb,totl (t++u)=totl t+totl u
 | [],u=>by simp [totl]
 | a::r,u=>by
  have:=totl_app r u
  simp only [List.cons_append,totl] at this ⊢
  omega
end Go.Proofs.YtppnbdnpapellaaGreatDoor
