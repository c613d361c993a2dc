import Derived.Test.YtppnbdnpapellaaGreatDoorJMerge
import Derived.Test.YtppnbdnpapellaaGreatDoorJBase
import Derived.Test.YtppnbdnpapellaaGreatDoorJOrd
import Derived.Test.YtppnbdnpapellaaGreatDoorJGy
import Derived.Test.YtppnbdnpapellaaGreatDoorJYf
set_option maxRecDepth 100000
set_option maxHeartbeats 16000000
namespace Go.Proofs.YtppnbdnpapellaaGreatDoor
section
open Go.RowKit
theorem Sm.som {a b:List (List UInt8)} (i:Bool) (h:Sm a):Sm (som a b i):=
 ⟨Nat.le_trans (norm_len _) (Nat.le_trans (List.length_filter_le _ _) h.len),fun x hx=>h.each x (by
  cases i
  ·exact (mem_mns.1 hx).1
  ·exact (mem_met.1 hx).1)⟩
theorem Own.ss {base:Nat} {w:World} {v:Value} {l:List (List UInt8)} (h:Own base w v l):SS w v l:=h.bs
theorem sets_any {w:World} {va vb:Value} {A B:List (List UInt8)} (f m s:Bool) (h1:SS w va A) (h2:SS w vb B) (sa:Sm A) (sb:Sm B) :
  Calls Tryz.prog 26 #[va,vb,.agg #[.bool f,.bool m,.bool s]] w fun e w'=>∃ v',e=.returned v'∧Own w.heap.size w' v' (pick f m s (norm A) (norm B))∧Below w.heap.size w w':=by
 have HA:Hid (SS w va A∧Sm A):=⟨h1,sa⟩
 have HB:Hid (SS w vb B∧Sm B):=⟨h2,sb⟩
 clear h1 h2 sa sb
 obtain ⟨R,hR⟩:∃ R,pick f m s (norm A) (norm B)=R:=⟨_,rfl⟩
 rw [hR]
 have HR:Hid (pick f m s (norm A) (norm B)=R):=hR
 clear hR
 obtain ⟨G,hG⟩:∃ G,w.heap.size=G:=⟨_,rfl⟩
 obtain ⟨wb,hwb⟩:∃ wb,w.alloc (.cells #[.bool f,.bool m,.bool s] 61)=wb:=⟨_,rfl⟩
 have HB0:Hid (wb.heap.size=G+1∧Below G w wb):=by rw [← hwb,← hG];exact ⟨by simp,balloc _ _⟩
 have c0:wb.cell? ⟨G,0,none⟩=some (.bool f):=by rw [← hwb,← hG];simp
 have c1:wb.cell? ⟨G,1,none⟩=some (.bool m):=by rw [← hwb,← hG];simp
 have c2:wb.cell? ⟨G,2,none⟩=some (.bool s):=by rw [← hwb,← hG];simp
 have SA:Hid (SS wb va A):=by rw [← hwb];exact HA.out.1.later (balloc _ _)
 have SB:Hid (SS wb vb B):=by rw [← hwb];exact HB.out.1.later (balloc _ _)
 have hwz:G < wb.heap.size:=by have:=HB0.out.1;omega
 go_enter Tryz.func26,Tryz.ntmps26
 go_wp2_with fail
 clear hwb
 go_region_held3 (fun w'=>w'.cell? ⟨G,0,none⟩=some (.bool f)∧w'.cell? ⟨G,1,none⟩=some (.bool m)∧w'.cell? ⟨G,2,none⟩=some (.bool s)) (first | go_keep | (exact ⟨(by rw [hb8.cell (p:=⟨G,0,none⟩) hwz];exact c0),(by rw [hb8.cell (p:=⟨G,1,none⟩) hwz];exact c1),(by rw [hb8.cell (p:=⟨G,2,none⟩) hwz];exact c2)⟩)) (first | (go_at_call 47;refine (merge_any f m s (ho8.ss.later hb6) ho9.ss (up_norm _) (up_norm _) HA.out.2.norm HB.out.2.norm).mono ?_;rintro e w' ⟨v6,rfl,ho6,hb5⟩;have ho5:=ho6.mono hb8.size;have hb8:Below wb.heap.size wb w':=bstep hb8 hb5) | (go_at_call 25;refine (norm_any (SA.out.later (Below.refl _ _).drew) HA.out.2).mono ?_;rintro e w' ⟨v8,rfl,ho8,hb7⟩;have hb8:Below wb.heap.size wb w':=bstep (Below.refl _ _).drew hb7) | (go_at_call 25;refine (norm_any (SB.out.later hb8) HB.out.2).mono ?_;rintro e w' ⟨v9,rfl,ho9,hb6⟩;have hb8:Below wb.heap.size wb w':=bstep hb8 hb6))
 have HO:Hid (Own G w' v6 R):=by rw [← HR.out];exact ho5.mono (by omega)
 have HBB:Hid (Below G w w'):=below_trans HB0.out.2 (below_mono hb8 (by omega))
 clear ho5 hb8 ho6 hb5 ho9 hb6 ho8 hb7
 go_wp2_with fail
 go_ret
 exact ⟨v6,rfl,by rw [hG];exact HO.out,by rw [hG];exact HBB.out⟩
theorem union_any {w:World} {va vb:Value} {A B:List (List UInt8)} (h1:SS w va A) (h2:SS w vb B) (sa:Sm A) (sb:Sm B) :
  Calls Tryz.prog 10 #[va,vb] w fun e w'=>∃ v',e=.returned v'∧Own w.heap.size w' v' (uni A B)∧Below w.heap.size w w':=by
 have HA:Hid (SS w va A∧Sm A):=⟨h1,sa⟩
 have HB:Hid (SS w vb B∧Sm B):=⟨h2,sb⟩
 clear h1 h2 sa sb
 obtain ⟨R,hR⟩:∃ R,uni A B=R:=⟨_,rfl⟩
 rw [hR]
 have HR:Hid (uni A B=R):=hR
 clear hR
 go_enter Tryz.func10,Tryz.ntmps10
 go_wp2_with fail
 refine (sets_any true true true HA.out.1 HB.out.1 HA.out.2 HB.out.2).mono ?_
 rintro e w1 ⟨v1,rfl,ho,hb⟩
 have HO:Hid (Own w.heap.size w1 v1 R):=by rw [← HR.out,← pick_uni];exact ho
 have HW:Hid (Below w.heap.size w w1):=hb
 clear ho hb
 go_wp2_with fail
 go_ret
 exact ⟨v1,rfl,HO.out,HW.out⟩
theorem minus_any {w:World} {va vb:Value} {A B:List (List UInt8)} (h1:SS w va A) (h2:SS w vb B) (sa:Sm A) (sb:Sm B) :
  Calls Tryz.prog 15 #[va,vb] w fun e w'=>∃ v',e=.returned v'∧Own w.heap.size w' v' (som A B false)∧Below w.heap.size w w':=by
 have HA:Hid (SS w va A∧Sm A):=⟨h1,sa⟩
 have HB:Hid (SS w vb B∧Sm B):=⟨h2,sb⟩
 clear h1 h2 sa sb
 obtain ⟨R,hR⟩:∃ R,som A B false=R:=⟨_,rfl⟩
 rw [hR]
 have HR:Hid (som A B false=R):=hR
 clear hR
 go_enter Tryz.func15,Tryz.ntmps15
 go_wp2_with fail
 refine (sets_any true false false HA.out.1 HB.out.1 HA.out.2 HB.out.2).mono ?_
 rintro e w1 ⟨v1,rfl,ho,hb⟩
 have HO:Hid (Own w.heap.size w1 v1 R):=by rw [← HR.out,← pick_mns];exact ho
 have HW:Hid (Below w.heap.size w w1):=hb
 clear ho hb
 go_wp2_with fail
 go_ret
 exact ⟨v1,rfl,HO.out,HW.out⟩
end
section
open Go.RowKit Go.Maps
attribute [local go_sem] Oper.semAt_some
def cxX:List UInt8:=[116,97,114,103,101,116,32,98,123,115,114,99,115,61,91,42,46,104,93,125]
def cxL:List Fl:=[⟨[120,47,84,65,82,71,69,84,83],cxX,0,20⟩,⟨[120,47,98,46,104],[],0,0⟩,⟨[121],[],0,0⟩]
def cxA:Lb:=⟨[120],[98]⟩
def cxT:Tg:=⟨[98],[[42,46,104]],[],[]⟩
def cxC:List (List UInt8):=[[120,47,84,65,82,71,69,84,83],[120,47,98,46,104]]
theorem cx_p:prsF [120] cxX=([cxT],-1):=by kernel_rfl
theorem cx_s:says cxL [120]=([cxT],-1):=by
 have e:says cxL [120]=prsM [120] cxX:=rfl
 exact e.trans ((prsM_fuel _ _).trans cx_p)
theorem cx_t:tgtL cxL cxA=some cxT:=by
 unfold tgtL
 rw [show cxA.pkg=[120] from rfl,cx_s]
 kernel_rfl
theorem cx_d:dpsL cxL cxA=[]:=by unfold dpsL;rw [cx_t];rfl
theorem cx_rea (x:Lb):Rea cxL [cxA] x↔x=cxA:=by
 constructor
 ·intro h
  induction h with
  | base hm=>exact List.mem_singleton.1 hm
  | step _ hd ih=>
   subst ih
   rw [cx_d] at hd;cases hd
 ·rintro rfl
  exact .base (by simp)
theorem cx_noF:NoF cxL [cxA]:=by
 refine ⟨fun a ha f _ _=>?_,fun a ha=>?_,fun a ha b hb=>?_,fun a ha=>?_⟩<;>obtain rfl:=(cx_rea a).1 ha
 ·rw [show cxA.pkg=[120] from rfl,cx_s]
 ·unfold misB;rw [cx_t];kernel_rfl
 ·rw [cx_d] at hb;cases hb
 ·unfold unsB hdnL;rw [cx_d];rfl
theorem cx_src:srcL cxL cxA=[⟨[120,47,98,46,104],[],0,0⟩]:=by
 unfold srcL srcP
 rw [cx_t]
 kernel_rfl
theorem cx_ref:refE cxL [cxA]=0:=by kernel_rfl
theorem cx_up:Up cxC:=by
 have h:cf [120,47,84,65,82,71,69,84,83] [120,47,98,46,104] = -1:=by kernel_rfl
 refine List.pairwise_cons.2 ⟨fun x hx=>?_,List.pairwise_singleton _ _⟩
 rw [List.mem_singleton.1 hx,h]
 decide
theorem cx_any {N:List Lb} {E:List Ee} {c:List (List UInt8)} (h:refE cxL [cxA]=0→RchS cxL [cxA] N E c):(bldP cxL [cxA] N E c).2=zPf∧cloL (bldP cxL [cxA] N E c).1=cxC:=by
 have hc:=(bld_zero h).2 ⟨cx_ref,cx_noF⟩
 rcases bld_ok (l:=cxL) (t:=[cxA]) (N:=N) (E:=E) (c:=c) with ⟨h1,_⟩ | ⟨_,_,hf,hb⟩
 ·exact absurd hc h1
 ·rw [hb]
  refine ⟨rfl,norm_of cx_up fun q=>?_⟩
  have hm:=mem_clo (h cx_ref) hf (q:=q)
  unfold cloL at hm
  rw [mem_norm] at hm
  rw [hm]
  constructor
  ·intro hq
   refine ⟨cxA,(cx_rea _).2 rfl,?_⟩
   have hq':q=[120,47,84,65,82,71,69,84,83]∨q=[120,47,98,46,104]:=by simpa [cxC] using hq
   rcases hq' with rfl | rfl
   ·exact .inl (by decide)
   ·exact .inr ⟨_,by rw [cx_src];exact List.mem_singleton.2 rfl,rfl⟩
  ·rintro ⟨a,ha,hq⟩
   obtain rfl:=(cx_rea a).1 ha
   rw [cx_src] at hq
   rcases hq with rfl | ⟨f,hf,rfl⟩
   ·decide
   ·rw [List.mem_singleton.1 hf];decide
theorem ss_block {w:World} {g:Nat} {l:List (List UInt8)} {arr:Array Value} {fr:Nat×Nat} (hg:w.heap[g]? = some (.cells arr 9 fr)) (ha:arr=(sc l).toArray):SS w (.slice (some ⟨g,0,none⟩) l.length l.length) l:=by
 subst ha
 refine .inr ⟨g,0,l.length,rfl,Nat.le_refl _,(Array.getElem?_eq_some_iff.1 hg).1,fun i u hu=>?_⟩
 simp only [World.cell?,hg]
 simpa using hu
theorem cx_small:OfB cxL [cxA]:=by
 have hlen:∀ f∈cxL,f.path.length≤100∧f.text.length≤100∧f.blob=0∧0≤f.size∧f.size≤100:=by decide
 have hok:∀ f∈cxL,Fok f:=fun f hf=>by
  obtain ⟨h1,h2,h3,h4,h5⟩:=hlen f hf
  exact ⟨by omega,by omega,by omega,by omega,by omega,by omega⟩
 refine ⟨⟨by decide,hok,fun f hf=>by have:=hlen f hf;omega⟩,⟨by decide,hok⟩,by decide,by decide,fun x hx=>?_,by decide⟩
 have:x=cxA:=by simpa using hx
 subst this
 exact ⟨by decide,by decide⟩
theorem cx_none:OfB cxL []:=by
 have h:=cx_small
 exact ⟨h.fq,h.fs,h.ll,by decide,(fun x hx=>by cases hx),by decide⟩
theorem each_any {w:World} {lv tv:Value} {l:List Fl} {t:List Lb} (E0:Ev w) (hf:FS w lv l) (ht:LS w tv t) (B:OfB l t) :
  Calls Tryz.prog 21 #[lv,tv] w fun e w'=>(∃ b,e=.returned (.func (.func 42) #[] #[.pointer (some ⟨b,0,none⟩)]))∧Below w.heap.size w w':=by
 have HC:=hid_of (cof_any E0 hf ht B)
 obtain ⟨fa,fcp,hfv,_⟩:=hf.form
 obtain ⟨fn,hfn⟩:∃ fn,l.length=fn:=⟨_,rfl⟩
 rw [hfn] at hfv
 subst hfv
 obtain ⟨ta,tc,htv,-⟩:=ht.form
 obtain ⟨tn,htn⟩:∃ tn,t.length=tn:=⟨_,rfl⟩
 rw [htn] at htv
 subst htv
 clear E0 hf ht B hfn htn
 go_enter Tryz.func21,Tryz.ntmps21
 go_wp2_with fail
 refine HC.out.mono ?_
 rintro e w1 h
 unfold CloP at h
 obtain ⟨pv,fv,N,E,c,rfl,_,hpo,_,hb1⟩:=h
 obtain ⟨pa,pc,hpv⟩:=hpo.slc
 subst hpv
 generalize (cloL (bldP l t N E c).1).length=pn at *
 have HB1:Hid (Below w.heap.size w w1):=hb1
 obtain ⟨fc,⟨lp,ln⟩,⟨op,on⟩,fp,fa',ca,cn,cc⟩:=fv
 have hval:Fv.val ⟨fc,⟨lp,ln⟩,⟨op,on⟩,fp,fa',ca,cn,cc⟩=.agg #[.int .i64 fc,.string (bs lp),.string (bs ln),.string (bs op),.string (bs on),.string (bs fp),.int .i64 fa',.slice ca cn cc]:=rfl
 rw [hval]
 clear hval HC hpo hb1
 go_wp2_with fail
 go_ret
 exact ⟨⟨_,rfl⟩,bstep HB1.out (bstep (balloc _ _) (balloc _ _))⟩
theorem run_neqF (w:World) (f:Fn) (a b:Array Value):(binOp .neq 50 (.func f a b) .nilFunc).run Tryz.prog w=.ok (.bool true) w:=by
 have h:∀ d:Nat,(Op.equalIn (d+1) 50 (.func f a b) .nilFunc).run Tryz.prog w=.ok false w:=fun d=>by
  simp [Op.equalIn,run_underlying Tryz.underlying50]
 have h2:(Op.equal 50 (.func f a b) .nilFunc).run Tryz.prog w=.ok false w:=h 9999
 simp [binOp,h2]
theorem alive_any {w:World} (E0:Ev w):Calls Tryz.prog 8 #[] w fun e w'=>e=.returned (.bool true)∧Below w.heap.size w w':=by
 have HE:=hid_of E0
 clear E0
 go_enter Tryz.func8,Tryz.ntmps8
 have hz1:(w.alloc (.cells (fc cxL).toArray 55)).heap.size=w.heap.size+1:=by simp
 have hfs:FS (w.alloc (.cells (fc cxL).toArray 55)) (.slice (some ⟨w.heap.size,0,none⟩) 3 3) cxL:=fs_block (l:=cxL) (heap_alloc_new w _) rfl
 have hol:OwnL (w.heap.size+1) ((w.alloc (.cells (fc cxL).toArray 55)).alloc (.cells #[.string (bs cxA.pkg),.string (bs cxA.name)] 27)) (.slice (some ⟨w.heap.size+1,0,none⟩) 1 1) [cxA]:=by
  have h:=own_block (w:=w.alloc (.cells (fc cxL).toArray 55)) cxA
  rw [hz1] at h
  exact h
 have HOF:=hid_of (cof_any (HE.out.later (bstep (balloc _ _) (balloc _ _))) (hfs.later (balloc _ _)) hol.rs cx_small)
 have HBW:Hid (Below w.heap.size w ((w.alloc (.cells (fc cxL).toArray 55)).alloc (.cells #[.string (bs cxA.pkg),.string (bs cxA.name)] 27))):=bstep (balloc _ _) (balloc _ _)
 have HFS:Hid (FS ((w.alloc (.cells (fc cxL).toArray 55)).alloc (.cells #[.string (bs cxA.pkg),.string (bs cxA.name)] 27)) (.slice (some ⟨w.heap.size,0,none⟩) 3 3) cxL):=hfs.later (balloc _ _)
 clear hfs hol hz1
 go_wp2_with fail
 change Calls Tryz.prog 7 #[.slice (some ⟨w.heap.size,0,none⟩) 3 3,.slice (some ⟨w.heap.size+1,0,none⟩) 1 1] ((w.alloc (.cells (fc cxL).toArray 55)).alloc (.cells #[.string (bs cxA.pkg),.string (bs cxA.name)] 27)) _
 obtain ⟨W1,hW1⟩:∃ W1,((w.alloc (.cells (fc cxL).toArray 55)).alloc (.cells #[.string (bs cxA.pkg),.string (bs cxA.name)] 27))=W1:=⟨_,rfl⟩
 rw [hW1] at HOF HBW HFS ⊢
 clear hW1
 refine HOF.out.mono ?_
 rintro e w3 h
 unfold CloP at h
 obtain ⟨pv,fv,N,E,c,rfl,hR,hno,hfi,hb3⟩:=h
 have hex:=cx_any hR
 rw [hex.2] at hno
 rw [hex.1] at hfi
 have HB3:Hid (Below w.heap.size w w3∧FS w3 (.slice (some ⟨w.heap.size,0,none⟩) 3 3) cxL):=⟨bstep HBW.out hb3,HFS.out.later hb3⟩
 clear hex hR hb3 HOF HBW HFS
 obtain ⟨fc,⟨lp,ln⟩,⟨op,on⟩,fp,fa,ca,cn,cc⟩:=fv
 have hit:=hfi.it
 simp only [Fv.pf,zPf,Pf.mk.injEq,Lb.mk.injEq,and_true] at hit
 obtain ⟨rfl,⟨rfl,rfl⟩,⟨rfl,rfl⟩,rfl,rfl⟩:=hit
 clear hfi
 obtain ⟨pa,pc,hpv⟩:=hno.slc
 rw [show cxC.length=2 from rfl] at hpv
 subst hpv
 have HNO:Hid (SS w3 (.slice pa 2 pc) cxC):=hno.bs
 clear hno
 have hval:Fv.val ⟨0,⟨[],[]⟩,⟨[],[]⟩,[],0,ca,cn,cc⟩=.agg #[.int .i64 0,.string (bs []),.string (bs []),.string (bs []),.string (bs []),.string (bs []),.int .i64 0,.slice ca cn cc]:=rfl
 rw [hval]
 clear hval
 go_wp2_with fail
 obtain ⟨w4,hw4⟩:∃ w4,w3.alloc (.cells #[.int .i64 0,.string (bs []),.string (bs []),.string (bs []),.string (bs []),.string (bs []),.int .i64 0,.slice ca cn cc] 29)=w4:=⟨_,rfl⟩
 have b4:Below w3.heap.size w3 w4:=by rw [← hw4];exact balloc _ _
 have e4:w4.heap.size=w3.heap.size+1:=by rw [← hw4];simp
 rw [hw4,← e4]
 change Calls Tryz.prog 9 #[.slice pa 2 pc,.slice (some ⟨w4.heap.size,0,none⟩) 2 2] (w4.alloc (.cells (sc cxC).toArray 9)) _
 refine (same_any (HNO.out.later (bstep b4 (balloc _ _))) (ss_block (l:=cxC) (heap_alloc_new w4 _) rfl) (by decide)).mono ?_
 rintro e w5 ⟨rfl,n5,rfl⟩
 have b5:Below w3.heap.size w3 ((w4.alloc (.cells (sc cxC).toArray 9)).drewN n5):=bstep (bstep b4 (balloc _ _)) ((Only.drew [] _ n5).below (Nat.le_refl _) (fun x hx=>by cases hx))
 rw [decide_eq_true (rfl:cxC=cxC)]
 generalize (w4.alloc (.cells (sc cxC).toArray 9)).drewN n5=w5 at b5 ⊢
 have HEA:=hid_of (each_any (HE.out.later (bstep HB3.out.1 b5)) (HB3.out.2.later b5) (OwnL.nil 0 w5).rs cx_none)
 have HB5:Hid (Below w.heap.size w w5):=bstep HB3.out.1 b5
 clear hw4 b4 e4 b5
 go_wp2_with fail
 refine HEA.out.mono ?_
 rintro e w6 ⟨⟨b,rfl⟩,hb6⟩
 have hnq:=run_neqF w6 (.func 42) #[] #[.pointer (some ⟨b,0,none⟩)]
 have HB6:Hid (Below w.heap.size w w6):=bstep HB5.out hb6
 clear HEA hb6
 go_wp2_with fail
 go_ret
 exact ⟨rfl,HB6.out⟩
end
section
open Go.RowKit Go.Maps
attribute [local go_sem] Oper.semAt_some
theorem clo_small {l:List Fl} {t N:List Lb} {E:List Ee} {c:List (List UInt8)} (B:OfB l t) (h:refE l t=0→RchS l t N E c):Sm (cloL (bldP l t N E c).1):=by
 rcases bld_ok (l:=l) (t:=t) (N:=N) (E:=E) (c:=c) with ⟨_,hb⟩ | ⟨_,hr0,hf0,hb⟩
 ·rw [hb];exact ⟨by decide,fun x hx=>by cases hx⟩
 ·rw [hb]
  obtain ⟨hs1,hs2⟩:=nds_small (h hr0) hf0 hr0 B.ul
  have hs3:=ask_le (ndsP l N E) (fun n hn=>(hs2 n hn).2.2.1)
  have hs4:=ask_each (fun n hn=>⟨(hs2 n hn).2.1,(hs2 n hn).2.2.2⟩)
  have:=Nat.mul_le_mul_right 513 hs1
  exact Sm.norm ⟨by show (askL (ndsP l N E)).length≤_;omega,fun q hq=>by have:=hs4 q hq;omega⟩
end
end Go.Proofs.YtppnbdnpapellaaGreatDoor
