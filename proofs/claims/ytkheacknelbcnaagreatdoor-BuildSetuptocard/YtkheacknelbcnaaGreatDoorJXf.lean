/-
  Faults that are alike, nodes that are alike.
  The law of BuildSet.
  What came in is small enough.
-/
import Derived.Test.YtkheacknelbcnaaGreatDoorJXc
import Derived.Test.YtkheacknelbcnaaGreatDoorCp
import Derived.Test.YtkheacknelbcnaaGreatDoorJCd
namespace Go.Proofs.YtkheacknelbcnaaGreatDoor
open Go.RowKit Go.Maps
set_option maxRecDepth 100000 in
set_option maxHeartbeats 4000000 in
theorem sameFault_any {w:World} {v v2:Fv} {f:Pf} {b b2:Nat} (h:FvIs b w v f) (h2:FvIs b2 w v2 f) (hl:f.circ.length≤100000000) :
  Calls Tryz.prog 11 #[v.val,v2.val] w fun e w'=>e=.returned (.bool true)∧Below w.heap.size w w':=by
 obtain ⟨fc,⟨lp,ln⟩,⟨op,on⟩,fp,fa,ca,cn,cc⟩:=v
 obtain ⟨fc2,⟨lp2,ln2⟩,⟨op2,on2⟩,fp2,fa2,ca2,cn2,cc2⟩:=v2
 have e:=h.it.trans h2.it.symm
 simp only [Fv.pf,Pf.mk.injEq,Lb.mk.injEq,and_true] at e
 obtain ⟨rfl,⟨rfl,rfl⟩,⟨rfl,rfl⟩,rfl,rfl⟩:=e
 have HL:Hid (LS w (.slice ca cn cc) f.circ∧LS w (.slice ca2 cn2 cc2) f.circ∧f.circ.length≤100000000):=⟨h.ci.rs,h2.ci.rs,hl⟩
 have HSL:=hid_of (fun W (hW:Below w.heap.size w W)=>sameL_any (HL.out.1.later hW) (HL.out.2.1.later hW) HL.out.2.2)
 clear h h2 hl
 have hq:=leql_run'
 have hg:=guard_run
 have q1:lleq ⟨lp,ln⟩ ⟨lp,ln⟩=true:=by unfold lleq;simp
 have q2:lleq ⟨op,on⟩ ⟨op,on⟩=true:=by unfold lleq;simp
 simp only [Fv.val]
 go_enter Tryz.func11,Tryz.ntmps11
 go_wp2_with fail
 refine (HSL.out _ (bstep (balloc _ _) (balloc _ _))).mono ?_
 rintro e w3 ⟨rfl,hb⟩
 have HB:Hid (Below w.heap.size w w3):=bstep (bstep (balloc _ _) (balloc _ _)) hb
 clear hb
 go_wp2_with fail
 go_ret
 exact ⟨rfl,HB.out⟩
set_option maxRecDepth 100000 in
set_option maxHeartbeats 8000000 in
theorem sameNodes_any {w:World} {u v:Value} {l:List Nd} {b0 b1:Nat} (h:NOwn b0 w u l) (h2:NOwn b1 w v l) (hl:l.length≤100000000) (hd:∀ n∈l,n.srcs.length≤100000000∧n.deps.length≤100000000) :
  Calls Tryz.prog 12 #[u,v] w fun e w'=>e=.returned (.bool true)∧Below w.heap.size w w':=by
 obtain ⟨xs,x1,x2,x3,_,_⟩:=h.it
 obtain ⟨ys,y1,y2,y3,_,_⟩:=h2.it
 obtain ⟨au,cu,hu⟩:=h.form
 obtain ⟨av,cv,hv⟩:=h2.form
 have H:=hid_of (And.intro x1.rs (And.intro x2 (And.intro x3 (And.intro y1.rs (And.intro y2 (And.intro y3 hd))))))
 obtain ⟨n,hn⟩:∃ n,l.length=n:=⟨_,rfl⟩
 rw [hn] at hu hv hl
 subst hu
 subst hv
 have HN:Hid (l.length=n):=hn
 clear h h2 x1 x2 x3 y1 y2 y3 hn hd
 go_enter Tryz.func12,Tryz.ntmps12
 go_wp2_with fail
 go_loopw [5] (fun s5 wr=>∃ i:Nat,s5=.int .i64 i∧i≤n∧Below w.heap.size w wr) (fun s5 _=>n - (intOf s5).toNat)
 case atStart=>exact ⟨0,rfl,by omega,Below.refl _ _⟩
 case round=>
  obtain ⟨i,rfl,hi,hb⟩:=hrel
  have HX:Hid (Below w.heap.size w wr):=hb
  clear hb
  by_cases hlt:i < n
  ·have i1:(i:Int) < (n:Int):=by omega
   have i2:(0:Int)≤(i:Int):=by omega
   have hil:i < l.length:=by rw [HN.out];exact hlt
   have hix:i < xs.length:=by rw [H.out.2.1];exact hil
   have hiy:i < ys.length:=by rw [H.out.2.2.2.2.1];exact hil
   have hnx:=H.out.2.2.1 i hix hil
   have hny:=H.out.2.2.2.2.2.1 i hiy hil
   have HDL:=hid_of (H.out.2.2.2.2.2.2 l[i] (List.getElem_mem hil))
   have HSF:=hid_of (fun W (hW:Below w.heap.size w W)=>sameF_any ((hnx.s.later hW).fs) ((hny.s.later hW).fs) HDL.out.1)
   have HSL:=hid_of (fun W (hW:Below w.heap.size w W)=>sameL_any ((hnx.d.later hW).rs) ((hny.d.later hW).rs) HDL.out.2)
   have hlab:(⟨xs[i].pkg,xs[i].name⟩:Lb)=⟨ys[i].pkg,ys[i].name⟩:=hnx.lab.trans hny.lab.symm
   have HAT:=hid_of (fun W (hW:Below w.heap.size w W)=>And.intro (NS.at H.out.1 hW hix) (NS.at H.out.2.2.2.1 hW hiy))
   clear hnx hny
   obtain ⟨x,hx⟩:∃ x,xs[i]=x:=⟨_,rfl⟩
   obtain ⟨y,hy⟩:∃ y,ys[i]=y:=⟨_,rfl⟩
   rw [hx] at HSF HSL HAT hlab
   rw [hy] at HSF HSL HAT hlab
   clear hx hy
   obtain ⟨p,m,xsa,xsn,xsc,xda,xdn,xdc⟩:=x
   obtain ⟨p2,m2,ysa,ysn,ysc,yda,ydn,ydc⟩:=y
   simp only [Lb.mk.injEq] at hlab
   obtain ⟨rfl,rfl⟩:=hlab
   simp only [Nv.s,Nv.d] at HSF HSL HAT
   obtain ⟨⟨b,off,eb,hbl,_⟩,b2,off2,eb2,hbl2,_⟩:=HAT.out wr HX.out
   subst eb
   subst eb2
   have HS:Hid (∀ W,Below wr.heap.size wr W→W.cell? ⟨b,off+i * 4,none⟩=some (.string (bs p))∧W.cell? ⟨b,off+i * 4+1,none⟩=some (.string (bs m))∧W.cell? ⟨b,off+i * 4+2,none⟩=some (.slice xsa xsn xsc)∧W.cell? ⟨b,off+i * 4+3,none⟩=some (.slice xda xdn xdc)∧W.cell? ⟨b2,off2+i * 4,none⟩=some (.string (bs p))∧W.cell? ⟨b2,off2+i * 4+1,none⟩=some (.string (bs m))∧W.cell? ⟨b2,off2+i * 4+2,none⟩=some (.slice ysa ysn ysc)∧W.cell? ⟨b2,off2+i * 4+3,none⟩=some (.slice yda ydn ydc)):=fun W hW=>by
    obtain ⟨⟨b9,o9,e9,_,c0,c1,c2,c3⟩,b8,o8,e8,_,d0,d1,d2,d3⟩:=HAT.out W (bstep HX.out hW)
    cases e9
    cases e8
    exact ⟨c0,c1,c2,c3,d0,d1,d2,d3⟩
   have hq:=lneq_run'
   have hg:=guard_run
   have q1:lleq ⟨p,m⟩ ⟨p,m⟩=true:=by unfold lleq;simp
   clear HAT
   go_upto_region 6 with fail
   obtain ⟨g0,g1,g2,g3,g4,g5,g6,g7⟩:=HS.out _ (bd wr 1)
   refine wp_region_noPanic ?_
   refine wp_region_held_drew (S:=fun W'=>W'.cell? ⟨b,off+i * 4,none⟩=some (.string (bs p))∧W'.cell? ⟨b,off+i * 4+1,none⟩=some (.string (bs m))∧W'.cell? ⟨b,off+i * 4+2,none⟩=some (.slice xsa xsn xsc)∧W'.cell? ⟨b,off+i * 4+3,none⟩=some (.slice xda xdn xdc)∧W'.cell? ⟨b2,off2+i * 4,none⟩=some (.string (bs p))∧W'.cell? ⟨b2,off2+i * 4+1,none⟩=some (.string (bs m))∧W'.cell? ⟨b2,off2+i * 4+2,none⟩=some (.slice ysa ysn ysc)∧W'.cell? ⟨b2,off2+i * 4+3,none⟩=some (.slice yda ydn ydc)) (by kernel_rfl) (by exact HS.out _ (bd wr 1)) (fun hHeld=>?_)
   refine wpAnyH_take (i:=0) (oi:=⟨some 17,_,_,_,_,_⟩) (v:=?vx1) rfl (by kernel_rfl) (by kernel_rfl) (by kernel_rfl) (fun _ _ _ h=>h) (Or.inl ⟨by rfl,?hyx1⟩) (by assumption) ?restx1
   case hyx1=>(intro w hSw;(try dsimp only at hSw);go_simp;try with_reducible rfl)
   try simp only [Act.put,List.setIfInBounds_toArray,List.set_cons_zero,List.set_cons_succ]
   refine wpAnyH_take (i:=1) (oi:=⟨some 18,_,_,_,_,_⟩) (v:=?vx2) rfl (by kernel_rfl) (by kernel_rfl) (by kernel_rfl) (fun _ _ _ h=>h) (Or.inl ⟨by rfl,?hyx2⟩) (by assumption) ?restx2
   case hyx2=>(intro w hSw;(try dsimp only at hSw);go_simp;try with_reducible rfl)
   try simp only [Act.put,List.setIfInBounds_toArray,List.set_cons_zero,List.set_cons_succ]
   refine wpAnyH_take (i:=2) (oi:=⟨some 19,_,_,_,_,_⟩) (v:=?vx3) rfl (by kernel_rfl) (by kernel_rfl) (by kernel_rfl) (fun _ _ _ h=>h) (Or.inl ⟨by rfl,?hyx3⟩) (by assumption) ?restx3
   case hyx3=>(intro w hSw;(try dsimp only at hSw);go_simp;try with_reducible rfl)
   try simp only [Act.put,List.setIfInBounds_toArray,List.set_cons_zero,List.set_cons_succ]
   refine wpAnyH_take (i:=3) (oi:=⟨some 20,_,_,_,_,_⟩) (v:=?vx4) rfl (by kernel_rfl) (by kernel_rfl) (by kernel_rfl) (fun _ _ _ h=>h) (Or.inl ⟨by rfl,?hyx4⟩) (by assumption) ?restx4
   case hyx4=>(intro w hSw;(try dsimp only at hSw);go_simp;try with_reducible rfl)
   try simp only [Act.put,List.setIfInBounds_toArray,List.set_cons_zero,List.set_cons_succ]
   refine wpAnyH_take (i:=4) (oi:=⟨some 21,_,_,_,_,_⟩) (v:=?vx5) rfl (by kernel_rfl) (by kernel_rfl) (by kernel_rfl) (fun _ _ _ h=>h) (Or.inl ⟨by rfl,?hyx5⟩) (by assumption) ?restx5
   case hyx5=>(intro w hSw;(try dsimp only at hSw);go_simp;try with_reducible rfl)
   try simp only [Act.put,List.setIfInBounds_toArray,List.set_cons_zero,List.set_cons_succ]
   refine wpAnyH_take (i:=5) (oi:=⟨some 22,_,_,_,_,_⟩) (v:=?vx6) rfl (by kernel_rfl) (by kernel_rfl) (by kernel_rfl) (fun _ _ _ h=>h) (Or.inl ⟨by rfl,?hyx6⟩) (by assumption) ?restx6
   case hyx6=>(intro w hSw;(try dsimp only at hSw);go_simp;try with_reducible rfl)
   try simp only [Act.put,List.setIfInBounds_toArray,List.set_cons_zero,List.set_cons_succ]
   refine wpAnyH_take (i:=6) (oi:=⟨some 23,_,_,_,_,_⟩) (v:=?vx7) rfl (by kernel_rfl) (by kernel_rfl) (by kernel_rfl) (fun _ _ _ h=>h) (Or.inl ⟨by rfl,?hyx7⟩) (by assumption) ?restx7
   case hyx7=>(intro w hSw;(try dsimp only at hSw);go_simp;try with_reducible rfl)
   try simp only [Act.put,List.setIfInBounds_toArray,List.set_cons_zero,List.set_cons_succ]
   refine wpAnyH_take (i:=7) (oi:=⟨some 24,_,_,_,_,_⟩) (v:=?vx8) rfl (by kernel_rfl) (by kernel_rfl) (by kernel_rfl) (fun _ _ _ h=>h) (Or.inl ⟨by rfl,?hyx8⟩) (by assumption) ?restx8
   case hyx8=>(intro w hSw;(try dsimp only at hSw);go_simp;try with_reducible rfl)
   try simp only [Act.put,List.setIfInBounds_toArray,List.set_cons_zero,List.set_cons_succ]
   refine wpAnyH_take (i:=8) (oi:=⟨some 25,_,_,_,_,_⟩) (v:=?vx9) rfl (by kernel_rfl) (by kernel_rfl) (by kernel_rfl) (fun _ _ _ h=>h) (Or.inl ⟨by rfl,?hyx9⟩) (by assumption) ?restx9
   case hyx9=>(intro w hSw;(try dsimp only at hSw);go_simp;try with_reducible rfl)
   try simp only [Act.put,List.setIfInBounds_toArray,List.set_cons_zero,List.set_cons_succ]
   refine wpAnyH_take (i:=9) (oi:=⟨some 26,_,_,_,_,_⟩) (v:=?vx10) rfl (by kernel_rfl) (by kernel_rfl) (by kernel_rfl) (fun _ _ _ h=>h) (Or.inl ⟨by rfl,?hyx10⟩) (by assumption) ?restx10
   case hyx10=>(intro w hSw;(try dsimp only at hSw);go_simp;try with_reducible rfl)
   try simp only [Act.put,List.setIfInBounds_toArray,List.set_cons_zero,List.set_cons_succ]
   refine wpAnyH_take (i:=10) (oi:=⟨some 27,_,_,_,_,_⟩) (v:=?vx11) rfl (by kernel_rfl) (by kernel_rfl) (by kernel_rfl) (fun _ _ _ h=>h) (Or.inl ⟨by rfl,?hyx11⟩) (by assumption) ?restx11
   case hyx11=>(intro w hSw;(try dsimp only at hSw);go_simp;try with_reducible rfl)
   try simp only [Act.put,List.setIfInBounds_toArray,List.set_cons_zero,List.set_cons_succ]
   refine wpAnyH_take (i:=11) (oi:=⟨some 28,_,_,_,_,_⟩) (v:=?vx12) rfl (by kernel_rfl) (by kernel_rfl) (by kernel_rfl) (fun _ _ _ h=>h) (Or.inl ⟨by rfl,?hyx12⟩) (by assumption) ?restx12
   case hyx12=>(intro w hSw;(try dsimp only at hSw);go_simp;try with_reducible rfl)
   try simp only [Act.put,List.setIfInBounds_toArray,List.set_cons_zero,List.set_cons_succ]
   refine wpAnyH_take (i:=12) (oi:=⟨some 29,_,_,_,_,_⟩) (v:=?vx13) rfl (by kernel_rfl) (by kernel_rfl) (by kernel_rfl) (fun _ _ _ h=>h) (Or.inl ⟨by rfl,?hyx13⟩) (by assumption) ?restx13
   case hyx13=>(intro w hSw;(try dsimp only at hSw);go_simp;try with_reducible rfl)
   try simp only [Act.put,List.setIfInBounds_toArray,List.set_cons_zero,List.set_cons_succ]
   refine wpAnyH_take (i:=13) (oi:=⟨some 30,_,_,_,_,_⟩) (v:=?vx14) rfl (by kernel_rfl) (by kernel_rfl) (by kernel_rfl) (fun _ _ _ h=>h) (Or.inl ⟨by rfl,?hyx14⟩) (by assumption) ?restx14
   case hyx14=>(intro w hSw;(try dsimp only at hSw);go_simp;try with_reducible rfl)
   try simp only [Act.put,List.setIfInBounds_toArray,List.set_cons_zero,List.set_cons_succ]
   refine wpAnyH_take (i:=14) (oi:=⟨some 31,_,_,_,_,_⟩) (v:=?vx15) rfl (by kernel_rfl) (by kernel_rfl) (by kernel_rfl) (fun _ _ _ h=>h) (Or.inl ⟨by rfl,?hyx15⟩) (by assumption) ?restx15
   case hyx15=>(intro w hSw;(try dsimp only at hSw);go_simp;try with_reducible rfl)
   try simp only [Act.put,List.setIfInBounds_toArray,List.set_cons_zero,List.set_cons_succ]
   refine wpAnyH_take (i:=15) (oi:=⟨some 32,_,_,_,_,_⟩) (v:=?vx16) rfl (by kernel_rfl) (by kernel_rfl) (by kernel_rfl) (fun _ _ _ h=>h) (Or.inl ⟨by rfl,?hyx16⟩) (by assumption) ?restx16
   case hyx16=>(intro w hSw;(try dsimp only at hSw);go_simp;try with_reducible rfl)
   try simp only [Act.put,List.setIfInBounds_toArray,List.set_cons_zero,List.set_cons_succ]
   refine wpAnyH_take (i:=16) (oi:=⟨some 33,_,_,_,_,_⟩) (v:=?vx17) rfl (by kernel_rfl) (by kernel_rfl) (by kernel_rfl) (fun _ _ _ h=>h) (Or.inl ⟨by rfl,?hyx17⟩) (by assumption) ?restx17
   case hyx17=>(intro w hSw;(try dsimp only at hSw);go_simp;try with_reducible rfl)
   try simp only [Act.put,List.setIfInBounds_toArray,List.set_cons_zero,List.set_cons_succ]
   refine wpAnyH_take (i:=17) (oi:=⟨some 34,_,_,_,_,_⟩) (v:=?vx18) rfl (by kernel_rfl) (by kernel_rfl) (by kernel_rfl) (fun _ _ _ h=>h) (Or.inl ⟨by rfl,?hyx18⟩) (by assumption) ?restx18
   case hyx18=>(intro w hSw;(try dsimp only at hSw);go_simp;try with_reducible rfl)
   try simp only [Act.put,List.setIfInBounds_toArray,List.set_cons_zero,List.set_cons_succ]
   refine wpAnyH_take (i:=18) (oi:=⟨some 35,_,_,_,_,_⟩) (v:=?vx19) rfl (by kernel_rfl) (by kernel_rfl) (by kernel_rfl) (fun _ _ _ h=>h) (Or.inl ⟨by rfl,?hyx19⟩) (by assumption) ?restx19
   case hyx19=>(intro w hSw;(try dsimp only at hSw);go_simp;try with_reducible rfl)
   try simp only [Act.put,List.setIfInBounds_toArray,List.set_cons_zero,List.set_cons_succ]
   refine wpAnyH_take (i:=19) (oi:=⟨some 36,_,_,_,_,_⟩) (v:=?vx20) rfl (by kernel_rfl) (by kernel_rfl) (by kernel_rfl) (fun _ _ _ h=>h) (Or.inl ⟨by rfl,?hyx20⟩) (by assumption) ?restx20
   case hyx20=>(intro w hSw;(try dsimp only at hSw);go_simp;try with_reducible rfl)
   try simp only [Act.put,List.setIfInBounds_toArray,List.set_cons_zero,List.set_cons_succ]
   refine wpAnyH_take (i:=20) (oi:=⟨some 37,_,_,_,_,_⟩) (v:=?vx21) rfl (by kernel_rfl) (by kernel_rfl) (by kernel_rfl) (fun _ _ _ h=>h) (Or.inl ⟨by rfl,?hyx21⟩) (by assumption) ?restx21
   case hyx21=>(intro w hSw;(try dsimp only at hSw);go_simp;try with_reducible rfl)
   try simp only [Act.put,List.setIfInBounds_toArray,List.set_cons_zero,List.set_cons_succ]
   refine wpAnyH_take (i:=21) (oi:=⟨some 38,_,_,_,_,_⟩) (v:=?vx22) rfl (by kernel_rfl) (by kernel_rfl) (by kernel_rfl) (fun _ _ _ h=>h) (Or.inl ⟨by rfl,?hyx22⟩) (by assumption) ?restx22
   case hyx22=>(intro w hSw;(try dsimp only at hSw);go_simp;try with_reducible rfl)
   try simp only [Act.put,List.setIfInBounds_toArray,List.set_cons_zero,List.set_cons_succ]
   refine wpAnyH_ready (rs:=[22]) (by kernel_rfl) (by simp) ?_
   refine AllReadyH.cons (o:=⟨some 39,_,_,_,_,_⟩) rfl (fun K hK=>?_) AllReadyH.nil
   go_simp
   with_reducible refine (HSF.out wr.drew (bstep HX.out (bd1 wr))).mono ?_
   rintro e z1 ⟨rfl,hb⟩
   have HZ1:Hid (Below wr.heap.size wr z1):=bstep (bd1 wr) hb
   clear hb
   refine hK.out _ _ (HS.out z1 HZ1.out) (fun hHeld=>?_)
   clear hK K
   try simp only [List.setIfInBounds_toArray,List.set_cons_zero,List.set_cons_succ]
   refine wpAnyH_take (i:=23) (oi:=⟨some 40,_,_,_,_,_⟩) (v:=?vx23) rfl (by kernel_rfl) (by kernel_rfl) (by kernel_rfl) (fun _ _ _ h=>h) (Or.inl ⟨by rfl,?hyx23⟩) (by assumption) ?restx23
   case hyx23=>(intro w hSw;(try dsimp only at hSw);go_simp;try with_reducible rfl)
   try simp only [Act.put,List.setIfInBounds_toArray,List.set_cons_zero,List.set_cons_succ]
   refine wpAnyH_take (i:=24) (oi:=⟨some 41,_,_,_,_,_⟩) (v:=?vx24) rfl (by kernel_rfl) (by kernel_rfl) (by kernel_rfl) (fun _ _ _ h=>h) (Or.inl ⟨by rfl,?hyx24⟩) (by assumption) ?restx24
   case hyx24=>(intro w hSw;(try dsimp only at hSw);go_simp;try with_reducible rfl)
   try simp only [Act.put,List.setIfInBounds_toArray,List.set_cons_zero,List.set_cons_succ]
   refine wpAnyH_take (i:=25) (oi:=⟨some 42,_,_,_,_,_⟩) (v:=?vx25) rfl (by kernel_rfl) (by kernel_rfl) (by kernel_rfl) (fun _ _ _ h=>h) (Or.inl ⟨by rfl,?hyx25⟩) (by assumption) ?restx25
   case hyx25=>(intro w hSw;(try dsimp only at hSw);go_simp;try with_reducible rfl)
   try simp only [Act.put,List.setIfInBounds_toArray,List.set_cons_zero,List.set_cons_succ]
   refine wpAnyH_take (i:=26) (oi:=⟨some 43,_,_,_,_,_⟩) (v:=?vx26) rfl (by kernel_rfl) (by kernel_rfl) (by kernel_rfl) (fun _ _ _ h=>h) (Or.inl ⟨by rfl,?hyx26⟩) (by assumption) ?restx26
   case hyx26=>(intro w hSw;(try dsimp only at hSw);go_simp;try with_reducible rfl)
   try simp only [Act.put,List.setIfInBounds_toArray,List.set_cons_zero,List.set_cons_succ]
   refine wpAnyH_take (i:=27) (oi:=⟨some 44,_,_,_,_,_⟩) (v:=?vx27) rfl (by kernel_rfl) (by kernel_rfl) (by kernel_rfl) (fun _ _ _ h=>h) (Or.inl ⟨by rfl,?hyx27⟩) (by assumption) ?restx27
   case hyx27=>(intro w hSw;(try dsimp only at hSw);go_simp;try with_reducible rfl)
   try simp only [Act.put,List.setIfInBounds_toArray,List.set_cons_zero,List.set_cons_succ]
   refine wpAnyH_take (i:=28) (oi:=⟨some 45,_,_,_,_,_⟩) (v:=?vx28) rfl (by kernel_rfl) (by kernel_rfl) (by kernel_rfl) (fun _ _ _ h=>h) (Or.inl ⟨by rfl,?hyx28⟩) (by assumption) ?restx28
   case hyx28=>(intro w hSw;(try dsimp only at hSw);go_simp;try with_reducible rfl)
   try simp only [Act.put,List.setIfInBounds_toArray,List.set_cons_zero,List.set_cons_succ]
   refine wpAnyH_take (i:=29) (oi:=⟨some 46,_,_,_,_,_⟩) (v:=?vx29) rfl (by kernel_rfl) (by kernel_rfl) (by kernel_rfl) (fun _ _ _ h=>h) (Or.inl ⟨by rfl,?hyx29⟩) (by assumption) ?restx29
   case hyx29=>(intro w hSw;(try dsimp only at hSw);go_simp;try with_reducible rfl)
   try simp only [Act.put,List.setIfInBounds_toArray,List.set_cons_zero,List.set_cons_succ]
   refine wpAnyH_take (i:=30) (oi:=⟨some 47,_,_,_,_,_⟩) (v:=?vx30) rfl (by kernel_rfl) (by kernel_rfl) (by kernel_rfl) (fun _ _ _ h=>h) (Or.inl ⟨by rfl,?hyx30⟩) (by assumption) ?restx30
   case hyx30=>(intro w hSw;(try dsimp only at hSw);go_simp;try with_reducible rfl)
   try simp only [Act.put,List.setIfInBounds_toArray,List.set_cons_zero,List.set_cons_succ]
   refine wpAnyH_take (i:=31) (oi:=⟨some 48,_,_,_,_,_⟩) (v:=?vx31) rfl (by kernel_rfl) (by kernel_rfl) (by kernel_rfl) (fun _ _ _ h=>h) (Or.inl ⟨by rfl,?hyx31⟩) (by assumption) ?restx31
   case hyx31=>(intro w hSw;(try dsimp only at hSw);go_simp;try with_reducible rfl)
   try simp only [Act.put,List.setIfInBounds_toArray,List.set_cons_zero,List.set_cons_succ]
   refine wpAnyH_take (i:=32) (oi:=⟨some 49,_,_,_,_,_⟩) (v:=?vx32) rfl (by kernel_rfl) (by kernel_rfl) (by kernel_rfl) (fun _ _ _ h=>h) (Or.inl ⟨by rfl,?hyx32⟩) (by assumption) ?restx32
   case hyx32=>(intro w hSw;(try dsimp only at hSw);go_simp;try with_reducible rfl)
   try simp only [Act.put,List.setIfInBounds_toArray,List.set_cons_zero,List.set_cons_succ]
   refine wpAnyH_take (i:=33) (oi:=⟨some 50,_,_,_,_,_⟩) (v:=?vx33) rfl (by kernel_rfl) (by kernel_rfl) (by kernel_rfl) (fun _ _ _ h=>h) (Or.inl ⟨by rfl,?hyx33⟩) (by assumption) ?restx33
   case hyx33=>(intro w hSw;(try dsimp only at hSw);go_simp;try with_reducible rfl)
   try simp only [Act.put,List.setIfInBounds_toArray,List.set_cons_zero,List.set_cons_succ]
   refine wpAnyH_take (i:=34) (oi:=⟨some 51,_,_,_,_,_⟩) (v:=?vx34) rfl (by kernel_rfl) (by kernel_rfl) (by kernel_rfl) (fun _ _ _ h=>h) (Or.inl ⟨by rfl,?hyx34⟩) (by assumption) ?restx34
   case hyx34=>(intro w hSw;(try dsimp only at hSw);go_simp;try with_reducible rfl)
   try simp only [Act.put,List.setIfInBounds_toArray,List.set_cons_zero,List.set_cons_succ]
   refine wpAnyH_take (i:=35) (oi:=⟨some 52,_,_,_,_,_⟩) (v:=?vx35) rfl (by kernel_rfl) (by kernel_rfl) (by kernel_rfl) (fun _ _ _ h=>h) (Or.inl ⟨by rfl,?hyx35⟩) (by assumption) ?restx35
   case hyx35=>(intro w hSw;(try dsimp only at hSw);go_simp;try with_reducible rfl)
   try simp only [Act.put,List.setIfInBounds_toArray,List.set_cons_zero,List.set_cons_succ]
   refine wpAnyH_ready (rs:=[36]) (by kernel_rfl) (by simp) ?_
   refine AllReadyH.cons (o:=⟨some 53,_,_,_,_,_⟩) rfl (fun K hK=>?_) AllReadyH.nil
   go_simp
   with_reducible refine (HSL.out z1 (bstep HX.out HZ1.out)).mono ?_
   rintro e z2 ⟨rfl,hb⟩
   have HZ2:Hid (Below wr.heap.size wr z2):=bstep HZ1.out hb
   clear hb
   refine hK.out _ _ (HS.out z2 HZ2.out) (fun hHeld=>?_)
   clear hK K
   try simp only [List.setIfInBounds_toArray,List.set_cons_zero,List.set_cons_succ]
   refine wpAnyH_take (i:=37) (oi:=⟨some 54,_,_,_,_,_⟩) (v:=?vx36) rfl (by kernel_rfl) (by kernel_rfl) (by kernel_rfl) (fun _ _ _ h=>h) (Or.inl ⟨by rfl,?hyx36⟩) (by assumption) ?restx36
   case hyx36=>(intro w hSw;(try dsimp only at hSw);go_simp;try with_reducible rfl)
   try simp only [Act.put,List.setIfInBounds_toArray,List.set_cons_zero,List.set_cons_succ]
   refine wpAnyH_take (i:=38) (oi:=⟨some 55,_,_,_,_,_⟩) (v:=?vx37) rfl (by kernel_rfl) (by kernel_rfl) (by kernel_rfl) (fun _ _ _ h=>h) (Or.inl ⟨by rfl,?hyx37⟩) (by assumption) ?restx37
   case hyx37=>(intro w hSw;(try dsimp only at hSw);go_simp;try with_reducible rfl)
   try simp only [Act.put,List.setIfInBounds_toArray,List.set_cons_zero,List.set_cons_succ]
   refine wpAnyH_done (by kernel_rfl) ?_ _
   refine NoPanic.normal ?_
   clear hHeld g0 g1 g2 g3 g4 g5 g6 g7
   go_wp2_with fail
   go_roundw
   case rel=>exact ⟨i+1,by go_num,by omega,bstep HX.out HZ2.out⟩
   case measure=>simp [intOf];omega
  ·obtain rfl:n=i:=by omega
   go_wp2_with fail
   go_ret
   exact ⟨rfl,HX.out⟩
end Go.Proofs.YtkheacknelbcnaaGreatDoor

namespace Go.Proofs.YtkheacknelbcnaaGreatDoor
open Go.RowKit Go.Maps
def dbl (l:List Lb):List Lb:=l.flatMap (fun x=>[x,x])
theorem dbl_snoc (l:List Lb) (x:Lb):dbl (l++[x])=dbl l++[x,x]:=by simp [dbl]
theorem mem_dbl {l:List Lb} {x:Lb}:x∈dbl l↔x∈l:=by
 unfold dbl
 rw [List.mem_flatMap]
 constructor
 ·rintro ⟨y,hy,hx⟩
  have:x=y:=by simpa using hx
  rw [this];exact hy
 ·intro h
  exact ⟨x,h,by simp⟩
theorem dbl_len (l:List Lb):(dbl l).length=2 * l.length:=by
 induction l with
 | nil=>rfl
 | cons x r ih=>unfold dbl at ih ⊢;rw [List.flatMap_cons,List.length_append,ih];simp;omega
theorem src_L2 {T:TypeId} (hT:Tryz.prog.underlying T=some (.slice 28)) (w:World) (s t:Lb):Src Tryz.prog 2 T (.slice (some ⟨w.heap.size,0,none⟩) 2 2) [s,t].length (lc [s,t]) (w.alloc (.cells #[.string (bs s.pkg),.string (bs s.name),.string (bs t.pkg),.string (bs t.name)] 28)):=by
 refine Src.ofSlice _ hT ⟨w.heap.size,0,none⟩ 2 2 (lc [s,t]) (by simp [lc_length]) ?_ (lc_one _)
 exact fun j u hu=>World.news_of_block (heap_alloc_new w _) j u hu
theorem srcL_len (l:List Fl) (a:Lb):(srcL l a).length≤l.length:=by
 unfold srcL keep
 exact List.length_filter_le _ _
/-- what is built is small -/
theorem bld_fine {l:List Fl} {t N:List Lb} {E:List Ee} {c:List (List UInt8)} (B:OfB l t) (h:refE l t=0→RchS l t N E c):(bldP l t N E c).2.circ.length≤100000000∧(bldP l t N E c).1.length≤100000000∧∀ n∈(bldP l t N E c).1,n.srcs.length≤100000000∧n.deps.length≤100000000:=by
 unfold bldP
 by_cases h0:refE l t=0
 ·rw [if_pos h0]
  have S:=h h0
  have hu:=uni_le l t
  have hb:=B.ul
  have hU:∀ x∈N,x∈uniL l t:=fun x hx=>(uni_ok l t).all x ((S.nn x).1 hx)
  have hrs:(rs N).length≤(uniL l t).length:=Gs.nodup_sub (rs N) _ (rs_nd N) (fun x hx=>hU x ((Gs.mem_ris x N).1 hx))
  split
  ·refine ⟨?_,by simp,fun n hn=>by simp at hn⟩
   unfold fltP
   split
   ·simp [Fv.pf]
   ·split
    ·simp [Fv.pf]
    ·split
     ·show ((crcL N E).getD []).length≤_
      cases hc:crcL N E with
      | none=>simp
      | some p=>
       have hp:p∈Gs.pts ltL N E:=List.mem_of_find?_eq_some hc
       unfold Gs.pts at hp
       obtain ⟨a,_,rfl⟩:=List.mem_map.1 hp
       have h1:=Gs.nodup_sub (Gs.part ltL N E a) (uniL l t) (Gs.Ris.nodup stoL (Gs.part_up stoL N E a)) (fun x hx=>hU x (Gs.mem_part.1 hx).1)
       simp only [Option.getD_some]
       omega
     ·simp [Fv.pf]
  ·refine ⟨by simp [zPf],?_,fun n hn=>?_⟩
   ·unfold ndsP
    rw [List.length_map]
    cases e:Gs.ord (rs N) E with
    | none=>simp
    | some L=>
     have h1:=(Gs.ordF_some _ _ _ (Gs.Tld.nil _ _) e).2.1
     simp only [Option.getD_some,List.length_nil] at h1 ⊢
     omega
   ·unfold ndsP at hn
    obtain ⟨a,_,rfl⟩:=List.mem_map.1 hn
    have h1:=srcL_len l a
    have h2:=B.ll
    have h3:=Gs.nodup_sub (rs (oE E a)) (dpsL l a) (rs_nd _) (fun x hx=>((S.ee a x).1 (mem_oE.1 ((Gs.mem_ris x _).1 hx))).2)
    have h4:=(dps_small (l:=l) a).1
    simp only [ndF]
    omega
 ·rw [if_neg h0]
  simp
set_option maxRecDepth 100000 in
set_option maxHeartbeats 8000000 in
theorem bset_law {w:World} {lv tv:Value} {l:List Fl} {t:List Lb} (E0:Ev w) (hf:FS w lv l) (ht:LS w tv t) (B:OfB l t) (B2:OfB l (dbl t.reverse)) :
  Calls Tryz.prog 3 #[lv,tv] w fun e w'=>e=.returned (.bool true)∧Below w.heap.size w w':=by
 have HEX:=hid_of (example_any E0)
 have HX:Hid (Ev w∧FS w lv l∧LS w tv t∧OfB l t∧OfB l (dbl t.reverse)):=⟨E0,hf,ht,B,B2⟩
 have HOW:=hid_of (fun W (hW:Below w.heap.size w W)=>own_any (hf.later hW) (by have:=B.ll;omega))
 have HLA:=hid_of (fun W (hW:Below w.heap.size w W)=>labels_any (ht.later hW) (by have:=B.tl;omega))
 obtain ⟨fa0,fc0,hfv,_⟩:=hf.form
 obtain ⟨fn,hfn⟩:∃ fn,l.length=fn:=⟨_,rfl⟩
 rw [hfn] at hfv
 subst hfv
 obtain ⟨ta,tc,htv,_⟩:=ht.form
 obtain ⟨tn,htn⟩:∃ tn,t.length=tn:=⟨_,rfl⟩
 rw [htn] at htv
 subst htv
 have HTN:Hid (t.length=tn):=htn
 have htn9:tn≤1100000:=by have:=B.tl;omega
 clear E0 hf ht B B2 hfn htn
 go_enter Tryz.func3,Tryz.ntmps3
 go_wp2_with fail
 refine HEX.out.mono ?_
 rintro e w1 ⟨rfl,hb1⟩
 have HB1:Hid (Below w.heap.size w w1):=hb1
 clear hb1 HEX
 go_wp2_with fail
 refine (HOW.out w1 HB1.out).mono ?_
 rintro e w2 ⟨v2,rfl,ho2,hb2⟩
 have HB2:Hid (Below w.heap.size w w2):=bstep HB1.out hb2
 have HO2:Hid (FS w2 v2 l):=ho2.fs
 obtain ⟨xa2,xc2,hx2⟩:=ho2.form
 obtain ⟨n2,hn2⟩:∃ n2,l.length=n2:=⟨_,rfl⟩
 rw [hn2] at hx2
 subst hx2
 clear ho2 hb2 hn2
 go_wp2_with fail
 refine (HLA.out w2 HB2.out).mono ?_
 rintro e w3 ⟨v3,rfl,ho3,hb3⟩
 have HB3:Hid (Below w.heap.size w w3):=bstep HB2.out hb3
 have HOF:=hid_of (bof_any (HX.out.1.later HB3.out) (HO2.out.later hb3) ho3 HX.out.2.2.2.1)
 obtain ⟨xa3,xc3,hx3⟩:=ho3.form
 obtain ⟨n3,hn3⟩:∃ n3,t.length=n3:=⟨_,rfl⟩
 rw [hn3] at hx3
 subst hx3
 clear ho3 hb3 hn3
 go_wp2_with fail
 refine HOF.out.mono ?_
 rintro e w4 h
 unfold OfP at h
 obtain ⟨nv,fv,N,E,c,rfl,hR,hno,hfi,hb4⟩:=h
 have HB4:Hid (Below w.heap.size w w4):=bstep HB3.out hb4
 have HR4:Hid ((refE l t=0→RchS l t N E c)∧NOwn w3.heap.size w4 nv (bldP l t N E c).1∧FvIs w3.heap.size w4 fv (bldP l t N E c).2):=⟨hR,hno,hfi⟩
 obtain ⟨na,nc,hnv⟩:=hno.form
 obtain ⟨nn,hnn⟩:∃ nn,(bldP l t N E c).1.length=nn:=⟨_,rfl⟩
 rw [hnn] at hnv
 subst hnv
 clear hnn hR hno hfi hb4 HOF
 obtain ⟨fc,⟨lp,ln⟩,⟨op,on⟩,fp,fa,ca,cn,cc⟩:=fv
 have hval:Fv.val ⟨fc,⟨lp,ln⟩,⟨op,on⟩,fp,fa,ca,cn,cc⟩=.agg #[.int .i64 fc,.string (bs lp),.string (bs ln),.string (bs op),.string (bs on),.string (bs fp),.int .i64 fa,.slice ca cn cc]:=rfl
 rw [hval]
 clear hval
 obtain ⟨w5,hw5⟩:∃ w5,w4.alloc (.cells #[.int .i64 fc,.string (bs lp),.string (bs ln),.string (bs op),.string (bs on),.string (bs fp),.int .i64 fa,.slice ca cn cc] 30)=w5:=⟨_,rfl⟩
 have HB5:Hid (Below w4.heap.size w4 w5):=by
  show Below w4.heap.size w4 w5
  rw [← hw5];exact balloc _ _
 have HF5:Hid (FK w5 w4.heap.size ⟨fc,⟨lp,ln⟩,⟨op,on⟩,fp,fa,ca,cn,cc⟩):=by
  show FK w5 w4.heap.size ⟨fc,⟨lp,ln⟩,⟨op,on⟩,fp,fa,ca,cn,cc⟩
  rw [← hw5];exact FK.new _ ⟨fc,⟨lp,ln⟩,⟨op,on⟩,fp,fa,ca,cn,cc⟩
 go_upto_region 4 with fail
 try rw [hw5]
 clear hw5
 go_wp2_with fail
 go_loopw [7,8] (fun uv iv wr=>∃ m:Nat,m≤tn∧iv=.int .i64 ((m:Int) - 1)∧OwnL w5.heap.size wr uv (dbl (t.drop m).reverse)∧Below w5.heap.size w5 wr) (fun _ iv _=>(intOf iv+1).toNat)
 case atStart=>exact ⟨tn,Nat.le_refl _,by go_num,by rw [← HTN.out,List.drop_length];exact OwnL.nil _ _,Below.refl _ _⟩
 case round=>
  obtain ⟨m0,hm0,rfl,hou,hb⟩:=hrel
  obtain ⟨ua,uc,huv⟩:=hou.form
  obtain ⟨un,hun⟩:∃ un,(dbl (t.drop m0).reverse).length=un:=⟨_,rfl⟩
  rw [hun] at huv
  subst huv
  have X5:Hid (OwnL w5.heap.size wr (.slice ua un uc) (dbl (t.drop m0).reverse)∧Below w5.heap.size w5 wr):=⟨hou,hb⟩
  have hun9:un≤2200000:=by rw [← hun,dbl_len,List.length_reverse,List.length_drop];have:=HTN.out;omega
  have HUN:Hid ((dbl (t.drop m0).reverse).length=un):=hun
  clear hou hb hun
  have HBW:Hid (Below w.heap.size w wr):=bstep (bstep HB4.out HB5.out) X5.out.2
  cases m0 with
  | succ k=>
   have hkt:k < t.length:=by rw [HTN.out];omega
   have hki:((k+1:Nat):Int) - 1=(k:Int):=by omega
   rw [hki]
   have k1:(k:Int) < (tn:Int):=by omega
   have k2:(0:Int)≤(k:Int):=by omega
   obtain ⟨b,off,ea,hbl,q0,q1⟩:=LS.at HX.out.2.2.1 HBW.out hkt
   subst ea
   have HDR:Hid (dbl (t.drop k).reverse=dbl (t.drop (k+1)).reverse++[t[k],t[k]]):=by
    show _=_
    rw [List.drop_eq_getElem_cons hkt,List.reverse_cons,dbl_snoc]
   have HAT:Hid (∀ W,Below w.heap.size w W→W.cell? ⟨b,off+k * 2,none⟩=some (.string (bs t[k].pkg))∧W.cell? ⟨b,off+k * 2+1,none⟩=some (.string (bs t[k].name))):=fun W hW=>by
    obtain ⟨b9,o9,e9,_,c0,c1⟩:=LS.at HX.out.2.2.1 hW hkt
    cases e9
    exact ⟨c0,c1⟩
   obtain ⟨x,hx⟩:∃ x,t[k]=x:=⟨_,rfl⟩
   rw [hx] at q0 q1 HDR HAT
   clear hx
   obtain ⟨p,m⟩:=x
   simp only at q0 q1 HAT
   go_upto_region 8 with fail
   obtain ⟨x1,x2⟩:=HAT.out _ (bstep HBW.out (bd wr 1))
   refine wp_region_noPanic ?_
   refine wp_region_held_drew (S:=fun W'=>W'.cell? ⟨b,off+k * 2,none⟩=some (.string (bs p))∧W'.cell? ⟨b,off+k * 2+1,none⟩=some (.string (bs m))) (by kernel_rfl) (by exact HAT.out _ (bstep HBW.out (bd wr 1))) (fun hHeld=>?_)
   refine wpAnyH_take (i:=0) (oi:=⟨some 28,_,_,_,_,_⟩) (v:=?vx1) rfl (by kernel_rfl) (by kernel_rfl) (by kernel_rfl) (fun _ _ _ h=>h) (Or.inl ⟨by rfl,?hyx1⟩) (by assumption) ?restx1
   case hyx1=>(intro w hSw;(try dsimp only at hSw);go_simp;try with_reducible rfl)
   try simp only [Act.put,List.setIfInBounds_toArray,List.set_cons_zero,List.set_cons_succ]
   refine wpAnyH_take (i:=1) (oi:=⟨some 29,_,_,_,_,_⟩) (v:=?vx2) rfl (by kernel_rfl) (by kernel_rfl) (by kernel_rfl) (fun _ _ _ h=>h) (Or.inl ⟨by rfl,?hyx2⟩) (by assumption) ?restx2
   case hyx2=>(intro w hSw;(try dsimp only at hSw);go_simp;try with_reducible rfl)
   try simp only [Act.put,List.setIfInBounds_toArray,List.set_cons_zero,List.set_cons_succ]
   refine wpAnyH_take (i:=2) (oi:=⟨some 30,_,_,_,_,_⟩) (v:=?vx3) rfl (by kernel_rfl) (by kernel_rfl) (by kernel_rfl) (fun _ _ _ h=>h) (Or.inl ⟨by rfl,?hyx3⟩) (by assumption) ?restx3
   case hyx3=>(intro w hSw;(try dsimp only at hSw);go_simp;try with_reducible rfl)
   try simp only [Act.put,List.setIfInBounds_toArray,List.set_cons_zero,List.set_cons_succ]
   refine wpAnyH_take (i:=3) (oi:=⟨some 31,_,_,_,_,_⟩) (v:=?vx4) rfl (by kernel_rfl) (by kernel_rfl) (by kernel_rfl) (fun _ _ _ h=>h) (Or.inl ⟨by rfl,?hyx4⟩) (by assumption) ?restx4
   case hyx4=>(intro w hSw;(try dsimp only at hSw);go_simp;try with_reducible rfl)
   try simp only [Act.put,List.setIfInBounds_toArray,List.set_cons_zero,List.set_cons_succ]
   refine wpAnyH_take (i:=4) (oi:=⟨some 32,_,_,_,_,_⟩) (v:=?vx5) rfl (by kernel_rfl) (by kernel_rfl) (by kernel_rfl) (fun _ _ _ h=>h) (Or.inl ⟨by rfl,?hyx5⟩) (by assumption) ?restx5
   case hyx5=>(intro w hSw;(try dsimp only at hSw);go_simp;try with_reducible rfl)
   try simp only [Act.put,List.setIfInBounds_toArray,List.set_cons_zero,List.set_cons_succ]
   refine wpAnyH_take (i:=5) (oi:=⟨some 33,_,_,_,_,_⟩) (v:=?vx6) rfl (by kernel_rfl) (by kernel_rfl) (by kernel_rfl) (fun _ _ _ h=>h) (Or.inl ⟨by rfl,?hyx6⟩) (by assumption) ?restx6
   case hyx6=>(intro w hSw;(try dsimp only at hSw);go_simp;try with_reducible rfl)
   try simp only [Act.put,List.setIfInBounds_toArray,List.set_cons_zero,List.set_cons_succ]
   refine wpAnyH_take (i:=6) (oi:=⟨some 34,_,_,_,_,_⟩) (v:=?vx7) rfl (by kernel_rfl) (by kernel_rfl) (by kernel_rfl) (fun _ _ _ h=>h) (Or.inl ⟨by rfl,?hyx7⟩) (by assumption) ?restx7
   case hyx7=>(intro w hSw;(try dsimp only at hSw);go_simp;try with_reducible rfl)
   try simp only [Act.put,List.setIfInBounds_toArray,List.set_cons_zero,List.set_cons_succ]
   refine wpAnyH_take (i:=7) (oi:=⟨some 35,_,_,_,_,_⟩) (v:=?vx8) rfl (by kernel_rfl) (by kernel_rfl) (by kernel_rfl) (fun _ _ _ h=>h) (Or.inl ⟨by rfl,?hyx8⟩) (by assumption) ?restx8
   case hyx8=>(intro w hSw;(try dsimp only at hSw);go_simp;try with_reducible rfl)
   try simp only [Act.put,List.setIfInBounds_toArray,List.set_cons_zero,List.set_cons_succ]
   refine wpAnyH_take (i:=8) (oi:=⟨some 36,_,_,_,_,_⟩) (v:=?vx9) rfl (by kernel_rfl) (by kernel_rfl) (by kernel_rfl) (fun _ _ _ h=>h) (Or.inl ⟨by rfl,?hyx9⟩) (by assumption) ?restx9
   case hyx9=>(intro w hSw;(try dsimp only at hSw);go_simp;try with_reducible rfl)
   try simp only [Act.put,List.setIfInBounds_toArray,List.set_cons_zero,List.set_cons_succ]
   refine wpAnyH_ready (rs:=[9]) (by kernel_rfl) (by simp) ?_
   refine AllReadyH.cons (o:=⟨some 37,_,_,_,_,_⟩) rfl (fun K hK=>?_) AllReadyH.nil
   go_simp
   refine hK.out _ _ (by exact HAT.out _ (bstep (bstep HBW.out (bd wr 1)) (balloc _ _))) (fun hHeld=>?_)
   clear hK K
   try simp only [List.setIfInBounds_toArray,List.set_cons_zero,List.set_cons_succ]
   refine wpAnyH_ready (rs:=[10]) (by kernel_rfl) (by simp) ?_
   refine AllReadyH.cons (o:=⟨some 38,_,_,_,_,_⟩) rfl (fun K hK=>?_) AllReadyH.nil
   have HZ3:Hid (Below wr.heap.size wr (wr.drew.alloc (.cells #[.string (bs p),.string (bs m),.string (bs p),.string (bs m)] 28))):=bstep (bd wr 1) (balloc _ _)
   refine step_app_L und_L rfl (.tmp 28) (.tmp 37) rfl w5.heap.size (dbl (t.drop (k+1)).reverse) [⟨p,m⟩,⟨p,m⟩] (.slice ua un uc) _ rfl rfl (X5.out.1.later HZ3.out) (src_L2 und_L wr.drew ⟨p,m⟩ ⟨p,m⟩) (by rw [HUN.out];simp only [List.length_cons,List.length_nil];omega) (bstep X5.out.2 HZ3.out).size ?_
   intro v6 w6 ho6 hg6 hw6
   have XN:Hid (OwnL w5.heap.size w6 v6 (dbl (t.drop k).reverse)∧Below w5.heap.size w5 w6):=by
    have hon:=only_grownK hg6
    refine ⟨by rw [HDR.out];exact ho6,below_trans (bstep X5.out.2 HZ3.out) (hon.below (bstep X5.out.2 HZ3.out).size (fun x hx=>(X5.out.1.lt (Option.mem_toList.1 hx)).1))⟩
   obtain ⟨ua2,uc2,hu2⟩:=XN.out.1.form
   obtain ⟨un2,hun2⟩:∃ un2,(dbl (t.drop k).reverse).length=un2:=⟨_,rfl⟩
   rw [hun2] at hu2
   subst hu2
   clear hun2 ho6 hg6 hw6
   refine hK.out _ _ (HAT.out w6 (bstep (bstep HB4.out HB5.out) XN.out.2)) (fun hHeld=>?_)
   clear hK K
   try simp only [Act.put,List.setIfInBounds_toArray,List.set_cons_zero,List.set_cons_succ]
   refine wpAnyH_take (i:=11) (oi:=⟨some 7,_,_,_,_,_⟩) (v:=?vx10) rfl (by kernel_rfl) (by kernel_rfl) (by kernel_rfl) (fun _ _ _ h=>h) (Or.inl ⟨by rfl,?hyx10⟩) (by assumption) ?restx10
   case hyx10=>(intro w hSw;(try dsimp only at hSw);go_simp;try with_reducible rfl)
   try simp only [Act.put,List.setIfInBounds_toArray,List.set_cons_zero,List.set_cons_succ]
   refine wpAnyH_done (by kernel_rfl) ?_ _
   refine NoPanic.normal ?_
   go_wp2_with fail
   go_roundw
   case rel=>exact ⟨k,by omega,by go_num,XN.out.1,XN.out.2⟩
   case measure=>simp [intOf]
  | zero=>
   rw [List.drop_zero] at X5
   go_wp2_with fail
   refine (HOW.out wr HBW.out).mono ?_
   rintro e w7 ⟨v7,rfl,ho7,hb7⟩
   have HB7:Hid (Below wr.heap.size wr w7):=hb7
   have HOF:=hid_of (bof_any (HX.out.1.later (bstep HBW.out hb7)) ho7.fs (X5.out.1.later hb7) HX.out.2.2.2.2)
   obtain ⟨xa7,xc7,hx7⟩:=ho7.form
   obtain ⟨n7,hn7⟩:∃ n7,l.length=n7:=⟨_,rfl⟩
   rw [hn7] at hx7
   subst hx7
   clear ho7 hb7 hn7
   go_wp2_with fail
   refine HOF.out.mono ?_
   rintro e w8 h
   unfold OfP at h
   obtain ⟨nv2,fv2,N2,E2,c2,rfl,hR,hno,hfi,hb8⟩:=h
   have heq:bldP l (dbl t.reverse) N2 E2 c2=bldP l t N E c:=bldP_ext (fun x=>by rw [mem_dbl,List.mem_reverse]) hR HR4.out.1
   rw [heq] at hno hfi
   have HB8:Hid (Below w5.heap.size w5 w8):=bstep (bstep X5.out.2 HB7.out) hb8
   have HR8:Hid (NOwn w7.heap.size w8 nv2 (bldP l t N E c).1∧FvIs w7.heap.size w8 fv2 (bldP l t N E c).2):=⟨hno,hfi⟩
   obtain ⟨na2,nc2,hnv⟩:=hno.form
   obtain ⟨nn2,hnn⟩:∃ nn,(bldP l t N E c).1.length=nn:=⟨_,rfl⟩
   rw [hnn] at hnv
   subst hnv
   clear hnn hR hno hfi hb8 HOF heq
   obtain ⟨fc2,⟨lp2,ln2⟩,⟨op2,on2⟩,fp2,fa2,ca2,cn2,cc2⟩:=fv2
   have hval:Fv.val ⟨fc2,⟨lp2,ln2⟩,⟨op2,on2⟩,fp2,fa2,ca2,cn2,cc2⟩=.agg #[.int .i64 fc2,.string (bs lp2),.string (bs ln2),.string (bs op2),.string (bs on2),.string (bs fp2),.int .i64 fa2,.slice ca2 cn2 cc2]:=rfl
   rw [hval]
   clear hval
   obtain ⟨w9,hw9⟩:∃ w9,w8.alloc (.cells #[.int .i64 fc2,.string (bs lp2),.string (bs ln2),.string (bs op2),.string (bs on2),.string (bs fp2),.int .i64 fa2,.slice ca2 cn2 cc2] 30)=w9:=⟨_,rfl⟩
   have HB9:Hid (Below w8.heap.size w8 w9):=by
    show Below w8.heap.size w8 w9
    rw [← hw9];exact balloc _ _
   have HF9:Hid (FK w9 w8.heap.size ⟨fc2,⟨lp2,ln2⟩,⟨op2,on2⟩,fp2,fa2,ca2,cn2,cc2⟩):=by
    show FK w9 w8.heap.size ⟨fc2,⟨lp2,ln2⟩,⟨op2,on2⟩,fp2,fa2,ca2,cn2,cc2⟩
    rw [← hw9];exact FK.new _ ⟨fc2,⟨lp2,ln2⟩,⟨op2,on2⟩,fp2,fa2,ca2,cn2,cc2⟩
   have HG9:Hid (FK w9 w4.heap.size ⟨fc,⟨lp,ln⟩,⟨op,on⟩,fp,fa,ca,cn,cc⟩):=HF5.out.later (bstep HB8.out HB9.out)
   obtain ⟨s1,s2,s3⟩:=bld_fine HX.out.2.2.2.1 HR4.out.1
   have HSF:=hid_of (sameFault_any ((HR4.out.2.2.later HB5.out).later (bstep HB8.out HB9.out)) (HR8.out.2.later HB9.out) s1)
   have HSN:=hid_of (fun W (hW:Below w9.heap.size w9 W)=>sameNodes_any (((HR4.out.2.1.later HB5.out).later (bstep HB8.out HB9.out)).later hW) ((HR8.out.1.later HB9.out).later hW) s2 s3)
   simp only [Fv.val] at HSF
   clear s1 s2 s3
   go_upto_region 10 with fail
   try rw [hw9]
   clear hw9
   obtain ⟨u0,u1,u2,u3,u4,u5,u6,u7⟩:=HG9.out.get
   obtain ⟨t0,t1,t2,t3,t4,t5,t6,t7⟩:=HF9.out.get
   go_wp2_with fail
   refine HSF.out.mono ?_
   rintro e w10 ⟨rfl,hb10⟩
   have HB10:Hid (Below w9.heap.size w9 w10):=hb10
   clear hb10 u0 u1 u2 u3 u4 u5 u6 u7 t0 t1 t2 t3 t4 t5 t6 t7
   go_wp2_with fail
   refine (HSN.out w10 HB10.out).mono ?_
   rintro e w11 ⟨rfl,hb11⟩
   have HB11:Hid (Below w10.heap.size w10 w11):=hb11
   clear hb11
   go_wp2_with fail
   go_ret
   exact ⟨rfl,bstep (bstep (bstep (bstep (bstep (bstep HB4.out HB5.out) (Below.refl _ _)) HB8.out) HB9.out) HB10.out) HB11.out⟩
end Go.Proofs.YtkheacknelbcnaaGreatDoor

namespace Go.Proofs.YtkheacknelbcnaaGreatDoor
open Go.RowKit Go.Maps
theorem fine_of {l:List Fl} {t:List Lb} (h:totf l+totl t≤1048576) (hb:∀ i∈l,-9223372036854775808≤i.blob∧i.blob≤9223372036854775807∧-9223372036854775808≤i.size∧i.size≤9223372036854775807):OfB l t:=by
 have h1:=totf_len l
 have h2:=totf_mem l
 have h3:=totl_len t
 have h4:=totl_mem t
 have hok:∀ f∈l,Fok f:=fun f hf=>by
  have:=h2 f hf
  obtain ⟨g1,g2,g3,g4⟩:=hb f hf
  exact ⟨by omega,by omega,g1,g2,g3,g4⟩
 refine ⟨⟨by omega,hok,fun f hf=>by have:=h2 f hf;omega⟩,⟨by omega,hok⟩,by omega,by omega,fun x hx=>?_,by omega⟩
 have:=h4 x hx
 exact ⟨by omega,by omega⟩
theorem dbl_of {l:List Fl} {t:List Lb} (h:totf l+totl t≤1048576) (B:OfB l t):OfB l (dbl t.reverse):=by
 have h1:=totf_len l
 have h3:=totl_len t
 have h5:=dbl_len t.reverse
 rw [List.length_reverse] at h5
 refine ⟨B.fq,B.fs,B.ll,by omega,fun x hx=>B.lm x (List.mem_reverse.1 (mem_dbl.1 hx)),by omega⟩
end Go.Proofs.YtkheacknelbcnaaGreatDoor
