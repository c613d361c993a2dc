/-
  Faults that are alike, nodes that are alike.
  The law of BuildSet.
  What came in is small enough.
  The law of BuildParts: the build of the part.
-/
import Derived.Test.YtkheacknelbcnaaGreatDoorJXc
import Derived.Test.YtkheacknelbcnaaGreatDoorJYa
import Derived.Test.YtkheacknelbcnaaGreatDoorJCf
namespace Go.Proofs.YtkheacknelbcnaaGreatDoor
open Go.RowKit Go.Maps
set_option maxRecDepth 100000 in
set_option maxHeartbeats 8000000 in
theorem sameNodes_any {w:World} {u v:Value} {l:List Nd} {b0 b1:Nat} (h:NOwn b0 w u l) (h2:NOwn b1 w v l) (hl:l.length≤100000000) (hd:∀ n∈l,n.srcs.length≤100000000∧n.deps.length≤100000000) :
  Calls Tryz.prog 12 #[u,v] w fun e w'=>e=.returned (.bool true)∧Below w.heap.size w w':=by
 obtain ⟨xs,x1,x2,x3,_,_⟩:=h.it
 obtain ⟨ys,y1,y2,y3,_,_⟩:=h2.it
 obtain ⟨au,cu,hu⟩:=h.form
 obtain ⟨av,cv,hv⟩:=h2.form
 have H:=hid_of (And.intro x1.rs (And.intro x2 (And.intro x3 (And.intro y1.rs (And.intro y2 (And.intro y3 hd))))))
 obtain ⟨n,hn⟩:∃ n,l.length=n:=⟨_,rfl⟩
 rw [hn] at hu hv hl
 subst hu
 subst hv
 have HN:Hid (l.length=n):=hn
 clear h h2 x1 x2 x3 y1 y2 y3 hn hd
 go_enter Tryz.func12,Tryz.ntmps12
 go_wp2_with fail
 go_loopw [5] (fun s5 wr=>∃ i:Nat,s5=.int .i64 i∧i≤n∧Below w.heap.size w wr) (fun s5 _=>n - (intOf s5).toNat)
 case atStart=>exact ⟨0,rfl,by omega,Below.refl _ _⟩
 case round=>
  obtain ⟨i,rfl,hi,hb⟩:=hrel
  have HX:Hid (Below w.heap.size w wr):=hb
  clear hb
  by_cases hlt:i < n
  ·have i1:(i:Int) < (n:Int):=by omega
   have i2:(0:Int)≤(i:Int):=by omega
   have hil:i < l.length:=by rw [HN.out];exact hlt
   have hix:i < xs.length:=by rw [H.out.2.1];exact hil
   have hiy:i < ys.length:=by rw [H.out.2.2.2.2.1];exact hil
   have hnx:=H.out.2.2.1 i hix hil
   have hny:=H.out.2.2.2.2.2.1 i hiy hil
   have HDL:=hid_of (H.out.2.2.2.2.2.2 l[i] (List.getElem_mem hil))
   have HSF:=hid_of (fun W (hW:Below w.heap.size w W)=>sameF_any ((hnx.s.later hW).fs) ((hny.s.later hW).fs) HDL.out.1)
   have HSL:=hid_of (fun W (hW:Below w.heap.size w W)=>sameL_any ((hnx.d.later hW).rs) ((hny.d.later hW).rs) HDL.out.2)
   have hlab:(⟨xs[i].pkg,xs[i].name⟩:Lb)=⟨ys[i].pkg,ys[i].name⟩:=hnx.lab.trans hny.lab.symm
   have HAT:=hid_of (fun W (hW:Below w.heap.size w W)=>And.intro (NS.at H.out.1 hW hix) (NS.at H.out.2.2.2.1 hW hiy))
   clear hnx hny
   obtain ⟨x,hx⟩:∃ x,xs[i]=x:=⟨_,rfl⟩
   obtain ⟨y,hy⟩:∃ y,ys[i]=y:=⟨_,rfl⟩
   rw [hx] at HSF HSL HAT hlab
   rw [hy] at HSF HSL HAT hlab
   clear hx hy
   obtain ⟨p,m,xsa,xsn,xsc,xda,xdn,xdc⟩:=x
   obtain ⟨p2,m2,ysa,ysn,ysc,yda,ydn,ydc⟩:=y
   simp only [Lb.mk.injEq] at hlab
   obtain ⟨rfl,rfl⟩:=hlab
   simp only [Nv.s,Nv.d] at HSF HSL HAT
   obtain ⟨⟨b,off,eb,hbl,_⟩,b2,off2,eb2,hbl2,_⟩:=HAT.out wr HX.out
   subst eb
   subst eb2
   have HS:Hid (∀ W,Below wr.heap.size wr W→W.cell? ⟨b,off+i * 4,none⟩=some (.string (bs p))∧W.cell? ⟨b,off+i * 4+1,none⟩=some (.string (bs m))∧W.cell? ⟨b,off+i * 4+2,none⟩=some (.slice xsa xsn xsc)∧W.cell? ⟨b,off+i * 4+3,none⟩=some (.slice xda xdn xdc)∧W.cell? ⟨b2,off2+i * 4,none⟩=some (.string (bs p))∧W.cell? ⟨b2,off2+i * 4+1,none⟩=some (.string (bs m))∧W.cell? ⟨b2,off2+i * 4+2,none⟩=some (.slice ysa ysn ysc)∧W.cell? ⟨b2,off2+i * 4+3,none⟩=some (.slice yda ydn ydc)):=fun W hW=>by
    obtain ⟨⟨b9,o9,e9,_,c0,c1,c2,c3⟩,b8,o8,e8,_,d0,d1,d2,d3⟩:=HAT.out W (bstep HX.out hW)
    cases e9
    cases e8
    exact ⟨c0,c1,c2,c3,d0,d1,d2,d3⟩
   have hq:=lneq_run'
   have hg:=guard_run
   have q1:lleq ⟨p,m⟩ ⟨p,m⟩=true:=by unfold lleq;simp
   clear HAT
   go_upto_region 6 with fail
   obtain ⟨g0,g1,g2,g3,g4,g5,g6,g7⟩:=HS.out _ (bd wr 1)
   refine wp_region_noPanic ?_
   refine wp_region_held_drew (S:=fun W'=>W'.cell? ⟨b,off+i * 4,none⟩=some (.string (bs p))∧W'.cell? ⟨b,off+i * 4+1,none⟩=some (.string (bs m))∧W'.cell? ⟨b,off+i * 4+2,none⟩=some (.slice xsa xsn xsc)∧W'.cell? ⟨b,off+i * 4+3,none⟩=some (.slice xda xdn xdc)∧W'.cell? ⟨b2,off2+i * 4,none⟩=some (.string (bs p))∧W'.cell? ⟨b2,off2+i * 4+1,none⟩=some (.string (bs m))∧W'.cell? ⟨b2,off2+i * 4+2,none⟩=some (.slice ysa ysn ysc)∧W'.cell? ⟨b2,off2+i * 4+3,none⟩=some (.slice yda ydn ydc)) (by kernel_rfl) (by exact HS.out _ (bd wr 1)) (fun hHeld=>?_)
   refine tkH 0 ⟨some 17,_,_,_,_,_⟩ ?v1 rfl (Or.inl ⟨by rfl,?y1⟩) ?r1
   case y1=>(intro w h;(try dsimp only at h);go_simp;try with_reducible rfl)
   try simp only [Act.put,sA,sB,sC]
   refine tkH 1 ⟨some 18,_,_,_,_,_⟩ ?v2 rfl (Or.inl ⟨by rfl,?y2⟩) ?r2
   case y2=>(intro w h;(try dsimp only at h);go_simp;try with_reducible rfl)
   try simp only [Act.put,sA,sB,sC]
   refine tkH 2 ⟨some 19,_,_,_,_,_⟩ ?v3 rfl (Or.inl ⟨by rfl,?y3⟩) ?r3
   case y3=>(intro w h;(try dsimp only at h);go_simp;try with_reducible rfl)
   try simp only [Act.put,sA,sB,sC]
   refine tkH 3 ⟨some 20,_,_,_,_,_⟩ ?v4 rfl (Or.inl ⟨by rfl,?y4⟩) ?r4
   case y4=>(intro w h;(try dsimp only at h);go_simp;try with_reducible rfl)
   try simp only [Act.put,sA,sB,sC]
   refine tkH 4 ⟨some 21,_,_,_,_,_⟩ ?v5 rfl (Or.inl ⟨by rfl,?y5⟩) ?r5
   case y5=>(intro w h;(try dsimp only at h);go_simp;try with_reducible rfl)
   try simp only [Act.put,sA,sB,sC]
   refine tkH 5 ⟨some 22,_,_,_,_,_⟩ ?v6 rfl (Or.inl ⟨by rfl,?y6⟩) ?r6
   case y6=>(intro w h;(try dsimp only at h);go_simp;try with_reducible rfl)
   try simp only [Act.put,sA,sB,sC]
   refine tkH 6 ⟨some 23,_,_,_,_,_⟩ ?v7 rfl (Or.inl ⟨by rfl,?y7⟩) ?r7
   case y7=>(intro w h;(try dsimp only at h);go_simp;try with_reducible rfl)
   try simp only [Act.put,sA,sB,sC]
   refine tkH 7 ⟨some 24,_,_,_,_,_⟩ ?v8 rfl (Or.inl ⟨by rfl,?y8⟩) ?r8
   case y8=>(intro w h;(try dsimp only at h);go_simp;try with_reducible rfl)
   try simp only [Act.put,sA,sB,sC]
   refine tkH 8 ⟨some 25,_,_,_,_,_⟩ ?v9 rfl (Or.inl ⟨by rfl,?y9⟩) ?r9
   case y9=>(intro w h;(try dsimp only at h);go_simp;try with_reducible rfl)
   try simp only [Act.put,sA,sB,sC]
   refine tkH 9 ⟨some 26,_,_,_,_,_⟩ ?v10 rfl (Or.inl ⟨by rfl,?y10⟩) ?r10
   case y10=>(intro w h;(try dsimp only at h);go_simp;try with_reducible rfl)
   try simp only [Act.put,sA,sB,sC]
   refine tkH 10 ⟨some 27,_,_,_,_,_⟩ ?v11 rfl (Or.inl ⟨by rfl,?y11⟩) ?r11
   case y11=>(intro w h;(try dsimp only at h);go_simp;try with_reducible rfl)
   try simp only [Act.put,sA,sB,sC]
   refine tkH 11 ⟨some 28,_,_,_,_,_⟩ ?v12 rfl (Or.inl ⟨by rfl,?y12⟩) ?r12
   case y12=>(intro w h;(try dsimp only at h);go_simp;try with_reducible rfl)
   try simp only [Act.put,sA,sB,sC]
   refine tkH 12 ⟨some 29,_,_,_,_,_⟩ ?v13 rfl (Or.inl ⟨by rfl,?y13⟩) ?r13
   case y13=>(intro w h;(try dsimp only at h);go_simp;try with_reducible rfl)
   try simp only [Act.put,sA,sB,sC]
   refine tkH 13 ⟨some 30,_,_,_,_,_⟩ ?v14 rfl (Or.inl ⟨by rfl,?y14⟩) ?r14
   case y14=>(intro w h;(try dsimp only at h);go_simp;try with_reducible rfl)
   try simp only [Act.put,sA,sB,sC]
   refine tkH 14 ⟨some 31,_,_,_,_,_⟩ ?v15 rfl (Or.inl ⟨by rfl,?y15⟩) ?r15
   case y15=>(intro w h;(try dsimp only at h);go_simp;try with_reducible rfl)
   try simp only [Act.put,sA,sB,sC]
   refine tkH 15 ⟨some 32,_,_,_,_,_⟩ ?v16 rfl (Or.inl ⟨by rfl,?y16⟩) ?r16
   case y16=>(intro w h;(try dsimp only at h);go_simp;try with_reducible rfl)
   try simp only [Act.put,sA,sB,sC]
   refine tkH 16 ⟨some 33,_,_,_,_,_⟩ ?v17 rfl (Or.inl ⟨by rfl,?y17⟩) ?r17
   case y17=>(intro w h;(try dsimp only at h);go_simp;try with_reducible rfl)
   try simp only [Act.put,sA,sB,sC]
   refine tkH 17 ⟨some 34,_,_,_,_,_⟩ ?v18 rfl (Or.inl ⟨by rfl,?y18⟩) ?r18
   case y18=>(intro w h;(try dsimp only at h);go_simp;try with_reducible rfl)
   try simp only [Act.put,sA,sB,sC]
   refine tkH 18 ⟨some 35,_,_,_,_,_⟩ ?v19 rfl (Or.inl ⟨by rfl,?y19⟩) ?r19
   case y19=>(intro w h;(try dsimp only at h);go_simp;try with_reducible rfl)
   try simp only [Act.put,sA,sB,sC]
   refine tkH 19 ⟨some 36,_,_,_,_,_⟩ ?v20 rfl (Or.inl ⟨by rfl,?y20⟩) ?r20
   case y20=>(intro w h;(try dsimp only at h);go_simp;try with_reducible rfl)
   try simp only [Act.put,sA,sB,sC]
   refine tkH 20 ⟨some 37,_,_,_,_,_⟩ ?v21 rfl (Or.inl ⟨by rfl,?y21⟩) ?r21
   case y21=>(intro w h;(try dsimp only at h);go_simp;try with_reducible rfl)
   try simp only [Act.put,sA,sB,sC]
   refine tkH 21 ⟨some 38,_,_,_,_,_⟩ ?v22 rfl (Or.inl ⟨by rfl,?y22⟩) ?r22
   case y22=>(intro w h;(try dsimp only at h);go_simp;try with_reducible rfl)
   try simp only [Act.put,sA,sB,sC]
   refine wpAnyH_ready (rs:=[22]) (by kernel_rfl) (by simp) ?_
   refine AllReadyH.cons (o:=⟨some 39,_,_,_,_,_⟩) rfl (fun K hK=>?_) AllReadyH.nil
   go_simp
   with_reducible refine (HSF.out wr.drew (bstep HX.out (bd1 wr))).mono ?_
   rintro e z1 ⟨rfl,hb⟩
   have HZ1:Hid (Below wr.heap.size wr z1):=bstep (bd1 wr) hb
   clear hb
   refine hK.out _ _ (HS.out z1 HZ1.out) (fun hHeld=>?_)
   clear hK K
   try simp only [sA,sB,sC]
   refine tkH 23 ⟨some 40,_,_,_,_,_⟩ ?v23 rfl (Or.inl ⟨by rfl,?y23⟩) ?r23
   case y23=>(intro w h;(try dsimp only at h);go_simp;try with_reducible rfl)
   try simp only [Act.put,sA,sB,sC]
   refine tkH 24 ⟨some 41,_,_,_,_,_⟩ ?v24 rfl (Or.inl ⟨by rfl,?y24⟩) ?r24
   case y24=>(intro w h;(try dsimp only at h);go_simp;try with_reducible rfl)
   try simp only [Act.put,sA,sB,sC]
   refine tkH 25 ⟨some 42,_,_,_,_,_⟩ ?v25 rfl (Or.inl ⟨by rfl,?y25⟩) ?r25
   case y25=>(intro w h;(try dsimp only at h);go_simp;try with_reducible rfl)
   try simp only [Act.put,sA,sB,sC]
   refine tkH 26 ⟨some 43,_,_,_,_,_⟩ ?v26 rfl (Or.inl ⟨by rfl,?y26⟩) ?r26
   case y26=>(intro w h;(try dsimp only at h);go_simp;try with_reducible rfl)
   try simp only [Act.put,sA,sB,sC]
   refine tkH 27 ⟨some 44,_,_,_,_,_⟩ ?v27 rfl (Or.inl ⟨by rfl,?y27⟩) ?r27
   case y27=>(intro w h;(try dsimp only at h);go_simp;try with_reducible rfl)
   try simp only [Act.put,sA,sB,sC]
   refine tkH 28 ⟨some 45,_,_,_,_,_⟩ ?v28 rfl (Or.inl ⟨by rfl,?y28⟩) ?r28
   case y28=>(intro w h;(try dsimp only at h);go_simp;try with_reducible rfl)
   try simp only [Act.put,sA,sB,sC]
   refine tkH 29 ⟨some 46,_,_,_,_,_⟩ ?v29 rfl (Or.inl ⟨by rfl,?y29⟩) ?r29
   case y29=>(intro w h;(try dsimp only at h);go_simp;try with_reducible rfl)
   try simp only [Act.put,sA,sB,sC]
   refine tkH 30 ⟨some 47,_,_,_,_,_⟩ ?v30 rfl (Or.inl ⟨by rfl,?y30⟩) ?r30
   case y30=>(intro w h;(try dsimp only at h);go_simp;try with_reducible rfl)
   try simp only [Act.put,sA,sB,sC]
   refine tkH 31 ⟨some 48,_,_,_,_,_⟩ ?v31 rfl (Or.inl ⟨by rfl,?y31⟩) ?r31
   case y31=>(intro w h;(try dsimp only at h);go_simp;try with_reducible rfl)
   try simp only [Act.put,sA,sB,sC]
   refine tkH 32 ⟨some 49,_,_,_,_,_⟩ ?v32 rfl (Or.inl ⟨by rfl,?y32⟩) ?r32
   case y32=>(intro w h;(try dsimp only at h);go_simp;try with_reducible rfl)
   try simp only [Act.put,sA,sB,sC]
   refine tkH 33 ⟨some 50,_,_,_,_,_⟩ ?v33 rfl (Or.inl ⟨by rfl,?y33⟩) ?r33
   case y33=>(intro w h;(try dsimp only at h);go_simp;try with_reducible rfl)
   try simp only [Act.put,sA,sB,sC]
   refine tkH 34 ⟨some 51,_,_,_,_,_⟩ ?v34 rfl (Or.inl ⟨by rfl,?y34⟩) ?r34
   case y34=>(intro w h;(try dsimp only at h);go_simp;try with_reducible rfl)
   try simp only [Act.put,sA,sB,sC]
   refine tkH 35 ⟨some 52,_,_,_,_,_⟩ ?v35 rfl (Or.inl ⟨by rfl,?y35⟩) ?r35
   case y35=>(intro w h;(try dsimp only at h);go_simp;try with_reducible rfl)
   try simp only [Act.put,sA,sB,sC]
   refine wpAnyH_ready (rs:=[36]) (by kernel_rfl) (by simp) ?_
   refine AllReadyH.cons (o:=⟨some 53,_,_,_,_,_⟩) rfl (fun K hK=>?_) AllReadyH.nil
   go_simp
   with_reducible refine (HSL.out z1 (bstep HX.out HZ1.out)).mono ?_
   rintro e z2 ⟨rfl,hb⟩
   have HZ2:Hid (Below wr.heap.size wr z2):=bstep HZ1.out hb
   clear hb
   refine hK.out _ _ (HS.out z2 HZ2.out) (fun hHeld=>?_)
   clear hK K
   try simp only [sA,sB,sC]
   refine tkH 37 ⟨some 54,_,_,_,_,_⟩ ?v36 rfl (Or.inl ⟨by rfl,?y36⟩) ?r36
   case y36=>(intro w h;(try dsimp only at h);go_simp;try with_reducible rfl)
   try simp only [Act.put,sA,sB,sC]
   refine tkH 38 ⟨some 55,_,_,_,_,_⟩ ?v37 rfl (Or.inl ⟨by rfl,?y37⟩) ?r37
   case y37=>(intro w h;(try dsimp only at h);go_simp;try with_reducible rfl)
   try simp only [Act.put,sA,sB,sC]
   refine wpAnyH_done (by kernel_rfl) ?_ _
   refine NoPanic.normal ?_
   clear hHeld g0 g1 g2 g3 g4 g5 g6 g7
   go_wp2_with fail
   go_roundw
   case rel=>exact ⟨i+1,by go_num,by omega,bstep HX.out HZ2.out⟩
   case measure=>simp [intOf];omega
  ·obtain rfl:n=i:=by omega
   go_wp2_with fail
   go_ret
   exact ⟨rfl,HX.out⟩
end Go.Proofs.YtkheacknelbcnaaGreatDoor

namespace Go.Proofs.YtkheacknelbcnaaGreatDoor
open Go.RowKit Go.Maps
theorem srcL_len (l:List Fl) (a:Lb):(srcL l a).length≤l.length:=by
 unfold srcL keep
 exact List.length_filter_le _ _
/-- what is built is small -/
theorem bld_fine {l:List Fl} {t N:List Lb} {E:List Ee} {c:List (List UInt8)} (B:OfB l t) (h:refE l t=0→RchS l t N E c):(bldP l t N E c).2.circ.length≤100000000∧(bldP l t N E c).1.length≤100000000∧∀ n∈(bldP l t N E c).1,n.srcs.length≤100000000∧n.deps.length≤100000000:=by
 unfold bldP
 by_cases h0:refE l t=0
 ·rw [if_pos h0]
  have S:=h h0
  have hu:=uni_le l t
  have hb:=B.ul
  have hU:∀ x∈N,x∈uniL l t:=fun x hx=>(uni_ok l t).all x ((S.nn x).1 hx)
  have hrs:(rs N).length≤(uniL l t).length:=Gs.nodup_sub (rs N) _ (rs_nd N) (fun x hx=>hU x ((Gs.mem_ris x N).1 hx))
  split
  ·refine ⟨?_,by simp,fun n hn=>by simp at hn⟩
   unfold fltP
   split
   ·simp [Fv.pf]
   ·split
    ·simp [Fv.pf]
    ·split
     ·show ((crcL N E).getD []).length≤_
      cases hc:crcL N E with
      | none=>simp
      | some p=>
       have hp:p∈Gs.pts ltL N E:=List.mem_of_find?_eq_some hc
       unfold Gs.pts at hp
       obtain ⟨a,_,rfl⟩:=List.mem_map.1 hp
       have h1:=Gs.nodup_sub (Gs.part ltL N E a) (uniL l t) (Gs.Ris.nodup stoL (Gs.part_up stoL N E a)) (fun x hx=>hU x (Gs.mem_part.1 hx).1)
       simp only [Option.getD_some]
       omega
     ·simp [Fv.pf]
  ·refine ⟨by simp [zPf],?_,fun n hn=>?_⟩
   ·unfold ndsP
    rw [List.length_map]
    cases e:Gs.ord (rs N) E with
    | none=>simp
    | some L=>
     have h1:=(Gs.ordF_some _ _ _ (Gs.Tld.nil _ _) e).2.1
     simp only [Option.getD_some,List.length_nil] at h1 ⊢
     omega
   ·unfold ndsP at hn
    obtain ⟨a,_,rfl⟩:=List.mem_map.1 hn
    have h1:=srcL_len l a
    have h2:=B.ll
    have h3:=Gs.nodup_sub (rs (oE E a)) (dpsL l a) (rs_nd _) (fun x hx=>((S.ee a x).1 (mem_oE.1 ((Gs.mem_ris x _).1 hx))).2)
    have h4:=(dps_small (l:=l) a).1
    simp only [ndF]
    omega
 ·rw [if_neg h0]
  simp
end Go.Proofs.YtkheacknelbcnaaGreatDoor

namespace Go.Proofs.YtkheacknelbcnaaGreatDoor
open Go.RowKit Go.Maps
theorem fine_of {l:List Fl} {t:List Lb} (h:totf l+totl t≤1048576) (hb:∀ i∈l,-9223372036854775808≤i.blob∧i.blob≤9223372036854775807∧-9223372036854775808≤i.size∧i.size≤9223372036854775807):OfB l t:=by
 have h1:=totf_len l
 have h2:=totf_mem l
 have h3:=totl_len t
 have h4:=totl_mem t
 have hok:∀ f∈l,Fok f:=fun f hf=>by
  have:=h2 f hf
  obtain ⟨g1,g2,g3,g4⟩:=hb f hf
  exact ⟨by omega,by omega,g1,g2,g3,g4⟩
 refine ⟨⟨by omega,hok,fun f hf=>by have:=h2 f hf;omega⟩,⟨by omega,hok⟩,by omega,by omega,fun x hx=>?_,by omega⟩
 have:=h4 x hx
 exact ⟨by omega,by omega⟩
end Go.Proofs.YtkheacknelbcnaaGreatDoor

namespace Go.Proofs.YtkheacknelbcnaaGreatDoor
open Go.RowKit Go.Maps
theorem txt_sub {p l:List Fl} (h:p.Sublist l):txt p≤txt l:=by
 induction h with
 | slnil=>exact Nat.le_refl _
 | cons a _ ih=>simp only [txt];omega
 | cons_cons a _ ih=>simp only [txt];omega
theorem OfB.sub {l p:List Fl} {t:List Lb} (B:OfB l t) (h:p.Sublist l):OfB p t:=by
 have h1:=txt_sub h
 have h2:=h.length_le
 have h3:=B.fs.len
 have h4:=B.ll
 have h5:=B.ul
 exact ⟨B.fq.sub h2 (fun f hf=>h.subset hf),⟨by omega,fun f hf=>B.fs.each f (h.subset hf)⟩,by omega,B.tl,B.lm,by omega⟩
/-- what is there when the whole is built -/
structure PX (w W:World) (l:List Fl) (t:List Lb) (kb:List Bool) (nd:List Nd) (lv tv kv nv:Value) (b0:Nat):Prop where
 ev:Ev W
 fl:FS W lv l
 lt:LS W tv t
 kl:BL W kv kb
 no:NOwn b0 W nv nd
 ob:OfB l t
 ok:NdOk l t nd
 bd:∀ p N E c,Prt l p t→(refE p t=0→RchS p t N E c)→bldP p t N E c=(nd,zPf)
 srl:∀ n∈nd,∀ f∈n.srcs,f∈l
 pkl:∀ n∈nd,n.lab.pkg.length≤1000000000
 sz:nd.length≤100000000∧∀ n∈nd,n.srcs.length≤100000000∧n.deps.length≤100000000
 bel:Below w.heap.size w W
theorem PX.later {w W W':World} {l:List Fl} {t:List Lb} {kb:List Bool} {nd:List Nd} {lv tv kv nv:Value} {b0:Nat} (X:PX w W l t kb nd lv tv kv nv b0) (hb:Below W.heap.size W W'):PX w W' l t kb nd lv tv kv nv b0:=
 ⟨X.ev.later hb,X.fl.later hb,X.lt.later hb,X.kl.later hb,X.no.later hb,X.ob,X.ok,X.bd,X.srl,X.pkl,X.sz,bstep X.bel hb⟩
theorem PX.node {w W:World} {l:List Fl} {t:List Lb} {kb:List Bool} {nd:List Nd} {lv tv kv:Value} {b0 nn nc:Nat} {na:Option Addr} (X:PX w W l t kb nd lv tv kv (.slice na nn nc) b0) {j:Nat} (hj:j < nd.length) :
  ∃ x:Nv,(∀ W',Below W.heap.size W W'→∃ b2 off2,na=some ⟨b2,off2,none⟩∧W'.cell? ⟨b2,off2+j * 4,none⟩=some (.string (bs x.pkg))∧W'.cell? ⟨b2,off2+j * 4+1,none⟩=some (.string (bs x.name))∧W'.cell? ⟨b2,off2+j * 4+2,none⟩=some (.slice x.sa x.sn x.sc)∧W'.cell? ⟨b2,off2+j * 4+3,none⟩=some (.slice x.da x.dn x.dc))∧(⟨x.pkg,x.name⟩:Lb)=nd[j].lab∧FS W (.slice x.sa x.sn x.sc) nd[j].srcs∧LS W (.slice x.da x.dn x.dc) nd[j].deps:=by
 obtain ⟨xs,x1,x2,x3,_,_⟩:=X.no.it
 have hjx:j < xs.length:=by rw [x2];exact hj
 have h:=x3 j hjx hj
 refine ⟨xs[j],fun W' hW=>?_,h.lab,h.s.fs,h.d.rs⟩
 obtain ⟨b,off,e,_,c0,c1,c2,c3⟩:=NS.at x1.rs hW hjx
 exact ⟨b,off,e,c0,c1,c2,c3⟩
set_option maxRecDepth 100000 in
set_option maxHeartbeats 16000000 in
theorem q39 {w W:World} {l p:List Fl} {t:List Lb} {kb:List Bool} {nd:List Nd} {lv kv:Value} {b0:Nat} {ta na pa:Option Addr} {tn tc nn nc pn pc:Nat} {lv0 lv2 lv3 lv4 lv5 lv6 lv8 lv9 lv10 lv11 lv12 lv13 lv15 lv16 lv17 lv18 lv19 lv20 lv21 lv22 lv23 lv24 lv25 lv26 lv27 lv28 lv29 lv30 lv31 lv32 lv33 lv34 lv35 lv36 lv37 lv38 lv39 lv40 lv41 lv42 lv43 lv44 lv45 lv46 lv47 lv48 lv49 lv50 lv51 lv52 lv53 lv54 lv55 lv56 lv57 lv58 lv59 lv60 lv61 lv62 lv63 lv64 lv65 lv66 lv67 lv68 lv69 lv70 lv71 lv72 lv73 lv74 lv75 lv76 lv77 lv78 lv79 lv80 lv81 lv82 lv83 lv84 lv85 lv86 lv87 lv88 lv89 lv90 lv91 lv92 lv93 lv94 lv95 lv96 lv97 lv98 lv99 lv100 lv101 lv102 lv103 lv104 lv105 lv106 lv107 lv108 lv109 lv110 lv111 lv112 lv113 lv114 lv115 lv116 lv117 lv118 lv119 lv120 lv121 lv122 lv123 lv124 lv125 lv126 lv127 lv128 lv129 lv130 lv131 lv132 lv133 lv134 lv135 lv136 lv137 lv138 lv139 lv140 lv141 lv142 lv143 lv144 lv145 lv146 lv147 lv148 lv149 lv150 lv151 lv152 lv153 lv154 lv155 lv156 lv157 lv158 lv159 lv160 lv161 lv162 lv163 lv164 lv165 lv166 lv167 lv168 lv169 lv170 lv171 lv172 lv173 lv174 lv175 lv176 lv177 lv178 lv179 lv180 lv181:Value} (X:Hid (PX w W l t kb nd lv (.slice ta tn tc) kv (.slice na nn nc) b0)) (P:Hid (FS W (.slice pa pn pc) p∧Prt l p t)) :
  Code.wp Tryz.prog (suff 39 (Tryz.f4.body.getD .skip)) (bodyPost Tryz.prog Tryz.f4 (GoodE w)) ⟨#[lv0,.slice ta tn tc,lv2,lv3,lv4,lv5,lv6,.slice na nn nc,lv8,lv9,lv10,lv11,lv12,lv13,.slice pa pn pc,lv15,lv16,lv17,lv18,lv19,lv20,lv21,lv22,lv23,lv24,lv25,lv26,lv27,lv28,lv29,lv30,lv31,lv32,lv33,lv34,lv35,lv36,lv37,lv38,lv39,lv40,lv41,lv42,lv43,lv44,lv45,lv46,lv47,lv48,lv49,lv50,lv51,lv52,lv53,lv54,lv55,lv56,lv57,lv58,lv59,lv60,lv61,lv62,lv63,lv64,lv65,lv66,lv67,lv68,lv69,lv70,lv71,lv72,lv73,lv74,lv75,lv76,lv77,lv78,lv79,lv80,lv81,lv82,lv83,lv84,lv85,lv86,lv87,lv88,lv89,lv90,lv91,lv92,lv93,lv94,lv95,lv96,lv97,lv98,lv99,lv100,lv101,lv102,lv103,lv104,lv105,lv106,lv107,lv108,lv109,lv110,lv111,lv112,lv113,lv114,lv115,lv116,lv117,lv118,lv119,lv120,lv121,lv122,lv123,lv124,lv125,lv126,lv127,lv128,lv129,lv130,lv131,lv132,lv133,lv134,lv135,lv136,lv137,lv138,lv139,lv140,lv141,lv142,lv143,lv144,lv145,lv146,lv147,lv148,lv149,lv150,lv151,lv152,lv153,lv154,lv155,lv156,lv157,lv158,lv159,lv160,lv161,lv162,lv163,lv164,lv165,lv166,lv167,lv168,lv169,lv170,lv171,lv172,lv173,lv174,lv175,lv176,lv177,lv178,lv179,lv180,lv181],[]⟩ W:=by
 unfold GoodE
 conv=>arg 2;whnf
 have HLA:=hid_of (labels_any X.out.lt (by have:=X.out.ob.tl;omega))
 go_wp2_with fail
 refine HLA.out.mono ?_
 rintro e w3 ⟨v3,rfl,ho3,hb3⟩
 have HB3:Hid (Below W.heap.size W w3):=hb3
 have HOF:=hid_of (bof_any (X.out.ev.later hb3) (P.out.1.later hb3) ho3 (X.out.ob.sub P.out.2.sub))
 obtain ⟨xa3,xc3,hx3⟩:=ho3.form
 obtain ⟨n3,hn3⟩:∃ n3,t.length=n3:=⟨_,rfl⟩
 rw [hn3] at hx3
 subst hx3
 clear ho3 hb3 hn3 HLA
 go_wp2_with fail
 refine HOF.out.mono ?_
 rintro e w4 h
 unfold OfP at h
 obtain ⟨nv,fv,N,E,c,rfl,hR,hno,hfi,hb4⟩:=h
 have heq:=X.out.bd p N E c P.out.2 hR
 rw [heq] at hno hfi
 simp only at hno hfi
 have HB4:Hid (Below W.heap.size W w4):=bstep HB3.out hb4
 have HNO:Hid (NOwn w3.heap.size w4 nv nd):=hno
 obtain ⟨ma,mc,hnv⟩:=hno.form
 obtain ⟨mn,hmn⟩:∃ mn,nd.length=mn:=⟨_,rfl⟩
 rw [hmn] at hnv
 subst hnv
 clear hmn hR hno hb4 HOF heq
 obtain ⟨fc,⟨lp,ln⟩,⟨op,on⟩,fp,fa,ca,cn,cc⟩:=fv
 have hit:=hfi.it
 simp only [Fv.pf,zPf,Pf.mk.injEq,Lb.mk.injEq,and_true] at hit
 obtain ⟨rfl,⟨rfl,rfl⟩,⟨rfl,rfl⟩,rfl,rfl⟩:=hit
 clear hfi
 obtain ⟨w5,hw5⟩:∃ w5,w4.alloc (.cells #[.int .i64 0,.string (bs []),.string (bs []),.string (bs []),.string (bs []),.string (bs []),.int .i64 0,.slice ca cn cc] 30)=w5:=⟨_,rfl⟩
 have HB5:Hid (Below w4.heap.size w4 w5):=by
  show Below w4.heap.size w4 w5
  rw [← hw5];exact balloc _ _
 have hfk:FK w5 w4.heap.size ⟨0,⟨[],[]⟩,⟨[],[]⟩,[],0,ca,cn,cc⟩:=by
  rw [← hw5];exact FK.new _ ⟨0,⟨[],[]⟩,⟨[],[]⟩,[],0,ca,cn,cc⟩
 obtain ⟨u0,_⟩:=hfk.get
 have hval:Fv.val ⟨0,⟨[],[]⟩,⟨[],[]⟩,[],0,ca,cn,cc⟩=.agg #[.int .i64 0,.string (bs []),.string (bs []),.string (bs []),.string (bs []),.string (bs []),.int .i64 0,.slice ca cn cc]:=rfl
 rw [hval]
 clear hval hfk
 have HSN:=hid_of (sameNodes_any ((X.out.no.later HB4.out).later HB5.out) (HNO.out.later HB5.out) X.out.sz.1 X.out.sz.2)
 go_upto_region 40 with fail
 try rw [hw5]
 clear hw5
 go_wp2_with fail
 refine HSN.out.mono ?_
 rintro e w6 ⟨rfl,hb6⟩
 have HB6:Hid (Below W.heap.size W w6):=bstep (bstep HB4.out HB5.out) hb6
 clear hb6 u0
 go_wp2_with fail
 go_ret
 exact ⟨rfl,bstep X.out.bel HB6.out⟩
end Go.Proofs.YtkheacknelbcnaaGreatDoor
