/-
  The law of BuildParts: what a node needs is ahead of it; each node is told once.
  The law of BuildParts.
-/
import Derived.Test.YtkheacknelbcnaaGreatDoorYd
namespace Go.Proofs.YtkheacknelbcnaaGreatDoor
open Go.RowKit Go.Maps
set_option maxRecDepth 100000 in
set_option maxHeartbeats 16000000 in
theorem q6 {w W:World} {l:List Fl} {t:List Lb} {kb:List Bool} {nd:List Nd} {b0:Nat} {fa ta ka na:Option Addr} {fn fc tn tc kn kc nn nc:Nat} {lv3 lv4 lv5 lv6 lv8 lv9 lv10 lv11 lv12 lv13 lv14 lv15 lv16 lv17 lv18 lv19 lv20 lv21 lv22 lv23 lv24 lv25 lv26 lv27 lv28 lv29 lv30 lv31 lv32 lv33 lv34 lv35 lv36 lv37 lv38 lv39 lv40 lv41 lv42 lv43 lv44 lv45 lv46 lv47 lv48 lv49 lv50 lv51 lv52 lv53 lv54 lv55 lv56 lv57 lv58 lv59 lv60 lv61 lv62 lv63 lv64 lv65 lv66 lv67 lv68 lv69 lv70 lv71 lv72 lv73 lv74 lv75 lv76 lv77 lv78 lv79 lv80 lv81 lv82 lv83 lv84 lv85 lv86 lv87 lv88 lv89 lv90 lv91 lv92 lv93 lv94 lv95 lv96 lv97 lv98 lv99 lv100 lv101 lv102 lv103 lv104 lv105 lv106 lv107 lv108 lv109 lv110 lv111 lv112 lv113 lv114 lv115 lv116 lv117 lv118 lv119 lv120 lv121 lv122 lv123 lv124 lv125 lv126 lv127 lv128 lv129 lv130 lv131 lv132 lv133 lv134 lv135 lv136 lv137 lv138 lv139 lv140 lv141 lv142 lv143 lv144 lv145 lv146 lv147 lv148 lv149 lv150 lv151 lv152 lv153 lv154 lv155 lv156 lv157 lv158 lv159 lv160 lv161 lv162 lv163 lv164 lv165 lv166 lv167 lv168 lv169 lv170 lv171 lv172 lv173 lv174 lv175 lv176 lv177 lv178 lv179 lv180 lv181:Value} (X:Hid (PX w W l t kb nd (.slice fa fn fc) (.slice ta tn tc) (.slice ka kn kc) (.slice na nn nc) b0)) :
  Code.wp Tryz.prog (suff 6 (Tryz.f4.body.getD .skip)) (bodyPost Tryz.prog Tryz.f4 (GoodE w)) ⟨#[.slice fa fn fc,.slice ta tn tc,.slice ka kn kc,lv3,lv4,lv5,lv6,.slice na nn nc,lv8,lv9,lv10,lv11,lv12,lv13,lv14,lv15,lv16,lv17,lv18,lv19,lv20,lv21,lv22,lv23,lv24,lv25,lv26,lv27,lv28,lv29,lv30,lv31,lv32,lv33,lv34,lv35,lv36,lv37,lv38,lv39,lv40,lv41,lv42,lv43,lv44,lv45,lv46,lv47,lv48,lv49,lv50,lv51,lv52,lv53,lv54,lv55,lv56,lv57,lv58,lv59,lv60,lv61,lv62,lv63,lv64,lv65,lv66,lv67,lv68,lv69,lv70,lv71,lv72,lv73,lv74,lv75,lv76,lv77,lv78,lv79,lv80,lv81,lv82,lv83,lv84,lv85,lv86,lv87,lv88,lv89,lv90,lv91,lv92,lv93,lv94,lv95,lv96,lv97,lv98,lv99,lv100,lv101,lv102,lv103,lv104,lv105,lv106,lv107,lv108,lv109,lv110,lv111,lv112,lv113,lv114,lv115,lv116,lv117,lv118,lv119,lv120,lv121,lv122,lv123,lv124,lv125,lv126,lv127,lv128,lv129,lv130,lv131,lv132,lv133,lv134,lv135,lv136,lv137,lv138,lv139,lv140,lv141,lv142,lv143,lv144,lv145,lv146,lv147,lv148,lv149,lv150,lv151,lv152,lv153,lv154,lv155,lv156,lv157,lv158,lv159,lv160,lv161,lv162,lv163,lv164,lv165,lv166,lv167,lv168,lv169,lv170,lv171,lv172,lv173,lv174,lv175,lv176,lv177,lv178,lv179,lv180,lv181],[]⟩ W:=by
 conv=>arg 2;whnf
 have HNN:Hid (nd.length=nn):=by
  obtain ⟨a,c,e⟩:=X.out.no.form
  injection e with _ e2 _
  exact e2.symm
 have hnn9:nn≤100000000:=by have:=X.out.sz.1;have:=HNN.out;omega
 refine wp_seq_k fun K hK=>?_
 have HK:Hid _:=hK
 clear hK
 go_wp2_with fail
 go_loopw [9] (fun iv wr=>∃ (i:Nat),i≤nn∧iv=.int .i64 i∧Below W.heap.size W wr) (fun iv _=>nn - (intOf iv).toNat)
 case atStart=>exact ⟨0,by omega,rfl,Below.refl _ _⟩
 case round=>
  obtain ⟨i,hi0,rfl,hb⟩:=hrel
  have X5:Hid (Below W.heap.size W wr):=hb
  clear hb
  by_cases hi:i < nn
  ·have i1:(i:Int) < (nn:Int):=by omega
   have i2:(0:Int)≤(i:Int):=by omega
   have hil:i < nd.length:=by rw [HNN.out];exact hi
   obtain ⟨x,hxa,hxl,hxs,hxd⟩:=X.out.node hil
   have HXA:=hid_of hxa
   have HXL:=hid_of hxl
   have HXD:=hid_of hxd
   have HSZ:=hid_of ((X.out.sz.2 nd[i] (List.getElem_mem hil)).2)
   have HAH:=hid_of (X.out.ok.ahead i hil)
   clear hxa hxl hxs hxd
   obtain ⟨np,nm,sa,sn,sc,da,dn,dc⟩:=x
   simp only at HXA HXL HXD
   obtain ⟨b,off,eb,_⟩:=HXA.out wr X5.out
   subst eb
   have HDN:Hid (nd[i].deps.length=dn):=by
    obtain ⟨a,c,e,_⟩:=HXD.out.form
    injection e with _ e2 _
    exact e2.symm
   have hdn9:dn≤100000000:=by rw [← HDN.out];exact HSZ.out
   have HNA:Hid (∀ W',Below W.heap.size W W'→W'.cell? ⟨b,off+i * 4,none⟩=some (.string (bs np))∧W'.cell? ⟨b,off+i * 4+1,none⟩=some (.string (bs nm))∧W'.cell? ⟨b,off+i * 4+3,none⟩=some (.slice da dn dc)):=fun W' hW=>by
    obtain ⟨b9,o9,e9,c0,c1,_,c3⟩:=HXA.out W' hW
    cases e9
    exact ⟨c0,c1,c3⟩
   go_wp2_with fail
   go_loopw [10] (fun kv wq=>∃ (k:Nat),k≤dn∧kv=.int .i64 k∧Below W.heap.size W wq) (fun kv _=>dn - (intOf kv).toNat)
   case atStart=>exact ⟨0,by omega,rfl,X5.out⟩
   case round=>
    rename World=>wq
    obtain ⟨k,hk0,rfl,hb⟩:=hrel
    have X6:Hid (Below W.heap.size W wq):=hb
    clear hb
    obtain ⟨c0,c1,c3⟩:=HNA.out wq X6.out
    by_cases hk:k < dn
    ·have k1:(k:Int) < (dn:Int):=by omega
     have k2:(0:Int)≤(k:Int):=by omega
     have hkl:k < nd[i].deps.length:=by rw [HDN.out];exact hk
     have HDC:Hid (∀ W',Below W.heap.size W W'→∃ b4 o4,da=some ⟨b4,o4,none⟩∧W'.cell? ⟨b4,o4+k * 2,none⟩=some (.string (bs nd[i].deps[k].pkg))∧W'.cell? ⟨b4,o4+k * 2+1,none⟩=some (.string (bs nd[i].deps[k].name))):=fun W' hW=>by
      obtain ⟨b4,o4,e,_,d0,d1⟩:=LS.at HXD.out hW hkl
      exact ⟨b4,o4,e,d0,d1⟩
     have HAK:=hid_of (HAH.out nd[i].deps[k] (List.getElem_mem hkl))
     obtain ⟨g,hgk⟩:∃ g,nd[i].deps[k]=g:=⟨_,rfl⟩
     rw [hgk] at HDC HAK
     clear hgk
     obtain ⟨b4,o4,eb4,_⟩:=HDC.out wq X6.out
     subst eb4
     obtain ⟨gp,gm⟩:=g
     simp only at HDC
     have HDA:Hid (∀ W',Below W.heap.size W W'→W'.cell? ⟨b4,o4+k * 2,none⟩=some (.string (bs gp))∧W'.cell? ⟨b4,o4+k * 2+1,none⟩=some (.string (bs gm))):=fun W' hW=>by
      obtain ⟨b9,o9,e9,d0,d1⟩:=HDC.out W' hW
      cases e9
      exact ⟨d0,d1⟩
     go_wp2_with fail
     go_loopw [11,12] (fun av jv wz=>∃ (j:Nat) (a:Bool),j≤i∧jv=.int .i64 j∧av=.bool a∧(∀ y∈nd.take j,y.lab=⟨gp,gm⟩→a=true)∧Below wq.heap.size wq wz) (fun _ jv _=>i - (intOf jv).toNat)
     case atStart=>exact ⟨0,false,by omega,rfl,rfl,by simp,Below.refl _ _⟩
     case round=>
      rename World=>wz
      obtain ⟨j,a,hj0,rfl,rfl,ha,hbz⟩:=hrel
      have X8:Hid ((∀ y∈nd.take j,y.lab=⟨gp,gm⟩→a=true)∧Below wq.heap.size wq wz∧Below W.heap.size W wz):=⟨ha,hbz,bstep X6.out hbz⟩
      clear ha hbz
      by_cases hj:j < i
      ·have j1:(j:Int) < (i:Int):=by omega
       have j2:(0:Int)≤(j:Int):=by omega
       have j3:(j:Int) < (nn:Int):=by omega
       have hjl:j < nd.length:=by rw [HNN.out];omega
       have HTJ:Hid (nd.take (j+1)=nd.take j++[nd[j]]):=List.take_succ_eq_append_getElem hjl
       obtain ⟨y,hya,hyl,_⟩:=X.out.node hjl
       have HYA:=hid_of hya
       have HYL:=hid_of hyl
       clear hya hyl
       obtain ⟨jp,jm,jsa,jsn,jsc,jda,jdn,jdc⟩:=y
       simp only at HYA HYL
       have HJA:Hid (∀ W',Below W.heap.size W W'→W'.cell? ⟨b,off+j * 4,none⟩=some (.string (bs jp))∧W'.cell? ⟨b,off+j * 4+1,none⟩=some (.string (bs jm))):=fun W' hW=>by
        obtain ⟨b9,o9,e9,c0,c1,_⟩:=HYA.out W' hW
        cases e9
        exact ⟨c0,c1⟩
       go_upto_region 16 with fail
       cases a with
       | true=>
        refine wp_region_noPanic ?_
        refine wp_region_held_drew (S:=fun _=>True) (by kernel_rfl) trivial (fun hHeld=>?_)
        refine tkH 0 ⟨some 58,_,_,_,_,_⟩ ?v1 rfl (Or.inl ⟨by rfl,?y1⟩) ?r1
        case y1=>(intro w h;(try dsimp only at h);go_simp;try with_reducible rfl)
        try simp only [Act.put,sA,sB,sC]
        refine tkH 1 ⟨some 59,_,_,_,_,_⟩ ?v2 rfl (Or.inl ⟨by rfl,?y2⟩) ?r2
        case y2=>(intro w h;(try dsimp only at h);go_simp;try with_reducible rfl)
        try simp only [Act.put,sA,sB,sC]
        refine tkH 2 ⟨some 60,_,_,_,_,_⟩ undef rfl (Or.inr ⟨by rfl,rfl⟩) ?_
        try simp only [Act.put,sA,sB,sC]
        refine tkH 3 ⟨some 61,_,_,_,_,_⟩ undef rfl (Or.inr ⟨by rfl,rfl⟩) ?_
        try simp only [Act.put,sA,sB,sC]
        refine tkH 4 ⟨some 62,_,_,_,_,_⟩ undef rfl (Or.inr ⟨by rfl,rfl⟩) ?_
        try simp only [Act.put,sA,sB,sC]
        refine tkH 5 ⟨some 63,_,_,_,_,_⟩ undef rfl (Or.inr ⟨by rfl,rfl⟩) ?_
        try simp only [Act.put,sA,sB,sC]
        refine tkH 6 ⟨some 64,_,_,_,_,_⟩ undef rfl (Or.inr ⟨by rfl,rfl⟩) ?_
        try simp only [Act.put,sA,sB,sC]
        refine tkH 7 ⟨some 65,_,_,_,_,_⟩ undef rfl (Or.inr ⟨by rfl,rfl⟩) ?_
        try simp only [Act.put,sA,sB,sC]
        refine tkH 8 ⟨some 66,_,_,_,_,_⟩ undef rfl (Or.inr ⟨by rfl,rfl⟩) ?_
        try simp only [Act.put,sA,sB,sC]
        refine tkH 9 ⟨some 67,_,_,_,_,_⟩ undef rfl (Or.inr ⟨by rfl,rfl⟩) ?_
        try simp only [Act.put,sA,sB,sC]
        refine tkH 10 ⟨some 68,_,_,_,_,_⟩ undef rfl (Or.inr ⟨by rfl,rfl⟩) ?_
        try simp only [Act.put,sA,sB,sC]
        refine tkH 11 ⟨some 69,_,_,_,_,_⟩ undef rfl (Or.inr ⟨by rfl,rfl⟩) ?_
        try simp only [Act.put,sA,sB,sC]
        refine tkH 12 ⟨some 70,_,_,_,_,_⟩ undef rfl (Or.inr ⟨by rfl,rfl⟩) ?_
        try simp only [Act.put,sA,sB,sC]
        refine tkH 13 ⟨some 71,_,_,_,_,_⟩ undef rfl (Or.inr ⟨by rfl,rfl⟩) ?_
        try simp only [Act.put,sA,sB,sC]
        refine tkH 14 ⟨some 72,_,_,_,_,_⟩ undef rfl (Or.inr ⟨by rfl,rfl⟩) ?_
        try simp only [Act.put,sA,sB,sC]
        refine tkH 15 ⟨some 73,_,_,_,_,_⟩ undef rfl (Or.inr ⟨by rfl,rfl⟩) ?_
        try simp only [Act.put,sA,sB,sC]
        refine tkH 16 ⟨some 74,_,_,_,_,_⟩ ?v3 rfl (Or.inl ⟨by rfl,?y3⟩) ?r3
        case y3=>(intro w h;(try dsimp only at h);go_simp;try with_reducible rfl)
        try simp only [Act.put,sA,sB,sC]
        refine tkH 17 ⟨some 11,_,_,_,_,_⟩ ?v4 rfl (Or.inl ⟨by rfl,?y4⟩) ?r4
        case y4=>(intro w h;(try dsimp only at h);go_simp;try with_reducible rfl)
        try simp only [Act.put,sA,sB,sC]
        refine wpAnyH_done (by kernel_rfl) ?_ _
        refine NoPanic.normal ?_
        go_wp2_with fail
        go_roundw
        case rel=>exact ⟨j+1,_,by omega,by go_num,rfl,fun _ _ _=>rfl,bstep X8.out.2.1 (bd1 _)⟩
        case measure=>simp [intOf];omega
       | false=>
        have HB1:Hid (Below W.heap.size W wz.drew):=bstep X8.out.2.2 (bd1 wz)
        obtain ⟨m0,m1⟩:=HJA.out _ HB1.out
        obtain ⟨v0,v1⟩:=HDA.out _ HB1.out
        have v4:=(HNA.out _ HB1.out).2.2
        have hq:=leql_run'
        have hg:=guard_run
        refine wp_region_noPanic ?_
        refine wp_region_held_drew (S:=fun W'=>W'.cell? ⟨b,off+j * 4,none⟩=some (.string (bs jp))∧W'.cell? ⟨b,off+j * 4+1,none⟩=some (.string (bs jm))∧W'.cell? ⟨b,off+i * 4+3,none⟩=some (.slice (some ⟨b4,o4,none⟩) dn dc)∧W'.cell? ⟨b4,o4+k * 2,none⟩=some (.string (bs gp))∧W'.cell? ⟨b4,o4+k * 2+1,none⟩=some (.string (bs gm))) (by kernel_rfl) (by exact ⟨m0,m1,v4,v0,v1⟩) (fun hHeld=>?_)
        refine tkH 0 ⟨some 58,_,_,_,_,_⟩ ?v5 rfl (Or.inl ⟨by rfl,?y5⟩) ?r5
        case y5=>(intro w h;(try dsimp only at h);go_simp;try with_reducible rfl)
        try simp only [Act.put,sA,sB,sC]
        refine tkH 1 ⟨some 59,_,_,_,_,_⟩ ?v6 rfl (Or.inl ⟨by rfl,?y6⟩) ?r6
        case y6=>(intro w h;(try dsimp only at h);go_simp;try with_reducible rfl)
        try simp only [Act.put,sA,sB,sC]
        refine tkH 2 ⟨some 60,_,_,_,_,_⟩ ?v7 rfl (Or.inl ⟨by rfl,?y7⟩) ?r7
        case y7=>(intro w h;(try dsimp only at h);go_simp;try with_reducible rfl)
        try simp only [Act.put,sA,sB,sC]
        refine tkH 3 ⟨some 61,_,_,_,_,_⟩ ?v8 rfl (Or.inl ⟨by rfl,?y8⟩) ?r8
        case y8=>(intro w h;(try dsimp only at h);go_simp;try with_reducible rfl)
        try simp only [Act.put,sA,sB,sC]
        refine tkH 4 ⟨some 62,_,_,_,_,_⟩ ?v9 rfl (Or.inl ⟨by rfl,?y9⟩) ?r9
        case y9=>(intro w h;(try dsimp only at h);go_simp;try with_reducible rfl)
        try simp only [Act.put,sA,sB,sC]
        refine tkH 5 ⟨some 63,_,_,_,_,_⟩ ?v10 rfl (Or.inl ⟨by rfl,?y10⟩) ?r10
        case y10=>(intro w h;(try dsimp only at h);go_simp;try with_reducible rfl)
        try simp only [Act.put,sA,sB,sC]
        refine tkH 6 ⟨some 64,_,_,_,_,_⟩ ?v11 rfl (Or.inl ⟨by rfl,?y11⟩) ?r11
        case y11=>(intro w h;(try dsimp only at h);go_simp;try with_reducible rfl)
        try simp only [Act.put,sA,sB,sC]
        refine tkH 7 ⟨some 65,_,_,_,_,_⟩ ?v12 rfl (Or.inl ⟨by rfl,?y12⟩) ?r12
        case y12=>(intro w h;(try dsimp only at h);go_simp;try with_reducible rfl)
        try simp only [Act.put,sA,sB,sC]
        refine tkH 8 ⟨some 66,_,_,_,_,_⟩ ?v13 rfl (Or.inl ⟨by rfl,?y13⟩) ?r13
        case y13=>(intro w h;(try dsimp only at h);go_simp;try with_reducible rfl)
        try simp only [Act.put,sA,sB,sC]
        refine tkH 9 ⟨some 67,_,_,_,_,_⟩ ?v14 rfl (Or.inl ⟨by rfl,?y14⟩) ?r14
        case y14=>(intro w h;(try dsimp only at h);go_simp;try with_reducible rfl)
        try simp only [Act.put,sA,sB,sC]
        refine tkH 10 ⟨some 68,_,_,_,_,_⟩ ?v15 rfl (Or.inl ⟨by rfl,?y15⟩) ?r15
        case y15=>(intro w h;(try dsimp only at h);go_simp;try with_reducible rfl)
        try simp only [Act.put,sA,sB,sC]
        refine tkH 11 ⟨some 69,_,_,_,_,_⟩ ?v16 rfl (Or.inl ⟨by rfl,?y16⟩) ?r16
        case y16=>(intro w h;(try dsimp only at h);go_simp;try with_reducible rfl)
        try simp only [Act.put,sA,sB,sC]
        refine tkH 12 ⟨some 70,_,_,_,_,_⟩ ?v17 rfl (Or.inl ⟨by rfl,?y17⟩) ?r17
        case y17=>(intro w h;(try dsimp only at h);go_simp;try with_reducible rfl)
        try simp only [Act.put,sA,sB,sC]
        refine tkH 13 ⟨some 71,_,_,_,_,_⟩ ?v18 rfl (Or.inl ⟨by rfl,?y18⟩) ?r18
        case y18=>(intro w h;(try dsimp only at h);go_simp;try with_reducible rfl)
        try simp only [Act.put,sA,sB,sC]
        refine tkH 14 ⟨some 72,_,_,_,_,_⟩ ?v19 rfl (Or.inl ⟨by rfl,?y19⟩) ?r19
        case y19=>(intro w h;(try dsimp only at h);go_simp;try with_reducible rfl)
        try simp only [Act.put,sA,sB,sC]
        refine tkH 15 ⟨some 73,_,_,_,_,_⟩ ?v20 rfl (Or.inl ⟨by rfl,?y20⟩) ?r20
        case y20=>(intro w h;(try dsimp only at h);go_simp;try with_reducible rfl)
        try simp only [Act.put,sA,sB,sC]
        refine tkH 16 ⟨some 74,_,_,_,_,_⟩ ?v21 rfl (Or.inl ⟨by rfl,?y21⟩) ?r21
        case y21=>(intro w h;(try dsimp only at h);go_simp;try with_reducible rfl)
        try simp only [Act.put,sA,sB,sC]
        refine tkH 17 ⟨some 11,_,_,_,_,_⟩ ?v22 rfl (Or.inl ⟨by rfl,?y22⟩) ?r22
        case y22=>(intro w h;(try dsimp only at h);go_simp;try with_reducible rfl)
        try simp only [Act.put,sA,sB,sC]
        refine wpAnyH_done (by kernel_rfl) ?_ _
        refine NoPanic.normal ?_
        clear m0 m1 v0 v1 v4
        go_wp2_with fail
        go_roundw
        case rel=>exact ⟨j+1,_,by omega,by go_num,rfl,fun y hy e=>by
         rw [HTJ.out] at hy
         rcases List.mem_append.1 hy with hy | hy
         ·exact absurd (X8.out.1 y hy e) (by simp)
         ·rw [List.mem_singleton.1 hy] at e
          have e':(⟨jp,jm⟩:Lb)=⟨gp,gm⟩:=HYL.out.trans e
          unfold lleq
          simpa using e',bstep X8.out.2.1 (bd1 _)⟩
        case measure=>simp [intOf];omega
      ·obtain rfl:j=i:=by omega
       have HAT:Hid (a=true):=by
        obtain ⟨y,hy,hyj,e⟩:=HAK.out
        refine X8.out.1 nd[y] ?_ e
        rw [List.mem_take_iff_getElem]
        exact ⟨y,by omega,rfl⟩
       have hat:=HAT.out
       subst hat
       go_wp2_with fail
       go_roundw
       case rel=>exact ⟨k+1,by omega,by go_num,X8.out.2.2⟩
       case measure=>simp [intOf];omega
    ·obtain rfl:k=dn:=by omega
     go_wp2_with fail
     go_loopw [13] (fun jv wz=>∃ (j:Nat),j≤i∧jv=.int .i64 j∧Below W.heap.size W wz) (fun jv _=>i - (intOf jv).toNat)
     case atStart=>exact ⟨0,by omega,rfl,X6.out⟩
     case round=>
      rename World=>wz
      obtain ⟨j,hj0,rfl,hbz⟩:=hrel
      have X8:Hid (Below W.heap.size W wz):=hbz
      clear hbz
      by_cases hj:j < i
      ·have j1:(j:Int) < (i:Int):=by omega
       have j2:(0:Int)≤(j:Int):=by omega
       have j3:(j:Int) < (nn:Int):=by omega
       have hjl:j < nd.length:=by rw [HNN.out];omega
       have HTJ:Hid (nd.take (j+1)=nd.take j++[nd[j]]):=List.take_succ_eq_append_getElem hjl
       obtain ⟨y,hya,hyl,_⟩:=X.out.node hjl
       have HYA:=hid_of hya
       have HYL:=hid_of hyl
       clear hya hyl
       obtain ⟨jp,jm,jsa,jsn,jsc,jda,jdn,jdc⟩:=y
       simp only at HYA HYL
       have HJA:Hid (∀ W',Below W.heap.size W W'→W'.cell? ⟨b,off+j * 4,none⟩=some (.string (bs jp))∧W'.cell? ⟨b,off+j * 4+1,none⟩=some (.string (bs jm))):=fun W' hW=>by
        obtain ⟨b9,o9,e9,c0,c1,_⟩:=HYA.out W' hW
        cases e9
        exact ⟨c0,c1⟩
       have hne:lleq ⟨jp,jm⟩ ⟨np,nm⟩=false:=by
        unfold lleq
        rw [decide_eq_false_iff_not,HYL.out,HXL.out]
        exact X.out.ok.once i j hil hjl hj
       have hq:=leql_run'
       have hg:=guard_run
       have HB1:Hid (Below W.heap.size W wz.drew):=bstep X8.out (bd1 wz)
       obtain ⟨m0,m1⟩:=HJA.out _ HB1.out
       obtain ⟨v0,v1,_⟩:=HNA.out _ HB1.out
       go_upto_region 22 with fail
       refine wp_region_noPanic ?_
       refine wp_region_held_drew (S:=fun W'=>W'.cell? ⟨b,off+j * 4,none⟩=some (.string (bs jp))∧W'.cell? ⟨b,off+j * 4+1,none⟩=some (.string (bs jm))∧W'.cell? ⟨b,off+i * 4,none⟩=some (.string (bs np))∧W'.cell? ⟨b,off+i * 4+1,none⟩=some (.string (bs nm))) (by kernel_rfl) (by exact ⟨m0,m1,v0,v1⟩) (fun hHeld=>?_)
       refine tkH 0 ⟨some 82,_,_,_,_,_⟩ ?v23 rfl (Or.inl ⟨by rfl,?y23⟩) ?r23
       case y23=>(intro w h;(try dsimp only at h);go_simp;try with_reducible rfl)
       try simp only [Act.put,sA,sB,sC]
       refine tkH 1 ⟨some 83,_,_,_,_,_⟩ ?v24 rfl (Or.inl ⟨by rfl,?y24⟩) ?r24
       case y24=>(intro w h;(try dsimp only at h);go_simp;try with_reducible rfl)
       try simp only [Act.put,sA,sB,sC]
       refine tkH 2 ⟨some 84,_,_,_,_,_⟩ ?v25 rfl (Or.inl ⟨by rfl,?y25⟩) ?r25
       case y25=>(intro w h;(try dsimp only at h);go_simp;try with_reducible rfl)
       try simp only [Act.put,sA,sB,sC]
       refine tkH 3 ⟨some 85,_,_,_,_,_⟩ ?v26 rfl (Or.inl ⟨by rfl,?y26⟩) ?r26
       case y26=>(intro w h;(try dsimp only at h);go_simp;try with_reducible rfl)
       try simp only [Act.put,sA,sB,sC]
       refine tkH 4 ⟨some 86,_,_,_,_,_⟩ ?v27 rfl (Or.inl ⟨by rfl,?y27⟩) ?r27
       case y27=>(intro w h;(try dsimp only at h);go_simp;try with_reducible rfl)
       try simp only [Act.put,sA,sB,sC]
       refine tkH 5 ⟨some 87,_,_,_,_,_⟩ ?v28 rfl (Or.inl ⟨by rfl,?y28⟩) ?r28
       case y28=>(intro w h;(try dsimp only at h);go_simp;try with_reducible rfl)
       try simp only [Act.put,sA,sB,sC]
       refine tkH 6 ⟨some 88,_,_,_,_,_⟩ ?v29 rfl (Or.inl ⟨by rfl,?y29⟩) ?r29
       case y29=>(intro w h;(try dsimp only at h);go_simp;try with_reducible rfl)
       try simp only [Act.put,sA,sB,sC]
       refine tkH 7 ⟨some 89,_,_,_,_,_⟩ ?v30 rfl (Or.inl ⟨by rfl,?y30⟩) ?r30
       case y30=>(intro w h;(try dsimp only at h);go_simp;try with_reducible rfl)
       try simp only [Act.put,sA,sB,sC]
       refine tkH 8 ⟨some 90,_,_,_,_,_⟩ ?v31 rfl (Or.inl ⟨by rfl,?y31⟩) ?r31
       case y31=>(intro w h;(try dsimp only at h);go_simp;try with_reducible rfl)
       try simp only [Act.put,sA,sB,sC]
       refine tkH 9 ⟨some 91,_,_,_,_,_⟩ ?v32 rfl (Or.inl ⟨by rfl,?y32⟩) ?r32
       case y32=>(intro w h;(try dsimp only at h);go_simp;try with_reducible rfl)
       try simp only [Act.put,sA,sB,sC]
       refine tkH 10 ⟨some 92,_,_,_,_,_⟩ ?v33 rfl (Or.inl ⟨by rfl,?y33⟩) ?r33
       case y33=>(intro w h;(try dsimp only at h);go_simp;try with_reducible rfl)
       try simp only [Act.put,sA,sB,sC]
       refine wpAnyH_done (by kernel_rfl) ?_ _
       refine NoPanic.normal ?_
       clear m0 m1 v0 v1
       go_wp2_with fail
       go_roundw
       case rel=>exact ⟨j+1,by omega,by go_num,HB1.out⟩
       case measure=>simp [intOf];omega
      ·obtain rfl:j=i:=by omega
       go_wp2_with fail
       go_roundw
       case rel=>exact ⟨j+1,by omega,by go_num,X8.out⟩
       case measure=>simp [intOf];omega
  ·obtain rfl:i=nn:=by omega
   go_wp2_with fail
   refine HK.out _ _ ?_
   clear HK
   exact q24 (hid_of (X.out.later X5.out))
end Go.Proofs.YtkheacknelbcnaaGreatDoor

namespace Go.Proofs.YtkheacknelbcnaaGreatDoor
open Go.RowKit Go.Maps
/-- a fault's code is not zero -/
theorem flt_code {l:List Fl} {N:List Lb} {E:List Ee} {c:List (List UInt8)} (h:(fltP l N E c).2=true):(fltP l N E c).1.code≠0:=by
 unfold fltP at h ⊢
 split
 ·rename_i h1
  unfold brkF
  split
  ·simp [brkV,Fv.pf]
  ·rename_i e
   obtain ⟨f,hf,hk⟩:=List.any_eq_true.1 h1
   exact absurd hk (by rw [List.find?_eq_none] at e;exact e f hf)
 ·rename_i h1
  rw [if_neg h1] at h
  split
  ·rename_i h2
   unfold fstF
   split
   ·rename_i a e
    have hb:=List.find?_some e
    unfold misB at hb
    unfold misF
    split
    ·simp [Fv.pf]
    ·rename_i T hT
     rw [hT] at hb
     simp only [Bool.not_eq_true'] at hb
     rw [if_neg (by rw [hb];simp)]
     simp [Fv.pf]
   ·rename_i e
    obtain ⟨f,hf,hk⟩:=List.any_eq_true.1 h2
    exact absurd hk (by rw [List.find?_eq_none] at e;exact e f hf)
  ·rename_i h2
   rw [if_neg h2] at h
   split
   ·simp
   ·rename_i h3
    rw [if_neg h3] at h
    unfold fstF
    split
    ·rename_i a e
     have hb:=List.find?_some e
     unfold unsF
     rw [if_pos hb]
     simp [Fv.pf]
    ·rename_i e
     obtain ⟨f,hf,hk⟩:=List.any_eq_true.1 h
     exact absurd hk (by rw [List.find?_eq_none] at e;exact e f hf)
/-- where there is no fault there are the nodes -/
theorem bld_ok {l:List Fl} {t N:List Lb} {E:List Ee} {c:List (List UInt8)}:((bldP l t N E c).2.code≠0∧(bldP l t N E c).1=[])∨((bldP l t N E c).2.code=0∧refE l t=0∧(fltP l N E c).2=false∧bldP l t N E c=(ndsP l N E,zPf)):=by
 unfold bldP
 by_cases h0:refE l t=0
 ·rw [if_pos h0]
  cases hf:(fltP l N E c).2 with
  | true=>exact .inl ⟨flt_code hf,rfl⟩
  | false=>exact .inr ⟨rfl,h0,rfl,rfl⟩
 ·rw [if_neg h0]
  exact .inl ⟨h0,rfl⟩
theorem nds_src {l:List Fl} {N:List Lb} {E:List Ee}:∀ n∈ndsP l N E,∀ f∈n.srcs,f∈l:=fun n hn f hf=>by
 unfold ndsP at hn
 obtain ⟨a,_,rfl⟩:=List.mem_map.1 hn
 unfold ndF at hf
 simp only at hf
 unfold srcL keep at hf
 exact (List.mem_filter.1 hf).1
theorem nds_lab {l:List Fl} {N:List Lb} {E:List Ee}:∀ n∈ndsP l N E,n.lab∈N:=fun n hn=>by
 unfold ndsP at hn
 obtain ⟨a,ha,rfl⟩:=List.mem_map.1 hn
 exact ord_in ha
set_option maxRecDepth 100000 in
set_option maxHeartbeats 16000000 in
theorem bparts_law {w:World} {lv tv kv:Value} {l:List Fl} {t:List Lb} {kb:List Bool} (E0:Ev w) (hf:FS w lv l) (ht:LS w tv t) (hk:BL w kv kb) (B:OfB l t) :
  Calls Tryz.prog 4 #[lv,tv,kv] w (GoodE w):=by
 have HEX:=hid_of (example_any E0)
 have HX:Hid (Ev w∧FS w lv l∧LS w tv t∧BL w kv kb∧OfB l t):=⟨E0,hf,ht,hk,B⟩
 have HOW:=hid_of (fun W (hW:Below w.heap.size w W)=>own_any (hf.later hW) (by have:=B.ll;omega))
 have HLA:=hid_of (fun W (hW:Below w.heap.size w W)=>labels_any (ht.later hW) (by have:=B.tl;omega))
 obtain ⟨fa0,fc0,hfv,_⟩:=hf.form
 obtain ⟨fn,hfn⟩:∃ fn,l.length=fn:=⟨_,rfl⟩
 rw [hfn] at hfv
 subst hfv
 obtain ⟨ta,tc,htv,_⟩:=ht.form
 obtain ⟨tn,htn⟩:∃ tn,t.length=tn:=⟨_,rfl⟩
 rw [htn] at htv
 subst htv
 obtain ⟨ka,kc,hkv,_⟩:=hk
 obtain ⟨kn,hkn⟩:∃ kn,kb.length=kn:=⟨_,rfl⟩
 rw [hkn] at hkv
 subst hkv
 clear E0 hf ht B hfn htn hkn
 go_enter Tryz.func4,Tryz.ntmps4
 refine wp_seq_k fun K hK=>?_
 have HK:Hid _:=hK
 clear hK
 go_wp2_with fail
 refine HK.out _ _ ?_
 clear HK K
 refine wp_seq_k fun K hK=>?_
 have HK:Hid _:=hK
 clear hK
 go_wp2_with fail
 refine HEX.out.mono ?_
 rintro e w1 ⟨rfl,hb1⟩
 have HB1:Hid (Below w.heap.size w w1):=hb1
 clear hb1 HEX
 go_wp2_with fail
 refine HK.out _ _ ?_
 clear HK
 refine wp_seq_k fun K2 hK2=>?_
 have HK2:Hid _:=hK2
 clear hK2
 go_wp2_with fail
 refine (HOW.out w1 HB1.out).mono ?_
 rintro e w2 ⟨v2,rfl,ho2,hb2⟩
 have HB2:Hid (Below w.heap.size w w2):=bstep HB1.out hb2
 have HO2:Hid (FS w2 v2 l):=ho2.fs
 obtain ⟨xa2,xc2,hx2⟩:=ho2.form
 obtain ⟨n2,hn2⟩:∃ n2,l.length=n2:=⟨_,rfl⟩
 rw [hn2] at hx2
 subst hx2
 clear ho2 hb2 hn2
 go_wp2_with fail
 refine (HLA.out w2 HB2.out).mono ?_
 rintro e w3 ⟨v3,rfl,ho3,hb3⟩
 have HB3:Hid (Below w.heap.size w w3):=bstep HB2.out hb3
 have HOF:=hid_of (bof_any (HX.out.1.later HB3.out) (HO2.out.later hb3) ho3 HX.out.2.2.2.2)
 obtain ⟨xa3,xc3,hx3⟩:=ho3.form
 obtain ⟨n3,hn3⟩:∃ n3,t.length=n3:=⟨_,rfl⟩
 rw [hn3] at hx3
 subst hx3
 clear ho3 hb3 hn3
 go_wp2_with fail
 refine HOF.out.mono ?_
 rintro e w4 h
 unfold OfP at h
 obtain ⟨nv,fv,N,E,c,rfl,hR,hno,hfi,hb4⟩:=h
 have HB4:Hid (Below w.heap.size w w4):=bstep HB3.out hb4
 have HR4:Hid ((refE l t=0→RchS l t N E c)∧NOwn w3.heap.size w4 nv (bldP l t N E c).1∧fv.code=(bldP l t N E c).2.code):=⟨hR,hno,congrArg Pf.code hfi.it⟩
 obtain ⟨na,nc,hnv⟩:=hno.form
 obtain ⟨nn,hnn⟩:∃ nn,(bldP l t N E c).1.length=nn:=⟨_,rfl⟩
 rw [hnn] at hnv
 subst hnv
 have HNN:Hid ((bldP l t N E c).1.length=nn):=hnn
 clear hnn hR hno hfi hb4 HOF
 obtain ⟨fc,⟨lp,ln⟩,⟨op,on⟩,fp,fa,ca,cn,cc⟩:=fv
 have hval:Fv.val ⟨fc,⟨lp,ln⟩,⟨op,on⟩,fp,fa,ca,cn,cc⟩=.agg #[.int .i64 fc,.string (bs lp),.string (bs ln),.string (bs op),.string (bs on),.string (bs fp),.int .i64 fa,.slice ca cn cc]:=rfl
 rw [hval]
 clear hval
 obtain ⟨w5,hw5⟩:∃ w5,w4.alloc (.cells #[.int .i64 fc,.string (bs lp),.string (bs ln),.string (bs op),.string (bs on),.string (bs fp),.int .i64 fa,.slice ca cn cc] 30)=w5:=⟨_,rfl⟩
 have HB5:Hid (Below w4.heap.size w4 w5):=by
  show Below w4.heap.size w4 w5
  rw [← hw5];exact balloc _ _
 have hfk:FK w5 w4.heap.size ⟨fc,⟨lp,ln⟩,⟨op,on⟩,fp,fa,ca,cn,cc⟩:=by
  rw [← hw5];exact FK.new _ ⟨fc,⟨lp,ln⟩,⟨op,on⟩,fp,fa,ca,cn,cc⟩
 obtain ⟨u0,_⟩:=hfk.get
 go_wp2_with fail
 try rw [hw5]
 clear hw5 hfk
 refine HK2.out _ _ ?_
 clear HK2
 refine wp_seq_k fun K3 hK3=>?_
 have HK3:Hid _:=hK3
 clear hK3
 rcases bld_ok (l:=l) (t:=t) (N:=N) (E:=E) (c:=c) with ⟨hc,hn0⟩ | ⟨hc,h0,hff,hbl⟩
 ·have hc1:fc≠0:=by have h:=HR4.out.2.2;exact fun e=>hc (h.symm.trans e)
  have hc2:(fc == 0)=false:=by simpa using hc1
  have hc3:decide (fc=0)=false:=by simpa using hc1
  have hn1:nn=0:=by rw [← HNN.out,hn0];rfl
  subst hn1
  clear hc hn0 HR4 HNN
  go_wp2_with fail
  go_ret
  exact ⟨rfl,bstep HB4.out HB5.out⟩
 ·have hc1:fc=0:=by have h:=HR4.out.2.2;exact h.trans hc
  subst hc1
  have HQ:Hid (refE l t=0∧(fltP l N E c).2=false∧bldP l t N E c=(ndsP l N E,zPf)):=⟨h0,hff,hbl⟩
  clear hc h0 hff hbl
  go_wp2_with fail
  refine HK3.out _ _ ?_
  clear HK3
  have S:=HR4.out.1 HQ.out.1
  have hno:=HR4.out.2.1
  obtain ⟨g1,g2,g3⟩:=bld_fine HX.out.2.2.2.2 HR4.out.1
  rw [HQ.out.2.2] at hno g2 g3
  have hbb:=bstep HB4.out HB5.out
  refine q6 (l:=l) (t:=t) (kb:=kb) (nd:=ndsP l N E) (b0:=w3.heap.size) (hid_of ⟨HX.out.1.later hbb,HX.out.2.1.later hbb,HX.out.2.2.1.later hbb,HX.out.2.2.2.1.later hbb,hno.later HB5.out,HX.out.2.2.2.2,nodes_ok S HQ.out.2.1,fun p N' E' c' hp hR=>?_,nds_src,fun n hn=>?_,⟨g2,g3⟩,hbb⟩)
  ·rw [hp.bld HQ.out.1 S HQ.out.2.1 hR,HQ.out.2.2]
  ·have h1:=(S.nn _).1 (nds_lab n hn)
   have h2:=okL_small (rea_ok (refE_ok HQ.out.1).2 h1)
   omega
theorem bparts_said {w:World} {lv tv kv:Value} {l:List Fl} {t:List Lb} {kb:List Bool} (E0:Ev w) (hf:FS w lv l) (ht:LS w tv t) (hk:BL w kv kb) (B:OfB l t) :
  Calls Tryz.prog 4 #[lv,tv,kv] w fun e w'=>e=.returned (.bool true)∧Below w.heap.size w w':=bparts_law E0 hf ht hk B
end Go.Proofs.YtkheacknelbcnaaGreatDoor
