/-
  The law of BuildParts: the part.
-/
import Derived.Test.YtkheacknelbcnaaGreatDoorJYc
import Derived.Deep.DeepCutAuto
namespace Go.Proofs.YtkheacknelbcnaaGreatDoor
open Go.RowKit Go.Maps
set_option maxRecDepth 100000 in
set_option maxHeartbeats 2000000 in
theorem place_any (p:List UInt8) (w:World) (hp:p.length≤1000000000) :
  Calls Tryz.prog 13 #[.string (bs p)] w fun e w'=>e=.returned (.string (bs (whl p wName)))∧w'=w:=by
 have e1:=isE p
 have z1:(bs p).size=p.length:=rfl
 unfold whl
 by_cases h0:p=[]
 ·have i0:p.isEmpty=true:=by rw [h0];rfl
  rw [i0] at e1
  rw [if_pos h0]
  clear h0
  go_enter Tryz.func13,Tryz.ntmps13
  go_wp2_with fail
  go_ret
  exact ⟨rfl,rfl⟩
 ·have i0:p.isEmpty=false:=by cases p;exact absurd rfl h0;rfl
  rw [i0] at e1
  rw [if_neg h0]
  clear h0
  have HW:Hid (bs p++ByteArray.mk #[47]++bs wName=bs (p++47::wName)):=by
   show bs p++bs [47]++bs wName=_
   rw [bs_app,bs_app];simp
  go_enter Tryz.func13,Tryz.ntmps13
  go_wp2_with fail
  go_ret
  exact ⟨by rw [← HW.out];rfl,rfl⟩
/-- is a file wanted for a node? -/
def Wnt (n:Nd) (f:Fl):Prop:=f.path=whl n.lab.pkg wName∨f∈n.srcs
theorem sub_snoc {q l:List Fl} {i:Nat} (hi:i < l.length) (h:q.Sublist (l.take i)):q.Sublist (l.take (i+1))∧(q++[l[i]]).Sublist (l.take (i+1)):=by
 rw [List.take_succ_eq_append_getElem hi]
 exact ⟨h.trans (List.sublist_append_left _ _),h.append (List.Sublist.refl _)⟩
set_option maxRecDepth 100000 in
set_option maxHeartbeats 16000000 in
theorem q24 {w W:World} {l:List Fl} {t:List Lb} {kb:List Bool} {nd:List Nd} {b0:Nat} {fa ta ka na:Option Addr} {fn fc tn tc kn kc nn nc:Nat} {lv3 lv4 lv5 lv6 lv8 lv9 lv10 lv11 lv12 lv13 lv14 lv15 lv16 lv17 lv18 lv19 lv20 lv21 lv22 lv23 lv24 lv25 lv26 lv27 lv28 lv29 lv30 lv31 lv32 lv33 lv34 lv35 lv36 lv37 lv38 lv39 lv40 lv41 lv42 lv43 lv44 lv45 lv46 lv47 lv48 lv49 lv50 lv51 lv52 lv53 lv54 lv55 lv56 lv57 lv58 lv59 lv60 lv61 lv62 lv63 lv64 lv65 lv66 lv67 lv68 lv69 lv70 lv71 lv72 lv73 lv74 lv75 lv76 lv77 lv78 lv79 lv80 lv81 lv82 lv83 lv84 lv85 lv86 lv87 lv88 lv89 lv90 lv91 lv92 lv93 lv94 lv95 lv96 lv97 lv98 lv99 lv100 lv101 lv102 lv103 lv104 lv105 lv106 lv107 lv108 lv109 lv110 lv111 lv112 lv113 lv114 lv115 lv116 lv117 lv118 lv119 lv120 lv121 lv122 lv123 lv124 lv125 lv126 lv127 lv128 lv129 lv130 lv131 lv132 lv133 lv134 lv135 lv136 lv137 lv138 lv139 lv140 lv141 lv142 lv143 lv144 lv145 lv146 lv147 lv148 lv149 lv150 lv151 lv152 lv153 lv154 lv155 lv156 lv157 lv158 lv159 lv160 lv161 lv162 lv163 lv164 lv165 lv166 lv167 lv168 lv169 lv170 lv171 lv172 lv173 lv174 lv175 lv176 lv177 lv178 lv179 lv180 lv181:Value} (X:Hid (PX w W l t kb nd (.slice fa fn fc) (.slice ta tn tc) (.slice ka kn kc) (.slice na nn nc) b0)) :
  Code.wp Tryz.prog (suff 24 (Tryz.f4.body.getD .skip)) (bodyPost Tryz.prog Tryz.f4 (GoodE w)) ⟨#[.slice fa fn fc,.slice ta tn tc,.slice ka kn kc,lv3,lv4,lv5,lv6,.slice na nn nc,lv8,lv9,lv10,lv11,lv12,lv13,lv14,lv15,lv16,lv17,lv18,lv19,lv20,lv21,lv22,lv23,lv24,lv25,lv26,lv27,lv28,lv29,lv30,lv31,lv32,lv33,lv34,lv35,lv36,lv37,lv38,lv39,lv40,lv41,lv42,lv43,lv44,lv45,lv46,lv47,lv48,lv49,lv50,lv51,lv52,lv53,lv54,lv55,lv56,lv57,lv58,lv59,lv60,lv61,lv62,lv63,lv64,lv65,lv66,lv67,lv68,lv69,lv70,lv71,lv72,lv73,lv74,lv75,lv76,lv77,lv78,lv79,lv80,lv81,lv82,lv83,lv84,lv85,lv86,lv87,lv88,lv89,lv90,lv91,lv92,lv93,lv94,lv95,lv96,lv97,lv98,lv99,lv100,lv101,lv102,lv103,lv104,lv105,lv106,lv107,lv108,lv109,lv110,lv111,lv112,lv113,lv114,lv115,lv116,lv117,lv118,lv119,lv120,lv121,lv122,lv123,lv124,lv125,lv126,lv127,lv128,lv129,lv130,lv131,lv132,lv133,lv134,lv135,lv136,lv137,lv138,lv139,lv140,lv141,lv142,lv143,lv144,lv145,lv146,lv147,lv148,lv149,lv150,lv151,lv152,lv153,lv154,lv155,lv156,lv157,lv158,lv159,lv160,lv161,lv162,lv163,lv164,lv165,lv166,lv167,lv168,lv169,lv170,lv171,lv172,lv173,lv174,lv175,lv176,lv177,lv178,lv179,lv180,lv181],[]⟩ W:=by
 conv=>arg 2;whnf
 have HFN:Hid (l.length=fn):=by
  obtain ⟨a,c,e,_⟩:=X.out.fl.form
  injection e with _ e2 _
  exact e2.symm
 have HNN:Hid (nd.length=nn):=by
  obtain ⟨a,c,e⟩:=X.out.no.form
  injection e with _ e2 _
  exact e2.symm
 have HKN:Hid (kb.length=kn):=by
  obtain ⟨a,c,e,_⟩:=X.out.kl
  injection e with _ e2 _
  exact e2.symm
 have hfn9:fn≤2000000:=by have:=X.out.ob.ll;have:=HFN.out;omega
 have hnn9:nn≤100000000:=by have:=X.out.sz.1;have:=HNN.out;omega
 refine wp_seq_k fun K hK=>?_
 have HK:Hid _:=hK
 clear hK
 go_wp2_with fail
 refine HK.out _ _ ?_
 clear HK K
 refine wp_seq_k fun K hK=>?_
 have HK:Hid _:=hK
 clear hK
 go_wp2_with fail
 go_loopw [14,15] (fun pv iv wr=>∃ (i:Nat) (q:List Fl),i≤fn∧iv=.int .i64 i∧OwnF W.heap.size wr pv q∧q.Sublist (l.take i)∧(∀ f∈l.take i,(∃ n∈nd,Wnt n f)→f∈q)∧Below W.heap.size W wr) (fun _ iv _=>fn - (intOf iv).toNat)
 case atStart=>exact ⟨0,[],by omega,rfl,OwnF.nil _ _,by simp,by simp,Below.refl _ _⟩
 case round=>
  obtain ⟨i,q,hi0,rfl,hoq,hsq,hwq,hb⟩:=hrel
  obtain ⟨pa,pc,hpv⟩:=hoq.form
  obtain ⟨pn,hpn⟩:∃ pn,q.length=pn:=⟨_,rfl⟩
  rw [hpn] at hpv
  subst hpv
  have X5:Hid (OwnF W.heap.size wr (.slice pa pn pc) q∧q.Sublist (l.take i)∧(∀ f∈l.take i,(∃ n∈nd,Wnt n f)→f∈q)∧Below W.heap.size W wr∧q.length=pn):=⟨hoq,hsq,hwq,hb,hpn⟩
  have hpn9:pn≤2000000:=by
   have h1:=hsq.length_le
   rw [List.length_take] at h1
   omega
  clear hoq hsq hwq hb hpn
  by_cases hi:i < fn
  ·have i1:(i:Int) < (fn:Int):=by omega
   have i2:(0:Int)≤(i:Int):=by omega
   have hil:i < l.length:=by rw [HFN.out];exact hi
   have HFA:Hid (∀ W',Below W.heap.size W W'→∃ b off,fa=some ⟨b,off,none⟩∧W'.cell? ⟨b,off+i * 4,none⟩=some (.string (bs l[i].path))∧W'.cell? ⟨b,off+i * 4+1,none⟩=some (.string (bs l[i].text))∧W'.cell? ⟨b,off+i * 4+2,none⟩=some (.int .i64 l[i].blob)∧W'.cell? ⟨b,off+i * 4+3,none⟩=some (.int .i64 l[i].size)):=fun W' hW=>by
    obtain ⟨b,off,e,_,c0,c1,c2,c3⟩:=FS.at (by have h:=X.out.fl;rw [← HFN.out] at h;exact h) hW hil
    exact ⟨b,off,e,c0,c1,c2,c3⟩
   have HTK:Hid (l.take (i+1)=l.take i++[l[i]]∧q.Sublist (l.take (i+1))∧(q++[l[i]]).Sublist (l.take (i+1))):=⟨List.take_succ_eq_append_getElem hil,sub_snoc hil X5.out.2.1⟩
   obtain ⟨f,hf⟩:∃ f,l[i]=f:=⟨_,rfl⟩
   rw [hf] at HFA HTK
   clear hf
   obtain ⟨b,off,eb,_⟩:=HFA.out wr X5.out.2.2.2.1
   subst eb
   go_upto_region 28 with fail
   go_cut [16] (fun c wx=>(∃ b,c=.bool b)∧wr=wx)
   case first=>
    by_cases hk:kn=0
    ·subst hk
     go_wp2_with fail
     go_meet
     exact ⟨⟨_,rfl⟩,rfl⟩
    ·have k1:(0:Int) < (kn:Int):=by omega
     have hm:i % kn < kn:=Nat.mod_lt _ (by omega)
     have k2:Int.tmod (i:Int) (kn:Int)=((i % kn:Nat):Int):=by rw [Int.tmod_eq_emod_of_nonneg (by omega),Int.natCast_emod]
     have k3:((i % kn:Nat):Int) < (kn:Int):=by omega
     have k4:(0:Int)≤((i % kn:Nat):Int):=by omega
     have k5:¬ ((kn:Int)=0):=by omega
     obtain ⟨a9,c9,e9,hbl⟩:=X.out.kl.later X5.out.2.2.2.1
     injection e9 with e91 e92 e93
     obtain ⟨b9,o9,ea9,_,cb⟩:=hbl (i % kn) (by rw [HKN.out];exact hm)
     rw [ea9] at e91
     subst e91
     obtain ⟨m,hmm⟩:∃ m,i % kn=m:=⟨_,rfl⟩
     simp only [hmm] at k2 k3 k4 cb
     obtain ⟨bv,hbv⟩:∃ bv,kb[m]'(by rw [HKN.out,← hmm];exact hm)=bv:=⟨_,rfl⟩
     rw [hbv] at cb
     clear e92 e93 hbl ea9 hmm hbv
     go_wp2_with fail
     go_meet
     exact ⟨⟨_,rfl⟩,rfl⟩
   case rest=>
    obtain ⟨⟨bb,rfl⟩,rfl⟩:=hcut
    go_wp2_with fail
    go_loopw [16,17] (fun s16 jv wq=>∃ (j:Nat) (bc:Bool),j≤nn∧jv=.int .i64 j∧s16=.bool bc∧(∀ n∈nd.take j,Wnt n f→bc=true)∧Below wr.heap.size wr wq) (fun _ jv _=>nn - (intOf jv).toNat)
    case atStart=>exact ⟨0,bb,by omega,rfl,rfl,by simp,Below.refl _ _⟩
    case round=>
     rename World=>wq
     obtain ⟨j,bc,hj0,rfl,rfl,hwn,hbq⟩:=hrel
     have X6:Hid ((∀ n∈nd.take j,Wnt n f→bc=true)∧Below wr.heap.size wr wq∧Below W.heap.size W wq):=⟨hwn,hbq,bstep X5.out.2.2.2.1 hbq⟩
     clear hwn hbq
     by_cases hj:j < nn
     ·have j1:(j:Int) < (nn:Int):=by omega
      have j2:(0:Int)≤(j:Int):=by omega
      have hjl:j < nd.length:=by rw [HNN.out];exact hj
      obtain ⟨x,hxa,hxl,hxs,hxd⟩:=X.out.node hjl
      have HPL:=hid_of (fun W'=>place_any x.pkg W' (by have h1:=X.out.pkl nd[j] (List.getElem_mem hjl);rw [← hxl] at h1;exact h1))
      have HXA:=hid_of hxa
      have HXL:=hid_of hxl
      have HXS:=hid_of hxs
      have HNK:Hid (nd.take (j+1)=nd.take j++[nd[j]]):=List.take_succ_eq_append_getElem hjl
      have HSZ:=hid_of ((X.out.sz.2 nd[j] (List.getElem_mem hjl)).1)
      clear hxa hxl hxs hxd
      obtain ⟨n,hn⟩:∃ n,nd[j]=n:=⟨_,rfl⟩
      rw [hn] at HXL HXS HNK HSZ
      clear hn
      obtain ⟨np,nm,sa,sn,sc,da,dn,dc⟩:=x
      simp only at HXA HXL HXS HPL
      obtain ⟨b2,off2,eb2,_⟩:=HXA.out wq X6.out.2.2
      subst eb2
      have HSN:Hid (n.srcs.length=sn):=by
       obtain ⟨a,c,e,_⟩:=HXS.out.form
       injection e with _ e2 _
       exact e2.symm
      have hsn9:sn≤100000000:=by rw [← HSN.out];exact HSZ.out
      have HNA:Hid (∀ W',Below W.heap.size W W'→W'.cell? ⟨b2,off2+j * 4,none⟩=some (.string (bs np))∧W'.cell? ⟨b2,off2+j * 4+1,none⟩=some (.string (bs nm))∧W'.cell? ⟨b2,off2+j * 4+2,none⟩=some (.slice sa sn sc)):=fun W' hW=>by
       obtain ⟨b9,o9,e9,c0,c1,c2,_⟩:=HXA.out W' hW
       cases e9
       exact ⟨c0,c1,c2⟩
      have HFB:Hid (∀ W',Below W.heap.size W W'→W'.cell? ⟨b,off+i * 4,none⟩=some (.string (bs f.path))∧W'.cell? ⟨b,off+i * 4+1,none⟩=some (.string (bs f.text))∧W'.cell? ⟨b,off+i * 4+2,none⟩=some (.int .i64 f.blob)∧W'.cell? ⟨b,off+i * 4+3,none⟩=some (.int .i64 f.size)):=fun W' hW=>by
       obtain ⟨b9,o9,e9,c0,c1,c2,c3⟩:=HFA.out W' hW
       cases e9
       exact ⟨c0,c1,c2,c3⟩
      go_upto_region 32 with fail
      go_cut [16] (fun c wx=>(∃ b1,c=.bool b1∧(bc=true→b1=true)∧(f.path=whl np wName→b1=true))∧Below wq.heap.size wq wx)
      case first=>
       cases bc with
       | true=>
        have HS:Hid True:=trivial
        refine wp_region_noPanic ?_
        refine wp_region_held_drew (S:=fun _=>True) (by kernel_rfl) trivial (fun hHeld=>?_)
        refine tkH 0 ⟨some 117,_,_,_,_,_⟩ ?v1 rfl (Or.inl ⟨by rfl,?y1⟩) ?r1
        case y1=>(intro w h;(try dsimp only at h);go_simp;try with_reducible rfl)
        try simp only [Act.put,sA,sB,sC]
        refine tkH 1 ⟨some 118,_,_,_,_,_⟩ ?v2 rfl (Or.inl ⟨by rfl,?y2⟩) ?r2
        case y2=>(intro w h;(try dsimp only at h);go_simp;try with_reducible rfl)
        try simp only [Act.put,sA,sB,sC]
        refine tkH 2 ⟨some 119,_,_,_,_,_⟩ undef rfl (Or.inr ⟨by rfl,rfl⟩) ?_
        try simp only [Act.put,sA,sB,sC]
        refine tkH 3 ⟨some 120,_,_,_,_,_⟩ undef rfl (Or.inr ⟨by rfl,rfl⟩) ?_
        try simp only [Act.put,sA,sB,sC]
        refine tkH 4 ⟨some 121,_,_,_,_,_⟩ undef rfl (Or.inr ⟨by rfl,rfl⟩) ?_
        try simp only [Act.put,sA,sB,sC]
        refine tkH 5 ⟨some 122,_,_,_,_,_⟩ undef rfl (Or.inr ⟨by rfl,rfl⟩) ?_
        try simp only [Act.put,sA,sB,sC]
        refine tkH 6 ⟨some 123,_,_,_,_,_⟩ undef rfl (Or.inr ⟨by rfl,rfl⟩) ?_
        try simp only [Act.put,sA,sB,sC]
        refine tkH 7 ⟨some 124,_,_,_,_,_⟩ undef rfl (Or.inr ⟨by rfl,rfl⟩) ?_
        try simp only [Act.put,sA,sB,sC]
        refine tkH 8 ⟨some 125,_,_,_,_,_⟩ undef rfl (Or.inr ⟨by rfl,rfl⟩) ?_
        try simp only [Act.put,sA,sB,sC]
        refine tkH 9 ⟨some 126,_,_,_,_,_⟩ undef rfl (Or.inr ⟨by rfl,rfl⟩) ?_
        try simp only [Act.put,sA,sB,sC]
        refine tkH 10 ⟨some 127,_,_,_,_,_⟩ undef rfl (Or.inr ⟨by rfl,rfl⟩) ?_
        try simp only [Act.put,sA,sB,sC]
        refine tkH 11 ⟨some 128,_,_,_,_,_⟩ undef rfl (Or.inr ⟨by rfl,rfl⟩) ?_
        try simp only [Act.put,sA,sB,sC]
        refine tkH 12 ⟨some 129,_,_,_,_,_⟩ undef rfl (Or.inr ⟨by rfl,rfl⟩) ?_
        try simp only [Act.put,sA,sB,sC]
        refine tkH 13 ⟨some 130,_,_,_,_,_⟩ undef rfl (Or.inr ⟨by rfl,rfl⟩) ?_
        try simp only [Act.put,sA,sB,sC]
        refine tkH 14 ⟨some 131,_,_,_,_,_⟩ undef rfl (Or.inr ⟨by rfl,rfl⟩) ?_
        try simp only [Act.put,sA,sB,sC]
        refine tkH 15 ⟨some 132,_,_,_,_,_⟩ ?v3 rfl (Or.inl ⟨by rfl,?y3⟩) ?r3
        case y3=>(intro w h;(try dsimp only at h);go_simp;try with_reducible rfl)
        try simp only [Act.put,sA,sB,sC]
        refine tkH 16 ⟨some 16,_,_,_,_,_⟩ ?v4 rfl (Or.inl ⟨by rfl,?y4⟩) ?r4
        case y4=>(intro w h;(try dsimp only at h);go_simp;try with_reducible rfl)
        try simp only [Act.put,sA,sB,sC]
        refine wpAnyH_done (by kernel_rfl) ?_ _
        refine NoPanic.normal ?_
        go_wp2_with fail
        go_meet
        exact ⟨⟨true,rfl,fun _=>rfl,fun _=>rfl⟩,bd1 _⟩
       | false=>
        obtain ⟨g0,g1,_⟩:=HFB.out _ (bstep X6.out.2.2 (bd1 wq))
        refine wp_region_noPanic ?_
        refine wp_region_held_drew (S:=fun W'=>W'.cell? ⟨b,off+i * 4,none⟩=some (.string (bs f.path))∧W'.cell? ⟨b2,off2+j * 4,none⟩=some (.string (bs np))) (by kernel_rfl) (by exact ⟨(HFB.out _ (bstep X6.out.2.2 (bd1 wq))).1,(HNA.out _ (bstep X6.out.2.2 (bd1 wq))).1⟩) (fun hHeld=>?_)
        refine tkH 0 ⟨some 117,_,_,_,_,_⟩ ?v5 rfl (Or.inl ⟨by rfl,?y5⟩) ?r5
        case y5=>(intro w h;(try dsimp only at h);go_simp;try with_reducible rfl)
        try simp only [Act.put,sA,sB,sC]
        refine tkH 1 ⟨some 118,_,_,_,_,_⟩ ?v6 rfl (Or.inl ⟨by rfl,?y6⟩) ?r6
        case y6=>(intro w h;(try dsimp only at h);go_simp;try with_reducible rfl)
        try simp only [Act.put,sA,sB,sC]
        refine tkH 2 ⟨some 119,_,_,_,_,_⟩ ?v7 rfl (Or.inl ⟨by rfl,?y7⟩) ?r7
        case y7=>(intro w h;(try dsimp only at h);go_simp;try with_reducible rfl)
        try simp only [Act.put,sA,sB,sC]
        refine tkH 3 ⟨some 120,_,_,_,_,_⟩ ?v8 rfl (Or.inl ⟨by rfl,?y8⟩) ?r8
        case y8=>(intro w h;(try dsimp only at h);go_simp;try with_reducible rfl)
        try simp only [Act.put,sA,sB,sC]
        refine tkH 4 ⟨some 121,_,_,_,_,_⟩ ?v9 rfl (Or.inl ⟨by rfl,?y9⟩) ?r9
        case y9=>(intro w h;(try dsimp only at h);go_simp;try with_reducible rfl)
        try simp only [Act.put,sA,sB,sC]
        refine tkH 5 ⟨some 122,_,_,_,_,_⟩ ?v10 rfl (Or.inl ⟨by rfl,?y10⟩) ?r10
        case y10=>(intro w h;(try dsimp only at h);go_simp;try with_reducible rfl)
        try simp only [Act.put,sA,sB,sC]
        refine tkH 6 ⟨some 123,_,_,_,_,_⟩ ?v11 rfl (Or.inl ⟨by rfl,?y11⟩) ?r11
        case y11=>(intro w h;(try dsimp only at h);go_simp;try with_reducible rfl)
        try simp only [Act.put,sA,sB,sC]
        refine tkH 7 ⟨some 124,_,_,_,_,_⟩ ?v12 rfl (Or.inl ⟨by rfl,?y12⟩) ?r12
        case y12=>(intro w h;(try dsimp only at h);go_simp;try with_reducible rfl)
        try simp only [Act.put,sA,sB,sC]
        refine tkH 8 ⟨some 125,_,_,_,_,_⟩ ?v13 rfl (Or.inl ⟨by rfl,?y13⟩) ?r13
        case y13=>(intro w h;(try dsimp only at h);go_simp;try with_reducible rfl)
        try simp only [Act.put,sA,sB,sC]
        refine tkH 9 ⟨some 126,_,_,_,_,_⟩ ?v14 rfl (Or.inl ⟨by rfl,?y14⟩) ?r14
        case y14=>(intro w h;(try dsimp only at h);go_simp;try with_reducible rfl)
        try simp only [Act.put,sA,sB,sC]
        refine tkH 10 ⟨some 127,_,_,_,_,_⟩ ?v15 rfl (Or.inl ⟨by rfl,?y15⟩) ?r15
        case y15=>(intro w h;(try dsimp only at h);go_simp;try with_reducible rfl)
        try simp only [Act.put,sA,sB,sC]
        refine tkH 11 ⟨some 128,_,_,_,_,_⟩ ?v16 rfl (Or.inl ⟨by rfl,?y16⟩) ?r16
        case y16=>(intro w h;(try dsimp only at h);go_simp;try with_reducible rfl)
        try simp only [Act.put,sA,sB,sC]
        refine tkH 12 ⟨some 129,_,_,_,_,_⟩ ?v17 rfl (Or.inl ⟨by rfl,?y17⟩) ?r17
        case y17=>(intro w h;(try dsimp only at h);go_simp;try with_reducible rfl)
        try simp only [Act.put,sA,sB,sC]
        refine wpAnyH_ready (rs:=[13]) (by kernel_rfl) (by simp) ?_
        refine AllReadyH.cons (o:=⟨some 130,_,_,_,_,_⟩) rfl (fun K hK=>?_) AllReadyH.nil
        go_simp
        with_reducible refine (HPL.out _).mono ?_
        rintro e z1 ⟨rfl,rfl⟩
        refine hK.out _ _ (by exact ⟨(HFB.out _ (bstep X6.out.2.2 (bd1 wq))).1,(HNA.out _ (bstep X6.out.2.2 (bd1 wq))).1⟩) (fun hHeld=>?_)
        clear hK K
        try simp only [sA,sB,sC]
        refine tkH 14 ⟨some 131,_,_,_,_,_⟩ ?v18 rfl (Or.inl ⟨by rfl,?y18⟩) ?r18
        case y18=>(intro w h;(try dsimp only at h);go_simp;try with_reducible rfl)
        try simp only [Act.put,sA,sB,sC]
        refine tkH 15 ⟨some 132,_,_,_,_,_⟩ ?v19 rfl (Or.inl ⟨by rfl,?y19⟩) ?r19
        case y19=>(intro w h;(try dsimp only at h);go_simp;try with_reducible rfl)
        try simp only [Act.put,sA,sB,sC]
        refine tkH 16 ⟨some 16,_,_,_,_,_⟩ ?v20 rfl (Or.inl ⟨by rfl,?y20⟩) ?r20
        case y20=>(intro w h;(try dsimp only at h);go_simp;try with_reducible rfl)
        try simp only [Act.put,sA,sB,sC]
        refine wpAnyH_done (by kernel_rfl) ?_ _
        refine NoPanic.normal ?_
        go_wp2_with fail
        go_meet
        exact ⟨⟨_,rfl,(fun h=>by cases h),fun e=>by rw [bs_toList,bs_toList,e];simp⟩,bd1 _⟩
      case rest=>
       obtain ⟨⟨b1,rfl,h1,h2⟩,hbx⟩:=hcut
       have X7:Hid ((bc=true→b1=true)∧(f.path=whl np wName→b1=true)∧Below W.heap.size W wc∧Below wq.heap.size wq wc):=⟨h1,h2,bstep X6.out.2.2 hbx,hbx⟩
       clear h1 h2 hbx
       go_wp2_with fail
       go_loopw [16,18] (fun s16 kv wz=>∃ (k:Nat) (b3:Bool),k≤sn∧kv=.int .i64 k∧s16=.bool b3∧(b1=true→b3=true)∧(∀ g∈n.srcs.take k,g=f→b3=true)∧Below wc.heap.size wc wz) (fun _ kv _=>sn - (intOf kv).toNat)
       case atStart=>exact ⟨0,b1,by omega,rfl,rfl,id,by simp,Below.refl _ _⟩
       case round=>
        rename World=>wz
        obtain ⟨k,b3,hk0,rfl,rfl,r1,r2,hbz⟩:=hrel
        have X8:Hid ((b1=true→b3=true)∧(∀ g∈n.srcs.take k,g=f→b3=true)∧Below wc.heap.size wc wz∧Below W.heap.size W wz):=⟨r1,r2,hbz,bstep X7.out.2.2.1 hbz⟩
        clear r1 r2 hbz
        obtain ⟨c0,c1,c2⟩:=HNA.out wz X8.out.2.2.2
        by_cases hk:k < sn
        ·have k1:(k:Int) < (sn:Int):=by omega
         have k2:(0:Int)≤(k:Int):=by omega
         have hkl:k < n.srcs.length:=by rw [HSN.out];exact hk
         have HGA:Hid (∀ W',Below W.heap.size W W'→∃ b4 o4,sa=some ⟨b4,o4,none⟩∧W'.cell? ⟨b4,o4+k * 4,none⟩=some (.string (bs n.srcs[k].path))∧W'.cell? ⟨b4,o4+k * 4+1,none⟩=some (.string (bs n.srcs[k].text))∧W'.cell? ⟨b4,o4+k * 4+2,none⟩=some (.int .i64 n.srcs[k].blob)∧W'.cell? ⟨b4,o4+k * 4+3,none⟩=some (.int .i64 n.srcs[k].size)):=fun W' hW=>by
          obtain ⟨b4,o4,e,_,d0,d1,d2,d3⟩:=FS.at (by have h:=HXS.out;rw [← HSN.out] at h;exact h) hW hkl
          exact ⟨b4,o4,e,d0,d1,d2,d3⟩
         have HGK:Hid (n.srcs.take (k+1)=n.srcs.take k++[n.srcs[k]]):=List.take_succ_eq_append_getElem hkl
         obtain ⟨g,hg⟩:∃ g,n.srcs[k]=g:=⟨_,rfl⟩
         rw [hg] at HGA HGK
         clear hg
         obtain ⟨b4,o4,eb4,_⟩:=HGA.out wz X8.out.2.2.2
         subst eb4
         have HGB:Hid (∀ W',Below W.heap.size W W'→W'.cell? ⟨b4,o4+k * 4,none⟩=some (.string (bs g.path))∧W'.cell? ⟨b4,o4+k * 4+1,none⟩=some (.string (bs g.text))∧W'.cell? ⟨b4,o4+k * 4+2,none⟩=some (.int .i64 g.blob)∧W'.cell? ⟨b4,o4+k * 4+3,none⟩=some (.int .i64 g.size)):=fun W' hW=>by
          obtain ⟨b9,o9,e9,d0,d1,d2,d3⟩:=HGA.out W' hW
          cases e9
          exact ⟨d0,d1,d2,d3⟩
         go_upto_region 36 with fail
         cases b3 with
         | true=>
          refine wp_region_noPanic ?_
          refine wp_region_held_drew (S:=fun _=>True) (by kernel_rfl) trivial (fun hHeld=>?_)
          refine tkH 0 ⟨some 143,_,_,_,_,_⟩ ?v21 rfl (Or.inl ⟨by rfl,?y21⟩) ?r21
          case y21=>(intro w h;(try dsimp only at h);go_simp;try with_reducible rfl)
          try simp only [Act.put,sA,sB,sC]
          refine tkH 1 ⟨some 144,_,_,_,_,_⟩ ?v22 rfl (Or.inl ⟨by rfl,?y22⟩) ?r22
          case y22=>(intro w h;(try dsimp only at h);go_simp;try with_reducible rfl)
          try simp only [Act.put,sA,sB,sC]
          refine tkH 2 ⟨some 145,_,_,_,_,_⟩ undef rfl (Or.inr ⟨by rfl,rfl⟩) ?_
          try simp only [Act.put,sA,sB,sC]
          refine tkH 3 ⟨some 146,_,_,_,_,_⟩ undef rfl (Or.inr ⟨by rfl,rfl⟩) ?_
          try simp only [Act.put,sA,sB,sC]
          refine tkH 4 ⟨some 147,_,_,_,_,_⟩ undef rfl (Or.inr ⟨by rfl,rfl⟩) ?_
          try simp only [Act.put,sA,sB,sC]
          refine tkH 5 ⟨some 148,_,_,_,_,_⟩ undef rfl (Or.inr ⟨by rfl,rfl⟩) ?_
          try simp only [Act.put,sA,sB,sC]
          refine tkH 6 ⟨some 149,_,_,_,_,_⟩ undef rfl (Or.inr ⟨by rfl,rfl⟩) ?_
          try simp only [Act.put,sA,sB,sC]
          refine tkH 7 ⟨some 150,_,_,_,_,_⟩ undef rfl (Or.inr ⟨by rfl,rfl⟩) ?_
          try simp only [Act.put,sA,sB,sC]
          refine tkH 8 ⟨some 151,_,_,_,_,_⟩ undef rfl (Or.inr ⟨by rfl,rfl⟩) ?_
          try simp only [Act.put,sA,sB,sC]
          refine tkH 9 ⟨some 152,_,_,_,_,_⟩ undef rfl (Or.inr ⟨by rfl,rfl⟩) ?_
          try simp only [Act.put,sA,sB,sC]
          refine tkH 10 ⟨some 153,_,_,_,_,_⟩ undef rfl (Or.inr ⟨by rfl,rfl⟩) ?_
          try simp only [Act.put,sA,sB,sC]
          refine tkH 11 ⟨some 154,_,_,_,_,_⟩ undef rfl (Or.inr ⟨by rfl,rfl⟩) ?_
          try simp only [Act.put,sA,sB,sC]
          refine tkH 12 ⟨some 155,_,_,_,_,_⟩ undef rfl (Or.inr ⟨by rfl,rfl⟩) ?_
          try simp only [Act.put,sA,sB,sC]
          refine tkH 13 ⟨some 156,_,_,_,_,_⟩ undef rfl (Or.inr ⟨by rfl,rfl⟩) ?_
          try simp only [Act.put,sA,sB,sC]
          refine tkH 14 ⟨some 157,_,_,_,_,_⟩ undef rfl (Or.inr ⟨by rfl,rfl⟩) ?_
          try simp only [Act.put,sA,sB,sC]
          refine tkH 15 ⟨some 158,_,_,_,_,_⟩ ?v23 rfl (Or.inl ⟨by rfl,?y23⟩) ?r23
          case y23=>(intro w h;(try dsimp only at h);go_simp;try with_reducible rfl)
          try simp only [Act.put,sA,sB,sC]
          refine tkH 16 ⟨some 16,_,_,_,_,_⟩ ?v24 rfl (Or.inl ⟨by rfl,?y24⟩) ?r24
          case y24=>(intro w h;(try dsimp only at h);go_simp;try with_reducible rfl)
          try simp only [Act.put,sA,sB,sC]
          refine wpAnyH_done (by kernel_rfl) ?_ _
          refine NoPanic.normal ?_
          go_wp2_with fail
          go_roundw
          case rel=>exact ⟨k+1,_,by omega,by go_num,rfl,fun _=>rfl,fun _ _ _=>rfl,bstep X8.out.2.2.1 (bd1 _)⟩
          case measure=>simp [intOf];omega
         | false=>
          have HB1:Hid (Below W.heap.size W wz.drew):=bstep X8.out.2.2.2 (bd1 wz)
          obtain ⟨m0,m1,m2,m3⟩:=HFB.out _ HB1.out
          obtain ⟨v0,v1,v2,v3⟩:=HGB.out _ HB1.out
          have v4:=(HNA.out _ HB1.out).2.2
          have hq:=feql_run
          have hg:=fguard_run
          refine wp_region_noPanic ?_
          refine wp_region_held_drew (S:=fun W'=>W'.cell? ⟨b2,off2+j * 4+2,none⟩=some (.slice (some ⟨b4,o4,none⟩) sn sc)∧W'.cell? ⟨b4,o4+k * 4,none⟩=some (.string (bs g.path))∧W'.cell? ⟨b4,o4+k * 4+1,none⟩=some (.string (bs g.text))∧W'.cell? ⟨b4,o4+k * 4+2,none⟩=some (.int .i64 g.blob)∧W'.cell? ⟨b4,o4+k * 4+3,none⟩=some (.int .i64 g.size)∧W'.cell? ⟨b,off+i * 4,none⟩=some (.string (bs f.path))∧W'.cell? ⟨b,off+i * 4+1,none⟩=some (.string (bs f.text))∧W'.cell? ⟨b,off+i * 4+2,none⟩=some (.int .i64 f.blob)∧W'.cell? ⟨b,off+i * 4+3,none⟩=some (.int .i64 f.size)) (by kernel_rfl) (by exact ⟨v4,v0,v1,v2,v3,m0,m1,m2,m3⟩) (fun hHeld=>?_)
          refine tkH 0 ⟨some 143,_,_,_,_,_⟩ ?v25 rfl (Or.inl ⟨by rfl,?y25⟩) ?r25
          case y25=>(intro w h;(try dsimp only at h);go_simp;try with_reducible rfl)
          try simp only [Act.put,sA,sB,sC]
          refine tkH 1 ⟨some 144,_,_,_,_,_⟩ ?v26 rfl (Or.inl ⟨by rfl,?y26⟩) ?r26
          case y26=>(intro w h;(try dsimp only at h);go_simp;try with_reducible rfl)
          try simp only [Act.put,sA,sB,sC]
          refine tkH 2 ⟨some 145,_,_,_,_,_⟩ ?v27 rfl (Or.inl ⟨by rfl,?y27⟩) ?r27
          case y27=>(intro w h;(try dsimp only at h);go_simp;try with_reducible rfl)
          try simp only [Act.put,sA,sB,sC]
          refine tkH 3 ⟨some 146,_,_,_,_,_⟩ ?v28 rfl (Or.inl ⟨by rfl,?y28⟩) ?r28
          case y28=>(intro w h;(try dsimp only at h);go_simp;try with_reducible rfl)
          try simp only [Act.put,sA,sB,sC]
          refine tkH 4 ⟨some 147,_,_,_,_,_⟩ ?v29 rfl (Or.inl ⟨by rfl,?y29⟩) ?r29
          case y29=>(intro w h;(try dsimp only at h);go_simp;try with_reducible rfl)
          try simp only [Act.put,sA,sB,sC]
          refine tkH 5 ⟨some 148,_,_,_,_,_⟩ ?v30 rfl (Or.inl ⟨by rfl,?y30⟩) ?r30
          case y30=>(intro w h;(try dsimp only at h);go_simp;try with_reducible rfl)
          try simp only [Act.put,sA,sB,sC]
          refine tkH 6 ⟨some 149,_,_,_,_,_⟩ ?v31 rfl (Or.inl ⟨by rfl,?y31⟩) ?r31
          case y31=>(intro w h;(try dsimp only at h);go_simp;try with_reducible rfl)
          try simp only [Act.put,sA,sB,sC]
          refine tkH 7 ⟨some 150,_,_,_,_,_⟩ ?v32 rfl (Or.inl ⟨by rfl,?y32⟩) ?r32
          case y32=>(intro w h;(try dsimp only at h);go_simp;try with_reducible rfl)
          try simp only [Act.put,sA,sB,sC]
          refine tkH 8 ⟨some 151,_,_,_,_,_⟩ ?v33 rfl (Or.inl ⟨by rfl,?y33⟩) ?r33
          case y33=>(intro w h;(try dsimp only at h);go_simp;try with_reducible rfl)
          try simp only [Act.put,sA,sB,sC]
          refine tkH 9 ⟨some 152,_,_,_,_,_⟩ ?v34 rfl (Or.inl ⟨by rfl,?y34⟩) ?r34
          case y34=>(intro w h;(try dsimp only at h);go_simp;try with_reducible rfl)
          try simp only [Act.put,sA,sB,sC]
          refine tkH 10 ⟨some 153,_,_,_,_,_⟩ ?v35 rfl (Or.inl ⟨by rfl,?y35⟩) ?r35
          case y35=>(intro w h;(try dsimp only at h);go_simp;try with_reducible rfl)
          try simp only [Act.put,sA,sB,sC]
          refine tkH 11 ⟨some 154,_,_,_,_,_⟩ ?v36 rfl (Or.inl ⟨by rfl,?y36⟩) ?r36
          case y36=>(intro w h;(try dsimp only at h);go_simp;try with_reducible rfl)
          try simp only [Act.put,sA,sB,sC]
          refine tkH 12 ⟨some 155,_,_,_,_,_⟩ ?v37 rfl (Or.inl ⟨by rfl,?y37⟩) ?r37
          case y37=>(intro w h;(try dsimp only at h);go_simp;try with_reducible rfl)
          try simp only [Act.put,sA,sB,sC]
          refine tkH 13 ⟨some 156,_,_,_,_,_⟩ ?v38 rfl (Or.inl ⟨by rfl,?y38⟩) ?r38
          case y38=>(intro w h;(try dsimp only at h);go_simp;try with_reducible rfl)
          try simp only [Act.put,sA,sB,sC]
          refine tkH 14 ⟨some 157,_,_,_,_,_⟩ ?v39 rfl (Or.inl ⟨by rfl,?y39⟩) ?r39
          case y39=>(intro w h;(try dsimp only at h);go_simp;try with_reducible rfl)
          try simp only [Act.put,sA,sB,sC]
          refine tkH 15 ⟨some 158,_,_,_,_,_⟩ ?v40 rfl (Or.inl ⟨by rfl,?y40⟩) ?r40
          case y40=>(intro w h;(try dsimp only at h);go_simp;try with_reducible rfl)
          try simp only [Act.put,sA,sB,sC]
          refine tkH 16 ⟨some 16,_,_,_,_,_⟩ ?v41 rfl (Or.inl ⟨by rfl,?y41⟩) ?r41
          case y41=>(intro w h;(try dsimp only at h);go_simp;try with_reducible rfl)
          try simp only [Act.put,sA,sB,sC]
          refine wpAnyH_done (by kernel_rfl) ?_ _
          refine NoPanic.normal ?_
          clear m0 m1 m2 m3 v0 v1 v2 v3 v4
          go_wp2_with fail
          go_roundw
          case rel=>exact ⟨k+1,_,by omega,by go_num,rfl,fun h=>absurd (X8.out.1 h) (by simp),fun x hx e=>by
           rw [HGK.out] at hx
           rcases List.mem_append.1 hx with hx | hx
           ·exact absurd (X8.out.2.1 x hx e) (by simp)
           ·rw [List.mem_singleton.1 hx] at e
            exact by rw [e];exact feq_self _,bstep X8.out.2.2.1 (bd1 _)⟩
          case measure=>simp [intOf];omega
        ·obtain rfl:k=sn:=by omega
         go_wp2_with fail
         go_roundw
         case rel=>exact ⟨j+1,b3,by omega,by go_num,rfl,fun x hx hw=>by
          rw [HNK.out] at hx
          rcases List.mem_append.1 hx with hx | hx
          ·exact X8.out.1 (X7.out.1 (X6.out.1 x hx hw))
          ·rw [List.mem_singleton.1 hx] at hw
           rcases hw with hw | hw
           ·refine X8.out.1 (X7.out.2.1 ?_)
            rw [hw,← HXL.out]
           ·refine X8.out.2.1 f ?_ rfl
            rw [List.take_of_length_le (by rw [HSN.out];exact Nat.le_refl _)]
            exact hw,bstep (bstep X6.out.2.1 X7.out.2.2.2) X8.out.2.2.1⟩
         case measure=>simp [intOf];omega
     ·obtain rfl:j=nn:=by omega
      have HWN:Hid (∀ n∈nd,Wnt n f→bc=true):=by
       have h:=X6.out.1
       rw [List.take_of_length_le (by rw [HNN.out];exact Nat.le_refl _)] at h
       exact h
      cases bc with
      | false=>
       go_wp2_with fail
       go_roundw
       case rel=>exact ⟨i+1,q,by omega,by go_num,X5.out.1.later X6.out.2.1,HTK.out.2.1,fun x hx hw=>by
        rw [HTK.out.1] at hx
        rcases List.mem_append.1 hx with hx | hx
        ·exact X5.out.2.2.1 x hx hw
        ·rw [List.mem_singleton.1 hx] at hw
         obtain ⟨n,hn,hw⟩:=hw
         exact absurd (HWN.out n hn hw) (by simp),X6.out.2.2⟩
       case measure=>simp [intOf];omega
      | true=>
       obtain ⟨b9,o9,e9,d0,d1,d2,d3⟩:=HFA.out wq X6.out.2.2
       cases e9
       obtain ⟨fp,ft,fb,fs⟩:=f
       simp only at d0 d1 d2 d3
       have hlen1:q.length+[(⟨fp,ft,fb,fs⟩:Fl)].length≤100000000:=by rw [X5.out.2.2.2.2];simp only [List.length_cons,List.length_nil];omega
       have hba:W.heap.size≤(wq.alloc (.cells #[.string (bs fp),.string (bs ft),.int .i64 fb,.int .i64 fs] 42)).heap.size:=(bstep X6.out.2.2 (balloc _ _)).size
       go_wp2_with (first | (at_builtin;refine app_files (base:=W.heap.size) (l:=q) (k:=[⟨fp,ft,fb,fs⟩]) ((X5.out.1.later X6.out.2.1).later (balloc _ _)) (src_file _ ⟨fp,ft,fb,fs⟩) hlen1 hba rfl (.tmp 160) (.tmp 165) rfl rfl rfl ?_;intro v5 w5 ho5 hg5 hv5))
       have hon:=only_grownK hg5
       have hbl:Below W.heap.size W w5:=below_trans (bstep X6.out.2.2 (balloc _ _)) (hon.below hba (fun x hx=>(X5.out.1.lt (Option.mem_toList.1 hx)).1))
       go_roundw
       case rel=>exact ⟨i+1,q++[⟨fp,ft,fb,fs⟩],by omega,by go_num,ho5,HTK.out.2.2,fun x hx hw=>by
        rw [HTK.out.1] at hx
        rcases List.mem_append.1 hx with hx | hx
        ·exact List.mem_append_left _ (X5.out.2.2.1 x hx hw)
        ·exact List.mem_append_right _ hx,hbl⟩
       case measure=>simp [intOf];omega
  ·obtain rfl:i=fn:=by omega
   go_wp2_with fail
   refine HK.out _ _ ?_
   clear HK
   have hq:q.Sublist l:=by
    have h:=X5.out.2.1
    rw [List.take_of_length_le (by rw [HFN.out];exact Nat.le_refl _)] at h
    exact h
   have hw:∀ f∈l,(∃ n∈nd,Wnt n f)→f∈q:=by
    have h:=X5.out.2.2.1
    rw [List.take_of_length_le (by rw [HFN.out];exact Nat.le_refl _)] at h
    exact h
   have hpr:Prt l q t:=X.out.ok.prt q hq (fun n hn f hf he=>hw f hf ⟨n,hn,.inl he⟩) (fun n hn f hf=>hw f (X.out.srl n hn f hf) ⟨n,hn,.inr hf⟩)
   exact q39 (hid_of (X.out.later X5.out.2.2.2.1)) (hid_of ⟨X5.out.1.fs,hpr⟩)
end Go.Proofs.YtkheacknelbcnaaGreatDoor
