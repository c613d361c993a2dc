import Derived.Test.YtppnbdnpapellaaGreatDoorJMerge
import Derived.Test.YtppnbdnpapellaaGreatDoorJYf
set_option maxRecDepth 100000
set_option maxHeartbeats 16000000
namespace Go.Proofs.YtppnbdnpapellaaGreatDoor
open Go.RowKit Go.Maps
theorem leq_step (a b:List Fl) (k:Nat) (ha:k < a.length) (hb:k < b.length):leq (a.drop k) (b.drop k)=(feq (a[k]'ha) (b[k]'hb) && leq (a.drop (k+1)) (b.drop (k+1))):=by
 rw [List.drop_eq_getElem_cons ha,List.drop_eq_getElem_cons hb,leq]
theorem leq_len {a b:List Fl} (h:a.length≠b.length):leq a b=false:=by
 cases e:leq a b
 ·rfl
 ·exact absurd (congrArg List.length ((leq_iff a b).1 e)) h
theorem lbq_step (a b:List Lb) (k:Nat) (ha:k < a.length) (hb:k < b.length):decide (a.drop k=b.drop k)=(lleq (a[k]'ha) (b[k]'hb) && decide (a.drop (k+1)=b.drop (k+1))):=by
 rw [List.drop_eq_getElem_cons ha,List.drop_eq_getElem_cons hb]
 unfold lleq
 rw [← Bool.decide_and]
 exact decide_eq_decide.2 List.cons_eq_cons
theorem lbq_len {a b:List Lb} (h:a.length≠b.length):decide (a=b)=false:=decide_eq_false (fun e=>h (congrArg List.length e))
theorem lbq_any {w:World} {u v:Value} {l k:List Lb} (h:LS w u l) (h':LS w v k) (hl:l.length≤100000000) :
  Calls Tryz.prog 23 #[u,v] w fun e w'=>e=.returned (.bool (decide (l=k)))∧Below w.heap.size w w':=by
 have H:Hid (LS w u l∧LS w v k):=⟨h,h'⟩
 obtain ⟨au,cu,hvv,_⟩:=h.form
 obtain ⟨av,cv,hvv',_⟩:=h'.form
 obtain ⟨n,hn⟩:∃ n,l.length=n:=⟨_,rfl⟩
 obtain ⟨n',hn'⟩:∃ n',k.length=n':=⟨_,rfl⟩
 rw [hn] at hvv hl
 rw [hn'] at hvv'
 subst hvv
 subst hvv'
 have HN:Hid (l.length=n∧k.length=n'):=⟨hn,hn'⟩
 clear h h' hn hn'
 by_cases hnn:n=n'
 ·subst hnn
  obtain ⟨r,hr⟩:∃ r,decide (l=k)=r:=⟨_,rfl⟩
  rw [hr]
  have HR:Hid (decide ((l.drop 0)=(k.drop 0))=r):=hr
  clear hr
  have hq:=lneq_run'
  have hg:=guard_run
  go_enter Tryz.func23,Tryz.ntmps23
  go_wp2_with fail
  go_loopw [5] (fun s5 wr=>∃ i:Nat,s5=.int .i64 i∧i≤n∧Below w.heap.size w wr∧decide ((l.drop i)=(k.drop i))=r) (fun s5 _=>n - (intOf s5).toNat)
  case atStart=>exact ⟨0,rfl,by omega,Below.refl _ _,HR.out⟩
  case round=>
   obtain ⟨i,rfl,hi,hb,hd⟩:=hrel
   have HX:Hid (Below w.heap.size w wr∧decide ((l.drop i)=(k.drop i))=r):=⟨hb,hd⟩
   clear hb hd
   by_cases hlt:i < n
   ·have hll:i < l.length:=by rw [HN.out.1];exact hlt
    have hkk:i < k.length:=by rw [HN.out.2];exact hlt
    have HD:Hid ((lleq (l[i]) (k[i]) && decide ((l.drop (i+1))=(k.drop (i+1))))=r):=by
     have h1:=HX.out.2
     rw [lbq_step l k i hll hkk] at h1
     exact h1
    obtain ⟨b,off,ea,hbw,d0,d1⟩:=LS.at (by have q:=H.out.1;rw [← HN.out.1] at q;exact q) HX.out.1 hll
    subst ea
    obtain ⟨b',off',ea,hbw',e0,e1⟩:=LS.at (by have q:=H.out.2;rw [← HN.out.2] at q;exact q) HX.out.1 hkk
    subst ea
    generalize l[i]=x at d0 d1 HD
    generalize k[i]=y at e0 e1 HD
    obtain ⟨x0,x1⟩:=x
    obtain ⟨y0,y1⟩:=y
    simp only at d0 d1 e0 e1
    have k1:(i:Int) < (n:Int):=by omega
    have k2:(0:Int)≤(i:Int):=by omega
    obtain ⟨c,hc⟩:∃ c,lleq ⟨x0,x1⟩ ⟨y0,y1⟩=c:=⟨_,rfl⟩
    rw [hc] at HD
    cases c
    ·go_wp2_with fail
     go_quiet (fail)
     go_wp2_with fail
     go_ret
     exact ⟨by rw [← HD.out];rfl,bstep HX.out.1 (bd _ _)⟩
    ·go_wp2_with fail
     go_quiet (fail)
     go_wp2_with fail
     go_roundw
     case rel=>exact ⟨i+1,by go_num,by omega,bstep HX.out.1 (bd _ _),by have h1:=HD.out;rwa [Bool.true_and] at h1⟩
     case measure=>simp [intOf];omega
   ·obtain rfl:n=i:=by omega
    go_wp2_with fail
    go_ret
    refine ⟨?_,HX.out.1⟩
    have h1:=HX.out.2
    rw [List.drop_eq_nil_of_le (by rw [HN.out.1];exact Nat.le_refl _),List.drop_eq_nil_of_le (by rw [HN.out.2];exact Nat.le_refl _)] at h1
    rw [← h1];rfl
 ·have hd:¬ (n:Int)=(n':Int):=by omega
  have e0:decide (l=k)=false:=lbq_len (by rw [HN.out.1,HN.out.2];exact hnn)
  rw [e0]
  go_enter Tryz.func23,Tryz.ntmps23
  go_wp2_with fail
  go_ret
  exact ⟨rfl,Below.refl _ _⟩
theorem flq_any {w:World} {u v:Value} {l k:List Fl} (h:FS w u l) (h':FS w v k) (hl:l.length≤100000000) :
  Calls Tryz.prog 22 #[u,v] w fun e w'=>e=.returned (.bool (leq l k))∧Below w.heap.size w w':=by
 have H:Hid (FS w u l∧FS w v k):=⟨h,h'⟩
 obtain ⟨au,cu,hvv,_⟩:=h.form
 obtain ⟨av,cv,hvv',_⟩:=h'.form
 obtain ⟨n,hn⟩:∃ n,l.length=n:=⟨_,rfl⟩
 obtain ⟨n',hn'⟩:∃ n',k.length=n':=⟨_,rfl⟩
 rw [hn] at hvv hl
 rw [hn'] at hvv'
 subst hvv
 subst hvv'
 have HN:Hid (l.length=n∧k.length=n'):=⟨hn,hn'⟩
 clear h h' hn hn'
 by_cases hnn:n=n'
 ·subst hnn
  obtain ⟨r,hr⟩:∃ r,leq l k=r:=⟨_,rfl⟩
  rw [hr]
  have HR:Hid (leq (l.drop 0) (k.drop 0)=r):=hr
  clear hr
  have hq:=neq_run
  have hg:=fguard_run
  go_enter Tryz.func22,Tryz.ntmps22
  go_wp2_with fail
  go_loopw [5] (fun s5 wr=>∃ i:Nat,s5=.int .i64 i∧i≤n∧Below w.heap.size w wr∧leq (l.drop i) (k.drop i)=r) (fun s5 _=>n - (intOf s5).toNat)
  case atStart=>exact ⟨0,rfl,by omega,Below.refl _ _,HR.out⟩
  case round=>
   obtain ⟨i,rfl,hi,hb,hd⟩:=hrel
   have HX:Hid (Below w.heap.size w wr∧leq (l.drop i) (k.drop i)=r):=⟨hb,hd⟩
   clear hb hd
   by_cases hlt:i < n
   ·have hll:i < l.length:=by rw [HN.out.1];exact hlt
    have hkk:i < k.length:=by rw [HN.out.2];exact hlt
    have HD:Hid ((feq (l[i]) (k[i]) && leq (l.drop (i+1)) (k.drop (i+1)))=r):=by
     have h1:=HX.out.2
     rw [leq_step l k i hll hkk] at h1
     exact h1
    obtain ⟨b,off,ea,hbw,d0,d1,d2,d3⟩:=FS.at (by have q:=H.out.1;rw [← HN.out.1] at q;exact q) HX.out.1 hll
    subst ea
    obtain ⟨b',off',ea,hbw',e0,e1,e2,e3⟩:=FS.at (by have q:=H.out.2;rw [← HN.out.2] at q;exact q) HX.out.1 hkk
    subst ea
    generalize l[i]=x at d0 d1 d2 d3 HD
    generalize k[i]=y at e0 e1 e2 e3 HD
    obtain ⟨x0,x1,x2,x3⟩:=x
    obtain ⟨y0,y1,y2,y3⟩:=y
    simp only at d0 d1 d2 d3 e0 e1 e2 e3
    have k1:(i:Int) < (n:Int):=by omega
    have k2:(0:Int)≤(i:Int):=by omega
    obtain ⟨c,hc⟩:∃ c,feq ⟨x0,x1,x2,x3⟩ ⟨y0,y1,y2,y3⟩=c:=⟨_,rfl⟩
    rw [hc] at HD
    cases c
    ·go_wp2_with fail
     go_quiet (fail)
     go_wp2_with fail
     go_ret
     exact ⟨by rw [← HD.out];rfl,bstep HX.out.1 (bd _ _)⟩
    ·go_wp2_with fail
     go_quiet (fail)
     go_wp2_with fail
     go_roundw
     case rel=>exact ⟨i+1,by go_num,by omega,bstep HX.out.1 (bd _ _),by have h1:=HD.out;rwa [Bool.true_and] at h1⟩
     case measure=>simp [intOf];omega
   ·obtain rfl:n=i:=by omega
    go_wp2_with fail
    go_ret
    refine ⟨?_,HX.out.1⟩
    have h1:=HX.out.2
    rw [List.drop_eq_nil_of_le (by rw [HN.out.1];exact Nat.le_refl _),List.drop_eq_nil_of_le (by rw [HN.out.2];exact Nat.le_refl _)] at h1
    rw [← h1];rfl
 ·have hd:¬ (n:Int)=(n':Int):=by omega
  have e0:leq l k=false:=leq_len (by rw [HN.out.1,HN.out.2];exact hnn)
  rw [e0]
  go_enter Tryz.func22,Tryz.ntmps22
  go_wp2_with fail
  go_ret
  exact ⟨rfl,Below.refl _ _⟩
theorem ndq_any {w:World} {u v:Value} {l k:List Nd} {b0 b1:Nat} (h:NOwn b0 w u l) (h2:NOwn b1 w v k) (hl:l.length≤100000000) (hd:∀ n∈l,n.srcs.length≤100000000∧n.deps.length≤100000000) :
  Calls Tryz.prog 16 #[u,v] w fun e w'=>∃ r:Bool,e=.returned (.bool r)∧(r=true↔l=k)∧Below w.heap.size w w':=by
 obtain ⟨xs,x1,x2,x3,_,_⟩:=h.it
 obtain ⟨ys,y1,y2,y3,_,_⟩:=h2.it
 obtain ⟨au,cu,hu⟩:=h.form
 obtain ⟨av,cv,hv⟩:=h2.form
 have H:=hid_of (And.intro x1.rs (And.intro x2 (And.intro x3 (And.intro y1.rs (And.intro y2 (And.intro y3 hd))))))
 obtain ⟨n,hn⟩:∃ n,l.length=n:=⟨_,rfl⟩
 obtain ⟨n',hn'⟩:∃ n',k.length=n':=⟨_,rfl⟩
 rw [hn] at hu hl
 rw [hn'] at hv
 subst hu
 subst hv
 have HN:Hid (l.length=n∧k.length=n'):=⟨hn,hn'⟩
 clear h h2 x1 x2 x3 y1 y2 y3 hn hn' hd
 by_cases hnn:n=n'
 ·subst hnn
  go_enter Tryz.func16,Tryz.ntmps16
  go_wp2_with fail
  go_loopw [5] (fun s5 wr=>∃ i:Nat,s5=.int .i64 i∧i≤n∧Below w.heap.size w wr∧l.take i=k.take i) (fun s5 _=>n - (intOf s5).toNat)
  case atStart=>exact ⟨0,rfl,by omega,Below.refl _ _,rfl⟩
  case round=>
   obtain ⟨i,rfl,hi,hb,htk⟩:=hrel
   have HX:Hid (Below w.heap.size w wr∧l.take i=k.take i):=⟨hb,htk⟩
   clear hb htk
   by_cases hlt:i < n
   ·have i1:(i:Int) < (n:Int):=by omega
    have i2:(0:Int)≤(i:Int):=by omega
    have hil:i < l.length:=by rw [HN.out.1];exact hlt
    have hik:i < k.length:=by rw [HN.out.2];exact hlt
    have hix:i < xs.length:=by rw [H.out.2.1];exact hil
    have hiy:i < ys.length:=by rw [H.out.2.2.2.2.1];exact hik
    have hnx:=H.out.2.2.1 i hix hil
    have hny:=H.out.2.2.2.2.2.1 i hiy hik
    have HDL:=hid_of (H.out.2.2.2.2.2.2 l[i] (List.getElem_mem hil))
    have HSF:=hid_of (fun W (hW:Below w.heap.size w W)=>flq_any ((hnx.s.later hW).fs) ((hny.s.later hW).fs) HDL.out.1)
    have HSL:=hid_of (fun W (hW:Below w.heap.size w W)=>lbq_any ((hnx.d.later hW).rs) ((hny.d.later hW).rs) HDL.out.2)
    have hlab:=hnx.lab
    have hlab2:=hny.lab
    have HAT:=hid_of (fun W (hW:Below w.heap.size w W)=>And.intro (NS.at H.out.1 hW hix) (NS.at H.out.2.2.2.1 hW hiy))
    have HTS:Hid (l[i]=k[i]→l.take (i+1)=k.take (i+1)):=fun e=>by
     rw [List.take_succ_eq_append_getElem hil,List.take_succ_eq_append_getElem hik,HX.out.2,e]
    have HTN:Hid (l[i]≠k[i]→l≠k):=fun e e2=>e (by subst e2;rfl)
    clear hnx hny
    obtain ⟨x,hx⟩:∃ x,xs[i]=x:=⟨_,rfl⟩
    obtain ⟨y,hy⟩:∃ y,ys[i]=y:=⟨_,rfl⟩
    rw [hx] at HSF HSL HAT hlab
    rw [hy] at HSF HSL HAT hlab2
    clear hx hy
    obtain ⟨p,m,xsa,xsn,xsc,xda,xdn,xdc⟩:=x
    obtain ⟨p2,m2,ysa,ysn,ysc,yda,ydn,ydc⟩:=y
    simp only [Nv.s,Nv.d] at HSF HSL HAT
    generalize l[i]=X at HSF HSL HTS HTN hlab
    generalize k[i]=Y at HSF HSL HTS HTN hlab2
    obtain ⟨Xl,Xs,Xd⟩:=X
    obtain ⟨Yl,Ys,Yd⟩:=Y
    simp only at HSF HSL hlab hlab2
    subst hlab
    subst hlab2
    obtain ⟨⟨b,off,eb,hbl,_⟩,b2,off2,eb2,hbl2,_⟩:=HAT.out wr HX.out.1
    subst eb
    subst eb2
    have HS:Hid (∀ W,Below wr.heap.size wr W→W.cell? ⟨b,off+i * 4,none⟩=some (.string (bs p))∧W.cell? ⟨b,off+i * 4+1,none⟩=some (.string (bs m))∧W.cell? ⟨b,off+i * 4+2,none⟩=some (.slice xsa xsn xsc)∧W.cell? ⟨b,off+i * 4+3,none⟩=some (.slice xda xdn xdc)∧W.cell? ⟨b2,off2+i * 4,none⟩=some (.string (bs p2))∧W.cell? ⟨b2,off2+i * 4+1,none⟩=some (.string (bs m2))∧W.cell? ⟨b2,off2+i * 4+2,none⟩=some (.slice ysa ysn ysc)∧W.cell? ⟨b2,off2+i * 4+3,none⟩=some (.slice yda ydn ydc)):=fun W hW=>by
     obtain ⟨⟨b9,o9,e9,_,c0,c1,c2,c3⟩,b8,o8,e8,_,d0,d1,d2,d3⟩:=HAT.out W (bstep HX.out.1 hW)
     cases e9
     cases e8
     exact ⟨c0,c1,c2,c3,d0,d1,d2,d3⟩
    have hq:=lneq_run'
    have hg:=guard_run
    clear HAT
    obtain ⟨a,ha⟩:∃ a,lleq ⟨p,m⟩ ⟨p2,m2⟩=a:=⟨_,rfl⟩
    obtain ⟨fb,hfb⟩:∃ fb,leq Xs Ys=fb:=⟨_,rfl⟩
    obtain ⟨db,hdb⟩:∃ db,decide (Xd=Yd)=db:=⟨_,rfl⟩
    go_upto_region 6 with fail
    obtain ⟨g0,g1,g2,g3,g4,g5,g6,g7⟩:=HS.out _ (bd wr 1)
    refine wp_region_noPanic ?_
    refine wp_region_held_drew (S:=fun W'=>W'.cell? ⟨b,off+i * 4,none⟩=some (.string (bs p))∧W'.cell? ⟨b,off+i * 4+1,none⟩=some (.string (bs m))∧W'.cell? ⟨b,off+i * 4+2,none⟩=some (.slice xsa xsn xsc)∧W'.cell? ⟨b,off+i * 4+3,none⟩=some (.slice xda xdn xdc)∧W'.cell? ⟨b2,off2+i * 4,none⟩=some (.string (bs p2))∧W'.cell? ⟨b2,off2+i * 4+1,none⟩=some (.string (bs m2))∧W'.cell? ⟨b2,off2+i * 4+2,none⟩=some (.slice ysa ysn ysc)∧W'.cell? ⟨b2,off2+i * 4+3,none⟩=some (.slice yda ydn ydc)) (by kernel_rfl) (by exact HS.out _ (bd wr 1)) (fun hHeld=>?_)
    refine tkH 0 ⟨some 17,_,_,_,_,_⟩ ?v1 rfl (Or.inl ⟨by rfl,?y1⟩) ?r1
    case y1=>(intro w h;(try dsimp only at h);go_simp;try with_reducible rfl)
    try simp only [Act.put,sA,sB,sC]
    refine tkH 1 ⟨some 18,_,_,_,_,_⟩ ?v2 rfl (Or.inl ⟨by rfl,?y2⟩) ?r2
    case y2=>(intro w h;(try dsimp only at h);go_simp;try with_reducible rfl)
    try simp only [Act.put,sA,sB,sC]
    refine tkH 2 ⟨some 19,_,_,_,_,_⟩ ?v3 rfl (Or.inl ⟨by rfl,?y3⟩) ?r3
    case y3=>(intro w h;(try dsimp only at h);go_simp;try with_reducible rfl)
    try simp only [Act.put,sA,sB,sC]
    refine tkH 3 ⟨some 20,_,_,_,_,_⟩ ?v4 rfl (Or.inl ⟨by rfl,?y4⟩) ?r4
    case y4=>(intro w h;(try dsimp only at h);go_simp;try with_reducible rfl)
    try simp only [Act.put,sA,sB,sC]
    refine tkH 4 ⟨some 21,_,_,_,_,_⟩ ?v5 rfl (Or.inl ⟨by rfl,?y5⟩) ?r5
    case y5=>(intro w h;(try dsimp only at h);go_simp;try with_reducible rfl)
    try simp only [Act.put,sA,sB,sC]
    refine tkH 5 ⟨some 22,_,_,_,_,_⟩ ?v6 rfl (Or.inl ⟨by rfl,?y6⟩) ?r6
    case y6=>(intro w h;(try dsimp only at h);go_simp;try with_reducible rfl)
    try simp only [Act.put,sA,sB,sC]
    refine tkH 6 ⟨some 23,_,_,_,_,_⟩ ?v7 rfl (Or.inl ⟨by rfl,?y7⟩) ?r7
    case y7=>(intro w h;(try dsimp only at h);go_simp;try with_reducible rfl)
    try simp only [Act.put,sA,sB,sC]
    refine tkH 7 ⟨some 24,_,_,_,_,_⟩ ?v8 rfl (Or.inl ⟨by rfl,?y8⟩) ?r8
    case y8=>(intro w h;(try dsimp only at h);go_simp;try with_reducible rfl)
    try simp only [Act.put,sA,sB,sC]
    refine tkH 8 ⟨some 25,_,_,_,_,_⟩ ?v9 rfl (Or.inl ⟨by rfl,?y9⟩) ?r9
    case y9=>(intro w h;(try dsimp only at h);go_simp;try with_reducible rfl)
    try simp only [Act.put,sA,sB,sC]
    refine tkH 9 ⟨some 26,_,_,_,_,_⟩ ?v10 rfl (Or.inl ⟨by rfl,?y10⟩) ?r10
    case y10=>(intro w h;(try dsimp only at h);go_simp;try with_reducible rfl)
    try simp only [Act.put,sA,sB,sC]
    refine tkH 10 ⟨some 27,_,_,_,_,_⟩ ?v11 rfl (Or.inl ⟨by rfl,?y11⟩) ?r11
    case y11=>(intro w h;(try dsimp only at h);go_simp;try with_reducible rfl)
    try simp only [Act.put,sA,sB,sC]
    refine tkH 11 ⟨some 28,_,_,_,_,_⟩ ?v12 rfl (Or.inl ⟨by rfl,?y12⟩) ?r12
    case y12=>(intro w h;(try dsimp only at h);go_simp;try with_reducible rfl)
    try simp only [Act.put,sA,sB,sC]
    cases a
    ·have HNE:Hid (l≠k):=HTN.out (fun e=>by
      have e1:=congrArg Nd.lab e
      rw [show lleq ⟨p,m⟩ ⟨p2,m2⟩=true from decide_eq_true e1] at ha
      cases ha)
     refine tkH 12 ⟨some 29,_,_,_,_,_⟩ undef rfl (Or.inr ⟨by rfl,rfl⟩) ?_
     try simp only [Act.put,sA,sB,sC]
     refine tkH 13 ⟨some 30,_,_,_,_,_⟩ undef rfl (Or.inr ⟨by rfl,rfl⟩) ?_
     try simp only [Act.put,sA,sB,sC]
     refine tkH 14 ⟨some 31,_,_,_,_,_⟩ undef rfl (Or.inr ⟨by rfl,rfl⟩) ?_
     try simp only [Act.put,sA,sB,sC]
     refine tkH 15 ⟨some 32,_,_,_,_,_⟩ undef rfl (Or.inr ⟨by rfl,rfl⟩) ?_
     try simp only [Act.put,sA,sB,sC]
     refine tkH 16 ⟨some 33,_,_,_,_,_⟩ undef rfl (Or.inr ⟨by rfl,rfl⟩) ?_
     try simp only [Act.put,sA,sB,sC]
     refine tkH 17 ⟨some 34,_,_,_,_,_⟩ undef rfl (Or.inr ⟨by rfl,rfl⟩) ?_
     try simp only [Act.put,sA,sB,sC]
     refine tkH 18 ⟨some 35,_,_,_,_,_⟩ undef rfl (Or.inr ⟨by rfl,rfl⟩) ?_
     try simp only [Act.put,sA,sB,sC]
     refine tkH 19 ⟨some 36,_,_,_,_,_⟩ undef rfl (Or.inr ⟨by rfl,rfl⟩) ?_
     try simp only [Act.put,sA,sB,sC]
     refine tkH 20 ⟨some 37,_,_,_,_,_⟩ undef rfl (Or.inr ⟨by rfl,rfl⟩) ?_
     try simp only [Act.put,sA,sB,sC]
     refine tkH 21 ⟨some 38,_,_,_,_,_⟩ undef rfl (Or.inr ⟨by rfl,rfl⟩) ?_
     try simp only [Act.put,sA,sB,sC]
     refine tkH 22 ⟨some 39,_,_,_,_,_⟩ undef rfl (Or.inr ⟨by rfl,rfl⟩) ?_
     try simp only [Act.put,sA,sB,sC]
     refine tkH 23 ⟨some 40,_,_,_,_,_⟩ undef rfl (Or.inr ⟨by rfl,rfl⟩) ?_
     try simp only [Act.put,sA,sB,sC]
     refine tkH 24 ⟨some 41,_,_,_,_,_⟩ ?v13 rfl (Or.inl ⟨by rfl,?y13⟩) ?r13
     case y13=>(intro w h;(try dsimp only at h);go_simp;try with_reducible rfl)
     try simp only [Act.put,sA,sB,sC]
     refine tkH 25 ⟨some 42,_,_,_,_,_⟩ ?v14 rfl (Or.inl ⟨by rfl,?y14⟩) ?r14
     case y14=>(intro w h;(try dsimp only at h);go_simp;try with_reducible rfl)
     try simp only [Act.put,sA,sB,sC]
     refine tkH 26 ⟨some 43,_,_,_,_,_⟩ undef rfl (Or.inr ⟨by rfl,rfl⟩) ?_
     try simp only [Act.put,sA,sB,sC]
     refine tkH 27 ⟨some 44,_,_,_,_,_⟩ undef rfl (Or.inr ⟨by rfl,rfl⟩) ?_
     try simp only [Act.put,sA,sB,sC]
     refine tkH 28 ⟨some 45,_,_,_,_,_⟩ undef rfl (Or.inr ⟨by rfl,rfl⟩) ?_
     try simp only [Act.put,sA,sB,sC]
     refine tkH 29 ⟨some 46,_,_,_,_,_⟩ undef rfl (Or.inr ⟨by rfl,rfl⟩) ?_
     try simp only [Act.put,sA,sB,sC]
     refine tkH 30 ⟨some 47,_,_,_,_,_⟩ undef rfl (Or.inr ⟨by rfl,rfl⟩) ?_
     try simp only [Act.put,sA,sB,sC]
     refine tkH 31 ⟨some 48,_,_,_,_,_⟩ undef rfl (Or.inr ⟨by rfl,rfl⟩) ?_
     try simp only [Act.put,sA,sB,sC]
     refine tkH 32 ⟨some 49,_,_,_,_,_⟩ undef rfl (Or.inr ⟨by rfl,rfl⟩) ?_
     try simp only [Act.put,sA,sB,sC]
     refine tkH 33 ⟨some 50,_,_,_,_,_⟩ undef rfl (Or.inr ⟨by rfl,rfl⟩) ?_
     try simp only [Act.put,sA,sB,sC]
     refine tkH 34 ⟨some 51,_,_,_,_,_⟩ undef rfl (Or.inr ⟨by rfl,rfl⟩) ?_
     try simp only [Act.put,sA,sB,sC]
     refine tkH 35 ⟨some 52,_,_,_,_,_⟩ undef rfl (Or.inr ⟨by rfl,rfl⟩) ?_
     try simp only [Act.put,sA,sB,sC]
     refine tkH 36 ⟨some 53,_,_,_,_,_⟩ undef rfl (Or.inr ⟨by rfl,rfl⟩) ?_
     try simp only [Act.put,sA,sB,sC]
     refine tkH 37 ⟨some 54,_,_,_,_,_⟩ undef rfl (Or.inr ⟨by rfl,rfl⟩) ?_
     try simp only [Act.put,sA,sB,sC]
     refine tkH 38 ⟨some 55,_,_,_,_,_⟩ ?v15 rfl (Or.inl ⟨by rfl,?y15⟩) ?r15
     case y15=>(intro w h;(try dsimp only at h);go_simp;try with_reducible rfl)
     try simp only [Act.put,sA,sB,sC]
     refine wpAnyH_done (by kernel_rfl) ?_ _
     refine NoPanic.normal ?_
     clear hHeld g0 g1 g2 g3 g4 g5 g6 g7
     go_wp2_with fail
     go_ret
     exact ⟨false,rfl,⟨(fun h=>by cases h),fun h=>absurd h HNE.out⟩,bstep HX.out.1 (bd1 wr)⟩
    ·refine tkH 12 ⟨some 29,_,_,_,_,_⟩ ?v16 rfl (Or.inl ⟨by rfl,?y16⟩) ?r16
     case y16=>(intro w h;(try dsimp only at h);go_simp;try with_reducible rfl)
     try simp only [Act.put,sA,sB,sC]
     refine tkH 13 ⟨some 30,_,_,_,_,_⟩ ?v17 rfl (Or.inl ⟨by rfl,?y17⟩) ?r17
     case y17=>(intro w h;(try dsimp only at h);go_simp;try with_reducible rfl)
     try simp only [Act.put,sA,sB,sC]
     refine tkH 14 ⟨some 31,_,_,_,_,_⟩ ?v18 rfl (Or.inl ⟨by rfl,?y18⟩) ?r18
     case y18=>(intro w h;(try dsimp only at h);go_simp;try with_reducible rfl)
     try simp only [Act.put,sA,sB,sC]
     refine tkH 15 ⟨some 32,_,_,_,_,_⟩ ?v19 rfl (Or.inl ⟨by rfl,?y19⟩) ?r19
     case y19=>(intro w h;(try dsimp only at h);go_simp;try with_reducible rfl)
     try simp only [Act.put,sA,sB,sC]
     refine tkH 16 ⟨some 33,_,_,_,_,_⟩ ?v20 rfl (Or.inl ⟨by rfl,?y20⟩) ?r20
     case y20=>(intro w h;(try dsimp only at h);go_simp;try with_reducible rfl)
     try simp only [Act.put,sA,sB,sC]
     refine tkH 17 ⟨some 34,_,_,_,_,_⟩ ?v21 rfl (Or.inl ⟨by rfl,?y21⟩) ?r21
     case y21=>(intro w h;(try dsimp only at h);go_simp;try with_reducible rfl)
     try simp only [Act.put,sA,sB,sC]
     refine tkH 18 ⟨some 35,_,_,_,_,_⟩ ?v22 rfl (Or.inl ⟨by rfl,?y22⟩) ?r22
     case y22=>(intro w h;(try dsimp only at h);go_simp;try with_reducible rfl)
     try simp only [Act.put,sA,sB,sC]
     refine tkH 19 ⟨some 36,_,_,_,_,_⟩ ?v23 rfl (Or.inl ⟨by rfl,?y23⟩) ?r23
     case y23=>(intro w h;(try dsimp only at h);go_simp;try with_reducible rfl)
     try simp only [Act.put,sA,sB,sC]
     refine tkH 20 ⟨some 37,_,_,_,_,_⟩ ?v24 rfl (Or.inl ⟨by rfl,?y24⟩) ?r24
     case y24=>(intro w h;(try dsimp only at h);go_simp;try with_reducible rfl)
     try simp only [Act.put,sA,sB,sC]
     refine tkH 21 ⟨some 38,_,_,_,_,_⟩ ?v25 rfl (Or.inl ⟨by rfl,?y25⟩) ?r25
     case y25=>(intro w h;(try dsimp only at h);go_simp;try with_reducible rfl)
     try simp only [Act.put,sA,sB,sC]
     refine wpAnyH_ready (rs:=[22]) (by kernel_rfl) (by simp) ?_
     refine AllReadyH.cons (o:=⟨some 39,_,_,_,_,_⟩) rfl (fun K hK=>?_) AllReadyH.nil
     go_simp
     with_reducible refine (HSF.out wr.drew (bstep HX.out.1 (bd1 wr))).mono ?_
     rintro e z1 ⟨rfl,hb⟩
     have Hz1:Hid (Below wr.heap.size wr z1):=bstep (bd1 wr) hb
     clear hb
     rw [hfb]
     refine hK.out _ _ (HS.out z1 Hz1.out) (fun hHeld=>?_)
     clear hK K
     try simp only [sA,sB,sC]
     refine tkH 23 ⟨some 40,_,_,_,_,_⟩ ?v26 rfl (Or.inl ⟨by rfl,?y26⟩) ?r26
     case y26=>(intro w h;(try dsimp only at h);go_simp;try with_reducible rfl)
     try simp only [Act.put,sA,sB,sC]
     refine tkH 24 ⟨some 41,_,_,_,_,_⟩ ?v27 rfl (Or.inl ⟨by rfl,?y27⟩) ?r27
     case y27=>(intro w h;(try dsimp only at h);go_simp;try with_reducible rfl)
     try simp only [Act.put,sA,sB,sC]
     refine tkH 25 ⟨some 42,_,_,_,_,_⟩ ?v28 rfl (Or.inl ⟨by rfl,?y28⟩) ?r28
     case y28=>(intro w h;(try dsimp only at h);go_simp;try with_reducible rfl)
     try simp only [Act.put,sA,sB,sC]
     cases fb
     ·have HNE:Hid (l≠k):=HTN.out (fun e=>by
       have e1:=(leq_iff Xs Ys).2 (congrArg Nd.srcs e)
       rw [e1] at hfb
       cases hfb)
      refine tkH 26 ⟨some 43,_,_,_,_,_⟩ undef rfl (Or.inr ⟨by rfl,rfl⟩) ?_
      try simp only [Act.put,sA,sB,sC]
      refine tkH 27 ⟨some 44,_,_,_,_,_⟩ undef rfl (Or.inr ⟨by rfl,rfl⟩) ?_
      try simp only [Act.put,sA,sB,sC]
      refine tkH 28 ⟨some 45,_,_,_,_,_⟩ undef rfl (Or.inr ⟨by rfl,rfl⟩) ?_
      try simp only [Act.put,sA,sB,sC]
      refine tkH 29 ⟨some 46,_,_,_,_,_⟩ undef rfl (Or.inr ⟨by rfl,rfl⟩) ?_
      try simp only [Act.put,sA,sB,sC]
      refine tkH 30 ⟨some 47,_,_,_,_,_⟩ undef rfl (Or.inr ⟨by rfl,rfl⟩) ?_
      try simp only [Act.put,sA,sB,sC]
      refine tkH 31 ⟨some 48,_,_,_,_,_⟩ undef rfl (Or.inr ⟨by rfl,rfl⟩) ?_
      try simp only [Act.put,sA,sB,sC]
      refine tkH 32 ⟨some 49,_,_,_,_,_⟩ undef rfl (Or.inr ⟨by rfl,rfl⟩) ?_
      try simp only [Act.put,sA,sB,sC]
      refine tkH 33 ⟨some 50,_,_,_,_,_⟩ undef rfl (Or.inr ⟨by rfl,rfl⟩) ?_
      try simp only [Act.put,sA,sB,sC]
      refine tkH 34 ⟨some 51,_,_,_,_,_⟩ undef rfl (Or.inr ⟨by rfl,rfl⟩) ?_
      try simp only [Act.put,sA,sB,sC]
      refine tkH 35 ⟨some 52,_,_,_,_,_⟩ undef rfl (Or.inr ⟨by rfl,rfl⟩) ?_
      try simp only [Act.put,sA,sB,sC]
      refine tkH 36 ⟨some 53,_,_,_,_,_⟩ undef rfl (Or.inr ⟨by rfl,rfl⟩) ?_
      try simp only [Act.put,sA,sB,sC]
      refine tkH 37 ⟨some 54,_,_,_,_,_⟩ undef rfl (Or.inr ⟨by rfl,rfl⟩) ?_
      try simp only [Act.put,sA,sB,sC]
      refine tkH 38 ⟨some 55,_,_,_,_,_⟩ ?v29 rfl (Or.inl ⟨by rfl,?y29⟩) ?r29
      case y29=>(intro w h;(try dsimp only at h);go_simp;try with_reducible rfl)
      try simp only [Act.put,sA,sB,sC]
      refine wpAnyH_done (by kernel_rfl) ?_ _
      refine NoPanic.normal ?_
      clear hHeld g0 g1 g2 g3 g4 g5 g6 g7
      go_wp2_with fail
      go_ret
      exact ⟨false,rfl,⟨(fun h=>by cases h),fun h=>absurd h HNE.out⟩,bstep HX.out.1 Hz1.out⟩
     ·refine tkH 26 ⟨some 43,_,_,_,_,_⟩ ?v30 rfl (Or.inl ⟨by rfl,?y30⟩) ?r30
      case y30=>(intro w h;(try dsimp only at h);go_simp;try with_reducible rfl)
      try simp only [Act.put,sA,sB,sC]
      refine tkH 27 ⟨some 44,_,_,_,_,_⟩ ?v31 rfl (Or.inl ⟨by rfl,?y31⟩) ?r31
      case y31=>(intro w h;(try dsimp only at h);go_simp;try with_reducible rfl)
      try simp only [Act.put,sA,sB,sC]
      refine tkH 28 ⟨some 45,_,_,_,_,_⟩ ?v32 rfl (Or.inl ⟨by rfl,?y32⟩) ?r32
      case y32=>(intro w h;(try dsimp only at h);go_simp;try with_reducible rfl)
      try simp only [Act.put,sA,sB,sC]
      refine tkH 29 ⟨some 46,_,_,_,_,_⟩ ?v33 rfl (Or.inl ⟨by rfl,?y33⟩) ?r33
      case y33=>(intro w h;(try dsimp only at h);go_simp;try with_reducible rfl)
      try simp only [Act.put,sA,sB,sC]
      refine tkH 30 ⟨some 47,_,_,_,_,_⟩ ?v34 rfl (Or.inl ⟨by rfl,?y34⟩) ?r34
      case y34=>(intro w h;(try dsimp only at h);go_simp;try with_reducible rfl)
      try simp only [Act.put,sA,sB,sC]
      refine tkH 31 ⟨some 48,_,_,_,_,_⟩ ?v35 rfl (Or.inl ⟨by rfl,?y35⟩) ?r35
      case y35=>(intro w h;(try dsimp only at h);go_simp;try with_reducible rfl)
      try simp only [Act.put,sA,sB,sC]
      refine tkH 32 ⟨some 49,_,_,_,_,_⟩ ?v36 rfl (Or.inl ⟨by rfl,?y36⟩) ?r36
      case y36=>(intro w h;(try dsimp only at h);go_simp;try with_reducible rfl)
      try simp only [Act.put,sA,sB,sC]
      refine tkH 33 ⟨some 50,_,_,_,_,_⟩ ?v37 rfl (Or.inl ⟨by rfl,?y37⟩) ?r37
      case y37=>(intro w h;(try dsimp only at h);go_simp;try with_reducible rfl)
      try simp only [Act.put,sA,sB,sC]
      refine tkH 34 ⟨some 51,_,_,_,_,_⟩ ?v38 rfl (Or.inl ⟨by rfl,?y38⟩) ?r38
      case y38=>(intro w h;(try dsimp only at h);go_simp;try with_reducible rfl)
      try simp only [Act.put,sA,sB,sC]
      refine tkH 35 ⟨some 52,_,_,_,_,_⟩ ?v39 rfl (Or.inl ⟨by rfl,?y39⟩) ?r39
      case y39=>(intro w h;(try dsimp only at h);go_simp;try with_reducible rfl)
      try simp only [Act.put,sA,sB,sC]
      refine wpAnyH_ready (rs:=[36]) (by kernel_rfl) (by simp) ?_
      refine AllReadyH.cons (o:=⟨some 53,_,_,_,_,_⟩) rfl (fun K hK=>?_) AllReadyH.nil
      go_simp
      with_reducible refine (HSL.out z1 (bstep HX.out.1 Hz1.out)).mono ?_
      rintro e z2 ⟨rfl,hb⟩
      have Hz2:Hid (Below wr.heap.size wr z2):=bstep Hz1.out hb
      clear hb
      rw [hdb]
      refine hK.out _ _ (HS.out z2 Hz2.out) (fun hHeld=>?_)
      clear hK K
      try simp only [sA,sB,sC]
      refine tkH 37 ⟨some 54,_,_,_,_,_⟩ ?v40 rfl (Or.inl ⟨by rfl,?y40⟩) ?r40
      case y40=>(intro w h;(try dsimp only at h);go_simp;try with_reducible rfl)
      try simp only [Act.put,sA,sB,sC]
      refine tkH 38 ⟨some 55,_,_,_,_,_⟩ ?v41 rfl (Or.inl ⟨by rfl,?y41⟩) ?r41
      case y41=>(intro w h;(try dsimp only at h);go_simp;try with_reducible rfl)
      try simp only [Act.put,sA,sB,sC]
      refine wpAnyH_done (by kernel_rfl) ?_ _
      refine NoPanic.normal ?_
      clear hHeld g0 g1 g2 g3 g4 g5 g6 g7
      cases db
      ·have HNE:Hid (l≠k):=HTN.out (fun e=>by
        have e1:decide (Xd=Yd)=true:=decide_eq_true (congrArg Nd.deps e)
        rw [e1] at hdb
        cases hdb)
       go_wp2_with fail
       go_ret
       exact ⟨false,rfl,⟨(fun h=>by cases h),fun h=>absurd h HNE.out⟩,bstep HX.out.1 Hz2.out⟩
      ·have HEQ:Hid (l.take (i+1)=k.take (i+1)):=by
        refine HTS.out ?_
        have e1:(⟨p,m⟩:Lb)=⟨p2,m2⟩:=of_decide_eq_true ha
        have e2:=(leq_iff Xs Ys).1 hfb
        have e3:Xd=Yd:=of_decide_eq_true hdb
        rw [e1,e2,e3]
       go_wp2_with fail
       go_roundw
       case rel=>exact ⟨i+1,by go_num,by omega,bstep HX.out.1 Hz2.out,HEQ.out⟩
       case measure=>simp [intOf];omega
   ·obtain rfl:n=i:=by omega
    go_wp2_with fail
    go_ret
    refine ⟨true,rfl,⟨fun _=>?_,fun _=>rfl⟩,HX.out.1⟩
    have h1:=HX.out.2
    rw [List.take_of_length_le (by rw [HN.out.1];exact Nat.le_refl _),List.take_of_length_le (by rw [HN.out.2];exact Nat.le_refl _)] at h1
    exact h1
 ·have hd:¬ (n:Int)=(n':Int):=by omega
  go_enter Tryz.func16,Tryz.ntmps16
  go_wp2_with fail
  go_ret
  exact ⟨false,rfl,⟨(fun h=>by cases h),fun h=>absurd (by rw [← HN.out.1,← HN.out.2,h]) hnn⟩,Below.refl _ _⟩
end Go.Proofs.YtppnbdnpapellaaGreatDoor
