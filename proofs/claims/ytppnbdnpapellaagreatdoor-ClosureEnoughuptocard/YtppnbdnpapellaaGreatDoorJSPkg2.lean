import Derived.Test.YtppnbdnpapellaaGreatDoorJBy
import Derived.Test.YtppnbdnpapellaaGreatDoorJLab
set_option maxRecDepth 100000
set_option maxHeartbeats 16000000
namespace Go.Proofs.YtppnbdnpapellaaGreatDoor
section
open Go.RowKit Go.Maps
def RcP (w0:World) (r:Nat) (l:List Fl) (t U:List Lb) (_M:Nat) (e:Ending) (w':World):Prop:=
 ∃ g N E R c,e=.returned (.pointer (some ⟨g,0,none⟩))∧RX w0 w' R r l c∧(∃ F ns out,GR w' F g ns out∧Lnk ns out N E∧∀ k,F k→w0.heap.size≤k∧¬ R k)∧(∀ x,x∈N↔Rea l t x)∧(∀ a b,(a,b)∈E↔Rea l t a∧b∈dpsL l a)∧N.Nodup∧E.Nodup∧c.length≤U.length∧∀ q,q∈c↔∃ a,Rea l t a∧a.pkg=q
def pks (kn:List Lb):List (List UInt8):=(kn.map Lb.pkg).reverse
theorem pks_length (kn:List Lb):(pks kn).length=kn.length:=by simp [pks]
theorem pks_snoc (kn:List Lb) (a:Lb):pks (kn++[a])=a.pkg::pks kn:=by simp [pks]
theorem mem_pks {kn:List Lb} {q:List UInt8}:q∈pks kn↔∃ a,a∈kn∧a.pkg=q:=by simp [pks]
theorem RB.kept {w w':World} {g:Nat} {f:Lb} (h:RB w g f) (e:w'.heap[g]? = w.heap[g]?):RB w' g f:=⟨e.trans h.blk⟩
theorem RC.start {w0 w w1 w2:World} {R:Nat→Prop} {r g:Nat} {l:List Fl} {mv:Value} {t:List Lb} (H:RX w0 w R r l []) (hb1:Below w.heap.size w w1) (hg:GR w1 (fun k=>w.heap.size≤k∧k < w1.heap.size) g [] (fun _=>[])) (hb2:Below w1.heap.size w1 w2) (hm:OwnL w1.heap.size w2 mv t) :
  RC w0 (w2.alloc (.map #[] 0)) (fun _=>False) R r [] l g [] [] mv t w2.heap.size []:=by
 have s0:=H.bel.size
 have s1:=hb1.size
 have s2:=hb2.size
 have hb3:=balloc w2 (.map #[] 0)
 refine ⟨H.later (bstep hb1 (bstep hb2 hb3)),⟨_,_,_,hg.later (bstep hb2 hb3),Lnk.new,fun k hk=>⟨by omega,fun hR=>by have:=(H.rlo k hR).2;omega,by omega,fun hv=>by have:=(hm.lt hv).1;omega,fun h=>h⟩⟩,(hm.later hb3).mono (by omega),fun k hv=>⟨fun hR=>by have:=(H.rlo k hR).2;have:=(hm.lt hv).1;omega,by have:=(hm.lt hv).2;omega,fun h=>h⟩,?_,⟨fun hR=>by have:=(H.rlo _ hR).2;omega,by omega,fun h=>h⟩,fun k h=>h.elim⟩
 have:=MP.new cU w2
 exact this.congr (fun k _=>by simp)
theorem breached_any {w0 w:World} {R:Nat→Prop} {r:Nat} {l:List Fl} (H:RX w0 w R r l []) (E0:Ev w0) (sm:FQ l) {tv:Value} {t U:List Lb} {M:Nat} (ht:LS w tv t) (u:Uni l t U M) (hlu:∀ x∈U,Lu x∧x.pkg.length≤400000000) (hU:U.length+2≤2000000) (hT:t.length+U.length * M+1≤100000000) (htl:t.length≤2000000) :
  Calls Tryz.prog 28 #[tv,.func (.func 29) #[.pointer (some ⟨r,0,none⟩)] #[]] w (RcP w0 r l t U M):=by
 have hmm:=@run_makeMap Tryz.prog
 obtain ⟨ta,tc,htv,-⟩:=ht.form
 generalize t.length=tn at htv
 subst htv
 have HX:Hid (RX w0 w R r l []∧Ev w0∧FQ l∧LS w (.slice ta tn tc) t∧Uni l t U M∧(∀ x∈U,Lu x∧x.pkg.length≤400000000)∧U.length+2≤2000000∧t.length+U.length * M+1≤100000000):=⟨H,E0,sm,ht,u,hlu,hU,hT⟩
 clear H E0 sm ht u hlu hU hT
 go_enter Tryz.func28,Tryz.ntmps28
 go_wp2_with fail
 refine (new_any w).mono ?_
 rintro e w1 ⟨g,rfl,hg,hb1⟩
 have H1:Hid (GR w1 (fun k=>w.heap.size≤k∧k < w1.heap.size) g [] (fun _=>[])∧Below w.heap.size w w1):=⟨hg,hb1⟩
 clear hg hb1
 go_wp2_with fail
 refine (clone_ls (HX.out.2.2.2.1.later H1.out.2) htl).mono ?_
 rintro e w2 ⟨mv,rfl,hm,hb2⟩
 have X0:Hid (RC w0 (w2.alloc (.map #[] 0)) (fun _=>False) R r [] l g [] [] mv t w2.heap.size []):=RC.start HX.out.1 H1.out.2 H1.out.1 hb2 hm
 obtain ⟨ma,mc,hmv⟩:=hm.form
 obtain ⟨mn,hmn⟩:∃ mn,t.length=mn:=⟨_,rfl⟩
 rw [hmn] at hmv
 subst hmv
 obtain ⟨kb,hkb⟩:∃ kb,w2.heap.size=kb:=⟨_,rfl⟩
 obtain ⟨w3,hw3⟩:∃ w3,w2.alloc (.map #[] 0)=w3:=⟨_,rfl⟩
 rw [hkb,hw3] at X0
 clear hm hb2 htl hmn
 go_upto_region 5 with fail
 try rw [hkb]
 try rw [hw3]
 clear hkb hw3
 obtain ⟨T,hT⟩:∃ T,t.length+U.length * M=T:=⟨_,rfl⟩
 go_loopw [6,8] (fun mv iv wr=>∃ (i:Nat) (N:List Lb) (E:List Ee) (met kn:List Lb) (R:Nat→Prop),iv=.int .i64 i∧RI l t M i N E met kn∧RC w0 wr (fun _=>False) R r (pks kn) l g N E mv met kb kn) (fun _ iv _=>T+1 - (intOf iv).toNat)
 case atStart=>exact ⟨0,_,_,_,_,_,rfl,RI.start l t M,X0.out⟩
 case round=>
  clear X0
  obtain ⟨i,N,E,met,kn,R5,rfl,hri,hrc⟩:=hrel
  obtain ⟨a5,c5,hmv⟩:=hrc.me.form
  obtain ⟨n5,hn5⟩:∃ n5,met.length=n5:=⟨_,rfl⟩
  rw [hn5] at hmv
  subst hmv
  have X5:Hid (RI l t M i N E met kn∧RC w0 wr (fun _=>False) R5 r (pks kn) l g N E (.slice a5 n5 c5) met kb kn∧met.length=n5):=⟨hri,hrc,hn5⟩
  have hmt:n5≤T:=by rw [← hn5,← hT];exact hri.mU HX.out.2.2.2.2.1
  have hil0:i≤n5:=by rw [← hn5];exact hri.il
  have hT8:T≤100000000:=by have:=HX.out.2.2.2.2.2.2.2;omega
  clear hri hrc hn5
  by_cases hi:i < n5
  ·have i1:(i:Int) < (n5:Int):=by omega
   have i2:(0:Int)≤(i:Int):=by omega
   have hil:i < met.length:=by rw [X5.out.2.2];exact hi
   obtain ⟨b,off,ea,hbl,c0,c1⟩:=LS.at X5.out.2.1.me.rs (Below.refl _ _) hil
   subst ea
   have hxr:Rea l t met[i]:=X5.out.1.k2 _ (List.getElem_mem hil)
   obtain ⟨x,hx⟩:∃ x,met[i]=x:=⟨_,rfl⟩
   rw [hx] at c0 c1 hxr
   have HLX:=HX.out.2.2.2.2.2.1 x (HX.out.2.2.2.2.1.all x hxr)
   have HME:Hid (∀ h:i < met.length,met[i]=x):=fun _=>hx
   clear hx hxr
   obtain ⟨p,n⟩:=x
   simp only at c0 c1
   have HL:Hid (Lu ⟨p,n⟩∧p.length≤400000000):=HLX
   clear HLX
   have hlk:(Instr.lookup 89 (.map (some kb)) (.agg #[.string (bs p),.string (bs n)]) true).run Tryz.prog (wr.alloc (.cells #[.string (bs p),.string (bs n)] 27))=.ok (.tuple #[.agg #[],.bool (decide ((⟨p,n⟩:Lb)∈kn))]) (wr.alloc (.cells #[.string (bs p),.string (bs n)] 27)):=by
    have:=(X5.out.2.1.kn.later (balloc wr (.cells #[.string (bs p),.string (bs n)] 27))).look HL.out.1 true
    by_cases hm:(⟨p,n⟩:Lb)∈kn<;>simpa [hm,at_,cU,Lb.val] using this
   by_cases hk:(⟨p,n⟩:Lb)∈kn
   ·have e1:decide ((⟨p,n⟩:Lb)∈kn)=true:=by simp [hk]
    rw [e1] at hlk
    have HK:Hid ((⟨p,n⟩:Lb)∈kn):=hk
    clear hk e1
    go_wp2_with fail
    go_roundw
    case rel=>exact ⟨i+1,N,E,met,kn,R5,by go_num,X5.out.1.skip hil (by rw [HME.out hil];exact HK.out),X5.out.2.1.later (bstep (balloc _ _) (balloc _ _))⟩
    case measure=>simp [intOf];omega
   ·have e1:decide ((⟨p,n⟩:Lb)∈kn)=false:=by simp [hk]
    rw [e1] at hlk
    have HJ:Hid (RJ l t M i ⟨p,n⟩ [] (addN N ⟨p,n⟩) E met kn):=X5.out.1.go hil (HME.out hil) hk
    have hkU:=X5.out.1.knU HX.out.2.2.2.2.1
    have hnU:=X5.out.1.nU HX.out.2.2.2.2.1
    have hUU:=HX.out.2.2.2.2.2.2.1
    obtain ⟨w6,hup,hrc6,hx6,hs6⟩:=(X5.out.2.1.more (bstep (balloc wr (.cells #[.string (bs p),.string (bs n)] 27)) (balloc _ (.cells #[] 90)))).known ⟨p,n⟩ HL.out.1 hk (by omega)
    have hz2:((wr.alloc (.cells #[.string (bs p),.string (bs n)] 27)).alloc (.cells #[] 90)).heap.size=wr.heap.size+2:=by simp
    have HX6:Hid (RC w0 w6 (fun k=>k=wr.heap.size) R5 r (pks kn) l g N E (.slice (some ⟨b,off,none⟩) n5 c5) met kb (kn++[⟨p,n⟩])∧RB w6 wr.heap.size ⟨p,n⟩):=by
     refine ⟨hrc6.less (fun k hk=>.inr (by omega)),?_⟩
     exact ((RB.new wr ⟨p,n⟩).later (balloc _ _)).kept (hx6 _ (.inr (by omega)))
    have hup2:(Instr.mapUpdate 89 (.map (some kb)) (.agg #[.string (bs p),.string (bs n)]) (.agg #[])).run Tryz.prog ((wr.alloc (.cells #[.string (bs p),.string (bs n)] 27)).alloc (.cells #[] 90))=.ok () w6:=hup
    obtain ⟨b0,b1,_,_⟩:=HX6.out.2.cells
    simp only at b0 b1
    clear e1 hk hup hrc6 hx6 hs6 hz2
    go_wp2_with fail
    refine (HX6.out.1.node ⟨p,n⟩ HL.out.1 (by omega)).mono ?_
    rintro e w7 ⟨rfl,hrc7,hst7⟩
    have X7:Hid (RC w0 w7 (fun k=>k=wr.heap.size) R5 r (pks kn) l g (addN N ⟨p,n⟩) E (.slice (some ⟨b,off,none⟩) n5 c5) met kb (kn++[⟨p,n⟩])∧RB w7 wr.heap.size ⟨p,n⟩):=⟨hrc7,HX6.out.2.kept (hst7 _ (.inl rfl))⟩
    clear hrc7 hst7 b0 b1 hup2 hlk c0 c1
    obtain ⟨b0,b1,_,_⟩:=X7.out.2.cells
    simp only at b0 b1
    go_wp2_with fail
    refine (X7.out.1.deps HX.out.2.1 HX.out.2.2.1 (by rw [pks_length];omega) ⟨p,n⟩ HL.out.2).mono ?_
    rintro e w8 ⟨tq,R8,rfl,hrc8,hti,hst8⟩
    obtain ⟨D,hD⟩:∃ D,dpsL l ⟨p,n⟩=D:=⟨_,rfl⟩
    have HTD:Hid (∀ W,TIn R8 W tq ((tgtL l ⟨p,n⟩).getD zT)→∃ base,OwnL base W tq.d D):=fun W h=>by
     obtain ⟨base,hb⟩:=h.own
     rw [← hD]
     exact ⟨base,hb.d⟩
    obtain ⟨base8,ho8⟩:=HTD.out w8 hti
    obtain ⟨da,dc,hdv⟩:=ho8.form
    obtain ⟨dn,hdn⟩:∃ dn,D.length=dn:=⟨_,rfl⟩
    rw [hdn] at hdv
    rw [hdv] at HTD
    have HD:Hid (dpsL l ⟨p,n⟩=D∧D.length=dn∧dn≤M):=⟨hD,hdn,by rw [← hdn,← hD];exact HX.out.2.2.2.2.1.dep _⟩
    obtain ⟨xb,hxb⟩:∃ xb,wr.heap.size=xb:=⟨_,rfl⟩
    have X8:Hid (RC w0 w8 (fun k=>k=xb) R8 r (p::pks kn) l g (addN N ⟨p,n⟩) E (.slice (some ⟨b,off,none⟩) n5 c5) met kb (kn++[⟨p,n⟩])∧RB w8 xb ⟨p,n⟩∧TIn R8 w8 tq ((tgtL l ⟨p,n⟩).getD zT)):=by
     rw [← hxb]
     exact ⟨hrc8,X7.out.2.kept (hst8 _ rfl),hti⟩
    have hMT:D.length≤100000000:=by
     have h1:=HD.out.2.2
     have h2:=(HJ.out.knU HX.out.2.2.2.2.1)
     have h3:=Nat.mul_le_mul_right M h2
     rw [Nat.add_mul,Nat.one_mul] at h3
     omega
    rw [hdv,hxb]
    clear hrc8 hti hst8 hD ho8 hdv hdn hxb b0 b1 HX6 X7 X5 HME hil0 hkU hnU
    go_wp2_with fail
    go_loopw [6,45] (fun mv jv wq=>∃ (j:Nat) (N2:List Lb) (E2:List Ee) (met2:List Lb),jv=.int .i64 j∧j≤dn∧RJ l t M i ⟨p,n⟩ (D.take j) N2 E2 met2 kn∧RC w0 wq (fun k=>k=xb) R8 r (p::pks kn) l g N2 E2 mv met2 kb (kn++[⟨p,n⟩])∧RB wq xb ⟨p,n⟩∧TIn R8 wq tq ((tgtL l ⟨p,n⟩).getD zT)) (fun _ jv _=>dn - (intOf jv).toNat)
    case atStart=>exact ⟨0,_,_,_,rfl,by omega,by simpa using HJ.out,X8.out.1,X8.out.2.1,X8.out.2.2⟩
    case round=>
     clear X8 HJ
     rename World=>wq
     obtain ⟨j,N2,E2,met2,rfl,hj0,hrj,hrc,hrb,hti⟩:=hrel
     obtain ⟨a9,c9,hmv⟩:=hrc.me.form
     obtain ⟨n9,hn9⟩:∃ n9,met2.length=n9:=⟨_,rfl⟩
     rw [hn9] at hmv
     subst hmv
     have X9:Hid (RJ l t M i ⟨p,n⟩ (D.take j) N2 E2 met2 kn∧RC w0 wq (fun k=>k=xb) R8 r (p::pks kn) l g N2 E2 (.slice a9 n9 c9) met2 kb (kn++[⟨p,n⟩])∧RB wq xb ⟨p,n⟩∧TIn R8 wq tq ((tgtL l ⟨p,n⟩).getD zT)∧met2.length=n9):=⟨hrj,hrc,hrb,hti,hn9⟩
     clear hrj hrc hrb hti hn9
     have hdM:=HD.out.2.1
     by_cases hj:j < dn
     ·have j1:(j:Int) < (dn:Int):=by omega
      have j2:(0:Int)≤(j:Int):=by omega
      have hjl:j < D.length:=by omega
      obtain ⟨base9,ho9⟩:=HTD.out wq X9.out.2.2.2.1
      obtain ⟨b9,off9,ea,hbl9,c0,c1⟩:=LS.at ho9.rs (Below.refl _ _) hjl
      subst ea
      have HDM:Hid (D[j]∈dpsL l ⟨p,n⟩∧D.take (j+1)=D.take j++[D[j]]):=⟨by rw [HD.out.1];exact List.getElem_mem hjl,List.take_succ_eq_append_getElem hjl⟩
      obtain ⟨y,hy⟩:∃ y,D[j]=y:=⟨_,rfl⟩
      rw [hy] at c0 c1 HDM
      clear hy
      obtain ⟨p2,n2⟩:=y
      simp only at c0 c1
      have HL2:Hid (Lu ⟨p2,n2⟩):=(HX.out.2.2.2.2.2.1 _ (HX.out.2.2.2.2.1.all _ (.step X9.out.1.reaA HDM.out.1))).1
      have hN2:=X9.out.1.nU HX.out.2.2.2.2.1
      have hUU:=HX.out.2.2.2.2.2.2.1
      have hm9:n9+1≤100000000:=by
       have h1:=X9.out.1.mU HX.out.2.2.2.2.1 (by rw [List.length_take];have:=HD.out.2.2;omega)
       have h2:=X9.out.2.2.2.2
       have:=HX.out.2.2.2.2.2.2.2
       omega
      have XA:Hid (RC w0 (wq.alloc (.cells #[.string (bs p2),.string (bs n2)] 27)) (fun k=>k=xb∨k=wq.heap.size) R8 r (p::pks kn) l g N2 E2 (.slice a9 n9 c9) met2 kb (kn++[⟨p,n⟩])∧RB (wq.alloc (.cells #[.string (bs p2),.string (bs n2)] 27)) xb ⟨p,n⟩∧RB (wq.alloc (.cells #[.string (bs p2),.string (bs n2)] 27)) wq.heap.size ⟨p2,n2⟩∧TIn R8 (wq.alloc (.cells #[.string (bs p2),.string (bs n2)] 27)) tq ((tgtL l ⟨p,n⟩).getD zT)):=
       ⟨(X9.out.2.1.more (balloc wq (.cells #[.string (bs p2),.string (bs n2)] 27))).less (fun k hk=>hk.imp id (fun h=>by simp;omega)),X9.out.2.2.1.later (balloc _ _),RB.new wq ⟨p2,n2⟩,X9.out.2.2.2.1.keep (fun k hk=>(balloc wq (.cells #[.string (bs p2),.string (bs n2)] 27)).block k (X9.out.2.1.rx.rlo k hk).2) (fun _ h=>h)⟩
      obtain ⟨b0,b1,_,_⟩:=XA.out.2.1.cells
      obtain ⟨b2,b3,_,_⟩:=XA.out.2.2.1.cells
      simp only at b0 b1 b2 b3
      go_wp2_with fail
      refine (XA.out.1.edge ⟨p,n⟩ ⟨p2,n2⟩ HL.out.1 HL2.out (by omega)).mono ?_
      rintro e w9 ⟨rfl,hrc9,hst9⟩
      obtain ⟨yb,hyb⟩:∃ yb,wq.heap.size=yb:=⟨_,rfl⟩
      have XB:Hid (RC w0 w9 (fun k=>k=xb∨k=yb) R8 r (p::pks kn) l g (addN (addN N2 ⟨p,n⟩) ⟨p2,n2⟩) (addE E2 (⟨p,n⟩,⟨p2,n2⟩)) (.slice a9 n9 c9) met2 kb (kn++[⟨p,n⟩])∧RB w9 xb ⟨p,n⟩∧RB w9 yb ⟨p2,n2⟩∧TIn R8 w9 tq ((tgtL l ⟨p,n⟩).getD zT)):=by
       rw [← hyb]
       exact ⟨hrc9,XA.out.2.1.kept (hst9 _ (.inl (.inl rfl))),XA.out.2.2.1.kept (hst9 _ (.inl (.inr rfl))),XA.out.2.2.2.keep (fun k hk=>hst9 k (.inr hk)) (fun _ h=>h)⟩
      rw [hyb]
      clear hrc9 hst9 b0 b1 b2 b3 hyb XA c0 c1
      obtain ⟨b2,b3,_,_⟩:=XB.out.2.2.1.cells
      simp only at b2 b3
      have hw0:=XB.out.1.rx.bel.size
      have hl9:met2.length+1≤100000000:=by rw [X9.out.2.2.2.2];exact hm9
      go_wp2_with (first | (at_builtin;refine app_L1 und_L (base:=w0.heap.size) ⟨p2,n2⟩ XB.out.1.me hl9 hw0 rfl (.tmp 53) (.tmp 55) rfl rfl rfl ?_;intro v' wA ho hbA honA hsA hwhA))
      have XC:=hid_of (XB.out.1.push ho honA hwhA)
      obtain ⟨aA,cA,hvA⟩:=ho.form
      subst hvA
      clear ho hbA honA hsA hwhA
      go_wp2_with fail
      go_roundw
      case rel=>
       refine ⟨j+1,_,_,_,by go_num,by omega,?_,XC.out.1.less (fun k hk=>.inl hk),XB.out.2.1.kept (XC.out.2 _ (.inl (.inl rfl))),XB.out.2.2.2.keep (fun k hk=>XC.out.2 k (.inr hk)) (fun _ h=>h)⟩
       rw [HDM.out.2]
       exact X9.out.1.step HDM.out.1
      case measure=>simp [intOf];omega
     ·obtain rfl:j=dn:=by omega
      go_wp2_with fail
      go_roundw
      case rel=>
       have hr:=X9.out.1.done HX.out.2.2.2.2.1 (by rw [HD.out.1,List.take_of_length_le (Nat.le_of_eq HD.out.2.1)])
       refine ⟨i+1,_,_,_,kn++[⟨p,n⟩],R8,by go_num,hr,?_⟩
       have hl:pks (kn++[(⟨p,n⟩:Lb)])=p::pks kn:=pks_snoc _ _
       rw [hl]
       exact X9.out.2.1.less (fun k h=>h.elim)
      case measure=>simp [intOf];omega
  ·obtain rfl:i=n5:=by omega
   go_wp2_with fail
   go_ret
   obtain ⟨z1,z2,z3⟩:=X5.out
   obtain ⟨d1,d2,d3⟩:(∀ x,x∈N↔Rea l t x)∧(∀ a b,(a,b)∈E↔Rea l t a∧b∈dpsL l a)∧(∀ x,x∈kn↔Rea l t x):=by
    rw [← z3] at z1
    exact z1.done
   obtain ⟨F,ns,out,f1,f2,f3⟩:=z2.gr
   unfold RcP
   exact ⟨g,N,E,R5,pks kn,rfl,z2.rx,⟨F,ns,out,f1,f2,fun k hk=>⟨(f3 k hk).1,(f3 k hk).2.1⟩⟩,d1,d2,z1.nn,z1.en,by rw [pks_length];exact z1.knU HX.out.2.2.2.2.1,fun q=>by rw [mem_pks];exact exists_congr fun a=>and_congr_left fun _=>d3 a⟩
end
section
open Go.RowKit
theorem fol_step (l:List Fl) (k:Nat) (h:k+1 < l.length):chain (l.drop k)=(fol (l[k]'(by omega)).path (l[k+1]'h).path && chain (l.drop (k+1))):=by
 rw [List.drop_eq_getElem_cons (by omega:k < l.length),List.drop_eq_getElem_cons h,chain]
theorem all_step (l:List Fl) (P:Fl→Bool) (k:Nat) (h:k < l.length):(l.drop k).all P=(P (l[k]'h) && (l.drop (k+1)).all P):=by
 rw [List.drop_eq_getElem_cons h,List.all_cons]
theorem chain_short (l:List Fl) (h:l.length≤1):chain l=true:=by
 match l,h with
 | [],_=>rfl
 | [a],_=>rfl
def lookF (l:List Fl) (k:Nat):Bool:=(l.drop k).all (fun f=>fileE f == 0) && chain (l.drop (k - 1))
theorem lookF_end (l:List Fl):lookF l l.length=true:=by
 unfold lookF
 rw [List.drop_length,chain_short _ (by simp;omega)];rfl
theorem lookF_zero (l:List Fl) (h:0 < l.length):lookF l 0=(fileE (l[0]'h) == 0 && lookF l 1):=by
 unfold lookF
 rw [all_step l _ 0 h]
 simp only [Nat.zero_sub,Nat.sub_self,Nat.zero_add,Bool.and_assoc]
theorem lookF_succ (l:List Fl) (k:Nat) (h:k+1 < l.length):lookF l (k+1)=(fileE (l[k+1]'h) == 0 && (fol (l[k]'(by omega)).path (l[k+1]'h).path && lookF l (k+2))):=by
 unfold lookF
 rw [all_step l _ (k+1) h]
 simp only [Nat.add_sub_cancel,show k+2 - 1=k+1 by omega]
 rw [fol_step l k h]
 cases (fileE l[k+1] == 0)<;>cases ((l.drop (k+1+1)).all fun f=>fileE f == 0)<;>simp
theorem gw_file {w:World} {p t:List UInt8} {b s:Int} {E:Int} (hf:Fok ⟨p,t,b,s⟩) (hE:fileE ⟨p,t,b,s⟩=E) (X:GW w) :
  Calls Tryz.prog 81 #[.agg #[.string (bs p),.string (bs t),.int .i64 b,.int .i64 s]] X.it fun e w'=>e=.returned (.int .i64 E)∧∃ Y:GW w,w'=Y.it:=
 gw_of (fun W=>by rw [← hE];exact file_any ⟨p,t,b,s⟩ W hf) X
theorem gw_fol {w:World} {q p:List UInt8} {c:Bool} (hq:q.length≤140737488355328) (hp:p.length≤140737488355328) (hc:fol p q=c) (X:GW w) :
  Calls Tryz.prog 130 #[.string (bs q),.string (bs p)] X.it fun e w'=>e=.returned (.bool c)∧∃ Y:GW w,w'=Y.it:=
 gw_of (fun W=>by rw [← hc];exact follows_any q p W hq hp) X
theorem stand_any {w:World} {v:Value} {l:List Fl} (h:FS w v l) (sm:FSm l):Calls Tryz.prog 82 #[v] w fun e w'=>e=.returned (.bool (stand l))∧Below w.heap.size w w':=by
 have e0:stand l=(decide (l.length≤512) && lookF l 0):=by unfold stand lookF;simp [Bool.and_assoc]
 rw [e0]
 clear e0
 obtain ⟨r,hr⟩:∃ r,lookF l 0=r:=⟨_,rfl⟩
 rw [hr]
 have HR:Hid (lookF l 0=r):=hr
 have H:Hid (FS w v l):=h
 have SM:Hid (FSm l):=sm
 have hlen:l.length≤140737488355328:=sm.len
 clear hr sm
 obtain ⟨a,c,rfl,_⟩:=h.form
 clear h
 obtain ⟨n,hn⟩:∃ n,l.length=n:=⟨_,rfl⟩
 rw [hn] at hlen ⊢
 have HN:Hid (l.length=n):=hn
 have H':Hid (FS w (.slice a l.length c) l):=H.out
 clear H hn
 by_cases h5:n≤512
 ·have hd:decide (n≤512)=true:=by simpa using h5
  rw [hd,Bool.true_and]
  go_enter Tryz.func82,Tryz.ntmps82
  go_wp2_with fail
  go_loopw [10] (fun i wr=>∃ k:Nat,k≤n∧i=.int .i64 k∧Below w.heap.size w wr∧lookF l k=r) (fun i _=>n - (intOf i).toNat)
  case atStart=>exact ⟨0,by omega,rfl,Below.refl _ _,HR.out⟩
  case round=>
   obtain ⟨k,hk,rfl,hb,hl⟩:=hrel
   have HB:Hid (Below w.heap.size w wr):=hb
   have HL:Hid (lookF l k=r):=hl
   clear hb hl
   by_cases hlt:k < n
   ·have hkl:k < l.length:=by have:=HN.out;omega
    obtain ⟨b,off,ea,hbw,d0,d1,d2,d3⟩:=FS.at H'.out HB.out hkl
    subst ea
    have F:Hid (Fok l[k]):=SM.out.at hkl
    have hbr:b < wr.heap.size:=Nat.lt_of_lt_of_le hbw HB.out.size
    obtain ⟨f,hf⟩:∃ f,l[k]=f:=⟨_,rfl⟩
    rw [hf] at d0 d1 d2 d3 F
    have HFk:Hid (l[k]=f):=hf
    clear hf
    obtain ⟨p,t,bl,s⟩:=f
    simp only at d0 d1 d2 d3
    have k1:(0:Int)≤(k:Int):=by omega
    have k2:(k:Int) < (n:Int):=by omega
    obtain ⟨E,hE⟩:∃ E,fileE ⟨p,t,bl,s⟩=E:=⟨_,rfl⟩
    have HEf:Hid (∀ (w:World) (X:GW w),Calls Tryz.prog 81 #[.agg #[.string (bs p),.string (bs t),.int .i64 bl,.int .i64 s]] X.it fun e w'=>e=.returned (.int .i64 E)∧∃ Y:GW w,w'=Y.it):=fun _ X=>gw_file F.out hE X
    have HE:Hid (fileE (l[k]'hkl)=E):=by rw [HFk.out];exact hE
    clear hE
    have x0:∀ (w':World),Below wr.heap.size wr w'→∀ X:GW w',X.it.cell? ⟨b,off+k * 4,none⟩=some (.string (bs p)):=fun w' hb X=>X.cell (Nat.lt_of_lt_of_le hbr hb.size) ((hb.cell (p:=⟨b,off+k * 4,none⟩) hbr).trans d0)
    have X0:Hid (∀ (w':World),Below wr.heap.size wr w'→∀ X:GW w',X.it.cell? ⟨b,off+k * 4,none⟩=some (.string (bs p))):=x0
    clear x0
    go_wp2_with fail
    obtain ⟨w1,hw1⟩:∃ w1,wr.alloc (.cells #[.string (bs p),.string (bs t),.int .i64 bl,.int .i64 s] 55)=w1:=⟨_,rfl⟩
    have FBn:Hid (FB w1 wr.heap.size ⟨p,t,bl,s⟩):=by rw [← hw1];exact FB.new wr ⟨p,t,bl,s⟩ 55
    have HB1:Hid (Below wr.heap.size wr w1):=by rw [← hw1];exact balloc _ _
    rw [hw1]
    clear hw1 d0 d1 d2 d3
    obtain ⟨c0,c1,c2,c3,hlt1⟩:=FBn.out
    simp only at c0 c1 c2 c3
    have y0:∀ X:GW w1,X.it.cell? ⟨wr.heap.size,0,none⟩=some (.string (bs p)):=fun X=>X.cell hlt1 c0
    have y1:∀ X:GW w1,X.it.cell? ⟨wr.heap.size,1,none⟩=some (.string (bs t)):=fun X=>X.cell hlt1 c1
    have y2:∀ X:GW w1,X.it.cell? ⟨wr.heap.size,2,none⟩=some (.int .i64 bl):=fun X=>X.cell hlt1 c2
    have y3:∀ X:GW w1,X.it.cell? ⟨wr.heap.size,3,none⟩=some (.int .i64 s):=fun X=>X.cell hlt1 c3
    have xne:=gw_ne w1
    clear c0 c1 c2 c3 FBn
    by_cases hE0:E=0
    ·subst hE0
     rcases Nat.eq_zero_or_pos k with hk0 | hk0
     ·subst hk0
      refine wp_region_grow (by kernel_rfl) (by kernel_rfl) ?_
      go_big_quiet_step (exact HEf.out _ _)
      repeat (go_big_quiet_step (exact HEf.out _ _))
      refine wpQuiet_nil ?_
      rintro w2 ⟨⟨w2,bx⟩,rfl⟩
      have HB5:Hid (Below w.heap.size w w2):=bstep (bstep HB.out HB1.out) bx
      clear bx
      go_wp2_with fail
      go_roundw
      case rel=>exact ⟨1,by omega,rfl,HB5.out,by have h1:=HL.out;rw [lookF_zero l hkl,HE.out] at h1;simpa using h1⟩
      case measure=>simp [intOf];omega
     ·obtain ⟨m,hm⟩:∃ m,k=m+1:=⟨k - 1,by omega⟩
      have HKM:Hid (k=m+1):=hm
      have hml:m < l.length:=by omega
      obtain ⟨q,hq⟩:∃ q,(l[m]'hml).path=q:=⟨_,rfl⟩
      have hql:q.length≤140737488355328:=by rw [← hq];exact (SM.out.at hml).path
      obtain ⟨cc,hcc⟩:∃ cc,fol q p=cc:=⟨_,rfl⟩
      have HFol:Hid (∀ (w:World) (X:GW w),Calls Tryz.prog 130 #[.string (bs p),.string (bs q)] X.it fun e w'=>e=.returned (.bool cc)∧∃ Y:GW w,w'=Y.it):=fun _ X=>gw_fol F.out.path hql hcc X
      have HC:Hid (∀ (h1:m+1 < l.length),lookF l (m+1)=(fileE (l[m+1]'h1) == 0 && (cc && lookF l (m+2)))):=fun h1=>by
       have e:=lookF_succ l m h1
       have e2:(l[m+1]'h1)=⟨p,t,bl,s⟩:=by
        have:=HFk.out
        subst hm
        exact this
       rw [e,e2,hq,hcc]
      have hc0:wr.cell? ⟨b,off+m * 4,none⟩=some (.string (bs q)):=by
       obtain ⟨b',off',ea,_,z0,_⟩:=FS.at H'.out HB.out hml
       injection ea with ea
       injection ea with e1 e2
       subst e1 e2
       rw [← hq];exact z0
      have y4:∀ X:GW w1,X.it.cell? ⟨b,off+m * 4,none⟩=some (.string (bs q)):=fun X=>X.cell (p:=⟨b,off+m * 4,none⟩) (Nat.lt_of_lt_of_le hbr HB1.out.size) ((HB1.out.cell (p:=⟨b,off+m * 4,none⟩) hbr).trans hc0)
      have k3:(m:Int) < (n:Int):=by omega
      have k4:(0:Int)≤(m:Int):=by omega
      have k6:(0:Int) < (k:Int):=by omega
      have k5:IntKind.i64.wrap ((k:Int) - 1)=(m:Int):=by
       have e:(k:Int) - 1=(m:Int):=by omega
       rw [e];exact wrap_small m (by omega)
      clear hc0 hq hcc hm
      refine wp_region_grow (by kernel_rfl) (by kernel_rfl) ?_
      repeat (go_big_quiet_step (fail))
      go_big_quiet_step (exact HEf.out _ _)
      repeat (go_big_quiet_step (fail))
      go_big_quiet_step (exact HFol.out _ _)
      repeat (go_big_quiet_step (fail))
      refine wpQuiet_nil ?_
      rintro w2 ⟨⟨w2,bx⟩,rfl⟩
      have HB5:Hid (Below w.heap.size w w2):=bstep (bstep HB.out HB1.out) bx
      clear bx y0 y1 y2 y3 y4
      cases cc
      ·go_wp2_with fail
       go_ret
       refine ⟨?_,HB5.out⟩
       have h1:=HL.out
       have hkm:=HKM.out
       subst hkm
       rw [HC.out hkl] at h1
       simp at h1
       rw [← h1];rfl
      ·go_wp2_with fail
       go_roundw
       case rel=>
        refine ⟨k+1,by omega,by go_num,HB5.out,?_⟩
        have h1:=HL.out
        have hkm:=HKM.out
        subst hkm
        rw [HC.out hkl] at h1
        have h2:=HE.out
        rw [h2] at h1
        simpa using h1
       case measure=>simp [intOf];omega
    ·have hE1:(E == 0)=false:=by simpa using hE0
     have hE2:(E != 0)=true:=by simpa using hE0
     refine wp_region_grow (by kernel_rfl) (by kernel_rfl) ?_
     go_big_quiet_step (exact HEf.out _ _)
     repeat (go_big_quiet_step (exact HEf.out _ _))
     refine wpQuiet_nil ?_
     rintro w2 ⟨⟨w2,bx⟩,rfl⟩
     have HB5:Hid (Below w.heap.size w w2):=bstep (bstep HB.out HB1.out) bx
     clear bx y0 y1 y2 y3
     go_wp2_with fail
     go_ret
     refine ⟨?_,HB5.out⟩
     have h1:=HL.out
     unfold lookF at h1
     rw [all_step l _ k hkl,HE.out,hE1] at h1
     simp at h1
     rw [← h1];rfl
   ·obtain rfl:k=n:=by omega
    go_wp2_with fail
    go_ret
    refine ⟨?_,HB.out⟩
    have h1:=HL.out
    have h2:=HN.out
    subst h2
    rw [lookF_end] at h1
    rw [← h1];rfl
 ·have hd:decide (n≤512)=false:=by simpa using h5
  rw [hd,Bool.false_and]
  go_enter Tryz.func82,Tryz.ntmps82
  go_wp2_with fail
  go_ret
  exact ⟨rfl,Below.refl _ _⟩
theorem gw_file' (f:Fl) (hf:Fok f) (w:World):Calls Tryz.prog 81 #[.agg #[.string (bs f.path),.string (bs f.text),.int .i64 f.blob,.int .i64 f.size]] w fun e w'=>e=.returned (.int .i64 (fileE f))∧Below w.heap.size w w':=file_any f w hf
theorem valid2_any {w:World} {v:Value} {l:List Fl} (h:FS w v l) (sm:FSm l):Calls Tryz.prog 48 #[v] w fun e w'=>e=.returned (.int .i64 (validE l))∧Below w.heap.size w w':=by
 obtain ⟨r,hr⟩:∃ r,l.all (fun f=>pathOk f.path)=r:=⟨_,rfl⟩
 have e0:validE l=if r then (if stand l then 0 else 8) else 7:=by unfold validE;rw [hr]
 rw [e0]
 clear e0
 have HR:Hid ((l.drop 0).all (fun f=>pathOk f.path)=r):=hr
 have H:Hid (FS w v l):=h
 have SM:Hid (FSm l):=sm
 have hlen:l.length≤140737488355328:=sm.len
 clear hr sm
 have HS:Hid (∀ w':World,Below w.heap.size w w'→Calls Tryz.prog 82 #[v] w' fun e w'=>e=.returned (.bool (stand l))∧Below w.heap.size w w'):=fun w' hb=>
  (stand_any (H.out.later hb) SM.out).mono fun e w2 ⟨he,h2⟩=>⟨he,bstep hb h2⟩
 generalize stand l=st at *
 obtain ⟨a,c,rfl,_⟩:=h.form
 clear h
 obtain ⟨n,hn⟩:∃ n,l.length=n:=⟨_,rfl⟩
 have H':Hid (FS w (.slice a l.length c) l):=H.out
 clear H
 rw [hn] at hlen HS ⊢
 have HN:Hid (l.length=n):=hn
 clear hn
 obtain ⟨A,hA⟩:∃ A:Int,(if r then (if st then (0:Int) else 8) else 7)=A:=⟨_,rfl⟩
 rw [hA]
 have HA:Hid ((if r then (if st then (0:Int) else 8) else 7)=A):=hA
 clear hA
 go_enter Tryz.func48,Tryz.ntmps48
 go_wp2_with fail
 go_loopw [7] (fun i wr=>∃ k:Nat,k≤n∧i=.int .i64 k∧Below w.heap.size w wr∧(l.drop k).all (fun f=>pathOk f.path)=r) (fun i _=>n - (intOf i).toNat)
 case atStart=>exact ⟨0,by omega,rfl,Below.refl _ _,HR.out⟩
 case round=>
  obtain ⟨k,hk,rfl,hb,hl⟩:=hrel
  have HB:Hid (Below w.heap.size w wr):=hb
  have HL:Hid ((l.drop k).all (fun f=>pathOk f.path)=r):=hl
  clear hb hl
  by_cases hlt:k < n
  ·have hkl:k < l.length:=by have:=HN.out;omega
   obtain ⟨b,off,ea,hbw,d0,d1,d2,d3⟩:=FS.at H'.out HB.out hkl
   subst ea
   have F:Hid (Fok l[k]):=SM.out.at hkl
   obtain ⟨f,hf⟩:∃ f,l[k]=f:=⟨_,rfl⟩
   rw [hf] at d0 d1 d2 d3 F
   have HFk:Hid (l[k]=f):=hf
   clear hf
   have HEf:Hid (∀ (w:World),Calls Tryz.prog 81 #[.agg #[.string (bs f.path),.string (bs f.text),.int .i64 f.blob,.int .i64 f.size]] w fun e w'=>e=.returned (.int .i64 (fileE f))∧Below w.heap.size w w'):=gw_file' f F.out
   have HE:Hid (pathOk f.path=false↔fileE f=7):=(fileE_seven f).symm
   have HS2:Hid ((pathOk f.path && (l.drop (k+1)).all (fun f=>pathOk f.path))=r):=by
    have h1:=HL.out
    rw [all_step l _ k hkl,HFk.out] at h1;exact h1
   obtain ⟨p,t,bl,s⟩:=f
   simp only at d0 d1 d2 d3 HEf HE HS2
   generalize fileE ⟨p,t,bl,s⟩=E at *
   have k1:(0:Int)≤(k:Int):=by omega
   have k2:(k:Int) < (n:Int):=by omega
   go_wp2_with fail
   refine (HEf.out _).mono ?_
   rintro e w2 ⟨rfl,hb2⟩
   have HB2:Hid (Below w.heap.size w w2):=bstep (bstep HB.out (balloc _ _)) hb2
   clear hb2 d0 d1 d2 d3
   by_cases hE:E=7
   ·subst hE
    go_wp2_with fail
    go_ret
    refine ⟨?_,HB2.out⟩
    have h1:=HS2.out
    rw [HE.out.2 (by simp)] at h1
    obtain rfl:r=false:=by simpa using h1.symm
    have h2:=HA.out
    rw [← h2];rfl
   ·go_wp2_with fail
    go_roundw
    case rel=>
     refine ⟨k+1,by omega,by go_num,HB2.out,?_⟩
     have h1:=HS2.out
     have h2:pathOk p=true:=by
      cases hp:pathOk p
      ·exact absurd (HE.out.1 hp) hE
      ·rfl
     rw [h2] at h1;simpa using h1
    case measure=>simp [intOf];omega
  ·obtain rfl:k=n:=by omega
   have hr:r=true:=by
    have h1:=HL.out
    rw [List.drop_eq_nil_of_le (by have:=HN.out;omega)] at h1
    exact h1.symm
   subst hr
   go_wp2_with fail
   refine (HS.out _ HB.out).mono ?_
   rintro e w2 ⟨rfl,hb2⟩
   have HB2:Hid (Below w.heap.size w w2):=hb2
   clear hb2
   cases st
   ·go_wp2_with fail
    go_ret
    exact ⟨by have h2:=HA.out;rw [← h2];rfl,HB2.out⟩
   ·go_wp2_with fail
    go_ret
    exact ⟨by have h2:=HA.out;rw [← h2];rfl,HB2.out⟩
end
end Go.Proofs.YtppnbdnpapellaaGreatDoor
