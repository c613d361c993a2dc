import Derived.Test.YtppnbdnpapellaaGreatDoorTgt
import Derived.Defers
import Derived.Recover
import Derived.Test.YtppnbdnpapellaaGreatDoorJListP
import Derived.Test.YtppnbdnpapellaaGreatDoorJFil
import Derived.Test.YtppnbdnpapellaaGreatDoorJMShelf
set_option maxRecDepth 100000
set_option maxHeartbeats 16000000
namespace Go.Proofs.YtppnbdnpapellaaGreatDoor
section
open Go.RowKit
def TsOwn (base:Nat) (w:World):List Tv→List Tg→Prop
 | [],[]=>True
 | a::r,b::q=>TOwn base w a b∧TsOwn base w r q
 | _,_=>False
theorem TsOwn.len {base:Nat} {w:World}:∀ {a:List Tv} {b:List Tg},TsOwn base w a b→a.length=b.length
 | [],[],_=>rfl
 | _::_,_::_,h=>by simp only [List.length_cons,h.2.len]
theorem TsOwn.only {S:List Nat} {base:Nat} {w w':World}:∀ {a:List Tv} {b:List Tg},TsOwn base w a b→Only S w w'→(∀ t∈a,∀ u∈t.vals,∀ k,u.ownBlock=some k→k∉S)→TsOwn base w' a b
 | [],[],_,_,_=>trivial
 | t::r,_::_,h,ho,hn=>⟨h.1.only ho (hn t (by simp)),h.2.only ho fun t ht=>hn t (by simp [ht])⟩
theorem TsOwn.later {base:Nat} {w w':World} {a:List Tv} {b:List Tg} (h:TsOwn base w a b) (hb:Below w.heap.size w w'):TsOwn base w' a b:=h.only (Only.of_below hb []) (by simp)
theorem TsOwn.mono {base base':Nat} {w:World} (hb:base'≤base):∀ {a:List Tv} {b:List Tg},TsOwn base w a b→TsOwn base' w a b
 | [],[],_=>trivial
 | _::_,_::_,h=>⟨h.1.mono hb,TsOwn.mono hb h.2⟩
theorem TsOwn.lt {base:Nat} {w:World}:∀ {a:List Tv} {b:List Tg},TsOwn base w a b→∀ t∈a,∀ u∈t.vals,∀ k,u.ownBlock=some k→base≤k∧k < w.heap.size
 | [],[],_,t,ht=>by simp at ht
 | _::_,_::_,h,t,ht=>by
  rcases List.mem_cons.1 ht with rfl | ht
  ·exact h.1.lt
  ·exact h.2.lt t ht
theorem TsOwn.snoc {base:Nat} {w:World} {t:Tv} {g:Tg} (ht:TOwn base w t g):∀ {a:List Tv} {b:List Tg},TsOwn base w a b→TsOwn base w (a++[t]) (b++[g])
 | [],[],_=>⟨ht,trivial⟩
 | _::_,_::_,h=>⟨h.1,TsOwn.snoc ht h.2⟩
theorem TsOwn.names {base:Nat} {w:World} (x:List UInt8):∀ {a:List Tv} {b:List Tg},TsOwn base w a b→(a.any fun t=>t.name == x)=hasN b x
 | [],[],_=>rfl
 | _::_,_::_,h=>by
  have ih:=TsOwn.names x h.2
  unfold hasN at ih ⊢
  simp only [List.any_cons,ih,h.1.name]
def Aps (v:Value) (a:List Tv):Prop:=(v::a.flatMap Tv.vals).Pairwise Ap
theorem Aps.nil:Aps (.slice none 0 0) []:=by simp [Aps]
theorem TOwn.pair {base:Nat} {w:World} {v:Tv} {t:Tg} (h:TOwn base w v t):v.vals.Pairwise Ap:=by
 simp only [Tv.vals,List.pairwise_cons,List.mem_cons,List.mem_nil_iff,or_false,forall_eq_or_imp,forall_eq,List.Pairwise.nil,and_true,false_implies,implies_true]
 exact ⟨⟨h.sd,h.se⟩,h.de⟩
theorem mem_vals {a:List Tv} {u:Value} (h:u∈a.flatMap Tv.vals):∃ t∈a,u∈t.vals:=by
 simpa [List.mem_flatMap] using h
structure GOwn (base:Nat) (w:World) (v:Value) (l:List Tg):Prop where
 it:∃ a:List Tv,OwnG base w v a∧TsOwn base w a l∧Aps v a
theorem GOwn.nil (base:Nat) (w:World):GOwn base w (.slice none 0 0) []:=⟨[],OwnG.nil _ _,trivial,Aps.nil⟩
theorem GOwn.later {base:Nat} {w w':World} {v:Value} {l:List Tg} (h:GOwn base w v l) (hb:Below w.heap.size w w'):GOwn base w' v l:=by
 obtain ⟨a,h1,h2,h3⟩:=h.it;exact ⟨a,h1.later hb,h2.later hb,h3⟩
theorem GOwn.mono {base base':Nat} {w:World} {v:Value} {l:List Tg} (h:GOwn base w v l) (hb:base'≤base):GOwn base' w v l:=by
 obtain ⟨a,h1,h2,h3⟩:=h.it;exact ⟨a,h1.mono hb,h2.mono hb,h3⟩
theorem Aps.snoc {v v':Value} {a:List Tv} {t:Tv} {n m:Nat} (h:Aps v a) (ho:∀ x∈a,∀ u∈x.vals,∀ k,u.ownBlock=some k→k < n) (hv:∀ k,v.ownBlock=some k→k < n) (ht:∀ u∈t.vals,∀ k,u.ownBlock=some k→n≤k∧k < m) (hp:t.vals.Pairwise Ap) (hw:v'.ownBlock=v.ownBlock∨∃ k,v'.ownBlock=some k∧m≤k) (hnm:n≤m):Aps v' (a++[t]):=by
 unfold Aps at h ⊢
 rw [List.pairwise_cons] at h ⊢
 rw [List.flatMap_append]
 have e1:[t].flatMap Tv.vals=t.vals:=by simp
 rw [e1]
 constructor
 ·intro u hu k hk hk'
  rcases List.mem_append.1 hu with hu | hu
  ·obtain ⟨x,hx,hux⟩:=mem_vals hu
   have:=ho x hx u hux k hk'
   rcases hw with hw | ⟨j,hw,hj⟩
   ·exact h.1 u hu k (hw▸hk) hk'
   ·rw [hw] at hk;injection hk with hk;omega
  ·have:=ht u hu k hk'
   rcases hw with hw | ⟨j,hw,hj⟩
   ·have:=hv k (hw▸hk);omega
   ·rw [hw] at hk;injection hk with hk;omega
 ·rw [List.pairwise_append]
  refine ⟨h.2,hp,fun u hu u' hu' k hk hk'=>?_⟩
  obtain ⟨x,hx,hux⟩:=mem_vals hu
  have:=ho x hx u hux k hk
  have:=ht u' hu' k hk'
  omega
theorem mread_any {w:World} (p s:List UInt8) {R:List Tg×Int} (hE:Ev w) (hp:p.length≤120) (hs:s.length≤4096) (hR:go p (endE s) (toks s).2 (.top []) (toks s).1=R) :
  Calls Tryz.prog 179 #[.string (bs p),.string (bs s)] w fun e w'=>(∃ v ts,e=.returned v∧GOwn w.heap.size w' v ts∧R=(ts,-1)∧Below w.heap.size w w')∨(∃ z,e=flt z∧R=([],z)∧Below w.heap.size w w'):=by
 have hz:(bs s).size=s.length:=rfl
 have HTk:Hid (Calls Tryz.prog 208 #[.string (bs s)] w fun e w'=>∃ v,e=.returned (.tuple #[v,.int .i64 (toks s).2])∧OwnT 294 w.heap.size w' v (toks s).1∧Below w.heap.size w w'):=tokens_any s w (by omega)
 have HT:Hid (∀ k∈(toks s).1,TkOk k):=toks_ok hs
 have hnum:=toks_num s
 have HR:Hid (go p (endE s) (toks s).2 (.top []) (toks s).1=R):=hR
 have HEE:Hid (endE s=if 0≤(toks s).2 then (toks s).2 else (s.length:Int)):=rfl
 obtain ⟨EE,hEE⟩:∃ EE,endE s=EE:=⟨_,rfl⟩
 rw [hEE] at HR HEE
 obtain ⟨TT,hTT⟩:∃ TT,toks s=TT:=⟨_,rfl⟩
 rw [hTT] at HTk HT hnum HR HEE
 obtain ⟨L0,S⟩:=TT
 simp only at HTk HT hnum HR HEE
 obtain ⟨m1,m2,m3⟩:=hnum
 have HE:Hid (Ev w):=hE
 have h4:=hE.big
 clear hR hEE hTT hE
 go_enter Tryz.func179,Tryz.ntmps179
 go_wp2_with fail
 refine HTk.out.mono ?_
 rintro e w1 ⟨v0,rfl,hOT,hb1⟩
 have HO1:Hid (OwnT 294 w.heap.size w1 v0 L0):=hOT
 have B1:Hid (Below w.heap.size w w1):=hb1
 have hs1:w.heap.size≤w1.heap.size:=hb1.size
 obtain ⟨av0,cv0,hv0⟩:=hOT.form
 obtain ⟨n0,hn0⟩:∃ n0,L0.length=n0:=⟨_,rfl⟩
 rw [hn0] at hv0
 subst hv0
 clear hOT hb1
 obtain ⟨g,hgg⟩:∃ g,w1.heap.size=g:=⟨_,rfl⟩
 obtain ⟨w2,hw2⟩:∃ w2,w1.alloc (.cells #[.string (bs p),.slice av0 n0 cv0,.int .i64 EE] 252)=w2:=⟨_,rfl⟩
 have hb2:Below w1.heap.size w1 w2:=by rw [← hw2];exact balloc _ _
 have hs2:g+1=w2.heap.size:=by rw [← hw2,← hgg];simp
 have Q2:Hid (RQ w2 g p EE L0):=by
  refine ⟨.slice av0 n0 cv0,⟨?_⟩,((HO1.out.later hb2).ts),fun _ b hb=>?_⟩
  ·rw [← hw2,← hgg];exact heap_alloc_new _ _
  ·have:=(HO1.out.lt hb).2;omega
 have B2:Hid (Below w.heap.size w w2):=bstep B1.out hb2
 have E2:Hid (Ev w2):=HE.out.later B2.out
 have HW2:Hid (w1.alloc (.cells #[.string (bs p),.slice av0 n0 cv0,.int .i64 EE] 252)=w2∧w1.heap.size=g):=⟨hw2,hgg⟩
 have hg4:4≤g:=by omega
 have hgw:w.heap.size≤g:=by omega
 have hL0:L0.length≤5000:=by omega
 clear hw2 hb2 hgg B1 hn0
 by_cases hS:0≤S
 ·have hEq:EE=S:=by have:=HEE.out;rw [if_pos hS] at this;exact this
  subst hEq
  have dS:decide (0≤EE)=true:=by simpa using hS
  have HT2:Hid True:=trivial
  go_wp2_with fail
  rw [HW2.out.1,HW2.out.2]
  go_loopw [8] (fun v wr=>∃ (a:List Tv) (ts:List Tg) (Lr:List Tk),OwnG (g+1) wr v a∧TsOwn (g+1) wr a ts∧Aps v a∧RQ wr g p EE Lr∧Only [g] w2 wr∧go p EE EE (.top ts) Lr=R∧(∀ k∈Lr,k∈L0)∧Lr.length≤L0.length∧ts.length≤64) (fun v _=>65 - slen v)
  case atStart=>exact ⟨[],[],L0,OwnG.nil _ _,trivial,Aps.nil,Q2.out,Only.refl _ _,HR.out,fun k hk=>hk,Nat.le_refl _,by simp⟩
  case round=>
   obtain ⟨a,ts,Lr,hOG,hTs,hAp,hqr,hor,hRr,hmem,hlen,h64⟩:=hrel
   have G4:Hid (OwnG (g+1) wr u8 a∧TsOwn (g+1) wr a ts∧Aps u8 a):=⟨hOG,hTs,hAp⟩
   have X4:Hid (RQ wr g p EE Lr∧Only [g] w2 wr):=⟨hqr,hor⟩
   have R4:Hid (go p EE EE (.top ts) Lr=R):=hRr
   have M4:Hid (∀ k∈Lr,k∈L0):=hmem
   have hsr:w2.heap.size≤wr.heap.size:=hor.size
   have BW:Hid (Below w.heap.size w wr):=below_trans B2.out (hor.below (by omega) (by simp;omega))
   obtain ⟨au,cu,hu⟩:=hOG.form
   obtain ⟨na,hna⟩:∃ na,a.length=na:=⟨_,rfl⟩
   have HNA:Hid (a.length=na∧ts.length=na):=⟨hna,by rw [← hTs.len,hna]⟩
   rw [hna] at hu
   subst hu
   obtain ⟨vq,hvq,hts,_⟩:=hqr.rd
   obtain ⟨aq,cq,hq1,_⟩:=hts.form
   obtain ⟨nq,hnq⟩:∃ nq,Lr.length=nq:=⟨_,rfl⟩
   rw [hnq] at hq1
   subst hq1
   obtain ⟨c0,c1,c2,f1,f2⟩:=hvq.cells
   have HNQ:Hid (Lr.length=nq):=hnq
   clear HR Q2 HT2 hOG hTs hAp hqr hor hRr hmem hna hvq hts
   by_cases h0:nq=0
   ·subst h0
    clear hnq
    obtain rfl:Lr=[]:=List.eq_nil_of_length_eq_zero HNQ.out
    obtain rfl:([],EE)=R:=by have:=R4.out;simpa [go,fin,hS] using this
    go_wp2_with fail
    exact ⟨rfl,.inr ⟨_,rfl,rfl,BW.out⟩⟩
   ·have hnz:(0:Int) < (nq:Int):=by omega
    have hnz2:decide ((0:Int) < (nq:Int))=true:=by simp;omega
    have HCt:Hid (Calls Tryz.prog 209 #[.pointer (some ⟨g,0,none⟩),.slice au na cu] wr (LsT wr g p EE EE Lr ts R)):=
     target_any X4.out.1 G4.out.1 (by omega) (fun x=>G4.out.2.1.names x) (by rw [HNA.out.1,HNA.out.2]) h64 (fun e=>by rw [e] at hnq;simp at hnq;omega) (fun k hk=>HT.out k (M4.out k hk)) (by omega) R4.out (E2.out.only X4.out.2 (by simpa using hg4)) hg4 hp
    clear hnq
    go_wp2_with fail
    refine HCt.out.mono ?_
    rintro e w5 (⟨tv,t,L',rfl,hTO,hq5,hm5,hl5,hR5,h645,ho5⟩ | ⟨z,rfl,hzR,ho5⟩)
    rotate_left
    ·exact ⟨rfl,.inr ⟨z,rfl,hzR,below_trans BW.out (ho5.below (by omega) (by simp;omega))⟩⟩
    have hgm:∀ (v:Value),(∀ k,v.ownBlock=some k→g+1≤k)→∀ k,v.ownBlock=some k→k∉[g]:=fun v hv k hk hm=>by have:=hv k hk;simp only [List.mem_singleton] at hm;omega
    have G5:Hid (OwnG (g+1) w5 (.slice au na cu) a∧TsOwn (g+1) w5 a ts):=⟨G4.out.1.only ho5 (hgm _ fun k hk=>(G4.out.1.lt hk).1),G4.out.2.1.only ho5 fun t ht u hu=>hgm u fun k hk=>(G4.out.2.1.lt t ht u hu k hk).1⟩
    have T5:Hid (TOwn wr.heap.size w5 tv t):=hTO
    have X5:Hid (RQ w5 g p EE L'∧Only [g] w2 w5∧(∀ k∈L',k∈L0)∧go p EE EE (.top (ts++[t])) L'=R):=⟨hq5,X4.out.2.trans ho5,fun k hk=>M4.out k (hm5 k hk),hR5⟩
    have hs5:wr.heap.size≤w5.heap.size:=ho5.size
    have hl5':L'.length≤L0.length:=by omega
    unfold Tv.val
    clear hTO hq5 hm5 hR5 ho5 hgm HCt
    go_wp2_with (first
     | (at_builtin;refine app_G tv G5.out.1 (by have:=HNA.out;omega) (by omega) rfl (.tmp 27) (.tmp 30) rfl rfl rfl ?_;intro v9 w9 hO9 hB9 hN9 hs9 hw9;have O9:Hid (OwnG (g+1) w9 v9 (a++[tv])):=hO9;have K9:Hid (Below (g+1) w5 w9∧Only (Value.slice au na cu).ownBlock.toList w5 w9∧(v9.ownBlock=(Value.slice au na cu).ownBlock∨∃ k,v9.ownBlock=some k∧w5.heap.size≤k)):=⟨hB9,hN9,hw9⟩;clear hO9 hB9 hN9 hw9))
    obtain ⟨a9,c9,hv9⟩:=O9.out.form
    have HL9:Hid ((a++[tv]).length=na+1):=by show (a++[tv]).length=na+1;rw [List.length_append,HNA.out.1];rfl
    rw [HL9.out] at hv9
    subst hv9
    have A9:Hid (Aps (.slice a9 (na+1) c9) (a++[tv])):=G4.out.2.2.snoc (n:=wr.heap.size) (m:=w5.heap.size) (fun x hx u hu k hk=>(G4.out.2.1.lt x hx u hu k hk).2) (fun k hk=>(G4.out.1.lt hk).2) (fun u hu k hk=>T5.out.lt u hu k hk) T5.out.pair K9.out.2.2 hs5
    have hap:∀ u∈a.flatMap Tv.vals,Ap (.slice au na cu) u:=(List.pairwise_cons.1 G4.out.2.2).1
    have T9:Hid (TsOwn (g+1) w9 (a++[tv]) (ts++[t])):=by
     refine TsOwn.snoc ((T5.out.mono (by omega)).only K9.out.2.1 fun u hu k hk hm=>?_) (G5.out.2.only K9.out.2.1 fun x hx u hu k hk hm=>?_)
     ·rw [Option.mem_toList] at hm
      have h1:=(T5.out.lt u hu k hk).1
      have h2:=(G4.out.1.lt hm).2
      omega
     ·rw [Option.mem_toList] at hm
      exact hap u (List.mem_flatMap.2 ⟨x,hx,hu⟩) k hm hk
    have X9:Hid (RQ w9 g p EE L'∧Only [g] w2 w9):=⟨X5.out.1.below K9.out.1 (by omega),only_below X5.out.2.1 K9.out.1 (by omega)⟩
    have hlt9:(ts++[t]).length≤64:=by rw [List.length_append];simp;omega
    clear hap
    go_wp2_with fail
    go_roundw
    case rel=>exact ⟨_,_,L',O9.out,T9.out,A9.out,X9.out.1,X9.out.2,X5.out.2.2.2,X5.out.2.2.1,hl5',hlt9⟩
    case measure=>(have:=HNA.out;simp [slen];omega)
 ·have hEq:EE=(s.length:Int):=by have:=HEE.out;rw [if_neg hS] at this;exact this
  subst hEq
  have dS:decide (0≤S)=false:=by simpa using hS
  have HT2:Hid True:=trivial
  go_wp2_with fail
  rw [HW2.out.1,HW2.out.2]
  go_loopw [8] (fun v wr=>∃ (a:List Tv) (ts:List Tg) (Lr:List Tk),OwnG (g+1) wr v a∧TsOwn (g+1) wr a ts∧Aps v a∧RQ wr g p (s.length:Int) Lr∧Only [g] w2 wr∧go p (s.length:Int) S (.top ts) Lr=R∧(∀ k∈Lr,k∈L0)∧Lr.length≤L0.length∧ts.length≤64) (fun v _=>65 - slen v)
  case atStart=>exact ⟨[],[],L0,OwnG.nil _ _,trivial,Aps.nil,Q2.out,Only.refl _ _,HR.out,fun k hk=>hk,Nat.le_refl _,by simp⟩
  case round=>
   obtain ⟨a,ts,Lr,hOG,hTs,hAp,hqr,hor,hRr,hmem,hlen,h64⟩:=hrel
   have G4:Hid (OwnG (g+1) wr u8 a∧TsOwn (g+1) wr a ts∧Aps u8 a):=⟨hOG,hTs,hAp⟩
   have X4:Hid (RQ wr g p (s.length:Int) Lr∧Only [g] w2 wr):=⟨hqr,hor⟩
   have R4:Hid (go p (s.length:Int) S (.top ts) Lr=R):=hRr
   have M4:Hid (∀ k∈Lr,k∈L0):=hmem
   have hsr:w2.heap.size≤wr.heap.size:=hor.size
   have BW:Hid (Below w.heap.size w wr):=below_trans B2.out (hor.below (by omega) (by simp;omega))
   obtain ⟨au,cu,hu⟩:=hOG.form
   obtain ⟨na,hna⟩:∃ na,a.length=na:=⟨_,rfl⟩
   have HNA:Hid (a.length=na∧ts.length=na):=⟨hna,by rw [← hTs.len,hna]⟩
   rw [hna] at hu
   subst hu
   obtain ⟨vq,hvq,hts,_⟩:=hqr.rd
   obtain ⟨aq,cq,hq1,_⟩:=hts.form
   obtain ⟨nq,hnq⟩:∃ nq,Lr.length=nq:=⟨_,rfl⟩
   rw [hnq] at hq1
   subst hq1
   obtain ⟨c0,c1,c2,f1,f2⟩:=hvq.cells
   have HNQ:Hid (Lr.length=nq):=hnq
   clear HR Q2 HT2 hOG hTs hAp hqr hor hRr hmem hna hvq hts
   by_cases h0:nq=0
   ·subst h0
    clear hnq
    obtain rfl:Lr=[]:=List.eq_nil_of_length_eq_zero HNQ.out
    obtain rfl:(ts,-1)=R:=by have:=R4.out;simp only [go,fin] at this;rw [if_neg (by omega)] at this;exact this
    go_wp2_with fail
    go_ret
    exact .inl ⟨_,ts,rfl,⟨a,G4.out.1.mono (by omega),G4.out.2.1.mono (by omega),G4.out.2.2⟩,rfl,BW.out⟩
   ·have hnz:(0:Int) < (nq:Int):=by omega
    have hnz2:decide ((0:Int) < (nq:Int))=true:=by simp;omega
    have HCt:Hid (Calls Tryz.prog 209 #[.pointer (some ⟨g,0,none⟩),.slice au na cu] wr (LsT wr g p (s.length:Int) S Lr ts R)):=
     target_any X4.out.1 G4.out.1 (by omega) (fun x=>G4.out.2.1.names x) (by rw [HNA.out.1,HNA.out.2]) h64 (fun e=>by rw [e] at hnq;simp at hnq;omega) (fun k hk=>HT.out k (M4.out k hk)) (by omega) R4.out (E2.out.only X4.out.2 (by simpa using hg4)) hg4 hp
    clear hnq
    go_wp2_with fail
    refine HCt.out.mono ?_
    rintro e w5 (⟨tv,t,L',rfl,hTO,hq5,hm5,hl5,hR5,h645,ho5⟩ | ⟨z,rfl,hzR,ho5⟩)
    rotate_left
    ·exact ⟨rfl,.inr ⟨z,rfl,hzR,below_trans BW.out (ho5.below (by omega) (by simp;omega))⟩⟩
    have hgm:∀ (v:Value),(∀ k,v.ownBlock=some k→g+1≤k)→∀ k,v.ownBlock=some k→k∉[g]:=fun v hv k hk hm=>by have:=hv k hk;simp only [List.mem_singleton] at hm;omega
    have G5:Hid (OwnG (g+1) w5 (.slice au na cu) a∧TsOwn (g+1) w5 a ts):=⟨G4.out.1.only ho5 (hgm _ fun k hk=>(G4.out.1.lt hk).1),G4.out.2.1.only ho5 fun t ht u hu=>hgm u fun k hk=>(G4.out.2.1.lt t ht u hu k hk).1⟩
    have T5:Hid (TOwn wr.heap.size w5 tv t):=hTO
    have X5:Hid (RQ w5 g p (s.length:Int) L'∧Only [g] w2 w5∧(∀ k∈L',k∈L0)∧go p (s.length:Int) S (.top (ts++[t])) L'=R):=⟨hq5,X4.out.2.trans ho5,fun k hk=>M4.out k (hm5 k hk),hR5⟩
    have hs5:wr.heap.size≤w5.heap.size:=ho5.size
    have hl5':L'.length≤L0.length:=by omega
    unfold Tv.val
    clear hTO hq5 hm5 hR5 ho5 hgm HCt
    go_wp2_with (first
     | (at_builtin;refine app_G tv G5.out.1 (by have:=HNA.out;omega) (by omega) rfl (.tmp 27) (.tmp 30) rfl rfl rfl ?_;intro v9 w9 hO9 hB9 hN9 hs9 hw9;have O9:Hid (OwnG (g+1) w9 v9 (a++[tv])):=hO9;have K9:Hid (Below (g+1) w5 w9∧Only (Value.slice au na cu).ownBlock.toList w5 w9∧(v9.ownBlock=(Value.slice au na cu).ownBlock∨∃ k,v9.ownBlock=some k∧w5.heap.size≤k)):=⟨hB9,hN9,hw9⟩;clear hO9 hB9 hN9 hw9))
    obtain ⟨a9,c9,hv9⟩:=O9.out.form
    have HL9:Hid ((a++[tv]).length=na+1):=by show (a++[tv]).length=na+1;rw [List.length_append,HNA.out.1];rfl
    rw [HL9.out] at hv9
    subst hv9
    have A9:Hid (Aps (.slice a9 (na+1) c9) (a++[tv])):=G4.out.2.2.snoc (n:=wr.heap.size) (m:=w5.heap.size) (fun x hx u hu k hk=>(G4.out.2.1.lt x hx u hu k hk).2) (fun k hk=>(G4.out.1.lt hk).2) (fun u hu k hk=>T5.out.lt u hu k hk) T5.out.pair K9.out.2.2 hs5
    have hap:∀ u∈a.flatMap Tv.vals,Ap (.slice au na cu) u:=(List.pairwise_cons.1 G4.out.2.2).1
    have T9:Hid (TsOwn (g+1) w9 (a++[tv]) (ts++[t])):=by
     refine TsOwn.snoc ((T5.out.mono (by omega)).only K9.out.2.1 fun u hu k hk hm=>?_) (G5.out.2.only K9.out.2.1 fun x hx u hu k hk hm=>?_)
     ·rw [Option.mem_toList] at hm
      have h1:=(T5.out.lt u hu k hk).1
      have h2:=(G4.out.1.lt hm).2
      omega
     ·rw [Option.mem_toList] at hm
      exact hap u (List.mem_flatMap.2 ⟨x,hx,hu⟩) k hm hk
    have X9:Hid (RQ w9 g p (s.length:Int) L'∧Only [g] w2 w9):=⟨X5.out.1.below K9.out.1 (by omega),only_below X5.out.2.1 K9.out.1 (by omega)⟩
    have hlt9:(ts++[t]).length≤64:=by rw [List.length_append];simp;omega
    clear hap
    go_wp2_with fail
    go_roundw
    case rel=>exact ⟨_,_,L',O9.out,T9.out,A9.out,X9.out.1,X9.out.2,X5.out.2.2.2,X5.out.2.2.1,hl5',hlt9⟩
    case measure=>(have:=HNA.out;simp [slen];omega)
end
section
open Go.RowKit
theorem wp_weaken {P:Program} {c:Code} {Q Q':Exit→Act→World→Prop} {a:Act} {w:World} (h:∀ e a w,Q e a w→Q' e a w) (hc:c.wp P Q a w):c.wp P Q' a w:=fun b k cs=>
 let ⟨e,a',w',hq,hr⟩:=hc b k cs
 ⟨e,a',w',h _ _ _ hq,hr⟩
theorem ta_err (z:Int) (w:World):(Instr.typeAssert (.iface 245 (.int .i64 z)) 20 217 true).run Tryz.prog w=.ok (.tuple #[.iface 245 (.int .i64 z),.bool true]) w:=by kernel_rfl
theorem ta_nil (w:World):(Instr.typeAssert .nilIface 20 217 true).run Tryz.prog w=.ok (.tuple #[.nilIface,.bool false]) w:=by kernel_rfl
theorem catch_idle (gl ga:Nat) (w:World) :
  CallsD Tryz.prog 177 #[.pointer (some ⟨gl,0,none⟩),.pointer (some ⟨ga,0,none⟩)] .returning w fun e u' w'=>e=.returned (.tuple #[])∧u'=.returning∧w'=w:=by
 have ht:=ta_nil
 refine callsD_of_wpS Tryz.func177 rfl fun c₀ cs hu=>?_
 apply wpS_seq
 apply wpS_region
 simp [wpOpsS,go_sem,recoverD,hu,Tryz.ntmps177,Exit.thenS,ta_nil]
 refine wpS_of_wp ?_
 change Code.wp Tryz.prog _ _ ⟨#[.pointer (some ⟨gl,0,none⟩),.pointer (some ⟨ga,0,none⟩),.nilIface,.bool false,.tuple #[.nilIface,.bool false],.nilIface,.tuple #[.nilIface,.bool false],.nilIface,.bool false,undef,undef,undef],[]⟩ w
 go_wp2_with fail
 cases c₀
 simp_all [bodyPostS,results,Tryz.results177]
theorem catch_pan (gl ga:Nat) (z:Int) {w:World} (E:Ev w) {x y:Value} (xcl:w.cell? ⟨gl,0,none⟩=some x) (ca:w.cell? ⟨ga,0,none⟩=some y) (fl:w.frozen? ⟨gl,0,none⟩=false) (fa:w.frozen? ⟨ga,0,none⟩=false) (hgl:gl < w.heap.size) (hga:ga < w.heap.size) (hne:gl≠ga) :
  CallsD Tryz.prog 177 #[.pointer (some ⟨gl,0,none⟩),.pointer (some ⟨ga,0,none⟩)] (.panicking [{ v:=.iface 245 (.int .i64 z),recovered:=false }]) w fun e u' w'=>
   e=.returned (.tuple #[])∧u'=.panicking [{ v:=.iface 245 (.int .i64 z),recovered:=true }]∧∃ w1,Below w.heap.size w w1∧w'=(w1.setCell ⟨gl,0,none⟩ (.slice none 0 0)).setCell ⟨ga,0,none⟩ (.int .i64 z):=by
 have HP:Hid (Calls Tryz.prog 178 #[.iface 245 (.int .i64 z)] w fun e w'=>e=.returned (.int .i64 z)∧Below w.heap.size w w'):=placeOf_any z E
 refine callsD_of_wpS Tryz.func177 rfl fun c₀ cs hu=>?_
 apply wpS_seq
 apply wpS_region
 simp [wpOpsS,go_sem,recoverD,hu,Tryz.ntmps177,Exit.thenS,ta_err]
 refine wpS_of_wp ?_
 refine wp_weaken (Q:=fun e a' w'=>e=Exit.normal∧a'.defers=[]∧∃ w1,Below w.heap.size w w1∧w'=(w1.setCell ⟨gl,0,none⟩ (.slice none 0 0)).setCell ⟨ga,0,none⟩ (.int .i64 z)) ?_ ?_
 ·rintro e a' w' ⟨rfl,hd,h1⟩
  exact ⟨hd,_,rfl,_,results_none rfl _ _ _,rfl,rfl,h1⟩
 clear hu
 simp only [Array.replicate,List.replicate,List.setIfInBounds_toArray,List.set_cons_succ,List.set_cons_zero,List.append_toArray,List.cons_append,List.nil_append]
 clear E
 go_wp2_with fail
 refine HP.out.mono ?_
 rintro e w1 ⟨rfl,hb⟩
 have cl1:w1.cell? ⟨gl,0,none⟩=some x:=(hb.cell (p:=⟨gl,0,none⟩) hgl).trans xcl
 have ca1:w1.cell? ⟨ga,0,none⟩=some y:=(hb.cell (p:=⟨ga,0,none⟩) hga).trans ca
 have fl1:w1.frozen? ⟨gl,0,none⟩=false:=(hb.frozen (p:=⟨gl,0,none⟩) hgl).trans fl
 have fa1:w1.frozen? ⟨ga,0,none⟩=false:=(hb.frozen (p:=⟨ga,0,none⟩) hga).trans fa
 have HB:Hid (Below w.heap.size w w1):=hb
 clear hb
 go_wp2_with fail
 exact ⟨w1,HB.out,rfl⟩
def LsP (w:World) (R:List Tg×Int) (e:Ending) (w':World):Prop:=∃ v,e=.returned (.tuple #[v,.int .i64 R.2])∧GOwn w.heap.size w' v R.1∧Below w.heap.size w w'
theorem results_ll {P:Program} {fn:Func} {p q:Tmp} {t u:TypeId} (h:fn.results = #[.cell p t,.cell q u]) (tmps:Array Value) (w:World) {g k:Nat} {x y:Value} (hp:tmps.getD p undef=.pointer (some ⟨g,0,none⟩)) (hq:tmps.getD q undef=.pointer (some ⟨k,0,none⟩))
  (hx:(loadVar t ⟨g,0,none⟩).run P w=.ok x w) (hy:(loadVar u ⟨k,0,none⟩).run P w=.ok y w):(results fn tmps).run P w=.ok (.tuple #[x,y]) w:=by
 have hp':tmps[p]?.getD undef=.pointer (some ⟨g,0,none⟩):=by simpa using hp
 have hq':tmps[q]?.getD undef=.pointer (some ⟨k,0,none⟩):=by simpa using hq
 unfold results
 rw [h]
 simp [hp',hq',asAddr,hx,hy]
theorem load22 {w:World} {g:Nat} {x:Value} (h:w.cell? ⟨g,0,none⟩=some x):(loadVar 134 ⟨g,0,none⟩).run Tryz.prog w=.ok x w:=by
 simp [loadVar,isAgg,underlying,Tryz.underlying134,h]
theorem load3 {w:World} {g:Nat} {x:Value} (h:w.cell? ⟨g,0,none⟩=some x):(loadVar 3 ⟨g,0,none⟩).run Tryz.prog w=.ok x w:=by
 simp [loadVar,isAgg,underlying,Tryz.underlying3,h]
theorem GOwn.only {S:List Nat} {base:Nat} {w w':World} {v:Value} {l:List Tg} (h:GOwn base w v l) (ho:Only S w w') (hS:∀ k∈S,k < base):GOwn base w' v l:=by
 obtain ⟨a,h1,h2,h3⟩:=h.it
 refine ⟨a,h1.only ho fun k hk hm=>?_,h2.only ho fun t ht u hu k hk hm=>?_,h3⟩
 ·have:=(h1.lt hk).1;have:=hS k hm;omega
 ·have:=(h2.lt t ht u hu k hk).1;have:=hS k hm;omega
theorem GOwn.form {base:Nat} {w:World} {v:Value} {l:List Tg} (h:GOwn base w v l):∃ a n c,v=.slice a n c:=by
 obtain ⟨b,h1,_,_⟩:=h.it
 obtain ⟨a,c,e⟩:=h1.form
 exact ⟨a,_,c,e⟩
structure TwoB (w:World) (G:Nat) (x y:Value):Prop where
 l:w.heap[G]? = some (.cells #[x] 134 (0,0))
 a:w.heap[G+1]? = some (.cells #[y] 3 (0,0))
theorem TwoB.new (w:World) (x y:Value):TwoB ((w.alloc (.cells #[x] 134)).alloc (.cells #[y] 3)) w.heap.size x y:=
 ⟨(heap_alloc_old _ _ (by simp)).trans (heap_alloc_new _ _),by have:=heap_alloc_new (w.alloc (.cells #[x] 134)) (.cells #[y] 3);simpa using this⟩
theorem TwoB.lt {w:World} {G:Nat} {x y:Value} (h:TwoB w G x y):G+1 < w.heap.size:=(Array.getElem?_eq_some_iff.1 h.a).1
theorem TwoB.later {w w':World} {G:Nat} {x y:Value} (h:TwoB w G x y) (hb:Below w.heap.size w w'):TwoB w' G x y:=
 ⟨(hb.block G (by have:=h.lt;omega)).trans h.l,(hb.block (G+1) h.lt).trans h.a⟩
theorem TwoB.set {w:World} {G:Nat} {x y:Value} (h:TwoB w G x y) (x' y':Value):TwoB ((w.setCell ⟨G,0,none⟩ x').setCell ⟨G+1,0,none⟩ y') G x' y':=by
 constructor
 ·rw [hset_ne _ (by omega),heap_setCell _ _ _ _ h.l];simp
 ·rw [heap_setCell _ _ _ _ ((hset_ne _ (by omega) _ _).trans h.a)];simp
theorem TwoB.cells {w:World} {G:Nat} {x y:Value} (h:TwoB w G x y):w.cell? ⟨G,0,none⟩=some x∧w.cell? ⟨G+1,0,none⟩=some y∧w.frozen? ⟨G,0,none⟩=false∧w.frozen? ⟨G+1,0,none⟩=false:=by
 have h1:=h.l
 have h2:=h.a
 exact ⟨by simp [World.cell?,h1],by simp [World.cell?,h2],by simp [World.frozen?,h1],by simp [World.frozen?,h2]⟩
theorem set2_only (w:World) (G:Nat) (x y:Value):Only [G,G+1] w ((w.setCell ⟨G,0,none⟩ x).setCell ⟨G+1,0,none⟩ y):=
 ((Only.set _ _ _ _).mono (by simp)).trans ((Only.set _ _ _ _).mono (by simp))
theorem set2_below {B:Nat} {w w':World} {G:Nat} (hb:Below B w w') (hG:B≤G) (x y:Value):Below B w ((w'.setCell ⟨G,0,none⟩ x).setCell ⟨G+1,0,none⟩ y):=
 (hb.setCell (p:=⟨G,0,none⟩) hG _).setCell (p:=⟨G+1,0,none⟩) (by show B≤G+1;omega) _
theorem parse_any {w:World} (p s:List UInt8) (hE:Ev w) (hp:p.length≤1125899906842624) (hs:s.length≤1125899906842624) :
  Calls Tryz.prog 137 #[.string (bs p),.string (bs s)] w (LsP w (prsM p s)):=by
 have hmf:∀ (fn:Fn) (first cap:Array Value) (w:World),(Instr.makeFunc fn first cap).run Tryz.prog w=.ok (.func fn first cap) w:=fun _ _ _ _=>rfl
 have hz:(bs s).size=s.length:=rfl
 have HV:Hid (∀ W:World,Calls Tryz.prog 83 #[.string (bs p)] W fun e w'=>e=.returned (.bool (okP p))∧Below W.heap.size W w'):=fun W=>valid_any p W (by omega)
 obtain ⟨R,hR⟩:∃ R,prsM p s=R:=⟨_,rfl⟩
 rw [hR]
 unfold prsM at hR
 obtain ⟨G,hG⟩:∃ G,w.heap.size=G:=⟨_,rfl⟩
 obtain ⟨w0,hw0⟩:∃ w0,(w.alloc (.cells #[.slice none 0 0] 134)).alloc (.cells #[.int .i64 0] 3)=w0:=⟨_,rfl⟩
 have T0:Hid (TwoB w0 G (.slice none 0 0) (.int .i64 0)):=by
  show TwoB w0 G _ _
  rw [← hw0,← hG];exact TwoB.new w _ _
 have B0:Hid (Below w.heap.size w w0):=by show Below w.heap.size w w0;rw [← hw0];exact bstep (balloc _ _) (balloc _ _)
 have HW:Hid ((w.alloc (.cells #[.slice none 0 0] 134)).alloc (.cells #[.int .i64 0] 3)=w0∧w.heap.size=G):=⟨hw0,hG⟩
 have hGw:w.heap.size≤G:=by omega
 have HE0:Hid (Ev w0):=hE.later B0.out
 clear hw0 hG hE
 cases hok:okP p
 ·rw [hok] at HV
  obtain rfl:([],0)=R:=by rw [← hR,hok];rfl
  clear hok hR
  go_enter_defers Tryz.func137,Tryz.ntmps137
  go_wp2_with fail
  rw [HW.out.1,HW.out.2]
  refine (HV.out _).mono ?_
  rintro e w1 ⟨rfl,hb⟩
  have T1:Hid (TwoB w1 G (.slice none 0 0) (.int .i64 0)):=T0.out.later hb
  have B1:Hid (Below w.heap.size w w1):=bstep B0.out hb
  obtain ⟨c0,c1,f0,f1⟩:=T1.out.cells
  clear hb
  go_wp2_with fail
  obtain ⟨r0,r1,_,_⟩:=(T1.out.set (.slice none 0 0) (.int .i64 0)).cells
  exact ⟨_,results_ll rfl _ _ rfl rfl (load22 r0) (load3 r1),_,rfl,GOwn.nil _ _,set2_below B1.out hGw _ _⟩
 rw [hok,if_pos rfl] at hR
 rw [hok] at HV
 have hp120:p.length≤120:=(okP_len hok).1
 clear hok
 by_cases hlen:s.length≤4096
 rotate_left
 ·rw [if_neg hlen] at hR
  subst hR
  have i1:(4096:Int) < (s.length:Int):=by omega
  go_enter_defers Tryz.func137,Tryz.ntmps137
  go_wp2_with fail
  rw [HW.out.1,HW.out.2]
  refine (HV.out _).mono ?_
  rintro e w1 ⟨rfl,hb⟩
  have T1:Hid (TwoB w1 G (.slice none 0 0) (.int .i64 0)):=T0.out.later hb
  have B1:Hid (Below w.heap.size w w1):=bstep B0.out hb
  obtain ⟨c0,c1,f0,f1⟩:=T1.out.cells
  clear hb
  go_wp2_with fail
  obtain ⟨r0,r1,_,_⟩:=(T1.out.set (.slice none 0 0) (.int .i64 4096)).cells
  exact ⟨_,results_ll rfl _ _ rfl rfl (load22 r0) (load3 r1),_,rfl,GOwn.nil _ _,set2_below B1.out hGw _ _⟩
 rw [if_pos hlen] at hR
 have i1:¬ ((4096:Int) < (s.length:Int)):=by omega
 have HRd:Hid (∀ W:World,Ev W→Calls Tryz.prog 179 #[.string (bs p),.string (bs s)] W fun e w'=>(∃ v ts,e=.returned v∧GOwn W.heap.size w' v ts∧R=(ts,-1)∧Below W.heap.size W w')∨(∃ z,e=flt z∧R=([],z)∧Below W.heap.size W w')):=fun W hW=>mread_any p s hW hp120 hlen hR
 clear hR
 go_enter_defers Tryz.func137,Tryz.ntmps137
 go_wp2_with fail
 rw [HW.out.1,HW.out.2]
 refine (HV.out _).mono ?_
 rintro e w1 ⟨rfl,hb⟩
 have T1:Hid (TwoB w1 G (.slice none 0 0) (.int .i64 0)):=T0.out.later hb
 have B1:Hid (Below w.heap.size w w1):=bstep B0.out hb
 have E1:Hid (Ev w1):=HE0.out.later hb
 have hG1:=T1.out.lt
 clear hb HE0 T0
 go_wp2_with fail
 refine (HRd.out _ E1.out).mono ?_
 rintro e w2 (⟨v,ts,rfl,hO,rfl,hb⟩ | ⟨z,rfl,rfl,hb⟩)
 ·have T2:Hid (TwoB w2 G (.slice none 0 0) (.int .i64 0)):=T1.out.later hb
  have B2:Hid (Below w.heap.size w w2):=bstep B1.out hb
  obtain ⟨av,nv,cv,hv⟩:=hO.form
  subst hv
  have O2:Hid (GOwn w1.heap.size w2 (.slice av nv cv) ts):=hO
  obtain ⟨c0,c1,f0,f1⟩:=T2.out.cells
  clear hb hO
  go_wp2_with fail
  refine leaves_cons (f:=177) (args:=#[.pointer (some ⟨G,0,none⟩),.pointer (some ⟨G+1,0,none⟩)]) (by simp) (by simp [go_sem]) ?_
  refine (catch_idle G (G+1) _).mono ?_
  rintro e u' w3 ⟨rfl,rfl,rfl⟩
  obtain ⟨r0,r1,_,_⟩:=(T2.out.set (.slice av nv cv) (.int .i64 (-1))).cells
  refine ⟨_,results_ll rfl _ _ rfl rfl (load22 r0) (load3 r1),_,rfl,?_,set2_below B2.out hGw _ _⟩
  exact (O2.out.only (set2_only _ _ _ _) (by simp;omega)).mono (by have:=B1.out.size;omega)
 ·have T2:Hid (TwoB w2 G (.slice none 0 0) (.int .i64 0)):=T1.out.later hb
  have B2:Hid (Below w.heap.size w w2):=bstep B1.out hb
  obtain ⟨c0,c1,f0,f1⟩:=T2.out.cells
  have hs2:=hb.size
  refine leaves_cons (f:=177) (args:=#[.pointer (some ⟨G,0,none⟩),.pointer (some ⟨G+1,0,none⟩)]) (by simp) (by simp [go_sem]) ?_
  refine (catch_pan G (G+1) z (E1.out.later hb) c0 c1 f0 f1 (by omega) (by omega) (by omega)).mono ?_
  rintro e u' w3 ⟨rfl,rfl,w4,hb4,rfl⟩
  obtain ⟨r0,r1,_,_⟩:=((T2.out.later hb4).set (.slice none 0 0) (.int .i64 z)).cells
  exact ⟨_,results_ll rfl _ _ rfl rfl (load22 r0) (load3 r1),_,rfl,GOwn.nil _ _,set2_below (bstep B2.out hb4) hGw _ _⟩
end
theorem rep1_length:∀ (l:List UInt8),(rep1 l).length=l.length
 | []=>rfl
 | c::r=>by unfold rep1;split<;>simp [rep1_length r]
theorem base_none {b:List UInt8} (h:b.count 47=0):base b=b:=by
 unfold base;rw [lst_none b h];rfl
def litP (s:List UInt8):Bool:=!decide (s=[]) && okP s && !decide (base s=wName)
def starP (s:List UInt8):Bool:=(base s).contains 42 && okP (rep1 s)
theorem base_cut (d b:List UInt8) (h:b.count 47=0):base (d++47::b)=b:=by rw [base_app,base_none h]
theorem dir_cut (d b:List UInt8) (h:b.count 47=0):dir (d++47::b)=d:=by
 unfold dir
 have e:=lst_app d b
 rw [lst_none b h] at e
 rw [if_neg (by omega),e]
 have:(↑d.length+1 + -1:Int).toNat=d.length:=by omega
 rw [this];simp
theorem two (s:List UInt8):(s.count 47=0∧base s=s∧dir s=[])∨∃ d b,s=d++47::b∧b.count 47=0∧base s=b∧dir s=d:=by
 by_cases h:s.count 47=0
 ·exact .inl ⟨h,base_none h,by unfold dir;rw [lst_none s h];rfl⟩
 ·right
  have h0:0≤lst s:=lst_some s (by omega)
  have hcut:=lst_cut s h0
  obtain ⟨d,hd⟩:∃ d,s.take (lst s).toNat=d:=⟨_,rfl⟩
  obtain ⟨b,hb⟩:∃ b,s.drop (lst s+1).toNat=b:=⟨_,rfl⟩
  rw [hd,hb] at hcut
  have hb0:b.count 47=0:=by
   by_cases e:b.count 47=0
   ·exact e
   ·have h1:=lst_some b (by omega)
    have h2:=lst_app d b
    rw [← hcut] at h2
    have h3:d.length=(lst s).toNat:=by
     rw [← hd,List.length_take]
     have:=lst_lt s;omega
    omega
  exact ⟨d,b,hcut,hb0,by rw [hcut];exact base_cut d b hb0,by rw [hcut];exact dir_cut d b hb0⟩
theorem star_42 {s:List UInt8} (h:starP s=true):(42:UInt8)∈base s:=by
 unfold starP at h
 simp only [Bool.and_eq_true] at h
 simpa using h.1
def whl (p s:List UInt8):List UInt8:=if p=[] then s else p++47::s
def fts (x y n:List UInt8):Bool:=decide (x.length+y.length≤n.length) && decide (n.take x.length=x) && decide (n.drop (n.length - y.length)=y)
def hd42 (p:List UInt8):List UInt8:=p.take (Lib.indexByte p 42).toNat
def tl42 (p:List UInt8):List UInt8:=p.drop ((Lib.indexByte p 42).toNat+1)
theorem at42 {p:List UInt8} (h:(42:UInt8)∈p):p=hd42 p++42::tl42 p∧(42:UInt8)∉hd42 p∧Lib.indexByte p 42=((hd42 p).length:Int):=by
 rcases cut_split 42 p.length p (Nat.le_refl _) with h1 | ⟨a,b,rfl,h1⟩
 ·exact absurd h h1
 ·unfold hd42 tl42
  rw [ib_app 42 a b h1]
  simp [h1]
def sel (J:List UInt8) (f:Fl):Bool:=decide (dir f.path=dir J) && !decide (base f.path=wName) && fts (hd42 (base J)) (tl42 (base J)) (base f.path)
def fnd (l:List Fl) (J:List UInt8):Option Fl:=l.find? (fun f=>decide (f.path=J))
def exl (l:List Fl) (J:List UInt8):List Fl×Bool:=
 if litP J=true then (match fnd l J with | some f=>([f],true) | none=>([],false))
 else if starP J=true then (l.filter (sel J),true) else ([],false)
theorem exl_len (l:List Fl) (J:List UInt8):(exl l J).1.length≤l.length:=by
 unfold exl
 split
 ·cases h:fnd l J with
  | none=>simp
  | some f=>
   have:f∈l:=List.mem_of_find?_eq_some h
   show 1≤l.length
   cases l with
   | nil=>simp at this
   | cons _ _=>simp
 ·split
  ·exact List.length_filter_le _ _
  ·simp
end Go.Proofs.YtppnbdnpapellaaGreatDoor
namespace Go.Proofs.YtppnbdnpapellaaGreatDoor
open Go.RowKit Go.Lib
theorem index_star (l:List UInt8) (w:World) :
  Calls Tryz.prog 150 #[.string (bs l),.string (bs [42])] w fun e w'=>e=.returned (.int .i64 (Lib.indexByte l 42))∧w'=w:=by
 have HI:Hid (∀ w:World,Calls Tryz.prog 188 #[.string (bs l),.string (bs [42])] w fun e w'=>e=.returned (.int .i64 (Lib.indexByte l 42))∧w'=w):=fun w=>star_index l w
 go_enter Tryz.func150,Tryz.ntmps150
 go_wp2_with fail
 refine (HI.out _).mono ?_
 rintro e w1 ⟨rfl,rfl⟩
 go_wp2_with fail
 go_ret
 exact ⟨rfl,rfl⟩
theorem dir_any (l:List UInt8) (w:World) (hl:l.length≤9223372036854775807) :
  Calls Tryz.prog 107 #[.string (bs l)] w fun e w'=>e=.returned (.string (bs (dir l)))∧w'=w:=by
 have HL:Hid (l.length≤9223372036854775807):=hl
 clear hl
 have hz:(bs l).size=l.length:=rfl
 have h2:=lst_lt l
 by_cases h:lst l < 0
 ·have hd0:dir l=[]:=by simp [dir,h]
  rw [hd0]
  go_enter Tryz.func107,Tryz.ntmps107
  go_wp2_with fail
  refine (last_any _ _ HL.out).mono ?_
  rintro e w1 ⟨rfl,rfl⟩
  go_wp2_with fail
  go_ret
  exact ⟨rfl,rfl⟩
 ·obtain ⟨n,hn⟩:∃ n:Nat,lst l=n:=⟨(lst l).toNat,by omega⟩
  have hd0:dir l=l.take n:=by unfold dir;rw [if_neg h,hn];rfl
  rw [hd0]
  have HE:Hid ((bs l).extract 0 n=bs (l.take n)):=extract_to l n
  rw [hn] at h h2
  go_enter Tryz.func107,Tryz.ntmps107
  go_wp2_with fail
  refine (last_any _ _ HL.out).mono ?_
  rintro e w1 ⟨rfl,rfl⟩
  rw [hn]
  have h3:n < l.length:=by omega
  go_wp2_with fail
  go_ret
  exact ⟨by rw [← HE.out];rfl,rfl⟩end Go.Proofs.YtppnbdnpapellaaGreatDoor
namespace Go.Proofs.YtppnbdnpapellaaGreatDoor
section
open Go.RowKit Go.Lib
theorem filled_any (l:List UInt8) {w:World} (E:Ev w) (hl:l.length≤1000000000) :
  Calls Tryz.prog 147 #[.string (bs l)] w fun e w'=>e=.returned (.string (bs (rep1 l)))∧Below w.heap.size w w':=by
 have HR:Hid (Calls Tryz.prog 184 #[.string (bs l),.string (bs [42]),.string (bs [97]),.int .i64 1] w fun e w'=>e=.returned (.string (bs (rep1 l)))∧Below w.heap.size w w'):=replace_any l E hl
 go_enter Tryz.func147,Tryz.ntmps147
 go_wp2_with fail
 refine HR.out.mono ?_
 rintro e w1 ⟨rfl,hb⟩
 have HB:Hid (Below w.heap.size w w1):=hb
 clear hb
 go_wp2_with fail
 go_ret
 exact ⟨rfl,HB.out⟩
theorem starP_any (l:List UInt8) {w:World} (E:Ev w) (hl:l.length≤1000000000) :
  Calls Tryz.prog 105 #[.string (bs l)] w fun e w'=>e=.returned (.bool (starP l))∧Below w.heap.size w w':=by
 have HBs:Hid (∀ w:World,Calls Tryz.prog 109 #[.string (bs l)] w fun e w'=>e=.returned (.string (bs (base l)))∧w'=w):=fun w=>base_any l w (by omega)
 have HS:Hid (∀ w:World,Calls Tryz.prog 146 #[.string (bs (base l)),.string (bs [42])] w fun e w'=>e=.returned (.bool ((base l).contains 42))∧w'=w):=fun w=>star_any (base l) w
 have HF:Hid (Calls Tryz.prog 147 #[.string (bs l)] w fun e w'=>e=.returned (.string (bs (rep1 l)))∧Below w.heap.size w w'):=filled_any l E hl
 have HC:Hid (∀ W:World,Calls Tryz.prog 83 #[.string (bs (rep1 l))] W fun e w'=>e=.returned (.bool (okP (rep1 l)))∧Below W.heap.size W w'):=fun W=>valid_any (rep1 l) W (by rw [rep1_length];omega)
 unfold starP
 generalize base l=b at *
 cases hc:b.contains 42
 ·rw [hc] at HS
  go_enter Tryz.func105,Tryz.ntmps105
  go_wp2_with fail
  refine (HBs.out _).mono ?_
  rintro e w0 ⟨rfl,rfl⟩
  go_wp2_with fail
  refine (HS.out _).mono ?_
  rintro e w1 ⟨rfl,rfl⟩
  go_wp2_with fail
  go_ret
  exact ⟨rfl,Below.refl _ _⟩
 ·rw [hc] at HS
  generalize okP (rep1 l)=r at *
  go_enter Tryz.func105,Tryz.ntmps105
  go_wp2_with fail
  refine (HBs.out _).mono ?_
  rintro e w0 ⟨rfl,hw0⟩
  obtain rfl:w=w0:=hw0.symm
  go_wp2_with fail
  refine (HS.out _).mono ?_
  rintro e w1 ⟨rfl,hw1⟩
  obtain rfl:w=w1:=hw1.symm
  go_wp2_with fail
  refine HF.out.mono ?_
  rintro e w2 ⟨rfl,hb⟩
  have HB:Hid (Below w.heap.size w w2):=hb
  clear hb
  go_wp2_with fail
  refine (HC.out _).mono ?_
  rintro e w3 ⟨rfl,hb3⟩
  have HB3:Hid (Below w.heap.size w w3):=bstep HB.out hb3
  clear hb3
  go_wp2_with fail
  go_ret
  exact ⟨by simp,HB3.out⟩
theorem litP_any (l:List UInt8) (w:World) (hl:l.length≤1000000000) :
  Calls Tryz.prog 103 #[.string (bs l)] w fun e w'=>e=.returned (.bool (litP l))∧Below w.heap.size w w':=by
 have HBs:Hid (∀ w:World,Calls Tryz.prog 109 #[.string (bs l)] w fun e w'=>e=.returned (.string (bs (base l)))∧w'=w):=fun w=>base_any l w (by omega)
 have HC:Hid (∀ W:World,Calls Tryz.prog 83 #[.string (bs l)] W fun e w'=>e=.returned (.bool (okP l))∧Below W.heap.size W w'):=fun W=>valid_any l W (by omega)
 have e1:=isE l
 have e2:=bs_toList (base l)
 have e3:=c_name
 unfold litP
 generalize base l=b at *
 generalize okP l=r at *
 by_cases h0:l=[]
 ·have i0:l.isEmpty=true:=by rw [h0];rfl
  rw [i0] at e1
  rw [decide_eq_true h0]
  clear h0
  go_enter Tryz.func103,Tryz.ntmps103
  go_wp2_with fail
  go_ret
  exact ⟨rfl,Below.refl _ _⟩
 have i0:l.isEmpty=false:=by cases l;exact absurd rfl h0;rfl
 rw [i0] at e1
 rw [decide_eq_false h0]
 clear h0
 cases r
 ·go_enter Tryz.func103,Tryz.ntmps103
  go_wp2_with fail
  refine (HC.out _).mono ?_
  rintro e w1 ⟨rfl,hb⟩
  have HB:Hid (Below w.heap.size w w1):=hb
  clear hb
  go_wp2_with fail
  go_ret
  exact ⟨rfl,HB.out⟩
 ·go_enter Tryz.func103,Tryz.ntmps103
  go_wp2_with fail
  refine (HC.out _).mono ?_
  rintro e w1 ⟨rfl,hb⟩
  have HB:Hid (Below w.heap.size w w1):=hb
  clear hb
  go_wp2_with fail
  refine (HBs.out _).mono ?_
  rintro e w2 ⟨rfl,rfl⟩
  go_wp2_with fail
  go_ret
  refine ⟨?_,HB.out⟩
  by_cases hb:b=wName
  ·simp [hb]
  ·simp [hb]
theorem below_any (p s:List UInt8) (w:World) (hp:p.length≤1000000000) (hs:s.length≤1000000000) :
  Calls Tryz.prog 102 #[.string (bs p),.string (bs s)] w fun e w'=>e=.returned (.string (bs (whl p s)))∧w'=w:=by
 have e1:=isE p
 have z1:(bs p).size=p.length:=rfl
 have z2:(bs s).size=s.length:=rfl
 unfold whl
 by_cases h0:p=[]
 ·have i0:p.isEmpty=true:=by rw [h0];rfl
  rw [i0] at e1
  rw [if_pos h0]
  clear h0
  go_enter Tryz.func102,Tryz.ntmps102
  go_wp2_with fail
  go_ret
  exact ⟨rfl,rfl⟩
 ·have i0:p.isEmpty=false:=by cases p;exact absurd rfl h0;rfl
  rw [i0] at e1
  rw [if_neg h0]
  clear h0
  have HW:Hid (bs p++ByteArray.mk #[47]++bs s=bs (p++47::s)):=by
   show bs p++bs [47]++bs s=_
   rw [bs_app,bs_app];simp
  go_enter Tryz.func102,Tryz.ntmps102
  go_wp2_with fail
  go_ret
  exact ⟨by rw [← HW.out];rfl,rfl⟩
end
end Go.Proofs.YtppnbdnpapellaaGreatDoor
