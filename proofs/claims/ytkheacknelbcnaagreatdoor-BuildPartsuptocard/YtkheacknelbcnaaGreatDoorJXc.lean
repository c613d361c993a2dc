/-
  The nodes of a build: each once, what it needs ahead of it, all that is reached.
  The first example, by plain lists.
  The first example, run.
  Copies; two lists that are alike.
-/
import Derived.Test.YtkheacknelbcnaaGreatDoorJYa
import Derived.Test.YtkheacknelbcnaaGreatDoorJBy
import Derived.Test.YtkheacknelbcnaaGreatDoorJSEq
namespace Go.Proofs.YtkheacknelbcnaaGreatDoor
open Go.RowKit Go.Maps
theorem pts_is (N:List Lb) (E:List Ee):Gs.Pts ltL N E (Gs.pts ltL N E):=by
 have hm:∀ x,x∈Gs.ris ltL N↔x∈N:=fun x=>Gs.mem_ris x N
 have key:∀ k,k≤(Gs.ris ltL N).length→∃ P,Gs.PtsK ltL N E (Gs.ris ltL N) k P:=by
  intro k
  induction k with
  | zero=>exact fun _=>⟨[],Gs.PtsK.nil _ _ _ _⟩
  | succ k ih=>
   intro hk
   obtain ⟨P,hP⟩:=ih (by omega)
   by_cases h:∃ p∈P,(Gs.ris ltL N)[k]∈p
   ·obtain ⟨p,hp,hx⟩:=h
    exact ⟨P,hP.skip (by omega) hp hx⟩
   ·exact ⟨_,hP.add stoL (Gs.ris_up stoL _) hm (by omega) (fun p hp hx=>h ⟨p,hp,hx⟩) (Gs.part_up stoL N E _) (fun y=>Gs.mem_part)⟩
 obtain ⟨P,hP⟩:=key _ (Nat.le_refl _)
 have hd:=hP.done hm
 rw [← hd.eq stoL]
 exact hd
/-- where no circle is told there is an order -/
theorem ord_there {N:List Lb} {E:List Ee} (hE:∀ a b,(a,b)∈E→a∈N∧b∈N) (hc:crcL N E=none):∃ L,Gs.ord (rs N) E=some L:=by
 refine (Gs.ord_some_iff (rs_nd N) (fun a b h=>⟨(Gs.mem_ris a N).2 (hE a b h).1,(Gs.mem_ris b N).2 (hE a b h).2⟩)).2 ?_
 refine (Gs.Pts.free stoL (pts_is N E) hE).1 (fun p hp hq=>?_)
 unfold crcL frs at hc
 rw [List.find?_eq_none] at hc
 refine hc p hp ?_
 unfold crcB
 rcases hq with h | ⟨a,ha,hae⟩
 ·simp only [Bool.or_eq_true,decide_eq_true_eq]
  exact .inl (by omega)
 ·match p,ha with
  | [x],ha=>
   have:a=x:=List.mem_singleton.1 ha
   subst this
   simp [hae]
  | x::y::r,_=>simp
/-- what the nodes of a build have -/
structure NdOk (l:List Fl) (t:List Lb) (nd:List Nd):Prop where
 ahead:∀ i,(h:i < nd.length)→∀ b∈nd[i].deps,∃ j,∃ h2:j < nd.length,j < i∧nd[j].lab=b
 once:∀ i j,(h:i < nd.length)→(h2:j < nd.length)→j < i→nd[j].lab≠nd[i].lab
 prt:∀ p,p.Sublist l→(∀ n∈nd,∀ f∈l,f.path=whl n.lab.pkg wName→f∈p)→(∀ n∈nd,∀ f∈n.srcs,f∈p)→Prt l p t
theorem nodes_ok {l:List Fl} {t N:List Lb} {E:List Ee} {c:List (List UInt8)} (S:RchS l t N E c) (hf:(fltP l N E c).2=false):NdOk l t (ndsP l N E):=by
 have hE:∀ a b,(a,b)∈E→a∈N∧b∈N:=fun a b h=>by
  obtain ⟨h1,h2⟩:=(S.ee a b).1 h
  exact ⟨(S.nn a).2 h1,(S.nn b).2 (.step h1 h2)⟩
 have hc:crcL N E=none:=by
  unfold fltP at hf
  split at hf
  ·cases hf
  ·split at hf
   ·cases hf
   ·split at hf
    ·cases hf
    ·rename_i h3
     cases e:crcL N E with
     | none=>rfl
     | some p=>rw [e] at h3;exact absurd rfl h3
 obtain ⟨L,hL⟩:=ord_there hE hc
 obtain ⟨h1,h2,_⟩:=Gs.ordF_some _ _ _ (Gs.Tld.nil _ _) hL
 have hall:∀ a∈N,a∈L:=fun a ha=>by
  have ha':a∈rs N:=(Gs.mem_ris a N).2 ha
  by_cases hm:a∈L
  ·exact hm
  ·exfalso
   have h3:=Gs.nodup_sub (a::L) (rs N) (List.nodup_cons.2 ⟨hm,h1.nodup⟩) (fun x hx=>by
    rcases List.mem_cons.1 hx with rfl | hx
    ·exact ha'
    ·exact h1.sub x hx)
   simp only [List.length_cons,List.length_nil] at h3 h2
   omega
 have hn:ndsP l N E=L.map (ndF (srcL l) (fun a=>rs (oE E a))):=by unfold ndsP;rw [hL];rfl
 rw [hn]
 refine ⟨fun i hi b hb=>?_,fun i j hi hj hji=>?_,fun p hp hm hs=>⟨hp,fun a ha f hfl he=>?_,fun a ha f hfl=>?_⟩⟩
 ·have hi':i < L.length:=by simpa using hi
  rw [List.getElem_map] at hb
  have hb1:=h1.before i hi' b (mem_oE.1 ((Gs.mem_ris b _).1 hb))
  obtain ⟨j,hj,e⟩:=List.getElem_of_mem hb1
  have hj2:j < i∧j < L.length:=by rw [List.length_take] at hj;omega
  refine ⟨j,by simpa using hj2.2,hj2.1,?_⟩
  rw [List.getElem_map]
  rw [List.getElem_take] at e
  exact e
 ·have hi':i < L.length:=by simpa using hi
  have hj':j < L.length:=by simpa using hj
  rw [List.getElem_map,List.getElem_map]
  intro e
  have e':L[j]=L[i]:=e
  have:=(List.getElem_inj h1.nodup).1 e'
  omega
 ·exact hm _ (List.mem_map.2 ⟨a,hall a ((S.nn a).2 ha),rfl⟩) f hfl he
 ·exact hs _ (List.mem_map.2 ⟨a,hall a ((S.nn a).2 ha),rfl⟩) f hfl
end Go.Proofs.YtkheacknelbcnaaGreatDoor

namespace Go.Proofs.YtkheacknelbcnaaGreatDoor
open Go.RowKit Go.Maps
/-- the tokens, by a count -/
def tqF:Nat→List UInt8→Nat→List Tk×Int
 | 0,_,_=>([],-1)
 | _+1,[],_=>([],-1)
 | n+1,c::q,m=>if kd c=0 then ([],(m:Int)) else
  match tqF n ((q.drop (ktl c q)).drop (gp false (q.drop (ktl c q)))) (m+1+ktl c q+gp false (q.drop (ktl c q))) with
  | (a,b)=>(⟨(kd c:Int),c::q.take (ktl c q),(m:Int)⟩::a,b)
theorem tq_fuel:∀ (n:Nat) (r:List UInt8) (m:Nat),r.length≤n→tq r m=tqF n r m
 | 0,r,m,h=>by
  have:r=[]:=List.eq_nil_of_length_eq_zero (by omega)
  subst this
  rw [tq_nil];rfl
 | n+1,[],m,h=>by rw [tq_nil];rfl
 | n+1,c::q,m,h=>by
  unfold tqF
  by_cases h0:kd c=0
  ·rw [tq_bad h0,if_pos h0]
  ·rw [tq,if_neg h0,if_neg h0,tq_fuel n _ _ (by simp only [List.length_drop,List.length_cons] at h ⊢;omega)]
theorem toks_fuel (s:List UInt8):toks s=tqF s.length (s.drop (gp false s)) (0+gp false s):=by
 unfold toks tg
 exact tq_fuel _ _ _ (by simp)
def tkF (s:List UInt8):List Tk×Int:=tqF s.length (s.drop (gp false s)) (0+gp false s)
def prsF (p s:List UInt8):List Tg×Int:=
 if okP p=true then (if s.length≤4096 then go p (if 0≤(tkF s).2 then (tkF s).2 else (s.length:Int)) (tkF s).2 (.top []) (tkF s).1 else ([],4096)) else ([],0)
theorem prsM_fuel (p s:List UInt8):prsM p s=prsF p s:=by
 unfold prsM prsF endE tkF
 rw [toks_fuel]
def exL:List Fl:=[⟨[97,47,84,65,82,71,69,84,83],[116,97,114,103,101,116,32,97,123,115,114,99,115,61,91,120,46,99,44,115,47,42,46,99,93,100,101,112,115,61,91,47,47,98,58,98,93,125],0,38⟩,⟨[97,47,115,47,49,46,99],[],0,0⟩,⟨[97,47,115,47,50,46,99],[],0,0⟩,⟨[97,47,120,46,99],[],0,0⟩,⟨[98,47,84,65,82,71,69,84,83],[116,97,114,103,101,116,32,98,123,115,114,99,115,61,91,121,46,99,93,115,101,101,61,91,47,47,97,93,125],0,29⟩,⟨[98,47,121,46,99],[],0,0⟩]
def exXa:List UInt8:=[116,97,114,103,101,116,32,97,123,115,114,99,115,61,91,120,46,99,44,115,47,42,46,99,93,100,101,112,115,61,91,47,47,98,58,98,93,125]
def exXb:List UInt8:=[116,97,114,103,101,116,32,98,123,115,114,99,115,61,91,121,46,99,93,115,101,101,61,91,47,47,97,93,125]
def exA:Lb:=⟨[97],[97]⟩
def exB:Lb:=⟨[98],[98]⟩
def exTa:Tg:=⟨[97],[[120,46,99],[115,47,42,46,99]],[⟨[98],[98]⟩],[]⟩
def exTb:Tg:=⟨[98],[[121,46,99]],[],[[47,47,97]]⟩
theorem ex_pa:prsF [97] exXa=([exTa],-1):=by kernel_rfl
theorem ex_pb:prsF [98] exXb=([exTb],-1):=by kernel_rfl
theorem ex_sa:says exL [97]=([exTa],-1):=by
 have e:says exL [97]=prsM [97] exXa:=rfl
 exact e.trans ((prsM_fuel _ _).trans ex_pa)
theorem ex_sb:says exL [98]=([exTb],-1):=by
 have e:says exL [98]=prsM [98] exXb:=rfl
 exact e.trans ((prsM_fuel _ _).trans ex_pb)
theorem ex_ta:tgtL exL exA=some exTa:=by
 unfold tgtL
 rw [show exA.pkg=[97] from rfl,ex_sa]
 kernel_rfl
theorem ex_tb:tgtL exL exB=some exTb:=by
 unfold tgtL
 rw [show exB.pkg=[98] from rfl,ex_sb]
 kernel_rfl
theorem ex_da:dpsL exL exA=[exB]:=by unfold dpsL;rw [ex_ta];rfl
theorem ex_db:dpsL exL exB=[]:=by unfold dpsL;rw [ex_tb];rfl
theorem ex_rea (x:Lb):Rea exL [exA] x↔x=exA∨x=exB:=by
 constructor
 ·intro h
  induction h with
  | base hm=>exact .inl (List.mem_singleton.1 hm)
  | step _ hd ih=>
   rcases ih with rfl | rfl
   ·rw [ex_da] at hd;exact .inr (List.mem_singleton.1 hd)
   ·rw [ex_db] at hd;cases hd
 ·rintro (rfl | rfl)
  ·exact .base (by simp)
  ·exact .step (a:=exA) (.base (by simp)) (by rw [ex_da];simp)
def exN:List Lb:=[exA,exB]
def exE:List Ee:=[(exA,exB)]
def exC:List (List UInt8):=[[97],[98]]
theorem ex_rch:RchS exL [exA] exN exE exC:=by
 refine ⟨fun x=>?_,fun a b=>?_,fun q=>?_⟩
 ·rw [ex_rea];simp [exN]
 ·rw [ex_rea]
  constructor
  ·intro h
   obtain ⟨rfl,rfl⟩:a=exA∧b=exB:=by simpa [exE] using h
   exact ⟨.inl rfl,by rw [ex_da];simp⟩
  ·rintro ⟨rfl | rfl,hd⟩
   ·rw [ex_da] at hd
    rw [List.mem_singleton.1 hd];simp [exE]
   ·rw [ex_db] at hd;cases hd
 ·constructor
  ·intro h
   have h':q=[97]∨q=[98]:=by simpa [exC] using h
   rcases h' with rfl | rfl
   ·exact ⟨exA,(ex_rea _).2 (.inl rfl),rfl⟩
   ·exact ⟨exB,(ex_rea _).2 (.inr rfl),rfl⟩
  ·rintro ⟨a,ha,rfl⟩
   rcases (ex_rea _).1 ha with rfl | rfl
   ·simp [exC,exA]
   ·simp [exC,exB]
theorem ex_brk (q:List UInt8):brkL exL exC q = -1:=by
 by_cases k:∃ p,p∈exC∧q=whl p wName
 ·obtain ⟨p,hp,rfl⟩:=k
  rw [brkL_some hp]
  have h':p=[97]∨p=[98]:=by simpa [exC] using hp
  rcases h' with rfl | rfl
  ·rw [ex_sa]
  ·rw [ex_sb]
 ·exact brkL_none k
theorem ex_noBk:exL.any (isBk exL exC)=false:=by
 rw [List.any_eq_false]
 intro f _
 unfold isBk
 rw [ex_brk];simp
theorem ex_rs:rs exN=exN:=by kernel_rfl
theorem ex_mis:(rs exN).any (misB exL)=false:=by
 rw [ex_rs,List.any_eq_false]
 intro a ha
 have h':a=exA∨a=exB:=by simpa [exN] using ha
 rcases h' with rfl | rfl
 ·have:misB exL exA=false:=by
   unfold misB;rw [ex_ta];kernel_rfl
  rw [this];simp
 ·have:misB exL exB=false:=by
   unfold misB;rw [ex_tb];kernel_rfl
  rw [this];simp
theorem ex_uns:(rs exN).any (unsB exL)=false:=by
 rw [ex_rs,List.any_eq_false]
 intro a ha
 have h':a=exA∨a=exB:=by simpa [exN] using ha
 rcases h' with rfl | rfl
 ·have:unsB exL exA=false:=by
   unfold unsB hdnL
   rw [ex_da,List.filter_cons,ex_tb]
   kernel_rfl
  rw [this];simp
 ·have:unsB exL exB=false:=by
   unfold unsB hdnL
   rw [ex_db]
   rfl
  rw [this];simp
theorem ex_way {a b:Lb} (h:Gs.Way exE a b):a=b∨(a=exA∧b=exB):=by
 induction h with
 | refl=>exact .inl rfl
 | step _ he ih=>
  obtain ⟨rfl,rfl⟩:=(by simpa [exE] using he:_=exA∧_=exB)
  rcases ih with rfl | ⟨rfl,h⟩
  ·exact .inr ⟨rfl,rfl⟩
  ·exact absurd h (by decide)
theorem ex_mut {a b:Lb} (h:Gs.Mut exE a b):a=b:=by
 rcases ex_way h.1 with h1 | ⟨rfl,rfl⟩
 ·exact h1
 ·rcases ex_way h.2 with h2 | ⟨h2,_⟩
  ·exact h2.symm
  ·exact h2.symm
theorem ex_crc:crcL exN exE=none:=by
 unfold crcL frs
 rw [List.find?_eq_none]
 intro p hp
 unfold Gs.pts at hp
 obtain ⟨a,_,rfl⟩:=List.mem_map.1 hp
 have hu:=Gs.part_up stoL exN exE a
 have hm:∀ x∈Gs.part ltL exN exE a,x=a:=fun x hx=>(ex_mut (Gs.mem_part.1 hx).2).symm
 unfold crcB
 rw [Bool.or_eq_true]
 rintro (h | h)
 ·have h:=of_decide_eq_true h
  generalize Gs.part ltL exN exE a=P at hu hm h
  match P,hu,hm,h with
  | x::y::r,hu,hm,_=>
   have h1:=hm x (by simp)
   have h2:=hm y (by simp)
   have h3:=(List.pairwise_cons.1 hu).1 y (by simp)
   rw [h1,h2,stoL.irr] at h3
   cases h3
 ·generalize Gs.part ltL exN exE a=P at h
  match P,h with
  | x::_,h=>
   have h:=of_decide_eq_true h
   obtain ⟨h1,h2⟩:=(by simpa [exE] using h:x=exA∧x=exB)
   rw [h1] at h2
   exact absurd h2 (by decide)
def exNa:Nd:=⟨exA,[⟨[97,47,115,47,49,46,99],[],0,0⟩,⟨[97,47,115,47,50,46,99],[],0,0⟩,⟨[97,47,120,46,99],[],0,0⟩],[exB]⟩
def exNb:Nd:=⟨exB,[⟨[98,47,121,46,99],[],0,0⟩],[]⟩
theorem ex_sra:srcL exL exA=exNa.srcs:=by
 unfold srcL srcP
 rw [ex_ta]
 kernel_rfl
theorem ex_srb:srcL exL exB=exNb.srcs:=by
 unfold srcL srcP
 rw [ex_tb]
 kernel_rfl
theorem ex_nds:ndsP exL exN exE=[exNb,exNa]:=by
 unfold ndsP
 rw [ex_rs,show Gs.ord exN exE=some [exB,exA] from by kernel_rfl]
 simp only [Option.getD_some,List.map_cons,List.map_nil,ndF]
 rw [ex_sra,ex_srb]
 kernel_rfl
theorem ex_ref:refE exL [exA]=0:=by kernel_rfl
theorem ex_bld:bldP exL [exA] exN exE exC=([exNb,exNa],zPf):=by
 unfold bldP
 have hf:(fltP exL exN exE exC).2=false:=by
  unfold fltP
  rw [ex_noBk,ex_mis,ex_crc,ex_uns]
  rfl
 rw [if_pos ex_ref,hf,ex_nds]
 rfl
theorem ex_any {N:List Lb} {E:List Ee} {c:List (List UInt8)} (h:refE exL [exA]=0→RchS exL [exA] N E c):bldP exL [exA] N E c=([exNb,exNa],zPf):=
 (bldP_ext (fun _=>Iff.rfl) h (fun _=>ex_rch)).trans ex_bld
end Go.Proofs.YtkheacknelbcnaaGreatDoor

namespace Go.Proofs.YtkheacknelbcnaaGreatDoor
open Go.RowKit Go.Maps
/-- files in a block of their own -/
theorem fs_block {w:World} {g:Nat} {l:List Fl} {arr:Array Value} {fr:Nat×Nat} (hg:w.heap[g]? = some (.cells arr 42 fr)) (ha:arr=(fc l).toArray):FS w (.slice (some ⟨g,0,none⟩) l.length l.length) l:=by
 subst ha
 refine .inr ⟨g,0,l.length,rfl,Nat.le_refl _,(Array.getElem?_eq_some_iff.1 hg).1,fun i u hu=>?_⟩
 simp only [World.cell?,hg]
 simpa using hu
theorem own_block {w:World} (x:Lb):OwnL w.heap.size (w.alloc (.cells #[.string (bs x.pkg),.string (bs x.name)] 28)) (.slice (some ⟨w.heap.size,0,none⟩) 1 1) [x]:=
 ⟨rfl,.inr ⟨w.heap.size,1,#[.string (bs x.pkg),.string (bs x.name)],rfl,Nat.le_refl _,heap_alloc_new w _,Nat.le_refl _,by unfold maxLen;omega,rfl,rfl⟩⟩
theorem ex_small:OfB exL [exA]:=by
 have hlen:∀ f∈exL,f.path.length≤100∧f.text.length≤100∧f.blob=0∧0≤f.size∧f.size≤100:=by decide
 have hok:∀ f∈exL,Fok f:=fun f hf=>by
  obtain ⟨h1,h2,h3,h4,h5⟩:=hlen f hf
  exact ⟨by omega,by omega,by omega,by omega,by omega,by omega⟩
 refine ⟨⟨by decide,hok,fun f hf=>by have:=hlen f hf;omega⟩,⟨by decide,hok⟩,by decide,by decide,fun x hx=>?_,by decide⟩
 have:x=exA:=by simpa using hx
 subst this
 exact ⟨by decide,by decide⟩
set_option maxRecDepth 100000 in
set_option maxHeartbeats 8000000 in
theorem example_any {w:World} (E0:Ev w):Calls Tryz.prog 7 #[] w fun e w'=>e=.returned (.bool true)∧Below w.heap.size w w':=by
 have HE:=hid_of E0
 clear E0
 go_enter Tryz.func7,Tryz.ntmps7
 have hz1:(w.alloc (.cells (fc exL).toArray 42)).heap.size=w.heap.size+1:=by simp
 have hfs:FS (w.alloc (.cells (fc exL).toArray 42)) (.slice (some ⟨w.heap.size,0,none⟩) 6 6) exL:=fs_block (l:=exL) (heap_alloc_new w _) rfl
 have hol:OwnL (w.heap.size+1) ((w.alloc (.cells (fc exL).toArray 42)).alloc (.cells #[.string (bs exA.pkg),.string (bs exA.name)] 28)) (.slice (some ⟨w.heap.size+1,0,none⟩) 1 1) [exA]:=by
  have h:=own_block (w:=w.alloc (.cells (fc exL).toArray 42)) exA
  rw [hz1] at h
  exact h
 have HOF:=hid_of (bof_any (HE.out.later (bstep (balloc _ _) (balloc _ _))) (hfs.later (balloc _ _)) hol ex_small)
 have HBW:Hid (Below w.heap.size w ((w.alloc (.cells (fc exL).toArray 42)).alloc (.cells #[.string (bs exA.pkg),.string (bs exA.name)] 28))):=bstep (balloc _ _) (balloc _ _)
 clear hfs hol hz1
 go_wp2_with fail
 change Calls Tryz.prog 8 #[.slice (some ⟨w.heap.size,0,none⟩) 6 6,.slice (some ⟨w.heap.size+1,0,none⟩) 1 1] ((w.alloc (.cells (fc exL).toArray 42)).alloc (.cells #[.string (bs exA.pkg),.string (bs exA.name)] 28)) _
 obtain ⟨W1,hW1⟩:∃ W1,((w.alloc (.cells (fc exL).toArray 42)).alloc (.cells #[.string (bs exA.pkg),.string (bs exA.name)] 28))=W1:=⟨_,rfl⟩
 rw [hW1] at HOF HBW ⊢
 clear hW1
 refine HOF.out.mono ?_
 rintro e w3 h
 unfold OfP at h
 obtain ⟨nv,fv,N,E,c,rfl,hR,hno,hfi,hb3⟩:=h
 have hex:=ex_any hR
 rw [hex] at hno hfi
 simp only at hno hfi
 have HB3:Hid (Below w.heap.size w w3):=bstep HBW.out hb3
 clear hex hR hb3 HOF HBW
 obtain ⟨fc,⟨lp,ln⟩,⟨op,on⟩,fp,fa,ca,cn,cc⟩:=fv
 have hit:=hfi.it
 simp only [Fv.pf,zPf,Pf.mk.injEq,Lb.mk.injEq,and_true] at hit
 obtain ⟨rfl,⟨rfl,rfl⟩,⟨rfl,rfl⟩,rfl,rfl⟩:=hit
 clear hfi
 obtain ⟨xs,x1,x2,x3,_,_⟩:=hno.it
 obtain ⟨x,y,rfl⟩:∃ x y,xs=[x,y]:=by
  match xs,x2 with
  | [x,y],_=>exact ⟨x,y,rfl⟩
 have hy:=x3 1 (by simp) (by simp)
 have hx:=x3 0 (by simp) (by simp)
 simp only [List.getElem_cons_zero,List.getElem_cons_succ] at hx hy
 obtain ⟨p0,m0,xsa,xsn,xsc,xda,xdn,xdc⟩:=x
 obtain ⟨p1,m1,ysa,ysn,ysc,yda,ydn,ydc⟩:=y
 have hlx:=hx.lab
 simp only [exNb,exB,Lb.mk.injEq] at hlx
 obtain ⟨rfl,rfl⟩:=hlx
 obtain ⟨ea,ec,he⟩:=hy.s.form
 obtain ⟨ga,gc0,hg⟩:=hy.d.form
 simp only [Nv.s,Nv.d,exNa,List.length_cons,List.length_nil,Value.slice.injEq] at he hg
 obtain ⟨rfl,rfl,rfl⟩:=he
 obtain ⟨rfl,rfl,rfl⟩:=hg
 obtain ⟨na,ncp,hnv⟩:=x1.form
 simp only [List.length_cons,List.length_nil] at hnv
 subst hnv
 obtain ⟨w4,hw4⟩:∃ w4,w3.alloc (.cells #[.int .i64 0,.string (bs []),.string (bs []),.string (bs []),.string (bs []),.string (bs []),.int .i64 0,.slice ca cn cc] 30)=w4:=⟨_,rfl⟩
 have HB4:Hid (Below w3.heap.size w3 w4):=by
  show Below w3.heap.size w3 w4
  rw [← hw4];exact balloc _ _
 have hfk:FK w4 w3.heap.size ⟨0,⟨[],[]⟩,⟨[],[]⟩,[],0,ca,cn,cc⟩:=by
  rw [← hw4];exact FK.new _ ⟨0,⟨[],[]⟩,⟨[],[]⟩,[],0,ca,cn,cc⟩
 obtain ⟨u0,_⟩:=hfk.get
 obtain ⟨b,off,eb,hbl,c0,_⟩:=NS.at (k:=0) x1.rs HB4.out (by simp)
 subst eb
 obtain ⟨b2,off2,eb,hbl2,_,_,d2,d3⟩:=NS.at (k:=1) x1.rs HB4.out (by simp)
 cases eb
 have hfs:=hy.s.fs
 simp only [Nv.s] at hfs
 obtain ⟨b3,off3,eb,hbl3,f0,_⟩:=FS.at (k:=2) (l:=exNa.srcs) hfs HB4.out (by decide)
 subst eb
 simp only [List.getElem_cons_zero,List.getElem_cons_succ,Nat.zero_mul,Nat.add_zero,Nat.one_mul] at c0 d2 d3
 have f1:w4.cell? ⟨b3,off3+8,none⟩=some (.string (bs [97,47,120,46,99])):=f0
 have d4:w4.cell? ⟨b,off+6,none⟩=some (.slice (some ⟨b3,off3,none⟩) 3 ysc):=d2
 have d5:w4.cell? ⟨b,off+7,none⟩=some (.slice yda 1 ydc):=d3
 clear hno hx hy hfs x1 x2 x3 hfk f0
 have hval:Fv.val ⟨0,⟨[],[]⟩,⟨[],[]⟩,[],0,ca,cn,cc⟩=.agg #[.int .i64 0,.string (bs []),.string (bs []),.string (bs []),.string (bs []),.string (bs []),.int .i64 0,.slice ca cn cc]:=rfl
 rw [hval]
 clear hval
 go_upto_region 3 with fail
 try rw [hw4]
 clear hw4
 have t1:(bs [98]).toList=[98]:=bs_toList _
 have t2:(bs [97,47,120,46,99]).toList=[97,47,120,46,99]:=bs_toList _
 go_wp2_with fail
 go_ret
 exact ⟨rfl,bstep HB3.out HB4.out⟩
end Go.Proofs.YtkheacknelbcnaaGreatDoor

namespace Go.Proofs.YtkheacknelbcnaaGreatDoor
open Go.RowKit Go.Maps
theorem ownF_empty (w:World):OwnF w.heap.size (w.alloc (.cells #[] 42)) (.slice (some ⟨w.heap.size,0,none⟩) 0 0) []:=
 ⟨rfl,.inr ⟨w.heap.size,0,#[],rfl,Nat.le_refl _,heap_alloc_new w _,Nat.le_refl _,by unfold maxLen;omega,rfl,rfl⟩⟩
set_option maxRecDepth 100000 in
set_option maxHeartbeats 2000000 in
theorem own_any {w:World} {v:Value} {l:List Fl} (h:FS w v l) (hl:l.length≤2000000) :
  Calls Tryz.prog 9 #[v] w fun e w'=>∃ v',e=.returned v'∧OwnF w.heap.size w' v' l∧Below w.heap.size w w':=by
 obtain ⟨a,c,hv,_⟩:=h.form
 obtain ⟨n,hn⟩:∃ n,l.length=n:=⟨_,rfl⟩
 rw [hn] at hv
 subst hv
 have H:Hid (FS w (.slice a n c) l∧l.length≤2000000):=⟨h,hl⟩
 have HN:Hid (l.length=n):=hn
 clear h hl hn
 go_enter Tryz.func9,Tryz.ntmps9
 go_wp2_with (first | (at_builtin;refine app_files (base:=w.heap.size) (l:=[]) (k:=l) (ownF_empty w) (by have:=(H.out.1.later (balloc w (.cells #[] 42))).src;rw [HN.out] at this ⊢;exact this) (by have:=H.out.2;simp;omega) (by simp) rfl (.tmp 3) (.tmp 4) rfl rfl rfl ?_;intro v' w' h1 h2 h3))
 go_ret
 refine ⟨v',rfl,h1,?_⟩
 exact ((Below.refl _ _).alloc (Nat.le_refl _) _).grown h2 (by simp) (fun k hk=>by simp [Value.ownBlock] at hk;omega)
set_option maxRecDepth 100000 in
set_option maxHeartbeats 2000000 in
theorem labels_any {w:World} {v:Value} {l:List Lb} (h:LS w v l) (hl:l.length≤2000000) :
  Calls Tryz.prog 10 #[v] w fun e w'=>∃ v',e=.returned v'∧OwnL w.heap.size w' v' l∧Below w.heap.size w w':=by
 obtain ⟨a,c,hv,_⟩:=h.form
 obtain ⟨n,hn⟩:∃ n,l.length=n:=⟨_,rfl⟩
 rw [hn] at hv
 subst hv
 have H:Hid (LS w (.slice a n c) l∧l.length≤2000000):=⟨h,hl⟩
 have HN:Hid (l.length=n):=hn
 clear h hl hn
 go_enter Tryz.func10,Tryz.ntmps10
 go_wp2_with (first | (at_builtin;refine app_Lt und_L (base:=w.heap.size) (l:=[]) (k:=l) (own_empty w) (by have:=(H.out.1.later (balloc w (.cells #[] 28))).src;rw [HN.out] at this ⊢;exact this) (by have:=H.out.2;simp;omega) (by simp) rfl (.tmp 3) (.tmp 4) rfl rfl rfl ?_;intro v' w' h1 h2 h3))
 go_ret
 refine ⟨v',rfl,h1,?_⟩
 exact ((Below.refl _ _).alloc (Nat.le_refl _) _).grown h2 (by simp) (fun k hk=>by simp [Value.ownBlock] at hk;omega)
set_option maxRecDepth 100000 in
set_option maxHeartbeats 2000000 in
theorem sameL_any {w:World} {u v:Value} {l:List Lb} (h:LS w u l) (h':LS w v l) (hl:l.length≤100000000) :
  Calls Tryz.prog 16 #[u,v] w fun e w'=>e=.returned (.bool true)∧Below w.heap.size w w':=by
 have H:Hid (LS w u l∧LS w v l):=⟨h,h'⟩
 obtain ⟨au,cu,hvv,_⟩:=h.form
 obtain ⟨n,hn⟩:∃ n,l.length=n:=⟨_,rfl⟩
 rw [hn] at hvv hl
 subst hvv
 obtain ⟨av,cv,hvv,_⟩:=h'.form
 rw [hn] at hvv
 subst hvv
 have HN:Hid (l.length=n):=hn
 clear h h' hn
 have hq:=lneq_run'
 have hg:=guard_run
 go_enter Tryz.func16,Tryz.ntmps16
 go_wp2_with fail
 go_loopw [5] (fun s5 wr=>∃ i:Nat,s5=.int .i64 i∧i≤n∧Below w.heap.size w wr) (fun s5 _=>n - (intOf s5).toNat)
 case atStart=>exact ⟨0,rfl,by omega,Below.refl _ _⟩
 case round=>
  obtain ⟨i,rfl,hi,hb⟩:=hrel
  have HX:Hid (Below w.heap.size w wr):=hb
  clear hb
  by_cases hlt:i < n
  ·have hll:i < l.length:=by rw [HN.out];exact hlt
   obtain ⟨b,off,ea,hbw,d0,d1⟩:=LS.at (by have q:=H.out.1;rw [← HN.out] at q;exact q) HX.out hll
   subst ea
   obtain ⟨b',off',ea,hbw',e0,e1⟩:=LS.at (by have q:=H.out.2;rw [← HN.out] at q;exact q) HX.out hll
   subst ea
   obtain ⟨x,hxe⟩:∃ x,l[i]=x:=⟨_,rfl⟩
   rw [hxe] at d0 d1 e0 e1
   clear hxe
   obtain ⟨x0,x1⟩:=x
   simp only at d0 d1 e0 e1
   have k1:(i:Int) < (n:Int):=by omega
   have k2:(0:Int)≤(i:Int):=by omega
   have he2:lleq ⟨x0,x1⟩ ⟨x0,x1⟩=true:=by unfold lleq;simp
   go_wp2_with fail
   go_quiet (fail)
   go_wp2_with fail
   go_roundw
   case rel=>exact ⟨i+1,by go_num,by omega,bstep HX.out (bd _ _)⟩
   case measure=>simp [intOf];omega
  ·obtain rfl:n=i:=by omega
   go_wp2_with fail
   go_ret
   exact ⟨rfl,HX.out⟩
set_option maxRecDepth 100000 in
set_option maxHeartbeats 2000000 in
theorem sameF_any {w:World} {u v:Value} {l:List Fl} (h:FS w u l) (h':FS w v l) (hl:l.length≤100000000) :
  Calls Tryz.prog 15 #[u,v] w fun e w'=>e=.returned (.bool true)∧Below w.heap.size w w':=by
 have H:Hid (FS w u l∧FS w v l):=⟨h,h'⟩
 obtain ⟨au,cu,hvv,_⟩:=h.form
 obtain ⟨n,hn⟩:∃ n,l.length=n:=⟨_,rfl⟩
 rw [hn] at hvv hl
 subst hvv
 obtain ⟨av,cv,hvv,_⟩:=h'.form
 rw [hn] at hvv
 subst hvv
 have HN:Hid (l.length=n):=hn
 clear h h' hn
 have hq:=neq_run
 have hg:=fguard_run
 go_enter Tryz.func15,Tryz.ntmps15
 go_wp2_with fail
 go_loopw [5] (fun s5 wr=>∃ i:Nat,s5=.int .i64 i∧i≤n∧Below w.heap.size w wr) (fun s5 _=>n - (intOf s5).toNat)
 case atStart=>exact ⟨0,rfl,by omega,Below.refl _ _⟩
 case round=>
  obtain ⟨i,rfl,hi,hb⟩:=hrel
  have HX:Hid (Below w.heap.size w wr):=hb
  clear hb
  by_cases hlt:i < n
  ·have hll:i < l.length:=by rw [HN.out];exact hlt
   obtain ⟨b,off,ea,hbw,d0,d1,d2,d3⟩:=FS.at (by have q:=H.out.1;rw [← HN.out] at q;exact q) HX.out hll
   subst ea
   obtain ⟨b',off',ea,hbw',e0,e1,e2,e3⟩:=FS.at (by have q:=H.out.2;rw [← HN.out] at q;exact q) HX.out hll
   subst ea
   obtain ⟨x,hxe⟩:∃ x,l[i]=x:=⟨_,rfl⟩
   rw [hxe] at d0 d1 d2 d3 e0 e1 e2 e3
   clear hxe
   obtain ⟨x0,x1,x2,x3⟩:=x
   simp only at d0 d1 d2 d3 e0 e1 e2 e3
   have k1:(i:Int) < (n:Int):=by omega
   have k2:(0:Int)≤(i:Int):=by omega
   have he2:feq ⟨x0,x1,x2,x3⟩ ⟨x0,x1,x2,x3⟩=true:=feq_self _
   go_wp2_with fail
   go_quiet (fail)
   go_wp2_with fail
   go_roundw
   case rel=>exact ⟨i+1,by go_num,by omega,bstep HX.out (bd _ _)⟩
   case measure=>simp [intOf];omega
  ·obtain rfl:n=i:=by omega
   go_wp2_with fail
   go_ret
   exact ⟨rfl,HX.out⟩
end Go.Proofs.YtkheacknelbcnaaGreatDoor
