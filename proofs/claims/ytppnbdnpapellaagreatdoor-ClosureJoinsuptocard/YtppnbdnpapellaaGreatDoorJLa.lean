/-
  The build hangs on the set of the labels alone.
  A part of the files that has the closure builds the same.
  The nodes of a build: each once, what it needs ahead of it, all that is reached.
  The first example, by plain lists.
  The first example, run.
  Copies; two lists that are alike.
  Faults that are alike, nodes that are alike.
  The law of BuildSet.
  What came in is small enough.
  The law of BuildParts: the build of the part.
  The law of BuildParts: the part.
  The law of BuildParts: what a node needs is ahead of it; each node is told once.
  The law of BuildParts.
  The paths that nodes have asked for, one by one.
-/
import Derived.Test.YtppnbdnpapellaaGreatDoorCp
import Derived.Test.YtppnbdnpapellaaGreatDoorJBy
import Derived.Test.YtppnbdnpapellaaGreatDoorJLab
import Derived.Test.YtppnbdnpapellaaGreatDoorJCf
import Derived.Deep.DeepCutAuto
import Derived.Test.YtppnbdnpapellaaGreatDoorJCo
import Derived.Test.YtppnbdnpapellaaGreatDoorJMShelf
import Derived.RangeFuncNested
import Derived.RangeFuncBound
import Derived.RangeFuncCalls
import Derived.RangeFuncLeaves
import Derived.Shelf.RegionOpen
import Derived.OwnWalkIn
import Derived.TacticsInMore
import Derived.LoopNIn
import Derived.LoopIn
namespace Go.Proofs.YtppnbdnpapellaaGreatDoor
open Go.RowKit Go.Maps
namespace Gs
end Gs
theorem Rea.mono {l:List Fl} {t t':List Lb} (h:∀ x,x∈t→x∈t') {x:Lb} (hx:Rea l t x):Rea l t' x:=by
 induction hx with
 | base hm=>exact .base (h _ hm)
 | step _ hd ih=>exact .step ih hd
end Go.Proofs.YtppnbdnpapellaaGreatDoor

namespace Go.Proofs.YtppnbdnpapellaaGreatDoor
open Go.RowKit Go.Maps
theorem fnd_path {l:List Fl} {q:List UInt8} {f:Fl} (h:fnd l q=some f):f.path=q:=by
 have:=List.find?_some h
 simpa using this
section
variable {l p:List Fl} {t:List Lb}
end
end Go.Proofs.YtppnbdnpapellaaGreatDoor

namespace Go.Proofs.YtppnbdnpapellaaGreatDoor
open Go.RowKit Go.Maps
theorem pts_is (N:List Lb) (E:List Ee):Gs.Pts ltL N E (Gs.pts ltL N E):=by
 have hm:∀ x,x∈Gs.ris ltL N↔x∈N:=fun x=>Gs.mem_ris x N
 have key:∀ k,k≤(Gs.ris ltL N).length→∃ P,Gs.PtsK ltL N E (Gs.ris ltL N) k P:=by
  intro k
  induction k with
  | zero=>exact fun _=>⟨[],Gs.PtsK.nil _ _ _ _⟩
  | succ k ih=>
   intro hk
   obtain ⟨P,hP⟩:=ih (by omega)
   by_cases h:∃ p∈P,(Gs.ris ltL N)[k]∈p
   ·obtain ⟨p,hp,hx⟩:=h
    exact ⟨P,hP.skip (by omega) hp hx⟩
   ·exact ⟨_,hP.add stoL (Gs.ris_up stoL _) hm (by omega) (fun p hp hx=>h ⟨p,hp,hx⟩) (Gs.part_up stoL N E _) (fun y=>Gs.mem_part)⟩
 obtain ⟨P,hP⟩:=key _ (Nat.le_refl _)
 have hd:=hP.done hm
 rw [← hd.eq stoL]
 exact hd
/-- where no circle is told there is an order -/
theorem ord_there {N:List Lb} {E:List Ee} (hE:∀ a b,(a,b)∈E→a∈N∧b∈N) (hc:crcL N E=none):∃ L,Gs.ord (rs N) E=some L:=by
 refine (Gs.ord_some_iff (rs_nd N) (fun a b h=>⟨(Gs.mem_ris a N).2 (hE a b h).1,(Gs.mem_ris b N).2 (hE a b h).2⟩)).2 ?_
 refine (Gs.Pts.free stoL (pts_is N E) hE).1 (fun p hp hq=>?_)
 unfold crcL frs at hc
 rw [List.find?_eq_none] at hc
 refine hc p hp ?_
 unfold crcB
 rcases hq with h | ⟨a,ha,hae⟩
 ·simp only [Bool.or_eq_true,decide_eq_true_eq]
  exact .inl (by omega)
 ·match p,ha with
  | [x],ha=>
   have:a=x:=List.mem_singleton.1 ha
   subst this
   simp [hae]
  | x::y::r,_=>simp
end Go.Proofs.YtppnbdnpapellaaGreatDoor

namespace Go.Proofs.YtppnbdnpapellaaGreatDoor
open Go.RowKit Go.Maps
/-- the tokens, by a count -/
def tqF:Nat→List UInt8→Nat→List Tk×Int
 | 0,_,_=>([],-1)
 | _+1,[],_=>([],-1)
 | n+1,c::q,m=>if kd c=0 then ([],(m:Int)) else
  match tqF n ((q.drop (ktl c q)).drop (gp false (q.drop (ktl c q)))) (m+1+ktl c q+gp false (q.drop (ktl c q))) with
  | (a,b)=>(⟨(kd c:Int),c::q.take (ktl c q),(m:Int)⟩::a,b)
theorem tq_fuel:∀ (n:Nat) (r:List UInt8) (m:Nat),r.length≤n→tq r m=tqF n r m
 | 0,r,m,h=>by
  have:r=[]:=List.eq_nil_of_length_eq_zero (by omega)
  subst this
  rw [tq_nil];rfl
 | n+1,[],m,h=>by rw [tq_nil];rfl
 | n+1,c::q,m,h=>by
  unfold tqF
  by_cases h0:kd c=0
  ·rw [tq_bad h0,if_pos h0]
  ·rw [tq,if_neg h0,if_neg h0,tq_fuel n _ _ (by simp only [List.length_drop,List.length_cons] at h ⊢;omega)]
theorem toks_fuel (s:List UInt8):toks s=tqF s.length (s.drop (gp false s)) (0+gp false s):=by
 unfold toks tg
 exact tq_fuel _ _ _ (by simp)
def tkF (s:List UInt8):List Tk×Int:=tqF s.length (s.drop (gp false s)) (0+gp false s)
def prsF (p s:List UInt8):List Tg×Int:=
 if okP p=true then (if s.length≤4096 then go p (if 0≤(tkF s).2 then (tkF s).2 else (s.length:Int)) (tkF s).2 (.top []) (tkF s).1 else ([],4096)) else ([],0)
theorem prsM_fuel (p s:List UInt8):prsM p s=prsF p s:=by
 unfold prsM prsF endE tkF
 rw [toks_fuel]
end Go.Proofs.YtppnbdnpapellaaGreatDoor

namespace Go.Proofs.YtppnbdnpapellaaGreatDoor
open Go.RowKit Go.Maps
/-- files in a block of their own -/
theorem fs_block {w:World} {g:Nat} {l:List Fl} {arr:Array Value} {fr:Nat×Nat} (hg:w.heap[g]? = some (.cells arr 55 fr)) (ha:arr=(fc l).toArray):FS w (.slice (some ⟨g,0,none⟩) l.length l.length) l:=by
 subst ha
 refine .inr ⟨g,0,l.length,rfl,Nat.le_refl _,(Array.getElem?_eq_some_iff.1 hg).1,fun i u hu=>?_⟩
 simp only [World.cell?,hg]
 simpa using hu
theorem own_block {w:World} (x:Lb):OwnL w.heap.size (w.alloc (.cells #[.string (bs x.pkg),.string (bs x.name)] 27)) (.slice (some ⟨w.heap.size,0,none⟩) 1 1) [x]:=
 ⟨rfl,.inr ⟨w.heap.size,1,#[.string (bs x.pkg),.string (bs x.name)],rfl,Nat.le_refl _,heap_alloc_new w _,Nat.le_refl _,by unfold maxLen;omega,rfl,rfl⟩⟩
end Go.Proofs.YtppnbdnpapellaaGreatDoor

namespace Go.Proofs.YtppnbdnpapellaaGreatDoor
open Go.RowKit Go.Maps
end Go.Proofs.YtppnbdnpapellaaGreatDoor

namespace Go.Proofs.YtppnbdnpapellaaGreatDoor
open Go.RowKit Go.Maps
end Go.Proofs.YtppnbdnpapellaaGreatDoor

namespace Go.Proofs.YtppnbdnpapellaaGreatDoor
open Go.RowKit Go.Maps
end Go.Proofs.YtppnbdnpapellaaGreatDoor

namespace Go.Proofs.YtppnbdnpapellaaGreatDoor
open Go.RowKit Go.Maps
theorem fine_of {l:List Fl} {t:List Lb} (h:totf l+totl t≤1048576) (hb:∀ i∈l,-9223372036854775808≤i.blob∧i.blob≤9223372036854775807∧-9223372036854775808≤i.size∧i.size≤9223372036854775807):OfB l t:=by
 have h1:=totf_len l
 have h2:=totf_mem l
 have h3:=totl_len t
 have h4:=totl_mem t
 have hok:∀ f∈l,Fok f:=fun f hf=>by
  have:=h2 f hf
  obtain ⟨g1,g2,g3,g4⟩:=hb f hf
  exact ⟨by omega,by omega,g1,g2,g3,g4⟩
 refine ⟨⟨by omega,hok,fun f hf=>by have:=h2 f hf;omega⟩,⟨by omega,hok⟩,by omega,by omega,fun x hx=>?_,by omega⟩
 have:=h4 x hx
 exact ⟨by omega,by omega⟩
end Go.Proofs.YtppnbdnpapellaaGreatDoor

namespace Go.Proofs.YtppnbdnpapellaaGreatDoor
open Go.RowKit Go.Maps
end Go.Proofs.YtppnbdnpapellaaGreatDoor

namespace Go.Proofs.YtppnbdnpapellaaGreatDoor
open Go.RowKit Go.Maps
end Go.Proofs.YtppnbdnpapellaaGreatDoor

namespace Go.Proofs.YtppnbdnpapellaaGreatDoor
open Go.RowKit Go.Maps
end Go.Proofs.YtppnbdnpapellaaGreatDoor

namespace Go.Proofs.YtppnbdnpapellaaGreatDoor
open Go.RowKit Go.Maps
/-- a fault's code is not zero -/
theorem flt_code {l:List Fl} {N:List Lb} {E:List Ee} {c:List (List UInt8)} (h:(fltP l N E c).2=true):(fltP l N E c).1.code≠0:=by
 unfold fltP at h ⊢
 split
 ·rename_i h1
  unfold brkF
  split
  ·simp [brkV,Fv.pf]
  ·rename_i e
   obtain ⟨f,hf,hk⟩:=List.any_eq_true.1 h1
   exact absurd hk (by rw [List.find?_eq_none] at e;exact e f hf)
 ·rename_i h1
  rw [if_neg h1] at h
  split
  ·rename_i h2
   unfold fstF
   split
   ·rename_i a e
    have hb:=List.find?_some e
    unfold misB at hb
    unfold misF
    split
    ·simp [Fv.pf]
    ·rename_i T hT
     rw [hT] at hb
     simp only [Bool.not_eq_true'] at hb
     rw [if_neg (by rw [hb];simp)]
     simp [Fv.pf]
   ·rename_i e
    obtain ⟨f,hf,hk⟩:=List.any_eq_true.1 h2
    exact absurd hk (by rw [List.find?_eq_none] at e;exact e f hf)
  ·rename_i h2
   rw [if_neg h2] at h
   split
   ·simp
   ·rename_i h3
    rw [if_neg h3] at h
    unfold fstF
    split
    ·rename_i a e
     have hb:=List.find?_some e
     unfold unsF
     rw [if_pos hb]
     simp [Fv.pf]
    ·rename_i e
     obtain ⟨f,hf,hk⟩:=List.any_eq_true.1 h
     exact absurd hk (by rw [List.find?_eq_none] at e;exact e f hf)
/-- where there is no fault there are the nodes -/
theorem bld_ok {l:List Fl} {t N:List Lb} {E:List Ee} {c:List (List UInt8)}:((bldP l t N E c).2.code≠0∧(bldP l t N E c).1=[])∨((bldP l t N E c).2.code=0∧refE l t=0∧(fltP l N E c).2=false∧bldP l t N E c=(ndsP l N E,zPf)):=by
 unfold bldP
 by_cases h0:refE l t=0
 ·rw [if_pos h0]
  cases hf:(fltP l N E c).2 with
  | true=>exact .inl ⟨flt_code hf,rfl⟩
  | false=>exact .inr ⟨rfl,h0,rfl,rfl⟩
 ·rw [if_neg h0]
  exact .inl ⟨h0,rfl⟩
end Go.Proofs.YtppnbdnpapellaaGreatDoor

namespace Go.Proofs.YtppnbdnpapellaaGreatDoor
open Go.RowKit Go.Maps
attribute [local go_sem] Oper.semAt_some
/-- the paths that nodes have asked for -/
def askN (n:Nd):List (List UInt8):=whl n.lab.pkg wName::n.srcs.map Fl.path
def askL (nd:List Nd):List (List UInt8):=nd.flatMap askN
theorem askL_take (nd:List Nd) (i:Nat) (h:i < nd.length):askL (nd.take (i+1))=askL (nd.take i)++askN (nd[i]'h):=by
 unfold askL
 rw [List.take_succ_eq_append_getElem h,List.flatMap_append]
 simp
theorem askL_cut (nd:List Nd) (i:Nat) (h:i < nd.length):∃ r,askL nd=askL (nd.take i)++askN (nd[i]'h)++r:=by
 refine ⟨askL (nd.drop (i+1)),?_⟩
 rw [← askL_take nd i h]
 unfold askL
 rw [← List.flatMap_append,List.take_append_drop]
theorem jn_name {p:List UInt8} (h1:okP p=true) (h2:okP (whl p wName)=true):jn p wName=(whl p wName,0):=by
 unfold jn
 have h3:okP wName=true:=by decide
 rw [if_pos ⟨h1,h3⟩]
 by_cases hp:p=[]
 ·subst hp;rfl
 ·rw [if_neg hp,if_neg (by decide)]
  unfold whl at h2 ⊢
  rw [if_neg hp] at h2 ⊢
  rw [if_pos h2]
set_option maxRecDepth 100000 in
set_option maxHeartbeats 1000000 in
theorem manif_any {p:List UInt8} (w:World) (h1:okP p=true) (h2:okP (whl p wName)=true) :
  Calls Tryz.prog 44 #[.string (bs p)] w fun e w'=>e=.returned (.string (bs (whl p wName)))∧Below w.heap.size w w':=by
 have hl:=(okP_len h1).1
 have HJ:Hid (Calls Tryz.prog 77 #[.string (bs p),.string (bs wName)] w fun e w'=>e=.returned (.tuple #[.string (bs (whl p wName)),.int .i64 0])∧Below w.heap.size w w'):=by
  have:=join_any p wName w (by omega) (by decide)
  rw [jn_name h1 h2] at this
  exact this
 clear h1 h2 hl
 go_enter Tryz.func44,Tryz.ntmps44
 go_wp2_with fail
 refine HJ.out.mono ?_
 rintro e w1 ⟨rfl,hb⟩
 have HB:Hid (Below w.heap.size w w1):=hb
 clear hb HJ
 go_wp2_with fail
 go_ret
 exact ⟨rfl,HB.out⟩
set_option maxRecDepth 100000 in
set_option maxHeartbeats 1000000 in
theorem asked_any (ad:Option Addr) (n c:Nat) (w:World):Calls Tryz.prog 24 #[.slice ad n c] w fun e w'=>e=.returned (.func (.func 43) #[] #[.pointer (some ⟨w.heap.size,0,none⟩)])∧w'=w.alloc (.cells #[.slice ad n c] 36):=by
 go_enter Tryz.func24,Tryz.ntmps24
 go_wp2_with fail
 go_ret
 exact ⟨rfl,rfl⟩
/-- nodes as the iterator reads them: all below n₀ -/
structure NQ (n₀:Nat) (w:World) (ad:Option Addr) (nd:List Nd):Prop where
 at':∀ i (h:i < nd.length),∃ (b off:Nat) (x:Nv),ad=some ⟨b,off,none⟩∧b < n₀∧w.cell? ⟨b,off+i * 4,none⟩=some (.string (bs x.pkg))∧w.cell? ⟨b,off+i * 4+1,none⟩=some (.string (bs x.name))∧w.cell? ⟨b,off+i * 4+2,none⟩=some (.slice x.sa x.sn x.sc)∧w.cell? ⟨b,off+i * 4+3,none⟩=some (.slice x.da x.dn x.dc)∧
  x.pkg=(nd[i]'h).lab.pkg∧x.sn=(nd[i]'h).srcs.length∧FS w x.s (nd[i]'h).srcs∧(∀ k,x.s.ownBlock=some k→k < n₀)
theorem NQ.below {n₀:Nat} {w w':World} {ad:Option Addr} {nd:List Nd} (h:NQ n₀ w ad nd) (hb:Below n₀ w w'):NQ n₀ w' ad nd:=
 ⟨fun i hi=>by
  obtain ⟨b,off,x,h1,h2,c0,c1,c2,c3,h3,h4,h5,h6⟩:=h.at' i hi
  exact ⟨b,off,x,h1,h2,(hb.cell (p:=⟨b,off+i * 4,none⟩) h2).trans c0,(hb.cell (p:=⟨b,off+i * 4+1,none⟩) h2).trans c1,(hb.cell (p:=⟨b,off+i * 4+2,none⟩) h2).trans c2,(hb.cell (p:=⟨b,off+i * 4+3,none⟩) h2).trans c3,h3,h4,h5.below hb h6,h6⟩⟩
theorem NOwn.nq {base:Nat} {w:World} {ad:Option Addr} {n c:Nat} {nd:List Nd} (h:NOwn base w (.slice ad n c) nd):NQ w.heap.size w ad nd:=by
 obtain ⟨a,h1,h2,h3,_,_⟩:=h.it
 refine ⟨fun i hi=>?_⟩
 have hia:i < a.length:=by omega
 have hx:=h3 i hia hi
 rcases h1.rs with ⟨_,e⟩ | ⟨b,off,cap,e,hc,hlt,hcell⟩
 ·rw [e] at hia;simp at hia
 ·injection e with e1 e2 e3
  obtain ⟨g0,g1,g2,g3⟩:=nc_get a i hia
  have hlab:=hx.lab
  refine ⟨b,off,a[i],e1,hlt,hcell _ _ g0,?_,?_,?_,?_,?_,hx.s.fs,fun k hk=>(hx.s.lt hk).2⟩
  ·rw [Nat.add_assoc];exact hcell _ _ g1
  ·rw [Nat.add_assoc];exact hcell _ _ g2
  ·rw [Nat.add_assoc];exact hcell _ _ g3
  ·rw [← hlab]
  ·obtain ⟨a',c',e,_⟩:=hx.s.fs.form
   unfold Nv.s at e
   injection e
/-- what a round keeps: what lay below n₀, and every node in a block of its own -/
structure Kn (n₀:Nat) (W W':World):Prop where
 below:Below n₀ W W'
 box:∀ (k:Nat) (cs:Array Value) (fr:Nat×Nat),W.heap[k]? = some (.cells cs 80 fr)→W'.heap[k]? = some (.cells cs 80 fr)
theorem Kn.trans {n₀:Nat} {A B C:World} (h:Kn n₀ A B) (k:Kn n₀ B C):Kn n₀ A C:=⟨h.below.trans k.below,fun x cs fr e=>k.box x cs fr (h.box x cs fr e)⟩
set_option maxRecDepth 100000 in
set_option maxHeartbeats 4000000 in
theorem asked_stops {w:World} {nd:List Nd} {ad:Option Addr} {n c n₀ Bl:Nat} (hn:nd.length=n) (hsz:n≤100000000) (hbox:w.cell? ⟨Bl,0,none⟩=some (.slice ad n c)) (hBl:Bl < w.heap.size) (hq:NQ n₀ w ad nd) (hn0:n₀≤w.heap.size)
  (hok:∀ x∈nd,okP x.lab.pkg=true∧okP (whl x.lab.pkg wName)=true∧x.srcs.length≤100000000) (m:Nat) (hm:2≤m) :
  SeqStopsK Fence.wide m Tryz.prog 43 #[.pointer (some ⟨Bl,0,none⟩)] (fun x:List UInt8=>#[.string (bs x)]) (Kn n₀) (fun xs=>xs=askL nd) (fun _=>True) (askL nd).length w:=by
 intro lp J Jx W hW hJ hJx hY h0
 have HQ:Hid (∀ W',Below n₀ W W'→NQ n₀ W' ad nd):=fun W' hW'=>(hq.below (below_mono hW hn0)).below hW'
 have HO:Hid (∀ x∈nd,okP x.lab.pkg=true∧okP (whl x.lab.pkg wName)=true∧x.srcs.length≤100000000):=hok
 have HY:Hid (∀ pre x W1,J pre W1→pre.length < (askL nd).length→YieldAt Fence.wide (m - 1) Tryz.prog lp #[.string (bs x)] W1 fun e W'=>
   (e=.returned (.bool true)∧J (pre++[x]) W'∧Kn n₀ W1 W')∨(e=.returned (.bool false)∧Jx (pre++[x]) W')):=hY
 have HJA:Hid (∀ pre (V:World) (o:Obj),W.heap.size≤V.heap.size→J pre V→J pre (V.alloc o)):=fun pre V o _ h=>hJ pre V _ none h (World.grownBy_alloc _ _ _) (fun r e=>by cases e)
 have HJB:Hid (∀ pre (V V':World),J pre V→Below V.heap.size V V'→J pre V'):=fun pre V V' h hb=>hJ pre V V' none h ⟨hb.os,hb.tape,hb.output,hb.size,fun k hk _=>hb.block k hk⟩ (fun r e=>by cases e)
 have H0:Hid (J [] W):=h0
 have hbx:W.cell? ⟨Bl,0,none⟩=some (.slice ad n c):=(hW.cell (p:=⟨Bl,0,none⟩) hBl).trans hbox
 have hnW:n₀≤W.heap.size:=Nat.le_trans hn0 hW.size
 have HN:Hid (nd.length=n):=hn
 clear hbox hBl hq hok hY h0 hJ hJx hW hn0 hn
 change CallsIn Fence.wide m Tryz.prog 43 #[.func (.yield lp) #[] #[],.pointer (some ⟨Bl,0,none⟩)] W _
 refine callsIn_of_wp Tryz.func43 rfl trivial ?_ rfl
 simp only [Tryz.ntmps43,List.size_toArray,List.length_cons,List.length_nil,Nat.reduceAdd,Nat.reduceSub,Array.replicate_succ,Array.replicate_zero,List.push_toArray,List.append_toArray,List.nil_append,List.cons_append]
 gi_wp2_with fail
 gi_loopw [9] (fun p wr=>∃ i:Nat,p=.int .i64 i∧i≤n∧J (askL (nd.take i)) wr∧Below n₀ W wr) (fun p _=>n - (intOf p).toNat)
 case atStart=>exact ⟨0,rfl,Nat.zero_le _,by simpa [askL] using H0.out,Below.refl _ _⟩
 case round=>
  obtain ⟨i,rfl,hin,hJs,hKs⟩:=hrel
  obtain ⟨wo,hwo⟩:∃ wo,wo=wr:=⟨_,rfl⟩
  subst hwo
  have HJ:Hid (J (askL (nd.take i)) wo∧Below n₀ W wo):=⟨hJs,hKs⟩
  have hzr:n₀≤wo.heap.size:=Nat.le_trans hnW hKs.size
  clear hJs hKs
  by_cases hlt:i < n
  ·have hil:i < nd.length:=by have:=HN.out;omega
   have i0:(0:Int)≤(i:Int):=by omega
   have i1:(i:Int) < (n:Int):=by omega
   obtain ⟨b,off,x,rfl,hbn,c0,c1,c2,c3,hpk,hsn,hfs,hsb⟩:=(HQ.out wo HJ.out.2).at' i hil
   obtain ⟨p,nm,sa,sn,sc,da,dn,dc⟩:=x
   simp only [Nv.s] at c0 c1 c2 c3 hpk hsn hfs hsb
   obtain ⟨hk1,hk2,hk3⟩:=HO.out _ (List.getElem_mem hil)
   rw [← hpk] at hk1 hk2
   rw [← hsn] at hk3
   obtain ⟨S,hS⟩:∃ S,(nd[i]'hil).srcs=S:=⟨_,rfl⟩
   rw [hS] at hsn hfs
   have HA:Hid (askL (nd.take (i+1))=askL (nd.take i)++(whl p wName::S.map Fl.path)∧(askL (nd.take i)).length+S.length+1≤(askL nd).length∧sn=S.length):=by
    refine ⟨?_,?_,hsn⟩
    ·rw [askL_take nd i hil];unfold askN;rw [← hpk,hS]
    ·obtain ⟨r,hr⟩:=askL_cut nd i hil
     rw [hr];unfold askN;rw [hS];simp;omega
   have HFS:Hid (∀ W',Below n₀ wo W'→FS W' (.slice sa sn sc) S):=fun W' hW'=>hfs.below hW' hsb
   have HM:Hid (∀ V,Calls Tryz.prog 44 #[.string (bs p)] V fun e w'=>e=.returned (.string (bs (whl p wName)))∧Below V.heap.size V w'):=fun V=>manif_any V hk1 hk2
   clear hk1 hk2 hpk hS hfs hsb hsn
   obtain ⟨A,hA⟩:∃ A,askL (nd.take i)=A:=⟨_,rfl⟩
   rw [hA] at HJ HA
   obtain ⟨q,hqq⟩:∃ q,whl p wName=q:=⟨_,rfl⟩
   rw [hqq] at HM HA
   clear hA hqq
   obtain ⟨wn,hwn⟩:∃ wn,wo.alloc (.cells #[.string (bs p),.string (bs nm),.slice sa sn sc,.slice da dn dc] 80)=wn:=⟨_,rfl⟩
   have HWN:Hid (wo.alloc (.cells #[.string (bs p),.string (bs nm),.slice sa sn sc,.slice da dn dc] 80)=wn∧Below wo.heap.size wo wn∧J A wn∧wn.cell? ⟨wo.heap.size,0,none⟩=some (.string (bs p))∧wn.cell? ⟨wo.heap.size,2,none⟩=some (.slice sa sn sc)∧wn.heap[wo.heap.size]? = some (.cells #[.string (bs p),.string (bs nm),.slice sa sn sc,.slice da dn dc] 80 (0,0))):=by
    refine ⟨hwn,by rw [← hwn];exact balloc _ _,by rw [← hwn];exact HJA.out _ _ _ HJ.out.2.size HJ.out.1,by rw [← hwn];simp,by rw [← hwn];simp,by rw [← hwn];exact heap_alloc_new _ _⟩
   clear hwn
   gi_wp2_with fail
   rw [HWN.out.1]
   refine ⟨trivial,fun _=>by omega,(callsIn_wide.2 (HM.out _)).mono ?_⟩
   rintro e w2 ⟨rfl,hb2⟩
   have hlt0:wo.heap.size < wn.heap.size:=(Array.getElem?_eq_some_iff.1 HWN.out.2.2.2.2.2).1
   have H2:Hid (J A w2∧Below n₀ W w2∧Below n₀ wo w2∧w2.heap[wo.heap.size]? = some (.cells #[.string (bs p),.string (bs nm),.slice sa sn sc,.slice da dn dc] 80 (0,0))):=by
    have b1:Below wo.heap.size wo w2:=bstep HWN.out.2.1 hb2
    exact ⟨HJB.out _ _ _ HWN.out.2.2.1 hb2,below_trans HJ.out.2 (below_mono b1 hzr),below_mono b1 hzr,(hb2.block _ hlt0).trans HWN.out.2.2.2.2.2⟩
   clear hb2 HWN hlt0 c0 c1 c2 c3
   obtain ⟨fn,tmps,assign,body,hy,hR⟩:=HY.out A q w2 H2.out.1 (by have:=HA.out.2.1;omega)
   gi_wp2_with fail
   refine ⟨fun _=>by omega,hR.mono ?_⟩
   clear hy hR
   rintro e W3 (⟨rfl,hJ3,hk3⟩ | ⟨rfl,hJ3⟩)
   ·have hbk:=hk3.box _ _ _ H2.out.2.2.2
    have s2:W3.cell? ⟨wo.heap.size,2,none⟩=some (.slice sa sn sc):=by simp [World.cell?,hbk]
    have H3:Hid (J (A++[q]) W3∧Below n₀ W W3∧FS W3 (.slice sa sn sc) S∧Below n₀ wo W3):=⟨hJ3,below_trans H2.out.2.1 hk3.below,HFS.out W3 (below_trans H2.out.2.2.1 hk3.below),below_trans H2.out.2.2.1 hk3.below⟩
    clear hJ3 hk3 hbk
    gi_wp2_with fail
    gi_loopw [23] (fun z wr=>∃ j:Nat,z=.int .i64 j∧j≤sn∧J (A++(q::(S.take j).map Fl.path)) wr∧Below n₀ W wr∧Below n₀ wo wr) (fun z _=>sn - (intOf z).toNat)
    case atStart=>exact ⟨0,rfl,Nat.zero_le _,by simpa using H3.out.1,H3.out.2.1,H3.out.2.2.2⟩
    case round=>
     obtain ⟨j,rfl,hjn,hJs,hK1,hK2⟩:=hrel
     have H4:Hid (J (A++(q::(S.take j).map Fl.path)) wr∧Below n₀ W wr∧Below n₀ wo wr):=⟨hJs,hK1,hK2⟩
     have hz4:n₀≤wr.heap.size:=Nat.le_trans hzr hK2.size
     clear hJs hK1 hK2
     by_cases hjl:j < sn
     ·have hjS:j < S.length:=by have:=HA.out.2.2;omega
      have j0:(0:Int)≤(j:Int):=by omega
      have j1:(j:Int) < (sn:Int):=by omega
      have hfs:=HFS.out wr H4.out.2.2
      rw [HA.out.2.2] at hfs
      obtain ⟨b2,o2,ea,hb2,d0,d1,d2,d3⟩:=FS.at hfs (Below.refl _ wr) hjS
      subst ea
      have hsn:(S.take (j+1)).map Fl.path=(S.take j).map Fl.path++[(S[j]'hjS).path]:=by rw [List.take_succ_eq_append_getElem hjS,List.map_append];rfl
      obtain ⟨f,hf⟩:∃ f,S[j]'hjS=f:=⟨_,rfl⟩
      rw [hf] at d0 d1 d2 d3 hsn
      obtain ⟨fp,ft,fb,fz⟩:=f
      simp only at d0 d1 d2 d3 hsn
      have HSN:Hid (A++(q::(S.take (j+1)).map Fl.path)=(A++(q::(S.take j).map Fl.path))++[fp]∧(A++(q::(S.take j).map Fl.path)).length < (askL nd).length):=by
       refine ⟨by rw [hsn];simp,?_⟩
       have h1:=HA.out.2.1
       simp only [List.length_append,List.length_cons,List.length_map,List.length_take]
       omega
      clear hsn hf hfs
      obtain ⟨P,hP⟩:∃ P,A++(q::(S.take j).map Fl.path)=P:=⟨_,rfl⟩
      rw [hP] at H4 HSN
      clear hP
      obtain ⟨w5,hw5⟩:∃ w5,wr.alloc (.cells #[.string (bs fp),.string (bs ft),.int .i64 fb,.int .i64 fz] 55)=w5:=⟨_,rfl⟩
      have b5:Below wr.heap.size wr w5:=by rw [← hw5];exact balloc _ _
      have H5:Hid (J P w5∧Below n₀ W w5∧Below n₀ wo w5):=⟨by rw [← hw5];exact HJA.out _ _ _ H4.out.2.1.size H4.out.1,below_trans H4.out.2.1 (below_mono b5 hz4),below_trans H4.out.2.2 (below_mono b5 hz4)⟩
      obtain ⟨fn,tmps,assign,body,hy,hR⟩:=HY.out P fp w5 H5.out.1 HSN.out.2
      rw [← hw5] at hy hR
      have HW5:Hid (wr.alloc (.cells #[.string (bs fp),.string (bs ft),.int .i64 fb,.int .i64 fz] 55)=w5):=hw5
      clear b5 hw5
      gi_wp2_with fail
      refine ⟨fun _=>by omega,hR.mono ?_⟩
      clear hy hR
      rintro e W6 (⟨rfl,hJ6,hk6⟩ | ⟨rfl,hJ6⟩)
      ·rw [HW5.out] at hk6
       have H6:Hid (J (P++[fp]) W6∧Below n₀ W W6∧Below n₀ wo W6):=⟨hJ6,below_trans H5.out.2.1 hk6.below,below_trans H5.out.2.2 hk6.below⟩
       clear hJ6 hk6
       gi_wp2_with fail
       go_roundw
       case rel=>exact ⟨j+1,by go_num,by omega,by rw [HSN.out.1];exact H6.out.1,H6.out.2.1,H6.out.2.2⟩
       case measure=>simp [intOf];omega
      ·gi_wp2_with fail
       refine bodyPost_ret (results_none rfl _ _ _) rfl ?_
       exact ⟨⟨_,rfl⟩,.inr ⟨_,trivial,hJ6⟩⟩
     ·have hj2:¬ (j:Int) < (sn:Int):=by omega
      have HE:Hid (J (askL (nd.take (i+1))) wr):=by
       have h1:=H4.out.1
       rw [List.take_of_length_le (by have:=HA.out.2.2;omega)] at h1
       show J _ wr
       rw [HA.out.1];exact h1
      gi_wp2_with fail
      go_roundw
      case rel=>exact ⟨i+1,by go_num,by omega,HE.out,H4.out.2.1⟩
      case measure=>simp [intOf];omega
   ·gi_wp2_with fail
    refine bodyPost_ret (results_none rfl _ _ _) rfl ?_
    exact ⟨⟨_,rfl⟩,.inr ⟨_,trivial,hJ3⟩⟩
  ·have hieq:i=n:=by omega
   have HE:Hid (J (askL nd) wo):=by
    have h1:=HJ.out.1
    rw [List.take_of_length_le (by have:=HN.out;omega)] at h1
    exact h1
   gi_wp2_with fail
   go_end0
   exact ⟨⟨_,rfl⟩,.inl ⟨_,rfl,HE.out⟩⟩
end Go.Proofs.YtppnbdnpapellaaGreatDoor
