import Derived.Test.YtppnbdnpapellaaGreatDoorJCo
import Derived.Test.YtppnbdnpapellaaGreatDoorJMShelf
import Derived.RangeFuncNested
import Derived.RangeFuncBound
import Derived.RangeFuncCalls
import Derived.RangeFuncLeaves
import Derived.Shelf.RegionOpen
import Derived.OwnWalkIn
import Derived.TacticsInMore
import Derived.LoopNIn
import Derived.LoopIn
import Derived.Test.YtppnbdnpapellaaGreatDoorJYf
set_option maxRecDepth 100000
set_option maxHeartbeats 16000000
namespace Go.Proofs.YtppnbdnpapellaaGreatDoor
section
open Go.RowKit Go.Maps
attribute [local go_sem] Oper.semAt_some
def askN (n:Nd):List (List UInt8):=whl n.lab.pkg wName::n.srcs.map Fl.path
def askL (nd:List Nd):List (List UInt8):=nd.flatMap askN
theorem askL_take (nd:List Nd) (i:Nat) (h:i < nd.length):askL (nd.take (i+1))=askL (nd.take i)++askN (nd[i]'h):=by
 unfold askL
 rw [List.take_succ_eq_append_getElem h,List.flatMap_append]
 simp
theorem askL_cut (nd:List Nd) (i:Nat) (h:i < nd.length):∃ r,askL nd=askL (nd.take i)++askN (nd[i]'h)++r:=by
 refine ⟨askL (nd.drop (i+1)),?_⟩
 rw [← askL_take nd i h]
 unfold askL
 rw [← List.flatMap_append,List.take_append_drop]
theorem jn_name {p:List UInt8} (h1:okP p=true) (h2:okP (whl p wName)=true):jn p wName=(whl p wName,0):=by
 unfold jn
 have h3:okP wName=true:=by decide
 rw [if_pos ⟨h1,h3⟩]
 by_cases hp:p=[]
 ·subst hp;rfl
 ·rw [if_neg hp,if_neg (by decide)]
  unfold whl at h2 ⊢
  rw [if_neg hp] at h2 ⊢
  rw [if_pos h2]
theorem manif_any {p:List UInt8} (w:World) (h1:okP p=true) (h2:okP (whl p wName)=true) :
  Calls Tryz.prog 44 #[.string (bs p)] w fun e w'=>e=.returned (.string (bs (whl p wName)))∧Below w.heap.size w w':=by
 have hl:=(okP_len h1).1
 have HJ:Hid (Calls Tryz.prog 77 #[.string (bs p),.string (bs wName)] w fun e w'=>e=.returned (.tuple #[.string (bs (whl p wName)),.int .i64 0])∧Below w.heap.size w w'):=by
  have:=join_any p wName w (by omega) (by decide)
  rw [jn_name h1 h2] at this
  exact this
 clear h1 h2 hl
 go_enter Tryz.func44,Tryz.ntmps44
 go_wp2_with fail
 refine HJ.out.mono ?_
 rintro e w1 ⟨rfl,hb⟩
 have HB:Hid (Below w.heap.size w w1):=hb
 clear hb HJ
 go_wp2_with fail
 go_ret
 exact ⟨rfl,HB.out⟩
theorem asked_any (ad:Option Addr) (n c:Nat) (w:World):Calls Tryz.prog 24 #[.slice ad n c] w fun e w'=>e=.returned (.func (.func 43) #[] #[.pointer (some ⟨w.heap.size,0,none⟩)])∧w'=w.alloc (.cells #[.slice ad n c] 36):=by
 go_enter Tryz.func24,Tryz.ntmps24
 go_wp2_with fail
 go_ret
 exact ⟨rfl,rfl⟩
structure NQ (n₀:Nat) (w:World) (ad:Option Addr) (nd:List Nd):Prop where
 at':∀ i (h:i < nd.length),∃ (b off:Nat) (x:Nv),ad=some ⟨b,off,none⟩∧b < n₀∧w.cell? ⟨b,off+i * 4,none⟩=some (.string (bs x.pkg))∧w.cell? ⟨b,off+i * 4+1,none⟩=some (.string (bs x.name))∧w.cell? ⟨b,off+i * 4+2,none⟩=some (.slice x.sa x.sn x.sc)∧w.cell? ⟨b,off+i * 4+3,none⟩=some (.slice x.da x.dn x.dc)∧
  x.pkg=(nd[i]'h).lab.pkg∧x.sn=(nd[i]'h).srcs.length∧FS w x.s (nd[i]'h).srcs∧(∀ k,x.s.ownBlock=some k→k < n₀)
theorem NQ.below {n₀:Nat} {w w':World} {ad:Option Addr} {nd:List Nd} (h:NQ n₀ w ad nd) (hb:Below n₀ w w'):NQ n₀ w' ad nd:=
 ⟨fun i hi=>by
  obtain ⟨b,off,x,h1,h2,c0,c1,c2,c3,h3,h4,h5,h6⟩:=h.at' i hi
  exact ⟨b,off,x,h1,h2,(hb.cell (p:=⟨b,off+i * 4,none⟩) h2).trans c0,(hb.cell (p:=⟨b,off+i * 4+1,none⟩) h2).trans c1,(hb.cell (p:=⟨b,off+i * 4+2,none⟩) h2).trans c2,(hb.cell (p:=⟨b,off+i * 4+3,none⟩) h2).trans c3,h3,h4,h5.below hb h6,h6⟩⟩
theorem NOwn.nq {base:Nat} {w:World} {ad:Option Addr} {n c:Nat} {nd:List Nd} (h:NOwn base w (.slice ad n c) nd):NQ w.heap.size w ad nd:=by
 obtain ⟨a,h1,h2,h3,_,_⟩:=h.it
 refine ⟨fun i hi=>?_⟩
 have hia:i < a.length:=by omega
 have hx:=h3 i hia hi
 rcases h1.rs with ⟨_,e⟩ | ⟨b,off,cap,e,hc,hlt,hcell⟩
 ·rw [e] at hia;simp at hia
 ·injection e with e1 e2 e3
  obtain ⟨g0,g1,g2,g3⟩:=nc_get a i hia
  have hlab:=hx.lab
  refine ⟨b,off,a[i],e1,hlt,hcell _ _ g0,?_,?_,?_,?_,?_,hx.s.fs,fun k hk=>(hx.s.lt hk).2⟩
  ·rw [Nat.add_assoc];exact hcell _ _ g1
  ·rw [Nat.add_assoc];exact hcell _ _ g2
  ·rw [Nat.add_assoc];exact hcell _ _ g3
  ·rw [← hlab]
  ·obtain ⟨a',c',e,_⟩:=hx.s.fs.form
   unfold Nv.s at e
   injection e
structure Kn (n₀:Nat) (W W':World):Prop where
 below:Below n₀ W W'
 box:∀ (k:Nat) (cs:Array Value) (fr:Nat×Nat),W.heap[k]? = some (.cells cs 80 fr)→W'.heap[k]? = some (.cells cs 80 fr)
theorem Kn.trans {n₀:Nat} {A B C:World} (h:Kn n₀ A B) (k:Kn n₀ B C):Kn n₀ A C:=⟨h.below.trans k.below,fun x cs fr e=>k.box x cs fr (h.box x cs fr e)⟩
theorem asked_stops {w:World} {nd:List Nd} {ad:Option Addr} {n c n₀ Bl:Nat} (hn:nd.length=n) (hsz:n≤100000000) (hbox:w.cell? ⟨Bl,0,none⟩=some (.slice ad n c)) (hBl:Bl < w.heap.size) (hq:NQ n₀ w ad nd) (hn0:n₀≤w.heap.size)
  (hok:∀ x∈nd,okP x.lab.pkg=true∧okP (whl x.lab.pkg wName)=true∧x.srcs.length≤100000000) (m:Nat) (hm:2≤m) :
  SeqStopsK Fence.wide m Tryz.prog 43 #[.pointer (some ⟨Bl,0,none⟩)] (fun x:List UInt8=>#[.string (bs x)]) (Kn n₀) (fun xs=>xs=askL nd) (fun _=>True) (askL nd).length w:=by
 intro lp J Jx W hW hJ hJx hY h0
 have HQ:Hid (∀ W',Below n₀ W W'→NQ n₀ W' ad nd):=fun W' hW'=>(hq.below (below_mono hW hn0)).below hW'
 have HO:Hid (∀ x∈nd,okP x.lab.pkg=true∧okP (whl x.lab.pkg wName)=true∧x.srcs.length≤100000000):=hok
 have HY:Hid (∀ pre x W1,J pre W1→pre.length < (askL nd).length→YieldAt Fence.wide (m - 1) Tryz.prog lp #[.string (bs x)] W1 fun e W'=>
   (e=.returned (.bool true)∧J (pre++[x]) W'∧Kn n₀ W1 W')∨(e=.returned (.bool false)∧Jx (pre++[x]) W')):=hY
 have HJA:Hid (∀ pre (V:World) (o:Obj),W.heap.size≤V.heap.size→J pre V→J pre (V.alloc o)):=fun pre V o _ h=>hJ pre V _ none h (World.grownBy_alloc _ _ _) (fun r e=>by cases e)
 have HJB:Hid (∀ pre (V V':World),J pre V→Below V.heap.size V V'→J pre V'):=fun pre V V' h hb=>hJ pre V V' none h ⟨hb.os,hb.tape,hb.output,hb.size,fun k hk _=>hb.block k hk⟩ (fun r e=>by cases e)
 have H0:Hid (J [] W):=h0
 have hbx:W.cell? ⟨Bl,0,none⟩=some (.slice ad n c):=(hW.cell (p:=⟨Bl,0,none⟩) hBl).trans hbox
 have hnW:n₀≤W.heap.size:=Nat.le_trans hn0 hW.size
 have HN:Hid (nd.length=n):=hn
 clear hbox hBl hq hok hY h0 hJ hJx hW hn0 hn
 change CallsIn Fence.wide m Tryz.prog 43 #[.func (.yield lp) #[] #[],.pointer (some ⟨Bl,0,none⟩)] W _
 refine callsIn_of_wp Tryz.func43 rfl trivial ?_ rfl
 simp only [Tryz.ntmps43,List.size_toArray,List.length_cons,List.length_nil,Nat.reduceAdd,Nat.reduceSub,Array.replicate_succ,Array.replicate_zero,List.push_toArray,List.append_toArray,List.nil_append,List.cons_append]
 gi_wp2_with fail
 gi_loopw [9] (fun p wr=>∃ i:Nat,p=.int .i64 i∧i≤n∧J (askL (nd.take i)) wr∧Below n₀ W wr) (fun p _=>n - (intOf p).toNat)
 case atStart=>exact ⟨0,rfl,Nat.zero_le _,by simpa [askL] using H0.out,Below.refl _ _⟩
 case round=>
  obtain ⟨i,rfl,hin,hJs,hKs⟩:=hrel
  obtain ⟨wo,hwo⟩:∃ wo,wo=wr:=⟨_,rfl⟩
  subst hwo
  have HJ:Hid (J (askL (nd.take i)) wo∧Below n₀ W wo):=⟨hJs,hKs⟩
  have hzr:n₀≤wo.heap.size:=Nat.le_trans hnW hKs.size
  clear hJs hKs
  by_cases hlt:i < n
  ·have hil:i < nd.length:=by have:=HN.out;omega
   have i0:(0:Int)≤(i:Int):=by omega
   have i1:(i:Int) < (n:Int):=by omega
   obtain ⟨b,off,x,rfl,hbn,c0,c1,c2,c3,hpk,hsn,hfs,hsb⟩:=(HQ.out wo HJ.out.2).at' i hil
   obtain ⟨p,nm,sa,sn,sc,da,dn,dc⟩:=x
   simp only [Nv.s] at c0 c1 c2 c3 hpk hsn hfs hsb
   obtain ⟨hk1,hk2,hk3⟩:=HO.out _ (List.getElem_mem hil)
   rw [← hpk] at hk1 hk2
   rw [← hsn] at hk3
   obtain ⟨S,hS⟩:∃ S,(nd[i]'hil).srcs=S:=⟨_,rfl⟩
   rw [hS] at hsn hfs
   have HA:Hid (askL (nd.take (i+1))=askL (nd.take i)++(whl p wName::S.map Fl.path)∧(askL (nd.take i)).length+S.length+1≤(askL nd).length∧sn=S.length):=by
    refine ⟨?_,?_,hsn⟩
    ·rw [askL_take nd i hil];unfold askN;rw [← hpk,hS]
    ·obtain ⟨r,hr⟩:=askL_cut nd i hil
     rw [hr];unfold askN;rw [hS];simp;omega
   have HFS:Hid (∀ W',Below n₀ wo W'→FS W' (.slice sa sn sc) S):=fun W' hW'=>hfs.below hW' hsb
   have HM:Hid (∀ V,Calls Tryz.prog 44 #[.string (bs p)] V fun e w'=>e=.returned (.string (bs (whl p wName)))∧Below V.heap.size V w'):=fun V=>manif_any V hk1 hk2
   clear hk1 hk2 hpk hS hfs hsb hsn
   obtain ⟨A,hA⟩:∃ A,askL (nd.take i)=A:=⟨_,rfl⟩
   rw [hA] at HJ HA
   obtain ⟨q,hqq⟩:∃ q,whl p wName=q:=⟨_,rfl⟩
   rw [hqq] at HM HA
   clear hA hqq
   obtain ⟨wn,hwn⟩:∃ wn,wo.alloc (.cells #[.string (bs p),.string (bs nm),.slice sa sn sc,.slice da dn dc] 80)=wn:=⟨_,rfl⟩
   have HWN:Hid (wo.alloc (.cells #[.string (bs p),.string (bs nm),.slice sa sn sc,.slice da dn dc] 80)=wn∧Below wo.heap.size wo wn∧J A wn∧wn.cell? ⟨wo.heap.size,0,none⟩=some (.string (bs p))∧wn.cell? ⟨wo.heap.size,2,none⟩=some (.slice sa sn sc)∧wn.heap[wo.heap.size]? = some (.cells #[.string (bs p),.string (bs nm),.slice sa sn sc,.slice da dn dc] 80 (0,0))):=by
    refine ⟨hwn,by rw [← hwn];exact balloc _ _,by rw [← hwn];exact HJA.out _ _ _ HJ.out.2.size HJ.out.1,by rw [← hwn];simp,by rw [← hwn];simp,by rw [← hwn];exact heap_alloc_new _ _⟩
   clear hwn
   gi_wp2_with fail
   rw [HWN.out.1]
   refine ⟨trivial,fun _=>by omega,(callsIn_wide.2 (HM.out _)).mono ?_⟩
   rintro e w2 ⟨rfl,hb2⟩
   have hlt0:wo.heap.size < wn.heap.size:=(Array.getElem?_eq_some_iff.1 HWN.out.2.2.2.2.2).1
   have H2:Hid (J A w2∧Below n₀ W w2∧Below n₀ wo w2∧w2.heap[wo.heap.size]? = some (.cells #[.string (bs p),.string (bs nm),.slice sa sn sc,.slice da dn dc] 80 (0,0))):=by
    have b1:Below wo.heap.size wo w2:=bstep HWN.out.2.1 hb2
    exact ⟨HJB.out _ _ _ HWN.out.2.2.1 hb2,below_trans HJ.out.2 (below_mono b1 hzr),below_mono b1 hzr,(hb2.block _ hlt0).trans HWN.out.2.2.2.2.2⟩
   clear hb2 HWN hlt0 c0 c1 c2 c3
   obtain ⟨fn,tmps,assign,body,hy,hR⟩:=HY.out A q w2 H2.out.1 (by have:=HA.out.2.1;omega)
   gi_wp2_with fail
   refine ⟨fun _=>by omega,hR.mono ?_⟩
   clear hy hR
   rintro e W3 (⟨rfl,hJ3,hk3⟩ | ⟨rfl,hJ3⟩)
   ·have hbk:=hk3.box _ _ _ H2.out.2.2.2
    have s2:W3.cell? ⟨wo.heap.size,2,none⟩=some (.slice sa sn sc):=by simp [World.cell?,hbk]
    have H3:Hid (J (A++[q]) W3∧Below n₀ W W3∧FS W3 (.slice sa sn sc) S∧Below n₀ wo W3):=⟨hJ3,below_trans H2.out.2.1 hk3.below,HFS.out W3 (below_trans H2.out.2.2.1 hk3.below),below_trans H2.out.2.2.1 hk3.below⟩
    clear hJ3 hk3 hbk
    gi_wp2_with fail
    gi_loopw [23] (fun z wr=>∃ j:Nat,z=.int .i64 j∧j≤sn∧J (A++(q::(S.take j).map Fl.path)) wr∧Below n₀ W wr∧Below n₀ wo wr) (fun z _=>sn - (intOf z).toNat)
    case atStart=>exact ⟨0,rfl,Nat.zero_le _,by simpa using H3.out.1,H3.out.2.1,H3.out.2.2.2⟩
    case round=>
     obtain ⟨j,rfl,hjn,hJs,hK1,hK2⟩:=hrel
     have H4:Hid (J (A++(q::(S.take j).map Fl.path)) wr∧Below n₀ W wr∧Below n₀ wo wr):=⟨hJs,hK1,hK2⟩
     have hz4:n₀≤wr.heap.size:=Nat.le_trans hzr hK2.size
     clear hJs hK1 hK2
     by_cases hjl:j < sn
     ·have hjS:j < S.length:=by have:=HA.out.2.2;omega
      have j0:(0:Int)≤(j:Int):=by omega
      have j1:(j:Int) < (sn:Int):=by omega
      have hfs:=HFS.out wr H4.out.2.2
      rw [HA.out.2.2] at hfs
      obtain ⟨b2,o2,ea,hb2,d0,d1,d2,d3⟩:=FS.at hfs (Below.refl _ wr) hjS
      subst ea
      have hsn:(S.take (j+1)).map Fl.path=(S.take j).map Fl.path++[(S[j]'hjS).path]:=by rw [List.take_succ_eq_append_getElem hjS,List.map_append];rfl
      obtain ⟨f,hf⟩:∃ f,S[j]'hjS=f:=⟨_,rfl⟩
      rw [hf] at d0 d1 d2 d3 hsn
      obtain ⟨fp,ft,fb,fz⟩:=f
      simp only at d0 d1 d2 d3 hsn
      have HSN:Hid (A++(q::(S.take (j+1)).map Fl.path)=(A++(q::(S.take j).map Fl.path))++[fp]∧(A++(q::(S.take j).map Fl.path)).length < (askL nd).length):=by
       refine ⟨by rw [hsn];simp,?_⟩
       have h1:=HA.out.2.1
       simp only [List.length_append,List.length_cons,List.length_map,List.length_take]
       omega
      clear hsn hf hfs
      obtain ⟨P,hP⟩:∃ P,A++(q::(S.take j).map Fl.path)=P:=⟨_,rfl⟩
      rw [hP] at H4 HSN
      clear hP
      obtain ⟨w5,hw5⟩:∃ w5,wr.alloc (.cells #[.string (bs fp),.string (bs ft),.int .i64 fb,.int .i64 fz] 55)=w5:=⟨_,rfl⟩
      have b5:Below wr.heap.size wr w5:=by rw [← hw5];exact balloc _ _
      have H5:Hid (J P w5∧Below n₀ W w5∧Below n₀ wo w5):=⟨by rw [← hw5];exact HJA.out _ _ _ H4.out.2.1.size H4.out.1,below_trans H4.out.2.1 (below_mono b5 hz4),below_trans H4.out.2.2 (below_mono b5 hz4)⟩
      obtain ⟨fn,tmps,assign,body,hy,hR⟩:=HY.out P fp w5 H5.out.1 HSN.out.2
      rw [← hw5] at hy hR
      have HW5:Hid (wr.alloc (.cells #[.string (bs fp),.string (bs ft),.int .i64 fb,.int .i64 fz] 55)=w5):=hw5
      clear b5 hw5
      gi_wp2_with fail
      refine ⟨fun _=>by omega,hR.mono ?_⟩
      clear hy hR
      rintro e W6 (⟨rfl,hJ6,hk6⟩ | ⟨rfl,hJ6⟩)
      ·rw [HW5.out] at hk6
       have H6:Hid (J (P++[fp]) W6∧Below n₀ W W6∧Below n₀ wo W6):=⟨hJ6,below_trans H5.out.2.1 hk6.below,below_trans H5.out.2.2 hk6.below⟩
       clear hJ6 hk6
       gi_wp2_with fail
       go_roundw
       case rel=>exact ⟨j+1,by go_num,by omega,by rw [HSN.out.1];exact H6.out.1,H6.out.2.1,H6.out.2.2⟩
       case measure=>simp [intOf];omega
      ·gi_wp2_with fail
       refine bodyPost_ret (results_none rfl _ _ _) rfl ?_
       exact ⟨⟨_,rfl⟩,.inr ⟨_,trivial,hJ6⟩⟩
     ·have hj2:¬ (j:Int) < (sn:Int):=by omega
      have HE:Hid (J (askL (nd.take (i+1))) wr):=by
       have h1:=H4.out.1
       rw [List.take_of_length_le (by have:=HA.out.2.2;omega)] at h1
       show J _ wr
       rw [HA.out.1];exact h1
      gi_wp2_with fail
      go_roundw
      case rel=>exact ⟨i+1,by go_num,by omega,HE.out,H4.out.2.1⟩
      case measure=>simp [intOf];omega
   ·gi_wp2_with fail
    refine bodyPost_ret (results_none rfl _ _ _) rfl ?_
    exact ⟨⟨_,rfl⟩,.inr ⟨_,trivial,hJ3⟩⟩
  ·have hieq:i=n:=by omega
   have HE:Hid (J (askL nd) wo):=by
    have h1:=HJ.out.1
    rw [List.take_of_length_le (by have:=HN.out;omega)] at h1
    exact h1
   gi_wp2_with fail
   go_end0
   exact ⟨⟨_,rfl⟩,.inl ⟨_,rfl,HE.out⟩⟩
end
section
open Go.RowKit Go.Maps
def cloL (nd:List Nd):List (List UInt8):=norm (askL nd)
theorem mem_cloL {nd:List Nd} {q:List UInt8}:q∈cloL nd↔∃ n∈nd,q=whl n.lab.pkg wName∨∃ f∈n.srcs,f.path=q:=by
 unfold cloL askL askN
 rw [mem_norm,List.mem_flatMap]
 exact exists_congr fun n=>and_congr_right fun _=>by rw [List.mem_cons,List.mem_map]
theorem mem_nds {l:List Fl} {t N:List Lb} {E:List Ee} {c:List (List UInt8)} (S:RchS l t N E c) (hf:(fltP l N E c).2=false) {n:Nd}:n∈ndsP l N E↔∃ a,Rea l t a∧n=ndF (srcL l) (fun a=>rs (oE E a)) a:=by
 have hE:∀ a b,(a,b)∈E→a∈N∧b∈N:=fun a b h=>by
  obtain ⟨h1,h2⟩:=(S.ee a b).1 h
  exact ⟨(S.nn a).2 h1,(S.nn b).2 (.step h1 h2)⟩
 have hc:crcL N E=none:=by
  unfold fltP at hf
  split at hf
  ·cases hf
  ·split at hf
   ·cases hf
   ·split at hf
    ·cases hf
    ·rename_i h3
     cases e:crcL N E with
     | none=>rfl
     | some p=>rw [e] at h3;exact absurd rfl h3
 obtain ⟨L,hL⟩:=ord_there hE hc
 obtain ⟨h1,h2,_⟩:=Gs.ordF_some _ _ _ (Gs.Tld.nil _ _) hL
 have hall:∀ a∈N,a∈L:=fun a ha=>by
  have ha':a∈rs N:=(Gs.mem_ris a N).2 ha
  by_cases hm:a∈L
  ·exact hm
  ·exfalso
   have h3:=Gs.nodup_sub (a::L) (rs N) (List.nodup_cons.2 ⟨hm,h1.nodup⟩) (fun x hx=>by
    rcases List.mem_cons.1 hx with rfl | hx
    ·exact ha'
    ·exact h1.sub x hx)
   simp only [List.length_cons,List.length_nil] at h3 h2
   omega
 unfold ndsP
 rw [hL,Option.getD_some,List.mem_map]
 constructor
 ·rintro ⟨a,ha,rfl⟩
  exact ⟨a,(S.nn a).1 ((Gs.mem_ris a N).1 (h1.sub a ha)),rfl⟩
 ·rintro ⟨a,ha,rfl⟩
  exact ⟨a,hall a ((S.nn a).2 ha),rfl⟩
theorem mem_clo {l:List Fl} {t N:List Lb} {E:List Ee} {c:List (List UInt8)} (S:RchS l t N E c) (hf:(fltP l N E c).2=false) {q:List UInt8}:q∈cloL (ndsP l N E)↔∃ a,Rea l t a∧(q=whl a.pkg wName∨∃ f∈srcL l a,f.path=q):=by
 rw [mem_cloL]
 constructor
 ·rintro ⟨n,hn,h⟩
  obtain ⟨a,ha,rfl⟩:=(mem_nds S hf).1 hn
  exact ⟨a,ha,h⟩
 ·rintro ⟨a,ha,h⟩
  exact ⟨_,(mem_nds S hf).2 ⟨a,ha,rfl⟩,h⟩
structure NoF (l:List Fl) (t:List Lb):Prop where
 brk:∀ a,Rea l t a→∀ f∈l,f.path=whl a.pkg wName→(says l a.pkg).2 = -1
 mis:∀ a,Rea l t a→misB l a=false
 crc:∀ a,Rea l t a→∀ b∈dpsL l a,¬ Rea l [b] a
 uns:∀ a,Rea l t a→unsB l a=false
theorem rea_way {l:List Fl} {t N:List Lb} {E:List Ee} {c:List (List UInt8)} (S:RchS l t N E c) {b x:Lb} (hb:Rea l t b):Rea l [b] x↔Gs.Way E b x:=by
 constructor
 ·intro h
  have key:Gs.Way E b x∧Rea l t x:=by
   induction h with
   | base hm=>
    rw [List.mem_singleton.1 hm]
    exact ⟨.refl _,hb⟩
   | step _ hd ih=>exact ⟨.step ih.1 ((S.ee _ _).2 ⟨ih.2,hd⟩),.step ih.2 hd⟩
  exact key.1
 ·intro h
  induction h with
  | refl=>exact .base (by simp)
  | step _ he ih=>exact .step ih ((S.ee _ _).1 he).2
theorem crc_none {l:List Fl} {t N:List Lb} {E:List Ee} {c:List (List UInt8)} (S:RchS l t N E c):(crcL N E).isSome=false↔∀ a,Rea l t a→∀ b∈dpsL l a,¬ Rea l [b] a:=by
 have hE:∀ a b,(a,b)∈E→a∈N∧b∈N:=fun a b h=>by
  obtain ⟨h1,h2⟩:=(S.ee a b).1 h
  exact ⟨(S.nn a).2 h1,(S.nn b).2 (.step h1 h2)⟩
 have hfree:=Gs.Pts.free stoL (pts_is N E) hE
 have h1:(crcL N E).isSome=false↔∀ p∈Gs.pts ltL N E,¬ Gs.Crc E p:=by
  unfold crcL frs
  rw [Option.isSome_eq_false_iff,Option.isNone_iff_eq_none,List.find?_eq_none]
  refine forall_congr' fun p=>forall_congr' fun hp=>not_congr ?_
  unfold crcB Gs.Crc
  rw [Bool.or_eq_true,decide_eq_true_eq]
  cases p with
  | nil=>simp
  | cons x r=>
   cases r with
   | nil=>simp
   | cons y r=>simp
 rw [h1,hfree]
 constructor
 ·intro h a ha b hb hr
  exact h a b ((S.ee a b).2 ⟨ha,hb⟩) ((rea_way S (.step ha hb)).1 hr)
 ·intro h a b he hw
  obtain ⟨ha,hb⟩:=(S.ee a b).1 he
  exact h a ha b hb ((rea_way S (.step ha hb)).2 hw)
theorem noF_iff {l:List Fl} {t N:List Lb} {E:List Ee} {c:List (List UInt8)} (S:RchS l t N E c):(fltP l N E c).2=false↔NoF l t:=by
 have hbk:l.any (isBk l c)=false↔∀ a,Rea l t a→∀ f∈l,f.path=whl a.pkg wName→(says l a.pkg).2 = -1:=by
  rw [List.any_eq_false]
  constructor
  ·intro h a ha f hf he
   have h1:=h f hf
   unfold isBk at h1
   rw [he,brkL_some ((S.cc a.pkg).2 ⟨a,ha,rfl⟩)] at h1
   simpa using h1
  ·intro h f hf
   unfold isBk
   by_cases k:∃ p,p∈c∧f.path=whl p wName
   ·obtain ⟨p,hp,e⟩:=k
    obtain ⟨a,ha,rfl⟩:=(S.cc p).1 hp
    rw [e,brkL_some hp,h a ha f hf e]
    simp
   ·rw [brkL_none k]
    simp
 have hmi:(rs N).any (misB l)=false↔∀ a,Rea l t a→misB l a=false:=by
  rw [List.any_eq_false]
  constructor
  ·intro h a ha
   simpa using h a ((Gs.mem_ris a N).2 ((S.nn a).2 ha))
  ·intro h a ha
   rw [h a ((S.nn a).1 ((Gs.mem_ris a N).1 ha))]
   simp
 have hun:(rs N).any (unsB l)=false↔∀ a,Rea l t a→unsB l a=false:=by
  rw [List.any_eq_false]
  constructor
  ·intro h a ha
   simpa using h a ((Gs.mem_ris a N).2 ((S.nn a).2 ha))
  ·intro h a ha
   rw [h a ((S.nn a).1 ((Gs.mem_ris a N).1 ha))]
   simp
 have hcr:=crc_none S
 unfold fltP
 constructor
 ·intro h
  split at h
  ·cases h
  ·rename_i b1
   split at h
   ·cases h
   ·rename_i b2
    split at h
    ·cases h
    ·rename_i b3
     exact ⟨hbk.1 (by simpa using b1),hmi.1 (by simpa using b2),hcr.1 (by simpa using b3),hun.1 h⟩
 ·intro h
  rw [hbk.2 h.brk,hmi.2 h.mis,hcr.2 h.crc,hun.2 h.uns]
  rfl
theorem bld_zero {l:List Fl} {t N:List Lb} {E:List Ee} {c:List (List UInt8)} (S:refE l t=0→RchS l t N E c):(bldP l t N E c).2.code=0↔refE l t=0∧NoF l t:=by
 rcases bld_ok (l:=l) (t:=t) (N:=N) (E:=E) (c:=c) with ⟨h,_⟩ | ⟨h,h0,hf,_⟩
 ·refine ⟨fun e=>absurd e h,fun ⟨h0,hn⟩=>?_⟩
  have hf:=(noF_iff (S h0)).2 hn
  unfold bldP at h
  rw [if_pos h0,hf] at h
  exact absurd rfl h
 ·exact ⟨fun _=>⟨h0,(noF_iff (S h0)).1 hf⟩,fun _=>h⟩
theorem clo_file {l:List Fl} {t N:List Lb} {E:List Ee} {c:List (List UInt8)} (S:RchS l t N E c) (hf:(fltP l N E c).2=false) {q:List UInt8} (h:q∈cloL (ndsP l N E)):∃ f∈l,f.path=q:=by
 have hn:=(noF_iff S).1 hf
 obtain ⟨a,ha,hq⟩:=(mem_clo S hf).1 h
 rcases hq with rfl | ⟨f,hf,rfl⟩
 ·have hm:=hn.mis a ha
  unfold misB at hm
  cases e:tgtL l a with
  | none=>rw [e] at hm;cases hm
  | some T=>
   have h1:=(tgt_good e).2.2
   unfold says at h1
   cases e2:fnd l (whl a.pkg wName) with
   | none=>rw [e2] at h1;simp at h1
   | some g=>exact ⟨g,fnd_in e2,fnd_path e2⟩
 ·unfold srcL keep at hf
  exact ⟨f,(List.mem_filter.1 hf).1,rfl⟩
theorem clo_prt {l:List Fl} {t N:List Lb} {E:List Ee} {c ps:List (List UInt8)} (S:RchS l t N E c) (hf:(fltP l N E c).2=false) (h:∀ q∈cloL (ndsP l N E),q∈ps):Prt l (keep l ps) t:=by
 refine ⟨List.filter_sublist,fun a ha f hfl he=>?_,fun a ha f hfs=>?_⟩
 ·unfold keep
  refine List.mem_filter.2 ⟨hfl,?_⟩
  rw [decide_eq_true_eq]
  exact h _ ((mem_clo S hf).2 ⟨a,ha,.inl he⟩)
 ·have hfl:f∈l:=by
   unfold srcL keep at hfs
   exact (List.mem_filter.1 hfs).1
  unfold keep
  refine List.mem_filter.2 ⟨hfl,?_⟩
  rw [decide_eq_true_eq]
  exact h _ ((mem_clo S hf).2 ⟨a,ha,.inr ⟨f,hfs,rfl⟩⟩)
theorem clo_needs {l p:List Fl} {t N M:List Lb} {E F:List Ee} {d:List (List UInt8)} (S:RchS p t M F d) (hf:(fltP p M F d).2=false) (hn:ndsP p M F=ndsP l N E):∀ q∈cloL (ndsP l N E),∃ f∈p,f.path=q:=fun q hq=>by
 rw [← hn] at hq
 exact clo_file S hf hq
theorem keep_len {l:List Fl} {ps:List (List UInt8)} (hv:validE l=0) (hu:Up ps) (h:∀ q∈ps,∃ f∈l,f.path=q):(keep l ps).length=ps.length:=by
 have hp:=stand_pw hv
 have e:(keep l ps).map Fl.path=ps:=by
  refine up_unique ?_ hu (fun x=>?_)
  ·unfold Up keep
   rw [List.pairwise_map]
   refine (hp.sublist List.filter_sublist).imp (fun hab=>?_)
   unfold fol at hab
   simp only [Bool.and_eq_true,decide_eq_true_eq] at hab
   exact hab.1
  ·rw [List.mem_map]
   constructor
   ·rintro ⟨f,hf,rfl⟩
    unfold keep at hf
    simpa using (List.mem_filter.1 hf).2
   ·intro hx
    obtain ⟨f,hf,rfl⟩:=h x hx
    refine ⟨f,?_,rfl⟩
    unfold keep
    exact List.mem_filter.2 ⟨hf,by simpa using hx⟩
 have h1:=congrArg List.length e
 rw [List.length_map] at h1
 exact h1
end
end Go.Proofs.YtppnbdnpapellaaGreatDoor
