import Derived.Test.YtppnbdnpapellaaGreatDoorJFd
import Derived.Shelf.SlSortCmp.NoneTotal
import Derived.Shelf.SlicesG.Clone
import Derived.Shelf.SlicesG.CompactS
import Derived.Shelf.SlCmpFuncs.BinarySearchFunc
import Derived.Test.YtppnbdnpapellaaGreatDoorProg
set_option maxRecDepth 100000
set_option maxHeartbeats 16000000
namespace Go.Proofs.YtppnbdnpapellaaGreatDoor
section
open Go.RowKit
theorem src_own {w:World} (B:Nat) (hB:B≤w.heap.size) (f:Fl):OwnF B (w.alloc (.cells #[.string (bs f.path),.string (bs f.text),.int .i64 f.blob,.int .i64 f.size] 55)) (.slice (some ⟨w.heap.size,0,none⟩) 1 1) [f]:=by
 have:=World.ownsRow_lit (size:=4) (e:=55) w #[.string (bs f.path),.string (bs f.text),.int .i64 f.blob,.int .i64 f.size] 1 hB (by simp [maxLen]) rfl
 exact this
theorem named_any {w:World} {v:Value} {l:List Fl} (q:List UInt8) (h:FS w v l) (sm:FQ l) :
  Calls Tryz.prog 104 #[v,.string (bs q)] w fun e w'=>∃ u,e=.returned (.tuple #[u,.bool (fnd l q).isSome])∧OwnF w.heap.size w' u (fnd l q).toList∧Below w.heap.size w w':=by
 have HF:Hid (Calls Tryz.prog 136 #[v,.string (bs q)] w fun e w'=>e=.returned (.tuple #[(fopt (fnd l q)).val,.bool (fnd l q).isSome])∧Below w.heap.size w w'):=find_any q h sm
 obtain ⟨r,hr⟩:∃ r,fnd l q=r:=⟨_,rfl⟩
 rw [hr] at HF ⊢
 clear hr
 cases r with
 | none=>
  have HF':Hid (Calls Tryz.prog 136 #[v,.string (bs q)] w fun e w'=>e=.returned (.tuple #[.agg #[.string (bs []),.string (bs []),.int .i64 0,.int .i64 0],.bool false])∧Below w.heap.size w w'):=HF.out
  clear HF
  go_enter Tryz.func104,Tryz.ntmps104
  go_wp2_with fail
  refine HF'.out.mono ?_
  rintro e w1 ⟨rfl,hb⟩
  have HB:Hid (Below w.heap.size w w1):=hb
  clear hb
  go_wp2_with fail
  go_ret2
  exact ⟨_,rfl,OwnF.nil _ _,bstep HB.out (balloc _ _)⟩
 | some f=>
  obtain ⟨p,t,b,s⟩:=f
  have HF':Hid (Calls Tryz.prog 136 #[v,.string (bs q)] w fun e w'=>e=.returned (.tuple #[.agg #[.string (bs p),.string (bs t),.int .i64 b,.int .i64 s],.bool true])∧Below w.heap.size w w'):=HF.out
  clear HF
  go_enter Tryz.func104,Tryz.ntmps104
  go_wp2_with fail
  refine HF'.out.mono ?_
  rintro e w1 ⟨rfl,hb⟩
  have HB:Hid (Below w.heap.size w w1):=hb
  clear hb
  go_wp2_with fail
  go_ret2
  have z:(w1.alloc (.cells #[.string (bs p),.string (bs t),.int .i64 b,.int .i64 s] 55)).heap.size=w1.heap.size+1:=by simp
  have:=src_own (w:=w1.alloc (.cells #[.string (bs p),.string (bs t),.int .i64 b,.int .i64 s] 55)) w.heap.size (by have:=HB.out.size;omega) ⟨p,t,b,s⟩
  rw [z] at this
  exact ⟨_,rfl,this,bstep (bstep HB.out (balloc _ _)) (balloc _ _)⟩
def selD (D x y:List UInt8) (f:Fl):Bool:=decide (dir f.path=D) && !decide (base f.path=wName) && fts x y (base f.path)
theorem filter_step {α:Type} (l:List α) (P:α→Bool) (k:Nat) (h:k < l.length):(l.take (k+1)).filter P=(l.take k).filter P++(if P (l[k]'h)=true then [l[k]'h] else []):=by
 rw [List.take_succ_eq_append_getElem h,List.filter_append]
 congr 1
 by_cases hp:P (l[k]'h)=true
 ·simp [hp]
 ·simp [hp]
theorem matched_any {w:World} {v u:Value} {l:List Fl} {x y:List UInt8} (D:List UInt8) (h:FS w v l) (sm:FQ l) (hp:PC w u x y) (hx:x.length≤1000000000) (hy:y.length≤1000000000) :
  Calls Tryz.prog 106 #[v,.string (bs D),u] w fun e w'=>∃ r,e=.returned r∧OwnF w.heap.size w' r (l.filter (selD D x y))∧Below w.heap.size w w':=by
 have HPC:Hid (PC w u x y):=hp
 obtain ⟨ua,ub,rfl,hua,hub⟩:=hp
 obtain ⟨p1,c1,rfl,_⟩:=id hua
 obtain ⟨p2,c2,rfl,_⟩:=id hub
 clear hua hub
 rename_i hq1 hq2
 clear hq1 hq2
 have SM:Hid (FQ l):=sm
 obtain ⟨a,c,rfl,_⟩:=h.form
 have H':Hid (FS w (.slice a l.length c) l):=h
 obtain ⟨n,hn⟩:∃ n,l.length=n:=⟨_,rfl⟩
 have hlen:n≤4000000:=hn▸sm.len
 rw [hn]
 have HN:Hid (l.length=n):=hn
 clear hn h sm
 rename_i hform
 clear hform
 have HXY:Hid (x.length≤1000000000∧y.length≤1000000000):=⟨hx,hy⟩
 clear hx hy
 have e3:=c_name
 have eD:=bs_toList D
 go_enter Tryz.func106,Tryz.ntmps106
 go_wp2_with fail
 go_loopw [7,13] (fun r i wr=>∃ k:Nat,k≤n∧i=.int .i64 k∧OwnF (w.heap.size+1) wr r ((l.take k).filter (selD D x y))∧Below w.heap.size w wr∧wr.cell? ⟨w.heap.size,0,none⟩=some (.slice p1 x.length c1)∧wr.cell? ⟨w.heap.size,1,none⟩=some (.slice p2 y.length c2)∧w.heap.size < wr.heap.size) (fun _ i _=>n - (intOf i).toNat)
 case atStart=>exact ⟨0,by omega,rfl,OwnF.nil _ _,balloc _ _,by simp,by simp,by simp⟩
 case round=>
  obtain ⟨k,hk,rfl,ho,hb,hc0,hc1,hz⟩:=hrel
  have HB:Hid (Below w.heap.size w wr):=hb
  have HC:Hid (wr.cell? ⟨w.heap.size,0,none⟩=some (.slice p1 x.length c1)∧wr.cell? ⟨w.heap.size,1,none⟩=some (.slice p2 y.length c2)):=⟨hc0,hc1⟩
  have HO:Hid (OwnF (w.heap.size+1) wr _ ((l.take k).filter (selD D x y))):=ho
  have hkl0:((l.take k).filter (selD D x y)).length≤4000000:=by
   have h1:=List.length_filter_le (selD D x y) (l.take k)
   have h2:(l.take k).length≤l.length:=by simp;omega
   have:=HN.out
   omega
  obtain ⟨ao,co,eo⟩:=ho.form
  subst eo
  obtain ⟨no,hno⟩:∃ no,((l.take k).filter (selD D x y)).length=no:=⟨_,rfl⟩
  rw [hno] at HO hkl0 ⊢
  clear ho hb hc0 hc1
  by_cases hlt:k < n
  ·have hkl:k < l.length:=by have:=HN.out;omega
   obtain ⟨b,off,ea,hbw,d0,d1,d2,d3⟩:=FS.at H'.out HB.out hkl
   subst ea
   have F:Hid (l[k].path.length≤100000000):=SM.out.pat hkl
   have HK:Hid ((l.take (k+1)).filter (selD D x y)=(l.take k).filter (selD D x y)++if selD D x y (l[k]'hkl)=true then [l[k]'hkl] else []):=filter_step l _ k hkl
   obtain ⟨f,hf⟩:∃ f,l[k]=f:=⟨_,rfl⟩
   rw [hf] at d0 d1 d2 d3 F HK
   clear hf
   obtain ⟨p,t,bl,s⟩:=f
   simp only at d0 d1 d2 d3
   have k1:(0:Int)≤(k:Int):=by omega
   have k2:(k:Int) < (n:Int):=by omega
   go_wp2_with fail
   obtain ⟨w2,hw2⟩:∃ w2,wr.alloc (.cells #[.string (bs p),.string (bs t),.int .i64 bl,.int .i64 s] 55)=w2:=⟨_,rfl⟩
   have FB2:Hid (FB w2 wr.heap.size ⟨p,t,bl,s⟩):=by rw [← hw2];exact FB.new wr ⟨p,t,bl,s⟩ 55
   have HB2:Hid (Below wr.heap.size wr w2):=by rw [← hw2];exact balloc _ _
   rw [hw2]
   clear hw2 d0 d1 d2 d3
   have hz2:=HB2.out.size
   refine (base_any p _ (by have:p.length≤100000000:=F.out;omega)).mono ?_
   rintro e w3 ⟨rfl,hw3⟩
   obtain rfl:w2=w3:=hw3.symm
   obtain ⟨g0,g1,g2,g3,hlt3⟩:=FB2.out
   simp only at g0 g1 g2 g3
   have O3:Hid (OwnF (w.heap.size+1) w2 (.slice ao no co) ((l.take k).filter (selD D x y))):=HO.out.later HB2.out
   have b0:w2.cell? ⟨w.heap.size,0,none⟩=some (.slice p1 x.length c1):=(HB2.out.cell (p:=⟨w.heap.size,0,none⟩) hz).trans HC.out.1
   have b1:w2.cell? ⟨w.heap.size,1,none⟩=some (.slice p2 y.length c2):=(HB2.out.cell (p:=⟨w.heap.size,1,none⟩) hz).trans HC.out.2
   have HW2:Hid (Below w.heap.size w w2):=bstep HB.out HB2.out
   go_wp2_with fail
   refine (dir_any p _ (by have:p.length≤100000000:=F.out;omega)).mono ?_
   rintro e w3 ⟨rfl,hw3⟩
   obtain rfl:w2=w3:=hw3.symm
   have HSel:Hid (selD D x y ⟨p,t,bl,s⟩=(decide (dir p=D) && !decide (base p=wName) && fts x y (base p))):=rfl
   have hbl:Hid ((base p).length≤1000000000):=by
    have h1:=base_len p
    have h2:p.length≤100000000:=F.out
    exact (by omega:(base p).length≤1000000000)
   have ed:=bs_toList (dir p)
   have eb:=bs_toList (base p)
   generalize dir p=dp at *
   generalize base p=bp at *
   by_cases hd:dp=D
   rotate_left
   ·have hd':(dp == D)=false:=by simpa using hd
    have HS:Hid (selD D x y ⟨p,t,bl,s⟩=false):=by
     show _=_
     rw [HSel.out,decide_eq_false hd];rfl
    clear hd HSel
    go_wp2_with fail
    go_roundw
    case rel=>
     refine ⟨k+1,by omega,by go_num,?_,HW2.out,b0,b1,by omega⟩
     rw [HK.out,if_neg (by rw [HS.out];simp),List.append_nil];exact O3.out
    case measure=>simp [intOf];omega
   have hd':(dp == D)=true:=by simpa using hd
   have HD:Hid (decide (dp=D)=true):=decide_eq_true hd
   clear hd
   by_cases hn0:bp=wName
   ·have hn':(bp == wName)=true:=by simpa using hn0
    have HS:Hid (selD D x y ⟨p,t,bl,s⟩=false):=by
     show _=_
     rw [HSel.out,decide_eq_true hn0];simp
    clear hn0 HSel
    go_wp2_with fail
    go_roundw
    case rel=>
     refine ⟨k+1,by omega,by go_num,?_,HW2.out,b0,b1,by omega⟩
     rw [HK.out,if_neg (by rw [HS.out];simp),List.append_nil];exact O3.out
    case measure=>simp [intOf];omega
   have hn':(bp == wName)=false:=by simpa using hn0
   have HS1:Hid (selD D x y ⟨p,t,bl,s⟩=fts x y bp):=by
    show _=_
    rw [HSel.out,HD.out,decide_eq_false hn0];simp
   clear hn0 HSel HD
   go_wp2_with fail
   refine (fits_any (HPC.out.later HW2.out) bp HXY.out.1 HXY.out.2 hbl.out).mono ?_
   rintro e w4 ⟨rfl,hb4⟩
   rw [← HS1.out]
   have HB4:Hid (Below w2.heap.size w2 w4):=hb4
   have O4:Hid (OwnF (w.heap.size+1) w4 (.slice ao no co) ((l.take k).filter (selD D x y))):=O3.out.later hb4
   obtain ⟨q0,q1,q2,q3,hlt4⟩:=FB2.out.later hb4
   simp only at q0 q1 q2 q3
   have hz4:=hb4.size
   have B0:Hid (w4.cell? ⟨w.heap.size,0,none⟩=some (.slice p1 x.length c1)∧w4.cell? ⟨w.heap.size,1,none⟩=some (.slice p2 y.length c2)):=⟨(hb4.cell (p:=⟨w.heap.size,0,none⟩) (by show w.heap.size < _;omega)).trans b0,(hb4.cell (p:=⟨w.heap.size,1,none⟩) (by show w.heap.size < _;omega)).trans b1⟩
   have HW4:Hid (Below w.heap.size w w4):=bstep HW2.out hb4
   clear hb4 b0 b1 g0 g1 g2 g3 HS1
   generalize hs:selD D x y ⟨p,t,bl,s⟩=r at *
   cases r
   ·go_wp2_with fail
    go_roundw
    case rel=>
     refine ⟨k+1,by omega,by go_num,?_,HW4.out,B0.out.1,B0.out.2,by omega⟩
     rw [HK.out,if_neg (by simp),List.append_nil];exact O4.out
    case measure=>simp [intOf];omega
   ·go_wp2_with (at_builtin;refine app_files (base:=w.heap.size+1) (l:=(l.take k).filter (selD D x y)) (k:=[⟨p,t,bl,s⟩]) (O4.out.later (balloc _ _)) (src_file _ ⟨p,t,bl,s⟩) (by simp only [List.length_cons,List.length_nil,hno];omega) (by simp;omega) rfl _ _ rfl rfl rfl ?_;intro v5 w5 ho5 hg5 _)
    go_roundw
    case rel=>
     have HB5:Below (w.heap.size+1) w4 w5:=(below_mono (balloc w4 _) (by omega)).grown hg5 (by simp;omega) (fun j hj=>(O4.out.lt hj).1)
     refine ⟨k+1,by omega,by go_num,?_,below_trans HW4.out (below_mono HB5 (by omega)),(HB5.cell (p:=⟨w.heap.size,0,none⟩) (by show w.heap.size < _;omega)).trans B0.out.1,(HB5.cell (p:=⟨w.heap.size,1,none⟩) (by show w.heap.size < _;omega)).trans B0.out.2,by have:=HB5.size;omega⟩
     rw [HK.out,if_pos trivial];exact ho5
    case measure=>simp [intOf];omega
  ·obtain rfl:k=n:=by omega
   go_wp2_with fail
   go_ret
   refine ⟨_,rfl,?_,HB.out⟩
   have e:l.take k=l:=List.take_of_length_le (by have:=HN.out;omega)
   have:=HO.out
   rw [e] at this
   exact this.mono (by omega)
end
section
open Go.RowKit
theorem exl_lit {l:List Fl} {J:List UInt8} (h:litP J=true):exl l J=((fnd l J).toList,(fnd l J).isSome):=by
 unfold exl
 rw [if_pos h]
 cases fnd l J<;>rfl
theorem exl_star {l:List Fl} {J:List UInt8} (h1:litP J=false) (h:starP J=true):exl l J=(l.filter (sel J),true):=by
 unfold exl
 rw [if_neg (by rw [h1];simp),if_pos h]
theorem exl_none {l:List Fl} {J:List UInt8} (h1:litP J=false) (h:starP J=false):exl l J=([],false):=by
 unfold exl
 rw [if_neg (by rw [h1];simp),if_neg (by rw [h];simp)]
theorem whl_len (p s:List UInt8):(whl p s).length≤p.length+s.length+1:=by
 unfold whl;split
 ·omega
 ·simp;omega
theorem expand_any {w:World} {v:Value} {l:List Fl} (p s:List UInt8) (h:FS w v l) (sm:FQ l) (E:Ev w) (hp:p.length≤400000000) (hs:s.length≤400000000) :
  Calls Tryz.prog 64 #[v,.string (bs p),.string (bs s)] w fun e w'=>∃ u,e=.returned (.tuple #[u,.bool (exl l (whl p s)).2])∧OwnF w.heap.size w' u (exl l (whl p s)).1∧Below w.heap.size w w':=by
 have HJ:Hid (Calls Tryz.prog 102 #[.string (bs p),.string (bs s)] w fun e w'=>e=.returned (.string (bs (whl p s)))∧w'=w):=below_any p s w (by omega) (by omega)
 have hJl:=whl_len p s
 generalize whl p s=J at *
 have hJ:J.length≤1000000000:=by omega
 have HL:Hid (Calls Tryz.prog 103 #[.string (bs J)] w fun e w'=>e=.returned (.bool (litP J))∧Below w.heap.size w w'):=litP_any J w hJ
 have HS:Hid (∀ W:World,Below w.heap.size w W→Calls Tryz.prog 105 #[.string (bs J)] W fun e w'=>e=.returned (.bool (starP J))∧Below W.heap.size W w'):=fun W hW=>starP_any J (E.later hW) hJ
 have H:Hid (FS w v l):=h
 have SM:Hid (FQ l):=sm
 clear h sm hJl hp hs
 cases hl:litP J
 ·rw [hl] at HL
  cases hst:starP J
  ·rw [hst] at HS
   rw [exl_none hl hst]
   clear hl hst
   go_enter Tryz.func64,Tryz.ntmps64
   go_wp2_with fail
   refine HJ.out.mono ?_
   rintro e w0 ⟨rfl,hw0⟩
   obtain rfl:w=w0:=hw0.symm
   go_wp2_with fail
   refine HL.out.mono ?_
   rintro e w1 ⟨rfl,hb1⟩
   have HB1:Hid (Below w.heap.size w w1):=hb1
   clear hb1
   go_wp2_with fail
   refine (HS.out _ HB1.out).mono ?_
   rintro e w2 ⟨rfl,hb2⟩
   have HB2:Hid (Below w.heap.size w w2):=bstep HB1.out hb2
   clear hb2
   go_wp2_with fail
   go_ret2
   exact ⟨_,rfl,OwnF.nil _ _,HB2.out⟩
  ·rw [hst] at HS
   rw [exl_star hl hst]
   have hb42:(42:UInt8)∈base J:=star_42 hst
   have hbl:=base_len J
   have HD:Hid (∀ W:World,Calls Tryz.prog 107 #[.string (bs J)] W fun e w'=>e=.returned (.string (bs (dir J)))∧w'=W):=fun W=>dir_any J W (by omega)
   have HBs:Hid (∀ W:World,Calls Tryz.prog 109 #[.string (bs J)] W fun e w'=>e=.returned (.string (bs (base J)))∧w'=W):=fun W=>base_any J W (by omega)
   have HC:Hid (∀ W:World,Calls Tryz.prog 108 #[.string (bs (base J))] W fun e w'=>∃ v,e=.returned v∧PC w' v (hd42 (base J)) (tl42 (base J))∧Below W.heap.size W w'):=fun W=>gcut_any (base J) W hb42 (by omega)
   have HM:Hid (∀ (W:World) (u:Value),Below w.heap.size w W→PC W u (hd42 (base J)) (tl42 (base J))→Calls Tryz.prog 106 #[v,.string (bs (dir J)),u] W fun e w'=>∃ r,e=.returned r∧OwnF W.heap.size w' r (l.filter (sel J))∧Below W.heap.size W w'):=fun W u hW hu=>
    matched_any (dir J) (H.out.later hW) SM.out hu (by have:=hd42_len (base J);omega) (by have:=tl42_len (base J);omega)
   clear hl hst hb42 hbl
   go_enter Tryz.func64,Tryz.ntmps64
   go_wp2_with fail
   refine HJ.out.mono ?_
   rintro e w0 ⟨rfl,hw0⟩
   obtain rfl:w=w0:=hw0.symm
   go_wp2_with fail
   refine HL.out.mono ?_
   rintro e w1 ⟨rfl,hb1⟩
   have HB1:Hid (Below w.heap.size w w1):=hb1
   clear hb1
   go_wp2_with fail
   refine (HS.out _ HB1.out).mono ?_
   rintro e w2 ⟨rfl,hb2⟩
   have HB2:Hid (Below w.heap.size w w2):=bstep HB1.out hb2
   clear hb2
   go_wp2_with fail
   refine (HD.out _).mono ?_
   rintro e w3 ⟨rfl,hw3⟩
   obtain rfl:w2=w3:=hw3.symm
   go_wp2_with fail
   refine (HBs.out _).mono ?_
   rintro e w3 ⟨rfl,hw3⟩
   obtain rfl:w2=w3:=hw3.symm
   go_wp2_with fail
   refine (HC.out _).mono ?_
   rintro e w4 ⟨u,rfl,hu,hb4⟩
   have HU:Hid (PC w4 u (hd42 (base J)) (tl42 (base J))):=hu
   have HB4:Hid (Below w.heap.size w w4):=bstep HB2.out hb4
   clear hu hb4
   go_wp2_with fail
   refine (HM.out _ _ HB4.out HU.out).mono ?_
   rintro e w5 ⟨r,rfl,hr,hb5⟩
   have HR:Hid (OwnF w.heap.size w5 r (l.filter (sel J))):=hr.mono HB4.out.size
   have HB5:Hid (Below w.heap.size w w5):=bstep HB4.out hb5
   clear hr hb5
   go_wp2_with fail
   go_ret2
   exact ⟨_,rfl,HR.out,HB5.out⟩
 ·rw [hl] at HL
  rw [exl_lit hl]
  have HN:Hid (∀ W:World,Below w.heap.size w W→Calls Tryz.prog 104 #[v,.string (bs J)] W fun e w'=>∃ u,e=.returned (.tuple #[u,.bool (fnd l J).isSome])∧OwnF W.heap.size w' u (fnd l J).toList∧Below W.heap.size W w'):=fun W hW=>named_any J (H.out.later hW) SM.out
  clear hl
  go_enter Tryz.func64,Tryz.ntmps64
  go_wp2_with fail
  refine HJ.out.mono ?_
  rintro e w0 ⟨rfl,hw0⟩
  obtain rfl:w=w0:=hw0.symm
  go_wp2_with fail
  refine HL.out.mono ?_
  rintro e w1 ⟨rfl,hb1⟩
  have HB1:Hid (Below w.heap.size w w1):=hb1
  clear hb1
  go_wp2_with fail
  refine (HN.out _ HB1.out).mono ?_
  rintro e w2 ⟨u,rfl,hu,hb2⟩
  have HU:Hid (OwnF w.heap.size w2 u (fnd l J).toList):=hu.mono HB1.out.size
  have HB2:Hid (Below w.heap.size w w2):=bstep HB1.out hb2
  clear hu hb2
  go_wp2_with fail
  go_ret2
  exact ⟨_,rfl,HU.out,HB2.out⟩
end
end Go.Proofs.YtppnbdnpapellaaGreatDoor
namespace Go.Proofs
open Go.Shelf
def Tryz.sortS_ren:Go.Shelf.Ren:=⟨fun | 6=>78 | 15=>128 | 14=>127 | 28=>169 | 29=>170 | 20=>161 | 21=>162 | 22=>163 | 23=>164 | 24=>165 | 25=>166 | 26=>167 | 27=>168 | 46=>199 | 47=>200 | 48=>201 | 49=>202 | 50=>203 | 57=>237 | n=>n,fun | 22=>24 | 24=>9 | 25=>78 | 3=>3 | 39=>113 | 0=>0 | 53=>212 | 55=>214 | 4=>4 | 46=>206 | 45=>205 | 50=>76 | 5=>5 | 9=>9 | 66=>238 | 70=>242 | 76=>278 | 77=>114 | n=>n,fun | n=>n⟩
theorem Tryz.sortS:Go.Proofs.SlLaysF.n6 Tryz.prog Tryz.sortS_ren:={
 mixed:=by kernel_rfl
 f6:=⟨Tryz.f78.name,by decide,Tryz.func78.trans (congrArg some (by kernel_rfl))⟩
 f14:=⟨Tryz.f127.name,by decide,Tryz.func127.trans (congrArg some (by kernel_rfl))⟩
 f15:=Tryz.func128.trans (congrArg some (by kernel_rfl))
 f20:=⟨Tryz.f161.name,by decide,Tryz.func161.trans (congrArg some (by kernel_rfl))⟩
 f21:=⟨Tryz.f162.name,by decide,Tryz.func162.trans (congrArg some (by kernel_rfl))⟩
 f22:=⟨Tryz.f163.name,by decide,Tryz.func163.trans (congrArg some (by kernel_rfl))⟩
 f23:=⟨Tryz.f164.name,by decide,Tryz.func164.trans (congrArg some (by kernel_rfl))⟩
 f24:=⟨Tryz.f165.name,by decide,Tryz.func165.trans (congrArg some (by kernel_rfl))⟩
 f25:=⟨Tryz.f166.name,by decide,Tryz.func166.trans (congrArg some (by kernel_rfl))⟩
 f26:=⟨Tryz.f167.name,by decide,Tryz.func167.trans (congrArg some (by kernel_rfl))⟩
 f27:=⟨Tryz.f168.name,by decide,Tryz.func168.trans (congrArg some (by kernel_rfl))⟩
 f28:=Tryz.func169.trans (congrArg some (by kernel_rfl))
 f29:=Tryz.func170.trans (congrArg some (by kernel_rfl))
 f46:=⟨Tryz.f199.name,by decide,Tryz.func199.trans (congrArg some (by kernel_rfl))⟩
 f47:=Tryz.func200.trans (congrArg some (by kernel_rfl))
 f48:=Tryz.func201.trans (congrArg some (by kernel_rfl))
 f49:=⟨Tryz.f202.name,by decide,Tryz.func202.trans (congrArg some (by kernel_rfl))⟩
 f50:=⟨Tryz.f203.name,by decide,Tryz.func203.trans (congrArg some (by kernel_rfl))⟩
 f57:=⟨Tryz.f237.name,by decide,Tryz.func237.trans (congrArg some (by kernel_rfl))⟩
 t0:=Tryz.underlying0
 a0:=Tryz.isAgg0
 z0:=Tryz.sizeOf0
 v0:=Tryz.zeroValue0
 t3:=Tryz.underlying3
 a3:=Tryz.isAgg3
 z3:=Tryz.sizeOf3
 v3:=Tryz.zeroValue3
 t4:=Tryz.underlying4
 a4:=Tryz.isAgg4
 z4:=Tryz.sizeOf4
 v4:=Tryz.zeroValue4
 t5:=Tryz.underlying5
 a5:=Tryz.isAgg5
 z5:=Tryz.sizeOf5
 v5:=Tryz.zeroValue5
 t9:=Tryz.underlying9
 a9:=Tryz.isAgg9
 z9:=Tryz.sizeOf9
 v9:=Tryz.zeroValue9
 t22:=Tryz.underlying24
 a22:=Tryz.isAgg24
 z22:=Tryz.sizeOf24
 v22:=Tryz.zeroValue24
 a24:=Tryz.isAgg9
 z24:=Tryz.sizeOf9
 t25:=Tryz.underlying78
 a25:=Tryz.isAgg78
 z25:=Tryz.sizeOf78
 v25:=Tryz.zeroValue78
 t39:=Tryz.underlying113
 a39:=Tryz.isAgg113
 z39:=Tryz.sizeOf113
 v39:=Tryz.zeroValue113
 t45:=Tryz.underlying205
 a45:=Tryz.isAgg205
 z45:=Tryz.sizeOf205
 v45:=Tryz.zeroValue205
 t46:=Tryz.underlying206
 a46:=Tryz.isAgg206
 z46:=Tryz.sizeOf206
 v46:=Tryz.zeroValue206
 t50:=Tryz.underlying76
 a50:=Tryz.isAgg76
 z50:=Tryz.sizeOf76
 v50:=Tryz.zeroValue76
 t53:=Tryz.underlying212
 a53:=Tryz.isAgg212
 z53:=Tryz.sizeOf212
 v53:=Tryz.zeroValue212
 t55:=Tryz.underlying214
 a55:=Tryz.isAgg214
 z55:=Tryz.sizeOf214
 v55:=Tryz.zeroValue214
 t66:=Tryz.underlying238
 a66:=Tryz.isAgg238
 z66:=Tryz.sizeOf238
 v66:=Tryz.zeroValue238
 t70:=Tryz.underlying242
 a70:=Tryz.isAgg242
 z70:=Tryz.sizeOf242
 v70:=Tryz.zeroValue242
 t76:=Tryz.underlying278
 a76:=Tryz.isAgg278
 z76:=Tryz.sizeOf278
 v76:=Tryz.zeroValue278
 t77:=Tryz.underlying114
 a77:=Tryz.isAgg114
 z77:=Tryz.sizeOf114
 v77:=Tryz.zeroValue114 }
def Tryz.cloneS_ren:Go.Shelf.Ren:=⟨fun | 42=>46 | n=>n,fun | 25=>24 | 26=>9 | 4=>4 | n=>n,fun | n=>n⟩
theorem Tryz.cloneS:Go.Proofs.SlLaysN.n42 Tryz.prog Tryz.cloneS_ren:={
 mixed:=by kernel_rfl
 f42:=⟨Tryz.f46.name,by decide,Tryz.func46.trans (congrArg some (by kernel_rfl))⟩
 t4:=Tryz.underlying4
 a4:=Tryz.isAgg4
 z4:=Tryz.sizeOf4
 v4:=Tryz.zeroValue4
 t25:=Tryz.underlying24
 a25:=Tryz.isAgg24
 z25:=Tryz.sizeOf24
 v25:=Tryz.zeroValue24
 t26:=Tryz.underlying9
 a26:=Tryz.isAgg9
 z26:=Tryz.sizeOf9
 v26:=Tryz.zeroValue9
 i26:=by kernel_rfl }
def Tryz.compactS_ren:Go.Shelf.Ren:=⟨fun | 44=>79 | n=>n,fun | 25=>24 | 26=>9 | 3=>3 | 4=>4 | 0=>0 | n=>n,fun | n=>n⟩
theorem Tryz.compactS:Go.Proofs.SlLaysN.n44 Tryz.prog Tryz.compactS_ren:={
 mixed:=by kernel_rfl
 f44:=⟨Tryz.f79.name,by decide,Tryz.func79.trans (congrArg some (by kernel_rfl))⟩
 t0:=Tryz.underlying0
 a0:=Tryz.isAgg0
 z0:=Tryz.sizeOf0
 v0:=Tryz.zeroValue0
 t3:=Tryz.underlying3
 a3:=Tryz.isAgg3
 z3:=Tryz.sizeOf3
 v3:=Tryz.zeroValue3
 t4:=Tryz.underlying4
 a4:=Tryz.isAgg4
 z4:=Tryz.sizeOf4
 v4:=Tryz.zeroValue4
 t25:=Tryz.underlying24
 a25:=Tryz.isAgg24
 z25:=Tryz.sizeOf24
 v25:=Tryz.zeroValue24
 t26:=Tryz.underlying9
 a26:=Tryz.isAgg9
 z26:=Tryz.sizeOf9
 v26:=Tryz.zeroValue9
 i26:=by kernel_rfl }
def Tryz.searchS_ren:Go.Shelf.Ren:=⟨fun | 14=>35 | n=>n,fun | 22=>24 | 24=>9 | 29=>9 | 32=>78 | 3=>3 | 4=>4 | 35=>113 | 0=>0 | n=>n,fun | n=>n⟩
theorem Tryz.searchS:Go.Proofs.SlLaysG2.n14 Tryz.prog Tryz.searchS_ren:={
 mixed:=by kernel_rfl
 f14:=⟨Tryz.f35.name,by decide,Tryz.func35.trans (congrArg some (by kernel_rfl))⟩
 t0:=Tryz.underlying0
 a0:=Tryz.isAgg0
 z0:=Tryz.sizeOf0
 v0:=Tryz.zeroValue0
 t3:=Tryz.underlying3
 a3:=Tryz.isAgg3
 z3:=Tryz.sizeOf3
 v3:=Tryz.zeroValue3
 t4:=Tryz.underlying4
 a4:=Tryz.isAgg4
 z4:=Tryz.sizeOf4
 v4:=Tryz.zeroValue4
 t22:=Tryz.underlying24
 a22:=Tryz.isAgg24
 z22:=Tryz.sizeOf24
 v22:=Tryz.zeroValue24
 a24:=Tryz.isAgg9
 z24:=Tryz.sizeOf9
 a29:=Tryz.isAgg9
 z29:=Tryz.sizeOf9
 t32:=Tryz.underlying78
 a32:=Tryz.isAgg78
 z32:=Tryz.sizeOf78
 v32:=Tryz.zeroValue78
 t35:=Tryz.underlying113
 a35:=Tryz.isAgg113
 z35:=Tryz.sizeOf113
 v35:=Tryz.zeroValue113 }
end Go.Proofs
