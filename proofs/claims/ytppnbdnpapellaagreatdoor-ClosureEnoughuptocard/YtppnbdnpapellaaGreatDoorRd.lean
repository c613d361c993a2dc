import Derived.Test.YtppnbdnpapellaaGreatDoorJMan
set_option maxRecDepth 100000
set_option maxHeartbeats 16000000
namespace Go.Proofs.YtppnbdnpapellaaGreatDoor
open Go.RowKit
def flt (z:Int):Ending:=.panicked [{ v:=.iface 245 (.int .i64 z),recovered:=false }]
theorem check_ok (k:Tk) (w:World):Calls Tryz.prog 246 #[k.val,.bool true] w fun e w'=>e=.returned (.tuple #[])∧Below w.heap.size w w':=by
 unfold Tk.val
 go_enter Tryz.func246,Tryz.ntmps246
 go_wp2_with fail
 exact ⟨rfl,_,results_none rfl _ _ _,rfl,balloc _ _⟩
theorem check_no (k:Tk) (w:World):Calls Tryz.prog 246 #[k.val,.bool false] w fun e w'=>e=flt k.at'∧Below w.heap.size w w':=by
 unfold Tk.val
 go_enter Tryz.func246,Tryz.ntmps246
 go_wp2_with fail
 exact ⟨rfl,rfl,balloc _ _⟩
structure RD (w:World) (g:Nat) (p:List UInt8) (v:Value) (E:Int):Prop where
 blk:w.heap[g]? = some (.cells #[.string (bs p),v,.int .i64 E] 252 (0,0))
theorem RD.lt {w:World} {g:Nat} {p:List UInt8} {v:Value} {E:Int} (h:RD w g p v E):g < w.heap.size:=(Array.getElem?_eq_some_iff.1 h.blk).1
theorem RD.below {w w':World} {g B:Nat} {p:List UInt8} {v:Value} {E:Int} (h:RD w g p v E) (hb:Below B w w') (hg:g < B):RD w' g p v E:=⟨(hb.block g hg).trans h.blk⟩
theorem RD.cells {w:World} {g:Nat} {p:List UInt8} {v:Value} {E:Int} (h:RD w g p v E) :
  w.cell? ⟨g,0,none⟩=some (.string (bs p))∧w.cell? ⟨g,1,none⟩=some v∧w.cell? ⟨g,2,none⟩=some (.int .i64 E)∧w.frozen? ⟨g,1,none⟩=false∧w.frozen? ⟨g,2,none⟩=false:=by
 have hb:=h.blk
 exact ⟨by simp [World.cell?,hb],by simp [World.cell?,hb],by simp [World.cell?,hb],by simp [World.frozen?,hb],by simp [World.frozen?,hb]⟩
theorem RD.set {w:World} {g:Nat} {p:List UInt8} {v:Value} {E:Int} (h:RD w g p v E) (v':Value):RD (w.setCell ⟨g,1,none⟩ v') g p v' E:=by
 refine ⟨?_⟩
 rw [heap_setCell _ _ _ _ h.blk]
 simp
structure RQ (w:World) (g:Nat) (p:List UInt8) (E:Int) (L:List Tk):Prop where
 rd:∃ v,RD w g p v E∧TS w v L∧(L≠[]→∀ b,v.ownBlock=some b→b < g)
theorem RQ.lt {w:World} {g:Nat} {p:List UInt8} {E:Int} {L:List Tk} (h:RQ w g p E L):g < w.heap.size:=by
 obtain ⟨v,h1,_⟩:=h.rd;exact h1.lt
theorem RQ.below {w w':World} {g B:Nat} {p:List UInt8} {E:Int} {L:List Tk} (h:RQ w g p E L) (hb:Below B w w') (hg:g < B):RQ w' g p E L:=by
 obtain ⟨v,h1,h2,h3⟩:=h.rd
 refine ⟨v,h1.below hb hg,?_,h3⟩
 rcases L with _ | ⟨k,r⟩
 ·rcases h2 with h2 | ⟨b,off,cap,rfl,hc,hlt,hcell⟩
  ·exact .inl h2
  ·exact .inl ⟨⟨_,_,rfl⟩,rfl⟩
 ·exact h2.below hb fun b hk=>Nat.lt_trans (h3 (by simp) b hk) hg
theorem RQ.later {w w':World} {g:Nat} {p:List UInt8} {E:Int} {L:List Tk} (h:RQ w g p E L) (hb:Below w.heap.size w w'):RQ w' g p E L:=h.below hb h.lt
theorem bset3 {B:Nat} {w w':World} {g:Nat} (hb:Below B w w') (hg:B≤g) (a b c:Value) :
  Below B w (((w'.setCell ⟨g,0,none⟩ a).setCell ⟨g,1,none⟩ b).setCell ⟨g,2,none⟩ c):=
 ((hb.setCell (p:=⟨g,0,none⟩) hg _).setCell (p:=⟨g,1,none⟩) hg _).setCell (p:=⟨g,2,none⟩) hg _
theorem next_end {w:World} {g:Nat} {p:List UInt8} {E:Int} (h:RQ w g p E []) :
  Calls Tryz.prog 269 #[.pointer (some ⟨g,0,none⟩)] w fun e w'=>e=flt E∧Below w.heap.size w w':=by
 have hlt:=h.lt
 obtain ⟨v,h1,h2,_⟩:=(h.later (balloc w (.cells #[.int .i64 0,.string ⟨#[]⟩,.int .i64 0] 294))).rd
 obtain ⟨a,c,rfl,_⟩:=h2.form
 obtain ⟨c0,c1,c2,_,_⟩:=h1.cells
 clear h h1 h2
 simp only [List.length_nil] at c1
 go_enter Tryz.func269,Tryz.ntmps269
 go_wp2_with fail
 exact ⟨rfl,rfl,balloc _ _⟩
theorem next_some {w:World} {g:Nat} {p:List UInt8} {E:Int} {k:Tk} {r:List Tk} (h:RQ w g p E (k::r)) :
  Calls Tryz.prog 269 #[.pointer (some ⟨g,0,none⟩)] w fun e w'=>e=.returned k.val∧Below w.heap.size w w':=by
 have hlt:=h.lt
 obtain ⟨v,h1,h2,_⟩:=(h.later (balloc w (.cells #[.int .i64 0,.string ⟨#[]⟩,.int .i64 0] 294))).rd
 obtain ⟨a,c,rfl,hc⟩:=h2.form
 obtain ⟨b,off,rfl,_,d0,d1,d2⟩:=hc 0 (by simp)
 obtain ⟨c0,c1,c2,_,_⟩:=h1.cells
 clear h h1 h2 hc
 simp only [List.length_cons,List.getElem_cons_zero,Nat.zero_mul,Nat.add_zero] at c1 d0 d1 d2
 generalize r.length=n at *
 have n1:¬ ((n:Int)+1=0):=by omega
 have n2:(((n:Int)+1) == 0)=false:=by rw [beq_eq_false_iff_ne];omega
 have n3:(0:Int) < (n:Int)+1:=by omega
 unfold Tk.val
 go_enter Tryz.func269,Tryz.ntmps269
 go_wp2_with fail
 refine bodyPost_ret (results_cell_row rfl _ _ w.heap.size 294 #[.int .i64 k.kind,.string (bs k.text),.int .i64 k.at'] (0,0) _ rfl ?_ Tryz.underlying294 rfl (by kernel_rfl)) rfl ?_
 ·exact heap_alloc_new _ _
 exact ⟨rfl,balloc _ _⟩
theorem RQ.cut {w:World} {g:Nat} {p:List UInt8} {E:Int} {k:Tk} {r:List Tk} {b off c n:Nat} (h:RD w g p (.slice (some ⟨b,off,none⟩) n c) E) (ht:TS w (.slice (some ⟨b,off,none⟩) n c) (k::r)) (hg:b < g) (v':Value)
  (hv:v'=.slice (some ⟨b,off+3,none⟩) r.length (c - 1)∨(r=[]∧∃ a c',v'=.slice a 0 c')):RQ (w.setCell ⟨g,1,none⟩ v') g p E r:=by
 have hbel:Below g w (w.setCell ⟨g,1,none⟩ v'):=(Below.refl _ _).setCell (p:=⟨g,1,none⟩) (Nat.le_refl _) _
 refine ⟨v',h.set v',?_,?_⟩
 ·rcases hv with rfl | ⟨rfl,a,c',rfl⟩
  ·rcases ht with ⟨_,e⟩ | ⟨b',off',cap,e,hc,hlt,hcell⟩
   ·cases e
   ·injection e with e1 e2 e3
    injection e1 with e1
    injection e1 with e1 e4 e5
    subst e1 e4 e3
    refine .inr ⟨b,off+3,c - 1,rfl,?_,?_,?_⟩
    ·simp only [List.length_cons] at hc;omega
    ·exact Nat.lt_of_lt_of_le hlt hbel.size
    ·intro i u hu
     rw [hbel.cell (p:=⟨b,off+3+i,none⟩) hg]
     have:=hcell (i+3) u (by simpa [tc] using hu)
     rw [show off+3+i=off+(i+3) by omega];exact this
  ·exact .inl ⟨⟨_,_,rfl⟩,rfl⟩
 ·intro hr b' hb'
  rcases hv with rfl | ⟨rfl,_⟩
  ·simp [Value.ownBlock] at hb';omega
  ·exact absurd rfl hr
theorem hset_ne (w:World) {g k:Nat} (h:k≠g) (o:Nat) (v:Value):(w.setCell ⟨g,o,none⟩ v).heap[k]? = w.heap[k]?:=by
 have h':g≠k:=fun e=>h e.symm
 simp [World.setCell,Array.getElem?_modify,h']
theorem only_below {S:List Nat} {w w1 w2:World} {B:Nat} (h:Only S w w1) (hb:Below B w1 w2) (hB:w.heap.size≤B):Only S w w2:=
 ⟨hb.os.trans h.os,hb.tape.trans h.tape,hb.output.trans h.output,Nat.le_trans h.size hb.size,fun k hk hn=>(hb.block k (Nat.lt_of_lt_of_le hk hB)).trans (h.block k hk hn)⟩
theorem take_fin {w w2:World} {g:Nat} {p:List UInt8} {E:Int} {t:Tk} {r:List Tk} {b off c n:Nat} {z:Array Value} (B2:Below w.heap.size w w2) (K2:w2.heap[w.heap.size]? = some (.cells z 294 (0,0))) (hD:RD w2 g p (.slice (some ⟨b,off,none⟩) n c) E) (ht:TS w2 (.slice (some ⟨b,off,none⟩) n c) (t::r)) (hg:b < g) (hlt:g < w.heap.size) (v':Value)
  (hv:v'=.slice (some ⟨b,off+3,none⟩) r.length (c - 1)∨(r=[]∧∃ a c',v'=.slice a 0 c')) (k:Tk) (hz:z.size=3:=by rfl) :
  ((((w2.setCell ⟨g,1,none⟩ v').setCell ⟨w.heap.size,0,none⟩ (.int .i64 k.kind)).setCell ⟨w.heap.size,1,none⟩ (.string (bs k.text))).setCell ⟨w.heap.size,2,none⟩ (.int .i64 k.at')).heap[w.heap.size]? = some (.cells #[.int .i64 k.kind,.string (bs k.text),.int .i64 k.at'] 294 (0,0))∧
  RQ ((((w2.setCell ⟨g,1,none⟩ v').setCell ⟨w.heap.size,0,none⟩ (.int .i64 k.kind)).setCell ⟨w.heap.size,1,none⟩ (.string (bs k.text))).setCell ⟨w.heap.size,2,none⟩ (.int .i64 k.at')) g p E r∧
  Only [g] w ((((w2.setCell ⟨g,1,none⟩ v').setCell ⟨w.heap.size,0,none⟩ (.int .i64 k.kind)).setCell ⟨w.heap.size,1,none⟩ (.string (bs k.text))).setCell ⟨w.heap.size,2,none⟩ (.int .i64 k.at')):=by
 have hb3:Below w.heap.size (w2.setCell ⟨g,1,none⟩ v') ((((w2.setCell ⟨g,1,none⟩ v').setCell ⟨w.heap.size,0,none⟩ (.int .i64 k.kind)).setCell ⟨w.heap.size,1,none⟩ (.string (bs k.text))).setCell ⟨w.heap.size,2,none⟩ (.int .i64 k.at')):=bset3 (Below.refl _ _) (Nat.le_refl _) _ _ _
 refine ⟨?_,(RQ.cut hD ht hg v' hv).below hb3 hlt,only_below ((Only.of_below B2 _).trans (Only.set _ _ _ _)) hb3 (Nat.le_refl _)⟩
 rw [heap_setCell _ _ _ _ (heap_setCell _ _ _ _ (heap_setCell _ _ _ _ ((hset_ne _ (by omega) _ _).trans K2)))]
 obtain ⟨z,rfl⟩:∃ l:List Value,z=l.toArray:=⟨z.toList,rfl⟩
 obtain ⟨x,y,u,rfl⟩:∃ x y u,z=[x,y,u]:=by
  rcases z with _ | ⟨x,_ | ⟨y,_ | ⟨u,_ | ⟨v,q⟩⟩⟩⟩<;>simp at hz
  exact ⟨x,y,u,rfl⟩
 simp
theorem take_ok {w:World} {g:Nat} {p:List UInt8} {E q:Int} {k:Tk} {r:List Tk} (h:RQ w g p E (k::r)) (hq:k.kind=q) (hr:r.length≤1000000) :
  Calls Tryz.prog 245 #[.pointer (some ⟨g,0,none⟩),.int .i64 q] w fun e w'=>e=.returned k.val∧RQ w' g p E r∧Only [g] w w':=by
 subst hq
 have hlt:=h.lt
 have HQ:Hid (RQ w g p E (k::r)):=h
 clear h
 have HN:Hid (∀ W:World,RQ W g p E (k::r)→Calls Tryz.prog 269 #[.pointer (some ⟨g,0,none⟩)] W fun e w'=>e=.returned k.val∧Below W.heap.size W w'):=fun W hW=>next_some hW
 have HC:Hid (∀ W:World,Calls Tryz.prog 246 #[k.val,.bool true] W fun e w'=>e=.returned (.tuple #[])∧Below W.heap.size W w'):=fun W=>check_ok k W
 unfold Tk.val at HN HC ⊢
 go_enter Tryz.func245,Tryz.ntmps245
 go_wp2_with fail
 refine (HN.out _ (HQ.out.later (balloc _ _))).mono ?_
 rintro e w1 ⟨rfl,hb1⟩
 have B1:Hid (Below w.heap.size w w1):=bstep (balloc _ _) hb1
 have hs1:=hb1.size
 have hz1:w.heap.size+1≤w1.heap.size:=by simpa using hs1
 have K1:Hid (w1.heap[w.heap.size]? = some (.cells #[.int .i64 0,.string ⟨#[]⟩,.int .i64 0] 294 (0,0))):=(hb1.block w.heap.size (by simp)).trans (heap_alloc_new _ _)
 clear hb1 hs1
 go_wp2_with fail
 refine (HC.out _).mono ?_
 rintro e w2 ⟨rfl,hb2⟩
 have K2:Hid (w2.heap[w.heap.size]? = some (.cells #[.int .i64 0,.string ⟨#[]⟩,.int .i64 0] 294 (0,0))):=(hb2.block w.heap.size (by simp;omega)).trans ((by rw [heap_alloc_old _ _ (by omega)]:(w1.alloc _).heap[w.heap.size]? = _).trans K1.out)
 have T2:Hid (w2.heap[w1.heap.size]? = some (.cells #[.int .i64 k.kind,.string (bs k.text),.int .i64 k.at'] 294 (0,0))):=(hb2.block w1.heap.size (by simp)).trans (heap_alloc_new _ _)
 have B2:Hid (Below w.heap.size w w2):=bstep (bstep B1.out (balloc _ _)) hb2
 have Q2:Hid (RQ w2 g p E (k::r)):=HQ.out.later B2.out
 have hz2:w1.heap.size+1≤w2.heap.size:=by simpa using hb2.size
 clear hb2 HN HC
 obtain ⟨v,d1,d2,d3⟩:=Q2.out.rd
 obtain ⟨a,c,rfl,hc⟩:=d2.form
 obtain ⟨b,off,rfl,hbl,x1,x2,x3⟩:=hc 0 (by simp)
 clear x1 x2 x3
 have D:Hid (RD w2 g p (.slice (some ⟨b,off,none⟩) (k::r).length c) E∧TS w2 (.slice (some ⟨b,off,none⟩) (k::r).length c) (k::r)∧b < g):=⟨d1,d2,d3 (by simp) b rfl⟩
 obtain ⟨c0,c1,c2,f1,f2⟩:=d1.cells
 have hcap:r.length+1≤c:=by
  rcases d2 with ⟨_,e⟩ | ⟨b',off',cap,e,hc,hlt,hcell⟩
  ·cases e
  ·injection e with e1 e2 e3
   subst e3;simpa using hc
 clear d1 d2 d3 hc hbl
 simp only [List.length_cons] at c1
 have t0:w2.cell? ⟨w1.heap.size,0,none⟩=some (.int .i64 k.kind):=by simp [World.cell?,T2.out]
 have t1:w2.cell? ⟨w1.heap.size,1,none⟩=some (.string (bs k.text)):=by simp [World.cell?,T2.out]
 have t2:w2.cell? ⟨w1.heap.size,2,none⟩=some (.int .i64 k.at'):=by simp [World.cell?,T2.out]
 have z0:w2.cell? ⟨w.heap.size,0,none⟩=some (.int .i64 0):=by simp [World.cell?,K2.out]
 have z1:w2.cell? ⟨w.heap.size,1,none⟩=some (.string ⟨#[]⟩):=by simp [World.cell?,K2.out]
 have z2:w2.cell? ⟨w.heap.size,2,none⟩=some (.int .i64 0):=by simp [World.cell?,K2.out]
 have y0:w2.frozen? ⟨w.heap.size,0,none⟩=false:=by simp [World.frozen?,K2.out]
 have y1:w2.frozen? ⟨w.heap.size,1,none⟩=false:=by simp [World.frozen?,K2.out]
 have y2:w2.frozen? ⟨w.heap.size,2,none⟩=false:=by simp [World.frozen?,K2.out]
 have n1:g≠w1.heap.size:=by omega
 have n2:g≠w.heap.size:=by omega
 have n3:w1.heap.size≠w.heap.size:=by omega
 obtain ⟨n,hn⟩:∃ n,r.length=n:=⟨_,rfl⟩
 rw [hn] at c1 hcap hr
 have HNN:Hid (r.length=n):=hn
 clear hn
 have i1:(1:Int)≤(n:Int)+1:=by omega
 have i2:(n:Int)+1≤(c:Int):=by omega
 have i3:(0:Int)≤(n:Int):=by omega
 by_cases hcc:c=1
 ·subst hcc
  obtain rfl:n=0:=by omega
  go_wp2_with fail
  obtain ⟨R1,R2,R3⟩:=take_fin B2.out K2.out D.out.1 D.out.2.1 D.out.2.2 hlt (.slice (some ⟨b,off,none⟩) 0 0) (.inr ⟨List.eq_nil_of_length_eq_zero HNN.out,_,_,rfl⟩) k
  refine bodyPost_ret (results_cell_row rfl _ _ w.heap.size 294 #[.int .i64 k.kind,.string (bs k.text),.int .i64 k.at'] (0,0) _ rfl R1 Tryz.underlying294 rfl (by kernel_rfl)) rfl ?_
  exact ⟨rfl,R2,R3⟩
 ·have i4:¬ ((c:Int) - 1=0):=by omega
  have i5:¬ (c - 1=0):=by omega
  go_wp2_with fail
  obtain ⟨R1,R2,R3⟩:=take_fin B2.out K2.out D.out.1 D.out.2.1 D.out.2.2 hlt (.slice (some ⟨b,off+3,none⟩) n (c - 1)) (.inl (by rw [HNN.out])) k
  refine bodyPost_ret (results_cell_row rfl _ _ w.heap.size 294 #[.int .i64 k.kind,.string (bs k.text),.int .i64 k.at'] (0,0) _ rfl R1 Tryz.underlying294 rfl (by kernel_rfl)) rfl ?_
  exact ⟨rfl,R2,R3⟩
theorem take_no {w:World} {g:Nat} {p:List UInt8} {E q:Int} {k:Tk} {r:List Tk} (h:RQ w g p E (k::r)) (hq:k.kind≠q) :
  Calls Tryz.prog 245 #[.pointer (some ⟨g,0,none⟩),.int .i64 q] w fun e w'=>e=flt k.at'∧Below w.heap.size w w':=by
 have HQ:Hid (RQ w g p E (k::r)):=h
 clear h
 have HN:Hid (∀ W:World,RQ W g p E (k::r)→Calls Tryz.prog 269 #[.pointer (some ⟨g,0,none⟩)] W fun e w'=>e=.returned k.val∧Below W.heap.size W w'):=fun W hW=>next_some hW
 have HC:Hid (∀ W:World,Calls Tryz.prog 246 #[k.val,.bool false] W fun e w'=>e=flt k.at'∧Below W.heap.size W w'):=fun W=>check_no k W
 unfold Tk.val at HN HC
 have hq2:(k.kind == q)=false:=by rw [beq_eq_false_iff_ne];exact hq
 go_enter Tryz.func245,Tryz.ntmps245
 go_wp2_with fail
 refine (HN.out _ (HQ.out.later (balloc _ _))).mono ?_
 rintro e w1 ⟨rfl,hb1⟩
 have B1:Hid (Below w.heap.size w w1):=bstep (balloc _ _) hb1
 clear hb1
 go_wp2_with fail
 refine (HC.out _).mono ?_
 rintro e w2 ⟨rfl,hb2⟩
 exact ⟨rfl,rfl,bstep (bstep B1.out (balloc _ _)) hb2⟩
theorem take_end {w:World} {g:Nat} {p:List UInt8} {E q:Int} (h:RQ w g p E []) :
  Calls Tryz.prog 245 #[.pointer (some ⟨g,0,none⟩),.int .i64 q] w fun e w'=>e=flt E∧Below w.heap.size w w':=by
 have HQ:Hid (RQ w g p E []):=h
 clear h
 have HN:Hid (∀ W:World,RQ W g p E []→Calls Tryz.prog 269 #[.pointer (some ⟨g,0,none⟩)] W fun e w'=>e=flt E∧Below W.heap.size W w'):=fun W hW=>next_end hW
 go_enter Tryz.func245,Tryz.ntmps245
 go_wp2_with fail
 refine (HN.out _ (HQ.out.later (balloc _ _))).mono ?_
 rintro e w1 ⟨rfl,hb1⟩
 exact ⟨rfl,rfl,bstep (balloc _ _) hb1⟩
theorem passed_end {w:World} {g:Nat} {p:List UInt8} {E q:Int} (h:RQ w g p E []) :
  Calls Tryz.prog 272 #[.pointer (some ⟨g,0,none⟩),.int .i64 q] w fun e w'=>e=flt E∧Below w.heap.size w w':=by
 have HQ:Hid (RQ w g p E []):=h
 clear h
 have HN:Hid (∀ W:World,RQ W g p E []→Calls Tryz.prog 269 #[.pointer (some ⟨g,0,none⟩)] W fun e w'=>e=flt E∧Below W.heap.size W w'):=fun W hW=>next_end hW
 go_enter Tryz.func272,Tryz.ntmps272
 go_wp2_with fail
 refine (HN.out _ HQ.out).mono ?_
 rintro e w1 ⟨rfl,hb1⟩
 exact ⟨rfl,rfl,hb1⟩
theorem fld123 (a b c:Value) (w:World):(Instr.field 294 (.agg #[a,b,c]) 0).run Tryz.prog w=.ok a w:=by kernel_rfl
theorem passed_no {w:World} {g:Nat} {p:List UInt8} {E q:Int} {k:Tk} {r:List Tk} (h:RQ w g p E (k::r)) (hq:k.kind≠q) :
  Calls Tryz.prog 272 #[.pointer (some ⟨g,0,none⟩),.int .i64 q] w fun e w'=>e=.returned (.bool false)∧Below w.heap.size w w':=by
 have HQ:Hid (RQ w g p E (k::r)):=h
 clear h
 have HN:Hid (∀ W:World,RQ W g p E (k::r)→Calls Tryz.prog 269 #[.pointer (some ⟨g,0,none⟩)] W fun e w'=>e=.returned k.val∧Below W.heap.size W w'):=fun W hW=>next_some hW
 unfold Tk.val at HN
 have hfl:=fld123
 have hq2:(k.kind != q)=true:=by simpa using hq
 have hq3:(k.kind == q)=false:=by rw [beq_eq_false_iff_ne];exact hq
 go_enter Tryz.func272,Tryz.ntmps272
 go_wp2_with fail
 refine (HN.out _ HQ.out).mono ?_
 rintro e w1 ⟨rfl,hb1⟩
 have B1:Hid (Below w.heap.size w w1):=hb1
 clear hb1
 go_wp2_with fail
 go_ret
 exact ⟨rfl,B1.out⟩
theorem passed_ok {w:World} {g:Nat} {p:List UInt8} {E q:Int} {k:Tk} {r:List Tk} (h:RQ w g p E (k::r)) (hq:k.kind=q) (hr:r.length≤1000000) :
  Calls Tryz.prog 272 #[.pointer (some ⟨g,0,none⟩),.int .i64 q] w fun e w'=>e=.returned (.bool true)∧RQ w' g p E r∧Only [g] w w':=by
 subst hq
 have HQ:Hid (RQ w g p E (k::r)):=h
 clear h
 have HN:Hid (∀ W:World,RQ W g p E (k::r)→Calls Tryz.prog 269 #[.pointer (some ⟨g,0,none⟩)] W fun e w'=>e=.returned k.val∧Below W.heap.size W w'):=fun W hW=>next_some hW
 unfold Tk.val at HN
 have hfl:=fld123
 go_enter Tryz.func272,Tryz.ntmps272
 go_wp2_with fail
 refine (HN.out _ HQ.out).mono ?_
 rintro e w2 ⟨rfl,hb1⟩
 have B2:Hid (Below w.heap.size w w2):=hb1
 have Q2:Hid (RQ w2 g p E (k::r)):=HQ.out.later hb1
 clear hb1 HN
 obtain ⟨v,d1,d2,d3⟩:=Q2.out.rd
 obtain ⟨a,c,rfl,hc⟩:=d2.form
 obtain ⟨b,off,rfl,hbl,x1,x2,x3⟩:=hc 0 (by simp)
 clear x1 x2 x3
 have D:Hid (RD w2 g p (.slice (some ⟨b,off,none⟩) (k::r).length c) E∧TS w2 (.slice (some ⟨b,off,none⟩) (k::r).length c) (k::r)∧b < g):=⟨d1,d2,d3 (by simp) b rfl⟩
 obtain ⟨c0,c1,c2,f1,f2⟩:=d1.cells
 have hcap:r.length+1≤c:=by
  rcases d2 with ⟨_,e⟩ | ⟨b',off',cap,e,hc,hlt,hcell⟩
  ·cases e
  ·injection e with e1 e2 e3
   subst e3;simpa using hc
 clear d1 d2 d3 hc hbl
 simp only [List.length_cons] at c1
 obtain ⟨n,hn⟩:∃ n,r.length=n:=⟨_,rfl⟩
 rw [hn] at c1 hcap hr
 have HNN:Hid (r.length=n):=hn
 clear hn
 have i1:(1:Int)≤(n:Int)+1:=by omega
 have i2:(n:Int)+1≤(c:Int):=by omega
 have i3:(0:Int)≤(n:Int):=by omega
 by_cases hcc:c=1
 ·subst hcc
  obtain rfl:n=0:=by omega
  go_wp2_with fail
  go_ret
  exact ⟨rfl,RQ.cut D.out.1 D.out.2.1 D.out.2.2 _ (.inr ⟨List.eq_nil_of_length_eq_zero HNN.out,_,_,rfl⟩),(Only.of_below B2.out _).trans (Only.set _ _ _ _)⟩
 ·have i4:¬ ((c:Int) - 1=0):=by omega
  have i5:¬ (c - 1=0):=by omega
  go_wp2_with fail
  go_ret
  exact ⟨rfl,RQ.cut D.out.1 D.out.2.1 D.out.2.2 _ (.inl (by rw [HNN.out])),(Only.of_below B2.out _).trans (Only.set _ _ _ _)⟩
end Go.Proofs.YtppnbdnpapellaaGreatDoor
