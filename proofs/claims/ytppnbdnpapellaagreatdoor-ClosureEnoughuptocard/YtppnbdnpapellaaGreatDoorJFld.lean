import Derived.Test.YtppnbdnpapellaaGreatDoorListS
import Derived.Test.YtppnbdnpapellaaGreatDoorListE
import Derived.Test.YtppnbdnpapellaaGreatDoorListD
set_option maxRecDepth 100000
set_option maxHeartbeats 16000000
namespace Go.Proofs.YtppnbdnpapellaaGreatDoor
section
open Go.RowKit
def Ap (a b:Value):Prop:=∀ k,a.ownBlock=some k→b.ownBlock≠some k
theorem Ap.symm {a b:Value} (h:Ap a b):Ap b a:=fun k hb ha=>h k ha hb
def Tv.s (t:Tv):Value:=.slice t.sa t.sn t.sc
def Tv.d (t:Tv):Value:=.slice t.da t.dn t.dc
def Tv.e (t:Tv):Value:=.slice t.ea t.en t.ec
def Tv.vals (t:Tv):List Value:=[t.s,t.d,t.e]
structure TB (w:World) (g:Nat) (t:Tv):Prop where
 blk:w.heap[g]? = some (.cells #[.string (bs t.name),.slice t.sa t.sn t.sc,.slice t.da t.dn t.dc,.slice t.ea t.en t.ec] 95 (0,0))
theorem TB.lt {w:World} {g:Nat} {t:Tv} (h:TB w g t):g < w.heap.size:=(Array.getElem?_eq_some_iff.1 h.blk).1
theorem TB.only {S:List Nat} {w w':World} {g:Nat} {t:Tv} (h:TB w g t) (ho:Only S w w') (hg:g∉S):TB w' g t:=⟨(ho.block g h.lt hg).trans h.blk⟩
theorem TB.later {w w':World} {g:Nat} {t:Tv} (h:TB w g t) (hb:Below w.heap.size w w'):TB w' g t:=h.only (Only.of_below hb []) (by simp)
theorem TB.below {B:Nat} {w w':World} {g:Nat} {t:Tv} (h:TB w g t) (hb:Below B w w') (hg:g < B):TB w' g t:=⟨(hb.block g hg).trans h.blk⟩
theorem TB.new (w:World) (t:Tv):TB (w.alloc t.obj) w.heap.size t:=⟨heap_alloc_new _ _⟩
theorem TB.cells {w:World} {g:Nat} {t:Tv} (h:TB w g t):w.cell? ⟨g,0,none⟩=some (.string (bs t.name))∧w.cell? ⟨g,1,none⟩=some (.slice t.sa t.sn t.sc)∧w.cell? ⟨g,2,none⟩=some (.slice t.da t.dn t.dc)∧w.cell? ⟨g,3,none⟩=some (.slice t.ea t.en t.ec)∧
  w.frozen? ⟨g,1,none⟩=false∧w.frozen? ⟨g,2,none⟩=false∧w.frozen? ⟨g,3,none⟩=false:=by
 have hb:=h.blk
 exact ⟨by simp [World.cell?,hb],by simp [World.cell?,hb],by simp [World.cell?,hb],by simp [World.cell?,hb],by simp [World.frozen?,hb],by simp [World.frozen?,hb],by simp [World.frozen?,hb]⟩
theorem TB.set1 {w:World} {g:Nat} {t:Tv} (h:TB w g t) (a:Option Addr) (n c:Nat):TB (w.setCell ⟨g,1,none⟩ (.slice a n c)) g { t with sa:=a,sn:=n,sc:=c }:=by
 refine ⟨?_⟩;rw [heap_setCell _ _ _ _ h.blk];simp
theorem TB.set2 {w:World} {g:Nat} {t:Tv} (h:TB w g t) (a:Option Addr) (n c:Nat):TB (w.setCell ⟨g,2,none⟩ (.slice a n c)) g { t with da:=a,dn:=n,dc:=c }:=by
 refine ⟨?_⟩;rw [heap_setCell _ _ _ _ h.blk];simp
theorem TB.set3 {w:World} {g:Nat} {t:Tv} (h:TB w g t) (a:Option Addr) (n c:Nat):TB (w.setCell ⟨g,3,none⟩ (.slice a n c)) g { t with ea:=a,en:=n,ec:=c }:=by
 refine ⟨?_⟩;rw [heap_setCell _ _ _ _ h.blk];simp
structure TOwn (base:Nat) (w:World) (v:Tv) (t:Tg):Prop where
 name:v.name=t.name
 s:Own base w v.s t.srcs
 d:OwnL base w v.d t.deps
 e:Own base w v.e t.see
 sd:Ap v.s v.d
 se:Ap v.s v.e
 de:Ap v.d v.e
theorem TOwn.only {S:List Nat} {base:Nat} {w w':World} {v:Tv} {t:Tg} (h:TOwn base w v t) (ho:Only S w w') (hn:∀ u∈v.vals,∀ k,u.ownBlock=some k→k∉S):TOwn base w' v t:=
 ⟨h.name,h.s.only ho (hn _ (by simp [Tv.vals])),h.d.only ho (hn _ (by simp [Tv.vals])),h.e.only ho (hn _ (by simp [Tv.vals])),h.sd,h.se,h.de⟩
theorem TOwn.later {base:Nat} {w w':World} {v:Tv} {t:Tg} (h:TOwn base w v t) (hb:Below w.heap.size w w'):TOwn base w' v t:=h.only (Only.of_below hb []) (by simp)
theorem TOwn.lt {base:Nat} {w:World} {v:Tv} {t:Tg} (h:TOwn base w v t):∀ u∈v.vals,∀ k,u.ownBlock=some k→base≤k∧k < w.heap.size:=by
 intro u hu k hk
 simp only [Tv.vals,List.mem_cons,List.mem_nil_iff,or_false] at hu
 rcases hu with rfl | rfl | rfl
 ·exact h.s.lt hk
 ·exact h.d.lt hk
 ·exact h.e.lt hk
theorem TOwn.mono {base base':Nat} {w:World} {v:Tv} {t:Tg} (h:TOwn base w v t) (hb:base'≤base):TOwn base' w v t:=⟨h.name,h.s.mono hb,h.d.mono hb,h.e.mono hb,h.sd,h.se,h.de⟩
def cnt (H:List (List UInt8)):Nat:=(H.contains wSrcs).toNat+(H.contains wDeps).toNat+(H.contains wSee).toNat
theorem cnt_le (H:List (List UInt8)):cnt H≤3:=by
 unfold cnt
 have:=Bool.toNat_le (H.contains wSrcs)
 have:=Bool.toNat_le (H.contains wDeps)
 have:=Bool.toNat_le (H.contains wSee)
 omega
theorem has_app (H:List (List UInt8)) (x y:List UInt8):(H++[x]).contains y=(H.contains y || (y == x)):=by
 rw [List.contains_append]
 congr 1
 simp only [List.contains,List.elem]
 cases (y == x)<;>rfl
theorem cnt_app {H:List (List UInt8)} {x:List UInt8} (h:H.contains x=false) (hx:isF x=true):cnt (H++[x])=cnt H+1:=by
 unfold cnt
 rw [has_app,has_app,has_app]
 unfold isF at hx
 simp only [Bool.or_eq_true,beq_iff_eq] at hx
 have n1:(wSrcs == wDeps)=false:=by decide
 have n2:(wSrcs == wSee)=false:=by decide
 have n3:(wDeps == wSee)=false:=by decide
 have n4:(wDeps == wSrcs)=false:=by decide
 have n5:(wSee == wSrcs)=false:=by decide
 have n6:(wSee == wDeps)=false:=by decide
 rcases hx with (rfl | rfl) | rfl
 ·rw [h,n4,n5];simp;omega
 ·rw [h,n1,n6];simp;omega
 ·rw [h,n2,n3];simp
structure Hd (H:List (List UInt8)) (t:Tg):Prop where
 len:H.length=cnt H
 s:H.contains wSrcs=false→t.srcs=[]
 d:H.contains wDeps=false→t.deps=[]
 e:H.contains wSee=false→t.see=[]
theorem Hd.addS {H:List (List UInt8)} {t:Tg} (h:Hd H t) (hn:H.contains wSrcs=false) (A:List (List UInt8)):Hd (H++[wSrcs]) { t with srcs:=A }:=by
 refine ⟨by rw [cnt_app hn (by decide),List.length_append,h.len];rfl,fun hc=>?_,fun hc=>h.d ?_,fun hc=>h.e ?_⟩
 ·rw [has_app] at hc;simp at hc
 ·rw [has_app] at hc;simp only [Bool.or_eq_false_iff] at hc;exact hc.1
 ·rw [has_app] at hc;simp only [Bool.or_eq_false_iff] at hc;exact hc.1
theorem Hd.addD {H:List (List UInt8)} {t:Tg} (h:Hd H t) (hn:H.contains wDeps=false) (A:List Lb):Hd (H++[wDeps]) { t with deps:=A }:=by
 refine ⟨by rw [cnt_app hn (by decide),List.length_append,h.len];rfl,fun hc=>h.s ?_,fun hc=>?_,fun hc=>h.e ?_⟩
 ·rw [has_app] at hc;simp only [Bool.or_eq_false_iff] at hc;exact hc.1
 ·rw [has_app] at hc;simp at hc
 ·rw [has_app] at hc;simp only [Bool.or_eq_false_iff] at hc;exact hc.1
theorem Hd.addE {H:List (List UInt8)} {t:Tg} (h:Hd H t) (hn:H.contains wSee=false) (A:List (List UInt8)):Hd (H++[wSee]) { t with see:=A }:=by
 refine ⟨by rw [cnt_app hn (by decide),List.length_append,h.len];rfl,fun hc=>h.s ?_,fun hc=>h.d ?_,fun hc=>?_⟩
 ·rw [has_app] at hc;simp only [Bool.or_eq_false_iff] at hc;exact hc.1
 ·rw [has_app] at hc;simp only [Bool.or_eq_false_iff] at hc;exact hc.1
 ·rw [has_app] at hc;simp at hc
structure FI (w:World) (g gT:Nat) (p:List UInt8) (E:Int) (vh:Value) (H:List (List UInt8)) (tv:Tv) (t:Tg) (L:List Tk) (wr:World):Prop where
 h:Own w.heap.size wr vh H
 b:TB wr gT tv
 o:TOwn w.heap.size wr tv t
 q:RQ wr g p E L
 only:Only [g,gT] w wr
 ap:∀ u∈tv.vals,Ap vh u
theorem FI.later {w wr w':World} {g gT:Nat} {p:List UInt8} {E:Int} {vh:Value} {H:List (List UInt8)} {tv:Tv} {t:Tg} {L:List Tk} (h:FI w g gT p E vh H tv t L wr) (hb:Below wr.heap.size wr w'):FI w g gT p E vh H tv t L w':=
 ⟨h.h.later hb,h.b.later hb,h.o.later hb,h.q.later hb,h.only.trans (Only.of_below hb _),h.ap⟩
theorem FI.tok {w wr w':World} {g gT:Nat} {p:List UInt8} {E:Int} {vh:Value} {H:List (List UInt8)} {tv:Tv} {t:Tg} {L L':List Tk} (h:FI w g gT p E vh H tv t L wr) (ho:Only [g] wr w') (hq:RQ w' g p E L') (hg:g < w.heap.size) (hne:gT≠g):FI w g gT p E vh H tv t L' w':=by
 refine ⟨h.h.only ho fun k hk hm=>?_,h.b.only ho (by simpa using hne),h.o.only ho fun u hu k hk hm=>?_,hq,h.only.trans (ho.mono (by simp)),h.ap⟩
 ·have:=(h.h.lt hk).1;simp only [List.mem_singleton] at hm;omega
 ·have:=(h.o.lt u hu k hk).1;simp only [List.mem_singleton] at hm;omega
theorem FI.had {w wr w':World} {g gT:Nat} {p:List UInt8} {E:Int} {vh vh':Value} {H H':List (List UInt8)} {tv:Tv} {t:Tg} {L:List Tk} (h:FI w g gT p E vh H tv t L wr) (ho:Own w.heap.size w' vh' H') (hb:Below w.heap.size wr w') (hn:Only vh.ownBlock.toList wr w') (hw:vh'.ownBlock=vh.ownBlock∨∃ k,vh'.ownBlock=some k∧wr.heap.size≤k) (hg:g < w.heap.size) (hgT:gT < w.heap.size):FI w g gT p E vh' H' tv t L w':=by
 refine ⟨ho,h.b.below hb hgT,h.o.only hn fun u hu k hk hm=>?_,h.q.below hb hg,only_below h.only hb (Nat.le_refl _),fun u hu k hk hk'=>?_⟩
 ·rw [Option.mem_toList] at hm
  exact h.ap u hu k hm hk
 ·rcases hw with hw | ⟨k',hw,hk2⟩
  ·exact h.ap u hu k (hw▸hk) hk'
  ·have:=(h.o.lt u hu k hk').2
   rw [hw] at hk;injection hk with hk;omega
theorem only_cell {S:List Nat} {w w':World} {p:Addr} (ho:Only S w w') (hp:p.block < w.heap.size) (hn:p.block∉S):w'.cell? p=w.cell? p:=by
 unfold World.cell?
 rw [ho.block p.block hp hn]
theorem set_only {g:Nat} {S:List Nat} {w wr:World} (h:Only S w wr) (hg:g∈S) (o:Nat) (v:Value):Only S w (wr.setCell ⟨g,o,none⟩ v):=h.trans ((Only.set _ _ _ _).mono (by simpa using hg))
theorem FI.setS {w wr w':World} {g gT:Nat} {p:List UInt8} {E:Int} {vh:Value} {H:List (List UInt8)} {tv:Tv} {t:Tg} {L L':List Tk} (h:FI w g gT p E vh H tv t L wr) (ho:Only [g] wr w') (hq:RQ w' g p E L') (hg:g < gT) (hgT:gT < w.heap.size) {a:Option Addr} {n c:Nat} {A:List (List UInt8)} (hA:Own wr.heap.size w' (.slice a n c) A) :
  FI w g gT p E vh H { tv with sa:=a,sn:=n,sc:=c } { t with srcs:=A } L' (w'.setCell ⟨gT,1,none⟩ (.slice a n c)):=by
 have h1:=h.tok ho hq (by omega) (by omega)
 have hsz:=h.only.size
 have new:∀ u∈vh::tv.vals,Ap (.slice a n c) u:=fun u hu k hk hk'=>by
  have h2:=(hA.lt hk).1
  rcases List.mem_cons.1 hu with rfl | hu
  ·have:=(h.h.lt hk').2;omega
  ·have:=(h.o.lt u hu k hk').2;omega
 have hs:Only [gT] w' (w'.setCell ⟨gT,1,none⟩ (.slice a n c)):=Only.set _ _ _ _
 have hb:Below gT w' (w'.setCell ⟨gT,1,none⟩ (.slice a n c)):=(Below.refl _ _).setCell (p:=⟨gT,1,none⟩) (Nat.le_refl _) _
 have far:∀ (v:Value),(∀ k,v.ownBlock=some k→w.heap.size≤k)→∀ k,v.ownBlock=some k→k∉[gT]:=fun v hv k hk hm=>by have:=hv k hk;simp only [List.mem_singleton] at hm;omega
 refine ⟨h1.h.only hs (far _ fun k hk=>(h1.h.lt hk).1),h1.b.set1 a n c,⟨h1.o.name,(hA.mono hsz).only hs (far _ fun k hk=>by have:=(hA.lt hk).1;omega),h1.o.d.only hs (far _ fun k hk=>(h1.o.d.lt hk).1),h1.o.e.only hs (far _ fun k hk=>(h1.o.e.lt hk).1),new _ (by simp [Tv.vals,Tv.d]),new _ (by simp [Tv.vals,Tv.e]),h1.o.de⟩,h1.q.below hb hg,set_only h1.only (by simp) _ _,fun u hu=>?_⟩
 simp only [Tv.vals,List.mem_cons,List.mem_nil_iff,or_false] at hu
 rcases hu with rfl | rfl | rfl
 ·exact (new vh (by simp)).symm
 ·exact h.ap _ (by simp [Tv.vals,Tv.d])
 ·exact h.ap _ (by simp [Tv.vals,Tv.e])
theorem FI.setD {w wr w':World} {g gT:Nat} {p:List UInt8} {E:Int} {vh:Value} {H:List (List UInt8)} {tv:Tv} {t:Tg} {L L':List Tk} (h:FI w g gT p E vh H tv t L wr) (ho:Only [g] wr w') (hq:RQ w' g p E L') (hg:g < gT) (hgT:gT < w.heap.size) {a:Option Addr} {n c:Nat} {A:List Lb} (hA:OwnL wr.heap.size w' (.slice a n c) A) :
  FI w g gT p E vh H { tv with da:=a,dn:=n,dc:=c } { t with deps:=A } L' (w'.setCell ⟨gT,2,none⟩ (.slice a n c)):=by
 have h1:=h.tok ho hq (by omega) (by omega)
 have hsz:=h.only.size
 have new:∀ u∈vh::tv.vals,Ap (.slice a n c) u:=fun u hu k hk hk'=>by
  have h2:=(hA.lt hk).1
  rcases List.mem_cons.1 hu with rfl | hu
  ·have:=(h.h.lt hk').2;omega
  ·have:=(h.o.lt u hu k hk').2;omega
 have hs:Only [gT] w' (w'.setCell ⟨gT,2,none⟩ (.slice a n c)):=Only.set _ _ _ _
 have hb:Below gT w' (w'.setCell ⟨gT,2,none⟩ (.slice a n c)):=(Below.refl _ _).setCell (p:=⟨gT,2,none⟩) (Nat.le_refl _) _
 have far:∀ (v:Value),(∀ k,v.ownBlock=some k→w.heap.size≤k)→∀ k,v.ownBlock=some k→k∉[gT]:=fun v hv k hk hm=>by have:=hv k hk;simp only [List.mem_singleton] at hm;omega
 refine ⟨h1.h.only hs (far _ fun k hk=>(h1.h.lt hk).1),h1.b.set2 a n c,⟨h1.o.name,h1.o.s.only hs (far _ fun k hk=>(h1.o.s.lt hk).1),(hA.mono hsz).only hs (far _ fun k hk=>by have:=(hA.lt hk).1;omega),h1.o.e.only hs (far _ fun k hk=>(h1.o.e.lt hk).1),(new _ (by simp [Tv.vals,Tv.s])).symm,h1.o.se,new _ (by simp [Tv.vals,Tv.e])⟩,h1.q.below hb hg,set_only h1.only (by simp) _ _,fun u hu=>?_⟩
 simp only [Tv.vals,List.mem_cons,List.mem_nil_iff,or_false] at hu
 rcases hu with rfl | rfl | rfl
 ·exact h.ap _ (by simp [Tv.vals,Tv.s])
 ·exact (new vh (by simp)).symm
 ·exact h.ap _ (by simp [Tv.vals,Tv.e])
theorem FI.setE {w wr w':World} {g gT:Nat} {p:List UInt8} {E:Int} {vh:Value} {H:List (List UInt8)} {tv:Tv} {t:Tg} {L L':List Tk} (h:FI w g gT p E vh H tv t L wr) (ho:Only [g] wr w') (hq:RQ w' g p E L') (hg:g < gT) (hgT:gT < w.heap.size) {a:Option Addr} {n c:Nat} {A:List (List UInt8)} (hA:Own wr.heap.size w' (.slice a n c) A) :
  FI w g gT p E vh H { tv with ea:=a,en:=n,ec:=c } { t with see:=A } L' (w'.setCell ⟨gT,3,none⟩ (.slice a n c)):=by
 have h1:=h.tok ho hq (by omega) (by omega)
 have hsz:=h.only.size
 have new:∀ u∈vh::tv.vals,Ap (.slice a n c) u:=fun u hu k hk hk'=>by
  have h2:=(hA.lt hk).1
  rcases List.mem_cons.1 hu with rfl | hu
  ·have:=(h.h.lt hk').2;omega
  ·have:=(h.o.lt u hu k hk').2;omega
 have hs:Only [gT] w' (w'.setCell ⟨gT,3,none⟩ (.slice a n c)):=Only.set _ _ _ _
 have hb:Below gT w' (w'.setCell ⟨gT,3,none⟩ (.slice a n c)):=(Below.refl _ _).setCell (p:=⟨gT,3,none⟩) (Nat.le_refl _) _
 have far:∀ (v:Value),(∀ k,v.ownBlock=some k→w.heap.size≤k)→∀ k,v.ownBlock=some k→k∉[gT]:=fun v hv k hk hm=>by have:=hv k hk;simp only [List.mem_singleton] at hm;omega
 refine ⟨h1.h.only hs (far _ fun k hk=>(h1.h.lt hk).1),h1.b.set3 a n c,⟨h1.o.name,h1.o.s.only hs (far _ fun k hk=>(h1.o.s.lt hk).1),h1.o.d.only hs (far _ fun k hk=>(h1.o.d.lt hk).1),(hA.mono hsz).only hs (far _ fun k hk=>by have:=(hA.lt hk).1;omega),h1.o.sd,(new _ (by simp [Tv.vals,Tv.s])).symm,(new _ (by simp [Tv.vals,Tv.d])).symm⟩,h1.q.below hb hg,set_only h1.only (by simp) _ _,fun u hu=>?_⟩
 simp only [Tv.vals,List.mem_cons,List.mem_nil_iff,or_false] at hu
 rcases hu with rfl | rfl | rfl
 ·exact h.ap _ (by simp [Tv.vals,Tv.s])
 ·exact h.ap _ (by simp [Tv.vals,Tv.d])
 ·exact (new vh (by simp)).symm
end
section
open Go.RowKit
theorem c_srcs:(ByteArray.mk #[115,114,99,115]).toList=wSrcs:=ByteArray.toList_mk wSrcs
theorem c_deps:(ByteArray.mk #[100,101,112,115]).toList=wDeps:=ByteArray.toList_mk wDeps
theorem c_see:(ByteArray.mk #[115,101,101]).toList=wSee:=ByteArray.toList_mk wSee
def LsF (w:World) (g gT:Nat) (p:List UInt8) (E S:Int) (L:List Tk) (l:List Tg) (R:List Tg×Int) (e:Ending) (w':World):Prop:=
 (∃ tv t L',e=.returned (.tuple #[])∧TB w' gT tv∧TOwn w.heap.size w' tv t∧RQ w' g p E L'∧(∀ k∈L',k∈L)∧L'.length < L.length∧go p E S (.top (l++[t])) L'=R∧Only [g,gT] w w')∨
 (∃ z,e=flt z∧R=([],z)∧Only [g,gT] w w')
theorem fields_any {w:World} {g gT:Nat} {p:List UInt8} {E S:Int} {L:List Tk} {l:List Tg} {n:List UInt8} {R:List Tg×Int} (hq:RQ w g p E L) (hTB:TB w gT ⟨n,none,0,0,none,0,0,none,0,0⟩) (hT:∀ k∈L,TkOk k) (hL:L.length≤5000) (hR:go p E S (.fl l ⟨n,[],[],[]⟩ []) L=R) (hE:Ev w) (hg:4≤g) (hgT:g < gT) (hp:p.length≤120) :
  Calls Tryz.prog 248 #[.pointer (some ⟨g,0,none⟩),.pointer (some ⟨gT,0,none⟩)] w (LsF w g gT p E S L l R):=by
 have hmf:∀ (fn:Fn) (first cap:Array Value) (w:World),(Instr.makeFunc fn first cap).run Tryz.prog w=.ok (.func fn first cap) w:=fun _ _ _ _=>rfl
 have HT:Hid (∀ k∈L,TkOk k):=hT
 have HE:Hid (Ev w):=hE
 have HR:Hid (go p E S (.fl l ⟨n,[],[],[]⟩ []) L=R):=hR
 have hgTw:=hTB.lt
 have F0:Hid (FI w g gT p E (.slice none 0 0) [] ⟨n,none,0,0,none,0,0,none,0,0⟩ ⟨n,[],[],[]⟩ L w):=
  ⟨Own.nil _ _,hTB,⟨rfl,Own.nil _ _,OwnL.nil _ _,Own.nil _ _,fun k hk=>by simp [Tv.s,Value.ownBlock] at hk,fun k hk=>by simp [Tv.s,Value.ownBlock] at hk,fun k hk=>by simp [Tv.d,Value.ownBlock] at hk⟩,hq,Only.refl _ _,fun u hu k hk=>by simp [Value.ownBlock] at hk⟩
 clear hT hE hR hq hTB
 go_enter Tryz.func248,Tryz.ntmps248
 go_wp2_with fail
 go_loopw [4] (fun v wr=>∃ (H:List (List UInt8)) (tv:Tv) (t:Tg) (Lr:List Tk),FI w g gT p E v H tv t Lr wr∧go p E S (.fl l t H) Lr=R∧(∀ k∈Lr,k∈L)∧Lr.length≤L.length∧Hd H t) (fun v _=>4 - slen v)
 case atStart=>exact ⟨[],_,_,L,F0.out,HR.out,fun k hk=>hk,Nat.le_refl _,⟨rfl,fun _=>rfl,fun _=>rfl,fun _=>rfl⟩⟩
 case round=>
  obtain ⟨H,tv,t,Lr,hF,hRr,hmem,hlen,hHd⟩:=hrel
  clear F0 HR
  have F4:Hid (FI w g gT p E u4 H tv t Lr wr):=hF
  have R4:Hid (go p E S (.fl l t H) Lr=R):=hRr
  have M4:Hid (∀ k∈Lr,k∈L):=hmem
  have HH:Hid (Hd H t):=hHd
  have hsr:w.heap.size≤wr.heap.size:=hF.only.size
  clear hF hRr hmem hHd
  go_wp2_with fail
  refine (passed_any (q:=3) F4.out.q (by omega)).mono ?_
  rintro e w5 (⟨k,r,rfl,hk,rfl,hq5,ho5⟩ | ⟨k,r,rfl,hk,rfl,hb5⟩ | ⟨rfl,rfl,hb5⟩)
  rotate_left
  rotate_left
  ·exact ⟨rfl,.inr ⟨_,rfl,by rw [← R4.out];rfl,F4.out.only.trans (Only.of_below hb5 _)⟩⟩
  ·have R5:Hid (go p E S (.top (l++[t])) r=R):=by
    have:=R4.out
    simp only [go,stp,if_pos hk] at this;exact this
   have F5:Hid (FI w g gT p E u4 H tv t r w5):=F4.out.tok ho5 hq5 (by omega) (by omega)
   simp only [List.length_cons] at hlen
   clear hk hq5 ho5 R4
   go_wp2_with fail
   exact ⟨rfl,_,results_none rfl _ _ _,.inl ⟨tv,t,r,rfl,F5.out.b,F5.out.o,F5.out.q,fun q hq=>M4.out q (by simp [hq]),by omega,R5.out,F5.out.only⟩⟩
  have F5:Hid (FI w g gT p E u4 H tv t (k::r) w5):=F4.out.later hb5
  have hs5:wr.heap.size≤w5.heap.size:=hb5.size
  have HK3:Hid (k.kind≠3):=hk
  clear hk hb5 F4
  go_wp2_with fail
  refine (take_any (q:=1) F5.out.q (by omega)).mono ?_
  rintro e w6 (⟨k',r',e1,hk1,rfl,hq6,ho6⟩ | ⟨z,rfl,hb,hbad⟩)
  rotate_left
  ·refine ⟨rfl,.inr ⟨z,rfl,?_,F5.out.only.trans (Only.of_below hb _)⟩⟩
   rcases hbad with ⟨e1,_⟩ | ⟨k'',r'',e1,hk'',rfl⟩
   ·cases e1
   ·injection e1 with e1 e2
    subst e1 e2
    rw [← R4.out]
    have:¬ (k.kind=1∧H.contains k.text=false∧isF k.text=true):=fun h=>hk'' h.1
    simp only [go,stp,if_neg HK3.out,if_neg this]
  injection e1 with e1 e2
  subst e1 e2
  have hk0:TkOk k:=HT.out k (M4.out k (by simp))
  have F6:Hid (FI w g gT p E u4 H tv t r w6):=F5.out.tok ho6 hq6 (by omega) (by omega)
  have hs6:w5.heap.size≤w6.heap.size:=ho6.size
  have R5:Hid ((if H.contains k.text=false∧isF k.text=true then go p E S (.eq l t (H++[k.text]) k.text) r else ([],k.at'))=R):=by
   show (if H.contains k.text=false∧isF k.text=true then go p E S (.eq l t (H++[k.text]) k.text) r else ([],k.at'))=R
   have:=R4.out
   simp only [go,stp,if_neg HK3.out] at this
   rw [← this]
   by_cases hc:H.contains k.text=false∧isF k.text=true
   ·rw [if_pos hc,if_pos ⟨hk1,hc.1,hc.2⟩]
   ·rw [if_neg hc,if_neg (fun h=>hc h.2)]
  simp only [List.length_cons] at hlen
  unfold Tk.val
  obtain ⟨gt,hgt⟩:∃ gt,w6.heap.size=gt:=⟨_,rfl⟩
  obtain ⟨wa,hwa⟩:∃ wa,w6.alloc (.cells #[.int .i64 k.kind,.string (bs k.text),.int .i64 k.at'] 294)=wa:=⟨_,rfl⟩
  have hba:Below w6.heap.size w6 wa:=by rw [← hwa];exact balloc _ _
  have hsa:gt+1=wa.heap.size:=by rw [← hwa,← hgt];simp
  have Fa:Hid (FI w g gT p E u4 H tv t r wa):=F6.out.later hba
  have t0:wa.cell? ⟨gt,0,none⟩=some (.int .i64 k.kind):=by rw [← hwa,← hgt];simp
  have t1:wa.cell? ⟨gt,1,none⟩=some (.string (bs k.text)):=by rw [← hwa,← hgt];simp
  have t2:wa.cell? ⟨gt,2,none⟩=some (.int .i64 k.at'):=by rw [← hwa,← hgt];simp
  have HW:Hid (w6.alloc (.cells #[.int .i64 k.kind,.string (bs k.text),.int .i64 k.at'] 294)=wa∧w6.heap.size=gt):=⟨hwa,hgt⟩
  have HCN:Hid (∀ W:World,Calls Tryz.prog 246 #[.agg #[.int .i64 k.kind,.string (bs k.text),.int .i64 k.at'],.bool false] W fun e w'=>e=flt k.at'∧Below W.heap.size W w'):=fun W=>check_no k W
  have HCY:Hid (∀ W:World,Calls Tryz.prog 246 #[.agg #[.int .i64 k.kind,.string (bs k.text),.int .i64 k.at'],.bool true] W fun e w'=>e=.returned (.tuple #[])∧Below W.heap.size W w'):=fun W=>check_ok k W
  obtain ⟨ah0,ch0,hvh0⟩:=Fa.out.h.frm
  obtain ⟨nH,hnH⟩:∃ nH,H.length=nH:=⟨_,rfl⟩
  have HNH:Hid (H.length=nH):=hnH
  rw [hnH] at hvh0
  subst hvh0
  have hnH3:nH≤3:=by rw [← hnH,HH.out.len];exact cnt_le H
  have HCo:Hid (Calls Tryz.prog 273 #[.slice ah0 nH ch0,.string (bs k.text)] wa.drew fun e w'=>e=.returned (.bool (H.contains k.text))∧w'=wa.drew):=containsS_any (own_ss (Fa.out.later (bd1 _)).h) k.text (by rw [hnH];omega)
  have hgs:w6.heap.size≤gt:=by omega
  have HV:Hid (∀ j,(Value.slice ah0 nH ch0).ownBlock=some j→j < gt):=fun j hj=>by have:=(F6.out.h.lt hj).2;omega
  clear hq6 ho6 hwa hba hk1 F5 F6 R4 hgt hnH
  go_wp2_with fail
  rw [HW.out.1,HW.out.2]
  cases hC:H.contains k.text
  rotate_left
  ·obtain rfl:([],k.at')=R:=by have:=R5.out;rw [hC] at this;simpa using this
   rw [hC] at HCo
   clear hC R5
   go_wp2_with fail
   refine wp_region_held_drew (S:=fun w'=>w'.cell? ⟨gt,0,none⟩=some (.int .i64 k.kind)∧w'.cell? ⟨gt,1,none⟩=some (.string (bs k.text))∧w'.cell? ⟨gt,2,none⟩=some (.int .i64 k.at')) (by kernel_rfl) ⟨t0,t1,t2⟩ (fun hHeld=>?_)
   refine tkH 0 ⟨some 11,_,_,_,_,_⟩ ?v1 rfl (Or.inl ⟨by rfl,?y1⟩) ?r1
   case y1=>(intro w h;(try dsimp only at h);go_simp;try with_reducible rfl)
   try simp only [Act.put,sA,sB,sC]
   refine tkH 1 ⟨some 12,_,_,_,_,_⟩ ?v2 rfl (Or.inl ⟨by rfl,?y2⟩) ?r2
   case y2=>(intro w h;(try dsimp only at h);go_simp;try with_reducible rfl)
   try simp only [Act.put,sA,sB,sC]
   refine tkH 2 ⟨some 13,_,_,_,_,_⟩ ?v3 rfl (Or.inl ⟨by rfl,?y3⟩) ?r3
   case y3=>(intro w h;(try dsimp only at h);go_simp;try with_reducible rfl)
   try simp only [Act.put,sA,sB,sC]
   refine tkH 3 ⟨some 14,_,_,_,_,_⟩ ?v4 rfl (Or.inl ⟨by rfl,?y4⟩) ?r4
   case y4=>(intro w h;(try dsimp only at h);go_simp;try with_reducible rfl)
   try simp only [Act.put,sA,sB,sC]
   refine wpAnyH_ready (rs:=[4]) (by kernel_rfl) (by simp) ?_
   refine AllReadyH.cons (o:=⟨some 15,_,_,_,_,_⟩) rfl (fun K hK=>?_) AllReadyH.nil
   go_simp
   refine HCo.out.mono ?_
   rintro e w7 ⟨rfl,hw7⟩
   subst hw7
   refine hK.out _ _ hHeld (fun hHeld=>?_)
   clear hK K
   try simp only [Act.put,sA,sB,sC]
   refine tkH 5 ⟨some 16,_,_,_,_,_⟩ ?v5 rfl (Or.inl ⟨by rfl,?y5⟩) ?r5
   case y5=>(intro w h;(try dsimp only at h);go_simp;try with_reducible rfl)
   try simp only [Act.put,sA,sB,sC]
   refine wpAnyH_ready (rs:=[6]) (by kernel_rfl) (by simp) ?_
   refine AllReadyH.cons (o:=⟨some 17,_,_,_,_,_⟩) rfl (fun K hK=>?_) AllReadyH.nil
   go_simp
   refine (HCN.out _).mono ?_
   rintro e w8 ⟨rfl,hb8⟩
   exact ⟨rfl,.inr ⟨_,rfl,rfl,Fa.out.only.trans (Only.of_below (bstep (bd1 _) hb8) _)⟩⟩
  ·have HNo:Hid (H.contains k.text=false):=hC
   rw [hC] at HCo R5
   clear hC
   go_wp2_with fail
   refine wp_region_held_drew (S:=fun w'=>w'.cell? ⟨gt,0,none⟩=some (.int .i64 k.kind)∧w'.cell? ⟨gt,1,none⟩=some (.string (bs k.text))∧w'.cell? ⟨gt,2,none⟩=some (.int .i64 k.at')) (by kernel_rfl) ⟨t0,t1,t2⟩ (fun hHeld=>?_)
   refine tkH 0 ⟨some 11,_,_,_,_,_⟩ ?v6 rfl (Or.inl ⟨by rfl,?y6⟩) ?r6
   case y6=>(intro w h;(try dsimp only at h);go_simp;try with_reducible rfl)
   try simp only [Act.put,sA,sB,sC]
   refine tkH 1 ⟨some 12,_,_,_,_,_⟩ ?v7 rfl (Or.inl ⟨by rfl,?y7⟩) ?r7
   case y7=>(intro w h;(try dsimp only at h);go_simp;try with_reducible rfl)
   try simp only [Act.put,sA,sB,sC]
   refine tkH 2 ⟨some 13,_,_,_,_,_⟩ ?v8 rfl (Or.inl ⟨by rfl,?y8⟩) ?r8
   case y8=>(intro w h;(try dsimp only at h);go_simp;try with_reducible rfl)
   try simp only [Act.put,sA,sB,sC]
   refine tkH 3 ⟨some 14,_,_,_,_,_⟩ ?v9 rfl (Or.inl ⟨by rfl,?y9⟩) ?r9
   case y9=>(intro w h;(try dsimp only at h);go_simp;try with_reducible rfl)
   try simp only [Act.put,sA,sB,sC]
   refine wpAnyH_ready (rs:=[4]) (by kernel_rfl) (by simp) ?_
   refine AllReadyH.cons (o:=⟨some 15,_,_,_,_,_⟩) rfl (fun K hK=>?_) AllReadyH.nil
   go_simp
   refine HCo.out.mono ?_
   rintro e w7 ⟨rfl,hw7⟩
   subst hw7
   refine hK.out _ _ hHeld (fun hHeld=>?_)
   clear hK K
   try simp only [Act.put,sA,sB,sC]
   refine tkH 5 ⟨some 16,_,_,_,_,_⟩ ?v10 rfl (Or.inl ⟨by rfl,?y10⟩) ?r10
   case y10=>(intro w h;(try dsimp only at h);go_simp;try with_reducible rfl)
   try simp only [Act.put,sA,sB,sC]
   refine wpAnyH_ready (rs:=[6]) (by kernel_rfl) (by simp) ?_
   refine AllReadyH.cons (o:=⟨some 17,_,_,_,_,_⟩) rfl (fun K hK=>?_) AllReadyH.nil
   go_simp
   refine (HCY.out _).mono ?_
   rintro e w8 ⟨rfl,hb8⟩
   have hb8':Below wa.heap.size wa w8:=bstep (bd1 _) hb8
   have F8:Hid (FI w g gT p E (.slice ah0 nH ch0) H tv t r w8):=Fa.out.later hb8'
   have hs8:wa.heap.size≤w8.heap.size:=hb8'.size
   have KS8:=cells3 hb8' (by omega) t0 t1 t2
   clear hb8 hb8' t0 t1 t2
   refine hK.out _ _ KS8 (fun hHeld=>?_)
   clear hK K
   try simp only [Act.put,sA,sB,sC]
   obtain ⟨t0,t1,t2⟩:=KS8
   clear hHeld
   refine wpAnyH_done (by kernel_rfl) ?_ _
   have x1:=bs_toList k.text
   have x2:=c_srcs
   have x3:=c_deps
   have x4:=c_see
   have HO8:Hid (Own w.heap.size w8 (.slice ah0 nH ch0) H):=F8.out.h
   have hgt8:gt < w8.heap.size:=by omega
   have T8:Hid (w8.cell? ⟨gt,0,none⟩=some (.int .i64 k.kind)∧w8.cell? ⟨gt,1,none⟩=some (.string (bs k.text))∧w8.cell? ⟨gt,2,none⟩=some (.int .i64 k.at')):=⟨t0,t1,t2⟩
   by_cases hw:k.text=wSrcs
   ·have q1:(k.text == wSrcs)=true:=by rw [hw];decide
    have R6:Hid (go p E S (.eq l t (H++[k.text]) k.text) r=R):=by
     have:=R5.out
     rw [if_pos ⟨by simp,by rw [hw];decide⟩] at this;exact this
    have HWd:Hid (k.text=wSrcs):=hw
    clear R5 hw
    go_wp2_with (first
     | (at_builtin;refine app_S k.text HO8.out (by have:=HNH.out;omega) (by omega) rfl (.tmp 18) (.tmp 21) rfl rfl rfl ?_;intro v9 w9 hO9 hB9 hN9 hs9 hw9;have F9:Hid (FI w g gT p E v9 (H++[k.text]) tv t r w9):=F8.out.had hO9 hB9 hN9 hw9 (by omega) hgTw;have hnot:gt∉(Value.slice ah0 nH ch0).ownBlock.toList:=(fun hm=>by rw [Option.mem_toList] at hm;have:=HV.out gt hm;omega);have t0:=(only_cell (p:=⟨gt,0,none⟩) hN9 hgt8 hnot).trans T8.out.1;have t1:=(only_cell (p:=⟨gt,1,none⟩) hN9 hgt8 hnot).trans T8.out.2.1;have t2:=(only_cell (p:=⟨gt,2,none⟩) hN9 hgt8 hnot).trans T8.out.2.2;clear hO9 hB9 hN9 hw9 hnot))
    have hw:=HWd.out
    rw [hw] at F9 R6 HNo
    have hno:H.contains wSrcs=false:=HNo.out
    have HLs:Hid (Calls Tryz.prog 274 #[.pointer (some ⟨g,0,none⟩),.func (.func 275) #[.pointer (some ⟨g,0,none⟩)] #[]] w9 (LsS w9 g p E S r l t (H++[wSrcs]) R)):=listS_any F9.out.q (fun q hq=>HT.out q (M4.out q (by simp [hq]))) (by omega) (HH.out.s hno) R6.out (HE.out.only F9.out.only (by simp;omega)) hg hp
    clear R6
    refine HLs.out.mono ?_
    rintro e w10 (⟨v,A,L',rfl,hA,hq10,hm10,hl10,hR10,ho10⟩ | ⟨z,rfl,hz,ho10⟩)
    rotate_left
    ·exact ⟨rfl,.inr ⟨z,rfl,hz,F9.out.only.trans (ho10.mono (by simp))⟩⟩
    obtain ⟨a9,c9,hv9⟩:=hA.frm
    obtain ⟨n9,hn9⟩:∃ n9,A.length=n9:=⟨_,rfl⟩
    rw [hn9] at hv9
    subst hv9
    have F10:Hid (FI w g gT p E v9 (H++[wSrcs]) { tv with sa:=a9,sn:=n9,sc:=c9 } { t with srcs:=A } L' (w10.setCell ⟨gT,1,none⟩ (.slice a9 n9 c9))):=F9.out.setS ho10 hq10 hgT hgTw hA
    have R10:Hid (go p E S (.fl l { t with srcs:=A } (H++[wSrcs])) L'=R):=hR10
    have M10:Hid (∀ q∈L',q∈L):=fun q hq=>M4.out q (by simp [hm10 q hq])
    have HH10:Hid (Hd (H++[wSrcs]) { t with srcs:=A }):=HH.out.addS hno A
    have hl10':L'.length < L.length:=by omega
    obtain ⟨cz1,cz2,cz3,cz4,fz1,fz2,fz3⟩:=(F9.out.b.only ho10 (by simp;omega)).cells
    obtain ⟨ah,ch,hvh⟩:=F10.out.h.frm
    have HLn:Hid ((H++[wSrcs]).length=nH+1):=by show (H++[wSrcs]).length=nH+1;rw [List.length_append,HNH.out];rfl
    rw [HLn.out] at hvh
    subst hvh
    clear hA hq10 hm10 hl10 hR10 ho10 hn9 F9 HLs hno
    go_wp2_with fail
    go_roundw
    case rel=>exact ⟨_,_,_,L',F10.out,R10.out,M10.out,by omega,HH10.out⟩
    case measure=>(have:=HNH.out;have:=cnt_le (H++[wSrcs]);have:=HH10.out.len;have:=HLn.out;simp [slen];omega)
   by_cases hw2:k.text=wDeps
   ·have q1:(k.text == wSrcs)=false:=by simpa using hw
    have q2:(k.text == wDeps)=true:=by rw [hw2];decide
    have R6:Hid (go p E S (.eq l t (H++[k.text]) k.text) r=R):=by
     have:=R5.out
     rw [if_pos ⟨by simp,by rw [hw2];decide⟩] at this;exact this
    have HWd:Hid (k.text=wDeps):=hw2
    clear R5 hw hw2
    go_wp2_with (first
     | (at_builtin;refine app_S k.text HO8.out (by have:=HNH.out;omega) (by omega) rfl (.tmp 18) (.tmp 21) rfl rfl rfl ?_;intro v9 w9 hO9 hB9 hN9 hs9 hw9;have F9:Hid (FI w g gT p E v9 (H++[k.text]) tv t r w9):=F8.out.had hO9 hB9 hN9 hw9 (by omega) hgTw;have hnot:gt∉(Value.slice ah0 nH ch0).ownBlock.toList:=(fun hm=>by rw [Option.mem_toList] at hm;have:=HV.out gt hm;omega);have t0:=(only_cell (p:=⟨gt,0,none⟩) hN9 hgt8 hnot).trans T8.out.1;have t1:=(only_cell (p:=⟨gt,1,none⟩) hN9 hgt8 hnot).trans T8.out.2.1;have t2:=(only_cell (p:=⟨gt,2,none⟩) hN9 hgt8 hnot).trans T8.out.2.2;clear hO9 hB9 hN9 hw9 hnot))
    have hw:=HWd.out
    rw [hw] at F9 R6 HNo
    have hno:H.contains wDeps=false:=HNo.out
    have HLs:Hid (Calls Tryz.prog 276 #[.pointer (some ⟨g,0,none⟩),.func (.func 277) #[.pointer (some ⟨g,0,none⟩)] #[]] w9 (LsD w9 g p E S r l t (H++[wDeps]) R)):=listD_any F9.out.q (fun q hq=>HT.out q (M4.out q (by simp [hq]))) (by omega) (HH.out.d hno) R6.out (HE.out.only F9.out.only (by simp;omega)) hg hp
    clear R6
    refine HLs.out.mono ?_
    rintro e w10 (⟨v,A,L',rfl,hA,hq10,hm10,hl10,hR10,ho10⟩ | ⟨z,rfl,hz,ho10⟩)
    rotate_left
    ·exact ⟨rfl,.inr ⟨z,rfl,hz,F9.out.only.trans (ho10.mono (by simp))⟩⟩
    obtain ⟨a9,c9,hv9⟩:=hA.frm
    obtain ⟨n9,hn9⟩:∃ n9,A.length=n9:=⟨_,rfl⟩
    rw [hn9] at hv9
    subst hv9
    have F10:Hid (FI w g gT p E v9 (H++[wDeps]) { tv with da:=a9,dn:=n9,dc:=c9 } { t with deps:=A } L' (w10.setCell ⟨gT,2,none⟩ (.slice a9 n9 c9))):=F9.out.setD ho10 hq10 hgT hgTw hA
    have R10:Hid (go p E S (.fl l { t with deps:=A } (H++[wDeps])) L'=R):=hR10
    have M10:Hid (∀ q∈L',q∈L):=fun q hq=>M4.out q (by simp [hm10 q hq])
    have HH10:Hid (Hd (H++[wDeps]) { t with deps:=A }):=HH.out.addD hno A
    have hl10':L'.length < L.length:=by omega
    obtain ⟨cz1,cz2,cz3,cz4,fz1,fz2,fz3⟩:=(F9.out.b.only ho10 (by simp;omega)).cells
    obtain ⟨ah,ch,hvh⟩:=F10.out.h.frm
    have HLn:Hid ((H++[wDeps]).length=nH+1):=by show (H++[wDeps]).length=nH+1;rw [List.length_append,HNH.out];rfl
    rw [HLn.out] at hvh
    subst hvh
    clear hA hq10 hm10 hl10 hR10 ho10 hn9 F9 HLs hno
    go_wp2_with fail
    go_roundw
    case rel=>exact ⟨_,_,_,L',F10.out,R10.out,M10.out,by omega,HH10.out⟩
    case measure=>(have:=HNH.out;have:=cnt_le (H++[wDeps]);have:=HH10.out.len;have:=HLn.out;simp [slen];omega)
   by_cases hw3:k.text=wSee
   ·have q1:(k.text == wSrcs)=false:=by simpa using hw
    have q2:(k.text == wDeps)=false:=by simpa using hw2
    have q3:(k.text == wSee)=true:=by rw [hw3];decide
    have R6:Hid (go p E S (.eq l t (H++[k.text]) k.text) r=R):=by
     have:=R5.out
     rw [if_pos ⟨by simp,by rw [hw3];decide⟩] at this;exact this
    have HWd:Hid (k.text=wSee):=hw3
    clear R5 hw hw2 hw3
    go_wp2_with (first
     | (at_builtin;refine app_S k.text HO8.out (by have:=HNH.out;omega) (by omega) rfl (.tmp 18) (.tmp 21) rfl rfl rfl ?_;intro v9 w9 hO9 hB9 hN9 hs9 hw9;have F9:Hid (FI w g gT p E v9 (H++[k.text]) tv t r w9):=F8.out.had hO9 hB9 hN9 hw9 (by omega) hgTw;have hnot:gt∉(Value.slice ah0 nH ch0).ownBlock.toList:=(fun hm=>by rw [Option.mem_toList] at hm;have:=HV.out gt hm;omega);have t0:=(only_cell (p:=⟨gt,0,none⟩) hN9 hgt8 hnot).trans T8.out.1;have t1:=(only_cell (p:=⟨gt,1,none⟩) hN9 hgt8 hnot).trans T8.out.2.1;have t2:=(only_cell (p:=⟨gt,2,none⟩) hN9 hgt8 hnot).trans T8.out.2.2;clear hO9 hB9 hN9 hw9 hnot))
    have hw:=HWd.out
    rw [hw] at F9 R6 HNo
    have hno:H.contains wSee=false:=HNo.out
    have HLs:Hid (Calls Tryz.prog 274 #[.pointer (some ⟨g,0,none⟩),.func (.func 278) #[] #[]] w9 (LsE w9 g p E S r l t (H++[wSee]) R)):=listE_any F9.out.q (fun q hq=>HT.out q (M4.out q (by simp [hq]))) (by omega) (HH.out.e hno) R6.out (HE.out.only F9.out.only (by simp;omega)) hg hp
    clear R6
    refine HLs.out.mono ?_
    rintro e w10 (⟨v,A,L',rfl,hA,hq10,hm10,hl10,hR10,ho10⟩ | ⟨z,rfl,hz,ho10⟩)
    rotate_left
    ·exact ⟨rfl,.inr ⟨z,rfl,hz,F9.out.only.trans (ho10.mono (by simp))⟩⟩
    obtain ⟨a9,c9,hv9⟩:=hA.frm
    obtain ⟨n9,hn9⟩:∃ n9,A.length=n9:=⟨_,rfl⟩
    rw [hn9] at hv9
    subst hv9
    have F10:Hid (FI w g gT p E v9 (H++[wSee]) { tv with ea:=a9,en:=n9,ec:=c9 } { t with see:=A } L' (w10.setCell ⟨gT,3,none⟩ (.slice a9 n9 c9))):=F9.out.setE ho10 hq10 hgT hgTw hA
    have R10:Hid (go p E S (.fl l { t with see:=A } (H++[wSee])) L'=R):=hR10
    have M10:Hid (∀ q∈L',q∈L):=fun q hq=>M4.out q (by simp [hm10 q hq])
    have HH10:Hid (Hd (H++[wSee]) { t with see:=A }):=HH.out.addE hno A
    have hl10':L'.length < L.length:=by omega
    obtain ⟨cz1,cz2,cz3,cz4,fz1,fz2,fz3⟩:=(F9.out.b.only ho10 (by simp;omega)).cells
    obtain ⟨ah,ch,hvh⟩:=F10.out.h.frm
    have HLn:Hid ((H++[wSee]).length=nH+1):=by show (H++[wSee]).length=nH+1;rw [List.length_append,HNH.out];rfl
    rw [HLn.out] at hvh
    subst hvh
    clear hA hq10 hm10 hl10 hR10 ho10 hn9 F9 HLs hno
    go_wp2_with fail
    go_roundw
    case rel=>exact ⟨_,_,_,L',F10.out,R10.out,M10.out,by omega,HH10.out⟩
    case measure=>(have:=HNH.out;have:=cnt_le (H++[wSee]);have:=HH10.out.len;have:=HLn.out;simp [slen];omega)
   ·have q1:(k.text == wSrcs)=false:=by simpa using hw
    have q2:(k.text == wDeps)=false:=by simpa using hw2
    have q3:(k.text == wSee)=false:=by simpa using hw3
    obtain rfl:([],k.at')=R:=by
     have:=R5.out
     rw [if_neg (fun h=>by have:=h.2;simp [isF,hw,hw2,hw3] at this)] at this;exact this
    clear R5 hw hw2 hw3
    go_wp2_with (first
     | (at_builtin;refine app_S k.text HO8.out (by have:=HNH.out;omega) (by omega) rfl (.tmp 18) (.tmp 21) rfl rfl rfl ?_;intro v9 w9 hO9 hB9 hN9 hs9 hw9;have F9:Hid (FI w g gT p E v9 (H++[k.text]) tv t r w9):=F8.out.had hO9 hB9 hN9 hw9 (by omega) hgTw;have hnot:gt∉(Value.slice ah0 nH ch0).ownBlock.toList:=(fun hm=>by rw [Option.mem_toList] at hm;have:=HV.out gt hm;omega);have t0:=(only_cell (p:=⟨gt,0,none⟩) hN9 hgt8 hnot).trans T8.out.1;have t1:=(only_cell (p:=⟨gt,1,none⟩) hN9 hgt8 hnot).trans T8.out.2.1;have t2:=(only_cell (p:=⟨gt,2,none⟩) hN9 hgt8 hnot).trans T8.out.2.2;clear hO9 hB9 hN9 hw9 hnot))
    refine (HCN.out _).mono ?_
    rintro e w10 ⟨rfl,hb10⟩
    exact ⟨rfl,.inr ⟨_,rfl,rfl,F9.out.only.trans (Only.of_below hb10 _)⟩⟩
end
end Go.Proofs.YtppnbdnpapellaaGreatDoor
