/-
  Parse: a fault is caught at the face.
  Globs: literals, patterns, what fits, what a source names.
  The library's share: strings.Index, Contains, Replace at a star; path.Dir.
  The program's Valid, Star, literal, isPattern, filled, below.
-/
import Derived.Test.YtkheacknelbcnaaGreatDoorMRead
import Derived.Defers
import Derived.Recover
import Derived.Test.YtkheacknelbcnaaGreatDoorJListP
import Derived.Test.YtkheacknelbcnaaGreatDoorJSEq
import Derived.Test.YtkheacknelbcnaaGreatDoorJMShelf
namespace Go.Proofs.YtkheacknelbcnaaGreatDoor
open Go.RowKit
theorem wp_weaken {P:Program} {c:Code} {Q Q':Exit→Act→World→Prop} {a:Act} {w:World} (h:∀ e a w,Q e a w→Q' e a w) (hc:c.wp P Q a w):c.wp P Q' a w:=fun b k cs=>
 let ⟨e,a',w',hq,hr⟩:=hc b k cs
 ⟨e,a',w',h _ _ _ hq,hr⟩
theorem ta_err (z:Int) (w:World):(Instr.typeAssert (.iface 218 (.int .i64 z)) 20 197 true).run Tryz.prog w=.ok (.tuple #[.iface 218 (.int .i64 z),.bool true]) w:=by kernel_rfl
theorem ta_nil (w:World):(Instr.typeAssert .nilIface 20 197 true).run Tryz.prog w=.ok (.tuple #[.nilIface,.bool false]) w:=by kernel_rfl
set_option maxRecDepth 100000 in
set_option maxHeartbeats 4000000 in
theorem catch_idle (gl ga:Nat) (w:World) :
  CallsD Tryz.prog 154 #[.pointer (some ⟨gl,0,none⟩),.pointer (some ⟨ga,0,none⟩)] .returning w fun e u' w'=>e=.returned (.tuple #[])∧u'=.returning∧w'=w:=by
 have ht:=ta_nil
 refine callsD_of_wpS Tryz.func154 rfl fun c₀ cs hu=>?_
 apply wpS_seq
 apply wpS_region
 simp [wpOpsS,go_sem,recoverD,hu,Tryz.ntmps154,Exit.thenS,ta_nil]
 refine wpS_of_wp ?_
 change Code.wp Tryz.prog _ _ ⟨#[.pointer (some ⟨gl,0,none⟩),.pointer (some ⟨ga,0,none⟩),.nilIface,.bool false,.tuple #[.nilIface,.bool false],.nilIface,.tuple #[.nilIface,.bool false],.nilIface,.bool false,undef,undef,undef],[]⟩ w
 go_wp2_with fail
 cases c₀
 simp_all [bodyPostS,results,Tryz.results154]
set_option maxRecDepth 100000 in
set_option maxHeartbeats 4000000 in
theorem catch_pan (gl ga:Nat) (z:Int) {w:World} (E:Ev w) {x y:Value} (xcl:w.cell? ⟨gl,0,none⟩=some x) (ca:w.cell? ⟨ga,0,none⟩=some y) (fl:w.frozen? ⟨gl,0,none⟩=false) (fa:w.frozen? ⟨ga,0,none⟩=false) (hgl:gl < w.heap.size) (hga:ga < w.heap.size) (hne:gl≠ga) :
  CallsD Tryz.prog 154 #[.pointer (some ⟨gl,0,none⟩),.pointer (some ⟨ga,0,none⟩)] (.panicking [{ v:=.iface 218 (.int .i64 z),recovered:=false }]) w fun e u' w'=>
   e=.returned (.tuple #[])∧u'=.panicking [{ v:=.iface 218 (.int .i64 z),recovered:=true }]∧∃ w1,Below w.heap.size w w1∧w'=(w1.setCell ⟨gl,0,none⟩ (.slice none 0 0)).setCell ⟨ga,0,none⟩ (.int .i64 z):=by
 have HP:Hid (Calls Tryz.prog 155 #[.iface 218 (.int .i64 z)] w fun e w'=>e=.returned (.int .i64 z)∧Below w.heap.size w w'):=placeOf_any z E
 refine callsD_of_wpS Tryz.func154 rfl fun c₀ cs hu=>?_
 apply wpS_seq
 apply wpS_region
 simp [wpOpsS,go_sem,recoverD,hu,Tryz.ntmps154,Exit.thenS,ta_err]
 refine wpS_of_wp ?_
 refine wp_weaken (Q:=fun e a' w'=>e=Exit.normal∧a'.defers=[]∧∃ w1,Below w.heap.size w w1∧w'=(w1.setCell ⟨gl,0,none⟩ (.slice none 0 0)).setCell ⟨ga,0,none⟩ (.int .i64 z)) ?_ ?_
 ·rintro e a' w' ⟨rfl,hd,h1⟩
  exact ⟨hd,_,rfl,_,results_none rfl _ _ _,rfl,rfl,h1⟩
 clear hu
 simp only [Array.replicate,List.replicate,List.setIfInBounds_toArray,List.set_cons_succ,List.set_cons_zero,List.append_toArray,List.cons_append,List.nil_append]
 clear E
 go_wp2_with fail
 refine HP.out.mono ?_
 rintro e w1 ⟨rfl,hb⟩
 have cl1:w1.cell? ⟨gl,0,none⟩=some x:=(hb.cell (p:=⟨gl,0,none⟩) hgl).trans xcl
 have ca1:w1.cell? ⟨ga,0,none⟩=some y:=(hb.cell (p:=⟨ga,0,none⟩) hga).trans ca
 have fl1:w1.frozen? ⟨gl,0,none⟩=false:=(hb.frozen (p:=⟨gl,0,none⟩) hgl).trans fl
 have fa1:w1.frozen? ⟨ga,0,none⟩=false:=(hb.frozen (p:=⟨ga,0,none⟩) hga).trans fa
 have HB:Hid (Below w.heap.size w w1):=hb
 clear hb
 go_wp2_with fail
 exact ⟨w1,HB.out,rfl⟩
/-- what Parse leaves -/
def LsP (w:World) (R:List Tg×Int) (e:Ending) (w':World):Prop:=∃ v,e=.returned (.tuple #[v,.int .i64 R.2])∧GOwn w.heap.size w' v R.1∧Below w.heap.size w w'
theorem results_ll {P:Program} {fn:Func} {p q:Tmp} {t u:TypeId} (h:fn.results = #[.cell p t,.cell q u]) (tmps:Array Value) (w:World) {g k:Nat} {x y:Value} (hp:tmps.getD p undef=.pointer (some ⟨g,0,none⟩)) (hq:tmps.getD q undef=.pointer (some ⟨k,0,none⟩))
  (hx:(loadVar t ⟨g,0,none⟩).run P w=.ok x w) (hy:(loadVar u ⟨k,0,none⟩).run P w=.ok y w):(results fn tmps).run P w=.ok (.tuple #[x,y]) w:=by
 have hp':tmps[p]?.getD undef=.pointer (some ⟨g,0,none⟩):=by simpa using hp
 have hq':tmps[q]?.getD undef=.pointer (some ⟨k,0,none⟩):=by simpa using hq
 unfold results
 rw [h]
 simp [hp',hq',asAddr,hx,hy]
theorem load22 {w:World} {g:Nat} {x:Value} (h:w.cell? ⟨g,0,none⟩=some x):(loadVar 109 ⟨g,0,none⟩).run Tryz.prog w=.ok x w:=by
 simp [loadVar,isAgg,underlying,Tryz.underlying109,h]
theorem load3 {w:World} {g:Nat} {x:Value} (h:w.cell? ⟨g,0,none⟩=some x):(loadVar 3 ⟨g,0,none⟩).run Tryz.prog w=.ok x w:=by
 simp [loadVar,isAgg,underlying,Tryz.underlying3,h]
theorem GOwn.only {S:List Nat} {base:Nat} {w w':World} {v:Value} {l:List Tg} (h:GOwn base w v l) (ho:Only S w w') (hS:∀ k∈S,k < base):GOwn base w' v l:=by
 obtain ⟨a,h1,h2,h3⟩:=h.it
 refine ⟨a,h1.only ho fun k hk hm=>?_,h2.only ho fun t ht u hu k hk hm=>?_,h3⟩
 ·have:=(h1.lt hk).1;have:=hS k hm;omega
 ·have:=(h2.lt t ht u hu k hk).1;have:=hS k hm;omega
theorem GOwn.form {base:Nat} {w:World} {v:Value} {l:List Tg} (h:GOwn base w v l):∃ a n c,v=.slice a n c:=by
 obtain ⟨b,h1,_,_⟩:=h.it
 obtain ⟨a,c,e⟩:=h1.form
 exact ⟨a,_,c,e⟩
/-- the two results' variables -/
structure TwoB (w:World) (G:Nat) (x y:Value):Prop where
 l:w.heap[G]? = some (.cells #[x] 109 (0,0))
 a:w.heap[G+1]? = some (.cells #[y] 3 (0,0))
theorem TwoB.new (w:World) (x y:Value):TwoB ((w.alloc (.cells #[x] 109)).alloc (.cells #[y] 3)) w.heap.size x y:=
 ⟨(heap_alloc_old _ _ (by simp)).trans (heap_alloc_new _ _),by have:=heap_alloc_new (w.alloc (.cells #[x] 109)) (.cells #[y] 3);simpa using this⟩
theorem TwoB.lt {w:World} {G:Nat} {x y:Value} (h:TwoB w G x y):G+1 < w.heap.size:=(Array.getElem?_eq_some_iff.1 h.a).1
theorem TwoB.later {w w':World} {G:Nat} {x y:Value} (h:TwoB w G x y) (hb:Below w.heap.size w w'):TwoB w' G x y:=
 ⟨(hb.block G (by have:=h.lt;omega)).trans h.l,(hb.block (G+1) h.lt).trans h.a⟩
theorem TwoB.set {w:World} {G:Nat} {x y:Value} (h:TwoB w G x y) (x' y':Value):TwoB ((w.setCell ⟨G,0,none⟩ x').setCell ⟨G+1,0,none⟩ y') G x' y':=by
 constructor
 ·rw [hset_ne _ (by omega),heap_setCell _ _ _ _ h.l];simp
 ·rw [heap_setCell _ _ _ _ ((hset_ne _ (by omega) _ _).trans h.a)];simp
theorem TwoB.cells {w:World} {G:Nat} {x y:Value} (h:TwoB w G x y):w.cell? ⟨G,0,none⟩=some x∧w.cell? ⟨G+1,0,none⟩=some y∧w.frozen? ⟨G,0,none⟩=false∧w.frozen? ⟨G+1,0,none⟩=false:=by
 have h1:=h.l
 have h2:=h.a
 exact ⟨by simp [World.cell?,h1],by simp [World.cell?,h2],by simp [World.frozen?,h1],by simp [World.frozen?,h2]⟩
theorem set2_only (w:World) (G:Nat) (x y:Value):Only [G,G+1] w ((w.setCell ⟨G,0,none⟩ x).setCell ⟨G+1,0,none⟩ y):=
 ((Only.set _ _ _ _).mono (by simp)).trans ((Only.set _ _ _ _).mono (by simp))
theorem set2_below {B:Nat} {w w':World} {G:Nat} (hb:Below B w w') (hG:B≤G) (x y:Value):Below B w ((w'.setCell ⟨G,0,none⟩ x).setCell ⟨G+1,0,none⟩ y):=
 (hb.setCell (p:=⟨G,0,none⟩) hG _).setCell (p:=⟨G+1,0,none⟩) (by show B≤G+1;omega) _
set_option maxRecDepth 100000 in
set_option maxHeartbeats 4000000 in
theorem parse_any {w:World} (p s:List UInt8) (hE:Ev w) (hp:p.length≤1125899906842624) (hs:s.length≤1125899906842624) :
  Calls Tryz.prog 120 #[.string (bs p),.string (bs s)] w (LsP w (prsM p s)):=by
 have hmf:∀ (fn:Fn) (first cap:Array Value) (w:World),(Instr.makeFunc fn first cap).run Tryz.prog w=.ok (.func fn first cap) w:=fun _ _ _ _=>rfl
 have hz:(bs s).size=s.length:=rfl
 have HV:Hid (∀ W:World,Calls Tryz.prog 71 #[.string (bs p)] W fun e w'=>e=.returned (.bool (okP p))∧Below W.heap.size W w'):=fun W=>valid_any p W (by omega)
 obtain ⟨R,hR⟩:∃ R,prsM p s=R:=⟨_,rfl⟩
 rw [hR]
 unfold prsM at hR
 obtain ⟨G,hG⟩:∃ G,w.heap.size=G:=⟨_,rfl⟩
 obtain ⟨w0,hw0⟩:∃ w0,(w.alloc (.cells #[.slice none 0 0] 109)).alloc (.cells #[.int .i64 0] 3)=w0:=⟨_,rfl⟩
 have T0:Hid (TwoB w0 G (.slice none 0 0) (.int .i64 0)):=by
  show TwoB w0 G _ _
  rw [← hw0,← hG];exact TwoB.new w _ _
 have B0:Hid (Below w.heap.size w w0):=by show Below w.heap.size w w0;rw [← hw0];exact bstep (balloc _ _) (balloc _ _)
 have HW:Hid ((w.alloc (.cells #[.slice none 0 0] 109)).alloc (.cells #[.int .i64 0] 3)=w0∧w.heap.size=G):=⟨hw0,hG⟩
 have hGw:w.heap.size≤G:=by omega
 have HE0:Hid (Ev w0):=hE.later B0.out
 clear hw0 hG hE
 cases hok:okP p
 ·rw [hok] at HV
  obtain rfl:([],0)=R:=by rw [← hR,hok];rfl
  clear hok hR
  go_enter_defers Tryz.func120,Tryz.ntmps120
  go_wp2_with fail
  rw [HW.out.1,HW.out.2]
  refine (HV.out _).mono ?_
  rintro e w1 ⟨rfl,hb⟩
  have T1:Hid (TwoB w1 G (.slice none 0 0) (.int .i64 0)):=T0.out.later hb
  have B1:Hid (Below w.heap.size w w1):=bstep B0.out hb
  obtain ⟨c0,c1,f0,f1⟩:=T1.out.cells
  clear hb
  go_wp2_with fail
  obtain ⟨r0,r1,_,_⟩:=(T1.out.set (.slice none 0 0) (.int .i64 0)).cells
  exact ⟨_,results_ll rfl _ _ rfl rfl (load22 r0) (load3 r1),_,rfl,GOwn.nil _ _,set2_below B1.out hGw _ _⟩
 rw [hok,if_pos rfl] at hR
 rw [hok] at HV
 have hp120:p.length≤120:=(okP_len hok).1
 clear hok
 by_cases hlen:s.length≤4096
 rotate_left
 ·rw [if_neg hlen] at hR
  subst hR
  have i1:(4096:Int) < (s.length:Int):=by omega
  go_enter_defers Tryz.func120,Tryz.ntmps120
  go_wp2_with fail
  rw [HW.out.1,HW.out.2]
  refine (HV.out _).mono ?_
  rintro e w1 ⟨rfl,hb⟩
  have T1:Hid (TwoB w1 G (.slice none 0 0) (.int .i64 0)):=T0.out.later hb
  have B1:Hid (Below w.heap.size w w1):=bstep B0.out hb
  obtain ⟨c0,c1,f0,f1⟩:=T1.out.cells
  clear hb
  go_wp2_with fail
  obtain ⟨r0,r1,_,_⟩:=(T1.out.set (.slice none 0 0) (.int .i64 4096)).cells
  exact ⟨_,results_ll rfl _ _ rfl rfl (load22 r0) (load3 r1),_,rfl,GOwn.nil _ _,set2_below B1.out hGw _ _⟩
 rw [if_pos hlen] at hR
 have i1:¬ ((4096:Int) < (s.length:Int)):=by omega
 have HRd:Hid (∀ W:World,Ev W→Calls Tryz.prog 156 #[.string (bs p),.string (bs s)] W fun e w'=>(∃ v ts,e=.returned v∧GOwn W.heap.size w' v ts∧R=(ts,-1)∧Below W.heap.size W w')∨(∃ z,e=flt z∧R=([],z)∧Below W.heap.size W w')):=fun W hW=>mread_any p s hW hp120 hlen hR
 clear hR
 go_enter_defers Tryz.func120,Tryz.ntmps120
 go_wp2_with fail
 rw [HW.out.1,HW.out.2]
 refine (HV.out _).mono ?_
 rintro e w1 ⟨rfl,hb⟩
 have T1:Hid (TwoB w1 G (.slice none 0 0) (.int .i64 0)):=T0.out.later hb
 have B1:Hid (Below w.heap.size w w1):=bstep B0.out hb
 have E1:Hid (Ev w1):=HE0.out.later hb
 have hG1:=T1.out.lt
 clear hb HE0 T0
 go_wp2_with fail
 refine (HRd.out _ E1.out).mono ?_
 rintro e w2 (⟨v,ts,rfl,hO,rfl,hb⟩ | ⟨z,rfl,rfl,hb⟩)
 ·have T2:Hid (TwoB w2 G (.slice none 0 0) (.int .i64 0)):=T1.out.later hb
  have B2:Hid (Below w.heap.size w w2):=bstep B1.out hb
  obtain ⟨av,nv,cv,hv⟩:=hO.form
  subst hv
  have O2:Hid (GOwn w1.heap.size w2 (.slice av nv cv) ts):=hO
  obtain ⟨c0,c1,f0,f1⟩:=T2.out.cells
  clear hb hO
  go_wp2_with fail
  refine leaves_cons (f:=154) (args:=#[.pointer (some ⟨G,0,none⟩),.pointer (some ⟨G+1,0,none⟩)]) (by simp) (by simp [go_sem]) ?_
  refine (catch_idle G (G+1) _).mono ?_
  rintro e u' w3 ⟨rfl,rfl,rfl⟩
  obtain ⟨r0,r1,_,_⟩:=(T2.out.set (.slice av nv cv) (.int .i64 (-1))).cells
  refine ⟨_,results_ll rfl _ _ rfl rfl (load22 r0) (load3 r1),_,rfl,?_,set2_below B2.out hGw _ _⟩
  exact (O2.out.only (set2_only _ _ _ _) (by simp;omega)).mono (by have:=B1.out.size;omega)
 ·have T2:Hid (TwoB w2 G (.slice none 0 0) (.int .i64 0)):=T1.out.later hb
  have B2:Hid (Below w.heap.size w w2):=bstep B1.out hb
  obtain ⟨c0,c1,f0,f1⟩:=T2.out.cells
  have hs2:=hb.size
  refine leaves_cons (f:=154) (args:=#[.pointer (some ⟨G,0,none⟩),.pointer (some ⟨G+1,0,none⟩)]) (by simp) (by simp [go_sem]) ?_
  refine (catch_pan G (G+1) z (E1.out.later hb) c0 c1 f0 f1 (by omega) (by omega) (by omega)).mono ?_
  rintro e u' w3 ⟨rfl,rfl,w4,hb4,rfl⟩
  obtain ⟨r0,r1,_,_⟩:=((T2.out.later hb4).set (.slice none 0 0) (.int .i64 z)).cells
  exact ⟨_,results_ll rfl _ _ rfl rfl (load22 r0) (load3 r1),_,rfl,GOwn.nil _ _,set2_below (bstep B2.out hb4) hGw _ _⟩
end Go.Proofs.YtkheacknelbcnaaGreatDoor

namespace Go.Proofs.YtkheacknelbcnaaGreatDoor
theorem rep1_length:∀ (l:List UInt8),(rep1 l).length=l.length
 | []=>rfl
 | c::r=>by unfold rep1;split<;>simp [rep1_length r]
theorem base_none {b:List UInt8} (h:b.count 47=0):base b=b:=by
 unfold base;rw [lst_none b h];rfl
/-! ### literals, globs, patterns -/
def litP (s:List UInt8):Bool:=!decide (s=[]) && okP s && !decide (base s=wName)
def starP (s:List UInt8):Bool:=(base s).contains 42 && okP (rep1 s)
theorem base_cut (d b:List UInt8) (h:b.count 47=0):base (d++47::b)=b:=by rw [base_app,base_none h]
theorem dir_cut (d b:List UInt8) (h:b.count 47=0):dir (d++47::b)=d:=by
 unfold dir
 have e:=lst_app d b
 rw [lst_none b h] at e
 rw [if_neg (by omega),e]
 have:(↑d.length+1 + -1:Int).toNat=d.length:=by omega
 rw [this];simp
/-- a text is one piece, or two cut at its last slash -/
theorem two (s:List UInt8):(s.count 47=0∧base s=s∧dir s=[])∨∃ d b,s=d++47::b∧b.count 47=0∧base s=b∧dir s=d:=by
 by_cases h:s.count 47=0
 ·exact .inl ⟨h,base_none h,by unfold dir;rw [lst_none s h];rfl⟩
 ·right
  have h0:0≤lst s:=lst_some s (by omega)
  have hcut:=lst_cut s h0
  obtain ⟨d,hd⟩:∃ d,s.take (lst s).toNat=d:=⟨_,rfl⟩
  obtain ⟨b,hb⟩:∃ b,s.drop (lst s+1).toNat=b:=⟨_,rfl⟩
  rw [hd,hb] at hcut
  have hb0:b.count 47=0:=by
   by_cases e:b.count 47=0
   ·exact e
   ·have h1:=lst_some b (by omega)
    have h2:=lst_app d b
    rw [← hcut] at h2
    have h3:d.length=(lst s).toNat:=by
     rw [← hd,List.length_take]
     have:=lst_lt s;omega
    omega
  exact ⟨d,b,hcut,hb0,by rw [hcut];exact base_cut d b hb0,by rw [hcut];exact dir_cut d b hb0⟩
theorem star_42 {s:List UInt8} (h:starP s=true):(42:UInt8)∈base s:=by
 unfold starP at h
 simp only [Bool.and_eq_true] at h
 simpa using h.1
/-- a package's directory and a source together -/
def whl (p s:List UInt8):List UInt8:=if p=[] then s else p++47::s
/-! ### what fits -/
def fts (x y n:List UInt8):Bool:=decide (x.length+y.length≤n.length) && decide (n.take x.length=x) && decide (n.drop (n.length - y.length)=y)
def hd42 (p:List UInt8):List UInt8:=p.take (Lib.indexByte p 42).toNat
def tl42 (p:List UInt8):List UInt8:=p.drop ((Lib.indexByte p 42).toNat+1)
theorem at42 {p:List UInt8} (h:(42:UInt8)∈p):p=hd42 p++42::tl42 p∧(42:UInt8)∉hd42 p∧Lib.indexByte p 42=((hd42 p).length:Int):=by
 rcases cut_split 42 p.length p (Nat.le_refl _) with h1 | ⟨a,b,rfl,h1⟩
 ·exact absurd h h1
 ·unfold hd42 tl42
  rw [ib_app 42 a b h1]
  simp [h1]
/-! ### what a source names -/
def sel (J:List UInt8) (f:Fl):Bool:=decide (dir f.path=dir J) && !decide (base f.path=wName) && fts (hd42 (base J)) (tl42 (base J)) (base f.path)
def fnd (l:List Fl) (J:List UInt8):Option Fl:=l.find? (fun f=>decide (f.path=J))
def exl (l:List Fl) (J:List UInt8):List Fl×Bool:=
 if litP J=true then (match fnd l J with | some f=>([f],true) | none=>([],false))
 else if starP J=true then (l.filter (sel J),true) else ([],false)
theorem exl_len (l:List Fl) (J:List UInt8):(exl l J).1.length≤l.length:=by
 unfold exl
 split
 ·cases h:fnd l J with
  | none=>simp
  | some f=>
   have:f∈l:=List.mem_of_find?_eq_some h
   show 1≤l.length
   cases l with
   | nil=>simp at this
   | cons _ _=>simp
 ·split
  ·exact List.length_filter_le _ _
  ·simp
end Go.Proofs.YtkheacknelbcnaaGreatDoor

namespace Go.Proofs.YtkheacknelbcnaaGreatDoor
open Go.RowKit Go.Lib
set_option maxRecDepth 100000 in
theorem index_star (l:List UInt8) (w:World) :
  Calls Tryz.prog 133 #[.string (bs l),.string (bs [42])] w fun e w'=>e=.returned (.int .i64 (Lib.indexByte l 42))∧w'=w:=by
 have HI:Hid (∀ w:World,Calls Tryz.prog 166 #[.string (bs l),.string (bs [42])] w fun e w'=>e=.returned (.int .i64 (Lib.indexByte l 42))∧w'=w):=fun w=>star_index l w
 go_enter Tryz.func133,Tryz.ntmps133
 go_wp2_with fail
 refine (HI.out _).mono ?_
 rintro e w1 ⟨rfl,rfl⟩
 go_wp2_with fail
 go_ret
 exact ⟨rfl,rfl⟩
set_option maxRecDepth 100000 in
set_option maxHeartbeats 1000000 in
theorem dir_any (l:List UInt8) (w:World) (hl:l.length≤9223372036854775807) :
  Calls Tryz.prog 95 #[.string (bs l)] w fun e w'=>e=.returned (.string (bs (dir l)))∧w'=w:=by
 have HL:Hid (l.length≤9223372036854775807):=hl
 clear hl
 have hz:(bs l).size=l.length:=rfl
 have h2:=lst_lt l
 by_cases h:lst l < 0
 ·have hd0:dir l=[]:=by simp [dir,h]
  rw [hd0]
  go_enter Tryz.func95,Tryz.ntmps95
  go_wp2_with fail
  refine (last_any _ _ HL.out).mono ?_
  rintro e w1 ⟨rfl,rfl⟩
  go_wp2_with fail
  go_ret
  exact ⟨rfl,rfl⟩
 ·obtain ⟨n,hn⟩:∃ n:Nat,lst l=n:=⟨(lst l).toNat,by omega⟩
  have hd0:dir l=l.take n:=by unfold dir;rw [if_neg h,hn];rfl
  rw [hd0]
  have HE:Hid ((bs l).extract 0 n=bs (l.take n)):=extract_to l n
  rw [hn] at h h2
  go_enter Tryz.func95,Tryz.ntmps95
  go_wp2_with fail
  refine (last_any _ _ HL.out).mono ?_
  rintro e w1 ⟨rfl,rfl⟩
  rw [hn]
  have h3:n < l.length:=by omega
  go_wp2_with fail
  go_ret
  exact ⟨by rw [← HE.out];rfl,rfl⟩end Go.Proofs.YtkheacknelbcnaaGreatDoor

namespace Go.Proofs.YtkheacknelbcnaaGreatDoor
open Go.RowKit Go.Lib
set_option maxRecDepth 100000 in
theorem filled_any (l:List UInt8) {w:World} (E:Ev w) (hl:l.length≤1000000000) :
  Calls Tryz.prog 130 #[.string (bs l)] w fun e w'=>e=.returned (.string (bs (rep1 l)))∧Below w.heap.size w w':=by
 have HR:Hid (Calls Tryz.prog 162 #[.string (bs l),.string (bs [42]),.string (bs [97]),.int .i64 1] w fun e w'=>e=.returned (.string (bs (rep1 l)))∧Below w.heap.size w w'):=replace_any l E hl
 go_enter Tryz.func130,Tryz.ntmps130
 go_wp2_with fail
 refine HR.out.mono ?_
 rintro e w1 ⟨rfl,hb⟩
 have HB:Hid (Below w.heap.size w w1):=hb
 clear hb
 go_wp2_with fail
 go_ret
 exact ⟨rfl,HB.out⟩
set_option maxRecDepth 100000 in
set_option maxHeartbeats 1000000 in
theorem starP_any (l:List UInt8) {w:World} (E:Ev w) (hl:l.length≤1000000000) :
  Calls Tryz.prog 93 #[.string (bs l)] w fun e w'=>e=.returned (.bool (starP l))∧Below w.heap.size w w':=by
 have HBs:Hid (∀ w:World,Calls Tryz.prog 97 #[.string (bs l)] w fun e w'=>e=.returned (.string (bs (base l)))∧w'=w):=fun w=>base_any l w (by omega)
 have HS:Hid (∀ w:World,Calls Tryz.prog 129 #[.string (bs (base l)),.string (bs [42])] w fun e w'=>e=.returned (.bool ((base l).contains 42))∧w'=w):=fun w=>star_any (base l) w
 have HF:Hid (Calls Tryz.prog 130 #[.string (bs l)] w fun e w'=>e=.returned (.string (bs (rep1 l)))∧Below w.heap.size w w'):=filled_any l E hl
 have HC:Hid (∀ W:World,Calls Tryz.prog 71 #[.string (bs (rep1 l))] W fun e w'=>e=.returned (.bool (okP (rep1 l)))∧Below W.heap.size W w'):=fun W=>valid_any (rep1 l) W (by rw [rep1_length];omega)
 unfold starP
 generalize base l=b at *
 cases hc:b.contains 42
 ·rw [hc] at HS
  go_enter Tryz.func93,Tryz.ntmps93
  go_wp2_with fail
  refine (HBs.out _).mono ?_
  rintro e w0 ⟨rfl,rfl⟩
  go_wp2_with fail
  refine (HS.out _).mono ?_
  rintro e w1 ⟨rfl,rfl⟩
  go_wp2_with fail
  go_ret
  exact ⟨rfl,Below.refl _ _⟩
 ·rw [hc] at HS
  generalize okP (rep1 l)=r at *
  go_enter Tryz.func93,Tryz.ntmps93
  go_wp2_with fail
  refine (HBs.out _).mono ?_
  rintro e w0 ⟨rfl,hw0⟩
  obtain rfl:w=w0:=hw0.symm
  go_wp2_with fail
  refine (HS.out _).mono ?_
  rintro e w1 ⟨rfl,hw1⟩
  obtain rfl:w=w1:=hw1.symm
  go_wp2_with fail
  refine HF.out.mono ?_
  rintro e w2 ⟨rfl,hb⟩
  have HB:Hid (Below w.heap.size w w2):=hb
  clear hb
  go_wp2_with fail
  refine (HC.out _).mono ?_
  rintro e w3 ⟨rfl,hb3⟩
  have HB3:Hid (Below w.heap.size w w3):=bstep HB.out hb3
  clear hb3
  go_wp2_with fail
  go_ret
  exact ⟨by simp,HB3.out⟩
set_option maxRecDepth 100000 in
set_option maxHeartbeats 1000000 in
theorem litP_any (l:List UInt8) (w:World) (hl:l.length≤1000000000) :
  Calls Tryz.prog 91 #[.string (bs l)] w fun e w'=>e=.returned (.bool (litP l))∧Below w.heap.size w w':=by
 have HBs:Hid (∀ w:World,Calls Tryz.prog 97 #[.string (bs l)] w fun e w'=>e=.returned (.string (bs (base l)))∧w'=w):=fun w=>base_any l w (by omega)
 have HC:Hid (∀ W:World,Calls Tryz.prog 71 #[.string (bs l)] W fun e w'=>e=.returned (.bool (okP l))∧Below W.heap.size W w'):=fun W=>valid_any l W (by omega)
 have e1:=isE l
 have e2:=bs_toList (base l)
 have e3:=c_name
 unfold litP
 generalize base l=b at *
 generalize okP l=r at *
 by_cases h0:l=[]
 ·have i0:l.isEmpty=true:=by rw [h0];rfl
  rw [i0] at e1
  rw [decide_eq_true h0]
  clear h0
  go_enter Tryz.func91,Tryz.ntmps91
  go_wp2_with fail
  go_ret
  exact ⟨rfl,Below.refl _ _⟩
 have i0:l.isEmpty=false:=by cases l;exact absurd rfl h0;rfl
 rw [i0] at e1
 rw [decide_eq_false h0]
 clear h0
 cases r
 ·go_enter Tryz.func91,Tryz.ntmps91
  go_wp2_with fail
  refine (HC.out _).mono ?_
  rintro e w1 ⟨rfl,hb⟩
  have HB:Hid (Below w.heap.size w w1):=hb
  clear hb
  go_wp2_with fail
  go_ret
  exact ⟨rfl,HB.out⟩
 ·go_enter Tryz.func91,Tryz.ntmps91
  go_wp2_with fail
  refine (HC.out _).mono ?_
  rintro e w1 ⟨rfl,hb⟩
  have HB:Hid (Below w.heap.size w w1):=hb
  clear hb
  go_wp2_with fail
  refine (HBs.out _).mono ?_
  rintro e w2 ⟨rfl,rfl⟩
  go_wp2_with fail
  go_ret
  refine ⟨?_,HB.out⟩
  by_cases hb:b=wName
  ·simp [hb]
  ·simp [hb]
set_option maxRecDepth 100000 in
set_option maxHeartbeats 1000000 in
theorem below_any (p s:List UInt8) (w:World) (hp:p.length≤1000000000) (hs:s.length≤1000000000) :
  Calls Tryz.prog 90 #[.string (bs p),.string (bs s)] w fun e w'=>e=.returned (.string (bs (whl p s)))∧w'=w:=by
 have e1:=isE p
 have z1:(bs p).size=p.length:=rfl
 have z2:(bs s).size=s.length:=rfl
 unfold whl
 by_cases h0:p=[]
 ·have i0:p.isEmpty=true:=by rw [h0];rfl
  rw [i0] at e1
  rw [if_pos h0]
  clear h0
  go_enter Tryz.func90,Tryz.ntmps90
  go_wp2_with fail
  go_ret
  exact ⟨rfl,rfl⟩
 ·have i0:p.isEmpty=false:=by cases p;exact absurd rfl h0;rfl
  rw [i0] at e1
  rw [if_neg h0]
  clear h0
  have HW:Hid (bs p++ByteArray.mk #[47]++bs s=bs (p++47::s)):=by
   show bs p++bs [47]++bs s=_
   rw [bs_app,bs_app];simp
  go_enter Tryz.func90,Tryz.ntmps90
  go_wp2_with fail
  go_ret
  exact ⟨by rw [← HW.out];rfl,rfl⟩
end Go.Proofs.YtkheacknelbcnaaGreatDoor
