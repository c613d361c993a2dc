/-
  The least label.
  Faults in memory.
  The fault of the first label that has one.
-/
import Derived.Test.YtkheacknelbcnaaGreatDoorJCd
namespace Go.Proofs.YtkheacknelbcnaaGreatDoor
open Go.RowKit Go.Maps
theorem RB.kept' {w w':World} {g:Nat} {f:Lb} (h:RB w g f) (e:w'.heap[g]? = w.heap[g]?):RB w' g f:=⟨e.trans h.blk⟩
/-- the lesser of two labels -/
def lsL (m y:Lb):Lb:=if cmpL y m < 0 then y else m
/-- the least label -/
def mnL:List Lb→Lb
 | []=>⟨[],[]⟩
 | x::r=>r.foldl lsL x
theorem mnL_step {ps:List Lb} {i:Nat} (h1:1≤i) (hi:i < ps.length):mnL (ps.take (i+1))=lsL (mnL (ps.take i)) ps[i]:=by
 cases ps with
 | nil=>simp at hi
 | cons x r=>
  obtain ⟨k,rfl⟩:∃ k,i=k+1:=⟨i - 1,by omega⟩
  have hk:k < r.length:=by simpa using hi
  show (r.take (k+1)).foldl lsL x=lsL ((r.take k).foldl lsL x) r[k]
  rw [List.take_succ_eq_append_getElem hk,List.foldl_append]
  rfl
set_option maxRecDepth 100000 in
set_option maxHeartbeats 4000000 in
theorem bminL_any {w:World} {v:Value} {ps:List Lb} (h:LS w v ps) (hne:1≤ps.length) (hl:ps.length≤100000000) (he:∀ x∈ps,Lm x) :
  Calls Tryz.prog 86 #[v,.func (.func 87) #[] #[]] w fun e w'=>e=.returned (mnL ps).val∧Below w.heap.size w w':=by
 obtain ⟨a,c,hv,_⟩:=h.form
 obtain ⟨pn,hpn⟩:∃ pn,ps.length=pn:=⟨_,rfl⟩
 rw [hpn] at hv
 subst hv
 obtain ⟨b,off,ha,hbl,c00,c01⟩:=LS.at h (Below.refl _ _) (k:=0) (by omega)
 subst ha
 have HA:Hid (∀ W,Below w.heap.size w W→∀ k,(hk:k < ps.length)→W.cell? ⟨b,off+k * 2,none⟩=some (.string (bs ps[k].pkg))∧W.cell? ⟨b,off+k * 2+1,none⟩=some (.string (bs ps[k].name))):=fun W hW k hk=>by
  obtain ⟨b',off',e,_,q0,q1⟩:=LS.at h hW hk
  injection e with e
  injection e with e1 e2 _
  subst e1 e2
  exact ⟨q0,q1⟩
 have HX:Hid (ps.length=pn∧∀ x∈ps,Lm x):=⟨hpn,he⟩
 have HM1:Hid (mnL (ps.take 1)=ps[0]∧Lm ps[0]):=by
  refine ⟨?_,he _ (List.getElem_mem _)⟩
  cases ps with
  | nil=>simp at hne
  | cons x r=>simp [mnL]
 obtain ⟨x0,hx0⟩:∃ x0,ps[0]=x0:=⟨_,rfl⟩
 rw [hx0] at c00 c01 HM1
 clear h hx0 he hpn
 obtain ⟨p0,n0⟩:=x0
 have c0:(w.alloc (.cells #[.string { data:=#[] },.string { data:=#[] }] 28)).cell? ⟨b,off,none⟩=some (.string (bs p0)):=cell_alloc _ hbl (by simpa using c00)
 have c1:(w.alloc (.cells #[.string { data:=#[] },.string { data:=#[] }] 28)).cell? ⟨b,off+1,none⟩=some (.string (bs n0)):=cell_alloc _ hbl (by simpa using c01)
 have HG:Hid (RB ((w.alloc (.cells #[.string { data:=#[] },.string { data:=#[] }] 28)).alloc (.cells #[.string (bs p0),.string (bs n0)] 28)) w.heap.size ⟨[],[]⟩∧RB ((w.alloc (.cells #[.string { data:=#[] },.string { data:=#[] }] 28)).alloc (.cells #[.string (bs p0),.string (bs n0)] 28)) (w.heap.size+1) ⟨p0,n0⟩∧Below w.heap.size w ((w.alloc (.cells #[.string { data:=#[] },.string { data:=#[] }] 28)).alloc (.cells #[.string (bs p0),.string (bs n0)] 28))):=by
  have hz:(w.alloc (.cells #[.string { data:=#[] },.string { data:=#[] }] 28)).heap.size=w.heap.size+1:=by simp
  have h1:=RB.new (w.alloc (.cells #[.string { data:=#[] },.string { data:=#[] }] 28)) ⟨p0,n0⟩
  rw [hz] at h1
  exact ⟨(RB.new w ⟨[],[]⟩).later (balloc _ _),h1,bstep (balloc _ _) (balloc _ _)⟩
 have p1:¬ ((pn:Int) < 1):=by have:=HX.out.1;omega
 have p2:(0:Int) < (pn:Int):=by have:=HX.out.1;omega
 have p3:0 < pn:=by have:=HX.out.1;omega
 have hl8:pn≤100000000:=by have:=HX.out.1;omega
 clear c00 c01 hne hl
 go_enter Tryz.func86,Tryz.ntmps86
 go_upto_region 5 with fail
 obtain ⟨g5,hg5⟩:∃ g5,w.heap.size+1=g5:=⟨_,rfl⟩
 obtain ⟨W0,hW0⟩:∃ W0,(w.alloc (.cells #[.string { data:=#[] },.string { data:=#[] }] 28)).alloc (.cells #[.string (bs p0),.string (bs n0)] 28)=W0:=⟨_,rfl⟩
 rw [hW0,hg5] at HG
 try rw [hW0]
 try rw [hg5]
 have HG5:Hid (w.heap.size+1=g5):=hg5
 clear hW0 hg5 c0 c1
 go_loopw [6] (fun iv wr=>∃ (i:Nat) (m:Lb),1≤i∧i≤pn∧iv=.int .i64 i∧mnL (ps.take i)=m∧Lm m∧RB wr w.heap.size ⟨[],[]⟩∧RB wr g5 m∧Below w.heap.size w wr) (fun iv _=>pn - (intOf iv).toNat)
 case atStart=>exact ⟨1,_,by omega,by omega,rfl,HM1.out.1,HM1.out.2,HG.out.1,HG.out.2.1,HG.out.2.2⟩
 case round=>
  obtain ⟨i,m,hi1,hi0,rfl,hm,hml,hr4,hr5,hb⟩:=hrel
  have X5:Hid (mnL (ps.take i)=m∧Lm m∧RB wr w.heap.size ⟨[],[]⟩∧RB wr g5 m∧Below w.heap.size w wr):=⟨hm,hml,hr4,hr5,hb⟩
  clear hm hml hr4 hr5 hb
  obtain ⟨mp,mn⟩:=m
  by_cases hi:i < pn
  ·have i1:(i:Int) < (pn:Int):=by omega
   have i2:(0:Int)≤(i:Int):=by omega
   have hil:i < ps.length:=by rw [HX.out.1];exact hi
   have HCI:Hid (∀ W,Below w.heap.size w W→W.cell? ⟨b,off+i * 2,none⟩=some (.string (bs ps[i].pkg))∧W.cell? ⟨b,off+i * 2+1,none⟩=some (.string (bs ps[i].name))):=fun W hW=>HA.out W hW i hil
   have HS:Hid (mnL (ps.take (i+1))=lsL ⟨mp,mn⟩ ps[i]∧Lm ps[i]):=⟨by rw [mnL_step hi1 hil,X5.out.1],HX.out.2 _ (List.getElem_mem hil)⟩
   obtain ⟨y,hy⟩:∃ y,ps[i]=y:=⟨_,rfl⟩
   rw [hy] at HCI HS
   clear hy
   obtain ⟨yp,yn⟩:=y
   have HSD:Hid (∀ W,Below wr.heap.size wr W→W.cell? ⟨b,off+i * 2,none⟩=some (.string (bs yp))∧W.cell? ⟨b,off+i * 2+1,none⟩=some (.string (bs yn))∧W.cell? ⟨g5,0,none⟩=some (.string (bs mp))∧W.cell? ⟨g5,1,none⟩=some (.string (bs mn))):=fun W hW=>by
    obtain ⟨q0,q1⟩:=HCI.out W (bstep X5.out.2.2.2.2 hW)
    obtain ⟨q2,q3,_,_⟩:=(X5.out.2.2.2.1.later hW).cells
    exact ⟨q0,q1,q2,q3⟩
   obtain ⟨z,hz⟩:∃ z,cmpL ⟨yp,yn⟩ ⟨mp,mn⟩=z:=⟨_,rfl⟩
   have HZ:Hid (cmpL ⟨yp,yn⟩ ⟨mp,mn⟩=z):=hz
   have HBP:Hid (∀ W,Calls Tryz.prog 87 #[.agg #[.string (bs yp),.string (bs yn)],.agg #[.string (bs mp),.string (bs mn)]] W fun e w'=>e=.returned (.int .i64 z)∧Below W.heap.size W w'):=fun W=>by
    rw [← hz]
    exact lcmp_any ⟨yp,yn⟩ ⟨mp,mn⟩ W HS.out.2 X5.out.2.1
   clear hz
   go_wp2_with fail
   refine wp_region_noPanic ?_
   refine wp_region_held_drew (S:=fun W'=>W'.cell? ⟨b,off+i * 2,none⟩=some (.string (bs yp))∧W'.cell? ⟨b,off+i * 2+1,none⟩=some (.string (bs yn))∧W'.cell? ⟨g5,0,none⟩=some (.string (bs mp))∧W'.cell? ⟨g5,1,none⟩=some (.string (bs mn))) (by kernel_rfl) (by exact HSD.out wr (Below.refl _ _)) (fun hHeld=>?_)
   refine wpAnyH_take (i:=0) (oi:=⟨some 20,_,_,_,_,_⟩) (v:=?vx1) rfl (by kernel_rfl) (by kernel_rfl) (by kernel_rfl) (fun _ _ _ h=>h) (Or.inl ⟨by rfl,?hyx1⟩) (by assumption) ?restx1
   case hyx1=>(intro w hSw;(try dsimp only at hSw);go_simp;try with_reducible rfl)
   try simp only [Act.put,List.setIfInBounds_toArray,List.set_cons_zero,List.set_cons_succ]
   refine wpAnyH_take (i:=1) (oi:=⟨some 21,_,_,_,_,_⟩) (v:=?vx2) rfl (by kernel_rfl) (by kernel_rfl) (by kernel_rfl) (fun _ _ _ h=>h) (Or.inl ⟨by rfl,?hyx2⟩) (by assumption) ?restx2
   case hyx2=>(intro w hSw;(try dsimp only at hSw);go_simp;try with_reducible rfl)
   try simp only [Act.put,List.setIfInBounds_toArray,List.set_cons_zero,List.set_cons_succ]
   refine wpAnyH_take (i:=2) (oi:=⟨some 22,_,_,_,_,_⟩) (v:=?vx3) rfl (by kernel_rfl) (by kernel_rfl) (by kernel_rfl) (fun _ _ _ h=>h) (Or.inl ⟨by rfl,?hyx3⟩) (by assumption) ?restx3
   case hyx3=>(intro w hSw;(try dsimp only at hSw);go_simp;try with_reducible rfl)
   try simp only [Act.put,List.setIfInBounds_toArray,List.set_cons_zero,List.set_cons_succ]
   refine wpAnyH_take (i:=3) (oi:=⟨some 23,_,_,_,_,_⟩) (v:=?vx4) rfl (by kernel_rfl) (by kernel_rfl) (by kernel_rfl) (fun _ _ _ h=>h) (Or.inl ⟨by rfl,?hyx4⟩) (by assumption) ?restx4
   case hyx4=>(intro w hSw;(try dsimp only at hSw);go_simp;try with_reducible rfl)
   try simp only [Act.put,List.setIfInBounds_toArray,List.set_cons_zero,List.set_cons_succ]
   refine wpAnyH_take (i:=4) (oi:=⟨some 24,_,_,_,_,_⟩) (v:=?vx5) rfl (by kernel_rfl) (by kernel_rfl) (by kernel_rfl) (fun _ _ _ h=>h) (Or.inl ⟨by rfl,?hyx5⟩) (by assumption) ?restx5
   case hyx5=>(intro w hSw;(try dsimp only at hSw);go_simp;try with_reducible rfl)
   try simp only [Act.put,List.setIfInBounds_toArray,List.set_cons_zero,List.set_cons_succ]
   refine wpAnyH_take (i:=5) (oi:=⟨some 25,_,_,_,_,_⟩) (v:=?vx6) rfl (by kernel_rfl) (by kernel_rfl) (by kernel_rfl) (fun _ _ _ h=>h) (Or.inl ⟨by rfl,?hyx6⟩) (by assumption) ?restx6
   case hyx6=>(intro w hSw;(try dsimp only at hSw);go_simp;try with_reducible rfl)
   try simp only [Act.put,List.setIfInBounds_toArray,List.set_cons_zero,List.set_cons_succ]
   refine wpAnyH_ready (rs:=[6]) (by kernel_rfl) (by simp) ?_
   refine AllReadyH.cons (o:=⟨some 26,_,_,_,_,_⟩) rfl (fun K hK=>?_) AllReadyH.nil
   go_simp
   with_reducible refine (HBP.out wr.drew).mono ?_
   rintro e w2 ⟨rfl,hb⟩
   have HB2:Hid (Below wr.heap.size wr w2):=bstep (Below.refl _ wr).drew hb
   clear hb
   refine hK.out _ _ (HSD.out w2 HB2.out) (fun hHeld=>?_)
   clear hK K
   try simp only [List.setIfInBounds_toArray,List.set_cons_zero,List.set_cons_succ]
   refine wpAnyH_take (i:=7) (oi:=⟨some 27,_,_,_,_,_⟩) (v:=?vx7) rfl (by kernel_rfl) (by kernel_rfl) (by kernel_rfl) (fun _ _ _ h=>h) (Or.inl ⟨by rfl,?hyx7⟩) (by assumption) ?restx7
   case hyx7=>(intro w hSw;(try dsimp only at hSw);go_simp;try with_reducible rfl)
   try simp only [Act.put,List.setIfInBounds_toArray,List.set_cons_zero,List.set_cons_succ]
   refine wpAnyH_done (by kernel_rfl) ?_ _
   refine NoPanic.normal ?_
   clear hHeld
   have X6:Hid (RB w2 w.heap.size ⟨[],[]⟩∧RB w2 g5 ⟨mp,mn⟩∧Below w.heap.size w w2):=⟨X5.out.2.2.1.later HB2.out,X5.out.2.2.2.1.later HB2.out,bstep X5.out.2.2.2.2 HB2.out⟩
   by_cases hzz:z < 0
   ·have HE:Hid (lsL ⟨mp,mn⟩ ⟨yp,yn⟩=⟨yp,yn⟩):=by show lsL ⟨mp,mn⟩ ⟨yp,yn⟩=⟨yp,yn⟩;unfold lsL;rw [HZ.out,if_pos hzz]
    obtain ⟨q0,q1⟩:=HCI.out w2 X6.out.2.2
    obtain ⟨b0,b1,b2,b3⟩:=X6.out.2.1.cells
    simp only at q0 q1 b0 b1
    have X7:Hid (RB ((w2.setCell ⟨g5,0,none⟩ (.string (bs yp))).setCell ⟨g5,1,none⟩ (.string (bs yn))) w.heap.size ⟨[],[]⟩∧RB ((w2.setCell ⟨g5,0,none⟩ (.string (bs yp))).setCell ⟨g5,1,none⟩ (.string (bs yn))) g5 ⟨yp,yn⟩∧Below w.heap.size w ((w2.setCell ⟨g5,0,none⟩ (.string (bs yp))).setCell ⟨g5,1,none⟩ (.string (bs yn)))):=by
     have hg:=HG5.out
     have hon:=only_set2 w2 g5 0 1 (.string (bs yp)) (.string (bs yn))
     exact ⟨X6.out.1.kept' (hon.block _ X6.out.1.lt (by simp;omega)),X6.out.2.1.set ⟨yp,yn⟩,bset2 X6.out.2.2 (by omega) _ _⟩
    go_wp2_with fail
    go_roundw
    case rel=>exact ⟨i+1,_,by omega,by omega,by go_num,by rw [HS.out.1,HE.out],HS.out.2,X7.out.1,X7.out.2.1,X7.out.2.2⟩
    case measure=>simp [intOf];omega
   ·have HE:Hid (lsL ⟨mp,mn⟩ ⟨yp,yn⟩=⟨mp,mn⟩):=by show lsL ⟨mp,mn⟩ ⟨yp,yn⟩=⟨mp,mn⟩;unfold lsL;rw [HZ.out,if_neg hzz]
    go_wp2_with fail
    go_roundw
    case rel=>exact ⟨i+1,_,by omega,by omega,by go_num,by rw [HS.out.1,HE.out],X5.out.2.1,X6.out.1,X6.out.2.1,X6.out.2.2⟩
    case measure=>simp [intOf];omega
  ·obtain rfl:i=pn:=by omega
   obtain ⟨b0,b1,b2,b3⟩:=X5.out.2.2.1.cells
   obtain ⟨d0,d1,d2,d3⟩:=X5.out.2.2.2.1.cells
   simp only at b0 b1 d0 d1
   go_wp2_with fail
   refine bodyPost_ret (results_cell_row rfl _ _ w.heap.size 28 #[.string (bs mp),.string (bs mn)] (0,0) _ rfl (X5.out.2.2.1.set ⟨mp,mn⟩).blk Tryz.underlying28 rfl (by kernel_rfl)) rfl ?_
   have h1:=X5.out.1
   rw [List.take_of_length_le (by rw [HX.out.1];exact Nat.le_refl _)] at h1
   exact ⟨by rw [h1];rfl,bset2 X5.out.2.2.2.2 (Nat.le_refl _) _ _⟩
end Go.Proofs.YtkheacknelbcnaaGreatDoor

namespace Go.Proofs.YtkheacknelbcnaaGreatDoor
open Go.RowKit Go.Maps
/-- a fault, as it lies: its circle is a list somewhere -/
structure Fv where
 code:Int
 lab:Lb
 oth:Lb
 path:List UInt8
 at':Int
 ca:Option Addr
 cn:Nat
 cc:Nat
def Fv.val (f:Fv):Value:=.agg #[.int .i64 f.code,.string (bs f.lab.pkg),.string (bs f.lab.name),.string (bs f.oth.pkg),.string (bs f.oth.name),.string (bs f.path),.int .i64 f.at',.slice f.ca f.cn f.cc]
def Fv.cells (f:Fv):Array Value:=#[.int .i64 f.code,.string (bs f.lab.pkg),.string (bs f.lab.name),.string (bs f.oth.pkg),.string (bs f.oth.name),.string (bs f.path),.int .i64 f.at',.slice f.ca f.cn f.cc]
def zFv:Fv:=⟨0,⟨[],[]⟩,⟨[],[]⟩,[],0,none,0,0⟩
/-- a fault's block -/
structure FK (w:World) (g:Nat) (f:Fv):Prop where
 blk:w.heap[g]? = some (.cells f.cells 30 (0,0))
/-- a fault is laid into a block -/
def putF (w:World) (g:Nat) (f:Fv):World:=(((((((w.setCell ⟨g,0,none⟩ (.int .i64 f.code)).setCell ⟨g,1,none⟩ (.string (bs f.lab.pkg))).setCell ⟨g,2,none⟩ (.string (bs f.lab.name))).setCell ⟨g,3,none⟩ (.string (bs f.oth.pkg))).setCell ⟨g,4,none⟩ (.string (bs f.oth.name))).setCell ⟨g,5,none⟩ (.string (bs f.path))).setCell ⟨g,6,none⟩ (.int .i64 f.at')).setCell ⟨g,7,none⟩ (.slice f.ca f.cn f.cc)
section
variable {w w':World} {g:Nat} {f k:Fv}
theorem FK.lt (h:FK w g f):g < w.heap.size:=(Array.getElem?_eq_some_iff.1 h.blk).1
theorem FK.kept (h:FK w g f) (e:w'.heap[g]? = w.heap[g]?):FK w' g f:=⟨e.trans h.blk⟩
theorem FK.later (h:FK w g f) (hb:Below w.heap.size w w'):FK w' g f:=h.kept (hb.block g h.lt)
theorem FK.new (w:World) (f:Fv):FK (w.alloc (.cells f.cells 30)) w.heap.size f:=⟨heap_alloc_new _ _⟩
theorem FK.get (h:FK w g f):w.cell? ⟨g,0,none⟩=some (.int .i64 f.code)∧w.cell? ⟨g,1,none⟩=some (.string (bs f.lab.pkg))∧w.cell? ⟨g,2,none⟩=some (.string (bs f.lab.name))∧w.cell? ⟨g,3,none⟩=some (.string (bs f.oth.pkg))∧w.cell? ⟨g,4,none⟩=some (.string (bs f.oth.name))∧w.cell? ⟨g,5,none⟩=some (.string (bs f.path))∧w.cell? ⟨g,6,none⟩=some (.int .i64 f.at')∧w.cell? ⟨g,7,none⟩=some (.slice f.ca f.cn f.cc):=by
 have hb:=h.blk
 unfold Fv.cells at hb
 refine ⟨?_,?_,?_,?_,?_,?_,?_,?_⟩<;>simp [World.cell?,hb]
theorem FK.soft (h:FK w g f) (o:Nat):w.frozen? ⟨g,o,none⟩=false:=by
 have hb:=h.blk
 simp [World.frozen?,hb]
theorem FK.set (h:FK w g f) (k:Fv):FK (putF w g k) g k:=by
 have hb:=h.blk
 refine ⟨?_⟩
 unfold putF Fv.cells
 unfold Fv.cells at hb
 rw [heap_setCell _ _ _ _ (heap_setCell _ _ _ _ (heap_setCell _ _ _ _ (heap_setCell _ _ _ _ (heap_setCell _ _ _ _ (heap_setCell _ _ _ _ (heap_setCell _ _ _ _ (heap_setCell _ _ _ _ hb)))))))]
 simp only [List.setIfInBounds_toArray,List.set_cons_zero,List.set_cons_succ]
theorem putF_only (w:World) (g:Nat) (k:Fv):Only [g] w (putF w g k):=
 (((((((Only.set _ _ _ _).trans (Only.set _ _ _ _)).trans (Only.set _ _ _ _)).trans (Only.set _ _ _ _)).trans (Only.set _ _ _ _)).trans (Only.set _ _ _ _)).trans (Only.set _ _ _ _)).trans (Only.set _ _ _ _)
end
end Go.Proofs.YtkheacknelbcnaaGreatDoor

namespace Go.Proofs.YtkheacknelbcnaaGreatDoor
open Go.RowKit Go.Maps
/-- what is answered when a label is asked about -/
def AskP (w:World) (f:Fv) (b:Bool) (e:Ending) (w':World):Prop:=e=.returned (.tuple #[f.val,.bool b])∧Below w.heap.size w w'
/-- the first fault -/
def fstF (fd:Lb→Bool) (ft:Lb→Fv) (ls:List Lb):Fv:=match ls.find? fd with
 | some a=>ft a
 | none=>zFv
theorem fstF_at {fd:Lb→Bool} {ft:Lb→Fv} {ls:List Lb} {i:Nat} (hi:i < ls.length) (h:∀ a∈ls.take i,fd a=false) (hq:fd ls[i]=true):fstF fd ft ls=ft ls[i]∧ls.any fd=true:=by
 have e:ls.take i++ls[i]::ls.drop (i+1)=ls:=by rw [← List.drop_eq_getElem_cons hi,List.take_append_drop]
 have h1:=find_mid (f:=fd) (A:=ls.take i) (B:=ls.drop (i+1)) (x:=ls[i]) h hq
 rw [e] at h1
 refine ⟨by unfold fstF;rw [h1],?_⟩
 rw [List.any_eq_true]
 exact ⟨ls[i],List.getElem_mem hi,hq⟩
set_option maxRecDepth 100000 in
set_option maxHeartbeats 8000000 in
theorem bfirst47_any {w:World} {r:Nat} {lv:Value} {ls:List Lb} {fd:Lb→Bool} {ft:Lb→Fv} (hl:LS w lv ls) (hls:ls.length≤100000000)
  (HA:∀ W a,Below w.heap.size w W→a∈ls→Calls Tryz.prog 47 #[.pointer (some ⟨r,0,none⟩),a.val] W (AskP W (ft a) (fd a))) :
  Calls Tryz.prog 46 #[lv,.func (.func 47) #[.pointer (some ⟨r,0,none⟩)] #[]] w (AskP w (fstF fd ft ls) (ls.any fd)):=by
 obtain ⟨a0,c0,hlv,_⟩:=hl.form
 obtain ⟨n,hln⟩:∃ n,ls.length=n:=⟨_,rfl⟩
 have HX:Hid (LS w lv ls∧ls.length=n):=⟨hl,hln⟩
 rw [hln] at hlv
 subst hlv
 have HAS:=hid_of HA
 have hn8:n≤100000000:=by omega
 clear hl hls HA
 have HZ:Hid (FK (w.alloc (.cells #[.int .i64 0,.string { data:=#[] },.string { data:=#[] },.string { data:=#[] },.string { data:=#[] },.string { data:=#[] },.int .i64 0,.slice none 0 0] 30)) w.heap.size zFv):=FK.new w zFv
 clear hln
 go_enter Tryz.func46,Tryz.ntmps46
 go_wp2_with fail
 go_loopw [12] (fun iv wr=>∃ (i:Nat),i≤n∧iv=.int .i64 i∧(∀ a∈ls.take i,fd a=false)∧Below w.heap.size w wr∧FK wr w.heap.size zFv) (fun iv _=>n - (intOf iv).toNat)
 case atStart=>
  refine ⟨0,by omega,rfl,by simp,balloc _ _,HZ.out⟩
 case round=>
  obtain ⟨i,hi0,rfl,h1,h2,h3⟩:=hrel
  have X5:Hid ((∀ a∈ls.take i,fd a=false)∧Below w.heap.size w wr∧FK wr w.heap.size zFv):=⟨h1,h2,h3⟩
  clear h1 h2 h3
  by_cases hi:i < n
  ·have i1:(i:Int) < (n:Int):=by omega
   have i2:(0:Int)≤(i:Int):=by omega
   have hil:i < ls.length:=by rw [HX.out.2];exact hi
   obtain ⟨b,off,ea,hbl,q0,q1⟩:=LS.at HX.out.1 X5.out.2.1 hil
   subst ea
   have HAK:=hid_of (fun W (hW:Below w.heap.size w W)=>HAS.out W ls[i] hW (List.getElem_mem hil))
   have HTK:Hid (ls.take (i+1)=ls.take i++[ls[i]]):=List.take_succ_eq_append_getElem hil
   have HFI:Hid (fd ls[i]=true→fstF fd ft ls=ft ls[i]∧ls.any fd=true):=fun h=>fstF_at hil X5.out.1 h
   obtain ⟨x,hx⟩:∃ x,ls[i]=x:=⟨_,rfl⟩
   rw [hx] at q0 q1 HAK HTK HFI
   clear hx
   obtain ⟨p,m⟩:=x
   simp only [Lb.val] at q0 q1 HAK
   obtain ⟨fq,hfq⟩:∃ fq,fd ⟨p,m⟩=fq:=⟨_,rfl⟩
   have HFQ:Hid (fd ⟨p,m⟩=fq):=hfq
   rw [hfq] at HAK HFI
   clear hfq
   obtain ⟨fv,hfv⟩:∃ fv,ft ⟨p,m⟩=fv:=⟨_,rfl⟩
   rw [hfv] at HAK HFI
   clear hfv
   go_wp2_with fail
   refine (HAK.out _ (below_trans X5.out.2.1 (below_mono (balloc _ _) X5.out.2.1.size))).mono ?_
   rintro e w2 h
   unfold AskP at h
   obtain ⟨rfl,k1⟩:=h
   obtain ⟨fc,⟨lp,ln⟩,⟨op,on⟩,fp,fa,ca,cn,cc⟩:=fv
   have hs0:w.heap.size < wr.heap.size:=X5.out.2.2.lt
   have X6:Hid (Below w.heap.size w w2∧FK w2 w.heap.size zFv):=⟨below_trans X5.out.2.1 (below_mono (bstep (balloc _ _) k1) X5.out.2.1.size),(X5.out.2.2.later (balloc _ _)).later k1⟩
   clear k1
   have hval:Fv.val ⟨fc,⟨lp,ln⟩,⟨op,on⟩,fp,fa,ca,cn,cc⟩=.agg #[.int .i64 fc,.string (bs lp),.string (bs ln),.string (bs op),.string (bs on),.string (bs fp),.int .i64 fa,.slice ca cn cc]:=rfl
   rw [hval]
   clear hval
   clear HAK
   dsimp only
   have Z1:FK (w2.alloc (.cells #[.int .i64 fc,.string (bs lp),.string (bs ln),.string (bs op),.string (bs on),.string (bs fp),.int .i64 fa,.slice ca cn cc] 30)) w.heap.size zFv:=X6.out.2.later (balloc _ _)
   obtain ⟨z0,z1,z2,z3,z4,z5,z6,z7⟩:=Z1.get
   have y0:=Z1.soft 0
   have y1:=Z1.soft 1
   have y2:=Z1.soft 2
   have y3:=Z1.soft 3
   have y4:=Z1.soft 4
   have y5:=Z1.soft 5
   have y6:=Z1.soft 6
   have y7:=Z1.soft 7
   clear Z1
   cases fq with
   | true=>
    go_wp2_with fail
    have HP:=putF_only (w2.alloc (.cells #[.int .i64 fc,.string (bs lp),.string (bs ln),.string (bs op),.string (bs on),.string (bs fp),.int .i64 fa,.slice ca cn cc] 30)) w.heap.size ⟨fc,⟨lp,ln⟩,⟨op,on⟩,fp,fa,ca,cn,cc⟩
    refine bodyPost_ret (results_ct rfl _ _ w.heap.size 30 #[.int .i64 fc,.string (bs lp),.string (bs ln),.string (bs op),.string (bs on),.string (bs fp),.int .i64 fa,.slice ca cn cc] (0,0) _ rfl ((X6.out.2.later (balloc w2 (.cells #[.int .i64 fc,.string (bs lp),.string (bs ln),.string (bs op),.string (bs on),.string (bs fp),.int .i64 fa,.slice ca cn cc] 30))).set ⟨fc,⟨lp,ln⟩,⟨op,on⟩,fp,fa,ca,cn,cc⟩).blk Tryz.underlying30 rfl (by kernel_rfl)) rfl ?_
    obtain ⟨j1,j2⟩:=HFI.out trivial
    unfold AskP
    have hb9:Below w.heap.size w (w2.alloc (.cells #[.int .i64 fc,.string (bs lp),.string (bs ln),.string (bs op),.string (bs on),.string (bs fp),.int .i64 fa,.slice ca cn cc] 30)):=below_trans X6.out.1 (below_mono (balloc _ _) X6.out.1.size)
    exact ⟨by rw [j1,j2];rfl,below_trans hb9 (HP.below hb9.size (fun x hx=>by simp at hx;omega))⟩
   | false=>
    clear z0 z1 z2 z3 z4 z5 z6 z7 y0 y1 y2 y3 y4 y5 y6 y7
    go_wp2_with fail
    refine ⟨⟨i+1,by omega,by simp,fun a ha=>?_,below_trans X6.out.1 (below_mono (balloc _ _) X6.out.1.size),X6.out.2.later (balloc _ _)⟩,?_⟩
    ·rw [HTK.out] at ha
     rcases List.mem_append.1 ha with h | h
     ·exact X5.out.1 a h
     ·rw [List.mem_singleton.1 h]
      exact HFQ.out
    ·simp only [intOf]
     omega
  ·have Z1:FK wr w.heap.size zFv:=X5.out.2.2
   obtain ⟨z0,z1,z2,z3,z4,z5,z6,z7⟩:=Z1.get
   have y0:=Z1.soft 0
   have y1:=Z1.soft 1
   have y2:=Z1.soft 2
   have y3:=Z1.soft 3
   have y4:=Z1.soft 4
   have y5:=Z1.soft 5
   have y6:=Z1.soft 6
   have y7:=Z1.soft 7
   clear Z1
   go_wp2_with fail
   have HP:=putF_only wr w.heap.size zFv
   refine bodyPost_ret (results_ct rfl _ _ w.heap.size 30 #[.int .i64 0,.string { data:=#[] },.string { data:=#[] },.string { data:=#[] },.string { data:=#[] },.string { data:=#[] },.int .i64 0,.slice none 0 0] (0,0) _ rfl (X5.out.2.2.set zFv).blk Tryz.underlying30 rfl (by kernel_rfl)) rfl ?_
   have hin:i=n:=by omega
   have hno:=X5.out.1
   rw [List.take_of_length_le (by rw [HX.out.2,hin];exact Nat.le_refl _)] at hno
   have j1:fstF fd ft ls=zFv:=by
    unfold fstF
    rw [List.find?_eq_none.2 (fun a ha=>by simp [hno a ha])]
   have j2:ls.any fd=false:=List.any_eq_false.2 (fun a ha=>by simp [hno a ha])
   unfold AskP
   exact ⟨by rw [j1,j2];rfl,below_trans X5.out.2.1 (HP.below X5.out.2.1.size (fun x hx=>by simp at hx;omega))⟩
set_option maxRecDepth 100000 in
set_option maxHeartbeats 8000000 in
theorem bfirst49_any {w:World} {r:Nat} {lv:Value} {ls:List Lb} {fd:Lb→Bool} {ft:Lb→Fv} (hl:LS w lv ls) (hls:ls.length≤100000000)
  (HA:∀ W a,Below w.heap.size w W→a∈ls→Calls Tryz.prog 49 #[.pointer (some ⟨r,0,none⟩),a.val] W (AskP W (ft a) (fd a))) :
  Calls Tryz.prog 46 #[lv,.func (.func 49) #[.pointer (some ⟨r,0,none⟩)] #[]] w (AskP w (fstF fd ft ls) (ls.any fd)):=by
 obtain ⟨a0,c0,hlv,_⟩:=hl.form
 obtain ⟨n,hln⟩:∃ n,ls.length=n:=⟨_,rfl⟩
 have HX:Hid (LS w lv ls∧ls.length=n):=⟨hl,hln⟩
 rw [hln] at hlv
 subst hlv
 have HAS:=hid_of HA
 have hn8:n≤100000000:=by omega
 clear hl hls HA
 have HZ:Hid (FK (w.alloc (.cells #[.int .i64 0,.string { data:=#[] },.string { data:=#[] },.string { data:=#[] },.string { data:=#[] },.string { data:=#[] },.int .i64 0,.slice none 0 0] 30)) w.heap.size zFv):=FK.new w zFv
 clear hln
 go_enter Tryz.func46,Tryz.ntmps46
 go_wp2_with fail
 go_loopw [12] (fun iv wr=>∃ (i:Nat),i≤n∧iv=.int .i64 i∧(∀ a∈ls.take i,fd a=false)∧Below w.heap.size w wr∧FK wr w.heap.size zFv) (fun iv _=>n - (intOf iv).toNat)
 case atStart=>
  refine ⟨0,by omega,rfl,by simp,balloc _ _,HZ.out⟩
 case round=>
  obtain ⟨i,hi0,rfl,h1,h2,h3⟩:=hrel
  have X5:Hid ((∀ a∈ls.take i,fd a=false)∧Below w.heap.size w wr∧FK wr w.heap.size zFv):=⟨h1,h2,h3⟩
  clear h1 h2 h3
  by_cases hi:i < n
  ·have i1:(i:Int) < (n:Int):=by omega
   have i2:(0:Int)≤(i:Int):=by omega
   have hil:i < ls.length:=by rw [HX.out.2];exact hi
   obtain ⟨b,off,ea,hbl,q0,q1⟩:=LS.at HX.out.1 X5.out.2.1 hil
   subst ea
   have HAK:=hid_of (fun W (hW:Below w.heap.size w W)=>HAS.out W ls[i] hW (List.getElem_mem hil))
   have HTK:Hid (ls.take (i+1)=ls.take i++[ls[i]]):=List.take_succ_eq_append_getElem hil
   have HFI:Hid (fd ls[i]=true→fstF fd ft ls=ft ls[i]∧ls.any fd=true):=fun h=>fstF_at hil X5.out.1 h
   obtain ⟨x,hx⟩:∃ x,ls[i]=x:=⟨_,rfl⟩
   rw [hx] at q0 q1 HAK HTK HFI
   clear hx
   obtain ⟨p,m⟩:=x
   simp only [Lb.val] at q0 q1 HAK
   obtain ⟨fq,hfq⟩:∃ fq,fd ⟨p,m⟩=fq:=⟨_,rfl⟩
   have HFQ:Hid (fd ⟨p,m⟩=fq):=hfq
   rw [hfq] at HAK HFI
   clear hfq
   obtain ⟨fv,hfv⟩:∃ fv,ft ⟨p,m⟩=fv:=⟨_,rfl⟩
   rw [hfv] at HAK HFI
   clear hfv
   go_wp2_with fail
   refine (HAK.out _ (below_trans X5.out.2.1 (below_mono (balloc _ _) X5.out.2.1.size))).mono ?_
   rintro e w2 h
   unfold AskP at h
   obtain ⟨rfl,k1⟩:=h
   obtain ⟨fc,⟨lp,ln⟩,⟨op,on⟩,fp,fa,ca,cn,cc⟩:=fv
   have hs0:w.heap.size < wr.heap.size:=X5.out.2.2.lt
   have X6:Hid (Below w.heap.size w w2∧FK w2 w.heap.size zFv):=⟨below_trans X5.out.2.1 (below_mono (bstep (balloc _ _) k1) X5.out.2.1.size),(X5.out.2.2.later (balloc _ _)).later k1⟩
   clear k1
   have hval:Fv.val ⟨fc,⟨lp,ln⟩,⟨op,on⟩,fp,fa,ca,cn,cc⟩=.agg #[.int .i64 fc,.string (bs lp),.string (bs ln),.string (bs op),.string (bs on),.string (bs fp),.int .i64 fa,.slice ca cn cc]:=rfl
   rw [hval]
   clear hval
   clear HAK
   dsimp only
   have Z1:FK (w2.alloc (.cells #[.int .i64 fc,.string (bs lp),.string (bs ln),.string (bs op),.string (bs on),.string (bs fp),.int .i64 fa,.slice ca cn cc] 30)) w.heap.size zFv:=X6.out.2.later (balloc _ _)
   obtain ⟨z0,z1,z2,z3,z4,z5,z6,z7⟩:=Z1.get
   have y0:=Z1.soft 0
   have y1:=Z1.soft 1
   have y2:=Z1.soft 2
   have y3:=Z1.soft 3
   have y4:=Z1.soft 4
   have y5:=Z1.soft 5
   have y6:=Z1.soft 6
   have y7:=Z1.soft 7
   clear Z1
   cases fq with
   | true=>
    go_wp2_with fail
    have HP:=putF_only (w2.alloc (.cells #[.int .i64 fc,.string (bs lp),.string (bs ln),.string (bs op),.string (bs on),.string (bs fp),.int .i64 fa,.slice ca cn cc] 30)) w.heap.size ⟨fc,⟨lp,ln⟩,⟨op,on⟩,fp,fa,ca,cn,cc⟩
    refine bodyPost_ret (results_ct rfl _ _ w.heap.size 30 #[.int .i64 fc,.string (bs lp),.string (bs ln),.string (bs op),.string (bs on),.string (bs fp),.int .i64 fa,.slice ca cn cc] (0,0) _ rfl ((X6.out.2.later (balloc w2 (.cells #[.int .i64 fc,.string (bs lp),.string (bs ln),.string (bs op),.string (bs on),.string (bs fp),.int .i64 fa,.slice ca cn cc] 30))).set ⟨fc,⟨lp,ln⟩,⟨op,on⟩,fp,fa,ca,cn,cc⟩).blk Tryz.underlying30 rfl (by kernel_rfl)) rfl ?_
    obtain ⟨j1,j2⟩:=HFI.out trivial
    unfold AskP
    have hb9:Below w.heap.size w (w2.alloc (.cells #[.int .i64 fc,.string (bs lp),.string (bs ln),.string (bs op),.string (bs on),.string (bs fp),.int .i64 fa,.slice ca cn cc] 30)):=below_trans X6.out.1 (below_mono (balloc _ _) X6.out.1.size)
    exact ⟨by rw [j1,j2];rfl,below_trans hb9 (HP.below hb9.size (fun x hx=>by simp at hx;omega))⟩
   | false=>
    clear z0 z1 z2 z3 z4 z5 z6 z7 y0 y1 y2 y3 y4 y5 y6 y7
    go_wp2_with fail
    refine ⟨⟨i+1,by omega,by simp,fun a ha=>?_,below_trans X6.out.1 (below_mono (balloc _ _) X6.out.1.size),X6.out.2.later (balloc _ _)⟩,?_⟩
    ·rw [HTK.out] at ha
     rcases List.mem_append.1 ha with h | h
     ·exact X5.out.1 a h
     ·rw [List.mem_singleton.1 h]
      exact HFQ.out
    ·simp only [intOf]
     omega
  ·have Z1:FK wr w.heap.size zFv:=X5.out.2.2
   obtain ⟨z0,z1,z2,z3,z4,z5,z6,z7⟩:=Z1.get
   have y0:=Z1.soft 0
   have y1:=Z1.soft 1
   have y2:=Z1.soft 2
   have y3:=Z1.soft 3
   have y4:=Z1.soft 4
   have y5:=Z1.soft 5
   have y6:=Z1.soft 6
   have y7:=Z1.soft 7
   clear Z1
   go_wp2_with fail
   have HP:=putF_only wr w.heap.size zFv
   refine bodyPost_ret (results_ct rfl _ _ w.heap.size 30 #[.int .i64 0,.string { data:=#[] },.string { data:=#[] },.string { data:=#[] },.string { data:=#[] },.string { data:=#[] },.int .i64 0,.slice none 0 0] (0,0) _ rfl (X5.out.2.2.set zFv).blk Tryz.underlying30 rfl (by kernel_rfl)) rfl ?_
   have hin:i=n:=by omega
   have hno:=X5.out.1
   rw [List.take_of_length_le (by rw [HX.out.2,hin];exact Nat.le_refl _)] at hno
   have j1:fstF fd ft ls=zFv:=by
    unfold fstF
    rw [List.find?_eq_none.2 (fun a ha=>by simp [hno a ha])]
   have j2:ls.any fd=false:=List.any_eq_false.2 (fun a ha=>by simp [hno a ha])
   unfold AskP
   exact ⟨by rw [j1,j2];rfl,below_trans X5.out.2.1 (HP.below X5.out.2.1.size (fun x hx=>by simp at hx;omega))⟩
end Go.Proofs.YtkheacknelbcnaaGreatDoor
