import Derived.Test.YtppnbdnpapellaaGreatDoorTgt
import Derived.Test.YtppnbdnpapellaaGreatDoorJGPg
import Derived.Shelf.Bytes.SlEqualAll
import Derived.Lib.ConvBytes
import Derived.Lib.BufferWrite
import Derived.Laws.ResultCell
import Derived.Laws.OwnMore
import Derived.RegionTactic
import Derived.BigRegion
import Derived.Deep.OwnRows
import Derived.OwnWalk
set_option maxRecDepth 100000
set_option maxHeartbeats 16000000
namespace Go.Proofs.YtppnbdnpapellaaGreatDoor
section
open Go.RowKit Go.Lib
def nums (l:List UInt8):List Int:=l.map fun b=>(b.toNat:Int)
def BI (w:World) (v:Value) (l:List UInt8):Prop:=∃ p c,v=.slice p l.length c∧(0 < l.length→∃ b o,p=some ⟨b,o,none⟩∧b < w.heap.size∧∀ i (h:i < l.length),w.cell? ⟨b,o+i,none⟩=some (.int .u8 (l[i].toNat:Int)))
theorem BI.later {w w':World} {v:Value} {l:List UInt8} (h:BI w v l) (hb:Below w.heap.size w w'):BI w' v l:=by
 obtain ⟨p,c,rfl,h⟩:=h
 refine ⟨p,c,rfl,fun h0=>?_⟩
 obtain ⟨b,o,rfl,hlt,hc⟩:=h h0
 exact ⟨b,o,rfl,Nat.lt_of_lt_of_le hlt hb.size,fun i hi=>(hb.cell (p:=⟨b,o+i,none⟩) hlt).trans (hc i hi)⟩
def PC (w:World) (v:Value) (x y:List UInt8):Prop:=∃ a b,v=.agg #[a,b]∧BI w a x∧BI w b y
theorem PC.later {w w':World} {v:Value} {x y:List UInt8} (h:PC w v x y) (hb:Below w.heap.size w w'):PC w' v x y:=by
 obtain ⟨a,b,rfl,h1,h2⟩:=h
 exact ⟨a,b,rfl,h1.later hb,h2.later hb⟩
theorem cut_end {w W:World} (hblk:W.heap[w.heap.size]? = some (.cells #[.slice none 0 0,.slice none 0 0] 160)) (hb:Below w.heap.size w W) (hsz:W.heap.size=w.heap.size+2) (a b:Value) :
  ((W.setCell ⟨w.heap.size,0,none⟩ a).setCell ⟨w.heap.size,1,none⟩ b).drew.heap[w.heap.size]? = some (.cells #[a,b] 160 (0,0))∧
   Below w.heap.size w ((W.setCell ⟨w.heap.size,0,none⟩ a).setCell ⟨w.heap.size,1,none⟩ b).drew∧
   ((∀ j,((W.setCell ⟨w.heap.size,0,none⟩ a).setCell ⟨w.heap.size,1,none⟩ b).drew.cell? ⟨w.heap.size+1,j,none⟩=W.cell? ⟨w.heap.size+1,j,none⟩)∧
    w.heap.size+1 < ((W.setCell ⟨w.heap.size,0,none⟩ a).setCell ⟨w.heap.size,1,none⟩ b).drew.heap.size):=by
 have h1:=heap_setCell _ _ 0 a hblk
 have h2:=heap_setCell _ _ 1 b h1
 have o:Only [w.heap.size] W ((W.setCell ⟨w.heap.size,0,none⟩ a).setCell ⟨w.heap.size,1,none⟩ b):=(Only.set _ _ _ _).trans (Only.set _ _ _ _)
 have o2:Only [w.heap.size] W ((W.setCell ⟨w.heap.size,0,none⟩ a).setCell ⟨w.heap.size,1,none⟩ b).drew:=o.trans (Only.drew _ _ 1)
 refine ⟨?_,below_trans hb (o2.below (by omega) (by simp)),fun j=>?_,?_⟩
 ·show ((W.setCell ⟨w.heap.size,0,none⟩ a).setCell ⟨w.heap.size,1,none⟩ b).heap[w.heap.size]? = _
  rw [h2];rfl
 ·have hk:=o2.block (w.heap.size+1) (by omega) (by simp)
  simp only [World.cell?,hk]
 ·have:=o2.size
  omega
theorem gcut_any (p:List UInt8) (w:World) (hp:(42:UInt8)∈p) (hl:p.length≤1000000000) :
  Calls Tryz.prog 108 #[.string (bs p)] w fun e w'=>∃ v,e=.returned v∧PC w' v (hd42 p) (tl42 p)∧Below w.heap.size w w':=by
 have hcv:∀ W:World,(convert 9 158 (.string (bs p))).run Tryz.prog W=.ok (.slice (some ⟨W.heap.size,0,none⟩) p.length (grownCap W p.length 0 5)) (bytesWorld W 5 (bs p)):=fun W=>
  Lib.run_convert_string_bytes (P:=Tryz.prog) W 9 158 5 (bs p) Tryz.underlying9 Tryz.underlying158 Tryz.underlying5
 obtain ⟨h1,h2,h3⟩:=at42 hp
 have HI:Hid (∀ W:World,Calls Tryz.prog 150 #[.string (bs p),.string (bs [42])] W fun e w'=>e=.returned (.int .i64 ((hd42 p).length:Int))∧w'=W):=fun W=>by rw [← h3];exact index_star p W
 have HP:Hid (p=hd42 p++42::tl42 p):=h1
 clear h1 h2 h3 hp
 generalize hd42 p=x at *
 generalize tl42 p=y at *
 have hlen:x.length+1+y.length=p.length:=by rw [HP.out];simp;omega
 have hz:(bs p).size=p.length:=rfl
 go_enter Tryz.func108,Tryz.ntmps108
 go_wp2_with fail
 refine (HI.out _).mono ?_
 rintro e w1 ⟨rfl,rfl⟩
 go_wp2_with fail
 obtain ⟨c,hc⟩:∃ c,grownCap (w.alloc (Obj.cells #[Value.slice none 0 0,Value.slice none 0 0] 160)) p.length 0 5=c:=⟨_,rfl⟩
 have hcap:p.length≤c:=by rw [← hc];exact grownCap_ge _ _ _ _
 obtain ⟨W,hW⟩:∃ W,bytesWorld (w.alloc (Obj.cells #[Value.slice none 0 0,Value.slice none 0 0] 160)) 5 (bs p)=W:=⟨_,rfl⟩
 have hsz:W.heap.size=w.heap.size+2:=by rw [← hW,bytesWorld_size];simp
 have hblk:W.heap[w.heap.size]? = some (.cells #[.slice none 0 0,.slice none 0 0] 160):=by
  rw [← hW,bytesWorld_at_old _ _ _ _ (by simp)];exact heap_alloc_new _ _
 have HC:Hid (∀ j (h:j < p.length),W.cell? ⟨w.heap.size+1,j,none⟩=some (.int .u8 (p[j].toNat:Int))):=fun j h=>by
  rw [← hW]
  have:=bytesWorld_cell (w.alloc (Obj.cells #[Value.slice none 0 0,Value.slice none 0 0] 160)) 5 (bs p) j h
  have hz1:(w.alloc (Obj.cells #[Value.slice none 0 0,Value.slice none 0 0] 160)).heap.size=w.heap.size+1:=by simp
  rw [hz1] at this
  rw [this]
  simp [bs,List.getD,h]
 have HB:Hid (Below w.heap.size w W):=by
  rw [← hW]
  exact below_trans (balloc w _) (⟨rfl,rfl,rfl,by rw [bytesWorld_size];omega,fun k hk=>bytesWorld_at_old _ _ _ _ (by simp;omega)⟩)
 rw [hc,hW]
 clear hc hW hcv HI
 have c0:W.cell? ⟨w.heap.size,0,none⟩=some (.slice none 0 0):=by simp [World.cell?,hblk]
 have c1:W.cell? ⟨w.heap.size,1,none⟩=some (.slice none 0 0):=by simp [World.cell?,hblk]
 have f0:W.frozen? ⟨w.heap.size,0,none⟩=false:=by simp [World.frozen?,hblk]
 have f1:W.frozen? ⟨w.heap.size,1,none⟩=false:=by simp [World.frozen?,hblk]
 have i1:(x.length:Int)≤(c:Int):=by omega
 have i2:(x.length:Int)+1≤(p.length:Int):=by omega
 have i3:(p.length:Int)≤(c:Int):=by omega
 go_region
 go_wp2_with fail
 all_goals try (go_wp2_with fail)
 ·have hy0:y=[]:=List.eq_nil_of_length_eq_zero (by omega)
  obtain ⟨q1,q2,q3⟩:=cut_end hblk HB.out hsz (.slice (some ⟨w.heap.size+1,0,none⟩) x.length x.length) (.slice (some ⟨w.heap.size+1,0,none⟩) 0 0)
  refine bodyPost_ret (results_cell_row rfl _ _ w.heap.size 160 #[.slice (some ⟨w.heap.size+1,0,none⟩) x.length x.length,.slice (some ⟨w.heap.size+1,0,none⟩) 0 0] (0,0) _ rfl q1 Tryz.underlying160 rfl (by kernel_rfl)) rfl ?_
  refine ⟨_,rfl,⟨_,_,rfl,⟨_,_,rfl,fun _=>⟨_,_,rfl,?_,fun i hi=>?_⟩⟩,⟨_,_,by rw [hy0];rfl,fun h0=>by rw [hy0] at h0;simp at h0⟩⟩,q2⟩
  ·exact q3.2
  ·rw [q3.1,Nat.zero_add,HC.out i (by omega)]
   congr 3
   have:=HP.out
   simp only [this,List.getElem_append_left hi]
 ·obtain ⟨q1,q2,q3⟩:=cut_end hblk HB.out hsz (.slice (some ⟨w.heap.size+1,0,none⟩) x.length x.length) (.slice (some ⟨w.heap.size+1,x.length+1,none⟩) (p.length - (x.length+1)) (p.length - (x.length+1)))
  refine bodyPost_ret (results_cell_row rfl _ _ w.heap.size 160 #[.slice (some ⟨w.heap.size+1,0,none⟩) x.length x.length,.slice (some ⟨w.heap.size+1,x.length+1,none⟩) (p.length - (x.length+1)) (p.length - (x.length+1))] (0,0) _ rfl q1 Tryz.underlying160 rfl (by kernel_rfl)) rfl ?_
  have hyl:p.length - (x.length+1)=y.length:=by omega
  refine ⟨_,rfl,⟨_,_,rfl,⟨_,_,rfl,fun _=>⟨_,_,rfl,?_,fun i hi=>?_⟩⟩,⟨_,_,by rw [hyl],fun _=>⟨_,_,rfl,?_,fun i hi=>?_⟩⟩⟩,q2⟩
  ·exact q3.2
  ·rw [q3.1,Nat.zero_add,HC.out i (by omega)]
   congr 3
   have:=HP.out
   simp only [this,List.getElem_append_left hi]
  ·exact q3.2
  ·rw [q3.1,HC.out (x.length+1+i) (by omega)]
   congr 3
   have:=HP.out
   simp only [this]
   rw [List.getElem_append_right (by omega)]
   have e:x.length+1+i - x.length=i+1:=by omega
   simp only [e,List.getElem_cons_succ]
end
section
open Go.RowKit Go.Lib
theorem info5:(Tryz.prog.info? 5).map (fun i=>(i.zero,i.size,i.bytes))=some (some (.int .u8 0),1,1):=by kernel_rfl
theorem sz5:(Tryz.prog.info? 5).map (·.size)=some 1:=by kernel_rfl
theorem run_copy_str {P:Program} (w:World) (dT sT ty elem:TypeId) (g m c:Nat) (s:ByteArray) (cur:Array Value) (t:TypeId)
  (hu:P.underlying dT=some (.slice elem)) (hs:(P.info? elem).map (·.size)=some 1) (hg:w.heap[g]? = some (.cells cur t (0,0))) (hm:cur.size=m) (hle:m≤s.size) :
  (Builtin.copy_ #[dT,sT] ty #[.slice (some ⟨g,0,none⟩) m c,.string s]).run P w=.ok (goInt m) (w.setRow g (Lib.byteCells (s.data.toList.take m)).toArray):=by
 have hsl:s.data.toList.length=s.size:=rfl
 have hlen:(Lib.byteCells (s.data.toList.take m)).length=m:=by rw [Lib.byteCells_length,List.length_take];omega
 have hst:=run_storeCells_at P g 0 t (Lib.byteCells (s.data.toList.take m)) 0 cur w hg (by rw [hlen];omega) (Lib.byteCells_one _)
 have hmin:Nat.min s.size m=m:=Nat.min_eq_right hle
 have htk:List.take m (List.map (fun b:UInt8=>Value.int IntKind.u8 (b.toNat:Int)) s.data.toList)=Lib.byteCells (s.data.toList.take m):=by
  rw [← List.map_take];rfl
 rw [hlen] at hst
 simp only [Nat.add_zero,List.take_zero,List.nil_append,Nat.zero_add] at hst
 rw [List.drop_eq_nil_of_le (by simp;omega),List.append_nil] at hst
 cases hq:P.info? elem with
 | none=>simp [hq] at hs
 | some i=>
  simp [Builtin.copy_,run_underlying hu,Builtin.lenOf,Builtin.firstCells,sizeOf,typeInfo,hq,hmin]
  rw [htk,hst]
  simp [Result.andThen]
theorem wpList_copy_str {P:Program} {w:World} {ops:Array Oper} {rest:List Oper} {o:Oper} {a:Act} {Q:Exit→Act→World→Prop} (hgd:o.guard=none) (d s:Operand) (dT sT:TypeId)
  (ho:o.op=.call { callee:=.builtin .copy,args:=#[d,s],argTypes:=#[dT,sT] }) (elem:TypeId) (hu:P.underlying dT=some (.slice elem)) (hsz:(P.info? elem).map (·.size)=some 1)
  (g m c:Nat) (str:ByteArray) (hd:a.eval d=.slice (some ⟨g,0,none⟩) m c) (hs:a.eval s=.string str)
  (cur:Array Value) (t:TypeId) (hg:w.heap[g]? = some (.cells cur t (0,0))) (hm:cur.size=m) (l:List UInt8) (hl:str=bs l) (hle:m≤l.length)
  (h:∀ w',Hid (w'.heap[g]? = some (.cells (Lib.byteCells (l.take m)).toArray t (0,0)))→Hid (Only [g] w w')→wpList P ops Q rest (a.put o.dst (goInt m)) w'):wpList P ops Q (o::rest) a w:=by
 refine wpList_plain hgd fun K hK=>?_
 subst hl
 have hrun:=run_copy_str (P:=P) w dT sT o.type elem g m c (bs l) cur t hu hsz hg hm hle
 unfold Oper.wp
 simp [execOp,ho,resolve,invoke,builtin,hd,hs,hrun,Result.andThen]
 exact hK _ _ (h _ (setRow_heap w g _ _ t _ hg) (⟨rfl,rfl,rfl,by simp [World.setRow],fun k hk hn=>setRow_other w g k _ (by rintro rfl;simp at hn)⟩))
def ren115:Go.Shelf.Ren:=⟨fun | 115=>185 | n=>n,fun | 37=>158 | n=>n,fun n=>n⟩
theorem lays115:Lays.nb115 Tryz.prog ren115:={
 mixed:=by kernel_rfl
 f115:=Tryz.func185.trans (congrArg some (by kernel_rfl))
 t4:=Tryz.underlying4
 a4:=Tryz.isAgg4
 z4:=Tryz.sizeOf4
 v4:=Tryz.zeroValue4
 t9:=Tryz.underlying9
 a9:=Tryz.isAgg9
 z9:=Tryz.sizeOf9
 v9:=Tryz.zeroValue9
 t37:=Tryz.underlying158
 a37:=Tryz.isAgg158
 z37:=Tryz.sizeOf158
 v37:=Tryz.zeroValue158
 t5:=Tryz.underlying5
 a5:=Tryz.isAgg5
 z5:=Tryz.sizeOf5
 v5:=Tryz.zeroValue5 }
theorem bytesOf_nums (l:List UInt8):Lib.bytesOf (nums l)=l:=by
 unfold Lib.bytesOf nums
 rw [List.map_map]
 conv=>rhs;rw [← List.map_id l]
 apply List.map_congr_left
 intro b _
 simp
theorem BI.bytes {w:World} {p:Option Addr} {n c:Nat} {l:List UInt8} (h:BI w (.slice p n c) l):n=l.length∧Lib.BytesIn w p l.length (nums l):=by
 obtain ⟨p',c',e,h⟩:=h
 injection e with e1 e2 e3
 subst e1 e3
 refine ⟨e2,fun h0=>?_⟩
 obtain ⟨b,o,rfl,_,hc⟩:=h h0
 refine ⟨b,o,rfl,fun i hi=>?_⟩
 rw [hc i hi]
 simp [nums,List.getD,hi]
theorem equal_bytes {w:World} {u v:Value} {a b:List UInt8} (h1:BI w u a) (h2:BI w v b) :
  Calls Tryz.prog 185 #[u,v] w fun e w'=>e=.returned (.bool (decide (a=b)))∧w'=w:=by
 obtain ⟨p,c,rfl,_⟩:=id h1
 obtain ⟨q,d,rfl,_⟩:=id h2
 have:=Any.bytes_Equal_all lays115 p q a.length c b.length d (nums a) (nums b) w (by simp [nums]) (by simp [nums]) h1.bytes.2 h2.bytes.2
 rw [bytesOf_nums,bytesOf_nums] at this
 refine Calls.mono this ?_
 rintro e w' ⟨rfl,rfl⟩
 refine ⟨?_,rfl⟩
 by_cases hab:a=b<;>simp [hab]
theorem BI.row {w:World} {g:Nat} {l:List UInt8} {t:TypeId} (h:w.heap[g]? = some (.cells (Lib.byteCells l).toArray t (0,0))) (c:Nat):BI w (.slice (some ⟨g,0,none⟩) l.length c) l:=by
 refine ⟨_,_,rfl,fun _=>⟨g,0,rfl,(Array.getElem?_eq_some_iff.1 h).1,fun i hi=>?_⟩⟩
 simp [World.cell?,h,Lib.byteCells,hi]
theorem three (w:World) (o1 o2 o3:Obj):(((w.alloc o1).alloc o2).alloc o3).drew.heap[w.heap.size]? = some o1∧(((w.alloc o1).alloc o2).alloc o3).drew.heap[w.heap.size+1]? = some o2∧
  (((w.alloc o1).alloc o2).alloc o3).drew.heap[w.heap.size+1+1]? = some o3∧(((w.alloc o1).alloc o2).alloc o3).drew.heap.size=w.heap.size+3∧Below w.heap.size w (((w.alloc o1).alloc o2).alloc o3).drew:=by
 have z1:(w.alloc o1).heap.size=w.heap.size+1:=by simp
 have z2:((w.alloc o1).alloc o2).heap.size=w.heap.size+1+1:=by simp
 have b2:=balloc (w.alloc o1) o2
 have b3:=balloc ((w.alloc o1).alloc o2) o3
 refine ⟨?_,?_,?_,?_,?_⟩
 ·show (((w.alloc o1).alloc o2).alloc o3).heap[w.heap.size]? = some o1
  rw [b3.block _ (by omega),b2.block _ (by omega)];exact heap_alloc_new _ _
 ·show (((w.alloc o1).alloc o2).alloc o3).heap[w.heap.size+1]? = some o2
  rw [b3.block _ (by omega),← z1];exact heap_alloc_new _ _
 ·show (((w.alloc o1).alloc o2).alloc o3).heap[w.heap.size+1+1]? = some o3
  rw [← z2];exact heap_alloc_new _ _
 ·show (((w.alloc o1).alloc o2).alloc o3).heap.size=_
  simp
 ·have h:=bstep (bstep (balloc w o1) b2) b3
  exact ⟨h.os,h.tape,h.output,h.size,h.block⟩
end
section
open Go.RowKit Go.Lib
theorem fits_any {w:World} {v:Value} {x y:List UInt8} (h:PC w v x y) (n:List UInt8) (hx:x.length≤1000000000) (hy:y.length≤1000000000) (hn:n.length≤1000000000) :
  Calls Tryz.prog 148 #[v,.string (bs n)] w fun e w'=>e=.returned (.bool (fts x y n))∧Below w.heap.size w w':=by
 obtain ⟨a,b,rfl,h1,h2⟩:=h
 obtain ⟨p1,c1,rfl,_⟩:=id h1
 obtain ⟨p2,c2,rfl,_⟩:=id h2
 have HX:Hid (BI w (.slice p1 x.length c1) x):=h1
 have HY:Hid (BI w (.slice p2 y.length c2) y):=h2
 have hz:(bs n).size=n.length:=rfl
 clear h1 h2
 by_cases hle:x.length+y.length≤n.length
 rotate_left
 ·have e0:fts x y n=false:=by unfold fts;rw [decide_eq_false hle];rfl
  rw [e0]
  have i0:(n.length:Int) < (x.length:Int)+(y.length:Int):=by omega
  go_enter Tryz.func148,Tryz.ntmps148
  go_wp2_with fail
  go_ret
  exact ⟨rfl,balloc _ _⟩
 ·have i0:¬ (n.length:Int) < (x.length:Int)+(y.length:Int):=by omega
  have hm1:=run_make_row' (P:=Tryz.prog) 158 5 (.int .u8 0) 1 Tryz.underlying158 info5 rfl .i64 .i64 x.length (by omega) (by omega)
  have hm2:=run_make_row' (P:=Tryz.prog) 158 5 (.int .u8 0) 1 Tryz.underlying158 info5 rfl .i64 .i64 y.length (by omega) (by omega)
  go_enter Tryz.func148,Tryz.ntmps148
  go_wp2_with fail
  go_region
  ·obtain ⟨q1,q2,q3,q4,q5⟩:=three w (.cells #[.slice p1 x.length c1,.slice p2 y.length c2] 160) (.cells (madeCells #[.int .u8 0] x.length) 5) (.cells (madeCells #[.int .u8 0] y.length) 5)
   generalize (((w.alloc (Obj.cells #[.slice p1 x.length c1,.slice p2 y.length c2] 160)).alloc (Obj.cells (madeCells #[.int .u8 0] x.length) 5)).alloc (Obj.cells (madeCells #[.int .u8 0] y.length) 5)).drew=W at *
   have HB:Hid (Below w.heap.size w W):=q5
   have HG1:Hid (W.heap[w.heap.size+1]? = some (.cells (madeCells #[.int .u8 0] x.length) 5)):=q2
   have HG2:Hid (W.heap[w.heap.size+1+1]? = some (.cells (madeCells #[.int .u8 0] y.length) 5)):=q3
   have HG0:Hid (W.heap[w.heap.size]? = some (.cells #[.slice p1 x.length c1,.slice p2 y.length c2] 160)):=q1
   have HX1:Hid (BI W (.slice p1 x.length c1) x):=HX.out.later q5
   have HY1:Hid (BI W (.slice p2 y.length c2) y):=HY.out.later q5
   have HZ:Hid (W.heap.size=w.heap.size+3):=q4
   clear q1 q2 q3 q4 q5
   go_wp2_with (first
    | (refine wpList_copy_str rfl _ _ 158 9 rfl 5 Tryz.underlying158 sz5 (w.heap.size+1) x.length x.length _ rfl rfl _ 5 HG1.out (by simp [madeCells]) n rfl (by omega) ?_;intro w1 HA1 HO1)
    | (refine wpList_copy_str rfl _ _ 158 9 rfl 5 Tryz.underlying158 sz5 (w.heap.size+1+1) y.length y.length _ rfl rfl _ 5 ((HO1.out.block (w.heap.size+1+1) (by have:=HZ.out;omega) (by simp<;>omega)).trans HG2.out) (by simp [madeCells]) (n.drop (n.length - y.length)) (extract_from _ _) (by simp;omega) ?_;intro w2 HA2 HO2;have b0:w2.cell? ⟨w.heap.size,0,none⟩=some (.slice p1 x.length c1):=(by simp [World.cell?,HO2.out.block w.heap.size (by have:=HZ.out;have:=HO1.out.size;omega) (by simp<;>omega),HO1.out.block w.heap.size (by have:=HZ.out;omega) (by simp<;>omega),HG0.out]);have b1:w2.cell? ⟨w.heap.size,1,none⟩=some (.slice p2 y.length c2):=(by simp [World.cell?,HO2.out.block w.heap.size (by have:=HZ.out;have:=HO1.out.size;omega) (by simp<;>omega),HO1.out.block w.heap.size (by have:=HZ.out;omega) (by simp<;>omega),HG0.out])))
   have HB2:Hid (Below w.heap.size w w2):=below_trans (below_trans HB.out (HO1.out.below (by have:=HZ.out;omega) (by simp<;>omega))) (HO2.out.below (by have:=HZ.out;have:=HO1.out.size;omega) (by simp<;>omega))
   have HX2:Hid (BI w2 (.slice p1 x.length c1) x):=HX.out.later HB2.out
   have HY2:Hid (BI w2 (.slice p2 y.length c2) y):=HY.out.later HB2.out
   have HF2:Hid (BI w2 (.slice (some ⟨w.heap.size+1,0,none⟩) x.length x.length) (n.take x.length)):=by
    have e:=BI.row (w:=w2) (g:=w.heap.size+1) (l:=n.take x.length) (t:=5) ((HO2.out.block (w.heap.size+1) (by have:=HZ.out;have:=HO1.out.size;omega) (by simp<;>omega)).trans HA1.out) x.length
    rw [List.length_take,Nat.min_eq_left (by omega)] at e
    exact e
   have HL2:Hid (BI w2 (.slice (some ⟨w.heap.size+1+1,0,none⟩) y.length y.length) (n.drop (n.length - y.length))):=by
    have e:=BI.row (w:=w2) (g:=w.heap.size+1+1) (t:=5) HA2.out y.length
    rw [List.take_of_length_le (by simp;omega)] at e
    rw [List.length_drop,show n.length - (n.length - y.length)=y.length by omega] at e
    exact e
   have hsz2:w.heap.size < w2.heap.size:=by have:=HZ.out;have:=HO1.out.size;have:=HO2.out.size;omega
   clear HA1 HO1 HA2 HO2 HG0 HG1 HG2 HX1 HY1 HX HY HZ HB hm1 hm2
   refine (equal_bytes HF2.out HX2.out).mono ?_
   rintro e w3 ⟨rfl,hw3⟩
   obtain rfl:w2=w3:=hw3.symm
   by_cases hq:n.take x.length=x
   ·rw [decide_eq_true hq]
    go_wp2_with fail
    refine (equal_bytes HL2.out HY2.out).mono ?_
    rintro e w4 ⟨rfl,hw4⟩
    obtain rfl:w2=w4:=hw4.symm
    go_wp2_with fail
    go_ret
    exact ⟨by unfold fts;rw [decide_eq_true hle,decide_eq_true hq];simp,HB2.out⟩
   ·rw [decide_eq_false hq]
    go_wp2_with fail
    go_ret
    exact ⟨by unfold fts;rw [decide_eq_false hq];simp,HB2.out⟩
  ·obtain ⟨q1,q2,q3,q4,q5⟩:=three w (.cells #[.slice p1 x.length c1,.slice p2 y.length c2] 160) (.cells (madeCells #[.int .u8 0] y.length) 5) (.cells (madeCells #[.int .u8 0] x.length) 5)
   generalize (((w.alloc (Obj.cells #[.slice p1 x.length c1,.slice p2 y.length c2] 160)).alloc (Obj.cells (madeCells #[.int .u8 0] y.length) 5)).alloc (Obj.cells (madeCells #[.int .u8 0] x.length) 5)).drew=W at *
   have HB:Hid (Below w.heap.size w W):=q5
   have HG1:Hid (W.heap[w.heap.size+1]? = some (.cells (madeCells #[.int .u8 0] y.length) 5)):=q2
   have HG2:Hid (W.heap[w.heap.size+1+1]? = some (.cells (madeCells #[.int .u8 0] x.length) 5)):=q3
   have HG0:Hid (W.heap[w.heap.size]? = some (.cells #[.slice p1 x.length c1,.slice p2 y.length c2] 160)):=q1
   have HX1:Hid (BI W (.slice p1 x.length c1) x):=HX.out.later q5
   have HY1:Hid (BI W (.slice p2 y.length c2) y):=HY.out.later q5
   have HZ:Hid (W.heap.size=w.heap.size+3):=q4
   clear q1 q2 q3 q4 q5
   go_wp2_with (first
    | (refine wpList_copy_str rfl _ _ 158 9 rfl 5 Tryz.underlying158 sz5 (w.heap.size+1+1) x.length x.length _ rfl rfl _ 5 HG2.out (by simp [madeCells]) n rfl (by omega) ?_;intro w1 HA1 HO1)
    | (refine wpList_copy_str rfl _ _ 158 9 rfl 5 Tryz.underlying158 sz5 (w.heap.size+1) y.length y.length _ rfl rfl _ 5 ((HO1.out.block (w.heap.size+1) (by have:=HZ.out;omega) (by simp<;>omega)).trans HG1.out) (by simp [madeCells]) (n.drop (n.length - y.length)) (extract_from _ _) (by simp;omega) ?_;intro w2 HA2 HO2;have b0:w2.cell? ⟨w.heap.size,0,none⟩=some (.slice p1 x.length c1):=(by simp [World.cell?,HO2.out.block w.heap.size (by have:=HZ.out;have:=HO1.out.size;omega) (by simp<;>omega),HO1.out.block w.heap.size (by have:=HZ.out;omega) (by simp<;>omega),HG0.out]);have b1:w2.cell? ⟨w.heap.size,1,none⟩=some (.slice p2 y.length c2):=(by simp [World.cell?,HO2.out.block w.heap.size (by have:=HZ.out;have:=HO1.out.size;omega) (by simp<;>omega),HO1.out.block w.heap.size (by have:=HZ.out;omega) (by simp<;>omega),HG0.out])))
   have HB2:Hid (Below w.heap.size w w2):=below_trans (below_trans HB.out (HO1.out.below (by have:=HZ.out;omega) (by simp<;>omega))) (HO2.out.below (by have:=HZ.out;have:=HO1.out.size;omega) (by simp<;>omega))
   have HX2:Hid (BI w2 (.slice p1 x.length c1) x):=HX.out.later HB2.out
   have HY2:Hid (BI w2 (.slice p2 y.length c2) y):=HY.out.later HB2.out
   have HF2:Hid (BI w2 (.slice (some ⟨w.heap.size+1+1,0,none⟩) x.length x.length) (n.take x.length)):=by
    have e:=BI.row (w:=w2) (g:=w.heap.size+1+1) (l:=n.take x.length) (t:=5) ((HO2.out.block (w.heap.size+1+1) (by have:=HZ.out;have:=HO1.out.size;omega) (by simp<;>omega)).trans HA1.out) x.length
    rw [List.length_take,Nat.min_eq_left (by omega)] at e
    exact e
   have HL2:Hid (BI w2 (.slice (some ⟨w.heap.size+1,0,none⟩) y.length y.length) (n.drop (n.length - y.length))):=by
    have e:=BI.row (w:=w2) (g:=w.heap.size+1) (t:=5) HA2.out y.length
    rw [List.take_of_length_le (by simp;omega)] at e
    rw [List.length_drop,show n.length - (n.length - y.length)=y.length by omega] at e
    exact e
   have hsz2:w.heap.size < w2.heap.size:=by have:=HZ.out;have:=HO1.out.size;have:=HO2.out.size;omega
   clear HA1 HO1 HA2 HO2 HG0 HG1 HG2 HX1 HY1 HX HY HZ HB hm1 hm2
   refine (equal_bytes HF2.out HX2.out).mono ?_
   rintro e w3 ⟨rfl,hw3⟩
   obtain rfl:w2=w3:=hw3.symm
   by_cases hq:n.take x.length=x
   ·rw [decide_eq_true hq]
    go_wp2_with fail
    refine (equal_bytes HL2.out HY2.out).mono ?_
    rintro e w4 ⟨rfl,hw4⟩
    obtain rfl:w2=w4:=hw4.symm
    go_wp2_with fail
    go_ret
    exact ⟨by unfold fts;rw [decide_eq_true hle,decide_eq_true hq];simp,HB2.out⟩
   ·rw [decide_eq_false hq]
    go_wp2_with fail
    go_ret
    exact ⟨by unfold fts;rw [decide_eq_false hq];simp,HB2.out⟩
theorem hd42_len (p:List UInt8):(hd42 p).length≤p.length:=by unfold hd42;simp;omega
theorem tl42_len (p:List UInt8):(tl42 p).length≤p.length:=by unfold tl42;simp
end
section
open Go.RowKit
def zf:Fl:=⟨[],[],0,0⟩
structure FQ (l:List Fl):Prop where
 len:l.length≤4000000
 each:∀ f∈l,Fok f
 path:∀ f∈l,f.path.length≤100000000
theorem FQ.pat {l:List Fl} (h:FQ l) {k:Nat} (hk:k < l.length):l[k].path.length≤100000000:=h.path _ (List.getElem_mem _)
theorem FQ.sub {l k:List Fl} (h:FQ l) (hl:k.length≤l.length) (hm:∀ f∈k,f∈l):FQ k:=⟨Nat.le_trans hl h.len,fun f hf=>h.each f (hm f hf),fun f hf=>h.path f (hm f hf)⟩
structure RBf (w:World) (g:Nat) (f:Fl):Prop where
 blk:w.heap[g]? = some (.cells #[.string (bs f.path),.string (bs f.text),.int .i64 f.blob,.int .i64 f.size] 55 (0,0))
theorem RBf.lt {w:World} {g:Nat} {f:Fl} (h:RBf w g f):g < w.heap.size:=(Array.getElem?_eq_some_iff.1 h.blk).1
theorem RBf.later {w w':World} {g:Nat} {f:Fl} (h:RBf w g f) (hb:Below w.heap.size w w'):RBf w' g f:=⟨(hb.block g h.lt).trans h.blk⟩
theorem RBf.new (w:World) (f:Fl):RBf (w.alloc (.cells #[.string (bs f.path),.string (bs f.text),.int .i64 f.blob,.int .i64 f.size] 55)) w.heap.size f:=⟨heap_alloc_new _ _⟩
theorem RBf.cells {w:World} {g:Nat} {f:Fl} (h:RBf w g f):w.cell? ⟨g,0,none⟩=some (.string (bs f.path))∧w.cell? ⟨g,1,none⟩=some (.string (bs f.text))∧w.cell? ⟨g,2,none⟩=some (.int .i64 f.blob)∧w.cell? ⟨g,3,none⟩=some (.int .i64 f.size)∧
  w.frozen? ⟨g,0,none⟩=false∧w.frozen? ⟨g,1,none⟩=false∧w.frozen? ⟨g,2,none⟩=false∧w.frozen? ⟨g,3,none⟩=false:=by
 have hb:=h.blk
 exact ⟨by simp [World.cell?,hb],by simp [World.cell?,hb],by simp [World.cell?,hb],by simp [World.cell?,hb],by simp [World.frozen?,hb],by simp [World.frozen?,hb],by simp [World.frozen?,hb],by simp [World.frozen?,hb]⟩
theorem RBf.set {w:World} {g:Nat} {f:Fl} (h:RBf w g f) (k:Fl) :
  RBf ((((w.setCell ⟨g,0,none⟩ (.string (bs k.path))).setCell ⟨g,1,none⟩ (.string (bs k.text))).setCell ⟨g,2,none⟩ (.int .i64 k.blob)).setCell ⟨g,3,none⟩ (.int .i64 k.size)) g k:=by
 refine ⟨?_⟩
 rw [heap_setCell _ _ _ _ (heap_setCell _ _ _ _ (heap_setCell _ _ _ _ (heap_setCell _ _ _ _ h.blk)))]
 simp
def fopt (o:Option Fl):Fl:=match o with | some f=>f | none=>zf
theorem fnd_step (l:List Fl) (k:Nat) (h:k < l.length) (p:List UInt8):fnd (l.drop k) p=if (l[k]'h).path=p then some (l[k]'h) else fnd (l.drop (k+1)) p:=by
 rw [List.drop_eq_getElem_cons h]
 unfold fnd
 rw [List.find?_cons]
 by_cases hp:(l[k]'h).path=p
 ·simp [hp]
 ·simp [hp]
theorem find_any {w:World} {v:Value} {l:List Fl} (q:List UInt8) (h:FS w v l) (sm:FQ l) :
  Calls Tryz.prog 136 #[v,.string (bs q)] w fun e w'=>e=.returned (.tuple #[(fopt (fnd l q)).val,.bool (fnd l q).isSome])∧Below w.heap.size w w':=by
 obtain ⟨r,hr⟩:∃ r,fnd l q=r:=⟨_,rfl⟩
 rw [hr]
 have HR:Hid (fnd (l.drop 0) q=r):=hr
 have H:Hid (FS w v l):=h
 have hlen:l.length≤4000000:=sm.len
 clear hr sm
 obtain ⟨a,c,rfl,_⟩:=h.form
 clear h
 obtain ⟨n,hn⟩:∃ n,l.length=n:=⟨_,rfl⟩
 have H':Hid (FS w (.slice a l.length c) l):=H.out
 clear H
 rw [hn] at hlen ⊢
 have HN:Hid (l.length=n):=hn
 clear hn
 obtain ⟨A,hA⟩:∃ A,Value.tuple #[(fopt r).val,.bool r.isSome]=A:=⟨_,rfl⟩
 rw [hA]
 have HA:Hid (Value.tuple #[(fopt r).val,.bool r.isSome]=A):=hA
 clear hA
 rename_i hform
 clear hform
 have hq:=bs_toList q
 go_enter Tryz.func136,Tryz.ntmps136
 go_wp2_with fail
 go_loopw [10] (fun i wr=>∃ k:Nat,k≤n∧i=.int .i64 k∧Below w.heap.size w wr∧RBf wr w.heap.size zf∧fnd (l.drop k) q=r) (fun i _=>n - (intOf i).toNat)
 case atStart=>exact ⟨0,by omega,rfl,balloc _ _,RBf.new w zf,HR.out⟩
 case round=>
  obtain ⟨k,hk,rfl,hb,hrb,hl⟩:=hrel
  have HB:Hid (Below w.heap.size w wr):=hb
  have HZ:Hid (RBf wr w.heap.size zf):=hrb
  have HL:Hid (fnd (l.drop k) q=r):=hl
  have hlt0:=hrb.lt
  clear hb hl hrb
  by_cases hlt:k < n
  ·have hkl:k < l.length:=by have:=HN.out;omega
   obtain ⟨b,off,ea,hbw,d0,d1,d2,d3⟩:=FS.at H'.out HB.out hkl
   subst ea
   obtain ⟨f,hf⟩:∃ f,l[k]=f:=⟨_,rfl⟩
   rw [hf] at d0 d1 d2 d3
   have HS2:Hid ((if f.path=q then some f else fnd (l.drop (k+1)) q)=r):=by
    have h1:=HL.out
    rw [fnd_step l k hkl,hf] at h1;exact h1
   clear hf
   obtain ⟨p,t,bl,s⟩:=f
   simp only at d0 d1 d2 d3 HS2
   have k1:(0:Int)≤(k:Int):=by omega
   have k2:(k:Int) < (n:Int):=by omega
   have hp:=bs_toList p
   have Z1:Hid (RBf (wr.alloc (.cells #[.string (bs p),.string (bs t),.int .i64 bl,.int .i64 s] 55)) w.heap.size zf):=HZ.out.later (balloc _ _)
   obtain ⟨z0,z1,z2,z3,y0,y1,y2,y3⟩:=HZ.out.cells
   by_cases hpq:p=q
   ·have hd:(p == q)=true:=by simpa using hpq
    have HPQ:Hid (p=q):=hpq
    clear hpq
    go_wp2_with fail
    refine bodyPost_ret (results_ct rfl _ _ w.heap.size 55 #[.string (bs p),.string (bs t),.int .i64 bl,.int .i64 s] (0,0) _ rfl ?_ Tryz.underlying55 rfl (by kernel_rfl)) rfl ?_
    ·exact ((HZ.out.set ⟨p,t,bl,s⟩).later (balloc _ _)).blk
    refine ⟨?_,?_⟩
    ·have h1:=HS2.out
     rw [if_pos HPQ.out] at h1
     rw [← HA.out,← h1];rfl
    ·exact below_trans (bset4 HB.out (Nat.le_refl _) _ _ _ _) (below_mono (balloc _ _) (by have:=HB.out.size;simp [World.setCell];omega))
   ·have hd:(p == q)=false:=by simpa using hpq
    have HPQ:Hid (¬ p=q):=hpq
    clear hpq
    go_wp2_with fail
    go_roundw
    case rel=>
     refine ⟨k+1,by omega,by go_num,bstep HB.out (balloc _ _),Z1.out,?_⟩
     have h1:=HS2.out
     rw [if_neg HPQ.out] at h1
     exact h1
    case measure=>simp [intOf];omega
  ·obtain rfl:k=n:=by omega
   obtain ⟨z0,z1,z2,z3,y0,y1,y2,y3⟩:=HZ.out.cells
   go_wp2_with fail
   refine bodyPost_ret (results_ct rfl _ _ w.heap.size 55 #[.string (bs []),.string (bs []),.int .i64 0,.int .i64 0] (0,0) _ rfl ?_ Tryz.underlying55 rfl (by kernel_rfl)) rfl ?_
   ·exact (HZ.out.set zf).blk
   refine ⟨?_,bset4 HB.out (Nat.le_refl _) _ _ _ _⟩
   have h1:=HL.out
   rw [List.drop_eq_nil_of_le (by have:=HN.out;omega)] at h1
   rw [← HA.out,← h1];rfl
end
end Go.Proofs.YtppnbdnpapellaaGreatDoor
