import Derived.Test.YtppnbdnpapellaaGreatDoorRd
import Derived.LaidEql
import Derived.Stop.Asserts
import Derived.RowKitTokens
import Derived.Test.YtppnbdnpapellaaGreatDoorJLrow
import Derived.Shelf.Strings.Builder1
import Derived.Shelf.Strings.OnBuilder
import Derived.Shelf.Strings.Replace
import Derived.Test.YtppnbdnpapellaaGreatDoorProg
set_option maxRecDepth 100000
set_option maxHeartbeats 16000000
namespace Go.Proofs.YtppnbdnpapellaaGreatDoor
section
open Go.RowKit Go.Extern.Stop Go.Stop Go.Extern
def hErr:Value:=.iface 307 (.agg #[.pointer (some ⟨4,217,none⟩)])
structure Ev (w:World):Prop where
 cell:w.cell? ⟨1,0,none⟩=some hErr
 max:∃ m,w.cell? ⟨0,0,none⟩=some (.int .i64 m)
 big:4≤w.heap.size
theorem Ev.below {w w':World} {B:Nat} (h:Ev w) (hb:Below B w w') (hB:4≤B):Ev w':=by
 obtain ⟨m,hm⟩:=h.max
 exact ⟨(hb.cell (p:=⟨1,0,none⟩) (by show 1 < B;omega)).trans h.cell,⟨m,(hb.cell (p:=⟨0,0,none⟩) (by show 0 < B;omega)).trans hm⟩,Nat.le_trans h.big hb.size⟩
theorem Ev.later {w w':World} (h:Ev w) (hb:Below w.heap.size w w'):Ev w':=h.below hb h.big
theorem Ev.only {S:List Nat} {w w':World} (h:Ev w) (hb:Only S w w') (hS:∀ k∈S,4≤k):Ev w':=h.below (hb.below h.big hS) (Nat.le_refl _)
def ty (t:Nat):Value:=.iface 307 (.agg #[.pointer (some ⟨4,t,none⟩)])
theorem as_valT (t:Addr) (w:World):(ReflectliteValue.unpack (.iface 247 (.pointer (some t)))).run Tryz.prog w
  = .ok (.agg #[.pointer (some ⟨4,247,none⟩),.pointer (some ⟨w.heap.size,0,none⟩),.int .u64 150]) (w.alloc (.cells #[.pointer (some t)] 247)):=by kernel_rfl
theorem as_type (a : Addr) (w : World) : (ReflectliteValue.methodAny (ReflectliteValue.valueError "reflectlite.Value.Type" 0) (fun t _ _ _ => ReflectliteType.toType t) #[.agg #[.pointer (some ⟨4, 247, none⟩), .pointer (some a), .int .u64 150]]).run Tryz.prog w
  = .ok (.iface 307 (.agg #[.pointer (some ⟨4,247,none⟩)])) w:=by kernel_rfl
theorem as_mKind (h : Value) (w : World) : (Go.method 470 307 (.agg #[h]) "Kind").run Tryz.prog w = .ok (312, h) w := by kernel_rfl
theorem as_kT (w:World):((ReflectliteType.abiMethod fun t=>(fun a:Nat=>Value.int IntKind.u8 (a:Int)) <$> Rtype.kind t) #[.pointer (some ⟨4,247,none⟩)]).run Tryz.prog w=.ok (.int .u8 22) w:=by kernel_rfl
theorem as_kE (w:World):((ReflectliteType.abiMethod fun t=>(fun a:Nat=>Value.int IntKind.u8 (a:Int)) <$> Rtype.kind t) #[.pointer (some ⟨4,245,none⟩)]).run Tryz.prog w=.ok (.int .u8 2) w:=by kernel_rfl
theorem as_rlm (z:Sem Value) (f:TypeId→Addr→Nat→Nat→Sem Value) (v:Value) :
  ReflectliteValue.method z f #[v]=(do match ← ReflectliteValue.parts v with | none=>z | some (t,a,fl)=>f t a fl (fl % 32)):=rfl
theorem as_partsT (a:Addr) (w:World):(ReflectliteValue.parts (.agg #[.pointer (some ⟨4,247,none⟩),.pointer (some a),.int .u64 150])).run Tryz.prog w=.ok (some (247,a,150)) w:=by kernel_rfl
theorem as_isNil (a p:Addr) (W:World) (ha:W.cell? a=some (.pointer (some p))) :
  (ReflectliteValue.method (ReflectliteValue.valueError "reflectlite.Value.IsNil" 0) ReflectliteValue.isNil #[.agg #[.pointer (some ⟨4, 247, none⟩), .pointer (some a), .int .u64 150]]).run Tryz.prog W = .ok (.bool false) W := by
 rw [as_rlm]
 simp only [Sem.run_bind,as_partsT,Result.andThen]
 simp [ReflectliteValue.isNil,loadVar,isAgg,underlying,Tryz.underlying247,ha,Result.andThen]
theorem as_mElem (h : Value) (w : World) : (Go.method 470 307 (.agg #[h]) "Elem").run Tryz.prog w = .ok (334, .agg #[h]) w := by kernel_rfl
theorem as_mImpl (h : Value) (w : World) : (Go.method 470 307 (.agg #[h]) "Implements").run Tryz.prog w = .ok (335, .agg #[h]) w := by kernel_rfl
theorem as_mAssign (h : Value) (w : World) : (Go.method 470 307 (.agg #[h]) "AssignableTo").run Tryz.prog w = .ok (332, .agg #[h]) w := by kernel_rfl
theorem as_elem (w:World):(ReflectliteType.method ReflectliteType.elem #[.agg #[.pointer (some ⟨4,247,none⟩)]]).run Tryz.prog w=.ok (.iface 307 (.agg #[.pointer (some ⟨4,245,none⟩)])) w:=by kernel_rfl
theorem as_impl (w : World) : (ReflectliteType.relation "Implements" ReflectliteType.implements_ #[.agg #[.pointer (some ⟨4, 245, none⟩)], .iface 307 (.agg #[.pointer (some ⟨4, 217, none⟩)])]).run Tryz.prog w = .ok (.bool true) w := by kernel_rfl
theorem as_typeOf (v:Value) (w:World):(ReflectliteType.typeOf #[.iface 245 v]).run Tryz.prog w=.ok (.iface 307 (.agg #[.pointer (some ⟨4,245,none⟩)])) w:=by kernel_rfl
theorem as_assign (w : World) : (ReflectliteType.relation "AssignableTo" ReflectliteType.assignableTo #[.agg #[.pointer (some ⟨4, 245, none⟩)], .iface 307 (.agg #[.pointer (some ⟨4, 245, none⟩)])]).run Tryz.prog w = .ok (.bool true) w := by kernel_rfl
theorem as_valE (z:Int) (w:World):(ReflectliteValue.unpack (.iface 245 (.int .i64 z))).run Tryz.prog w
  = .ok (.agg #[.pointer (some ⟨4,245,none⟩),.pointer (some ⟨w.heap.size,0,none⟩),.int .u64 130]) (w.alloc (.cells #[.int .i64 z] 245)):=by kernel_rfl
theorem as_elemOf (w:World):(Rtype.elem? 247).run Tryz.prog w=.ok (some 245) w:=by kernel_rfl
theorem as_mk (p:Addr) (w:World):(ReflectliteValue.mk 245 p ReflectliteValue.flagAddr).run Tryz.prog w=.ok (.agg #[.pointer (some ⟨4,245,none⟩),.pointer (some p),.int .u64 386]) w:=by kernel_rfl
theorem as_elemV (a p:Addr) (W:World) (ha:W.cell? a=some (.pointer (some p))) :
  (ReflectliteValue.method (ReflectliteValue.valueError "reflectlite.Value.Elem" 0) ReflectliteValue.elem #[.agg #[.pointer (some ⟨4, 247, none⟩), .pointer (some a), .int .u64 150]]).run Tryz.prog W
   = .ok (.agg #[.pointer (some ⟨4,245,none⟩),.pointer (some p),.int .u64 386]) W:=by
 rw [as_rlm]
 simp only [Sem.run_bind,as_partsT,Result.andThen]
 simp [ReflectliteValue.elem,loadVar,isAgg,underlying,Tryz.underlying247,ha,Result.andThen,as_elemOf,as_mk]
theorem as_rls (v x:Value):ReflectliteValue.set #[v,x]=(do
  let (some (dst,a,fl),some (src,b,_)):=(← ReflectliteValue.parts v,← ReflectliteValue.parts x)
   | unsupported (.noEntry "extern/(internal/reflectlite.Value).Set.zeroValue")
  if fl / ReflectliteValue.flagAddr % 2 == 0 then unsupported (.noEntry "extern/(internal/reflectlite.Value).Set.unaddressable")
  let val ← loadVar src b
  if ← Rtype.directlyAssignable dst src then storeVar dst a val
  else if ← Rtype.implements dst src then
   if (← Rtype.kind src) == 20 then
    match val with
    | .nilIface => unsupported (.noEntry "extern/reflectlite: a nil value of one interface type handed on as a value of another")
    | _=>storeVar dst a val
   else storeVar dst a (.iface src val)
  else panicString ("reflectlite.Set: value of type " ++ (← Rtype.spelt src) ++ " is not assignable to type " ++ (← Rtype.spelt dst))
  pure (.tuple #[])):=rfl
theorem as_partsA (a:Addr) (w:World):(ReflectliteValue.parts (.agg #[.pointer (some ⟨4,245,none⟩),.pointer (some a),.int .u64 386])).run Tryz.prog w=.ok (some (245,a,386)) w:=by kernel_rfl
theorem as_partsE (a:Addr) (w:World):(ReflectliteValue.parts (.agg #[.pointer (some ⟨4,245,none⟩),.pointer (some a),.int .u64 130])).run Tryz.prog w=.ok (some (245,a,130)) w:=by kernel_rfl
theorem as_direct (w:World):(Rtype.directlyAssignable 245 245).run Tryz.prog w=.ok true w:=by kernel_rfl
theorem as_set (ta b:Addr) (z:Int) (old:Value) (W:World) (hb:W.cell? b=some (.int .i64 z)) (ht:W.cell? ta=some old) (hf:W.frozen? ta=false) :
  (ReflectliteValue.set #[.agg #[.pointer (some ⟨4,245,none⟩),.pointer (some ta),.int .u64 386],.agg #[.pointer (some ⟨4,245,none⟩),.pointer (some b),.int .u64 130]]).run Tryz.prog W
   = .ok (.tuple #[]) (W.setCell ta (.int .i64 z)):=by
 rw [as_rls]
 simp only [Sem.run_bind,as_partsA,as_partsE,Result.andThen]
 simp [ReflectliteValue.flagAddr,loadVar,isAgg,underlying,Tryz.underlying245,hb,Result.andThen,as_direct,storeVar,Value.cells,storeCells,Addr.add]
 rw [run_store Tryz.prog W ta _ _ (by rfl)]
 simp [ht,hf]
theorem as_hit (z:Int) (t:Addr) (old:Value) (w:World) (hg:w.cell? ⟨1,0,none⟩=some hErr) (ht0:w.cell? t=some old) (hf0:w.frozen? t=false) :
  Calls Tryz.prog 207 #[.iface 245 (.int .i64 z),.iface 247 (.pointer (some t))] w fun ev w'=>ev=.returned (.bool true)∧w'=((((w.alloc (.cells #[.pointer (some t)] 247)).alloc (.cells #[.pointer (some ⟨4,247,none⟩),.pointer (some ⟨w.heap.size,0,none⟩),.int .u64 150] 283)).alloc (.cells #[.pointer (some ⟨4,247,none⟩),.pointer (some ⟨w.heap.size,0,none⟩),.int .u64 150] 283)).alloc (.cells #[.int .i64 z] 245)).setCell t (.int .i64 z):=by
 unfold hErr at hg
 have h6:=@run_callFunc_extern Tryz.prog 238 _ (fun args=>ReflectliteValue.unpack (args.getD 0 (.tuple #[]))) Tryz.func238 (by kernel_rfl) (by kernel_rfl) (by kernel_rfl) (by kernel_rfl)
 have h7 := @run_callFunc_extern Tryz.prog 239 _ (ReflectliteValue.methodAny (ReflectliteValue.valueError "reflectlite.Value.Type" 0) (fun t _ _ _ => ReflectliteType.toType t)) Tryz.func239 (by kernel_rfl) (by kernel_rfl) (by kernel_rfl) (by kernel_rfl)
 have h8 := @run_callFunc_extern Tryz.prog 240 _ (ReflectliteValue.method (ReflectliteValue.valueError "reflectlite.Value.IsNil" 0) ReflectliteValue.isNil) Tryz.func240 (by kernel_rfl) (by kernel_rfl) (by kernel_rfl) (by kernel_rfl)
 have h27:=@run_callFunc_extern Tryz.prog 312 _ (ReflectliteType.abiMethod fun t=>do pure (.int .u8 (← Rtype.kind t))) Tryz.func312 (by kernel_rfl) (by kernel_rfl) (by kernel_rfl) (by kernel_rfl)
 have h37:=@run_callFunc_extern Tryz.prog 334 _ (ReflectliteType.method ReflectliteType.elem) Tryz.func334 (by kernel_rfl) (by kernel_rfl) (by kernel_rfl) (by kernel_rfl)
 have h38 := @run_callFunc_extern Tryz.prog 335 _ (ReflectliteType.relation "Implements" ReflectliteType.implements_) Tryz.func335 (by kernel_rfl) (by kernel_rfl) (by kernel_rfl) (by kernel_rfl)
 have h10:=@run_callFunc_extern Tryz.prog 263 _ ReflectliteType.typeOf Tryz.func263 (by kernel_rfl) (by kernel_rfl) (by kernel_rfl) (by kernel_rfl)
 have h35 := @run_callFunc_extern Tryz.prog 332 _ (ReflectliteType.relation "AssignableTo" ReflectliteType.assignableTo) Tryz.func332 (by kernel_rfl) (by kernel_rfl) (by kernel_rfl) (by kernel_rfl)
 have h11 := @run_callFunc_extern Tryz.prog 264 _ (ReflectliteValue.method (ReflectliteValue.valueError "reflectlite.Value.Elem" 0) ReflectliteValue.elem) Tryz.func264 (by kernel_rfl) (by kernel_rfl) (by kernel_rfl) (by kernel_rfl)
 have h12:=@run_callFunc_extern Tryz.prog 265 _ ReflectliteValue.set Tryz.func265 (by kernel_rfl) (by kernel_rfl) (by kernel_rfl) (by kernel_rfl)
 have tO:=as_typeOf
 have mA:=as_mAssign
 have a25:=as_assign
 have v25:=as_valE
 have f6:=as_valT
 have f7:=as_type
 have mK:=as_mKind
 have mE:=as_mElem
 have mI:=as_mImpl
 have k27:=as_kT
 have k25:=as_kE
 have e27:=as_elem
 have i25:=as_impl
 have n8:=as_isNil ⟨w.heap.size,0,none⟩ t ((w.alloc (.cells #[.pointer (some t)] 247)).alloc (.cells #[.pointer (some ⟨4,247,none⟩),.pointer (some ⟨w.heap.size,0,none⟩),.int .u64 150] 283)) (by simp)
 have hlt:1 < w.heap.size:=World.block_lt_of_cell? w ⟨1,0,none⟩ hg
 have hg2:((w.alloc (.cells #[.pointer (some t)] 247)).alloc (.cells #[.pointer (some ⟨4,247,none⟩),.pointer (some ⟨w.heap.size,0,none⟩),.int .u64 150] 283)).cell? ⟨1,0,none⟩=some (.iface 307 (.agg #[.pointer (some ⟨4,217,none⟩)])):=by
  rw [World.cell?_alloc_lt _ _ ⟨1,0,none⟩ (by simp;omega),World.cell?_alloc_lt _ _ ⟨1,0,none⟩ hlt];exact hg
 have htl:t.block < w.heap.size:=by
  rcases Nat.lt_or_ge t.block w.heap.size with h | h
  ·exact h
  ·simp [World.cell?,Array.getElem?_eq_none h] at ht0
 have el:=as_elemV ⟨w.heap.size,0,none⟩ t (((w.alloc (.cells #[.pointer (some t)] 247)).alloc (.cells #[.pointer (some ⟨4,247,none⟩),.pointer (some ⟨w.heap.size,0,none⟩),.int .u64 150] 283)).alloc (.cells #[.pointer (some ⟨4,247,none⟩),.pointer (some ⟨w.heap.size,0,none⟩),.int .u64 150] 283)) (by rw [World.cell?_alloc_lt _ _ ⟨w.heap.size,0,none⟩ (by simp;omega)];simp)
 have st:=as_set t ⟨w.heap.size+1+1+1,0,none⟩ z old ((((w.alloc (.cells #[.pointer (some t)] 247)).alloc (.cells #[.pointer (some ⟨4,247,none⟩),.pointer (some ⟨w.heap.size,0,none⟩),.int .u64 150] 283)).alloc (.cells #[.pointer (some ⟨4,247,none⟩),.pointer (some ⟨w.heap.size,0,none⟩),.int .u64 150] 283)).alloc (.cells #[.int .i64 z] 245))
  (by rw [World.cell?_alloc_at _ _ _ _ (by simp)];rfl)
  (by rw [World.cell?_alloc_lt _ _ t (by simp;omega),World.cell?_alloc_lt _ _ t (by simp;omega),World.cell?_alloc_lt _ _ t (by simp;omega),World.cell?_alloc_lt _ _ t htl];exact ht0)
  (by rw [World.frozen?_alloc_old _ _ t (by simp;omega),World.frozen?_alloc_old _ _ t (by simp;omega),World.frozen?_alloc_old _ _ t (by simp;omega),World.frozen?_alloc_old _ _ t (Nat.ne_of_lt htl)];exact hf0)
 go_enter Tryz.func207,Tryz.ntmps207
 go_wp2
 refine wp_loop_rounds 1 ?_
 rw [rounds_succ]
 go_wp2
 go_ret
 exact ⟨rfl,rfl⟩
theorem placeOf_any (z:Int) {w:World} (h:Ev w) :
  Calls Tryz.prog 178 #[.iface 245 (.int .i64 z)] w fun e w'=>e=.returned (.int .i64 z)∧Below w.heap.size w w':=by
 have hg:(w.alloc (.cells #[.int .i64 0] 245)).cell? ⟨1,0,none⟩=some hErr:=(h.later (balloc _ _)).cell
 have HA:Hid (Calls Tryz.prog 207 #[.iface 245 (.int .i64 z),.iface 247 (.pointer (some ⟨w.heap.size,0,none⟩))] (w.alloc (.cells #[.int .i64 0] 245)) fun ev w'=>ev=.returned (.bool true)∧w'.cell? ⟨w.heap.size,0,none⟩=some (.int .i64 z)∧Below w.heap.size w w'):=by
  refine (as_hit z ⟨w.heap.size,0,none⟩ (.int .i64 0) _ hg (by simp) (by simp)).mono ?_
  rintro e w' ⟨rfl,rfl⟩
  refine ⟨rfl,?_,?_⟩
  ·have h0:((((w.alloc (.cells #[.int .i64 0] 245)).alloc (.cells #[.pointer (some ⟨w.heap.size,0,none⟩)] 247)).alloc (.cells #[.pointer (some ⟨4,247,none⟩),.pointer (some ⟨(w.alloc (.cells #[.int .i64 0] 245)).heap.size,0,none⟩),.int .u64 150] 283)).alloc (.cells #[.pointer (some ⟨4,247,none⟩),.pointer (some ⟨(w.alloc (.cells #[.int .i64 0] 245)).heap.size,0,none⟩),.int .u64 150] 283)).heap[w.heap.size]? = some (.cells #[.int .i64 0] 245 (0,0)):=by
    rw [heap_alloc_old _ _ (by simp;omega),heap_alloc_old _ _ (by simp;omega),heap_alloc_old _ _ (by simp),heap_alloc_new]
   have h1:=(heap_alloc_old _ (.cells #[.int .i64 z] 245) (by simp;omega)).trans h0
   have h2:=heap_setCell _ w.heap.size 0 (.int .i64 z) h1
   unfold World.cell?
   rw [h2]
   rfl
  ·exact ((((balloc w _).alloc (by simp) _).alloc (by simp;omega) _).alloc (by simp;omega) _ |>.alloc (by simp;omega) _).setCell (p:=⟨w.heap.size,0,none⟩) (Nat.le_refl _) _
 clear hg h
 go_enter Tryz.func178,Tryz.ntmps178
 go_wp2_with fail
 refine HA.out.mono ?_
 rintro e w1 ⟨rfl,hc,hb⟩
 have HB:Hid (Below w.heap.size w w1):=hb
 clear hb
 go_wp2_with fail
 go_ret
 exact ⟨rfl,HB.out⟩
end
section
open Go.RowKit
theorem bs_add (a b:List UInt8):bs a++bs b=bs (a++b):=bs_app a b
theorem join_any (a b:List UInt8) (w:World) (ha:a.length < 9223372036854775807) (hb:b.length < 9223372036854775807) :
  Calls Tryz.prog 77 #[.string (bs a),.string (bs b)] w fun e w'=>e=.returned (.tuple #[.string (bs (jn a b).1),.int .i64 (jn a b).2])∧Below w.heap.size w w':=by
 have e0:(bs a).toList.isEmpty=a.isEmpty:=isE a
 have e1:(bs b).toList.isEmpty=b.isEmpty:=isE b
 obtain ⟨j,hj⟩:∃ j,jn a b=j:=⟨_,rfl⟩
 rw [hj]
 have HJ:Hid (jn a b=j):=hj
 clear hj
 have HL:Hid (a.length < 9223372036854775807∧b.length < 9223372036854775807):=⟨ha,hb⟩
 clear ha hb
 go_enter Tryz.func77,Tryz.ntmps77
 go_wp2_with fail
 refine (valid_any _ _ HL.out.1).mono ?_
 rintro e w1 ⟨rfl,hb1⟩
 have B1:Hid (Below w.heap.size w w1):=hb1
 have hz1:=hb1.size
 clear hb1
 cases h1:okP a
 ·have hj:=HJ.out
  have hj:([],7)=j:=by rw [← hj];simp [jn,h1]
  subst hj
  go_wp2_with fail
  go_ret2
  exact ⟨rfl,B1.out⟩
 go_wp2_with fail
 refine (valid_any _ _ HL.out.2).mono ?_
 rintro e w2 ⟨rfl,hb2⟩
 have B2:Hid (Below w.heap.size w w2):=below_trans B1.out (below_mono hb2 hz1)
 have hz2:=B2.out.size
 clear hb2
 cases h2:okP b
 ·have hj:=HJ.out
  have hj:([],7)=j:=by rw [← hj];simp [jn,h2]
  subst hj
  go_wp2_with fail
  go_ret2
  exact ⟨rfl,B2.out⟩
 have hj:=HJ.out
 have hj:(if a=[] then (b,(0:Int)) else if b=[] then (a,0) else if okP (a++47::b)=true then (a++47::b,0) else ([],7))=j:=by rw [← hj];simp [jn,h1,h2]
 have la:a.length≤120:=by unfold okP at h1;simp only [Bool.and_eq_true,decide_eq_true_eq] at h1;exact h1.1.1
 have lb:b.length≤120:=by unfold okP at h2;simp only [Bool.and_eq_true,decide_eq_true_eq] at h2;exact h2.1.1
 by_cases h3:a=[]
 ·rw [if_pos h3] at hj
  subst hj
  subst h3
  go_wp2_with fail
  go_ret2
  exact ⟨rfl,B2.out⟩
 rw [if_neg h3] at hj
 have i0:a.isEmpty=false:=by cases a;exact absurd rfl h3;rfl
 rw [i0] at e0
 by_cases h4:b=[]
 ·rw [if_pos h4] at hj
  subst hj
  subst h4
  go_wp2_with fail
  go_ret2
  exact ⟨rfl,B2.out⟩
 rw [if_neg h4] at hj
 have i1:b.isEmpty=false:=by cases b;exact absurd rfl h4;rfl
 rw [i1] at e1
 have z1:(bs a).size=a.length:=rfl
 have z2:(bs b).size=b.length:=rfl
 have hcat:bs a++(ByteArray.mk #[47])++bs b=bs (a++47::b):=by
  have:(ByteArray.mk #[47])=bs [47]:=rfl
  rw [this,bs_add,bs_add];simp
 have HC:Hid (bs a++(ByteArray.mk #[47])++bs b=bs (a++47::b)):=hcat
 clear hcat
 go_wp2_with fail
 rw [HC.out]
 refine (valid_any _ _ (by simp;omega)).mono ?_
 rintro e w3 ⟨rfl,hb3⟩
 have B3:Hid (Below w.heap.size w w3):=below_trans B2.out (below_mono hb3 hz2)
 clear hb3
 cases h5:okP (a++47::b)
 ·rw [h5] at hj
  have hj:([],(7:Int))=j:=by rw [← hj];rfl
  subst hj
  go_wp2_with fail
  go_ret2
  exact ⟨rfl,B3.out⟩
 ·rw [h5] at hj
  have hj:(a++47::b,(0:Int))=j:=by rw [← hj];rfl
  subst hj
  go_wp2_with fail
  go_ret2
  exact ⟨rfl,B3.out⟩
end
section
open Go.RowKit
def Kd.val:Kd→Value
 | .nobody=>.nilIface
 | .all=>.iface 226 (.agg #[])
 | .one p=>.iface 227 (.string (bs p))
 | .tree p=>.iface 228 (.string (bs p))
theorem c_pub:(ByteArray.mk #[112,117,98,108,105,99]).toList=pub:=ByteArray.toList_mk pub
theorem c_adots:(ByteArray.mk #[47,47,46,46,46]).toList=adots:=ByteArray.toList_mk adots
theorem c_sdots:(ByteArray.mk #[47,47,47,46,46,46]).toList=47::47::dots:=ByteArray.toList_mk (47::47::dots)
theorem kind_any (s:List UInt8) (w:World) (hs:s.length≤1125899906842624):Calls Tryz.prog 183 #[.string (bs s)] w fun e w'=>e=.returned (kin s).val∧w'=w:=by
 have HP:Hid (∀ w:World,Calls Tryz.prog 221 #[.string (bs s),.string (bs [47,47])] w fun e w'=>e=.returned (.tuple #[.string (bs (if [47,47].isPrefixOf s then s.drop 2 else s)),.bool ([47,47].isPrefixOf s)])∧w'=w):=fun w=>cutPrefix_any s [47,47] w (by omega) (by simp)
 have e0:=bs_toList s
 have e1:=c_pub
 have e2:=c_adots
 have e3:=c_sdots
 unfold kin
 by_cases h1:s=pub
 ·have h1':(s == pub)=true:=by simpa using h1
  rw [if_pos h1]
  clear h1
  go_enter Tryz.func183,Tryz.ntmps183
  go_wp2_with fail
  go_ret
  exact ⟨rfl,rfl⟩
 have h1':(s == pub)=false:=by simpa using h1
 rw [if_neg h1]
 clear h1
 by_cases h2:s=adots
 ·have h2':(s == adots)=true:=by simpa using h2
  rw [if_pos h2]
  clear h2
  go_enter Tryz.func183,Tryz.ntmps183
  go_wp2_with fail
  go_ret
  exact ⟨rfl,rfl⟩
 have h2':(s == adots)=false:=by simpa using h2
 rw [if_neg h2]
 clear h2
 by_cases h3:s=47::47::dots
 ·have h3':(s == 47::47::dots)=true:=by simpa using h3
  rw [if_pos h3]
  clear h3
  go_enter Tryz.func183,Tryz.ntmps183
  go_wp2_with fail
  go_ret
  exact ⟨rfl,rfl⟩
 have h3':(s == 47::47::dots)=false:=by simpa using h3
 rw [if_neg h3]
 clear h3
 cases hp:List.isPrefixOf [47,47] s
 ·rw [hp] at HP
  simp only [Bool.false_eq_true,if_false] at HP ⊢
  clear hs
  go_enter Tryz.func183,Tryz.ntmps183
  go_wp2_with fail
  refine (HP.out _).mono ?_
  rintro e w1 ⟨rfl,rfl⟩
  go_wp2_with fail
  go_ret
  exact ⟨rfl,rfl⟩
 rw [hp] at HP
 simp only [if_true] at HP ⊢
 obtain ⟨r,hr⟩:∃ r,s.drop 2=r:=⟨_,rfl⟩
 have hrl:r.length≤1125899906842624:=by rw [← hr];simp;omega
 rw [hr] at HP ⊢
 have HS:Hid (∀ w:World,Calls Tryz.prog 222 #[.string (bs r),.string (bs dots)] w fun e w'=>e=.returned (.tuple #[.string (bs (if dots.isSuffixOf r then r.take (r.length - 4) else r)),.bool (dots.isSuffixOf r)])∧w'=w):=fun w=>cutSuffix_any r dots w (by omega) (by simp [dots])
 clear hs hrl hr hp
 cases hq:List.isSuffixOf dots r
 ·rw [hq] at HS
  simp only [Bool.false_eq_true,if_false] at HS ⊢
  clear hq
  go_enter Tryz.func183,Tryz.ntmps183
  go_wp2_with fail
  refine (HP.out _).mono ?_
  rintro e w1 ⟨rfl,rfl⟩
  go_wp2_with fail
  refine (HS.out _).mono ?_
  rintro e w1 ⟨rfl,rfl⟩
  go_wp2_with fail
  go_ret
  exact ⟨rfl,rfl⟩
 ·rw [hq] at HS
  simp only [if_true] at HS ⊢
  clear hq
  generalize r.take (r.length - 4)=t at *
  go_enter Tryz.func183,Tryz.ntmps183
  go_wp2_with fail
  refine (HP.out _).mono ?_
  rintro e w1 ⟨rfl,rfl⟩
  go_wp2_with fail
  refine (HS.out _).mono ?_
  rintro e w1 ⟨rfl,rfl⟩
  go_wp2_with fail
  go_ret
  exact ⟨rfl,rfl⟩
theorem top65_any (w:World):Calls Tryz.prog 321 #[.agg #[]] w fun e w'=>e=.returned (.string (bs []))∧Below w.heap.size w w':=by
 go_enter Tryz.func321,Tryz.ntmps321
 go_wp2_with fail
 go_ret
 exact ⟨rfl,balloc _ _⟩
theorem top66_any (p:List UInt8) (w:World):Calls Tryz.prog 322 #[.string (bs p)] w fun e w'=>e=.returned (.string (bs p))∧w'=w:=by
 go_enter Tryz.func322,Tryz.ntmps322
 go_wp2_with fail
 go_ret
 exact ⟨rfl,rfl⟩
theorem top67_any (p:List UInt8) (w:World):Calls Tryz.prog 323 #[.string (bs p)] w fun e w'=>e=.returned (.string (bs p))∧w'=w:=by
 go_enter Tryz.func323,Tryz.ntmps323
 go_wp2_with fail
 go_ret
 exact ⟨rfl,rfl⟩
theorem nn65 (w:World):(binOp .eql 190 (.iface 226 (.agg #[])) .nilIface).run Tryz.prog w=.ok (.bool false) w:=by kernel_rfl
theorem nn66 (w:World) (v:ByteArray):(binOp .eql 190 (.iface 227 (.string v)) .nilIface).run Tryz.prog w=.ok (.bool false) w:=by kernel_rfl
theorem nn67 (w:World) (v:ByteArray):(binOp .eql 190 (.iface 228 (.string v)) .nilIface).run Tryz.prog w=.ok (.bool false) w:=by kernel_rfl
theorem nq65 (w:World):(binOp .neq 190 (.iface 226 (.agg #[])) .nilIface).run Tryz.prog w=.ok (.bool true) w:=by kernel_rfl
theorem nq66 (w:World) (v:ByteArray):(binOp .neq 190 (.iface 227 (.string v)) .nilIface).run Tryz.prog w=.ok (.bool true) w:=by kernel_rfl
theorem nq67 (w:World) (v:ByteArray):(binOp .neq 190 (.iface 228 (.string v)) .nilIface).run Tryz.prog w=.ok (.bool true) w:=by kernel_rfl
theorem meth186 (v : Value) (w : World) : (Go.method 177 226 v "copse/label.top").run Tryz.prog w = .ok (321, v) w := by kernel_rfl
theorem meth187 (v : Value) (w : World) : (Go.method 177 228 v "copse/label.top").run Tryz.prog w = .ok (323, v) w := by kernel_rfl
theorem meth188 (v : Value) (w : World) : (Go.method 177 227 v "copse/label.top").run Tryz.prog w = .ok (322, v) w := by kernel_rfl
theorem read_any (s:List UInt8) (w:World) (hs:s.length≤1125899906842624):Calls Tryz.prog 145 #[.string (bs s)] w fun e w'=>e=.returned (rdk s).val∧Below w.heap.size w w':=by
 have HK:Hid (∀ w:World,Calls Tryz.prog 183 #[.string (bs s)] w fun e w'=>e=.returned (kin s).val∧w'=w):=fun w=>kind_any s w hs
 have hk:(kin s).top.length≤s.length:=by
  unfold kin
  split
  ·simp [Kd.top]
  split
  ·simp [Kd.top]
  split
  ·simp [Kd.top]
  split
  ·split
   ·simp [Kd.top];omega
   ·simp [Kd.top]
  ·simp [Kd.top]
 have HV:Hid (∀ w:World,Calls Tryz.prog 83 #[.string (bs (kin s).top)] w fun e w'=>e=.returned (.bool (okP (kin s).top))∧Below w.heap.size w w'):=fun w=>valid_any _ w (by omega)
 unfold rdk
 generalize kin s=k at *
 clear hk hs
 have m65:=nn65
 have m66:=nn66
 have m67:=nn67
 have me1:=meth186
 have me2:=meth187
 have me3:=meth188
 cases k with
 | nobody=>
  simp only [Kd.val,Kd.top,okP_nil,if_true] at *
  go_enter Tryz.func145,Tryz.ntmps145
  go_wp2_with fail
  refine (HK.out _).mono ?_
  rintro e w1 ⟨rfl,rfl⟩
  go_wp2_with fail
  go_ret
  exact ⟨rfl,Below.refl _ _⟩
 | all=>
  simp only [Kd.val,Kd.top,okP_nil,if_true] at *
  go_enter Tryz.func145,Tryz.ntmps145
  go_wp2_with fail
  refine (HK.out _).mono ?_
  rintro e w1 ⟨rfl,rfl⟩
  go_wp2_with fail
  refine (top65_any _).mono ?_
  rintro e w2 ⟨rfl,hb2⟩
  have HB2:Hid (Below w1.heap.size w1 w2):=hb2
  clear hb2
  go_wp2_with fail
  refine (HV.out _).mono ?_
  rintro e w3 ⟨rfl,hb3⟩
  have HB3:Hid (Below w1.heap.size w1 w3):=bstep HB2.out hb3
  clear hb3
  go_wp2_with fail
  go_ret
  exact ⟨rfl,HB3.out⟩
 | one p=>
  by_cases hp:okP (Kd.one p).top=true
  rotate_left
  ·rw [if_neg hp]
   have hp':okP (Kd.one p).top=false:=by simpa using hp
   rw [hp'] at HV
   clear hp hp'
   simp only [Kd.val,Kd.top] at *
   go_enter Tryz.func145,Tryz.ntmps145
   go_wp2_with fail
   refine (HK.out _).mono ?_
   rintro e w1 ⟨rfl,rfl⟩
   go_wp2_with fail
   refine (top66_any _ _).mono ?_
   rintro e w2 ⟨rfl,rfl⟩
   go_wp2_with fail
   refine (HV.out _).mono ?_
   rintro e w3 ⟨rfl,hb3⟩
   have HB3:Hid (Below w2.heap.size w2 w3):=hb3
   clear hb3
   go_wp2_with fail
   go_ret
   exact ⟨rfl,HB3.out⟩
  ·rw [if_pos hp]
   rw [hp] at HV
   clear hp
   simp only [Kd.val,Kd.top] at *
   go_enter Tryz.func145,Tryz.ntmps145
   go_wp2_with fail
   refine (HK.out _).mono ?_
   rintro e w1 ⟨rfl,rfl⟩
   go_wp2_with fail
   refine (top66_any _ _).mono ?_
   rintro e w2 ⟨rfl,rfl⟩
   go_wp2_with fail
   refine (HV.out _).mono ?_
   rintro e w3 ⟨rfl,hb3⟩
   have HB3:Hid (Below w2.heap.size w2 w3):=hb3
   clear hb3
   go_wp2_with fail
   go_ret
   exact ⟨rfl,HB3.out⟩
 | tree p=>
  by_cases hp:okP (Kd.tree p).top=true
  rotate_left
  ·rw [if_neg hp]
   have hp':okP (Kd.tree p).top=false:=by simpa using hp
   rw [hp'] at HV
   clear hp hp'
   simp only [Kd.val,Kd.top] at *
   go_enter Tryz.func145,Tryz.ntmps145
   go_wp2_with fail
   refine (HK.out _).mono ?_
   rintro e w1 ⟨rfl,rfl⟩
   go_wp2_with fail
   refine (top67_any _ _).mono ?_
   rintro e w2 ⟨rfl,rfl⟩
   go_wp2_with fail
   refine (HV.out _).mono ?_
   rintro e w3 ⟨rfl,hb3⟩
   have HB3:Hid (Below w2.heap.size w2 w3):=hb3
   clear hb3
   go_wp2_with fail
   go_ret
   exact ⟨rfl,HB3.out⟩
  ·rw [if_pos hp]
   rw [hp] at HV
   clear hp
   simp only [Kd.val,Kd.top] at *
   go_enter Tryz.func145,Tryz.ntmps145
   go_wp2_with fail
   refine (HK.out _).mono ?_
   rintro e w1 ⟨rfl,rfl⟩
   go_wp2_with fail
   refine (top67_any _ _).mono ?_
   rintro e w2 ⟨rfl,rfl⟩
   go_wp2_with fail
   refine (HV.out _).mono ?_
   rintro e w3 ⟨rfl,hb3⟩
   have HB3:Hid (Below w2.heap.size w2 w3):=hb3
   clear hb3
   go_wp2_with fail
   go_ret
   exact ⟨rfl,HB3.out⟩
end
section
open Go.RowKit
theorem beq_dec (a b:List UInt8):(a == b)=decide (a=b):=by by_cases h:a=b<;>simp [h]
theorem kin_top (s:List UInt8):(kin s).top.length≤s.length:=by
 unfold kin
 split
 ·simp [Kd.top]
 split
 ·simp [Kd.top]
 split
 ·simp [Kd.top]
 split
 ·split
  ·simp [Kd.top];omega
  ·simp [Kd.top]
 ·simp [Kd.top]
theorem rdk_top (s:List UInt8):(rdk s).top.length≤s.length:=by
 unfold rdk
 split
 ·exact kin_top s
 ·simp [Kd.top]
theorem seer_any (s:List UInt8) (w:World) (hs:s.length≤1125899906842624):Calls Tryz.prog 293 #[.string (bs s)] w fun e w'=>e=.returned (.bool (ser s))∧Below w.heap.size w w':=by
 have HK:Hid (∀ w:World,Calls Tryz.prog 145 #[.string (bs s)] w fun e w'=>e=.returned (rdk s).val∧Below w.heap.size w w'):=fun w=>read_any s w hs
 unfold ser
 generalize rdk s=k at *
 clear hs
 have m65:=nq65
 have m66:=nq66
 have m67:=nq67
 cases k with
 | nobody=>
  simp only [Kd.val,decide_true,Bool.not_true] at *
  go_enter Tryz.func293,Tryz.ntmps293
  go_wp2_with fail
  refine (HK.out _).mono ?_
  rintro e w1 ⟨rfl,hb1⟩
  have HB:Hid (Below w.heap.size w w1):=hb1
  clear hb1
  go_wp2_with fail
  go_ret
  exact ⟨rfl,HB.out⟩
 | all=>
  have hd:(!decide (Kd.all=Kd.nobody))=true:=by simp
  rw [hd]
  simp only [Kd.val] at *
  go_enter Tryz.func293,Tryz.ntmps293
  go_wp2_with fail
  refine (HK.out _).mono ?_
  rintro e w1 ⟨rfl,hb1⟩
  have HB:Hid (Below w.heap.size w w1):=hb1
  clear hb1
  go_wp2_with fail
  go_ret
  exact ⟨rfl,HB.out⟩
 | one p=>
  have hd:(!decide (Kd.one p=Kd.nobody))=true:=by simp
  rw [hd]
  simp only [Kd.val] at *
  go_enter Tryz.func293,Tryz.ntmps293
  go_wp2_with fail
  refine (HK.out _).mono ?_
  rintro e w1 ⟨rfl,hb1⟩
  have HB:Hid (Below w.heap.size w w1):=hb1
  clear hb1
  go_wp2_with fail
  go_ret
  exact ⟨rfl,HB.out⟩
 | tree p=>
  have hd:(!decide (Kd.tree p=Kd.nobody))=true:=by simp
  rw [hd]
  simp only [Kd.val] at *
  go_enter Tryz.func293,Tryz.ntmps293
  go_wp2_with fail
  refine (HK.out _).mono ?_
  rintro e w1 ⟨rfl,hb1⟩
  have HB:Hid (Below w.heap.size w w1):=hb1
  clear hb1
  go_wp2_with fail
  go_ret
  exact ⟨rfl,HB.out⟩
end
end Go.Proofs.YtppnbdnpapellaaGreatDoor
namespace Go.Proofs
open Go.Shelf
def Tryz.lays169_ren:Go.Shelf.Ren:=⟨fun | 169=>226 | n=>n,fun | 70=>265 | 9=>9 | 0=>0 | 72=>267 | 37=>158 | 127=>304 | 3=>3 | 5=>5 | n=>n,fun | n=>n⟩
theorem Tryz.lays169:Go.Proofs.Lays.n169 Tryz.prog Tryz.lays169_ren:={
 mixed:=by kernel_rfl
 f169:=Tryz.func226.trans (congrArg some (by kernel_rfl))
 t0:=Tryz.underlying0
 a0:=Tryz.isAgg0
 z0:=Tryz.sizeOf0
 v0:=Tryz.zeroValue0
 t3:=Tryz.underlying3
 a3:=Tryz.isAgg3
 z3:=Tryz.sizeOf3
 v3:=Tryz.zeroValue3
 t9:=Tryz.underlying9
 a9:=Tryz.isAgg9
 z9:=Tryz.sizeOf9
 v9:=Tryz.zeroValue9
 t37:=Tryz.underlying158
 a37:=Tryz.isAgg158
 z37:=Tryz.sizeOf158
 v37:=Tryz.zeroValue158
 t70:=Tryz.underlying265
 a70:=Tryz.isAgg265
 z70:=Tryz.sizeOf265
 v70:=Tryz.zeroValue265
 t72:=Tryz.underlying267
 a72:=Tryz.isAgg267
 z72:=Tryz.sizeOf267
 v72:=Tryz.zeroValue267
 t127:=Tryz.underlying304
 a127:=Tryz.isAgg304
 z127:=Tryz.sizeOf304
 v127:=Tryz.zeroValue304 }
theorem Tryz.Builder_Extra_169:Builder.Extra Tryz.prog Tryz.lays169_ren:={
 sizeBuilder:=by kernel_rfl
 liesBuilder:=by kernel_rfl
 t5:=Tryz.underlying5
 a5:=Tryz.isAgg5
 z5:=Tryz.sizeOf5
 v5:=Tryz.zeroValue5
 infoByte:=by kernel_rfl
 cellsByte:=by kernel_rfl
 sizeByte:=by kernel_rfl
 neB5:=by decide }
def Tryz.lays156_ren:Go.Shelf.Ren:=⟨fun | 156=>85 | 165=>223 | 166=>224 | 169=>226 | 240=>255 | 241=>256 | 276=>282 | 277=>283 | n=>n,fun | 31=>24 | 9=>9 | 3=>3 | 4=>4 | 0=>0 | 20=>20 | 72=>267 | 76=>268 | 70=>265 | 37=>158 | 75=>217 | 127=>304 | 164=>280 | 5=>5 | 80=>165 | n=>n,fun | n=>n⟩
theorem Tryz.Builder_Extra_156:Builder.Extra Tryz.prog Tryz.lays156_ren:={
 sizeBuilder:=by kernel_rfl
 liesBuilder:=by kernel_rfl
 t5:=Tryz.underlying5
 a5:=Tryz.isAgg5
 z5:=Tryz.sizeOf5
 v5:=Tryz.zeroValue5
 infoByte:=by kernel_rfl
 cellsByte:=by kernel_rfl
 sizeByte:=by kernel_rfl
 neB5:=by decide }
def Tryz.lays154_ren:Go.Shelf.Ren:=⟨fun | 154=>184 | 138=>175 | 165=>223 | 143=>150 | 166=>224 | 197=>225 | 169=>226 | 195=>204 | 218=>205 | 240=>255 | 241=>256 | 219=>188 | 260=>257 | 276=>282 | 277=>283 | 217=>228 | 225=>229 | 224=>230 | 267=>231 | 266=>258 | 314=>259 | n=>n,fun | 9=>9 | 3=>3 | 4=>4 | 72=>267 | 0=>0 | 76=>268 | 105=>270 | 21=>21 | 5=>5 | 70=>265 | 20=>20 | 37=>158 | 75=>217 | 127=>304 | 164=>280 | 46=>113 | 119=>329 | 139=>332 | 138=>331 | 146=>272 | 51=>212 | 80=>165 | n=>n,fun | 1=>0 | 3=>2 | 4=>3 | n=>n⟩
theorem Tryz.lays154:Go.Proofs.Lays.n154 Tryz.prog Tryz.lays154_ren:={
 mixed:=by kernel_rfl
 f138:=Tryz.func175.trans (congrArg some (by kernel_rfl))
 f143:=Tryz.func150.trans (congrArg some (by kernel_rfl))
 f154:=Tryz.func184.trans (congrArg some (by kernel_rfl))
 f165:=Tryz.func223.trans (congrArg some (by kernel_rfl))
 f166:=Tryz.func224.trans (congrArg some (by kernel_rfl))
 f169:=Tryz.func226.trans (congrArg some (by kernel_rfl))
 f195:=Tryz.func204.trans (congrArg some (by kernel_rfl))
 f197:=Tryz.func225.trans (congrArg some (by kernel_rfl))
 f217:=Tryz.func228.trans (congrArg some (by kernel_rfl))
 f218:=Tryz.func205.trans (congrArg some (by kernel_rfl))
 f219:=Tryz.func188.trans (congrArg some (by kernel_rfl))
 f224:=Tryz.func230.trans (congrArg some (by kernel_rfl))
 f225:=Tryz.func229.trans (congrArg some (by kernel_rfl))
 f240:=Tryz.func255.trans (congrArg some (by kernel_rfl))
 f241:=Tryz.func256.trans (congrArg some (by kernel_rfl))
 f260:=Tryz.func257.trans (congrArg some (by kernel_rfl))
 f266:=Tryz.func258.trans (congrArg some (by kernel_rfl))
 f267:=Tryz.func231.trans (congrArg some (by kernel_rfl))
 f276:=Tryz.func282.trans (congrArg some (by kernel_rfl))
 f277:=Tryz.func283.trans (congrArg some (by kernel_rfl))
 f314:=Tryz.func259.trans (congrArg some (by kernel_rfl))
 t0:=Tryz.underlying0
 a0:=Tryz.isAgg0
 z0:=Tryz.sizeOf0
 v0:=Tryz.zeroValue0
 t3:=Tryz.underlying3
 a3:=Tryz.isAgg3
 z3:=Tryz.sizeOf3
 v3:=Tryz.zeroValue3
 t4:=Tryz.underlying4
 a4:=Tryz.isAgg4
 z4:=Tryz.sizeOf4
 v4:=Tryz.zeroValue4
 t5:=Tryz.underlying5
 a5:=Tryz.isAgg5
 z5:=Tryz.sizeOf5
 v5:=Tryz.zeroValue5
 t9:=Tryz.underlying9
 a9:=Tryz.isAgg9
 z9:=Tryz.sizeOf9
 v9:=Tryz.zeroValue9
 t20:=Tryz.underlying20
 a20:=Tryz.isAgg20
 z20:=Tryz.sizeOf20
 v20:=Tryz.zeroValue20
 t21:=Tryz.underlying21
 a21:=Tryz.isAgg21
 z21:=Tryz.sizeOf21
 v21:=Tryz.zeroValue21
 t37:=Tryz.underlying158
 a37:=Tryz.isAgg158
 z37:=Tryz.sizeOf158
 v37:=Tryz.zeroValue158
 t46:=Tryz.underlying113
 a46:=Tryz.isAgg113
 z46:=Tryz.sizeOf113
 v46:=Tryz.zeroValue113
 t51:=Tryz.underlying212
 a51:=Tryz.isAgg212
 z51:=Tryz.sizeOf212
 v51:=Tryz.zeroValue212
 t70:=Tryz.underlying265
 a70:=Tryz.isAgg265
 z70:=Tryz.sizeOf265
 v70:=Tryz.zeroValue265
 t72:=Tryz.underlying267
 a72:=Tryz.isAgg267
 z72:=Tryz.sizeOf267
 v72:=Tryz.zeroValue267
 t75:=Tryz.underlying217
 a75:=Tryz.isAgg217
 z75:=Tryz.sizeOf217
 v75:=Tryz.zeroValue217
 t76:=Tryz.underlying268
 a76:=Tryz.isAgg268
 z76:=Tryz.sizeOf268
 v76:=Tryz.zeroValue268
 t105:=Tryz.underlying270
 a105:=Tryz.isAgg270
 z105:=Tryz.sizeOf270
 v105:=Tryz.zeroValue270
 t119:=Tryz.underlying329
 a119:=Tryz.isAgg329
 z119:=Tryz.sizeOf329
 t127:=Tryz.underlying304
 a127:=Tryz.isAgg304
 z127:=Tryz.sizeOf304
 v127:=Tryz.zeroValue304
 t138:=Tryz.underlying331
 a138:=Tryz.isAgg331
 z138:=Tryz.sizeOf331
 v138:=Tryz.zeroValue331
 t139:=Tryz.underlying332
 a139:=Tryz.isAgg332
 z139:=Tryz.sizeOf332
 v139:=Tryz.zeroValue332
 t146:=Tryz.underlying272
 a146:=Tryz.isAgg272
 z146:=Tryz.sizeOf272
 v146:=Tryz.zeroValue272
 t164:=Tryz.underlying280
 a164:=Tryz.isAgg280
 z164:=Tryz.sizeOf280
 v164:=Tryz.zeroValue280
 g1:=by kernel_rfl
 g3:=by kernel_rfl
 g4:=by kernel_rfl }
theorem Tryz.Builder_Extra_154:Builder.Extra Tryz.prog Tryz.lays154_ren:={
 sizeBuilder:=by kernel_rfl
 liesBuilder:=by kernel_rfl
 t5:=Tryz.underlying5
 a5:=Tryz.isAgg5
 z5:=Tryz.sizeOf5
 v5:=Tryz.zeroValue5
 infoByte:=by kernel_rfl
 cellsByte:=by kernel_rfl
 sizeByte:=by kernel_rfl
 neB5:=by decide }
end Go.Proofs
