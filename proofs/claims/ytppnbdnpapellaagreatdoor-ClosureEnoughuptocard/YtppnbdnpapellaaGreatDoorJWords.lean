import Derived.Test.YtppnbdnpapellaaGreatDoorJLab
import Derived.Test.YtppnbdnpapellaaGreatDoorJFil
import Derived.Laws.ResultCell
import Derived.Laws.StructEq
import Derived.Deep.RegionHeld3
import Derived.BigQuiet
set_option maxRecDepth 100000
set_option maxHeartbeats 16000000
namespace Go.Proofs.YtppnbdnpapellaaGreatDoor
section
open Go.RowKit
theorem c_indexByte_any (l:List UInt8) (w:World) :
  Calls Tryz.prog 228 #[.string (bs l),.int .u8 58] w fun e w'=>e=.returned (.int .i64 (Lib.indexByte l 58))∧w'=w:=by
 go_enter Tryz.func228,Tryz.ntmps228
 go_wp2
 rw [run_callFunc_extern Tryz.func258 (by kernel_rfl) (by kernel_rfl) (by kernel_rfl) (e:=Extern.BytealgIndexByte.indexByte) (by kernel_rfl),Lib.run_indexByteString]
 simp only [Result.andThen]
 rw [Oper.upon_value]
 go_wp2
 go_ret
 exact ⟨rfl,rfl⟩
theorem c_index_any (l:List UInt8) (w:World) :
  Calls Tryz.prog 188 #[.string (bs l),.string (bs [58])] w fun e w'=>e=.returned (.int .i64 (Lib.indexByte l 58))∧w'=w:=by
 have hz:(bs [58]).size=1:=rfl
 by_cases hl:l=[58]
 ·subst hl
  have he:((bs [58]).toList == (bs [58]).toList)=true:=by simp
  go_enter Tryz.func188,Tryz.ntmps188
  go_wp2_with fail
  go_ret
  exact ⟨rfl,rfl⟩
 ·have he:((bs [58]).toList == (bs l).toList)=false:=by rw [bs_toList,bs_toList,beq_eq_false_iff_ne];exact fun e=>hl e.symm
  go_enter Tryz.func188,Tryz.ntmps188
  go_wp2_with fail
  refine (c_indexByte_any _ _).mono ?_
  rintro e w1 ⟨rfl,rfl⟩
  go_wp2_with fail
  go_ret
  exact ⟨rfl,rfl⟩
theorem c_extract_hd (l:List UInt8):(bs l).extract 0 (chd l).length=bs (chd l):=by
 rw [bs_extract];congr 1;simp [← c_hd_take l]
theorem c_extract_tl (l:List UInt8) (h:csl l=true):(bs l).extract ((chd l).length+1) (bs l).size=bs (ctl l):=by
 rw [bs_extract,← c_tl_drop l h];congr 1
 rw [bs_size];have:=c_hd_len l h;exact List.take_of_length_le (by omega)
theorem c_cut0_any (l:List UInt8) (w:World) (hm:l.length≤9223372036854775807) :
  Calls Tryz.prog 189 #[.string (bs l),.string (bs [58])] w fun e w'=>e=.returned (.tuple #[.string (bs (chd l)),.string (bs (ctl l)),.bool (csl l)])∧∃ n,w'=w.drewN n:=by
 have hz:(bs [58]).size=1:=rfl
 have hx:=c_indexByte_eq l
 cases h:csl l
 ·rw [h] at hx
  simp only [Bool.false_eq_true,if_false] at hx
  rw [c_hd_all l h,c_tl_none l h]
  go_enter Tryz.func189,Tryz.ntmps189
  go_wp2_with fail
  refine (c_index_any _ _).mono ?_
  rintro e w1 ⟨rfl,rfl⟩
  rw [hx]
  go_wp2_with fail
  go_ret3
  exact ⟨rfl,0,rfl⟩
 ·rw [h] at hx
  simp only [if_true] at hx
  have hlen:=c_hd_len l h
  have hsz:(bs l).size=l.length:=rfl
  obtain ⟨n,hn⟩:∃ n,(chd l).length=n:=⟨_,rfl⟩
  have e1:=c_extract_hd l
  have e2:=c_extract_tl l h
  rw [hn] at e1 e2 hx hlen
  rw [hsz] at e2
  have E1:Hid ((bs l).extract 0 n=bs (chd l)):=e1
  have E2:Hid ((bs l).extract (n+1) l.length=bs (ctl l)):=e2
  clear e1 e2
  have c1:(0:Int)≤↑n:=by omega
  have c2:(n:Int)≤(l.length:Int):=by omega
  have c3:(0:Int)≤↑n+1:=by omega
  have c4:(n:Int)+1≤(l.length:Int):=by omega
  go_enter Tryz.func189,Tryz.ntmps189
  go_wp2_with fail
  refine (c_index_any _ _).mono ?_
  rintro e w1 ⟨rfl,rfl⟩
  rw [hx]
  go_wp2_with fail
  go_region
  go_wp2_with fail
  go_ret3
  refine ⟨?_,1,rfl⟩
  rw [← E1.out,← E2.out];rfl
theorem c_cut_any (l:List UInt8) (w:World) (hm:l.length≤9223372036854775807) :
  Calls Tryz.prog 151 #[.string (bs l),.string (bs [58])] w fun e w'=>e=.returned (.tuple #[.string (bs (chd l)),.string (bs (ctl l)),.bool (csl l)])∧∃ n,w'=w.drewN n:=by
 have HM:Hid (l.length≤9223372036854775807):=hm
 clear hm
 go_enter Tryz.func151,Tryz.ntmps151
 go_wp2_with fail
 refine (c_cut0_any _ _ HM.out).mono ?_
 rintro e w1 ⟨rfl,n,rfl⟩
 go_wp2_with fail
 go_ret3
 exact ⟨rfl,n,rfl⟩
theorem take_eq_iff (p l:List UInt8):(l.take p.length=p∧p.length≤l.length)↔p.isPrefixOf l=true:=by
 rw [List.isPrefixOf_iff_prefix,List.prefix_iff_eq_take]
 constructor
 ·rintro ⟨h,_⟩;exact h.symm
 ·intro h;exact ⟨h.symm,by have:=congrArg List.length h;simp at this;omega⟩
theorem beq_bs (a b:List UInt8):((bs a).toList == (bs b).toList)=decide (a=b):=by
 rw [bs_toList,bs_toList]
 by_cases h:a=b
 ·simp [h]
 ·simp [h]
theorem hasPrefix_any (l p:List UInt8) (w:World) (_hl:l.length≤9223372036854775807) (hp:p.length≤9223372036854775807) :
  Calls Tryz.prog 280 #[.string (bs l),.string (bs p)] w fun e w'=>e=.returned (.bool (p.isPrefixOf l))∧w'=w:=by
 have z1:(bs l).size=l.length:=rfl
 have z2:(bs p).size=p.length:=rfl
 by_cases h:p.length≤l.length
 ·have c1:(p.length:Int)≤(l.length:Int):=by omega
  have c2:(0:Int)≤(p.length:Int):=by omega
  have HE:Hid ((bs l).extract 0 p.length=bs (l.take p.length)):=extract_to l p.length
  have e0:p.isPrefixOf l=decide (l.take p.length=p):=by
   by_cases h2:l.take p.length=p
   ·rw [(take_eq_iff p l).1 ⟨h2,h⟩];simp [h2]
   ·have:¬ (p.isPrefixOf l=true):=fun h3=>h2 ((take_eq_iff p l).2 h3).1
    simp only [Bool.not_eq_true] at this
    rw [this];simp [h2]
  rw [e0]
  have HB:Hid ((((bs l).extract 0 p.length).toList == (bs p).toList)=decide (l.take p.length=p)):=by
   show (_ == _)=_
   rw [HE.out];exact beq_bs _ _
  clear e0
  go_enter Tryz.func280,Tryz.ntmps280
  go_wp2_with fail
  go_ret
  refine ⟨?_,rfl⟩
  rw [← HB.out];rfl
 ·have e0:p.isPrefixOf l=false:=by
   cases hh:p.isPrefixOf l
   ·rfl
   ·exact absurd ((take_eq_iff p l).2 hh).2 h
  rw [e0]
  have c1:¬ ((p.length:Int)≤(l.length:Int)):=by omega
  go_enter Tryz.func280,Tryz.ntmps280
  go_wp2_with fail
  go_ret
  exact ⟨rfl,rfl⟩
theorem cutPrefix0_any (l p:List UInt8) (w:World) (hl:l.length≤9223372036854775807) (hp:p.length≤9223372036854775807) :
  Calls Tryz.prog 253 #[.string (bs l),.string (bs p)] w fun e w'=>e=.returned (.tuple #[.string (bs (if p.isPrefixOf l then l.drop p.length else l)),.bool (p.isPrefixOf l)])∧w'=w:=by
 have HP:Hid (∀ w:World,Calls Tryz.prog 280 #[.string (bs l),.string (bs p)] w fun e w'=>e=.returned (.bool (p.isPrefixOf l))∧w'=w):=fun w=>hasPrefix_any l p w hl hp
 have z1:(bs l).size=l.length:=rfl
 have z2:(bs p).size=p.length:=rfl
 cases h:p.isPrefixOf l
 ·rw [h] at HP
  simp only [Bool.false_eq_true,if_false]
  go_enter Tryz.func253,Tryz.ntmps253
  go_wp2_with fail
  refine (HP.out _).mono ?_
  rintro e w1 ⟨rfl,rfl⟩
  go_wp2_with fail
  go_ret2
  exact ⟨rfl,rfl⟩
 ·rw [h] at HP
  have hle:=((take_eq_iff p l).2 h).2
  have c1:(p.length:Int)≤(l.length:Int):=by omega
  have c2:(0:Int)≤(p.length:Int):=by omega
  have HE:Hid ((bs l).extract p.length l.length=bs (l.drop p.length)):=extract_from l p.length
  simp only [if_true]
  go_enter Tryz.func253,Tryz.ntmps253
  go_wp2_with fail
  refine (HP.out _).mono ?_
  rintro e w1 ⟨rfl,rfl⟩
  go_wp2_with fail
  go_ret2
  refine ⟨?_,rfl⟩
  rw [← HE.out];rfl
theorem cutPrefix_any (l p:List UInt8) (w:World) (hl:l.length≤9223372036854775807) (hp:p.length≤9223372036854775807) :
  Calls Tryz.prog 221 #[.string (bs l),.string (bs p)] w fun e w'=>e=.returned (.tuple #[.string (bs (if p.isPrefixOf l then l.drop p.length else l)),.bool (p.isPrefixOf l)])∧w'=w:=by
 have HP:Hid (∀ w:World,Calls Tryz.prog 253 #[.string (bs l),.string (bs p)] w fun e w'=>e=.returned (.tuple #[.string (bs (if p.isPrefixOf l then l.drop p.length else l)),.bool (p.isPrefixOf l)])∧w'=w):=fun w=>cutPrefix0_any l p w hl hp
 generalize (if p.isPrefixOf l then l.drop p.length else l)=r at *
 generalize p.isPrefixOf l=b at *
 go_enter Tryz.func221,Tryz.ntmps221
 go_wp2_with fail
 refine (HP.out _).mono ?_
 rintro e w1 ⟨rfl,rfl⟩
 go_wp2_with fail
 go_ret2
 exact ⟨rfl,rfl⟩
theorem hasSuffix_any (l p:List UInt8) (w:World) (hl:l.length≤9223372036854775807) (hp:p.length≤9223372036854775807) :
  Calls Tryz.prog 281 #[.string (bs l),.string (bs p)] w fun e w'=>e=.returned (.bool (p.isSuffixOf l))∧w'=w:=by
 have z1:(bs l).size=l.length:=rfl
 have z2:(bs p).size=p.length:=rfl
 by_cases h:p.length≤l.length
 ·obtain ⟨n,hn⟩:∃ n,n=l.length - p.length:=⟨_,rfl⟩
  have c0:(l.length:Int) - (p.length:Int)=(n:Int):=by omega
  have c1:(p.length:Int)≤(l.length:Int):=by omega
  have c2:(0:Int)≤(n:Int):=by omega
  have c3:(n:Int)≤(l.length:Int):=by omega
  have HE:Hid ((bs l).extract n l.length=bs (l.drop n)):=extract_from l n
  have e0:p.isSuffixOf l=decide (l.drop n=p):=by
   subst hn
   by_cases h2:l.drop (l.length - p.length)=p
   ·rw [(suffix_iff p l).2 ⟨h,h2⟩];simp [h2]
   ·have:¬ (p.isSuffixOf l=true):=fun h3=>h2 ((suffix_iff p l).1 h3).2
    simp only [Bool.not_eq_true] at this
    rw [this];simp [h2]
  rw [e0]
  have HB:Hid ((((bs l).extract n l.length).toList == (bs p).toList)=decide (l.drop n=p)):=by
   show (_ == _)=_
   rw [HE.out];exact beq_bs _ _
  clear e0 hn
  go_enter Tryz.func281,Tryz.ntmps281
  go_wp2_with fail
  go_ret
  refine ⟨?_,rfl⟩
  rw [← HB.out];rfl
 ·have e0:p.isSuffixOf l=false:=by
   cases hh:p.isSuffixOf l
   ·rfl
   ·exact absurd ((suffix_iff p l).1 hh).1 h
  rw [e0]
  have c1:¬ ((p.length:Int)≤(l.length:Int)):=by omega
  go_enter Tryz.func281,Tryz.ntmps281
  go_wp2_with fail
  go_ret
  exact ⟨rfl,rfl⟩
theorem cutSuffix0_any (l p:List UInt8) (w:World) (hl:l.length≤9223372036854775807) (hp:p.length≤9223372036854775807) :
  Calls Tryz.prog 254 #[.string (bs l),.string (bs p)] w fun e w'=>e=.returned (.tuple #[.string (bs (if p.isSuffixOf l then l.take (l.length - p.length) else l)),.bool (p.isSuffixOf l)])∧w'=w:=by
 have HP:Hid (∀ w:World,Calls Tryz.prog 281 #[.string (bs l),.string (bs p)] w fun e w'=>e=.returned (.bool (p.isSuffixOf l))∧w'=w):=fun w=>hasSuffix_any l p w hl hp
 have z1:(bs l).size=l.length:=rfl
 have z2:(bs p).size=p.length:=rfl
 cases h:p.isSuffixOf l
 ·rw [h] at HP
  simp only [Bool.false_eq_true,if_false]
  go_enter Tryz.func254,Tryz.ntmps254
  go_wp2_with fail
  refine (HP.out _).mono ?_
  rintro e w1 ⟨rfl,rfl⟩
  go_wp2_with fail
  go_ret2
  exact ⟨rfl,rfl⟩
 ·rw [h] at HP
  have hle:=((suffix_iff p l).1 h).1
  obtain ⟨n,hn⟩:∃ n,n=l.length - p.length:=⟨_,rfl⟩
  have c0:(l.length:Int) - (p.length:Int)=(n:Int):=by omega
  have c2:(0:Int)≤(n:Int):=by omega
  have c3:(n:Int)≤(l.length:Int):=by omega
  rw [← hn]
  have HE:Hid ((bs l).extract 0 n=bs (l.take n)):=extract_to l n
  clear hn
  simp only [if_true]
  go_enter Tryz.func254,Tryz.ntmps254
  go_wp2_with fail
  refine (HP.out _).mono ?_
  rintro e w1 ⟨rfl,rfl⟩
  go_wp2_with fail
  go_ret2
  refine ⟨?_,rfl⟩
  rw [← HE.out];rfl
theorem cutSuffix_any (l p:List UInt8) (w:World) (hl:l.length≤9223372036854775807) (hp:p.length≤9223372036854775807) :
  Calls Tryz.prog 222 #[.string (bs l),.string (bs p)] w fun e w'=>e=.returned (.tuple #[.string (bs (if p.isSuffixOf l then l.take (l.length - p.length) else l)),.bool (p.isSuffixOf l)])∧w'=w:=by
 have HP:Hid (∀ w:World,Calls Tryz.prog 254 #[.string (bs l),.string (bs p)] w fun e w'=>e=.returned (.tuple #[.string (bs (if p.isSuffixOf l then l.take (l.length - p.length) else l)),.bool (p.isSuffixOf l)])∧w'=w):=fun w=>cutSuffix0_any l p w hl hp
 generalize (if p.isSuffixOf l then l.take (l.length - p.length) else l)=r at *
 generalize p.isSuffixOf l=b at *
 go_enter Tryz.func222,Tryz.ntmps222
 go_wp2_with fail
 refine (HP.out _).mono ?_
 rintro e w1 ⟨rfl,rfl⟩
 go_wp2_with fail
 go_ret2
 exact ⟨rfl,rfl⟩
end
section
open Go.RowKit
def Lb.val (l:Lb):Value:=.agg #[.string (bs l.pkg),.string (bs l.name)]
theorem st23:Tryz.prog.underlying 27=some (.struct (Tryz.prog.fieldsOf 27)):=by kernel_rfl
theorem held23:Tryz.prog.stoodInHeld 27=false:=by kernel_rfl
theorem guard23:Tryz.prog.eqGuardType Tryz.prog.depth 27=false:=by kernel_rfl
theorem flds23 : (Tryz.prog.fieldsOf 27).toList.map (fun f => (f.name, f.type, f.offset)) = [("Pkg", 9, 0), ("Name", 9, 1)] := by kernel_rfl
theorem equal_run (w:World) (p t p' t':List UInt8) :
  (Op.equalIn 10000 27 (.agg #[.string (bs p),.string (bs t)]) (.agg #[.string (bs p'),.string (bs t')])).run Tryz.prog w=.ok (decide ((⟨p,t⟩:Lb)=⟨p',t'⟩)) w:=by
 rw [run_equalIn_struct w 9999 27 _ _ st23 held23]
 have h:=flds23
 revert h
 generalize (Tryz.prog.fieldsOf 27).toList=L
 intro h
 have hl:L.length=2:=by have:=congrArg List.length h;simpa using this
 obtain ⟨f0,f1,rfl⟩:∃ f0 f1,L=[f0,f1]:=by
  rcases L with _ | ⟨f0,_ | ⟨f1,_ | ⟨f2,r⟩⟩⟩
  ·simp at hl
  ·simp at hl
  ·exact ⟨f0,f1,rfl⟩
  ·simp at hl
 ·simp only [List.map_cons,List.map_nil,List.cons.injEq,Prod.mk.injEq,and_true] at h
  obtain ⟨⟨n0,t0,o0⟩,⟨n1,t1,o1⟩⟩:=h
  have e9:∀ (a c:List UInt8) (w:World),(Op.equalIn 9999 9 (.string (bs a)) (.string (bs c))).run Tryz.prog w=.ok (a == c) w:=fun a c w=>by
   have:=run_equalIn_string (P:=Tryz.prog) w 9998 9 (bs a) (bs c) u9
   rw [bs_toList,bs_toList] at this;exact this
  simp only [Op.eqFields,n0,n1,t0,t1,o0,o1]
  have g0 : ("Pkg" : String) ≠ "_" := by decide
  have g1 : ("Name" : String) ≠ "_" := by decide
  simp only [g0,g1,ne_eq,not_false_eq_true,if_true,part,Sem.run_bind,agg9,Result.andThen_ok,Bool.false_eq_true,if_false]
  simp [e9]
  by_cases hp:p=p'<;>by_cases ht:t=t'<;>simp [hp,ht]
theorem eql_run (w:World) (p t p' t':List UInt8) :
  (binOp .eql 27 (.agg #[.string (bs p),.string (bs t)]) (.agg #[.string (bs p'),.string (bs t')])).run Tryz.prog w=.ok (.bool (decide ((⟨p,t⟩:Lb)=⟨p',t'⟩))) w:=by
 rw [run_eql_struct,equal_run];rfl
theorem guard_run (w:World) (op:BinOp) (x y:Operand) (xs ys:Array Value):(eqGuard op 27 x y (.agg xs) (.agg ys)).run Tryz.prog w=.ok () w:=run_eqGuard_agg w op 27 x y xs ys guard23
theorem results_ct {P:Program} {fn:Func} {p u:Tmp} {ty:TypeId} (h:fn.results = #[.cell p ty,.tmp u]) (tmps:Array Value) (w:World) (g:Nat) (t:TypeId) (cs:Array Value) (fr:Nat×Nat) (d:TypeDesc)
  (hp:tmps.getD p undef=.pointer (some ⟨g,0,none⟩)) (hg:w.heap[g]? = some (.cells cs t fr))
  (hu:P.underlying ty=some d) (hd:(match d with | .struct _ | .array _ _=>true | _=>false)=true) (hi:(P.info? ty).map (·.size)=some cs.size) :
  (results fn tmps).run P w=.ok (.tuple #[.agg cs,tmps.getD u undef]) w:=by
 rw [results_cell_tmp h]
 rw [hp]
 simp only [asAddr,Sem.run_pure,Result.andThen_ok]
 rw [run_loadVar_row w g t ty cs fr d hg hu hd hi]
 rfl
theorem heap_setCell (w:World) (g i:Nat) (v:Value) {cur:Array Value} {e:TypeId} {fr:Nat×Nat} (h:w.heap[g]? = some (.cells cur e fr)) :
  (w.setCell ⟨g,i,none⟩ v).heap[g]? = some (.cells (cur.setIfInBounds i v) e fr):=by
 simp [World.setCell,Array.getElem?_modify,h]
structure RB (w:World) (g:Nat) (l:Lb):Prop where
 blk:w.heap[g]? = some (.cells #[.string (bs l.pkg),.string (bs l.name)] 27 (0,0))
theorem RB.lt {w:World} {g:Nat} {f:Lb} (h:RB w g f):g < w.heap.size:=(Array.getElem?_eq_some_iff.1 h.blk).1
theorem RB.below {w w':World} {g:Nat} {f:Lb} {B:Nat} (h:RB w g f) (hb:Below B w w') (hg:g < B):RB w' g f:=⟨(hb.block g hg).trans h.blk⟩
theorem RB.later {w w':World} {g:Nat} {f:Lb} (h:RB w g f) (hb:Below w.heap.size w w'):RB w' g f:=h.below hb h.lt
theorem RB.new (w:World) (f:Lb):RB (w.alloc (.cells #[.string (bs f.pkg),.string (bs f.name)] 27)) w.heap.size f:=⟨heap_alloc_new _ _⟩
theorem RB.cells {w:World} {g:Nat} {f:Lb} (h:RB w g f):w.cell? ⟨g,0,none⟩=some (.string (bs f.pkg))∧w.cell? ⟨g,1,none⟩=some (.string (bs f.name))∧
  w.frozen? ⟨g,0,none⟩=false∧w.frozen? ⟨g,1,none⟩=false:=by
 have hb:=h.blk
 exact ⟨by simp [World.cell?,hb],by simp [World.cell?,hb],by simp [World.frozen?,hb],by simp [World.frozen?,hb]⟩
theorem RB.set {w:World} {g:Nat} {f:Lb} (h:RB w g f) (k:Lb) :
  RB ((w.setCell ⟨g,0,none⟩ (.string (bs k.pkg))).setCell ⟨g,1,none⟩ (.string (bs k.name))) g k:=by
 refine ⟨?_⟩
 rw [heap_setCell _ _ _ _ (heap_setCell _ _ _ _ h.blk)]
 simp
theorem bset2 {B:Nat} {w w':World} {g:Nat} (hb:Below B w w') (hg:B≤g) (a b:Value) :
  Below B w ((w'.setCell ⟨g,0,none⟩ a).setCell ⟨g,1,none⟩ b):=
 (hb.setCell (p:=⟨g,0,none⟩) hg _).setCell (p:=⟨g,1,none⟩) hg _
structure Lm (l:Lb):Prop where
 pkg:l.pkg.length≤1125899906842624
 name:l.name.length≤1125899906842624
theorem lvalid_any (l:Lb) (w:World) (hl:Lm l):Calls Tryz.prog 49 #[l.val] w fun e w'=>e=.returned (.bool (okL l))∧Below w.heap.size w w':=by
 obtain ⟨p,n⟩:=l
 have h1:=hl.pkg
 have h2:=hl.name
 simp only at h1 h2
 have HV:Hid (∀ w:World,Calls Tryz.prog 83 #[.string (bs p)] w fun e w'=>e=.returned (.bool (okP p))∧Below w.heap.size w w'):=fun w=>valid_any p w (by omega)
 have HC:Hid (∀ w:World,Calls Tryz.prog 84 #[.string (bs n)] w fun e w'=>e=.returned (.bool (okC n))∧w'=w):=fun w=>component_any n w (by omega)
 clear h1 h2 hl
 simp only [Lb.val,okL]
 have hR:=RB.new w ⟨p,n⟩
 cases hp:okP p
 ·rw [hp] at HV
  go_enter Tryz.func49,Tryz.ntmps49
  go_wp2_with fail
  refine (HV.out _).mono ?_
  rintro e w1 ⟨rfl,hb1⟩
  have HB:Hid (Below w.heap.size w w1):=bstep (balloc w _) hb1
  clear hb1
  go_wp2_with fail
  go_ret
  exact ⟨rfl,HB.out⟩
 ·rw [hp] at HV
  have HRR:Hid (RB (w.alloc (.cells #[.string (bs p),.string (bs n)] 27)) w.heap.size ⟨p,n⟩):=hR
  clear hR
  go_enter Tryz.func49,Tryz.ntmps49
  go_wp2_with fail
  refine (HV.out _).mono ?_
  rintro e w1 ⟨rfl,hb1⟩
  obtain ⟨c0,c1,_,_⟩:=(HRR.out.later hb1).cells
  simp only at c0 c1
  have HB:Hid (Below w.heap.size w w1):=bstep (balloc w _) hb1
  clear hb1
  go_wp2_with fail
  refine (HC.out _).mono ?_
  rintro e w2 ⟨rfl,rfl⟩
  go_wp2_with fail
  go_ret
  exact ⟨rfl,HB.out⟩
theorem bs_app (a b:List UInt8):bs a++bs b=bs (a++b):=by
 apply ByteArray.ext
 simp [bs,ByteArray.data_append]
def pair (x:Lb×Int):Value:=.tuple #[x.1.val,.int .i64 x.2]
theorem checked_any (l:Lb) (w:World) (hl:Lm l):Calls Tryz.prog 296 #[l.val] w fun e w'=>e=.returned (pair (chk l))∧Below w.heap.size w w':=by
 have HV:Hid (∀ w:World,Calls Tryz.prog 49 #[l.val] w fun e w'=>e=.returned (.bool (okL l))∧Below w.heap.size w w'):=fun w=>lvalid_any l w hl
 obtain ⟨p,n⟩:=l
 clear hl
 simp only [Lb.val] at HV ⊢
 have HZ:Hid (RB ((w.alloc (.cells #[.string (bs p),.string (bs n)] 27)).alloc (.cells #[.string (bs []),.string (bs [])] 27)) (w.heap.size+1) zl):=by
  show RB _ _ zl
  have:=RB.new (w.alloc (.cells #[.string (bs p),.string (bs n)] 27)) zl
  simpa [zl] using this
 have HR:Hid (RB ((w.alloc (.cells #[.string (bs p),.string (bs n)] 27)).alloc (.cells #[.string (bs []),.string (bs [])] 27)) w.heap.size ⟨p,n⟩):=(RB.new w ⟨p,n⟩).later (balloc _ _)
 have HB0:Hid (Below w.heap.size w ((w.alloc (.cells #[.string (bs p),.string (bs n)] 27)).alloc (.cells #[.string (bs []),.string (bs [])] 27))):=bstep (balloc w _) (balloc _ _)
 unfold chk
 cases hk:okL ⟨p,n⟩
 ·rw [hk] at HV
  simp only [Bool.false_eq_true,if_false]
  go_enter Tryz.func296,Tryz.ntmps296
  go_wp2_with fail
  refine (HV.out _).mono ?_
  rintro e w1 ⟨rfl,hb1⟩
  have Z1:Hid (RB w1 (w.heap.size+1) zl):=HZ.out.later hb1
  have HB:Hid (Below w.heap.size w w1):=bstep HB0.out hb1
  obtain ⟨c0,c1,f0,f1⟩:=Z1.out.cells
  have hlt:=Z1.out.lt
  clear hb1
  go_wp2_with fail
  refine bodyPost_ret (results_ct rfl _ _ (w.heap.size+1) 27 #[.string (bs []),.string (bs [])] (0,0) _ rfl ?_ Tryz.underlying27 rfl (by kernel_rfl)) rfl ?_
  ·exact (Z1.out.set zl).blk
  exact ⟨rfl,bset2 HB.out (by omega) _ _⟩
 ·rw [hk] at HV
  simp only [if_true]
  go_enter Tryz.func296,Tryz.ntmps296
  go_wp2_with fail
  refine (HV.out _).mono ?_
  rintro e w1 ⟨rfl,hb1⟩
  have Z1:Hid (RB w1 (w.heap.size+1) zl):=HZ.out.later hb1
  have HB:Hid (Below w.heap.size w w1):=bstep HB0.out hb1
  obtain ⟨c0,c1,f0,f1⟩:=Z1.out.cells
  obtain ⟨d0,d1,_,_⟩:=(HR.out.later hb1).cells
  simp only at d0 d1
  have hlt:=Z1.out.lt
  clear hb1
  go_wp2_with fail
  refine bodyPost_ret (results_ct rfl _ _ (w.heap.size+1) 27 #[.string (bs p),.string (bs n)] (0,0) _ rfl ?_ Tryz.underlying27 rfl (by kernel_rfl)) rfl ?_
  ·exact (Z1.out.set ⟨p,n⟩).blk
  exact ⟨rfl,bset2 HB.out (by omega) _ _⟩
theorem lparse_any (s:List UInt8) (w:World) (hs:s.length≤1125899906842624):Calls Tryz.prog 297 #[.string (bs s)] w fun e w'=>e=.returned (pair (prs s))∧Below w.heap.size w w':=by
 have HP:Hid (∀ w:World,Calls Tryz.prog 221 #[.string (bs s),.string (bs [47,47])] w fun e w'=>e=.returned (.tuple #[.string (bs (if [47,47].isPrefixOf s then s.drop 2 else s)),.bool ([47,47].isPrefixOf s)])∧w'=w):=fun w=>cutPrefix_any s [47,47] w (by omega) (by simp)
 have HZ:Hid (RB (w.alloc (.cells #[.string (bs []),.string (bs [])] 27)) w.heap.size zl):=RB.new w zl
 unfold prs
 cases hp:List.isPrefixOf [47,47] s
 ·rw [hp] at HP
  simp only [Bool.false_eq_true,if_false] at HP ⊢
  clear hs
  go_enter Tryz.func297,Tryz.ntmps297
  go_wp2_with fail
  refine (HP.out _).mono ?_
  rintro e w1 ⟨rfl,rfl⟩
  obtain ⟨c0,c1,f0,f1⟩:=HZ.out.cells
  go_wp2_with fail
  refine bodyPost_ret (results_ct rfl _ _ w.heap.size 27 #[.string (bs []),.string (bs [])] (0,0) _ rfl ?_ Tryz.underlying27 rfl (by kernel_rfl)) rfl ?_
  ·exact HZ.out.blk
  exact ⟨rfl,balloc _ _⟩
 ·rw [hp] at HP
  simp only [if_true] at HP ⊢
  obtain ⟨r,hr⟩:∃ r,s.drop 2=r:=⟨_,rfl⟩
  have hrl:r.length≤1125899906842624:=by rw [← hr];simp;omega
  rw [hr] at HP ⊢
  have q1:=c_hd_le r
  have q2:=c_tl_le r
  have HC:Hid (∀ w:World,Calls Tryz.prog 151 #[.string (bs r),.string (bs [58])] w fun e w'=>e=.returned (.tuple #[.string (bs (chd r)),.string (bs (ctl r)),.bool (csl r)])∧∃ n,w'=w.drewN n):=fun w=>c_cut_any r w (by omega)
  have HK:Hid (∀ w:World,Calls Tryz.prog 296 #[.agg #[.string (bs (chd r)),.string (bs (ctl r))]] w fun e w'=>e=.returned (pair (chk ⟨chd r,ctl r⟩))∧Below w.heap.size w w'):=fun w=>checked_any ⟨chd r,ctl r⟩ w ⟨by simp only;omega,by simp only;omega⟩
  generalize chk ⟨chd r,ctl r⟩=K at *
  clear q1 q2 hrl hr hs hp
  obtain ⟨⟨kp,kn⟩,ke⟩:=K
  simp only [pair,Lb.val] at HK ⊢
  go_enter Tryz.func297,Tryz.ntmps297
  go_wp2_with fail
  refine (HP.out _).mono ?_
  rintro e w1 ⟨rfl,rfl⟩
  go_wp2_with fail
  refine (HC.out _).mono ?_
  rintro e w1 ⟨rfl,m,rfl⟩
  go_wp2_with fail
  refine (HK.out _).mono ?_
  rintro e w1 ⟨rfl,hb1⟩
  have hb2:=bstep (bd (w.alloc (.cells #[.string (bs []),.string (bs [])] 27)) m) hb1
  have Z1:Hid (RB w1 w.heap.size zl):=HZ.out.later hb2
  have HB:Hid (Below w.heap.size w w1):=bstep (balloc w _) hb2
  obtain ⟨c0,c1,f0,f1⟩:=Z1.out.cells
  have hlt:=Z1.out.lt
  clear hb1 hb2
  go_wp2_with fail
  refine bodyPost_ret (results_ct rfl _ _ w.heap.size 27 #[.string (bs kp),.string (bs kn)] (0,0) _ rfl ?_ Tryz.underlying27 rfl (by kernel_rfl)) rfl ?_
  ·exact (Z1.out.set ⟨kp,kn⟩).blk
  exact ⟨rfl,bset2 HB.out (by omega) _ _⟩
theorem lin_any (p s:List UInt8) (w:World) (hpl:p.length≤1125899906842624) (hs:s.length≤1125899906842624):Calls Tryz.prog 292 #[.string (bs p),.string (bs s)] w fun e w'=>e=.returned (pair (inn p s))∧Below w.heap.size w w':=by
 have HV:Hid (∀ w:World,Calls Tryz.prog 83 #[.string (bs p)] w fun e w'=>e=.returned (.bool (okP p))∧Below w.heap.size w w'):=fun w=>valid_any p w (by omega)
 have HP:Hid (∀ w:World,Calls Tryz.prog 221 #[.string (bs s),.string (bs [58])] w fun e w'=>e=.returned (.tuple #[.string (bs (if [58].isPrefixOf s then s.drop 1 else s)),.bool ([58].isPrefixOf s)])∧w'=w):=fun w=>cutPrefix_any s [58] w (by omega) (by simp)
 have HZ:Hid (RB (w.alloc (.cells #[.string (bs []),.string (bs [])] 27)) w.heap.size zl):=RB.new w zl
 unfold inn
 cases hv:okP p
 ·rw [hv] at HV
  simp only [Bool.false_eq_true,if_false]
  clear hs hpl
  go_enter Tryz.func292,Tryz.ntmps292
  go_wp2_with fail
  refine (HV.out _).mono ?_
  rintro e w1 ⟨rfl,hb1⟩
  have Z1:Hid (RB w1 w.heap.size zl):=HZ.out.later hb1
  have HB:Hid (Below w.heap.size w w1):=bstep (balloc w _) hb1
  obtain ⟨c0,c1,f0,f1⟩:=Z1.out.cells
  have hlt:=Z1.out.lt
  clear hb1
  go_wp2_with fail
  refine bodyPost_ret (results_ct rfl _ _ w.heap.size 27 #[.string (bs []),.string (bs [])] (0,0) _ rfl ?_ Tryz.underlying27 rfl (by kernel_rfl)) rfl ?_
  ·exact (Z1.out.set zl).blk
  exact ⟨rfl,bset2 HB.out (by omega) _ _⟩
 ·rw [hv] at HV
  simp only [if_true]
  cases hp:List.isPrefixOf [58] s
  ·rw [hp] at HP
   simp only [Bool.false_eq_true,if_false] at HP ⊢
   have HK:Hid (∀ w:World,Calls Tryz.prog 297 #[.string (bs s)] w fun e w'=>e=.returned (pair (prs s))∧Below w.heap.size w w'):=fun w=>lparse_any s w hs
   generalize prs s=K at *
   obtain ⟨⟨kp,kn⟩,ke⟩:=K
   simp only [pair,Lb.val] at HK ⊢
   clear hs hpl
   go_enter Tryz.func292,Tryz.ntmps292
   go_wp2_with fail
   refine (HV.out _).mono ?_
   rintro e w1 ⟨rfl,hb1⟩
   have Z1:Hid (RB w1 w.heap.size zl):=HZ.out.later hb1
   have HB:Hid (Below w.heap.size w w1):=bstep (balloc w _) hb1
   clear hb1
   go_wp2_with fail
   refine (HP.out _).mono ?_
   rintro e w2 ⟨rfl,rfl⟩
   go_wp2_with fail
   refine (HK.out _).mono ?_
   rintro e w3 ⟨rfl,hb2⟩
   have Z2:Hid (RB w3 w.heap.size zl):=Z1.out.later hb2
   have HB2:Hid (Below w.heap.size w w3):=bstep HB.out hb2
   obtain ⟨c0,c1,f0,f1⟩:=Z2.out.cells
   have hlt:=Z2.out.lt
   clear hb2
   go_wp2_with fail
   refine bodyPost_ret (results_ct rfl _ _ w.heap.size 27 #[.string (bs kp),.string (bs kn)] (0,0) _ rfl ?_ Tryz.underlying27 rfl (by kernel_rfl)) rfl ?_
   ·exact (Z2.out.set ⟨kp,kn⟩).blk
   exact ⟨rfl,bset2 HB2.out (by omega) _ _⟩
  ·rw [hp] at HP
   simp only [if_true] at HP ⊢
   obtain ⟨r,hr⟩:∃ r,s.drop 1=r:=⟨_,rfl⟩
   have hrl:r.length≤1125899906842624:=by rw [← hr];simp;omega
   rw [hr] at HP ⊢
   have HK:Hid (∀ w:World,Calls Tryz.prog 296 #[.agg #[.string (bs p),.string (bs r)]] w fun e w'=>e=.returned (pair (chk ⟨p,r⟩))∧Below w.heap.size w w'):=fun w=>checked_any ⟨p,r⟩ w ⟨hpl,hrl⟩
   generalize chk ⟨p,r⟩=K at *
   obtain ⟨⟨kp,kn⟩,ke⟩:=K
   simp only [pair,Lb.val] at HK ⊢
   clear hs hpl hrl hr hp
   go_enter Tryz.func292,Tryz.ntmps292
   go_wp2_with fail
   refine (HV.out _).mono ?_
   rintro e w1 ⟨rfl,hb1⟩
   have Z1:Hid (RB w1 w.heap.size zl):=HZ.out.later hb1
   have HB:Hid (Below w.heap.size w w1):=bstep (balloc w _) hb1
   clear hb1
   go_wp2_with fail
   refine (HP.out _).mono ?_
   rintro e w2 ⟨rfl,rfl⟩
   go_wp2_with fail
   refine (HK.out _).mono ?_
   rintro e w3 ⟨rfl,hb2⟩
   have Z2:Hid (RB w3 w.heap.size zl):=Z1.out.later hb2
   have HB2:Hid (Below w.heap.size w w3):=bstep HB.out hb2
   obtain ⟨c0,c1,f0,f1⟩:=Z2.out.cells
   have hlt:=Z2.out.lt
   clear hb2
   go_wp2_with fail
   refine bodyPost_ret (results_ct rfl _ _ w.heap.size 27 #[.string (bs kp),.string (bs kn)] (0,0) _ rfl ?_ Tryz.underlying27 rfl (by kernel_rfl)) rfl ?_
   ·exact (Z2.out.set ⟨kp,kn⟩).blk
   exact ⟨rfl,bset2 HB2.out (by omega) _ _⟩
end
def inW (c:UInt8):Bool:=(decide (97≤c) && decide (c≤122)) || (decide (65≤c) && decide (c≤90)) || (decide (48≤c) && decide (c≤57)) || [46,95,47,42,58,45].contains c
def isB (c:UInt8):Bool:=c == 9 || c == 10 || c == 13 || c == 32
def mkd (c:UInt8):Nat:=
 if c=123 then 2 else if c=125 then 3 else if c=91 then 4 else if c=93 then 5 else if c=44 then 6 else if c=61 then 7 else 0
def kd (c:UInt8):Nat:=if inW c then 1 else mkd c
def gp:Bool→List UInt8→Nat
 | _,[]=>0
 | true,c::r=>1+gp (c != 10) r
 | false,c::r=>if c == 35 then 1+gp true r else if isB c then 1+gp false r else 0
def blk:Bool→List UInt8→Bool×Bool
 | cm,[]=>(true,cm)
 | true,c::r=>blk (c != 10) r
 | false,c::r=>if c == 35 then blk true r else if isB c then blk false r else (false,false)
def wl:List UInt8→Nat
 | []=>0
 | c::r=>if inW c then 1+wl r else 0
def ktl (c:UInt8) (r:List UInt8):Nat:=if inW c then wl r else 0
theorem gp_le:∀ (b:Bool) (r:List UInt8),gp b r≤r.length
 | true,[]=>by simp [gp]
 | false,[]=>by simp [gp]
 | true,c::r=>by have:=gp_le (c != 10) r;simp only [gp,List.length_cons];omega
 | false,c::r=>by
  have h1:=gp_le true r
  have h2:=gp_le false r
  simp only [gp,List.length_cons]
  split
  ·omega
  ·split<;>omega
theorem wl_le:∀ r:List UInt8,wl r≤r.length
 | []=>by simp [wl]
 | c::r=>by
  have h1:=wl_le r
  simp only [wl,List.length_cons]
  split<;>omega
theorem ktl_le (c:UInt8) (r:List UInt8):ktl c r≤r.length:=by
 have:=wl_le r
 unfold ktl
 split<;>omega
structure Tk where
 kind:Int
 text:List UInt8
 at':Int
  deriving DecidableEq
def tq (r:List UInt8) (n:Nat):List Tk×Int:=
 match r with
 | []=>([],-1)
 | c::q=>if kd c=0 then ([],(n:Int)) else
  (⟨(kd c:Int),c::q.take (ktl c q),(n:Int)⟩::(tq ((q.drop (ktl c q)).drop (gp false (q.drop (ktl c q)))) (n+1+ktl c q+gp false (q.drop (ktl c q)))).1,
   (tq ((q.drop (ktl c q)).drop (gp false (q.drop (ktl c q)))) (n+1+ktl c q+gp false (q.drop (ktl c q)))).2)
 termination_by r.length
 decreasing_by all_goals (simp only [List.length_drop,List.length_cons];omega)
def tg (r:List UInt8) (n:Nat):List Tk×Int:=tq (r.drop (gp false r)) (n+gp false r)
def toks (s:List UInt8):List Tk×Int:=tg s 0
theorem tq_nil (n:Nat):tq [] n=([],-1):=by rw [tq]
theorem tq_bad {c:UInt8} {q:List UInt8} {n:Nat} (h:kd c=0):tq (c::q) n=([],(n:Int)):=by rw [tq,if_pos h]
theorem tq_tok {c:UInt8} {q:List UInt8} {n:Nat} (h:kd c≠0):tq (c::q) n=(⟨(kd c:Int),c::q.take (ktl c q),(n:Int)⟩::(tg (q.drop (ktl c q)) (n+1+ktl c q)).1,(tg (q.drop (ktl c q)) (n+1+ktl c q)).2):=by
 rw [tq,if_neg h];rfl
theorem gp_blank {c:UInt8} {r:List UInt8} (h:isB c=true):gp false (c::r)=1+gp false r:=by
 rw [gp]
 have:(c == 35)=false:=by
  simp only [isB,Bool.or_eq_true,beq_iff_eq] at h
  rcases h with ((rfl | rfl) | rfl) | rfl<;>decide
 rw [this,if_neg (by simp),if_pos h]
def xcl:List UInt8→Nat
 | []=>0
 | c::r=>if c == 10 then 0 else 1+xcl r
theorem cl_le:∀ r:List UInt8,xcl r≤r.length
 | []=>by simp [xcl]
 | c::r=>by
  have h1:=cl_le r
  simp only [xcl,List.length_cons]
  split<;>omega
theorem gp_true:∀ r:List UInt8,gp true r=xcl r+gp false (r.drop (xcl r))
 | []=>by simp [gp,xcl]
 | c::r=>by
  rw [gp,xcl]
  by_cases h:(c == 10)=true
  ·have e:c=10:=by simpa using h
   subst e
   rw [if_pos (by decide)]
   rw [show ((10:UInt8) != 10)=false by decide]
   simp only [List.drop_zero,Nat.zero_add]
   rw [gp_blank (by decide)]
  ·rw [if_neg h]
   have e:(c != 10)=true:=by simpa using h
   rw [e,gp_true r,Nat.add_comm 1 (xcl r),List.drop_succ_cons];omega
theorem gp_other {c:UInt8} {r:List UInt8} (h1:c≠35) (h2:isB c=false):gp false (c::r)=0:=by
 rw [gp,if_neg (by simpa using h1),if_neg (by simp [h2])]
theorem u8_all {P:UInt8→Prop} (h:∀ n:Fin 256,P (UInt8.ofFin n)) (c:UInt8):P c:=h c.toFin
theorem kd_word {c:UInt8} (h:inW c=true):kd c=1:=by unfold kd;rw [if_pos h]
section
open Go.RowKit
theorem indexByte0_any (l:List UInt8) (c:UInt8) (w:World) :
  Calls Tryz.prog 228 #[.string (bs l),.int .u8 c.toNat] w fun e w'=>e=.returned (.int .i64 (Lib.indexByte l c))∧w'=w:=by
 have hc:((c.toNat:Int)).toNat.toUInt8=c:=by simp
 go_enter Tryz.func228,Tryz.ntmps228
 go_wp2
 rw [run_callFunc_extern Tryz.func258 (by kernel_rfl) (by kernel_rfl) (by kernel_rfl) (e:=Extern.BytealgIndexByte.indexByte) (by kernel_rfl),Lib.run_indexByteString,hc]
 simp only [Result.andThen]
 rw [Oper.upon_value]
 go_wp2
 go_ret
 exact ⟨rfl,rfl⟩
theorem xindexByte_any (l:List UInt8) (c:UInt8) (w:World) :
  Calls Tryz.prog 268 #[.string (bs l),.int .u8 c.toNat] w fun e w'=>e=.returned (.int .i64 (Lib.indexByte l c))∧w'=w:=by
 go_enter Tryz.func268,Tryz.ntmps268
 go_wp2_with fail
 refine (indexByte0_any _ _ _).mono ?_
 rintro e w1 ⟨rfl,rfl⟩
 go_wp2_with fail
 go_ret
 exact ⟨rfl,rfl⟩
theorem idx_joints (c:UInt8):decide (0≤Lib.indexByte [46,95,47,42,58,45] c)=[46,95,47,42,58,45].contains c:=
 u8_all (P:=fun c=>decide (0≤Lib.indexByte [46,95,47,42,58,45] c)=[46,95,47,42,58,45].contains c) (by decide +kernel) c
theorem idx_marks (c:UInt8):(0≤Lib.indexByte [123,125,91,93,44,61] c→2+Lib.indexByte [123,125,91,93,44,61] c=(mkd c:Int))∧(¬ 0≤Lib.indexByte [123,125,91,93,44,61] c→mkd c=0)∧Lib.indexByte [123,125,91,93,44,61] c < 6:=
 u8_all (P:=fun c=>(0≤Lib.indexByte [123,125,91,93,44,61] c→2+Lib.indexByte [123,125,91,93,44,61] c=(mkd c:Int))∧(¬ 0≤Lib.indexByte [123,125,91,93,44,61] c→mkd c=0)∧Lib.indexByte [123,125,91,93,44,61] c < 6) (by decide +kernel) c
theorem inW_nat (c:UInt8):inW c=((decide (97≤c.toNat) && decide (c.toNat≤122)) || (decide (65≤c.toNat) && decide (c.toNat≤90)) || (decide (48≤c.toNat) && decide (c.toNat≤57)) || [46,95,47,42,58,45].contains c):=
 u8_all (P:=fun c=>inW c=((decide (97≤c.toNat) && decide (c.toNat≤122)) || (decide (65≤c.toNat) && decide (c.toNat≤90)) || (decide (48≤c.toNat) && decide (c.toNat≤57)) || [46,95,47,42,58,45].contains c)) (by decide +kernel) c
theorem at_eq {l:List UInt8} {k:Nat} {c:UInt8} (h:k < l.length) (hc:l[k]=c):((((bs l)[k]'(show k < (bs l).size from h)).toNat:Int) == (c.toNat:Int))=true:=by
 rw [bs_get _ _ _ h,hc];simp
theorem at_ne {l:List UInt8} {k:Nat} {c:UInt8} (h:k < l.length) (hc:l[k]≠c):((((bs l)[k]'(show k < (bs l).size from h)).toNat:Int) == (c.toNat:Int))=false:=by
 rw [bs_get _ _ _ h,beq_eq_false_iff_ne];intro e;apply hc;apply UInt8.toNat_inj.1;exact Int.ofNat.inj e
theorem inWord_any (c:UInt8) (w:World) :
  Calls Tryz.prog 267 #[.int .u8 c.toNat] w fun e w'=>e=.returned (.bool (inW c))∧w'=w:=by
 obtain ⟨r,hr⟩:∃ r,inW c=r:=⟨_,rfl⟩
 rw [hr]
 rw [inW_nat] at hr
 obtain ⟨n,hn⟩:∃ n,c.toNat=n:=⟨_,rfl⟩
 have HC:Hid (∀ w:World,Calls Tryz.prog 268 #[.string (bs [46,95,47,42,58,45]),.int .u8 c.toNat] w fun e w'=>e=.returned (.int .i64 (Lib.indexByte [46,95,47,42,58,45] c))∧w'=w):=fun w=>xindexByte_any _ c w
 rw [hn] at hr HC ⊢
 rw [← idx_joints] at hr
 obtain ⟨y,hy⟩:∃ y,Lib.indexByte [46,95,47,42,58,45] c=y:=⟨_,rfl⟩
 rw [hy] at HC hr
 clear hy
 obtain ⟨t,ht⟩:∃ t,decide (0≤y)=t:=⟨_,rfl⟩
 rw [ht] at hr
 have HR2:Hid (((decide (97≤n) && decide (n≤122)) || (decide (65≤n) && decide (n≤90)) || (decide (48≤n) && decide (n≤57)) || t)=r):=hr
 clear hr hn
 by_cases h1:97≤n∧n≤122
 ·obtain ⟨h1,h2⟩:=h1
  go_enter Tryz.func267,Tryz.ntmps267
  go_wp2_with fail
  go_ret
  exact ⟨by rw [← HR2.out];simp [h1,h2],rfl⟩
 by_cases h2:65≤n∧n≤90
 ·obtain ⟨h2,h3⟩:=h2
  have h4:¬ 97≤n:=by omega
  clear h1
  go_enter Tryz.func267,Tryz.ntmps267
  go_wp2_with fail
  go_ret
  exact ⟨by rw [← HR2.out];simp [h2,h3],rfl⟩
 by_cases h3:48≤n∧n≤57
 ·obtain ⟨h3,h4⟩:=h3
  have h5:¬ 97≤n:=by omega
  have h6:¬ 65≤n:=by omega
  clear h1 h2
  go_enter Tryz.func267,Tryz.ntmps267
  go_wp2_with fail
  go_ret
  exact ⟨by rw [← HR2.out];simp [h3,h4],rfl⟩
 have z:t=r:=by
  rw [← HR2.out]
  have e1:(decide (97≤n) && decide (n≤122))=false:=by simp;omega
  have e2:(decide (65≤n) && decide (n≤90))=false:=by simp;omega
  have e3:(decide (48≤n) && decide (n≤57))=false:=by simp;omega
  rw [e1,e2,e3];rfl
 subst z
 clear HR2
 by_cases p1:97≤n
 ·have q0:¬ n≤122:=by omega
  have q1:65≤n:=by omega
  have q2:¬ n≤90:=by omega
  have q3:48≤n:=by omega
  have q4:¬ n≤57:=by omega
  clear h1 h2 h3
  go_enter Tryz.func267,Tryz.ntmps267
  go_wp2_with fail
  refine (HC.out _).mono ?_
  rintro e w1 ⟨rfl,rfl⟩
  go_wp2_with fail
  go_ret
  exact ⟨by show Ending.returned (Value.bool _)=_;rw [decide_eq_false (by omega:¬ (n:Int)≤122),decide_eq_false (by omega:¬ (n:Int)≤90),decide_eq_false (by omega:¬ (n:Int)≤57)];rfl,rfl⟩
 by_cases p2:65≤n
 ·have q0:¬ n≤90:=by omega
  have q1:48≤n:=by omega
  have q2:¬ n≤57:=by omega
  clear h1 h2 h3
  go_enter Tryz.func267,Tryz.ntmps267
  go_wp2_with fail
  refine (HC.out _).mono ?_
  rintro e w1 ⟨rfl,rfl⟩
  go_wp2_with fail
  go_ret
  exact ⟨by show Ending.returned (Value.bool _)=_;rw [decide_eq_false (by omega:¬ (n:Int)≤90),decide_eq_false (by omega:¬ (n:Int)≤57)];rfl,rfl⟩
 by_cases p3:48≤n
 ·have q0:¬ n≤57:=by omega
  clear h1 h2 h3
  go_enter Tryz.func267,Tryz.ntmps267
  go_wp2_with fail
  refine (HC.out _).mono ?_
  rintro e w1 ⟨rfl,rfl⟩
  go_wp2_with fail
  go_ret
  exact ⟨by show Ending.returned (Value.bool _)=_;rw [decide_eq_false (by omega:¬ (n:Int)≤57)];rfl,rfl⟩
 clear h1 h2 h3
 go_enter Tryz.func267,Tryz.ntmps267
 go_wp2_with fail
 refine (HC.out _).mono ?_
 rintro e w1 ⟨rfl,rfl⟩
 go_wp2_with fail
 go_ret
 exact ⟨rfl,rfl⟩
theorem xkind_any (c:UInt8) (w:World):Calls Tryz.prog 243 #[.int .u8 c.toNat] w fun e w'=>e=.returned (.int .i64 (kd c:Nat))∧w'=w:=by
 have H1:Hid (∀ w:World,Calls Tryz.prog 267 #[.int .u8 c.toNat] w fun e w'=>e=.returned (.bool (inW c))∧w'=w):=fun w=>inWord_any c w
 have H2:Hid (∀ w:World,Calls Tryz.prog 268 #[.string (bs [123,125,91,93,44,61]),.int .u8 c.toNat] w fun e w'=>e=.returned (.int .i64 (Lib.indexByte [123,125,91,93,44,61] c))∧w'=w):=fun w=>xindexByte_any _ c w
 obtain ⟨i1,i2,i3⟩:=idx_marks c
 unfold kd
 cases hw:inW c
 ·rw [hw] at H1
  simp only [Bool.false_eq_true,if_false]
  generalize Lib.indexByte [123,125,91,93,44,61] c=y at *
  generalize mkd c=m at *
  clear hw
  by_cases hy:0≤y
  ·have e1:=i1 hy
   clear i1 i2
   have HE:Hid (2+y=(m:Int)):=e1
   clear e1
   go_enter Tryz.func243,Tryz.ntmps243
   go_wp2_with fail
   refine (H1.out _).mono ?_
   rintro e w1 ⟨rfl,rfl⟩
   go_wp2_with fail
   refine (H2.out _).mono ?_
   rintro e w1 ⟨rfl,rfl⟩
   go_wp2_with fail
   go_ret
   exact ⟨by rw [← HE.out];rfl,rfl⟩
  ·have e1:=i2 hy
   subst e1
   clear i1 i2
   go_enter Tryz.func243,Tryz.ntmps243
   go_wp2_with fail
   refine (H1.out _).mono ?_
   rintro e w1 ⟨rfl,rfl⟩
   go_wp2_with fail
   refine (H2.out _).mono ?_
   rintro e w1 ⟨rfl,rfl⟩
   go_wp2_with fail
   go_ret
   exact ⟨rfl,rfl⟩
 ·rw [hw] at H1
  simp only [if_true]
  clear i1 i2 i3 hw
  go_enter Tryz.func243,Tryz.ntmps243
  go_wp2_with fail
  refine (H1.out _).mono ?_
  rintro e w1 ⟨rfl,rfl⟩
  go_wp2_with fail
  go_ret
  exact ⟨rfl,rfl⟩
end
end Go.Proofs.YtppnbdnpapellaaGreatDoor
