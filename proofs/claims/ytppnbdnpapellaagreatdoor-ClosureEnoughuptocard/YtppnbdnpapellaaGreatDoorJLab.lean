import Derived.Test.YtppnbdnpapellaaGreatDoorJFil
import Derived.Laws.StructEq
import Derived.Deep.RegionHeld3
import Derived.BigQuiet
set_option maxRecDepth 100000
set_option maxHeartbeats 16000000
namespace Go.Proofs.YtppnbdnpapellaaGreatDoor
section
open Go.RowKit
def Fl.val (f:Fl):Value:=.agg #[.string (bs f.path),.string (bs f.text),.int .i64 f.blob,.int .i64 f.size]
def fc:List Fl→List Value
 | []=>[]
 | f::r=>.string (bs f.path)::.string (bs f.text)::.int .i64 f.blob::.int .i64 f.size::fc r
theorem fc_length:∀ l,(fc l).length=l.length * 4
 | []=>rfl
 | f::r=>by simp only [fc,List.length_cons,fc_length r];omega
theorem fc_append:∀ a b,fc (a++b)=fc a++fc b
 | [],b=>rfl
 | f::r,b=>by simp [fc,fc_append r b]
theorem fc_one:∀ (l:List Fl),∀ u∈fc l,u.oneCell'=true
 | [],u,h=>by simp [fc] at h
 | f::r,u,h=>by
  simp only [fc,List.mem_cons] at h
  rcases h with rfl | rfl | rfl | rfl | h
  ·rfl
  ·rfl
  ·rfl
  ·rfl
  ·exact fc_one r u h
theorem fc_get:∀ (l:List Fl) (k:Nat) (h:k < l.length),(fc l)[k * 4]? = some (.string (bs l[k].path))∧(fc l)[k * 4+1]? = some (.string (bs l[k].text))∧(fc l)[k * 4+2]? = some (.int .i64 l[k].blob)∧(fc l)[k * 4+3]? = some (.int .i64 l[k].size)
 | f::r,0,_=>⟨rfl,rfl,rfl,rfl⟩
 | f::r,k+1,h=>by
  have ih:=fc_get r k (by simpa using h)
  rw [show (k+1) * 4=k * 4+4 by omega]
  simp only [fc,List.getElem_cons_succ]
  exact ⟨ih.1,ih.2.1,ih.2.2.1,ih.2.2.2⟩
def FS (w:World) (v:Value) (l:List Fl):Prop:=
 ((∃ a c,v=.slice a 0 c)∧l=[])∨
 ∃ b off cap,v=.slice (some ⟨b,off,none⟩) l.length cap∧l.length≤cap∧b < w.heap.size∧∀ i u,(fc l)[i]? = some u→w.cell? ⟨b,off+i,none⟩=some u
theorem FS.later {w w':World} {v:Value} {l:List Fl} (h:FS w v l) (hb:Below w.heap.size w w'):FS w' v l:=by
 rcases h with h | ⟨b,off,cap,rfl,hc,hlt,hcell⟩
 ·exact .inl h
 ·refine .inr ⟨b,off,cap,rfl,hc,Nat.lt_of_lt_of_le hlt hb.size,fun i u hu=>?_⟩
  rw [hb.cell (p:=⟨b,off+i,none⟩) hlt];exact hcell i u hu
theorem FS.below {w w':World} {v:Value} {l:List Fl} {B:Nat} (h:FS w v l) (hb:Below B w w') (hv:∀ k,v.ownBlock=some k→k < B):FS w' v l:=by
 rcases h with h | ⟨b,off,cap,rfl,hc,hlt,hcell⟩
 ·exact .inl h
 ·refine .inr ⟨b,off,cap,rfl,hc,Nat.lt_of_lt_of_le hlt hb.size,fun i u hu=>?_⟩
  rw [hb.cell (p:=⟨b,off+i,none⟩) (hv b rfl)];exact hcell i u hu
theorem FS.form {w:World} {v:Value} {l:List Fl} (h:FS w v l):∃ a c,v=.slice a l.length c∧(∀ k,(hk:k < l.length)→∃ b off,a=some ⟨b,off,none⟩∧b < w.heap.size∧
  w.cell? ⟨b,off+k * 4,none⟩=some (.string (bs l[k].path))∧w.cell? ⟨b,off+k * 4+1,none⟩=some (.string (bs l[k].text))∧w.cell? ⟨b,off+k * 4+2,none⟩=some (.int .i64 l[k].blob)∧w.cell? ⟨b,off+k * 4+3,none⟩=some (.int .i64 l[k].size)):=by
 rcases h with ⟨⟨a,c,rfl⟩,rfl⟩ | ⟨b,off,cap,rfl,hc,hlt,hcell⟩
 ·exact ⟨a,c,rfl,fun k hk=>by simp at hk⟩
 ·refine ⟨_,cap,rfl,fun k hk=>⟨b,off,rfl,hlt,?_⟩⟩
  obtain ⟨c0,c1,c2,c3⟩:=fc_get l k hk
  exact ⟨hcell _ _ c0,by rw [Nat.add_assoc];exact hcell _ _ c1,by rw [Nat.add_assoc];exact hcell _ _ c2,by rw [Nat.add_assoc];exact hcell _ _ c3⟩
theorem FS.at {w:World} {a:Option Addr} {c:Nat} {l:List Fl} (h:FS w (.slice a l.length c) l) {wr:World} (hb:Below w.heap.size w wr) {k:Nat} (hk:k < l.length):∃ b off,a=some ⟨b,off,none⟩∧b < w.heap.size∧
  wr.cell? ⟨b,off+k * 4,none⟩=some (.string (bs l[k].path))∧wr.cell? ⟨b,off+k * 4+1,none⟩=some (.string (bs l[k].text))∧wr.cell? ⟨b,off+k * 4+2,none⟩=some (.int .i64 l[k].blob)∧wr.cell? ⟨b,off+k * 4+3,none⟩=some (.int .i64 l[k].size):=by
 obtain ⟨a',c',e,hf⟩:=(h.later hb).form
 obtain ⟨b,off,ha,_,h0,h1,h2,h3⟩:=hf k hk
 injection e with e1 e2 e3
 subst e1
 obtain ⟨b',off',ha',hlt,_⟩:=(h.form).choose_spec.choose_spec.2 k hk
 have e:=(h.form).choose_spec.choose_spec.1
 injection e with e1 e2 e3
 rw [← e1,ha] at ha'
 injection ha' with ha'
 injection ha' with hb1 hb2
 subst hb1
 exact ⟨b,off,ha,hlt,h0,h1,h2,h3⟩
theorem und22:Tryz.prog.underlying 22=some (.slice 55):=by kernel_rfl
theorem info29:(Tryz.prog.info? 55).map (fun i=>(i.zero,i.size,i.bytes))=some (some (.agg #[.string ⟨#[]⟩,.string ⟨#[]⟩,.int .i64 0,.int .i64 0]),4,48):=by kernel_rfl
def OwnF (base:Nat) (w:World) (v:Value) (l:List Fl):Prop:=w.ownsRow base 55 4 v l.length (fc l)
theorem OwnF.nil (base:Nat) (w:World):OwnF base w (.slice none 0 0) []:=World.ownsRow_nil w base 55 4
theorem OwnF.mono {base base':Nat} {w:World} {v:Value} {l:List Fl} (h:OwnF base w v l) (hb:base'≤base):OwnF base' w v l:=World.ownsRow.mono h hb
theorem OwnF.fs {base:Nat} {w:World} {v:Value} {l:List Fl} (h:OwnF base w v l):FS w v l:=by
 rcases h.2 with ⟨rfl,h0⟩ | ⟨g,cap,cur,rfl,hb,hg,hn,_⟩
 ·exact .inl ⟨⟨_,_,rfl⟩,List.eq_nil_of_length_eq_zero h0⟩
 ·refine .inr ⟨g,0,cap,rfl,hn,(Array.getElem?_eq_some_iff.1 hg).1,fun i u hu=>?_⟩
  have:=World.ownsRow.cells h (g:=g) rfl i u hu
  rw [add_lit] at this;exact this
theorem OwnF.lt {base:Nat} {w:World} {v:Value} {l:List Fl} (h:OwnF base w v l) {k:Nat} (hk:v.ownBlock=some k):base≤k∧k < w.heap.size:=World.ownsRow.lt h k hk
theorem OwnF.only {S:List Nat} {base:Nat} {w w':World} {v:Value} {l:List Fl} (h:OwnF base w v l) (ho:Only S w w') (hn:∀ k,v.ownBlock=some k→k∉S):OwnF base w' v l:=by
 rcases h with ⟨h0,h | ⟨g,cap,cur,rfl,hb,hg,hr⟩⟩
 ·exact ⟨h0,.inl h⟩
 ·exact ⟨h0,.inr ⟨g,cap,cur,rfl,hb,(ho.block g (Array.getElem?_eq_some_iff.1 hg).1 (hn g rfl)).trans hg,hr⟩⟩
theorem OwnF.later {base:Nat} {w w':World} {v:Value} {l:List Fl} (h:OwnF base w v l) (hb:Below w.heap.size w w'):OwnF base w' v l:=
 h.only (Only.of_below hb []) (by simp)
theorem OwnF.form {base:Nat} {w:World} {v:Value} {l:List Fl} (h:OwnF base w v l):∃ a c,v=.slice a l.length c:=by
 obtain ⟨a,c,e,_⟩:=h.fs.form;exact ⟨a,c,e⟩
theorem app_files {w:World} {base:Nat} {v x:Value} {l k:List Fl} (hown:OwnF base w v l) (hs:Src Tryz.prog 4 22 x k.length (fc k) w) (hb:l.length+k.length≤100000000) (hbase:base≤w.heap.size)
  {ops:Array Oper} {rest:List Oper} {o:Oper} {a:Act} {Q:Exit→Act→World→Prop} (hgd:o.guard=none) (s y:Operand)
  (ho:o.op=.call { callee:=.builtin .append,args:=#[s,y],argTypes:=#[22,22] }) (hv:a.eval s=v) (hx:a.eval y=x)
  (h:∀ v' w',OwnF base w' v' (l++k)→w.grownBy w' v.ownBlock→(v'.ownBlock=v.ownBlock∨v'.ownBlock=some w.heap.size)→wpList Tryz.prog ops Q rest (a.put o.dst v') w') :
  wpList Tryz.prog ops Q (o::rest) a w:=by
 obtain ⟨i0,hi,hz0,hz1,hz2⟩:=info_parts info29
 refine wpList_append_src w hgd s y 22 22 ho base 55 i0 _ 4 48 und22 hi hz0 hz1 hz2 rfl v l.length (fc l) hv hown x k.length (fc k) hx hs (by simp only [maxLen];omega) (by omega) hbase ?_
 intro v' w' h1 h2 h3
 exact h v' w' (by unfold OwnF;rw [fc_append,List.length_append];exact h1) h2 h3
theorem src_file (w:World) (f:Fl):Src Tryz.prog 4 22 (.slice (some ⟨w.heap.size,0,none⟩) 1 1) [f].length (fc [f]) (w.alloc (.cells #[.string (bs f.path),.string (bs f.text),.int .i64 f.blob,.int .i64 f.size] 55)):=by
 refine Src.ofSlice _ und22 ⟨w.heap.size,0,none⟩ 1 1 (fc [f]) (by simp [fc_length]) ?_ (fc_one _)
 exact World.news_of_block (heap_alloc_new w _)
structure Fok (f:Fl):Prop where
 path:f.path.length≤140737488355328
 text:f.text.length≤140737488355328
 b0:-9223372036854775808≤f.blob
 b1:f.blob≤9223372036854775807
 s0:-9223372036854775808≤f.size
 s1:f.size≤9223372036854775807
structure FSm (l:List Fl):Prop where
 len:l.length≤140737488355328
 each:∀ f∈l,Fok f
theorem FSm.at {l:List Fl} (h:FSm l) {k:Nat} (hk:k < l.length):Fok l[k]:=h.each _ (List.getElem_mem _)
structure FB (w:World) (g:Nat) (f:Fl):Prop where
 c0:w.cell? ⟨g,0,none⟩=some (.string (bs f.path))
 c1:w.cell? ⟨g,1,none⟩=some (.string (bs f.text))
 c2:w.cell? ⟨g,2,none⟩=some (.int .i64 f.blob)
 c3:w.cell? ⟨g,3,none⟩=some (.int .i64 f.size)
 lt:g < w.heap.size
theorem FB.new (w:World) (f:Fl) (k:TypeId):FB (w.alloc (.cells #[.string (bs f.path),.string (bs f.text),.int .i64 f.blob,.int .i64 f.size] k)) w.heap.size f:=⟨by simp,by simp,by simp,by simp,by simp⟩
theorem FB.later {w w':World} {g:Nat} {f:Fl} (h:FB w g f) (hb:Below w.heap.size w w'):FB w' g f:=
 ⟨(hb.cell (p:=⟨g,0,none⟩) h.lt).trans h.c0,(hb.cell (p:=⟨g,1,none⟩) h.lt).trans h.c1,(hb.cell (p:=⟨g,2,none⟩) h.lt).trans h.c2,(hb.cell (p:=⟨g,3,none⟩) h.lt).trans h.c3,Nat.lt_of_lt_of_le h.lt hb.size⟩
theorem within_any (n m:Int) (w:World):Calls Tryz.prog 173 #[.int .i64 n,.int .i64 m] w fun e w'=>e=.returned (.bool (decide (0≤n) && decide (n≤m)))∧w'=w:=by
 by_cases h0:0≤n
 ·go_enter Tryz.func173,Tryz.ntmps173
  go_wp2_with fail
  go_ret
  exact ⟨by simp [h0],rfl⟩
 ·have h1:decide (0≤n)=false:=by simpa using h0
  rw [h1]
  go_enter Tryz.func173,Tryz.ntmps173
  go_wp2_with fail
  go_ret
  exact ⟨rfl,rfl⟩
theorem manifest_any (p t:List UInt8) (w:World):Calls Tryz.prog 172 #[.string (bs p),.string (bs t)] w fun e w'=>e=.returned (.agg #[.string (bs p),.string (bs t),.int .i64 0,.int .i64 (t.length:Nat)])∧Below w.heap.size w w':=by
 have hz:(bs t).size=t.length:=rfl
 go_enter Tryz.func172,Tryz.ntmps172
 go_wp2_with fail
 refine bodyPost_ret (results_cell_row rfl _ _ w.heap.size 55 #[.string (bs p),.string (bs t),.int .i64 0,.int .i64 (t.length:Nat)] (0,0) _ rfl (heap_alloc_new _ _) Tryz.underlying55 rfl (by kernel_rfl)) rfl ?_
 exact ⟨rfl,balloc _ _⟩
end
section
open Go.RowKit
theorem st30:Tryz.prog.underlying 55=some (.struct (Tryz.prog.fieldsOf 55)):=by kernel_rfl
theorem held30:Tryz.prog.stoodInHeld 55=false:=by kernel_rfl
theorem guard30:Tryz.prog.eqGuardType Tryz.prog.depth 55=false:=by kernel_rfl
theorem flds30 : (Tryz.prog.fieldsOf 55).toList.map (fun f => (f.name, f.type, f.offset)) = [("Path", 9, 0), ("Text", 9, 1), ("Blob", 3, 2), ("Size", 3, 3)] := by kernel_rfl
theorem u9:Tryz.prog.underlying 9=some .string:=by kernel_rfl
theorem u3:Tryz.prog.underlying 3=some (.int .i64):=by kernel_rfl
theorem agg9 (w:World):(isAgg 9).run Tryz.prog w=.ok false w:=by simp [isAgg,run_underlying u9]
theorem fequal_run (w:World) (p t p' t':List UInt8) (b s b' s':Int) :
  (Op.equalIn 10000 55 (.agg #[.string (bs p),.string (bs t),.int .i64 b,.int .i64 s]) (.agg #[.string (bs p'),.string (bs t'),.int .i64 b',.int .i64 s'])).run Tryz.prog w=.ok (feq ⟨p,t,b,s⟩ ⟨p',t',b',s'⟩) w:=by
 rw [run_equalIn_struct w 9999 55 _ _ st30 held30]
 have h:=flds30
 revert h
 generalize (Tryz.prog.fieldsOf 55).toList=L
 intro h
 have hl:L.length=4:=by have:=congrArg List.length h;simpa using this
 obtain ⟨f0,f1,f2,f3,rfl⟩:∃ f0 f1 f2 f3,L=[f0,f1,f2,f3]:=by
  rcases L with _ | ⟨f0,_ | ⟨f1,_ | ⟨f2,_ | ⟨f3,_ | ⟨f4,r⟩⟩⟩⟩⟩
  ·simp at hl
  ·simp at hl
  ·simp at hl
  ·simp at hl
  ·exact ⟨f0,f1,f2,f3,rfl⟩
  ·simp at hl
 ·simp only [List.map_cons,List.map_nil,List.cons.injEq,Prod.mk.injEq,and_true] at h
  obtain ⟨⟨n0,t0,o0⟩,⟨n1,t1,o1⟩,⟨n2,t2,o2⟩,⟨n3,t3,o3⟩⟩:=h
  have e9:∀ (a c:List UInt8) (w:World),(Op.equalIn 9999 9 (.string (bs a)) (.string (bs c))).run Tryz.prog w=.ok (a == c) w:=fun a c w=>by
   have:=run_equalIn_string (P:=Tryz.prog) w 9998 9 (bs a) (bs c) u9
   rw [bs_toList,bs_toList] at this;exact this
  have e3:∀ (a c:Int) (w:World),(Op.equalIn 9999 3 (.int .i64 a) (.int .i64 c)).run Tryz.prog w=.ok (a == c) w:=fun a c w=>run_equalIn_int (P:=Tryz.prog) w 9998 3 .i64 .i64 a c u3
  simp only [Op.eqFields,n0,n1,n2,n3,t0,t1,t2,t3,o0,o1,o2,o3]
  have g0 : ("Path" : String) ≠ "_" := by decide
  have g1 : ("Text" : String) ≠ "_" := by decide
  have g2 : ("Blob" : String) ≠ "_" := by decide
  have g3 : ("Size" : String) ≠ "_" := by decide
  simp only [g0,g1,g2,g3,ne_eq,not_false_eq_true,if_true,part,Sem.run_bind,agg9,Result.andThen_ok,Bool.false_eq_true,if_false]
  simp [e9,e3,feq]
  by_cases hp:p=p'<;>by_cases ht:t=t'<;>by_cases hb:b=b'<;>by_cases hs:s=s'<;>simp [hp,ht,hb,hs]
theorem feql_run (w:World) (p t p' t':List UInt8) (b s b' s':Int) :
  (binOp .eql 55 (.agg #[.string (bs p),.string (bs t),.int .i64 b,.int .i64 s]) (.agg #[.string (bs p'),.string (bs t'),.int .i64 b',.int .i64 s'])).run Tryz.prog w=.ok (.bool (feq ⟨p,t,b,s⟩ ⟨p',t',b',s'⟩)) w:=by
 rw [run_eql_struct,fequal_run];rfl
theorem neq_run (w:World) (p t p' t':List UInt8) (b s b' s':Int) :
  (binOp .neq 55 (.agg #[.string (bs p),.string (bs t),.int .i64 b,.int .i64 s]) (.agg #[.string (bs p'),.string (bs t'),.int .i64 b',.int .i64 s'])).run Tryz.prog w=.ok (.bool (!feq ⟨p,t,b,s⟩ ⟨p',t',b',s'⟩)) w:=by
 rw [run_neq_struct,fequal_run];rfl
theorem fguard_run (w:World) (op:BinOp) (x y:Operand) (xs ys:Array Value):(eqGuard op 55 x y (.agg xs) (.agg ys)).run Tryz.prog w=.ok () w:=run_eqGuard_agg w op 55 x y xs ys guard30
end
section
open Go.RowKit
structure GW (w:World) where
 it:World
 below:Below w.heap.size w it
theorem gw_ne (w:World):Nonempty (GW w):=⟨⟨w,Below.refl _ _⟩⟩
theorem wp_region_grow {id:Nat} {Q:Exit→Act→World→Prop} {a:Act} {w:World} {l:List Oper} (hm:Tryz.prog.follows .mixedOrders=true) (hB:Region.lexB .any l.toArray=true)
  (h:wpQuiet Tryz.prog l.toArray (fun w'=>∃ X:GW w,w'=X.it) (fun a'=>∀ w',(∃ X:GW w,w'=X.it)→Q .normal a' w') l a):(Code.region id l.toArray true).wp Tryz.prog Q a w:=
 wp_region_quiet (C:=fun w'=>∃ X:GW w,w'=X.it) hm hB ⟨⟨w.drew,(Below.refl _ _).drew⟩,rfl⟩ (by simpa using h)
theorem GW.cell {w:World} (X:GW w) {p:Addr} {v:Value} (hp:p.block < w.heap.size) (h:w.cell? p=some v):X.it.cell? p=some v:=by rw [X.below.cell hp];exact h
theorem gw_of {w:World} {f:Nat} {args:Array Value} {v:Value} (h:∀ W:World,Calls Tryz.prog f args W fun e w'=>e=.returned v∧Below W.heap.size W w') (X:GW w) :
  Calls Tryz.prog f args X.it fun e w'=>e=.returned v∧∃ Y:GW w,w'=Y.it:=
 (h X.it).mono fun _ w' ⟨he,hl⟩=>⟨he,⟨w',bstep X.below hl⟩,rfl⟩
theorem bd (w:World) (n:Nat):Below w.heap.size w (w.drewN n):=⟨rfl,rfl,rfl,Nat.le_refl _,fun _ _=>rfl⟩
theorem wrap_small (k:Nat) (h:k≤9223372036854775807):IntKind.i64.wrap (k:Int)=(k:Int):=by rw [IntKind.wrap_i64];omega
theorem c_tgt:(ByteArray.mk #[84,65,82,71,69,84,83]).toList=tgt:=ByteArray.toList_mk tgt
theorem isManifest_any (f:Fl) (w:World) (hf:Fok f):Calls Tryz.prog 171 #[f.val] w fun e w'=>e=.returned (.bool (isM f.path))∧Below w.heap.size w w':=by
 obtain ⟨p,t,b,s⟩:=f
 have HF:Hid (Fok ⟨p,t,b,s⟩):=hf
 clear hf
 simp only [Fl.val]
 go_enter Tryz.func171,Tryz.ntmps171
 go_wp2_with fail
 refine (base_any p _ (by have:=HF.out.path;simp only at this;omega)).mono ?_
 rintro e w1 ⟨rfl,rfl⟩
 have e1:=c_tgt
 have e2:=bs_toList (base p)
 go_wp2_with fail
 go_ret
 exact ⟨rfl,balloc _ _⟩
theorem sfits_any (f:Fl) (w:World) (hf:Fok f):Calls Tryz.prog 129 #[f.val] w fun e w'=>e=.returned (.bool (fits f))∧Below w.heap.size w w':=by
 obtain ⟨p,t,b,s⟩:=f
 have HF:Hid (Fok ⟨p,t,b,s⟩):=hf
 clear hf
 have HI:Hid (∀ w:World,Calls Tryz.prog 171 #[.agg #[.string (bs p),.string (bs t),.int .i64 b,.int .i64 s]] w fun e w'=>e=.returned (.bool (isM p))∧Below w.heap.size w w'):=fun w=>isManifest_any ⟨p,t,b,s⟩ w HF.out
 simp only [Fl.val]
 unfold fits
 simp only
 have ee:=isE t
 cases hm:isM p
 ·rw [hm] at HI
  have HW:Hid (∀ (n m:Int) (w:World),Calls Tryz.prog 173 #[.int .i64 n,.int .i64 m] w fun e w'=>e=.returned (.bool (decide (0≤n) && decide (n≤m)))∧w'=w):=within_any
  cases ht:t.isEmpty
  ·have htb:(t == [])=false:=by
    cases t with
    | nil=>simp at ht
    | cons x r=>rfl
   simp only [htb,Bool.false_eq_true,if_false,Bool.false_and]
   clear htb
   rw [ht] at ee
   go_enter Tryz.func129,Tryz.ntmps129
   go_wp2_with fail
   refine (HI.out _).mono ?_
   rintro e w1 ⟨rfl,hb1⟩
   have hF:Hid (FB w1 w.heap.size ⟨p,t,b,s⟩):=(FB.new w ⟨p,t,b,s⟩ 55).later hb1
   have HB:Hid (Below w.heap.size w w1):=bstep (balloc w _) hb1
   obtain ⟨c0,c1,c2,c3,hlt⟩:=hF.out
   simp only at c0 c1 c2 c3
   clear hb1
   go_wp2_with fail
   go_ret
   exact ⟨rfl,HB.out⟩
  ·have htb:(t == [])=true:=by
    cases t with
    | nil=>rfl
    | cons x r=>simp at ht
   simp only [htb,Bool.false_eq_true,if_false,Bool.true_and]
   clear htb
   rw [ht] at ee
   cases hbw:(decide (0≤b) && decide (b≤1152921504606846976))
   ·have HWb:Hid (∀ (w:World),Calls Tryz.prog 173 #[.int .i64 b,.int .i64 1152921504606846976] w fun e w'=>e=.returned (.bool false)∧w'=w):=by rw [← hbw];exact HW.out _ _
    clear hbw
    go_enter Tryz.func129,Tryz.ntmps129
    go_wp2_with fail
    refine (HI.out _).mono ?_
    rintro e w1 ⟨rfl,hb1⟩
    have hF:Hid (FB w1 w.heap.size ⟨p,t,b,s⟩):=(FB.new w ⟨p,t,b,s⟩ 55).later hb1
    have HB:Hid (Below w.heap.size w w1):=bstep (balloc w _) hb1
    obtain ⟨c0,c1,c2,c3,hlt⟩:=hF.out
    simp only at c0 c1 c2 c3
    clear hb1
    go_wp2_with fail
    refine (HWb.out _).mono ?_
    rintro e w2 ⟨rfl,rfl⟩
    go_wp2_with fail
    go_ret
    exact ⟨rfl,HB.out⟩
   ·have HWb:Hid (∀ (w:World),Calls Tryz.prog 173 #[.int .i64 b,.int .i64 1152921504606846976] w fun e w'=>e=.returned (.bool true)∧w'=w):=by rw [← hbw];exact HW.out _ _
    clear hbw
    obtain ⟨z,hz⟩:∃ z,(decide (0≤s) && decide (s≤4611686018427387904))=z:=⟨_,rfl⟩
    have HWs:Hid (∀ (w:World),Calls Tryz.prog 173 #[.int .i64 s,.int .i64 4611686018427387904] w fun e w'=>e=.returned (.bool z)∧w'=w):=by rw [← hz];exact HW.out _ _
    rw [hz]
    clear hz
    go_enter Tryz.func129,Tryz.ntmps129
    go_wp2_with fail
    refine (HI.out _).mono ?_
    rintro e w1 ⟨rfl,hb1⟩
    have hF:Hid (FB w1 w.heap.size ⟨p,t,b,s⟩):=(FB.new w ⟨p,t,b,s⟩ 55).later hb1
    have HB:Hid (Below w.heap.size w w1):=bstep (balloc w _) hb1
    obtain ⟨c0,c1,c2,c3,hlt⟩:=hF.out
    simp only at c0 c1 c2 c3
    clear hb1
    go_wp2_with fail
    refine (HWb.out _).mono ?_
    rintro e w2 ⟨rfl,rfl⟩
    go_wp2_with fail
    refine (HWs.out _).mono ?_
    rintro e w2 ⟨rfl,rfl⟩
    go_wp2_with fail
    go_ret
    exact ⟨rfl,HB.out⟩
 ·rw [hm] at HI
  simp only [if_true]
  have hz:(bs t).size=t.length:=rfl
  go_enter Tryz.func129,Tryz.ntmps129
  go_wp2_with fail
  refine (HI.out _).mono ?_
  rintro e w1 ⟨rfl,hb1⟩
  have hF:Hid (FB w1 w.heap.size ⟨p,t,b,s⟩):=(FB.new w ⟨p,t,b,s⟩ 55).later hb1
  have HB:Hid (Below w.heap.size w w1):=bstep (balloc w _) hb1
  obtain ⟨c0,c1,c2,c3,hlt⟩:=hF.out
  simp only at c0 c1 c2 c3
  clear hb1
  have x0:∀ X:GW w1,X.it.cell? ⟨w.heap.size,0,none⟩=some (.string (bs p)):=fun X=>X.cell hlt c0
  have x1:∀ X:GW w1,X.it.cell? ⟨w.heap.size,1,none⟩=some (.string (bs t)):=fun X=>X.cell hlt c1
  have x2:∀ X:GW w1,X.it.cell? ⟨w.heap.size,2,none⟩=some (.int .i64 b):=fun X=>X.cell hlt c2
  have x3:∀ X:GW w1,X.it.cell? ⟨w.heap.size,3,none⟩=some (.int .i64 s):=fun X=>X.cell hlt c3
  have xne:=gw_ne w1
  have HM:Hid (∀ X:GW w1,Calls Tryz.prog 172 #[.string (bs p),.string (bs t)] X.it fun e w'=>e=.returned (.agg #[.string (bs p),.string (bs t),.int .i64 0,.int .i64 (t.length:Nat)])∧∃ Y:GW w1,w'=Y.it):=fun X=>gw_of (manifest_any p t) X
  clear c0 c1 c2 c3
  have q1:=feql_run
  have q2:=fguard_run
  go_wp2_with fail
  refine wp_region_grow (by kernel_rfl) (by kernel_rfl) ?_
  repeat (go_big_quiet_step (fail))
  go_big_quiet_step (exact HM.out _)
  repeat (go_big_quiet_step (fail))
  refine wpQuiet_nil ?_
  rintro w2 ⟨⟨w2,bx⟩,rfl⟩
  have HB5:Hid (Below w.heap.size w w2):=bstep HB.out bx
  clear bx
  go_wp2_with fail
  go_ret
  refine ⟨?_,HB5.out⟩
  show Ending.returned (Value.bool (feq ⟨p,t,b,s⟩ ⟨p,t,0,t.length⟩))=_
  simp [feq]
theorem file_any (f:Fl) (w:World) (hf:Fok f):Calls Tryz.prog 81 #[f.val] w fun e w'=>e=.returned (.int .i64 (fileE f))∧Below w.heap.size w w':=by
 obtain ⟨p,t,b,s⟩:=f
 have HF:Hid (Fok ⟨p,t,b,s⟩):=hf
 have hpl:p.length≤140737488355328:=hf.path
 clear hf
 have HV:Hid (∀ w:World,Calls Tryz.prog 83 #[.string (bs p)] w fun e w'=>e=.returned (.bool (okP p))∧Below w.heap.size w w'):=fun w=>valid_any p w (by omega)
 have HI:Hid (∀ w:World,Calls Tryz.prog 129 #[.agg #[.string (bs p),.string (bs t),.int .i64 b,.int .i64 s]] w fun e w'=>e=.returned (.bool (fits ⟨p,t,b,s⟩))∧Below w.heap.size w w'):=fun w=>sfits_any ⟨p,t,b,s⟩ w HF.out
 simp only [Fl.val]
 unfold fileE pathOk
 simp only
 generalize fits ⟨p,t,b,s⟩=ft at *
 have ee:=isE p
 cases hp:p.isEmpty
 ·have htb:(p == [])=false:=by
   cases p with
   | nil=>simp at hp
   | cons x r=>rfl
  rw [htb]
  clear htb
  rw [hp] at ee
  cases hv:okP p
  ·rw [hv] at HV
   simp only [Bool.not_false,Bool.true_and,Bool.false_eq_true,if_false]
   go_enter Tryz.func81,Tryz.ntmps81
   go_wp2_with fail
   refine (HV.out _).mono ?_
   rintro e w1 ⟨rfl,hb1⟩
   have HB:Hid (Below w.heap.size w w1):=bstep (balloc w _) hb1
   clear hb1
   go_wp2_with fail
   go_ret
   exact ⟨rfl,HB.out⟩
  ·rw [hv] at HV
   simp only [Bool.not_false,Bool.true_and,if_true]
   go_enter Tryz.func81,Tryz.ntmps81
   go_wp2_with fail
   refine (HV.out _).mono ?_
   rintro e w1 ⟨rfl,hb1⟩
   have hF:Hid (FB w1 w.heap.size ⟨p,t,b,s⟩):=(FB.new w ⟨p,t,b,s⟩ 55).later hb1
   have HB:Hid (Below w.heap.size w w1):=bstep (balloc w _) hb1
   obtain ⟨c0,c1,c2,c3,hlt⟩:=hF.out
   simp only at c0 c1 c2 c3
   clear hb1
   go_wp2_with fail
   refine (HI.out _).mono ?_
   rintro e w2 ⟨rfl,hb2⟩
   have HB2:Hid (Below w.heap.size w w2):=bstep HB.out hb2
   clear hb2 c0 c1 c2 c3
   cases ft
   ·go_wp2_with fail
    go_ret
    exact ⟨rfl,HB2.out⟩
   ·go_wp2_with fail
    go_ret
    exact ⟨rfl,HB2.out⟩
 ·have htb:(p == [])=true:=by
   cases p with
   | nil=>rfl
   | cons x r=>simp at hp
  rw [htb]
  clear htb
  rw [hp] at ee
  simp only [Bool.not_true,Bool.false_and,Bool.false_eq_true,if_false]
  go_enter Tryz.func81,Tryz.ntmps81
  go_wp2_with fail
  go_ret
  exact ⟨rfl,balloc _ _⟩
theorem follows_any (q p:List UInt8) (w:World) (hq:q.length≤140737488355328) (hp:p.length≤140737488355328):Calls Tryz.prog 130 #[.string (bs q),.string (bs p)] w fun e w'=>e=.returned (.bool (fol p q))∧Below w.heap.size w w':=by
 have HC:Hid (∀ w:World,Calls Tryz.prog 36 #[.string (bs p),.string (bs q)] w fun e w'=>e=.returned (.int .i64 (cmpP (pcs p) (pcs q)))∧Laid w w'):=fun w=>cmp_any p q w (by omega) (by omega)
 have HA:Hid (∀ w:World,Calls Tryz.prog 174 #[.string (bs p),.string (bs q)] w fun e w'=>e=.returned (.bool (abvV p q))∧Laid w w'):=fun w=>above_any p q w (by omega) (by omega)
 unfold fol
 generalize cmpP (pcs p) (pcs q)=o at *
 generalize abvV p q=a at *
 by_cases h:o < 0
 ·have hd:decide (o < 0)=true:=by simpa using h
  rw [hd]
  go_enter Tryz.func130,Tryz.ntmps130
  go_wp2_with fail
  refine (HC.out _).mono ?_
  rintro e w1 ⟨rfl,hb1⟩
  have HB:Hid (Below w.heap.size w w1):=hb1.below
  clear hb1
  go_wp2_with fail
  refine (HA.out _).mono ?_
  rintro e w2 ⟨rfl,hb2⟩
  have HB2:Hid (Below w.heap.size w w2):=bstep HB.out hb2.below
  clear hb2
  go_wp2_with fail
  go_ret
  exact ⟨by simp,HB2.out⟩
 ·have hd:decide (o < 0)=false:=by simpa using h
  rw [hd]
  go_enter Tryz.func130,Tryz.ntmps130
  go_wp2_with fail
  refine (HC.out _).mono ?_
  rintro e w1 ⟨rfl,hb1⟩
  have HB:Hid (Below w.heap.size w w1):=hb1.below
  clear hb1
  go_wp2_with fail
  go_ret
  exact ⟨rfl,HB.out⟩
end
def chd:List UInt8→List UInt8
 | []=>[]
 | c::l=>if c=58 then [] else c::chd l
def ctl:List UInt8→List UInt8
 | []=>[]
 | c::l=>if c=58 then l else ctl l
def csl:List UInt8→Bool
 | []=>false
 | c::l=>if c=58 then true else csl l
theorem c_cut_eq:∀ l,l=chd l++(if csl l then 58::ctl l else [])
 | []=>rfl
 | c::l=>by
  have ih:=c_cut_eq l
  by_cases h:c=58
  ·simp [chd,ctl,csl,h]
  ·simp only [chd,ctl,csl,h,if_false,List.cons_append,List.cons.injEq,true_and];exact ih
theorem c_indexByte_eq:∀ l,Lib.indexByte l 58=if csl l then ((chd l).length:Int) else -1
 | []=>rfl
 | c::l=>by
  have ih:=c_indexByte_eq l
  unfold Lib.indexByte
  by_cases h:c=58
  ·simp [chd,csl,h]
  ·have e:(c == 58)=false:=by simpa using h
   rw [e,ih]
   simp only [chd,csl,h,if_false,Bool.false_eq_true]
   cases hs:csl l
   ·simp
   ·simp only [if_true,List.length_cons]
    have:((((chd l).length:Int)) == -1)=false:=by rw [beq_eq_false_iff_ne];omega
    rw [this];simp
theorem c_hd_len (l) (h:csl l=true):(chd l).length+1+(ctl l).length=l.length:=by
 have:=congrArg List.length (c_cut_eq l)
 rw [h] at this;simp at this;omega
theorem c_hd_all (l) (h:csl l=false):chd l=l:=by
 have:=c_cut_eq l
 rw [h] at this;simpa using this.symm
theorem c_tl_none:∀ l,csl l=false→ctl l=[]
 | [],_=>rfl
 | c::l,h=>by
  by_cases hc:c=58
  ·simp [csl,hc] at h
  ·simp only [csl,hc,if_false] at h;simp only [ctl,hc,if_false];exact c_tl_none l h
theorem c_hd_le (l):(chd l).length≤l.length:=by
 cases h:csl l
 ·rw [c_hd_all l h];exact Nat.le_refl _
 ·have:=c_hd_len l h;omega
theorem c_tl_le (l):(ctl l).length≤l.length:=by
 cases h:csl l
 ·rw [c_tl_none l h];simp
 ·have:=c_hd_len l h;omega
theorem c_hd_take (l):chd l=l.take (chd l).length:=(take_app (c_cut_eq l)).symm
theorem c_tl_drop (l) (h:csl l=true):ctl l=l.drop ((chd l).length+1):=by
 rw [← List.drop_drop,drop_app (c_cut_eq l),h];rfl
structure Lb where
 pkg:List UInt8
 name:List UInt8
 deriving DecidableEq
def zl:Lb:=⟨[],[]⟩
def okL (l:Lb):Bool:=okP l.pkg && okC l.name
def chk (l:Lb):Lb×Int:=if okL l then (l,0) else (zl,10)
def prs (s:List UInt8):Lb×Int:=if [47,47].isPrefixOf s then chk ⟨chd (s.drop 2),ctl (s.drop 2)⟩ else (zl,10)
def inn (p s:List UInt8):Lb×Int:=if okP p then (if [58].isPrefixOf s then chk ⟨p,s.drop 1⟩ else prs s) else (zl,7)
def cmpL (a b:Lb):Int:=if cmpP (pcs a.pkg) (pcs b.pkg)=0 then Lib.compareBytes a.name b.name else cmpP (pcs a.pkg) (pcs b.pkg)
inductive Kd where
 | nobody
 | all
 | one (p:List UInt8)
 | tree (p:List UInt8)
 deriving DecidableEq
def pub:List UInt8:=[112,117,98,108,105,99]
def dots:List UInt8:=[47,46,46,46]
def adots:List UInt8:=[47,47,46,46,46]
def kin (s:List UInt8):Kd:=
 if s=pub then .all else if s=adots then .tree [] else if s=47::47::dots then .nobody else
 if [47,47].isPrefixOf s then (if dots.isSuffixOf (s.drop 2) then .tree ((s.drop 2).take ((s.drop 2).length - 4)) else .one (s.drop 2)) else .nobody
def Kd.top:Kd→List UInt8
 | .nobody=>[]
 | .all=>[]
 | .one p=>p
 | .tree p=>p
def rdk (s:List UInt8):Kd:=if okP (kin s).top then kin s else .nobody
def nms:Kd→List UInt8→Bool
 | .nobody,_=>false
 | .all,_=>true
 | .one p,f=>decide (f=p)
 | .tree p,f=>decide (f=p) || abvV p f
def ser (s:List UInt8):Bool:=!decide (rdk s=.nobody)
def ses (see:List (List UInt8)) (own from_:List UInt8):Bool:=decide (own=from_) || see.any fun s=>nms (rdk s) from_
theorem okP_nil:okP []=true:=by decide
theorem suffix_iff (d p:List UInt8):d.isSuffixOf p=true↔d.length≤p.length∧p.drop (p.length - d.length)=d:=by
 rw [List.isSuffixOf_iff_suffix]
 constructor
 ·rintro ⟨r,rfl⟩
  exact ⟨by simp,by simp⟩
 ·rintro ⟨h1,h2⟩
  exact ⟨p.take (p.length - d.length),by conv=>rhs;rw [← List.take_append_drop (p.length - d.length) p,h2]⟩
theorem cmpL_neg (a b:Lb):cmpL b a = - cmpL a b:=by
 unfold cmpL
 rw [cmpP_neg (pcs a.pkg) (pcs b.pkg),cb_neg a.name b.name]
 by_cases h:cmpP (pcs a.pkg) (pcs b.pkg)=0
 ·simp [h]
 ·have:¬ (- cmpP (pcs a.pkg) (pcs b.pkg)=0):=by omega
  simp [h,this]
theorem cmpL_range (a b:Lb):cmpL a b = -1∨cmpL a b=0∨cmpL a b=1:=by
 unfold cmpL
 split
 ·exact cb_range _ _
 ·exact cmpP_range _ _
theorem cmpL_zero (a b:Lb):cmpL a b=0↔a=b:=by
 unfold cmpL
 constructor
 ·intro h
  split at h
  ·rename_i h1
   have e1:=pcs_inj (cmpP_zero h1)
   have e2:=cb_zero h
   cases a;cases b;simp only at e1 e2;rw [e1,e2]
  ·rename_i h1;exact absurd h h1
 ·rintro rfl
  rw [if_pos (cmpP_refl _)];exact cb_refl _
theorem cmpL_trans (a b c:Lb) (h1:cmpL a b≤0) (h2:cmpL b c≤0):cmpL a c≤0:=by
 unfold cmpL at h1 h2 ⊢
 by_cases e1:cmpP (pcs a.pkg) (pcs b.pkg)=0
 ·rw [if_pos e1] at h1
  have p1:=cmpP_zero e1
  rw [p1]
  by_cases e2:cmpP (pcs b.pkg) (pcs c.pkg)=0
  ·rw [if_pos e2] at h2 ⊢
   rcases cb_range a.name b.name with q | q | q
   ·rcases cb_range b.name c.name with r | r | r
    ·rw [cb_trans _ _ _ q r];decide
    ·rw [← cb_zero r,q];decide
    ·omega
   ·rw [cb_zero q];exact h2
   ·omega
  ·rw [if_neg e2] at h2 ⊢;exact h2
 ·rw [if_neg e1] at h1
  have q1:cmpP (pcs a.pkg) (pcs b.pkg) = -1:=by rcases cmpP_range (pcs a.pkg) (pcs b.pkg) with q | q | q<;>omega
  by_cases e2:cmpP (pcs b.pkg) (pcs c.pkg)=0
  ·rw [← cmpP_zero e2,if_neg e1];exact h1
  ·rw [if_neg e2] at h2
   have q2:cmpP (pcs b.pkg) (pcs c.pkg) = -1:=by rcases cmpP_range (pcs b.pkg) (pcs c.pkg) with q | q | q<;>omega
   have q3:=cmpP_trans _ _ _ q1 q2
   rw [if_neg (by rw [q3];decide),q3];decide
end Go.Proofs.YtppnbdnpapellaaGreatDoor
