import Derived.Test.YtppnbdnpapellaaGreatDoorJBk
import Derived.Deep.RegionLaw
import Derived.Test.YtppnbdnpapellaaGreatDoorTj
import Derived.Laws.OwnMore
import Derived.Deep.OwnRows
import Derived.Deep.AppendSrc
namespace Go.Proofs.YtppnbdnpapellaaGreatDoor
section
open Go.RowKit Go.Maps
def mkC (c:Nat):Array Value:=madeCells (Value.agg #[.string ⟨#[]⟩,.string ⟨#[]⟩]).cells (c * 2)
theorem make_L (c:Nat) (hc:c≤2000000) (w:World):(Instr.makeSlice 23 (.int .i64 0) (.int .i64 (c:Int))).run Tryz.prog w=.ok (.slice (some ⟨w.heap.size,0,none⟩) 0 c) (w.alloc (.cells (mkC c) 27)):=by
 obtain ⟨i0,hi,hz0,hz1,hz2⟩:=info_parts info_L
 have h:=run_make (P:=Tryz.prog) w 23 27 i0 _ und_L hi hz0 .i64 .i64 0 (c:Int) (by omega) (by omega) (by rw [hz2];omega) (by omega)
 rw [hz1] at h
 simpa [mkC] using h
theorem own_L (c:Nat) (hc:c≤2000000) (w:World):OwnL w.heap.size (w.alloc (.cells (mkC c) 27)) (.slice (some ⟨w.heap.size,0,none⟩) 0 c) []:=by
 obtain ⟨i0,hi,hz0,hz1,hz2⟩:=info_parts info_L
 obtain ⟨w',h1,h2,h3⟩:=run_make_own (P:=Tryz.prog) w w.heap.size 23 27 i0 _ 2 und_L hi hz0 hz1 .i64 .i64 c (by rw [hz2];omega) (by unfold maxLen;omega) (Nat.le_refl _)
 rw [make_L c hc w] at h1
 injection h1 with _ h1
 rw [← h1] at h2
 exact h2
theorem make_M {t k e:TypeId} (ht:Tryz.prog.underlying t=some (.map k e)) (c:Nat) (w:World):(Instr.makeMap t (some (.int .i64 (c:Int)))).run Tryz.prog w=.ok (.map (some w.heap.size)) (w.alloc (.map #[] 0)):=by
 simp [Instr.makeMap,run_underlying ht,asInt,asIntOf]
end
section
open Go.RowKit Go.Maps
def Eg (ns:List Lb) (out:Lb→List Lb):List (Lb×Lb):=ns.flatMap (fun a=>(out a).map (fun b=>(a,b)))
structure GF (ns:List Lb) (out:Lb→List Lb):Prop where
 nd:ns.Nodup
 up:∀ a,UpL (out a)
 sub:∀ a b,b∈out a→a∈ns∧b∈ns
theorem GR.gf {w:World} {F:Nat→Prop} {g:Nat} {ns:List Lb} {out:Lb→List Lb} (h:GR w F g ns out):GF ns out:=⟨h.nd,h.up,h.sub⟩
theorem GF.eg {ns:List Lb} {out:Lb→List Lb} (h:GF ns out) (a b:Lb):(a,b)∈Eg ns out↔b∈out a:=by
 unfold Eg
 rw [List.mem_flatMap]
 constructor
 ·rintro ⟨x,_,hx⟩
  obtain ⟨y,hy,e⟩:=List.mem_map.1 hx
  injection e with e1 e2
  subst e1 e2
  exact hy
 ·intro hb
  exact ⟨a,(h.sub a b hb).1,List.mem_map.2 ⟨b,hb,rfl⟩⟩
def cI:Cd Int where
 R:=fun v=>match v with | .int .i64 x=>some (.lit (.int .i64 x),[]) | _=>none
 enc:=fun x=>.int .i64 x
 d:=fun x=>.lit (.int .i64 x)
 z:=0
 t:=103
 e:=3
 hR _:=rfl
 inv v y h:=by
  split at h
  ·exact ⟨_,rfl⟩
  ·cases h
 inj x y h:=by
  injection h with h
  injection h
 und:=by kernel_rfl
 zero w:=by kernel_rfl
theorem step_app_L {T:TypeId} (hT:Tryz.prog.underlying T=some (.slice 27)) {ops:Array Oper} {o:Oper} {a:Act} {w:World} {K:Act→World→Prop} {Q:Exit→Act→World→Prop} {E:Prop} (hgd:o.guard=none) (s y:Operand)
  (ho:o.op=.call { callee:=.builtin .append,args:=#[s,y],argTypes:=#[T,T] }) (base:Nat) (l k:List Lb) (v x:Value) (hv:a.eval s=v) (hx:a.eval y=x)
  (hown:OwnL base w v l) (hs:Src Tryz.prog 2 T x k.length (lc k) w) (hb:l.length+k.length≤100000000) (hbase:base≤w.heap.size)
  (h:∀ v' w',OwnL base w' v' (l++k)→w.grownBy w' v.ownBlock→(v'.ownBlock=v.ownBlock∨v'.ownBlock=some w.heap.size)→K (a.put o.dst v') w') :
  if Region.wanted o (yielded ops a.tmps)=true then Oper.wp Tryz.prog o a w K Q else E:=by
 have hw:Region.wanted o (yielded ops a.tmps)=true:=by simp [Region.wanted,hgd]
 rw [if_pos hw]
 obtain ⟨i0,hi,hz0,hz1,hz2⟩:=info_parts info_L
 obtain ⟨v',w',hr,h2,h3,h4⟩:=run_append_src (P:=Tryz.prog) w base T T o.type 27 i0 _ 2 32 hT hi hz0 hz1 hz2 rfl v l.length (lc l) hown x k.length (lc k) hs (by simp only [maxLen];omega) (by omega) hbase
 unfold Oper.wp execOp
 simp only [ho,resolve,invoke,builtin,Sem.run_bind,Sem.run_pure,Result.andThen_ok,List.map_toArray,List.map_cons,List.map_nil,hv,hx,hr]
 exact h v' w' (by unfold OwnL;rw [lc_append,List.length_append];exact h2) h3 h4
theorem src_Ld {T:TypeId} (hT:Tryz.prog.underlying T=some (.slice 27)) (w:World) (t:Lb):Src Tryz.prog 2 T (.slice (some ⟨w.heap.size,0,none⟩) 1 1) [t].length (lc [t]) (w.alloc (.cells #[.string (bs t.pkg),.string (bs t.name)] 27)).drew:=by
 refine Src.ofSlice _ hT ⟨w.heap.size,0,none⟩ 1 1 (lc [t]) (by simp [lc_length]) ?_ (lc_one _)
 exact fun j u hu=>World.news_of_block (heap_alloc_new w _) j u hu
theorem own_d {base:Nat} {w:World} {v:Value} {l:List Lb} (h:OwnL base w v l) (o:Obj):OwnL base (w.alloc o).drew v l:=h.later (balloc w o).drew
theorem rs_nd (ns:List Lb):(rs ns).Nodup:=Gs.Ris.nodup stoL (Gs.ris_up stoL ns)
theorem nd_take {l:List Lb} (h:l.Nodup) {k:Nat} (hk:k < l.length):l[k]∉l.take k:=by
 have h1:=List.take_succ_eq_append_getElem hk
 have h2:(l.take (k+1)).Nodup:=h.sublist (List.take_sublist _ _)
 rw [h1,List.nodup_append] at h2
 exact fun e=>h2.2.2 _ e _ (by simp) rfl
end
section
open Go.RowKit Go.Maps
theorem only_grownK {w w':World} {row:Option Nat} (h:w.grownBy w' row):Only row.toList w w':=
 ⟨h.os,h.tape,h.output,h.size,fun k hk hn=>h.block k hk (by
  intro e
  apply hn
  rw [← e];simp)⟩
theorem row_only {S:List Nat} {base e sz n:Nat} {w w':World} {v:Value} {l:List Value} (h:w.ownsRow base e sz v n l) (ho:Only S w w') (hn:∀ k,v.ownBlock=some k→k∉S):w'.ownsRow base e sz v n l:=by
 rcases h with ⟨h0,h | ⟨g,cap,cur,rfl,hb,hg,hr⟩⟩
 ·exact ⟨h0,.inl h⟩
 ·exact ⟨h0,.inr ⟨g,cap,cur,rfl,hb,(ho.block g (Array.getElem?_eq_some_iff.1 hg).1 (hn g rfl)).trans hg,hr⟩⟩
theorem row_later {base e sz n:Nat} {w w':World} {v:Value} {l:List Value} (h:w.ownsRow base e sz v n l) (hb:Below w.heap.size w w'):w'.ownsRow base e sz v n l:=row_only h (Only.of_below hb []) (by simp)
theorem row_kept {base e sz n:Nat} {w w':World} {v:Value} {l:List Value} (h:w.ownsRow base e sz v n l) (hk:∀ g,v.ownBlock=some g→w'.heap[g]? = w.heap[g]?):w'.ownsRow base e sz v n l:=by
 rcases h with ⟨h0,h | ⟨g,cap,cur,rfl,hb,hg,hr⟩⟩
 ·exact ⟨h0,.inl h⟩
 ·exact ⟨h0,.inr ⟨g,cap,cur,rfl,hb,(hk g rfl).trans hg,hr⟩⟩
theorem row_form {base e sz n:Nat} {w:World} {v:Value} {l:List Value} (h:w.ownsRow base e sz v n l):∃ a c,v=.slice a n c:=by
 rcases h.2 with ⟨rfl,rfl⟩ | ⟨g,cap,cur,rfl,_⟩
 ·exact ⟨_,_,rfl⟩
 ·exact ⟨_,_,rfl⟩
theorem row_place {base e sz n:Nat} {w:World} {v:Value} {l:List Value} (h:w.ownsRow base e sz v n l) (hn:0 < n):∃ g c,v=.slice (some ⟨g,0,none⟩) n c∧n≤c∧base≤g∧g < w.heap.size:=by
 rcases h.2 with ⟨rfl,rfl⟩ | ⟨g,cap,cur,rfl,hb,hg,hc,_⟩
 ·omega
 ·exact ⟨g,cap,rfl,hc,hb,(Array.getElem?_eq_some_iff.1 hg).1⟩
theorem row_tag {base e sz n:Nat} {w:World} {v:Value} {l:List Value} (h:w.ownsRow base e sz v n l) {g:Nat} (hg:v.ownBlock=some g):base≤g∧g < w.heap.size∧∃ cur,w.heap[g]? = some (.cells cur e (0,0)):=by
 rcases h.2 with ⟨rfl,rfl⟩ | ⟨g',cap,cur,rfl,hb,hg',_⟩
 ·cases hg
 ·simp only [Value.ownBlock,Option.some.injEq] at hg
  subst hg
  exact ⟨hb,(Array.getElem?_eq_some_iff.1 hg').1,cur,hg'⟩
theorem row_cell {base e sz n:Nat} {w:World} {g c:Nat} {l:List Value} (h:w.ownsRow base e sz (.slice (some ⟨g,0,none⟩) n c) n l) {i:Nat} {u:Value} (hi:l[i]? = some u):w.cell? ⟨g,i,none⟩=some u:=by
 have:=World.ownsRow.cells h (g:=g) rfl i u hi
 rw [add_lit] at this
 simpa using this
theorem row_soft {base e sz n:Nat} {w:World} {g c:Nat} {l:List Value} (h:w.ownsRow base e sz (.slice (some ⟨g,0,none⟩) n c) n l) (o:Nat):w.frozen? ⟨g,o,none⟩=false:=by
 rcases h.2 with ⟨e,_⟩ | ⟨g',cap,cur,e,hb,hg',_⟩
 ·cases e
 ·injection e with e _ _
  injection e with e
  injection e with e _ _
  subst e
  simp [World.frozen?,hg']
theorem row_set {base e sz n:Nat} {w:World} {g c:Nat} {l:List Value} (h:w.ownsRow base e sz (.slice (some ⟨g,0,none⟩) n c) n l) (i:Nat) (u:Value):(w.setCell ⟨g,i,none⟩ u).ownsRow base e sz (.slice (some ⟨g,0,none⟩) n c) n (l.set i u):=by
 rcases h with ⟨h0,⟨e,_⟩ | ⟨g',cap,cur,e,hb,hg',hn,hm,hs,ht⟩⟩
 ·cases e
 ·injection e with e _ e3
  injection e with e
  injection e with e _ _
  subst e e3
  refine ⟨by simpa using h0,.inr ⟨g,c,cur.setIfInBounds i u,rfl,hb,heap_setCell w g i u hg',hn,hm,by simpa using hs,?_⟩⟩
  rw [← ht]
  simp only [Array.toList_setIfInBounds]
  rw [List.take_set]
theorem row_take {base e sz n:Nat} {w:World} {g c:Nat} {l:List Value} (h:w.ownsRow base e sz (.slice (some ⟨g,0,none⟩) n c) n l) (k:Nat) (hk:k≤n):w.ownsRow base e sz (.slice (some ⟨g,0,none⟩) k c) k (l.take (k * sz)):=by
 rcases h with ⟨h0,⟨e,_⟩ | ⟨g',cap,cur,e,hb,hg',hn,hm,hs,ht⟩⟩
 ·cases e
 ·injection e with e _ e3
  injection e with e
  injection e with e _ _
  subst e e3
  have hkn:k * sz≤n * sz:=Nat.mul_le_mul_right _ hk
  refine ⟨by rw [List.length_take,h0];omega,.inr ⟨g,c,cur,rfl,hb,hg',by omega,hm,hs,?_⟩⟩
  rw [← ht,List.take_take,Nat.min_eq_left hkn]
structure Rk where
 T:TypeId
 e:TypeId
 sz:Nat
 by':Nat
 z:Value
structure RkOk (K:Rk):Prop where
 und:Tryz.prog.underlying K.T=some (.slice K.e)
 info:(Tryz.prog.info? K.e).map (fun i=>(i.zero,i.size,i.bytes))=some (some K.z,K.sz,K.by')
 zs:K.z.cells.size=K.sz
 byb:K.by'≤100
theorem step_app_K {K:Rk} (hK:RkOk K) {ops:Array Oper} {o:Oper} {a:Act} {w:World} {C:Act→World→Prop} {Q:Exit→Act→World→Prop} {E:Prop} (hgd:o.guard=none) (s y:Operand)
  (ho:o.op=.call { callee:=.builtin .append,args:=#[s,y],argTypes:=#[K.T,K.T] }) (base n:Nat) (l u:List Value) (v x:Value) (hv:a.eval s=v) (hx:a.eval y=x)
  (hown:w.ownsRow base K.e K.sz v n l) (hs:Src Tryz.prog K.sz K.T x 1 u w) (hb:n+1≤100000000) (hbase:base≤w.heap.size)
  (h:∀ v' w',w'.ownsRow base K.e K.sz v' (n+1) (l++u)→w.grownBy w' v.ownBlock→(v'.ownBlock=v.ownBlock∨v'.ownBlock=some w.heap.size)→C (a.put o.dst v') w') :
  if Region.wanted o (yielded ops a.tmps)=true then Oper.wp Tryz.prog o a w C Q else E:=by
 have hw:Region.wanted o (yielded ops a.tmps)=true:=by simp [Region.wanted,hgd]
 rw [if_pos hw]
 obtain ⟨i0,hi,hz0,hz1,hz2⟩:=info_parts hK.info
 have hby:=hK.byb
 have hbb:(n+1) * K.by'≤140737488355328:=by
  have:(n+1) * K.by'≤100000000 * 100:=Nat.mul_le_mul hb hby
  omega
 obtain ⟨v',w',hr,h2,h3,h4⟩:=run_append_src (P:=Tryz.prog) w base K.T K.T o.type K.e i0 _ K.sz K.by' hK.und hi hz0 hz1 hz2 hK.zs v n l hown x 1 u hs (by simp only [maxLen];omega) hbb hbase
 unfold Oper.wp execOp
 simp only [ho,resolve,invoke,builtin,Sem.run_bind,Sem.run_pure,Result.andThen_ok,List.map_toArray,List.map_cons,List.map_nil,hv,hx,hr]
 exact h v' w' h2 h3 h4
theorem app_K {K:Rk} (hK:RkOk K) {w:World} {base n:Nat} {v x:Value} {l u:List Value} (hown:w.ownsRow base K.e K.sz v n l) (hs:Src Tryz.prog K.sz K.T x 1 u w) (hb:n+1≤100000000) (hbase:base≤w.heap.size)
  {ops:Array Oper} {rest:List Oper} {o:Oper} {a:Act} {Q:Exit→Act→World→Prop} (hgd:o.guard=none) (s y:Operand)
  (ho:o.op=.call { callee:=.builtin .append,args:=#[s,y],argTypes:=#[K.T,K.T] }) (hv:a.eval s=v) (hx:a.eval y=x)
  (h:∀ v' w',w'.ownsRow base K.e K.sz v' (n+1) (l++u)→w.grownBy w' v.ownBlock→(v'.ownBlock=v.ownBlock∨v'.ownBlock=some w.heap.size)→wpList Tryz.prog ops Q rest (a.put o.dst v') w') :
  wpList Tryz.prog ops Q (o::rest) a w:=by
 obtain ⟨i0,hi,hz0,hz1,hz2⟩:=info_parts hK.info
 have hby:=hK.byb
 have hbb:(n+1) * K.by'≤140737488355328:=by
  have:(n+1) * K.by'≤100000000 * 100:=Nat.mul_le_mul hb hby
  omega
 exact wpList_append_src w hgd s y K.T K.T ho base K.e i0 _ K.sz K.by' hK.und hi hz0 hz1 hz2 hK.zs v n l hv hown x 1 u hx hs (by simp only [maxLen];omega) hbb hbase h
theorem src_K {K:Rk} (hK:RkOk K) (w:World) (u:List Value) (hu:u.length=K.sz) (h1:∀ x∈u,x.oneCell'=true):Src Tryz.prog K.sz K.T (.slice (some ⟨w.heap.size,0,none⟩) 1 1) 1 u (w.alloc (.cells u.toArray K.e)):=by
 refine Src.ofSlice _ hK.und ⟨w.heap.size,0,none⟩ 1 1 u (by simp [hu]) ?_ h1
 intro j x hx
 exact World.news_of_block (heap_alloc_new w (.cells u.toArray K.e)) j x (by simpa using hx)
theorem src_Kd {K:Rk} (hK:RkOk K) (w:World) (u:List Value) (hu:u.length=K.sz) (h1:∀ x∈u,x.oneCell'=true):Src Tryz.prog K.sz K.T (.slice (some ⟨w.heap.size,0,none⟩) 1 1) 1 u (w.alloc (.cells u.toArray K.e)).drew:=by
 refine Src.ofSlice _ hK.und ⟨w.heap.size,0,none⟩ 1 1 u (by simp [hu]) ?_ h1
 intro j x hx
 exact World.news_of_block (heap_alloc_new w (.cells u.toArray K.e)) j x (by simpa using hx)
def kI:Rk:=⟨183,3,1,8,.int .i64 0⟩
theorem kI_ok:RkOk kI:=⟨by kernel_rfl,by kernel_rfl,rfl,by decide⟩
def kII:Rk:=⟨185,183,1,24,.slice none 0 0⟩
theorem kII_ok:RkOk kII:=⟨by kernel_rfl,by kernel_rfl,rfl,by decide⟩
def kLL:Rk:=⟨144,23,1,24,.slice none 0 0⟩
theorem kLL_ok:RkOk kLL:=⟨by kernel_rfl,by kernel_rfl,rfl,by decide⟩
def kP:Rk:=⟨260,262,2,16,.agg #[.int .i64 0,.int .i64 0]⟩
theorem kP_ok:RkOk kP:=⟨by kernel_rfl,by kernel_rfl,rfl,by decide⟩
def nv (l:List Nat):List Value:=l.map (fun x:Nat=>Value.int .i64 (x:Int))
theorem nv_length (l:List Nat):(nv l).length=l.length:=by simp [nv]
theorem nv_get {l:List Nat} {k:Nat} (h:k < l.length):(nv l)[k]? = some (.int .i64 (l[k]:Int)):=by simp [nv,h]
theorem nv_snoc (l:List Nat) (a:Nat):nv (l++[a])=nv l++[.int .i64 (a:Int)]:=by simp [nv]
theorem app_I {w:World} {base:Nat} {v:Value} {l:List Nat} (t:Nat) (hown:w.ownsRow base 3 1 v l.length (nv l)) (hb:l.length+1≤2000000) (hbase:base≤w.heap.size)
  {ops:Array Oper} {rest:List Oper} {o:Oper} {a:Act} {Q:Exit→Act→World→Prop} (hgd:o.guard=none) (s y:Operand)
  (ho:o.op=.call { callee:=.builtin .append,args:=#[s,y],argTypes:=#[183,183] }) (hv:a.eval s=v) (hx:a.eval y=.slice (some ⟨w.heap.size,0,none⟩) 1 1)
  (h:∀ v' w',w'.ownsRow base 3 1 v' (l++[t]).length (nv (l++[t]))→(w.alloc (.cells #[.int .i64 (t:Int)] 3)).grownBy w' v.ownBlock→(v'.ownBlock=v.ownBlock∨v'.ownBlock=some (w.alloc (.cells #[.int .i64 (t:Int)] 3)).heap.size)→wpList Tryz.prog ops Q rest (a.put o.dst v') w') :
  wpList Tryz.prog ops Q (o::rest) a (w.alloc (.cells #[.int .i64 (t:Int)] 3)):=by
 have h1:(w.alloc (.cells #[.int .i64 (t:Int)] 3)).ownsRow base kI.e kI.sz v l.length (nv l):=row_later hown (balloc w _)
 have h2:Src Tryz.prog kI.sz kI.T (.slice (some ⟨w.heap.size,0,none⟩) 1 1) 1 [.int .i64 (t:Int)] (w.alloc (.cells #[.int .i64 (t:Int)] 3)):=src_K kI_ok w [.int .i64 (t:Int)] rfl (by simp [Value.oneCell'])
 refine app_K kI_ok h1 h2 (by omega) (Nat.le_trans hbase (balloc w _).size) hgd s y ho hv hx (fun v' w' g1 g2 g3=>h v' w' ?_ g2 g3)
 rw [nv_snoc,List.length_append]
 exact g1
theorem step_app_I {ops:Array Oper} {o:Oper} {a:Act} {w:World} {C:Act→World→Prop} {Q:Exit→Act→World→Prop} {E:Prop} (hgd:o.guard=none) (s y:Operand)
  (ho:o.op=.call { callee:=.builtin .append,args:=#[s,y],argTypes:=#[183,183] }) (base:Nat) (l:List Nat) (t:Nat) (v:Value) {N:Nat} (hN:w.heap.size=N) (hv:a.eval s=v) (hx:a.eval y=.slice (some ⟨N,0,none⟩) 1 1)
  (hown:w.ownsRow base 3 1 v l.length (nv l)) (hb:l.length+1≤2000000) (hbase:base≤w.heap.size)
  (h:∀ v' w',w'.ownsRow base 3 1 v' (l++[t]).length (nv (l++[t]))→(w.alloc (.cells #[.int .i64 (t:Int)] 3)).grownBy w' v.ownBlock→(v'.ownBlock=v.ownBlock∨v'.ownBlock=some (w.heap.size+1))→C (a.put o.dst v') w') :
  if Region.wanted o (yielded ops a.tmps)=true then Oper.wp Tryz.prog o a (w.alloc (.cells #[.int .i64 (t:Int)] 3)).drew C Q else E:=by
 subst hN
 have h1:(w.alloc (.cells #[.int .i64 (t:Int)] 3)).drew.ownsRow base kI.e kI.sz v l.length (nv l):=row_later hown (balloc w _).drew
 have h2:Src Tryz.prog kI.sz kI.T (.slice (some ⟨w.heap.size,0,none⟩) 1 1) 1 [.int .i64 (t:Int)] (w.alloc (.cells #[.int .i64 (t:Int)] 3)).drew:=src_Kd kI_ok w [.int .i64 (t:Int)] rfl (by simp [Value.oneCell'])
 refine step_app_K kI_ok hgd s y ho base l.length (nv l) [.int .i64 (t:Int)] v _ hv hx h1 h2 (by omega) (Nat.le_trans hbase (balloc w _).drew.size) (fun v' w' g1 g2 g3=>h v' w' ?_ ?_ ?_)
 ·rw [nv_snoc,List.length_append]
  exact g1
 ·exact ⟨g2.os,g2.tape,g2.output,g2.size,g2.block⟩
 ·rcases g3 with g3 | g3
  ·exact .inl g3
  ·right
   rw [g3]
   congr 1
   show (w.alloc _).heap.size=_
   simp
def nf (n:Nat) (f:Nat→Nat):List Nat:=(List.range n).map f
theorem nf_length (n:Nat) (f:Nat→Nat):(nf n f).length=n:=by simp [nf]
theorem nf_get {n:Nat} {f:Nat→Nat} {k:Nat} (h:k < n):(nv (nf n f))[k]? = some (.int .i64 (f k:Int)):=by simp [nv,nf,h]
theorem nf_set {n:Nat} {f:Nat→Nat} {k x:Nat}:(nv (nf n f)).set k (.int .i64 (x:Int))=nv (nf n (Tj.upd f k x)):=by
 apply List.ext_getElem?
 intro i
 rw [List.getElem?_set]
 simp only [nv,nf,List.map_map,List.getElem?_map,List.length_map,List.length_range]
 by_cases hi:i < n
 ·rw [List.getElem?_range hi]
  by_cases e:k=i
  ·subst e
   simp [hi]
  ·simp [e,Tj.upd_ne (Ne.symm e)]
 ·rw [List.getElem?_eq_none (by simpa using hi)]
  by_cases e:k=i
  ·subst e;simp [hi]
  ·simp [e]
def IS (w:World) (v:Value) (l:List Nat):Prop:=
 ((∃ a c,v=.slice a 0 c)∧l=[])∨
 ∃ b off cap,v=.slice (some ⟨b,off,none⟩) l.length cap∧l.length≤cap∧b < w.heap.size∧∀ i u,(nv l)[i]? = some u→w.cell? ⟨b,off+i,none⟩=some u
theorem IS.form {w:World} {v:Value} {l:List Nat} (h:IS w v l):∃ a c,v=.slice a l.length c:=by
 rcases h with ⟨⟨a,c,rfl⟩,rfl⟩ | ⟨b,off,cap,rfl,_⟩
 ·exact ⟨_,_,rfl⟩
 ·exact ⟨_,_,rfl⟩
theorem IS.at {w:World} {a:Option Addr} {n c:Nat} {l:List Nat} (h:IS w (.slice a n c) l) {wr:World} (hb:Below w.heap.size w wr) {k:Nat} (hk:k < l.length):∃ b off,a=some ⟨b,off,none⟩∧b < w.heap.size∧wr.cell? ⟨b,off+k,none⟩=some (.int .i64 (l[k]:Int)):=by
 rcases h with ⟨_,rfl⟩ | ⟨b,off,cap,e,hc,hlt,hcell⟩
 ·simp at hk
 ·injection e with e1 e2 e3
  subst e1
  exact ⟨b,off,rfl,hlt,(hb.cell (p:=⟨b,off+k,none⟩) hlt).trans (hcell _ _ (nv_get hk))⟩
theorem row_IS {base:Nat} {w:World} {v:Value} {l:List Nat} (h:w.ownsRow base 3 1 v l.length (nv l)):IS w v l:=by
 rcases h.2 with ⟨rfl,h0⟩ | ⟨g,cap,cur,rfl,hb,hg,hn,_⟩
 ·exact .inl ⟨⟨_,_,rfl⟩,List.eq_nil_of_length_eq_zero h0⟩
 ·refine .inr ⟨g,0,cap,rfl,hn,(Array.getElem?_eq_some_iff.1 hg).1,fun i u hu=>?_⟩
  rw [Nat.zero_add];exact row_cell h hu
theorem made1 (z:Value) (n:Nat):madeCells #[z] n=(List.replicate n z).toArray:=by
 apply Array.ext'
 simp only [madeCells,Array.toList_map,Array.toList_range]
 apply List.ext_getElem?
 intro i
 rw [List.getElem?_map,List.getElem?_replicate]
 by_cases h:i < n
 ·rw [List.getElem?_range h,if_pos h]
  simp [Nat.mod_one]
 ·rw [List.getElem?_eq_none (by simpa using h),if_neg h]
  rfl
theorem nf_zero (n:Nat):nv (nf n (fun _=>0))=List.replicate n (.int .i64 0):=by
 apply List.ext_getElem?
 intro i
 rw [List.getElem?_replicate]
 by_cases h:i < n
 ·rw [nf_get h,if_pos h];rfl
 ·rw [if_neg h,List.getElem?_eq_none (by rw [nv_length,nf_length];omega)]
theorem make_K {K:Rk} (hK:RkOk K) (hc:K.z.cells = #[K.z]) (n:Nat) (hn:n≤2000000) (w:World):(Instr.makeSlice K.T (.int .i64 (n:Int)) (.int .i64 (n:Int))).run Tryz.prog w=.ok (.slice (some ⟨w.heap.size,0,none⟩) n n) (w.alloc (.cells (List.replicate n K.z).toArray K.e)):=by
 obtain ⟨i0,hi,hz0,hz1,hz2⟩:=info_parts hK.info
 have hby:=hK.byb
 have hbb:K.by' * n≤100 * 2000000:=Nat.mul_le_mul hby hn
 have hbi:(K.by':Int) * (n:Int)≤281474976710656:=by
  rw [← Int.natCast_mul]
  omega
 have h:=run_make (P:=Tryz.prog) w K.T K.e i0 _ hK.und hi hz0 .i64 .i64 (n:Int) (n:Int) (by omega) (by omega) (by rw [hz2];exact hbi) (by omega)
 have hs:=hK.zs
 rw [hc] at hs
 have hs1:K.sz=1:=by rw [← hs];rfl
 rw [hz1,hs1,hc] at h
 have e2:(n:Int).toNat * 1=n:=by simp
 rw [e2,made1] at h
 simpa using h
theorem make_I (n:Nat) (hn:n≤2000000) (w:World):(Instr.makeSlice 183 (.int .i64 (n:Int)) (.int .i64 (n:Int))).run Tryz.prog w=.ok (.slice (some ⟨w.heap.size,0,none⟩) n n) (w.alloc (.cells (nv (nf n (fun _=>0))).toArray 3)):=by
 rw [nf_zero]
 exact make_K kI_ok rfl n hn w
theorem make_II (n:Nat) (hn:n≤2000000) (w:World):(Instr.makeSlice 185 (.int .i64 (n:Int)) (.int .i64 (n:Int))).run Tryz.prog w=.ok (.slice (some ⟨w.heap.size,0,none⟩) n n) (w.alloc (.cells (List.replicate n (.slice none 0 0)).toArray 183)):=
 make_K kII_ok rfl n hn w
end
end Go.Proofs.YtppnbdnpapellaaGreatDoor
