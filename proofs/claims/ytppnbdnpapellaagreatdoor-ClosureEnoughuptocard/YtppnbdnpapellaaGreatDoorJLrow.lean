import Derived.Test.YtppnbdnpapellaaGreatDoorRd
import Derived.Test.YtppnbdnpapellaaGreatDoorJWords
import Derived.Test.YtppnbdnpapellaaGreatDoorJFil
import Derived.Deep.RegionHeld3
import Derived.Laws.CopyRow
import Derived.Laws.IdiomCopy
import Derived.Lib.AppendZerosOnto
import Derived.Lib.Overlaps
import Derived.Deep.RegionLaw
set_option maxRecDepth 100000
set_option maxHeartbeats 16000000
namespace Go.Proofs.YtppnbdnpapellaaGreatDoor
section
open Go.RowKit
theorem ronly_grown {w w':World} {o:Obj} {b:Option Nat} (h:(w.alloc o).grownBy w' b):Only b.toList w w':=by
 obtain ⟨h1,h2,h3,h4,h5⟩:=h
 refine ⟨h1,h2,h3,by simp at h4;omega,fun k hk hn=>?_⟩
 refine (h5 k (by simp;omega) ?_).trans (heap_alloc_old _ _ hk)
 intro e;apply hn;rw [← e];simp
theorem app_S {w:World} {base:Nat} {v:Value} {l:List (List UInt8)} (t:List UInt8) (hown:Own base w v l) (hb:l.length+1≤100000000) (hbase:base≤w.heap.size)
  {ops:Array Oper} {rest:List Oper} {o:Oper} {a:Act} {Q:Exit→Act→World→Prop} (hgd:o.guard=none) (s y:Operand)
  (ho:o.op=.call { callee:=.builtin .append,args:=#[s,y],argTypes:=#[24,24] }) (hv:a.eval s=v) (hx:a.eval y=.slice (some ⟨w.heap.size,0,none⟩) 1 1)
  (h:∀ v' w',Own base w' v' (l++[t])→Below base w w'→Only v.ownBlock.toList w w'→base≤w'.heap.size→(v'.ownBlock=v.ownBlock∨∃ k,v'.ownBlock=some k∧w.heap.size≤k)→wpList Tryz.prog ops Q rest (a.put o.dst v') w') :
  wpList Tryz.prog ops Q (o::rest) a (w.alloc (.cells #[.string (bs t)] 9)):=by
 refine app_strs (base:=base) (l:=l) (k:=[t]) (World.ownsRow.alloc hown _) (src_one w t) (by simp;omega) (by simp;omega) hgd s y ho hv hx ?_
 intro v' w' h1 h2 h3
 have hlt:=World.ownsRow.lt hown
 have hB:Below base w w':=((Below.refl _ _).alloc hbase _).grown h2 (by simp;omega) (fun k hk=>(hlt k hk).1)
 refine h v' w' h1 hB (ronly_grown h2) (Nat.le_trans hbase hB.size) ?_
 rcases h3 with h3 | h3
 ·exact .inl h3
 ·exact .inr ⟨_,h3,by simp⟩
def lc:List Lb→List Value
 | []=>[]
 | t::r=>.string (bs t.pkg)::.string (bs t.name)::lc r
theorem lc_length:∀ l,(lc l).length=l.length * 2
 | []=>rfl
 | f::r=>by simp only [lc,List.length_cons,lc_length r];omega
theorem lc_append:∀ a b,lc (a++b)=lc a++lc b
 | [],b=>rfl
 | f::r,b=>by simp [lc,lc_append r b]
theorem lc_one:∀ (l:List Lb),∀ u∈lc l,u.oneCell'=true
 | [],u,h=>by simp [lc] at h
 | f::r,u,h=>by
  simp only [lc,List.mem_cons] at h
  rcases h with rfl | rfl | h
  ·rfl
  ·rfl
  ·exact lc_one r u h
theorem lc_get:∀ (l:List Lb) (k:Nat) (h:k < l.length),(lc l)[k * 2]? = some (.string (bs l[k].pkg))∧(lc l)[k * 2+1]? = some (.string (bs l[k].name))
 | f::r,0,_=>⟨rfl,rfl⟩
 | f::r,k+1,h=>by
  have ih:=lc_get r k (by simpa using h)
  rw [show (k+1) * 2=k * 2+2 by omega]
  simp only [lc,List.getElem_cons_succ]
  exact ih
def LS (w:World) (v:Value) (l:List Lb):Prop:=
 ((∃ a c,v=.slice a 0 c)∧l=[])∨
 ∃ b off cap,v=.slice (some ⟨b,off,none⟩) l.length cap∧l.length≤cap∧b < w.heap.size∧∀ i u,(lc l)[i]? = some u→w.cell? ⟨b,off+i,none⟩=some u
theorem LS.later {w w':World} {v:Value} {l:List Lb} (h:LS w v l) (hb:Below w.heap.size w w'):LS w' v l:=by
 rcases h with h | ⟨b,off,cap,rfl,hc,hlt,hcell⟩
 ·exact .inl h
 ·refine .inr ⟨b,off,cap,rfl,hc,Nat.lt_of_lt_of_le hlt hb.size,fun i u hu=>?_⟩
  rw [hb.cell (p:=⟨b,off+i,none⟩) hlt];exact hcell i u hu
theorem LS.below {w w':World} {v:Value} {l:List Lb} {B:Nat} (h:LS w v l) (hb:Below B w w') (hv:l≠[]→∀ k,v.ownBlock=some k→k < B):LS w' v l:=by
 rcases h with h | ⟨b,off,cap,rfl,hc,hlt,hcell⟩
 ·exact .inl h
 ·by_cases h0:l=[]
  ·subst h0;exact .inl ⟨⟨_,_,rfl⟩,rfl⟩
  ·refine .inr ⟨b,off,cap,rfl,hc,Nat.lt_of_lt_of_le hlt hb.size,fun i u hu=>?_⟩
   rw [hb.cell (p:=⟨b,off+i,none⟩) (hv h0 b rfl)];exact hcell i u hu
theorem LS.form {w:World} {v:Value} {l:List Lb} (h:LS w v l):∃ a c,v=.slice a l.length c∧(∀ k,(hk:k < l.length)→∃ b off,a=some ⟨b,off,none⟩∧b < w.heap.size∧
  w.cell? ⟨b,off+k * 2,none⟩=some (.string (bs l[k].pkg))∧w.cell? ⟨b,off+k * 2+1,none⟩=some (.string (bs l[k].name))):=by
 rcases h with ⟨⟨a,c,rfl⟩,rfl⟩ | ⟨b,off,cap,rfl,hc,hlt,hcell⟩
 ·exact ⟨a,c,rfl,fun k hk=>by simp at hk⟩
 ·refine ⟨_,cap,rfl,fun k hk=>⟨b,off,rfl,hlt,?_⟩⟩
  obtain ⟨c0,c1⟩:=lc_get l k hk
  exact ⟨hcell _ _ c0,by rw [Nat.add_assoc];exact hcell _ _ c1⟩
theorem LS.at {w:World} {a:Option Addr} {c n:Nat} {l:List Lb} (h:LS w (.slice a n c) l) {wr:World} (hb:Below w.heap.size w wr) {k:Nat} (hk:k < l.length):∃ b off,a=some ⟨b,off,none⟩∧b < w.heap.size∧
  wr.cell? ⟨b,off+k * 2,none⟩=some (.string (bs l[k].pkg))∧wr.cell? ⟨b,off+k * 2+1,none⟩=some (.string (bs l[k].name)):=by
 rcases h with ⟨⟨a',c',e⟩,rfl⟩ | ⟨b,off,cap,e,hc,hlt,hcell⟩
 ·simp at hk
 ·injection e with e1 e2 e3
  subst e1
  obtain ⟨c0,c1⟩:=lc_get l k hk
  refine ⟨b,off,rfl,hlt,?_,?_⟩
  ·rw [hb.cell (p:=⟨b,off+k * 2,none⟩) hlt];exact hcell _ _ c0
  ·rw [hb.cell (p:=⟨b,off+k * 2+1,none⟩) hlt,Nat.add_assoc];exact hcell _ _ c1
def OwnL (base:Nat) (w:World) (v:Value) (l:List Lb):Prop:=w.ownsRow base 27 2 v l.length (lc l)
theorem OwnL.nil (base:Nat) (w:World):OwnL base w (.slice none 0 0) []:=World.ownsRow_nil w base 27 2
theorem OwnL.mono {base base':Nat} {w:World} {v:Value} {l:List Lb} (h:OwnL base w v l) (hb:base'≤base):OwnL base' w v l:=World.ownsRow.mono h hb
theorem OwnL.rs {base:Nat} {w:World} {v:Value} {l:List Lb} (h:OwnL base w v l):LS w v l:=by
 rcases h.2 with ⟨rfl,h0⟩ | ⟨g,cap,cur,rfl,hb,hg,hn,_⟩
 ·exact .inl ⟨⟨_,_,rfl⟩,List.eq_nil_of_length_eq_zero h0⟩
 ·refine .inr ⟨g,0,cap,rfl,hn,(Array.getElem?_eq_some_iff.1 hg).1,fun i u hu=>?_⟩
  have:=World.ownsRow.cells h (g:=g) rfl i u hu
  rw [add_lit] at this;exact this
theorem OwnL.lt {base:Nat} {w:World} {v:Value} {l:List Lb} (h:OwnL base w v l) {k:Nat} (hk:v.ownBlock=some k):base≤k∧k < w.heap.size:=World.ownsRow.lt h k hk
theorem OwnL.only {S:List Nat} {base:Nat} {w w':World} {v:Value} {l:List Lb} (h:OwnL base w v l) (ho:Only S w w') (hn:∀ k,v.ownBlock=some k→k∉S):OwnL base w' v l:=by
 rcases h with ⟨h0,h | ⟨g,cap,cur,rfl,hb,hg,hr⟩⟩
 ·exact ⟨h0,.inl h⟩
 ·exact ⟨h0,.inr ⟨g,cap,cur,rfl,hb,(ho.block g (Array.getElem?_eq_some_iff.1 hg).1 (hn g rfl)).trans hg,hr⟩⟩
theorem OwnL.later {base:Nat} {w w':World} {v:Value} {l:List Lb} (h:OwnL base w v l) (hb:Below w.heap.size w w'):OwnL base w' v l:=
 h.only (Only.of_below hb []) (by simp)
theorem OwnL.form {base:Nat} {w:World} {v:Value} {l:List Lb} (h:OwnL base w v l):∃ a c,v=.slice a l.length c:=by
 obtain ⟨a,c,e,_⟩:=h.rs.form;exact ⟨a,c,e⟩
theorem und_L:Tryz.prog.underlying 23=some (.slice 27):=by kernel_rfl
theorem info_L:(Tryz.prog.info? 27).map (fun i=>(i.zero,i.size,i.bytes))=some (some (.agg #[.string ⟨#[]⟩,.string ⟨#[]⟩]),2,32):=by kernel_rfl
theorem app_Ls {w:World} {base:Nat} {v x:Value} {l k:List Lb} (hown:OwnL base w v l) (hs:Src Tryz.prog 2 23 x k.length (lc k) w) (hb:l.length+k.length≤100000000) (hbase:base≤w.heap.size)
  {ops:Array Oper} {rest:List Oper} {o:Oper} {a:Act} {Q:Exit→Act→World→Prop} (hgd:o.guard=none) (s y:Operand)
  (ho:o.op=.call { callee:=.builtin .append,args:=#[s,y],argTypes:=#[23,23] }) (hv:a.eval s=v) (hx:a.eval y=x)
  (h:∀ v' w',OwnL base w' v' (l++k)→w.grownBy w' v.ownBlock→(v'.ownBlock=v.ownBlock∨v'.ownBlock=some w.heap.size)→wpList Tryz.prog ops Q rest (a.put o.dst v') w') :
  wpList Tryz.prog ops Q (o::rest) a w:=by
 obtain ⟨i0,hi,hz0,hz1,hz2⟩:=info_parts info_L
 refine wpList_append_src w hgd s y 23 23 ho base 27 i0 _ 2 32 und_L hi hz0 hz1 hz2 rfl v l.length (lc l) hv hown x k.length (lc k) hx hs (by simp only [maxLen];omega) (by omega) hbase ?_
 intro v' w' h1 h2 h3
 exact h v' w' (by unfold OwnL;rw [lc_append,List.length_append];exact h1) h2 h3
theorem src_L (w:World) (t:Lb):Src Tryz.prog 2 23 (.slice (some ⟨w.heap.size,0,none⟩) 1 1) [t].length (lc [t]) (w.alloc (.cells #[.string (bs t.pkg),.string (bs t.name)] 27)):=by
 refine Src.ofSlice _ und_L ⟨w.heap.size,0,none⟩ 1 1 (lc [t]) (by simp [lc_length]) ?_ (lc_one _)
 exact World.news_of_block (heap_alloc_new w _)
theorem app_L {w:World} {base:Nat} {v:Value} {l:List Lb} (t:Lb) (hown:OwnL base w v l) (hb:l.length+1≤100000000) (hbase:base≤w.heap.size)
  {ops:Array Oper} {rest:List Oper} {o:Oper} {a:Act} {Q:Exit→Act→World→Prop} (hgd:o.guard=none) (s y:Operand)
  (ho:o.op=.call { callee:=.builtin .append,args:=#[s,y],argTypes:=#[23,23] }) (hv:a.eval s=v) (hx:a.eval y=.slice (some ⟨w.heap.size,0,none⟩) 1 1)
  (h:∀ v' w',OwnL base w' v' (l++[t])→Below base w w'→Only v.ownBlock.toList w w'→base≤w'.heap.size→(v'.ownBlock=v.ownBlock∨∃ k,v'.ownBlock=some k∧w.heap.size≤k)→wpList Tryz.prog ops Q rest (a.put o.dst v') w') :
  wpList Tryz.prog ops Q (o::rest) a (w.alloc (.cells #[.string (bs t.pkg),.string (bs t.name)] 27)):=by
 refine app_Ls (base:=base) (l:=l) (k:=[t]) (World.ownsRow.alloc hown _) (src_L w t) (by simpa using hb) (by simp;omega) hgd s y ho hv hx ?_
 intro v' w' h1 h2 h3
 have hlt:=World.ownsRow.lt hown
 have hB:Below base w w':=((Below.refl _ _).alloc hbase _).grown h2 (by simp;omega) (fun k hk=>(hlt k hk).1)
 refine h v' w' h1 hB (ronly_grown h2) (Nat.le_trans hbase hB.size) ?_
 rcases h3 with h3 | h3
 ·exact .inl h3
 ·exact .inr ⟨_,h3,by simp⟩
structure Tv where
 name:List UInt8
 sa:Option Addr
 sn:Nat
 sc:Nat
 da:Option Addr
 dn:Nat
 dc:Nat
 ea:Option Addr
 en:Nat
 ec:Nat
def Tv.val (t:Tv):Value:=.agg #[.string (bs t.name),.slice t.sa t.sn t.sc,.slice t.da t.dn t.dc,.slice t.ea t.en t.ec]
def gc:List Tv→List Value
 | []=>[]
 | t::r=>.string (bs t.name)::.slice t.sa t.sn t.sc::.slice t.da t.dn t.dc::.slice t.ea t.en t.ec::gc r
theorem gc_length:∀ l,(gc l).length=l.length * 4
 | []=>rfl
 | f::r=>by simp only [gc,List.length_cons,gc_length r];omega
theorem gc_append:∀ a b,gc (a++b)=gc a++gc b
 | [],b=>rfl
 | f::r,b=>by simp [gc,gc_append r b]
theorem gc_one:∀ (l:List Tv),∀ u∈gc l,u.oneCell'=true
 | [],u,h=>by simp [gc] at h
 | f::r,u,h=>by
  simp only [gc,List.mem_cons] at h
  rcases h with rfl | rfl | rfl | rfl | h
  ·rfl
  ·rfl
  ·rfl
  ·rfl
  ·exact gc_one r u h
theorem gc_get:∀ (l:List Tv) (k:Nat) (h:k < l.length),(gc l)[k * 4]? = some (.string (bs l[k].name))∧(gc l)[k * 4+1]? = some (.slice l[k].sa l[k].sn l[k].sc)∧(gc l)[k * 4+2]? = some (.slice l[k].da l[k].dn l[k].dc)∧(gc l)[k * 4+3]? = some (.slice l[k].ea l[k].en l[k].ec)
 | f::r,0,_=>⟨rfl,rfl,rfl,rfl⟩
 | f::r,k+1,h=>by
  have ih:=gc_get r k (by simpa using h)
  rw [show (k+1) * 4=k * 4+4 by omega]
  simp only [gc,List.getElem_cons_succ]
  exact ih
def GS (w:World) (v:Value) (l:List Tv):Prop:=
 ((∃ a c,v=.slice a 0 c)∧l=[])∨
 ∃ b off cap,v=.slice (some ⟨b,off,none⟩) l.length cap∧l.length≤cap∧b < w.heap.size∧∀ i u,(gc l)[i]? = some u→w.cell? ⟨b,off+i,none⟩=some u
theorem GS.later {w w':World} {v:Value} {l:List Tv} (h:GS w v l) (hb:Below w.heap.size w w'):GS w' v l:=by
 rcases h with h | ⟨b,off,cap,rfl,hc,hlt,hcell⟩
 ·exact .inl h
 ·refine .inr ⟨b,off,cap,rfl,hc,Nat.lt_of_lt_of_le hlt hb.size,fun i u hu=>?_⟩
  rw [hb.cell (p:=⟨b,off+i,none⟩) hlt];exact hcell i u hu
theorem GS.form {w:World} {v:Value} {l:List Tv} (h:GS w v l):∃ a c,v=.slice a l.length c∧(∀ k,(hk:k < l.length)→∃ b off,a=some ⟨b,off,none⟩∧b < w.heap.size∧
  w.cell? ⟨b,off+k * 4,none⟩=some (.string (bs l[k].name))∧w.cell? ⟨b,off+k * 4+1,none⟩=some (.slice l[k].sa l[k].sn l[k].sc)∧w.cell? ⟨b,off+k * 4+2,none⟩=some (.slice l[k].da l[k].dn l[k].dc)∧w.cell? ⟨b,off+k * 4+3,none⟩=some (.slice l[k].ea l[k].en l[k].ec)):=by
 rcases h with ⟨⟨a,c,rfl⟩,rfl⟩ | ⟨b,off,cap,rfl,hc,hlt,hcell⟩
 ·exact ⟨a,c,rfl,fun k hk=>by simp at hk⟩
 ·refine ⟨_,cap,rfl,fun k hk=>⟨b,off,rfl,hlt,?_⟩⟩
  obtain ⟨c0,c1,c2,c3⟩:=gc_get l k hk
  exact ⟨hcell _ _ c0,by rw [Nat.add_assoc];exact hcell _ _ c1,by rw [Nat.add_assoc];exact hcell _ _ c2,by rw [Nat.add_assoc];exact hcell _ _ c3⟩
theorem GS.at {w:World} {a:Option Addr} {c n:Nat} {l:List Tv} (h:GS w (.slice a n c) l) {wr:World} (hb:Below w.heap.size w wr) {k:Nat} (hk:k < l.length):∃ b off,a=some ⟨b,off,none⟩∧b < w.heap.size∧
  wr.cell? ⟨b,off+k * 4,none⟩=some (.string (bs l[k].name))∧wr.cell? ⟨b,off+k * 4+1,none⟩=some (.slice l[k].sa l[k].sn l[k].sc)∧wr.cell? ⟨b,off+k * 4+2,none⟩=some (.slice l[k].da l[k].dn l[k].dc)∧wr.cell? ⟨b,off+k * 4+3,none⟩=some (.slice l[k].ea l[k].en l[k].ec):=by
 rcases h with ⟨⟨a',c',e⟩,rfl⟩ | ⟨b,off,cap,e,hc,hlt,hcell⟩
 ·simp at hk
 ·injection e with e1 e2 e3
  subst e1
  obtain ⟨c0,c1,c2,c3⟩:=gc_get l k hk
  refine ⟨b,off,rfl,hlt,?_,?_,?_,?_⟩
  ·rw [hb.cell (p:=⟨b,off+k * 4,none⟩) hlt];exact hcell _ _ c0
  ·rw [hb.cell (p:=⟨b,off+k * 4+1,none⟩) hlt,Nat.add_assoc];exact hcell _ _ c1
  ·rw [hb.cell (p:=⟨b,off+k * 4+2,none⟩) hlt,Nat.add_assoc];exact hcell _ _ c2
  ·rw [hb.cell (p:=⟨b,off+k * 4+3,none⟩) hlt,Nat.add_assoc];exact hcell _ _ c3
def OwnG (base:Nat) (w:World) (v:Value) (l:List Tv):Prop:=w.ownsRow base 95 4 v l.length (gc l)
theorem OwnG.nil (base:Nat) (w:World):OwnG base w (.slice none 0 0) []:=World.ownsRow_nil w base 95 4
theorem OwnG.mono {base base':Nat} {w:World} {v:Value} {l:List Tv} (h:OwnG base w v l) (hb:base'≤base):OwnG base' w v l:=World.ownsRow.mono h hb
theorem OwnG.rs {base:Nat} {w:World} {v:Value} {l:List Tv} (h:OwnG base w v l):GS w v l:=by
 rcases h.2 with ⟨rfl,h0⟩ | ⟨g,cap,cur,rfl,hb,hg,hn,_⟩
 ·exact .inl ⟨⟨_,_,rfl⟩,List.eq_nil_of_length_eq_zero h0⟩
 ·refine .inr ⟨g,0,cap,rfl,hn,(Array.getElem?_eq_some_iff.1 hg).1,fun i u hu=>?_⟩
  have:=World.ownsRow.cells h (g:=g) rfl i u hu
  rw [add_lit] at this;exact this
theorem OwnG.lt {base:Nat} {w:World} {v:Value} {l:List Tv} (h:OwnG base w v l) {k:Nat} (hk:v.ownBlock=some k):base≤k∧k < w.heap.size:=World.ownsRow.lt h k hk
theorem OwnG.only {S:List Nat} {base:Nat} {w w':World} {v:Value} {l:List Tv} (h:OwnG base w v l) (ho:Only S w w') (hn:∀ k,v.ownBlock=some k→k∉S):OwnG base w' v l:=by
 rcases h with ⟨h0,h | ⟨g,cap,cur,rfl,hb,hg,hr⟩⟩
 ·exact ⟨h0,.inl h⟩
 ·exact ⟨h0,.inr ⟨g,cap,cur,rfl,hb,(ho.block g (Array.getElem?_eq_some_iff.1 hg).1 (hn g rfl)).trans hg,hr⟩⟩
theorem OwnG.later {base:Nat} {w w':World} {v:Value} {l:List Tv} (h:OwnG base w v l) (hb:Below w.heap.size w w'):OwnG base w' v l:=
 h.only (Only.of_below hb []) (by simp)
theorem OwnG.form {base:Nat} {w:World} {v:Value} {l:List Tv} (h:OwnG base w v l):∃ a c,v=.slice a l.length c:=by
 obtain ⟨a,c,e,_⟩:=h.rs.form;exact ⟨a,c,e⟩
theorem und_G:Tryz.prog.underlying 134=some (.slice 95):=by kernel_rfl
theorem info_G:(Tryz.prog.info? 95).map (fun i=>(i.zero,i.size,i.bytes))=some (some (.agg #[.string ⟨#[]⟩,.slice none 0 0,.slice none 0 0,.slice none 0 0]),4,88):=by kernel_rfl
theorem app_Gs {w:World} {base:Nat} {v x:Value} {l k:List Tv} (hown:OwnG base w v l) (hs:Src Tryz.prog 4 134 x k.length (gc k) w) (hb:l.length+k.length≤100000000) (hbase:base≤w.heap.size)
  {ops:Array Oper} {rest:List Oper} {o:Oper} {a:Act} {Q:Exit→Act→World→Prop} (hgd:o.guard=none) (s y:Operand)
  (ho:o.op=.call { callee:=.builtin .append,args:=#[s,y],argTypes:=#[134,134] }) (hv:a.eval s=v) (hx:a.eval y=x)
  (h:∀ v' w',OwnG base w' v' (l++k)→w.grownBy w' v.ownBlock→(v'.ownBlock=v.ownBlock∨v'.ownBlock=some w.heap.size)→wpList Tryz.prog ops Q rest (a.put o.dst v') w') :
  wpList Tryz.prog ops Q (o::rest) a w:=by
 obtain ⟨i0,hi,hz0,hz1,hz2⟩:=info_parts info_G
 refine wpList_append_src w hgd s y 134 134 ho base 95 i0 _ 4 88 und_G hi hz0 hz1 hz2 rfl v l.length (gc l) hv hown x k.length (gc k) hx hs (by simp only [maxLen];omega) (by omega) hbase ?_
 intro v' w' h1 h2 h3
 exact h v' w' (by unfold OwnG;rw [gc_append,List.length_append];exact h1) h2 h3
theorem src_G (w:World) (t:Tv):Src Tryz.prog 4 134 (.slice (some ⟨w.heap.size,0,none⟩) 1 1) [t].length (gc [t]) (w.alloc (.cells #[.string (bs t.name),.slice t.sa t.sn t.sc,.slice t.da t.dn t.dc,.slice t.ea t.en t.ec] 95)):=by
 refine Src.ofSlice _ und_G ⟨w.heap.size,0,none⟩ 1 1 (gc [t]) (by simp [gc_length]) ?_ (gc_one _)
 exact World.news_of_block (heap_alloc_new w _)
theorem app_G {w:World} {base:Nat} {v:Value} {l:List Tv} (t:Tv) (hown:OwnG base w v l) (hb:l.length+1≤100000000) (hbase:base≤w.heap.size)
  {ops:Array Oper} {rest:List Oper} {o:Oper} {a:Act} {Q:Exit→Act→World→Prop} (hgd:o.guard=none) (s y:Operand)
  (ho:o.op=.call { callee:=.builtin .append,args:=#[s,y],argTypes:=#[134,134] }) (hv:a.eval s=v) (hx:a.eval y=.slice (some ⟨w.heap.size,0,none⟩) 1 1)
  (h:∀ v' w',OwnG base w' v' (l++[t])→Below base w w'→Only v.ownBlock.toList w w'→base≤w'.heap.size→(v'.ownBlock=v.ownBlock∨∃ k,v'.ownBlock=some k∧w.heap.size≤k)→wpList Tryz.prog ops Q rest (a.put o.dst v') w') :
  wpList Tryz.prog ops Q (o::rest) a (w.alloc (.cells #[.string (bs t.name),.slice t.sa t.sn t.sc,.slice t.da t.dn t.dc,.slice t.ea t.en t.ec] 95)):=by
 refine app_Gs (base:=base) (l:=l) (k:=[t]) (World.ownsRow.alloc hown _) (src_G w t) (by simpa using hb) (by simp;omega) hgd s y ho hv hx ?_
 intro v' w' h1 h2 h3
 have hlt:=World.ownsRow.lt hown
 have hB:Below base w w':=((Below.refl _ _).alloc hbase _).grown h2 (by simp;omega) (fun k hk=>(hlt k hk).1)
 refine h v' w' h1 hB (ronly_grown h2) (Nat.le_trans hbase hB.size) ?_
 rcases h3 with h3 | h3
 ·exact .inl h3
 ·exact .inr ⟨_,h3,by simp⟩
end
section
open Go.RowKit
theorem or_any {W:World} {g:Nat} {x y:Int} (h0:W.cell? ⟨g,0,none⟩=some (.int .i64 x)) (h1:W.cell? ⟨g,1,none⟩=some (.int .i64 y)):Calls Tryz.prog 133 #[.slice (some ⟨g,0,none⟩) 2 2] W fun e w'=>e=.returned (.int .i64 (if x=0 then y else x))∧w'=W:=by
 obtain ⟨r,hr⟩:∃ r,(if x=0 then y else x)=r:=⟨_,rfl⟩
 rw [hr]
 have HR:Hid ((if x=0 then y else x)=r):=hr
 clear hr
 go_enter Tryz.func133,Tryz.ntmps133
 go_wp2_with fail
 go_loop [8] (fun i=>∃ k:Nat,k≤2∧i=.int .i64 k∧(1≤k→x=0)∧(2≤k→y=0)) (fun i=>2 - (intOf i).toNat)
 case atStart=>exact ⟨0,by omega,rfl,fun h=>absurd h (by omega),fun h=>absurd h (by omega)⟩
 case round=>
  obtain ⟨k,hk,rfl,hx,hy⟩:=hrel
  have hr:k=0∨k=1∨k=2:=by omega
  rcases hr with rfl | rfl | rfl
  ·clear hx hy hk
   by_cases hx:x=0
   ·have hx':(x == 0)=true:=by simpa using hx
    have HX:Hid (x=0):=hx
    clear hx
    go_wp2_with fail
    go_round
    case rel=>exact ⟨1,by omega,rfl,fun _=>HX.out,fun h=>absurd h (by omega)⟩
    case measure=>simp only [intOf];omega
   ·have hx':(x == 0)=false:=by simpa using hx
    have HX:Hid (¬ x=0):=hx
    clear hx
    go_wp2_with fail
    go_ret
    exact ⟨by rw [← HR.out,if_neg HX.out];rfl,rfl⟩
  ·have HX:Hid (x=0):=hx (by omega)
   clear hx hy hk
   by_cases hx:y=0
   ·have hx':(y == 0)=true:=by simpa using hx
    have HY:Hid (y=0):=hx
    clear hx
    go_wp2_with fail
    go_round
    case rel=>exact ⟨2,by omega,rfl,fun _=>HX.out,fun _=>HY.out⟩
    case measure=>simp only [intOf];omega
   ·have hx':(y == 0)=false:=by simpa using hx
    clear hx
    go_wp2_with fail
    go_ret
    exact ⟨by rw [← HR.out,if_pos HX.out];rfl,rfl⟩
  ·have HX:Hid (x=0):=hx (by omega)
   have HY:Hid (y=0):=hy (by omega)
   clear hx hy hk
   go_wp2_with fail
   go_ret
   exact ⟨by rw [← HR.out,if_pos HX.out,HY.out];rfl,rfl⟩
theorem or_new (x y:Int) (w:World):Calls Tryz.prog 133 #[.slice (some ⟨w.heap.size,0,none⟩) 2 2] (w.alloc (.cells #[.int .i64 x,.int .i64 y] 3)) fun e w'=>e=.returned (.int .i64 (if x=0 then y else x))∧w'=w.alloc (.cells #[.int .i64 x,.int .i64 y] 3):=
 or_any (by simp) (by simp)
theorem cells4 {w0 w1:World} {g h:Nat} {a b c d:Value} (hb:Below w0.heap.size w0 w1) (hg:g < w0.heap.size) (hh:h < w0.heap.size) (c0:w0.cell? ⟨g,0,none⟩=some a) (c1:w0.cell? ⟨g,1,none⟩=some b) (d0:w0.cell? ⟨h,0,none⟩=some c) (d1:w0.cell? ⟨h,1,none⟩=some d) :
  w1.cell? ⟨g,0,none⟩=some a∧w1.cell? ⟨g,1,none⟩=some b∧w1.cell? ⟨h,0,none⟩=some c∧w1.cell? ⟨h,1,none⟩=some d:=
 ⟨(hb.cell (p:=⟨g,0,none⟩) hg).trans c0,(hb.cell (p:=⟨g,1,none⟩) hg).trans c1,(hb.cell (p:=⟨h,0,none⟩) hh).trans d0,(hb.cell (p:=⟨h,1,none⟩) hh).trans d1⟩
theorem lcmp_any (a b:Lb) (w:World) (ha:Lm a) (hb:Lm b):Calls Tryz.prog 99 #[a.val,b.val] w fun e w'=>e=.returned (.int .i64 (cmpL a b))∧Below w.heap.size w w':=by
 obtain ⟨p,n⟩:=a
 obtain ⟨q,m⟩:=b
 have h1:=ha.pkg
 have h2:=hb.pkg
 simp only at h1 h2
 have HC:Hid (∀ w:World,Calls Tryz.prog 36 #[.string (bs p),.string (bs q)] w fun e w'=>e=.returned (.int .i64 (cmpP (pcs p) (pcs q)))∧Laid w w'):=fun w=>cmp_any p q w (by omega) (by omega)
 have HS:Hid (∀ w:World,Calls Tryz.prog 112 #[.string (bs n),.string (bs m)] w fun e w'=>e=.returned (.int .i64 (Lib.compareBytes n m))∧w'=w):=fun w=>compare_any n m w
 clear h1 h2 ha hb
 simp only [Lb.val,cmpL]
 generalize cmpP (pcs p) (pcs q)=x at *
 generalize Lib.compareBytes n m=y at *
 have HO:Hid (∀ w:World,Calls Tryz.prog 133 #[.slice (some ⟨w.heap.size,0,none⟩) 2 2] (w.alloc (.cells #[.int .i64 x,.int .i64 y] 3)) fun e w'=>e=.returned (.int .i64 (if x=0 then y else x))∧w'=w.alloc (.cells #[.int .i64 x,.int .i64 y] 3)):=or_new x y
 obtain ⟨r,hr⟩:∃ r,(if x=0 then y else x)=r:=⟨_,rfl⟩
 rw [hr] at HO ⊢
 clear hr
 have HA:Hid (RB ((w.alloc (.cells #[.string (bs p),.string (bs n)] 27)).alloc (.cells #[.string (bs q),.string (bs m)] 27)) w.heap.size ⟨p,n⟩):=(RB.new w ⟨p,n⟩).later (balloc _ _)
 have HB:Hid (RB ((w.alloc (.cells #[.string (bs p),.string (bs n)] 27)).alloc (.cells #[.string (bs q),.string (bs m)] 27)) (w.heap.size+1) ⟨q,m⟩):=by
  show RB _ _ _
  have:=RB.new (w.alloc (.cells #[.string (bs p),.string (bs n)] 27)) ⟨q,m⟩
  simpa using this
 have HB0:Hid (Below w.heap.size w ((w.alloc (.cells #[.string (bs p),.string (bs n)] 27)).alloc (.cells #[.string (bs q),.string (bs m)] 27))):=bstep (balloc w _) (balloc _ _)
 go_enter Tryz.func99,Tryz.ntmps99
 go_wp2_with fail
 generalize (w.alloc (.cells #[.string (bs p),.string (bs n)] 27)).alloc (.cells #[.string (bs q),.string (bs m)] 27)=w0 at *
 obtain ⟨c0,c1,_,_⟩:=HA.out.cells
 obtain ⟨d0,d1,_,_⟩:=HB.out.cells
 have la:=HA.out.lt
 have lb:=HB.out.lt
 simp only at c0 c1 d0 d1
 have HL:Hid (w.heap.size < w0.heap.size∧w.heap.size+1 < w0.heap.size):=⟨la,lb⟩
 clear la lb
 go_region_held3 (fun w'=>w'.cell? ⟨w.heap.size,0,none⟩=some (.string (bs p))∧w'.cell? ⟨w.heap.size,1,none⟩=some (.string (bs n))∧w'.cell? ⟨w.heap.size+1,0,none⟩=some (.string (bs q))∧w'.cell? ⟨w.heap.size+1,1,none⟩=some (.string (bs m))) (first | (with_reducible exact ⟨c0,c1,d0,d1⟩) | (with_reducible exact KS1.out) | go_keep) (first | (go_at_call 36;(with_reducible refine (HC.out _).mono ?_);rintro e w1 ⟨rfl,hb1⟩;have HL1:Hid (Below w0.heap.size w0 w1):=bstep (Below.refl w0.heap.size w0).drew hb1.below;have KS1:Hid (w1.cell? ⟨w.heap.size,0,none⟩=some (.string (bs p))∧w1.cell? ⟨w.heap.size,1,none⟩=some (.string (bs n))∧w1.cell? ⟨w.heap.size+1,0,none⟩=some (.string (bs q))∧w1.cell? ⟨w.heap.size+1,1,none⟩=some (.string (bs m))):=cells4 HL1.out HL.out.1 HL.out.2 c0 c1 d0 d1;clear hb1) | (go_at_call 112;(with_reducible refine (HS.out _).mono ?_);rintro e w2 ⟨rfl,rfl⟩) | (go_at_call 133;(with_reducible refine (HO.out _).mono ?_);rintro e w3 ⟨rfl,rfl⟩))
 all_goals (go_wp2_with fail;go_ret)
 all_goals exact ⟨rfl,bstep HB0.out (bstep HL1.out (balloc _ _))⟩
end
section
open Go.RowKit
theorem Own.len {base:Nat} {w:World} {v:Value} {l:List (List UInt8)} (h:Own base w v l):∃ a c,v=.slice a l.length c:=by
 obtain ⟨a,c,e,_⟩:=h.bs.form
 exact ⟨a,c,e⟩
end
section
open Go.RowKit
structure Lu (l:Lb):Prop where
 pkg:l.pkg.length≤1000000000
 name:l.name.length≤1000000000
theorem Lu.lm {l:Lb} (h:Lu l):Lm l:=⟨by have:=h.pkg;omega,by have:=h.name;omega⟩
end
section
open Go.RowKit
theorem only_alloc {w w':World} {o:Obj} {b:Option Nat} (h:(w.alloc o).grownBy w' b):Only b.toList w w':=by
 obtain ⟨h1,h2,h3,h4,h5⟩:=h
 refine ⟨h1,h2,h3,by simp at h4;omega,fun k hk hn=>?_⟩
 refine (h5 k (by simp;omega) ?_).trans (heap_alloc_old _ _ hk)
 intro e;apply hn;rw [← e];simp
theorem app_Lt {T:TypeId} (hT:Tryz.prog.underlying T=some (.slice 27)) {w:World} {base:Nat} {v x:Value} {l k:List Lb} (hown:OwnL base w v l) (hs:Src Tryz.prog 2 T x k.length (lc k) w) (hb:l.length+k.length≤100000000) (hbase:base≤w.heap.size)
  {ops:Array Oper} {rest:List Oper} {o:Oper} {a:Act} {Q:Exit→Act→World→Prop} (hgd:o.guard=none) (s y:Operand)
  (ho:o.op=.call { callee:=.builtin .append,args:=#[s,y],argTypes:=#[T,T] }) (hv:a.eval s=v) (hx:a.eval y=x)
  (h:∀ v' w',OwnL base w' v' (l++k)→w.grownBy w' v.ownBlock→(v'.ownBlock=v.ownBlock∨v'.ownBlock=some w.heap.size)→wpList Tryz.prog ops Q rest (a.put o.dst v') w') :
  wpList Tryz.prog ops Q (o::rest) a w:=by
 obtain ⟨i0,hi,hz0,hz1,hz2⟩:=info_parts info_L
 refine wpList_append_src w hgd s y T T ho base 27 i0 _ 2 32 hT hi hz0 hz1 hz2 rfl v l.length (lc l) hv hown x k.length (lc k) hx hs (by simp only [maxLen];omega) (by omega) hbase ?_
 intro v' w' h1 h2 h3
 exact h v' w' (by unfold OwnL;rw [lc_append,List.length_append];exact h1) h2 h3
theorem src_Lt {T:TypeId} (hT:Tryz.prog.underlying T=some (.slice 27)) (w:World) (t:Lb):Src Tryz.prog 2 T (.slice (some ⟨w.heap.size,0,none⟩) 1 1) [t].length (lc [t]) (w.alloc (.cells #[.string (bs t.pkg),.string (bs t.name)] 27)):=by
 refine Src.ofSlice _ hT ⟨w.heap.size,0,none⟩ 1 1 (lc [t]) (by simp [lc_length]) ?_ (lc_one _)
 exact World.news_of_block (heap_alloc_new w _)
theorem app_L1 {T:TypeId} (hT:Tryz.prog.underlying T=some (.slice 27)) {w:World} {base:Nat} {v:Value} {l:List Lb} (t:Lb) (hown:OwnL base w v l) (hb:l.length+1≤100000000) (hbase:base≤w.heap.size)
  {ops:Array Oper} {rest:List Oper} {o:Oper} {a:Act} {Q:Exit→Act→World→Prop} (hgd:o.guard=none) (s y:Operand)
  (ho:o.op=.call { callee:=.builtin .append,args:=#[s,y],argTypes:=#[T,T] }) (hv:a.eval s=v) (hx:a.eval y=.slice (some ⟨w.heap.size,0,none⟩) 1 1)
  (h:∀ v' w',OwnL base w' v' (l++[t])→Below base w w'→Only v.ownBlock.toList w w'→base≤w'.heap.size→(v'.ownBlock=v.ownBlock∨∃ k,v'.ownBlock=some k∧w.heap.size≤k)→wpList Tryz.prog ops Q rest (a.put o.dst v') w') :
  wpList Tryz.prog ops Q (o::rest) a (w.alloc (.cells #[.string (bs t.pkg),.string (bs t.name)] 27)):=by
 refine app_Lt hT (base:=base) (l:=l) (k:=[t]) (World.ownsRow.alloc hown _) (src_Lt hT w t) (by simpa using hb) (by simp;omega) hgd s y ho hv hx ?_
 intro v' w' h1 h2 h3
 have hlt:=World.ownsRow.lt hown
 have hB:Below base w w':=((Below.refl _ _).alloc hbase _).grown h2 (by simp;omega) (fun k hk=>(hlt k hk).1)
 refine h v' w' h1 hB (only_alloc h2) (Nat.le_trans hbase hB.size) ?_
 rcases h3 with h3 | h3
 ·exact .inl h3
 ·exact .inr ⟨_,h3,by simp⟩
def bl (v:Value):List Nat:=v.ownBlock.toList
structure OL (base:Nat) (w:World) (g cap:Nat) (l:List Lb) (rest:List Value):Prop where
 blk:w.heap[g]? = some (.cells (lc l++rest).toArray 27 (0,0))
 ge:base≤g
 cm:cap≤maxLen
 sz:l.length * 2+rest.length=cap * 2
theorem OL.lt {base:Nat} {w:World} {g cap:Nat} {l:List Lb} {rest:List Value} (h:OL base w g cap l rest):g < w.heap.size:=(Array.getElem?_eq_some_iff.1 h.blk).1
theorem OL.len {base:Nat} {w:World} {g cap:Nat} {l:List Lb} {rest:List Value} (h:OL base w g cap l rest):l.length≤cap:=by have:=h.sz;omega
theorem OL.own {base:Nat} {w:World} {g cap:Nat} {l:List Lb} {rest:List Value} (h:OL base w g cap l rest):OwnL base w (.slice (some ⟨g,0,none⟩) l.length cap) l:=
 ⟨lc_length l,.inr ⟨g,cap,_,rfl,h.ge,h.blk,h.len,h.cm,by simp [lc_length];exact h.sz,by rw [← lc_length];exact List.take_left⟩⟩
theorem OL.of {base:Nat} {w:World} {v:Value} {l:List Lb} (h:OwnL base w v l):(v=.slice none 0 0∧l=[])∨∃ g cap rest,v=.slice (some ⟨g,0,none⟩) l.length cap∧OL base w g cap l rest:=by
 rcases h.2 with ⟨rfl,h0⟩ | ⟨g,cap,cur,rfl,hb,hg,hn,hm,hs,ht⟩
 ·exact .inl ⟨rfl,List.eq_nil_of_length_eq_zero h0⟩
 ·refine .inr ⟨g,cap,cur.toList.drop (l.length * 2),rfl,?_,hb,hm,by simp;omega⟩
  rw [← ht,List.take_append_drop];simpa using hg
theorem OL.split {base:Nat} {w:World} {g cap:Nat} {a b:List Lb} {rest:List Value} (h:OL base w g cap (a++b) rest):OL base w g cap a (lc b++rest):=
 ⟨by rw [← List.append_assoc,← lc_append];exact h.blk,h.ge,h.cm,by have:=h.sz;simp [lc_length] at this ⊢;omega⟩
theorem OL.only {S:List Nat} {base:Nat} {w w':World} {g cap:Nat} {l:List Lb} {rest:List Value} (h:OL base w g cap l rest) (ho:Only S w w') (hn:g∉S):OL base w' g cap l rest:=
 ⟨(ho.block g h.lt hn).trans h.blk,h.ge,h.cm,h.sz⟩
theorem OL.later {base:Nat} {w w':World} {g cap:Nat} {l:List Lb} {rest:List Value} (h:OL base w g cap l rest) (hb:Below w.heap.size w w'):OL base w' g cap l rest:=h.only (Only.of_below hb []) (by simp)
theorem OL.cell {base:Nat} {w:World} {g cap:Nat} {l:List Lb} {rest:List Value} (h:OL base w g cap l rest) {j:Nat} (hj:j < l.length) :
  w.cell? ⟨g,j * 2,none⟩=some (.string (bs l[j].pkg))∧w.cell? ⟨g,j * 2+1,none⟩=some (.string (bs l[j].name)):=by
 obtain ⟨a,c,e,hf⟩:=h.own.rs.form
 obtain ⟨b,off,ha,_,h0⟩:=hf j hj
 injection e with e1 _ _
 rw [ha] at e1
 injection e1 with e1
 injection e1 with e2 e3 _
 subst e2 e3
 simpa using h0
theorem OL.soft {base:Nat} {w:World} {g cap:Nat} {l:List Lb} {rest:List Value} (h:OL base w g cap l rest) (o:Nat):w.frozen? ⟨g,o,none⟩=false:=by
 have hb:=h.blk
 simp [World.frozen?,hb]
theorem lc_set:∀ (l:List Lb) (i:Nat) (f:Lb) (rest:List Value),i < l.length→
  ((lc l++rest).set (i * 2) (.string (bs f.pkg))).set (i * 2+1) (.string (bs f.name))=lc (l.set i f)++rest
 | g::l,0,f,rest,_=>by simp [lc]
 | g::l,i+1,f,rest,h=>by
  have ih:=lc_set l i f rest (by simpa using h)
  rw [show (i+1) * 2=i * 2+1+1 by omega]
  simp only [List.set_cons_succ,lc,List.cons_append]
  rw [← ih]
theorem OL.set {base:Nat} {w:World} {g cap:Nat} {l:List Lb} {rest:List Value} (h:OL base w g cap l rest) {i:Nat} (hi:i < l.length) (f:Lb) :
  OL base ((w.setCell ⟨g,i * 2,none⟩ (.string (bs f.pkg))).setCell ⟨g,i * 2+1,none⟩ (.string (bs f.name))) g cap (l.set i f) rest:=by
 refine ⟨?_,h.ge,h.cm,by simpa using h.sz⟩
 rw [heap_setCell _ _ _ _ (heap_setCell _ _ _ _ h.blk)]
 congr 2
 apply Array.toList_inj.1
 simp only [Array.toList_setIfInBounds]
 exact lc_set l i f rest hi
theorem only_set2 (w:World) (g o1 o2:Nat) (a b:Value):Only [g] w ((w.setCell ⟨g,o1,none⟩ a).setCell ⟨g,o2,none⟩ b):=
 (Only.set w g o1 a).trans (Only.set _ g o2 b)
theorem only_row (w:World) (g:Nat) (cs:Array Value):Only [g] w (w.setRow g cs):=⟨rfl,rfl,rfl,by simp [World.setRow],fun k _ hn=>setRow_other w g k cs (by simpa using hn)⟩
theorem OL.row {base:Nat} {w:World} {g cap:Nat} {l:List Lb} {rest:List Value} (h:OL base w g cap l rest) {l':List Lb} {rest':List Value} (hs:l'.length * 2+rest'.length=cap * 2) {cs:Array Value} (hc:cs.toList=lc l'++rest'):OL base (w.setRow g cs) g cap l' rest':=
 ⟨by rw [setRow_heap w g _ cs 27 (0,0) h.blk];congr 2;apply Array.toList_inj.1;simpa using hc,h.ge,h.cm,hs⟩
theorem run_copy_f (w:World) (ty:TypeId) (g o dLen dCap:Nat) (a:Addr) (sLen sCap:Nat) (cur:Array Value) (cs:List Value)
  (hg:w.heap[g]? = some (.cells cur 27 (0,0))) (hn:cs.length=Nat.min sLen dLen * 2)
  (hsrc:∀ j v,cs[j]? = some v→w.cell? (a.add j)=some v) (hfit:o+cs.length≤cur.size) (h1:∀ v∈cs,v.oneCell'=true) :
  (Builtin.copy_ #[23,23] ty #[.slice (some ⟨g,o,none⟩) dLen dCap,.slice (some a) sLen sCap]).run Tryz.prog w =
   .ok (goInt (Nat.min sLen dLen:Nat)) (w.setRow g (cur.toList.take o++cs++cur.toList.drop (o+cs.length)).toArray):=by
 have hl:=run_loadCells_list (P:=Tryz.prog) w a cs hsrc
 have hst:=run_storeCells_at Tryz.prog g o 27 cs 0 cur w hg (by simpa using hfit) h1
 obtain ⟨i,hq,_,hi,_⟩:=info_parts info_L
 simp [Builtin.copy_,run_underlying und_L,Builtin.lenOf,Builtin.firstCells,sizeOf,typeInfo,hq,hi,← hn,hl,hst]
end
end Go.Proofs.YtppnbdnpapellaaGreatDoor
