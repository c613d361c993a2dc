import Derived.Test.YtppnbdnpapellaaGreatDoorJOrd
import Derived.Lib.SlicesCompact
import Derived.Test.YtppnbdnpapellaaGreatDoorJBase
namespace Go.Proofs.YtppnbdnpapellaaGreatDoor
def cf (a b:List UInt8):Int:=cmpP (pcs a) (pcs b)
theorem cf_range (a b:List UInt8):cf a b = -1∨cf a b=0∨cf a b=1:=cmpP_range _ _
theorem cf_zero {a b:List UInt8}:cf a b=0↔a=b:=⟨fun h=>pcs_inj (cmpP_zero h),fun h=>by subst h;exact cmpP_refl _⟩
theorem cf_self (a:List UInt8):cf a a=0:=cf_zero.2 rfl
theorem cf_neg (a b:List UInt8):cf b a = - cf a b:=cmpP_neg _ _
theorem cf_trans {a b c:List UInt8} (h:cf a b < 0) (k:cf b c < 0):cf a c < 0:=by
 have h1:cf a b = -1:=by rcases cf_range a b with e | e | e<;>omega
 have k1:cf b c = -1:=by rcases cf_range b c with e | e | e<;>omega
 have:=cmpP_trans _ _ _ h1 k1
 unfold cf;omega
theorem cf_le_lt {a b c:List UInt8} (h:cf a b≤0) (k:cf b c < 0):cf a c < 0:=by
 by_cases e:cf a b=0
 ·rw [cf_zero.1 e];exact k
 ·exact cf_trans (by omega) k
theorem cf_le_trans {a b c:List UInt8} (h:cf a b≤0) (k:cf b c≤0):cf a c≤0:=by
 by_cases e:cf b c=0
 ·rw [← cf_zero.1 e];exact h
 ·have:=cf_le_lt h (show cf b c < 0 by omega);omega
def Up (l:List (List UInt8)):Prop:=l.Pairwise fun a b=>cf a b < 0
theorem up_unique:∀ {a b:List (List UInt8)},Up a→Up b→(∀ x,x∈a↔x∈b)→a=b
 | [],[],_,_,_=>rfl
 | [],y::_,_,_,h=>absurd ((h y).2 (by simp)) (by simp)
 | x::_,[],_,_,h=>absurd ((h x).1 (by simp)) (by simp)
 | x::a,y::b,ha,hb,h=>by
  have ha':=List.pairwise_cons.1 ha
  have hb':=List.pairwise_cons.1 hb
  have exy:x=y:=by
   have h1:=(h x).1 (by simp)
   have h2:=(h y).2 (by simp)
   rcases List.mem_cons.1 h1 with e | h1
   ·exact e
   rcases List.mem_cons.1 h2 with e | h2
   ·exact e.symm
   have k1:=ha'.1 y h2
   have k2:=hb'.1 x h1
   rw [cf_neg] at k2;omega
  subst exy
  congr 1
  refine up_unique ha'.2 hb'.2 (fun z=>⟨fun hz=>?_,fun hz=>?_⟩)
  ·rcases List.mem_cons.1 ((h z).1 (by simp [hz])) with e | e
   ·subst e;have:=ha'.1 z hz;rw [cf_self] at this;omega
   ·exact e
  ·rcases List.mem_cons.1 ((h z).2 (by simp [hz])) with e | e
   ·subst e;have:=hb'.1 z hz;rw [cf_self] at this;omega
   ·exact e
def ins (x:List UInt8):List (List UInt8)→List (List UInt8)
 | []=>[x]
 | y::l=>if cf x y < 0 then x::y::l else if cf x y=0 then y::l else y::ins x l
theorem mem_ins (x z:List UInt8):∀ l,z∈ins x l↔z=x∨z∈l
 | []=>by simp [ins]
 | y::l=>by
  unfold ins
  split
  ·simp
  ·split
   ·rename_i _ h
    have:=cf_zero.1 h
    subst this
    simp
   ·simp [mem_ins x z l]
    constructor
    ·rintro (h | h | h)<;>simp [h]
    ·rintro (h | h | h)<;>simp [h]
theorem up_ins (x:List UInt8):∀ l,Up l→Up (ins x l)
 | [],_=>by simp [ins,Up]
 | y::l,h=>by
  have h':=List.pairwise_cons.1 h
  unfold ins
  split
  ·rename_i hx
   refine List.pairwise_cons.2 ⟨fun z hz=>?_,h⟩
   rcases List.mem_cons.1 hz with e | e
   ·subst e;exact hx
   ·exact cf_trans hx (h'.1 z e)
  ·split
   ·exact h
   ·rename_i h1 h2
    refine List.pairwise_cons.2 ⟨fun z hz=>?_,up_ins x l h'.2⟩
    rcases (mem_ins x z l).1 hz with e | e
    ·subst e;rw [cf_neg];omega
    ·exact h'.1 z e
def norm:List (List UInt8)→List (List UInt8)
 | []=>[]
 | x::l=>ins x (norm l)
theorem up_norm:∀ l,Up (norm l)
 | []=>by simp [norm,Up]
 | x::l=>up_ins x _ (up_norm l)
theorem mem_norm (z:List UInt8):∀ l,z∈norm l↔z∈l
 | []=>by simp [norm]
 | x::l=>by simp [norm,mem_ins,mem_norm z l]
theorem norm_of {r l:List (List UInt8)} (h:Up r) (hm:∀ x,x∈r↔x∈l):norm l=r:=
 up_unique (up_norm l) h fun x=>(mem_norm x l).trans (hm x).symm
theorem norm_up {l:List (List UInt8)} (h:Up l):norm l=l:=norm_of h fun _=>Iff.rfl
theorem norm_len:∀ l,(norm l).length≤l.length
 | []=>by simp [norm]
 | x::l=>by
  have ih:=norm_len l
  have key:∀ m,(ins x m).length≤m.length+1:=by
   intro m
   induction m with
   | nil=>simp [ins]
   | cons y m ih=>
    unfold ins
    split
    ·simp
    ·split
     ·simp
     ·simp;omega
  have:=key (norm l)
  simp [norm];omega
theorem up_filter {l:List (List UInt8)} (h:Up l) (p:List UInt8→Bool):Up (l.filter p):=List.Pairwise.filter p h
theorem up_get {l:List (List UInt8)} (h:Up l) {i j:Nat} (hij:i < j) (hj:j < l.length):cf (l[i]'(by omega)) (l[j]'hj) < 0:=
 List.pairwise_iff_getElem.1 h i j _ hj hij
theorem compact_up (d:Array (List UInt8)) (hs:∀ i j,i < j→j < d.size→cf d[i]! d[j]!≤0):∀ m,m≤d.size→
  Up (Lib.compactUpTo d m)∧(∀ x,x∈Lib.compactUpTo d m↔∃ j,j < m∧d[j]! = x)
 | 0,_=>by simp [Lib.compactUpTo,Up]
 | m+1,hm=>by
  obtain ⟨h1,h2⟩:=compact_up d hs m (by omega)
  rw [Lib.compactUpTo_succ]
  cases hk:Lib.keeps d m with
  | true=>
   simp only [Lib.keeps,decide_eq_true_eq] at hk
   simp only [if_true]
   refine ⟨List.pairwise_append.2 ⟨h1,by simp,fun x hx y hy=>?_⟩,fun x=>?_⟩
   ·simp at hy;subst hy
    obtain ⟨j,hj,rfl⟩:=(h2 x).1 hx
    have hm0:m≠0:=by omega
    have hne:d[m]!≠d[m - 1]!:=by rcases hk with e | e<;>first | exact absurd e hm0 | exact e
    have hlt:cf d[m - 1]! d[m]! < 0:=by
     have:=hs (m - 1) m (by omega) (by omega)
     have h0:cf d[m - 1]! d[m]!≠0:=fun e=>hne (cf_zero.1 e).symm
     omega
    by_cases e:j=m - 1
    ·rw [e];exact hlt
    ·exact cf_le_lt (hs j (m - 1) (by omega) (by omega)) hlt
   ·rw [List.mem_append,h2]
    constructor
    ·rintro (⟨j,hj,e⟩ | e)
     ·exact ⟨j,by omega,e⟩
     ·simp at e;exact ⟨m,by omega,e.symm⟩
    ·rintro ⟨j,hj,e⟩
     by_cases hjm:j=m
     ·subst hjm;right;simp [e]
     ·left;exact ⟨j,by omega,e⟩
  | false=>
   simp only [Lib.keeps,decide_eq_false_iff_not,not_or] at hk
   simp only [Bool.false_eq_true,if_false,List.append_nil]
   refine ⟨h1,fun x=>?_⟩
   rw [h2]
   constructor
   ·rintro ⟨j,hj,e⟩;exact ⟨j,by omega,e⟩
   ·rintro ⟨j,hj,e⟩
    by_cases hjm:j=m
    ·subst hjm
     have e2:d[j]! = d[j - 1]!:=Classical.not_not.1 hk.2
     exact ⟨j - 1,by omega,by rw [← e2];exact e⟩
    ·exact ⟨j,by omega,e⟩
theorem compact_norm (l s:List (List UInt8)) (hp:s.Perm l) (hs:s.Pairwise fun a b=>cf a b≤0):Lib.compactUpTo s.toArray s.toArray.size=norm l:=by
 have h:=compact_up s.toArray (fun i j hij hj=>by
  have hj':j < s.length:=by simpa using hj
  have hi':i < s.length:=by omega
  simp [hj',hi']
  exact List.pairwise_iff_getElem.1 hs i j hi' hj' hij) s.toArray.size (Nat.le_refl _)
 refine (norm_of h.1 fun x=>?_).symm
 rw [h.2 x,← hp.mem_iff]
 constructor
 ·rintro ⟨j,hj,e⟩
  have hj':j < s.length:=by simpa using hj
  simp [hj'] at e
  rw [← e];exact List.getElem_mem _
 ·intro hx
  obtain ⟨j,hj,e⟩:=List.getElem_of_mem hx
  exact ⟨j,by simpa using hj,by simp [hj,e]⟩
def pick (f m s:Bool) (a b:List (List UInt8)):List (List UInt8):=
 (norm (a++b)).filter fun x=>if x∈a then (if x∈b then m else f) else s
theorem up_pick (f m s:Bool) (a b:List (List UInt8)):Up (pick f m s a b):=up_filter (up_norm _) _
theorem mem_pick (f m s:Bool) (a b:List (List UInt8)) (x:List UInt8) :
  x∈pick f m s a b↔(x∈a∧x∈b∧m=true)∨(x∈a∧x∉b∧f=true)∨(x∉a∧x∈b∧s=true):=by
 unfold pick
 rw [List.mem_filter,mem_norm,List.mem_append]
 by_cases ha:x∈a<;>by_cases hb:x∈b<;>simp [ha,hb]
theorem up_opt {x:List UInt8} {l:List (List UInt8)} (h:Up l) (hx:∀ z∈l,cf x z < 0) (f:Bool):Up ((if f then [x] else [])++l):=by
 cases f
 ·simpa using h
 ·exact List.pairwise_cons.2 ⟨hx,h⟩
theorem pick_lt (f m s:Bool) {x y:List UInt8} {a b:List (List UInt8)} (ha:Up (x::a)) (hb:Up (y::b)) (h:cf x y < 0) :
  pick f m s (x::a) (y::b)=(if f then [x] else [])++pick f m s a (y::b):=by
 have ha':=List.pairwise_cons.1 ha
 have hb':=List.pairwise_cons.1 hb
 have hall:∀ z,z∈a∨z∈y::b→cf x z < 0:=by
  rintro z (hz | hz)
  ·exact ha'.1 z hz
  ·rcases List.mem_cons.1 hz with e | e
   ·rw [e];exact h
   ·exact cf_trans h (hb'.1 z e)
 have hxa:x∉a:=fun e=>by have:=hall x (Or.inl e);rw [cf_self] at this;omega
 have hxb:x∉y::b:=fun e=>by have:=hall x (Or.inr e);rw [cf_self] at this;omega
 refine up_unique (up_pick _ _ _ _ _) (up_opt (up_pick _ _ _ _ _) (fun z hz=>hall z (by
  rcases (mem_pick f m s a (y::b) z).1 hz with e | e | e
  ·exact Or.inl e.1
  ·exact Or.inl e.1
  ·exact Or.inr e.2.1)) f) (fun z=>?_)
 rw [mem_pick,List.mem_append,mem_pick]
 by_cases hz:z=x
 ·subst hz
  cases f<;>simp_all
 ·have e1:z∈x::a↔z∈a:=by simp [hz]
  rw [e1]
  cases f<;>simp [hz]
theorem pick_comm (f m s:Bool) (a b:List (List UInt8)):pick f m s a b=pick s m f b a:=
 up_unique (up_pick _ _ _ _ _) (up_pick _ _ _ _ _) fun z=>by
  rw [mem_pick,mem_pick]
  by_cases ha:z∈a<;>by_cases hb:z∈b<;>simp [ha,hb]
theorem pick_gt (f m s:Bool) {x y:List UInt8} {a b:List (List UInt8)} (ha:Up (x::a)) (hb:Up (y::b)) (h:0 < cf x y) :
  pick f m s (x::a) (y::b)=(if s then [y] else [])++pick f m s (x::a) b:=by
 rw [pick_comm,pick_lt s m f hb ha (by rw [cf_neg];omega),pick_comm]
theorem pick_eq (f m s:Bool) {x:List UInt8} {a b:List (List UInt8)} (ha:Up (x::a)) (hb:Up (x::b)) :
  pick f m s (x::a) (x::b)=(if m then [x] else [])++pick f m s a b:=by
 have ha':=List.pairwise_cons.1 ha
 have hb':=List.pairwise_cons.1 hb
 have hxa:x∉a:=fun e=>by have:=ha'.1 x e;rw [cf_self] at this;omega
 have hxb:x∉b:=fun e=>by have:=hb'.1 x e;rw [cf_self] at this;omega
 refine up_unique (up_pick _ _ _ _ _) (up_opt (up_pick _ _ _ _ _) (fun z hz=>by
  rcases (mem_pick f m s a b z).1 hz with e | e | e
  ·exact ha'.1 z e.1
  ·exact ha'.1 z e.1
  ·exact hb'.1 z e.2.1) m) (fun z=>?_)
 rw [mem_pick,List.mem_append,mem_pick]
 by_cases hz:z=x
 ·subst hz
  cases m<;>simp_all
 ·cases m<;>simp [hz]
theorem pick_nil (f m s:Bool) {a:List (List UInt8)} (ha:Up a):pick f m s a []=if f then a else []:=by
 refine up_unique (up_pick _ _ _ _ _) (by cases f with | false=>simp [Up] | true=>simpa using ha) fun z=>?_
 rw [mem_pick]
 cases f<;>simp
theorem nil_pick (f m s:Bool) {b:List (List UInt8)} (hb:Up b):pick f m s [] b=if s then b else []:=by
 rw [pick_comm,pick_nil _ _ _ hb]
def uni (a b:List (List UInt8)):List (List UInt8):=norm (a++b)
def som (a b:List (List UInt8)) (i:Bool):List (List UInt8):=norm (a.filter fun x=>decide (x∈b) == i)
theorem mem_uni {a b:List (List UInt8)} {x:List UInt8}:x∈uni a b↔x∈a∨x∈b:=by unfold uni;rw [mem_norm];simp
theorem mem_met {a b:List (List UInt8)} {x:List UInt8}:x∈som a b true↔x∈a∧x∈b:=by unfold som;rw [mem_norm];simp
theorem mem_mns {a b:List (List UInt8)} {x:List UInt8}:x∈som a b false↔x∈a∧x∉b:=by unfold som;rw [mem_norm];simp
theorem up_uni (a b:List (List UInt8)):Up (uni a b):=up_norm _
theorem up_som (a b:List (List UInt8)) (i:Bool):Up (som a b i):=up_norm _
theorem pick_uni (a b:List (List UInt8)):pick true true true (norm a) (norm b)=uni a b:=
 up_unique (up_pick _ _ _ _ _) (up_uni _ _) fun z=>by
  rw [mem_pick,mem_norm,mem_norm,mem_uni]
  by_cases ha:z∈a<;>by_cases hb:z∈b<;>simp [ha,hb]
theorem pick_mns (a b:List (List UInt8)):pick true false false (norm a) (norm b)=som a b false:=
 up_unique (up_pick _ _ _ _ _) (up_som _ _ _) fun z=>by
  rw [mem_pick,mem_norm,mem_norm,mem_mns]
  by_cases ha:z∈a<;>by_cases hb:z∈b<;>simp [ha,hb]
theorem abv_between {a b c:List UInt8} (h:abvV a c=true) (h1:cf a b < 0) (h2:cf b c < 0):abvV a b=true:=by
 obtain ⟨r,hr,e⟩:=(abvV_iff a c).1 h
 have h1':cmpP (pcs a) (pcs b) = -1:=by rcases cf_range a b with k | k | k<;>simp only [cf] at *<;>omega
 have h2':cmpP (pcs b) (pcs a++r)≤0:=by rw [← e];simp only [cf] at h2;omega
 exact (abvV_iff a b).2 (cmpP_between _ _ _ h1' h2')
section
open Go.RowKit
theorem Own.only {S:List Nat} {base:Nat} {w w':World} {v:Value} {l:List (List UInt8)} (h:Own base w v l) (ho:Only S w w') (hn:∀ k,v.ownBlock=some k→k∉S):Own base w' v l:=by
 refine ⟨h.1,?_⟩
 rcases h.2 with ⟨rfl,h0⟩ | ⟨g,cap,cur,rfl,hb,hg,hr⟩
 ·exact .inl ⟨rfl,h0⟩
 ·exact .inr ⟨g,cap,cur,rfl,hb,by rw [ho.block g (Array.getElem?_eq_some_iff.1 hg).1 (hn g rfl)];exact hg,hr⟩
theorem Own.later {base:Nat} {w w':World} {v:Value} {l:List (List UInt8)} (h:Own base w v l) (hb:Below w.heap.size w w'):Own base w' v l:=
 h.only (Only.of_below hb []) (by simp)
theorem Own.lt {base:Nat} {w:World} {v:Value} {l:List (List UInt8)} (h:Own base w v l) {k:Nat} (hk:v.ownBlock=some k):base≤k∧k < w.heap.size:=World.ownsRow.lt h k hk
theorem cell_one_str (w:World) (u:Value) (k:TypeId):∀ j x,[u][j]? = some x→(w.alloc (.cells #[u] k)).cell? ((⟨w.heap.size,0,none⟩:Addr).add j)=some x:=by
 intro j x hx
 cases j with
 | zero=>simp at hx;subst hx;rw [add_lit];simp
 | succ j=>simp at hx
theorem src_one (w:World) (p:List UInt8):Src Tryz.prog 1 24 (.slice (some ⟨w.heap.size,0,none⟩) 1 1) [p].length (sc [p]) (w.alloc (.cells #[.string (bs p)] 9)):=
 Src.ofSlice _ und86 ⟨w.heap.size,0,none⟩ 1 1 (sc [p]) (by simp [sc]) (cell_one_str w _ 9) (sc_one _)
theorem app_one {w:World} {base:Nat} {v:Value} {l:List (List UInt8)} (p:List UInt8) (hown:Own base w v l) (hb:l.length+1≤8796093022208) (hbase:base≤w.heap.size)
  {ops:Array Oper} {rest:List Oper} {o:Oper} {a:Act} {Q:Exit→Act→World→Prop} (hgd:o.guard=none) (s y:Operand)
  (ho:o.op=.call { callee:=.builtin .append,args:=#[s,y],argTypes:=#[24,24] }) (hv:a.eval s=v) (hx:a.eval y=.slice (some ⟨w.heap.size,0,none⟩) 1 1)
  (h:∀ v' w',Own base w' v' (l++[p])→Below base w w'→base≤w'.heap.size→w.grownBy w' v.ownBlock→(v'.ownBlock=v.ownBlock∨v'.ownBlock=some (w.heap.size+1))→wpList Tryz.prog ops Q rest (a.put o.dst v') w') :
  wpList Tryz.prog ops Q (o::rest) a (w.alloc (.cells #[.string (bs p)] 9)):=by
 refine app_strs (base:=base) (l:=l) (k:=[p]) (World.ownsRow.alloc hown _) (src_one w p) (by simpa using hb) (by simp;omega) hgd s y ho hv hx ?_
 intro v' w' h1 h2 h3
 have hlt:=World.ownsRow.lt hown
 have hB:Below base w w':=((Below.refl _ _).alloc hbase _).grown h2 (by simp;omega) (fun k hk=>(hlt k hk).1)
 refine h v' w' h1 hB (Nat.le_trans hbase hB.size) ((World.grownBy_alloc w _ _).trans h2) (by simpa using h3)
theorem SS.form {w:World} {v:Value} {L:List (List UInt8)} (h:SS w v L):∃ a c,v=.slice a L.length c∧(∀ k,(hk:k < L.length)→∃ b off,a=some ⟨b,off,none⟩∧b < w.heap.size∧w.cell? ⟨b,off+k,none⟩=some (.string (bs L[k]))):=by
 rcases h with ⟨⟨a,c,rfl⟩,rfl⟩ | ⟨b,off,cap,rfl,hc,hlt,hcell⟩
 ·exact ⟨a,c,rfl,fun k hk=>by simp at hk⟩
 ·exact ⟨_,_,rfl,fun k hk=>⟨b,off,rfl,hlt,hcell k _ (by simp [sc_get,hk])⟩⟩
theorem drop_same {α:Type} [DecidableEq α] {A B:List α} {k:Nat} (ha:k < A.length) (hb:k < B.length):decide (A.drop k=B.drop k)=(decide (A[k]=B[k]) && decide (A.drop (k+1)=B.drop (k+1))):=by
 have e1:=List.drop_eq_getElem_cons ha
 have e2:=List.drop_eq_getElem_cons hb
 rw [Bool.eq_iff_iff]
 simp only [Bool.and_eq_true,decide_eq_true_eq]
 rw [e1,e2,List.cons.injEq]
structure Sm (l:List (List UInt8)):Prop where
 len:l.length≤1000000000
 each:∀ x∈l,x.length≤140737488355328
theorem Sm.norm {l:List (List UInt8)} (h:Sm l):Sm (norm l):=⟨Nat.le_trans (norm_len l) h.len,fun x hx=>h.each x ((mem_norm x l).1 hx)⟩
theorem bstep {a b c:World} (h:Below a.heap.size a b) (k:Below b.heap.size b c):Below a.heap.size a c:=below_trans h (below_mono k h.size)
end
theorem okP_len {a:List UInt8} (h:okP a=true):a.length≤120∧dep a≤12:=by
 unfold okP at h;simp only [Bool.and_eq_true,decide_eq_true_eq] at h;exact h.1
theorem lst_none:∀ (l:List UInt8),l.count 47=0→lst l = -1
 | [],_=>rfl
 | c::l,h=>by
  rw [List.count_cons] at h
  have h1:l.count 47=0:=by omega
  have h2:c≠47:=by rintro rfl;simp at h
  unfold lst;rw [lst_none l h1];simp [h2]
theorem lst_some:∀ (l:List UInt8),0 < l.count 47→0≤lst l
 | [],h=>by simp at h
 | c::l,h=>by
  unfold lst
  by_cases h0:0 < l.count 47
  ·have:=lst_some l h0;rw [if_pos this];omega
  ·rw [List.count_cons] at h
   have hc:c=47:=by
    by_cases e:c=47
    ·exact e
    ·have hf:(c == 47)=false:=by simpa using e
     rw [hf] at h
     simp only [Bool.false_eq_true,if_false,Nat.add_zero] at h
     exact absurd h h0
   have:=lst_ge l
   rw [if_pos hc]
   split<;>omega
theorem lst_cut:∀ (l:List UInt8),0≤lst l→l=l.take (lst l).toNat++47::l.drop (lst l+1).toNat
 | [],h=>by simp [lst] at h
 | c::l,h=>by
  by_cases h0:0≤lst l
  ·have ih:=lst_cut l h0
   have e:lst (c::l)=lst l+1:=by rw [lst,if_pos h0]
   rw [e]
   obtain ⟨n,hn⟩:∃ n:Nat,lst l=n:=⟨(lst l).toNat,by omega⟩
   rw [hn] at ih ⊢
   have e1:((n:Int)+1).toNat=n+1:=by omega
   have e2:((n:Int)+1+1).toNat=n+1+1:=by omega
   have e3:(n:Int).toNat=n:=by omega
   rw [e1,e2,List.take_succ_cons,List.drop_succ_cons,List.cons_append]
   rw [e1,e3] at ih
   rw [← ih]
  ·have hc:c=47:=by
    by_cases e:c=47
    ·exact e
    ·rw [lst,if_neg h0,if_neg e] at h;omega
   have e:lst (c::l)=0:=by rw [lst,if_neg h0,if_pos hc]
   rw [e,hc];rfl
theorem lst_app:∀ (x b:List UInt8),lst (x++47::b)=x.length+1+lst b
 | [],b=>by
  have:=lst_ge b
  rw [List.nil_append,lst]
  by_cases h:0≤lst b
  ·rw [if_pos h];simp;omega
  ·rw [if_neg h,if_pos rfl];simp;omega
 | c::x,b=>by
  have ih:=lst_app x b
  have:=lst_ge b
  rw [List.cons_append,lst,ih,if_pos (by omega)]
  simp;omega
theorem base_app (x b:List UInt8):base (x++47::b)=base b:=by
 have:=lst_ge b
 unfold base
 rw [lst_app]
 have e:((x.length:Int)+1+lst b+1).toNat=x.length+(1+(lst b+1).toNat):=by omega
 rw [e,← List.drop_drop,List.drop_left,← List.drop_drop];rfl
def whole (a b:List UInt8):Bool:=decide (a.length+b.length+1≤120) || a.isEmpty || b.isEmpty
structure Fl where
 path:List UInt8
 text:List UInt8
 blob:Int
 size:Int
def feq (a b:Fl):Bool:=a.path == b.path && a.text == b.text && a.blob == b.blob && a.size == b.size
theorem feq_iff (a b:Fl):feq a b=true↔a=b:=by
 obtain ⟨p,t,b1,s⟩:=a
 obtain ⟨p',t',b',s'⟩:=b
 simp [feq,and_assoc]
def leq:List Fl→List Fl→Bool
 | [],[]=>true
 | a::l,b::m=>feq a b && leq l m
 | _,_=>false
theorem leq_iff:∀ (l m:List Fl),leq l m=true↔l=m
 | [],[]=>by simp [leq]
 | [],_::_=>by simp [leq]
 | _::_,[]=>by simp [leq]
 | a::l,b::m=>by
  simp only [leq,Bool.and_eq_true,feq_iff,leq_iff l m,List.cons.injEq]
def tgt:List UInt8:=[84,65,82,71,69,84,83]
def isM (p:List UInt8):Bool:=base p == tgt
def fits (f:Fl):Bool:=
 if isM f.path then f.blob == 0 && f.size == (f.text.length:Int)
 else f.text == [] && (decide (0≤f.blob) && decide (f.blob≤1152921504606846976)) && (decide (0≤f.size) && decide (f.size≤4611686018427387904))
def pathOk (p:List UInt8):Bool:=!(p == []) && okP p
def fileE (f:Fl):Int:=if pathOk f.path then (if fits f then 0 else 8) else 7
theorem fileE_seven (f:Fl):fileE f=7↔pathOk f.path=false:=by
 unfold fileE;cases pathOk f.path<;>cases fits f<;>simp
theorem fileE_zero (f:Fl):fileE f=0↔pathOk f.path=true∧fits f=true:=by
 unfold fileE;cases pathOk f.path<;>cases fits f<;>simp
def fol (p q:List UInt8):Bool:=decide (cmpP (pcs p) (pcs q) < 0) && !abvV p q
def chain:List Fl→Bool
 | a::b::r=>fol a.path b.path && chain (b::r)
 | _=>true
def stand (l:List Fl):Bool:=decide (l.length≤512) && l.all (fun f=>fileE f == 0) && chain l
def validE (l:List Fl):Int:=if l.all (fun f=>pathOk f.path) then (if stand l then 0 else 8) else 7
theorem stand_all {l:List Fl} (h:stand l=true):∀ f∈l,fileE f=0:=by
 unfold stand at h
 simp only [Bool.and_eq_true,List.all_eq_true,beq_iff_eq] at h
 exact h.1.2
theorem validE_zero (l:List Fl):validE l=0↔stand l=true:=by
 unfold validE
 constructor
 ·intro h;cases hs:stand l
  ·rw [hs] at h;revert h;split<;>simp
  ·rfl
 ·intro h
  have:l.all (fun f=>pathOk f.path)=true:=List.all_eq_true.2 fun f hf=>((fileE_zero f).1 (stand_all h f hf)).1
  rw [this,h];rfl
end Go.Proofs.YtppnbdnpapellaaGreatDoor
