/-
  Sets of texts as rising lists: plain lists.
  Pieces, directories, joins: plain lists.
  Files and their texts: plain lists.
  Files in memory: one by one, and as rows.
  Two files held against each other.
-/
import Derived.Test.YtkheacknelbcnaaGreatDoorJOrd
import Derived.Lib.SlicesCompact
import Derived.Test.YtkheacknelbcnaaGreatDoorJBase
import Derived.Laws.StructEq
namespace Go.Proofs.YtkheacknelbcnaaGreatDoor
/-- the order of texts -/
def cf (a b:List UInt8):Int:=cmpP (pcs a) (pcs b)
theorem cf_range (a b:List UInt8):cf a b = -1∨cf a b=0∨cf a b=1:=cmpP_range _ _
theorem cf_zero {a b:List UInt8}:cf a b=0↔a=b:=⟨fun h=>pcs_inj (cmpP_zero h),fun h=>by subst h;exact cmpP_refl _⟩
theorem cf_self (a:List UInt8):cf a a=0:=cf_zero.2 rfl
theorem cf_neg (a b:List UInt8):cf b a = - cf a b:=cmpP_neg _ _
theorem cf_trans {a b c:List UInt8} (h:cf a b < 0) (k:cf b c < 0):cf a c < 0:=by
 have h1:cf a b = -1:=by rcases cf_range a b with e | e | e<;>omega
 have k1:cf b c = -1:=by rcases cf_range b c with e | e | e<;>omega
 have:=cmpP_trans _ _ _ h1 k1
 unfold cf;omega
theorem cf_le_lt {a b c:List UInt8} (h:cf a b≤0) (k:cf b c < 0):cf a c < 0:=by
 by_cases e:cf a b=0
 ·rw [cf_zero.1 e];exact k
 ·exact cf_trans (by omega) k
theorem cf_le_trans {a b c:List UInt8} (h:cf a b≤0) (k:cf b c≤0):cf a c≤0:=by
 by_cases e:cf b c=0
 ·rw [← cf_zero.1 e];exact h
 ·have:=cf_le_lt h (show cf b c < 0 by omega);omega
/-- it rises -/
def Up (l:List (List UInt8)):Prop:=l.Pairwise fun a b=>cf a b < 0
theorem up_unique:∀ {a b:List (List UInt8)},Up a→Up b→(∀ x,x∈a↔x∈b)→a=b
 | [],[],_,_,_=>rfl
 | [],y::_,_,_,h=>absurd ((h y).2 (by simp)) (by simp)
 | x::_,[],_,_,h=>absurd ((h x).1 (by simp)) (by simp)
 | x::a,y::b,ha,hb,h=>by
  have ha':=List.pairwise_cons.1 ha
  have hb':=List.pairwise_cons.1 hb
  have exy:x=y:=by
   have h1:=(h x).1 (by simp)
   have h2:=(h y).2 (by simp)
   rcases List.mem_cons.1 h1 with e | h1
   ·exact e
   rcases List.mem_cons.1 h2 with e | h2
   ·exact e.symm
   have k1:=ha'.1 y h2
   have k2:=hb'.1 x h1
   rw [cf_neg] at k2;omega
  subst exy
  congr 1
  refine up_unique ha'.2 hb'.2 (fun z=>⟨fun hz=>?_,fun hz=>?_⟩)
  ·rcases List.mem_cons.1 ((h z).1 (by simp [hz])) with e | e
   ·subst e;have:=ha'.1 z hz;rw [cf_self] at this;omega
   ·exact e
  ·rcases List.mem_cons.1 ((h z).2 (by simp [hz])) with e | e
   ·subst e;have:=hb'.1 z hz;rw [cf_self] at this;omega
   ·exact e
/-- a text put in its place -/
def ins (x:List UInt8):List (List UInt8)→List (List UInt8)
 | []=>[x]
 | y::l=>if cf x y < 0 then x::y::l else if cf x y=0 then y::l else y::ins x l
theorem mem_ins (x z:List UInt8):∀ l,z∈ins x l↔z=x∨z∈l
 | []=>by simp [ins]
 | y::l=>by
  unfold ins
  split
  ·simp
  ·split
   ·rename_i _ h
    have:=cf_zero.1 h
    subst this
    simp
   ·simp [mem_ins x z l]
    constructor
    ·rintro (h | h | h)<;>simp [h]
    ·rintro (h | h | h)<;>simp [h]
theorem up_ins (x:List UInt8):∀ l,Up l→Up (ins x l)
 | [],_=>by simp [ins,Up]
 | y::l,h=>by
  have h':=List.pairwise_cons.1 h
  unfold ins
  split
  ·rename_i hx
   refine List.pairwise_cons.2 ⟨fun z hz=>?_,h⟩
   rcases List.mem_cons.1 hz with e | e
   ·subst e;exact hx
   ·exact cf_trans hx (h'.1 z e)
  ·split
   ·exact h
   ·rename_i h1 h2
    refine List.pairwise_cons.2 ⟨fun z hz=>?_,up_ins x l h'.2⟩
    rcases (mem_ins x z l).1 hz with e | e
    ·subst e;rw [cf_neg];omega
    ·exact h'.1 z e
/-- the texts in their order, each once -/
def norm:List (List UInt8)→List (List UInt8)
 | []=>[]
 | x::l=>ins x (norm l)
theorem up_norm:∀ l,Up (norm l)
 | []=>by simp [norm,Up]
 | x::l=>up_ins x _ (up_norm l)
theorem mem_norm (z:List UInt8):∀ l,z∈norm l↔z∈l
 | []=>by simp [norm]
 | x::l=>by simp [norm,mem_ins,mem_norm z l]
theorem norm_of {r l:List (List UInt8)} (h:Up r) (hm:∀ x,x∈r↔x∈l):norm l=r:=
 up_unique (up_norm l) h fun x=>(mem_norm x l).trans (hm x).symm
theorem norm_up {l:List (List UInt8)} (h:Up l):norm l=l:=norm_of h fun _=>Iff.rfl
theorem norm_len:∀ l,(norm l).length≤l.length
 | []=>by simp [norm]
 | x::l=>by
  have ih:=norm_len l
  have key:∀ m,(ins x m).length≤m.length+1:=by
   intro m
   induction m with
   | nil=>simp [ins]
   | cons y m ih=>
    unfold ins
    split
    ·simp
    ·split
     ·simp
     ·simp;omega
  have:=key (norm l)
  simp [norm];omega
theorem up_get {l:List (List UInt8)} (h:Up l) {i j:Nat} (hij:i < j) (hj:j < l.length):cf (l[i]'(by omega)) (l[j]'hj) < 0:=
 List.pairwise_iff_getElem.1 h i j _ hj hij
/-- what stays of a list that is sorted when each run is made one -/
theorem compact_up (d:Array (List UInt8)) (hs:∀ i j,i < j→j < d.size→cf d[i]! d[j]!≤0):∀ m,m≤d.size→
  Up (Lib.compactUpTo d m)∧(∀ x,x∈Lib.compactUpTo d m↔∃ j,j < m∧d[j]! = x)
 | 0,_=>by simp [Lib.compactUpTo,Up]
 | m+1,hm=>by
  obtain ⟨h1,h2⟩:=compact_up d hs m (by omega)
  rw [Lib.compactUpTo_succ]
  cases hk:Lib.keeps d m with
  | true=>
   simp only [Lib.keeps,decide_eq_true_eq] at hk
   simp only [if_true]
   refine ⟨List.pairwise_append.2 ⟨h1,by simp,fun x hx y hy=>?_⟩,fun x=>?_⟩
   ·simp at hy;subst hy
    obtain ⟨j,hj,rfl⟩:=(h2 x).1 hx
    have hm0:m≠0:=by omega
    have hne:d[m]!≠d[m - 1]!:=by rcases hk with e | e<;>first | exact absurd e hm0 | exact e
    have hlt:cf d[m - 1]! d[m]! < 0:=by
     have:=hs (m - 1) m (by omega) (by omega)
     have h0:cf d[m - 1]! d[m]!≠0:=fun e=>hne (cf_zero.1 e).symm
     omega
    by_cases e:j=m - 1
    ·rw [e];exact hlt
    ·exact cf_le_lt (hs j (m - 1) (by omega) (by omega)) hlt
   ·rw [List.mem_append,h2]
    constructor
    ·rintro (⟨j,hj,e⟩ | e)
     ·exact ⟨j,by omega,e⟩
     ·simp at e;exact ⟨m,by omega,e.symm⟩
    ·rintro ⟨j,hj,e⟩
     by_cases hjm:j=m
     ·subst hjm;right;simp [e]
     ·left;exact ⟨j,by omega,e⟩
  | false=>
   simp only [Lib.keeps,decide_eq_false_iff_not,not_or] at hk
   simp only [Bool.false_eq_true,if_false,List.append_nil]
   refine ⟨h1,fun x=>?_⟩
   rw [h2]
   constructor
   ·rintro ⟨j,hj,e⟩;exact ⟨j,by omega,e⟩
   ·rintro ⟨j,hj,e⟩
    by_cases hjm:j=m
    ·subst hjm
     have e2:d[j]! = d[j - 1]!:=Classical.not_not.1 hk.2
     exact ⟨j - 1,by omega,by rw [← e2];exact e⟩
    ·exact ⟨j,by omega,e⟩
theorem compact_norm (l s:List (List UInt8)) (hp:s.Perm l) (hs:s.Pairwise fun a b=>cf a b≤0):Lib.compactUpTo s.toArray s.toArray.size=norm l:=by
 have h:=compact_up s.toArray (fun i j hij hj=>by
  have hj':j < s.length:=by simpa using hj
  have hi':i < s.length:=by omega
  simp [hj',hi']
  exact List.pairwise_iff_getElem.1 hs i j hi' hj' hij) s.toArray.size (Nat.le_refl _)
 refine (norm_of h.1 fun x=>?_).symm
 rw [h.2 x,← hp.mem_iff]
 constructor
 ·rintro ⟨j,hj,e⟩
  have hj':j < s.length:=by simpa using hj
  simp [hj'] at e
  rw [← e];exact List.getElem_mem _
 ·intro hx
  obtain ⟨j,hj,e⟩:=List.getElem_of_mem hx
  exact ⟨j,by simpa using hj,by simp [hj,e]⟩
theorem abv_between {a b c:List UInt8} (h:abvV a c=true) (h1:cf a b < 0) (h2:cf b c < 0):abvV a b=true:=by
 obtain ⟨r,hr,e⟩:=(abvV_iff a c).1 h
 have h1':cmpP (pcs a) (pcs b) = -1:=by rcases cf_range a b with k | k | k<;>simp only [cf] at *<;>omega
 have h2':cmpP (pcs b) (pcs a++r)≤0:=by rw [← e];simp only [cf] at h2;omega
 exact (abvV_iff a b).2 (cmpP_between _ _ _ h1' h2')
end Go.Proofs.YtkheacknelbcnaaGreatDoor

namespace Go.Proofs.YtkheacknelbcnaaGreatDoor
open Go.RowKit
theorem Own.only {S:List Nat} {base:Nat} {w w':World} {v:Value} {l:List (List UInt8)} (h:Own base w v l) (ho:Only S w w') (hn:∀ k,v.ownBlock=some k→k∉S):Own base w' v l:=by
 refine ⟨h.1,?_⟩
 rcases h.2 with ⟨rfl,h0⟩ | ⟨g,cap,cur,rfl,hb,hg,hr⟩
 ·exact .inl ⟨rfl,h0⟩
 ·exact .inr ⟨g,cap,cur,rfl,hb,by rw [ho.block g (Array.getElem?_eq_some_iff.1 hg).1 (hn g rfl)];exact hg,hr⟩
theorem Own.later {base:Nat} {w w':World} {v:Value} {l:List (List UInt8)} (h:Own base w v l) (hb:Below w.heap.size w w'):Own base w' v l:=
 h.only (Only.of_below hb []) (by simp)
theorem Own.lt {base:Nat} {w:World} {v:Value} {l:List (List UInt8)} (h:Own base w v l) {k:Nat} (hk:v.ownBlock=some k):base≤k∧k < w.heap.size:=World.ownsRow.lt h k hk
theorem cell_one_str (w:World) (u:Value) (k:TypeId):∀ j x,[u][j]? = some x→(w.alloc (.cells #[u] k)).cell? ((⟨w.heap.size,0,none⟩:Addr).add j)=some x:=by
 intro j x hx
 cases j with
 | zero=>simp at hx;subst hx;rw [add_lit];simp
 | succ j=>simp at hx
theorem src_one (w:World) (p:List UInt8):Src Tryz.prog 1 74 (.slice (some ⟨w.heap.size,0,none⟩) 1 1) [p].length (sc [p]) (w.alloc (.cells #[.string (bs p)] 9)):=
 Src.ofSlice _ und69 ⟨w.heap.size,0,none⟩ 1 1 (sc [p]) (by simp [sc]) (cell_one_str w _ 9) (sc_one _)
/-- append of one text onto texts of the call's own -/
theorem app_one {w:World} {base:Nat} {v:Value} {l:List (List UInt8)} (p:List UInt8) (hown:Own base w v l) (hb:l.length+1≤8796093022208) (hbase:base≤w.heap.size)
  {ops:Array Oper} {rest:List Oper} {o:Oper} {a:Act} {Q:Exit→Act→World→Prop} (hgd:o.guard=none) (s y:Operand)
  (ho:o.op=.call { callee:=.builtin .append,args:=#[s,y],argTypes:=#[74,74] }) (hv:a.eval s=v) (hx:a.eval y=.slice (some ⟨w.heap.size,0,none⟩) 1 1)
  (h:∀ v' w',Own base w' v' (l++[p])→Below base w w'→base≤w'.heap.size→w.grownBy w' v.ownBlock→(v'.ownBlock=v.ownBlock∨v'.ownBlock=some (w.heap.size+1))→wpList Tryz.prog ops Q rest (a.put o.dst v') w') :
  wpList Tryz.prog ops Q (o::rest) a (w.alloc (.cells #[.string (bs p)] 9)):=by
 refine app_strs (base:=base) (l:=l) (k:=[p]) (World.ownsRow.alloc hown _) (src_one w p) (by simpa using hb) (by simp;omega) hgd s y ho hv hx ?_
 intro v' w' h1 h2 h3
 have hlt:=World.ownsRow.lt hown
 have hB:Below base w w':=((Below.refl _ _).alloc hbase _).grown h2 (by simp;omega) (fun k hk=>(hlt k hk).1)
 refine h v' w' h1 hB (Nat.le_trans hbase hB.size) ((World.grownBy_alloc w _ _).trans h2) (by simpa using h3)
theorem SS.form {w:World} {v:Value} {L:List (List UInt8)} (h:SS w v L):∃ a c,v=.slice a L.length c∧(∀ k,(hk:k < L.length)→∃ b off,a=some ⟨b,off,none⟩∧b < w.heap.size∧w.cell? ⟨b,off+k,none⟩=some (.string (bs L[k]))):=by
 rcases h with ⟨⟨a,c,rfl⟩,rfl⟩ | ⟨b,off,cap,rfl,hc,hlt,hcell⟩
 ·exact ⟨a,c,rfl,fun k hk=>by simp at hk⟩
 ·exact ⟨_,_,rfl,fun k hk=>⟨b,off,rfl,hlt,hcell k _ (by simp [sc_get,hk])⟩⟩
/-- a list of texts that a machine has -/
structure Sm (l:List (List UInt8)):Prop where
 len:l.length≤4000000
 each:∀ x∈l,x.length≤140737488355328
theorem Sm.norm {l:List (List UInt8)} (h:Sm l):Sm (norm l):=⟨Nat.le_trans (norm_len l) h.len,fun x hx=>h.each x ((mem_norm x l).1 hx)⟩
theorem bstep {a b c:World} (h:Below a.heap.size a b) (k:Below b.heap.size b c):Below a.heap.size a c:=below_trans h (below_mono k h.size)
end Go.Proofs.YtkheacknelbcnaaGreatDoor

namespace Go.Proofs.YtkheacknelbcnaaGreatDoor
theorem okP_len {a:List UInt8} (h:okP a=true):a.length≤120∧dep a≤12:=by
 unfold okP at h;simp only [Bool.and_eq_true,decide_eq_true_eq] at h;exact h.1
theorem lst_none:∀ (l:List UInt8),l.count 47=0→lst l = -1
 | [],_=>rfl
 | c::l,h=>by
  rw [List.count_cons] at h
  have h1:l.count 47=0:=by omega
  have h2:c≠47:=by rintro rfl;simp at h
  unfold lst;rw [lst_none l h1];simp [h2]
theorem lst_some:∀ (l:List UInt8),0 < l.count 47→0≤lst l
 | [],h=>by simp at h
 | c::l,h=>by
  unfold lst
  by_cases h0:0 < l.count 47
  ·have:=lst_some l h0;rw [if_pos this];omega
  ·rw [List.count_cons] at h
   have hc:c=47:=by
    by_cases e:c=47
    ·exact e
    ·have hf:(c == 47)=false:=by simpa using e
     rw [hf] at h
     simp only [Bool.false_eq_true,if_false,Nat.add_zero] at h
     exact absurd h h0
   have:=lst_ge l
   rw [if_pos hc]
   split<;>omega
theorem lst_cut:∀ (l:List UInt8),0≤lst l→l=l.take (lst l).toNat++47::l.drop (lst l+1).toNat
 | [],h=>by simp [lst] at h
 | c::l,h=>by
  by_cases h0:0≤lst l
  ·have ih:=lst_cut l h0
   have e:lst (c::l)=lst l+1:=by rw [lst,if_pos h0]
   rw [e]
   obtain ⟨n,hn⟩:∃ n:Nat,lst l=n:=⟨(lst l).toNat,by omega⟩
   rw [hn] at ih ⊢
   have e1:((n:Int)+1).toNat=n+1:=by omega
   have e2:((n:Int)+1+1).toNat=n+1+1:=by omega
   have e3:(n:Int).toNat=n:=by omega
   rw [e1,e2,List.take_succ_cons,List.drop_succ_cons,List.cons_append]
   rw [e1,e3] at ih
   rw [← ih]
  ·have hc:c=47:=by
    by_cases e:c=47
    ·exact e
    ·rw [lst,if_neg h0,if_neg e] at h;omega
   have e:lst (c::l)=0:=by rw [lst,if_neg h0,if_pos hc]
   rw [e,hc];rfl
theorem lst_app:∀ (x b:List UInt8),lst (x++47::b)=x.length+1+lst b
 | [],b=>by
  have:=lst_ge b
  rw [List.nil_append,lst]
  by_cases h:0≤lst b
  ·rw [if_pos h];simp;omega
  ·rw [if_neg h,if_pos rfl];simp;omega
 | c::x,b=>by
  have ih:=lst_app x b
  have:=lst_ge b
  rw [List.cons_append,lst,ih,if_pos (by omega)]
  simp;omega
theorem base_app (x b:List UInt8):base (x++47::b)=base b:=by
 have:=lst_ge b
 unfold base
 rw [lst_app]
 have e:((x.length:Int)+1+lst b+1).toNat=x.length+(1+(lst b+1).toNat):=by omega
 rw [e,← List.drop_drop,List.drop_left,← List.drop_drop];rfl
/-- may two paths be joined, by their lengths? -/
def whole (a b:List UInt8):Bool:=decide (a.length+b.length+1≤120) || a.isEmpty || b.isEmpty
end Go.Proofs.YtkheacknelbcnaaGreatDoor

namespace Go.Proofs.YtkheacknelbcnaaGreatDoor
/-- A file. -/
structure Fl where
 path:List UInt8
 text:List UInt8
 blob:Int
 size:Int
def feq (a b:Fl):Bool:=a.path == b.path && a.text == b.text && a.blob == b.blob && a.size == b.size
theorem feq_iff (a b:Fl):feq a b=true↔a=b:=by
 obtain ⟨p,t,b1,s⟩:=a
 obtain ⟨p',t',b',s'⟩:=b
 simp [feq,and_assoc]
theorem feq_self (a:Fl):feq a a=true:=(feq_iff a a).2 rfl
def leq:List Fl→List Fl→Bool
 | [],[]=>true
 | a::l,b::m=>feq a b && leq l m
 | _,_=>false
/-- TARGETS -/
def tgt:List UInt8:=[84,65,82,71,69,84,83]
def isM (p:List UInt8):Bool:=base p == tgt
def fits (f:Fl):Bool:=
 if isM f.path then f.blob == 0 && f.size == (f.text.length:Int)
 else f.text == [] && (decide (0≤f.blob) && decide (f.blob≤1152921504606846976)) && (decide (0≤f.size) && decide (f.size≤4611686018427387904))
def pathOk (p:List UInt8):Bool:=!(p == []) && okP p
def fileE (f:Fl):Int:=if pathOk f.path then (if fits f then 0 else 8) else 7
theorem fileE_seven (f:Fl):fileE f=7↔pathOk f.path=false:=by
 unfold fileE;cases pathOk f.path<;>cases fits f<;>simp
theorem fileE_zero (f:Fl):fileE f=0↔pathOk f.path=true∧fits f=true:=by
 unfold fileE;cases pathOk f.path<;>cases fits f<;>simp
/-- may q stand right behind p? -/
def fol (p q:List UInt8):Bool:=decide (cmpP (pcs p) (pcs q) < 0) && !abvV p q
def chain:List Fl→Bool
 | a::b::r=>fol a.path b.path && chain (b::r)
 | _=>true
def stand (l:List Fl):Bool:=decide (l.length≤512) && l.all (fun f=>fileE f == 0) && chain l
def validE (l:List Fl):Int:=if l.all (fun f=>pathOk f.path) then (if stand l then 0 else 8) else 7
theorem stand_all {l:List Fl} (h:stand l=true):∀ f∈l,fileE f=0:=by
 unfold stand at h
 simp only [Bool.and_eq_true,List.all_eq_true,beq_iff_eq] at h
 exact h.1.2
theorem validE_zero (l:List Fl):validE l=0↔stand l=true:=by
 unfold validE
 constructor
 ·intro h;cases hs:stand l
  ·rw [hs] at h;revert h;split<;>simp
  ·rfl
 ·intro h
  have:l.all (fun f=>pathOk f.path)=true:=List.all_eq_true.2 fun f hf=>((fileE_zero f).1 (stand_all h f hf)).1
  rw [this,h];rfl
end Go.Proofs.YtkheacknelbcnaaGreatDoor

namespace Go.Proofs.YtkheacknelbcnaaGreatDoor
open Go.RowKit
def Fl.val (f:Fl):Value:=.agg #[.string (bs f.path),.string (bs f.text),.int .i64 f.blob,.int .i64 f.size]
def fc:List Fl→List Value
 | []=>[]
 | f::r=>.string (bs f.path)::.string (bs f.text)::.int .i64 f.blob::.int .i64 f.size::fc r
theorem fc_length:∀ l,(fc l).length=l.length * 4
 | []=>rfl
 | f::r=>by simp only [fc,List.length_cons,fc_length r];omega
theorem fc_append:∀ a b,fc (a++b)=fc a++fc b
 | [],b=>rfl
 | f::r,b=>by simp [fc,fc_append r b]
theorem fc_one:∀ (l:List Fl),∀ u∈fc l,u.oneCell'=true
 | [],u,h=>by simp [fc] at h
 | f::r,u,h=>by
  simp only [fc,List.mem_cons] at h
  rcases h with rfl | rfl | rfl | rfl | h
  ·rfl
  ·rfl
  ·rfl
  ·rfl
  ·exact fc_one r u h
theorem fc_get:∀ (l:List Fl) (k:Nat) (h:k < l.length),(fc l)[k * 4]? = some (.string (bs l[k].path))∧(fc l)[k * 4+1]? = some (.string (bs l[k].text))∧(fc l)[k * 4+2]? = some (.int .i64 l[k].blob)∧(fc l)[k * 4+3]? = some (.int .i64 l[k].size)
 | f::r,0,_=>⟨rfl,rfl,rfl,rfl⟩
 | f::r,k+1,h=>by
  have ih:=fc_get r k (by simpa using h)
  rw [show (k+1) * 4=k * 4+4 by omega]
  simp only [fc,List.getElem_cons_succ]
  exact ⟨ih.1,ih.2.1,ih.2.2.1,ih.2.2.2⟩
/-- a slice of files reads as a list -/
def FS (w:World) (v:Value) (l:List Fl):Prop:=
 ((∃ a c,v=.slice a 0 c)∧l=[])∨
 ∃ b off cap,v=.slice (some ⟨b,off,none⟩) l.length cap∧l.length≤cap∧b < w.heap.size∧∀ i u,(fc l)[i]? = some u→w.cell? ⟨b,off+i,none⟩=some u
theorem FS.later {w w':World} {v:Value} {l:List Fl} (h:FS w v l) (hb:Below w.heap.size w w'):FS w' v l:=by
 rcases h with h | ⟨b,off,cap,rfl,hc,hlt,hcell⟩
 ·exact .inl h
 ·refine .inr ⟨b,off,cap,rfl,hc,Nat.lt_of_lt_of_le hlt hb.size,fun i u hu=>?_⟩
  rw [hb.cell (p:=⟨b,off+i,none⟩) hlt];exact hcell i u hu
theorem FS.form {w:World} {v:Value} {l:List Fl} (h:FS w v l):∃ a c,v=.slice a l.length c∧(∀ k,(hk:k < l.length)→∃ b off,a=some ⟨b,off,none⟩∧b < w.heap.size∧
  w.cell? ⟨b,off+k * 4,none⟩=some (.string (bs l[k].path))∧w.cell? ⟨b,off+k * 4+1,none⟩=some (.string (bs l[k].text))∧w.cell? ⟨b,off+k * 4+2,none⟩=some (.int .i64 l[k].blob)∧w.cell? ⟨b,off+k * 4+3,none⟩=some (.int .i64 l[k].size)):=by
 rcases h with ⟨⟨a,c,rfl⟩,rfl⟩ | ⟨b,off,cap,rfl,hc,hlt,hcell⟩
 ·exact ⟨a,c,rfl,fun k hk=>by simp at hk⟩
 ·refine ⟨_,cap,rfl,fun k hk=>⟨b,off,rfl,hlt,?_⟩⟩
  obtain ⟨c0,c1,c2,c3⟩:=fc_get l k hk
  exact ⟨hcell _ _ c0,by rw [Nat.add_assoc];exact hcell _ _ c1,by rw [Nat.add_assoc];exact hcell _ _ c2,by rw [Nat.add_assoc];exact hcell _ _ c3⟩
/-- at one place, in a later world -/
theorem FS.at {w:World} {a:Option Addr} {c:Nat} {l:List Fl} (h:FS w (.slice a l.length c) l) {wr:World} (hb:Below w.heap.size w wr) {k:Nat} (hk:k < l.length):∃ b off,a=some ⟨b,off,none⟩∧b < w.heap.size∧
  wr.cell? ⟨b,off+k * 4,none⟩=some (.string (bs l[k].path))∧wr.cell? ⟨b,off+k * 4+1,none⟩=some (.string (bs l[k].text))∧wr.cell? ⟨b,off+k * 4+2,none⟩=some (.int .i64 l[k].blob)∧wr.cell? ⟨b,off+k * 4+3,none⟩=some (.int .i64 l[k].size):=by
 obtain ⟨a',c',e,hf⟩:=(h.later hb).form
 obtain ⟨b,off,ha,_,h0,h1,h2,h3⟩:=hf k hk
 injection e with e1 e2 e3
 subst e1
 obtain ⟨b',off',ha',hlt,_⟩:=(h.form).choose_spec.choose_spec.2 k hk
 have e:=(h.form).choose_spec.choose_spec.1
 injection e with e1 e2 e3
 rw [← e1,ha] at ha'
 injection ha' with ha'
 injection ha' with hb1 hb2
 subst hb1
 exact ⟨b,off,ha,hlt,h0,h1,h2,h3⟩
theorem und22:Tryz.prog.underlying 22=some (.slice 42):=by kernel_rfl
theorem info30:(Tryz.prog.info? 42).map (fun i=>(i.zero,i.size,i.bytes))=some (some (.agg #[.string ⟨#[]⟩,.string ⟨#[]⟩,.int .i64 0,.int .i64 0]),4,48):=by kernel_rfl
theorem FS.src {w:World} {v:Value} {l:List Fl} (h:FS w v l):Src Tryz.prog 4 22 v l.length (fc l) w:=by
 rcases h with ⟨⟨a,c,rfl⟩,rfl⟩ | ⟨b,off,cap,rfl,hc,hlt,hcell⟩
 ·cases a with
  | none=>exact Src.ofNil w und22 c
  | some a=>exact Src.ofSlice w und22 a 0 c [] (by simp) (fun j u hu=>by simp at hu) (fun u hu=>by cases hu)
 ·exact Src.ofSlice w und22 ⟨b,off,none⟩ l.length cap (fc l) (fc_length l) (fun j u hu=>by rw [add_lit];exact hcell j u hu) (fc_one l)
/-- a row of files of the call's own -/
def OwnF (base:Nat) (w:World) (v:Value) (l:List Fl):Prop:=w.ownsRow base 42 4 v l.length (fc l)
theorem OwnF.nil (base:Nat) (w:World):OwnF base w (.slice none 0 0) []:=World.ownsRow_nil w base 42 4
theorem OwnF.mono {base base':Nat} {w:World} {v:Value} {l:List Fl} (h:OwnF base w v l) (hb:base'≤base):OwnF base' w v l:=World.ownsRow.mono h hb
theorem OwnF.fs {base:Nat} {w:World} {v:Value} {l:List Fl} (h:OwnF base w v l):FS w v l:=by
 rcases h.2 with ⟨rfl,h0⟩ | ⟨g,cap,cur,rfl,hb,hg,hn,_⟩
 ·exact .inl ⟨⟨_,_,rfl⟩,List.eq_nil_of_length_eq_zero h0⟩
 ·refine .inr ⟨g,0,cap,rfl,hn,(Array.getElem?_eq_some_iff.1 hg).1,fun i u hu=>?_⟩
  have:=World.ownsRow.cells h (g:=g) rfl i u hu
  rw [add_lit] at this;exact this
theorem OwnF.lt {base:Nat} {w:World} {v:Value} {l:List Fl} (h:OwnF base w v l) {k:Nat} (hk:v.ownBlock=some k):base≤k∧k < w.heap.size:=World.ownsRow.lt h k hk
theorem OwnF.only {S:List Nat} {base:Nat} {w w':World} {v:Value} {l:List Fl} (h:OwnF base w v l) (ho:Only S w w') (hn:∀ k,v.ownBlock=some k→k∉S):OwnF base w' v l:=by
 rcases h with ⟨h0,h | ⟨g,cap,cur,rfl,hb,hg,hr⟩⟩
 ·exact ⟨h0,.inl h⟩
 ·exact ⟨h0,.inr ⟨g,cap,cur,rfl,hb,(ho.block g (Array.getElem?_eq_some_iff.1 hg).1 (hn g rfl)).trans hg,hr⟩⟩
theorem OwnF.later {base:Nat} {w w':World} {v:Value} {l:List Fl} (h:OwnF base w v l) (hb:Below w.heap.size w w'):OwnF base w' v l:=
 h.only (Only.of_below hb []) (by simp)
theorem OwnF.form {base:Nat} {w:World} {v:Value} {l:List Fl} (h:OwnF base w v l):∃ a c,v=.slice a l.length c:=by
 obtain ⟨a,c,e,_⟩:=h.fs.form;exact ⟨a,c,e⟩
/-- append of files onto files of the call's own -/
theorem app_files {w:World} {base:Nat} {v x:Value} {l k:List Fl} (hown:OwnF base w v l) (hs:Src Tryz.prog 4 22 x k.length (fc k) w) (hb:l.length+k.length≤100000000) (hbase:base≤w.heap.size)
  {ops:Array Oper} {rest:List Oper} {o:Oper} {a:Act} {Q:Exit→Act→World→Prop} (hgd:o.guard=none) (s y:Operand)
  (ho:o.op=.call { callee:=.builtin .append,args:=#[s,y],argTypes:=#[22,22] }) (hv:a.eval s=v) (hx:a.eval y=x)
  (h:∀ v' w',OwnF base w' v' (l++k)→w.grownBy w' v.ownBlock→(v'.ownBlock=v.ownBlock∨v'.ownBlock=some w.heap.size)→wpList Tryz.prog ops Q rest (a.put o.dst v') w') :
  wpList Tryz.prog ops Q (o::rest) a w:=by
 obtain ⟨i0,hi,hz0,hz1,hz2⟩:=info_parts info30
 refine wpList_append_src w hgd s y 22 22 ho base 42 i0 _ 4 48 und22 hi hz0 hz1 hz2 rfl v l.length (fc l) hv hown x k.length (fc k) hx hs (by simp only [maxLen];omega) (by omega) hbase ?_
 intro v' w' h1 h2 h3
 exact h v' w' (by unfold OwnF;rw [fc_append,List.length_append];exact h1) h2 h3
theorem src_file (w:World) (f:Fl):Src Tryz.prog 4 22 (.slice (some ⟨w.heap.size,0,none⟩) 1 1) [f].length (fc [f]) (w.alloc (.cells #[.string (bs f.path),.string (bs f.text),.int .i64 f.blob,.int .i64 f.size] 42)):=by
 refine Src.ofSlice _ und22 ⟨w.heap.size,0,none⟩ 1 1 (fc [f]) (by simp [fc_length]) ?_ (fc_one _)
 exact World.news_of_block (heap_alloc_new w _)
/-- what a machine has: lengths and numbers -/
structure Fok (f:Fl):Prop where
 path:f.path.length≤140737488355328
 text:f.text.length≤140737488355328
 b0:-9223372036854775808≤f.blob
 b1:f.blob≤9223372036854775807
 s0:-9223372036854775808≤f.size
 s1:f.size≤9223372036854775807
structure FSm (l:List Fl):Prop where
 len:l.length≤140737488355328
 each:∀ f∈l,Fok f
theorem FSm.at {l:List Fl} (h:FSm l) {k:Nat} (hk:k < l.length):Fok l[k]:=h.each _ (List.getElem_mem _)
/-- the four cells of a file in block g -/
structure FB (w:World) (g:Nat) (f:Fl):Prop where
 c0:w.cell? ⟨g,0,none⟩=some (.string (bs f.path))
 c1:w.cell? ⟨g,1,none⟩=some (.string (bs f.text))
 c2:w.cell? ⟨g,2,none⟩=some (.int .i64 f.blob)
 c3:w.cell? ⟨g,3,none⟩=some (.int .i64 f.size)
 lt:g < w.heap.size
theorem FB.new (w:World) (f:Fl) (k:TypeId):FB (w.alloc (.cells #[.string (bs f.path),.string (bs f.text),.int .i64 f.blob,.int .i64 f.size] k)) w.heap.size f:=⟨by simp,by simp,by simp,by simp,by simp⟩
theorem FB.later {w w':World} {g:Nat} {f:Fl} (h:FB w g f) (hb:Below w.heap.size w w'):FB w' g f:=
 ⟨(hb.cell (p:=⟨g,0,none⟩) h.lt).trans h.c0,(hb.cell (p:=⟨g,1,none⟩) h.lt).trans h.c1,(hb.cell (p:=⟨g,2,none⟩) h.lt).trans h.c2,(hb.cell (p:=⟨g,3,none⟩) h.lt).trans h.c3,Nat.lt_of_lt_of_le h.lt hb.size⟩
set_option maxHeartbeats 1000000 in
theorem within_any (n m:Int) (w:World):Calls Tryz.prog 148 #[.int .i64 n,.int .i64 m] w fun e w'=>e=.returned (.bool (decide (0≤n) && decide (n≤m)))∧w'=w:=by
 by_cases h0:0≤n
 ·go_enter Tryz.func148,Tryz.ntmps148
  go_wp2_with fail
  go_ret
  exact ⟨by simp [h0],rfl⟩
 ·have h1:decide (0≤n)=false:=by simpa using h0
  rw [h1]
  go_enter Tryz.func148,Tryz.ntmps148
  go_wp2_with fail
  go_ret
  exact ⟨rfl,rfl⟩
set_option maxHeartbeats 1000000 in
theorem manifest_any (p t:List UInt8) (w:World):Calls Tryz.prog 147 #[.string (bs p),.string (bs t)] w fun e w'=>e=.returned (.agg #[.string (bs p),.string (bs t),.int .i64 0,.int .i64 (t.length:Nat)])∧Below w.heap.size w w':=by
 have hz:(bs t).size=t.length:=rfl
 go_enter Tryz.func147,Tryz.ntmps147
 go_wp2_with fail
 refine bodyPost_ret (results_cell_row rfl _ _ w.heap.size 42 #[.string (bs p),.string (bs t),.int .i64 0,.int .i64 (t.length:Nat)] (0,0) _ rfl (heap_alloc_new _ _) Tryz.underlying42 rfl (by kernel_rfl)) rfl ?_
 exact ⟨rfl,balloc _ _⟩
end Go.Proofs.YtkheacknelbcnaaGreatDoor

namespace Go.Proofs.YtkheacknelbcnaaGreatDoor
open Go.RowKit
theorem st30:Tryz.prog.underlying 42=some (.struct (Tryz.prog.fieldsOf 42)):=by kernel_rfl
theorem held30:Tryz.prog.stoodInHeld 42=false:=by kernel_rfl
theorem guard30:Tryz.prog.eqGuardType Tryz.prog.depth 42=false:=by kernel_rfl
theorem flds30 : (Tryz.prog.fieldsOf 42).toList.map (fun f => (f.name, f.type, f.offset)) = [("Path", 9, 0), ("Text", 9, 1), ("Blob", 3, 2), ("Size", 3, 3)] := by kernel_rfl
theorem u9:Tryz.prog.underlying 9=some .string:=by kernel_rfl
theorem u3:Tryz.prog.underlying 3=some (.int .i64):=by kernel_rfl
theorem agg9 (w:World):(isAgg 9).run Tryz.prog w=.ok false w:=by simp [isAgg,run_underlying u9]
theorem fequal_run (w:World) (p t p' t':List UInt8) (b s b' s':Int) :
  (Op.equalIn 10000 42 (.agg #[.string (bs p),.string (bs t),.int .i64 b,.int .i64 s]) (.agg #[.string (bs p'),.string (bs t'),.int .i64 b',.int .i64 s'])).run Tryz.prog w=.ok (feq ⟨p,t,b,s⟩ ⟨p',t',b',s'⟩) w:=by
 rw [run_equalIn_struct w 9999 42 _ _ st30 held30]
 have h:=flds30
 revert h
 generalize (Tryz.prog.fieldsOf 42).toList=L
 intro h
 have hl:L.length=4:=by have:=congrArg List.length h;simpa using this
 obtain ⟨f0,f1,f2,f3,rfl⟩:∃ f0 f1 f2 f3,L=[f0,f1,f2,f3]:=by
  rcases L with _ | ⟨f0,_ | ⟨f1,_ | ⟨f2,_ | ⟨f3,_ | ⟨f4,r⟩⟩⟩⟩⟩
  ·simp at hl
  ·simp at hl
  ·simp at hl
  ·simp at hl
  ·exact ⟨f0,f1,f2,f3,rfl⟩
  ·simp at hl
 ·simp only [List.map_cons,List.map_nil,List.cons.injEq,Prod.mk.injEq,and_true] at h
  obtain ⟨⟨n0,t0,o0⟩,⟨n1,t1,o1⟩,⟨n2,t2,o2⟩,⟨n3,t3,o3⟩⟩:=h
  have e9:∀ (a c:List UInt8) (w:World),(Op.equalIn 9999 9 (.string (bs a)) (.string (bs c))).run Tryz.prog w=.ok (a == c) w:=fun a c w=>by
   have:=run_equalIn_string (P:=Tryz.prog) w 9998 9 (bs a) (bs c) u9
   rw [bs_toList,bs_toList] at this;exact this
  have e3:∀ (a c:Int) (w:World),(Op.equalIn 9999 3 (.int .i64 a) (.int .i64 c)).run Tryz.prog w=.ok (a == c) w:=fun a c w=>run_equalIn_int (P:=Tryz.prog) w 9998 3 .i64 .i64 a c u3
  simp only [Op.eqFields,n0,n1,n2,n3,t0,t1,t2,t3,o0,o1,o2,o3]
  have g0 : ("Path" : String) ≠ "_" := by decide
  have g1 : ("Text" : String) ≠ "_" := by decide
  have g2 : ("Blob" : String) ≠ "_" := by decide
  have g3 : ("Size" : String) ≠ "_" := by decide
  simp only [g0,g1,g2,g3,ne_eq,not_false_eq_true,if_true,part,Sem.run_bind,agg9,Result.andThen_ok,Bool.false_eq_true,if_false]
  simp [e9,e3,feq]
  by_cases hp:p=p'<;>by_cases ht:t=t'<;>by_cases hb:b=b'<;>by_cases hs:s=s'<;>simp [hp,ht,hb,hs]
theorem feql_run (w:World) (p t p' t':List UInt8) (b s b' s':Int) :
  (binOp .eql 42 (.agg #[.string (bs p),.string (bs t),.int .i64 b,.int .i64 s]) (.agg #[.string (bs p'),.string (bs t'),.int .i64 b',.int .i64 s'])).run Tryz.prog w=.ok (.bool (feq ⟨p,t,b,s⟩ ⟨p',t',b',s'⟩)) w:=by
 rw [run_eql_struct,fequal_run];rfl
theorem neq_run (w:World) (p t p' t':List UInt8) (b s b' s':Int) :
  (binOp .neq 42 (.agg #[.string (bs p),.string (bs t),.int .i64 b,.int .i64 s]) (.agg #[.string (bs p'),.string (bs t'),.int .i64 b',.int .i64 s'])).run Tryz.prog w=.ok (.bool (!feq ⟨p,t,b,s⟩ ⟨p',t',b',s'⟩)) w:=by
 rw [run_neq_struct,fequal_run];rfl
theorem fguard_run (w:World) (op:BinOp) (x y:Operand) (xs ys:Array Value):(eqGuard op 42 x y (.agg xs) (.agg ys)).run Tryz.prog w=.ok () w:=run_eqGuard_agg w op 42 x y xs ys guard30
end Go.Proofs.YtkheacknelbcnaaGreatDoor
