import Derived.Test.YtppnbdnpapellaaGreatDoorJGy
import Derived.Test.YtppnbdnpapellaaGreatDoorTj
import Derived.Test.YtppnbdnpapellaaGreatDoorJEs
import Derived.Test.YtppnbdnpapellaaGreatDoorJCont
import Derived.Test.YtppnbdnpapellaaGreatDoorJGPg
import Derived.Test.YtppnbdnpapellaaGreatDoorJSShelf
set_option maxRecDepth 100000
set_option maxHeartbeats 16000000
namespace Go.Proofs.YtppnbdnpapellaaGreatDoor
section
def nd (N:List Lb) (i:Nat):Lb:=(N[i]?).getD ⟨[],[]⟩
theorem nd_at {N:List Lb} {i:Nat} (h:i < N.length):nd N i=N[i]:=by unfold nd;rw [List.getElem?_eq_getElem h];rfl
def lds (f:Nat→Nat) (i:Nat):List Nat:=(List.range i).filter (fun x=>f x == x)
def cl (f:Nat→Nat) (i l:Nat):List Nat:=(List.range i).filter (fun x=>f x == l)
def ptl (N:List Lb) (f:Nat→Nat) (i l:Nat):List Lb:=(cl f i l).map (nd N)
def PP (N:List Lb) (f:Nat→Nat) (i:Nat):List (List Lb):=(lds f i).map (ptl N f i)
theorem mem_lds {f:Nat→Nat} {i x:Nat}:x∈lds f i↔x < i∧f x=x:=by simp [lds]
theorem mem_cl {f:Nat→Nat} {i l x:Nat}:x∈cl f i l↔x < i∧f x=l:=by simp [cl]
theorem lds_succ (f:Nat→Nat) (i:Nat):lds f (i+1)=lds f i++(if f i=i then [i] else []):=by
 unfold lds
 rw [List.range_succ,List.filter_append]
 by_cases h:f i=i<;>simp [h]
theorem cl_succ (f:Nat→Nat) (i l:Nat):cl f (i+1) l=cl f i l++(if f i=l then [i] else []):=by
 unfold cl
 rw [List.range_succ,List.filter_append]
 by_cases h:f i=l<;>simp [h]
theorem ptl_succ (N:List Lb) (f:Nat→Nat) (i l:Nat):ptl N f (i+1) l=ptl N f i l++(if f i=l then [nd N i] else []):=by
 unfold ptl
 rw [cl_succ,List.map_append]
 by_cases h:f i=l<;>simp [h]
theorem lds_up (f:Nat→Nat) (i:Nat):(lds f i).Pairwise (· < ·):=List.Pairwise.sublist List.filter_sublist List.pairwise_lt_range
theorem cl_up (f:Nat→Nat) (i l:Nat):(cl f i l).Pairwise (· < ·):=List.Pairwise.sublist List.filter_sublist List.pairwise_lt_range
theorem lds_nodup (f:Nat→Nat) (i:Nat):(lds f i).Nodup:=(lds_up f i).imp (fun h=>Nat.ne_of_lt h)
theorem lds_len (f:Nat→Nat) (i:Nat):(lds f i).length≤i:=by
 have:=List.length_filter_le (fun x=>f x == x) (List.range i)
 rw [List.length_range] at this
 exact this
structure Lst (n:Nat) (out:Nat→List Nat) (f:Nat→Nat):Prop where
 mu:∀ x,x < n→Tj.Mu out x (f x)
 le:∀ x,x < n→∀ y,Tj.Mu out x y→f x≤y
section
variable {n:Nat} {out:Nat→List Nat} {f:Nat→Nat}
theorem mu_refl (x:Nat):Tj.Mu out x x:=⟨.refl _,.refl _⟩
theorem mu_symm {x y:Nat} (h:Tj.Mu out x y):Tj.Mu out y x:=⟨h.2,h.1⟩
theorem mu_trans {x y z:Nat} (h:Tj.Mu out x y) (k:Tj.Mu out y z):Tj.Mu out x z:=⟨h.1.trans k.1,k.2.trans h.2⟩
theorem Lst.self (h:Lst n out f) {x:Nat} (hx:x < n):f x≤x:=h.le x hx x (mu_refl x)
theorem Lst.lead (h:Lst n out f) {x:Nat} (hx:x < n):f (f x)=f x:=by
 have h1:=h.self hx
 have h2:=h.self (x:=f x) (by omega)
 have h3:=h.le x hx (f (f x)) (mu_trans (h.mu x hx) (h.mu (f x) (by omega)))
 omega
theorem Lst.eq (h:Lst n out f) {x y:Nat} (hx:x < n) (hy:y < n):f x=f y↔Tj.Mu out x y:=by
 constructor
 ·intro e
  have h1:=h.mu x hx
  rw [e] at h1
  exact mu_trans h1 (mu_symm (h.mu y hy))
 ·intro e
  have h1:=h.le x hx (f y) (mu_trans e (h.mu y hy))
  have h2:=h.le y hy (f x) (mu_trans (mu_symm e) (h.mu x hx))
  omega
theorem PP_len (N:List Lb) (i:Nat):(PP N f i).length=(lds f i).length:=by simp [PP]
theorem PP_new (N:List Lb) (h:Lst n out f) {i:Nat} (hi:i < n) (e:f i=i):PP N f i++[[]]=(lds f (i+1)).map (ptl N f i):=by
 rw [lds_succ,if_pos e,List.map_append]
 have:ptl N f i i=[]:=by
  unfold ptl
  rw [List.map_eq_nil_iff]
  rw [List.eq_nil_iff_forall_not_mem]
  intro x hx
  obtain ⟨h1,h2⟩:=mem_cl.1 hx
  have:=h.self (x:=x) (by omega)
  omega
 rw [List.map_singleton,this]
 rfl
theorem PP_old (N:List Lb) {i:Nat} (e:f i≠i):PP N f i=(lds f (i+1)).map (ptl N f i):=by
 rw [lds_succ,if_neg e,List.append_nil]
 rfl
theorem PP_step (N:List Lb) {i p:Nat} (hp:(lds f (i+1))[p]? = some (f i)):((lds f (i+1)).map (ptl N f i)).set p (ptl N f i (f i)++[nd N i])=PP N f (i+1):=by
 apply List.ext_getElem?
 intro j
 unfold PP
 rw [List.getElem?_set]
 have hpl:p < (lds f (i+1)).length:=(List.getElem?_eq_some_iff.1 hp).1
 by_cases ej:p=j
 ·subst ej
  rw [if_pos rfl,if_pos (by simpa using hpl),List.getElem?_map,hp]
  simp [ptl_succ]
 ·rw [if_neg ej,List.getElem?_map,List.getElem?_map]
  cases hj:(lds f (i+1))[j]? with
  | none=>rfl
  | some l=>
   have hne:l≠f i:=by
    rintro rfl
    have h1:=List.getElem?_eq_some_iff.1 hp
    have h2:=List.getElem?_eq_some_iff.1 hj
    obtain ⟨a1,a2⟩:=h1
    obtain ⟨b1,b2⟩:=h2
    have e1:=List.Nodup.idxOf_getElem (lds_nodup f (i+1)) p a1
    have e2:=List.Nodup.idxOf_getElem (lds_nodup f (i+1)) j b1
    rw [a2] at e1
    rw [b2] at e2
    exact ej (e1.symm.trans e2)
   simp [ptl_succ,Ne.symm hne]
end
structure NL (ns:List Lb) (out:Lb→List Lb) (N:List Lb):Prop where
 up:UpL N
 mem:∀ x,x∈N↔x∈ns
 sub:∀ a b,b∈out a→a∈ns∧b∈ns
section
variable {ns N:List Lb} {out:Lb→List Lb} {E:List (Lb×Lb)}
theorem NL.nodup (h:NL ns out N):N.Nodup:=Gs.Ris.nodup stoL h.up
theorem NL.idx (h:NL ns out N) {i:Nat} (hi:i < N.length):N.idxOf (nd N i)=i:=by rw [nd_at hi];exact idx_nd h.nodup hi
theorem NL.of_idx {b:Lb} (hb:b∈N):nd N (N.idxOf b)=b:=by
 have hl:N.idxOf b < N.length:=List.idxOf_lt_length_of_mem hb
 rw [nd_at hl]
 exact List.getElem_idxOf hl
theorem NL.lt {b:Lb} (hb:b∈N):N.idxOf b < N.length:=List.idxOf_lt_length_of_mem hb
theorem NL.mem_oN (h:NL ns out N) {i j:Nat}:j∈oN N out i↔i < N.length∧j < N.length∧nd N j∈out (nd N i):=by
 unfold oN
 by_cases hi:i < N.length
 ·rw [List.getElem?_eq_getElem hi]
  simp only [List.mem_map]
  rw [nd_at hi]
  constructor
  ·rintro ⟨b,hb,rfl⟩
   have hbN:=(h.mem b).2 (h.sub _ b hb).2
   exact ⟨hi,NL.lt hbN,by rw [NL.of_idx hbN];exact hb⟩
  ·rintro ⟨_,hj,hm⟩
   exact ⟨nd N j,hm,h.idx hj⟩
 ·rw [List.getElem?_eq_none (by omega)]
  simp [hi]
theorem NL.way (h:NL ns out N) (hE:∀ a b,(a,b)∈E↔b∈out a) {i j:Nat} (hw:Tj.W (oN N out) i j):Gs.Way E (nd N i) (nd N j):=by
 induction hw with
 | refl=>exact .refl _
 | step _ h2 ih=>exact .step ih ((hE _ _).2 (h.mem_oN.1 h2).2.2)
theorem NL.yaw (h:NL ns out N) (hE:∀ a b,(a,b)∈E↔b∈out a) {a b:Lb} (hw:Gs.Way E a b) (ha:a∈N):b∈N∧Tj.W (oN N out) (N.idxOf a) (N.idxOf b):=by
 induction hw with
 | refl=>exact ⟨ha,.refl _⟩
 | step h1 h2 ih=>
  obtain ⟨i1,i2⟩:=ih
  have h3:=(hE _ _).1 h2
  have h4:=(h.mem _).2 (h.sub _ _ h3).2
  exact ⟨h4,.step i2 (h.mem_oN.2 ⟨NL.lt i1,NL.lt h4,by rw [NL.of_idx h4,NL.of_idx i1];exact h3⟩)⟩
theorem NL.mu (h:NL ns out N) (hE:∀ a b,(a,b)∈E↔b∈out a) {i j:Nat} (hi:i < N.length) (hj:j < N.length):Tj.Mu (oN N out) i j↔Gs.Mut E (nd N i) (nd N j):=by
 have mi:nd N i∈N:=by rw [nd_at hi];exact List.getElem_mem hi
 have mj:nd N j∈N:=by rw [nd_at hj];exact List.getElem_mem hj
 constructor
 ·rintro ⟨a,b⟩
  exact ⟨h.way hE a,h.way hE b⟩
 ·rintro ⟨a,b⟩
  have h1:=(h.yaw hE a mi).2
  have h2:=(h.yaw hE b mj).2
  rw [h.idx hi,h.idx hj] at h1 h2
  exact ⟨h1,h2⟩
theorem NL.lt_of (h:NL ns out N) {i j:Nat} (hij:i < j) (hj:j < N.length):ltL (nd N i) (nd N j)=true:=by
 rw [nd_at hj,nd_at (by omega:i < N.length)]
 exact (List.pairwise_iff_getElem.1 h.up) i j (by omega) hj hij
theorem NL.pts (h:NL ns out N) (hE:∀ a b,(a,b)∈E↔b∈out a) {f:Nat→Nat} (hf:Lst N.length (oN N out) f):Gs.Pts ltL ns E (PP N f N.length):=by
 have hmem:∀ l x,x∈ptl N f N.length l↔∃ i,i < N.length∧f i=l∧x=nd N i:=by
  intro l x
  unfold ptl
  rw [List.mem_map]
  constructor
  ·rintro ⟨i,hi,rfl⟩
   obtain ⟨a,b⟩:=mem_cl.1 hi
   exact ⟨i,a,b,rfl⟩
  ·rintro ⟨i,a,b,rfl⟩
   exact ⟨i,mem_cl.2 ⟨a,b⟩,rfl⟩
 have hhead:∀ l,l < N.length→f l=l→(ptl N f N.length l).head? = some (nd N l):=by
  intro l hl hfl
  unfold ptl
  rw [List.head?_map]
  have h1:l∈cl f N.length l:=mem_cl.2 ⟨hl,hfl⟩
  cases hc:cl f N.length l with
  | nil=>rw [hc] at h1;cases h1
  | cons x r=>
   have h2:x∈cl f N.length l:=by rw [hc];simp
   obtain ⟨a,b⟩:=mem_cl.1 h2
   have h3:=hf.self a
   have h4:x=l:=by
    rw [hc] at h1
    rcases List.mem_cons.1 h1 with e | e
    ·exact e.symm
    ·have:=cl_up f N.length l
     rw [hc] at this
     have:=(List.pairwise_cons.1 this).1 l e
     omega
   simp [h4]
 refine ⟨fun p hp=>?_,fun p hp=>?_,?_,fun x hx=>?_,fun p hp x hx=>?_⟩
 ·obtain ⟨l,_,rfl⟩:=List.mem_map.1 hp
  unfold ptl Gs.Ris
  rw [List.pairwise_map]
  refine List.Pairwise.imp_of_mem (fun {a b} ha hb hab=>h.lt_of hab (mem_cl.1 hb).1) (cl_up f N.length l)
 ·obtain ⟨l,hl,rfl⟩:=List.mem_map.1 hp
  obtain ⟨a,b⟩:=mem_lds.1 hl
  intro e
  have:=hhead l a b
  rw [e] at this
  cases this
 ·unfold PP
  rw [List.pairwise_map]
  refine List.Pairwise.imp_of_mem (fun {a b} ha hb hab x y hx hy=>?_) (lds_up f N.length)
  obtain ⟨a1,a2⟩:=mem_lds.1 ha
  obtain ⟨b1,b2⟩:=mem_lds.1 hb
  rw [hhead a a1 a2] at hx
  rw [hhead b b1 b2] at hy
  injection hx with hx
  injection hy with hy
  rw [← hx,← hy]
  exact h.lt_of hab b1
 ·have hxN:=(h.mem x).2 hx
  have hi:=NL.lt hxN
  have hs:=hf.self hi
  refine ⟨ptl N f N.length (f (N.idxOf x)),List.mem_map.2 ⟨f (N.idxOf x),mem_lds.2 ⟨by omega,hf.lead hi⟩,rfl⟩,(hmem _ _).2 ⟨N.idxOf x,hi,rfl,(NL.of_idx hxN).symm⟩⟩
 ·obtain ⟨l,hl,rfl⟩:=List.mem_map.1 hp
  obtain ⟨i,hi,hfi,rfl⟩:=(hmem l x).1 hx
  have mi:nd N i∈N:=by rw [nd_at hi];exact List.getElem_mem hi
  refine ⟨(h.mem _).1 mi,fun y=>?_⟩
  rw [hmem]
  constructor
  ·rintro ⟨j,hj,hfj,rfl⟩
   have mj:nd N j∈N:=by rw [nd_at hj];exact List.getElem_mem hj
   exact ⟨(h.mem _).1 mj,(h.mu hE hi hj).1 ((hf.eq hi hj).1 (hfi.trans hfj.symm))⟩
  ·rintro ⟨hy,hm⟩
   have hyN:=(h.mem y).2 hy
   have hj:=NL.lt hyN
   refine ⟨N.idxOf y,hj,?_,(NL.of_idx hyN).symm⟩
   have hm2:Gs.Mut E (nd N i) (nd N (N.idxOf y)):=by rw [NL.of_idx hyN];exact hm
   rw [← hfi]
   exact ((hf.eq hi hj).2 ((h.mu hE hi hj).2 hm2)).symm
end
end
section
open Go.RowKit Go.Maps
structure PL (base:Nat) (w:World) (v:Value) (V:List Value) (P:List (List Lb)):Prop where
 row:w.ownsRow base 23 1 v V.length V
 len:V.length=P.length
 own:∀ (j:Nat) (vj:Value) (l:List Lb),V[j]? = some vj→P[j]? = some l→OwnL base w vj l
 dis:∀ (i j:Nat) (vi vj:Value) (k:Nat),V[i]? = some vi→V[j]? = some vj→vi.ownBlock=some k→vj.ownBlock=some k→i=j
section
variable {base:Nat} {w w':World} {v:Value} {V:List Value} {P:List (List Lb)}
theorem PL.nil (base:Nat) (w:World):PL base w (.slice none 0 0) [] []:=⟨World.ownsRow_nil _ _ _ _,rfl,fun j vj l h=>by simp at h,fun i j vi vj k h=>by simp at h⟩
theorem PL.at (h:PL base w v V P) {j:Nat} {vj:Value} (hj:V[j]? = some vj):∃ l,P[j]? = some l∧OwnL base w vj l:=by
 have h1:=(List.getElem?_eq_some_iff.1 hj).1
 rw [h.len] at h1
 exact ⟨P[j],List.getElem?_eq_getElem h1,h.own j vj _ hj (List.getElem?_eq_getElem h1)⟩
theorem PL.stay (h:PL base w v V P) (hs:∀ k,base≤k→k < w.heap.size→w'.heap[k]? = w.heap[k]?):PL base w' v V P:=
 ⟨row_kept h.row (fun k hk=>by obtain ⟨a,b,_⟩:=row_tag h.row hk;exact hs k a b),h.len,fun j vj l h1 h2=>row_kept (h.own j vj l h1 h2) (fun k hk=>by obtain ⟨a,b,_⟩:=row_tag (h.own j vj l h1 h2) hk;exact hs k a b),h.dis⟩
theorem PL.later (h:PL base w v V P) (hb:Below w.heap.size w w'):PL base w' v V P:=h.stay (fun k _ hk=>hb.block k hk)
theorem PL.only {S:List Nat} (h:PL base w v V P) (ho:Only S w w') (hS:∀ k∈S,k < base):PL base w' v V P:=h.stay (fun k hk hl=>ho.block k hl (fun e=>by have:=hS k e;omega))
theorem PL.mono {base':Nat} (h:PL base w v V P) (hb:base'≤base):PL base' w v V P:=⟨World.ownsRow.mono h.row hb,h.len,fun j vj l h1 h2=>(h.own j vj l h1 h2).mono hb,h.dis⟩
theorem tags_ne {k e e':Nat} {c c':Array Value} (h:w.heap[k]? = some (.cells c e (0,0))) (h':w.heap[k]? = some (.cells c' e' (0,0))):e=e':=by
 rw [h] at h'
 injection h' with h'
 injection h'
theorem PL.push (h:PL base w v V P) {o:Obj} {v':Value} (hg:(w.alloc o).grownBy w' v.ownBlock) (hr:w'.ownsRow base 23 1 v' (V++[Value.slice none 0 0]).length (V++[Value.slice none 0 0])):PL base w' v' (V++[Value.slice none 0 0]) (P++[[]]):=by
 have ho:Only v.ownBlock.toList w w':=only_alloc hg
 have hn:∀ k,k∈v.ownBlock.toList→v.ownBlock=some k:=fun k hk=>by simpa using hk
 refine ⟨hr,by simp [h.len],fun j vj l h1 h2=>?_,fun i j vi vj k h1 h2 h3 h4=>?_⟩
 ·by_cases hj:j < V.length
  ·rw [List.getElem?_append_left hj] at h1
   rw [List.getElem?_append_left (by rw [← h.len];exact hj)] at h2
   have h3:=h.own j vj l h1 h2
   refine row_only h3 ho (fun k hk e=>?_)
   obtain ⟨_,_,c1,t1⟩:=row_tag h3 hk
   obtain ⟨_,_,c2,t2⟩:=row_tag h.row (hn k e)
   exact absurd (tags_ne t1 t2) (by decide)
  ·have hl:j < (V++[Value.slice none 0 0]).length:=(List.getElem?_eq_some_iff.1 h1).1
   simp at hl
   have hj2:j=V.length:=by omega
   subst hj2
   rw [List.getElem?_append_right (Nat.le_refl _)] at h1
   rw [h.len,List.getElem?_append_right (Nat.le_refl _)] at h2
   simp at h1 h2
   subst h1 h2
   exact OwnL.nil _ _
 ·have hi:i < V.length:=by
   rcases Nat.lt_or_ge i V.length with a | a
   ·exact a
   ·have hl:i < (V++[Value.slice none 0 0]).length:=(List.getElem?_eq_some_iff.1 h1).1
    simp at hl
    have:i=V.length:=by omega
    subst this
    rw [List.getElem?_append_right (Nat.le_refl _)] at h1
    simp at h1
    subst h1
    cases h3
  have hj:j < V.length:=by
   rcases Nat.lt_or_ge j V.length with a | a
   ·exact a
   ·have hl:j < (V++[Value.slice none 0 0]).length:=(List.getElem?_eq_some_iff.1 h2).1
    simp at hl
    have:j=V.length:=by omega
    subst this
    rw [List.getElem?_append_right (Nat.le_refl _)] at h2
    simp at h2
    subst h2
    cases h4
  rw [List.getElem?_append_left hi] at h1
  rw [List.getElem?_append_left hj] at h2
  exact h.dis i j vi vj k h1 h2 h3 h4
theorem PL.add {gp c n:Nat} (h:PL base w (.slice (some ⟨gp,0,none⟩) n c) V P) (hn:V.length=n) {p:Nat} {vp vp':Value} {l l':List Lb} (hp:V[p]? = some vp) (hl:P[p]? = some l) {o:Obj} (hg:(w.alloc o).grownBy w' vp.ownBlock) (hr:OwnL base w' vp' l') (hv:vp'.ownBlock=vp.ownBlock∨∃ k,vp'.ownBlock=some k∧w.heap.size≤k) :
  w'.cell? ⟨gp,p,none⟩=some vp∧w'.frozen? ⟨gp,p,none⟩=false∧PL base (w'.setCell ⟨gp,p,none⟩ vp') (.slice (some ⟨gp,0,none⟩) n c) (V.set p vp') (P.set p l'):=by
 subst hn
 have ho:Only vp.ownBlock.toList w w':=only_alloc hg
 have hk:∀ k,k∈vp.ownBlock.toList→vp.ownBlock=some k:=fun k hk=>by simpa using hk
 have hvp:=h.own p vp l hp hl
 have hpl:p < V.length:=(List.getElem?_eq_some_iff.1 hp).1
 obtain ⟨_,glt,c1,t1⟩:=row_tag h.row (g:=gp) rfl
 have hrow:w'.ownsRow base 23 1 (.slice (some ⟨gp,0,none⟩) V.length c) V.length V:=row_only h.row ho (fun k hk' e=>by
  obtain ⟨_,_,c2,t2⟩:=row_tag hvp (hk k e)
  obtain ⟨_,_,c3,t3⟩:=row_tag h.row hk'
  exact absurd (tags_ne t2 t3) (by decide))
 obtain ⟨_,_,c4,t4⟩:=row_tag hrow (g:=gp) rfl
 have hset:=Only.set w' gp p vp'
 have hne:∀ {x:Value} {m:List Lb},OwnL base w' x m→∀ k,x.ownBlock=some k→k∉[gp]:=fun hx k hk' e=>by
  obtain ⟨_,_,c5,t5⟩:=row_tag hx hk'
  rw [List.mem_singleton.1 e] at t5
  exact absurd (tags_ne t4 t5) (by decide)
 refine ⟨row_cell hrow hp,row_soft hrow p,⟨?_,by simpa using h.len,fun j vj m h1 h2=>?_,fun i j vi vj k h1 h2 h3 h4=>?_⟩⟩
 ·have h9:=row_set hrow p vp'
  simpa using h9
 ·by_cases e:j=p
  ·subst e
   rw [List.getElem?_set_self hpl] at h1
   rw [List.getElem?_set_self (by rw [← h.len];exact hpl)] at h2
   injection h1 with h1
   injection h2 with h2
   subst h1 h2
   exact row_only hr hset (hne hr)
  ·rw [List.getElem?_set_ne (Ne.symm e)] at h1 h2
   have h3:=h.own j vj m h1 h2
   have h4:OwnL base w' vj m:=row_only h3 ho (fun k hk' e2=>e (h.dis j p vj vp k h1 hp hk' (hk k e2)))
   exact row_only h4 hset (hne h4)
 ·have old:∀ {j:Nat} {vj:Value} {k:Nat},j≠p→V[j]? = some vj→vj.ownBlock=some k→vp'.ownBlock=some k→False:=fun {j vj k} e h1 h2 h3=>by
   rcases hv with a | ⟨k',a,b⟩
   ·rw [a] at h3
    exact e (h.dis j p vj vp k h1 hp h2 h3)
   ·rw [a] at h3
    injection h3 with h3
    obtain ⟨m,_,hm⟩:=h.at h1
    have:=(row_tag hm h2).2.1
    omega
  by_cases ei:i=p
  ·by_cases ej:j=p
   ·omega
   ·exfalso
    subst ei
    rw [List.getElem?_set_self hpl] at h1
    rw [List.getElem?_set_ne (Ne.symm ej)] at h2
    injection h1 with h1
    subst h1
    exact old ej h2 h4 h3
  ·by_cases ej:j=p
   ·exfalso
    subst ej
    rw [List.getElem?_set_self hpl] at h2
    rw [List.getElem?_set_ne (Ne.symm ei)] at h1
    injection h2 with h2
    subst h2
    exact old ei h1 h3 h4
   ·rw [List.getElem?_set_ne (Ne.symm ei)] at h1
    rw [List.getElem?_set_ne (Ne.symm ej)] at h2
    exact h.dis i j vi vj k h1 h2 h3 h4
end
end
section
open Go.RowKit Go.Maps
section
variable {base:Nat} {w w':World}
theorem TOwn.stay {v:Tv} {t:Tg} (h:TOwn base w v t) (hs:∀ k,base≤k→k < w.heap.size→w'.heap[k]? = w.heap[k]?):TOwn base w' v t:=
 ⟨h.name,row_kept h.s (fun k hk=>hs k (h.s.lt hk).1 (h.s.lt hk).2),row_kept h.d (fun k hk=>hs k (h.d.lt hk).1 (h.d.lt hk).2),row_kept h.e (fun k hk=>hs k (h.e.lt hk).1 (h.e.lt hk).2),h.sd,h.se,h.de⟩
theorem TsOwn.stay (hs:∀ k,base≤k→k < w.heap.size→w'.heap[k]? = w.heap[k]?):∀ {a:List Tv} {b:List Tg},TsOwn base w a b→TsOwn base w' a b
 | [],[],_=>trivial
 | _::_,_::_,h=>⟨h.1.stay hs,TsOwn.stay hs h.2⟩
theorem GOwn.stay {v:Value} {l:List Tg} (h:GOwn base w v l) (hs:∀ k,base≤k→k < w.heap.size→w'.heap[k]? = w.heap[k]?):GOwn base w' v l:=by
 obtain ⟨a,h1,h2,h3⟩:=h.it
 exact ⟨a,row_kept h1 (fun k hk=>by obtain ⟨x,y⟩:=World.ownsRow.lt h1 k hk;exact hs k x y),h2.stay hs,h3⟩
end
def GIn (R:Nat→Prop) (w:World) (v:Value) (l:List Tg):Prop:=∃ base w1,GOwn base w1 v l∧∀ k,base≤k→k < w1.heap.size→R k∧w.heap[k]? = w1.heap[k]?
section
variable {R R':Nat→Prop} {w w':World} {v:Value} {l:List Tg}
theorem GIn.keep (h:GIn R w v l) (hs:∀ k,R k→w'.heap[k]? = w.heap[k]?) (hm:∀ k,R k→R' k):GIn R' w' v l:=by
 obtain ⟨base,w1,h1,h2⟩:=h
 exact ⟨base,w1,h1,fun k a b=>⟨hm k (h2 k a b).1,(hs k (h2 k a b).1).trans (h2 k a b).2⟩⟩
end
def says (l:List Fl) (p:List UInt8):List Tg×Int:=match fnd l (whl p wName) with
 | some f=>prsM p f.text
 | none=>([],-1)
theorem whl_inj {p q n:List UInt8} (h:whl p n=whl q n):p=q:=by
 unfold whl at h
 by_cases hp:p=[]
 ·by_cases hq:q=[]
  ·rw [hp,hq]
  ·simp [hp,hq] at h
   have:=congrArg List.length h
   simp at this
   omega
 ·by_cases hq:q=[]
  ·simp [hp,hq] at h
   have:=congrArg List.length h
   simp at this
   omega
  ·simp [hp,hq] at h
   exact h
structure RX (w0 w:World) (R:Nat→Prop) (r:Nat) (l:List Fl) (c:List (List UInt8)):Prop where
 bel:Below w0.heap.size w0 w
 rlo:∀ k,R k→w0.heap.size≤k∧k < w.heap.size
 it:∃ fv mb F cnt,w.heap[r]? = some (.cells #[fv,.map (some mb)] 66 (0,0))∧FS w0 fv l∧MS w mb F cnt∧cnt≤c.length∧r≠mb∧R r∧R mb∧(∀ k x,F k=some x→∃ p,k=whl p wName∧x.2=(says l p).2∧GIn (fun j=>R j∧j≠mb) w (sv x.1) (says l p).1)∧∀ k,(F k).isSome=true↔∃ p,p∈c∧k=whl p wName
theorem RX.stay {w0 w w':World} {R:Nat→Prop} {r:Nat} {c:List (List UInt8)} {l:List Fl} (h:RX w0 w R r l c) (hb:Below w0.heap.size w w') (hs:∀ k,R k→w'.heap[k]? = w.heap[k]?):RX w0 w' R r l c:=by
 obtain ⟨fv,mb,F,cnt,h1,h2,h3,h4,h5,h6,h7,h8⟩:=h.it
 refine ⟨below_trans h.bel hb,fun k hk=>⟨(h.rlo k hk).1,Nat.lt_of_lt_of_le (h.rlo k hk).2 hb.size⟩,fv,mb,F,cnt,(hs r h6).trans h1,h2,h3.block (hs mb h7),h4,h5,h6,h7,fun k x hk=>?_,h8.2⟩
 obtain ⟨p,e1,e2,e3⟩:=h8.1 k x hk
 exact ⟨p,e1,e2,e3.keep (fun j hj=>hs j hj.1) (fun j hj=>hj)⟩
theorem RX.later {w0 w w':World} {R:Nat→Prop} {r:Nat} {c:List (List UInt8)} {l:List Fl} (h:RX w0 w R r l c) (hb:Below w.heap.size w w'):RX w0 w' R r l c:=
 h.stay (below_mono hb h.bel.size) (fun k hk=>hb.block k (h.rlo k hk).2)
theorem bbelow_any (p s:List UInt8) (w:World) (hp:p.length≤1000000000) (hs:s.length≤1000000000) :
  Calls Tryz.prog 92 #[.string (bs p),.string (bs s)] w fun e w'=>e=.returned (.string (bs (whl p s)))∧w'=w:=by
 have e1:=isE p
 have z1:(bs p).size=p.length:=rfl
 have z2:(bs s).size=s.length:=rfl
 unfold whl
 by_cases h0:p=[]
 ·have i0:p.isEmpty=true:=by rw [h0];rfl
  rw [i0] at e1
  rw [if_pos h0]
  clear h0
  go_enter Tryz.func92,Tryz.ntmps92
  go_wp2_with fail
  go_ret
  exact ⟨rfl,rfl⟩
 ·have i0:p.isEmpty=false:=by cases p;exact absurd rfl h0;rfl
  rw [i0] at e1
  rw [if_neg h0]
  clear h0
  have HW:Hid (bs p++ByteArray.mk #[47]++bs s=bs (p++47::s)):=by
   show bs p++bs [47]++bs s=_
   rw [bs_app,bs_app];simp
  go_enter Tryz.func92,Tryz.ntmps92
  go_wp2_with fail
  go_ret
  exact ⟨by rw [← HW.out];rfl,rfl⟩
end
end Go.Proofs.YtppnbdnpapellaaGreatDoor
