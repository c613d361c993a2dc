import Derived.Test.YtppnbdnpapellaaGreatDoorJOrd
namespace Go.Proofs.YtppnbdnpapellaaGreatDoor
namespace Tj
inductive W (out:Nat→List Nat):Nat→Nat→Prop
 | refl (a:Nat):W out a a
 | step {a b c:Nat}:W out a b→c∈out b→W out a c
theorem W.trans {out:Nat→List Nat} {a b c:Nat} (h:W out a b) (k:W out b c):W out a c:=by
 induction k with
 | refl=>exact h
 | step _ h2 ih=>exact .step ih h2
theorem W.one {out:Nat→List Nat} {a b:Nat} (h:b∈out a):W out a b:=.step (.refl a) h
theorem W.stays {out:Nat→List Nat} {C:Nat→Prop} (hC:∀ x,C x→∀ y∈out x,C y) {a b:Nat} (h:W out a b) (ha:C a):C b:=by
 induction h with
 | refl=>exact ha
 | step _ h2 ih=>exact hC _ ih _ h2
def Mu (out:Nat→List Nat) (a b:Nat):Prop:=W out a b∧W out b a
def upd (f:Nat→Nat) (a v:Nat):Nat→Nat:=fun x=>if x=a then v else f x
@[simp] theorem upd_same (f:Nat→Nat) (a v:Nat):upd f a v a=v:=by simp [upd]
theorem upd_ne {f:Nat→Nat} {a v x:Nat} (h:x≠a):upd f a v x=f x:=by simp [upd,h]
structure St where
 met:Nat→Nat
 early:Nat→Nat
 least:Nat→Nat
 op:List Nat
 cnt:Nat
def meet (s:St) (a:Nat):St:=⟨upd s.met a (s.cnt+1),upd s.early a (s.cnt+1),s.least,s.op++[a],s.cnt+1⟩
def reaches (s:St) (a b:Nat):St:=if 0 < s.early b then { s with early:=upd s.early a (min (s.early a) (s.early b)) } else s
def close (s:St) (k m:Nat):St:={ s with early:=fun x=>if x∈s.op.drop k then 0 else s.early x,least:=fun x=>if x∈s.op.drop k then m else s.least x,op:=s.op.take k }
def Tl (s:St) (x y:Nat):Prop:=s.met y≠0∧(s.early y=0∨s.early x≤s.met y)
def Abv (out:Nat→List Nat) (s:St) (v:Nat):List (Nat×Nat)→Prop
 | []=>True
 | (u,h)::r=>0 < h∧(out u)[h - 1]? = some v∧(∀ y∈(out u).take (h - 1),Tl s u y)∧Abv out s u r
def Pth (out:Nat→List Nat) (s:St):List (Nat×Nat)→Prop
 | []=>True
 | (v,g)::r=>(∀ y∈(out v).take g,Tl s v y)∧Abv out s v r
theorem Abv.mono {out:Nat→List Nat} {s s':St}:∀ {r:List (Nat×Nat)} {v:Nat},Abv out s v r→(∀ u∈r.map (·.1),∀ y,Tl s u y→Tl s' u y)→Abv out s' v r
 | [],_,_,_=>trivial
 | (u,h)::r,v,⟨h1,h2,h3,h4⟩,hm=>⟨h1,h2,fun y hy=>hm u (by simp) y (h3 y hy),h4.mono (fun u hu=>hm u (by simp [hu]))⟩
structure Core (n:Nat) (out:Nat→List Nat) (s:St) (p:List Nat):Prop where
 mem:∀ x,x∈s.op↔(s.met x≠0∧s.early x≠0)
 ea:∀ x,s.early x≠0→s.met x≠0
 up:s.op.Pairwise (fun a b=>s.met a < s.met b)
 cnt:∀ x,s.met x≤s.cnt
 lt:∀ x,s.met x≠0→x < n
 low:∀ x∈s.op,s.early x≤s.met x∧∃ y∈s.op,s.met y=s.early x∧W out x y
 psub:∀ v∈p,v∈s.op
 pdn:(p).Pairwise (fun a b=>s.met b < s.met a)
 pw:∀ v∈p,∀ x∈s.op,s.met v≤s.met x→W out v x
 don:∀ x∈s.op,x∉p→s.early x < s.met x
 cls:∀ x,s.met x≠0→s.early x=0→(∀ y∈out x,s.met y≠0∧s.early y=0)∧Mu out x (s.least x)∧∀ y,Mu out x y→s.least x≤y
 tl:∀ x∈s.op,x∉p→∀ y∈out x,Tl s x y
 und:∀ v∈p,∀ x∈s.op,x∉p→s.met v < s.met x→(∀ u∈p,s.met u≤s.met x→s.met u≤s.met v)→s.early v≤s.early x
def unm (f:Nat→Nat):Nat→Nat
 | 0=>0
 | k+1=>unm f k+if f k=0 then 1 else 0
theorem unm_ge {f:Nat→Nat} {a v:Nat}:∀ n,n≤a→unm (upd f a v) n=unm f n
 | 0,_=>rfl
 | n+1,h=>by unfold unm;rw [unm_ge n (by omega),upd_ne (by omega)]
theorem unm_lt {f:Nat→Nat} {a v:Nat} (hv:v≠0) (ha:f a=0):∀ n,a < n→unm (upd f a v) n+1=unm f n
 | 0,h=>by omega
 | n+1,h=>by
  unfold unm
  by_cases e:a=n
  ·subst e
   rw [unm_ge a (Nat.le_refl _),upd_same,if_neg hv,if_pos ha]
  ·rw [upd_ne (by omega)]
   have:=unm_lt hv ha n (by omega)
   omega
theorem unm_zero:∀ n,unm (fun _=>0) n=n
 | 0=>rfl
 | n+1=>by unfold unm;rw [unm_zero n];simp
structure Inv (n:Nat) (out:Nat→List Nat) (s:St) (P:List (Nat×Nat)):Prop where
 core:Core n out s (P.map (·.1))
 num:s.cnt+unm s.met n=n
 pth:Pth out s P
theorem Inv.start (n:Nat) (out:Nat→List Nat):Inv n out ⟨fun _=>0,fun _=>0,fun _=>0,[],0⟩ []:=by
 refine ⟨?_,by simp [unm_zero],trivial⟩
 constructor<;>simp
theorem pair_inj {f:Nat→Nat}:∀ {l:List Nat},l.Pairwise (fun a b=>f a < f b)→∀ {x y},x∈l→y∈l→f x=f y→x=y
 | [],_,_,_,h,_,_=>by cases h
 | a::r,hp,x,y,hx,hy,e=>by
  obtain ⟨h1,h2⟩:=List.pairwise_cons.1 hp
  rcases List.mem_cons.1 hx with hx | hx
  ·rcases List.mem_cons.1 hy with hy | hy
   ·rw [hx,hy]
   ·have:=h1 y hy;rw [← hx] at this;omega
  ·rcases List.mem_cons.1 hy with hy | hy
   ·have:=h1 x hx;rw [← hy] at this;omega
   ·exact pair_inj h2 hx hy e
theorem Core.nodup {n:Nat} {out:Nat→List Nat} {s:St} {p:List Nat} (h:Core n out s p):s.op.Nodup:=
 h.up.imp (fun {a b} hab e=>by rw [e] at hab;omega)
theorem Core.none {n:Nat} {out:Nat→List Nat} {s:St} (h:Core n out s []):s.op=[]:=by
 cases e:s.op with
 | nil=>rfl
 | cons a r=>
  exfalso
  have ha:a∈s.op:=by rw [e];simp
  have h1:=h.don a ha (by simp)
  obtain ⟨_,y,hy,h2,_⟩:=h.low a ha
  have hp:=h.up
  rw [e] at hp hy
  rcases List.mem_cons.1 hy with hy | hy
  ·rw [hy] at h2;omega
  ·have:=(List.pairwise_cons.1 hp).1 y hy;omega
theorem Core.meets {n:Nat} {out:Nat→List Nat} {s:St} {p:List Nat} (h:Core n out s p) {a:Nat} (ha:s.met a=0) (han:a < n) (hP:∀ u∈p,W out u a):Core n out (meet s a) (a::p):=by
 have hea:s.early a=0:=by
  rcases Nat.eq_zero_or_pos (s.early a) with h1 | h1
  ·exact h1
  ·exact absurd ha (h.ea a (by omega))
 have hno:a∉s.op:=fun h1=>((h.mem a).1 h1).1 ha
 have hne:∀ x∈s.op,x≠a:=fun x hx e=>hno (e▸hx)
 have hm:∀ x,x≠a→(meet s a).met x=s.met x:=fun x hx=>upd_ne hx
 have he:∀ x,x≠a→(meet s a).early x=s.early x:=fun x hx=>upd_ne hx
 have hma:(meet s a).met a=s.cnt+1:=upd_same _ _ _
 have heA:(meet s a).early a=s.cnt+1:=upd_same _ _ _
 have hop:(meet s a).op=s.op++[a]:=rfl
 have hpa:a∉p:=fun h1=>hno (h.psub a h1)
 have hcl:∀ y,s.met y≠0→y≠a:=fun y hy e=>hy (e▸ha)
 refine ⟨fun x=>?_,fun x hx=>?_,?_,fun x=>?_,fun x hx=>?_,fun x hx=>?_,fun v hv=>?_,?_,fun v hv x hx hvx=>?_,fun x hx hxp=>?_,fun x hx0 hx1=>?_,fun x hx hxp y hy=>?_,fun v hv x hx hxp hvx hu=>?_⟩
 ·by_cases e:x=a
  ·subst e;rw [hop,hma,heA];simp
  ·rw [hop,hm x e,he x e,← h.mem x];simp [e]
 ·by_cases e:x=a
  ·subst e;rw [hma];omega
  ·rw [he x e] at hx;rw [hm x e];exact h.ea x hx
 ·rw [hop,List.pairwise_append]
  refine ⟨List.Pairwise.imp_of_mem (fun {x y} hx hy hxy=>?_) h.up,List.pairwise_singleton _ _,fun x hx y hy=>?_⟩
  ·rw [hm x (hne x hx),hm y (hne y hy)];exact hxy
  ·rw [List.mem_singleton.1 hy,hm x (hne x hx),hma];have:=h.cnt x;omega
 ·by_cases e:x=a
  ·subst e;rw [hma];exact Nat.le_refl _
  ·rw [hm x e];exact Nat.le_succ_of_le (h.cnt x)
 ·by_cases e:x=a
  ·subst e;exact han
  ·rw [hm x e] at hx;exact h.lt x hx
 ·by_cases e:x=a
  ·subst e;rw [hma,heA]
   exact ⟨Nat.le_refl _,x,by rw [hop];simp,hma,.refl x⟩
  ·have hxo:x∈s.op:=by rw [hop] at hx;simpa [e] using hx
   obtain ⟨h1,y,hy,h2,h3⟩:=h.low x hxo
   rw [hm x e,he x e]
   exact ⟨h1,y,by rw [hop];simp [hy],(hm y (hne y hy)).trans h2,h3⟩
 ·rw [hop]
  rcases List.mem_cons.1 hv with h1 | h1
  ·simp [h1]
  ·exact List.mem_append_left _ (h.psub v h1)
 ·rw [List.pairwise_cons]
  refine ⟨fun x hx=>?_,List.Pairwise.imp_of_mem (fun {x y} hx hy hxy=>?_) h.pdn⟩
  ·have hxo:=h.psub x hx
   show (meet s a).met x < (meet s a).met a
   rw [hm x (hne x hxo),hma];have:=h.cnt x;omega
  ·rw [hm x (hne x (h.psub x hx)),hm y (hne y (h.psub y hy))];exact hxy
 ·rw [hop,List.mem_append] at hx
  rcases List.mem_cons.1 hv with h1 | h1
  ·subst h1
   rcases hx with hx | hx
   ·rw [hma,hm x (hne x hx)] at hvx;have:=h.cnt x;omega
   ·rw [List.mem_singleton.1 hx];exact .refl _
  ·rcases hx with hx | hx
   ·rw [hm v (hne v (h.psub v h1)),hm x (hne x hx)] at hvx
    exact h.pw v h1 x hx hvx
   ·rw [List.mem_singleton.1 hx];exact hP v h1
 ·simp at hxp
  rw [hop] at hx
  have hxo:x∈s.op:=by simpa [hxp.1] using hx
  rw [he x hxp.1,hm x hxp.1]
  exact h.don x hxo (by simpa using hxp.2)
 ·have e:x≠a:=by rintro rfl;rw [heA] at hx1;omega
  rw [hm x e] at hx0
  rw [he x e] at hx1
  obtain ⟨h1,h2⟩:=h.cls x hx0 hx1
  refine ⟨fun y hy=>?_,h2⟩
  obtain ⟨h3,h4⟩:=h1 y hy
  rw [hm y (hcl y h3),he y (hcl y h3)]
  exact ⟨h3,h4⟩
 ·simp at hxp
  rw [hop] at hx
  have hxo:x∈s.op:=by simpa [hxp.1] using hx
  obtain ⟨h1,h2⟩:=h.tl x hxo (by simpa using hxp.2) y hy
  unfold Tl
  rw [hm y (hcl y h1),he y (hcl y h1),he x hxp.1]
  exact ⟨h1,h2⟩
 ·simp at hxp
  rw [hop] at hx
  have hxo:x∈s.op:=by simpa [hxp.1] using hx
  rcases List.mem_cons.1 hv with h1 | h1
  ·subst h1
   rw [hma,hm x hxp.1] at hvx;have:=h.cnt x;omega
  ·have hva:=hne v (h.psub v h1)
   rw [hm v hva,hm x hxp.1] at hvx
   rw [he v hva,he x hxp.1]
   refine h.und v h1 x hxo (by simpa using hxp.2) hvx (fun u hu' hux=>?_)
   have hua:=hne u (h.psub u hu')
   have:=hu u (List.mem_cons_of_mem _ hu')
   rw [hm u hua,hm x hxp.1,hm v hva] at this
   exact this hux
theorem tl_meet {s:St} {a x y:Nat} (ha:s.met a=0) (hx:x≠a) (h:Tl s x y):Tl (meet s a) x y:=by
 have hy:y≠a:=by rintro rfl;exact h.1 ha
 unfold Tl meet
 simp only [upd_ne hx,upd_ne hy]
 exact h
theorem num_meet {n:Nat} {s:St} {a:Nat} (h:s.cnt+unm s.met n=n) (ha:s.met a=0) (han:a < n):(meet s a).cnt+unm (meet s a).met n=n:=by
 have:=unm_lt (f:=s.met) (a:=a) (v:=s.cnt+1) (by omega) ha n han
 show s.cnt+1+unm (upd s.met a (s.cnt+1)) n=n
 omega
theorem Inv.begin {n:Nat} {out:Nat→List Nat} {s:St} (h:Inv n out s []) {a:Nat} (ha:s.met a=0) (han:a < n):Inv n out (meet s a) [(a,0)]:=
 ⟨h.core.meets ha han (by simp),num_meet h.num ha han,by simp,trivial⟩
theorem Inv.down {n:Nat} {out:Nat→List Nat} {s:St} {v g:Nat} {r:List (Nat×Nat)} (h:Inv n out s ((v,g)::r)) (hg:g < (out v).length) {a:Nat} (e:(out v)[g]=a) (ha:s.met a=0) (han:a < n):Inv n out (meet s a) ((a,0)::(v,g+1)::r):=by
 obtain ⟨hc,hn,p1,p2⟩:=h
 have hno:a∉s.op:=fun h1=>((hc.mem a).1 h1).1 ha
 have hv:v∈s.op:=hc.psub v (by simp)
 have hpw:∀ u∈((v,g)::r).map (·.1),W out u a:=by
  intro u hu
  have h1:=hc.pw u hu v hv ?_
  ·exact .step h1 (by rw [← e];exact List.getElem_mem hg)
  ·rcases List.mem_cons.1 hu with h2 | h2
   ·simp at h2;rw [h2];exact Nat.le_refl _
   ·exact Nat.le_of_lt ((List.pairwise_cons.1 hc.pdn).1 u h2)
 have hne:∀ u∈((v,g)::r).map (·.1),u≠a:=fun u hu e=>hno (e▸hc.psub u hu)
 refine ⟨hc.meets ha han hpw,num_meet hn ha han,by simp,by omega,?_,fun y hy=>?_,?_⟩
 ·rw [Nat.add_sub_cancel,← e];exact List.getElem?_eq_getElem hg
 ·rw [Nat.add_sub_cancel] at hy
  exact tl_meet ha (hne v (by simp)) (p1 y hy)
 ·exact p2.mono (fun u hu y hy=>tl_meet ha (hne u (List.mem_cons_of_mem _ hu)) hy)
theorem reaches_eq {s:St} {v b:Nat}:(reaches s v b).met=s.met∧(reaches s v b).op=s.op∧(reaches s v b).cnt=s.cnt∧(reaches s v b).least=s.least∧(∀ x,x≠v→(reaches s v b).early x=s.early x)∧(reaches s v b).early v≤s.early v∧(s.early v≠0→(reaches s v b).early v≠0)∧(0 < s.early b→(reaches s v b).early v≤s.early b)∧((reaches s v b).early v=s.early v∨(0 < s.early b∧(reaches s v b).early v=s.early b)):=by
 unfold reaches
 split
 ·rename_i h
  refine ⟨rfl,rfl,rfl,rfl,fun x hx=>upd_ne hx,?_,fun h0=>?_,fun _=>?_,?_⟩
  all_goals simp only [upd_same]
  ·exact Nat.min_le_left _ _
  ·have:=Nat.le_min.2 ⟨(by omega:1≤s.early v),(by omega:1≤s.early b)⟩
   omega
  ·exact Nat.min_le_right _ _
  ·rcases Nat.le_total (s.early v) (s.early b) with h1 | h1
   ·left;exact Nat.min_eq_left h1
   ·right;exact ⟨h,Nat.min_eq_right h1⟩
 ·rename_i h
  exact ⟨rfl,rfl,rfl,rfl,fun _ _=>rfl,Nat.le_refl _,id,fun h1=>absurd h1 h,.inl rfl⟩
theorem tl_reaches {s:St} {v b x y:Nat} (hv:s.early v≠0) (h:Tl s x y):Tl (reaches s v b) x y:=by
 obtain ⟨e1,e2,e3,e4,e5,e6,e7,e8,e9⟩:=reaches_eq (s:=s) (v:=v) (b:=b)
 obtain ⟨h1,h2⟩:=h
 unfold Tl
 rw [e1]
 refine ⟨h1,?_⟩
 rcases h2 with h2 | h2
 ·left
  rw [e5 y (by rintro rfl;exact hv h2)];exact h2
 ·right
  by_cases e:x=v
  ·subst e;omega
  ·rw [e5 x e];exact h2
theorem Core.reaches {n:Nat} {out:Nat→List Nat} {s:St} {p:List Nat} (h:Core n out s p) {v b:Nat} (hv:v∈p) (hw:W out v b):Core n out (reaches s v b) p:=by
 obtain ⟨e1,e2,e3,e4,e5,e6,e7,e8,e9⟩:=reaches_eq (s:=s) (v:=v) (b:=b)
 have hvo:=h.psub v hv
 have hv0:s.early v≠0:=((h.mem v).1 hvo).2
 have hz:∀ x,(Tj.reaches s v b).early x=0↔s.early x=0:=fun x=>by
  by_cases e:x=v
  ·subst e;exact ⟨fun k=>absurd k (e7 hv0),fun k=>absurd k hv0⟩
  ·rw [e5 x e]
 have hle:∀ x,(Tj.reaches s v b).early x≤s.early x:=fun x=>by
  by_cases e:x=v
  ·subst e;exact e6
  ·rw [e5 x e];exact Nat.le_refl _
 refine ⟨fun x=>?_,fun x hx=>?_,?_,fun x=>?_,fun x hx=>?_,fun x hx=>?_,fun u hu=>?_,?_,fun u hu x hx=>?_,fun x hx hxp=>?_,fun x hx0 hx1=>?_,fun x hx hxp y hy=>?_,fun u hu x hx hxp hux hu2=>?_⟩
 ·rw [e1,e2,h.mem x,Ne,Ne,Ne,hz x]
 ·rw [e1];exact h.ea x (fun k=>hx ((hz x).2 k))
 ·rw [e1,e2];exact h.up
 ·rw [e1,e3];exact h.cnt x
 ·rw [e1] at hx;exact h.lt x hx
 ·rw [e2] at hx
  rw [e1,e2]
  obtain ⟨h1,y,hy,h2,h3⟩:=h.low x hx
  refine ⟨Nat.le_trans (hle x) h1,?_⟩
  by_cases e:x=v
  ·subst e
   rcases e9 with k | ⟨k1,k2⟩
   ·rw [k];exact ⟨y,hy,h2,h3⟩
   ·have hb:b∈s.op:=(h.mem b).2 ⟨h.ea b (by omega),by omega⟩
    obtain ⟨_,z,hz1,hz2,hz3⟩:=h.low b hb
    rw [k2]
    exact ⟨z,hz1,hz2,hw.trans hz3⟩
  ·rw [e5 x e];exact ⟨y,hy,h2,h3⟩
 ·rw [e2];exact h.psub u hu
 ·rw [e1];exact h.pdn
 ·rw [e2] at hx;rw [e1];exact h.pw u hu x hx
 ·rw [e2] at hx;rw [e1]
  exact Nat.lt_of_le_of_lt (hle x) (h.don x hx hxp)
 ·rw [e1] at hx0
  rw [hz] at hx1
  obtain ⟨h1,h2⟩:=h.cls x hx0 hx1
  rw [e1,e4]
  exact ⟨fun y hy=>⟨(h1 y hy).1,(hz y).2 (h1 y hy).2⟩,h2⟩
 ·rw [e2] at hx
  exact tl_reaches hv0 (h.tl x hx hxp y hy)
 ·rw [e2] at hx
  rw [e1] at hux hu2
  have hxv:x≠v:=fun e=>hxp (e▸hv)
  rw [e5 x hxv]
  exact Nat.le_trans (hle u) (h.und u hu x hx hxp hux hu2)
theorem Core.told {n:Nat} {out:Nat→List Nat} {s:St} {p:List Nat} (h:Core n out s p) {v b:Nat} (hv:v∈p) (hb:s.met b≠0):Tl (Tj.reaches s v b) v b:=by
 obtain ⟨e1,e2,e3,e4,e5,e6,e7,e8,e9⟩:=reaches_eq (s:=s) (v:=v) (b:=b)
 have hv0:s.early v≠0:=((h.mem v).1 (h.psub v hv)).2
 unfold Tl
 rw [e1]
 refine ⟨hb,?_⟩
 by_cases h0:s.early b=0
 ·left;rw [e5 b (by rintro rfl;exact hv0 h0)];exact h0
 ·right
  have:=(h.low b ((h.mem b).2 ⟨hb,h0⟩)).1
  have:=e8 (by omega)
  omega
theorem Inv.along {n:Nat} {out:Nat→List Nat} {s:St} {v g:Nat} {r:List (Nat×Nat)} (h:Inv n out s ((v,g)::r)) (hg:g < (out v).length) {b:Nat} (e:(out v)[g]=b) (hb:s.met b≠0):Inv n out (Tj.reaches s v b) ((v,g+1)::r):=by
 obtain ⟨hc,hn,p1,p2⟩:=h
 have hv0:s.early v≠0:=((hc.mem v).1 (hc.psub v (by simp))).2
 obtain ⟨e1,_,e3,_⟩:=reaches_eq (s:=s) (v:=v) (b:=b)
 refine ⟨hc.reaches (by simp) (.one (by rw [← e];exact List.getElem_mem hg)),by rw [e1,e3];exact hn,fun y hy=>?_,p2.mono (fun u _ y hy=>tl_reaches hv0 hy)⟩
 rw [List.take_succ_eq_append_getElem hg,List.mem_append,e] at hy
 rcases hy with hy | hy
 ·exact tl_reaches hv0 (p1 y hy)
 ·rw [List.mem_singleton.1 hy]
  exact hc.told (by simp) hb
theorem Core.stay {n:Nat} {out:Nat→List Nat} {s:St} {v u:Nat} {p:List Nat} (h:Core n out s (v::u::p)) (he:s.early v < s.met v) (ht:∀ y∈out v,Tl s v y) (hw:W out u v):Core n out (Tj.reaches s u v) (u::p):=by
 have h1:=h.reaches (v:=u) (b:=v) (by simp) hw
 obtain ⟨e1,e2,e3,e4,e5,e6,e7,e8,e9⟩:=reaches_eq (s:=s) (v:=u) (b:=v)
 have hvo:v∈s.op:=h.psub v (by simp)
 have huo:u∈s.op:=h.psub u (by simp)
 have hu0:s.early u≠0:=((h.mem u).1 huo).2
 have hv0:s.early v≠0:=((h.mem v).1 hvo).2
 obtain ⟨d1,d2⟩:=List.pairwise_cons.1 h.pdn
 obtain ⟨d3,d4⟩:=List.pairwise_cons.1 d2
 have huv:u≠v:=by have:=d1 u (by simp);rintro rfl;omega
 have hlt:∀ z∈u::p,s.met z < s.met v:=d1
 refine ⟨h1.mem,h1.ea,h1.up,h1.cnt,h1.lt,h1.low,fun x hx=>h1.psub x (List.mem_cons_of_mem _ hx),by rw [e1];exact d2,fun x hx=>h1.pw x (List.mem_cons_of_mem _ hx),fun x hx hxp=>?_,h1.cls,fun x hx hxp y hy=>?_,fun z hz x hx hxp hzx hm=>?_⟩
 ·by_cases e:x=v
  ·subst e;rw [e1,e5 x (fun k=>huv k.symm)];exact he
  ·exact h1.don x hx (by simp [e];simpa using hxp)
 ·by_cases e:x=v
  ·subst e;exact tl_reaches hu0 (ht y hy)
  ·exact h1.tl x hx (by simp [e];simpa using hxp) y hy
 ·rw [e2] at hx
  rw [e1] at hzx hm
  have hxu:x≠u:=fun e=>hxp (by simp [e])
  rw [e5 x hxu]
  by_cases hxv:s.met v≤s.met x
  ·
   have hzu:z=u:=by
    have h3:=hm u (by simp) (by have:=hlt u (by simp);omega)
    rcases List.mem_cons.1 hz with e | e
    ·exact e
    ·have:=d3 z e;omega
   subst hzu
   have h4:(Tj.reaches s z v).early z≤s.early v:=e8 (by omega)
   by_cases e:x=v
   ·subst e;exact h4
   ·have hvx:s.met v < s.met x:=by
     rcases Nat.lt_or_eq_of_le hxv with k | k
     ·exact k
     ·exact absurd (pair_inj h.up hx hvo k.symm) e
    have h5:=h.und v (by simp) x hx (by simp [e];simpa using hxp) hvx (fun y hy _=>by
     rcases List.mem_cons.1 hy with e2 | e2
     ·rw [e2];exact Nat.le_refl _
     ·exact Nat.le_of_lt (hlt y e2))
    omega
  ·have hxe:x≠v:=by rintro rfl;omega
   have h5:=h.und z (List.mem_cons_of_mem _ hz) x hx (by simp [hxe];simpa using hxp) hzx (fun y hy hyx=>by
    rcases List.mem_cons.1 hy with e2 | e2
    ·subst e2;omega
    ·exact hm y e2 hyx)
   refine Nat.le_trans ?_ h5
   by_cases e:z=u
   ·subst e;exact e6
   ·rw [e5 z e];exact Nat.le_refl _
theorem Core.end0 {n:Nat} {out:Nat→List Nat} {s:St} {v:Nat} (h:Core n out s [v]) (he:s.early v < s.met v) (ht:∀ y∈out v,Tl s v y):Core n out s []:=by
 refine ⟨h.mem,h.ea,h.up,h.cnt,h.lt,h.low,by simp,by simp,by simp,fun x hx _=>?_,h.cls,fun x hx _ y hy=>?_,by simp⟩
 ·by_cases e:x=v
  ·subst e;exact he
  ·exact h.don x hx (by simpa using e)
 ·by_cases e:x=v
  ·subst e;exact ht y hy
  ·exact h.tl x hx (by simpa using e) y hy
theorem cut_mem {f:Nat→Nat}:∀ {l:List Nat},l.Pairwise (fun a b=>f a < f b)→∀ {k v:Nat},l[k]? = some v→∀ x,(x∈l.drop k↔x∈l∧f v≤f x)∧(x∈l.take k↔x∈l∧f x < f v)
 | [],_,k,v,h,_=>by simp at h
 | a::r,hp,0,v,h,x=>by
  obtain ⟨h1,h2⟩:=List.pairwise_cons.1 hp
  simp at h
  subst h
  refine ⟨?_,?_⟩
  ·simp only [List.drop_zero]
   refine ⟨fun hx=>⟨hx,?_⟩,fun hx=>hx.1⟩
   rcases List.mem_cons.1 hx with e | e
   ·rw [e];exact Nat.le_refl _
   ·exact Nat.le_of_lt (h1 x e)
  ·simp only [List.take_zero]
   refine ⟨fun hx=>(by cases hx),fun hl=>?_⟩
   obtain ⟨hx,hl⟩:=hl
   rcases List.mem_cons.1 hx with e | e
   ·rw [e] at hl;omega
   ·have:=h1 x e;omega
 | a::r,hp,k+1,v,h,x=>by
  obtain ⟨h1,h2⟩:=List.pairwise_cons.1 hp
  simp at h
  have hv:v∈r:=List.mem_of_getElem? h
  obtain ⟨i1,i2⟩:=cut_mem h2 h x
  refine ⟨?_,?_⟩
  ·simp only [List.drop_succ_cons]
   rw [i1]
   refine ⟨fun ⟨a1,a2⟩=>⟨List.mem_cons_of_mem _ a1,a2⟩,fun ⟨a1,a2⟩=>⟨?_,a2⟩⟩
   rcases List.mem_cons.1 a1 with e | e
   ·have:=h1 v hv;rw [e] at a2;omega
   ·exact e
  ·simp only [List.take_succ_cons,List.mem_cons]
   rw [i2]
   refine ⟨fun k1=>?_,fun ⟨a1,a2⟩=>?_⟩
   ·rcases k1 with e | ⟨a1,a2⟩
    ·exact ⟨.inl e,by rw [e];exact h1 v hv⟩
    ·exact ⟨.inr a1,a2⟩
   ·rcases a1 with e | e
    ·exact .inl e
    ·exact .inr ⟨e,a2⟩
theorem Core.close {n:Nat} {out:Nat→List Nat} {s:St} {v k m:Nat} {p:List Nat} (h:Core n out s (v::p)) (ht:∀ y∈out v,Tl s v y) (hk:s.op[k]? = some v) (he:s.early v=s.met v) (hm:m∈s.op.drop k) (hmin:∀ x∈s.op.drop k,m≤x):Core n out (Tj.close s k m) p:=by
 have hdr:∀ x,x∈s.op.drop k↔x∈s.op∧s.met v≤s.met x:=fun x=>(cut_mem h.up hk x).1
 have htk:∀ x,x∈s.op.take k↔x∈s.op∧s.met x < s.met v:=fun x=>(cut_mem h.up hk x).2
 obtain ⟨d1,d2⟩:=List.pairwise_cons.1 h.pdn
 have hvo:v∈s.op:=h.psub v (by simp)
 have hvd:v∈s.op.drop k:=(hdr v).2 ⟨hvo,Nat.le_refl _⟩
 have hnp:∀ x∈s.op.drop k,x≠v→x∉v::p:=fun x hx e hxp=>by
  rcases List.mem_cons.1 hxp with k1 | k1
  ·exact e k1
  ·have:=d1 x k1;have:=((hdr x).1 hx).2;omega
 have hgt:∀ x∈s.op.drop k,x≠v→s.met v < s.met x:=fun x hx e=>by
  obtain ⟨a1,a2⟩:=(hdr x).1 hx
  rcases Nat.lt_or_eq_of_le a2 with k1 | k1
  ·exact k1
  ·exact absurd (pair_inj h.up a1 hvo k1.symm) e
 have hE:∀ x∈s.op.drop k,s.met v≤s.early x:=fun x hx=>by
  by_cases e:x=v
  ·subst e;omega
  ·have:=h.und v (by simp) x ((hdr x).1 hx).1 (hnp x hx e) (hgt x hx e) (fun u hu _=>by
    rcases List.mem_cons.1 hu with k1 | k1
    ·rw [k1];exact Nat.le_refl _
    ·exact Nat.le_of_lt (d1 u k1))
   omega
 have hcl:∀ x∈s.op.drop k,∀ y∈out x,s.met y≠0∧(s.early y=0∨y∈s.op.drop k):=fun x hx y hy=>by
  have hT:Tl s x y:=by
   by_cases e:x=v
   ·subst e;exact ht y hy
   ·exact h.tl x ((hdr x).1 hx).1 (hnp x hx e) y hy
  obtain ⟨t1,t2⟩:=hT
  refine ⟨t1,?_⟩
  by_cases h0:s.early y=0
  ·exact .inl h0
  ·right
   have:=hE x hx
   have h4:s.early x≤s.met y:=t2.resolve_left h0
   exact (hdr y).2 ⟨(h.mem y).2 ⟨t1,h0⟩,by omega⟩
 have hto:∀ x∈s.op.drop k,W out v x:=fun x hx=>h.pw v (by simp) x ((hdr x).1 hx).1 ((hdr x).1 hx).2
 have hfro:∀ d,∀ x∈s.op.drop k,s.met x=d→W out x v:=by
  intro d
  induction d using Nat.strongRecOn with
  | _ d ih=>
   intro x hx hd
   by_cases e:x=v
   ·subst e;exact .refl _
   ·have hxo:=((hdr x).1 hx).1
    have h1:=h.don x hxo (hnp x hx e)
    obtain ⟨_,y,hy,h2,h3⟩:=h.low x hxo
    have h4:=hE x hx
    exact h3.trans (ih (s.met y) (by omega) y ((hdr y).2 ⟨hy,by omega⟩) rfl)
 have hfr:∀ x∈s.op.drop k,W out x v:=fun x hx=>hfro _ x hx rfl
 have hmu:∀ x∈s.op.drop k,Mu out x m∧∀ y,Mu out x y→m≤y:=fun x hx=>by
  refine ⟨⟨(hfr x hx).trans (hto m hm),(hfr m hm).trans (hto x hx)⟩,fun y ⟨y1,y2⟩=>?_⟩
  have hC:(s.met y≠0∧s.early y=0)∨y∈s.op.drop k:=by
   refine y1.stays (C:=fun z=>(s.met z≠0∧s.early z=0)∨z∈s.op.drop k) (fun z hz z2 hz2=>?_) (.inr hx)
   rcases hz with hz | hz
   ·exact .inl ((h.cls z hz.1 hz.2).1 z2 hz2)
   ·obtain ⟨c1,c2⟩:=hcl z hz z2 hz2
    rcases c2 with c2 | c2
    ·exact .inl ⟨c1,c2⟩
    ·exact .inr c2
  rcases hC with hC | hC
  ·have:=y2.stays (C:=fun z=>s.met z≠0∧s.early z=0) (fun z hz z2 hz2=>(h.cls z hz.1 hz.2).1 z2 hz2) hC
   exact absurd this.2 ((h.mem x).1 ((hdr x).1 hx).1).2
  ·exact hmin y hC
 have hin:∀ x,x∈s.op.drop k→(Tj.close s k m).early x=0∧(Tj.close s k m).least x=m:=fun x hx=>⟨if_pos hx,if_pos hx⟩
 have hout:∀ x,x∉s.op.drop k→(Tj.close s k m).early x=s.early x∧(Tj.close s k m).least x=s.least x:=fun x hx=>⟨if_neg hx,if_neg hx⟩
 have hmet:(Tj.close s k m).met=s.met:=rfl
 have hop:(Tj.close s k m).op=s.op.take k:=rfl
 have hcnt:(Tj.close s k m).cnt=s.cnt:=rfl
 have hnd:∀ x,x∈s.op.take k→x∉s.op.drop k:=fun x h1 h2=>by
  have:=((hdr x).1 h2).2;have:=((htk x).1 h1).2;omega
 have hTl:∀ x,x∈s.op.take k→∀ y,Tl s x y→Tl (Tj.close s k m) x y:=fun x hx y ⟨t1,t2⟩=>by
  refine ⟨t1,?_⟩
  by_cases e:y∈s.op.drop k
  ·exact .inl (hin y e).1
  ·rw [(hout y e).1,(hout x (hnd x hx)).1];exact t2
 have hpt:∀ u∈p,u∈s.op.take k:=fun u hu=>(htk u).2 ⟨h.psub u (List.mem_cons_of_mem _ hu),d1 u hu⟩
 have hxv:∀ x∈s.op.take k,x≠v:=fun x hx e=>hnd x hx (e▸hvd)
 refine ⟨fun x=>?_,fun x hx=>?_,?_,h.cnt,h.lt,fun x hx=>?_,hpt,d2,fun u hu x hx hux=>?_,fun x hx hxp=>?_,fun x hx0 hx1=>?_,fun x hx hxp y hy=>?_,fun u hu x hx hxp hux hu2=>?_⟩
 ·rw [hop,hmet]
  by_cases e:x∈s.op.drop k
  ·rw [(hin x e).1]
   exact ⟨fun k1=>absurd e (hnd x k1),fun k1=>absurd rfl k1.2⟩
  ·rw [(hout x e).1,← h.mem x,htk x]
   refine ⟨fun k1=>k1.1,fun k1=>⟨k1,?_⟩⟩
   rcases Nat.lt_or_ge (s.met x) (s.met v) with k2 | k2
   ·exact k2
   ·exact absurd ((hdr x).2 ⟨k1,k2⟩) e
 ·by_cases e:x∈s.op.drop k
  ·exact absurd (hin x e).1 hx
  ·rw [(hout x e).1] at hx;exact h.ea x hx
 ·rw [hop];exact h.up.sublist (List.take_sublist _ _)
 ·rw [hop] at hx
  rw [(hout x (hnd x hx)).1,hmet,hop]
  obtain ⟨h1,y,hy,h2,h3⟩:=h.low x ((htk x).1 hx).1
  refine ⟨h1,y,(htk y).2 ⟨hy,?_⟩,h2,h3⟩
  have:=((htk x).1 hx).2
  omega
 ·rw [hop] at hx;exact h.pw u (List.mem_cons_of_mem _ hu) x ((htk x).1 hx).1 hux
 ·rw [hop] at hx
  rw [(hout x (hnd x hx)).1]
  exact h.don x ((htk x).1 hx).1 (by simp [hxv x hx,hxp])
 ·by_cases e:x∈s.op.drop k
  ·refine ⟨fun y hy=>?_,?_⟩
   ·obtain ⟨c1,c2⟩:=hcl x e y hy
    refine ⟨c1,?_⟩
    by_cases e2:y∈s.op.drop k
    ·exact (hin y e2).1
    ·rw [(hout y e2).1];exact c2.resolve_right e2
   ·rw [(hin x e).2];exact hmu x e
  ·rw [(hout x e).1] at hx1
   obtain ⟨c1,c2⟩:=h.cls x hx0 hx1
   refine ⟨fun y hy=>?_,?_⟩
   ·obtain ⟨c3,c4⟩:=c1 y hy
    refine ⟨c3,?_⟩
    by_cases e2:y∈s.op.drop k
    ·exact (hin y e2).1
    ·rw [(hout y e2).1];exact c4
   ·rw [(hout x e).2];exact c2
 ·rw [hop] at hx
  exact hTl x hx y (h.tl x ((htk x).1 hx).1 (by simp [hxv x hx,hxp]) y hy)
 ·rw [hop] at hx
  rw [(hout u (hnd u (hpt u hu))).1,(hout x (hnd x hx)).1]
  refine h.und u (List.mem_cons_of_mem _ hu) x ((htk x).1 hx).1 (by simp [hxv x hx,hxp]) hux (fun z hz hzx=>?_)
  rcases List.mem_cons.1 hz with e | e
  ·have:=((htk x).1 hx).2;rw [e] at hzx;omega
  ·exact hu2 z e hzx
def Lv (s s1:St) (v:Nat):Prop:=(s.early v < s.met v∧s1=s)∨(s.early v=s.met v∧∃ k m,s.op[k]? = some v∧m∈s.op.drop k∧(∀ x∈s.op.drop k,m≤x)∧s1=close s k m)
theorem tl_close {s:St} {k m x y:Nat} (hx:x∉s.op.drop k) (h:Tl s x y):Tl (close s k m) x y:=by
 obtain ⟨t1,t2⟩:=h
 refine ⟨t1,?_⟩
 show (if y∈s.op.drop k then 0 else s.early y)=0∨(if x∈s.op.drop k then 0 else s.early x)≤s.met y
 rw [if_neg hx]
 split
 ·exact .inl rfl
 ·exact t2
theorem Inv.end {n:Nat} {out:Nat→List Nat} {s s1:St} {v g:Nat} (h:Inv n out s [(v,g)]) (hg:(out v).length≤g) (hl:Lv s s1 v):Inv n out s1 []:=by
 obtain ⟨hc,hn,p1,p2⟩:=h
 rw [List.take_of_length_le hg] at p1
 rcases hl with ⟨h1,rfl⟩ | ⟨h1,k,m,h2,h3,h4,rfl⟩
 ·exact ⟨hc.end0 h1 p1,hn,trivial⟩
 ·exact ⟨hc.close p1 h2 h1 h3 h4,hn,trivial⟩
theorem Inv.up {n:Nat} {out:Nat→List Nat} {s s1:St} {v g u i:Nat} {r:List (Nat×Nat)} (h:Inv n out s ((v,g)::(u,i)::r)) (hg:(out v).length≤g) (hl:Lv s s1 v):Inv n out (reaches s1 u v) ((u,i)::r):=by
 obtain ⟨hc,hn,p1,p2,p3,p4,p5⟩:=h
 rw [List.take_of_length_le hg] at p1
 have hi:i - 1 < (out u).length:=(List.getElem?_eq_some_iff.1 p3).1
 have hiv:(out u)[i - 1]=v:=(List.getElem?_eq_some_iff.1 p3).2
 have huv:W out u v:=.one (by rw [← hiv];exact List.getElem_mem hi)
 have hu0:s.early u≠0:=((hc.mem u).1 (hc.psub u (by simp))).2
 have hv0:s.met v≠0:=((hc.mem v).1 (hc.psub v (by simp))).1
 have htk:∀ y,y∈(out u).take i→y∈(out u).take (i - 1)∨y=v:=fun y hy=>by
  rw [show i=i - 1+1 by omega,List.take_succ_eq_append_getElem hi,List.mem_append,hiv] at hy
  exact hy.imp id (fun k=>List.mem_singleton.1 k)
 rcases hl with ⟨h1,rfl⟩ | ⟨h1,k,m,h2,h3,h4,rfl⟩
 ·obtain ⟨e1,_,e3,_⟩:=reaches_eq (s:=s1) (v:=u) (b:=v)
  refine ⟨hc.stay h1 p1 huv,by rw [e1,e3];exact hn,fun y hy=>?_,p5.mono (fun x _ y hy=>tl_reaches hu0 hy)⟩
  rcases htk y hy with hy | rfl
  ·exact tl_reaches hu0 (p4 y hy)
  ·exact hc.told (by simp) hv0
 ·have hcc:=hc.close p1 h2 h1 h3 h4
  have hvd:v∈s.op.drop k:=(cut_mem hc.up h2 v).1.2 ⟨hc.psub v (by simp),Nat.le_refl _⟩
  have he:(close s k m).early v=0:=if_pos hvd
  have hr:reaches (close s k m) u v=close s k m:=by unfold reaches;rw [he];rfl
  have hnd:∀ x∈u::r.map (·.1),x∉s.op.drop k:=fun x hx hd=>by
   have:=((cut_mem hc.up h2 x).1.1 hd).2
   have h9:s.met x < s.met v:=(List.pairwise_cons.1 hc.pdn).1 x hx
   omega
  rw [hr]
  refine ⟨hcc,hn,fun y hy=>?_,p5.mono (fun x hx y hy=>tl_close (hnd x (List.mem_cons_of_mem _ hx)) hy)⟩
  rcases htk y hy with hy | rfl
  ·exact tl_close (hnd u (by simp)) (p4 y hy)
  ·exact ⟨hv0,.inl he⟩
theorem Core.left {n:Nat} {out:Nat→List Nat} {s:St} {p:List Nat} {v:Nat} (h:Core n out s (v::p)):s.early v≤s.met v∧v∈s.op:=⟨(h.low v (h.psub v (by simp))).1,h.psub v (by simp)⟩
theorem Inv.done {n:Nat} {out:Nat→List Nat} {s:St} (h:Inv n out s []) {x:Nat} (hx:s.met x≠0):Mu out x (s.least x)∧∀ y,Mu out x y→s.least x≤y:=by
 have h0:=h.core.none
 have he:s.early x=0:=by
  rcases Nat.eq_zero_or_pos (s.early x) with h1 | h1
  ·exact h1
  ·have:=(h.core.mem x).2 ⟨hx,by omega⟩
   rw [h0] at this;cases this
 exact (h.core.cls x hx he).2
def pm (out:Nat→List Nat):List (Nat×Nat)→Nat
 | []=>0
 | (v,g)::r=>(out v).length - g+1+pm out r
def mea (n B:Nat) (out:Nat→List Nat) (s:St) (P:List (Nat×Nat)):Nat:=unm s.met n * (B+1)+pm out P
theorem mea_down {n B:Nat} {out:Nat→List Nat} {s:St} {v g a:Nat} {r:List (Nat×Nat)} (hB:∀ x,(out x).length≤B) (hg:g < (out v).length) (ha:s.met a=0) (han:a < n):mea n B out (meet s a) ((a,0)::(v,g+1)::r) < mea n B out s ((v,g)::r):=by
 have h1:=unm_lt (f:=s.met) (a:=a) (v:=s.cnt+1) (by omega) ha n han
 have h2:=hB a
 have h3:unm s.met n * (B+1)=unm (upd s.met a (s.cnt+1)) n * (B+1)+(B+1):=by rw [← h1,Nat.succ_mul]
 unfold mea
 show unm (upd s.met a (s.cnt+1)) n * (B+1)+_ < _
 rw [h3]
 simp only [pm]
 omega
theorem mea_along {n B:Nat} {out:Nat→List Nat} {s s':St} {v g:Nat} {r:List (Nat×Nat)} (hm:s'.met=s.met) (hg:g < (out v).length):mea n B out s' ((v,g+1)::r) < mea n B out s ((v,g)::r):=by
 unfold mea
 rw [hm]
 simp only [pm]
 omega
theorem mea_up {n B:Nat} {out:Nat→List Nat} {s s':St} {v g:Nat} {r:List (Nat×Nat)} (hm:s'.met=s.met):mea n B out s' r < mea n B out s ((v,g)::r):=by
 unfold mea
 rw [hm]
 simp only [pm]
 omega
theorem Lv.met {s s1:St} {v:Nat} (h:Lv s s1 v):s1.met=s.met∧s1.cnt=s.cnt:=by
 rcases h with ⟨_,rfl⟩ | ⟨_,k,m,_,_,_,rfl⟩<;>exact ⟨rfl,rfl⟩
end Tj
end Go.Proofs.YtppnbdnpapellaaGreatDoor
