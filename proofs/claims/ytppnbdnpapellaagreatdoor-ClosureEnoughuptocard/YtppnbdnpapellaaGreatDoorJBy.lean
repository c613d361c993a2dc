import Derived.Test.YtppnbdnpapellaaGreatDoorPq
import Derived.BigQuiet
import Derived.Test.YtppnbdnpapellaaGreatDoorJWs
set_option maxRecDepth 100000
set_option maxHeartbeats 16000000
namespace Go.Proofs.YtppnbdnpapellaaGreatDoor
section
open Go.RowKit Go.Maps
theorem lneq_run (w:World) (p t p' t':List UInt8) :
  (binOp .neq 27 (.agg #[.string (bs p),.string (bs t)]) (.agg #[.string (bs p'),.string (bs t')])).run Tryz.prog w=.ok (.bool (!decide ((⟨p,t⟩:Lb)=⟨p',t'⟩))) w:=by
 rw [run_neq_struct,equal_run];rfl
def lleq (a b:Lb):Bool:=decide (a=b)
theorem leql_run' (w:World) (p t p' t':List UInt8) :
  (binOp .eql 27 (.agg #[.string (bs p),.string (bs t)]) (.agg #[.string (bs p'),.string (bs t')])).run Tryz.prog w=.ok (.bool (lleq ⟨p,t⟩ ⟨p',t'⟩)) w:=eql_run w p t p' t'
theorem lneq_run' (w:World) (p t p' t':List UInt8) :
  (binOp .neq 27 (.agg #[.string (bs p),.string (bs t)]) (.agg #[.string (bs p'),.string (bs t')])).run Tryz.prog w=.ok (.bool (!lleq ⟨p,t⟩ ⟨p',t'⟩)) w:=lneq_run w p t p' t'
abbrev Ee:=Lb×Lb
def addE (E:List Ee) (e:Ee):List Ee:=if e∈E then E else E++[e]
def oE (E:List Ee) (a:Lb):List Lb:=(E.filter (fun e=>decide (e.1=a))).map (·.2)
theorem mem_oE {E:List Ee} {a b:Lb}:b∈oE E a↔(a,b)∈E:=by
 unfold oE
 rw [List.mem_map]
 constructor
 ·rintro ⟨⟨x,y⟩,h,rfl⟩
  obtain ⟨h1,h2⟩:=List.mem_filter.1 h
  have:x=a:=by simpa using h2
  subst this;exact h1
 ·intro h
  exact ⟨(a,b),List.mem_filter.2 ⟨h,by simp⟩,rfl⟩
theorem oE_len (E:List Ee) (a:Lb):(oE E a).length≤E.length:=by
 unfold oE
 rw [List.length_map];exact List.length_filter_le _ _
theorem rdy_ext {E E':List Ee} (h:∀ e,e∈E↔e∈E') (T:List Lb) (a:Lb):Gs.rdy E T a=Gs.rdy E' T a:=by
 rw [Bool.eq_iff_iff,Gs.rdy_iff,Gs.rdy_iff]
 exact ⟨fun k b hb=>k b ((h _).2 hb),fun k b hb=>k b ((h _).1 hb)⟩
theorem nxt_ext {E E':List Ee} (h:∀ e,e∈E↔e∈E') (A T:List Lb):Gs.nxt A E T=Gs.nxt A E' T:=by
 unfold Gs.nxt
 congr 1
 funext a
 rw [rdy_ext h]
theorem ordF_ext {E E':List Ee} (h:∀ e,e∈E↔e∈E') (A:List Lb):∀ (n:Nat) (T:List Lb),Gs.ordF A E n T=Gs.ordF A E' n T
 | 0,T=>rfl
 | n+1,T=>by
  unfold Gs.ordF
  rw [nxt_ext h]
  cases Gs.nxt A E' T with
  | none=>rfl
  | some a=>exact ordF_ext h A n _
theorem ord_ext {E E':List Ee} (h:∀ e,e∈E↔e∈E') (A:List Lb):Gs.ord A E=Gs.ord A E':=ordF_ext h A _ _
structure Lnk (ns:List Lb) (out:Lb→List Lb) (N:List Lb) (E:List Ee):Prop where
 nm:∀ x,x∈ns↔x∈N
 em:∀ x y,y∈out x↔(x,y)∈E
section
variable {ns N:List Lb} {out:Lb→List Lb} {E:List Ee}
theorem Lnk.new:Lnk [] (fun _=>[]) [] []:=⟨by simp,by simp⟩
theorem Lnk.rs_eq (h:Lnk ns out N E):rs ns=rs N:=Gs.ris_eq stoL h.nm
theorem Lnk.eg (h:Lnk ns out N E) (g:GF ns out) (e:Ee):e∈Eg ns out↔e∈E:=by
 obtain ⟨x,y⟩:=e
 rw [g.eg,h.em]
theorem Lnk.out_eq (h:Lnk ns out N E) (g:GF ns out) (a:Lb):out a=rs (oE E a):=Gs.ris_ext stoL (g.up a) (Gs.ris_up stoL _) (fun x=>by rw [h.em,show (x∈rs (oE E a)↔x∈oE E a) from Gs.mem_ris _ _,mem_oE])
theorem Lnk.ord_eq (h:Lnk ns out N E) (g:GF ns out):Gs.ord (rs ns) (Eg ns out)=Gs.ord (rs N) E:=by
 rw [h.rs_eq];exact ord_ext (h.eg g) _
theorem Lnk.node (h:Lnk ns out N E) (a:Lb):Lnk (addN ns a) out (addN N a) E:=
 ⟨fun x=>by rw [mem_addN,mem_addN,h.nm],h.em⟩
theorem mem_addE {E:List Ee} {e x:Ee}:x∈addE E e↔x∈E∨x=e:=by
 unfold addE
 split
 ·rename_i hm
  exact ⟨.inl,fun h=>h.elim id (fun h=>h▸hm)⟩
 ·simp
end
theorem mem_outI {out:Lb→List Lb} {a b x y:Lb}:y∈outI out a b x↔y∈out x∨(x=a∧y=b):=by
 unfold outI
 by_cases h:x=a
 ·subst h
  rw [if_pos rfl,Gs.mem_insr]
  constructor
  ·rintro (h | h)
   ·exact .inr ⟨rfl,h⟩
   ·exact .inl h
  ·rintro (h | h)
   ·exact .inr h
   ·exact .inl h.2
 ·rw [if_neg h]
  exact ⟨.inl,fun k=>k.elim id (fun k=>absurd k.1 h)⟩
theorem Lnk.edge {ns N:List Lb} {out:Lb→List Lb} {E:List Ee} (h:Lnk ns out N E) (a b:Lb):Lnk (addN (addN ns a) b) (outI out a b) (addN (addN N a) b) (addE E (a,b)):=by
 refine ⟨fun x=>by rw [mem_addN,mem_addN,mem_addN,mem_addN,h.nm],fun x y=>?_⟩
 rw [mem_outI,mem_addE,h.em]
 constructor
 ·rintro (k | ⟨rfl,rfl⟩)
  ·exact .inl k
  ·exact .inr rfl
 ·rintro (k | k)
  ·exact .inl k
  ·injection k with k1 k2
   exact .inr ⟨k1,k2⟩
theorem addE_len (E:List Ee) (e:Ee):(addE E e).length≤E.length+1:=by
 unfold addE
 split<;>simp
structure PG (B:Nat) (w:World) (g:Nat) (N:List Lb) (E:List Ee):Prop where
 it:∃ F ns out,GR w F g ns out∧Lnk ns out N E∧(∀ k,F k→B≤k)
 sub:∀ e∈E,e.1∈N∧e.2∈N
abbrev Ow (f:FuncId) (args:Array Value) (W:World) (l:List Lb):Prop:=Calls Tryz.prog f args W fun e w'=>∃ v,e=.returned v∧OwnL W.heap.size w' v l∧Below W.heap.size W w'
abbrev Ow2 (f:FuncId) (args:Array Value) (W:World) (l:List Lb) (b:Bool):Prop:=Calls Tryz.prog f args W fun e w'=>∃ v,e=.returned (.tuple #[v,.bool b])∧OwnL W.heap.size w' v l∧Below W.heap.size W w'
section
variable {B:Nat} {w w':World} {g:Nat} {N:List Lb} {E:List Ee}
theorem PG.later (h:PG B w g N E) (hb:Below w.heap.size w w'):PG B w' g N E:=by
 obtain ⟨⟨F,ns,out,h1,h2,h3⟩,h4⟩:=h
 exact ⟨⟨F,ns,out,h1.later hb,h2,h3⟩,h4⟩
theorem GR.nlen {F:Nat→Prop} {ns:List Lb} {out:Lb→List Lb} (h:GR w F g ns out) (k:Lnk ns out N E):ns.length≤N.length:=Gs.nodup_sub _ _ h.nd (fun b hb=>(k.nm b).1 hb)
theorem PG.nodes (h:PG B w g N E):Ow 55 #[.pointer (some ⟨g,0,none⟩)] w (rs N):=by
 obtain ⟨⟨F,ns,out,h1,h2,h3⟩,h4⟩:=h
 have:=nodes_any h1
 rw [h2.rs_eq] at this
 exact this
theorem PG.outs (h:PG B w g N E) (a:Lb) (ha:Lu a):Ow 34 #[.pointer (some ⟨g,0,none⟩),a.val] w (rs (oE E a)):=by
 obtain ⟨⟨F,ns,out,h1,h2,h3⟩,h4⟩:=h
 have:=out_any h1 a ha
 rw [h2.out_eq h1.gf] at this
 exact this
end
end
section
open Go.RowKit Go.Maps
theorem lindex_any {w:World} {v:Value} {l:List Lb} (h:LS w v l) (hl:l.length≤100000000) (a:Lb) :
  Calls Tryz.prog 143 #[v,a.val] w fun e w'=>∃ z:Int,e=.returned (.int .i64 z)∧decide (0≤z)=decide (a∈l)∧Below w.heap.size w w':=by
 have H:Hid (LS w v l):=h
 obtain ⟨av,cv,hvv,_⟩:=h.form
 obtain ⟨n,hn⟩:∃ n,l.length=n:=⟨_,rfl⟩
 rw [hn] at hvv hl
 subst hvv
 have HN:Hid (l.length=n):=hn
 clear h hn
 obtain ⟨p,m⟩:=a
 simp only [Lb.val]
 have hq:=leql_run'
 have hg:=guard_run
 have HRB:Hid (RB (w.alloc (.cells #[.string (bs p),.string (bs m)] 27)) w.heap.size ⟨p,m⟩):=RB.new w ⟨p,m⟩
 go_enter Tryz.func143,Tryz.ntmps143
 go_wp2_with fail
 go_loopw [8] (fun s8 wr=>∃ k:Nat,s8=.int .i64 k∧k≤n∧RB wr w.heap.size ⟨p,m⟩∧(∀ x∈l.take k,x≠⟨p,m⟩)∧Below w.heap.size w wr) (fun s8 _=>n - (intOf s8).toNat)
 case atStart=>exact ⟨0,rfl,by omega,HRB.out,by simp,balloc _ _⟩
 case round=>
  obtain ⟨k,rfl,hk,hR,hx,hb⟩:=hrel
  have HX:Hid (RB wr w.heap.size ⟨p,m⟩∧(∀ x∈l.take k,x≠⟨p,m⟩)∧Below w.heap.size w wr):=⟨hR,hx,hb⟩
  obtain ⟨c0,c1,_,_⟩:=hR.cells
  simp only at c0 c1
  clear hR hx hb
  by_cases hlt:k < n
  ·have hkl:k < l.length:=by rw [HN.out];exact hlt
   obtain ⟨b,off,ea,hbw,d0,d1⟩:=LS.at H.out HX.out.2.2 hkl
   subst ea
   obtain ⟨x,hxe⟩:∃ x,l[k]=x:=⟨_,rfl⟩
   have HA:Hid (l[k]=x):=hxe
   rw [hxe] at d0 d1
   clear hxe
   obtain ⟨q,r⟩:=x
   simp only at d0 d1
   have k1:(k:Int) < (n:Int):=by omega
   by_cases he:(⟨q,r⟩:Lb)=⟨p,m⟩
   ·have he2:lleq ⟨p,m⟩ ⟨q,r⟩=true:=by unfold lleq;simpa using he.symm
    have HE:Hid ((⟨q,r⟩:Lb)=⟨p,m⟩):=he
    clear he
    go_wp2_with fail
    go_quiet (fail)
    go_wp2_with fail
    go_ret
    refine ⟨k,rfl,?_,bstep HX.out.2.2 (bd _ _)⟩
    have:(⟨p,m⟩:Lb)∈l:=by rw [← HE.out,← HA.out];exact List.getElem_mem hkl
    simp [this]
   ·have he2:lleq ⟨p,m⟩ ⟨q,r⟩=false:=by unfold lleq;simpa using fun e1 e2=>he (by rw [e1,e2])
    go_wp2_with fail
    go_quiet (fail)
    go_wp2_with fail
    go_roundw
    case rel=>
     refine ⟨k+1,by go_num,by omega,HX.out.1.later (bd _ _),?_,bstep HX.out.2.2 (bd _ _)⟩
     intro x hx
     rw [List.take_succ_eq_append_getElem hkl,List.mem_append,HA.out] at hx
     rcases hx with hx | hx
     ·exact HX.out.2.1 x hx
     ·have:x=⟨q,r⟩:=by simpa using hx
      rw [this];exact he
    case measure=>simp [intOf];omega
  ·obtain rfl:n=k:=by omega
   go_wp2_with fail
   go_ret
   refine ⟨-1,rfl,?_,HX.out.2.2⟩
   have:(⟨p,m⟩:Lb)∉l:=by
    intro hm
    have:=HX.out.2.1
    rw [List.take_of_length_le (by rw [HN.out];exact Nat.le_refl _)] at this
    exact this _ hm rfl
   simp [this]
theorem lcontains_any {w:World} {v:Value} {l:List Lb} (h:LS w v l) (hl:l.length≤100000000) (a:Lb) :
  Calls Tryz.prog 96 #[v,a.val] w fun e w'=>e=.returned (.bool (decide (a∈l)))∧Below w.heap.size w w':=by
 have HC:Hid (Calls Tryz.prog 143 #[v,a.val] (w.alloc (.cells #[.string (bs a.pkg),.string (bs a.name)] 27)) fun e w'=>∃ z:Int,e=.returned (.int .i64 z)∧decide (0≤z)=decide (a∈l)∧Below (w.alloc (.cells #[.string (bs a.pkg),.string (bs a.name)] 27)).heap.size (w.alloc (.cells #[.string (bs a.pkg),.string (bs a.name)] 27)) w'):=lindex_any (h.later (balloc _ _)) hl a
 obtain ⟨b,hb⟩:∃ b,decide (a∈l)=b:=⟨_,rfl⟩
 rw [hb] at HC ⊢
 clear h hl hb
 obtain ⟨p,m⟩:=a
 simp only [Lb.val] at *
 go_enter Tryz.func96,Tryz.ntmps96
 go_wp2_with fail
 refine HC.out.mono ?_
 rintro e w1 ⟨z,rfl,hz,hb1⟩
 have HB:Hid (Below w.heap.size w w1):=bstep (balloc _ _) hb1
 clear hb1
 have HZ:Hid (decide (0≤z)=b):=hz
 clear hz
 go_wp2_with fail
 go_ret
 rw [← HZ.out]
 exact ⟨rfl,HB.out⟩
end
end Go.Proofs.YtppnbdnpapellaaGreatDoor
namespace Go.Proofs.YtppnbdnpapellaaGreatDoor
open Go.RowKit Go.Maps
namespace Gs
theorem Pts.ext {α:Type} {lt:α→α→Bool} {N N':List α} {E E':List (α×α)} {P:List (List α)} (h:Pts lt N E P) (hn:∀ x,x∈N↔x∈N') (he:∀ e,e∈E↔e∈E'):Pts lt N' E' P:=by
 have hw:∀ a b,Mut E a b↔Mut E' a b:=fun a b=>⟨fun k=>⟨k.1.mono (fun e h=>(he e).1 h),k.2.mono (fun e h=>(he e).1 h)⟩,fun k=>⟨k.1.mono (fun e h=>(he e).2 h),k.2.mono (fun e h=>(he e).2 h)⟩⟩
 refine ⟨h.up,h.ne,h.hd,fun x hx=>h.cov x ((hn x).2 hx),fun p hp x hx=>?_⟩
 obtain ⟨h1,h2⟩:=h.one p hp x hx
 exact ⟨(hn x).1 h1,fun y=>by rw [h2,hn,hw]⟩
end Gs
def crcB (E:List Ee) (p:List Lb):Bool:=decide (1 < p.length) || (match p with | a::_=>decide ((a,a)∈E) | []=>false)
def frs (E:List Ee) (P:List (List Lb)):Option (List Lb):=P.find? (crcB E)
theorem frs_take {E:List Ee} {P:List (List Lb)} {i:Nat} (hi:i < P.length) (h:∀ p∈P.take i,crcB E p=false) (hc:crcB E P[i]=true):frs E P=some P[i]:=by
 unfold frs
 have e:P=P.take i++P[i]::P.drop (i+1):=by rw [List.getElem_cons_drop,List.take_append_drop]
 conv=>lhs;rw [e]
 rw [List.find?_append]
 have h1:(P.take i).find? (crcB E)=none:=by
  rw [List.find?_eq_none]
  intro x hx
  rw [h x hx];decide
 rw [h1,List.find?_cons_of_pos hc]
 rfl
theorem frs_none {E:List Ee} {P:List (List Lb)} (h:∀ p∈P,crcB E p=false):frs E P=none:=by
 unfold frs
 rw [List.find?_eq_none]
 intro x hx
 rw [h x hx];decide
theorem pts_len {ns:List Lb} {E:List Ee} {P:List (List Lb)} (h:Gs.Pts ltL ns E P):P.length≤ns.length∧∀ p∈P,p.length≤ns.length:=by
 refine ⟨?_,fun p hp=>Gs.nodup_sub p ns (Gs.Ris.nodup stoL (h.up p hp)) (fun x hx=>(h.one p hp x hx).1)⟩
 have hh:∀ p∈P,∃ a,p.head? = some a∧a∈ns:=fun p hp=>by
  cases e:p with
  | nil=>exact absurd e (h.ne p hp)
  | cons a r=>exact ⟨a,rfl,(h.one p hp a (by rw [e];simp)).1⟩
 have h1:(P.filterMap List.head?).length=P.length:=by
  clear h
  induction P with
  | nil=>rfl
  | cons p r ih=>
   obtain ⟨a,ha,_⟩:=hh p (by simp)
   rw [List.filterMap_cons,ha]
   simp [ih (fun q hq=>hh q (by simp [hq]))]
 rw [← h1]
 refine Gs.nodup_sub _ ns ?_ (fun x hx=>?_)
 ·refine Gs.Ris.nodup stoL ?_
  unfold Gs.Ris
  rw [List.pairwise_filterMap]
  exact h.hd.imp (fun hab a ha b hb=>hab a b ha hb)
 ·obtain ⟨p,hp,e⟩:=List.mem_filterMap.1 hx
  obtain ⟨a,ha,hn⟩:=hh p hp
  rw [ha] at e
  injection e with e
  rw [← e];exact hn
theorem PG.parts {B:Nat} {w:World} {g:Nat} {N:List Lb} {E:List Ee} (h:PG B w g N E) (hz:N.length≤2000000) :
  Calls Tryz.prog 95 #[.pointer (some ⟨g,0,none⟩)] w fun e w'=>∃ v V P,e=.returned v∧PL w.heap.size w' v V P∧Gs.Pts ltL N E P∧P=Gs.pts ltL N E∧Below w.heap.size w w':=by
 obtain ⟨⟨F,ns,out,h1,h2,h3⟩,h4⟩:=h
 have hl:=h1.nlen h2
 exact (parts_any h1 (by omega)).mono fun e w' ⟨v,V,P,k1,k2,k3,k4⟩=>by
  have k5:=k3.ext h2.nm (h2.eg h1.gf)
  exact ⟨v,V,P,k1,k2,k5,k5.eq stoL,k4⟩
theorem PG.first {B:Nat} {w:World} {g:Nat} {N:List Lb} {E:List Ee} (h:PG B w g N E) (hz:N.length≤2000000) (hu:∀ x∈N,Lu x) (hez:E.length≤2000000):Ow2 59 #[.pointer (some ⟨g,0,none⟩)] w ((frs E (Gs.pts ltL N E)).getD []) (frs E (Gs.pts ltL N E)).isSome:=by
 have HPA:Hid (Calls Tryz.prog 95 #[.pointer (some ⟨g,0,none⟩)] w fun e w'=>∃ v V P,e=.returned v∧PL w.heap.size w' v V P∧Gs.Pts ltL N E P∧P=Gs.pts ltL N E∧Below w.heap.size w w'):=h.parts hz
 have H:Hid (PG B w g N E∧N.length≤2000000∧(∀ x∈N,Lu x)∧E.length≤2000000):=⟨h,hz,hu,hez⟩
 generalize Gs.pts ltL N E=PP at *
 clear h hz hu hez
 go_enter Tryz.func59,Tryz.ntmps59
 go_wp2_with fail
 refine HPA.out.mono ?_
 rintro e w1 ⟨v,V,P,rfl,hPL,hPt,rfl,hb1⟩
 obtain ⟨pl,hpl⟩:∃ pl,V.length=pl:=⟨_,rfl⟩
 obtain ⟨av,cv,hvv⟩:=row_form hPL.row
 rw [hpl] at hvv
 subst hvv
 have HW:Hid (PL w.heap.size w1 (.slice av pl cv) V P∧Gs.Pts ltL N E P∧Below w.heap.size w w1∧V.length=pl∧P.length=pl):=⟨hPL,hPt,hb1,hpl,by rw [← hPL.len];exact hpl⟩
 have hpz:pl≤2000000:=by
  have h1:=(pts_len hPt).1
  have:=hPL.len
  have:=H.out.2.1
  omega
 clear hPL hPt hb1 hpl HPA
 have l0:(0:Int)≤(pl:Int):=by omega
 go_wp2_with fail
 go_loopw [9] (fun s9 wr=>∃ i:Nat,s9=.int .i64 (i:Int)∧i≤pl∧(∀ p∈P.take i,crcB E p=false)∧Below w1.heap.size w1 wr) (fun s9 _=>pl - (intOf s9).toNat)
 case atStart=>exact ⟨0,rfl,by omega,by simp,Below.refl _ _⟩
 case round=>
  obtain ⟨i,rfl,hi,hno,hb⟩:=hrel
  have HX:Hid ((∀ p∈P.take i,crcB E p=false)∧Below w1.heap.size w1 wr):=⟨hno,hb⟩
  clear hno hb
  by_cases hlt:i < pl
  ·have hiP:i < P.length:=by rw [HW.out.2.2.2.2];exact hlt
   have hiV:i < V.length:=by rw [HW.out.2.2.2.1];exact hlt
   obtain ⟨gp,cc,hvv,hcc,hg1,hg2⟩:=row_place HW.out.1.row (by omega)
   injection hvv with hv1 hv2 hv3
   clear hv2
   subst hv1 hv3
   obtain ⟨vi,hvi⟩:∃ vi,V[i]? = some vi:=⟨_,List.getElem?_eq_getElem hiV⟩
   obtain ⟨p,hp⟩:∃ p,P[i]=p:=⟨_,rfl⟩
   have hpm:p∈P:=by rw [← hp];exact List.getElem_mem hiP
   have hown:=HW.out.1.own i vi p hvi (by rw [List.getElem?_eq_getElem hiP,hp])
   have hrow:=HW.out.1.row
   rw [HW.out.2.2.2.1] at hrow
   have cvi:=(HX.out.2.cell (p:=⟨gp,i,none⟩) hg2).trans (row_cell hrow hvi)
   obtain ⟨pn,hpn⟩:∃ pn,p.length=pn:=⟨_,rfl⟩
   obtain ⟨ai,ci,hvv⟩:=hown.form
   rw [hpn] at hvv
   subst hvv
   have HO:Hid (OwnL w.heap.size w1 (.slice ai pn ci) p∧P[i]=p∧p∈P∧p.length=pn∧p≠[]):=⟨hown,hp,hpm,hpn,HW.out.2.1.ne p hpm⟩
   have hpn2:pn≤2000000:=by
    have h1:=(pts_len HW.out.2.1).2 p hpm
    have:=H.out.2.1
    omega
   have i1:(i:Int) < (pl:Int):=by omega
   have i0:(0:Int)≤(i:Int):=by omega
   clear hvi hp hpm hown hrow hpn
   by_cases hone:1 < pn
   ·have g1:decide ((1:Int) < (pn:Int))=true:=by simp;omega
    have g1':(1:Int) < (pn:Int):=by omega
    go_wp2_with fail
    go_quiet (fail)
    go_wp2_with fail
    go_returns
    have hc:crcB E P[i]=true:=by unfold crcB;rw [HO.out.2.1,HO.out.2.2.2.1];simp [hone]
    rw [frs_take hiP HX.out.1 hc,HO.out.2.1]
    exact ⟨_,rfl,(HO.out.1.later HX.out.2).later (bd _ _),bstep HW.out.2.2.1 (bstep HX.out.2 (bd _ _))⟩
   ·have g1:decide ((1:Int) < (pn:Int))=false:=by simp;omega
    have g1':¬ (1:Int) < (pn:Int):=by omega
    have hp0:0 < p.length:=List.length_pos_iff.2 HO.out.2.2.2.2
    obtain ⟨b,off,ea,hbw,d0,d1⟩:=LS.at HO.out.1.rs HX.out.2 hp0
    subst ea
    obtain ⟨x,hx⟩:∃ x,p[0]=x:=⟨_,rfl⟩
    rw [hx] at d0 d1
    simp only [Nat.zero_mul,Nat.add_zero] at d0 d1
    have HXX:Hid (p=[x]∧x∈N∧Lu x):=by
     have e1:p.length=1:=by have:=HO.out.2.2.2.1;omega
     have e2:p=[x]:=by
      obtain ⟨y,rfl⟩:=List.length_eq_one_iff.1 e1
      simpa using hx
     have e3:=(HW.out.2.1.one p HO.out.2.2.1 x (by rw [e2];simp)).1
     exact ⟨e2,e3,H.out.2.2.1 x e3⟩
    have hpn1:pn=1:=by have:=HO.out.2.2.2.1;omega
    subst hpn1
    have HOUT:Hid (∀ W,Below wr.heap.size wr W→Calls Tryz.prog 34 #[.pointer (some ⟨g,0,none⟩),x.val] W fun e w'=>∃ v,e=.returned v∧OwnL W.heap.size w' v (rs (oE E x))∧Below W.heap.size W w'):=fun W hW=>(((H.out.1.later HW.out.2.2.1).later HX.out.2).later hW).outs x HXX.out.2.2
    have hlo:(rs (oE E x)).length≤100000000:=by
     have h4:(rs (oE E x)).length≤(oE E x).length:=Gs.ris_le _
     have h5:=oE_len E x
     have:=H.out.2.2.2
     omega
    have HCON:Hid (∀ W v,LS W v (rs (oE E x))→Calls Tryz.prog 96 #[v,x.val] W fun e w'=>e=.returned (.bool (decide ((x,x)∈E)))∧Below W.heap.size W w'):=fun W v hv=>by
     have h9:=lcontains_any hv hlo x
     have e9:decide (x∈rs (oE E x))=decide ((x,x)∈E):=by
      congr 1
      rw [show (x∈rs (oE E x)↔x∈oE E x) from Gs.mem_ris _ _,mem_oE]
     rw [e9] at h9
     exact h9
    obtain ⟨cb,hcb⟩:∃ cb,decide ((x,x)∈E)=cb:=⟨_,rfl⟩
    rw [hcb] at HCON
    have HCB:Hid (decide ((x,x)∈E)=cb):=hcb
    have hbl:b < wr.heap.size:=Nat.lt_of_lt_of_le hbw HX.out.2.size
    obtain ⟨pk,nm⟩:=x
    simp only [Lb.val] at d0 d1 HOUT HCON
    clear hx hcb hlo hp0
    go_wp2_with fail
    go_region_held3 (fun w'=>w'.cell? ⟨b,off,none⟩=some (.string (bs pk))∧w'.cell? ⟨b,off+1,none⟩=some (.string (bs nm))) (first | (with_reducible exact ⟨d0,d1⟩) | (with_reducible exact KS1.out) | (with_reducible exact KS2.out) | go_keep) (first | (go_at_call 34;(with_reducible refine (HOUT.out _ (by first | exact Below.refl _ _ | exact (Below.refl _ _).drew)).mono ?_);rintro e w2 ⟨v2,rfl,ho2,hb2⟩;obtain ⟨a2,c2,rfl⟩:=ho2.form;have HB2:Hid (Below wr.heap.size wr w2∧LS w2 (.slice a2 (rs (oE E ⟨pk,nm⟩)).length c2) (rs (oE E ⟨pk,nm⟩))):=⟨bstep (Below.refl _ _).drew hb2,ho2.rs⟩;have KS1:Hid (w2.cell? ⟨b,off,none⟩=some (.string (bs pk))∧w2.cell? ⟨b,off+1,none⟩=some (.string (bs nm))):=⟨(HB2.out.1.cell (p:=⟨b,off,none⟩) hbl).trans d0,(HB2.out.1.cell (p:=⟨b,off+1,none⟩) hbl).trans d1⟩;clear hb2 ho2) | (go_at_call 96;(with_reducible refine (HCON.out _ _ HB2.out.2).mono ?_);rintro e w3 ⟨rfl,hb3⟩;have HB3:Hid (Below wr.heap.size wr w3):=bstep HB2.out.1 hb3;have KS2:Hid (w3.cell? ⟨b,off,none⟩=some (.string (bs pk))∧w3.cell? ⟨b,off+1,none⟩=some (.string (bs nm))):=⟨(HB3.out.cell (p:=⟨b,off,none⟩) hbl).trans d0,(HB3.out.cell (p:=⟨b,off+1,none⟩) hbl).trans d1⟩;clear hb3))
    all_goals clear KS1 KS2
    all_goals
     have HCR:Hid (crcB E P[i]=cb):=by
      show crcB E P[i]=cb
      unfold crcB
      rw [HO.out.2.1,HXX.out.1]
      simpa using HCB.out
     cases cb with
     | true=>
      go_wp2_with fail
      go_returns
      rw [frs_take hiP HX.out.1 HCR.out,HO.out.2.1]
      exact ⟨_,rfl,(HO.out.1.later HX.out.2).later HB3.out,bstep HW.out.2.2.1 (bstep HX.out.2 HB3.out)⟩
     | false=>
      go_wp2_with fail
      go_roundw
      case rel=>
       refine ⟨i+1,by go_num,by omega,fun q hq=>?_,bstep HX.out.2 HB3.out⟩
       rw [List.take_succ_eq_append_getElem hiP,List.mem_append] at hq
       rcases hq with hq | hq
       ·exact HX.out.1 q hq
       ·rw [List.mem_singleton.1 hq];exact HCR.out
      case measure=>simp [intOf];omega
  ·obtain rfl:pl=i:=by omega
   go_wp2_with fail
   go_returns
   rw [frs_none (by
    have h9:=HX.out.1
    rw [List.take_of_length_le (by rw [HW.out.2.2.2.2];omega)] at h9
    exact h9)]
   exact ⟨_,rfl,OwnL.nil _ _,bstep HW.out.2.2.1 HX.out.2⟩
end Go.Proofs.YtppnbdnpapellaaGreatDoor
namespace Go.Proofs.YtppnbdnpapellaaGreatDoor
section
open Go.RowKit Go.Maps
def cU:Cd Unit where
 R:=unitElem
 enc:=fun _=>.agg #[]
 d:=fun _=>.agg []
 z:=()
 t:=89
 e:=90
 hR _:=unitElem_mk
 inv v y h:=⟨(),(unitElem_inv h).1⟩
 inj _ _ _:=rfl
 und:=by kernel_rfl
 zero w:=by kernel_rfl
abbrev KN (w:World) (kb:Nat) (kn:List Lb):Prop:=MP cU w kb (fun a=>if a∈kn then some () else none) kn.length
structure RC (w0 w:World) (X R:Nat→Prop) (r:Nat) (c:List (List UInt8)) (l:List Fl) (g:Nat) (N:List Lb) (E:List Ee) (mv:Value) (met:List Lb) (kb:Nat) (kn:List Lb):Prop where
 rx:RX w0 w R r l c
 gr:∃ F ns out,GR w F g ns out∧Lnk ns out N E∧∀ k,F k→w0.heap.size≤k∧¬ R k∧k≠kb∧mv.ownBlock≠some k∧¬ X k
 me:OwnL w0.heap.size w mv met
 ma:∀ k,mv.ownBlock=some k→¬ R k∧k≠kb∧¬ X k
 kn:KN w kb kn
 ka:¬ R kb∧w0.heap.size≤kb∧¬ X kb
 xl:∀ k,X k→k < w.heap.size∧¬ R k
section
variable {w0 w w':World} {X X' R R':Nat→Prop} {r:Nat} {c:List (List UInt8)} {l:List Fl} {g:Nat} {N:List Lb} {E:List Ee} {mv mv':Value} {met:List Lb} {kb:Nat} {kn:List Lb}
theorem RC.later (h:RC w0 w X R r c l g N E mv met kb kn) (hb:Below w.heap.size w w'):RC w0 w' X R r c l g N E mv met kb kn:=by
 obtain ⟨F,ns,out,h1,h2,h3⟩:=h.gr
 exact ⟨h.rx.later hb,⟨F,ns,out,h1.later hb,h2,h3⟩,h.me.later hb,h.ma,h.kn.later hb,h.ka,fun k hk=>⟨Nat.lt_of_lt_of_le (h.xl k hk).1 hb.size,(h.xl k hk).2⟩⟩
theorem RC.more (h:RC w0 w X R r c l g N E mv met kb kn) (hb:Below w.heap.size w w'):RC w0 w' (fun k=>X k∨(w.heap.size≤k∧k < w'.heap.size)) R r c l g N E mv met kb kn:=by
 obtain ⟨F,ns,out,h1,h2,h3⟩:=h.gr
 refine ⟨h.rx.later hb,⟨F,ns,out,h1.later hb,h2,fun k hk=>⟨(h3 k hk).1,(h3 k hk).2.1,(h3 k hk).2.2.1,(h3 k hk).2.2.2.1,?_⟩⟩,h.me.later hb,fun k hk=>⟨(h.ma k hk).1,(h.ma k hk).2.1,?_⟩,h.kn.later hb,⟨h.ka.1,h.ka.2.1,?_⟩,fun k hk=>?_⟩
 ·rintro (hx | hx)
  ·exact (h3 k hk).2.2.2.2 hx
  ·have:=h1.lt k hk;omega
 ·rintro (hx | hx)
  ·exact (h.ma k hk).2.2 hx
  ·have:=(h.me.lt hk).2;omega
 ·rintro (hx | hx)
  ·exact h.ka.2.2 hx
  ·have:=h.kn.lt;omega
 ·rcases hk with hk | hk
  ·exact ⟨Nat.lt_of_lt_of_le (h.xl k hk).1 hb.size,(h.xl k hk).2⟩
  ·exact ⟨hk.2,fun hR=>by have:=(h.rx.rlo k hR).2;omega⟩
theorem RC.less (h:RC w0 w X R r c l g N E mv met kb kn) (hx:∀ k,X' k→X k):RC w0 w X' R r c l g N E mv met kb kn:=by
 obtain ⟨F,ns,out,h1,h2,h3⟩:=h.gr
 exact ⟨h.rx,⟨F,ns,out,h1,h2,fun k hk=>⟨(h3 k hk).1,(h3 k hk).2.1,(h3 k hk).2.2.1,(h3 k hk).2.2.2.1,fun e=>(h3 k hk).2.2.2.2 (hx k e)⟩⟩,h.me,fun k hk=>⟨(h.ma k hk).1,(h.ma k hk).2.1,fun e=>(h.ma k hk).2.2 (hx k e)⟩,h.kn,⟨h.ka.1,h.ka.2.1,fun e=>h.ka.2.2 (hx kb e)⟩,fun k hk=>h.xl k (hx k hk)⟩
theorem RC.known (h:RC w0 w X R r c l g N E mv met kb kn) (a:Lb) (ha:Lu a) (hk:a∉kn) (hz:kn.length≤1000000000) :
  ∃ w',(Instr.mapUpdate 89 (.map (some kb)) a.val (.agg #[])).run Tryz.prog w=.ok () w'∧RC w0 w' X R r c l g N E mv met kb (kn++[a])∧(∀ k,X k→w'.heap[k]? = w.heap[k]?)∧w'.heap.size=w.heap.size:=by
 obtain ⟨w',hrun,hm,ho,hs⟩:=h.kn.store ha (by omega) ()
 obtain ⟨F,ns,out,h1,h2,h3⟩:=h.gr
 have hkl:=h.kn.lt
 have st:∀ k,k < w.heap.size→k≠kb→w'.heap[k]? = w.heap[k]?:=fun k hk hn=>ho.block k hk (by simpa using hn)
 have hb:Below w0.heap.size w w':=ho.below h.rx.bel.size (fun k hk=>by simp at hk;rw [hk];exact h.ka.2.1)
 refine ⟨w',hrun,⟨h.rx.stay hb (fun k hR=>st k (h.rx.rlo k hR).2 (fun e=>h.ka.1 (e▸hR))),⟨F,ns,out,h1.stay (by omega) (fun k hf=>st k (h1.lt k hf) (h3 k hf).2.2.1),h2,h3⟩,row_kept h.me (fun k hv=>st k (h.me.lt hv).2 (h.ma k hv).2.1),h.ma,?_,h.ka,fun k hx=>⟨by rw [hs];exact (h.xl k hx).1,(h.xl k hx).2⟩⟩,fun k hx=>st k (h.xl k hx).1 (fun e=>h.ka.2.2 (e▸hx)),hs⟩
 have hi:(if a∈kn then some () else none:Option Unit).isSome=false:=by rw [if_neg hk];rfl
 rw [hi] at hm
 have hl:(kn++[a]).length=kn.length+1:=by simp
 show MP cU w' kb _ (kn++[a]).length
 rw [hl]
 refine MP.congr hm (fun k _=>?_)
 by_cases e:k=a
 ·simp [e]
 ·simp [e]
theorem RC.node (h:RC w0 w X R r c l g N E mv met kb kn) (a:Lb) (ha:Lu a) (hz:N.length+2≤2000000) :
  Calls Tryz.prog 52 #[.pointer (some ⟨g,0,none⟩),a.val] w fun e w'=>e=.returned (.tuple #[])∧RC w0 w' X R r c l g (addN N a) E mv met kb kn∧∀ k,X k∨R k→w'.heap[k]? = w.heap[k]?:=by
 obtain ⟨F,ns,out,h1,h2,h3⟩:=h.gr
 have hl:=h1.nlen h2
 refine (node_any h1 a ha (by omega)).mono fun e w' ⟨k1,k2,k3⟩=>⟨k1,?_⟩
 have hs:=k3.size
 have st:∀ k,k < w.heap.size→¬ F k→w'.heap[k]? = w.heap[k]?:=k3.block
 have hb:Below w0.heap.size w w':=k3.below h.rx.bel.size (fun k hk=>(h3 k hk).1)
 refine ⟨⟨h.rx.stay hb (fun k hR=>st k (h.rx.rlo k hR).2 (fun hf=>(h3 k hf).2.1 hR)),⟨_,_,_,k2,h2.node a,fun k hk=>?_⟩,row_kept h.me (fun k hv=>st k (h.me.lt hv).2 (fun hf=>(h3 k hf).2.2.2.1 hv)),h.ma,h.kn.block (st kb h.kn.lt (fun hf=>(h3 kb hf).2.2.1 rfl)),h.ka,fun k hx=>⟨by have:=(h.xl k hx).1;omega,(h.xl k hx).2⟩⟩,fun k hx=>?_⟩
 ·rcases hk with hk | hk
  ·exact h3 k hk
  ·have h0:=h.rx.bel.size
   have h4:=h.kn.lt
   exact ⟨by omega,fun hR=>by have:=(h.rx.rlo k hR).2;omega,by omega,fun hv=>by have:=(h.me.lt hv).2;omega,fun hx=>by have:=(h.xl k hx).1;omega⟩
 ·rcases hx with hx | hx
  ·exact st k (h.xl k hx).1 (fun hf=>(h3 k hf).2.2.2.2 hx)
  ·exact st k (h.rx.rlo k hx).2 (fun hf=>(h3 k hf).2.1 hx)
theorem RC.edge (h:RC w0 w X R r c l g N E mv met kb kn) (a b:Lb) (ha:Lu a) (hbb:Lu b) (hz:N.length+2≤2000000) :
  Calls Tryz.prog 53 #[.pointer (some ⟨g,0,none⟩),a.val,b.val] w fun e w'=>e=.returned (.tuple #[])∧RC w0 w' X R r c l g (addN (addN N a) b) (addE E (a,b)) mv met kb kn∧∀ k,X k∨R k→w'.heap[k]? = w.heap[k]?:=by
 obtain ⟨F,ns,out,h1,h2,h3⟩:=h.gr
 have hl:=h1.nlen h2
 refine (edge_any h1 a b ha hbb (by omega)).mono fun e w' ⟨k1,k2,k3⟩=>⟨k1,?_⟩
 have hs:=k3.size
 have st:∀ k,k < w.heap.size→¬ F k→w'.heap[k]? = w.heap[k]?:=k3.block
 have hb:Below w0.heap.size w w':=k3.below h.rx.bel.size (fun k hk=>(h3 k hk).1)
 refine ⟨⟨h.rx.stay hb (fun k hR=>st k (h.rx.rlo k hR).2 (fun hf=>(h3 k hf).2.1 hR)),⟨_,_,_,k2,h2.edge a b,fun k hk=>?_⟩,row_kept h.me (fun k hv=>st k (h.me.lt hv).2 (fun hf=>(h3 k hf).2.2.2.1 hv)),h.ma,h.kn.block (st kb h.kn.lt (fun hf=>(h3 kb hf).2.2.1 rfl)),h.ka,fun k hx=>⟨by have:=(h.xl k hx).1;omega,(h.xl k hx).2⟩⟩,fun k hx=>?_⟩
 ·rcases hk with hk | hk
  ·exact h3 k hk
  ·have h0:=h.rx.bel.size
   have h4:=h.kn.lt
   exact ⟨by omega,fun hR=>by have:=(h.rx.rlo k hR).2;omega,by omega,fun hv=>by have:=(h.me.lt hv).2;omega,fun hx=>by have:=(h.xl k hx).1;omega⟩
 ·rcases hx with hx | hx
  ·exact st k (h.xl k hx).1 (fun hf=>(h3 k hf).2.2.2.2 hx)
  ·exact st k (h.rx.rlo k hx).2 (fun hf=>(h3 k hf).2.1 hx)
theorem RC.deps (h:RC w0 w X R r c l g N E mv met kb kn) (E0:Ev w0) (sm:FQ l) (hc:c.length≤1000000000) (a:Lb) (ha:a.pkg.length≤400000000) :
  Calls Tryz.prog 29 #[.pointer (some ⟨r,0,none⟩),a.val] w fun e w'=>∃ t R',e=.returned t.d∧RC w0 w' X R' r (a.pkg::c) l g N E mv met kb kn∧TIn R' w' t ((tgtL l a).getD zT)∧∀ k,X k→w'.heap[k]? = w.heap[k]?:=by
 refine (bdeps_any h.rx E0 sm hc a ha).mono fun e w' ⟨t,R',k1,k2,k3,k4,k5,k6⟩=>⟨t,R',k1,?_,k3,fun k hx=>k4.block k (h.xl k hx).1 (h.xl k hx).2⟩
 obtain ⟨F,ns,out,h1,h2,h3⟩:=h.gr
 have hs:=k4.size
 have nR:∀ k,k < w.heap.size→¬ R k→¬ R' k:=fun k hk hn hR=>by
  rcases k6 k hR with h | h
  ·exact hn h
  ·omega
 refine ⟨k2,⟨F,ns,out,h1.stay hs (fun k hf=>k4.block k (h1.lt k hf) (h3 k hf).2.1),h2,fun k hf=>⟨(h3 k hf).1,nR k (h1.lt k hf) (h3 k hf).2.1,(h3 k hf).2.2⟩⟩,row_kept h.me (fun k hv=>k4.block k (h.me.lt hv).2 (h.ma k hv).1),fun k hv=>⟨nR k (h.me.lt hv).2 (h.ma k hv).1,(h.ma k hv).2⟩,h.kn.block (k4.block kb h.kn.lt h.ka.1),⟨nR kb h.kn.lt h.ka.1,h.ka.2⟩,fun k hx=>⟨by have:=(h.xl k hx).1;omega,nR k (h.xl k hx).1 (h.xl k hx).2⟩⟩
theorem RC.push (h:RC w0 w X R r c l g N E mv met kb kn) {b:Lb} (ho:OwnL w0.heap.size w' mv' (met++[b])) (hon:Only mv.ownBlock.toList w w') (hv:mv'.ownBlock=mv.ownBlock∨∃ k,mv'.ownBlock=some k∧w.heap.size≤k) :
  RC w0 w' X R r c l g N E mv' (met++[b]) kb kn∧∀ k,X k∨R k→w'.heap[k]? = w.heap[k]?:=by
 obtain ⟨F,ns,out,h1,h2,h3⟩:=h.gr
 have hs:=hon.size
 have st:∀ k,k < w.heap.size→mv.ownBlock≠some k→w'.heap[k]? = w.heap[k]?:=fun k hk hn=>hon.block k hk (fun e=>hn (by simpa using e))
 have hb:Below w0.heap.size w w':=hon.below h.rx.bel.size (fun k hk=>(h.me.lt (by simpa using hk)).1)
 have hvn:∀ k,k < w.heap.size→mv.ownBlock≠some k→mv'.ownBlock≠some k:=fun k hk hn e=>by
  rcases hv with h | ⟨j,h,hj⟩
  ·exact hn (h▸e)
  ·rw [h] at e;injection e with e;omega
 refine ⟨⟨h.rx.stay hb (fun k hR=>st k (h.rx.rlo k hR).2 (fun e=>(h.ma k e).1 hR)),⟨F,ns,out,h1.stay hs (fun k hf=>st k (h1.lt k hf) (h3 k hf).2.2.2.1),h2,fun k hf=>⟨(h3 k hf).1,(h3 k hf).2.1,(h3 k hf).2.2.1,hvn k (h1.lt k hf) (h3 k hf).2.2.2.1,(h3 k hf).2.2.2.2⟩⟩,ho,fun k hk=>?_,h.kn.block (st kb h.kn.lt (fun e=>(h.ma kb e).2.1 rfl)),h.ka,fun k hx=>⟨by have:=(h.xl k hx).1;omega,(h.xl k hx).2⟩⟩,fun k hx=>?_⟩
 ·rcases hv with e | ⟨j,e,hj⟩
  ·exact h.ma k (e▸hk)
  ·rw [e] at hk
   injection hk with hk
   subst hk
   exact ⟨fun hR=>by have:=(h.rx.rlo j hR).2;omega,by have:=h.kn.lt;omega,fun hx=>by have:=(h.xl j hx).1;omega⟩
 ·rcases hx with hx | hx
  ·exact st k (h.xl k hx).1 (fun e=>(h.ma k e).2.2 hx)
  ·exact st k (h.rx.rlo k hx).2 (fun e=>(h.ma k e).1 hx)
end
end
section
inductive Rea (l:List Fl) (t:List Lb):Lb→Prop
 | base {x:Lb}:x∈t→Rea l t x
 | step {a b:Lb}:Rea l t a→b∈dpsL l a→Rea l t b
structure Uni (l:List Fl) (t U:List Lb) (M:Nat):Prop where
 all:∀ x,Rea l t x→x∈U
 dep:∀ a,(dpsL l a).length≤M
structure RI (l:List Fl) (t:List Lb) (M i:Nat) (N:List Lb) (E:List Ee) (met kn:List Lb):Prop where
 il:i≤met.length
 nd:kn.Nodup
 nn:N.Nodup
 en:E.Nodup
 k1:∀ x,x∈kn↔x∈met.take i
 k2:∀ x∈met,Rea l t x
 k3:∀ x∈t,x∈met
 k4:∀ a∈kn,∀ b∈dpsL l a,b∈met
 ee:∀ a b,(a,b)∈E↔a∈kn∧b∈dpsL l a
 ne:∀ x,x∈N↔x∈kn∨∃ a∈kn,x∈dpsL l a
 ml:met.length≤t.length+kn.length * M
 el:E.length≤kn.length * M
section
variable {l:List Fl} {t U:List Lb} {M i j:Nat} {N:List Lb} {E:List Ee} {met kn D:List Lb} {a:Lb}
theorem RI.start (l:List Fl) (t:List Lb) (M:Nat):RI l t M 0 [] [] t []:=
 ⟨Nat.zero_le _,List.nodup_nil,List.nodup_nil,List.nodup_nil,by simp,fun x hx=>.base hx,fun x hx=>hx,by simp,by simp,by simp,by simp,by simp⟩
theorem RI.reaN (h:RI l t M i N E met kn):∀ x∈N,Rea l t x:=fun x hx=>by
 rcases (h.ne x).1 hx with hx | ⟨a,ha,hx⟩
 ·exact h.k2 x (List.mem_of_mem_take ((h.k1 x).1 hx))
 ·exact .step (h.k2 a (List.mem_of_mem_take ((h.k1 a).1 ha))) hx
theorem RI.knU (h:RI l t M i N E met kn) (u:Uni l t U M):kn.length≤U.length:=Gs.nodup_sub _ _ h.nd (fun x hx=>u.all x (h.k2 x (List.mem_of_mem_take ((h.k1 x).1 hx))))
theorem RI.nU (h:RI l t M i N E met kn) (u:Uni l t U M):N.length≤U.length:=Gs.nodup_sub _ _ h.nn (fun x hx=>u.all x (h.reaN x hx))
theorem RI.mU (h:RI l t M i N E met kn) (u:Uni l t U M):met.length≤t.length+U.length * M:=Nat.le_trans h.ml (Nat.add_le_add_left (Nat.mul_le_mul_right _ (h.knU u)) _)
theorem RI.skip (h:RI l t M i N E met kn) (hi:i < met.length) (hk:met[i]∈kn):RI l t M (i+1) N E met kn:=
 ⟨hi,h.nd,h.nn,h.en,fun x=>by
  rw [List.take_succ_eq_append_getElem hi,List.mem_append,← h.k1 x]
  exact ⟨.inl,fun h=>h.elim id (fun h=>List.mem_singleton.1 h▸hk)⟩,h.k2,h.k3,h.k4,h.ee,h.ne,h.ml,h.el⟩
structure RJ (l:List Fl) (t:List Lb) (M i:Nat) (a:Lb) (D:List Lb) (N:List Lb) (E:List Ee) (met kn:List Lb):Prop where
 il:i < met.length
 at':met[i]=a
 nk:a∉kn
 nd:kn.Nodup
 nn:N.Nodup
 en:E.Nodup
 k1:∀ x,x∈kn↔x∈met.take i
 k2:∀ x∈met,Rea l t x
 k3:∀ x∈t,x∈met
 k4:∀ a∈kn,∀ b∈dpsL l a,b∈met
 k5:∀ b∈D,b∈met
 ds:∀ b∈D,b∈dpsL l a
 ee:∀ x b,(x,b)∈E↔(x∈kn∧b∈dpsL l x)∨(x=a∧b∈D)
 ne:∀ x,x∈N↔x∈kn∨(∃ a∈kn,x∈dpsL l a)∨x=a∨x∈D
 ml:met.length≤t.length+kn.length * M+D.length
 el:E.length≤kn.length * M+D.length
theorem RI.go (h:RI l t M i N E met kn) (hi:i < met.length) (ha:met[i]=a) (hk:a∉kn):RJ l t M i a [] (addN N a) E met kn:=by
 refine ⟨hi,ha,hk,h.nd,addN_nd h.nn,h.en,h.k1,h.k2,h.k3,h.k4,by simp,by simp,fun x b=>?_,fun x=>?_,h.ml,h.el⟩
 ·rw [h.ee];simp
 ·rw [mem_addN,h.ne]
  simp only [List.not_mem_nil,or_false]
  constructor
  ·rintro ((h | h) | h)
   ·exact .inl h
   ·exact .inr (.inl h)
   ·exact .inr (.inr h)
  ·rintro (h | h | h)
   ·exact .inl (.inl h)
   ·exact .inl (.inr h)
   ·exact .inr h
theorem RJ.step (h:RJ l t M i a D N E met kn) {b:Lb} (hb:b∈dpsL l a):RJ l t M i a (D++[b]) (addN (addN N a) b) (addE E (a,b)) (met++[b]) kn:=by
 have hi:=h.il
 have hrb:Rea l t b:=.step (h.at'▸h.k2 met[i] (List.getElem_mem hi)) hb
 refine ⟨by simp;omega,by rw [List.getElem_append_left hi];exact h.at',h.nk,h.nd,addN_nd (addN_nd h.nn),?_,fun x=>?_,fun x hx=>?_,fun x hx=>List.mem_append_left _ (h.k3 x hx),fun c hc d hd=>List.mem_append_left _ (h.k4 c hc d hd),fun d hd=>?_,fun d hd=>?_,fun x d=>?_,fun x=>?_,by simp;have:=h.ml;omega,?_⟩
 ·unfold addE
  split
  ·exact h.en
  ·rename_i hn
   rw [List.nodup_append]
   exact ⟨h.en,by simp,fun x hx y hy e=>hn (by rw [List.mem_singleton.1 hy] at e;exact e▸hx)⟩
 ·rw [List.take_append_of_le_length (by omega)];exact h.k1 x
 ·rcases List.mem_append.1 hx with hx | hx
  ·exact h.k2 x hx
  ·rw [List.mem_singleton.1 hx];exact hrb
 ·rcases List.mem_append.1 hd with hd | hd
  ·exact List.mem_append_left _ (h.k5 d hd)
  ·exact List.mem_append_right _ hd
 ·rcases List.mem_append.1 hd with hd | hd
  ·exact h.ds d hd
  ·rw [List.mem_singleton.1 hd];exact hb
 ·rw [mem_addE,h.ee,List.mem_append,List.mem_singleton,Prod.mk.injEq]
  constructor
  ·rintro ((h | h) | h)
   ·exact .inl h
   ·exact .inr ⟨h.1,.inl h.2⟩
   ·exact .inr ⟨h.1,.inr h.2⟩
  ·rintro (h | ⟨h1,h2 | h2⟩)
   ·exact .inl (.inl h)
   ·exact .inl (.inr ⟨h1,h2⟩)
   ·exact .inr ⟨h1,h2⟩
 ·rw [mem_addN,mem_addN,h.ne,List.mem_append,List.mem_singleton]
  constructor
  ·rintro (((h | h | h | h) | h) | h)
   ·exact .inl h
   ·exact .inr (.inl h)
   ·exact .inr (.inr (.inl h))
   ·exact .inr (.inr (.inr (.inl h)))
   ·exact .inr (.inr (.inl h))
   ·exact .inr (.inr (.inr (.inr h)))
  ·rintro (h | h | h | h | h)
   ·exact .inl (.inl (.inl h))
   ·exact .inl (.inl (.inr (.inl h)))
   ·exact .inl (.inr h)
   ·exact .inl (.inl (.inr (.inr (.inr h))))
   ·exact .inr h
 ·have h1:(addE E (a,b)).length≤E.length+1:=addE_len E (a,b)
  have:=h.el
  simp
  omega
theorem RJ.reaA (h:RJ l t M i a D N E met kn):Rea l t a:=h.at'▸h.k2 _ (List.getElem_mem h.il)
theorem RJ.reaK (h:RJ l t M i a D N E met kn):∀ x∈kn,Rea l t x:=fun x hx=>h.k2 x (List.mem_of_mem_take ((h.k1 x).1 hx))
theorem RJ.nU (h:RJ l t M i a D N E met kn) (u:Uni l t U M):N.length≤U.length:=Gs.nodup_sub _ _ h.nn (fun x hx=>u.all x (by
 rcases (h.ne x).1 hx with h1 | ⟨c,hc,h1⟩ | h1 | h1
 ·exact h.reaK x h1
 ·exact .step (h.reaK c hc) h1
 ·rw [h1];exact h.reaA
 ·exact .step h.reaA (h.ds x h1)))
theorem RJ.knU (h:RJ l t M i a D N E met kn) (u:Uni l t U M):kn.length+1≤U.length:=by
 have:=Gs.nodup_sub (kn++[a]) U (by
  rw [List.nodup_append]
  exact ⟨h.nd,by simp,fun x hx y hy e=>h.nk (by rw [List.mem_singleton.1 hy] at e;exact e▸hx)⟩) (fun x hx=>u.all x (by
  rcases List.mem_append.1 hx with hx | hx
  ·exact h.reaK x hx
  ·rw [List.mem_singleton.1 hx];exact h.reaA))
 simpa using this
theorem RJ.mU (h:RJ l t M i a D N E met kn) (u:Uni l t U M) (hD:D.length≤M):met.length≤t.length+U.length * M:=by
 have h1:=h.ml
 have h2:=Nat.mul_le_mul_right M (h.knU u)
 rw [Nat.add_mul,Nat.one_mul] at h2
 omega
theorem RJ.done (h:RJ l t M i a D N E met kn) (u:Uni l t U M) (hD:D=dpsL l a):RI l t M (i+1) N E met (kn++[a]):=by
 have hi:=h.il
 have hl:=u.dep a
 subst hD
 refine ⟨hi,?_,h.nn,h.en,fun x=>?_,h.k2,h.k3,fun c hc d hd=>?_,fun x b=>?_,fun x=>?_,?_,?_⟩
 ·rw [List.nodup_append]
  exact ⟨h.nd,by simp,fun x hx y hy e=>h.nk (by rw [List.mem_singleton.1 hy] at e;exact e▸hx)⟩
 ·rw [List.take_succ_eq_append_getElem hi,List.mem_append,List.mem_append,h.k1,h.at']
 ·rcases List.mem_append.1 hc with hc | hc
  ·exact h.k4 c hc d hd
  ·rw [List.mem_singleton.1 hc] at hd
   exact h.k5 d hd
 ·rw [h.ee,List.mem_append,List.mem_singleton]
  constructor
  ·rintro (h | ⟨rfl,h⟩)
   ·exact ⟨.inl h.1,h.2⟩
   ·exact ⟨.inr rfl,h⟩
  ·rintro ⟨h | rfl,h2⟩
   ·exact .inl ⟨h,h2⟩
   ·exact .inr ⟨rfl,h2⟩
 ·rw [h.ne,List.mem_append,List.mem_singleton]
  constructor
  ·rintro (h | ⟨c,hc,h⟩ | h | h)
   ·exact .inl (.inl h)
   ·exact .inr ⟨c,List.mem_append_left _ hc,h⟩
   ·exact .inl (.inr h)
   ·exact .inr ⟨a,by simp,h⟩
  ·rintro ((h | h) | ⟨c,hc,h⟩)
   ·exact .inl h
   ·exact .inr (.inr (.inl h))
   ·rcases List.mem_append.1 hc with hc | hc
    ·exact .inr (.inl ⟨c,hc,h⟩)
    ·rw [List.mem_singleton.1 hc] at h
     exact .inr (.inr (.inr h))
 ·have:=h.ml
  simp only [List.length_append,List.length_singleton,Nat.add_mul,Nat.one_mul]
  omega
 ·have:=h.el
  simp only [List.length_append,List.length_singleton,Nat.add_mul,Nat.one_mul]
  omega
theorem RI.done (h:RI l t M met.length N E met kn):(∀ x,x∈N↔Rea l t x)∧(∀ a b,(a,b)∈E↔Rea l t a∧b∈dpsL l a)∧(∀ x,x∈kn↔Rea l t x):=by
 have hk:∀ x,x∈kn↔Rea l t x:=fun x=>by
  rw [h.k1,List.take_length]
  constructor
  ·exact h.k2 x
  ·intro hr
   induction hr with
   | base hx=>exact h.k3 _ hx
   | step _ hb ih=>exact h.k4 _ ((h.k1 _).2 (by rw [List.take_length];exact ih)) _ hb
 refine ⟨fun x=>?_,fun a b=>by rw [h.ee,hk],hk⟩
 rw [h.ne,hk]
 exact ⟨fun h'=>h'.elim id (fun ⟨a,ha,hx⟩=>.step ((hk a).1 ha) hx),.inl⟩
end
end
end Go.Proofs.YtppnbdnpapellaaGreatDoor
