import Derived.Test.YtppnbdnpapellaaGreatDoorJGt
import Derived.Test.YtppnbdnpapellaaGreatDoorIns
import Derived.Maps.OwnSet
import Derived.Maps.OwnOps
import Derived.Test.YtppnbdnpapellaaGreatDoorJLrow
set_option maxRecDepth 100000
set_option maxHeartbeats 16000000
namespace Go.Proofs.YtppnbdnpapellaaGreatDoor
section
open Go.RowKit Go.Maps
def ltL (a b:Lb):Bool:=decide (cmpL a b < 0)
theorem stoL:Gs.Sto ltL where
 irr a:=by unfold ltL;rw [(cmpL_zero a a).2 rfl];rfl
 trans a b c h1 h2:=by
  unfold ltL at *
  simp only [decide_eq_true_eq] at *
  have h3:=cmpL_trans a b c (by omega) (by omega)
  rcases cmpL_range a c with h | h | h
  ·omega
  ·have e:=(cmpL_zero a c).1 h
   subst e
   have:=cmpL_neg a b
   omega
  ·omega
 tot a b h:=by
  unfold ltL
  simp only [decide_eq_true_eq]
  have h1:=cmpL_neg a b
  have h2:cmpL a b≠0:=fun e=>h ((cmpL_zero a b).1 e)
  omega
abbrev UpL (l:List Lb):Prop:=Gs.Ris ltL l
abbrev rs (l:List Lb):List Lb:=Gs.ris ltL l
def sv:Option (Nat×Nat×Nat)→Value
 | none=>.slice none 0 0
 | some (g,n,c)=>.slice (some ⟨g,0,none⟩) n c
def sd:Option (Nat×Nat×Nat)→DataW Unit
 | none=>.nil
 | some (g,n,c)=>.agg [.lit (.int .i64 g),.lit (.int .i64 n),.lit (.int .i64 c)]
def sR (v:Value):Option (DataW Unit×List MemPlace):=
 match v with
 | .slice (some a) n c=>if a.off=0∧a.spot=none then some (sd (some (a.block,n,c)),[]) else none
 | .slice none n c=>if n=0∧c=0 then some (sd none,[]) else none
 | _=>none
def cS:Cd (Option (Nat×Nat×Nat)) where
 R:=sR
 enc:=sv
 d:=sd
 z:=none
 t:=104
 e:=23
 hR x:=by cases x<;>simp [sR,sv]
 inv v y h:=by
  unfold sR at h
  split at h
  ·rename_i x n c
   split at h
   ·rename_i e
    obtain ⟨b,o,s⟩:=x
    simp only at e
    obtain ⟨rfl,rfl⟩:=e
    exact ⟨some (b,n,c),rfl⟩
   ·cases h
  ·split at h
   ·rename_i e
    obtain ⟨rfl,rfl⟩:=e
    exact ⟨none,rfl⟩
   ·cases h
  ·cases h
 inj x y h:=by
  cases x with
  | none=>cases y with
   | none=>rfl
   | some y=>simp [sd] at h
  | some x=>cases y with
   | none=>simp [sd] at h
   | some y=>
    obtain ⟨a,b,c⟩:=x
    obtain ⟨a',b',c'⟩:=y
    simp only [sd,DataW.agg.injEq,List.cons.injEq,DataW.lit.injEq,Lit.int.injEq,true_and,and_true] at h
    have h1:a=a':=by omega
    have h2:b=b':=by omega
    have h3:c=c':=by omega
    subst h1 h2 h3;rfl
 und:=by kernel_rfl
 zero w:=by kernel_rfl
structure OnlyP (F:Nat→Prop) (w w':World):Prop where
 os:w'.os=w.os
 tape:w'.tape=w.tape
 output:w'.output=w.output
 size:w.heap.size≤w'.heap.size
 block:∀ k,k < w.heap.size→¬ F k→w'.heap[k]? = w.heap[k]?
theorem OnlyP.refl (F:Nat→Prop) (w:World):OnlyP F w w:=⟨rfl,rfl,rfl,Nat.le_refl _,fun _ _ _=>rfl⟩
theorem OnlyP.of_below {a b:World} (h:Below a.heap.size a b) (F:Nat→Prop):OnlyP F a b:=⟨h.os,h.tape,h.output,h.size,fun i hi _=>h.block i hi⟩
theorem OnlyP.of_only {S:List Nat} {F:Nat→Prop} {a b:World} (h:Only S a b) (hF:∀ k,k∈S→k < a.heap.size→F k):OnlyP F a b:=⟨h.os,h.tape,h.output,h.size,fun i hi hn=>h.block i hi (fun e=>hn (hF i e hi))⟩
theorem OnlyP.trans {F G:Nat→Prop} {a b c:World} (h:OnlyP F a b) (k:OnlyP G b c) (hG:∀ i,i < a.heap.size→G i→F i):OnlyP F a c:=
 ⟨k.os.trans h.os,k.tape.trans h.tape,k.output.trans h.output,Nat.le_trans h.size k.size,fun i hi hn=>(k.block i (Nat.lt_of_lt_of_le hi h.size) (fun e=>hn (hG i hi e))).trans (h.block i hi hn)⟩
theorem OnlyP.below {F:Nat→Prop} {a b:World} {B:Nat} (h:OnlyP F a b) (hB:B≤a.heap.size) (hF:∀ k,F k→B≤k):Below B a b:=
 ⟨h.os,h.tape,h.output,h.size,fun i hi=>h.block i (by omega) (fun e=>by have:=hF i e;omega)⟩
structure GR (w:World) (F:Nat→Prop) (g:Nat) (ns:List Lb) (out:Lb→List Lb):Prop where
 it:∃ (b:Nat) (A:Lb→Option (Nat×Nat×Nat)),w.heap[g]? = some (.cells #[.map (some b)] 106 (0,0))∧MP cS w b (fun a=>if a∈ns then some (A a) else none) ns.length∧F b∧
  (∀ a∈ns,OwnL 0 w (sv (A a)) (out a))∧(∀ a∈ns,∀ k,(sv (A a)).ownBlock=some k→F k)∧(∀ a∈ns,∀ a'∈ns,∀ k,(sv (A a)).ownBlock=some k→(sv (A a')).ownBlock=some k→a=a')
 own:F g
 lt:∀ k,F k→k < w.heap.size
 nd:ns.Nodup
 lu:∀ a∈ns,Lu a
 up:∀ a,UpL (out a)
 sub:∀ a b,b∈out a→a∈ns∧b∈ns
 sz:ns.length≤2000000
theorem GR.stay {w w':World} {F:Nat→Prop} {g:Nat} {ns:List Lb} {out:Lb→List Lb} (h:GR w F g ns out) (hz:w.heap.size≤w'.heap.size) (hs:∀ k,F k→w'.heap[k]? = w.heap[k]?):GR w' F g ns out:=by
 obtain ⟨⟨b,A,h1,h2,h3,h4,h5,h6⟩,own,lt,nd,lu,up,sub,sz⟩:=h
 refine ⟨⟨b,A,(hs g own).trans h1,h2.block (hs b h3),h3,fun a ha=>?_,h5,h6⟩,own,fun k hk=>Nat.lt_of_lt_of_le (lt k hk) hz,nd,lu,up,sub,sz⟩
 have ho:=h4 a ha
 rcases ho with ⟨h0,ho | ⟨q,cap,cur,e,hb,hg,hr⟩⟩
 ·exact ⟨h0,.inl ho⟩
 ·exact ⟨h0,.inr ⟨q,cap,cur,e,hb,(hs q (h5 a ha q (by rw [e];rfl))).trans hg,hr⟩⟩
theorem GR.later {w w':World} {F:Nat→Prop} {g:Nat} {ns:List Lb} {out:Lb→List Lb} (h:GR w F g ns out) (hb:Below w.heap.size w w'):GR w' F g ns out:=
 h.stay hb.size (fun k hk=>hb.block k (h.lt k hk))
theorem GR.wider {w:World} {F F':Nat→Prop} {g:Nat} {ns:List Lb} {out:Lb→List Lb} (h:GR w F g ns out) (hF:∀ k,F k→F' k) (hl:∀ k,F' k→k < w.heap.size):GR w F' g ns out:=by
 obtain ⟨⟨b,A,h1,h2,h3,h4,h5,h6⟩,own,lt,nd,lu,up,sub,sz⟩:=h
 exact ⟨⟨b,A,h1,h2,hF b h3,h4,fun a ha k hk=>hF k (h5 a ha k hk),h6⟩,hF g own,hl,nd,lu,up,sub,sz⟩
theorem GR.glt {w:World} {F:Nat→Prop} {g:Nat} {ns:List Lb} {out:Lb→List Lb} (h:GR w F g ns out):g < w.heap.size:=h.lt g h.own
theorem GR.nout {w:World} {F:Nat→Prop} {g:Nat} {ns:List Lb} {out:Lb→List Lb} (h:GR w F g ns out) {a:Lb} (ha:a∉ns):out a=[]:=by
 cases e:out a with
 | nil=>rfl
 | cons b r=>exact absurd (h.sub a b (by rw [e];simp)).1 ha
theorem GR.olen {w:World} {F:Nat→Prop} {g:Nat} {ns:List Lb} {out:Lb→List Lb} (h:GR w F g ns out) (a:Lb):(out a).length≤ns.length:=
 Gs.nodup_sub _ _ (Gs.Ris.nodup stoL (h.up a)) (fun b hb=>(h.sub a b hb).2)
theorem GR.map {w:World} {F:Nat→Prop} {g:Nat} {ns:List Lb} {out:Lb→List Lb} (h:GR w F g ns out):∃ b,w.cell? ⟨g,0,none⟩=some (.map (some b))∧F b∧b < w.heap.size∧b≠g∧
  (∀ w':World,w'.heap[b]? = w.heap[b]?→∀ ty,(Builtin.len_ #[104] ty #[.map (some b)]).run Tryz.prog w'=.ok (.int .i64 ns.length) w')∧
  ∀ a,Lu a→∃ v,OwnL 0 w v (out a)∧(∀ k,v.ownBlock=some k→F k)∧∀ w':World,w'.heap[b]? = w.heap[b]?→(Instr.lookup 104 (.map (some b)) a.val false).run Tryz.prog w'=.ok v w'∧(Instr.lookup 104 (.map (some b)) a.val true).run Tryz.prog w'=.ok (.tuple #[v,.bool (decide (a∈ns))]) w':=by
 have hlt:=h.lt
 have hnone:=fun a=>h.nout (a:=a)
 obtain ⟨⟨b,A,h1,h2,h3,h4,h5,h6⟩,own,lt,nd,lu,up,sub,sz⟩:=h
 refine ⟨b,by simp [World.cell?,h1],h3,hlt b h3,?_,fun w' hw ty=>(h2.block hw).len ty,fun a ha=>?_⟩
 ·rintro rfl
  obtain ⟨D,⟨es,clock,hb,_⟩,_⟩:=h2
  rw [h1] at hb;cases hb
 ·by_cases hm:a∈ns
  ·refine ⟨sv (A a),h4 a hm,h5 a hm,fun w' hw=>⟨?_,?_⟩⟩
   ·simpa [hm,at_,cS] using (h2.block hw).look ha false
   ·simpa [hm,at_,cS] using (h2.block hw).look ha true
  ·refine ⟨.slice none 0 0,?_,(fun k hk=>by cases hk),fun w' hw=>⟨?_,?_⟩⟩
   ·rw [hnone a hm];exact OwnL.nil 0 w
   ·simpa [hm,at_,cS,sv] using (h2.block hw).look ha false
   ·simpa [hm,at_,cS,sv] using (h2.block hw).look ha true
theorem cell_alloc {w:World} {g i:Nat} {v:Value} (o:Obj) (hg:g < w.heap.size) (hc:w.cell? ⟨g,i,none⟩=some v):(w.alloc o).cell? ⟨g,i,none⟩=some v:=((balloc w o).cell (p:=⟨g,i,none⟩) hg).trans hc
end
section
open Go.RowKit Go.Maps
abbrev Shv:=Option (Nat×Nat×Nat)×Int
def shV (x:Shv):Value:=.agg #[sv x.1,.int .i64 x.2]
def shD (x:Shv):DataW Unit:=.agg [sd x.1,.lit (.int .i64 x.2)]
def shR (v:Value):Option (DataW Unit×List MemPlace):=
 match v with
 | .agg ⟨[a,.int .i64 k]⟩=>match sR a with
  | some y=>some (.agg [y.1,.lit (.int .i64 k)],[])
  | none=>none
 | _=>none
theorem sR_sv (x:Option (Nat×Nat×Nat)):sR (sv x)=some (sd x,[]):=cS.hR x
theorem shR_V (x:Shv):shR (shV x)=some (shD x,[]):=by
 obtain ⟨a,k⟩:=x
 show (match sR (sv a) with | some y=>some (DataW.agg [y.1,.lit (.int .i64 k)],[]) | none=>none)=_
 rw [sR_sv];rfl
theorem shR_inv {v:Value} {y:DataW Unit×List MemPlace} (h:shR v=some y):∃ x,v=shV x:=by
 unfold shR at h
 split at h
 ·rename_i a k
  cases e:sR a with
  | none=>rw [e] at h;cases h
  | some z=>
   obtain ⟨x,hx⟩:=cS.inv a z e
   exact ⟨(x,k),by rw [hx];rfl⟩
 ·cases h
theorem shD_inj {x y:Shv} (h:shD x=shD y):x=y:=by
 obtain ⟨a,k⟩:=x
 obtain ⟨b,m⟩:=y
 unfold shD at h
 simp only [DataW.agg.injEq,List.cons.injEq,DataW.lit.injEq,Lit.int.injEq,true_and,and_true] at h
 rw [cS.inj a b h.1,h.2]
theorem undMs:Tryz.prog.underlying 64=some (.map 9 136):=by kernel_rfl
theorem zeroMs (w:World):(zeroValue 136).run Tryz.prog w=.ok (shV (none,0)) w:=by kernel_rfl
theorem lawMs:Keyed Tryz.prog 9:=string_keyed u9
theorem keyMs {k:List UInt8} (h:k.length≤140737488355328):keyOf Tryz.prog 9 (.string (bs k))=some (.string k):=WideMaps.keyOf_string_mk u9 (s:=bs k) (by rw [bs_size];unfold maxLen;omega)
def MS (w:World) (b:Nat) (F:List UInt8→Option Shv) (cnt:Nat):Prop:=
 ∃ D,w.ownsMap Tryz.prog 9 shR b cnt D∧Maps.size D=cnt∧∀ k:List UInt8,Maps.has D (.string k)=(F k).isSome∧∀ x,F k=some x→∀ zd,D.atKey (.string k) zd=shD x
section
variable {w w':World} {b cnt:Nat} {F G:List UInt8→Option Shv}
theorem MS.lt (h:MS w b F cnt):b < w.heap.size:=by obtain ⟨D,h1,_⟩:=h;exact h1.lt
theorem MS.block (h:MS w b F cnt) (e:w'.heap[b]? = w.heap[b]?):MS w' b F cnt:=by
 obtain ⟨D,⟨es,clock,hb,hr⟩,h2⟩:=h
 exact ⟨D,⟨es,clock,e.trans hb,hr⟩,h2⟩
theorem MS.later (h:MS w b F cnt) (hb:Below w.heap.size w w'):MS w' b F cnt:=h.block (hb.block b h.lt)
theorem MS.new (w:World):MS (w.alloc (.map #[] 0)) w.heap.size (fun _=>none) 0:=
 ⟨.map [],World.ownsMap_made w _ _ _,rfl,fun _=>⟨rfl,fun a h=>by cases h⟩⟩
theorem MS.look (h:MS w b F cnt) {k:List UInt8} (hk:k.length≤140737488355328) :
  (Instr.lookup 64 (.map (some b)) (.string (bs k)) true).run Tryz.prog w=.ok (.tuple #[shV ((F k).getD (none,0)),.bool (F k).isSome]) w:=by
 obtain ⟨D,h1,h2,h4⟩:=h
 have hv:∀ v ps,shR v=some (D.atKey (.string k) (shD (none,0)),ps)→v=shV ((F k).getD (none,0)):=by
  intro v ps hv
  obtain ⟨x,rfl⟩:=shR_inv hv
  rw [shR_V] at hv
  simp only [Option.some.injEq,Prod.mk.injEq] at hv
  congr 1
  apply shD_inj
  cases e:F k with
  | some y=>
   rw [(h4 k).2 y e] at hv
   exact hv.1
  | none=>
   have:=(h4 k).1
   rw [e] at this
   rw [Maps.atKey_of_not_has this] at hv
   exact hv.1
 obtain ⟨v,ps,hrun,hr⟩:=h1.look_ok lawMs undMs (zeroMs w) (shR_V (none,0)) (keyMs hk)
 rw [hrun,hv v ps hr,(h4 k).1]
theorem MS.store (h:MS w b F cnt) {k:List UInt8} (hk:k.length≤140737488355328) (hN:cnt < 4611686018427387904) (x:Shv) :
  ∃ w',(Instr.mapUpdate 64 (.map (some b)) (.string (bs k)) (shV x)).run Tryz.prog w=.ok () w'∧(∃ cnt',cnt'≤cnt+1∧MS w' b (fun y=>if y=k then some x else F y) cnt')∧Only [b] w w'∧w'.heap.size=w.heap.size:=by
 obtain ⟨D,h1,h2,h4⟩:=h
 obtain ⟨w',hrun,h5,h6⟩:=h1.store lawMs undMs (by unfold maxLen;omega) (keyMs hk) (shR_V x)
 refine ⟨w',hrun,⟨Maps.size (D.put (.string k) (shD x)),?_,D.put (.string k) (shD x),?_,rfl,fun y=>?_⟩,Only.turned h6,turned_size h6⟩
 ·rw [Maps.size_put (h1.tidy lawMs)]
  split<;>omega
 ·obtain ⟨es,clock,hb,Fx,hs,hD⟩:=h5
  exact ⟨es,clock,hb,Fx,by rw [hD];simp [Maps.size,length_sorted],hD⟩
 ·simp only []
  by_cases e:y=k
  ·subst e
   rw [if_pos rfl,Maps.has_put_same h1.isMap (isKeyLit _)]
   exact ⟨rfl,fun b hb zd=>by rw [Maps.atKey_put_same h1.isMap (isKeyLit _)];cases hb;rfl⟩
  ·have hne:Lit.string y≠Lit.string k:=fun h=>e (Lit.string.inj h)
   rw [if_neg e,Maps.has_put_other hne]
   exact ⟨(h4 y).1,fun b hb zd=>by rw [Maps.atKey_put_other hne];exact (h4 y).2 b hb zd⟩
end
end
section
open Go.RowKit
theorem contains_step {α:Type} [BEq α] {l:List α} {x:α} {k:Nat} (hk:k < l.length):(l.take (k+1)).contains x=((l.take k).contains x || (x == l[k])):=by
 rw [List.take_succ_eq_append_getElem hk,List.contains_append]
 simp
theorem indexS_any {w:World} {v:Value} {l:List (List UInt8)} (h:SS w v l) (x:List UInt8) (hl:l.length≤1000000000) :
  Calls Tryz.prog 289 #[v,.string (bs x)] w fun e w'=>∃ n:Int,e=.returned (.int .i64 n)∧decide (0≤n)=l.contains x∧w'=w:=by
 obtain ⟨R,hR⟩:∃ R,l.contains x=R:=⟨_,rfl⟩
 rw [hR]
 have HR:Hid (l.contains x=R):=hR
 clear hR
 obtain ⟨a,c,rfl,ca⟩:=h.form
 have HC:Hid (∀ k,(hk:k < l.length)→∃ b off,a=some ⟨b,off,none⟩∧b < w.heap.size∧w.cell? ⟨b,off+k,none⟩=some (.string (bs l[k]))):=ca
 clear ca h
 have ex:=bs_toList x
 go_enter Tryz.func289,Tryz.ntmps289
 go_wp2_with fail
 go_loop [8] (fun i=>∃ k:Nat,k≤l.length∧i=.int .i64 k∧(l.take k).contains x=false) (fun i=>l.length - (intOf i).toNat)
 case atStart=>exact ⟨0,Nat.zero_le _,rfl,by simp⟩
 case round=>
  obtain ⟨k,hk,rfl,hno⟩:=hrel
  have HN:Hid ((l.take k).contains x=false):=hno
  clear hno
  by_cases hlt:k < l.length
  ·obtain ⟨b,off,rfl,hb,hc⟩:=HC.out k hlt
   have i1:(0:Int)≤(k:Int):=by omega
   have i2:(k:Int) < (l.length:Int):=by omega
   have ek:=bs_toList l[k]
   by_cases he:x=l[k]
   ·obtain rfl:R=true:=by rw [← HR.out,he];simp
    have e1:(x == l[k])=true:=by rw [he];simp
    clear he
    go_wp2_with fail
    go_ret
    exact ⟨_,rfl,by simp,rfl⟩
   ·have e1:(x == l[k])=false:=by simpa using he
    have HT:Hid ((l.take (k+1)).contains x=false):=by
     show (l.take (k+1)).contains x=false
     rw [contains_step hlt,HN.out,e1];rfl
    clear he
    go_wp2_with fail
    go_round
    case rel=>exact ⟨k+1,hlt,rfl,HT.out⟩
    case measure=>simp only [intOf];omega
  ·obtain rfl:k=l.length:=by omega
   obtain rfl:R=false:=by
    have:=HN.out
    rw [List.take_length,HR.out] at this;exact this
   go_wp2_with fail
   go_ret
   exact ⟨_,rfl,by decide,rfl⟩
theorem containsS_any {w:World} {v:Value} {l:List (List UInt8)} (h:SS w v l) (x:List UInt8) (hl:l.length≤1000000000) :
  Calls Tryz.prog 273 #[v,.string (bs x)] w fun e w'=>e=.returned (.bool (l.contains x))∧w'=w:=by
 have HI:Hid (Calls Tryz.prog 289 #[v,.string (bs x)] w fun e w'=>∃ n:Int,e=.returned (.int .i64 n)∧decide (0≤n)=l.contains x∧w'=w):=indexS_any h x hl
 clear h
 generalize l.contains x=R at *
 go_enter Tryz.func273,Tryz.ntmps273
 go_wp2_with fail
 refine HI.out.mono ?_
 rintro e w1 ⟨n,rfl,hn,rfl⟩
 subst hn
 go_wp2_with fail
 go_ret
 exact ⟨rfl,rfl⟩
theorem indexL_any {w:World} {v:Value} {l:List Lb} (h:LS w v l) (x:Lb) (hl:l.length≤1000000000) :
  Calls Tryz.prog 143 #[v,x.val] w fun e w'=>∃ n:Int,e=.returned (.int .i64 n)∧decide (0≤n)=l.contains x∧Below w.heap.size w w':=by
 obtain ⟨R,hR⟩:∃ R,l.contains x=R:=⟨_,rfl⟩
 rw [hR]
 have HR:Hid (l.contains x=R):=hR
 clear hR
 obtain ⟨w0,hw0⟩:∃ w0,w.alloc (.cells #[.string (bs x.pkg),.string (bs x.name)] 27)=w0:=⟨_,rfl⟩
 have hb0:Below w.heap.size w w0:=by rw [← hw0];exact balloc _ _
 obtain ⟨a,c,rfl,ca⟩:=(h.later hb0).form
 have HC:Hid (∀ k,(hk:k < l.length)→∃ b off,a=some ⟨b,off,none⟩∧b < w0.heap.size∧w0.cell? ⟨b,off+k * 2,none⟩=some (.string (bs l[k].pkg))∧w0.cell? ⟨b,off+k * 2+1,none⟩=some (.string (bs l[k].name))):=ca
 have x0:w0.cell? ⟨w.heap.size,0,none⟩=some (.string (bs x.pkg)):=by rw [← hw0];simp
 have x1:w0.cell? ⟨w.heap.size,1,none⟩=some (.string (bs x.name)):=by rw [← hw0];simp
 have HB:Hid (Below w.heap.size w w0):=hb0
 have HW:Hid (w.alloc (.cells #[.string (bs x.pkg),.string (bs x.name)] 27)=w0):=hw0
 clear ca h hw0 hb0
 unfold Lb.val
 go_enter Tryz.func143,Tryz.ntmps143
 go_wp2_with fail
 rw [HW.out]
 go_loopw [8] (fun i wr=>∃ k n:Nat,k≤l.length∧i=.int .i64 k∧(l.take k).contains x=false∧wr=w0.drewN n) (fun i _=>l.length - (intOf i).toNat)
 case atStart=>exact ⟨0,0,Nat.zero_le _,rfl,by simp,rfl⟩
 case round=>
  obtain ⟨k,m,hk,rfl,hno,rfl⟩:=hrel
  have HN:Hid ((l.take k).contains x=false):=hno
  clear hno
  by_cases hlt:k < l.length
  ·obtain ⟨b,off,rfl,hb,hc0,hc1⟩:=HC.out k hlt
   have i1:(0:Int)≤(k:Int):=by omega
   have i2:(k:Int) < (l.length:Int):=by omega
   have e2:∀ (w:World) (op:BinOp) (y z:Operand) (xs ys:Array Value),(eqGuard op 27 y z (.agg xs) (.agg ys)).run Tryz.prog w=.ok () w:=guard_run
   by_cases he:x=l[k]
   ·obtain rfl:R=true:=by rw [← HR.out,he];simp
    have e1:∀ w:World,(binOp .eql 27 (.agg #[.string (bs x.pkg),.string (bs x.name)]) (.agg #[.string (bs l[k].pkg),.string (bs l[k].name)])).run Tryz.prog w=.ok (.bool true) w:=fun w=>by
     rw [eql_run];simp [he]
    clear he
    go_wp2_with fail
    go_quiet (fail)
    go_wp2_with fail
    go_ret
    exact ⟨_,rfl,by simp,bstep HB.out (by rw [World.drewN_drewN];exact bd _ _)⟩
   ·have e1:∀ w:World,(binOp .eql 27 (.agg #[.string (bs x.pkg),.string (bs x.name)]) (.agg #[.string (bs l[k].pkg),.string (bs l[k].name)])).run Tryz.prog w=.ok (.bool false) w:=fun w=>by
     rw [eql_run];simp only [decide_eq_false (show ¬ ((⟨x.pkg,x.name⟩:Lb)=⟨l[k].pkg,l[k].name⟩) from he)]
    have HT:Hid ((l.take (k+1)).contains x=false):=by
     show (l.take (k+1)).contains x=false
     rw [contains_step hlt,HN.out,(by simpa using he:(x == l[k])=false)];rfl
    clear he
    go_wp2_with fail
    go_quiet (fail)
    go_wp2_with fail
    go_roundw
    case rel=>exact ⟨k+1,_,hlt,rfl,HT.out,rfl⟩
    case measure=>simp only [intOf];omega
  ·obtain rfl:k=l.length:=by omega
   obtain rfl:R=false:=by
    have:=HN.out
    rw [List.take_length,HR.out] at this;exact this
   go_wp2_with fail
   go_ret
   exact ⟨_,rfl,by decide,bstep HB.out (bd _ _)⟩
theorem containsL_any {w:World} {v:Value} {l:List Lb} (h:LS w v l) (x:Lb) (hl:l.length≤1000000000) :
  Calls Tryz.prog 96 #[v,x.val] w fun e w'=>e=.returned (.bool (l.contains x))∧Below w.heap.size w w':=by
 have HI:Hid (∀ W:World,LS W v l→Calls Tryz.prog 143 #[v,x.val] W fun e w'=>∃ n:Int,e=.returned (.int .i64 n)∧decide (0≤n)=l.contains x∧Below W.heap.size W w'):=fun W hW=>indexL_any hW x hl
 have HL:Hid (LS (w.alloc (.cells #[.string (bs x.pkg),.string (bs x.name)] 27)) v l):=h.later (balloc _ _)
 clear h
 generalize l.contains x=R at *
 unfold Lb.val at HI ⊢
 go_enter Tryz.func96,Tryz.ntmps96
 go_wp2_with fail
 refine (HI.out _ HL.out).mono ?_
 rintro e w1 ⟨n,rfl,hn,hb⟩
 subst hn
 have HB:Hid (Below w.heap.size w w1):=bstep (balloc _ _) hb
 clear hb
 go_wp2_with fail
 go_ret
 exact ⟨rfl,HB.out⟩
def Tv.obj (t:Tv):Obj:=.cells #[.string (bs t.name),.slice t.sa t.sn t.sc,.slice t.da t.dn t.dc,.slice t.ea t.en t.ec] 95
theorem hasName1_any (t:Tv) (n:List UInt8) (w:World) {g:Nat} (hg:w.cell? ⟨g,0,none⟩=some (.string (bs n))) (hlt:g < w.heap.size) :
  Calls Tryz.prog 271 #[t.val,.pointer (some ⟨g,0,none⟩)] w fun e w'=>e=.returned (.bool (t.name == n))∧Below w.heap.size w w':=by
 have e1:=bs_toList n
 have e2:=bs_toList t.name
 unfold Tv.val
 have ne:g≠w.heap.size:=by omega
 generalize hR:(t.name == n)=R
 have hg2:∀ o,(w.alloc o).cell? ⟨g,0,none⟩=some (.string (bs n)):=fun o=>by rw [World.cell?_alloc_lt _ _ ⟨g,0,none⟩ hlt];exact hg
 go_enter Tryz.func271,Tryz.ntmps271
 go_wp2_with fail
 go_ret
 exact ⟨rfl,balloc _ _⟩
theorem indexG_any {w:World} {v:Value} {l:List Tv} (h:GS w v l) (x:List UInt8) (hl:l.length≤1000000000) {g:Nat} (hg:w.cell? ⟨g,0,none⟩=some (.string (bs x))) (hgl:g < w.heap.size) :
  Calls Tryz.prog 288 #[v,.func (.func 271) #[] #[.pointer (some ⟨g,0,none⟩)]] w fun e w'=>∃ n:Int,e=.returned (.int .i64 n)∧decide (0≤n)=(l.any fun t=>t.name == x)∧Below w.heap.size w w':=by
 obtain ⟨R,hR⟩:∃ R,(l.any fun t=>t.name == x)=R:=⟨_,rfl⟩
 rw [hR]
 have HR:Hid ((l.any fun t=>t.name == x)=R):=hR
 clear hR
 obtain ⟨a,c,rfl,_⟩:=h.form
 have HG:Hid (GS w (.slice a l.length c) l):=h
 clear h
 have HX:Hid (w.cell? ⟨g,0,none⟩=some (.string (bs x))):=hg
 clear hg
 go_enter Tryz.func288,Tryz.ntmps288
 go_wp2_with fail
 go_loopw [8] (fun i wr=>∃ k:Nat,k≤l.length∧i=.int .i64 k∧((l.take k).any fun t=>t.name == x)=false∧Below w.heap.size w wr) (fun i _=>l.length - (intOf i).toNat)
 case atStart=>exact ⟨0,Nat.zero_le _,rfl,by simp,Below.refl _ _⟩
 case round=>
  obtain ⟨k,hk,rfl,hno,hb⟩:=hrel
  have HN:Hid (((l.take k).any fun t=>t.name == x)=false):=hno
  have HB:Hid (Below w.heap.size w wr):=hb
  clear hno hb
  by_cases hlt:k < l.length
  ·obtain ⟨b,off,rfl,hbl,d0,d1,d2,d3⟩:=HG.out.at HB.out hlt
   have i1:(0:Int)≤(k:Int):=by omega
   have i2:(k:Int) < (l.length:Int):=by omega
   have HF:Hid (Calls Tryz.prog 271 #[l[k].val,.pointer (some ⟨g,0,none⟩)] wr fun e w'=>e=.returned (.bool (l[k].name == x))∧Below wr.heap.size wr w'):=
    hasName1_any l[k] x wr ((HB.out.cell (p:=⟨g,0,none⟩) hgl).trans HX.out) (Nat.lt_of_lt_of_le hgl HB.out.size)
   have HS:Hid (((l.take (k+1)).any fun t=>t.name == x)=(l[k].name == x)):=by
    show ((l.take (k+1)).any fun t=>t.name == x)=(l[k].name == x)
    rw [List.take_succ_eq_append_getElem hlt,List.any_append,HN.out];simp
   unfold Tv.val at HF
   cases he:(l[k].name == x)
   ·rw [he] at HF HS
    clear he
    go_wp2_with fail
    refine HF.out.mono ?_
    rintro e w1 ⟨rfl,hb1⟩
    have HB1:Hid (Below w.heap.size w w1):=bstep HB.out hb1
    clear hb1
    go_wp2_with fail
    go_roundw
    case rel=>exact ⟨k+1,hlt,rfl,HS.out,HB1.out⟩
    case measure=>simp only [intOf];omega
   ·obtain rfl:R=true:=by
     rw [← HR.out,List.any_eq_true]
     exact ⟨l[k],List.getElem_mem _,he⟩
    rw [he] at HF HS
    clear he
    go_wp2_with fail
    refine HF.out.mono ?_
    rintro e w1 ⟨rfl,hb1⟩
    have HB1:Hid (Below w.heap.size w w1):=bstep HB.out hb1
    clear hb1
    go_wp2_with fail
    go_ret
    exact ⟨_,rfl,by simp,HB1.out⟩
  ·obtain rfl:k=l.length:=by omega
   obtain rfl:R=false:=by
    have:=HN.out
    rw [List.take_length,HR.out] at this;exact this
   go_wp2_with fail
   go_ret
   exact ⟨_,rfl,by decide,HB.out⟩
theorem containsG_any {w:World} {v:Value} {l:List Tv} (h:GS w v l) (x:List UInt8) (hl:l.length≤1000000000) {g:Nat} (hg:w.cell? ⟨g,0,none⟩=some (.string (bs x))) (hgl:g < w.heap.size) :
  Calls Tryz.prog 270 #[v,.func (.func 271) #[] #[.pointer (some ⟨g,0,none⟩)]] w fun e w'=>e=.returned (.bool (l.any fun t=>t.name == x))∧Below w.heap.size w w':=by
 have HI:Hid (Calls Tryz.prog 288 #[v,.func (.func 271) #[] #[.pointer (some ⟨g,0,none⟩)]] w fun e w'=>∃ n:Int,e=.returned (.int .i64 n)∧decide (0≤n)=(l.any fun t=>t.name == x)∧Below w.heap.size w w'):=indexG_any h x hl hg hgl
 clear h hg
 generalize (l.any fun t=>t.name == x)=R at *
 go_enter Tryz.func270,Tryz.ntmps270
 go_wp2_with fail
 refine HI.out.mono ?_
 rintro e w1 ⟨n,rfl,hn,hb⟩
 subst hn
 have HB:Hid (Below w.heap.size w w1):=hb
 clear hb
 go_wp2_with fail
 go_ret
 exact ⟨rfl,HB.out⟩
theorem hasName_any {w:World} {v:Value} {l:List Tv} (h:GS w v l) (x:List UInt8) (hl:l.length≤1000000000) :
  Calls Tryz.prog 247 #[v,.string (bs x)] w fun e w'=>e=.returned (.bool (l.any fun t=>t.name == x))∧Below w.heap.size w w':=by
 have hmf:∀ (fn:Fn) (first cap:Array Value) (w:World),(Instr.makeFunc fn first cap).run Tryz.prog w=.ok (.func fn first cap) w:=fun _ _ _ _=>rfl
 have HI:Hid (Calls Tryz.prog 270 #[v,.func (.func 271) #[] #[.pointer (some ⟨w.heap.size,0,none⟩)]] (w.alloc (.cells #[.string (bs x)] 9)) fun e w'=>e=.returned (.bool (l.any fun t=>t.name == x))∧Below (w.alloc (.cells #[.string (bs x)] 9)).heap.size (w.alloc (.cells #[.string (bs x)] 9)) w'):=
  containsG_any (h.later (balloc _ _)) x hl (by simp) (by simp)
 clear h
 generalize (l.any fun t=>t.name == x)=R at *
 go_enter Tryz.func247,Tryz.ntmps247
 go_wp2_with fail
 refine HI.out.mono ?_
 rintro e w1 ⟨rfl,hb⟩
 have HB:Hid (Below w.heap.size w w1):=bstep (balloc _ _) hb
 clear hb
 go_wp2_with fail
 go_ret
 exact ⟨rfl,HB.out⟩
end
end Go.Proofs.YtppnbdnpapellaaGreatDoor
