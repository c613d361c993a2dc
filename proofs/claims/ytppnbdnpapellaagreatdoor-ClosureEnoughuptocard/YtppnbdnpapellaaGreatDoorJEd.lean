import Derived.Test.YtppnbdnpapellaaGreatDoorJCont
import Derived.RegionTactic
import Derived.BigRegion
set_option maxRecDepth 100000
set_option maxHeartbeats 16000000
namespace Go.Proofs.YtppnbdnpapellaaGreatDoor
section
open Go.RowKit Go.Maps
abbrev nw (F:Nat→Prop) (w w':World):Nat→Prop:=fun k=>F k∨w.heap.size≤k∧k < w'.heap.size
theorem GR.nw_nw {w w2 w3:World} {F:Nat→Prop} {g:Nat} {ns:List Lb} {out:Lb→List Lb} (h:GR w3 (nw (nw F w w2) w2 w3) g ns out) (h1:w.heap.size≤w2.heap.size) (h2:w2.heap.size≤w3.heap.size):GR w3 (nw F w w3) g ns out:=by
 have hl:=h.lt
 refine h.wider ?_ ?_
 ·rintro k ((h | h) | h)
  ·exact .inl h
  ·exact .inr ⟨h.1,by omega⟩
  ·exact .inr ⟨by omega,h.2⟩
 ·rintro k (h | h)
  ·exact hl k (.inl (.inl h))
  ·exact h.2
theorem GR.nw_later {w w2 w3:World} {F:Nat→Prop} {g:Nat} {ns:List Lb} {out:Lb→List Lb} (h:GR w2 (nw F w w2) g ns out) (hb:Below w2.heap.size w2 w3):GR w3 (nw F w w3) g ns out:=by
 have hl:=h.lt
 refine (h.later hb).wider ?_ ?_
 ·rintro k (h | h)
  ·exact .inl h
  ·exact .inr ⟨h.1,Nat.lt_of_lt_of_le h.2 hb.size⟩
 ·rintro k (h | h)
  ·exact Nat.lt_of_lt_of_le (hl k (.inl h)) hb.size
  ·exact h.2
theorem new_any (w:World):Calls Tryz.prog 50 #[] w fun e w'=>∃ g,e=.returned (.pointer (some ⟨g,0,none⟩))∧GR w' (fun k=>w.heap.size≤k∧k < w'.heap.size) g [] (fun _=>[])∧Below w.heap.size w w':=by
 have hmm:=@run_makeMap Tryz.prog
 go_enter Tryz.func50,Tryz.ntmps50
 go_wp2_with fail
 go_ret
 refine ⟨w.heap.size+1,rfl,⟨⟨w.heap.size,fun _=>none,?_,?_,?_,?_,?_,?_⟩,?_,?_,List.nodup_nil,by simp,fun _=>List.Pairwise.nil,fun a b h=>by simp at h,by simp⟩,?_⟩
 ·have:=heap_alloc_new (w.alloc (.map #[] 0)) (.cells #[.map (some w.heap.size)] 106)
  simpa using this
 ·exact ((MP.new cS w).later (balloc _ _)).congr (fun k _=>by simp)
 ·simp;omega
 ·intro a ha;simp at ha
 ·intro a ha;simp at ha
 ·intro a ha;simp at ha
 ·simp
 ·intro k hk;exact hk.2
 ·exact bstep (balloc _ _) (balloc _ _)
theorem has_any {w:World} {F:Nat→Prop} {g:Nat} {ns:List Lb} {out:Lb→List Lb} (h:GR w F g ns out) (a:Lb) (ha:Lu a) :
  Calls Tryz.prog 85 #[.pointer (some ⟨g,0,none⟩),a.val] w fun e w'=>e=.returned (.bool (decide (a∈ns)))∧Below w.heap.size w w':=by
 have hg:=h.glt
 obtain ⟨b,hc,_,hb,_,_,hl⟩:=h.map
 clear h
 obtain ⟨v,_,_,hlook⟩:=hl a ha
 obtain ⟨r,hr⟩:∃ r,decide (a∈ns)=r:=⟨_,rfl⟩
 rw [hr] at hlook ⊢
 obtain ⟨p,n⟩:=a
 have hl1:∀ q,(Instr.lookup 104 (.map (some b)) (.agg #[.string (bs p),.string (bs n)]) true).run Tryz.prog ((w.alloc (.cells #[.string (bs p),.string (bs n)] 27)).drewN q)=.ok (.tuple #[v,.bool r]) ((w.alloc (.cells #[.string (bs p),.string (bs n)] 27)).drewN q):=
  fun q=>(hlook ((w.alloc (.cells #[.string (bs p),.string (bs n)] 27)).drewN q) (heap_alloc_old w (.cells #[.string (bs p),.string (bs n)] 27) hb)).2
 have hc1:=cell_alloc (.cells #[.string (bs p),.string (bs n)] 27) hg hc
 clear hl hr hb hlook hg hc ha
 simp only [Lb.val]
 go_enter Tryz.func85,Tryz.ntmps85
 go_wp2_with fail
 go_quiet (fail)
 go_wp2_with fail
 go_ret
 exact ⟨rfl,bstep (balloc _ _) (bd _ _)⟩
def addN (ns:List Lb) (a:Lb):List Lb:=if a∈ns then ns else ns++[a]
theorem mem_addN {ns:List Lb} {a x:Lb}:x∈addN ns a↔x∈ns∨x=a:=by
 unfold addN
 split
 ·rename_i h
  constructor
  ·exact .inl
  ·rintro (h1 | rfl)
   ·exact h1
   ·exact h
 ·simp
theorem addN_nd {ns:List Lb} {a:Lb} (h:ns.Nodup):(addN ns a).Nodup:=by
 unfold addN
 split
 ·exact h
 ·rename_i hn
  rw [List.nodup_append]
  refine ⟨h,by simp,?_⟩
  intro x hx y hy
  have:y=a:=by simpa using hy
  subst this
  rintro rfl
  exact hn hx
theorem addN_le (ns:List Lb) (a:Lb):(addN ns a).length≤ns.length+1:=by unfold addN;split<;>simp
theorem GR.node {w:World} {F:Nat→Prop} {g:Nat} {ns:List Lb} {out:Lb→List Lb} (h:GR w F g ns out) (a:Lb) (ha:Lu a) (hn:a∉ns) (hz:ns.length+1≤2000000):∃ b,w.cell? ⟨g,0,none⟩=some (.map (some b))∧b < w.heap.size∧F b∧
  ∀ w0:World,Below w.heap.size w w0→∃ w1,(Instr.mapUpdate 104 (.map (some b)) a.val (.slice none 0 0)).run Tryz.prog w0=.ok () w1∧GR w1 F g (ns++[a]) out∧OnlyP F w w1∧w1.heap.size=w0.heap.size:=by
 have hnone:=h.nout hn
 obtain ⟨⟨b,A,h1,h2,h3,h4,h5,h6⟩,own,lt,nd,lu,up,sub,sz⟩:=h
 refine ⟨b,by simp [World.cell?,h1],lt b h3,h3,fun w0 hb=>?_⟩
 obtain ⟨w1,hrun,hm,ho,hsz⟩:=(h2.later hb).store ha (by omega) none
 have hgb:g≠b:=by
  rintro rfl
  obtain ⟨D,⟨es,clock,hb,_⟩,_⟩:=h2
  rw [h1] at hb;cases hb
 have hk:∀ k,F k→k≠b→w1.heap[k]? = w.heap[k]?:=fun k hk hne=>(ho.block k (Nat.lt_of_lt_of_le (lt k hk) hb.size) (by simpa using hne)).trans (hb.block k (lt k hk))
 refine ⟨w1,hrun,⟨⟨b,fun x=>if x=a then none else A x,(hk g own hgb).trans h1,?_,h3,?_,?_,?_⟩,own,fun k hk=>by rw [hsz];exact Nat.lt_of_lt_of_le (lt k hk) hb.size,?_,?_,up,?_,by simpa using hz⟩,?_,hsz⟩
 ·have e:(if (if a∈ns then some (A a) else none).isSome=true then ns.length else ns.length+1)=(ns++[a]).length:=by simp [hn]
  rw [e] at hm
  refine hm.congr (fun k _=>?_)
  by_cases hka:k=a
  ·subst hka;simp
  ·simp [hka]
 ·intro x hx
  by_cases hxa:x=a
  ·subst hxa
   simp only [if_true,hnone]
   exact OwnL.nil 0 w1
  ·simp only [hxa,if_false]
   have hx':x∈ns:=by simpa [hxa] using hx
   have ho2:=h4 x hx'
   rcases ho2 with ⟨h0,ho2 | ⟨q,cap,cur,e,hb2,hg,hr⟩⟩
   ·exact ⟨h0,.inl ho2⟩
   ·have hqb:q≠b:=by
     rintro rfl
     obtain ⟨D,⟨es,clock,hb,_⟩,_⟩:=h2
     rw [hg] at hb;cases hb
    exact ⟨h0,.inr ⟨q,cap,cur,e,hb2,(hk q (h5 x hx' q (by rw [e];rfl)) hqb).trans hg,hr⟩⟩
 ·intro x hx k hk2
  by_cases hxa:x=a
  ·subst hxa;simp [sv,Value.ownBlock] at hk2
  ·simp only [hxa,if_false] at hk2
   exact h5 x (by simpa [hxa] using hx) k hk2
 ·intro x hx y hy k hk1 hk2
  by_cases hxa:x=a
  ·subst hxa;simp [sv,Value.ownBlock] at hk1
  ·by_cases hya:y=a
   ·subst hya;simp [sv,Value.ownBlock] at hk2
   ·simp only [hxa,hya,if_false] at hk1 hk2
    exact h6 x (by simpa [hxa] using hx) y (by simpa [hya] using hy) k hk1 hk2
 ·have:=addN_nd (a:=a) nd
  unfold addN at this
  rwa [if_neg hn] at this
 ·intro x hx
  rcases List.mem_append.1 hx with hx | hx
  ·exact lu x hx
  ·have:x=a:=by simpa using hx
   rw [this];exact ha
 ·intro x y hxy
  have:=sub x y hxy
  exact ⟨by simp [this.1],by simp [this.2]⟩
 ·exact (OnlyP.of_below hb F).trans (OnlyP.of_only ho (F:=fun k=>k=b) (fun k hk _=>by simpa using hk)) (fun i _ e=>by subst e;exact h3)
theorem node_any {w:World} {F:Nat→Prop} {g:Nat} {ns:List Lb} {out:Lb→List Lb} (h:GR w F g ns out) (a:Lb) (ha:Lu a) (hz:ns.length+1≤2000000) :
  Calls Tryz.prog 52 #[.pointer (some ⟨g,0,none⟩),a.val] w fun e w'=>e=.returned (.tuple #[])∧GR w' (nw F w w') g (addN ns a) out∧OnlyP F w w':=by
 have H:Hid (GR w F g ns out):=h
 have HA:Hid (Lu a):=ha
 have hg:=h.glt
 have HH:Hid (∀ w':World,Below w.heap.size w w'→Calls Tryz.prog 85 #[.pointer (some ⟨g,0,none⟩),a.val] w' fun e w''=>e=.returned (.bool (decide (a∈ns)))∧Below w'.heap.size w' w''):=fun w' hb=>has_any (h.later hb) a ha
 by_cases hn:a∈ns
 ·have e1:decide (a∈ns)=true:=by simp [hn]
  rw [e1] at HH
  have HE:Hid (addN ns a=ns):=by show addN ns a=ns;unfold addN;rw [if_pos hn]
  clear e1 hn h ha hg
  obtain ⟨p,n⟩:=a
  simp only [Lb.val] at HH ⊢
  go_enter Tryz.func52,Tryz.ntmps52
  go_wp2_with fail
  refine (HH.out _ (balloc _ _)).mono ?_
  rintro e w1 ⟨rfl,hb1⟩
  have HB:Hid (Below w.heap.size w w1):=bstep (balloc _ _) hb1
  clear hb1
  go_wp2_with fail
  go_end0
  refine ⟨rfl,?_,OnlyP.of_below HB.out F⟩
  rw [HE.out]
  exact (H.out.later HB.out).wider (fun k hk=>.inl hk) (fun k hk=>hk.elim (fun h=>Nat.lt_of_lt_of_le (H.out.lt k h) HB.out.size) (fun h=>h.2))
 ·have e1:decide (a∈ns)=false:=by simp [hn]
  rw [e1] at HH
  have HE:Hid (addN ns a=ns++[a]):=by show addN ns a=ns++[a];unfold addN;rw [if_neg hn]
  obtain ⟨b,hc,hb,_,hst⟩:=h.node a ha hn hz
  have HS:Hid (∀ w0:World,Below w.heap.size w w0→∃ w1,(Instr.mapUpdate 104 (.map (some b)) a.val (.slice none 0 0)).run Tryz.prog w0=.ok () w1∧GR w1 F g (ns++[a]) out∧OnlyP F w w1∧w1.heap.size=w0.heap.size):=hst
  clear hst e1 hn h ha
  have HG:Hid (g < w.heap.size∧w.cell? ⟨g,0,none⟩=some (.map (some b))):=⟨hg,hc⟩
  clear hg hc hb
  obtain ⟨p,n⟩:=a
  have HR:=RB.new w ⟨p,n⟩
  have HRR:Hid (RB (w.alloc (.cells #[.string (bs p),.string (bs n)] 27)) w.heap.size ⟨p,n⟩):=HR
  clear HR
  simp only [Lb.val] at HH HS ⊢
  go_enter Tryz.func52,Tryz.ntmps52
  go_wp2_with fail
  refine (HH.out _ (balloc _ _)).mono ?_
  rintro e w1 ⟨rfl,hb1⟩
  obtain ⟨c0,c1,_,_⟩:=(HRR.out.later hb1).cells
  simp only at c0 c1
  have HB:Hid (Below w.heap.size w w1):=bstep (balloc _ _) hb1
  have hc1:=(HB.out.cell (p:=⟨g,0,none⟩) HG.out.1).trans HG.out.2
  clear hb1
  obtain ⟨w2,hrun,hgr,hon,hsz⟩:=HS.out w1.drew (bstep HB.out (bd w1 1))
  have HZ:Hid (GR w2 F g (ns++[⟨p,n⟩]) out∧OnlyP F w w2):=⟨hgr,hon⟩
  clear hgr hon hsz
  go_wp2_with fail
  go_region
  go_end0
  refine ⟨rfl,?_,HZ.out.2⟩
  rw [HE.out]
  exact HZ.out.1.wider (fun k hk=>.inl hk) (fun k hk=>hk.elim (fun h=>HZ.out.1.lt k h) (fun h=>h.2))
end
section
open Go.RowKit
theorem ltL_trans {a b c:Lb} (h:ltL a b=true) (k:cmpL b c < 0):cmpL a c < 0:=by
 have:=stoL.trans a b c h (by unfold ltL;simpa using k)
 unfold ltL at this;simpa using this
theorem ltL_iff {a b:Lb}:ltL a b=true↔cmpL a b < 0:=by unfold ltL;simp
theorem ins_at (f:Lb):∀ (l:List Lb),UpL l→∀ (a:Nat),a≤l.length→(∀ t (h:t < l.length),t < a→cmpL (l[t]'h) f < 0)→(∀ t (h:t < l.length),a≤t→¬ cmpL (l[t]'h) f < 0)→
  (f∉l→Gs.insr ltL f l=l.take a++f::l.drop a)∧(decide (f∈l)=match l[a]? with | some x=>decide (cmpL x f=0) | none=>false)
 | [],_,a,_,_,_=>by simp [Gs.insr]
 | g::l,up,0,_,_,h2=>by
  have h0:¬ cmpL g f < 0:=h2 0 (by simp) (Nat.le_refl _)
  have hn:¬ ltL g f=true:=fun h=>h0 (ltL_iff.1 h)
  refine ⟨fun hf=>?_,?_⟩
  ·unfold Gs.insr
   rw [if_neg hn,if_neg (by rintro rfl;exact hf (by simp))];simp
  ·simp only [List.getElem?_cons_zero,cmpL_zero]
   rw [Bool.eq_iff_iff]
   simp only [decide_eq_true_eq,List.mem_cons]
   constructor
   ·rintro (rfl | h)
    ·rfl
    ·exfalso
     exact h0 (ltL_iff.1 ((List.pairwise_cons.1 up).1 f h))
   ·rintro rfl;exact .inl rfl
 | g::l,up,a+1,ha,h1,h2=>by
  have h0:cmpL g f < 0:=h1 0 (by simp) (by omega)
  obtain ⟨i1,i2⟩:=ins_at f l (List.pairwise_cons.1 up).2 a (by simpa using ha) (fun t h hta=>by have:=h1 (t+1) (by simpa using h) (by omega);rwa [List.getElem_cons_succ] at this) (fun t h hta=>by have:=h2 (t+1) (by simpa using h) (by omega);rwa [List.getElem_cons_succ] at this)
  refine ⟨fun hf=>?_,?_⟩
  ·unfold Gs.insr
   rw [if_pos (ltL_iff.2 h0),i1 (fun h=>hf (by simp [h]))]
   simp
  ·rw [List.getElem?_cons_succ,← i2]
   have hne:f≠g:=by
    rintro rfl
    rw [(cmpL_zero f f).2 rfl] at h0
    omega
   simp [hne]
theorem gw_by {w:World} {f g:Lb} {o:Int} (hf:Lu f) (hg:Lu g) (ho:cmpL f g=o) (X:GW w) :
  Calls Tryz.prog 87 #[f.val,g.val] X.it fun e w'=>e=.returned (.int .i64 o)∧∃ Y:GW w,w'=Y.it:=
 gw_of (fun W=>by rw [← ho];exact (rising_any f g W hf.lm hg.lm).mono fun e w' ⟨h1,h2⟩=>⟨h1,h2.below⟩) X
theorem search_f {w:World} {v:Value} {l:List Lb} (f:Lb) (h:LS w v l) (up:UpL l) (hl:l.length≤140737488355328) (hs:∀ x∈l,Lu x) (hf:Lu f) :
  Calls Tryz.prog 86 #[v,f.val,.func (.func 87) #[] #[]] w fun e w'=>∃ (a:Nat),e=.returned (.tuple #[.int .i64 a,.bool (decide (f∈l))])∧a≤l.length∧(f∉l→Gs.insr ltL f l=l.take a++f::l.drop a)∧Below w.heap.size w w':=by
 have H:Hid (LS w v l):=h
 have HU:Hid (UpL l∧∀ x∈l,Lu x):=⟨up,hs⟩
 have HC:Hid (∀ (x:Lb) (o:Int),x∈l→cmpL x f=o→∀ (W:World) (X:GW W),Calls Tryz.prog 87 #[x.val,f.val] X.it fun e w'=>e=.returned (.int .i64 o)∧∃ Y:GW W,w'=Y.it):=fun x o hx ho W X=>gw_by (hs x hx) hf ho X
 have HI:Hid (∀ a,a≤l.length→(∀ t (h:t < l.length),t < a→cmpL (l[t]'h) f < 0)→(∀ t (h:t < l.length),a≤t→¬ cmpL (l[t]'h) f < 0)→(f∉l→Gs.insr ltL f l=l.take a++f::l.drop a)∧(decide (f∈l)=match l[a]? with | some x=>decide (cmpL x f=0) | none=>false)):=ins_at f l up
 obtain ⟨ad,c,rfl,_⟩:=h.form
 rename_i q1
 clear h q1 up hs hf
 have H':Hid (LS w (.slice ad l.length c) l):=H.out
 clear H
 obtain ⟨n,hn⟩:∃ n,l.length=n:=⟨_,rfl⟩
 rw [hn] at hl ⊢
 have HN:Hid (l.length=n):=hn
 clear hn
 obtain ⟨fb,hfb⟩:∃ fb,decide (f∈l)=fb:=⟨_,rfl⟩
 rw [hfb] at HI ⊢
 clear hfb
 obtain ⟨fp,ft⟩:=f
 simp only [Lb.val] at HC ⊢
 go_enter Tryz.func86,Tryz.ntmps86
 go_wp2_with fail
 obtain ⟨w1,hw1⟩:∃ w1,w.alloc (.cells #[.string (bs fp),.string (bs ft)] 27)=w1:=⟨_,rfl⟩
 have FBn:Hid (RB w1 w.heap.size ⟨fp,ft⟩):=by rw [← hw1];exact RB.new w ⟨fp,ft⟩
 have HB1:Hid (Below w.heap.size w w1):=by rw [← hw1];exact balloc _ _
 rw [hw1]
 clear hw1
 go_loopw [9,10] (fun s9 s10 wr=>∃ (a e:Nat),s9=.int .i64 a∧s10=.int .i64 e∧a≤e∧e≤n∧(∀ t (h:t < l.length),t < a→cmpL (l[t]'h) ⟨fp,ft⟩ < 0)∧(∀ t (h:t < l.length),e≤t→¬ cmpL (l[t]'h) ⟨fp,ft⟩ < 0)∧Below w1.heap.size w1 wr) (fun s9 s10 _=>(intOf s10).toNat - (intOf s9).toNat)
 case atStart=>exact ⟨0,n,rfl,rfl,by omega,Nat.le_refl _,fun t h h'=>by omega,fun t h h'=>by have:=HN.out;omega,Below.refl _ _⟩
 case round=>
  obtain ⟨a,e,rfl,rfl,hae,hen,h1,h2,hb⟩:=hrel
  have HX:Hid ((∀ t (h:t < l.length),t < a→cmpL (l[t]'h) ⟨fp,ft⟩ < 0)∧(∀ t (h:t < l.length),e≤t→¬ cmpL (l[t]'h) ⟨fp,ft⟩ < 0)):=⟨h1,h2⟩
  have HB:Hid (Below w1.heap.size w1 wr):=hb
  clear h1 h2 hb
  by_cases hlt:a < e
  ·have k0:IntKind.i64.wrap ((a:Int)+(e:Int))=(a:Int)+(e:Int):=by rw [IntKind.wrap_i64];omega
   obtain ⟨m,hm⟩:∃ m:Nat,((a:Int)+(e:Int)) / 2=(m:Int):=⟨(a+e) / 2,by omega⟩
   have hm1:a≤m:=by omega
   have hm2:m < e:=by omega
   have k1:(0:Int)≤(m:Int):=by omega
   have k2:(m:Int) < (n:Int):=by omega
   have k3:m < n:=by omega
   have hml:m < l.length:=by have:=HN.out;omega
   obtain ⟨b,off,ea,hbw,d0,d1⟩:=LS.at H'.out (bstep HB1.out HB.out) hml
   subst ea
   obtain ⟨o,ho⟩:∃ o,cmpL (l[m]'hml) ⟨fp,ft⟩=o:=⟨_,rfl⟩
   have HO:Hid (cmpL (l[m]'hml) ⟨fp,ft⟩=o):=ho
   have HCm:Hid (∀ (W:World) (X:GW W),Calls Tryz.prog 87 #[(l[m]'hml).val,.agg #[.string (bs fp),.string (bs ft)]] X.it fun e w'=>e=.returned (.int .i64 o)∧∃ Y:GW W,w'=Y.it):=HC.out _ o (List.getElem_mem hml) ho
   clear ho
   generalize l[m]=x at d0 d1 HCm
   obtain ⟨xp,xt⟩:=x
   simp only [Lb.val] at d0 d1 HCm
   go_wp2_with fail
   have hwl:w.heap.size < wr.heap.size:=Nat.lt_of_lt_of_le FBn.out.lt HB.out.size
   obtain ⟨g0,g1,_,_⟩:=(FBn.out.later HB.out).cells
   simp only at g0 g1
   have hbr:b < wr.heap.size:=Nat.lt_of_lt_of_le hbw (by have:=HB1.out.size;have:=HB.out.size;omega)
   have y0:∀ X:GW wr,X.it.cell? ⟨b,off+m * 2,none⟩=some (.string (bs xp)):=fun X=>X.cell (p:=⟨b,off+m * 2,none⟩) hbr d0
   have y1:∀ X:GW wr,X.it.cell? ⟨b,off+m * 2+1,none⟩=some (.string (bs xt)):=fun X=>X.cell (p:=⟨b,off+m * 2+1,none⟩) hbr d1
   have z0:∀ X:GW wr,X.it.cell? ⟨w.heap.size,0,none⟩=some (.string (bs fp)):=fun X=>X.cell (p:=⟨w.heap.size,0,none⟩) hwl g0
   have z1:∀ X:GW wr,X.it.cell? ⟨w.heap.size,1,none⟩=some (.string (bs ft)):=fun X=>X.cell (p:=⟨w.heap.size,1,none⟩) hwl g1
   have xne:=gw_ne wr
   clear d0 d1 g0 g1
   refine wp_region_grow (by kernel_rfl) (by kernel_rfl) ?_
   repeat (go_big_quiet_step (fail))
   go_big_quiet_step (exact HCm.out _ _)
   repeat (go_big_quiet_step (fail))
   refine wpQuiet_nil ?_
   rintro w2 ⟨⟨w2,bx⟩,rfl⟩
   have HB5:Hid (Below w1.heap.size w1 w2):=bstep HB.out bx
   clear bx y0 y1 z0 z1
   by_cases hoo:o < 0
   ·have HOO:Hid (o < 0):=hoo
    go_wp2_with fail
    go_roundw
    case rel=>
     refine ⟨m+1,e,by go_num,rfl,by omega,hen,fun t h h'=>?_,fun t h h'=>by have:=HX.out.2 t h h';omega,HB5.out⟩
     rcases Nat.lt_or_eq_of_le (show t≤m by omega) with h3 | rfl
     ·have:=List.pairwise_iff_getElem.1 HU.out.1 t m h hml h3
      exact ltL_trans this (by rw [HO.out];exact HOO.out)
     ·rw [HO.out];exact HOO.out
    case measure=>simp [intOf];omega
   ·have HOO:Hid (¬ o < 0):=hoo
    go_wp2_with fail
    go_roundw
    case rel=>
     refine ⟨a,m,rfl,rfl,hm1,by omega,HX.out.1,fun t h h' h4=>?_,HB5.out⟩
     rcases Nat.lt_or_eq_of_le h' with h3 | rfl
     ·have:=List.pairwise_iff_getElem.1 HU.out.1 m t hml h h3
      exact HOO.out (by rw [← HO.out];exact ltL_trans this h4)
     ·rw [HO.out] at h4;exact HOO.out h4
    case measure=>simp [intOf];omega
  ·obtain rfl:a=e:=by omega
   have HEND:Hid ((⟨fp,ft⟩∉l→Gs.insr ltL ⟨fp,ft⟩ l=l.take a++⟨fp,ft⟩::l.drop a)∧(fb=match l[a]? with | some x=>decide (cmpL x ⟨fp,ft⟩=0) | none=>false)):=HI.out a (by have:=HN.out;omega) HX.out.1 (fun t h h'=>by have:=HX.out.2 t h h';omega)
   by_cases han:a < n
   ·have k1:(0:Int)≤(a:Int):=by omega
    have k2:(a:Int) < (n:Int):=by omega
    have hml:a < l.length:=by have:=HN.out;omega
    obtain ⟨b,off,ea,hbw,d0,d1⟩:=LS.at H'.out (bstep HB1.out HB.out) hml
    subst ea
    obtain ⟨o,ho⟩:∃ o,cmpL (l[a]'hml) ⟨fp,ft⟩=o:=⟨_,rfl⟩
    have HO:Hid (cmpL (l[a]'hml) ⟨fp,ft⟩=o):=ho
    have HCm:Hid (∀ (W:World) (X:GW W),Calls Tryz.prog 87 #[(l[a]'hml).val,.agg #[.string (bs fp),.string (bs ft)]] X.it fun e w'=>e=.returned (.int .i64 o)∧∃ Y:GW W,w'=Y.it):=HC.out _ o (List.getElem_mem hml) ho
    clear ho
    generalize l[a]=x at d0 d1 HCm
    obtain ⟨xp,xt⟩:=x
    simp only [Lb.val] at d0 d1 HCm
    go_wp2_with fail
    have hwl:w.heap.size < wr.heap.size:=Nat.lt_of_lt_of_le FBn.out.lt HB.out.size
    obtain ⟨g0,g1,_,_⟩:=(FBn.out.later HB.out).cells
    simp only at g0 g1
    have hbr:b < wr.heap.size:=Nat.lt_of_lt_of_le hbw (by have:=HB1.out.size;have:=HB.out.size;omega)
    have y0:∀ X:GW wr,X.it.cell? ⟨b,off+a * 2,none⟩=some (.string (bs xp)):=fun X=>X.cell (p:=⟨b,off+a * 2,none⟩) hbr d0
    have y1:∀ X:GW wr,X.it.cell? ⟨b,off+a * 2+1,none⟩=some (.string (bs xt)):=fun X=>X.cell (p:=⟨b,off+a * 2+1,none⟩) hbr d1
    have z0:∀ X:GW wr,X.it.cell? ⟨w.heap.size,0,none⟩=some (.string (bs fp)):=fun X=>X.cell (p:=⟨w.heap.size,0,none⟩) hwl g0
    have z1:∀ X:GW wr,X.it.cell? ⟨w.heap.size,1,none⟩=some (.string (bs ft)):=fun X=>X.cell (p:=⟨w.heap.size,1,none⟩) hwl g1
    have xne:=gw_ne wr
    clear d0 d1 g0 g1
    refine wp_region_grow (by kernel_rfl) (by kernel_rfl) ?_
    repeat (go_big_quiet_step (fail))
    go_big_quiet_step (exact HCm.out _ _)
    repeat (go_big_quiet_step (fail))
    refine wpQuiet_nil ?_
    rintro w2 ⟨⟨w2,bx⟩,rfl⟩
    have HB5:Hid (Below w1.heap.size w1 w2):=bstep HB.out bx
    clear bx y0 y1 z0 z1
    go_wp2_with fail
    go_ret2
    refine ⟨a,?_,by have:=HN.out;omega,HEND.out.1,bstep HB1.out HB5.out⟩
    have e:=HEND.out.2
    rw [List.getElem?_eq_getElem hml] at e
    simp only [HO.out] at e
    rw [e];rfl
   ·obtain rfl:a=n:=by omega
    go_wp2_with fail
    have xne:=gw_ne wr
    refine wp_region_grow (by kernel_rfl) (by kernel_rfl) ?_
    repeat (go_big_quiet_step (fail))
    refine wpQuiet_nil ?_
    rintro w2 ⟨⟨w2,bx⟩,rfl⟩
    have HB5:Hid (Below w1.heap.size w1 w2):=bstep HB.out bx
    clear bx
    go_wp2_with fail
    go_ret2
    refine ⟨a,?_,by have:=HN.out;omega,HEND.out.1,bstep HB1.out HB5.out⟩
    have e:=HEND.out.2
    rw [List.getElem?_eq_none (by have:=HN.out;omega)] at e
    rw [e];rfl
end
section
open Go.RowKit Go.Maps
theorem RB.onlyP {w w':World} {g:Nat} {f:Lb} {F:Nat→Prop} (h:RB w g f) (ho:OnlyP F w w') (hn:¬ F g):RB w' g f:=⟨(ho.block g h.lt hn).trans h.blk⟩
theorem OwnL.sv {base:Nat} {w:World} {v:Value} {l:List Lb} (h:OwnL base w v l):∃ x,v=sv x:=by
 rcases OL.of h with ⟨rfl,_⟩ | ⟨g,cap,rest,rfl,_⟩
 ·exact ⟨none,rfl⟩
 ·exact ⟨some (g,l.length,cap),rfl⟩
def outI (out:Lb→List Lb) (a b:Lb):Lb→List Lb:=fun x=>if x=a then Gs.insr ltL b (out a) else out x
theorem GR.edge {w:World} {F:Nat→Prop} {g:Nat} {ns:List Lb} {out:Lb→List Lb} (h:GR w F g ns out) {a b:Lb} (ha:a∈ns) (hb:b∈ns):∃ (m:Nat) (v:Value),w.cell? ⟨g,0,none⟩=some (.map (some m))∧m < w.heap.size∧F m∧OwnL 0 w v (out a)∧(∀ k,v.ownBlock=some k→F k)∧
  (∀ w':World,w'.heap[m]? = w.heap[m]?→(Instr.lookup 104 (.map (some m)) a.val false).run Tryz.prog w'=.ok v w')∧
  ∀ w0 w1 v',Below w.heap.size w w0→Only (bl v) w0 w1→OwnL 0 w1 v' (Gs.insr ltL b (out a))→(v'.ownBlock=v.ownBlock∨v'.ownBlock=some w0.heap.size)→
   ∃ w2,(Instr.mapUpdate 104 (.map (some m)) a.val v').run Tryz.prog w1=.ok () w2∧GR w2 (nw F w w2) g ns (outI out a b)∧OnlyP F w w2∧Only [m] w1 w2∧∀ i,w1.cell? ⟨m,i,none⟩=none:=by
 have hlu:=h.lu a ha
 obtain ⟨⟨m,A,h1,h2,h3,h4,h5,h6⟩,own,lt,nd,lu,up,sub,sz⟩:=h
 refine ⟨m,sv (A a),by simp [World.cell?,h1],lt m h3,h3,h4 a ha,h5 a ha,fun w' hw=>?_,fun w0 w1 v' hb0 ho1 hv' hbl=>?_⟩
 ·simpa [ha,at_,cS] using (h2.block hw).look hlu false
 ·obtain ⟨x,rfl⟩:=hv'.sv
  have hmk:∀ k,w.heap[k]?≠w.heap[m]?→k≠m:=fun k h e=>h (by rw [e])
  have hmap:∃ es clock,w.heap[m]? = some (.map es clock):=by obtain ⟨D,⟨es,clock,hb,_⟩,_⟩:=h2;exact ⟨es,clock,hb⟩
  obtain ⟨es,clock,hmap⟩:=hmap
  have hgm:g≠m:=by rintro rfl;rw [h1] at hmap;cases hmap
  have hrow:∀ y∈ns,∀ k,(sv (A y)).ownBlock=some k→∃ cs fr,w.heap[k]? = some (.cells cs 27 fr):=by
   intro y hy k hk
   rcases OL.of (h4 y hy) with ⟨e,_⟩ | ⟨q,cap,rest,e,ho⟩
   ·rw [e] at hk;cases hk
   ·rw [e] at hk
    simp only [Value.ownBlock,Option.some.injEq] at hk
    subst hk
    exact ⟨_,_,ho.blk⟩
  have hvm:m∉bl (sv (A a)):=by
   intro hm
   unfold bl at hm
   have hk:(sv (A a)).ownBlock=some m:=by simpa using hm
   obtain ⟨cs,fr,e⟩:=hrow a ha m hk
   rw [e] at hmap;cases hmap
  have hvg:g∉bl (sv (A a)):=by
   intro hm
   have hk:(sv (A a)).ownBlock=some g:=by unfold bl at hm;simpa using hm
   obtain ⟨cs,fr,e⟩:=hrow a ha g hk
   rw [e] at h1;cases h1
  have hM1:MP cS w1 m (fun a=>if a∈ns then some (A a) else none) ns.length:=(h2.later hb0).only ho1 hvm
  obtain ⟨w2,hrun,hm2,ho2,hsz⟩:=hM1.store hlu (by omega) x
  have hstep:∀ k,k < w.heap.size→k∉bl (sv (A a))→k≠m→w2.heap[k]? = w.heap[k]?:=fun k hk hn hne=>by
   have k0:k < w0.heap.size:=Nat.lt_of_lt_of_le hk hb0.size
   exact (ho2.block k (Nat.lt_of_lt_of_le k0 ho1.size) (by simpa using hne)).trans ((ho1.block k k0 hn).trans (hb0.block k hk))
  have hsz2:w.heap.size≤w2.heap.size:=by rw [hsz];exact Nat.le_trans hb0.size ho1.size
  have hxlt:∀ k,(sv x).ownBlock=some k→k < w2.heap.size∧(F k∧(sv (A a)).ownBlock=some k∨w.heap.size≤k):=by
   intro k hk
   refine ⟨by rw [hsz];exact (hv'.lt hk).2,?_⟩
   rcases hbl with e | e
   ·rw [e] at hk;exact .inl ⟨h5 a ha k hk,hk⟩
   ·rw [e] at hk
    simp only [Option.some.injEq] at hk
    right;rw [← hk];exact hb0.size
  refine ⟨w2,hrun,⟨⟨m,fun y=>if y=a then x else A y,(hstep g (lt g own) hvg hgm).trans h1,?_,.inl h3,?_,?_,?_⟩,.inl own,fun k hk=>hk.elim (fun h=>Nat.lt_of_lt_of_le (lt k h) hsz2) (fun h=>h.2),nd,lu,?_,?_,sz⟩,?_⟩
  ·have e:(if (if a∈ns then some (A a) else none).isSome=true then ns.length else ns.length+1)=ns.length:=by simp [ha]
   rw [e] at hm2
   refine hm2.congr (fun k _=>?_)
   by_cases hka:k=a
   ·subst hka;simp [ha]
   ·simp [hka]
  ·intro y hy
   by_cases hya:y=a
   ·subst hya
    simp only [if_true,outI]
    refine OwnL.only hv' ho2 ?_
    intro k hk hkm
    have:k=m:=by simpa using hkm
    subst this
    rcases (hxlt k hk).2 with ⟨_,h⟩ | h
    ·obtain ⟨cs,fr,e⟩:=hrow y ha k h
     rw [e] at hmap;cases hmap
    ·have:=lt k h3;omega
   ·simp only [hya,if_false,outI]
    have ho3:=h4 y hy
    rcases ho3 with ⟨h0,ho3 | ⟨q,cap,cur,e,hb2,hg,hr⟩⟩
    ·exact ⟨h0,.inl ho3⟩
    ·have hq:(sv (A y)).ownBlock=some q:=by rw [e];rfl
     refine ⟨h0,.inr ⟨q,cap,cur,e,hb2,(hstep q (lt q (h5 y hy q hq)) ?_ ?_).trans hg,hr⟩⟩
     ·intro hm
      have hk:(sv (A a)).ownBlock=some q:=by unfold bl at hm;simpa using hm
      exact hya (h6 y hy a ha q hq hk)
     ·rintro rfl;rw [hg] at hmap;cases hmap
  ·intro y hy k hk
   by_cases hya:y=a
   ·subst hya
    simp only [if_true] at hk
    rcases (hxlt k hk).2 with ⟨h,_⟩ | h
    ·exact .inl h
    ·exact .inr ⟨h,(hxlt k hk).1⟩
   ·simp only [hya,if_false] at hk
    exact .inl (h5 y hy k hk)
  ·intro y hy z hz k hk1 hk2
   by_cases hya:y=a
   ·by_cases hza:z=a
    ·rw [hya,hza]
    ·subst hya
     simp only [if_true] at hk1
     simp only [hza,if_false] at hk2
     rcases (hxlt k hk1).2 with ⟨_,h⟩ | h
     ·exact h6 y hy z hz k h hk2
     ·have:=lt k (h5 z hz k hk2);omega
   ·by_cases hza:z=a
    ·subst hza
     simp only [if_true] at hk2
     simp only [hya,if_false] at hk1
     rcases (hxlt k hk2).2 with ⟨_,h⟩ | h
     ·exact h6 y hy z hz k hk1 h
     ·have:=lt k (h5 y hy k hk1);omega
    ·simp only [hya,hza,if_false] at hk1 hk2
     exact h6 y hy z hz k hk1 hk2
  ·intro y
   unfold outI
   split
   ·exact Gs.ris_insr stoL b (up a)
   ·exact up y
  ·intro y z hz
   unfold outI at hz
   split at hz
   ·rename_i e
    subst e
    rcases (Gs.mem_insr b z _).1 hz with rfl | h
    ·exact ⟨ha,hb⟩
    ·exact sub y z h
   ·exact sub y z hz
  ·refine ⟨?_,ho2,fun i=>?_⟩
   rotate_left
   ·obtain ⟨D,⟨es1,clock1,hb1,_⟩,_⟩:=hM1
    simp [World.cell?,hb1]
   refine ⟨ho2.os.trans (ho1.os.trans hb0.os),ho2.tape.trans (ho1.tape.trans hb0.tape),ho2.output.trans (ho1.output.trans hb0.output),hsz2,fun k hk hn=>hstep k hk ?_ (fun e=>hn (by rw [e];exact h3))⟩
   intro hm
   exact hn (h5 a ha k (by unfold bl at hm;simpa using hm))
theorem insr_in {b:Lb} {l:List Lb} (up:UpL l) (h:b∈l):Gs.insr ltL b l=l:=by
 apply Gs.ris_ext stoL (Gs.ris_insr stoL b up) up
 intro x
 rw [Gs.mem_insr]
 constructor
 ·rintro (rfl | h1)
  ·exact h
  ·exact h1
 ·exact .inr
theorem outI_in {out:Lb→List Lb} {a b:Lb} (up:UpL (out a)) (h:b∈out a):outI out a b=out:=by
 funext x
 unfold outI
 split
 ·rename_i e;rw [e];exact insr_in up h
 ·rfl
theorem edge_any {w:World} {F:Nat→Prop} {g:Nat} {ns:List Lb} {out:Lb→List Lb} (h:GR w F g ns out) (a b:Lb) (ha:Lu a) (hb:Lu b) (hz:ns.length+2≤2000000) :
  Calls Tryz.prog 53 #[.pointer (some ⟨g,0,none⟩),a.val,b.val] w fun e w'=>e=.returned (.tuple #[])∧GR w' (nw F w w') g (addN (addN ns a) b) (outI out a b)∧OnlyP F w w':=by
 obtain ⟨ns2,hns2⟩:∃ ns2,addN (addN ns a) b=ns2:=⟨_,rfl⟩
 have HNS:Hid (addN (addN ns a) b=ns2):=hns2
 rw [hns2]
 clear hns2
 obtain ⟨w0,hw0⟩:∃ w0,(w.alloc (.cells #[.string (bs a.pkg),.string (bs a.name)] 27)).alloc (.cells #[.string (bs b.pkg),.string (bs b.name)] 27)=w0:=⟨_,rfl⟩
 have hb0:Below w.heap.size w w0:=by rw [← hw0];exact bstep (balloc _ _) (balloc _ _)
 have hsz0:w0.heap.size=w.heap.size+2:=by rw [← hw0];simp
 have hRA:RB w0 w.heap.size a:=by rw [← hw0];exact (RB.new w a).later (balloc _ _)
 have hRB:RB w0 (w.heap.size+1) b:=by
  rw [← hw0]
  have:=RB.new (w.alloc (.cells #[.string (bs a.pkg),.string (bs a.name)] 27)) b
  simpa using this
 have hG0:=h.later hb0
 have hFl:=h.lt
 have HN1:Hid (Calls Tryz.prog 52 #[.pointer (some ⟨g,0,none⟩),a.val] w0 fun e w'=>e=.returned (.tuple #[])∧GR w' (nw F w0 w') g (addN ns a) out∧OnlyP F w0 w'):=node_any hG0 a ha (by omega)
 have HW:Hid (RB w0 w.heap.size a∧RB w0 (w.heap.size+1) b∧Below w.heap.size w w0∧w0.heap.size=w.heap.size+2∧(∀ k,F k→k < w.heap.size)∧Lu a∧Lu b∧ns.length+2≤2000000):=⟨hRA,hRB,hb0,hsz0,hFl,ha,hb,hz⟩
 obtain ⟨a0,a1,_,_⟩:=hRA.cells
 obtain ⟨b0,b1,_,_⟩:=hRB.cells
 clear h hb0 hsz0 hRA hRB hG0 hFl ha hb hz
 obtain ⟨p,n⟩:=a
 obtain ⟨q,m⟩:=b
 have HW0:Hid ((w.alloc (.cells #[.string (bs p),.string (bs n)] 27)).alloc (.cells #[.string (bs q),.string (bs m)] 27)=w0):=hw0
 clear hw0
 simp only [Lb.val] at *
 go_enter Tryz.func53,Tryz.ntmps53
 go_wp2_with fail
 rw [HW0.out]
 refine HN1.out.mono ?_
 rintro e w1 ⟨rfl,hg1,ho1⟩
 obtain ⟨r1,r2,hb0,hsz0,hFl,hla,hlb,hz⟩:=HW.out
 have n1:¬ F w.heap.size:=fun h=>by have:=hFl _ h;omega
 have n2:¬ F (w.heap.size+1):=fun h=>by have:=hFl _ h;omega
 have r3:=r1.onlyP ho1 n1
 have r4:=r2.onlyP ho1 n2
 have z1:=addN_le ns ⟨p,n⟩
 have HN2:Hid (Calls Tryz.prog 52 #[.pointer (some ⟨g,0,none⟩),.agg #[.string (bs q),.string (bs m)]] w1 fun e w'=>e=.returned (.tuple #[])∧GR w' (nw (nw F w0 w1) w1 w') g (addN (addN ns ⟨p,n⟩) ⟨q,m⟩) out∧OnlyP (nw F w0 w1) w1 w'):=node_any hg1 ⟨q,m⟩ hlb (by omega)
 have n3:¬ nw F w0 w1 w.heap.size:=fun h=>h.elim n1 (fun h=>by omega)
 have n4:¬ nw F w0 w1 (w.heap.size+1):=fun h=>h.elim n2 (fun h=>by omega)
 obtain ⟨c0,c1,_,_⟩:=r4.cells
 simp only at c0 c1
 have HX1:Hid (RB w1 w.heap.size ⟨p,n⟩∧RB w1 (w.heap.size+1) ⟨q,m⟩∧OnlyP F w0 w1∧(¬ nw F w0 w1 w.heap.size)∧(¬ nw F w0 w1 (w.heap.size+1))):=⟨r3,r4,ho1,n3,n4⟩
 clear r1 r2 r3 r4 hb0 hsz0 hFl hla hlb hz n1 n2 n3 n4 z1 hg1 ho1 a0 a1 b0 b1
 go_wp2_with fail
 refine HN2.out.mono ?_
 rintro e w2 ⟨rfl,hg2,ho2⟩
 have r5:=HX1.out.1.onlyP ho2 HX1.out.2.2.2.1
 have r6:=HX1.out.2.1.onlyP ho2 HX1.out.2.2.2.2
 obtain ⟨a0,a1,_,_⟩:=r5.cells
 obtain ⟨b0,b1,_,_⟩:=r6.cells
 simp only at a0 a1 b0 b1
 have hma:(⟨p,n⟩:Lb)∈addN (addN ns ⟨p,n⟩) ⟨q,m⟩:=by rw [mem_addN,mem_addN];exact .inl (.inr rfl)
 have hmb:(⟨q,m⟩:Lb)∈addN (addN ns ⟨p,n⟩) ⟨q,m⟩:=by rw [mem_addN];exact .inr rfl
 have hon:OnlyP F w w2:=by
  refine (OnlyP.of_below HW.out.2.2.1 F).trans (HX1.out.2.2.1.trans ho2 (F:=F) (fun i hi hF=>?_)) (fun i _ hF=>hF)
  rcases hF with h | h
  ·exact h
  ·omega
 have hsub:∀ k,nw (nw F w0 w1) w1 w2 k→nw F w w2 k:=by
  rintro k ((h | h) | h)
  ·exact .inl h
  ·exact .inr ⟨by have:=HW.out.2.2.2.1;omega,Nat.lt_of_lt_of_le h.2 ho2.size⟩
  ·exact .inr ⟨by have:=HW.out.2.2.1.size;have:=HX1.out.2.2.1.size;omega,h.2⟩
 have hn5:¬ nw (nw F w0 w1) w1 w2 w.heap.size:=fun h=>h.elim HX1.out.2.2.2.1 (fun h=>by have:=HW.out.2.2.2.1;have:=HX1.out.2.2.1.size;omega)
 have hn6:¬ nw (nw F w0 w1) w1 w2 (w.heap.size+1):=fun h=>h.elim HX1.out.2.2.2.2 (fun h=>by have:=HW.out.2.2.2.1;have:=HX1.out.2.2.1.size;omega)
 obtain ⟨F2,hF2⟩:∃ F2,nw (nw F w0 w1) w1 w2=F2:=⟨_,rfl⟩
 have hg2':=hg2
 rw [hF2] at hg2' hsub hn5 hn6
 have HF2:Hid ((∀ k,F2 k→nw F w w2 k)∧¬ F2 w.heap.size∧¬ F2 (w.heap.size+1)):=⟨hsub,hn5,hn6⟩
 have HLB:Hid (Lu ⟨q,m⟩∧∀ k,F k→k < w.heap.size):=⟨HW.out.2.2.2.2.2.2.1,HW.out.2.2.2.2.1⟩
 clear hsub hn5 hn6 hF2 ho2 hg2 HX1 HN2 HN1 c0 c1 HW HW0
 rw [HNS.out] at hma hmb hg2'
 obtain ⟨mm,v,hcell,hml,hFm,hov,hvF,hlook,hst⟩:=hg2'.edge hma hmb
 have hlook':∀ j,(Instr.lookup 104 (.map (some mm)) (.agg #[.string (bs p),.string (bs n)]) false).run Tryz.prog (w2.drewN j)=.ok v (w2.drewN j):=fun j=>hlook (w2.drewN j) rfl
 have hgl:=hg2'.glt
 have hLS:=hov.rs
 have holen:=hg2'.olen ⟨p,n⟩
 have hz2:=hg2'.sz
 have hup:=hg2'.up ⟨p,n⟩
 have hlu:∀ x∈out ⟨p,n⟩,Lu x:=fun x hx=>hg2'.lu x (hg2'.sub _ x hx).2
 have HG:Hid (GR w2 F2 g ns2 out∧OnlyP F w w2):=⟨hg2',hon⟩
 have HR:Hid (RB w2 w.heap.size ⟨p,n⟩∧RB w2 (w.heap.size+1) ⟨q,m⟩):=⟨r5,r6⟩
 have HV:Hid (OwnL 0 w2 v (out ⟨p,n⟩)∧(∀ k,v.ownBlock=some k→F2 k)∧g < w2.heap.size∧w2.cell? ⟨g,0,none⟩=some (.map (some mm))∧(out ⟨p,n⟩).length≤2000000):=⟨hov,hvF,hgl,hcell,by omega⟩
 have HSE:Hid (∀ j,Calls Tryz.prog 86 #[v,.agg #[.string (bs q),.string (bs m)],.func (.func 87) #[] #[]] (w2.drewN j) fun e w'=>∃ (a:Nat),e=.returned (.tuple #[.int .i64 a,.bool (decide (⟨q,m⟩∈out ⟨p,n⟩))])∧a≤(out ⟨p,n⟩).length∧(⟨q,m⟩∉out ⟨p,n⟩→Gs.insr ltL ⟨q,m⟩ (out ⟨p,n⟩)=(out ⟨p,n⟩).take a++⟨q,m⟩::(out ⟨p,n⟩).drop a)∧Below (w2.drewN j).heap.size (w2.drewN j) w'):=fun j=>
  search_f ⟨q,m⟩ (hLS.later (bd w2 j)) hup (by omega) hlu HLB.out.1
 have HST:Hid (∀ w0 w1 v',Below w2.heap.size w2 w0→Only (bl v) w0 w1→OwnL 0 w1 v' (Gs.insr ltL ⟨q,m⟩ (out ⟨p,n⟩))→(v'.ownBlock=v.ownBlock∨v'.ownBlock=some w0.heap.size)→
   ∃ w3,(Instr.mapUpdate 104 (.map (some mm)) (.agg #[.string (bs p),.string (bs n)]) v').run Tryz.prog w1=.ok () w3∧GR w3 (nw F2 w2 w3) g ns2 (outI out ⟨p,n⟩ ⟨q,m⟩)∧OnlyP F2 w2 w3∧Only [mm] w1 w3∧∀ i,w1.cell? ⟨mm,i,none⟩=none):=hst
 clear hst hlook hon hg2' r5 r6 hov hvF hLS hup hlu hml hFm hma hmb hgl holen hz2
 by_cases hin:(⟨q,m⟩:Lb)∈out ⟨p,n⟩
 ·have e1:decide ((⟨q,m⟩:Lb)∈out ⟨p,n⟩)=true:=by simp [hin]
  rw [e1] at HSE
  have HIN:Hid ((⟨q,m⟩:Lb)∈out ⟨p,n⟩):=hin
  clear hin e1
  go_wp2_with fail
  go_quiet (fail)
  go_wp2_with fail
  refine (HSE.out _).mono ?_
  rintro e w4 ⟨at_,rfl,_,_,hb4⟩
  have HB4:Hid (Below w2.heap.size w2 w4):=bstep (bd _ _) hb4
  clear hb4
  go_wp2_with fail
  go_end0
  refine ⟨rfl,?_,HG.out.2.trans (OnlyP.of_below HB4.out F) (fun i _ h=>h)⟩
  rw [outI_in (HG.out.1.up _) HIN.out]
  exact GR.nw_later ((HG.out.1.wider HF2.out.1) (fun k hk=>hk.elim (fun h=>Nat.lt_of_lt_of_le (HLB.out.2 k h) HG.out.2.size) (fun h=>h.2))) HB4.out
 ·have e1:decide ((⟨q,m⟩:Lb)∈out ⟨p,n⟩)=false:=by simp [hin]
  rw [e1] at HSE
  have HIN:Hid ((⟨q,m⟩:Lb)∉out ⟨p,n⟩):=hin
  clear hin e1
  go_wp2_with fail
  go_quiet (fail)
  go_wp2_with fail
  refine (HSE.out _).mono ?_
  rintro e w4 ⟨at_,rfl,hat,hins,hb4⟩
  have HB4:Hid (Below w2.heap.size w2 w4):=bstep (bd _ _) hb4
  clear hb4
  have r7:=HR.out.1.later HB4.out
  have r8:=HR.out.2.later HB4.out
  obtain ⟨a0,a1,_,_⟩:=r7.cells
  obtain ⟨b0,b1,_,_⟩:=r8.cells
  simp only at a0 a1 b0 b1
  have hc4:=(HB4.out.cell (p:=⟨g,0,none⟩) HV.out.2.2.1).trans HV.out.2.2.2.1
  have hins':=hins HIN.out
  have HIC:Hid (Calls Tryz.prog 88 #[v,.int .i64 (at_:Int),.slice (some ⟨w4.heap.size,0,none⟩) 1 1] (w4.alloc (.cells #[.string (bs q),.string (bs m)] 27)).drew fun e w'=>∃ v' w6,e=.returned v'∧w'.cell? ⟨g,0,none⟩=some (.map (some mm))∧(w'.cell? ⟨w.heap.size,0,none⟩=some (.string (bs p))∧w'.cell? ⟨w.heap.size,1,none⟩=some (.string (bs n)))∧(w'.cell? ⟨w.heap.size+1,0,none⟩=some (.string (bs q))∧w'.cell? ⟨w.heap.size+1,1,none⟩=some (.string (bs m)))∧(w6.cell? ⟨g,0,none⟩=some (.map (some mm))∧w6.cell? ⟨w.heap.size,0,none⟩=some (.string (bs p))∧w6.cell? ⟨w.heap.size,1,none⟩=some (.string (bs n))∧w6.cell? ⟨w.heap.size+1,0,none⟩=some (.string (bs q))∧w6.cell? ⟨w.heap.size+1,1,none⟩=some (.string (bs m)))∧(Instr.mapUpdate 104 (.map (some mm)) (.agg #[.string (bs p),.string (bs n)]) v').run Tryz.prog w'=.ok () w6∧GR w6 (nw F w w6) g ns2 (outI out ⟨p,n⟩ ⟨q,m⟩)∧OnlyP F w w6):=by
   have hW:Below w4.heap.size w4 (w4.alloc (.cells #[.string (bs q),.string (bs m)] 27)).drew:=(balloc w4 _).drew
   have h0:=HV.out.1.later HB4.out
   refine (insert_f (h0.later hW) ⟨q,m⟩ w4.heap.size ⟨heap_alloc_new w4 _⟩ ?_ at_ hat (by have:=HV.out.2.2.2.2;omega) (Nat.zero_le _)).mono ?_
   ·intro e
    have:=(h0.lt e).2
    omega
   ·rintro e w5 ⟨v',rfl,ho5,hon5,hbl5⟩
    rw [← hins'] at ho5
    obtain ⟨w6,hrun,hg6,hon6,hmm6,hmn⟩:=HST.out _ w5 v' (bstep HB4.out hW) hon5 ho5 hbl5
    have hnv:∀ k,k < w4.heap.size→(∀ j,v.ownBlock=some j→k≠j)→w5.heap[k]? = w4.heap[k]?:=fun k hk hn=>(hon5.block k (Nat.lt_of_lt_of_le hk hW.size) (fun h=>by
     have hj:v.ownBlock=some k:=by unfold bl at h;simpa using h
     exact hn k hj rfl)).trans (hW.block k hk)
    have hrow:∀ j,v.ownBlock=some j→∃ cs fr,w4.heap[j]? = some (.cells cs 27 fr):=by
     intro j hj
     rcases OL.of h0 with ⟨e,_⟩ | ⟨q',cap,rest,e,ho⟩
     ·rw [e] at hj;cases hj
     ·rw [e] at hj
      simp only [Value.ownBlock,Option.some.injEq] at hj
      subst hj
      exact ⟨_,_,ho.blk⟩
    have hvF:=HV.out.2.1
    have hvw:∀ j,v.ownBlock=some j→j≠w.heap.size∧j≠w.heap.size+1∧j≠g:=by
     intro j hj
     refine ⟨?_,?_,?_⟩
     ·rintro rfl;exact HF2.out.2.1 (hvF _ hj)
     ·rintro rfl;exact HF2.out.2.2 (hvF _ hj)
     ·rintro rfl
      obtain ⟨cs,fr,e⟩:=hrow j hj
      obtain ⟨b',A',h1',_⟩:=(HG.out.1.later HB4.out).it
      rw [e] at h1';cases h1'
    have k0:=World.cell?_of_block (a:=⟨g,0,none⟩) (hnv g (Nat.lt_of_lt_of_le HV.out.2.2.1 HB4.out.size) (fun j hj e=>(hvw j hj).2.2 e.symm))
    have k1:=World.cell?_of_block (a:=⟨w.heap.size,0,none⟩) (hnv w.heap.size r7.lt (fun j hj e=>(hvw j hj).1 e.symm))
    have k2:=World.cell?_of_block (a:=⟨w.heap.size,1,none⟩) (hnv w.heap.size r7.lt (fun j hj e=>(hvw j hj).1 e.symm))
    have k3:=World.cell?_of_block (a:=⟨w.heap.size+1,0,none⟩) (hnv (w.heap.size+1) r8.lt (fun j hj e=>(hvw j hj).2.1 e.symm))
    have k4:=World.cell?_of_block (a:=⟨w.heap.size+1,1,none⟩) (hnv (w.heap.size+1) r8.lt (fun j hj e=>(hvw j hj).2.1 e.symm))
    have hk6:∀ x i u,w5.cell? ⟨x,i,none⟩=some u→w6.cell? ⟨x,i,none⟩=some u:=by
     intro x i u hu
     have hx:x≠mm:=by rintro rfl;rw [hmn i] at hu;cases hu
     have hxl:x < w5.heap.size:=by
      by_cases hx:x < w5.heap.size
      ·exact hx
      ·exfalso
       have:w5.heap[x]? = none:=Array.getElem?_eq_none (by omega)
       simp [World.cell?,this] at hu
     exact (World.cell?_of_block (a:=⟨x,i,none⟩) (hmm6.block x hxl (by simpa using hx))).trans hu
    have k5:=k0.trans hc4
    have k6:=k1.trans a0
    have k7:=k2.trans a1
    have k8:=k3.trans b0
    have k9:=k4.trans b1
    refine ⟨v',w6,rfl,k5,⟨k6,k7⟩,⟨k8,k9⟩,⟨hk6 _ _ _ k5,hk6 _ _ _ k6,hk6 _ _ _ k7,hk6 _ _ _ k8,hk6 _ _ _ k9⟩,hrun,?_,HG.out.2.trans hon6 (fun i hi h=>(HF2.out.1 i h).elim id (fun h=>by omega))⟩
    refine GR.nw_nw (w2:=w2) (hg6.wider (fun k hk=>hk.elim (fun h=>.inl (HF2.out.1 k h)) .inr) ?_) HG.out.2.size hon6.size
    rintro k (h | h)
    ·rcases h with h | h
     ·exact Nat.lt_of_lt_of_le (HLB.out.2 k h) (Nat.le_trans HG.out.2.size hon6.size)
     ·exact Nat.lt_of_lt_of_le h.2 hon6.size
    ·exact h.2
  have HL4:Hid (w.heap.size < w4.heap.size∧w.heap.size+1 < w4.heap.size∧g < w4.heap.size):=⟨r7.lt,r8.lt,Nat.lt_of_lt_of_le HV.out.2.2.1 HB4.out.size⟩
  clear r7 r8 hins hins' hat
  obtain ⟨av,cv,nv,hvv⟩:∃ av cv nv,v=.slice av nv cv:=by obtain ⟨x,y,e⟩:=HV.out.1.form;exact ⟨x,y,_,e⟩
  subst hvv
  go_wp2_with fail
  go_region_held3 (fun w'=>w'.cell? ⟨g,0,none⟩=some (.map (some mm))∧w'.cell? ⟨w.heap.size,0,none⟩=some (.string (bs p))∧w'.cell? ⟨w.heap.size,1,none⟩=some (.string (bs n))∧w'.cell? ⟨w.heap.size+1,0,none⟩=some (.string (bs q))∧w'.cell? ⟨w.heap.size+1,1,none⟩=some (.string (bs m))) (first | (with_reducible exact ⟨hc4,a0,a1,b0,b1⟩) | (with_reducible exact ⟨k0,k1.1,k1.2,k3.1,k3.2⟩) | (with_reducible exact K6.out) | go_keep) (first | (go_at_call 88;(with_reducible refine HIC.out.mono ?_);rintro e w5 ⟨v',w6,rfl,k0,k1,k3,k6,hrun6,hg6,hon6⟩;have K6:Hid (w6.cell? ⟨g,0,none⟩=some (.map (some mm))∧w6.cell? ⟨w.heap.size,0,none⟩=some (.string (bs p))∧w6.cell? ⟨w.heap.size,1,none⟩=some (.string (bs n))∧w6.cell? ⟨w.heap.size+1,0,none⟩=some (.string (bs q))∧w6.cell? ⟨w.heap.size+1,1,none⟩=some (.string (bs m))):=k6;clear k6;have HZ:Hid (GR w6 (nw F w w6) g ns2 (outI out ⟨p,n⟩ ⟨q,m⟩)∧OnlyP F w w6):=⟨hg6,hon6⟩;clear hg6 hon6))
  all_goals (go_wp2_with fail;go_end0;exact ⟨rfl,HZ.out⟩)
end
end Go.Proofs.YtppnbdnpapellaaGreatDoor
