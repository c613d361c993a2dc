import Derived.Test.YtppnbdnpapellaaGreatDoorJBr
import Derived.Test.YtppnbdnpapellaaGreatDoorJLs
set_option maxRecDepth 100000
set_option maxHeartbeats 16000000
namespace Go.Proofs.YtppnbdnpapellaaGreatDoor
open Go.RowKit Go.Maps
structure PI (wl:World) (n gpl:Nat) (v:Value) (V:List Value) (P:List (List Lb)) (place:Nat→Nat) (wr:World):Prop where
 on:OnlyP (fun k=>k=gpl∨wl.heap.size≤k) wl wr
 plc:wr.heap[gpl]? = some (arr n place)
 pll:PL wl.heap.size wr v V P
 gl:gpl < wl.heap.size
section
variable {wl wr wr':World} {n gpl:Nat} {v:Value} {V:List Value} {P:List (List Lb)} {place:Nat→Nat}
theorem PI.glt (h:PI wl n gpl v V P place wr):gpl < wr.heap.size:=(Array.getElem?_eq_some_iff.1 h.plc).1
theorem PI.later (h:PI wl n gpl v V P place wr) (hb:Below wr.heap.size wr wr'):PI wl n gpl v V P place wr':=
 ⟨h.on.trans (OnlyP.of_below hb (fun k=>k=gpl∨wl.heap.size≤k)) (fun _ _ e=>e),(hb.block _ h.glt).trans h.plc,h.pll.later hb,h.gl⟩
theorem PI.setp (h:PI wl n gpl v V P place wr) (i x:Nat):PI wl n gpl v V P (Tj.upd place i x) (wr.setCell ⟨gpl,i,none⟩ (.int .i64 (x:Int))):=
 ⟨h.on.trans (OnlyP.of_only (F:=fun k=>k=gpl∨wl.heap.size≤k) (Only.set wr gpl i _) (fun k hk _=>.inl (List.mem_singleton.1 hk))) (fun _ _ e=>e),arr_set h.plc i x,h.pll.only (Only.set wr gpl i _) (fun k hk=>by rw [List.mem_singleton.1 hk];exact h.gl),h.gl⟩
theorem PI.push (h:PI wl n gpl v V P place wr) {o:Obj} {v':Value} (hg:(wr.alloc o).grownBy wr' v.ownBlock) (hr:wr'.ownsRow wl.heap.size 23 1 v' (V++[Value.slice none 0 0]).length (V++[Value.slice none 0 0])):PI wl n gpl v' (V++[Value.slice none 0 0]) (P++[[]]) place wr':=by
 have ho:Only v.ownBlock.toList wr wr':=only_alloc hg
 have hn:∀ k,k∈v.ownBlock.toList→wl.heap.size≤k:=fun k hk=>(row_tag h.pll.row (by simpa using hk)).1
 exact ⟨h.on.trans (OnlyP.of_only (F:=fun k=>k=gpl∨wl.heap.size≤k) ho (fun k hk _=>.inr (hn k hk))) (fun _ _ e=>e),(ho.block _ h.glt (fun e=>by have:=hn _ e;have:=h.gl;omega)).trans h.plc,h.pll.push hg hr,h.gl⟩
theorem PI.add {gp c m:Nat} (h:PI wl n gpl (.slice (some ⟨gp,0,none⟩) m c) V P place wr) (hn:V.length=m) {p:Nat} {vp vp':Value} {l l':List Lb} (hp:V[p]? = some vp) (hl:P[p]? = some l) {o:Obj} (hg:(wr.alloc o).grownBy wr' vp.ownBlock) (hr:OwnL wl.heap.size wr' vp' l') (hv:vp'.ownBlock=vp.ownBlock∨∃ k,vp'.ownBlock=some k∧wr.heap.size≤k) :
  wr'.cell? ⟨gp,p,none⟩=some vp∧wr'.frozen? ⟨gp,p,none⟩=false∧PI wl n gpl (.slice (some ⟨gp,0,none⟩) m c) (V.set p vp') (P.set p l') place (wr'.setCell ⟨gp,p,none⟩ vp'):=by
 obtain ⟨e1,e2,e3⟩:=h.pll.add hn hp hl hg hr hv
 have ho:Only vp.ownBlock.toList wr wr':=only_alloc hg
 have hvp:=h.pll.own p vp l hp hl
 have hk:∀ k,k∈vp.ownBlock.toList→wl.heap.size≤k:=fun k hk=>(row_tag hvp (by simpa using hk)).1
 have hgp:=(row_tag h.pll.row (g:=gp) rfl).1
 have hs:=Only.set wr' gp p vp'
 have hgl:=h.gl
 have e4:=(ho.block _ h.glt (fun e=>by have:=hk _ e;omega)).trans h.plc
 refine ⟨e1,e2,⟨(h.on.trans (OnlyP.of_only (F:=fun k=>k=gpl∨wl.heap.size≤k) ho (fun k hk' _=>.inr (hk k hk'))) (fun _ _ e=>e)).trans (OnlyP.of_only (F:=fun k=>k=gpl∨wl.heap.size≤k) hs (fun k hk' _=>.inr (by rw [List.mem_singleton.1 hk'];exact hgp))) (fun _ _ e=>e),(hs.block _ (Array.getElem?_eq_some_iff.1 e4).1 (fun e=>by have:=List.mem_singleton.1 e;omega)).trans e4,e3,hgl⟩⟩
end
theorem own_new {v v':Value} {w:World} {o:Obj} (h:v'.ownBlock=v.ownBlock∨v'.ownBlock=some ((w.alloc o).drew).heap.size):v'.ownBlock=v.ownBlock∨∃ k,v'.ownBlock=some k∧w.heap.size≤k:=by
 rcases h with h | h
 ·exact .inl h
 ·exact .inr ⟨_,h,(balloc w o).drew.size⟩
theorem grown_d {w w':World} {row:Option Nat} (h:w.drew.grownBy w' row):w.grownBy w' row:=⟨h.os,h.tape,h.output,h.size,h.block⟩
theorem rb_kept {wr w5:World} {a:Lb} {gpl i:Nat} {u v:Value} {o o2:Obj} (h:RB (wr.alloc o) wr.heap.size a) (hg:gpl < wr.heap.size) (hv:∀ k,v.ownBlock=some k→k < wr.heap.size) (hr:(((wr.alloc o).setCell ⟨gpl,i,none⟩ u).alloc o2).grownBy w5 v.ownBlock):RB w5 wr.heap.size a:=by
 have h1:=Only.set (wr.alloc o) gpl i u
 have h2:Only v.ownBlock.toList ((wr.alloc o).setCell ⟨gpl,i,none⟩ u) w5:=only_alloc hr
 have hl:=h.lt
 refine ⟨((h2.block _ (by simp) (fun e=>?_)).trans (h1.block _ hl (fun e=>?_))).trans h.blk⟩
 ·have:=hv wr.heap.size (by simpa using e)
  omega
 ·have:=List.mem_singleton.1 e
  omega
theorem app_LL {w:World} {base:Nat} {v:Value} {V:List Value} (u:Value) (hu:u.oneCell'=true) (hown:w.ownsRow base 23 1 v V.length V) (hb:V.length+1≤2000000) (hbase:base≤w.heap.size) {N:Nat} (hN:w.heap.size=N)
  {ops:Array Oper} {rest:List Oper} {o:Oper} {a:Act} {Q:Exit→Act→World→Prop} (hgd:o.guard=none) (s y:Operand)
  (ho:o.op=.call { callee:=.builtin .append,args:=#[s,y],argTypes:=#[144,144] }) (hv:a.eval s=v) (hx:a.eval y=.slice (some ⟨N,0,none⟩) 1 1)
  (h:∀ v' w',w'.ownsRow base 23 1 v' (V++[u]).length (V++[u])→(w.alloc (.cells #[u] 23)).grownBy w' v.ownBlock→wpList Tryz.prog ops Q rest (a.put o.dst v') w') :
  wpList Tryz.prog ops Q (o::rest) a (w.alloc (.cells #[u] 23)):=by
 subst hN
 have h1:(w.alloc (.cells #[u] 23)).ownsRow base kLL.e kLL.sz v V.length V:=row_later hown (balloc w _)
 have h2:Src Tryz.prog kLL.sz kLL.T (.slice (some ⟨w.heap.size,0,none⟩) 1 1) 1 [u] (w.alloc (.cells #[u] 23)):=src_K kLL_ok w [u] rfl (by simpa using hu)
 refine app_K kLL_ok h1 h2 (by omega) (Nat.le_trans hbase (balloc w _).size) hgd s y ho hv hx (fun v' w' g1 g2 g3=>h v' w' ?_ g2)
 rw [List.length_append]
 exact g1
theorem parts_any {w:World} {F:Nat→Prop} {g:Nat} {ns:List Lb} {out:Lb→List Lb} (h:GR w F g ns out) (hz:ns.length≤2000000) :
  Calls Tryz.prog 95 #[.pointer (some ⟨g,0,none⟩)] w fun e w'=>∃ v V P,e=.returned v∧PL w.heap.size w' v V P∧Gs.Pts ltL ns (Eg ns out) P∧Below w.heap.size w w':=by
 obtain ⟨N,hNe⟩:∃ N,rs ns=N:=⟨_,rfl⟩
 have HNL:Hid (NL ns out N∧N.length≤2000000∧GR w F g ns out):=by
  refine ⟨⟨by rw [← hNe];exact Gs.ris_up stoL ns,fun x=>by rw [← hNe];exact Gs.mem_ris _ _,h.sub⟩,?_,h⟩
  rw [← hNe]
  exact Nat.le_trans (Gs.ris_le _) hz
 have HND:=nodes_any h
 rw [hNe] at HND
 obtain ⟨n,hn⟩:∃ n,N.length=n:=⟨_,rfl⟩
 have HN:Hid (N.length=n∧n≤2000000):=⟨hn,by have:=HNL.out.2.1;omega⟩
 clear h hNe hz hn
 go_enter Tryz.func95,Tryz.ntmps95
 go_wp2_with fail
 refine HND.mono ?_
 rintro e w1 ⟨v1,rfl,ho1,hb1⟩
 have HC:Hid (Calls Tryz.prog 142 #[.pointer (some ⟨g,0,none⟩),v1] w1 fun e w'=>∃ v',e=.returned v'∧RO w' v' N.length (oN N out)∧Below w1.heap.size w1 w'):=edges_any (HNL.out.2.2.later hb1) ho1.rs HNL.out.1.nodup HNL.out.1.mem HNL.out.2.1
 obtain ⟨av1,cv1,hv1⟩:=ho1.form
 rw [HN.out.1] at hv1
 subst hv1
 have HW1:Hid (OwnL w.heap.size w1 (.slice av1 n cv1) N∧Below w.heap.size w w1):=⟨ho1,hb1⟩
 clear ho1 hb1 HND
 go_wp2_with fail
 refine HC.out.mono ?_
 rintro e w2 ⟨v2,rfl,hro,hb2⟩
 have HC3:Hid (Calls Tryz.prog 141 #[v2] w2 fun e w'=>∃ gl least,e=.returned (.slice (some ⟨gl,0,none⟩) n n)∧w2.heap.size≤gl∧w'.heap[gl]? = some (arr n least)∧Below w2.heap.size w2 w'∧∀ x,x < n→Tj.Mu (oN N out) x (least x)∧∀ y,Tj.Mu (oN N out) x y→least x≤y):=by
  rw [HN.out.1] at hro
  refine leasts_any hro HN.out.2 (fun x=>?_) (fun x y hy=>?_)
  ·unfold oN
   cases hx:N[x]? with
   | none=>simp
   | some a=>
    simp only [List.length_map]
    have h9:=Gs.nodup_sub (out a) N (Gs.Ris.nodup stoL (HNL.out.2.2.up a)) (fun z hz=>(HNL.out.1.mem z).2 (HNL.out.1.sub a z hz).2)
    rw [HN.out.1] at h9
    exact h9
  ·have:=(HNL.out.1.mem_oN.1 hy).2.1
   rw [HN.out.1] at this
   exact this
 obtain ⟨go2,e2,_,_⟩:=hro
 rw [HN.out.1] at e2
 subst e2
 have HB2:Hid (Below w1.heap.size w1 w2):=hb2
 clear hb2 HC
 go_wp2_with fail
 refine HC3.out.mono ?_
 rintro e w3 ⟨gl,least,rfl,hgl,hgc,hb3,hls⟩
 have hmk:=make_I n (by have:=HN.out.2;omega)
 have HLST:Hid (Lst N.length (oN N out) least):=by
  show Lst N.length (oN N out) least
  rw [HN.out.1]
  exact ⟨fun x hx=>(hls x hx).1,fun x hx=>(hls x hx).2⟩
 obtain ⟨wl,hwl⟩:∃ wl,wl=w3.alloc (.cells (nv (nf n (fun _=>0))).toArray 3):=⟨_,rfl⟩
 obtain ⟨gpl,hgpl⟩:∃ gpl,w3.heap.size=gpl:=⟨_,rfl⟩
 have HWL:Hid (Below w1.heap.size w1 wl∧wl.heap[gl]? = some (arr n least)∧wl.heap[gpl]? = some (arr n (fun _=>0))∧gl < gpl∧gpl < wl.heap.size∧w1.heap.size≤gpl):=by
  have h1:=bstep HB2.out hb3
  have h2:=(Array.getElem?_eq_some_iff.1 hgc).1
  rw [hwl,← hgpl]
  exact ⟨bstep h1 (balloc _ _),((balloc w3 _).block gl h2).trans hgc,heap_alloc_new w3 _,h2,by simp,h1.size⟩
 clear hgl hgc hb3 hls HC3
 have hn0:(0:Int)≤(n:Int):=by omega
 have hn1:(n:Int)≤2000000:=by have:=HN.out.2;omega
 go_wp2_with fail
 rw [← hwl]
 try rw [hgpl]
 clear hmk hwl hgpl
 go_loopw [5,21] (fun s5 s21 wr=>∃ (i:Nat) (V:List Value) (place:Nat→Nat),s21=.int .i64 (i:Int)∧i≤n∧PI wl n gpl s5 V (PP N least i) place wr∧∀ l,l∈lds least i→(lds least i)[place l]? = some l) (fun _ s21 _=>n - (intOf s21).toNat)
 case atStart=>exact ⟨0,[],fun _=>0,rfl,by omega,⟨OnlyP.refl _ _,HWL.out.2.2.1,PL.nil _ _,HWL.out.2.2.2.2.1⟩,fun l hl=>by simp [lds] at hl⟩
 case round=>
  obtain ⟨i,V,place,rfl,hi,hP,hpo⟩:=hrel
  obtain ⟨av,cv,hvv⟩:=row_form hP.pll.row
  obtain ⟨pl0,hpl0⟩:∃ pl0,V.length=pl0:=⟨_,rfl⟩
  rw [hpl0] at hvv
  subst hvv
  have HP:Hid (PI wl n gpl (.slice av pl0 cv) V (PP N least i) place wr∧∀ l,l∈lds least i→(lds least i)[place l]? = some l):=⟨hP,hpo⟩
  have HB:Hid (Below w1.heap.size w1 wr):=by
   refine below_trans HWL.out.1 (hP.on.below HWL.out.1.size (fun k hk=>?_))
   have:=HWL.out.2.2.2.2.2
   have:=HWL.out.2.2.2.2.1
   omega
  have HVL:Hid (V.length=(lds least i).length):=by
   show V.length=_
   rw [hP.pll.len,PP_len]
  clear hP hpo
  by_cases hlt:i < n
  ·have hil:i < N.length:=by rw [HN.out.1];exact hlt
   obtain ⟨b,off,ea,hbw,d0,d1⟩:=LS.at HW1.out.1.rs HB.out hil
   subst ea
   obtain ⟨a,hae⟩:∃ a,N[i]=a:=⟨_,rfl⟩
   rw [hae] at d0 d1
   have HA:Hid (nd N i=a∧Lu a):=⟨by rw [nd_at hil];exact hae,HNL.out.2.2.lu a ((HNL.out.1.mem a).1 (by rw [← hae];exact List.getElem_mem hil))⟩
   have HRB:Hid (RB (wr.alloc (.cells #[.string (bs a.pkg),.string (bs a.name)] 27)) wr.heap.size a):=RB.new wr a
   have HPA:Hid (PI wl n gpl (.slice av pl0 cv) V (PP N least i) place (wr.alloc (.cells #[.string (bs a.pkg),.string (bs a.name)] 27))):=HP.out.1.later (balloc _ _)
   have HGL:Hid ((wr.alloc (.cells #[.string (bs a.pkg),.string (bs a.name)] 27)).heap[gl]? = some (arr n least)):=by
    have h1:=HWL.out.2.2.2.1
    have h2:=HWL.out.2.2.2.2.1
    exact (HPA.out.on.block gl (by omega) (fun e=>by omega)).trans HWL.out.2.1
   have cgl:=arr_cell HGL.out (a:=i) hlt
   have k1:(i:Int) < (n:Int):=by omega
   have k0:(0:Int)≤(i:Int):=by omega
   clear hae
   by_cases hld:least i=i
   ·have HPO:Hid (∀ l,l∈lds least (i+1)→(lds least (i+1))[Tj.upd place i pl0 l]? = some l):=by
     intro l hl
     rw [lds_succ,if_pos hld] at hl ⊢
     have e9:=HVL.out
     rw [hpl0] at e9
     rcases List.mem_append.1 hl with h1 | h1
     ·have hli:=(mem_lds.1 h1).1
      rw [Tj.upd_ne (by omega),List.getElem?_append_left (List.getElem?_eq_some_iff.1 (HP.out.2 l h1)).1]
      exact HP.out.2 l h1
     ·rw [List.mem_singleton.1 h1,Tj.upd_same,e9,List.getElem?_append_right (Nat.le_refl _)]
      simp
    have HPB:Hid (PI wl n gpl (.slice av pl0 cv) V (PP N least i) (Tj.upd place i pl0) ((wr.alloc (.cells #[.string (bs a.pkg),.string (bs a.name)] 27)).setCell ⟨gpl,i,none⟩ (.int .i64 (pl0:Int)))):=HPA.out.setp i pl0
    have cgp:=arr_cell HPA.out.plc (a:=i) hlt
    have fgp:=arr_soft HPA.out.plc i
    have hp0:(0:Int)≤(pl0:Int):=by omega
    have HSB:Hid (((wr.alloc (.cells #[.string (bs a.pkg),.string (bs a.name)] 27)).setCell ⟨gpl,i,none⟩ (.int .i64 (pl0:Int))).heap.size=wr.heap.size+1):=by
     show _=_
     simp
    have HLB:Hid (V.length+1≤2000000∧wl.heap.size≤((wr.alloc (.cells #[.string (bs a.pkg),.string (bs a.name)] 27)).setCell ⟨gpl,i,none⟩ (.int .i64 (pl0:Int))).heap.size∧V.length=pl0):=by
     refine ⟨?_,HPB.out.on.size,hpl0⟩
     have h1:=HVL.out
     have h2:=lds_len least i
     have:=HN.out.2
     omega
    rw [hld] at cgl
    obtain ⟨pk,nm⟩:=a
    simp only at d0 d1
    clear hpl0
    have HBX:Hid (gpl < wr.heap.size∧∀ k,(Value.slice av pl0 cv).ownBlock=some k→k < wr.heap.size):=⟨HP.out.1.glt,fun k hk=>(row_tag HP.out.1.pll.row hk).2.1⟩
    go_wp2_with (first | (at_builtin;refine app_LL (base:=wl.heap.size) (V:=V) (.slice none 0 0) rfl HPB.out.pll.row HLB.out.1 HLB.out.2.1 HSB.out rfl (.tmp 37) (.tmp 38) rfl rfl rfl ?_;intro v5 w5 ho5 hg5;obtain ⟨a5,c5,rfl⟩:=row_form ho5;have HP5:Hid (PI wl n gpl (.slice a5 (V++[Value.slice none 0 0]).length c5) (V++[Value.slice none 0 0]) (PP N least i++[[]]) (Tj.upd place i pl0) w5):=HPB.out.push hg5 ho5;have HRB5:Hid (RB w5 wr.heap.size ⟨pk,nm⟩):=rb_kept HRB.out HBX.out.1 HBX.out.2 hg5;have HGL5:Hid (w5.heap[gl]? = some (arr n least)):=(HP5.out.on.block gl (by have:=HWL.out.2.2.2.1;have:=HWL.out.2.2.2.2.1;omega) (fun e=>by have:=HWL.out.2.2.2.1;have:=HWL.out.2.2.2.2.1;omega)).trans HWL.out.2.1;have cgl5:=arr_cell HGL5.out (a:=i) hlt;have cpl5:=arr_cell HP5.out.plc (a:=i) hlt))
    have HP6:Hid (PI wl n gpl (.slice a5 (V.length+1) c5) (V++[Value.slice none 0 0]) ((lds least (i+1)).map (ptl N least i)) (Tj.upd place i pl0) w5):=by
     have h9:=HP5.out
     rw [PP_new N HLST.out hil hld,show (V++[Value.slice none 0 0]).length=V.length+1 by simp] at h9
     exact h9
    have HLP:Hid ((lds least (i+1))[pl0]? = some (least i)):=by
     have h9:=HPO.out (least i) (by rw [hld,lds_succ,if_pos hld];simp)
     rw [hld,Tj.upd_same] at h9
     show (lds least (i+1))[pl0]? = some (least i)
     rw [hld];exact h9
    clear hld
    have HPP:Hid ((lds least (i+1))[pl0]? = some (least i)∧(V++[Value.slice none 0 0]).length=(lds least (i+1)).length):=by
     refine ⟨HLP.out,?_⟩
     rw [HP6.out.pll.len,List.length_map]
    have hpV:pl0 < (V++[Value.slice none 0 0]).length:=by rw [HPP.out.2];exact (List.getElem?_eq_some_iff.1 HPP.out.1).1
    obtain ⟨vp,hvp⟩:∃ vp,(V++[Value.slice none 0 0])[pl0]? = some vp:=⟨_,List.getElem?_eq_getElem hpV⟩
    have HOWN:Hid (OwnL wl.heap.size w5 vp (ptl N least i (least i))∧((lds least (i+1)).map (ptl N least i))[pl0]? = some (ptl N least i (least i))):=by
     have h9:((lds least (i+1)).map (ptl N least i))[pl0]? = some (ptl N least i (least i)):=by rw [List.getElem?_map,HPP.out.1];rfl
     exact ⟨HP6.out.pll.own pl0 vp _ hvp h9,h9⟩
    obtain ⟨gp,cc,hvv,hcc,hgp1,hgp2⟩:=row_place HP6.out.pll.row (by omega)
    injection hvv with hv1 hv2 hv3
    subst hv1 hv3
    have hpl:(V++[Value.slice none 0 0]).length=V.length+1:=hv2.symm
    obtain ⟨al,cl',hvl⟩:=HOWN.out.1.form
    obtain ⟨ln,hln⟩:∃ ln,(ptl N least i (least i)).length=ln:=⟨_,rfl⟩
    rw [hln] at hvl
    subst hvl
    have cvp:w5.cell? ⟨gp,pl0,none⟩=some (.slice al ln cl'):=by
     have h9:=HP6.out.pll.row
     rw [hpl] at h9
     exact row_cell h9 hvp
    have HAP:Hid (∀ (w9:World) (v9:Value),(w5.alloc (.cells #[.string (bs pk),.string (bs nm)] 27)).grownBy w9 (Value.slice al ln cl').ownBlock→OwnL wl.heap.size w9 v9 (ptl N least i (least i)++[⟨pk,nm⟩])→(v9.ownBlock=(Value.slice al ln cl').ownBlock∨∃ k,v9.ownBlock=some k∧w5.heap.size≤k)→w9.cell? ⟨gp,pl0,none⟩=some (.slice al ln cl')∧w9.frozen? ⟨gp,pl0,none⟩=false∧PI wl n gpl (.slice (some ⟨gp,0,none⟩) (V.length+1) c5) ((V++[Value.slice none 0 0]).set (pl0) v9) (PP N least (i+1)) (Tj.upd place i pl0) (w9.setCell ⟨gp,pl0,none⟩ v9)):=by
     intro w9 v9 h1 h2 h3
     obtain ⟨e1,e2,e3⟩:=HP6.out.add hpl hvp HOWN.out.2 h1 h2 h3
     refine ⟨e1,e2,?_⟩
     have h10:=PP_step N HPP.out.1
     rw [show nd N i=⟨pk,nm⟩ from HA.out.1] at h10
     rw [← h10]
     exact e3
    have HOW:Hid (OwnL wl.heap.size w5 (.slice al ln cl') (ptl N least i (least i))∧wl.heap.size≤w5.heap.size∧(ptl N least i (least i)).length+[(⟨pk,nm⟩:Lb)].length≤100000000):=by
     refine ⟨HOWN.out.1,HP6.out.on.size,?_⟩
     have h9:(ptl N least i (least i)).length≤i:=by
      unfold ptl cl
      rw [List.length_map]
      refine Nat.le_trans (List.length_filter_le _ _) ?_
      rw [List.length_range];exact Nat.le_refl _
     have:=HN.out.2
     show (ptl N least i (least i)).length+1≤100000000
     omega
    have cvp2:=cell_alloc (.cells #[.string (bs pk),.string (bs nm)] 27) hgp2 cvp
    obtain ⟨b0,b1,_,_⟩:=HRB5.out.cells
    have b0':=cell_alloc (.cells #[.string (bs pk),.string (bs nm)] 27) HRB5.out.lt b0
    have q1:((pl0:Nat):Int) < (V.length:Int)+1:=by omega
    have q0:(0:Int)≤((pl0:Nat):Int):=by omega
    clear hvp hpl hln hv2
    go_region_law (refine step_app_L und_L rfl (.tmp 52) (.tmp 54) rfl wl.heap.size (ptl N least i (least i)) [⟨pk,nm⟩] (.slice al ln cl') _ rfl rfl (own_d HOW.out.1 _) (src_Ld und_L w5 ⟨pk,nm⟩) HOW.out.2.2 (Nat.le_trans HOW.out.2.1 (by simp)) ?_;intro v9 w9 ho9 hg9 hl9;obtain ⟨a9,c9,rfl⟩:=ho9.form;have hl99:(Value.slice a9 (ptl N least i (least i)++[(⟨pk,nm⟩:Lb)]).length c9).ownBlock=(Value.slice al ln cl').ownBlock∨∃ k,(Value.slice a9 (ptl N least i (least i)++[(⟨pk,nm⟩:Lb)]).length c9).ownBlock=some k∧w5.heap.size≤k:=own_new hl9;have hg99:=grown_d hg9;have cg9:=(HAP.out _ _ hg99 ho9 hl99).1;have fg9:=(HAP.out _ _ hg99 ho9 hl99).2.1)
    all_goals
     have h99:=(HAP.out _ _ hg99 ho9 hl99).2.2
     rw [show (ptl N least i (least i)++[(⟨pk,nm⟩:Lb)]).length=(ptl N least i (least i)).length+1 by simp] at h99
     have HZ:Hid (PI wl n gpl (.slice (some ⟨gp,0,none⟩) (V.length+1) c5) ((V++[Value.slice none 0 0]).set (pl0) (.slice a9 ((ptl N least i (least i)).length+1) c9)) (PP N least (i+1)) (Tj.upd place i pl0) (w9.setCell ⟨gp,pl0,none⟩ (.slice a9 ((ptl N least i (least i)).length+1) c9))):=h99
     clear h99 hg9 hg99 ho9 hl9 hl99 cg9 fg9
     generalize w9.setCell ⟨gp,pl0,none⟩ (.slice a9 ((ptl N least i (least i)).length+1) c9)=wz at HZ ⊢
     go_wp2_with fail
     go_roundw
     case rel=>exact ⟨i+1,_,Tj.upd place i pl0,by go_num,by omega,HZ.out,HPO.out⟩
     case measure=>simp [intOf];omega
   ·have HPO:Hid (∀ l,l∈lds least (i+1)→(lds least (i+1))[place l]? = some l):=by
     show ∀ l,l∈lds least (i+1)→(lds least (i+1))[place l]? = some l
     rw [lds_succ,if_neg hld,List.append_nil]
     exact HP.out.2
    have HPB:Hid (PI wl n gpl (.slice av pl0 cv) V ((lds least (i+1)).map (ptl N least i)) place (wr.alloc (.cells #[.string (bs a.pkg),.string (bs a.name)] 27))):=by
     have h9:=HPA.out
     rw [PP_old N hld] at h9
     exact h9
    have hli:least i < n:=by have:=HLST.out.self hil;omega
    obtain ⟨p,hp⟩:∃ p,place (least i)=p:=⟨_,rfl⟩
    have HLP:Hid ((lds least (i+1))[p]? = some (least i)):=by
     have h9:=HPO.out (least i) (by rw [lds_succ,if_neg hld,List.append_nil,mem_lds];exact ⟨by have:=HLST.out.self hil;omega,HLST.out.lead hil⟩)
     rw [hp] at h9
     exact h9
    have cpl:=arr_cell HPB.out.plc (a:=least i) hli
    rw [hp] at cpl
    obtain ⟨wA,hwA⟩:∃ wA,wA=wr.alloc (.cells #[.string (bs a.pkg),.string (bs a.name)] 27):=⟨_,rfl⟩
    have hldi:¬ ((least i:Int)=(i:Int)):=by omega
    have hl0:(0:Int)≤(least i:Int):=by omega
    have hl1:(least i:Int) < (n:Int):=by omega
    obtain ⟨pk,nm⟩:=a
    simp only at d0 d1
    clear hpl0
    go_wp2_with fail
    rw [← hwA] at HPB HRB ⊢
    clear hwA hldi cgl cpl
    have HPP:Hid ((lds least (i+1))[p]? = some (least i)∧(V).length=(lds least (i+1)).length):=by
     refine ⟨HLP.out,?_⟩
     rw [HPB.out.pll.len,List.length_map]
    have hpV:p < (V).length:=by rw [HPP.out.2];exact (List.getElem?_eq_some_iff.1 HPP.out.1).1
    obtain ⟨vp,hvp⟩:∃ vp,(V)[p]? = some vp:=⟨_,List.getElem?_eq_getElem hpV⟩
    have HOWN:Hid (OwnL wl.heap.size wA vp (ptl N least i (least i))∧((lds least (i+1)).map (ptl N least i))[p]? = some (ptl N least i (least i))):=by
     have h9:((lds least (i+1)).map (ptl N least i))[p]? = some (ptl N least i (least i)):=by rw [List.getElem?_map,HPP.out.1];rfl
     exact ⟨HPB.out.pll.own p vp _ hvp h9,h9⟩
    obtain ⟨gp,cc,hvv,hcc,hgp1,hgp2⟩:=row_place HPB.out.pll.row (by omega)
    injection hvv with hv1 hv2 hv3
    subst hv1 hv3
    have hpl:(V).length=pl0:=hv2.symm
    obtain ⟨al,cl',hvl⟩:=HOWN.out.1.form
    obtain ⟨ln,hln⟩:∃ ln,(ptl N least i (least i)).length=ln:=⟨_,rfl⟩
    rw [hln] at hvl
    subst hvl
    have cvp:wA.cell? ⟨gp,p,none⟩=some (.slice al ln cl'):=by
     have h9:=HPB.out.pll.row
     rw [hpl] at h9
     exact row_cell h9 hvp
    have HAP:Hid (∀ (w9:World) (v9:Value),(wA.alloc (.cells #[.string (bs pk),.string (bs nm)] 27)).grownBy w9 (Value.slice al ln cl').ownBlock→OwnL wl.heap.size w9 v9 (ptl N least i (least i)++[⟨pk,nm⟩])→(v9.ownBlock=(Value.slice al ln cl').ownBlock∨∃ k,v9.ownBlock=some k∧wA.heap.size≤k)→w9.cell? ⟨gp,p,none⟩=some (.slice al ln cl')∧w9.frozen? ⟨gp,p,none⟩=false∧PI wl n gpl (.slice (some ⟨gp,0,none⟩) (pl0) cv) ((V).set (p) v9) (PP N least (i+1)) (place) (w9.setCell ⟨gp,p,none⟩ v9)):=by
     intro w9 v9 h1 h2 h3
     obtain ⟨e1,e2,e3⟩:=HPB.out.add hpl hvp HOWN.out.2 h1 h2 h3
     refine ⟨e1,e2,?_⟩
     have h10:=PP_step N HPP.out.1
     rw [show nd N i=⟨pk,nm⟩ from HA.out.1] at h10
     rw [← h10]
     exact e3
    have HOW:Hid (OwnL wl.heap.size wA (.slice al ln cl') (ptl N least i (least i))∧wl.heap.size≤wA.heap.size∧(ptl N least i (least i)).length+[(⟨pk,nm⟩:Lb)].length≤100000000):=by
     refine ⟨HOWN.out.1,HPB.out.on.size,?_⟩
     have h9:(ptl N least i (least i)).length≤i:=by
      unfold ptl cl
      rw [List.length_map]
      refine Nat.le_trans (List.length_filter_le _ _) ?_
      rw [List.length_range];exact Nat.le_refl _
     have:=HN.out.2
     show (ptl N least i (least i)).length+1≤100000000
     omega
    have cvp2:=cell_alloc (.cells #[.string (bs pk),.string (bs nm)] 27) hgp2 cvp
    obtain ⟨b0,b1,_,_⟩:=HRB.out.cells
    have b0':=cell_alloc (.cells #[.string (bs pk),.string (bs nm)] 27) HRB.out.lt b0
    have q1:((p:Nat):Int) < (pl0:Int):=by omega
    have q0:(0:Int)≤((p:Nat):Int):=by omega
    clear hvp hpl hln hv2
    go_region_law (refine step_app_L und_L rfl (.tmp 52) (.tmp 54) rfl wl.heap.size (ptl N least i (least i)) [⟨pk,nm⟩] (.slice al ln cl') _ rfl rfl (own_d HOW.out.1 _) (src_Ld und_L wA ⟨pk,nm⟩) HOW.out.2.2 (Nat.le_trans HOW.out.2.1 (by simp)) ?_;intro v9 w9 ho9 hg9 hl9;obtain ⟨a9,c9,rfl⟩:=ho9.form;have hl99:(Value.slice a9 (ptl N least i (least i)++[(⟨pk,nm⟩:Lb)]).length c9).ownBlock=(Value.slice al ln cl').ownBlock∨∃ k,(Value.slice a9 (ptl N least i (least i)++[(⟨pk,nm⟩:Lb)]).length c9).ownBlock=some k∧wA.heap.size≤k:=own_new hl9;have hg99:=grown_d hg9;have cg9:=(HAP.out _ _ hg99 ho9 hl99).1;have fg9:=(HAP.out _ _ hg99 ho9 hl99).2.1)
    all_goals
     have h99:=(HAP.out _ _ hg99 ho9 hl99).2.2
     rw [show (ptl N least i (least i)++[(⟨pk,nm⟩:Lb)]).length=(ptl N least i (least i)).length+1 by simp] at h99
     have HZ:Hid (PI wl n gpl (.slice (some ⟨gp,0,none⟩) (pl0) cv) ((V).set (p) (.slice a9 ((ptl N least i (least i)).length+1) c9)) (PP N least (i+1)) (place) (w9.setCell ⟨gp,p,none⟩ (.slice a9 ((ptl N least i (least i)).length+1) c9))):=h99
     clear h99 hg9 hg99 ho9 hl9 hl99 cg9 fg9
     generalize w9.setCell ⟨gp,p,none⟩ (.slice a9 ((ptl N least i (least i)).length+1) c9)=wz at HZ ⊢
     go_wp2_with fail
     go_roundw
     case rel=>exact ⟨i+1,_,place,by go_num,by omega,HZ.out,HPO.out⟩
     case measure=>simp [intOf];omega
  ·obtain rfl:n=i:=by omega
   go_wp2_with fail
   go_ret
   have h9:=HNL.out.1.pts (E:=Eg ns out) (fun x y=>HNL.out.2.2.gf.eg x y) HLST.out
   rw [HN.out.1] at h9
   exact ⟨_,V,_,rfl,HP.out.1.pll.mono (by have:=HW1.out.2.size;have:=HWL.out.1.size;omega),h9,below_trans HW1.out.2 (below_mono HB.out HW1.out.2.size)⟩
end Go.Proofs.YtppnbdnpapellaaGreatDoor
