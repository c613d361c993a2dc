import Derived.Test.YtppnbdnpapellaaGreatDoorJLrow
set_option maxRecDepth 100000
set_option maxHeartbeats 16000000
namespace Go.Proofs.YtppnbdnpapellaaGreatDoor
open Go.RowKit
theorem el28:Tryz.prog.elem 23=27:=by kernel_rfl
theorem el28':Tryz.prog.underlying 23=some (.slice (Tryz.prog.elem 23)):=by kernel_rfl
theorem slice_lo (g o n cap:Nat) (a:Int) (k:Nat) (hk:a=k) (ha:k≤n) (hc:k < cap) (W:World):(Instr.slice 23 (.slice (some ⟨g,o,none⟩) n cap) (some (.int .i64 a)) none none).run Tryz.prog W=.ok (.slice (some ⟨g,o+k * 2,none⟩) (n - k) (cap - k)) W:=by
 subst hk
 rw [run_slice_l (P:=Tryz.prog) (w:=W) 23 _ n cap el28' .i64 (k:Int) (by omega) (by omega),el28,Tryz.sizeOf27]
 simp only [Result.andThen_ok,sliced,Int.toNat_natCast,Option.map_some,Addr.add_lit]
 rw [if_neg (by omega)]
theorem slice_hi (g o n cap:Nat) (b:Int) (k:Nat) (hk:b=k) (hb:k≤cap) (hc:cap≠0) (W:World):(Instr.slice 23 (.slice (some ⟨g,o,none⟩) n cap) none (some (.int .i64 b)) none).run Tryz.prog W=.ok (.slice (some ⟨g,o,none⟩) k cap) W:=by
 subst hk
 rw [run_slice_h (P:=Tryz.prog) (w:=W) 23 _ n cap el28' .i64 (k:Int) (by omega) (by omega),el28,Tryz.sizeOf27]
 simp only [Result.andThen_ok,sliced,Int.toNat_natCast,Option.map_some,Addr.add_lit]
 rw [if_neg hc]
 simp
theorem slice_from (v:Value) (ad:Option Addr) (n cap:Nat) (hv:v=.slice ad n cap) (a:Nat) (ha:a≤n):∃ X,∀ W,(Instr.slice 23 v (some (.int .i64 (a:Int))) none none).run Tryz.prog W=.ok X W:=by
 subst hv
 refine ⟨sliced ad a n cap 2,fun W=>?_⟩
 rw [run_slice_l (P:=Tryz.prog) (w:=W) 23 _ n cap el28' .i64 (a:Int) (by omega) (by omega),el28,Tryz.sizeOf27]
 rfl
theorem only_grown {w w':World} {v:Value} (h:w.grownBy w' v.ownBlock):Only (bl v) w w':=
 ⟨h.os,h.tape,h.output,h.size,fun k hk hn=>h.block k hk (by
  intro e;apply hn;unfold bl;rw [← e];simp)⟩
theorem wpList_copy_run {P:Program} {w:World} {ops:Array Oper} {rest:List Oper} {o:Oper} {a:Act} {Q:Exit→Act→World→Prop} (hgd:o.guard=none) (d s:Operand) (t t':TypeId)
  (ho:o.op=.call { callee:=.builtin .copy,args:=#[d,s],argTypes:=#[t,t'] }) (v u:Value) (hd:a.eval d=v) (hs:a.eval s=u) {v':Value} {w':World}
  (hr:(Builtin.copy_ #[t,t'] o.type #[v,u]).run P w=.ok v' w') (h:wpList P ops Q rest (a.put o.dst v') w'):wpList P ops Q (o::rest) a w:=by
 refine wpList_plain hgd fun K hK=>?_
 unfold Oper.wp execOp
 simp only [ho,resolve,invoke,builtin,Sem.run_bind,Sem.run_pure,Result.andThen_ok,List.map_toArray,List.map_cons,List.map_nil,hd,hs,hr]
 exact hK _ _ h
theorem step_copy_run {P:Program} {ops:Array Oper} {o:Oper} {a:Act} {w:World} {K:Act→World→Prop} {Q:Exit→Act→World→Prop} {E:Prop} (hg:o.guard=none) (d x:Operand) (dT sT:TypeId)
  (hop:o.op=.call { callee:=.builtin .copy,args:=#[d,x],argTypes:=#[dT,sT] }) (v u:Value) (hd:a.eval d=v) (hx:a.eval x=u) {v':Value} {w':World} (hr:(Builtin.copy_ #[dT,sT] o.type #[v,u]).run P w=.ok v' w') (hK:K (a.put o.dst v') w') :
  if Region.wanted o (yielded ops a.tmps)=true then Oper.wp P o a w K Q else E:=by
 have hw:Region.wanted o (yielded ops a.tmps)=true:=by simp [Region.wanted,hg]
 rw [if_pos hw]
 unfold Oper.wp execOp
 simp only [hop,resolve,invoke,builtin,Sem.run_bind,Sem.run_pure,Result.andThen_ok,List.map_toArray,List.map_cons,List.map_nil,hd,hx,hr]
 exact hK
structure VB (w:World) (vb:Nat) (f:Lb):Prop where
 blk:w.heap[vb]? = some (.cells #[.string (bs f.pkg),.string (bs f.name)] 27 (0,0))
theorem VB.lt {w:World} {vb:Nat} {f:Lb} (h:VB w vb f):vb < w.heap.size:=(Array.getElem?_eq_some_iff.1 h.blk).1
theorem VB.cells {w:World} {vb:Nat} {f:Lb} (h:VB w vb f):∀ j u,(lc [f])[j]? = some u→w.cell? ((⟨vb,0,none⟩:Addr).add j)=some u:=World.news_of_block h.blk
theorem VB.src {w:World} {vb:Nat} {f:Lb} (h:VB w vb f):Src Tryz.prog 2 23 (.slice (some ⟨vb,0,none⟩) 1 1) [f].length (lc [f]) w:=
 Src.ofSlice _ und_L ⟨vb,0,none⟩ 1 1 (lc [f]) (by simp [lc_length]) h.cells (lc_one _)
theorem VB.only {S:List Nat} {w w':World} {vb:Nat} {f:Lb} (h:VB w vb f) (ho:Only S w w') (hn:vb∉S):VB w' vb f:=⟨(ho.block vb h.lt hn).trans h.blk⟩
theorem lc_take (l:List Lb) (k:Nat) (h:k≤l.length) (r:List Value):(lc l++r).take (k * 2)=lc (l.take k):=by
 have e:lc l=lc (l.take k)++lc (l.drop k):=by rw [← lc_append,List.take_append_drop]
 have hl:(lc (l.take k)).length=k * 2:=by rw [lc_length,List.length_take];omega
 rw [e,List.append_assoc,← hl,List.take_left]
theorem lc_drop (l:List Lb) (k:Nat) (h:k≤l.length) (r:List Value):(lc l++r).drop (k * 2)=lc (l.drop k)++r:=by
 have e:lc l=lc (l.take k)++lc (l.drop k):=by rw [← lc_append,List.take_append_drop]
 have hl:(lc (l.take k)).length=k * 2:=by rw [lc_length,List.length_take];omega
 rw [e,List.append_assoc,← hl,List.drop_left]
theorem OL.copy {base:Nat} {w:World} {g cap:Nat} {L:List Lb} {rest:List Value} (h:OL base w g cap L rest) (o dLen dCap:Nat) (sad:Addr) (sLen sCap:Nat) (k:List Lb) (hk:k.length=Nat.min sLen dLen)
  (hsrc:∀ j u,(lc k)[j]? = some u→w.cell? (sad.add j)=some u) (hfit:o+k.length≤L.length) :
  ∃ w',(∀ ty,(Builtin.copy_ #[23,23] ty #[.slice (some ⟨g,o * 2,none⟩) dLen dCap,.slice (some sad) sLen sCap]).run Tryz.prog w=.ok (goInt (Nat.min sLen dLen:Nat)) w')∧OL base w' g cap (L.take o++k++L.drop (o+k.length)) rest∧Only [g] w w':=by
 have hsz:=h.sz
 refine ⟨_,fun ty=>run_copy_f w ty g (o * 2) dLen dCap sad sLen sCap _ (lc k) h.blk (by rw [lc_length,hk]) hsrc (by simp [lc_length];omega) (lc_one k),?_,only_row _ _ _⟩
 refine h.row (by simp;omega) ?_
 show (lc L++rest).take (o * 2)++lc k++(lc L++rest).drop (o * 2+(lc k).length)=_
 rw [lc_length,← Nat.add_mul,lc_take L o (by omega),lc_drop L (o+k.length) hfit,lc_append,lc_append]
 simp
theorem OL.up {base:Nat} {w:World} {g cap:Nat} {l:List Lb} {rest:List Value} (h:OL base w g cap l rest) (a:Nat) (ha:a < l.length) (hroom:l.length+1≤cap) (dCap sCap:Nat) :
  ∃ w',(∀ ty,(Builtin.copy_ #[23,23] ty #[.slice (some ⟨g,(a+1) * 2,none⟩) (l.length+1 - (a+1)) dCap,.slice (some ⟨g,a * 2,none⟩) (l.length+1 - a) sCap]).run Tryz.prog w=.ok (goInt ((l.length - a:Nat))) w')∧OL base w' g cap (l.take (a+1)++l.drop a) (rest.drop 2)∧Only [g] w w':=by
 have hsz:=h.sz
 have hmin:Nat.min (l.length+1 - a) (l.length+1 - (a+1))=l.length - a:=by show min _ _=_;omega
 have hr:=fun ty=>run_copy_f w ty g ((a+1) * 2) (l.length+1 - (a+1)) dCap ⟨g,a * 2,none⟩ (l.length+1 - a) sCap _ (lc (l.drop a)) h.blk (by rw [lc_length,hmin,List.length_drop]) (fun j u hu=>by
  rw [add_lit]
  have hc:=h.blk
  have e:(lc l++rest)[a * 2+j]? = some u:=by
   have e1:=lc_drop l a (by omega) rest
   have e2:((lc l++rest).drop (a * 2))[j]? = some u:=by
    rw [e1,List.getElem?_append_left (by have:=(List.getElem?_eq_some_iff.1 hu).1;exact this)];exact hu
   rwa [List.getElem?_drop] at e2
  simp only [World.cell?,hc]
  simpa using e) (by simp [lc_length];omega) (lc_one _)
 rw [hmin] at hr
 refine ⟨_,hr,?_,only_row _ _ _⟩
 refine h.row (by simp;omega) ?_
 show (lc l++rest).take ((a+1) * 2)++lc (l.drop a)++(lc l++rest).drop ((a+1) * 2+(lc (l.drop a)).length)=_
 rw [lc_take l (a+1) (by omega),lc_length,List.length_drop,lc_append]
 congr 1
 rw [show (a+1) * 2+(l.length - a) * 2=(lc l).length+2 by rw [lc_length];omega,List.drop_append]
 simp
theorem lc_zero:∀ (n i:Nat),i < n * 2→(lc (List.replicate n zl))[i]? = some ((Value.agg #[.string ⟨#[]⟩,.string ⟨#[]⟩]).cells[i % 2]!)
 | 0,i,h=>by omega
 | n+1,i,h=>by
  rw [List.replicate_succ,lc]
  match i,h with
  | 0,_=>rfl
  | 1,_=>rfl
  | i+2,h=>
   have:=lc_zero n i (by omega)
   simp only [List.getElem?_cons_succ]
   rw [this,Nat.add_mod_right]
theorem zeros_lc (n:Nat):(Builtin.zeroCells (Value.agg #[.string ⟨#[]⟩,.string ⟨#[]⟩]).cells n).toList=lc (List.replicate n zl):=by
 apply List.ext_getElem?
 intro i
 have hs:(Value.agg #[.string ⟨#[]⟩,.string ⟨#[]⟩]).cells.size=2:=rfl
 by_cases h:i < n * 2
 ·rw [lc_zero n i h]
  unfold Builtin.zeroCells
  rw [hs]
  simp [h]
 ·rw [List.getElem?_eq_none (by rw [Array.length_toList,size_zeroCells,hs];omega),List.getElem?_eq_none (by rw [lc_length,List.length_replicate];omega)]
theorem OL.grow {base:Nat} {w:World} {g cap:Nat} {l:List Lb} {rest:List Value} (h:OL base w g cap l rest) (a k:Nat) (ha:a≤l.length) (hk:0 < k) (hc:cap < a+k) (hb:(a+k) * 32≤140737488355328) (hbase:base≤w.heap.size) (x:Int) (hx:x=(k:Int)) :
  ∃ w' C rest',(∀ ty,(Builtin.append_ #[23,3] ty #[.slice (some ⟨g,0,none⟩) a cap,.int .i64 x]).run Tryz.prog w=.ok (.slice (some ⟨w.heap.size,0,none⟩) (a+k) C) w')∧OL base w' w.heap.size C (l.take a++List.replicate k zl) rest'∧Below w.heap.size w w':=by
 subst hx
 obtain ⟨i,hi,hz,hs,hby⟩:=info_parts info_L
 have hold:(Builtin.firstCells i.size a (.slice (some ⟨g,0,none⟩) a cap)).run Tryz.prog w.drew=.ok (lc (l.take a)).toArray w.drew:=by
  rw [hs]
  refine run_firstCells_some w.drew 2 a ⟨g,0,none⟩ a cap (lc (l.take a)) (by rw [lc_length,List.length_take];omega) (fun j u hu=>?_)
  rw [add_lit]
  have hbk:=h.blk
  have e:(lc l++rest)[j]? = some u:=by
   have e1:=lc_take l a ha rest
   rw [← e1,List.getElem?_take] at hu
   split at hu
   ·exact hu
   ·simp at hu
  show w.cell? ⟨g,0+j,none⟩=some u
  simp only [World.cell?,hbk,Nat.zero_add]
  simpa using e
 have hge:=grownCap_ge w (a+k) cap 27
 have hcm:grownCap w (a+k) cap 27≤maxLen:=grownCap_le_maxLen w (a+k) cap 27 (by simp only [maxLen];omega)
 refine ⟨_,_,lc (List.replicate (grownCap w (a+k) cap 27 - (a+k)) zl),fun ty=>Lib.run_append_grow_zeros w 23 3 ty 27 i _ .i64 .i64 und_L (by kernel_rfl) hi hz (some ⟨g,0,none⟩) a cap (lc (l.take a)) hold k hk (by rw [hs];omega) hc (by omega) (by rw [hby];omega) (by rw [hby];exact growslice_fits hc hb),?_,?_⟩
 ·refine ⟨?_,hbase,hcm,by simp [lc_length];omega⟩
  refine (heap_alloc_new w.drew _).trans (congrArg (fun c=>some (Obj.cells c 27 (0,0))) ?_)
  apply Array.toList_inj.1
  simp only [Array.toList_append,zeros_lc]
  rw [lc_append]
 ·exact (Below.refl _ _).drew.alloc (Nat.le_refl _) _
theorem mid_list (l:List Lb) (f:Lb) (a:Nat) (ha:a < l.length):(l.take (a+1)++l.drop a).take a++[f]++(l.take (a+1)++l.drop a).drop (a+1)=l.take a++f::l.drop a:=by
 have h1:(l.take (a+1)).length=a+1:=by simp;omega
 rw [List.take_append_of_le_length (by omega),List.take_take,Nat.min_eq_left (by omega),List.drop_left' h1]
 simp
theorem insert_end {base:Nat} {w:World} {v:Value} {l:List Lb} (h:OwnL base w v l) (f:Lb) (vb:Nat) (hv:VB w vb f) (hl:l.length+1≤100000000) (hbase:base≤w.heap.size) :
  Calls Tryz.prog 88 #[v,.int .i64 (l.length:Int),.slice (some ⟨vb,0,none⟩) 1 1] w fun e w'=>∃ v',e=.returned v'∧OwnL base w' v' (l++[f])∧Only (bl v) w w'∧(v'.ownBlock=v.ownBlock∨v'.ownBlock=some w.heap.size):=by
 have H:Hid (OwnL base w v l∧VB w vb f):=⟨h,hv⟩
 obtain ⟨ad,cap,rfl⟩:=h.form
 obtain ⟨X,hX⟩:=slice_from _ ad l.length cap rfl l.length (Nat.le_refl _)
 clear h hv
 obtain ⟨n,hn⟩:∃ n,l.length=n:=⟨_,rfl⟩
 have HN:Hid (l.length=n):=hn
 have H':Hid (OwnL base w (.slice ad n cap) l):=by rw [← hn];exact H.out.1
 have HV:Hid (VB w vb f):=H.out.2
 clear H
 rw [hn] at hX hl ⊢
 clear hn
 go_enter Tryz.func88,Tryz.ntmps88
 go_wp2_with (first | (at_builtin;refine app_Lt und_L (base:=base) (l:=l) (k:=[f]) H'.out HV.out.src (by have:=HN.out;simp;omega) hbase rfl (.tmp 23) (.tmp 24) rfl rfl rfl ?_;intro v2 w2 ho2 hg2 hv2))
 go_ret
 exact ⟨v2,rfl,ho2,only_grown hg2,hv2⟩
theorem insert_room {base:Nat} {w:World} {g cap:Nat} {l:List Lb} {rest:List Value} (h:OL base w g cap l rest) (f:Lb) (vb:Nat) (hv:VB w vb f) (hne:vb≠g) (a:Nat) (ha:a < l.length) (hroom:l.length+1≤cap) (hl:l.length≤100000000) :
  Calls Tryz.prog 88 #[.slice (some ⟨g,0,none⟩) l.length cap,.int .i64 (a:Int),.slice (some ⟨vb,0,none⟩) 1 1] w fun e w'=>∃ v',e=.returned v'∧OwnL base w' v' (l.take a++f::l.drop a)∧Only [g] w w'∧v'.ownBlock=some g:=by
 have hcm:=h.cm
 unfold maxLen at hcm
 have hd:OL base w.drew g cap l rest:=⟨h.blk,h.ge,h.cm,h.sz⟩
 obtain ⟨w1,hcp1,hof1,ho1⟩:=hd.up a ha hroom (cap - (a+1)) (cap - a)
 have hvd:VB w.drew vb f:=⟨hv.blk⟩
 have hv1:VB w1 vb f:=hvd.only ho1 (by simpa using hne)
 obtain ⟨w2,hcp2,hof2,ho2⟩:=hof1.copy a (l.length+1 - a) (cap - a) ⟨vb,0,none⟩ 1 1 [f] (by show 1=min _ _;omega) hv1.cells (by simp;omega)
 rw [show a+[f].length=a+1 from rfl,mid_list l f a ha] at hof2
 have H:Hid (OL base w2 g cap (l.take a++f::l.drop a) (rest.drop 2)∧Only [g] w w2):=⟨hof2,(Only.drew _ w 1).trans (ho1.trans ho2)⟩
 have hlen:(l.take a++f::l.drop a).length=l.length+1:=by simp;omega
 have HL:Hid ((l.take a++f::l.drop a).length=l.length+1):=hlen
 obtain ⟨X,hX⟩:=slice_from _ (some ⟨g,0,none⟩) l.length cap rfl a (by omega)
 have hs0:=slice_hi g 0 l.length cap ((l.length:Int)+1) (l.length+1) (by omega) (by omega) (by omega)
 have hs1:=slice_lo g 0 (l.length+1) cap ((a:Int)+1) (a+1) (by omega) (by omega) (by omega)
 have hs2:=slice_lo g 0 (l.length+1) cap (a:Int) a rfl (by omega) (by omega)
 have hov:∀ lb cb,(callFunc 134 #[.slice (some ⟨vb,0,none⟩) 1 1,.slice (some ⟨g,(a+1) * 2,none⟩) lb cb]).run Tryz.prog w=.ok (.value (.bool false)) w:=fun lb cb=>by
  rw [run_callFunc_extern Tryz.func134 (by kernel_rfl) (by kernel_rfl) (by kernel_rfl) (e:=Extern.SlicesOverlaps.overlaps #[23,23] #[2]) (by kernel_rfl),
   Lib.run_overlaps_apart w 23 2 27 und_L 2 Tryz.sizeOf27 ⟨vb,0,none⟩ ⟨g,(a+1) * 2,none⟩ 1 1 lb cb hne 27 27 2 (cap * 2) (by simp [World.shape?,hv.blk]) (by have:=h.blk;have:=h.sz;simp [World.shape?,h.blk,lc_length];omega) (by omega) (by simp [World.frozen?,hv.blk]) (by simp [World.frozen?,hv.blk])]
  rfl
 simp only [Nat.zero_add] at hs1 hs2
 obtain ⟨n,hn⟩:∃ n,l.length=n:=⟨_,rfl⟩
 rw [hn] at ha hroom hl hcp1 hcp2 HL hX hs0 hs1 hs2 ⊢
 obtain ⟨D1,hD1⟩:∃ D1,Value.slice (some ⟨g,(a+1) * 2,none⟩) (n+1 - (a+1)) (cap - (a+1))=D1:=⟨_,rfl⟩
 obtain ⟨D2,hD2⟩:∃ D2,Value.slice (some ⟨g,a * 2,none⟩) (n+1 - a) (cap - a)=D2:=⟨_,rfl⟩
 have hov2:(callFunc 134 #[.slice (some ⟨vb,0,none⟩) 1 1,D1]).run Tryz.prog w=.ok (.value (.bool false)) w:=by rw [← hD1];exact hov _ _
 rw [hD1] at hcp1 hs1
 rw [hD2] at hcp1 hcp2 hs2
 have KS0:w.cell? ⟨vb,0,none⟩=some (.string (bs f.pkg)):=by simp [World.cell?,hv.blk]
 have KS1:w1.cell? ⟨vb,0,none⟩=some (.string (bs f.pkg)):=by simp [World.cell?,hv1.blk]
 clear hn h hv hvd hd hof1 ho1 hv1 hof2 ho2 hlen hov hD1 hD2
 have k1:¬ ((a:Int)=(n:Int)):=by omega
 have k2:¬ ((cap:Int) < (n:Int)+1):=by omega
 have k3:(n:Int)+1≤(cap:Int):=by omega
 have k4:IntKind.i64.wrap ((a:Int)+1)=(a:Int)+1:=by rw [IntKind.wrap_i64];omega
 go_enter Tryz.func88,Tryz.ntmps88
 go_wp2_with (simp only [hov2])
 go_region_held3 (fun w'=>w'.cell? ⟨vb,0,none⟩=some (.string (bs f.pkg))) (first | (with_reducible exact KS1) | go_keep) (first | (refine step_copy_run rfl (.tmp 73) (.tmp 76) 23 23 rfl D1 D2 rfl rfl (hcp1 _) ?_))
 go_wp2_with (first | (at_builtin;refine wpList_copy_run rfl (.tmp 80) (.tmp 81) 23 23 rfl D2 (.slice (some ⟨vb,0,none⟩) 1 1) rfl rfl (hcp2 _) ?_))
 go_ret
 refine ⟨.slice (some ⟨g,0,none⟩) (n+1) cap,rfl,?_,H.out.2,rfl⟩
 rw [← HL.out]
 exact H.out.1.own
theorem grow_list (l:List Lb) (f:Lb) (a:Nat) (ha:a < l.length) :
  (l.take a++List.replicate (l.length+1 - a) zl).take a++[f]++(l.take a++List.replicate (l.length+1 - a) zl).drop (a+1)=l.take a++[f]++List.replicate (l.length - a) zl:=by
 have h1:(l.take a).length=a:=by simp;omega
 rw [List.take_left' h1]
 congr 1
 rw [List.drop_append,h1,List.drop_eq_nil_of_le (by omega),List.drop_replicate]
 simp only [List.nil_append]
 congr 1
 omega
theorem grow_list2 (l:List Lb) (f:Lb) (a:Nat) (ha:a < l.length) :
  (l.take a++[f]++List.replicate (l.length - a) zl).take (a+1)++l.drop a++(l.take a++[f]++List.replicate (l.length - a) zl).drop (a+1+(l.length - a))=l.take a++f::l.drop a:=by
 have h1:(l.take a++[f]).length=a+1:=by simp;omega
 have h2:(l.take a++[f]++List.replicate (l.length - a) zl).length≤a+1+(l.length - a):=by simp;omega
 rw [List.take_left' h1,List.drop_eq_nil_of_le h2]
 simp
theorem OL.from {base:Nat} {w:World} {g cap:Nat} {l:List Lb} {rest:List Value} (h:OL base w g cap l rest) (a:Nat) (ha:a≤l.length):∀ j u,(lc (l.drop a))[j]? = some u→w.cell? ((⟨g,a * 2,none⟩:Addr).add j)=some u:=fun j u hu=>by
 rw [add_lit]
 have hc:=h.blk
 have e:(lc l++rest)[a * 2+j]? = some u:=by
  have e1:=lc_drop l a ha rest
  have e2:((lc l++rest).drop (a * 2))[j]? = some u:=by
   rw [e1,List.getElem?_append_left (by have:=(List.getElem?_eq_some_iff.1 hu).1;exact this)];exact hu
  rwa [List.getElem?_drop] at e2
 simp only [World.cell?,hc]
 simpa using e
theorem insert_grow {base:Nat} {w:World} {g cap:Nat} {l:List Lb} {rest:List Value} (h:OL base w g cap l rest) (f:Lb) (vb:Nat) (hv:VB w vb f) (_hne:vb≠g) (a:Nat) (ha:a < l.length) (hroom:cap < l.length+1) (hl:l.length≤100000000) (hbase:base≤w.heap.size) :
  Calls Tryz.prog 88 #[.slice (some ⟨g,0,none⟩) l.length cap,.int .i64 (a:Int),.slice (some ⟨vb,0,none⟩) 1 1] w fun e w'=>∃ v',e=.returned v'∧OwnL base w' v' (l.take a++f::l.drop a)∧Only [g] w w'∧v'.ownBlock=some w.heap.size:=by
 have hcm:=h.cm
 unfold maxLen at hcm
 have hlc:=h.len
 obtain ⟨w1,C,rest1,hap,hof1,hb1⟩:=h.grow a (l.length+1 - a) (by omega) (by omega) (by omega) (by omega) hbase ((l.length:Int)+1 - a) (by omega)
 have hC:=hof1.len
 have hCm:=hof1.cm
 unfold maxLen at hCm
 have hv1:VB w1 vb f:=hv.only (Only.of_below hb1 []) (by simp)
 rw [show a+(l.length+1 - a)=l.length+1 by omega] at hap
 have hl1:(l.take a++List.replicate (l.length+1 - a) zl).length=l.length+1:=by simp;omega
 rw [hl1] at hC
 obtain ⟨w2,hcp1,hof2,ho2⟩:=hof1.copy a (l.length+1 - a) (C - a) ⟨vb,0,none⟩ 1 1 [f] (by show 1=min _ _;omega) hv1.cells (by rw [hl1];simp;omega)
 rw [show a+[f].length=a+1 from rfl,grow_list l f a ha] at hof2
 have hgw:=h.lt
 have hg2:OL base w2.drew g cap l rest:=by
  have e1:=(h.later hb1).only ho2 (by simp;omega)
  exact ⟨e1.blk,e1.ge,e1.cm,e1.sz⟩
 have hof2d:OL base w2.drew w.heap.size C (l.take a++[f]++List.replicate (l.length - a) zl) rest1:=⟨hof2.blk,hof2.ge,hof2.cm,hof2.sz⟩
 obtain ⟨w3,hcp2,hof3,ho3⟩:=hof2d.copy (a+1) (l.length+1 - (a+1)) (C - (a+1)) ⟨g,a * 2,none⟩ (l.length - a) (cap - a) (l.drop a) (by rw [List.length_drop];show _=min _ _;omega) (hg2.from a (by omega)) (by simp;omega)
 rw [List.length_drop,grow_list2 l f a ha] at hof3
 have HO:Hid (Only [g] w w3):=by
  refine ⟨?_,?_,?_,?_,?_⟩
  ·exact ho3.os.trans (ho2.os.trans hb1.os)
  ·exact ho3.tape.trans (ho2.tape.trans hb1.tape)
  ·exact ho3.output.trans (ho2.output.trans hb1.output)
  ·exact Nat.le_trans hb1.size (Nat.le_trans ho2.size ho3.size)
  ·intro k hk hn
   have e1:=hb1.block k hk
   have e2:=ho2.block k (Nat.lt_of_lt_of_le hk hb1.size) (by simp;omega)
   have e3:=ho3.block k (Nat.lt_of_lt_of_le hk (Nat.le_trans hb1.size ho2.size)) (by simp;omega)
   exact e3.trans (e2.trans e1)
 have H:Hid (OL base w3 w.heap.size C (l.take a++f::l.drop a) rest1):=hof3
 have hlen:(l.take a++f::l.drop a).length=l.length+1:=by simp;omega
 have HL:Hid ((l.take a++f::l.drop a).length=l.length+1):=hlen
 have hX:=slice_lo g 0 l.length cap (a:Int) a rfl (by omega) (by omega)
 have hs0:=slice_hi g 0 l.length cap (a:Int) a rfl (by omega) (by omega)
 have hs1:=slice_lo w.heap.size 0 (l.length+1) C (a:Int) a rfl (by omega) (by omega)
 have hs2:=slice_lo w.heap.size 0 (l.length+1) C ((a:Int)+1) (a+1) (by omega) (by omega) (by omega)
 simp only [Nat.zero_add] at hs1 hs2 hX
 obtain ⟨n,hn⟩:∃ n,l.length=n:=⟨_,rfl⟩
 rw [hn] at ha hroom hl hlc hC hap hcp1 hcp2 HL hX hs0 hs1 hs2 ⊢
 obtain ⟨X,hXX⟩:∃ X,Value.slice (some ⟨g,a * 2,none⟩) (n - a) (cap - a)=X:=⟨_,rfl⟩
 obtain ⟨D1,hD1⟩:∃ D1,Value.slice (some ⟨w.heap.size,a * 2,none⟩) (n+1 - a) (C - a)=D1:=⟨_,rfl⟩
 obtain ⟨D2,hD2⟩:∃ D2,Value.slice (some ⟨w.heap.size,(a+1) * 2,none⟩) (n+1 - (a+1)) (C - (a+1))=D2:=⟨_,rfl⟩
 rw [hXX] at hX hcp2
 rw [hD1] at hs1 hcp1
 rw [hD2] at hs2 hcp2
 have hv2:VB w2 vb f:=hv1.only ho2 (by have:=hv.lt;simp;omega)
 have hv2d:VB w2.drew vb f:=⟨hv2.blk⟩
 have hv3:VB w3 vb f:=hv2d.only ho3 (by have:=hv.lt;simp;omega)
 have KS0:w2.cell? ⟨vb,0,none⟩=some (.string (bs f.pkg)):=by simp [World.cell?,hv2.blk]
 have KS1:w3.cell? ⟨vb,0,none⟩=some (.string (bs f.pkg)):=by simp [World.cell?,hv3.blk]
 clear hn h hv hv2 hv2d hv3 hof1 hv1 hof2 ho2 hlen hXX hD1 hD2 hof2d hof3 ho3 hg2 hb1 hl1
 have k1:¬ ((a:Int)=(n:Int)):=by omega
 have k2:(cap:Int) < (n:Int)+1:=by omega
 have k3:IntKind.i64.wrap ((n:Int)+1 - (a:Int))=(n:Int)+1 - (a:Int):=by rw [IntKind.wrap_i64];omega
 have k4:IntKind.i64.wrap ((a:Int)+1)=(a:Int)+1:=by rw [IntKind.wrap_i64];omega
 go_enter Tryz.func88,Tryz.ntmps88
 go_wp2_with (first | (at_builtin;refine Lib.wpList_append_run _ rfl (.tmp 34) (.tmp 39) 23 3 rfl _ _ rfl rfl _ _ (hap _) ?_) | (at_builtin;refine wpList_copy_run rfl (.tmp 43) (.tmp 44) 23 23 rfl D1 (.slice (some ⟨vb,0,none⟩) 1 1) rfl rfl (hcp1 _) ?_))
 go_region_held3 (fun w'=>w'.cell? ⟨vb,0,none⟩=some (.string (bs f.pkg))) (first | (with_reducible exact KS1) | go_keep) (first | (refine step_copy_run rfl (.tmp 50) (.tmp 53) 23 23 rfl D2 X rfl rfl (hcp2 _) ?_))
 go_wp2_with fail
 go_ret
 refine ⟨.slice (some ⟨w.heap.size,0,none⟩) (n+1) C,rfl,?_,HO.out,rfl⟩
 rw [← HL.out]
 exact H.out.own
theorem insert_f {base:Nat} {w:World} {v:Value} {l:List Lb} (h:OwnL base w v l) (f:Lb) (vb:Nat) (hv:VB w vb f) (hne:v.ownBlock≠some vb) (a:Nat) (ha:a≤l.length) (hl:l.length+1≤100000000) (hbase:base≤w.heap.size) :
  Calls Tryz.prog 88 #[v,.int .i64 (a:Int),.slice (some ⟨vb,0,none⟩) 1 1] w fun e w'=>∃ v',e=.returned v'∧OwnL base w' v' (l.take a++f::l.drop a)∧Only (bl v) w w'∧(v'.ownBlock=v.ownBlock∨v'.ownBlock=some w.heap.size):=by
 rcases Nat.lt_or_eq_of_le ha with hlt | rfl
 ·rcases OL.of h with ⟨_,rfl⟩ | ⟨g,cap,rest,rfl,hof⟩
  ·simp at hlt
  ·have hg:vb≠g:=fun e=>hne (by rw [e];rfl)
   by_cases hroom:l.length+1≤cap
   ·refine (insert_room hof f vb hv hg a hlt hroom (by omega)).mono ?_
    rintro e w' ⟨v',rfl,h1,h2,h3⟩
    exact ⟨v',rfl,h1,h2,.inl h3⟩
   ·refine (insert_grow hof f vb hv hg a hlt (by omega) (by omega) hbase).mono ?_
    rintro e w' ⟨v',rfl,h1,h2,h3⟩
    exact ⟨v',rfl,h1,h2,.inr h3⟩
 ·refine (insert_end h f vb hv hl hbase).mono ?_
  rintro e w' ⟨v',rfl,h1,h2,h3⟩
  refine ⟨v',rfl,?_,h2,h3⟩
  rw [List.take_of_length_le (Nat.le_refl _),List.drop_eq_nil_of_le (Nat.le_refl _)]
  exact h1
end Go.Proofs.YtppnbdnpapellaaGreatDoor
