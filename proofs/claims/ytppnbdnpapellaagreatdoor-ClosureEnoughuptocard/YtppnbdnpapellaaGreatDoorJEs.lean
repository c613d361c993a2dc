import Derived.Test.YtppnbdnpapellaaGreatDoorJRw
import Derived.BigRegion
import Derived.WalkMore
import Derived.BigQuiet
set_option maxRecDepth 100000
set_option maxHeartbeats 16000000
namespace Go.Proofs.YtppnbdnpapellaaGreatDoor
section
open Go.RowKit Go.Maps
structure SK where
 sb:Nat
 gm:Nat
 ge:Nat
 gl:Nat
 n:Nat
 vo:Value
 out:Nat→List Nat
def RO (w:World) (v:Value) (n:Nat) (out:Nat→List Nat):Prop:=
 ∃ go,v=.slice (some ⟨go,0,none⟩) n n∧go < w.heap.size∧∀ i,i < n→∃ vi,w.cell? ⟨go,i,none⟩=some vi∧IS w vi (out i)
structure SF (w0:World) (K:SK):Prop where
 ro:RO w0 K.vo K.n K.out
 sz:K.n≤2000000
 me:K.gm≠K.ge
 ml:K.gm≠K.gl
 el:K.ge≠K.gl
 sm:K.sb≠K.gm
 se:K.sb≠K.ge
 sl:K.sb≠K.gl
 b1:w0.heap.size≤K.sb
 b2:w0.heap.size≤K.gm
 b3:w0.heap.size≤K.ge
 b4:w0.heap.size≤K.gl
 ol:∀ x,(K.out x).length≤K.n
 os:∀ x,∀ y∈K.out x,y < K.n
abbrev arr (n:Nat) (f:Nat→Nat):Obj:=.cells (nv (nf n f)).toArray 3 (0,0)
structure SE (w0:World) (K:SK) (vp:Value) (s:Tj.St) (w:World):Prop where
 b0:Below w0.heap.size w0 w
 blk:w.heap[K.sb]? = some (.cells #[K.vo,.slice (some ⟨K.gm,0,none⟩) K.n K.n,.slice (some ⟨K.ge,0,none⟩) K.n K.n,.slice (some ⟨K.gl,0,none⟩) K.n K.n,vp,.int .i64 (s.cnt:Int)] 224 (0,0))
 rm:w.heap[K.gm]? = some (arr K.n s.met)
 re:w.heap[K.ge]? = some (arr K.n s.early)
 rl:w.heap[K.gl]? = some (arr K.n s.least)
 rp:w.ownsRow w0.heap.size 3 1 vp s.op.length (nv s.op)
 pn:∀ k,vp.ownBlock=some k→k≠K.sb∧k≠K.gm∧k≠K.ge∧k≠K.gl
abbrev sF (K:SK) (vp:Value):Nat→Prop:=fun k=>k=K.sb∨k=K.gm∨k=K.ge∨k=K.gl∨vp.ownBlock=some k
def SX (K:SK) (vp vp':Value) (w w':World):Prop:=OnlyP (sF K vp) w w'∧∀ k,vp'.ownBlock=some k→vp.ownBlock=some k∨w.heap.size≤k
theorem SX.refl (K:SK) (vp:Value) (w:World):SX K vp vp w w:=⟨OnlyP.refl _ _,fun _ h=>.inl h⟩
theorem SX.trans {K:SK} {a b c:Value} {u v w:World} (h:SX K a b u v) (k:SX K b c v w):SX K a c u w:=by
 refine ⟨h.1.trans k.1 (fun i hi hF=>?_),fun i hi=>?_⟩
 ·rcases hF with e | e | e | e | e
  ·exact .inl e
  ·exact .inr (.inl e)
  ·exact .inr (.inr (.inl e))
  ·exact .inr (.inr (.inr (.inl e)))
  ·rcases h.2 i e with e | e
   ·exact .inr (.inr (.inr (.inr e)))
   ·omega
 ·rcases k.2 i hi with e | e
  ·exact h.2 i e
  ·exact .inr (Nat.le_trans h.1.size e)
section
variable {w0 w w':World} {K:SK} {vp:Value} {s:Tj.St}
theorem SE.slt (h:SE w0 K vp s w):K.sb < w.heap.size:=(Array.getElem?_eq_some_iff.1 h.blk).1
theorem SE.mlt (h:SE w0 K vp s w):K.gm < w.heap.size:=(Array.getElem?_eq_some_iff.1 h.rm).1
theorem SE.elt (h:SE w0 K vp s w):K.ge < w.heap.size:=(Array.getElem?_eq_some_iff.1 h.re).1
theorem SE.llt (h:SE w0 K vp s w):K.gl < w.heap.size:=(Array.getElem?_eq_some_iff.1 h.rl).1
theorem SE.c0 (h:SE w0 K vp s w):w.cell? ⟨K.sb,0,none⟩=some K.vo:=by simp [World.cell?,h.blk]
theorem SE.c1 (h:SE w0 K vp s w):w.cell? ⟨K.sb,1,none⟩=some (.slice (some ⟨K.gm,0,none⟩) K.n K.n):=by simp [World.cell?,h.blk]
theorem SE.c2 (h:SE w0 K vp s w):w.cell? ⟨K.sb,2,none⟩=some (.slice (some ⟨K.ge,0,none⟩) K.n K.n):=by simp [World.cell?,h.blk]
theorem SE.c3 (h:SE w0 K vp s w):w.cell? ⟨K.sb,3,none⟩=some (.slice (some ⟨K.gl,0,none⟩) K.n K.n):=by simp [World.cell?,h.blk]
theorem SE.c4 (h:SE w0 K vp s w):w.cell? ⟨K.sb,4,none⟩=some vp:=by simp [World.cell?,h.blk]
theorem SE.c5 (h:SE w0 K vp s w):w.cell? ⟨K.sb,5,none⟩=some (.int .i64 (s.cnt:Int)):=by simp [World.cell?,h.blk]
theorem SE.soft (h:SE w0 K vp s w) (o:Nat):w.frozen? ⟨K.sb,o,none⟩=false:=by simp [World.frozen?,h.blk]
theorem arr_cell {g n:Nat} {f:Nat→Nat} (h:w.heap[g]? = some (arr n f)) {a:Nat} (ha:a < n):w.cell? ⟨g,a,none⟩=some (.int .i64 (f a:Int)):=by
 have h1:=nf_get (f:=f) ha
 simp only [World.cell?,h]
 simpa using h1
theorem arr_soft {g n:Nat} {f:Nat→Nat} (h:w.heap[g]? = some (arr n f)) (o:Nat):w.frozen? ⟨g,o,none⟩=false:=by simp [World.frozen?,h]
theorem arr_set {g n:Nat} {f:Nat→Nat} (h:w.heap[g]? = some (arr n f)) (a x:Nat):(w.setCell ⟨g,a,none⟩ (.int .i64 (x:Int))).heap[g]? = some (arr n (Tj.upd f a x)):=by
 rw [heap_setCell w g a _ h]
 congr 2
 apply Array.toList_inj.1
 simp only [Array.toList_setIfInBounds]
 exact nf_set
theorem SE.later (h:SE w0 K vp s w) (hb:Below w.heap.size w w'):SE w0 K vp s w':=
 ⟨below_trans h.b0 (below_mono hb h.b0.size),(hb.block _ h.slt).trans h.blk,(hb.block _ h.mlt).trans h.rm,(hb.block _ h.elt).trans h.re,(hb.block _ h.llt).trans h.rl,row_later h.rp hb,h.pn⟩
theorem SE.only {S:List Nat} (h:SE w0 K vp s w) (ho:Only S w w') (hS:∀ k∈S,w0.heap.size≤k) (hs:K.sb∉S) (hm:K.gm∉S) (he:K.ge∉S) (hl:K.gl∉S) (hp:∀ k,vp.ownBlock=some k→k∉S):SE w0 K vp s w':=
 ⟨below_trans h.b0 ((OnlyP.of_only (F:=fun k=>k∈S) ho (fun _ hk _=>hk)).below h.b0.size hS),(ho.block _ h.slt hs).trans h.blk,(ho.block _ h.mlt hm).trans h.rm,(ho.block _ h.elt he).trans h.re,(ho.block _ h.llt hl).trans h.rl,row_only h.rp ho hp,h.pn⟩
theorem only_b0 {S:List Nat} (h:SE w0 K vp s w) (ho:Only S w w') (hS:∀ k∈S,w0.heap.size≤k):Below w0.heap.size w0 w':=
 below_trans h.b0 ((OnlyP.of_only (F:=fun k=>k∈S) ho (fun _ hk _=>hk)).below h.b0.size hS)
theorem SE.setm (hF:SF w0 K) (h:SE w0 K vp s w) (a x:Nat):SE w0 K vp { s with met:=Tj.upd s.met a x } (w.setCell ⟨K.gm,a,none⟩ (.int .i64 (x:Int))):=by
 have ho:=Only.set w K.gm a (.int .i64 (x:Int))
 exact ⟨only_b0 h ho (by simpa using hF.b2),(ho.block _ h.slt (by simpa using hF.sm)).trans h.blk,arr_set h.rm a x,(ho.block _ h.elt (by simpa using hF.me.symm)).trans h.re,(ho.block _ h.llt (by simpa using hF.ml.symm)).trans h.rl,row_only h.rp ho (fun k hk=>by simpa using (h.pn k hk).2.1),h.pn⟩
theorem SE.sete (hF:SF w0 K) (h:SE w0 K vp s w) (a x:Nat):SE w0 K vp { s with early:=Tj.upd s.early a x } (w.setCell ⟨K.ge,a,none⟩ (.int .i64 (x:Int))):=by
 have ho:=Only.set w K.ge a (.int .i64 (x:Int))
 exact ⟨only_b0 h ho (by simpa using hF.b3),(ho.block _ h.slt (by simpa using hF.se)).trans h.blk,(ho.block _ h.mlt (by simpa using hF.me)).trans h.rm,arr_set h.re a x,(ho.block _ h.llt (by simpa using hF.el.symm)).trans h.rl,row_only h.rp ho (fun k hk=>by simpa using (h.pn k hk).2.2.1),h.pn⟩
theorem SE.setl (hF:SF w0 K) (h:SE w0 K vp s w) (a x:Nat):SE w0 K vp { s with least:=Tj.upd s.least a x } (w.setCell ⟨K.gl,a,none⟩ (.int .i64 (x:Int))):=by
 have ho:=Only.set w K.gl a (.int .i64 (x:Int))
 exact ⟨only_b0 h ho (by simpa using hF.b4),(ho.block _ h.slt (by simpa using hF.sl)).trans h.blk,(ho.block _ h.mlt (by simpa using hF.ml)).trans h.rm,(ho.block _ h.elt (by simpa using hF.el)).trans h.re,arr_set h.rl a x,row_only h.rp ho (fun k hk=>by simpa using (h.pn k hk).2.2.2),h.pn⟩
theorem SE.setc (hF:SF w0 K) (h:SE w0 K vp s w) (x:Nat):SE w0 K vp { s with cnt:=x } (w.setCell ⟨K.sb,5,none⟩ (.int .i64 (x:Int))):=by
 have ho:=Only.set w K.sb 5 (.int .i64 (x:Int))
 refine ⟨only_b0 h ho (by simpa using hF.b1),?_,(ho.block _ h.mlt (by simpa using hF.sm.symm)).trans h.rm,(ho.block _ h.elt (by simpa using hF.se.symm)).trans h.re,(ho.block _ h.llt (by simpa using hF.sl.symm)).trans h.rl,row_only h.rp ho (fun k hk=>by simpa using (h.pn k hk).1),h.pn⟩
 rw [heap_setCell w K.sb 5 _ h.blk]
 rfl
theorem SE.setp (hF:SF w0 K) (h:SE w0 K vp s w) {v':Value} {l:List Nat} (hr:w.ownsRow w0.heap.size 3 1 v' l.length (nv l)) (hn:∀ k,v'.ownBlock=some k→k≠K.sb∧k≠K.gm∧k≠K.ge∧k≠K.gl):SE w0 K v' { s with op:=l } (w.setCell ⟨K.sb,4,none⟩ v'):=by
 have ho:=Only.set w K.sb 4 v'
 refine ⟨only_b0 h ho (by simpa using hF.b1),?_,(ho.block _ h.mlt (by simpa using hF.sm.symm)).trans h.rm,(ho.block _ h.elt (by simpa using hF.se.symm)).trans h.re,(ho.block _ h.llt (by simpa using hF.sl.symm)).trans h.rl,row_only hr ho (fun k hk=>by simpa using (hn k hk).1),hn⟩
 rw [heap_setCell w K.sb 4 _ h.blk]
 rfl
theorem SE.app4 (h:SE w0 K vp s w) {o:Obj} (hg:(w.alloc o).grownBy w' vp.ownBlock):w'.cell? ⟨K.sb,4,none⟩=some vp∧w'.frozen? ⟨K.sb,4,none⟩=false∧w'.heap[K.sb]? = w.heap[K.sb]?∧w'.heap[K.gm]? = w.heap[K.gm]?∧w'.heap[K.ge]? = w.heap[K.ge]?∧w'.heap[K.gl]? = w.heap[K.gl]?:=by
 have ho:Only vp.ownBlock.toList w w':=only_alloc hg
 have hn:∀ k,k∈vp.ownBlock.toList→vp.ownBlock=some k:=fun k hk=>by simpa using hk
 have e1:=ho.block K.sb h.slt (fun e=>(h.pn _ (hn _ e)).1 rfl)
 have hb:=e1.trans h.blk
 exact ⟨by simp [World.cell?,hb],by simp [World.frozen?,hb],e1,ho.block K.gm h.mlt (fun e=>(h.pn _ (hn _ e)).2.1 rfl),ho.block K.ge h.elt (fun e=>(h.pn _ (hn _ e)).2.2.1 rfl),ho.block K.gl h.llt (fun e=>(h.pn _ (hn _ e)).2.2.2 rfl)⟩
theorem SE.grown (hF:SF w0 K) (h:SE w0 K vp s w) {o:Obj} {v':Value} {l:List Nat} (hg:(w.alloc o).grownBy w' vp.ownBlock) (hr:w'.ownsRow w0.heap.size 3 1 v' l.length (nv l)) (hv:v'.ownBlock=vp.ownBlock∨v'.ownBlock=some (w.alloc o).heap.size):SE w0 K v' { s with op:=l } (w'.setCell ⟨K.sb,4,none⟩ v')∧SX K vp v' w (w'.setCell ⟨K.sb,4,none⟩ v'):=by
 obtain ⟨_,_,e1,e2,e3,e4⟩:=h.app4 hg
 have ho:Only vp.ownBlock.toList w w':=only_alloc hg
 have hs:(w.alloc o).heap.size=w.heap.size+1:=by simp
 have hn:∀ k,k∈vp.ownBlock.toList→vp.ownBlock=some k:=fun k hk=>by simpa using hk
 have hS:∀ k∈vp.ownBlock.toList,w0.heap.size≤k:=fun k hk=>(row_tag h.rp (hn k hk)).1
 have hne:∀ k,v'.ownBlock=some k→k≠K.sb∧k≠K.gm∧k≠K.ge∧k≠K.gl:=fun k hk=>by
  rcases hv with e | e
  ·exact h.pn k (e▸hk)
  ·rw [e] at hk
   injection hk with hk
   have:=h.slt
   have:=h.mlt
   have:=h.elt
   have:=h.llt
   omega
 have hset:=Only.set w' K.sb 4 v'
 have b':=only_b0 h ho hS
 have hle:=ho.size
 refine ⟨⟨below_trans b' ((OnlyP.of_only (F:=fun k=>k=K.sb) hset (fun k hk _=>List.mem_singleton.1 hk)).below b'.size (fun k hk=>hk▸hF.b1)),?_,(hset.block _ (Nat.lt_of_lt_of_le h.mlt hle) (by simpa using hF.sm.symm)).trans (e2.trans h.rm),(hset.block _ (Nat.lt_of_lt_of_le h.elt hle) (by simpa using hF.se.symm)).trans (e3.trans h.re),(hset.block _ (Nat.lt_of_lt_of_le h.llt hle) (by simpa using hF.sl.symm)).trans (e4.trans h.rl),row_only hr hset (fun k hk=>by simpa using (hne k hk).1),hne⟩,(OnlyP.of_only ho (fun k hk _=>.inr (.inr (.inr (.inr (hn k hk)))))).trans (OnlyP.of_only (F:=sF K vp) hset (fun k hk _=>.inl (List.mem_singleton.1 hk))) (fun _ _ e=>e),fun k hk=>?_⟩
 ·rw [heap_setCell w' K.sb 4 _ (e1.trans h.blk)]
  rfl
 ·rcases hv with e | e
  ·exact .inl (e▸hk)
  ·rw [e] at hk
   injection hk with hk
   right
   omega
theorem sx_set {g o:Nat} (v:Value) (w:World) (hg:sF K vp g):SX K vp vp w (w.setCell ⟨g,o,none⟩ v):=
 ⟨OnlyP.of_only (Only.set w g o v) (fun k hk _=>by rw [List.mem_singleton.1 hk];exact hg),fun _ h=>.inl h⟩
theorem sx_below (hb:Below w.heap.size w w'):SX K vp vp w w':=⟨OnlyP.of_below hb _,fun _ h=>.inl h⟩
end
theorem smeet_any {w0 w:World} {K:SK} {vp:Value} {s:Tj.St} (hF:SF w0 K) (h:SE w0 K vp s w) (a:Nat) (ha:a < K.n) (hc:s.cnt+1≤2000000) (hl:s.op.length+1≤2000000) :
  Calls Tryz.prog 218 #[.pointer (some ⟨K.sb,0,none⟩),.int .i64 (a:Int)] w fun e w'=>e=.returned (.tuple #[])∧∃ vp',SE w0 K vp' (Tj.meet s a) w'∧SX K vp vp' w w':=by
 obtain ⟨av,cv,hvv⟩:=row_form h.rp
 obtain ⟨ol,hol⟩:∃ ol,s.op.length=ol:=⟨_,rfl⟩
 rw [hol] at hvv
 subst hvv
 have HOL:Hid (s.op.length=ol):=hol
 clear hol
 have H:Hid (SF w0 K∧SE w0 K (.slice av ol cv) s w):=⟨hF,h⟩
 have q5:=h.c5
 have f5:=h.soft 5
 obtain ⟨n,hn⟩:∃ n,K.n=n:=⟨_,rfl⟩
 have k1:(0:Int)≤(a:Int):=by omega
 have k2:(a:Int) < (n:Int):=by omega
 have k3:(s.cnt:Int)+1≤2000000:=by omega
 have k4:(0:Int)≤(s.cnt:Int):=by omega
 obtain ⟨w1,hw1⟩:∃ w1,w1=w.setCell ⟨K.sb,5,none⟩ (.int .i64 ((s.cnt:Int)+1)):=⟨_,rfl⟩
 have H1:Hid (SE w0 K (.slice av ol cv) { s with cnt:=s.cnt+1 } w1∧SX K (.slice av ol cv) (.slice av ol cv) w w1):=by
  rw [hw1]
  exact ⟨by simpa using h.setc hF (s.cnt+1),sx_set _ _ (.inl rfl)⟩
 clear h
 have d5:((w1.cell? ⟨K.sb,5,none⟩)=some (.int .i64 ((s.cnt:Int)+1))):=by have:=H1.out.1.c5;simpa using this
 have d1:=H1.out.1.c1
 have e1:w1.frozen? ⟨K.gm,a,none⟩=false:=arr_soft H1.out.1.rm a
 have g1:=arr_cell H1.out.1.rm ha
 rw [hn] at d1
 clear q5 f5
 have q5:=H.out.2.c5
 have f5:=H.out.2.soft 5
 go_enter Tryz.func218,Tryz.ntmps218
 go_wp2_with fail
 rw [← hw1]
 clear q5 f5 hw1
 go_region
 have H2:Hid (SE w0 K (.slice av ol cv) { s with cnt:=s.cnt+1,met:=Tj.upd s.met a (s.cnt+1) } ((w1.setCell ⟨K.gm,a,none⟩ (.int .i64 ((s.cnt:Int)+1))).drew)∧SX K (.slice av ol cv) (.slice av ol cv) w ((w1.setCell ⟨K.gm,a,none⟩ (.int .i64 ((s.cnt:Int)+1))).drew)):=by
  refine ⟨(SE.later (by simpa using H1.out.1.setm H.out.1 a (s.cnt+1)) (Below.refl _ _).drew),(H1.out.2.trans (sx_set _ _ (.inr (.inl rfl)))).trans (sx_below (Below.refl _ _).drew)⟩
 clear d5 d1 e1 g1 H1
 generalize (w1.setCell ⟨K.gm,a,none⟩ (.int .i64 ((s.cnt:Int)+1))).drew=w2 at H2 ⊢
 have d5:((w2.cell? ⟨K.sb,5,none⟩)=some (.int .i64 ((s.cnt:Int)+1))):=by have:=H2.out.1.c5;simpa using this
 have d1:=H2.out.1.c2
 have e1:w2.frozen? ⟨K.ge,a,none⟩=false:=arr_soft H2.out.1.re a
 have g1:=arr_cell H2.out.1.re ha
 rw [hn] at d1
 go_wp2_with fail
 go_region
 have H3:Hid (SE w0 K (.slice av ol cv) { s with cnt:=s.cnt+1,met:=Tj.upd s.met a (s.cnt+1),early:=Tj.upd s.early a (s.cnt+1) } ((w2.setCell ⟨K.ge,a,none⟩ (.int .i64 ((s.cnt:Int)+1))).drew)∧SX K (.slice av ol cv) (.slice av ol cv) w ((w2.setCell ⟨K.ge,a,none⟩ (.int .i64 ((s.cnt:Int)+1))).drew)):=by
  refine ⟨(SE.later (by simpa using H2.out.1.sete H.out.1 a (s.cnt+1)) (Below.refl _ _).drew),(H2.out.2.trans (sx_set _ _ (.inr (.inr (.inl rfl))))).trans (sx_below (Below.refl _ _).drew)⟩
 clear d5 d1 e1 g1 H2
 generalize (w2.setCell ⟨K.ge,a,none⟩ (.int .i64 ((s.cnt:Int)+1))).drew=w3 at H3 ⊢
 have d4:=H3.out.1.c4
 have HL:Hid (s.op.length+1≤2000000):=hl
 have HR3:Hid (w3.ownsRow w0.heap.size 3 1 (.slice av ol cv) s.op.length (nv s.op)):=H3.out.1.rp
 have HB3:Hid (w0.heap.size≤w3.heap.size):=H3.out.1.b0.size
 clear hl
 go_wp2_with (first | (at_builtin;refine app_I (base:=w0.heap.size) (l:=s.op) a HR3.out HL.out HB3.out rfl (.tmp 35) (.tmp 37) rfl rfl rfl ?_;intro v4 w4 ho4 hg4 hv4;obtain ⟨a4,c4x,rfl⟩:=row_form ho4;have c4:w4.cell? ⟨K.sb,4,none⟩=some (.slice av ol cv):=(SE.app4 H3.out.1 hg4).1;have f4:w4.frozen? ⟨K.sb,4,none⟩=false:=(SE.app4 H3.out.1 hg4).2.1))
 go_end0
 have hfin:=SE.grown H.out.1 H3.out.1 hg4 ho4 hv4
 rw [show (s.op++[a]).length=s.op.length+1 by simp] at hfin
 exact ⟨rfl,_,hfin.1,H3.out.2.trans hfin.2⟩
theorem reaches_any {w0 w:World} {K:SK} {vp:Value} {s:Tj.St} (hF:SF w0 K) (h:SE w0 K vp s w) (a b:Nat) (ha:a < K.n) (hb:b < K.n) :
  Calls Tryz.prog 219 #[.pointer (some ⟨K.sb,0,none⟩),.int .i64 (a:Int),.int .i64 (b:Int)] w fun e w'=>e=.returned (.tuple #[])∧SE w0 K vp (Tj.reaches s a b) w'∧SX K vp vp w w':=by
 have H:Hid (SF w0 K∧SE w0 K vp s w):=⟨hF,h⟩
 have d2:=h.c2
 have ca:=arr_cell h.re ha
 have cb:=arr_cell h.re hb
 have fa:=arr_soft h.re a
 obtain ⟨n,hn⟩:∃ n,K.n=n:=⟨_,rfl⟩
 rw [hn] at d2 ha hb
 obtain ⟨ea,hea⟩:∃ x,s.early a=x:=⟨_,rfl⟩
 obtain ⟨eb,heb⟩:∃ x,s.early b=x:=⟨_,rfl⟩
 rw [hea] at ca
 rw [heb] at cb
 have HE:Hid (s.early a=ea∧s.early b=eb):=⟨hea,heb⟩
 have k1:(0:Int)≤(a:Int):=by omega
 have k2:(a:Int) < (n:Int):=by omega
 have k3:(0:Int)≤(b:Int):=by omega
 have k4:(b:Int) < (n:Int):=by omega
 clear h hea heb hF
 by_cases hp:0 < eb
 ·have p1:(0:Int) < (eb:Int):=by omega
  go_enter Tryz.func219,Tryz.ntmps219
  go_wp2_with fail
  go_region
  go_end0
  have e1:min (ea:Int) (eb:Int)=((min ea eb:Nat):Int):=by omega
  rw [e1]
  refine ⟨rfl,SE.later ?_ (Below.refl _ _).drew,(sx_set _ _ (.inr (.inr (.inl rfl)))).trans (sx_below (Below.refl _ _).drew)⟩
  have h9:=H.out.2.sete H.out.1 a (min ea eb)
  unfold Tj.reaches
  rw [HE.out.1,HE.out.2,if_pos hp]
  exact h9
 ·have p1:eb=0:=by omega
  subst p1
  go_enter Tryz.func219,Tryz.ntmps219
  go_wp2_with fail
  go_end0
  refine ⟨rfl,?_,SX.refl _ _ _⟩
  unfold Tj.reaches
  rw [HE.out.2]
  exact H.out.2
end
section
open Go.RowKit Go.Maps
def oN (N:List Lb) (out:Lb→List Lb) (i:Nat):List Nat:=match N[i]? with | some a=>(out a).map (fun b=>N.idxOf b) | none=>[]
theorem oN_at {N:List Lb} {out:Lb→List Lb} {i:Nat} (h:i < N.length):oN N out i=(out N[i]).map (fun b=>N.idxOf b):=by
 unfold oN
 rw [List.getElem?_eq_getElem h]
def cN (N:List Lb) (k:Nat):Lb→Option Int:=fun a=>if a∈N.take k then some (N.idxOf a:Int) else none
theorem idx_nd {N:List Lb} (h:N.Nodup) {k:Nat} (hk:k < N.length):N.idxOf N[k]=k:=List.Nodup.idxOf_getElem h k hk
theorem cN_store {N:List Lb} (hnd:N.Nodup) {k mb:Nat} (hk:k < N.length) {wr wA:World} (h:MP cI wr mb (cN N k) k) (hb:Below wr.heap.size wr wA) {a:Lb} (ha:N[k]=a) (hu:Lu a) (hz:N.length≤2000000) :
  ∃ w7,(Instr.mapUpdate 103 (.map (some mb)) a.val (.int .i64 (k:Int))).run Tryz.prog wA=.ok () w7∧MP cI w7 mb (cN N (k+1)) (k+1)∧Only [mb] wA w7:=by
 have hn:a∉N.take k:=by rw [← ha];exact nd_take hnd hk
 have h1:=h.later hb
 obtain ⟨w7,hrun,hm,ho,hsz⟩:=h1.store hu (by omega) (k:Int)
 have e:(if (cN N k a).isSome=true then k else k+1)=k+1:=by simp [cN,hn]
 rw [e] at hm
 refine ⟨w7,hrun,hm.congr (fun y _=>?_),ho⟩
 have hi:N.idxOf a=k:=by rw [← ha];exact idx_nd hnd hk
 unfold cN
 rw [List.take_succ_eq_append_getElem hk,ha]
 by_cases hy:y=a
 ·subst hy;simp [hi]
 ·simp [hy]
theorem cN_look {N:List Lb} {mb:Nat} {wr wA:World} (h:MP cI wr mb (cN N N.length) N.length) (hb:wA.heap[mb]? = wr.heap[mb]?) {a:Lb} (ha:a∈N) (hu:Lu a) :
  (Instr.lookup 103 (.map (some mb)) a.val false).run Tryz.prog wA=.ok (.int .i64 (N.idxOf a:Int)) wA:=by
 have h1:=(h.block hb).look hu false
 have e:cN N N.length a=some (N.idxOf a:Int):=by unfold cN;rw [List.take_length,if_pos ha]
 rw [e] at h1
 exact h1
structure EI (N:List Lb) (out:Lb→List Lb) (mb go i:Nat) (V:List Value) (wr:World):Prop where
 blk:wr.heap[go]? = some (.cells V.toArray 183 (0,0))
 sz:V.length=N.length
 don:∀ j,j < i→∃ vj,V[j]? = some vj∧wr.ownsRow (go+1) 3 1 vj (oN N out j).length (nv (oN N out j))
 nil:∀ j,i≤j→j < N.length→V[j]? = some (.slice none 0 0)
 map:MP cI wr mb (cN N N.length) N.length
 mg:mb < go
section
variable {N:List Lb} {out:Lb→List Lb} {mb go i:Nat} {V:List Value} {wr wr':World}
theorem EI.glt (h:EI N out mb go i V wr):go < wr.heap.size:=(Array.getElem?_eq_some_iff.1 h.blk).1
theorem EI.later (h:EI N out mb go i V wr) (hb:Below wr.heap.size wr wr'):EI N out mb go i V wr':=
 ⟨(hb.block _ h.glt).trans h.blk,h.sz,fun j hj=>by obtain ⟨vj,h1,h2⟩:=h.don j hj;exact ⟨vj,h1,row_later h2 hb⟩,h.nil,h.map.later hb,h.mg⟩
theorem EI.cell (h:EI N out mb go i V wr) {j:Nat} {u:Value} (hu:V[j]? = some u):wr.cell? ⟨go,j,none⟩=some u:=by
 simp only [World.cell?,h.blk]
 simpa using hu
theorem EI.grow {wi:World} (h:EI N out mb go i V wi) (hi:i < N.length) {vi:Value} (ho:OnlyP (fun k=>k=go∨wi.heap.size≤k) wi wr) (hb:wr.heap[go]? = some (.cells (V.set i vi).toArray 183 (0,0))) {l:List Nat} (hr:wr.ownsRow wi.heap.size 3 1 vi l.length (nv l)) (hl:l=oN N out i):EI N out mb go (i+1) (V.set i vi) wr:=by
 refine ⟨hb,by simpa using h.sz,fun j hj=>?_,fun j hj hjn=>?_,h.map.block (ho.block mb h.map.lt (fun e=>?_)),h.mg⟩
 ·by_cases e:j=i
  ·subst e
   refine ⟨vi,by rw [List.getElem?_set_self (by rw [h.sz];exact hi)],?_⟩
   rw [← hl]
   exact World.ownsRow.mono hr h.glt
  ·obtain ⟨vj,h1,h2⟩:=h.don j (by omega)
   refine ⟨vj,by rw [List.getElem?_set_ne (Ne.symm e)];exact h1,row_kept h2 (fun k hk=>?_)⟩
   obtain ⟨k1,k2,_⟩:=row_tag h2 hk
   exact ho.block k k2 (fun e=>by omega)
 ·rw [List.getElem?_set_ne (by omega)]
  exact h.nil j (by omega) hjn
 ·have:=h.mg
  have:=h.glt
  omega
end
theorem set_same {V:List Value} {i:Nat} {x:Value} (h:V[i]? = some x):V.set i x=V:=by
 apply List.ext_getElem?
 intro j
 by_cases e:i=j
 ·subst e
  rw [List.getElem?_set_self (List.getElem?_eq_some_iff.1 h).1,h]
 ·rw [List.getElem?_set_ne e]
structure EJ (N:List Lb) (out:Lb→List Lb) (go i:Nat) (V:List Value) (wi:World) (j:Nat) (vi:Value) (wr:World):Prop where
 on:OnlyP (fun k=>k=go∨wi.heap.size≤k) wi wr
 blk:wr.heap[go]? = some (.cells (V.set i vi).toArray 183 (0,0))
 row:wr.ownsRow wi.heap.size 3 1 vi ((oN N out i).take j).length (nv ((oN N out i).take j))
section
variable {N:List Lb} {out:Lb→List Lb} {go i j:Nat} {V:List Value} {vi:Value} {wi wr wr':World}
theorem EJ.glt (h:EJ N out go i V wi j vi wr):go < wr.heap.size:=(Array.getElem?_eq_some_iff.1 h.blk).1
theorem EJ.later (h:EJ N out go i V wi j vi wr) (hb:Below wr.heap.size wr wr'):EJ N out go i V wi j vi wr':=
 ⟨h.on.trans (OnlyP.of_below hb (fun k=>k=go∨wi.heap.size≤k)) (fun _ _ e=>e),(hb.block _ h.glt).trans h.blk,row_later h.row hb⟩
theorem EJ.cell (h:EJ N out go i V wi j vi wr) (hi:i < V.length):wr.cell? ⟨go,i,none⟩=some vi:=by
 simp only [World.cell?,h.blk]
 simp [hi]
theorem EJ.app (h:EJ N out go i V wi j vi wr) (hgo:go < wi.heap.size) {o:Obj} {v':Value} (hg:(wr.alloc o).grownBy wr' vi.ownBlock) (hr:wr'.ownsRow wi.heap.size 3 1 v' ((oN N out i).take (j+1)).length (nv ((oN N out i).take (j+1)))) :
  wr'.heap[go]? = some (.cells (V.set i vi).toArray 183 (0,0))∧EJ N out go i V wi (j+1) v' (wr'.setCell ⟨go,i,none⟩ v'):=by
 have ho:Only vi.ownBlock.toList wr wr':=only_alloc hg
 have hn:∀ k,k∈vi.ownBlock.toList→vi.ownBlock=some k:=fun k hk=>by simpa using hk
 have hge:∀ k,k∈vi.ownBlock.toList→wi.heap.size≤k:=fun k hk=>(row_tag h.row (hn k hk)).1
 have e1:=(ho.block go h.glt (fun e=>by have:=hge _ e;omega)).trans h.blk
 have hs:=Only.set wr' go i v'
 refine ⟨e1,(h.on.trans (OnlyP.of_only (F:=fun k=>k=go∨wi.heap.size≤k) ho (fun k hk _=>.inr (hge k hk))) (fun _ _ e=>e)).trans (OnlyP.of_only (F:=fun k=>k=go∨wi.heap.size≤k) hs (fun k hk _=>.inl (List.mem_singleton.1 hk))) (fun _ _ e=>e),?_,row_only hr hs (fun k hk e=>?_)⟩
 ·rw [heap_setCell wr' go i _ e1]
  congr 2
  apply Array.toList_inj.1
  simp [List.set_set]
 ·have:=(row_tag hr hk).1
  have:=List.mem_singleton.1 e
  omega
end
theorem edges_any {w:World} {F:Nat→Prop} {g:Nat} {ns:List Lb} {out:Lb→List Lb} (h:GR w F g ns out) {v:Value} {N:List Lb} (hv:LS w v N) (hnd:N.Nodup) (hN:∀ x,x∈N↔x∈ns) (hz:N.length≤2000000) :
  Calls Tryz.prog 142 #[.pointer (some ⟨g,0,none⟩),v] w fun e w'=>∃ v',e=.returned v'∧RO w' v' N.length (oN N out)∧Below w.heap.size w w':=by
 have H:Hid (GR w F g ns out∧LS w v N∧N.Nodup∧(∀ x,x∈N↔x∈ns)∧N.length≤2000000∧∀ x∈N,Lu x):=⟨h,hv,hnd,hN,hz,fun x hx=>h.lu x ((hN x).1 hx)⟩
 obtain ⟨n,hn⟩:∃ n,N.length=n:=⟨_,rfl⟩
 obtain ⟨av,cv,hvv,_⟩:=hv.form
 rw [hn] at hvv hz
 subst hvv
 have HN:Hid (N.length=n):=hn
 clear h hv hnd hN hn
 have hn0:(0:Int)≤(n:Int):=by omega
 have hn1:(n:Int)≤2000000:=by omega
 have hmp:=make_M cI.und n
 simp only [show cI.t=103 from rfl] at hmp
 go_enter Tryz.func142,Tryz.ntmps142
 go_wp2_with fail
 have HM0:Hid (MP cI (w.alloc (.map #[] 0)) w.heap.size (cN N 0) 0∧Below w.heap.size w (w.alloc (.map #[] 0))):=⟨(MP.new cI w).congr (fun k _=>by simp [cN]),balloc _ _⟩
 clear hmp
 go_loopw [18] (fun s18 wr=>∃ k:Nat,s18=.int .i64 (k:Int)∧k≤n∧MP cI wr w.heap.size (cN N k) k∧Below w.heap.size w wr) (fun s18 _=>n - (intOf s18).toNat)
 case atStart=>exact ⟨0,rfl,by omega,HM0.out.1,HM0.out.2⟩
 case round=>
  obtain ⟨k,rfl,hk,hM,hb⟩:=hrel
  have HX:Hid (MP cI wr w.heap.size (cN N k) k∧Below w.heap.size w wr):=⟨hM,hb⟩
  clear hM hb
  by_cases hlt:k < n
  ·have hkl:k < N.length:=by rw [HN.out];exact hlt
   obtain ⟨b,off,ea,hbw,d0,d1⟩:=LS.at H.out.2.1 HX.out.2 hkl
   subst ea
   obtain ⟨a,hae⟩:∃ a,N[k]=a:=⟨_,rfl⟩
   rw [hae] at d0 d1
   have hu:Lu a:=by rw [← hae];exact H.out.2.2.2.2.2 _ (List.getElem_mem hkl)
   obtain ⟨w7,hrun,hm7,ho7⟩:=cN_store H.out.2.2.1 hkl HX.out.1 (balloc wr (.cells #[.string (bs a.pkg),.string (bs a.name)] 27)) hae hu H.out.2.2.2.2.1
   have HM7:Hid (MP cI w7 w.heap.size (cN N (k+1)) (k+1)∧Below w.heap.size w w7):=by
    refine ⟨hm7,below_trans HX.out.2 ?_⟩
    exact below_trans (below_mono (balloc _ _) HX.out.2.size) ((OnlyP.of_only (F:=fun k=>k=w.heap.size) ho7 (fun k hk _=>List.mem_singleton.1 hk)).below (Nat.le_trans HX.out.2.size (balloc _ _).size) (fun k hk=>by omega))
   have HRB:Hid (RB (wr.alloc (.cells #[.string (bs a.pkg),.string (bs a.name)] 27)) wr.heap.size a):=RB.new wr a
   obtain ⟨c0,c1,_,_⟩:=HRB.out.cells
   obtain ⟨p,m⟩:=a
   simp only [Lb.val] at d0 d1 hrun c0 c1
   have k1:(k:Int) < (n:Int):=by omega
   have k0:(0:Int)≤(k:Int):=by omega
   clear hae hu hm7 ho7 HRB
   go_wp2_with fail
   go_roundw
   case rel=>exact ⟨k+1,by go_num,by omega,HM7.out.1,HM7.out.2⟩
   case measure=>simp [intOf];omega
  ·obtain rfl:n=k:=by omega
   rename World=>wo
   have hmk:=make_II n (by omega)
   go_wp2_with fail
   clear hmk
   have HE0:Hid (EI N out w.heap.size wo.heap.size 0 (List.replicate n (.slice none 0 0)) (wo.alloc (.cells (List.replicate n (.slice none 0 0)).toArray 183))∧Below w.heap.size w (wo.alloc (.cells (List.replicate n (.slice none 0 0)).toArray 183))):=by
    have h1:=HX.out.1
    have h2:=h1.lt
    rw [← HN.out] at h1
    refine ⟨⟨heap_alloc_new wo _,by simp [HN.out],fun j hj=>by omega,fun j _ hj=>by rw [HN.out] at hj;simp [hj],h1.later (balloc _ _),h2⟩,bstep HX.out.2 (balloc _ _) |> fun h=>h⟩
   obtain ⟨go,hgo⟩:∃ go,wo.heap.size=go:=⟨_,rfl⟩
   have HGO:Hid (w.heap.size≤go∧wo.heap.size=go):=⟨by have:=HX.out.2.size;omega,hgo⟩
   rw [hgo] at HE0 ⊢
   clear hgo
   go_loopw [32] (fun s32 wr=>∃ (i:Nat) (V:List Value),s32=.int .i64 (i:Int)∧i≤n∧EI N out w.heap.size go i V wr∧Below w.heap.size w wr) (fun s32 _=>n - (intOf s32).toNat)
   case atStart=>exact ⟨0,_,rfl,by omega,HE0.out.1,HE0.out.2⟩
   case round=>
    clear HX HE0
    obtain ⟨i,V,rfl,hi,hE,hb⟩:=hrel
    have HX:Hid (EI N out w.heap.size go i V wr∧Below w.heap.size w wr):=⟨hE,hb⟩
    clear hE hb
    by_cases hlt2:i < n
    ·have hil:i < N.length:=by rw [HN.out];exact hlt2
     obtain ⟨b,off,ea,hbw,d0,d1⟩:=LS.at H.out.2.1 HX.out.2 hil
     subst ea
     obtain ⟨a,hae⟩:∃ a,N[i]=a:=⟨_,rfl⟩
     rw [hae] at d0 d1
     have hu:Lu a:=by rw [← hae];exact H.out.2.2.2.2.2 _ (List.getElem_mem hil)
     have HA:Hid (oN N out i=(out a).map (fun b=>N.idxOf b)∧(out a).length≤2000000∧∀ x∈out a,x∈N∧Lu x):=by
      refine ⟨by rw [oN_at hil,hae],?_,fun x hx=>?_⟩
      ·have h1:=Gs.nodup_sub (out a) N (Gs.Ris.nodup stoL (H.out.1.up a)) (fun x hx=>(H.out.2.2.2.1 x).2 (H.out.1.sub a x hx).2)
       have:=H.out.2.2.2.2.1
       omega
      ·have h2:=(H.out.2.2.2.1 x).2 (H.out.1.sub a x hx).2
       exact ⟨h2,H.out.2.2.2.2.2 x h2⟩
     have HO:Hid (Calls Tryz.prog 34 #[.pointer (some ⟨g,0,none⟩),a.val] (wr.alloc (.cells #[.string (bs a.pkg),.string (bs a.name)] 27)) fun e w'=>∃ v,e=.returned v∧OwnL (wr.alloc (.cells #[.string (bs a.pkg),.string (bs a.name)] 27)).heap.size w' v (out a)∧Below (wr.alloc (.cells #[.string (bs a.pkg),.string (bs a.name)] 27)).heap.size (wr.alloc (.cells #[.string (bs a.pkg),.string (bs a.name)] 27)) w'):=out_any ((H.out.1.later HX.out.2).later (balloc _ _)) a hu
     have HRB:Hid (RB (wr.alloc (.cells #[.string (bs a.pkg),.string (bs a.name)] 27)) wr.heap.size a):=RB.new wr a
     obtain ⟨c0,c1,_,_⟩:=HRB.out.cells
     obtain ⟨p,m⟩:=a
     simp only [Lb.val] at d0 d1 c0 c1 HO
     have k1:(i:Int) < (n:Int):=by omega
     have k0:(0:Int)≤(i:Int):=by omega
     clear hae hu HRB
     go_wp2_with fail
     refine HO.out.mono ?_
     rintro e wi ⟨v2,rfl,ho2,hb2⟩
     obtain ⟨ol,hol⟩:∃ ol,(out ⟨p,m⟩).length=ol:=⟨_,rfl⟩
     obtain ⟨a2,c2,hv2⟩:=ho2.form
     rw [hol] at hv2
     subst hv2
     have HI:Hid (EI N out w.heap.size go i V wi∧Below w.heap.size w wi∧OwnL (go+1) wi (.slice a2 ol c2) (out ⟨p,m⟩)∧(out ⟨p,m⟩).length=ol):=by
      have h1:=bstep (balloc wr (.cells #[.string (bs p),.string (bs m)] 27)) hb2
      refine ⟨HX.out.1.later h1,bstep HX.out.2 h1,ho2.mono ?_,hol⟩
      have:=HX.out.1.glt
      have:(wr.alloc (.cells #[.string (bs p),.string (bs m)] 27)).heap.size=wr.heap.size+1:=by simp
      omega
     have hol1:ol≤2000000:=by have:=HA.out.2.1;omega
     clear ho2 hb2 hol HO c0 c1 d0 d1
     have l0:(0:Int)≤(ol:Int):=by omega
     go_wp2_with fail
     have HJ0:Hid (EJ N out go i V wi 0 (.slice none 0 0) wi):=by
      refine ⟨OnlyP.refl _ _,?_,by simp [nv];exact World.ownsRow_nil _ _ _ _⟩
      rw [set_same (HI.out.1.nil i (Nat.le_refl _) hil)]
      exact HI.out.1.blk
     go_loopw [41] (fun s41 wr=>∃ (j:Nat) (vi:Value),s41=.int .i64 (j:Int)∧j≤ol∧EJ N out go i V wi j vi wr) (fun s41 _=>ol - (intOf s41).toNat)
     case atStart=>exact ⟨0,_,rfl,by omega,HJ0.out⟩
     case round=>
      obtain ⟨j,vi,rfl,hj,hJ⟩:=hrel
      have HY:Hid (EJ N out go i V wi j vi wr):=hJ
      clear hJ
      by_cases hjl:j < ol
      ·have hjl2:j < (out ⟨p,m⟩).length:=by rw [HI.out.2.2.2];exact hjl
       have HV2:Hid (OwnL (go+1) wr (.slice a2 ol c2) (out ⟨p,m⟩)):=row_kept HI.out.2.2.1 (fun k hk=>by
        obtain ⟨q1,q2,_⟩:=row_tag HI.out.2.2.1 hk
        exact HY.out.on.block k q2 (fun e=>by omega))
       obtain ⟨b2,off2,ea,hbw2,d0,d1⟩:=LS.at HV2.out.rs (Below.refl _ wr) hjl2
       subst ea
       obtain ⟨x,hx⟩:∃ x,(out ⟨p,m⟩)[j]=x:=⟨_,rfl⟩
       rw [hx] at d0 d1
       have hxm:x∈out ⟨p,m⟩:=by rw [← hx];exact List.getElem_mem hjl2
       obtain ⟨hxN,hxu⟩:=HA.out.2.2 x hxm
       obtain ⟨t,ht⟩:∃ t,N.idxOf x=t:=⟨_,rfl⟩
       have HTK:Hid ((oN N out i).take (j+1)=(oN N out i).take j++[t]∧((oN N out i).take j).length=j):=by
        have hlen:(oN N out i).length=ol:=by rw [HA.out.1,List.length_map,HI.out.2.2.2]
        have h8:j < (oN N out i).length:=by omega
        refine ⟨?_,by rw [List.length_take];omega⟩
        rw [List.take_succ_eq_append_getElem h8]
        congr 2
        have h9:(oN N out i)[j]? = some t:=by
         rw [HA.out.1,List.getElem?_map,List.getElem?_eq_getElem hjl2,hx,← ht];rfl
        rw [List.getElem?_eq_getElem h8] at h9
        injection h9
       have hW3:=balloc wr (.cells #[.string (bs x.pkg),.string (bs x.name)] 27)
       have HY3:Hid (EJ N out go i V wi j vi (wr.alloc (.cells #[.string (bs x.pkg),.string (bs x.name)] 27))):=HY.out.later hW3
       have hmb:(wr.alloc (.cells #[.string (bs x.pkg),.string (bs x.name)] 27)).heap[w.heap.size]? = wi.heap[w.heap.size]?:=HY3.out.on.block _ HI.out.1.map.lt (fun e=>by have:=HI.out.1.mg;have:=HI.out.1.map.lt;omega)
       have hlk:=cN_look HI.out.1.map hmb hxN hxu
       have hlkd:(Instr.lookup 103 (.map (some w.heap.size)) x.val false).run Tryz.prog (wr.alloc (.cells #[.string (bs x.pkg),.string (bs x.name)] 27)).drew=.ok (.int .i64 (N.idxOf x:Int)) (wr.alloc (.cells #[.string (bs x.pkg),.string (bs x.name)] 27)).drew:=cN_look (wA:=(wr.alloc (.cells #[.string (bs x.pkg),.string (bs x.name)] 27)).drew) HI.out.1.map hmb hxN hxu
       rw [ht] at hlk hlkd
       have HRB:Hid (RB (wr.alloc (.cells #[.string (bs x.pkg),.string (bs x.name)] 27)) wr.heap.size x):=RB.new wr x
       obtain ⟨c0,c1,_,_⟩:=HRB.out.cells
       have hrow:=HY3.out.row
       obtain ⟨av3,cv3,hvi⟩:=row_form hrow
       rw [HTK.out.2] at hvi
       subst hvi
       have cg:=HY3.out.cell (by rw [HI.out.1.sz];exact hil)
       have cg2:=cell_alloc (.cells #[.int .i64 (t:Int)] 3) HY3.out.glt cg
       have HB3:Hid (wi.heap.size≤(wr.alloc (.cells #[.string (bs x.pkg),.string (bs x.name)] 27)).heap.size):=HY3.out.on.size
       have HR3:Hid ((wr.alloc (.cells #[.string (bs x.pkg),.string (bs x.name)] 27)).ownsRow wi.heap.size 3 1 (.slice av3 j cv3) ((oN N out i).take j).length (nv ((oN N out i).take j))):=hrow
       have HL3:Hid (((oN N out i).take j).length+1≤2000000):=by
        show ((oN N out i).take j).length+1≤2000000
        rw [HTK.out.2];omega
       have HSZ:Hid ((wr.alloc (.cells #[.string (bs x.pkg),.string (bs x.name)] 27)).heap.size=wr.heap.size+1):=by
        show _=_
        simp
       have HGW:Hid (go < wi.heap.size):=HI.out.1.glt
       have HAP:Hid (∀ (w9:World) (v9:Value),((wr.alloc (.cells #[.string (bs x.pkg),.string (bs x.name)] 27)).alloc (.cells #[.int .i64 (t:Int)] 3)).grownBy w9 (Value.slice av3 j cv3).ownBlock→w9.ownsRow wi.heap.size 3 1 v9 ((oN N out i).take j++[t]).length (nv ((oN N out i).take j++[t]))→EJ N out go i V wi (j+1) v9 (w9.setCell ⟨go,i,none⟩ v9)∧w9.cell? ⟨go,i,none⟩=some (.slice av3 j cv3)∧w9.frozen? ⟨go,i,none⟩=false):=by
        intro w9 v9 h1 h2
        rw [← HTK.out.1] at h2
        obtain ⟨e1,e2⟩:=HY3.out.app HGW.out h1 h2
        have hil':i < V.length:=by rw [HI.out.1.sz];exact hil
        exact ⟨e2,by simp [World.cell?,e1,hil'],by simp [World.frozen?,e1]⟩
       obtain ⟨q,r⟩:=x
       simp only [Lb.val] at d0 d1 c0 c1 hlk hlkd cg cg2 HY3 HB3 HR3 HSZ HAP
       have j1:(j:Int) < (ol:Int):=by omega
       have j0:(0:Int)≤(j:Int):=by omega
       clear hx hxm hxN hxu ht hW3 hmb hrow HRB HV2
       go_wp2_with fail
       go_region_law (refine step_app_I rfl (.tmp 50) (.tmp 54) rfl wi.heap.size ((oN N out i).take j) t (.slice av3 j cv3) HSZ.out rfl rfl HR3.out HL3.out HB3.out ?_;intro v9 w9 ho9 hg9 hv9;obtain ⟨a9,c9,rfl⟩:=row_form ho9;have cg9:w9.cell? ⟨go,i,none⟩=some (.slice av3 j cv3):=(HAP.out _ _ hg9 ho9).2.1;have fg9:w9.frozen? ⟨go,i,none⟩=false:=(HAP.out _ _ hg9 ho9).2.2)
       all_goals
        have h99:=(HAP.out _ _ hg9 ho9).1
        rw [show ((oN N out i).take j++[t]).length=min j (oN N out i).length+1 by simp] at h99
        have HJ9:Hid (EJ N out go i V wi (j+1) (.slice a9 (min j (oN N out i).length+1) c9) (w9.setCell ⟨go,i,none⟩ (.slice a9 (min j (oN N out i).length+1) c9))):=h99
        clear h99 hg9 ho9 hv9 cg9 fg9
        generalize w9.setCell ⟨go,i,none⟩ (.slice a9 (min j (oN N out i).length+1) c9)=wz at HJ9 ⊢
        go_wp2_with fail
        go_roundw
        case rel=>exact ⟨j+1,_,by go_num,by omega,HJ9.out⟩
        case measure=>simp [intOf];omega
      ·obtain rfl:ol=j:=by omega
       go_wp2_with fail
       go_roundw
       case rel=>
        have hl:(oN N out i).take ol=oN N out i:=List.take_of_length_le (by rw [HA.out.1,List.length_map,HI.out.2.2.2];omega)
        have h9:=HY.out.row
        rw [hl] at h9
        refine ⟨i+1,V.set i vi,by go_num,by omega,HI.out.1.grow hil HY.out.on HY.out.blk h9 rfl,?_⟩
        refine below_trans HI.out.2.1 (HY.out.on.below HI.out.2.1.size (fun k hk=>?_))
        have:=HGO.out.1
        have:=HI.out.2.1.size
        omega
       case measure=>simp [intOf];omega
    ·obtain rfl:n=i:=by omega
     go_wp2_with fail
     go_ret
     refine ⟨.slice (some ⟨go,0,none⟩) n n,rfl,⟨go,by rw [HN.out],HX.out.1.glt,fun j hj=>?_⟩,HX.out.2⟩
     obtain ⟨vj,h1,h2⟩:=HX.out.1.don j (by rw [← HN.out];exact hj)
     exact ⟨vj,HX.out.1.cell h1,row_IS h2⟩
end
end Go.Proofs.YtppnbdnpapellaaGreatDoor
