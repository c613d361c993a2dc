import Derived.Test.YtppnbdnpapellaaGreatDoorJWs
import Derived.ScopeJumps
set_option maxRecDepth 100000
set_option maxHeartbeats 16000000
namespace Go.Proofs.YtppnbdnpapellaaGreatDoor
section
open Go.RowKit Go.Maps
def jumps (J0 J1:Act→World→Prop) (Q:Exit→Act→World→Prop):Exit→Act→World→Prop
 | .goto l,a,w=>(l=0∧J0 a w)∨(l=1∧J1 a w)
 | e,a,w=>Q e a w
abbrev lss (J:Nat→Act→World→Prop) (m:Nat):Act→World→Prop:=fun a w=>∃ m',m' < m∧J m' a w
theorem jumps_mono {A A' B B':Act→World→Prop} {Q:Exit→Act→World→Prop} (hA:∀ a w,A a w→A' a w) (hB:∀ a w,B a w→B' a w):∀ e a w,jumps A B Q e a w→jumps A' B' Q e a w:=by
 intro e a w h
 cases e with
 | goto l=>exact h.imp (fun h=>⟨h.1,hA _ _ h.2⟩) (fun h=>⟨h.1,hB _ _ h.2⟩)
 | normal=>exact h
 | exit id=>exact h
 | ret=>exact h
 | panic ch=>exact h
 | outgrown=>exact h
theorem wp_seq_skip {P:Program} {Q:Exit→Act→World→Prop} {X:Code} {a:Act} {w:World} (h:X.wp P Q a w):(Code.skip.seq X).wp P Q a w:=wp_seq (wp_skip h)
theorem wp_two {P:Program} {a:Act} {w:World} {Q:Exit→Act→World→Prop} {c X Y:Code} (J0 J1:Nat→Act→World→Prop) (h0:findLabel c 0=some (Code.skip.seq X)) (h1:findLabel c 1=some (Code.skip.seq Y))
  (p1:∀ m a w,J1 m a w→Y.wp P (jumps (lss J0 m) (lss J1 m) Q) a w) (p0':(∀ m a w,J1 m a w→Y.wp P (jumps (lss J0 m) (lss J1 m) Q) a w)→∀ m a w,J0 m a w→X.wp P (jumps (lss J0 m) (lss J1 m) Q) a w)
  (first':(∀ m a w,J0 m a w→X.wp P (jumps (lss J0 m) (lss J1 m) Q) a w)→c.wp P (jumps (fun a w=>∃ m,J0 m a w) (fun a w=>∃ m,J1 m a w) Q) a w):(Code.scope c).wp P Q a w:=by
 have p0:=p0' p1
 have first:=first' p0
 intro b k cs
 have g0:gotoIn 0 (.inScope c::k)=some (.code (Code.skip.seq X)::.inScope c::k):=by simp [gotoIn,h0]
 have g1:gotoIn 1 (.inScope c::k)=some (.code (Code.skip.seq Y)::.inScope c::k):=by simp [gotoIn,h1]
 have q0:=fun m a w hj=>wp_seq_skip (p0 m a w hj)
 have q1:=fun m a w hj=>wp_seq_skip (p1 m a w hj)
 have key:∀ m,(∀ a w,J0 m a w→∃ e a' w',Q e a' w'∧Arrives P (lone (b.at a (.code (Code.skip.seq X)::.inScope c::k)) cs w) b k cs e a' w')∧
   ∀ a w,J1 m a w→∃ e a' w',Q e a' w'∧Arrives P (lone (b.at a (.code (Code.skip.seq Y)::.inScope c::k)) cs w) b k cs e a' w':=by
  intro m
  induction m using Nat.strongRecOn with
  | _ m ih=>
   have one:∀ (Z:Code) a w,Z.wp P (jumps (lss J0 m) (lss J1 m) Q) a w→∃ e a' w',Q e a' w'∧Arrives P (lone (b.at a (.code Z::.inScope c::k)) cs w) b k cs e a' w':=by
    intro Z a w hz
    obtain ⟨e,a₁,w₁,hq,harr⟩:=hz b (.inScope c::k) cs
    cases e with
    | normal=>exact ⟨.normal,a₁,w₁,hq,Steps.trans harr (.one step_inScope)⟩
    | exit id=>exact ⟨.exit id,a₁,w₁,hq,fun k' hk=>harr k' (by simp [exitTo,hk])⟩
    | goto l=>
     rcases hq with ⟨rfl,m',hm,hj⟩ | ⟨rfl,m',hm,hj⟩
     ·obtain ⟨e₂,a₂,w₂,hq₂,harr₂⟩:=(ih m' hm).1 a₁ w₁ hj
      exact ⟨e₂,a₂,w₂,hq₂,.of_steps (harr _ g0) harr₂⟩
     ·obtain ⟨e₂,a₂,w₂,hq₂,harr₂⟩:=(ih m' hm).2 a₁ w₁ hj
      exact ⟨e₂,a₂,w₂,hq₂,.of_steps (harr _ g1) harr₂⟩
    | ret=>exact ⟨_,a₁,w₁,hq,harr⟩
    | panic ch=>exact ⟨_,a₁,w₁,hq,harr⟩
    | outgrown=>exact ⟨_,a₁,w₁,hq,harr⟩
   exact ⟨fun a w hj=>one _ a w (q0 m a w hj),fun a w hj=>one _ a w (q1 m a w hj)⟩
 obtain ⟨e,a₁,w₁,hq,harr⟩:=first b (.inScope c::k) cs
 cases e with
 | normal=>exact ⟨.normal,a₁,w₁,hq,.head step_scope (Steps.trans harr (.one step_inScope))⟩
 | exit id=>exact ⟨.exit id,a₁,w₁,hq,fun k' hk=>.head step_scope (harr k' (by simp [exitTo,hk]))⟩
 | goto l=>
  rcases hq with ⟨rfl,m,hj⟩ | ⟨rfl,m,hj⟩
  ·obtain ⟨e₂,a₂,w₂,hq₂,harr₂⟩:=(key m).1 a₁ w₁ hj
   exact ⟨e₂,a₂,w₂,hq₂,.of_steps (.head step_scope (harr _ g0)) harr₂⟩
  ·obtain ⟨e₂,a₂,w₂,hq₂,harr₂⟩:=(key m).2 a₁ w₁ hj
   exact ⟨e₂,a₂,w₂,hq₂,.of_steps (.head step_scope (harr _ g1)) harr₂⟩
 | ret=>exact ⟨_,a₁,w₁,hq,.of_steps (.one step_scope) harr⟩
 | panic ch=>exact ⟨_,a₁,w₁,hq,.of_steps (.one step_scope) harr⟩
 | outgrown=>exact ⟨_,a₁,w₁,hq,.of_steps (.one step_scope) harr⟩
structure FrW (sb st B:Nat) (va:Value) (a:Act):Prop where
 sz:a.tmps.size=85
 t0:a.tmps[0]? = some (.pointer (some ⟨sb,0,none⟩))
 t1:a.tmps[1]? = some (.int .i64 (st:Int))
 t4:a.tmps[4]? = some va
 t5:a.tmps[5]? = some (.pointer (some ⟨B,0,none⟩))
 df:a.defers=[]
theorem lst85:∀ (l:List Value),l.length=85→∃ u:Nat→Value,l=[u 0,u 1,u 2,u 3,u 4,u 5,u 6,u 7,u 8,u 9,u 10,u 11,u 12,u 13,u 14,u 15,u 16,u 17,u 18,u 19,u 20,u 21,u 22,u 23,u 24,u 25,u 26,u 27,u 28,u 29,u 30,u 31,u 32,u 33,u 34,u 35,u 36,u 37,u 38,u 39,u 40,u 41,u 42,u 43,u 44,u 45,u 46,u 47,u 48,u 49,u 50,u 51,u 52,u 53,u 54,u 55,u 56,u 57,u 58,u 59,u 60,u 61,u 62,u 63,u 64,u 65,u 66,u 67,u 68,u 69,u 70,u 71,u 72,u 73,u 74,u 75,u 76,u 77,u 78,u 79,u 80,u 81,u 82,u 83,u 84]:=by
 intro l hl
 refine ⟨fun i=>l.getD i undef,?_⟩
 apply List.ext_getElem?
 intro i
 by_cases hi:i < 85
 ·have e1:l[i]? = some (l.getD i undef):=by rw [List.getD_eq_getElem?_getD,List.getElem?_eq_getElem (by omega)];rfl
  rw [e1]
  generalize l=L
  have:=hi
  rcases i with _ | _ | _ | _ | _ | _ | _ | _ | _ | _ | _ | _ | _ | _ | _ | _ | _ | _ | _ | _ | _ | _ | _ | _ | _ | _ | _ | _ | _ | _ | _ | _ | _ | _ | _ | _ | _ | _ | _ | _ | _ | _ | _ | _ | _ | _ | _ | _ | _ | _ | _ | _ | _ | _ | _ | _ | _ | _ | _ | _ | _ | _ | _ | _ | _ | _ | _ | _ | _ | _ | _ | _ | _ | _ | _ | _ | _ | _ | _ | _ | _ | _ | _ | _ | _ | i
  all_goals first | rfl | omega
 ·rw [List.getElem?_eq_none (by omega),List.getElem?_eq_none (by simp;omega)]
theorem FrW.lit {sb st B:Nat} {va:Value} {a:Act} (h:FrW sb st B va a):∃ u:Nat→Value,a={ tmps:=#[.pointer (some ⟨sb,0,none⟩),.int .i64 (st:Int),u 2,u 3,va,.pointer (some ⟨B,0,none⟩),u 6,u 7,u 8,u 9,u 10,u 11,u 12,u 13,u 14,u 15,u 16,u 17,u 18,u 19,u 20,u 21,u 22,u 23,u 24,u 25,u 26,u 27,u 28,u 29,u 30,u 31,u 32,u 33,u 34,u 35,u 36,u 37,u 38,u 39,u 40,u 41,u 42,u 43,u 44,u 45,u 46,u 47,u 48,u 49,u 50,u 51,u 52,u 53,u 54,u 55,u 56,u 57,u 58,u 59,u 60,u 61,u 62,u 63,u 64,u 65,u 66,u 67,u 68,u 69,u 70,u 71,u 72,u 73,u 74,u 75,u 76,u 77,u 78,u 79,u 80,u 81,u 82,u 83,u 84],defers:=[] }:=by
 obtain ⟨⟨t⟩,d⟩:=a
 obtain ⟨u,hu⟩:=lst85 t h.sz
 subst hu
 have h0:=h.t0
 have h1:=h.t1
 have h4:=h.t4
 have h5:=h.t5
 have hd:=h.df
 refine ⟨u,?_⟩
 simp at h0 h1 h4 h5 hd
 rw [h0,h1,h4,h5,hd]
theorem Core_len {n:Nat} {out:Nat→List Nat} {s:Tj.St} {p:List Nat} (h:Tj.Core n out s p):s.op.length≤n∧p.length≤n:=by
 have h1:∀ x∈s.op,x∈List.range n:=fun x hx=>List.mem_range.2 (h.lt x ((h.mem x).1 hx).1)
 have h2:p.Nodup:=h.pdn.imp (fun {a b} hab e=>by rw [e] at hab;omega)
 have a1:=Gs.nodup_sub s.op (List.range n) h.nodup h1
 have a2:=Gs.nodup_sub p (List.range n) h2 (fun x hx=>h1 x (h.psub x hx))
 rw [List.length_range] at a1 a2
 exact ⟨a1,a2⟩
def J0 (w0 wE:World) (K:SK) (vp0:Value) (s00:Tj.St) (st m:Nat) (a:Act) (w:World):Prop:=
 ∃ vp va s t R,FrW K.sb st wE.heap.size va a∧WI w0 wE K vp0 vp va s t 0 R w∧Tj.Inv K.n K.out (Tj.meet s t) ((t,0)::R)∧Tj.mea K.n K.n K.out (Tj.meet s t) ((t,0)::R)≤m∧∀ x,s00.met x≠0∨x=st→(Tj.meet s t).met x≠0
def J1 (w0 wE:World) (K:SK) (vp0:Value) (s00:Tj.St) (st m:Nat) (a:Act) (w:World):Prop:=
 ∃ vp va s v g R,FrW K.sb st wE.heap.size va a∧WI w0 wE K vp0 vp va s v g R w∧Tj.Inv K.n K.out s ((v,g)::R)∧Tj.mea K.n K.n K.out s ((v,g)::R)≤m∧∀ x,s00.met x≠0∨x=st→s.met x≠0
def cellN (w:World) (B:Nat):Nat:=match w.cell? ⟨B,1,none⟩ with | some (.int _ x)=>x.toNat | _=>0
theorem walk_any {w0 wE:World} {K:SK} {vp0:Value} {s00:Tj.St} (hF:SF w0 K) (h:SE w0 K vp0 s00 wE) (hI:Tj.Inv K.n K.out s00 []) (st:Nat) (hst:st < K.n) (hm0:s00.met st=0) :
  Calls Tryz.prog 182 #[.pointer (some ⟨K.sb,0,none⟩),.int .i64 (st:Int)] wE fun e w'=>e=.returned (.tuple #[])∧∃ vp s,SE w0 K vp s w'∧SX K vp0 vp wE w'∧Tj.Inv K.n K.out s []∧∀ x,s00.met x≠0∨x=st→s.met x≠0:=by
 have H:Hid (SF w0 K∧SE w0 K vp0 s00 wE∧Tj.Inv K.n K.out s00 []):=⟨hF,h,hI⟩
 clear hF h hI
 go_enter Tryz.func182,Tryz.ntmps182
 go_wp2_with fail
 refine wp_two (J0 w0 wE K vp0 s00 st) (J1 w0 wE K vp0 s00 st) rfl rfl ?_ ?_ ?_
 ·rintro m a w ⟨vp,va,s,v,g,R,hfr,hW,hI,hmea,hmon⟩
  obtain ⟨u,rfl⟩:=hfr.lit
  clear hfr
  clear hm0
  obtain ⟨rl,hrl⟩:∃ rl,R.length=rl:=⟨_,rfl⟩
  obtain ⟨ra,ca,hva⟩:=row_form hW.rw
  rw [hrl] at hva
  subst hva
  have HRL:Hid (R.length=rl):=hrl
  clear hrl
  obtain ⟨go,hvo,hgo,hro⟩:=H.out.1.ro
  obtain ⟨n,hn⟩:∃ n,K.n=n:=⟨_,rfl⟩
  rw [hn] at hvo hro
  have HRO:Hid (K.vo=.slice (some ⟨go,0,none⟩) n n∧go < w0.heap.size∧(∀ i,i < n→∃ vi,w0.cell? ⟨go,i,none⟩=some vi∧IS w0 vi (K.out i))∧K.n=n∧n≤2000000):=⟨hvo,hgo,hro,hn,by have:=H.out.1.sz;omega⟩
  have HJ:Hid (WI w0 wE K vp0 vp (.slice ra rl ca) s v g R w∧Tj.Inv K.n K.out s ((v,g)::R)∧Tj.mea K.n K.n K.out s ((v,g)::R)≤m∧∀ x,s00.met x≠0∨x=st→s.met x≠0):=⟨hW,hI,hmea,hmon⟩
  have HV:Hid (v < n):=by
   show v < n
   have h1:=hI.core.psub v (by simp)
   have:=hI.core.lt v ((hI.core.mem v).1 h1).1
   omega
  clear hW hI hmea hmon hvo hgo hro hn
  go_wp2_with fail
  go_loopw [4] (fun s4 wr=>s4=.slice ra rl ca∧∃ vp s g,WI w0 wE K vp0 vp (.slice ra rl ca) s v g R wr∧Tj.Inv K.n K.out s ((v,g)::R)∧Tj.mea K.n K.n K.out s ((v,g)::R)≤m∧∀ x,s00.met x≠0∨x=st→s.met x≠0) (fun _ wr=>(K.out v).length - cellN wr wE.heap.size)
  case atStart=>exact ⟨rfl,vp,s,g,HJ.out⟩
  case round=>
   clear HJ
   obtain ⟨rfl,vp,s,g,hJ⟩:=hrel
   have HJ:Hid (WI w0 wE K vp0 vp (.slice ra rl ca) s v g R wr∧Tj.Inv K.n K.out s ((v,g)::R)∧Tj.mea K.n K.n K.out s ((v,g)::R)≤m∧∀ x,s00.met x≠0∨x=st→s.met x≠0):=hJ
   obtain ⟨vi,hci,hIS⟩:=HRO.out.2.2.1 v HV.out
   obtain ⟨ai,ci,hvi⟩:=hIS.form
   obtain ⟨ol,hol⟩:∃ ol,(K.out v).length=ol:=⟨_,rfl⟩
   rw [hol] at hvi
   subst hvi
   have HIS:Hid (IS w0 (.slice ai ol ci) (K.out v)∧(K.out v).length=ol):=⟨hIS,hol⟩
   have d0:=hJ.1.se.c0
   rw [HRO.out.1] at d0
   have b0:=hJ.1.p0
   have b1:=hJ.1.p1
   have ci':=(hJ.1.se.b0.cell (p:=⟨go,v,none⟩) HRO.out.2.1).trans hci
   have hvn:(v:Int) < (n:Int):=by have:=HV.out;omega
   have hv0:(0:Int)≤(v:Int):=by omega
   have holn:ol≤2000000:=by have:=H.out.1.ol v;have:=HRO.out.2.2.2;omega
   clear hJ hci hIS hol
   by_cases hg:g < ol
   ·have g1:(g:Int) < (ol:Int):=by omega
    go_wp2_with fail
    go_quiet (fail)
    have hgl:g < (K.out v).length:=by rw [HIS.out.2];exact hg
    obtain ⟨b,off,ea,hbw,ct⟩:=IS.at HIS.out.1 (HJ.out.1.se.b0) hgl
    subst ea
    obtain ⟨t,ht⟩:∃ t,(K.out v)[g]=t:=⟨_,rfl⟩
    rw [ht] at ct
    have HT:Hid ((K.out v)[g]=t∧t < K.n):=⟨ht,H.out.1.os v t (by rw [← ht];exact List.getElem_mem hgl)⟩
    clear ht
    have HW:Hid (WI w0 wE K vp0 vp (.slice ra rl ca) s v g R (wr.drewN nq)):=HJ.out.1.later (bd _ _)
    have ct':(wr.drewN nq).cell? ⟨b,off+g,none⟩=some (.int .i64 (t:Int)):=ct
    have ci2:(wr.drewN nq).cell? ⟨go,v,none⟩=some (.slice (some ⟨b,off,none⟩) ol ci):=ci'
    clear d0 b0 b1 ci' ct
    generalize wr.drewN nq=W0 at HW ct' ci2 ⊢
    have d0:=HW.out.se.c0
    rw [HRO.out.1] at d0
    have b0:=HW.out.p0
    have b1:=HW.out.p1
    have g0:(0:Int)≤(g:Int):=by omega
    go_wp2_with fail
    go_quiet (fail)
    rename Nat=>nz
    have HW1:Hid (WI w0 wE K vp0 vp (.slice ra rl ca) s v g R (W0.drewN nz)):=HW.out.later (bd _ _)
    clear d0 b0 b1 ct' ci2
    generalize W0.drewN nz=W1 at HW1 ⊢
    have b1:=HW1.out.p1
    have f1:=HW1.out.soft 1
    have HW2:Hid (WI w0 wE K vp0 vp (.slice ra rl ca) s v (g+1) R (W1.setCell ⟨wE.heap.size,1,none⟩ (.int .i64 ((g:Int)+1)))):=by
     have h9:=HW1.out.setg (g+1)
     rw [show (((g+1:Nat):Int))=(g:Int)+1 by omega] at h9
     exact h9
    have d1:=HW2.out.se.c1
    rw [HRO.out.2.2.2.1] at d1
    have cm:=arr_cell HW2.out.se.rm HT.out.2
    have htn:(t:Int) < (n:Int):=by have:=HT.out.2;have:=HRO.out.2.2.2.1;omega
    have ht0:(0:Int)≤(t:Int):=by omega
    by_cases hm:s.met t=0
    ·rw [hm] at cm
     have HM:Hid (s.met t=0):=hm
     clear hm
     have c0:=HW2.out.p0
     have c1:(W1.setCell ⟨wE.heap.size,1,none⟩ (.int .i64 ((g:Int)+1))).cell? ⟨wE.heap.size,1,none⟩=some (.int .i64 ((g:Int)+1)):=by
      have h9:=HW2.out.p1
      rw [show (((g+1:Nat):Int))=(g:Int)+1 by omega] at h9
      exact h9
     have HR2:Hid ((W1.setCell ⟨wE.heap.size,1,none⟩ (.int .i64 ((g:Int)+1))).ownsRow (wE.heap.size+1) 262 2 (.slice ra rl ca) R.reverse.length (pv R.reverse)):=by
      have h9:=HW2.out.rw
      rw [← List.length_reverse] at h9
      exact h9
     have HB2:Hid (wE.heap.size+1≤(W1.setCell ⟨wE.heap.size,1,none⟩ (.int .i64 ((g:Int)+1))).heap.size):=HW2.out.blt
     have HL2:Hid (R.reverse.length+1≤2000000):=by
      have h9:=(Core_len HJ.out.2.1.core).2
      have:=H.out.1.sz
      simp at h9
      show R.reverse.length+1≤2000000
      rw [List.length_reverse]
      omega
     have HSZ:Hid ((W1.setCell ⟨wE.heap.size,1,none⟩ (.int .i64 ((g:Int)+1))).heap.size=W1.heap.size):=by
      show (W1.setCell ⟨wE.heap.size,1,none⟩ (.int .i64 ((g:Int)+1))).heap.size=W1.heap.size
      simp
     go_wp2_with (first | (at_builtin;refine app_P (N:=W1.heap.size) HSZ.out (l:=R.reverse) v (g+1) HR2.out HL2.out HB2.out rfl (.tmp 51) (.tmp 53) rfl rfl rfl ?_;intro v7 w7 ho7 hg7 hv7;obtain ⟨a7,c7,rfl⟩:=row_form ho7;have HW7:Hid (WI w0 wE K vp0 vp (.slice a7 (R.reverse++[(v,g+1)]).length c7) s v (g+1) ((v,g+1)::R) w7):=HW2.out.push hg7 ho7;have q0:=HW7.out.p0;have q1:=HW7.out.p1;have f00:=HW7.out.soft 0;have f01:=HW7.out.soft 1))
     have HW8:Hid (WI w0 wE K vp0 vp (.slice a7 (R.length+1) c7) s t 0 ((v,g+1)::R) ((w7.setCell ⟨wE.heap.size,0,none⟩ (.int .i64 (t:Int))).setCell ⟨wE.heap.size,1,none⟩ (.int .i64 0))):=by
      have h9:=HW7.out.setat t 0
      rw [show (R.reverse++[(v,g+1)]).length=R.length+1 by simp] at h9
      exact h9
     apply wp_goto
     refine Or.inl ⟨rfl,_,Nat.lt_of_lt_of_le (Tj.mea_down (H.out.1.ol) hgl HM.out HT.out.2) HJ.out.2.2.1,vp,_,s,t,(v,g+1)::R,⟨rfl,rfl,rfl,rfl,rfl,rfl⟩,HW8.out,HJ.out.2.1.down hgl HT.out.1 HM.out HT.out.2,Nat.le_refl _,fun x hx=>?_⟩
     show Tj.upd s.met t (s.cnt+1) x≠0
     have h9:=HJ.out.2.2.2 x hx
     rw [Tj.upd_ne (show x≠t from fun e=>h9 (by rw [e];exact HM.out))]
     exact h9
    ·obtain ⟨mt,hmt⟩:∃ mt,s.met t=mt:=⟨_,rfl⟩
     rw [hmt] at cm hm
     have HM:Hid (s.met t≠0):=by show s.met t≠0;omega
     have hmi:¬ ((mt:Int)=0):=by omega
     clear hmt
     have c0:=HW2.out.p0
     have HC:Hid (Calls Tryz.prog 219 #[.pointer (some ⟨K.sb,0,none⟩),.int .i64 (v:Int),.int .i64 (t:Int)] (W1.setCell ⟨wE.heap.size,1,none⟩ (.int .i64 ((g:Int)+1))) fun e w'=>e=.returned (.tuple #[])∧SE w0 K vp (Tj.reaches s v t) w'∧SX K vp vp (W1.setCell ⟨wE.heap.size,1,none⟩ (.int .i64 ((g:Int)+1))) w'):=reaches_any H.out.1 HW2.out.se v t (by have:=HV.out;have:=HRO.out.2.2.2.1;omega) HT.out.2
     go_wp2_with fail
     refine HC.out.mono ?_
     rintro e w5 ⟨rfl,hs5,hx5⟩
     have HW5:Hid (WI w0 wE K vp0 vp (.slice ra rl ca) (Tj.reaches s v t) v (g+1) R w5):=HW2.out.call hs5 hx5
     have HI5:Hid (Tj.Inv K.n K.out (Tj.reaches s v t) ((v,g+1)::R)):=HJ.out.2.1.along hgl HT.out.1 HM.out
     clear hs5 hx5
     go_wp2_with fail
     go_roundw
     case rel=>
      obtain ⟨e1,_⟩:=Tj.reaches_eq (s:=s) (v:=v) (b:=t)
      refine ⟨rfl,vp,_,g+1,HW5.out,HI5.out,Nat.le_trans (Nat.le_of_lt (Tj.mea_along e1 hgl)) HJ.out.2.2.1,fun x hx=>?_⟩
      rw [e1];exact HJ.out.2.2.2 x hx
     case measure=>
      have e1:cellN w5 wE.heap.size=g+1:=by unfold cellN;rw [HW5.out.p1];rfl
      have e2:cellN wr wE.heap.size=g:=by unfold cellN;rw [HJ.out.1.p1];rfl
      rw [e1,e2]
      omega
   ·have hge:¬ (g:Int) < (ol:Int):=by omega
    have HG:Hid ((K.out v).length≤g):=by show (K.out v).length≤g;rw [HIS.out.2];omega
    go_wp2_with fail
    go_quiet (fail)
    have HW:Hid (WI w0 wE K vp0 vp (.slice ra rl ca) s v g R (wr.drewN nq)):=HJ.out.1.later (bd _ _)
    clear d0 b0 b1 ci'
    generalize wr.drewN nq=W0 at HW ⊢
    have b0:=HW.out.p0
    have HC:Hid (Calls Tryz.prog 220 #[.pointer (some ⟨K.sb,0,none⟩),.int .i64 (v:Int)] W0 fun e w'=>e=.returned (.tuple #[])∧∃ vp' s1,Tj.Lv s s1 v∧SE w0 K vp' s1 w'∧SX K vp vp' W0 w'):=by
     have h8:=HJ.out.2.1.core
     obtain ⟨h9,h10⟩:=h8.left
     have h11:=(Core_len h8).1
     have:=H.out.1.sz
     exact leave_any H.out.1 HW.out.se v (by have:=HV.out;have:=HRO.out.2.2.2.1;omega) h9 h10 (fun x hx=>h8.lt x ((h8.mem x).1 hx).1) (by omega)
    go_wp2_with fail
    refine HC.out.mono ?_
    rintro e w5 ⟨rfl,vp5,s5,hlv,hs5,hx5⟩
    have HW5:Hid (WI w0 wE K vp0 vp5 (.slice ra rl ca) s5 v g R w5∧Tj.Lv s s5 v):=⟨HW.out.call hs5 hx5,hlv⟩
    clear hs5 hx5 hlv HC b0
    have hrl0:(0:Int)≤(rl:Int):=by omega
    have hrl1:(rl:Int)≤2000000:=by
     have h9:=(Core_len HJ.out.2.1.core).2
     have:=H.out.1.sz
     have:=HRL.out
     simp at h9
     omega
    match R,HRL,HJ,HW5 with
    | [],HRL,HJ,HW5=>
     have e0:rl=0:=HRL.out.symm
     subst e0
     go_wp2_with fail
     simp only [jumps]
     go_end0
     refine ⟨rfl,vp5,s5,HW5.out.1.se,HW5.out.1.sx,HJ.out.2.1.end HG.out HW5.out.2,fun x hx=>?_⟩
     rw [HW5.out.2.met.1]
     exact HJ.out.2.2.2 x hx
    | (x,i)::R,HRL,HJ,HW5=>
     have e0:rl=R.length+1:=HRL.out.symm
     obtain ⟨q,hq⟩:∃ q,R.length=q:=⟨_,rfl⟩
     obtain ⟨ga,ca',ev,hca,k0,k1,hgB,hW6⟩:=HW5.out.1.last
     rw [← e0] at ev
     injection ev with ev1 _ ev3
     subst ev1 ev3
     have b0:=HW5.out.1.p0
     have b1:=HW5.out.1.p1
     have f0:=HW5.out.1.soft 0
     have f1:=HW5.out.1.soft 1
     have HW6:Hid (WI w0 wE K vp0 vp5 (.slice (some ⟨ga,0,none⟩) R.length ca) s5 v g R w5∧R.length=q):=⟨hW6,hq⟩
     have HXN:Hid (x < K.n):=by
      have h8:=HJ.out.2.1.core
      have h9:=h8.psub x (by simp)
      exact h8.lt x ((h8.mem x).1 h9).1
     rw [hq] at e0 k0 k1 hca
     subst e0
     have z1:(q:Int)≤2000000:=by omega
     have z2:(0:Int)≤(q:Int):=by omega
     have z3:((q+1:Nat):Int) - 1=(q:Int):=by omega
     clear hW6 hq
     go_wp2_with fail
     go_region
     have HW7:Hid (WI w0 wE K vp0 vp5 (.slice (some ⟨ga,0,none⟩) q ca) s5 x i R (((w5.setCell ⟨wE.heap.size,0,none⟩ (.int .i64 (x:Int))).setCell ⟨wE.heap.size,1,none⟩ (.int .i64 (i:Int))).drew)):=by
      have h9:=HW6.out.1.setat x i
      rw [HW6.out.2] at h9
      exact h9.later (Below.refl _ _).drew
     clear b0 b1 f0 f1 k0 k1
     generalize ((w5.setCell ⟨wE.heap.size,0,none⟩ (.int .i64 (x:Int))).setCell ⟨wE.heap.size,1,none⟩ (.int .i64 (i:Int))).drew=W7 at HW7 ⊢
     have b0:=HW7.out.p0
     have HC:Hid (Calls Tryz.prog 219 #[.pointer (some ⟨K.sb,0,none⟩),.int .i64 (x:Int),.int .i64 (v:Int)] W7 fun e w'=>e=.returned (.tuple #[])∧SE w0 K vp5 (Tj.reaches s5 x v) w'∧SX K vp5 vp5 W7 w'):=reaches_any H.out.1 HW7.out.se x v HXN.out (by have:=HV.out;have:=HRO.out.2.2.2.1;omega)
     go_wp2_with fail
     refine HC.out.mono ?_
     rintro e w9 ⟨rfl,hs9,hx9⟩
     have HW9:Hid (WI w0 wE K vp0 vp5 (.slice (some ⟨ga,0,none⟩) q ca) (Tj.reaches s5 x v) x i R w9):=HW7.out.call hs9 hx9
     clear hs9 hx9 HC b0
     go_wp2_with fail
     apply wp_goto
     obtain ⟨e1,_⟩:=Tj.reaches_eq (s:=s5) (v:=x) (b:=v)
     have e2:=HW5.out.2.met.1
     refine Or.inr ⟨rfl,_,Nat.lt_of_lt_of_le (Tj.mea_up (s':=Tj.reaches s5 x v) (e1.trans e2)) HJ.out.2.2.1,vp5,_,_,x,i,R,⟨rfl,rfl,rfl,rfl,rfl,rfl⟩,HW9.out,HJ.out.2.1.up HG.out HW5.out.2,Nat.le_refl _,fun y hy=>?_⟩
     rw [e1,e2]
     exact HJ.out.2.2.2 y hy
 ·rintro p1 m a w ⟨vp,va,s,t,R,hfr,hW,hI,hmea,hmon⟩
  obtain ⟨u,rfl⟩:=hfr.lit
  clear hfr
  have HJ:Hid (WI w0 wE K vp0 vp va s t 0 R w∧Tj.Inv K.n K.out (Tj.meet s t) ((t,0)::R)∧Tj.mea K.n K.n K.out (Tj.meet s t) ((t,0)::R)≤m∧∀ x,s00.met x≠0∨x=st→(Tj.meet s t).met x≠0):=⟨hW,hI,hmea,hmon⟩
  have HC:Hid (Calls Tryz.prog 218 #[.pointer (some ⟨K.sb,0,none⟩),.int .i64 (t:Int)] w fun e w'=>e=.returned (.tuple #[])∧∃ vp',SE w0 K vp' (Tj.meet s t) w'∧SX K vp vp' w w'):=by
   have h1:=hI.num
   have h2:=(Core_len hI.core).1
   have h3:=H.out.1.sz
   have h4:(Tj.meet s t).cnt=s.cnt+1:=rfl
   have h5:(Tj.meet s t).op.length=s.op.length+1:=by simp [Tj.meet]
   have h6:t < K.n:=hI.core.lt t (by show Tj.upd s.met t (s.cnt+1) t≠0;rw [Tj.upd_same];omega)
   exact smeet_any H.out.1 hW.se t h6 (by omega) (by omega)
  have b0:=hW.p0
  have b1:=hW.p1
  have HP1:Hid (_):=p1
  clear hW hI hmea hmon p1
  go_wp2_with fail
  refine HC.out.mono ?_
  rintro e w1 ⟨rfl,vp1,hs1,hx1⟩
  have HJ1:Hid (WI w0 wE K vp0 vp1 va (Tj.meet s t) t 0 R w1):=HJ.out.1.call hs1 hx1
  clear hs1 hx1
  go_wp2_with fail
  apply wp_label
  rename_i hK
  refine hK _ _ (HP1.out m _ _ ⟨vp1,va,Tj.meet s t,t,0,R,⟨rfl,rfl,rfl,rfl,rfl,rfl⟩,HJ1.out,HJ.out.2.1,HJ.out.2.2.1,HJ.out.2.2.2⟩)
 ·intro p00
  have HP0:Hid (_):=p00
  clear p00
  go_wp2_with fail
  apply wp_label
  rename_i hK
  refine hK _ _ (wp_mono (HP0.out (Tj.mea K.n K.n K.out (Tj.meet s00 st) [(st,0)]) _ _ ⟨vp0,_,s00,st,[],⟨rfl,rfl,rfl,rfl,rfl,rfl⟩,?_,H.out.2.2.begin hm0 hst,Nat.le_refl _,fun x hx=>?_⟩) (jumps_mono (fun _ _ ⟨m,_,h⟩=>⟨m,h⟩) (fun _ _ ⟨m,_,h⟩=>⟨m,h⟩)))
  ·have hb:=balloc wE (.cells #[.int .i64 (st:Int),.int .i64 0] 262)
   refine ⟨H.out.2.1.later hb,sx_below hb,?_,World.ownsRow_nil _ _ _ _,H.out.2.1.b0.size⟩
   exact heap_alloc_new wE _
  ·show Tj.upd s00.met st (s00.cnt+1) x≠0
   by_cases e:x=st
   ·rw [e,Tj.upd_same];omega
   ·rw [Tj.upd_ne e];exact hx.resolve_right e
end
section
open Go.RowKit Go.Maps
structure SM (w:World) (vo:Value) (n sb gm ge gl:Nat) (W:World):Prop where
 b:Below w.heap.size w W
 blk:W.heap[sb]? = some (.cells #[vo,.slice (some ⟨gm,0,none⟩) n n,.slice (some ⟨ge,0,none⟩) n n,.slice (some ⟨gl,0,none⟩) n n,.slice none 0 0,.int .i64 0] 224 (0,0))
 rm:W.heap[gm]? = some (arr n (fun _=>0))
 re:W.heap[ge]? = some (arr n (fun _=>0))
 rl:W.heap[gl]? = some (arr n (fun _=>0))
 ne:gm≠ge∧gm≠gl∧ge≠gl∧sb≠gm∧sb≠ge∧sb≠gl
 ge':w.heap.size≤sb∧w.heap.size≤gm∧w.heap.size≤ge∧w.heap.size≤gl
theorem al4 (w:World) (a b c d:Obj):let W:=((((w.alloc a).alloc b).alloc c).alloc d).drew
  Below w.heap.size w W∧W.heap[w.heap.size]? = some a∧W.heap[w.heap.size+1]? = some b∧W.heap[w.heap.size+1+1]? = some c∧W.heap[w.heap.size+1+1+1]? = some d:=by
 intro W
 have h1:=heap_alloc_new w a
 have h2:=heap_alloc_new (w.alloc a) b
 have h3:=heap_alloc_new ((w.alloc a).alloc b) c
 have h4:=heap_alloc_new (((w.alloc a).alloc b).alloc c) d
 have s1:(w.alloc a).heap.size=w.heap.size+1:=by simp
 have s2:((w.alloc a).alloc b).heap.size=w.heap.size+1+1:=by simp
 have s3:(((w.alloc a).alloc b).alloc c).heap.size=w.heap.size+1+1+1:=by simp
 rw [s1] at h2
 rw [s2] at h3
 rw [s3] at h4
 have o:∀ (V:World) (x:Obj) (k:Nat) (y:Obj),V.heap[k]? = some y→(V.alloc x).heap[k]? = some y:=fun V x k y hk=>(heap_alloc_old V x (Array.getElem?_eq_some_iff.1 hk).1).trans hk
 exact ⟨(bstep (balloc w a) (bstep (balloc _ b) (bstep (balloc _ c) (balloc _ d)))).drew,o _ _ _ _ (o _ _ _ _ (o _ _ _ _ h1)),o _ _ _ _ (o _ _ _ _ h2),o _ _ _ _ h3,h4⟩
theorem leasts_any {w:World} {vo:Value} {n:Nat} {out:Nat→List Nat} (hro:RO w vo n out) (hz:n≤2000000) (hol:∀ x,(out x).length≤n) (hos:∀ x,∀ y∈out x,y < n) :
  Calls Tryz.prog 141 #[vo] w fun e w'=>∃ gl least,e=.returned (.slice (some ⟨gl,0,none⟩) n n)∧w.heap.size≤gl∧w'.heap[gl]? = some (arr n least)∧Below w.heap.size w w'∧∀ x,x < n→Tj.Mu out x (least x)∧∀ y,Tj.Mu out x y→least x≤y:=by
 have H:Hid (RO w vo n out∧n≤2000000∧(∀ x,(out x).length≤n)∧(∀ x,∀ y∈out x,y < n)):=⟨hro,hz,hol,hos⟩
 obtain ⟨go,rfl,_,_⟩:=hro
 clear hol hos
 have hmk:=make_I n (by omega)
 have hn0:(0:Int)≤(n:Int):=by omega
 have hn1:(n:Int)≤2000000:=by omega
 go_enter Tryz.func141,Tryz.ntmps141
 go_wp2_with fail
 rename_i KK hK
 have HK:Hid (∀ sb gm ge gl W,SM w (.slice (some ⟨go,0,none⟩) n n) n sb gm ge gl W→KK { tmps:=#[.slice (some ⟨go,0,none⟩) n n,undef,.slice none 0 0,.pointer (some ⟨sb,0,none⟩),undef,.slice (some ⟨go,0,none⟩) n n,.slice (some ⟨go,0,none⟩) n n,.int .i64 (n:Int),.slice (some ⟨gm,0,none⟩) n n,.slice (some ⟨go,0,none⟩) n n,.int .i64 (n:Int),.slice (some ⟨ge,0,none⟩) n n,.slice (some ⟨go,0,none⟩) n n,.int .i64 (n:Int),.slice (some ⟨gl,0,none⟩) n n,.agg #[.slice (some ⟨go,0,none⟩) n n,.slice (some ⟨gm,0,none⟩) n n,.slice (some ⟨ge,0,none⟩) n n,.slice (some ⟨gl,0,none⟩) n n,.slice none 0 0,.int .i64 0],undef,undef,undef,undef,undef,undef,undef,undef,undef,undef,undef,undef,undef,undef,undef,undef],defers:=[] } W):=by
  intro sb gm ge gl W hM
  obtain ⟨K,hKe⟩:∃ K:SK,K=⟨sb,gm,ge,gl,n,.slice (some ⟨go,0,none⟩) n n,out⟩:=⟨_,rfl⟩
  have HF:Hid (SF w K):=by
   obtain ⟨n1,n2,n3,n4,n5,n6⟩:=hM.ne
   obtain ⟨g1,g2,g3,g4⟩:=hM.ge'
   rw [hKe]
   exact ⟨H.out.1,H.out.2.1,n1,n2,n3,n4,n5,n6,g1,g2,g3,g4,H.out.2.2.1,H.out.2.2.2⟩
  have HS0:Hid (SE w K (.slice none 0 0) ⟨fun _=>0,fun _=>0,fun _=>0,[],0⟩ W):=by
   rw [hKe]
   exact ⟨hM.b,hM.blk,hM.rm,hM.re,hM.rl,World.ownsRow_nil _ _ _ _,fun k hk=>by cases hk⟩
  have HKE:Hid (K.sb=sb∧K.gm=gm∧K.n=n∧K.gl=gl∧K.out=out):=by rw [hKe];exact ⟨rfl,rfl,rfl,rfl,rfl⟩
  clear hM hKe hmk
  apply hK
  go_wp2_with fail
  go_loopw [18] (fun s18 wr=>∃ (a:Nat) (vp:Value) (s:Tj.St),s18=.int .i64 (a:Int)∧a≤n∧SE w K vp s wr∧Tj.Inv K.n K.out s []∧∀ x,x < a→s.met x≠0) (fun s18 _=>n - (intOf s18).toNat)
  case atStart=>exact ⟨0,_,_,rfl,by omega,HS0.out,Tj.Inv.start _ _,fun x hx=>by omega⟩
  case round=>
   obtain ⟨a,vp,s,rfl,ha,hS,hI,hmt⟩:=hrel
   have HS:Hid (SE w K vp s wr∧Tj.Inv K.n K.out s []∧∀ x,x < a→s.met x≠0):=⟨hS,hI,hmt⟩
   by_cases hlt:a < n
   ·have d1:=hS.c1
    have cm:=arr_cell hS.rm (a:=a) (by rw [HKE.out.2.2.1];exact hlt)
    rw [HKE.out.1,HKE.out.2.1,HKE.out.2.2.1] at d1
    rw [HKE.out.2.1] at cm
    have k1:(a:Int) < (n:Int):=by omega
    have k0:(0:Int)≤(a:Int):=by omega
    obtain ⟨ma,hma⟩:∃ ma,s.met a=ma:=⟨_,rfl⟩
    rw [hma] at cm
    clear hS hI hmt
    by_cases h0:ma=0
    ·subst h0
     have HC:Hid (Calls Tryz.prog 182 #[.pointer (some ⟨sb,0,none⟩),.int .i64 (a:Int)] wr fun e w'=>e=.returned (.tuple #[])∧∃ vp' s',SE w K vp' s' w'∧SX K vp vp' wr w'∧Tj.Inv K.n K.out s' []∧∀ x,s.met x≠0∨x=a→s'.met x≠0):=by
      have h9:=walk_any HF.out HS.out.1 HS.out.2.1 a (by rw [HKE.out.2.2.1];exact hlt) hma
      rw [HKE.out.1] at h9
      exact h9
     clear hma
     go_wp2_with fail
     refine HC.out.mono ?_
     rintro e w2 ⟨rfl,vp2,s2,hs2,_,hi2,hm2⟩
     have HS2:Hid (SE w K vp2 s2 w2∧Tj.Inv K.n K.out s2 []∧∀ x,s.met x≠0∨x=a→s2.met x≠0):=⟨hs2,hi2,hm2⟩
     clear hs2 hi2 hm2 HC d1 cm
     go_wp2_with fail
     go_roundw
     case rel=>
      refine ⟨a+1,vp2,s2,by go_num,by omega,HS2.out.1,HS2.out.2.1,fun x hx=>HS2.out.2.2 x ?_⟩
      by_cases e:x=a
      ·exact .inr e
      ·exact .inl (HS.out.2.2 x (by omega))
     case measure=>simp [intOf];omega
    ·have h1:¬ ((ma:Int)=0):=by omega
     go_wp2_with fail
     go_roundw
     case rel=>
      refine ⟨a+1,vp,s,by go_num,by omega,HS.out.1,HS.out.2.1,fun x hx=>?_⟩
      by_cases e:x=a
      ·rw [e,hma];exact h0
      ·exact HS.out.2.2 x (by omega)
     case measure=>simp [intOf];omega
   ·obtain rfl:n=a:=by omega
    have d3:=hS.c3
    rw [HKE.out.1,HKE.out.2.2.2.1,HKE.out.2.2.1] at d3
    clear hS hI hmt
    go_wp2_with fail
    go_ret
    have e1:=HKE.out.2.2.2.1
    have h9:=HS.out.1.rl
    have h10:=HF.out.b4
    rw [e1,HKE.out.2.2.1] at h9
    rw [e1] at h10
    refine ⟨gl,s.least,rfl,h10,h9,HS.out.1.b0,fun x hx=>?_⟩
    have h11:=HS.out.2.1.done (HS.out.2.2 x hx)
    rw [HKE.out.2.2.2.2] at h11
    exact h11
 clear hK
 have HMK:∀ sb gm ge gl (a b c d:Obj),(∀ W,W=((((w.alloc a).alloc b).alloc c).alloc d).drew→SM w (.slice (some ⟨go,0,none⟩) n n) n sb gm ge gl W)→SM w (.slice (some ⟨go,0,none⟩) n n) n sb gm ge gl ((((w.alloc a).alloc b).alloc c).alloc d).drew:=fun _ _ _ _ _ _ _ _ h=>h _ rfl
 go_region
 all_goals
  refine HK.out _ _ _ _ _ (HMK _ _ _ _ _ _ _ _ (fun W hW=>?_))
  obtain ⟨hb,e0,e1,e2,e3⟩:=al4 w _ _ _ _
  rw [← hW] at hb e0 e1 e2 e3
  exact ⟨hb,by first | exact e0 | exact e1 | exact e2 | exact e3,by first | exact e0 | exact e1 | exact e2 | exact e3,by first | exact e0 | exact e1 | exact e2 | exact e3,by first | exact e0 | exact e1 | exact e2 | exact e3,by omega,by omega⟩
end
end Go.Proofs.YtppnbdnpapellaaGreatDoor
