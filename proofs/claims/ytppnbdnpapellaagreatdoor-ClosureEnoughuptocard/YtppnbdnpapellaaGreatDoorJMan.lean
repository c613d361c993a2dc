import Derived.Test.YtppnbdnpapellaaGreatDoorJWords
import Derived.Test.YtppnbdnpapellaaGreatDoorJLab
set_option maxRecDepth 100000
set_option maxHeartbeats 16000000
namespace Go.Proofs.YtppnbdnpapellaaGreatDoor
section
open Go.RowKit
def Tk.val (t:Tk):Value:=.agg #[.int .i64 t.kind,.string (bs t.text),.int .i64 t.at']
def tc:List Tk→List Value
 | []=>[]
 | t::r=>.int .i64 t.kind::.string (bs t.text)::.int .i64 t.at'::tc r
theorem tc_length:∀ l,(tc l).length=l.length * 3
 | []=>rfl
 | f::r=>by simp only [tc,List.length_cons,tc_length r];omega
theorem tc_append:∀ a b,tc (a++b)=tc a++tc b
 | [],b=>rfl
 | f::r,b=>by simp [tc,tc_append r b]
theorem tc_one:∀ (l:List Tk),∀ u∈tc l,u.oneCell'=true
 | [],u,h=>by simp [tc] at h
 | f::r,u,h=>by
  simp only [tc,List.mem_cons] at h
  rcases h with rfl | rfl | rfl | h
  ·rfl
  ·rfl
  ·rfl
  ·exact tc_one r u h
theorem tc_get:∀ (l:List Tk) (k:Nat) (h:k < l.length),(tc l)[k * 3]? = some (.int .i64 l[k].kind)∧(tc l)[k * 3+1]? = some (.string (bs l[k].text))∧(tc l)[k * 3+2]? = some (.int .i64 l[k].at')
 | f::r,0,_=>⟨rfl,rfl,rfl⟩
 | f::r,k+1,h=>by
  have ih:=tc_get r k (by simpa using h)
  rw [show (k+1) * 3=k * 3+3 by omega]
  simp only [tc,List.getElem_cons_succ]
  exact ⟨ih.1,ih.2.1,ih.2.2⟩
def TS (w:World) (v:Value) (l:List Tk):Prop:=
 ((∃ a c,v=.slice a 0 c)∧l=[])∨
 ∃ b off cap,v=.slice (some ⟨b,off,none⟩) l.length cap∧l.length≤cap∧b < w.heap.size∧∀ i u,(tc l)[i]? = some u→w.cell? ⟨b,off+i,none⟩=some u
theorem TS.below {w w':World} {v:Value} {l:List Tk} {B:Nat} (h:TS w v l) (hb:Below B w w') (hv:∀ k,v.ownBlock=some k→k < B):TS w' v l:=by
 rcases h with h | ⟨b,off,cap,rfl,hc,hlt,hcell⟩
 ·exact .inl h
 ·refine .inr ⟨b,off,cap,rfl,hc,Nat.lt_of_lt_of_le hlt hb.size,fun i u hu=>?_⟩
  rw [hb.cell (p:=⟨b,off+i,none⟩) (hv b rfl)];exact hcell i u hu
theorem TS.form {w:World} {v:Value} {l:List Tk} (h:TS w v l):∃ a c,v=.slice a l.length c∧(∀ k,(hk:k < l.length)→∃ b off,a=some ⟨b,off,none⟩∧b < w.heap.size∧
  w.cell? ⟨b,off+k * 3,none⟩=some (.int .i64 l[k].kind)∧w.cell? ⟨b,off+k * 3+1,none⟩=some (.string (bs l[k].text))∧w.cell? ⟨b,off+k * 3+2,none⟩=some (.int .i64 l[k].at')):=by
 rcases h with ⟨⟨a,c,rfl⟩,rfl⟩ | ⟨b,off,cap,rfl,hc,hlt,hcell⟩
 ·exact ⟨a,c,rfl,fun k hk=>by simp at hk⟩
 ·refine ⟨_,cap,rfl,fun k hk=>⟨b,off,rfl,hlt,?_⟩⟩
  obtain ⟨c0,c1,c2⟩:=tc_get l k hk
  exact ⟨hcell _ _ c0,by rw [Nat.add_assoc];exact hcell _ _ c1,by rw [Nat.add_assoc];exact hcell _ _ c2⟩
theorem und248:Tryz.prog.underlying 248=some (.slice 294):=by kernel_rfl
theorem info294:(Tryz.prog.info? 294).map (fun i=>(i.zero,i.size,i.bytes))=some (some (.agg #[.int .i64 0,.string ⟨#[]⟩,.int .i64 0]),3,32):=by kernel_rfl
def OwnT (e:TypeId) (base:Nat) (w:World) (v:Value) (l:List Tk):Prop:=w.ownsRow base e 3 v l.length (tc l)
theorem OwnT.nil (e:TypeId) (base:Nat) (w:World):OwnT e base w (.slice none 0 0) []:=World.ownsRow_nil w base e 3
theorem OwnT.ts {e:TypeId} {base:Nat} {w:World} {v:Value} {l:List Tk} (h:OwnT e base w v l):TS w v l:=by
 rcases h.2 with ⟨rfl,h0⟩ | ⟨g,cap,cur,rfl,hb,hg,hn,_⟩
 ·exact .inl ⟨⟨_,_,rfl⟩,List.eq_nil_of_length_eq_zero h0⟩
 ·refine .inr ⟨g,0,cap,rfl,hn,(Array.getElem?_eq_some_iff.1 hg).1,fun i u hu=>?_⟩
  have:=World.ownsRow.cells h (g:=g) rfl i u hu
  rw [add_lit] at this;exact this
theorem OwnT.lt {e:TypeId} {base:Nat} {w:World} {v:Value} {l:List Tk} (h:OwnT e base w v l) {k:Nat} (hk:v.ownBlock=some k):base≤k∧k < w.heap.size:=World.ownsRow.lt h k hk
theorem OwnT.only {S:List Nat} {e:TypeId} {base:Nat} {w w':World} {v:Value} {l:List Tk} (h:OwnT e base w v l) (ho:Only S w w') (hn:∀ k,v.ownBlock=some k→k∉S):OwnT e base w' v l:=by
 rcases h with ⟨h0,h | ⟨g,cap,cur,rfl,hb,hg,hr⟩⟩
 ·exact ⟨h0,.inl h⟩
 ·exact ⟨h0,.inr ⟨g,cap,cur,rfl,hb,(ho.block g (Array.getElem?_eq_some_iff.1 hg).1 (hn g rfl)).trans hg,hr⟩⟩
theorem OwnT.later {e:TypeId} {base:Nat} {w w':World} {v:Value} {l:List Tk} (h:OwnT e base w v l) (hb:Below w.heap.size w w'):OwnT e base w' v l:=
 h.only (Only.of_below hb []) (by simp)
theorem OwnT.form {e:TypeId} {base:Nat} {w:World} {v:Value} {l:List Tk} (h:OwnT e base w v l):∃ a c,v=.slice a l.length c:=by
 obtain ⟨a,c,e,_⟩:=h.ts.form;exact ⟨a,c,e⟩
theorem app_toks {t e:TypeId} (hu:Tryz.prog.underlying t=some (.slice e)) (hinf:(Tryz.prog.info? e).map (fun i=>(i.zero,i.size,i.bytes))=some (some (.agg #[.int .i64 0,.string ⟨#[]⟩,.int .i64 0]),3,32)) {w:World} {base:Nat} {v x:Value} {l k:List Tk} (hown:OwnT e base w v l) (hs:Src Tryz.prog 3 t x k.length (tc k) w) (hb:l.length+k.length≤1000000000) (hbase:base≤w.heap.size)
  {ops:Array Oper} {rest:List Oper} {o:Oper} {a:Act} {Q:Exit→Act→World→Prop} (hgd:o.guard=none) (s y:Operand)
  (ho:o.op=.call { callee:=.builtin .append,args:=#[s,y],argTypes:=#[t,t] }) (hv:a.eval s=v) (hx:a.eval y=x)
  (h:∀ v' w',OwnT e base w' v' (l++k)→w.grownBy w' v.ownBlock→(v'.ownBlock=v.ownBlock∨v'.ownBlock=some w.heap.size)→wpList Tryz.prog ops Q rest (a.put o.dst v') w') :
  wpList Tryz.prog ops Q (o::rest) a w:=by
 obtain ⟨i0,hi,hz0,hz1,hz2⟩:=info_parts hinf
 refine wpList_append_src w hgd s y t t ho base e i0 _ 3 32 hu hi hz0 hz1 hz2 rfl v l.length (tc l) hv hown x k.length (tc k) hx hs (by simp only [maxLen];omega) (by omega) hbase ?_
 intro v' w' h1 h2 h3
 exact h v' w' (by unfold OwnT;rw [tc_append,List.length_append];exact h1) h2 h3
theorem src_tok {t e:TypeId} (hu:Tryz.prog.underlying t=some (.slice e)) (w:World) (a b:Int) (X:ByteArray):Src Tryz.prog 3 t (.slice (some ⟨w.heap.size,0,none⟩) 1 1) [(⟨a,X.data.toList,b⟩:Tk)].length (tc [⟨a,X.data.toList,b⟩]) (w.alloc (.cells #[.int .i64 a,.string X,.int .i64 b] e)):=by
 refine Src.ofSlice _ hu ⟨w.heap.size,0,none⟩ 1 1 (tc [⟨a,X.data.toList,b⟩]) (by simp [tc_length]) ?_ (tc_one _)
 exact World.news_of_block (heap_alloc_new w _)
theorem app_tok {t e:TypeId} (hu:Tryz.prog.underlying t=some (.slice e)) (hinf:(Tryz.prog.info? e).map (fun i=>(i.zero,i.size,i.bytes))=some (some (.agg #[.int .i64 0,.string ⟨#[]⟩,.int .i64 0]),3,32)) {w:World} {base:Nat} {v:Value} {l:List Tk} (p q:Int) (X:ByteArray) (hown:OwnT e base w v l) (hb:l.length+1≤1000000000) (hbase:base≤w.heap.size)
  {ops:Array Oper} {rest:List Oper} {o:Oper} {a:Act} {Q:Exit→Act→World→Prop} (hgd:o.guard=none) (s y:Operand)
  (ho:o.op=.call { callee:=.builtin .append,args:=#[s,y],argTypes:=#[t,t] }) (hv:a.eval s=v) (hx:a.eval y=.slice (some ⟨w.heap.size,0,none⟩) 1 1)
  (h:∀ v' w',OwnT e base w' v' (l++[⟨p,X.data.toList,q⟩])→Below base w w'→base≤w'.heap.size→wpList Tryz.prog ops Q rest (a.put o.dst v') w') :
  wpList Tryz.prog ops Q (o::rest) a (w.alloc (.cells #[.int .i64 p,.string X,.int .i64 q] e)):=by
 refine app_toks hu hinf (base:=base) (l:=l) (k:=[⟨p,X.data.toList,q⟩]) (World.ownsRow.alloc hown _) (src_tok hu w p q X) (by simpa using hb) (by simp;omega) hgd s y ho hv hx ?_
 intro v' w' h1 h2 h3
 have hlt:=World.ownsRow.lt hown
 have hB:Below base w w':=((Below.refl _ _).alloc hbase _).grown h2 (by simp;omega) (fun k hk=>(hlt k hk).1)
 exact h v' w' h1 hB (Nat.le_trans hbase hB.size)
end
section
open Go.RowKit
theorem idx_cl:∀ r:List UInt8,(Lib.indexByte r 10 = -1∧xcl r=r.length)∨(Lib.indexByte r 10=(xcl r:Int)∧xcl r < r.length)
 | []=>.inl ⟨rfl,rfl⟩
 | c::r=>by
  rw [Lib.indexByte,xcl]
  by_cases h:(c == 10)=true
  ·rw [if_pos h,if_pos h];exact .inr ⟨rfl,by simp⟩
  ·rw [if_neg h,if_neg h]
   rcases idx_cl r with ⟨h1,h2⟩ | ⟨h1,h2⟩
   ·rw [h1];exact .inl ⟨by simp,by simp;omega⟩
   ·rw [h1]
    have e:(((xcl r:Int)) == -1)=false:=by rw [beq_eq_false_iff_ne];omega
    rw [e]
    exact .inr ⟨by simp;omega,by simp;omega⟩
theorem drop_lt {α:Type} {l:List α} {k:Nat} (h:k < l.length):l.drop k=l[k]::l.drop (k+1):=List.drop_eq_getElem_cons h
theorem lineEnd_any (l:List UInt8) (n:Nat) (w:World) (hn:n≤l.length) (hl:l.length≤1000000000) :
  Calls Tryz.prog 266 #[.string (bs l),.int .i64 n] w fun e w'=>e=.returned (.int .i64 ((n+xcl (l.drop n):Nat):Int))∧w'=w:=by
 have hz:(bs l).size=l.length:=rfl
 have HE:Hid ((bs l).extract n l.length=bs (l.drop n)):=by
  show (bs l).extract n l.length=bs (l.drop n)
  rw [bs_extract,List.take_of_length_le (by simp)]
 have n1:(0:Int)≤(n:Int):=by omega
 have n2:(n:Int)≤(l.length:Int):=by omega
 have HI:Hid (∀ w:World,Calls Tryz.prog 268 #[.string (bs (l.drop n)),.int .u8 10] w fun e w'=>e=.returned (.int .i64 (Lib.indexByte (l.drop n) 10))∧w'=w):=fun w=>xindexByte_any (l.drop n) 10 w
 have hc:=idx_cl (l.drop n)
 rw [List.length_drop] at hc
 generalize xcl (l.drop n)=m at *
 generalize Lib.indexByte (l.drop n) 10=y at *
 rcases hc with ⟨rfl,hm⟩ | ⟨rfl,hm⟩
 ·have e1:n+m=l.length:=by omega
  rw [e1]
  clear e1 hm
  go_enter Tryz.func266,Tryz.ntmps266
  go_wp2_with fail
  rw [HE.out]
  refine (HI.out _).mono ?_
  rintro e w1 ⟨rfl,rfl⟩
  go_wp2_with fail
  go_ret
  exact ⟨rfl,rfl⟩
 ·have m1:n+m < l.length:=by omega
  clear hm
  go_enter Tryz.func266,Tryz.ntmps266
  go_wp2_with fail
  rw [HE.out]
  refine (HI.out _).mono ?_
  rintro e w1 ⟨rfl,rfl⟩
  go_wp2_with fail
  go_ret
  exact ⟨by go_num,rfl⟩
theorem gp_at {l:List UInt8} {k:Nat} (h:k < l.length) (hc:l[k]=35):k+gp false (l.drop k)=(k+xcl (l.drop k))+gp false (l.drop (k+xcl (l.drop k)))∧0 < xcl (l.drop k)∧k+xcl (l.drop k)≤l.length:=by
 have hle:=cl_le (l.drop k)
 have e1:gp false (l.drop k)=gp true (l.drop k):=by
  rw [drop_lt h,hc,gp,gp,if_pos (by decide)];rfl
 have e2:0 < xcl (l.drop k):=by
  rw [drop_lt h,hc,xcl,if_neg (by decide)];omega
 refine ⟨?_,e2,by rw [List.length_drop] at hle;omega⟩
 rw [e1,gp_true,List.drop_drop];omega
theorem pass_any (l:List UInt8) (n:Nat) (w:World) (hn:n≤l.length) (hl:l.length≤1000000000) :
  Calls Tryz.prog 242 #[.string (bs l),.int .i64 n] w fun e w'=>e=.returned (.int .i64 ((n+gp false (l.drop n):Nat):Int))∧w'=w:=by
 have hz:(bs l).size=l.length:=rfl
 obtain ⟨R,hR⟩:∃ R,n+gp false (l.drop n)=R:=⟨_,rfl⟩
 rw [hR]
 have HR:Hid (n+gp false (l.drop n)=R):=hR
 have HN:Hid (n≤l.length):=hn
 clear hR hn
 go_enter Tryz.func242,Tryz.ntmps242
 go_wp2_with fail
 go_loop [1] (fun s=>∃ k:Nat,k≤l.length∧s=.int .i64 k∧k+gp false (l.drop k)=R) (fun s=>l.length - (intOf s).toNat)
 case atStart=>exact ⟨n,HN.out,rfl,HR.out⟩
 case round=>
  clear HR HN
  obtain ⟨k,hk,rfl,hr⟩:=hrel
  have HR:Hid (k+gp false (l.drop k)=R):=hr
  clear hr
  by_cases hlt:k < l.length
  ·have k1:(0:Int)≤(k:Int):=by omega
   have k2:(k:Int) < (l.length:Int):=by omega
   by_cases h9:l[k]=9
   ·have f9:((((bs l)[k]'(show k < (bs l).size from hlt)).toNat:Int) == 9)=true:=at_eq hlt h9
    have HG:Hid (k+1+gp false (l.drop (k+1))=R):=by
     have:=HR.out
     rw [drop_lt hlt,gp_blank (by rw [h9];decide)] at this
     show _=_
     omega
    go_wp2_with fail
    go_round
    case rel=>exact ⟨k+1,by omega,by go_num,HG.out⟩
    case measure=>simp [intOf];omega
   have f9:((((bs l)[k]'(show k < (bs l).size from hlt)).toNat:Int) == 9)=false:=at_ne hlt h9
   by_cases h10:l[k]=10
   ·have f10:((((bs l)[k]'(show k < (bs l).size from hlt)).toNat:Int) == 10)=true:=at_eq hlt h10
    have HG:Hid (k+1+gp false (l.drop (k+1))=R):=by
     have:=HR.out
     rw [drop_lt hlt,gp_blank (by rw [h10];decide)] at this
     show _=_
     omega
    go_wp2_with fail
    go_round
    case rel=>exact ⟨k+1,by omega,by go_num,HG.out⟩
    case measure=>simp [intOf];omega
   have f10:((((bs l)[k]'(show k < (bs l).size from hlt)).toNat:Int) == 10)=false:=at_ne hlt h10
   by_cases h13:l[k]=13
   ·have f13:((((bs l)[k]'(show k < (bs l).size from hlt)).toNat:Int) == 13)=true:=at_eq hlt h13
    have HG:Hid (k+1+gp false (l.drop (k+1))=R):=by
     have:=HR.out
     rw [drop_lt hlt,gp_blank (by rw [h13];decide)] at this
     show _=_
     omega
    go_wp2_with fail
    go_round
    case rel=>exact ⟨k+1,by omega,by go_num,HG.out⟩
    case measure=>simp [intOf];omega
   have f13:((((bs l)[k]'(show k < (bs l).size from hlt)).toNat:Int) == 13)=false:=at_ne hlt h13
   by_cases h32:l[k]=32
   ·have f32:((((bs l)[k]'(show k < (bs l).size from hlt)).toNat:Int) == 32)=true:=at_eq hlt h32
    have HG:Hid (k+1+gp false (l.drop (k+1))=R):=by
     have:=HR.out
     rw [drop_lt hlt,gp_blank (by rw [h32];decide)] at this
     show _=_
     omega
    go_wp2_with fail
    go_round
    case rel=>exact ⟨k+1,by omega,by go_num,HG.out⟩
    case measure=>simp [intOf];omega
   have f32:((((bs l)[k]'(show k < (bs l).size from hlt)).toNat:Int) == 32)=false:=at_ne hlt h32
   by_cases h35:l[k]=35
   ·have f35:((((bs l)[k]'(show k < (bs l).size from hlt)).toNat:Int) == 35)=true:=at_eq hlt h35
    obtain ⟨g1,g2,g3⟩:=gp_at hlt h35
    have HG:Hid ((k+xcl (l.drop k))+gp false (l.drop (k+xcl (l.drop k)))=R∧k < k+xcl (l.drop k)∧k+xcl (l.drop k)≤l.length):=⟨g1.symm.trans HR.out,by omega,g3⟩
    have HC:Hid (∀ w:World,Calls Tryz.prog 266 #[.string (bs l),.int .i64 k] w fun e w'=>e=.returned (.int .i64 ((k+xcl (l.drop k):Nat):Int))∧w'=w):=fun w=>lineEnd_any l k w hk hl
    generalize k+xcl (l.drop k)=j at *
    clear g1 g2 g3
    go_wp2_with fail
    refine (HC.out _).mono ?_
    rintro e w1 ⟨rfl,rfl⟩
    go_wp2_with fail
    go_round
    case rel=>exact ⟨j,HG.out.2.2,rfl,HG.out.1⟩
    case measure=>have:=HG.out;simp [intOf];omega
   have f35:((((bs l)[k]'(show k < (bs l).size from hlt)).toNat:Int) == 35)=false:=at_ne hlt h35
   have HG:Hid (k=R):=by
    have:=HR.out
    rw [drop_lt hlt,gp_other h35 (by simp [isB,h9,h10,h13,h32])] at this
    exact this
   go_wp2_with fail
   go_ret
   exact ⟨by rw [← HG.out];rfl,rfl⟩
  ·obtain rfl:k=l.length:=by omega
   have HG:Hid (l.length=R):=by
    have:=HR.out
    rw [List.drop_length] at this
    exact this
   go_wp2_with fail
   go_ret
   exact ⟨by rw [← HG.out];rfl,rfl⟩
theorem behind_any (l:List UInt8) (n:Nat) (w:World) (hn:n < l.length) (hl:l.length≤1000000000) (_hk:kd l[n]≠0) :
  Calls Tryz.prog 244 #[.string (bs l),.int .i64 n,.int .i64 (kd l[n]:Nat)] w fun e w'=>e=.returned (.int .i64 ((n+1+ktl l[n] (l.drop (n+1)):Nat):Int))∧w'=w:=by
 have hz:(bs l).size=l.length:=rfl
 unfold ktl
 cases hw:inW l[n]
 ·have hk1:(((kd l[n]:Nat):Int) == 1)=false:=by
   rw [beq_eq_false_iff_ne]
   unfold kd
   rw [hw]
   have:mkd l[n]≠1:=u8_all (P:=fun c=>mkd c≠1) (by decide +kernel) _
   simp;omega
  generalize kd l[n]=m at *
  simp only [Bool.false_eq_true,if_false,Nat.add_zero]
  clear hw
  go_enter Tryz.func244,Tryz.ntmps244
  go_wp2_with fail
  go_loop [1] (fun s=>s=.int .i64 ((n+1:Nat):Int)) (fun _=>0)
  case atStart=>rfl
  case round=>
   subst hrel
   go_wp2_with fail
   go_ret
   exact ⟨rfl,rfl⟩
 ·rw [kd_word hw]
  simp only [if_true]
  show Calls Tryz.prog 244 #[.string (bs l),.int .i64 n,.int .i64 1] w _
  obtain ⟨R,hR⟩:∃ R,n+1+wl (l.drop (n+1))=R:=⟨_,rfl⟩
  rw [hR]
  have HR:Hid (n+1+wl (l.drop (n+1))=R):=hR
  clear hR hw
  go_enter Tryz.func244,Tryz.ntmps244
  go_wp2_with fail
  go_loop [1] (fun s=>∃ k:Nat,k≤l.length∧s=.int .i64 k∧k+wl (l.drop k)=R) (fun s=>l.length - (intOf s).toNat)
  case atStart=>exact ⟨n+1,hn,by go_num,HR.out⟩
  case round=>
   clear HR
   obtain ⟨k,hk,rfl,hr⟩:=hrel
   have HR:Hid (k+wl (l.drop k)=R):=hr
   clear hr
   by_cases hlt:k < l.length
   ·have k1:(0:Int)≤(k:Int):=by omega
    have k2:(k:Int) < (l.length:Int):=by omega
    have HC:Hid (∀ w:World,Calls Tryz.prog 267 #[.int .u8 l[k].toNat] w fun e w'=>e=.returned (.bool (inW l[k]))∧w'=w):=fun w=>inWord_any _ w
    have hd:=drop_lt hlt
    cases hi:inW l[k]
    ·rw [hi] at HC
     have HG:Hid (k=R):=by
      have:=HR.out
      rw [hd,wl,hi] at this
      show k=R
      simpa using this
     clear hd hi
     go_wp2_with fail
     refine (HC.out _).mono ?_
     rintro e w1 ⟨rfl,rfl⟩
     go_wp2_with fail
     go_ret
     exact ⟨by rw [← HG.out];rfl,rfl⟩
    ·rw [hi] at HC
     have HG:Hid (k+1+wl (l.drop (k+1))=R):=by
      have:=HR.out
      rw [hd,wl,hi,if_pos rfl] at this
      show _=_
      omega
     clear hd hi
     go_wp2_with fail
     refine (HC.out _).mono ?_
     rintro e w1 ⟨rfl,rfl⟩
     go_wp2_with fail
     go_round
     case rel=>exact ⟨k+1,by omega,by go_num,HG.out⟩
     case measure=>simp [intOf];omega
   ·obtain rfl:k=l.length:=by omega
    have HG:Hid (l.length=R):=by
     have:=HR.out
     rw [List.drop_length] at this
     exact this
    go_wp2_with fail
    go_ret
    exact ⟨by rw [← HG.out];rfl,rfl⟩
end
section
open Go.RowKit
theorem tq_at {l:List UInt8} {k e p:Nat} (h:k < l.length) (hk:kd l[k]≠0) (he:k+1+ktl l[k] (l.drop (k+1))=e) (hp:e+gp false (l.drop e)=p) :
  tq (l.drop k) k=(⟨(kd l[k]:Nat),((bs l).extract k e).data.toList,k⟩::(tq (l.drop p) p).1,(tq (l.drop p) p).2)∧k < e∧e≤l.length∧e≤p∧p≤l.length:=by
 have h1:=ktl_le l[k] (l.drop (k+1))
 have h2:=gp_le false (l.drop e)
 rw [List.length_drop] at h1 h2
 refine ⟨?_,by omega,by omega,by omega,by omega⟩
 rw [drop_lt h,tq_tok hk]
 have e1:(l.drop (k+1)).drop (ktl l[k] (l.drop (k+1)))=l.drop e:=by rw [List.drop_drop,he]
 rw [e1,he]
 have e2:((bs l).extract k e).data.toList=l[k]::(l.drop (k+1)).take (ktl l[k] (l.drop (k+1))):=by
  rw [bs_extract,bs_data,drop_lt h,show e - k=ktl l[k] (l.drop (k+1))+1 by omega,List.take_succ_cons]
 rw [e2]
 unfold tg
 rw [List.drop_drop,hp]
theorem tq_no {l:List UInt8} {k:Nat} (h:k < l.length) (hk:kd l[k]=0):tq (l.drop k) k=([],(k:Int)):=by
 rw [drop_lt h,tq_bad hk]
theorem tokens_any (l:List UInt8) (w:World) (hl:l.length≤500000000) :
  Calls Tryz.prog 208 #[.string (bs l)] w fun e w'=>∃ v,e=.returned (.tuple #[v,.int .i64 (toks l).2])∧OwnT 294 w.heap.size w' v (toks l).1∧Below w.heap.size w w':=by
 have hz:(bs l).size=l.length:=rfl
 obtain ⟨S,hS⟩:∃ S,toks l=S:=⟨_,rfl⟩
 rw [hS]
 have HP:Hid (∀ w:World,Calls Tryz.prog 242 #[.string (bs l),.int .i64 0] w fun e w'=>e=.returned (.int .i64 ((gp false l:Nat):Int))∧w'=w):=fun w=>by
  have:=pass_any l 0 w (by omega) (by omega)
  rw [List.drop_zero,Nat.zero_add] at this
  exact this
 have hle:=gp_le false l
 have HS:Hid (tq (l.drop (gp false l)) (gp false l)=S∧gp false l≤l.length):=⟨by rw [← hS];unfold toks tg;rw [Nat.zero_add],hle⟩
 generalize gp false l=k0 at *
 clear hS hle
 obtain ⟨TT,E⟩:=S
 go_enter Tryz.func208,Tryz.ntmps208
 go_wp2_with fail
 refine (HP.out _).mono ?_
 rintro e w1 ⟨rfl,hw⟩
 obtain rfl:w=w1:=hw.symm
 go_wp2_with fail
 go_loopw [4,5] (fun v s wr=>∃ (k:Nat) (L:List Tk),k≤l.length∧s=.int .i64 k∧OwnT 294 w.heap.size wr v L∧Below w.heap.size w wr∧L++(tq (l.drop k) k).1=TT∧(tq (l.drop k) k).2=E∧L.length≤k) (fun _ s _=>l.length - (intOf s).toNat)
 case atStart=>exact ⟨k0,[],HS.out.2,rfl,OwnT.nil _ _ _,Below.refl _ _,by rw [HS.out.1];rfl,by rw [HS.out.1],by simp⟩
 case round=>
  obtain ⟨k,L,hk,rfl,ho,hb,ht,hE,hL⟩:=hrel
  clear HS HP
  have HO:Hid (OwnT 294 w.heap.size wr u4 L∧Below w.heap.size w wr):=⟨ho,hb⟩
  have HT:Hid (L++(tq (l.drop k) k).1=TT∧(tq (l.drop k) k).2=E):=⟨ht,hE⟩
  have hsz:=hb.size
  clear ho hb ht hE
  by_cases hlt:k < l.length
  ·have k1:(0:Int)≤(k:Int):=by omega
   have k2:(k:Int) < (l.length:Int):=by omega
   have HK:Hid (∀ w:World,Calls Tryz.prog 243 #[.int .u8 l[k].toNat] w fun e w'=>e=.returned (.int .i64 (kd l[k]:Nat))∧w'=w):=fun w=>xkind_any _ w
   by_cases h0:kd l[k]=0
   ·have hq:=tq_no hlt h0
    rw [h0] at HK
    have HT2:Hid (L=TT∧(k:Int)=E):=by
     have:=HT.out
     rw [hq] at this
     simp only [List.append_nil] at this
     exact this
    clear HT hq h0
    go_wp2_with fail
    refine (HK.out _).mono ?_
    rintro e w1 ⟨rfl,rfl⟩
    go_wp2_with fail
    go_ret2
    obtain ⟨a1,a2⟩:=HT2.out
    subst a1 a2
    exact ⟨_,rfl,HO.out.1,HO.out.2⟩
   ·obtain ⟨en,hen⟩:∃ en,k+1+ktl l[k] (l.drop (k+1))=en:=⟨_,rfl⟩
    obtain ⟨p,hp⟩:∃ p,en+gp false (l.drop en)=p:=⟨_,rfl⟩
    obtain ⟨hq,q1,q2,q3,q4⟩:=tq_at hlt h0 hen hp
    have HB:Hid (∀ w:World,Calls Tryz.prog 244 #[.string (bs l),.int .i64 k,.int .i64 (kd l[k]:Nat)] w fun e w'=>e=.returned (.int .i64 (en:Int))∧w'=w):=fun w=>by
     have:=behind_any l k w hlt (by omega) h0
     rw [hen] at this
     exact this
    have HP:Hid (∀ w:World,Calls Tryz.prog 242 #[.string (bs l),.int .i64 en] w fun e w'=>e=.returned (.int .i64 (p:Int))∧w'=w):=fun w=>by
     have:=pass_any l en w q2 (by omega)
     rw [hp] at this
     exact this
    have hne:(((kd l[k]:Nat):Int) == 0)=false:=by rw [beq_eq_false_iff_ne];omega
    have HT2:Hid ((L++[⟨((kd l[k]:Nat):Int),((bs l).extract k en).data.toList,(k:Int)⟩])++(tq (l.drop p) p).1=TT∧(tq (l.drop p) p).2=E):=by
     have:=HT.out
     rw [hq] at this
     rw [List.append_assoc]
     exact this
    generalize kd l[k]=m at *
    clear HT hq h0 hen hp
    have c1:(0:Int)≤(en:Int):=by omega
    have c2:(en:Int)≤(l.length:Int):=by omega
    have c3:(k:Int)≤(en:Int):=by omega
    go_wp2_with fail
    refine (HK.out _).mono ?_
    rintro e w1 ⟨rfl,rfl⟩
    go_wp2_with fail
    refine (HB.out _).mono ?_
    rintro e w1 ⟨rfl,rfl⟩
    go_wp2_with (first
     | (at_builtin;refine app_tok und248 info294 (m:Int) (k:Int) ((bs l).extract k en) HO.out.1 (by omega) hsz rfl (.tmp 26) (.tmp 34) rfl rfl rfl ?_;intro v1 w1 hO1 hB1 hs1;have HO1:Hid (OwnT 294 w.heap.size w1 v1 (L++[⟨(m:Int),((bs l).extract k en).data.toList,(k:Int)⟩])∧Below w.heap.size w w1):=⟨hO1,below_trans HO.out.2 hB1⟩;clear hO1 hB1))
    refine (HP.out _).mono ?_
    rintro e w2 ⟨rfl,rfl⟩
    go_wp2_with fail
    go_roundw
    case rel=>exact ⟨p,_,q4,rfl,HO1.out.1,HO1.out.2,HT2.out.1,HT2.out.2,by simp;omega⟩
    case measure=>simp [intOf];omega
  ·obtain rfl:k=l.length:=by omega
   have HT2:Hid (L=TT∧(-1:Int)=E):=by
    have:=HT.out
    rw [List.drop_length,tq_nil] at this
    simp only [List.append_nil] at this
    exact this
   clear HT
   go_wp2_with fail
   go_ret2
   obtain ⟨a1,a2⟩:=HT2.out
   subst a1 a2
   exact ⟨_,rfl,HO.out.1,HO.out.2⟩
end
structure Tg where
 name:List UInt8
 srcs:List (List UInt8)
 deps:List Lb
 see:List (List UInt8)
 deriving DecidableEq
def wTarget:List UInt8:=[116,97,114,103,101,116]
def wSrcs:List UInt8:=[115,114,99,115]
def wDeps:List UInt8:=[100,101,112,115]
def wSee:List UInt8:=[115,101,101]
def wName:List UInt8:=[84,65,82,71,69,84,83]
def lit (p w:List UInt8):Bool:=decide ((jn p w).2=0) && !(base w == wName)
def rep1:List UInt8→List UInt8
 | []=>[]
 | c::r=>if c=42 then 97::r else c::rep1 r
def glb (p w:List UInt8):Bool:=(base w).contains 42 && lit p (rep1 w)
def srcW (p w:List UInt8):Bool:=lit p w || glb p w
def addI (p f:List UInt8) (t:Tg) (w:List UInt8):Option Tg:=
 if f=wSrcs then (if (srcW p w && decide (t.srcs.length < 64) && !t.srcs.contains w)=true then some { t with srcs:=t.srcs++[w] } else none)
 else if f=wDeps then (if (decide ((inn p w).2=0) && decide (t.deps.length < 64) && !t.deps.contains (inn p w).1)=true then some { t with deps:=t.deps++[(inn p w).1] } else none)
 else (if (ser w && decide (t.see.length < 64) && !t.see.contains w)=true then some { t with see:=t.see++[w] } else none)
inductive St where
 | top (l:List Tg)
 | nm (l:List Tg)
 | op (l:List Tg) (n:List UInt8)
 | fl (l:List Tg) (t:Tg) (had:List (List UInt8))
 | eq (l:List Tg) (t:Tg) (had:List (List UInt8)) (f:List UInt8)
 | bg (l:List Tg) (t:Tg) (had:List (List UInt8)) (f:List UInt8)
 | i0 (l:List Tg) (t:Tg) (had:List (List UInt8)) (f:List UInt8)
 | it (l:List Tg) (t:Tg) (had:List (List UInt8)) (f:List UInt8)
 | sp (l:List Tg) (t:Tg) (had:List (List UInt8)) (f:List UInt8)
def hasN (l:List Tg) (n:List UInt8):Bool:=l.any fun t=>t.name == n
def isF (f:List UInt8):Bool:=f == wSrcs || f == wDeps || f == wSee
def stp (p:List UInt8):St→Tk→Option St
 | .top l,k=>if k.kind=1∧k.text=wTarget∧l.length < 64 then some (.nm l) else none
 | .nm l,k=>if k.kind=1∧okC k.text=true∧hasN l k.text=false then some (.op l k.text) else none
 | .op l n,k=>if k.kind=2 then some (.fl l ⟨n,[],[],[]⟩ []) else none
 | .fl l t h,k=>if k.kind=3 then some (.top (l++[t])) else if k.kind=1∧h.contains k.text=false∧isF k.text=true then some (.eq l t (h++[k.text]) k.text) else none
 | .eq l t h f,k=>if k.kind=7 then some (.bg l t h f) else none
 | .bg l t h f,k=>if k.kind=4 then some (.i0 l t h f) else none
 | .i0 l t h f,k=>if k.kind=5 then some (.fl l t h) else if k.kind=1 then (addI p f t k.text).map (fun u=>.sp l u h f) else none
 | .it l t h f,k=>if k.kind=1 then (addI p f t k.text).map (fun u=>.sp l u h f) else none
 | .sp l t h f,k=>if k.kind=5 then some (.fl l t h) else if k.kind=6 then some (.it l t h f) else none
def fin (E S:Int):St→List Tg×Int
 | .top l=>if 0≤S then ([],S) else (l,-1)
 | _=>([],E)
def go (p:List UInt8) (E S:Int):St→List Tk→List Tg×Int
 | st,[]=>fin E S st
 | st,k::r=>match stp p st k with
  | none=>([],k.at')
  | some st'=>go p E S st' r
def endE (s:List UInt8):Int:=if 0≤(toks s).2 then (toks s).2 else (s.length:Int)
def prsM (p s:List UInt8):List Tg×Int:=
 if okP p=true then (if s.length≤4096 then go p (endE s) (toks s).2 (.top []) (toks s).1 else ([],4096)) else ([],0)
structure TkOk (k:Tk):Prop where
 ne:k.text≠[]
 len:k.text.length≤4096
 at0:0≤k.at'
theorem tq_ok:∀ (n:Nat) (r:List UInt8) (m:Nat),r.length≤n→r.length≤4096→∀ k∈(tq r m).1,TkOk k
 | 0,r,m,h,_,k,hk=>by
  have:r=[]:=List.eq_nil_of_length_eq_zero (by omega)
  subst this
  rw [tq_nil] at hk
  simp at hk
 | n+1,[],m,h,_,k,hk=>by rw [tq_nil] at hk;simp at hk
 | n+1,c::q,m,h,h4,k,hk=>by
  by_cases h0:kd c=0
  ·rw [tq_bad h0] at hk;simp at hk
  ·rw [tq_tok h0] at hk
   rcases List.mem_cons.1 hk with rfl | hk
   ·refine ⟨by simp,?_,by simp⟩
    simp only [List.length_cons,List.length_take] at h4 ⊢
    omega
   ·unfold tg at hk
    refine tq_ok n _ _ ?_ ?_ k hk
    ·simp only [List.length_drop,List.length_cons] at h ⊢;omega
    ·simp only [List.length_drop,List.length_cons] at h4 ⊢;omega
theorem toks_ok {s:List UInt8} (h:s.length≤4096):∀ k∈(toks s).1,TkOk k:=by
 unfold toks tg
 exact tq_ok _ _ _ (Nat.le_refl _) (by simp;omega)
theorem tq_num:∀ (n:Nat) (r:List UInt8) (m:Nat),r.length≤n→(tq r m).1.length≤r.length∧-1≤(tq r m).2∧(tq r m).2≤m+r.length
 | 0,r,m,h=>by
  have:r=[]:=List.eq_nil_of_length_eq_zero (by omega)
  subst this
  rw [tq_nil]
  simp
 | n+1,[],m,h=>by rw [tq_nil];simp
 | n+1,c::q,m,h=>by
  by_cases h0:kd c=0
  ·rw [tq_bad h0];simp;omega
  ·rw [tq_tok h0]
   have hl:=ktl_le c q
   have hg:=gp_le false (q.drop (ktl c q))
   have ih:=tq_num n ((q.drop (ktl c q)).drop (gp false (q.drop (ktl c q)))) (m+1+ktl c q+gp false (q.drop (ktl c q))) (by simp only [List.length_drop,List.length_cons] at h ⊢;omega)
   unfold tg
   simp only [List.length_drop,List.length_cons] at ih hg ⊢
   omega
theorem toks_num (s:List UInt8):(toks s).1.length≤s.length∧-1≤(toks s).2∧(toks s).2≤s.length:=by
 unfold toks tg
 have hg:=gp_le false s
 have:=tq_num _ (s.drop (gp false s)) (0+gp false s) (Nat.le_refl _)
 simp only [List.length_drop] at this
 omega
end Go.Proofs.YtppnbdnpapellaaGreatDoor
