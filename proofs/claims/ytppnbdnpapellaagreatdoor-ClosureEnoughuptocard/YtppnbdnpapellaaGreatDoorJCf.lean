import Derived.Test.YtppnbdnpapellaaGreatDoorRows
import Derived.Test.YtppnbdnpapellaaGreatDoorJCq
import Derived.ProofKit
import Derived.OpenShut
import Derived.ShutString
import Derived.ChangeOld
import Derived.JoinedCond
import Derived.SizedLaws
import Derived.Deep.Strs
import Derived.Deep.SlicePairs
import Derived.Deep.Grids
import Derived.LaidLaws
import Derived.LaidHandle
import Derived.Test.YtppnbdnpapellaaGreatDoorJWs
set_option maxRecDepth 100000
set_option maxHeartbeats 16000000
namespace Go.Proofs.YtppnbdnpapellaaGreatDoor
section
open Go.ChangeShapes Go.WideShapes Go.ChangeAt Go.RowKit Go.Deep
theorem own13:ownKnob Tryz.prog.godebug=none:=by kernel_rfl
theorem cells9:Tryz.prog.cellsOf 9=1:=by kernel_rfl
theorem cells3':Tryz.prog.cellsOf 3=1:=by kernel_rfl
theorem cells42:Tryz.prog.cellsOf 55=4:=by kernel_rfl
theorem cells28:Tryz.prog.cellsOf 27=2:=by kernel_rfl
theorem bulk_bound {H:Type} {l:List (DataW H)} (hk:Rows.uptoSmall H l=true):Rows.uptoBulkAll l≤1048576:=of_decide_eq_true hk
def Fl.datum {H:Type} (f:Fl):DataW H:=.agg [.lit (.string f.path),.lit (.string f.text),.lit (.int .i64 f.blob),.lit (.int .i64 f.size)]
theorem bulk_fl {H:Type} (f:Fl):Rows.uptoBulk (Fl.datum (H:=H) f)=f.path.length+f.text.length+5:=by
 simp only [Fl.datum,Rows.uptoBulk,Rows.uptoBulkAll];omega
theorem read_files {H:Type} {enc:TypeId×Value→H} {W:World} {base:Nat} {v:Value} {d:DataW H} {ps:List MemPlace} (hok:Value.okWide Tryz.prog W .any base 22 v)
  (h:DataW.Trod enc Tryz.prog W 0 (fun _=>true) true 22 v d ps) :
  ∃ l:List Fl,FS W v l∧(∀ i∈l,-9223372036854775808≤i.blob∧i.blob≤9223372036854775807∧-9223372036854775808≤i.size∧i.size≤9223372036854775807)∧(l=[]∨∃ sp,d=.slice (l.map (Fl.datum (H:=H))) sp):=by
 obtain ⟨a0,len0,cap0,rfl⟩:=okWide_slice Tryz.underlying22 hok
 obtain ⟨fuel,hf⟩:=h
 rcases open_slice Tryz.underlying22 hf with ⟨hcs,_⟩ | ⟨a,len,cap,m,n,D,Pl,hcs,_,hl,hm,hmm,hx,hel⟩
 ·simp [Value.cells] at hcs
  obtain ⟨rfl,rfl,rfl⟩:=hcs
  exact ⟨[],.inl ⟨⟨_,_,rfl⟩,rfl⟩,(fun i hi=>(by cases hi)),.inl rfl⟩
 ·simp [Value.cells] at hcs
  obtain ⟨rfl,rfl,rfl⟩:=hcs
  simp at hmm
  subst hmm
  have each:∀ i,i < m→∃ q:Fl,W.cell? (a.add (i * 4))=some (.string (bs q.path))∧W.cell? (a.add (i * 4+1))=some (.string (bs q.text))∧W.cell? (a.add (i * 4+2))=some (.int .i64 q.blob)∧W.cell? (a.add (i * 4+3))=some (.int .i64 q.size)∧D i=q.datum∧
    -9223372036854775808≤q.blob∧q.blob≤9223372036854775807∧-9223372036854775808≤q.size∧q.size≤9223372036854775807:=by
   intro i hi
   obtain ⟨cs',h1,h2⟩:=hel i hi
   rw [cells42] at h1
   obtain ⟨_,hlen,hcell⟩:=World.cells?_some h1
   obtain ⟨xs,k,hk,hxy,_,hxl,hfl⟩:=DataW.trod_struct Tryz.underlying55 h2
   match xs,hxl,cs',hlen with
   | [y0,y1,y2,y3],_,[v0,v1,v2,v3],_=>
    have g0:=hfl 0 _ rfl
    have g1:=hfl 1 _ rfl
    have g2:=hfl 2 _ rfl
    have g3:=hfl 3 _ rfl
    simp [cells3',cells9] at g0 g1 g2 g3
    obtain ⟨s0,e0,x0,ws0⟩:=DataW.trod_string Tryz.underlying9 g0
    obtain ⟨s1,e1,x1,ws1⟩:=DataW.trod_string Tryz.underlying9 g1
    obtain ⟨z2,e2,x2,wz2⟩:=DataW.trod_int Tryz.underlying3 g2
    obtain ⟨z3,e3,x3,wz3⟩:=DataW.trod_int Tryz.underlying3 g3
    have c0:=hcell 0 (by simp)
    have c1:=hcell 1 (by simp)
    have c2:=hcell 2 (by simp)
    have c3:=hcell 3 (by simp)
    rw [add_add] at c0 c1 c2 c3
    simp at e0 e1 e2 e3
    subst e0 e1 e2 e3 x0 x1 x2 x3
    have b2:=bounds_i64 wz2
    have b3:=bounds_i64 wz3
    simp only [Prod.mk.injEq] at hxy
    have c0':W.cell? (a.add (i * 4))=some (.string s0):=by simpa using c0
    have c1':W.cell? (a.add (i * 4+1))=some (.string s1):=by simpa using c1
    exact ⟨⟨s0.data.toList,s1.data.toList,z2,z3⟩,c0',c1',by simpa using c2,by simpa using c3,by simpa [Fl.datum] using hxy.1,b2.1,b2.2,b3.1,b3.2⟩
  have hinh:Inhabited Fl:=⟨zf⟩
  obtain ⟨q,hq⟩:=choose_lt (α:=Fl) each
  have hD:(List.range len0).map D=(List.range len0).map fun i=>(q i).datum:=List.map_congr_left (fun i hi=>(hq i (by have:=List.mem_range.1 hi;omega)).2.2.2.2.1)
  refine ⟨(List.range len0).map q,?_,?_,?_⟩
  ·by_cases h0:len0=0
   ·subst h0
    exact .inl ⟨⟨_,_,rfl⟩,rfl⟩
   ·obtain ⟨b,off,spot⟩:=a
    have hspot:spot=none:=by simpa [Addr.add] using World.cell?_spot (hq 0 (by omega)).1
    subst hspot
    refine .inr ⟨b,off,m,by simp,by simpa using hl,World.block_lt_of_cell? W _ (by have:=(hq 0 (by omega)).1;rw [add_lit] at this;exact this),fun i u hu=>?_⟩
    have hi:i < len0 * 4:=by
     have:=(List.getElem?_eq_some_iff.1 hu).1
     rw [fc_length] at this
     simpa using this
    have hj:i / 4 < ((List.range len0).map q).length:=by simp;omega
    obtain ⟨t0,t1,t2,t3⟩:=fc_get ((List.range len0).map q) (i / 4) hj
    obtain ⟨u0,u1,u2,u3,_⟩:=hq (i / 4) (by omega)
    rw [add_lit] at u0 u1 u2 u3
    simp only [List.getElem_map,List.getElem_range] at t0 t1 t2 t3
    have hr:i % 4=0∨i % 4=1∨i % 4=2∨i % 4=3:=by omega
    rcases hr with hr | hr | hr | hr
    ·rw [show i / 4 * 4=i from by omega] at t0 u0
     rw [t0] at hu
     rw [u0]
     exact hu
    ·rw [show i / 4 * 4+1=i from by omega] at t1 u1
     rw [t1] at hu
     rw [u1]
     exact hu
    ·rw [show i / 4 * 4+2=i from by omega] at t2 u2
     rw [t2] at hu
     rw [u2]
     exact hu
    ·rw [show i / 4 * 4+3=i from by omega] at t3 u3
     rw [t3] at hu
     rw [u3]
     exact hu
  ·intro i hi
   obtain ⟨j,hj,rfl⟩:=List.mem_map.1 hi
   obtain ⟨_,_,_,_,_,r⟩:=hq j (by have:=List.mem_range.1 hj;omega)
   exact r
  ·have hd:d=.slice ((List.range len0).map D) ((List.range (m - len0)).map fun j=>D (len0+j)):=by simpa using congrArg Prod.fst hx
   exact .inr ⟨_,by rw [hd,hD,List.map_map];rfl⟩
def totf:List Fl→Nat
 | []=>0
 | f::r=>f.path.length+f.text.length+5+totf r
theorem totf_eq {H:Type}:∀ l:List Fl,totf l=Rows.uptoBulkAll (l.map (Fl.datum (H:=H)))
 | []=>rfl
 | f::r=>by rw [List.map_cons];simp only [totf,Rows.uptoBulkAll,bulk_fl,totf_eq (H:=H) r]
theorem totf_len:∀ l:List Fl,5 * l.length+txt l≤totf l
 | []=>by simp [totf,txt]
 | f::r=>by have:=totf_len r;simp only [totf,txt,List.length_cons];omega
theorem totf_mem:∀ l:List Fl,∀ f∈l,f.path.length+f.text.length≤totf l
 | [],f,h=>by cases h
 | g::r,f,h=>by
  simp only [totf]
  rcases List.mem_cons.1 h with rfl | h
  ·omega
  ·have:=totf_mem r f h;omega
theorem upto_files {H:Type} {enc:TypeId×Value→H} {W:World} {base:Nat} {v:Value} {d:DataW H} {ps:List MemPlace} (hok:Value.okWide Tryz.prog W .any base 22 v)
  (h:DataW.Trod enc Tryz.prog W 0 (fun _=>true) true 22 v d ps):∃ l:List Fl,FS W v l∧totf l≤Rows.uptoBulk d∧∀ i∈l,-9223372036854775808≤i.blob∧i.blob≤9223372036854775807∧-9223372036854775808≤i.size∧i.size≤9223372036854775807:=by
 obtain ⟨l,h1,h2,h3⟩:=read_files hok h
 rcases h3 with rfl | ⟨sp,rfl⟩
 ·exact ⟨[],h1,by simp [totf],fun i hi=>by cases hi⟩
 ·refine ⟨l,h1,?_,h2⟩
  rw [totf_eq (H:=H)]
  simp only [Rows.uptoBulk]
  omega
def Lb.datum {H:Type} (l:Lb):DataW H:=.agg [.lit (.string l.pkg),.lit (.string l.name)]
def totl:List Lb→Nat
 | []=>0
 | s::r=>s.pkg.length+s.name.length+2+totl r
theorem bulk_labels {H:Type}:∀ l:List Lb,totl l≤Rows.uptoBulkAll (l.map (Lb.datum (H:=H)))
 | []=>by simp [totl]
 | f::r=>by
  have:=bulk_labels (H:=H) r
  rw [List.map_cons]
  simp only [Rows.uptoBulkAll,Lb.datum,Rows.uptoBulk,totl]
  omega
theorem totl_len:∀ l:List Lb,2 * l.length≤totl l
 | []=>by simp [totl]
 | f::r=>by have:=totl_len r;simp only [totl,List.length_cons];omega
theorem totl_mem:∀ l:List Lb,∀ s∈l,s.pkg.length+s.name.length≤totl l
 | [],f,h=>by cases h
 | g::r,f,h=>by
  simp only [totl]
  rcases List.mem_cons.1 h with rfl | h
  ·omega
  ·have:=totl_mem r f h;omega
theorem open_labels {H:Type} {enc:TypeId×Value→H} {W:World} {base:Nat} {v:Value} {d:DataW H} {ps:List MemPlace} (hok:Value.okWide Tryz.prog W .any base 23 v)
  (h:DataW.Trod enc Tryz.prog W 0 (fun _=>true) true 23 v d ps) :
  ∃ l:List Lb,LS W v l∧Rows.uptoBulkAll (l.map (Lb.datum (H:=H)))≤Rows.uptoBulk d:=by
 obtain ⟨a0,len0,cap0,rfl⟩:=okWide_slice Tryz.underlying23 hok
 obtain ⟨fuel,hf⟩:=h
 rcases open_slice Tryz.underlying23 hf with ⟨hcs,_⟩ | ⟨a,len,cap,m,n,D,Pl,hcs,_,hl,hm,hmm,hx,hel⟩
 ·simp [Value.cells] at hcs
  obtain ⟨rfl,rfl,rfl⟩:=hcs
  exact ⟨[],.inl ⟨⟨_,_,rfl⟩,rfl⟩,by simp [Rows.uptoBulkAll]⟩
 ·simp [Value.cells] at hcs
  obtain ⟨rfl,rfl,rfl⟩:=hcs
  simp at hmm
  subst hmm
  have each:∀ i,i < m→∃ q:Lb,W.cell? (a.add (i * 2))=some (.string (bs q.pkg))∧W.cell? (a.add (i * 2+1))=some (.string (bs q.name))∧D i=q.datum:=by
   intro i hi
   obtain ⟨cs',h1,h2⟩:=hel i hi
   rw [cells28] at h1
   obtain ⟨_,hlen,hcell⟩:=World.cells?_some h1
   obtain ⟨xs,k,hk,hxy,_,hxl,hfl⟩:=DataW.trod_struct Tryz.underlying27 h2
   match xs,hxl,cs',hlen with
   | [y0,y1],_,[v0,v1],_=>
    have g0:=hfl 0 _ rfl
    have g1:=hfl 1 _ rfl
    simp [cells9] at g0 g1
    obtain ⟨s0,e0,x0,ws0⟩:=DataW.trod_string Tryz.underlying9 g0
    obtain ⟨s1,e1,x1,ws1⟩:=DataW.trod_string Tryz.underlying9 g1
    have c0:=hcell 0 (by simp)
    have c1:=hcell 1 (by simp)
    rw [add_add] at c0 c1
    simp at e0 e1
    subst e0 e1 x0 x1
    simp only [Prod.mk.injEq] at hxy
    have c0':W.cell? (a.add (i * 2))=some (.string s0):=by simpa using c0
    have c1':W.cell? (a.add (i * 2+1))=some (.string s1):=by simpa using c1
    exact ⟨⟨s0.data.toList,s1.data.toList⟩,c0',c1',by simpa [Lb.datum] using hxy.1⟩
  have hinh:Inhabited Lb:=⟨zl⟩
  obtain ⟨q,hq⟩:=choose_lt (α:=Lb) each
  have hD:(List.range len0).map D=(List.range len0).map fun i=>(q i).datum:=List.map_congr_left (fun i hi=>(hq i (by have:=List.mem_range.1 hi;omega)).2.2)
  refine ⟨(List.range len0).map q,?_,?_⟩
  ·by_cases h0:len0=0
   ·subst h0
    exact .inl ⟨⟨_,_,rfl⟩,rfl⟩
   ·obtain ⟨b,off,spot⟩:=a
    have hspot:spot=none:=by simpa [Addr.add] using World.cell?_spot (hq 0 (by omega)).1
    subst hspot
    refine .inr ⟨b,off,m,by simp,by simpa using hl,World.block_lt_of_cell? W _ (by have:=(hq 0 (by omega)).1;rw [add_lit] at this;exact this),fun i u hu=>?_⟩
    have hi:i < len0 * 2:=by
     have:=(List.getElem?_eq_some_iff.1 hu).1
     rw [lc_length] at this
     simpa using this
    have hj:i / 2 < ((List.range len0).map q).length:=by simp;omega
    obtain ⟨t0,t1⟩:=lc_get ((List.range len0).map q) (i / 2) hj
    obtain ⟨u0,u1,_⟩:=hq (i / 2) (by omega)
    rw [add_lit] at u0 u1
    simp only [List.getElem_map,List.getElem_range] at t0 t1
    have hr:i % 2=0∨i % 2=1:=by omega
    rcases hr with hr | hr
    ·rw [show i / 2 * 2=i from by omega] at t0 u0
     rw [t0] at hu
     rw [u0]
     exact hu
    ·rw [show i / 2 * 2+1=i from by omega] at t1 u1
     rw [t1] at hu
     rw [u1]
     exact hu
  ·have hd:d=.slice ((List.range len0).map D) ((List.range (m - len0)).map fun j=>D (len0+j)):=by simpa using congrArg Prod.fst hx
   rw [hd,hD]
   simp only [Rows.uptoBulk,List.map_map]
   have e:(List.range len0).map (Lb.datum (H:=H) ∘ q)=(List.range len0).map fun i=>(q i).datum:=rfl
   rw [e]
   omega
theorem g_et : Tryz.prog.globalNamed "errors.errorType" = some 1 := by kernel_rfl
theorem g_rt : (Tryz.prog.cutTypes.find? (·.1 == "internal/reflectlite.rtype")).map (·.2) = some 307 := by kernel_rfl
theorem g_size:∃ n,Tryz.prog.types.size=n∧((List.range n).filter fun t=>Tryz.prog.rowNamed t [101,114,114,111,114])=[217]:=⟨_,rfl,by kernel_rfl⟩
theorem int_of_shape {P:Program} {w:World} {g:Nat} {t:TypeId} {zero:Array Value} (h:w.ShapedOpen P) (hg:g < P.globals.size)
  (h0:((begin P (fun _ _=>0) default).world.heap[g]?).bind Obj.row? = some (zero,t)) (hz:zero.size=1)
  (hb:P.buildable t=true) (hc:P.cellTypes P.depth t=some [t]) (hu:P.underlying t=some (.int .i64)):∃ m,w.cell? ⟨g,0,none⟩=some (.int .i64 m):=by
 obtain ⟨cs,hh,hs,hr⟩:=h.1 g zero t hg h0
 obtain ⟨ts,hts,_,hall⟩:=hr hb
 rw [hc] at hts
 cases hts
 have h1:0 < cs.size:=by omega
 obtain ⟨u,hu',hok⟩:=hall 0 cs[0] (by simp [h1])
 have:u=t:=by simpa using hu'.symm
 subst this
 have hcell:w.cell? ⟨g,0,none⟩=some cs[0]:=by simp [World.cell?,hh,h1]
 rw [hcell]
 unfold Cell.ok at hok
 rw [hu] at hok
 cases hv:cs[0]<;>rw [hv] at hok<;>first | (simp at hok;done) | skip
 simp at hok
 obtain ⟨rfl,_⟩:=hok
 exact ⟨_,rfl⟩
noncomputable def laid13:List (String×DataW Unit):=Rows.closureJoinsUptoRow.laid
theorem handle_of_laid {W:World} (h:laidMetH Tryz.prog laid13 W):W.cell? ⟨1,0,none⟩=some hErr:=by
 have h' : laidMet Tryz.prog [("unicode/utf8.acceptRanges", Rows.laid_unicode_utf8_acceptRanges), ("unicode/utf8.first", Rows.laid_unicode_utf8_first)] W ∧ handlesMet Tryz.prog [("errors.errorType", Rows.laid_errors_errorType)] W := h
 obtain ⟨name,u,ty,e1,e2,e3,e4,e5⟩:=h'.2 _ (List.mem_singleton.2 rfl)
 have en:name=[101,114,114,111,114]:=(Option.some.inj e1).symm
 subst en
 obtain rfl:=Option.some.inj (g_rt.symm.trans e2)
 obtain ⟨n,hn,hone⟩:=g_size
 have hm:ty∈(List.range n).filter fun t=>Tryz.prog.rowNamed t [101,114,114,111,114]:=List.mem_filter.2 ⟨List.mem_range.2 (by rw [← hn];exact e3),e4⟩
 rw [hone] at hm
 obtain rfl:=List.mem_singleton.1 hm
 have hh:typeHandle Tryz.prog 217=.pointer (some ⟨4,217,none⟩):=by kernel_rfl
 rw [hh] at e5
 simpa [hErr] using World.var?_cell g_et e5 0
theorem env_of {W:World} (h:laidMetH Tryz.prog laid13 W) (hsh:W.ShapedOpen Tryz.prog):Ev W:=by
 refine ⟨handle_of_laid h,int_of_shape (g:=0) (t:=3) (zero:=#[.int .i64 0]) hsh (of_decide_eq_true (by kernel_rfl)) (by kernel_rfl) rfl (by kernel_rfl) (by kernel_rfl) Tryz.underlying3,?_⟩
 obtain ⟨zs,hz⟩:∃ zs,((begin Tryz.prog (fun _ _=>0) default).world.heap[3]?).bind Obj.row? = some (zs,332):=⟨Array.replicate 32 (.int .u8 0),by kernel_rfl⟩
 obtain ⟨cs,hh,_,_⟩:=hsh.1 3 zs 332 (of_decide_eq_true (by kernel_rfl)) hz
 have:=(Array.getElem?_eq_some_iff.1 hh).1
 omega
end
section
open Go.RowKit Go.Maps
def pthL (l:List Fl) (p s:List UInt8):List (List UInt8):=(exl l (whl p s)).1.map Fl.path
def srcP (l:List Fl) (a:Lb):List (List UInt8):=(((tgtL l a).getD zT).srcs).flatMap (pthL l a.pkg)
def srcL (l:List Fl) (a:Lb):List Fl:=keep l (srcP l a)
theorem exl_sub {l:List Fl} {J:List UInt8} {f:Fl} (h:f∈(exl l J).1):f∈l:=by
 unfold exl at h
 split at h
 ·split at h
  ·rename_i g hg
   rw [List.mem_singleton.1 h];exact fnd_in hg
  ·simp at h
 ·split at h
  ·exact (List.mem_filter.1 h).1
  ·simp at h
theorem flat_le {l:List Fl} {p:List UInt8} (hl:l.length≤512):∀ (S:List (List UInt8)),(S.flatMap (pthL l p)).length≤S.length * 512
 | []=>by simp
 | s::r=>by
  have h1:=flat_le (p:=p) hl r
  have h2:=exl_len l (whl p s)
  rw [List.flatMap_cons,List.length_append,List.length_cons]
  have h3:(pthL l p s).length=(exl l (whl p s)).1.length:=by simp [pthL]
  omega
end
section
open Go.RowKit Go.Maps
def lsP (m y:List UInt8):List UInt8:=if cmpL ⟨y,[]⟩ ⟨m,[]⟩ < 0 then y else m
def mnP:List (List UInt8)→List UInt8
 | []=>[]
 | x::r=>r.foldl lsP x
theorem mnP_step {ps:List (List UInt8)} {i:Nat} (h1:1≤i) (hi:i < ps.length):mnP (ps.take (i+1))=lsP (mnP (ps.take i)) ps[i]:=by
 cases ps with
 | nil=>simp at hi
 | cons x r=>
  obtain ⟨k,rfl⟩:∃ k,i=k+1:=⟨i - 1,by omega⟩
  have hk:k < r.length:=by simpa using hi
  show (r.take (k+1)).foldl lsP x=lsP ((r.take k).foldl lsP x) r[k]
  rw [List.take_succ_eq_append_getElem hk,List.foldl_append]
  rfl
theorem bypath_any (p q:List UInt8) (w:World) (hp:p.length≤1125899906842624) (hq:q.length≤1125899906842624):Calls Tryz.prog 94 #[.string (bs p),.string (bs q)] w fun e w'=>e=.returned (.int .i64 (cmpL ⟨p,[]⟩ ⟨q,[]⟩))∧Below w.heap.size w w':=by
 have HC:Hid (Calls Tryz.prog 99 #[.agg #[.string (bs p),.string { data:=#[] }],.agg #[.string (bs q),.string { data:=#[] }]] w fun e w'=>e=.returned (.int .i64 (cmpL ⟨p,[]⟩ ⟨q,[]⟩))∧Below w.heap.size w w'):=lcmp_any ⟨p,[]⟩ ⟨q,[]⟩ w ⟨hp,by simp⟩ ⟨hq,by simp⟩
 clear hp hq
 go_enter Tryz.func94,Tryz.ntmps94
 go_wp2_with fail
 refine HC.out.mono ?_
 rintro e w1 ⟨rfl,hb⟩
 have HB:Hid (Below w.heap.size w w1):=hb
 clear hb
 go_wp2_with fail
 go_ret
 exact ⟨rfl,HB.out⟩
theorem bmin_any {w:World} {v:Value} {ps:List (List UInt8)} (h:SS w v ps) (hne:1≤ps.length) (hl:ps.length≤100000000) (he:∀ x∈ps,x.length≤1125899906842624) :
  Calls Tryz.prog 93 #[v,.func (.func 94) #[] #[]] w fun e w'=>e=.returned (.string (bs (mnP ps)))∧Below w.heap.size w w':=by
 obtain ⟨a,c,hv,hat⟩:=h.form
 obtain ⟨pn,hpn⟩:∃ pn,ps.length=pn:=⟨_,rfl⟩
 rw [hpn] at hv
 subst hv
 obtain ⟨b,off,ha,hbl,c00⟩:=hat 0 (by omega)
 subst ha
 have HA:Hid (∀ W,Below w.heap.size w W→∀ k,(hk:k < ps.length)→W.cell? ⟨b,off+k,none⟩=some (.string (bs ps[k]))):=fun W hW k hk=>by
  obtain ⟨b',off',e,hbl',hc⟩:=hat k hk
  injection e with e
  injection e with e1 e2 _
  subst e1 e2
  exact (hW.cell (p:=⟨b,off+k,none⟩) hbl').trans hc
 have HX:Hid (ps.length=pn∧∀ x∈ps,x.length≤1125899906842624):=⟨hpn,he⟩
 have c0:w.cell? ⟨b,off,none⟩=some (.string (bs ps[0])):=by simpa using c00
 have HM1:Hid (mnP (ps.take 1)=ps[0]∧ps[0].length≤1125899906842624):=by
  refine ⟨?_,he _ (List.getElem_mem _)⟩
  cases ps with
  | nil=>simp at hne
  | cons x r=>simp [mnP]
 obtain ⟨x0,hx0⟩:∃ x0,ps[0]=x0:=⟨_,rfl⟩
 rw [hx0] at c0 HM1
 have p1:¬ ((pn:Int) < 1):=by omega
 have p2:(0:Int) < (pn:Int):=by omega
 have p3:0 < pn:=by omega
 have hl8:pn≤100000000:=by omega
 clear h hat c00 hx0 he hpn
 go_enter Tryz.func93,Tryz.ntmps93
 go_wp2_with fail
 go_loopw [5,6] (fun mv iv wr=>∃ (i:Nat) (m:List UInt8),1≤i∧i≤pn∧iv=.int .i64 i∧mv=.string (bs m)∧mnP (ps.take i)=m∧m.length≤1125899906842624∧Below w.heap.size w wr) (fun _ iv _=>pn - (intOf iv).toNat)
 case atStart=>exact ⟨1,x0,by omega,by omega,rfl,rfl,HM1.out.1,HM1.out.2,Below.refl _ _⟩
 case round=>
  obtain ⟨i,m,hi1,hi0,rfl,rfl,hm,hml,hb⟩:=hrel
  have X5:Hid (mnP (ps.take i)=m∧m.length≤1125899906842624∧Below w.heap.size w wr):=⟨hm,hml,hb⟩
  clear hm hml hb
  by_cases hi:i < pn
  ·have i1:(i:Int) < (pn:Int):=by omega
   have i2:(0:Int)≤(i:Int):=by omega
   have hil:i < ps.length:=by rw [HX.out.1];exact hi
   have HCI:Hid (∀ W,Below w.heap.size w W→W.cell? ⟨b,off+i,none⟩=some (.string (bs ps[i]))):=fun W hW=>HA.out W hW i hil
   have HS:Hid (mnP (ps.take (i+1))=lsP m ps[i]∧ps[i].length≤1125899906842624):=⟨by rw [mnP_step hi1 hil,X5.out.1],HX.out.2 _ (List.getElem_mem hil)⟩
   obtain ⟨y,hy⟩:∃ y,ps[i]=y:=⟨_,rfl⟩
   rw [hy] at HCI HS
   clear hy
   have ci:=HCI.out wr X5.out.2.2
   have HBP:=hid_of (bypath_any y m wr HS.out.2 X5.out.2.1)
   obtain ⟨z,hz⟩:∃ z,cmpL ⟨y,[]⟩ ⟨m,[]⟩=z:=⟨_,rfl⟩
   have HZ:Hid (cmpL ⟨y,[]⟩ ⟨m,[]⟩=z):=hz
   rw [hz] at HBP
   clear hz
   go_wp2_with fail
   refine HBP.out.mono ?_
   rintro e w2 ⟨rfl,hb⟩
   have HB2:Hid (Below w.heap.size w w2):=bstep X5.out.2.2 hb
   clear hb
   by_cases hzz:z < 0
   ·have HE:Hid (lsP m y=y):=by show lsP m y=y;unfold lsP;rw [HZ.out,if_pos hzz]
    have ci3:=HCI.out w2 HB2.out
    go_wp2_with fail
    go_roundw
    case rel=>exact ⟨i+1,y,by omega,by omega,by go_num,rfl,by rw [HS.out.1,HE.out],HS.out.2,HB2.out⟩
    case measure=>simp [intOf];omega
   ·have HE:Hid (lsP m y=m):=by show lsP m y=m;unfold lsP;rw [HZ.out,if_neg hzz]
    go_wp2_with fail
    go_roundw
    case rel=>exact ⟨i+1,m,by omega,by omega,by go_num,rfl,by rw [HS.out.1,HE.out],X5.out.2.1,HB2.out⟩
    case measure=>simp [intOf];omega
  ·obtain rfl:i=pn:=by omega
   go_wp2_with fail
   go_ret
   have h1:=X5.out.1
   rw [List.take_of_length_le (by rw [HX.out.1];exact Nat.le_refl _)] at h1
   exact ⟨by rw [h1];rfl,X5.out.2.2⟩
end
section
open Go.RowKit Go.Maps
theorem RB.kept' {w w':World} {g:Nat} {f:Lb} (h:RB w g f) (e:w'.heap[g]? = w.heap[g]?):RB w' g f:=⟨e.trans h.blk⟩
def lsL (m y:Lb):Lb:=if cmpL y m < 0 then y else m
def mnL:List Lb→Lb
 | []=>⟨[],[]⟩
 | x::r=>r.foldl lsL x
theorem mnL_step {ps:List Lb} {i:Nat} (h1:1≤i) (hi:i < ps.length):mnL (ps.take (i+1))=lsL (mnL (ps.take i)) ps[i]:=by
 cases ps with
 | nil=>simp at hi
 | cons x r=>
  obtain ⟨k,rfl⟩:∃ k,i=k+1:=⟨i - 1,by omega⟩
  have hk:k < r.length:=by simpa using hi
  show (r.take (k+1)).foldl lsL x=lsL ((r.take k).foldl lsL x) r[k]
  rw [List.take_succ_eq_append_getElem hk,List.foldl_append]
  rfl
theorem bminL_any {w:World} {v:Value} {ps:List Lb} (h:LS w v ps) (hne:1≤ps.length) (hl:ps.length≤100000000) (he:∀ x∈ps,Lm x) :
  Calls Tryz.prog 98 #[v,.func (.func 99) #[] #[]] w fun e w'=>e=.returned (mnL ps).val∧Below w.heap.size w w':=by
 obtain ⟨a,c,hv,_⟩:=h.form
 obtain ⟨pn,hpn⟩:∃ pn,ps.length=pn:=⟨_,rfl⟩
 rw [hpn] at hv
 subst hv
 obtain ⟨b,off,ha,hbl,c00,c01⟩:=LS.at h (Below.refl _ _) (k:=0) (by omega)
 subst ha
 have HA:Hid (∀ W,Below w.heap.size w W→∀ k,(hk:k < ps.length)→W.cell? ⟨b,off+k * 2,none⟩=some (.string (bs ps[k].pkg))∧W.cell? ⟨b,off+k * 2+1,none⟩=some (.string (bs ps[k].name))):=fun W hW k hk=>by
  obtain ⟨b',off',e,_,q0,q1⟩:=LS.at h hW hk
  injection e with e
  injection e with e1 e2 _
  subst e1 e2
  exact ⟨q0,q1⟩
 have HX:Hid (ps.length=pn∧∀ x∈ps,Lm x):=⟨hpn,he⟩
 have HM1:Hid (mnL (ps.take 1)=ps[0]∧Lm ps[0]):=by
  refine ⟨?_,he _ (List.getElem_mem _)⟩
  cases ps with
  | nil=>simp at hne
  | cons x r=>simp [mnL]
 obtain ⟨x0,hx0⟩:∃ x0,ps[0]=x0:=⟨_,rfl⟩
 rw [hx0] at c00 c01 HM1
 clear h hx0 he hpn
 obtain ⟨p0,n0⟩:=x0
 have c0:(w.alloc (.cells #[.string { data:=#[] },.string { data:=#[] }] 27)).cell? ⟨b,off,none⟩=some (.string (bs p0)):=cell_alloc _ hbl (by simpa using c00)
 have c1:(w.alloc (.cells #[.string { data:=#[] },.string { data:=#[] }] 27)).cell? ⟨b,off+1,none⟩=some (.string (bs n0)):=cell_alloc _ hbl (by simpa using c01)
 have HG:Hid (RB ((w.alloc (.cells #[.string { data:=#[] },.string { data:=#[] }] 27)).alloc (.cells #[.string (bs p0),.string (bs n0)] 27)) w.heap.size ⟨[],[]⟩∧RB ((w.alloc (.cells #[.string { data:=#[] },.string { data:=#[] }] 27)).alloc (.cells #[.string (bs p0),.string (bs n0)] 27)) (w.heap.size+1) ⟨p0,n0⟩∧Below w.heap.size w ((w.alloc (.cells #[.string { data:=#[] },.string { data:=#[] }] 27)).alloc (.cells #[.string (bs p0),.string (bs n0)] 27))):=by
  have hz:(w.alloc (.cells #[.string { data:=#[] },.string { data:=#[] }] 27)).heap.size=w.heap.size+1:=by simp
  have h1:=RB.new (w.alloc (.cells #[.string { data:=#[] },.string { data:=#[] }] 27)) ⟨p0,n0⟩
  rw [hz] at h1
  exact ⟨(RB.new w ⟨[],[]⟩).later (balloc _ _),h1,bstep (balloc _ _) (balloc _ _)⟩
 have p1:¬ ((pn:Int) < 1):=by have:=HX.out.1;omega
 have p2:(0:Int) < (pn:Int):=by have:=HX.out.1;omega
 have p3:0 < pn:=by have:=HX.out.1;omega
 have hl8:pn≤100000000:=by have:=HX.out.1;omega
 clear c00 c01 hne hl
 go_enter Tryz.func98,Tryz.ntmps98
 go_upto_region 5 with fail
 obtain ⟨g5,hg5⟩:∃ g5,w.heap.size+1=g5:=⟨_,rfl⟩
 obtain ⟨W0,hW0⟩:∃ W0,(w.alloc (.cells #[.string { data:=#[] },.string { data:=#[] }] 27)).alloc (.cells #[.string (bs p0),.string (bs n0)] 27)=W0:=⟨_,rfl⟩
 rw [hW0,hg5] at HG
 try rw [hW0]
 try rw [hg5]
 have HG5:Hid (w.heap.size+1=g5):=hg5
 clear hW0 hg5 c0 c1
 go_loopw [6] (fun iv wr=>∃ (i:Nat) (m:Lb),1≤i∧i≤pn∧iv=.int .i64 i∧mnL (ps.take i)=m∧Lm m∧RB wr w.heap.size ⟨[],[]⟩∧RB wr g5 m∧Below w.heap.size w wr) (fun iv _=>pn - (intOf iv).toNat)
 case atStart=>exact ⟨1,_,by omega,by omega,rfl,HM1.out.1,HM1.out.2,HG.out.1,HG.out.2.1,HG.out.2.2⟩
 case round=>
  obtain ⟨i,m,hi1,hi0,rfl,hm,hml,hr4,hr5,hb⟩:=hrel
  have X5:Hid (mnL (ps.take i)=m∧Lm m∧RB wr w.heap.size ⟨[],[]⟩∧RB wr g5 m∧Below w.heap.size w wr):=⟨hm,hml,hr4,hr5,hb⟩
  clear hm hml hr4 hr5 hb
  obtain ⟨mp,mn⟩:=m
  by_cases hi:i < pn
  ·have i1:(i:Int) < (pn:Int):=by omega
   have i2:(0:Int)≤(i:Int):=by omega
   have hil:i < ps.length:=by rw [HX.out.1];exact hi
   have HCI:Hid (∀ W,Below w.heap.size w W→W.cell? ⟨b,off+i * 2,none⟩=some (.string (bs ps[i].pkg))∧W.cell? ⟨b,off+i * 2+1,none⟩=some (.string (bs ps[i].name))):=fun W hW=>HA.out W hW i hil
   have HS:Hid (mnL (ps.take (i+1))=lsL ⟨mp,mn⟩ ps[i]∧Lm ps[i]):=⟨by rw [mnL_step hi1 hil,X5.out.1],HX.out.2 _ (List.getElem_mem hil)⟩
   obtain ⟨y,hy⟩:∃ y,ps[i]=y:=⟨_,rfl⟩
   rw [hy] at HCI HS
   clear hy
   obtain ⟨yp,yn⟩:=y
   have HSD:Hid (∀ W,Below wr.heap.size wr W→W.cell? ⟨b,off+i * 2,none⟩=some (.string (bs yp))∧W.cell? ⟨b,off+i * 2+1,none⟩=some (.string (bs yn))∧W.cell? ⟨g5,0,none⟩=some (.string (bs mp))∧W.cell? ⟨g5,1,none⟩=some (.string (bs mn))):=fun W hW=>by
    obtain ⟨q0,q1⟩:=HCI.out W (bstep X5.out.2.2.2.2 hW)
    obtain ⟨q2,q3,_,_⟩:=(X5.out.2.2.2.1.later hW).cells
    exact ⟨q0,q1,q2,q3⟩
   obtain ⟨z,hz⟩:∃ z,cmpL ⟨yp,yn⟩ ⟨mp,mn⟩=z:=⟨_,rfl⟩
   have HZ:Hid (cmpL ⟨yp,yn⟩ ⟨mp,mn⟩=z):=hz
   have HBP:Hid (∀ W,Calls Tryz.prog 99 #[.agg #[.string (bs yp),.string (bs yn)],.agg #[.string (bs mp),.string (bs mn)]] W fun e w'=>e=.returned (.int .i64 z)∧Below W.heap.size W w'):=fun W=>by
    rw [← hz]
    exact lcmp_any ⟨yp,yn⟩ ⟨mp,mn⟩ W HS.out.2 X5.out.2.1
   clear hz
   go_wp2_with fail
   refine wp_region_noPanic ?_
   refine wp_region_held_drew (S:=fun W'=>W'.cell? ⟨b,off+i * 2,none⟩=some (.string (bs yp))∧W'.cell? ⟨b,off+i * 2+1,none⟩=some (.string (bs yn))∧W'.cell? ⟨g5,0,none⟩=some (.string (bs mp))∧W'.cell? ⟨g5,1,none⟩=some (.string (bs mn))) (by kernel_rfl) (by exact HSD.out wr (Below.refl _ _)) (fun hHeld=>?_)
   refine tkH 0 ⟨some 20,_,_,_,_,_⟩ ?v1 rfl (Or.inl ⟨by rfl,?y1⟩) ?r1
   case y1=>(intro w h;(try dsimp only at h);go_simp;try with_reducible rfl)
   try simp only [Act.put,sA,sB,sC]
   refine tkH 1 ⟨some 21,_,_,_,_,_⟩ ?v2 rfl (Or.inl ⟨by rfl,?y2⟩) ?r2
   case y2=>(intro w h;(try dsimp only at h);go_simp;try with_reducible rfl)
   try simp only [Act.put,sA,sB,sC]
   refine tkH 2 ⟨some 22,_,_,_,_,_⟩ ?v3 rfl (Or.inl ⟨by rfl,?y3⟩) ?r3
   case y3=>(intro w h;(try dsimp only at h);go_simp;try with_reducible rfl)
   try simp only [Act.put,sA,sB,sC]
   refine tkH 3 ⟨some 23,_,_,_,_,_⟩ ?v4 rfl (Or.inl ⟨by rfl,?y4⟩) ?r4
   case y4=>(intro w h;(try dsimp only at h);go_simp;try with_reducible rfl)
   try simp only [Act.put,sA,sB,sC]
   refine tkH 4 ⟨some 24,_,_,_,_,_⟩ ?v5 rfl (Or.inl ⟨by rfl,?y5⟩) ?r5
   case y5=>(intro w h;(try dsimp only at h);go_simp;try with_reducible rfl)
   try simp only [Act.put,sA,sB,sC]
   refine tkH 5 ⟨some 25,_,_,_,_,_⟩ ?v6 rfl (Or.inl ⟨by rfl,?y6⟩) ?r6
   case y6=>(intro w h;(try dsimp only at h);go_simp;try with_reducible rfl)
   try simp only [Act.put,sA,sB,sC]
   refine wpAnyH_ready (rs:=[6]) (by kernel_rfl) (by simp) ?_
   refine AllReadyH.cons (o:=⟨some 26,_,_,_,_,_⟩) rfl (fun K hK=>?_) AllReadyH.nil
   go_simp
   with_reducible refine (HBP.out wr.drew).mono ?_
   rintro e w2 ⟨rfl,hb⟩
   have HB2:Hid (Below wr.heap.size wr w2):=bstep (Below.refl _ wr).drew hb
   clear hb
   refine hK.out _ _ (HSD.out w2 HB2.out) (fun hHeld=>?_)
   clear hK K
   try simp only [sA,sB,sC]
   refine tkH 7 ⟨some 27,_,_,_,_,_⟩ ?v7 rfl (Or.inl ⟨by rfl,?y7⟩) ?r7
   case y7=>(intro w h;(try dsimp only at h);go_simp;try with_reducible rfl)
   try simp only [Act.put,sA,sB,sC]
   refine wpAnyH_done (by kernel_rfl) ?_ _
   refine NoPanic.normal ?_
   clear hHeld
   have X6:Hid (RB w2 w.heap.size ⟨[],[]⟩∧RB w2 g5 ⟨mp,mn⟩∧Below w.heap.size w w2):=⟨X5.out.2.2.1.later HB2.out,X5.out.2.2.2.1.later HB2.out,bstep X5.out.2.2.2.2 HB2.out⟩
   by_cases hzz:z < 0
   ·have HE:Hid (lsL ⟨mp,mn⟩ ⟨yp,yn⟩=⟨yp,yn⟩):=by show lsL ⟨mp,mn⟩ ⟨yp,yn⟩=⟨yp,yn⟩;unfold lsL;rw [HZ.out,if_pos hzz]
    obtain ⟨q0,q1⟩:=HCI.out w2 X6.out.2.2
    obtain ⟨b0,b1,b2,b3⟩:=X6.out.2.1.cells
    simp only at q0 q1 b0 b1
    have X7:Hid (RB ((w2.setCell ⟨g5,0,none⟩ (.string (bs yp))).setCell ⟨g5,1,none⟩ (.string (bs yn))) w.heap.size ⟨[],[]⟩∧RB ((w2.setCell ⟨g5,0,none⟩ (.string (bs yp))).setCell ⟨g5,1,none⟩ (.string (bs yn))) g5 ⟨yp,yn⟩∧Below w.heap.size w ((w2.setCell ⟨g5,0,none⟩ (.string (bs yp))).setCell ⟨g5,1,none⟩ (.string (bs yn)))):=by
     have hg:=HG5.out
     have hon:=only_set2 w2 g5 0 1 (.string (bs yp)) (.string (bs yn))
     exact ⟨X6.out.1.kept' (hon.block _ X6.out.1.lt (by simp;omega)),X6.out.2.1.set ⟨yp,yn⟩,bset2 X6.out.2.2 (by omega) _ _⟩
    go_wp2_with fail
    go_roundw
    case rel=>exact ⟨i+1,_,by omega,by omega,by go_num,by rw [HS.out.1,HE.out],HS.out.2,X7.out.1,X7.out.2.1,X7.out.2.2⟩
    case measure=>simp [intOf];omega
   ·have HE:Hid (lsL ⟨mp,mn⟩ ⟨yp,yn⟩=⟨mp,mn⟩):=by show lsL ⟨mp,mn⟩ ⟨yp,yn⟩=⟨mp,mn⟩;unfold lsL;rw [HZ.out,if_neg hzz]
    go_wp2_with fail
    go_roundw
    case rel=>exact ⟨i+1,_,by omega,by omega,by go_num,by rw [HS.out.1,HE.out],X5.out.2.1,X6.out.1,X6.out.2.1,X6.out.2.2⟩
    case measure=>simp [intOf];omega
  ·obtain rfl:i=pn:=by omega
   obtain ⟨b0,b1,b2,b3⟩:=X5.out.2.2.1.cells
   obtain ⟨d0,d1,d2,d3⟩:=X5.out.2.2.2.1.cells
   simp only at b0 b1 d0 d1
   go_wp2_with fail
   refine bodyPost_ret (results_cell_row rfl _ _ w.heap.size 27 #[.string (bs mp),.string (bs mn)] (0,0) _ rfl (X5.out.2.2.1.set ⟨mp,mn⟩).blk Tryz.underlying27 rfl (by kernel_rfl)) rfl ?_
   have h1:=X5.out.1
   rw [List.take_of_length_le (by rw [HX.out.1];exact Nat.le_refl _)] at h1
   exact ⟨by rw [h1];rfl,bset2 X5.out.2.2.2.2 (Nat.le_refl _) _ _⟩
end
section
open Go.RowKit Go.Maps
structure Fv where
 code:Int
 lab:Lb
 oth:Lb
 path:List UInt8
 at':Int
 ca:Option Addr
 cn:Nat
 cc:Nat
def Fv.val (f:Fv):Value:=.agg #[.int .i64 f.code,.string (bs f.lab.pkg),.string (bs f.lab.name),.string (bs f.oth.pkg),.string (bs f.oth.name),.string (bs f.path),.int .i64 f.at',.slice f.ca f.cn f.cc]
def Fv.cells (f:Fv):Array Value:=#[.int .i64 f.code,.string (bs f.lab.pkg),.string (bs f.lab.name),.string (bs f.oth.pkg),.string (bs f.oth.name),.string (bs f.path),.int .i64 f.at',.slice f.ca f.cn f.cc]
def zFv:Fv:=⟨0,⟨[],[]⟩,⟨[],[]⟩,[],0,none,0,0⟩
structure FK (w:World) (g:Nat) (f:Fv):Prop where
 blk:w.heap[g]? = some (.cells f.cells 29 (0,0))
def putF (w:World) (g:Nat) (f:Fv):World:=(((((((w.setCell ⟨g,0,none⟩ (.int .i64 f.code)).setCell ⟨g,1,none⟩ (.string (bs f.lab.pkg))).setCell ⟨g,2,none⟩ (.string (bs f.lab.name))).setCell ⟨g,3,none⟩ (.string (bs f.oth.pkg))).setCell ⟨g,4,none⟩ (.string (bs f.oth.name))).setCell ⟨g,5,none⟩ (.string (bs f.path))).setCell ⟨g,6,none⟩ (.int .i64 f.at')).setCell ⟨g,7,none⟩ (.slice f.ca f.cn f.cc)
section
variable {w w':World} {g:Nat} {f k:Fv}
theorem FK.lt (h:FK w g f):g < w.heap.size:=(Array.getElem?_eq_some_iff.1 h.blk).1
theorem FK.kept (h:FK w g f) (e:w'.heap[g]? = w.heap[g]?):FK w' g f:=⟨e.trans h.blk⟩
theorem FK.later (h:FK w g f) (hb:Below w.heap.size w w'):FK w' g f:=h.kept (hb.block g h.lt)
theorem FK.new (w:World) (f:Fv):FK (w.alloc (.cells f.cells 29)) w.heap.size f:=⟨heap_alloc_new _ _⟩
theorem FK.get (h:FK w g f):w.cell? ⟨g,0,none⟩=some (.int .i64 f.code)∧w.cell? ⟨g,1,none⟩=some (.string (bs f.lab.pkg))∧w.cell? ⟨g,2,none⟩=some (.string (bs f.lab.name))∧w.cell? ⟨g,3,none⟩=some (.string (bs f.oth.pkg))∧w.cell? ⟨g,4,none⟩=some (.string (bs f.oth.name))∧w.cell? ⟨g,5,none⟩=some (.string (bs f.path))∧w.cell? ⟨g,6,none⟩=some (.int .i64 f.at')∧w.cell? ⟨g,7,none⟩=some (.slice f.ca f.cn f.cc):=by
 have hb:=h.blk
 unfold Fv.cells at hb
 refine ⟨?_,?_,?_,?_,?_,?_,?_,?_⟩<;>simp [World.cell?,hb]
theorem FK.soft (h:FK w g f) (o:Nat):w.frozen? ⟨g,o,none⟩=false:=by
 have hb:=h.blk
 simp [World.frozen?,hb]
theorem FK.set (h:FK w g f) (k:Fv):FK (putF w g k) g k:=by
 have hb:=h.blk
 refine ⟨?_⟩
 unfold putF Fv.cells
 unfold Fv.cells at hb
 rw [heap_setCell _ _ _ _ (heap_setCell _ _ _ _ (heap_setCell _ _ _ _ (heap_setCell _ _ _ _ (heap_setCell _ _ _ _ (heap_setCell _ _ _ _ (heap_setCell _ _ _ _ (heap_setCell _ _ _ _ hb)))))))]
 simp only [sA,sB,sC]
theorem putF_only (w:World) (g:Nat) (k:Fv):Only [g] w (putF w g k):=
 (((((((Only.set _ _ _ _).trans (Only.set _ _ _ _)).trans (Only.set _ _ _ _)).trans (Only.set _ _ _ _)).trans (Only.set _ _ _ _)).trans (Only.set _ _ _ _)).trans (Only.set _ _ _ _)).trans (Only.set _ _ _ _)
end
end
end Go.Proofs.YtppnbdnpapellaaGreatDoor
