import Derived.Test.YtppnbdnpapellaaGreatDoorJFil
import Derived.Deep.RegionHeld3
import Derived.Test.YtppnbdnpapellaaGreatDoorJSShelf
import Derived.Sort.OwnSorted
import Derived.Test.YtppnbdnpapellaaGreatDoorJFd
import Derived.Shelf.SlCmpFuncs.None
import Derived.Test.YtppnbdnpapellaaGreatDoorJGt
set_option maxRecDepth 100000
set_option maxHeartbeats 16000000
namespace Go.Proofs.YtppnbdnpapellaaGreatDoor
section
open Go.RowKit Go.Sort Go.Lib
theorem slaid_grow {w w':World} (h:Laid w w'):∃ q os,w'=grow (w.drewN q) os:=by
 refine ⟨w'.drawn - w.drawn,w'.heap.extract w.heap.size w'.heap.size,?_⟩
 obtain ⟨hb,hd⟩:=h
 have hh:w'.heap=w.heap++w'.heap.extract w.heap.size w'.heap.size:=by
  apply Array.ext_getElem?
  intro i
  rw [Array.getElem?_append]
  by_cases hi:i < w.heap.size
  ·rw [if_pos hi];exact hb.block i hi
  ·rw [if_neg hi]
   have hs:=hb.size
   by_cases hj:i < w'.heap.size
   ·rw [Array.getElem?_extract_of_lt (by omega)]
    simp [Array.getElem?_eq_getElem hj,show w.heap.size+(i - w.heap.size)=i by omega]
   ·rw [Array.getElem?_eq_none (by omega),Array.getElem?_eq_none (by simp;omega)]
 have e1:=hb.os
 have e2:=hb.tape
 have e3:=hb.output
 cases w' with
 | mk heap tape drawn os output=>
  cases w with
  | mk heap0 tape0 drawn0 os0 output0=>
   simp only at hh e1 e2 e3 hd
   simp only [grow,World.drewN]
   subst e1 e2 e3
   congr 1
   omega
abbrev TSs:Type:={ l:List UInt8 // l.length≤140737488355328 }
def tz:TSs:=⟨[],by simp⟩
def encT (x:TSs):Value:=.string (bs x.1)
def cfT (x y:TSs):Int:=cf x.1 y.1
theorem sltT (x y:TSs):ltOf cfT x y=decide (cf x.1 y.1 < 0):=rfl
theorem sswoT:SWO (ltOf cfT) where
 irrefl x:=by rw [sltT,cf_self];rfl
 trans x y z h1 h2:=by rw [sltT] at *;simp at *;exact cf_trans h1 h2
 ntrans x y z h1 h2:=by
  rw [sltT] at *
  simp at *
  have:=cf_le_trans (a:=z.1) (b:=y.1) (c:=x.1) (by rw [cf_neg];omega) (by rw [cf_neg];omega)
  rw [cf_neg] at this;omega
theorem stotT (x y:TSs) (h1:ltOf cfT x y=false) (h2:ltOf cfT y x=false):x=y:=by
 rw [sltT] at *
 simp at *
 have h3:cf x.1 y.1=0:=by rw [cf_neg] at h2;omega
 exact Subtype.ext (cf_zero.1 h3)
theorem lift (l:List (List UInt8)) (h:∀ x∈l,x.length≤140737488355328):∃ d:List TSs,d.map Subtype.val=l:=by
 induction l with
 | nil=>exact ⟨[],rfl⟩
 | cons x l ih=>
  obtain ⟨d,hd⟩:=ih (fun y hy=>h y (by simp [hy]))
  exact ⟨⟨x,h x (by simp)⟩::d,by simp [hd]⟩
theorem putRow_val [Inhabited TSs] (w:World) (g:Nat) (d:List TSs):putRow encT w g 0 d.toArray=putRow encStr w g 0 (d.map Subtype.val).toArray:=by
 unfold putRow
 congr 1
 funext c
 unfold putCells
 congr 1
 funext k x
 simp only [List.size_toArray,List.length_map,Nat.sub_zero,Nat.zero_add,Nat.zero_le,true_and]
 by_cases hk:k < d.length
 ·rw [if_pos hk,if_pos hk]
  simp [hk]
  rfl
 ·rw [if_neg hk,if_neg hk]
theorem sc_enc (l:List (List UInt8)):l.map encStr=sc l:=rfl
theorem ssort_any {w:World} {base:Nat} {v:Value} {l:List (List UInt8)} (h:Own base w v l) (sm:Sm l) (hbase:base≤w.heap.size) :
  Calls Tryz.prog 78 #[v,.func (.func 36) #[] #[]] w fun e w'=>e=.returned (.tuple #[])∧∃ ts,ts.Perm l∧ts.Pairwise (fun a b=>cf a b≤0)∧Own base w' v ts∧Below base w w':=by
 have hinh:Inhabited TSs:=⟨tz⟩
 by_cases h0:l=[]
 ·subst h0
  obtain ⟨a,c,e,_⟩:=h.bs.form
  have hS:=AnyF.slices_SortFunc_none (P:=Tryz.prog) (ρ:=Tryz.sortS_ren) { Tryz.sortS with } a c (.func (.func 36) #[] #[]) w
  change Calls Tryz.prog 78 _ _ _ at hS
  rw [e]
  refine hS.mono ?_
  rintro e1 w' ⟨rfl,rfl⟩
  exact ⟨rfl,[],.refl _,.nil,by rw [← e];exact h,Below.refl _ _⟩
 ·obtain ⟨d,hd⟩:=lift l sm.each
  have hdl:d.length=l.length:=by rw [← hd];simp
  rcases h.2 with ⟨_,h1⟩ | ⟨g,cap,cur,rfl,hbg,hg,hn,hcm,hcs,htake⟩
  ·exact absurd (List.eq_nil_of_length_eq_zero h1) h0
  ·have hH0:Holds encStr w g 0 l.toArray:=holds_of_block hg (by rw [sc_enc];simpa using htake)
   have hH:Holds encT w g 0 d.toArray:=by
    intro j hj
    have hj':j < d.length:=by simpa using hj
    have:=hH0 j (by simp;omega)
    refine ⟨?_,this.2⟩
    rw [this.1]
    have hjl:j < l.length:=by omega
    simp [hj',hjl]
    have:l[j]=(d[j]).1:=by simp [← hd]
    rw [this];rfl
   have eg:∀ args w,(callFunc 36 args).run Tryz.prog w=.ok (.enter 36 args) w:=enters_of Tryz.func36 (by kernel_rfl) rfl
   have hcmp:CmpLays1 Tryz.prog 36 #[] encT cfT g 0 d.toArray.size w:=fun m os dk _ x y=>
    (cmp_any x.1 y.1 _ (by have:=x.2;omega) (by have:=y.2;omega)).mono fun e w' ⟨he,hl⟩=>⟨he,slaid_grow hl⟩
   have hS:=Any.slices_SortFunc_total Tryz.sortS encT (fun _=>rfl) cfT sswoT 36 #[] g 0 cap d.toArray w eg hcmp hH (Array.getElem?_eq_some_iff.1 hg).1 (by have:=sm.len;simp;omega) stotT
   change Calls Tryz.prog 78 _ _ _ at hS
   have e1:d.toArray.size=l.length:=by simp [hdl]
   rw [e1] at hS
   refine hS.mono ?_
   rintro e w' ⟨rfl,n,os,rfl⟩
   refine ⟨rfl,(d.mergeSort fun x y=>!ltOf cfT y x).map Subtype.val,?_,?_,?_,?_⟩
   ·rw [← hd];exact (List.mergeSort_perm _ _).map _
   ·rw [List.pairwise_map]
    have:=List.pairwise_mergeSort (le:=fun x y:TSs=>!ltOf cfT y x) (fun x y z h1 h2=>by
     simp only [sltT,Bool.not_eq_true',decide_eq_false_iff_not] at *
     have:=cf_le_trans (a:=x.1) (b:=y.1) (c:=z.1) (by rw [cf_neg] at h1;omega) (by rw [cf_neg] at h2;omega)
     rw [cf_neg];omega) (fun x y=>by
     simp only [sltT,Bool.or_eq_true,Bool.not_eq_true',decide_eq_false_iff_not]
     have:=cf_neg x.1 y.1;omega) d
    obtain ⟨S,hS⟩:∃ S,(d.mergeSort fun x y=>!ltOf cfT y x)=S:=⟨_,rfl⟩
    rw [hS] at this ⊢
    refine List.pairwise_iff_getElem.2 fun i j hi hj hij=>?_
    have hab:(!ltOf cfT S[j] S[i])=true:=List.pairwise_iff_getElem.1 this i j hi hj hij
    have hlt:ltOf cfT S[j] S[i]=false:=by simpa using hab
    rw [sltT] at hlt
    have hge:¬ cf S[j].1 S[i].1 < 0:=of_decide_eq_false hlt
    have hng:=cf_neg S[i].1 S[j].1
    omega
   ·unfold sortWorld
    have e2:d.toArray.toList=d:=by simp
    rw [e2,putRow_val]
    have:=ownsRow_sorted (w:=w) (base:=base) (g:=g) (cap:=cap) (n:=n) (e:=9) (os:=os) (ss:=l) (ts:=(d.mergeSort fun x y=>!ltOf cfT y x).map Subtype.val) (by simp [hdl]) hbg hg hn hcm hcs
    unfold Own
    rw [← sc_enc]
    have hl2:((d.mergeSort fun x y=>!ltOf cfT y x).map Subtype.val).length=l.length:=by simp [hdl]
    rw [hl2]
    exact this
   ·unfold sortWorld
    have e2:d.toArray.toList=d:=by simp
    rw [e2,putRow_val]
    exact (Below.refl _ _).grown (grownBy_sorted _) hbase (fun k hk=>by cases hk;exact hbg)
theorem Own.cut {base:Nat} {w:World} {g n cap:Nat} {l:List (List UInt8)} (h:Own base w (.slice (some ⟨g,0,none⟩) n cap) l) (k:Nat) (hk:k≤l.length):Own base w (.slice (some ⟨g,0,none⟩) k cap) (l.take k):=by
 rcases h.2 with ⟨e,_⟩ | ⟨g',cap',cur,e,hbg,hg,hn,hcm,hcs,htake⟩
 ·cases e
 ·injection e with e1 e2 e3
  injection e1 with e1
  injection e1 with e1 _ _
  subst e1
  subst e3
  have hlk:(l.take k).length=k:=by simp;omega
  refine ⟨by rw [sc_length];simp,.inr ⟨g,cap,cur,by rw [hlk],hbg,hg,by omega,hcm,hcs,?_⟩⟩
  rw [hlk]
  have h2:cur.toList.take (l.length * 1)=sc l:=htake
  rw [Nat.mul_one] at h2 ⊢
  have h3:cur.toList.take k=(cur.toList.take l.length).take k:=by rw [List.take_take];congr 1;omega
  rw [h3,h2]
  simp [sc]
theorem compact_short {v:Value} {a:Option Addr} {n c:Nat} (w:World) (hv:v=.slice a n c) (hn:n < 2) :
  Calls Tryz.prog 79 #[v] w fun e w'=>e=.returned v∧w'=w:=by
 subst hv
 go_enter Tryz.func79,Tryz.ntmps79
 go_wp2_with fail
 go_ret
 exact ⟨rfl,rfl⟩
theorem compact_any {w:World} {base:Nat} {v:Value} {l:List (List UInt8)} (h:Own base w v l) (sm:Sm l) (hs:l.Pairwise fun a b=>cf a b≤0) (hbase:base≤w.heap.size) :
  Calls Tryz.prog 79 #[v] w fun e w'=>∃ v',e=.returned v'∧Own base w' v' (norm l)∧Below base w w':=by
 by_cases h0:l.length < 2
 ·obtain ⟨a,c,e,_⟩:=h.bs.form
  refine (compact_short w e h0).mono ?_
  rintro e1 w' ⟨rfl,rfl⟩
  refine ⟨v,rfl,?_,Below.refl _ _⟩
  have:norm l=l:=norm_up (by
   match l,h0 with
   | [],_=>exact .nil
   | [x],_=>exact List.pairwise_singleton _ _)
  rw [this];exact h
 ·rcases h.2 with ⟨_,h1⟩ | ⟨g,cap,cur,rfl,hbg,hg,hn,hcm,hcs,htake⟩
  ·exact absurd h1 (by omega)
  ·have hH:Holds encStr w g 0 l.toArray:=holds_of_block hg (by rw [sc_enc];simpa using htake)
   have hC:=AnyG.slices_Compact_string_arr Tryz.compactS g 0 cap l.toArray w hH (by have:=sm.len;simp;omega) (by simpa using hn)
   change Calls Tryz.prog 79 _ _ _ at hC
   rw [compact_norm l l (.refl _) hs] at hC
   have e1:l.toArray.size=l.length:=by simp
   rw [e1] at hC
   refine hC.mono ?_
   rintro e w' ⟨rfl,q,rfl⟩
   have hnl:=norm_len l
   obtain ⟨R,hR⟩:∃ R,norm l++List.replicate (l.length - (norm l).length) []=R:=⟨_,rfl⟩
   rw [hR]
   have hRl:R.length=l.length:=by rw [← hR];simp;omega
   have ho:=ownsRow_sorted (w:=w) (base:=base) (g:=g) (cap:=cap) (n:=q) (e:=9) (os:=#[]) (ss:=l) (ts:=R) hRl hbg hg hn hcm hcs
   have hgr:=grownBy_sorted (w:=w) (g:=g) (n:=q) (os:=#[]) R.toArray
   rw [grow_empty] at ho hgr
   refine ⟨_,rfl,?_,(Below.refl _ _).grown hgr hbase (fun k hk=>by cases hk;exact hbg)⟩
   have ho2:Own base (putRow encStr (Sort.ahead w q) g 0 R.toArray) (.slice (some ⟨g,0,none⟩) l.length cap) R:=by
    unfold Own
    rw [hRl];exact ho
   have:=ho2.cut (norm l).length (by omega)
   have e3:R.take (norm l).length=norm l:=by rw [← hR];simp
   rw [e3] at this
   exact this
theorem sclone_any {w:World} {v:Value} {l:List (List UInt8)} (h:SS w v l) (sm:Sm l) :
  Calls Tryz.prog 46 #[v] w fun e w'=>∃ v',e=.returned v'∧Own w.heap.size w' v' l∧Below w.heap.size w w':=by
 rcases h with ⟨⟨a,c,rfl⟩,rfl⟩ | ⟨b,off,cap,rfl,hc,hlt,hcell⟩
 ·cases a with
  | none=>
   have hC:=AnyG.slices_Clone_string_nil Tryz.cloneS 0 c w
   change Calls Tryz.prog 46 _ _ _ at hC
   refine hC.mono ?_
   rintro e w' ⟨rfl,rfl⟩
   exact ⟨_,rfl,Own.nil _ _,Below.refl _ _⟩
  | some a=>
   have hC:=AnyG.slices_Clone_string_zero Tryz.cloneS a c w
   change Calls Tryz.prog 46 _ _ _ at hC
   refine hC.mono ?_
   rintro e w' ⟨v',rfl,ho,_,hb⟩
   exact ⟨v',rfl,ho,hb⟩
 ·have hC:=AnyG.slices_Clone_string Tryz.cloneS b off l.length cap (l.map bs) w (by simp) (by have:=sm.len;omega) (fun j hj=>by
   have hj':j < l.length:=by simpa using hj
   rw [hcell j (.string (bs l[j])) (by simp [sc_get,hj'])]
   simp [List.getD,hj'])
  change Calls Tryz.prog 46 _ _ _ at hC
  refine hC.mono ?_
  rintro e w' ⟨v',rfl,ho,_,hb⟩
  refine ⟨v',rfl,?_,hb⟩
  have e1:((l.map bs).take l.length).map Value.string=sc l:=by
   rw [List.take_of_length_le (by simp)];simp [sc]
  rw [e1] at ho
  exact ho
theorem rise_any {w:World} {base:Nat} {v:Value} {l:List (List UInt8)} (h:Own base w v l) (sm:Sm l) (hbase:base≤w.heap.size) :
  Calls Tryz.prog 45 #[v] w fun e w'=>∃ v',e=.returned v'∧Own base w' v' (norm l)∧Below base w w':=by
 have H:Hid (Own base w v l∧Sm l):=⟨h,sm⟩
 clear h sm
 go_enter Tryz.func45,Tryz.ntmps45
 go_wp2_with fail
 refine (ssort_any H.out.1 H.out.2 hbase).mono ?_
 rintro e w1 ⟨rfl,ts,hp,hs,ho,hb⟩
 have H1:Hid (Own base w1 v ts∧Sm ts∧ts.Pairwise (fun a b=>cf a b≤0)∧norm ts=norm l):=
  ⟨ho,⟨by rw [hp.length_eq];exact H.out.2.len,fun x hx=>H.out.2.each x (hp.mem_iff.1 hx)⟩,hs,norm_of (up_norm l) (fun x=>(mem_norm x l).trans hp.mem_iff.symm)⟩
 have HB:Hid (Below base w w1):=hb
 have hb1:base≤w1.heap.size:=Nat.le_trans hbase hb.size
 clear hp hs ho hb
 go_wp2_with fail
 refine (compact_any H1.out.1 H1.out.2.1 H1.out.2.2.1 hb1).mono ?_
 rintro e w2 ⟨v2,rfl,ho2,hb2⟩
 have HO2:Hid (Own base w2 v2 (norm l)):=by rw [← H1.out.2.2.2];exact ho2
 have HB2:Hid (Below base w w2):=below_trans HB.out hb2
 clear ho2 hb2
 go_wp2_with fail
 go_ret
 exact ⟨v2,rfl,HO2.out,HB2.out⟩
theorem norm_any {w:World} {v:Value} {l:List (List UInt8)} (h:SS w v l) (sm:Sm l) :
  Calls Tryz.prog 25 #[v] w fun e w'=>∃ v',e=.returned v'∧Own w.heap.size w' v' (norm l)∧Below w.heap.size w w':=by
 have H:Hid (SS w v l∧Sm l):=⟨h,sm⟩
 clear h sm
 go_enter Tryz.func25,Tryz.ntmps25
 go_wp2_with fail
 refine (sclone_any H.out.1 H.out.2).mono ?_
 rintro e w1 ⟨v1,rfl,ho1,hb1⟩
 have HO1:Hid (Own w.heap.size w1 v1 l):=ho1
 have HB1:Hid (Below w.heap.size w w1):=hb1
 have hz:=hb1.size
 clear ho1 hb1
 go_wp2_with fail
 refine (rise_any HO1.out H.out.2 hz).mono ?_
 rintro e w2 ⟨v2,rfl,ho2,hb2⟩
 have HO2:Hid (Own w.heap.size w2 v2 (norm l)):=ho2
 have HB2:Hid (Below w.heap.size w w2):=below_trans HB1.out hb2
 clear ho2 hb2
 go_wp2_with fail
 go_ret
 exact ⟨v2,rfl,HO2.out,HB2.out⟩
end
section
open Go.RowKit Go.Sort Go.Lib
def keep (l:List Fl) (ps:List (List UInt8)):List Fl:=l.filter (fun f=>decide (f.path∈ps))
theorem keep_cons (f:Fl) (l:List Fl) (ps):keep (f::l) ps=if f.path∈ps then f::keep l ps else keep l ps:=by
 unfold keep;rw [List.filter_cons];by_cases h:f.path∈ps<;>simp [h]
theorem keep_app (a b:List Fl) (ps):keep (a++b) ps=keep a ps++keep b ps:=by unfold keep;exact List.filter_append ..
theorem below_grow (w:World) (m:Nat) (os:Array Obj):Below w.heap.size w (grow (Sort.ahead w m) os):=
 ⟨rfl,rfl,rfl,by simp [grow,Sort.ahead],fun i hi=>by simp only [grow,Sort.ahead];exact Array.getElem?_append_left hi⟩
theorem count_mem:∀ (l:List (List UInt8)) (p:List UInt8),Up l→(decide (l.countP (fun x=>decide (cf x p < 0)) < l.length) && decide (cf (l.getD (l.countP (fun x=>decide (cf x p < 0))) []) p=0))=decide (p∈l)
 | [],p,_=>by simp
 | x::r,p,h=>by
  have hr:=List.pairwise_cons.1 h
  by_cases hx:cf x p < 0
  ·have ih:=count_mem r p hr.2
   rw [List.countP_cons_of_pos (by simpa using hx)]
   have hne:x≠p:=by rintro rfl;rw [cf_self] at hx;omega
   have e1:decide (p∈x::r)=decide (p∈r):=by simp [Ne.symm hne]
   rw [e1,← ih]
   simp
  ·have h0:(r.countP (fun x=>decide (cf x p < 0)))=0:=by
    rw [List.countP_eq_zero]
    intro z hz
    have h1:=hr.1 z hz
    simp only [decide_eq_true_eq]
    intro h2
    exact hx (cf_trans h1 h2)
   rw [List.countP_cons_of_neg (by simpa using hx),h0]
   simp only [List.length_cons,Nat.zero_lt_succ,decide_true,Bool.true_and,List.getD_cons_zero]
   by_cases hz:cf x p=0
   ·have:=cf_zero.1 hz
    subst this;simp [cf_self]
   ·have hm:p∉x::r:=by
     intro hm
     rcases List.mem_cons.1 hm with rfl | hm
     ·exact hz (cf_self _)
     ·exact hx (hr.1 p hm)
    simp [hz,hm]
theorem search_any {w:World} {base:Nat} {v:Value} {l:List (List UInt8)} (p:List UInt8) (h:Own base w v l) (sm:Sm l) (up:Up l) (hp:p.length≤140737488355328) :
  Calls Tryz.prog 35 #[v,.string (bs p),.func (.func 36) #[] #[]] w fun e w'=>∃ i:Int,e=.returned (.tuple #[.int .i64 i,.bool (decide (p∈l))])∧Below w.heap.size w w':=by
 have hinh:Inhabited TSs:=⟨tz⟩
 by_cases h0:l=[]
 ·subst h0
  obtain ⟨a,c,e,_⟩:=h.bs.form
  have hS:=Any.slices_BinarySearchFunc_none Tryz.searchS a c (.string (bs p)) (.func (.func 36) #[] #[]) w
  change Calls Tryz.prog 35 _ _ _ at hS
  rw [e]
  refine hS.mono ?_
  rintro e1 w' ⟨rfl,rfl⟩
  exact ⟨0,by simp,Below.refl _ _⟩
 ·obtain ⟨d,hd⟩:=lift l sm.each
  have hdl:d.length=l.length:=by rw [← hd];simp
  rcases h.2 with ⟨_,h1⟩ | ⟨g,cap,cur,rfl,hbg,hg,hn,hcm,hcs,htake⟩
  ·exact absurd (List.eq_nil_of_length_eq_zero h1) h0
  ·have hH0:Holds encStr w g 0 l.toArray:=holds_of_block hg (by rw [sc_enc];simpa using htake)
   have hH:Holds encT w g 0 d.toArray:=by
    intro j hj
    have hj':j < d.length:=by simpa using hj
    have:=hH0 j (by simp;omega)
    refine ⟨?_,this.2⟩
    rw [this.1]
    have hjl:j < l.length:=by omega
    simp [hj',hjl]
    have:l[j]=(d[j]).1:=by simp [← hd]
    rw [this];rfl
   have eg:∀ args w,(callFunc 36 args).run Tryz.prog w=.ok (.enter 36 args) w:=enters_of Tryz.func36 (by kernel_rfl) rfl
   have hcmp:CmpLaysT Tryz.prog 36 #[] encT (.string (bs p)) (fun x:TSs=>cf x.1 p) g 0 d.toArray.size w:=fun m os dk _ x=>
    (cmp_any x.1 p _ (by have:=x.2;omega) (by omega)).mono fun e w' ⟨he,hl⟩=>⟨he,slaid_grow hl⟩
   have hS:=Any.slices_BinarySearchFunc Tryz.searchS encT (fun _=>rfl) (.string (bs p)) (fun x:TSs=>cf x.1 p) 36 #[] g 0 cap d.toArray w eg hcmp hH (Array.getElem?_eq_some_iff.1 hg).1 (by have:=sm.len;simp;omega) (by
    intro i j hij hj hlt
    have hj':j < d.length:=by simpa using hj
    rcases Nat.lt_or_eq_of_le hij with hlt' | rfl
    ·have hij':i < d.length:=by omega
     have e1:(d.toArray[i]!).1=l[i]'(by omega):=by rw [getElem!_pos d.toArray i (by simpa using hij')];simp [← hd]
     have e2:(d.toArray[j]!).1=l[j]'(by omega):=by rw [getElem!_pos d.toArray j (by simpa using hj')];simp [← hd]
     rw [e1]
     rw [e2] at hlt
     exact cf_trans (up_get up hlt' (by omega)) hlt
    ·exact hlt)
   change Calls Tryz.prog 35 _ _ _ at hS
   have e1:d.toArray.size=l.length:=by simp [hdl]
   rw [e1] at hS
   refine hS.mono ?_
   rintro e w' ⟨rfl,m,os,rfl⟩
   have ec:d.countP (fun x:TSs=>decide (cf x.1 p < 0))=l.countP (fun x=>decide (cf x p < 0)):=by rw [← hd,List.countP_map];rfl
   have e2:d.toArray.toList=d:=by simp
   rw [e2,ec]
   refine ⟨(l.countP (fun x=>decide (cf x p < 0)):Nat),?_,?_⟩
   ·have hm:=count_mem l p up
    rw [← hm]
    congr 5
    by_cases hc:l.countP (fun x=>decide (cf x p < 0)) < l.length
    ·have hc2:l.countP (fun x=>decide (cf x p < 0)) < d.length:=by omega
     have e3:(d.toArray[l.countP (fun x=>decide (cf x p < 0))]!).1=l.getD (l.countP (fun x=>decide (cf x p < 0))) []:=by
      rw [getElem!_pos d.toArray _ (by simpa using hc2),List.getD_eq_getElem?_getD,List.getElem?_eq_getElem hc]
      simp [← hd]
     rw [e3]
    ·simp [hc]
   ·unfold sortWorld
    rw [putRow_self encT (Sort.ahead w m) g 0 d.toArray (fun j hj=>hH j hj)]
    exact below_grow w m os
theorem keep_any {w:World} {v vp:Value} {l:List Fl} {ps:List (List UInt8)} (h:FS w v l) (hp:SS w vp ps) (sm:FSm l) (sp:Sm ps) (hlen:l.length≤1000000) :
  Calls Tryz.prog 13 #[v,vp] w fun e w'=>∃ v',e=.returned v'∧OwnF w.heap.size w' v' (keep l ps)∧Below w.heap.size w w':=by
 have H:Hid (FS w v l):=h
 have HP:Hid (SS w vp ps∧Sm ps):=⟨hp,sp⟩
 have SM:Hid (FSm l):=sm
 clear sm hp sp
 obtain ⟨a,c,rfl,_⟩:=h.form
 rename_i q1
 clear h q1
 obtain ⟨n,hn⟩:∃ n,l.length=n:=⟨_,rfl⟩
 have H':Hid (FS w (.slice a l.length c) l):=H.out
 clear H
 rw [hn] at hlen ⊢
 have HN:Hid (l.length=n):=hn
 clear hn
 go_enter Tryz.func13,Tryz.ntmps13
 go_wp2_with fail
 refine (norm_any HP.out.1 HP.out.2).mono ?_
 rintro e w1 ⟨v1,rfl,ho1,hb1⟩
 have HO1:Hid (Own w.heap.size w1 v1 (norm ps)):=ho1
 have HB1:Hid (Below w.heap.size w w1):=hb1
 have hz1:=hb1.size
 obtain ⟨a1,c1,e1,_⟩:=ho1.bs.form
 subst e1
 rename_i q1
 clear ho1 hb1 q1
 obtain ⟨n1,hn1⟩:∃ n1,(norm ps).length=n1:=⟨_,rfl⟩
 rw [hn1] at HO1 ⊢
 clear hn1
 go_wp2_with fail
 go_loopw [5,15] (fun o i wr=>∃ k:Nat,k≤n∧i=.int .i64 k∧OwnF w1.heap.size wr o (keep (l.take k) ps)∧Below w1.heap.size w1 wr) (fun _ i _=>n - (intOf i).toNat)
 case atStart=>exact ⟨0,by omega,rfl,by simpa [keep] using OwnF.nil _ _,Below.refl _ _⟩
 case round=>
  obtain ⟨k,hk,rfl,ho,hb⟩:=hrel
  have HO:Hid (OwnF w1.heap.size wr u5 (keep (l.take k) ps)):=ho
  have HB:Hid (Below w1.heap.size w1 wr):=hb
  have hz2:=hb.size
  have hkl0:(keep (l.take k) ps).length≤n:=by
   have:=List.length_filter_le (fun f:Fl=>decide (f.path∈ps)) (l.take k)
   have h2:(l.take k).length≤l.length:=by simp;omega
   have:=HN.out
   unfold keep;omega
  obtain ⟨ao,co,eo⟩:=ho.form
  subst eo
  obtain ⟨no,hno⟩:∃ no,(keep (l.take k) ps).length=no:=⟨_,rfl⟩
  rw [hno] at HO hkl0 ⊢
  clear ho hb
  by_cases hlt:k < n
  ·have hkl:k < l.length:=by have:=HN.out;omega
   obtain ⟨b,off,ea,hbw,d0,d1,d2,d3⟩:=FS.at H'.out (bstep HB1.out HB.out) hkl
   subst ea
   have F:Hid (Fok l[k]):=SM.out.at hkl
   have HK:Hid (keep (l.take (k+1)) ps=keep (l.take k) ps++if (l[k]'hkl).path∈ps then [l[k]'hkl] else []):=by
    have e:l.take (k+1)=l.take k++[l[k]'hkl]:=by rw [List.take_add_one,List.getElem?_eq_getElem hkl];rfl
    show keep (l.take (k+1)) ps=_
    rw [e,keep_app]
    congr 1
    rw [keep_cons];rfl
   obtain ⟨f,hf⟩:∃ f,l[k]=f:=⟨_,rfl⟩
   rw [hf] at d0 d1 d2 d3 F HK
   clear hf
   obtain ⟨p,t,bl,s⟩:=f
   simp only at d0 d1 d2 d3
   have k1:(0:Int)≤(k:Int):=by omega
   have k2:(k:Int) < (n:Int):=by omega
   go_wp2_with fail
   obtain ⟨w2,hw2⟩:∃ w2,wr.alloc (.cells #[.string (bs p),.string (bs t),.int .i64 bl,.int .i64 s] 55)=w2:=⟨_,rfl⟩
   have FB2:Hid (FB w2 wr.heap.size ⟨p,t,bl,s⟩):=by rw [← hw2];exact FB.new wr ⟨p,t,bl,s⟩ 55
   have HB2:Hid (Below wr.heap.size wr w2):=by rw [← hw2];exact balloc _ _
   rw [hw2]
   clear hw2 d0 d1 d2 d3
   refine (search_any (base:=w.heap.size) p (HO1.out.later (bstep HB.out HB2.out)) HP.out.2.norm (up_norm _) F.out.path).mono ?_
   rintro e w3 ⟨ix,rfl,hb3⟩
   have em:decide (p∈norm ps)=decide (p∈ps):=by simp [mem_norm]
   rw [em]
   have HB3:Hid (Below wr.heap.size wr w3):=bstep HB2.out hb3
   obtain ⟨c0,c1',c2,c3,hlt3⟩:=FB2.out.later hb3
   simp only at c0 c1' c2 c3
   have O3:Hid (OwnF w1.heap.size w3 (.slice ao no co) (keep (l.take k) ps)):=HO.out.later HB3.out
   have hz3:=HB3.out.size
   clear hb3 em
   by_cases hpm:p∈ps
   ·have hd:decide (p∈ps)=true:=by simpa using hpm
    rw [hd]
    have HPM:Hid (p∈ps):=hpm
    clear hpm
    go_wp2_with (at_builtin;refine app_files (base:=w1.heap.size) (l:=keep (l.take k) ps) (k:=[⟨p,t,bl,s⟩]) (O3.out.later (balloc _ _)) (src_file _ ⟨p,t,bl,s⟩) (by simp;omega) (by simp;omega) rfl _ _ rfl rfl rfl ?_;intro v4 w4 ho4 hg4 _)
    go_roundw
    case rel=>
     refine ⟨k+1,by omega,by go_num,?_,?_⟩
     ·rw [HK.out,if_pos HPM.out];exact ho4
     ·refine (bstep (bstep HB.out HB3.out) (balloc _ _)).grown hg4 (by simp;omega) (fun j hj=>?_)
      exact (O3.out.lt hj).1
    case measure=>simp [intOf];omega
   ·have hd:decide (p∈ps)=false:=by simpa using hpm
    rw [hd]
    have HPM:Hid (¬ p∈ps):=hpm
    clear hpm
    go_wp2_with fail
    go_roundw
    case rel=>
     refine ⟨k+1,by omega,by go_num,?_,bstep HB.out HB3.out⟩
     rw [HK.out,if_neg HPM.out,List.append_nil];exact O3.out
    case measure=>simp [intOf];omega
  ·obtain rfl:k=n:=by omega
   go_wp2_with fail
   go_ret
   refine ⟨_,rfl,?_,bstep HB1.out HB.out⟩
   have e:l.take k=l:=List.take_of_length_le (by have:=HN.out;omega)
   have:=HO.out
   rw [e] at this
   exact this.mono hz1
end
end Go.Proofs.YtppnbdnpapellaaGreatDoor
namespace Go.Proofs.YtppnbdnpapellaaGreatDoor
namespace Gs
variable {α:Type} {lt:α→α→Bool}
def Mut (E:List (α×α)) (a b:α):Prop:=Way E a b∧Way E b a
theorem Mut.refl (E:List (α×α)) (a:α):Mut E a a:=⟨.refl a,.refl a⟩
theorem Mut.symm {E:List (α×α)} {a b:α} (h:Mut E a b):Mut E b a:=⟨h.2,h.1⟩
theorem Mut.trans {E:List (α×α)} {a b c:α} (h:Mut E a b) (k:Mut E b c):Mut E a c:=⟨h.1.trans k.1,k.2.trans h.2⟩
open Classical in
noncomputable def part (lt:α→α→Bool) [DecidableEq α] (N:List α) (E:List (α×α)) (a:α):List α:=ris lt (N.filter (fun x=>decide (Mut E a x)))
open Classical in
noncomputable def lst (lt:α→α→Bool) (N:List α) (E:List (α×α)) (a:α):Bool:=decide (∀ x∈N,Mut E a x→lt x a=false)
noncomputable def pts (lt:α→α→Bool) [DecidableEq α] (N:List α) (E:List (α×α)):List (List α):=(ris lt (N.filter (lst lt N E))).map (part lt N E)
theorem mem_part [DecidableEq α] {N:List α} {E:List (α×α)} {a x:α}:x∈part lt N E a↔x∈N∧Mut E a x:=by
 unfold part
 rw [mem_ris,List.mem_filter]
 simp
theorem part_up [DecidableEq α] (h:Sto lt) (N:List α) (E:List (α×α)) (a:α):Ris lt (part lt N E a):=ris_up h _
structure Pts (lt:α→α→Bool) (N:List α) (E:List (α×α)) (P:List (List α)):Prop where
 up:∀ p∈P,Ris lt p
 ne:∀ p∈P,p≠[]
 hd:P.Pairwise (fun p q=>∀ a b,p.head? = some a→q.head? = some b→lt a b=true)
 cov:∀ x∈N,∃ p∈P,x∈p
 one:∀ p∈P,∀ x∈p,x∈N∧∀ y,y∈p↔(y∈N∧Mut E x y)
theorem head_least (h:Sto lt):∀ {p:List α} {a:α},Ris lt p→p.head? = some a→a∈p∧∀ x∈p,lt x a=false
 | [],_,_,e=>by cases e
 | y::r,a,hp,e=>by
  injection e with e
  subst e
  refine ⟨by simp,fun x hx=>?_⟩
  rcases List.mem_cons.1 hx with rfl | hx
  ·exact h.irr _
  ·exact h.asym ((List.pairwise_cons.1 hp).1 x hx)
theorem head_is {p:List α} {a:α} (hp:Ris lt p) (ha:a∈p) (hl:∀ x∈p,lt x a=false):p.head? = some a:=by
 cases p with
 | nil=>cases ha
 | cons y r=>
  have h1:=hl y (by simp)
  rcases List.mem_cons.1 ha with rfl | hr
  ·rfl
  ·rw [(List.pairwise_cons.1 hp).1 a hr] at h1;cases h1
theorem Pts.eq [DecidableEq α] (h:Sto lt) {N:List α} {E:List (α×α)} {P:List (List α)} (k:Pts lt N E P):P=pts lt N E:=by
 have hne:∀ p∈P,∃ a,p.head? = some a:=fun p hp=>by
  cases p with
  | nil=>exact absurd rfl (k.ne _ hp)
  | cons a r=>exact ⟨a,rfl⟩
 have hpart:∀ p∈P,∀ a,p.head? = some a→p=part lt N E a:=fun p hp a ha=>by
  obtain ⟨hm,_⟩:=head_least h (k.up p hp) ha
  refine ris_ext h (k.up p hp) (part_up h N E a) (fun x=>?_)
  rw [mem_part]
  exact (k.one p hp a hm).2 x
 have hheads:P.filterMap List.head? = ris lt (N.filter (lst lt N E)):=by
  refine ris_ext h ?_ (ris_up h _) (fun x=>?_)
  ·unfold Ris
   rw [List.pairwise_filterMap]
   exact k.hd.imp (fun hab a ha b hb=>hab a b ha hb)
  ·rw [mem_ris,List.mem_filter,List.mem_filterMap]
   simp only [lst,decide_eq_true_eq]
   constructor
   ·rintro ⟨p,hp,e⟩
    obtain ⟨hm,hl⟩:=head_least h (k.up p hp) e
    obtain ⟨hN,ho⟩:=k.one p hp x hm
    exact ⟨hN,fun y hy hmut=>hl y ((ho y).2 ⟨hy,hmut⟩)⟩
   ·rintro ⟨hN,hl⟩
    obtain ⟨p,hp,hx⟩:=k.cov x hN
    refine ⟨p,hp,head_is (k.up p hp) hx (fun y hy=>?_)⟩
    obtain ⟨h1,h2⟩:=((k.one p hp x hx).2 y).1 hy
    exact hl y h1 h2
 unfold pts
 rw [← hheads]
 clear hheads
 have key:∀ Q:List (List α),(∀ p∈Q,p∈P)→Q=(Q.filterMap List.head?).map (part lt N E):=by
  intro Q
  induction Q with
  | nil=>intro _;rfl
  | cons p r ih=>
   intro hQ
   obtain ⟨a,ha⟩:=hne p (hQ p (by simp))
   rw [List.filterMap_cons,ha]
   simp only [List.map_cons]
   rw [← hpart p (hQ p (by simp)) a ha,← ih (fun q hq=>hQ q (by simp [hq]))]
 exact key P (fun p hp=>hp)
structure PtsK (lt:α→α→Bool) (N:List α) (E:List (α×α)) (all:List α) (k:Nat) (P:List (List α)):Prop where
 up:∀ p∈P,Ris lt p
 hd:P.Pairwise (fun p q=>∀ a b,p.head? = some a→q.head? = some b→lt a b=true)
 at':∀ p∈P,∃ a,a∈all.take k∧p.head? = some a
 cov:∀ x∈all.take k,∃ p∈P,x∈p
 one:∀ p∈P,∀ x∈p,x∈N∧∀ y,y∈p↔(y∈N∧Mut E x y)
theorem PtsK.nil (lt:α→α→Bool) (N:List α) (E:List (α×α)) (all:List α):PtsK lt N E all 0 []:=⟨by simp,List.Pairwise.nil,by simp,by simp,by simp⟩
theorem PtsK.skip {N:List α} {E:List (α×α)} {all:List α} {k:Nat} {P:List (List α)} (h:PtsK lt N E all k P) (hk:k < all.length) {p:List α} (hp:p∈P) (hx:all[k]∈p):PtsK lt N E all (k+1) P:=by
 have e:all.take (k+1)=all.take k++[all[k]]:=List.take_succ_eq_append_getElem hk
 refine ⟨h.up,h.hd,fun q hq=>?_,fun x hxx=>?_,h.one⟩
 ·obtain ⟨a,h1,h2⟩:=h.at' q hq
  exact ⟨a,by rw [e];exact List.mem_append_left _ h1,h2⟩
 ·rw [e] at hxx
  rcases List.mem_append.1 hxx with h1 | h1
  ·exact h.cov x h1
  ·rw [List.mem_singleton.1 h1];exact ⟨p,hp,hx⟩
theorem PtsK.add (hs:Sto lt) {N:List α} {E:List (α×α)} {all:List α} {k:Nat} {P:List (List α)} (h:PtsK lt N E all k P) (hall:Ris lt all) (hm:∀ x,x∈all↔x∈N) (hk:k < all.length) (hn:∀ p∈P,all[k]∉p) {q:List α} (hq:Ris lt q) (hqm:∀ y,y∈q↔(y∈N∧Mut E all[k] y)):PtsK lt N E all (k+1) (P++[q]):=by
 have e:all.take (k+1)=all.take k++[all[k]]:=List.take_succ_eq_append_getElem hk
 have hkN:all[k]∈N:=(hm _).1 (List.getElem_mem hk)
 have hlt:∀ x∈all.take k,lt x all[k]=true:=fun x hx=>by
  obtain ⟨i,hi,ei⟩:=List.getElem_of_mem hx
  rw [List.getElem_take] at ei
  rw [← ei]
  exact (List.pairwise_iff_getElem.1 hall) i k _ hk (by simp at hi;omega)
 have hhd:q.head? = some all[k]:=by
  refine head_is hq ((hqm _).2 ⟨hkN,Mut.refl _ _⟩) (fun x hx=>?_)
  obtain ⟨hxN,hxm⟩:=(hqm x).1 hx
  cases hl:lt x all[k] with
  | false=>rfl
  | true=>
   obtain ⟨i,hi,ei⟩:=List.getElem_of_mem ((hm x).2 hxN)
   have hik:i < k:=by
    rcases Nat.lt_trichotomy i k with h1 | h1 | h1
    ·exact h1
    ·subst h1;rw [ei,hs.irr] at hl;cases hl
    ·have:=(List.pairwise_iff_getElem.1 hall) k i hk hi h1
     rw [ei,hs.asym hl] at this;cases this
   obtain ⟨p,hp,hxp⟩:=h.cov x (by rw [← ei];exact List.mem_take_iff_getElem.2 ⟨i,by omega,rfl⟩)
   exact absurd (((h.one p hp x hxp).2 _).2 ⟨hkN,hxm.symm⟩) (hn p hp)
 refine ⟨fun p hp=>?_,?_,fun p hp=>?_,fun x hx=>?_,fun p hp x hx=>?_⟩
 ·rcases List.mem_append.1 hp with h1 | h1
  ·exact h.up p h1
  ·rw [List.mem_singleton.1 h1];exact hq
 ·rw [List.pairwise_append]
  refine ⟨h.hd,List.pairwise_singleton _ _,fun p hp q' hq' a b ha hb=>?_⟩
  rw [List.mem_singleton.1 hq',hhd] at hb
  injection hb with hb
  subst hb
  obtain ⟨a',h1,h2⟩:=h.at' p hp
  rw [ha] at h2
  injection h2 with h2
  subst h2
  exact hlt a h1
 ·rcases List.mem_append.1 hp with h1 | h1
  ·obtain ⟨a,h2,h3⟩:=h.at' p h1
   exact ⟨a,by rw [e];exact List.mem_append_left _ h2,h3⟩
  ·rw [List.mem_singleton.1 h1]
   exact ⟨all[k],by rw [e];exact List.mem_append_right _ (List.mem_singleton.2 rfl),hhd⟩
 ·rw [e] at hx
  rcases List.mem_append.1 hx with h1 | h1
  ·obtain ⟨p,h2,h3⟩:=h.cov x h1
   exact ⟨p,by simp [h2],h3⟩
  ·rw [List.mem_singleton.1 h1]
   exact ⟨q,by simp,(hqm _).2 ⟨hkN,Mut.refl _ _⟩⟩
 ·rcases List.mem_append.1 hp with h1 | h1
  ·exact h.one p h1 x hx
  ·have e2:=List.mem_singleton.1 h1
   subst e2
   obtain ⟨hxN,hxm⟩:=(hqm x).1 hx
   exact ⟨hxN,fun y=>by
    rw [hqm y]
    exact ⟨fun ⟨a,b⟩=>⟨a,hxm.symm.trans b⟩,fun ⟨a,b⟩=>⟨a,hxm.trans b⟩⟩⟩
theorem PtsK.done {N:List α} {E:List (α×α)} {all:List α} {P:List (List α)} (h:PtsK lt N E all all.length P) (hm:∀ x,x∈all↔x∈N):Pts lt N E P:=by
 refine ⟨h.up,fun p hp e=>?_,h.hd,fun x hx=>h.cov x (by rw [List.take_length];exact (hm x).2 hx),h.one⟩
 obtain ⟨a,_,h2⟩:=h.at' p hp
 rw [e] at h2;cases h2
def Crc (E:List (α×α)) (p:List α):Prop:=2≤p.length∨∃ a∈p,(a,a)∈E
theorem Pts.free (hs:Sto lt) {N:List α} {E:List (α×α)} {P:List (List α)} (h:Pts lt N E P) (hE:∀ a b,(a,b)∈E→a∈N∧b∈N):(∀ p∈P,¬ Crc E p)↔∀ a b,(a,b)∈E→Way E b a→False:=by
 constructor
 ·intro hc a b hab hw
  obtain ⟨p,hp,ha⟩:=h.cov a (hE a b hab).1
  refine hc p hp ?_
  by_cases e:a=b
  ·subst e
   exact .inr ⟨a,ha,hab⟩
  ·have hb:b∈p:=((h.one p hp a ha).2 b).2 ⟨(hE a b hab).2,.step (.refl _) hab,hw⟩
   left
   match p,ha,hb with
   | [],ha,_=>cases ha
   | [x],ha,hb=>exact absurd ((List.mem_singleton.1 ha).trans (List.mem_singleton.1 hb).symm) e
   | _::_::_,_,_=>simp
 ·intro hf p hp hc
  rcases hc with h2 | ⟨a,ha,haa⟩
  ·match p,h2,h.up p hp,h.one p hp with
   | x::y::r,_,hup,hone=>
    have hxy:lt x y=true:=(List.pairwise_cons.1 hup).1 y (by simp)
    have hne:x≠y:=by rintro rfl;rw [hs.irr] at hxy;cases hxy
    obtain ⟨_,hm⟩:=((hone x (by simp)).2 y).1 (by simp)
    obtain ⟨h1,h2⟩:=hm
    cases h1 with
    | refl=>exact hne rfl
    | step h3 h4=>exact hf _ _ h4 (h2.trans h3)
  ·exact hf a a haa (.refl _)
end Gs
end Go.Proofs.YtppnbdnpapellaaGreatDoor
