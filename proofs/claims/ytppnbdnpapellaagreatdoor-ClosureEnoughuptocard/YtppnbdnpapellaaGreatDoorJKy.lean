import Derived.Test.YtppnbdnpapellaaGreatDoorJEd
import Derived.Lib.SliceRun
import Derived.Shelf.SlSortCmp.NoneTotal
import Derived.Test.YtppnbdnpapellaaGreatDoorProg
import Derived.Sort.OwnSorted
import Derived.RangeFuncNested
import Derived.RangeFuncBound
import Derived.RangeFuncCalls
import Derived.RangeFuncLeaves
import Derived.Shelf.RegionOpen
import Derived.OwnWalkIn
import Derived.TacticsInMore
import Derived.LoopNIn
import Derived.LoopIn
import Derived.Sort.MapsRangeIn
set_option maxRecDepth 100000
set_option maxHeartbeats 16000000
namespace Go.Proofs.YtppnbdnpapellaaGreatDoor
section
open Go.RowKit Go.Maps
theorem LS.src {w:World} {v:Value} {l:List Lb} (h:LS w v l):Src Tryz.prog 2 23 v l.length (lc l) w:=by
 rcases h with ⟨⟨a,c,rfl⟩,rfl⟩ | ⟨b,off,cap,rfl,hc,hlt,hcell⟩
 ·cases a with
  | none=>exact Src.ofNil w und_L c
  | some a=>exact Src.ofSlice w und_L a 0 c [] (by simp) (fun j u hu=>by simp at hu) (fun u hu=>by cases hu)
 ·exact Src.ofSlice w und_L ⟨b,off,none⟩ l.length cap (lc l) (by simp [lc_length]) (fun j u hu=>by rw [add_lit];exact hcell j u hu) (lc_one l)
theorem own_empty (w:World):OwnL w.heap.size (w.alloc (.cells #[] 27)) (.slice (some ⟨w.heap.size,0,none⟩) 0 0) []:=
 ⟨rfl,.inr ⟨w.heap.size,0,#[],rfl,Nat.le_refl _,heap_alloc_new w _,Nat.le_refl _,by unfold maxLen;omega,rfl,rfl⟩⟩
theorem q28 (w:World) (a:Option Addr) (n c n' c':Nat):(binOp .eql 23 (.slice a n c) (.slice none n' c')).run Tryz.prog w=.ok (.bool a.isNone) w:=Lib.run_eql_slice_nil w _ _ a n c n' c' und_L
theorem clone_any {w:World} {v:Value} {l:List Lb} {base:Nat} (h:OwnL base w v l) (hl:l.length≤2000000) :
  Calls Tryz.prog 51 #[v] w fun e w'=>∃ v',e=.returned v'∧OwnL w.heap.size w' v' l∧Below w.heap.size w w':=by
 rcases OL.of h with ⟨rfl,rfl⟩ | ⟨g,cap,rest,rfl,ho⟩
 ·have q:=q28
  go_enter Tryz.func51,Tryz.ntmps51
  go_wp2_with fail
  go_ret
  exact ⟨_,rfl,OwnL.nil _ _,Below.refl _ _⟩
 ·have H:Hid (LS w (.slice (some ⟨g,0,none⟩) l.length cap) l∧l.length≤2000000):=⟨h.rs,hl⟩
  clear h ho hl
  obtain ⟨n,hn⟩:∃ n,l.length=n:=⟨_,rfl⟩
  have HN:Hid (l.length=n):=hn
  rw [hn] at H ⊢
  clear hn
  have q:=q28
  go_enter Tryz.func51,Tryz.ntmps51
  go_wp2_with (first | (at_builtin;refine app_Lt und_L (base:=w.heap.size) (l:=[]) (k:=l) (own_empty w) ((H.out.1.later (balloc _ _)).src) (by have:=H.out.2;have:=HN.out;simp;omega) (by simp) rfl (.tmp 5) (.tmp 6) rfl rfl rfl ?_;intro v' w' h1 h2 h3))
  go_ret
  refine ⟨v',rfl,h1,?_⟩
  exact ((Below.refl _ _).alloc (Nat.le_refl _) _).grown h2 (by simp) (fun k hk=>by simp [Value.ownBlock] at hk;omega)
theorem clone_ls {w:World} {v:Value} {l:List Lb} (h:LS w v l) (hl:l.length≤2000000) :
  Calls Tryz.prog 51 #[v] w fun e w'=>∃ v',e=.returned v'∧OwnL w.heap.size w' v' l∧Below w.heap.size w w':=by
 obtain ⟨a,c,e,-⟩:=h.form
 subst e
 cases a with
 | none=>
  have h0:l=[]:=by
   rcases h with ⟨_,e⟩ | ⟨b,off,cap,e,_⟩
   ·exact e
   ·injection e with e _ _;cases e
  subst h0
  have q:=q28
  clear h hl
  go_enter Tryz.func51,Tryz.ntmps51
  go_wp2_with fail
  go_ret
  exact ⟨_,rfl,OwnL.nil _ _,Below.refl _ _⟩
 | some ad=>
  have H:Hid (LS w (.slice (some ad) l.length c) l∧l.length≤2000000):=⟨h,hl⟩
  clear h hl
  obtain ⟨n,hn⟩:∃ n,l.length=n:=⟨_,rfl⟩
  have HN:Hid (l.length=n):=hn
  rw [hn] at H ⊢
  clear hn
  have q:=q28
  go_enter Tryz.func51,Tryz.ntmps51
  go_wp2_with (first | (at_builtin;refine app_Lt und_L (base:=w.heap.size) (l:=[]) (k:=l) (own_empty w) ((H.out.1.later (balloc _ _)).src) (by have:=H.out.2;have:=HN.out;simp;omega) (by simp) rfl (.tmp 5) (.tmp 6) rfl rfl rfl ?_;intro v' w' h1 h2 h3))
  go_ret
  refine ⟨v',rfl,h1,?_⟩
  exact ((Below.refl _ _).alloc (Nat.le_refl _) _).grown h2 (by simp) (fun k hk=>by simp [Value.ownBlock] at hk;omega)
theorem out_any {w:World} {F:Nat→Prop} {g:Nat} {ns:List Lb} {out:Lb→List Lb} (h:GR w F g ns out) (a:Lb) (ha:Lu a) :
  Calls Tryz.prog 34 #[.pointer (some ⟨g,0,none⟩),a.val] w fun e w'=>∃ v,e=.returned v∧OwnL w.heap.size w' v (out a)∧Below w.heap.size w w':=by
 have hg:=h.glt
 have hol:=h.olen a
 have hz:=h.sz
 obtain ⟨b,hc,_,hb,_,_,hl⟩:=h.map
 clear h
 obtain ⟨v,hov,_,hlook⟩:=hl a ha
 generalize out a=l at *
 obtain ⟨p,n⟩:=a
 have hR:=RB.new w ⟨p,n⟩
 obtain ⟨w0,hw0⟩:∃ w0,w.alloc (.cells #[.string (bs p),.string (bs n)] 27)=w0:=⟨_,rfl⟩
 have hb0:Below w.heap.size w w0:=by rw [← hw0];exact balloc _ _
 have HB0:Hid (Below w.heap.size w w0∧w.alloc (.cells #[.string (bs p),.string (bs n)] 27)=w0):=⟨hb0,hw0⟩
 have hc1:w0.cell? ⟨g,0,none⟩=some (.map (some b)):=(hb0.cell (p:=⟨g,0,none⟩) hg).trans hc
 have hl1:(Instr.lookup 104 (.map (some b)) (.agg #[.string (bs p),.string (bs n)]) false).run Tryz.prog w0.drew=.ok v w0.drew:=(hlook w0.drew (hb0.block b hb)).1
 have hR0:RB w0 w.heap.size ⟨p,n⟩:=by rw [← hw0];exact hR
 obtain ⟨c0,c1,_,_⟩:=hR0.cells
 simp only at c0 c1
 have HC:Hid (Calls Tryz.prog 51 #[v] w0.drew fun e w'=>∃ v',e=.returned v'∧OwnL w0.drew.heap.size w' v' l∧Below w0.drew.heap.size w0.drew w'):=clone_any (hov.later (bstep hb0 (bd w0 1))) (by omega)
 clear hl hlook hov hR hR0 hb0 hw0 hc hb hg hol hz ha
 simp only [Lb.val]
 go_enter Tryz.func34,Tryz.ntmps34
 go_wp2_with fail
 rw [HB0.out.2]
 go_region_with (go_at_call 51;refine HC.out.mono ?_;rintro e w1 ⟨v',rfl,hov1,hb1⟩)
 all_goals (go_wp2_with fail;go_ret)
 all_goals (have hs:w.heap.size≤w0.heap.size:=HB0.out.1.size;exact ⟨_,rfl,hov1.mono hs,bstep HB0.out.1 (bstep (bd w0 1) hb1)⟩)
end
end Go.Proofs.YtppnbdnpapellaaGreatDoor
namespace Go.Proofs
open Go.Shelf
def Tryz.sortL_ren:Go.Shelf.Ren:=⟨fun | 6=>139 | 15=>128 | 14=>181 | 28=>169 | 29=>170 | 20=>210 | 21=>211 | 22=>212 | 23=>213 | 24=>214 | 25=>215 | 26=>216 | 27=>217 | 46=>249 | 47=>200 | 48=>201 | 49=>250 | 50=>251 | 57=>279 | n=>n,fun | 22=>23 | 24=>27 | 25=>132 | 3=>3 | 39=>113 | 0=>0 | 53=>212 | 55=>214 | 4=>4 | 46=>206 | 45=>205 | 50=>76 | 5=>5 | 9=>9 | 66=>238 | 70=>242 | 76=>278 | 77=>114 | n=>n,fun | n=>n⟩
theorem Tryz.sortL:Go.Proofs.SlLaysF0.n6 Tryz.prog Tryz.sortL_ren:={
 mixed:=by kernel_rfl
 f6:=⟨Tryz.f139.name,by decide,Tryz.func139.trans (congrArg some (by kernel_rfl))⟩
 f14:=⟨Tryz.f181.name,by decide,Tryz.func181.trans (congrArg some (by kernel_rfl))⟩
 f15:=Tryz.func128.trans (congrArg some (by kernel_rfl))
 f20:=⟨Tryz.f210.name,by decide,Tryz.func210.trans (congrArg some (by kernel_rfl))⟩
 f21:=⟨Tryz.f211.name,by decide,Tryz.func211.trans (congrArg some (by kernel_rfl))⟩
 f22:=⟨Tryz.f212.name,by decide,Tryz.func212.trans (congrArg some (by kernel_rfl))⟩
 f23:=⟨Tryz.f213.name,by decide,Tryz.func213.trans (congrArg some (by kernel_rfl))⟩
 f24:=⟨Tryz.f214.name,by decide,Tryz.func214.trans (congrArg some (by kernel_rfl))⟩
 f25:=⟨Tryz.f215.name,by decide,Tryz.func215.trans (congrArg some (by kernel_rfl))⟩
 f26:=⟨Tryz.f216.name,by decide,Tryz.func216.trans (congrArg some (by kernel_rfl))⟩
 f27:=⟨Tryz.f217.name,by decide,Tryz.func217.trans (congrArg some (by kernel_rfl))⟩
 f28:=Tryz.func169.trans (congrArg some (by kernel_rfl))
 f29:=Tryz.func170.trans (congrArg some (by kernel_rfl))
 f46:=⟨Tryz.f249.name,by decide,Tryz.func249.trans (congrArg some (by kernel_rfl))⟩
 f47:=Tryz.func200.trans (congrArg some (by kernel_rfl))
 f48:=Tryz.func201.trans (congrArg some (by kernel_rfl))
 f49:=⟨Tryz.f250.name,by decide,Tryz.func250.trans (congrArg some (by kernel_rfl))⟩
 f50:=⟨Tryz.f251.name,by decide,Tryz.func251.trans (congrArg some (by kernel_rfl))⟩
 f57:=⟨Tryz.f279.name,by decide,Tryz.func279.trans (congrArg some (by kernel_rfl))⟩
 t0:=Tryz.underlying0
 a0:=Tryz.isAgg0
 z0:=Tryz.sizeOf0
 v0:=Tryz.zeroValue0
 t3:=Tryz.underlying3
 a3:=Tryz.isAgg3
 z3:=Tryz.sizeOf3
 v3:=Tryz.zeroValue3
 t4:=Tryz.underlying4
 a4:=Tryz.isAgg4
 z4:=Tryz.sizeOf4
 v4:=Tryz.zeroValue4
 t5:=Tryz.underlying5
 a5:=Tryz.isAgg5
 z5:=Tryz.sizeOf5
 v5:=Tryz.zeroValue5
 t9:=Tryz.underlying9
 a9:=Tryz.isAgg9
 z9:=Tryz.sizeOf9
 v9:=Tryz.zeroValue9
 t22:=Tryz.underlying23
 a22:=Tryz.isAgg23
 z22:=Tryz.sizeOf23
 v22:=Tryz.zeroValue23
 t25:=Tryz.underlying132
 a25:=Tryz.isAgg132
 z25:=Tryz.sizeOf132
 v25:=Tryz.zeroValue132
 t39:=Tryz.underlying113
 a39:=Tryz.isAgg113
 z39:=Tryz.sizeOf113
 v39:=Tryz.zeroValue113
 t45:=Tryz.underlying205
 a45:=Tryz.isAgg205
 z45:=Tryz.sizeOf205
 v45:=Tryz.zeroValue205
 t46:=Tryz.underlying206
 a46:=Tryz.isAgg206
 z46:=Tryz.sizeOf206
 v46:=Tryz.zeroValue206
 t50:=Tryz.underlying76
 a50:=Tryz.isAgg76
 z50:=Tryz.sizeOf76
 v50:=Tryz.zeroValue76
 t53:=Tryz.underlying212
 a53:=Tryz.isAgg212
 z53:=Tryz.sizeOf212
 v53:=Tryz.zeroValue212
 t55:=Tryz.underlying214
 a55:=Tryz.isAgg214
 z55:=Tryz.sizeOf214
 v55:=Tryz.zeroValue214
 t66:=Tryz.underlying238
 a66:=Tryz.isAgg238
 z66:=Tryz.sizeOf238
 v66:=Tryz.zeroValue238
 t70:=Tryz.underlying242
 a70:=Tryz.isAgg242
 z70:=Tryz.sizeOf242
 v70:=Tryz.zeroValue242
 t76:=Tryz.underlying278
 a76:=Tryz.isAgg278
 z76:=Tryz.sizeOf278
 v76:=Tryz.zeroValue278
 t77:=Tryz.underlying114
 a77:=Tryz.isAgg114
 z77:=Tryz.sizeOf114
 v77:=Tryz.zeroValue114 }
end Go.Proofs
namespace Go.Proofs.YtppnbdnpapellaaGreatDoor
section
open Go.RowKit Go.Sort Go.Lib
theorem laid_grow {w w':World} (h:Laid w w'):∃ q os,w'=grow (w.drewN q) os:=by
 refine ⟨w'.drawn - w.drawn,w'.heap.extract w.heap.size w'.heap.size,?_⟩
 obtain ⟨hb,hd⟩:=h
 have hh:w'.heap=w.heap++w'.heap.extract w.heap.size w'.heap.size:=by
  apply Array.ext_getElem?
  intro i
  rw [Array.getElem?_append]
  by_cases hi:i < w.heap.size
  ·rw [if_pos hi];exact hb.block i hi
  ·rw [if_neg hi]
   have hs:=hb.size
   by_cases hj:i < w'.heap.size
   ·rw [Array.getElem?_extract_of_lt (by omega)]
    simp [Array.getElem?_eq_getElem hj,show w.heap.size+(i - w.heap.size)=i by omega]
   ·rw [Array.getElem?_eq_none (by omega),Array.getElem?_eq_none (by simp;omega)]
 have e1:=hb.os
 have e2:=hb.tape
 have e3:=hb.output
 cases w' with
 | mk heap tape drawn os output=>
  cases w with
  | mk heap0 tape0 drawn0 os0 output0=>
   simp only at hh e1 e2 e3 hd
   simp only [grow,World.drewN]
   subst e1 e2 e3
   congr 1
   omega
abbrev TL:Type:={ l:Lb // Lu l }
def encL (x:TL):List Value:=[.string (bs x.1.pkg),.string (bs x.1.name)]
def cfL (x y:TL):Int:=cmpL x.1 y.1
theorem ltT (x y:TL):ltOf cfL x y=ltL x.1 y.1:=rfl
theorem swoT:SWO (ltOf cfL) where
 irrefl x:=by rw [ltT];exact stoL.irr x.1
 trans x y z h1 h2:=by rw [ltT] at *;exact stoL.trans _ _ _ h1 h2
 ntrans x y z h1 h2:=by
  rw [ltT] at *
  cases h:ltL x.1 z.1
  ·rfl
  ·by_cases exy:x.1=y.1
   ·rw [← exy,h] at h2;cases h2
   ·rcases stoL.tot _ _ exy with h3 | h3
    ·rw [h3] at h1;cases h1
    ·have:=stoL.trans _ _ _ h3 h
     rw [this] at h2;cases h2
theorem totT (x y:TL) (h1:ltOf cfL x y=false) (h2:ltOf cfL y x=false):x=y:=by
 rw [ltT] at *
 by_cases e:x.1=y.1
 ·exact Subtype.ext e
 ·rcases stoL.tot _ _ e with h | h
  ·rw [h] at h1;cases h1
  ·rw [h] at h2;cases h2
theorem liftL (l:List Lb) (h:∀ x∈l,Lu x):∃ d:List TL,d.map Subtype.val=l:=by
 induction l with
 | nil=>exact ⟨[],rfl⟩
 | cons x l ih=>
  obtain ⟨d,hd⟩:=ih (fun y hy=>h y (by simp [hy]))
  exact ⟨⟨x,h x (by simp)⟩::d,by simp [hd]⟩
theorem lc_at (l:List Lb) (t:Nat) (h:t < l.length * 2):(lc l)[t]? = some (([.string (bs (l[t / 2]'(by omega)).pkg),.string (bs (l[t / 2]'(by omega)).name)]:List Value)[t % 2]!):=by
 have hk:t / 2 < l.length:=by omega
 obtain ⟨h0,h1⟩:=lc_get l (t / 2) hk
 rcases Nat.mod_two_eq_zero_or_one t with e | e
 ·rw [e]
  have:t / 2 * 2=t:=by omega
  rw [this] at h0;rw [h0];rfl
 ·rw [e]
  have:t / 2 * 2+1=t:=by omega
  rw [this] at h1;rw [h1];rfl
theorem flat_lc [Inhabited TL] (d:List TL):(flatK encL 2 d.toArray).toList=lc (d.map Subtype.val):=by
 apply List.ext_getElem?
 intro t
 by_cases h:t < d.length * 2
 ·rw [lc_at _ t (by simpa using h)]
  have hs:t < (flatK encL 2 d.toArray).size:=by simpa using h
  rw [Array.getElem?_toList,Array.getElem?_eq_getElem hs]
  have e:=get_flatK encL 2 d.toArray t (by simpa using h)
  have hk:t / 2 < d.length:=by omega
  rw [getElem!_pos (flatK encL 2 d.toArray) t hs] at e
  rw [e]
  simp [hk,encL]
 ·rw [List.getElem?_eq_none (by simp;omega),List.getElem?_eq_none (by rw [lc_length];simp;omega)]
theorem sort_any {w:World} {base:Nat} {v:Value} {l:List Lb} (h:OwnL base w v l) (hl:l.length≤2000000) (hu:∀ x∈l,Lu x) (hnd:l.Nodup) (hbase:base≤w.heap.size) :
  Calls Tryz.prog 139 #[v,.func (.func 87) #[] #[]] w fun e w'=>e=.returned (.tuple #[])∧OwnL base w' v (rs l)∧Below base w w'∧Only (bl v) w w':=by
 by_cases h0:l=[]
 ·subst h0
  obtain ⟨a,c,e⟩:=h.form
  have hS:=AnyF.slices_SortFunc_none (P:=Tryz.prog) (ρ:=Tryz.sortL_ren) { Tryz.sortL with } a c (.func (.func 87) #[] #[]) w
  change Calls Tryz.prog 139 _ _ _ at hS
  have e':v=.slice a 0 c:=e
  rw [e']
  refine hS.mono ?_
  rintro e1 w' ⟨rfl,rfl⟩
  exact ⟨rfl,by rw [← e'];exact h,Below.refl _ _,Only.refl _ _⟩
 ·obtain ⟨d,hd⟩:=liftL l hu
  have hdl:d.length=l.length:=by rw [← hd];simp
  have hinh:Inhabited TL:=⟨⟨⟨[],[]⟩,⟨by simp,by simp⟩⟩⟩
  rcases OL.of h with ⟨_,h1⟩ | ⟨g,cap,rest,rfl,ho⟩
  ·exact absurd h1 h0
  ·have hsz:=ho.sz
   have hH:HoldsK encL 2 w g 0 d.toArray:=by
    intro j hj
    have hj':j < l.length * 2:=by simpa [hdl] using hj
    refine ⟨?_,by simp [World.frozen?,ho.blk]⟩
    have e:(flatK encL 2 d.toArray)[j]? = (lc l)[j]?:=by rw [← Array.getElem?_toList,flat_lc,hd]
    rw [Array.getElem?_eq_getElem hj] at e
    have e2:(lc l++rest)[j]? = some ((flatK encL 2 d.toArray)[j]):=by rw [List.getElem?_append_left (by rw [lc_length];exact hj'),← e]
    simp only [World.cell?,ho.blk,Nat.zero_add]
    simp only [Option.isSome_none,Bool.false_eq_true,if_false,List.getElem?_toArray,e2,id]
    rw [getElem!_pos (flatK encL 2 d.toArray) j hj]
   have eg:∀ args w,(callFunc 87 args).run Tryz.prog w=.ok (.enter 87 args) w:=enters_of Tryz.func87 (by kernel_rfl) rfl
   have hcmp:CmpLays Tryz.prog 87 #[] encL 2 cfL g 0 d.toArray.size w:=fun m os dk _ x y=>
    (rising_any x.1 y.1 _ x.2.lm y.2.lm).mono fun e w' ⟨he,hl⟩=>⟨he,laid_grow hl⟩
   have hS:=AnyQ.slices_SortFunc_total Tryz.sortL 2 (fun w=>Tryz.isAgg27 w) (fun w=>Tryz.sizeOf27 w) encL (fun _=>rfl) (fun x v hv=>by
    simp only [encL,List.mem_cons,List.not_mem_nil,or_false] at hv
    rcases hv with rfl | rfl<;>rfl) cfL swoT 87 #[] g 0 cap d.toArray w eg hcmp hH ho.lt (by simp;omega) totT
   change Calls Tryz.prog 139 _ _ _ at hS
   have e1:d.toArray.size=l.length:=by simp [hdl]
   rw [e1] at hS
   refine hS.mono ?_
   rintro e w' ⟨rfl,n,os,rfl⟩
   have e2:d.toArray.toList=d:=by simp
   rw [e2]
   obtain ⟨D,hD⟩:∃ D,(d.mergeSort fun x y=>!ltOf cfL y x)=D:=⟨_,rfl⟩
   have hperm:D.Perm d:=by rw [← hD];exact List.mergeSort_perm _ _
   have hDl:D.length=l.length:=by rw [hperm.length_eq,hdl]
   have hpw:D.Pairwise (fun x y=>(!ltOf cfL y x)=true):=by
    rw [← hD]
    exact List.pairwise_mergeSort (le:=fun x y:TL=>!ltOf cfL y x) (fun x y z h1 h2=>by
     simp only [Bool.not_eq_true'] at *
     exact swoT.ntrans z y x h2 h1) (fun x y=>by
     cases h:ltOf cfL y x
     ·simp
     ·rw [ltT] at h
      simp [ltT,stoL.asym h]) d
   have hval:D.map Subtype.val=rs l:=by
    apply Gs.ris_ext stoL ?_ (Gs.ris_up stoL l)
    ·intro x
     rw [Gs.mem_ris,← hd]
     exact (hperm.map Subtype.val).mem_iff
    ·have hnd2:(D.map Subtype.val).Nodup:=(hperm.map Subtype.val).nodup_iff.2 (by rw [hd];exact hnd)
     unfold Gs.Ris
     rw [List.pairwise_map]
     have hnd3:=List.pairwise_map.1 hnd2
     refine (hpw.and hnd3).imp (fun {x y} ⟨h1,h2⟩=>?_)
     rw [ltT] at h1
     rcases stoL.tot _ _ h2 with h3 | h3
     ·exact h3
     ·rw [h3] at h1;cases h1
   rw [hD]
   have hrl:(rs l).length=l.length:=by rw [← hval];simp [hDl]
   have hblk:(sortWorldK encL 2 w g 0 n D.toArray os).heap[g]? = some (.cells (lc (rs l)++rest).toArray 27 (0,0)):=by
    unfold sortWorldK putRowK
    have hgl:g < w.heap.size:=ho.lt
    rw [heap_grow_old _ _ (by simpa using hgl)]
    simp only [putRow,mapBlock,Sort.ahead,Array.getElem?_modify,ho.blk,onCells,if_true,Option.map_some]
    congr 2
    apply Array.toList_inj.1
    apply List.ext_getElem?
    intro j
    have hfl:=flat_lc D
    rw [hval] at hfl
    simp only [putCells]
    by_cases hj:j < l.length * 2
    ·have hjs:j < (flatK encL 2 D.toArray).size:=by simp [hDl];exact hj
     have e5:(flatK encL 2 D.toArray)[j]? = (lc (rs l))[j]?:=by rw [← Array.getElem?_toList,hfl]
     rw [Array.getElem?_eq_getElem hjs] at e5
     rw [List.getElem?_append_left (by rw [lc_length,hrl];exact hj),← e5]
     simp [lc_length,show j < l.length * 2+rest.length by omega]
     rw [if_pos (by omega),getElem!_pos (flatK encL 2 D.toArray) j hjs]
    ·have hjs:¬ j < (flatK encL 2 D.toArray).size:=by simp [hDl];omega
     rw [List.getElem?_append_right (by rw [lc_length,hrl];omega),lc_length,hrl]
     have e6:(lc l++rest)[j]? = rest[j - l.length * 2]?:=by rw [List.getElem?_append_right (by rw [lc_length];omega),lc_length]
     rw [← e6]
     simp [hDl,hj]
   have hOL:OL base (sortWorldK encL 2 w g 0 n D.toArray os) g cap (rs l) rest:=⟨hblk,ho.ge,ho.cm,by rw [hrl];exact ho.sz⟩
   have hgr:w.grownBy (sortWorldK encL 2 w g 0 n D.toArray os) (some g):=by
    unfold sortWorldK putRowK
    refine ⟨rfl,rfl,rfl,by simp,fun k hk hne=>?_⟩
    rw [heap_grow_old _ _ (by simpa using hk)]
    have:g≠k:=fun e=>hne (by rw [e])
    simp [putRow,mapBlock,Sort.ahead,Array.getElem?_modify,this]
   refine ⟨rfl,?_,?_,?_⟩
   ·have:=hOL.own
    rw [hrl] at this
    exact this
   ·exact (Below.refl _ _).grown hgr hbase (fun k hk=>by cases hk;exact ho.ge)
   ·exact ⟨hgr.os,hgr.tape,hgr.output,hgr.size,fun k hk hn=>hgr.block k hk (by intro e;apply hn;unfold bl;simp [Value.ownBlock] at e ⊢;exact e)⟩
end
section
open Go.RowKit Go.Maps
structure Cl (D:DataW Unit) (left:Lit→Bool) (ss:List Lb):Prop where
 nd:ss.Nodup
 key:∀ a∈ss,keyOf Tryz.prog 27 a.val=some (.string (kb a))
 iff:∀ a:Lb,keyOf Tryz.prog 27 a.val=some (.string (kb a))→(a∈ss↔Maps.has D (.string (kb a))=true∧left (.string (kb a))=false)
theorem Cl.start (D:DataW Unit):Cl D (Maps.has D) []:=⟨List.nodup_nil,by simp,fun a _=>by simp⟩
theorem Cl.step {D:DataW Unit} {left:Lit→Bool} {ss:List Lb} (h:Cl D left ss) {x:Lb} (hx:keyOf Tryz.prog 27 x.val=some (.string (kb x))) (hl:left (.string (kb x))=true) (hh:Maps.has D (.string (kb x))=true) :
  Cl D (fun z=>left z && !z.sameKey (.string (kb x))) (ss++[x]):=by
 have hn:x∉ss:=fun e=>by have:=((h.iff x hx).1 e).2;rw [hl] at this;cases this
 refine ⟨?_,?_,fun a ha=>?_⟩
 ·rw [List.nodup_append]
  refine ⟨h.nd,by simp,?_⟩
  intro y hy z hz
  have:z=x:=by simpa using hz
  subst this
  rintro rfl
  exact hn hy
 ·intro a ha
  rcases List.mem_append.1 ha with ha | ha
  ·exact h.key a ha
  ·have:a=x:=by simpa using ha
   rw [this];exact hx
 ·rw [List.mem_append,h.iff a ha]
  by_cases e:kb a=kb x
  ·have ea:a=x:=by rw [e] at ha;exact val_inj (lawL.inj ha hx)
   subst ea
   simp [hh,WideAt.sameKey_self (isKeyLit (kb a))]
  ·have hne:a≠x:=fun h=>e (by rw [h])
   rw [Maps.sameKey_ne (fun h=>e (Lit.string.inj h))]
   simp [hne]
theorem keys_it {w:World} {b cnt:Nat} {F:Lb→Option (Option (Nat×Nat×Nat))} (h:MP cS w b F cnt) (Bm:Nat) (hBm:Bm < w.heap.size) (hm:w.cell? ⟨Bm,0,none⟩=some (.map (some b))) (n:Nat) (hn:1≤n) :
  SeqStopsK Fence.wide n Tryz.prog 140 #[.pointer (some ⟨Bm,0,none⟩)] (fun x:Lb=>#[x.val]) KeepsWalks (fun ss=>ss.Nodup∧∀ a,a∈ss↔Lu a∧(F a).isSome=true) (fun _=>True) cnt w:=by
 intro l J Jx W hW hJ hJx hY h0
 have hmW:=(hW.cell (p:=⟨Bm,0,none⟩) hBm).trans hm
 obtain ⟨D,hown,hsz,hks,hF⟩:=h.later hW
 clear h hm hBm
 change CallsIn Fence.wide n Tryz.prog 140 #[.func (.yield l) #[] #[],.pointer (some ⟨Bm,0,none⟩)] W _
 refine callsIn_of_wp Tryz.func140 rfl trivial ?_ rfl
 rw [Tryz.ntmps140,show (#[Value.func (.yield l) #[] #[],.pointer (some ⟨Bm,0,none⟩)]++Array.replicate (14 - (#[Value.func (.yield l) #[] #[],.pointer (some ⟨Bm,0,none⟩)]:Array Value).size) undef) = #[.func (.yield l) #[] #[],.pointer (some ⟨Bm,0,none⟩),undef,undef,undef,undef,undef,undef,undef,undef,undef,undef,undef,undef] from rfl]
 have HF:Hid ((∀ k:Lb,Lu k→Maps.has D (.string (kb k))=(F k).isSome∧∀ x,F k=some x→∀ zd,D.atKey (.string (kb k)) zd=cS.d x)∧Ks D∧Maps.size D=cnt):=⟨hF,hks,hsz⟩
 clear hF hks hsz
 gi_wp2_with (first
  | (gi_at_range;refine wpListIn_range_own _ rfl _ 104 rfl 27 23 lawL cS.und _ b cnt _ rfl hown ?_;intro w0 hrg0 hg0 hs0)
  | gi_in)
 gi_loopw [3] (fun _ wr=>∃ (left:Lit→Bool) (c:Nat) (ss:List Lb),wr.ranges Tryz.prog 27 cS.R b W.heap.size cnt D left c∧ss.length+c≤cnt∧Cl D left ss∧J ss wr)
  (fun _ wr=>wr.rangeLeft b W.heap.size)
 case atStart=>
  exact ⟨_,_,[],hrg0,by rw [HF.out.2.2];simp,Cl.start D,hJ [] W w0 none h0 hg0 (fun r e=>by cases e)⟩
 case round=>
  obtain ⟨left,c,ss,hrg,hcs,hC,hJs⟩:=hrel
  gi_wp2_with (first
   | (gi_at_next;refine wpListIn_next_ranges _ rfl _ rfl 27 lawL cS.R (fun x:Lb=>Value.agg #[.string (bs x.pkg),.string (bs x.name)]) sv (fun key kl hk=>by obtain ⟨x,hx,_⟩:=keyInv hk;exact ⟨x,hx⟩) (fun v y hy=>cS.inv v y hy) b W.heap.size cnt _ _ _ rfl hrg ?_ ?_)
   | gi_in)
  ·
   intro hc0 hl0
   gi_wp2
   go_end0
   refine ⟨⟨_,rfl⟩,.inl ⟨ss,⟨hC.nd,fun a=>?_⟩,hJs⟩⟩
   constructor
   ·intro ha
    have hk:=hC.key a ha
    have hh:=((hC.iff a hk).1 ha).1
    have hu:=HF.out.2.1 a hk hh
    exact ⟨hu,by rw [← (HF.out.1 a hu).1];exact hh⟩
   ·rintro ⟨hu,hs⟩
    exact (hC.iff a (keyL hu)).2 ⟨by rw [(HF.out.1 a hu).1];exact hs,hl0 _⟩
  ·intro x cc kl yd yp w2 cnt2 hkey hlk hv hat hrg2 hlt hg2 hs2 hen
   obtain ⟨x',ex,rfl⟩:=keyInv hkey
   obtain rfl:x=x':=val_inj ex
   have HK:Hid (keyOf Tryz.prog 27 x.val=some (.string (kb x))∧left (.string (kb x))=true∧Maps.has D (.string (kb x))=true):=⟨hkey,hlk,Maps.has_true_of_atKey hat⟩
   clear hkey hlk hat hv ex
   have hJ2:J ss w2:=hJ ss wr w2 (some W.heap.size) hJs hg2 (fun r e=>by cases e;exact ⟨Nat.le_refl _,hrg.iter_walk⟩)
   have hJ3:J ss (w2.alloc (.cells #[.string (bs x.pkg),.string (bs x.name)] 27)):=hJ ss w2 _ none hJ2 (World.grownBy_alloc _ _ _) (fun r e=>by cases e)
   have hrg3:=hrg2.alloc (.cells #[.string (bs x.pkg),.string (bs x.name)] 27)
   obtain ⟨fn,tmps,assign,body,hy,hR⟩:=hY ss x _ hJ3 (by omega)
   have hy2:(Instr.yield l #[.agg #[.string (bs x.pkg),.string (bs x.name)]]).run Tryz.prog (w2.alloc (.cells #[.string (bs x.pkg),.string (bs x.name)] 27))=.ok (.round l fn tmps assign body) (w2.alloc (.cells #[.string (bs x.pkg),.string (bs x.name)] 27)):=hy
   clear hy
   have HR:Hid (w2.ranges Tryz.prog 27 cS.R b W.heap.size cnt D (fun z=>left z && !z.sameKey (.string (kb x))) cnt2):=hrg2
   have HH:Hid ((w2.alloc (.cells #[.string (bs x.pkg),.string (bs x.name)] 27)).ranges Tryz.prog 27 cS.R b W.heap.size cnt D (fun z=>left z && !z.sameKey (.string (kb x))) cnt2∧cnt2 < c∧wr.rangeLeft b W.heap.size=c∧Cl D left ss∧ss.length+c≤cnt):=⟨hrg3,hlt,hrg.left_eq,hC,hcs⟩
   clear hs2 hrg3 hrg2 hg2 hrg hC hJ2 hJs hlt hcs
   gi_wp2
   refine hR.mono ?_
   rintro e W3 (⟨rfl,hJ4,hk4⟩ | ⟨rfl,hJ4⟩)
   ·have HR3:Hid (W3.ranges Tryz.prog 27 cS.R b W.heap.size cnt D (fun z=>left z && !z.sameKey (.string (kb x))) cnt2):=HH.out.1.of_walks hk4
    clear hk4
    gi_wp2
    go_roundw
    case rel=>exact ⟨_,cnt2,ss++[x],HR3.out,by have:=HH.out.2.1;have:=HH.out.2.2.2.2;simp;omega,HH.out.2.2.2.1.step HK.out.1 HK.out.2.1 HK.out.2.2,hJ4⟩
    case measure=>rw [HR3.out.left_eq,HH.out.2.2.1];exact HH.out.2.1
   ·gi_wp2
    refine bodyPost_ret (results_none rfl _ _ _) rfl ?_
    exact ⟨⟨_,rfl⟩,.inr ⟨ss++[x],hJ4⟩⟩
theorem mkeys_any (b:Nat) (w:World):Calls Tryz.prog 91 #[.map (some b)] w fun e w'=>e=.returned (.func (.func 140) #[] #[.pointer (some ⟨w.heap.size,0,none⟩)])∧w'=w.alloc (.cells #[.map (some b)] 104):=by
 go_enter Tryz.func91,Tryz.ntmps91
 go_wp2_with fail
 go_ret
 exact ⟨rfl,rfl⟩
end
end Go.Proofs.YtppnbdnpapellaaGreatDoor
