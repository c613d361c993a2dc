import Derived.Test.YtppnbdnpapellaaGreatDoorJSPkg2
import Derived.Test.YtppnbdnpapellaaGreatDoorJMShelf
import Derived.Test.YtppnbdnpapellaaGreatDoorJGPg
set_option maxRecDepth 100000
set_option maxHeartbeats 16000000
namespace Go.Proofs.YtppnbdnpapellaaGreatDoor
section
open Go.RowKit Go.Maps
def refE (l:List Fl) (t:List Lb):Int:=if validE l=0 then (if t.all okL then 0 else 10) else validE l
theorem all_cut {t:List Lb} {i:Nat} (hi:i < t.length) (h:(t.take i).all okL=true):(t.take (i+1)).all okL=okL t[i]:=by
 rw [List.take_succ_eq_append_getElem hi,List.all_append,h]
 simp
theorem all_no {t:List Lb} {i:Nat} (hi:i < t.length) (h:okL t[i]=false):t.all okL=false:=by
 rw [Bool.eq_false_iff]
 intro ht
 rw [List.all_eq_true] at ht
 rw [ht _ (List.getElem_mem hi)] at h
 cases h
theorem brefused_any {w:World} {lv tv:Value} {l:List Fl} {t:List Lb} (hf:FS w lv l) (sm:FSm l) (ht:LS w tv t) (hlm:∀ x∈t,Lm x) (htl:t.length≤100000000) :
  Calls Tryz.prog 27 #[lv,tv] w fun e w'=>e=.returned (.int .i64 (refE l t))∧Below w.heap.size w w':=by
 have HV:Hid (Calls Tryz.prog 48 #[lv] w fun e w'=>e=.returned (.int .i64 (validE l))∧Below w.heap.size w w'):=valid2_any hf sm
 obtain ⟨fa,fc,hfv,_⟩:=hf.form
 generalize l.length=fn at hfv
 subst hfv
 obtain ⟨ta,tc,htv,_⟩:=ht.form
 obtain ⟨tn,htn⟩:∃ tn,t.length=tn:=⟨_,rfl⟩
 rw [htn] at htv
 subst htv
 have HX:Hid (LS w (.slice ta tn tc) t∧(∀ x∈t,Lm x)∧t.length=tn):=⟨ht,hlm,htn⟩
 have htn8:tn≤100000000:=by omega
 clear hf sm ht hlm htl htn
 by_cases hv:validE l=0
 ·have HR:Hid (refE l t=if t.all okL then 0 else 10):=by show refE l t=_;unfold refE;rw [if_pos hv]
  rw [hv] at HV
  clear hv
  go_enter Tryz.func27,Tryz.ntmps27
  go_wp2_with fail
  refine HV.out.mono ?_
  rintro e w1 ⟨rfl,hb⟩
  have HB1:Hid (Below w.heap.size w w1):=hb
  clear hb
  go_wp2_with fail
  go_loopw [15] (fun iv wr=>∃ i:Nat,i≤tn∧iv=.int .i64 i∧(t.take i).all okL=true∧Below w.heap.size w wr) (fun iv _=>tn - (intOf iv).toNat)
  case atStart=>exact ⟨0,by omega,rfl,by simp,HB1.out⟩
  case round=>
   obtain ⟨i,hi0,rfl,hal,hb⟩:=hrel
   have X5:Hid ((t.take i).all okL=true∧Below w.heap.size w wr):=⟨hal,hb⟩
   clear hal hb
   by_cases hi:i < tn
   ·have i1:(i:Int) < (tn:Int):=by omega
    have i2:(0:Int)≤(i:Int):=by omega
    have hil:i < t.length:=by rw [HX.out.2.2];exact hi
    obtain ⟨b,off,ea,hbl,c0,c1⟩:=LS.at HX.out.1 X5.out.2 hil
    subst ea
    have HLV:Hid (∀ W,Calls Tryz.prog 49 #[t[i].val] W fun e w'=>e=.returned (.bool (okL t[i]))∧Below W.heap.size W w'):=fun W=>lvalid_any t[i] W (HX.out.2.1 _ (List.getElem_mem hil))
    have HA:Hid ((t.take (i+1)).all okL=okL t[i]∧(okL t[i]=false→t.all okL=false)):=⟨all_cut hil X5.out.1,all_no hil⟩
    obtain ⟨x,hx⟩:∃ x,t[i]=x:=⟨_,rfl⟩
    rw [hx] at c0 c1 HLV HA
    clear hx
    obtain ⟨p,n⟩:=x
    simp only [Lb.val] at c0 c1 HLV
    obtain ⟨q,hq⟩:∃ q,okL ⟨p,n⟩=q:=⟨_,rfl⟩
    rw [hq] at HLV HA
    clear hq
    go_wp2_with fail
    refine (HLV.out _).mono ?_
    rintro e w2 ⟨rfl,hb⟩
    have HB2:Hid (Below w.heap.size w w2):=bstep (bstep X5.out.2 (balloc _ _)) hb
    clear hb
    cases q with
    | true=>
     go_wp2_with fail
     go_roundw
     case rel=>exact ⟨i+1,by omega,by go_num,HA.out.1,HB2.out⟩
     case measure=>simp [intOf];omega
    | false=>
     go_wp2_with fail
     go_ret
     exact ⟨by rw [HR.out,HA.out.2 (by simp)];rfl,HB2.out⟩
   ·obtain rfl:i=tn:=by omega
    go_wp2_with fail
    go_ret
    refine ⟨?_,X5.out.2⟩
    have h1:=X5.out.1
    rw [← HX.out.2.2,List.take_length] at h1
    rw [HR.out,h1];rfl
 ·have HR:Hid (refE l t=validE l):=by show refE l t=_;unfold refE;rw [if_neg hv]
  obtain ⟨z,hz⟩:∃ z,validE l=z:=⟨_,rfl⟩
  rw [hz] at HV HR hv
  clear hz
  have hz1:(z != 0)=true:=by simpa using hv
  have hz2:(z == 0)=false:=by simpa using hv
  go_enter Tryz.func27,Tryz.ntmps27
  go_wp2_with fail
  refine HV.out.mono ?_
  rintro e w1 ⟨rfl,hb⟩
  have HB1:Hid (Below w.heap.size w w1):=hb
  clear hb
  go_wp2_with fail
  go_ret
  exact ⟨by rw [HR.out];rfl,HB1.out⟩
end
section
open Go.RowKit
end
theorem chk_len {l:Lb} (h:(chk l).2=0):okL l=true∧(chk l).1=l:=by
 unfold chk at h ⊢
 split at h
 ·rename_i h1;rw [if_pos h1];exact ⟨h1,rfl⟩
 ·cases h
theorem endE_nonneg (s:List UInt8):0≤endE s:=by
 unfold endE;split<;>omega
def Wd (x:List UInt8):Prop:=x≠[]∧∀ c∈x,inW c=true
structure GT (p:List UInt8) (t:Tg):Prop where
 name:okC t.name=true
 srcs:∀ x∈t.srcs,srcW p x=true∧Wd x
 srcsN:t.srcs.Nodup
 srcsL:t.srcs.length≤64
 deps:∀ x∈t.deps,okL x=true
 depsN:t.deps.Nodup
 depsL:t.deps.length≤64
 see:∀ x∈t.see,ser x=true∧Wd x
 seeN:t.see.Nodup
 seeL:t.see.length≤64
structure GL (p:List UInt8) (l:List Tg):Prop where
 each:∀ t∈l,GT p t
 names:(l.map Tg.name).Nodup
 len:l.length≤64
theorem GT.new {p n:List UInt8} (h:okC n=true):GT p ⟨n,[],[],[]⟩:=⟨h,by simp,by simp,by simp,by simp,by simp,by simp,by simp,by simp,by simp⟩
theorem hasN_iff {l:List Tg} {n:List UInt8}:hasN l n=false↔n∉l.map Tg.name:=by
 unfold hasN
 rw [Bool.eq_false_iff]
 simp
theorem GL.nil (p:List UInt8):GL p []:=⟨by simp,by simp,by simp⟩
theorem GL.snoc {p:List UInt8} {l:List Tg} {t:Tg} (h:GL p l) (ht:GT p t) (hn:hasN l t.name=false) (hl:l.length < 64):GL p (l++[t]):=by
 refine ⟨fun x hx=>?_,?_,by simp;omega⟩
 ·rcases List.mem_append.1 hx with hx | hx
  ·exact h.each x hx
  ·simp at hx;rw [hx];exact ht
 ·rw [List.map_append,List.nodup_append]
  refine ⟨h.names,by simp,fun a ha b hb=>?_⟩
  simp at hb
  rintro rfl
  rw [hb] at ha
  exact hasN_iff.1 hn ha
theorem snoc_nodup {α:Type} {l:List α} {x:α} (h:l.Nodup) (hx:x∉l):(l++[x]).Nodup:=by
 rw [List.nodup_append]
 refine ⟨h,by simp,fun a ha b hb=>?_⟩
 simp at hb
 rintro rfl
 rw [hb] at ha;exact hx ha
theorem inn_ok {p w:List UInt8} (h:(inn p w).2=0):okL (inn p w).1=true:=by
 unfold inn at h ⊢
 split at h
 ·rename_i h1
  rw [if_pos h1]
  split at h
  ·rename_i h2
   rw [if_pos h2,(chk_len h).2];exact (chk_len h).1
  ·rename_i h2
   rw [if_neg h2]
   unfold prs at h ⊢
   split at h
   ·rename_i h3
    rw [if_pos h3,(chk_len h).2];exact (chk_len h).1
   ·cases h
 ·cases h
theorem GT.add {p f w:List UInt8} {t u:Tg} (h:GT p t) (hw:Wd w) (ha:addI p f t w=some u):GT p u∧u.name=t.name:=by
 unfold addI at ha
 split at ha
 ·split at ha
  ·rename_i h1
   simp only [Bool.and_eq_true,Bool.not_eq_true',decide_eq_true_eq] at h1
   injection ha with ha;subst ha
   refine ⟨⟨h.name,fun x hx=>?_,snoc_nodup h.srcsN (by simpa using h1.2),by simp;omega,h.deps,h.depsN,h.depsL,h.see,h.seeN,h.seeL⟩,rfl⟩
   rcases List.mem_append.1 hx with hx | hx
   ·exact h.srcs x hx
   ·simp at hx;rw [hx];exact ⟨h1.1.1,hw⟩
  ·cases ha
 ·split at ha
  ·split at ha
   ·rename_i h1
    simp only [Bool.and_eq_true,Bool.not_eq_true',decide_eq_true_eq] at h1
    injection ha with ha;subst ha
    refine ⟨⟨h.name,h.srcs,h.srcsN,h.srcsL,fun x hx=>?_,snoc_nodup h.depsN (by simpa using h1.2),by simp;omega,h.see,h.seeN,h.seeL⟩,rfl⟩
    rcases List.mem_append.1 hx with hx | hx
    ·exact h.deps x hx
    ·simp at hx;rw [hx];exact inn_ok h1.1.1
   ·cases ha
  ·split at ha
   ·rename_i h1
    simp only [Bool.and_eq_true,Bool.not_eq_true',decide_eq_true_eq] at h1
    injection ha with ha;subst ha
    refine ⟨⟨h.name,h.srcs,h.srcsN,h.srcsL,h.deps,h.depsN,h.depsL,fun x hx=>?_,snoc_nodup h.seeN (by simpa using h1.2),by simp;omega⟩,rfl⟩
    rcases List.mem_append.1 hx with hx | hx
    ·exact h.see x hx
    ·simp at hx;rw [hx];exact ⟨h1.1.1,hw⟩
   ·cases ha
def Iv (p:List UInt8):St→Prop
 | .top l=>GL p l
 | .nm l=>GL p l∧l.length < 64
 | .op l n=>GL p l∧l.length < 64∧okC n=true∧hasN l n=false
 | .fl l t _ | .eq l t _ _ | .bg l t _ _ | .i0 l t _ _ | .it l t _ _ | .sp l t _ _=>GL p l∧l.length < 64∧GT p t∧hasN l t.name=false
theorem Iv.step {p:List UInt8} {st st':St} {k:Tk} (h:Iv p st) (hk:k.kind=1→Wd k.text) (hs:stp p st k=some st'):Iv p st':=by
 cases st with
 | top l=>
  simp only [stp] at hs
  split at hs
  ·rename_i h1;injection hs with hs;subst hs;exact ⟨h,h1.2.2⟩
  ·cases hs
 | nm l=>
  simp only [stp] at hs
  split at hs
  ·rename_i h1;injection hs with hs;subst hs;exact ⟨h.1,h.2,h1.2⟩
  ·cases hs
 | op l n=>
  simp only [stp] at hs
  split at hs
  ·injection hs with hs;subst hs;exact ⟨h.1,h.2.1,GT.new h.2.2.1,h.2.2.2⟩
  ·cases hs
 | fl l t d=>
  simp only [stp] at hs
  split at hs
  ·injection hs with hs;subst hs;exact h.1.snoc h.2.2.1 h.2.2.2 h.2.1
  ·split at hs
   ·injection hs with hs;subst hs;exact h
   ·cases hs
 | eq l t d f=>
  simp only [stp] at hs
  split at hs
  ·injection hs with hs;subst hs;exact h
  ·cases hs
 | bg l t d f=>
  simp only [stp] at hs
  split at hs
  ·injection hs with hs;subst hs;exact h
  ·cases hs
 | i0 l t d f=>
  simp only [stp] at hs
  split at hs
  ·injection hs with hs;subst hs;exact h
  ·split at hs
   ·rename_i h1
    rw [Option.map_eq_some_iff] at hs
    obtain ⟨u,hu,rfl⟩:=hs
    obtain ⟨g1,g2⟩:=h.2.2.1.add (hk h1) hu
    exact ⟨h.1,h.2.1,g1,by rw [g2];exact h.2.2.2⟩
   ·cases hs
 | it l t d f=>
  simp only [stp] at hs
  split at hs
  ·rename_i h1
   rw [Option.map_eq_some_iff] at hs
   obtain ⟨u,hu,rfl⟩:=hs
   obtain ⟨g1,g2⟩:=h.2.2.1.add (hk h1) hu
   exact ⟨h.1,h.2.1,g1,by rw [g2];exact h.2.2.2⟩
  ·cases hs
 | sp l t d f=>
  simp only [stp] at hs
  split at hs
  ·injection hs with hs;subst hs;exact h
  ·split at hs
   ·injection hs with hs;subst hs;exact h
   ·cases hs
theorem go_good {p:List UInt8} {E S:Int} (hE:0≤E):∀ (L:List Tk) (st:St),Iv p st→(∀ k∈L,(k.kind=1→Wd k.text)∧0≤k.at')→(go p E S st L).2 = -1→GL p (go p E S st L).1
 | [],st,h,_,hr=>by
  unfold go at hr ⊢
  cases st with
  | top l=>
   simp only [fin] at hr ⊢
   split at hr
   ·simp only at hr;omega
   ·rename_i h1;rw [if_neg h1];exact h
  | _=>simp only [fin] at hr;omega
 | k::r,st,h,hk,hr=>by
  unfold go at hr ⊢
  cases hs:stp p st k with
  | none=>rw [hs] at hr;simp only at hr;have:=(hk k (by simp)).2;omega
  | some st'=>
   rw [hs] at hr
   exact go_good hE r st' (h.step (hk k (by simp)).1 hs) (fun x hx=>hk x (by simp [hx])) hr
theorem wl_in:∀ (r:List UInt8),∀ x∈r.take (wl r),inW x=true
 | [],x,h=>by simp at h
 | c::r,x,h=>by
  unfold wl at h
  split at h
  ·rename_i hc
   rw [show 1+wl r=wl r+1 from by omega,List.take_succ_cons] at h
   rcases List.mem_cons.1 h with rfl | h
   ·exact hc
   ·exact wl_in r x h
  ·simp at h
theorem tq_word:∀ (n:Nat) (r:List UInt8) (m:Nat),r.length≤n→∀ k∈(tq r m).1,(k.kind=1→Wd k.text)∧0≤k.at'
 | 0,r,m,h,k,hk=>by
  have:r=[]:=List.eq_nil_of_length_eq_zero (by omega)
  subst this
  rw [tq_nil] at hk
  simp at hk
 | n+1,[],m,h,k,hk=>by rw [tq_nil] at hk;simp at hk
 | n+1,c::q,m,h,k,hk=>by
  by_cases h0:kd c=0
  ·rw [tq_bad h0] at hk;simp at hk
  ·rw [tq_tok h0] at hk
   rcases List.mem_cons.1 hk with rfl | hk
   ·refine ⟨fun h1=>⟨by simp,fun x hx=>?_⟩,by simp⟩
    have hc:inW c=true:=by
     cases hc:inW c
     ·have h2:kd c=mkd c:=by unfold kd;rw [hc];rfl
      have h3:kd c=1:=by simp only at h1;omega
      have h4:mkd c≠1:=u8_all (P:=fun c=>mkd c≠1) (by decide +kernel) c
      omega
     ·rfl
    rcases List.mem_cons.1 hx with rfl | hx
    ·exact hc
    ·unfold ktl at hx;rw [if_pos hc] at hx;exact wl_in q x hx
   ·unfold tg at hk
    refine tq_word n _ _ ?_ k hk
    simp only [List.length_drop,List.length_cons] at h ⊢;omega
theorem toks_word (s:List UInt8):∀ k∈(toks s).1,(k.kind=1→Wd k.text)∧0≤k.at':=by
 unfold toks tg
 exact tq_word _ _ _ (Nat.le_refl _)
theorem prsM_ok {p s:List UInt8} (h:(prsM p s).2 = -1):okP p=true:=by
 cases hp:okP p
 ·unfold prsM at h;rw [if_neg (by rw [hp];decide)] at h;cases h
 ·rfl
theorem prsM_short {p s:List UInt8} (h:(prsM p s).2 = -1):s.length≤4096:=by
 by_cases hs:s.length≤4096
 ·exact hs
 ·unfold prsM at h;rw [if_pos (prsM_ok (by unfold prsM;exact h)),if_neg hs] at h;cases h
theorem prsM_good {p s:List UInt8} (h:(prsM p s).2 = -1):GL p (prsM p s).1:=by
 have hp:=prsM_ok h
 have hs:=prsM_short h
 unfold prsM at h ⊢
 rw [if_pos hp,if_pos hs] at h ⊢
 exact go_good (endE_nonneg s) _ _ (GL.nil p) (toks_word s) h
theorem go_fault {p:List UInt8} {E S:Int}:∀ (L:List Tk) (st:St),(go p E S st L).2≠-1→(go p E S st L).1=[]
 | [],st,h=>by
  unfold go at h ⊢
  unfold fin at h ⊢
  split at h
  ·rename_i l
   by_cases hs:0≤S
   ·simp [hs]
   ·simp [hs] at h
  ·rfl
 | k::r,st,h=>by
  unfold go at h ⊢
  cases hs:stp p st k with
  | none=>rfl
  | some st'=>
   rw [hs] at h
   exact go_fault r st' h
theorem prsM_fault {p s:List UInt8} (h:(prsM p s).2≠-1):(prsM p s).1=[]:=by
 unfold prsM at h ⊢
 split
 ·rename_i h1
  rw [if_pos h1] at h
  split
  ·rename_i h2
   rw [if_pos h2] at h
   exact go_fault _ _ h
  ·rfl
 ·rfl
theorem says_good {l:List Fl} {p:List UInt8}:∀ t∈(says l p).1,GT p t:=fun t ht=>by
 unfold says at ht
 cases hf:fnd l (whl p wName) with
 | none=>rw [hf] at ht;simp at ht
 | some f=>
  rw [hf] at ht
  by_cases h:(prsM p f.text).2 = -1
  ·exact (prsM_good h).each t ht
  ·have e:(prsM p f.text).1=[]:=prsM_fault h
   have ht:t∈(prsM p f.text).1:=ht
   rw [e] at ht
   simp at ht
theorem tgt_good {l:List Fl} {a:Lb} {t:Tg} (h:tgtL l a=some t):GT a.pkg t∧t.name=a.name∧t∈(says l a.pkg).1:=by
 unfold tgtL at h
 have h1:=List.mem_of_find?_eq_some h
 have h2:=List.find?_some h
 exact ⟨says_good t h1,by simpa using h2,h1⟩
theorem dps_small {l:List Fl} (a:Lb):(dpsL l a).length≤64∧∀ b∈dpsL l a,okL b=true:=by
 unfold dpsL
 cases h:tgtL l a with
 | none=>simp [zT]
 | some t=>exact ⟨(tgt_good h).1.depsL,(tgt_good h).1.deps⟩
def unw (q:List UInt8):List UInt8:=q.take (q.length - 8)
theorem unw_whl (p:List UInt8):unw (whl p wName)=p:=by
 unfold unw whl
 by_cases h:p=[]
 ·subst h;rfl
 ·rw [if_neg h]
  have:(p++47::wName).length - 8=p.length:=by simp [wName]
  rw [this]
  simp
def depsF (f:Fl):List Lb:=(prsM (unw f.path) f.text).1.flatMap Tg.deps
def uniL (l:List Fl) (t:List Lb):List Lb:=t++l.flatMap depsF
theorem dps_uni {l:List Fl} {a b:Lb} (h:b∈dpsL l a):b∈l.flatMap depsF:=by
 unfold dpsL at h
 cases ht:tgtL l a with
 | none=>rw [ht] at h;simp [zT] at h
 | some t=>
  rw [ht] at h
  have hm:=(tgt_good ht).2.2
  unfold says at hm
  cases hf:fnd l (whl a.pkg wName) with
  | none=>rw [hf] at hm;simp at hm
  | some f=>
   rw [hf] at hm
   have hp:f.path=whl a.pkg wName:=by
    have:=List.find?_some hf
    simpa using this
   refine List.mem_flatMap.2 ⟨f,fnd_in hf,?_⟩
   unfold depsF
   rw [hp,unw_whl]
   exact List.mem_flatMap.2 ⟨t,hm,h⟩
theorem uni_ok (l:List Fl) (t:List Lb):Uni l t (uniL l t) 64:=by
 refine ⟨fun x hx=>?_,fun a=>(dps_small a).1⟩
 unfold uniL
 cases hx with
 | base h=>exact List.mem_append_left _ h
 | step _ h=>exact List.mem_append_right _ (dps_uni h)
section
open Go.RowKit Go.Maps
def ndp:List Tg→Nat
 | []=>0
 | t::r=>t.deps.length+ndp r
theorem ndp_append:∀ a b,ndp (a++b)=ndp a+ndp b
 | [],b=>by simp [ndp]
 | t::r,b=>by simp only [List.cons_append,ndp,ndp_append r b];omega
def stD:St→Nat
 | .top l=>ndp l
 | .nm l=>ndp l
 | .op l _=>ndp l
 | .fl l t _=>ndp l+t.deps.length
 | .eq l t _ _=>ndp l+t.deps.length
 | .bg l t _ _=>ndp l+t.deps.length
 | .i0 l t _ _=>ndp l+t.deps.length
 | .it l t _ _=>ndp l+t.deps.length
 | .sp l t _ _=>ndp l+t.deps.length
theorem addI_le {p f w:List UInt8} {t u:Tg} (h:addI p f t w=some u):u.deps.length≤t.deps.length+1:=by
 unfold addI at h
 split at h
 ·split at h
  ·injection h with h;subst h;simp
  ·cases h
 ·split at h
  ·split at h
   ·injection h with h;subst h;simp
   ·cases h
  ·split at h
   ·injection h with h;subst h;simp
   ·cases h
theorem stp_le {p:List UInt8} {st st':St} {k:Tk} (h:stp p st k=some st'):stD st'≤stD st+1:=by
 cases st with
 | top l=>
  simp only [stp] at h
  split at h
  ·injection h with h;subst h;simp [stD]
  ·cases h
 | nm l=>
  simp only [stp] at h
  split at h
  ·injection h with h;subst h;simp [stD]
  ·cases h
 | op l n=>
  simp only [stp] at h
  split at h
  ·injection h with h;subst h;simp [stD]
  ·cases h
 | fl l t hd=>
  simp only [stp] at h
  split at h
  ·injection h with h;subst h;simp [stD,ndp_append,ndp]
  ·split at h
   ·injection h with h;subst h;simp [stD]
   ·cases h
 | eq l t hd f=>
  simp only [stp] at h
  split at h
  ·injection h with h;subst h;simp [stD]
  ·cases h
 | bg l t hd f=>
  simp only [stp] at h
  split at h
  ·injection h with h;subst h;simp [stD]
  ·cases h
 | i0 l t hd f=>
  simp only [stp] at h
  split at h
  ·injection h with h;subst h;simp [stD]
  ·split at h
   ·obtain ⟨u,hu,rfl⟩:=Option.map_eq_some_iff.1 h
    have:=addI_le hu
    simp only [stD];omega
   ·cases h
 | it l t hd f=>
  simp only [stp] at h
  split at h
  ·obtain ⟨u,hu,rfl⟩:=Option.map_eq_some_iff.1 h
   have:=addI_le hu
   simp only [stD];omega
  ·cases h
 | sp l t hd f=>
  simp only [stp] at h
  split at h
  ·injection h with h;subst h;simp [stD]
  ·split at h
   ·injection h with h;subst h;simp [stD]
   ·cases h
theorem go_le {p:List UInt8} {E S:Int}:∀ (L:List Tk) (st:St),ndp (go p E S st L).1≤stD st+L.length
 | [],st=>by
  unfold go
  cases st<;>simp only [fin]<;>(try split)<;>simp [ndp,stD]
 | k::r,st=>by
  unfold go
  cases h:stp p st k with
  | none=>simp [ndp]
  | some st'=>
   have h1:=stp_le h
   have h2:=go_le (p:=p) (E:=E) (S:=S) r st'
   simp only [List.length_cons]
   omega
theorem prs_le (p s:List UInt8):ndp (prsM p s).1≤s.length:=by
 unfold prsM
 split
 ·split
  ·have h1:=go_le (p:=p) (E:=endE s) (S:=(toks s).2) (toks s).1 (.top [])
   have h2:=(toks_num s).1
   simp only [stD,ndp] at h1
   omega
  ·simp [ndp]
 ·simp [ndp]
theorem ndp_flat:∀ l:List Tg,(l.flatMap Tg.deps).length=ndp l
 | []=>rfl
 | t::r=>by rw [List.flatMap_cons,List.length_append,ndp_flat r,ndp]
def txt:List Fl→Nat
 | []=>0
 | f::r=>f.text.length+txt r
theorem deps_le:∀ l:List Fl,(l.flatMap depsF).length≤txt l
 | []=>by simp [txt]
 | f::r=>by
  have h1:=deps_le r
  have h2:=prs_le (unw f.path) f.text
  rw [List.flatMap_cons,List.length_append,txt]
  have h3:(depsF f).length=ndp (prsM (unw f.path) f.text).1:=ndp_flat _
  omega
theorem uni_le (l:List Fl) (t:List Lb):(uniL l t).length≤t.length+txt l:=by
 unfold uniL
 rw [List.length_append]
 have:=deps_le l
 omega
def edgF (f:Fl):List Ee:=(prsM (unw f.path) f.text).1.flatMap (fun T=>T.deps.map (fun b=>((⟨unw f.path,T.name⟩:Lb),b)))
theorem edg_flat (q:List UInt8):∀ l:List Tg,(l.flatMap (fun T=>T.deps.map (fun b=>((⟨q,T.name⟩:Lb),b)))).length=ndp l
 | []=>rfl
 | t::r=>by rw [List.flatMap_cons,List.length_append,edg_flat q r,ndp,List.length_map]
theorem edg_le:∀ l:List Fl,(l.flatMap edgF).length≤txt l
 | []=>by simp [txt]
 | f::r=>by
  have h1:=edg_le r
  have h2:=prs_le (unw f.path) f.text
  rw [List.flatMap_cons,List.length_append,txt]
  have h3:(edgF f).length=ndp (prsM (unw f.path) f.text).1:=edg_flat _ _
  omega
theorem edg_mem {l:List Fl} {a b:Lb} (h:b∈dpsL l a):(a,b)∈l.flatMap edgF:=by
 unfold dpsL at h
 cases ht:tgtL l a with
 | none=>rw [ht] at h;simp [zT] at h
 | some t=>
  rw [ht] at h
  obtain ⟨_,hn,hm⟩:=tgt_good ht
  unfold says at hm
  cases hf:fnd l (whl a.pkg wName) with
  | none=>rw [hf] at hm;simp at hm
  | some f=>
   rw [hf] at hm
   have hp:f.path=whl a.pkg wName:=by
    have:=List.find?_some hf
    simpa using this
   refine List.mem_flatMap.2 ⟨f,fnd_in hf,?_⟩
   unfold edgF
   rw [hp,unw_whl]
   refine List.mem_flatMap.2 ⟨t,hm,List.mem_map.2 ⟨b,h,?_⟩⟩
   rw [hn]
theorem okL_small {a:Lb} (h:okL a=true):a.pkg.length≤120∧a.name.length≤32:=by
 unfold okL at h
 rw [Bool.and_eq_true] at h
 obtain ⟨h1,h2⟩:=h
 unfold okP at h1
 simp only [Bool.and_eq_true,decide_eq_true_eq] at h1
 refine ⟨h1.1.1,?_⟩
 unfold okC at h2
 simp only [Bool.and_eq_true,decide_eq_true_eq] at h2
 omega
theorem rea_ok {l:List Fl} {t:List Lb} (h:t.all okL=true) {x:Lb} (hx:Rea l t x):okL x=true:=by
 cases hx with
 | base hm=>exact List.all_eq_true.1 h x hm
 | step _ hd=>exact (dps_small _).2 x hd
theorem uni_all {l:List Fl} {t:List Lb} (h:t.all okL=true):∀ x∈uniL l t,okL x=true:=fun x hx=>by
 unfold uniL at hx
 rcases List.mem_append.1 hx with hx | hx
 ·exact List.all_eq_true.1 h x hx
 ·obtain ⟨f,_,hx⟩:=List.mem_flatMap.1 hx
  unfold depsF at hx
  obtain ⟨T,hT,hx⟩:=List.mem_flatMap.1 hx
  by_cases hp:(prsM (unw f.path) f.text).2 = -1
  ·exact ((prsM_good hp).each T hT).deps x hx
  ·rw [prsM_fault hp] at hT
   simp at hT
theorem lit_len {p s:List UInt8} (h:lit p s=true):s.length≤120:=by
 unfold lit at h
 rw [Bool.and_eq_true] at h
 have h1:=of_decide_eq_true h.1
 unfold jn at h1
 split at h1
 ·rename_i hk;exact (okP_len hk.2).1
 ·simp at h1
theorem srcW_len {p s:List UInt8} (h:srcW p s=true):s.length≤120:=by
 unfold srcW at h
 rw [Bool.or_eq_true] at h
 rcases h with h | h
 ·exact lit_len h
 ·unfold glb at h
  rw [Bool.and_eq_true] at h
  have:=lit_len h.2
  rw [rep1_len] at this
  exact this
theorem ser_len {s:List UInt8} (h:ser s=true):s.length≤200:=by
 unfold ser rdk at h
 by_cases h1:okP (kin s).top=true
 ·rw [if_pos h1] at h
  have h2:=(okP_len h1).1
  unfold kin at h h2
  split at h
  ·rename_i e;subst e;decide
  ·rename_i n1
   rw [if_neg n1] at h2
   split at h
   ·rename_i e;subst e;decide
   ·rename_i n2
    rw [if_neg n2] at h2
    split at h
    ·simp at h
    ·rename_i n3
     rw [if_neg n3] at h2
     split at h
     ·rename_i n4
      rw [if_pos n4] at h2
      split at h
      ·rename_i n5
       rw [if_pos n5] at h2
       simp only [Kd.top,List.length_take,List.length_drop] at h2
       omega
      ·rename_i n5
       rw [if_neg n5] at h2
       simp only [Kd.top,List.length_drop] at h2
       omega
     ·simp at h
 ·rw [if_neg h1] at h
  simp at h
theorem tgt_small {l:List Fl} (a:Lb):(((tgtL l a).getD zT).srcs).length≤64∧(∀ s∈((tgtL l a).getD zT).srcs,s.length≤4096)∧(dpsL l a).length≤64∧((tgtL l a).getD zT).see.length≤64∧∀ x∈((tgtL l a).getD zT).see,x.length≤4096:=by
 refine ⟨?_,?_,(dps_small a).1,?_,?_⟩
 ·cases h:tgtL l a with
  | none=>simp [zT]
  | some t=>exact (tgt_good h).1.srcsL
 ·cases h:tgtL l a with
  | none=>simp [zT]
  | some t=>exact fun s hs=>by have:=srcW_len ((tgt_good h).1.srcs s hs).1;omega
 ·cases h:tgtL l a with
  | none=>simp [zT]
  | some t=>exact (tgt_good h).1.seeL
 ·cases h:tgtL l a with
  | none=>simp [zT]
  | some t=>exact fun s hs=>by have:=ser_len ((tgt_good h).1.see s hs).1;omega
end
end Go.Proofs.YtppnbdnpapellaaGreatDoor
