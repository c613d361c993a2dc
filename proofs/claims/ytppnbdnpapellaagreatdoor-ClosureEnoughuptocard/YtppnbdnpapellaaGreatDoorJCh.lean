import Derived.Test.YtppnbdnpapellaaGreatDoorJCf
set_option maxRecDepth 100000
set_option maxHeartbeats 16000000
namespace Go.Proofs.YtppnbdnpapellaaGreatDoor
section
open Go.RowKit Go.Maps
def AskP (w:World) (f:Fv) (b:Bool) (e:Ending) (w':World):Prop:=e=.returned (.tuple #[f.val,.bool b])∧Below w.heap.size w w'
def fstF (fd:Lb→Bool) (ft:Lb→Fv) (ls:List Lb):Fv:=match ls.find? fd with
 | some a=>ft a
 | none=>zFv
theorem fstF_at {fd:Lb→Bool} {ft:Lb→Fv} {ls:List Lb} {i:Nat} (hi:i < ls.length) (h:∀ a∈ls.take i,fd a=false) (hq:fd ls[i]=true):fstF fd ft ls=ft ls[i]∧ls.any fd=true:=by
 have e:ls.take i++ls[i]::ls.drop (i+1)=ls:=by rw [← List.drop_eq_getElem_cons hi,List.take_append_drop]
 have h1:=find_mid (f:=fd) (A:=ls.take i) (B:=ls.drop (i+1)) (x:=ls[i]) h hq
 rw [e] at h1
 refine ⟨by unfold fstF;rw [h1],?_⟩
 rw [List.any_eq_true]
 exact ⟨ls[i],List.getElem_mem hi,hq⟩
theorem bfirst47_any {w:World} {r:Nat} {lv:Value} {ls:List Lb} {fd:Lb→Bool} {ft:Lb→Fv} (hl:LS w lv ls) (hls:ls.length≤100000000)
  (HA:∀ W a,Below w.heap.size w W→a∈ls→Calls Tryz.prog 58 #[.pointer (some ⟨r,0,none⟩),a.val] W (AskP W (ft a) (fd a))) :
  Calls Tryz.prog 57 #[lv,.func (.func 58) #[.pointer (some ⟨r,0,none⟩)] #[]] w (AskP w (fstF fd ft ls) (ls.any fd)):=by
 obtain ⟨a0,c0,hlv,_⟩:=hl.form
 obtain ⟨n,hln⟩:∃ n,ls.length=n:=⟨_,rfl⟩
 have HX:Hid (LS w lv ls∧ls.length=n):=⟨hl,hln⟩
 rw [hln] at hlv
 subst hlv
 have HAS:=hid_of HA
 have hn8:n≤100000000:=by omega
 clear hl hls HA
 have HZ:Hid (FK (w.alloc (.cells #[.int .i64 0,.string { data:=#[] },.string { data:=#[] },.string { data:=#[] },.string { data:=#[] },.string { data:=#[] },.int .i64 0,.slice none 0 0] 29)) w.heap.size zFv):=FK.new w zFv
 clear hln
 go_enter Tryz.func57,Tryz.ntmps57
 go_wp2_with fail
 go_loopw [12] (fun iv wr=>∃ (i:Nat),i≤n∧iv=.int .i64 i∧(∀ a∈ls.take i,fd a=false)∧Below w.heap.size w wr∧FK wr w.heap.size zFv) (fun iv _=>n - (intOf iv).toNat)
 case atStart=>
  refine ⟨0,by omega,rfl,by simp,balloc _ _,HZ.out⟩
 case round=>
  obtain ⟨i,hi0,rfl,h1,h2,h3⟩:=hrel
  have X5:Hid ((∀ a∈ls.take i,fd a=false)∧Below w.heap.size w wr∧FK wr w.heap.size zFv):=⟨h1,h2,h3⟩
  clear h1 h2 h3
  by_cases hi:i < n
  ·have i1:(i:Int) < (n:Int):=by omega
   have i2:(0:Int)≤(i:Int):=by omega
   have hil:i < ls.length:=by rw [HX.out.2];exact hi
   obtain ⟨b,off,ea,hbl,q0,q1⟩:=LS.at HX.out.1 X5.out.2.1 hil
   subst ea
   have HAK:=hid_of (fun W (hW:Below w.heap.size w W)=>HAS.out W ls[i] hW (List.getElem_mem hil))
   have HTK:Hid (ls.take (i+1)=ls.take i++[ls[i]]):=List.take_succ_eq_append_getElem hil
   have HFI:Hid (fd ls[i]=true→fstF fd ft ls=ft ls[i]∧ls.any fd=true):=fun h=>fstF_at hil X5.out.1 h
   obtain ⟨x,hx⟩:∃ x,ls[i]=x:=⟨_,rfl⟩
   rw [hx] at q0 q1 HAK HTK HFI
   clear hx
   obtain ⟨p,m⟩:=x
   simp only [Lb.val] at q0 q1 HAK
   obtain ⟨fq,hfq⟩:∃ fq,fd ⟨p,m⟩=fq:=⟨_,rfl⟩
   have HFQ:Hid (fd ⟨p,m⟩=fq):=hfq
   rw [hfq] at HAK HFI
   clear hfq
   obtain ⟨fv,hfv⟩:∃ fv,ft ⟨p,m⟩=fv:=⟨_,rfl⟩
   rw [hfv] at HAK HFI
   clear hfv
   go_wp2_with fail
   refine (HAK.out _ (below_trans X5.out.2.1 (below_mono (balloc _ _) X5.out.2.1.size))).mono ?_
   rintro e w2 h
   unfold AskP at h
   obtain ⟨rfl,k1⟩:=h
   obtain ⟨fc,⟨lp,ln⟩,⟨op,on⟩,fp,fa,ca,cn,cc⟩:=fv
   have hs0:w.heap.size < wr.heap.size:=X5.out.2.2.lt
   have X6:Hid (Below w.heap.size w w2∧FK w2 w.heap.size zFv):=⟨below_trans X5.out.2.1 (below_mono (bstep (balloc _ _) k1) X5.out.2.1.size),(X5.out.2.2.later (balloc _ _)).later k1⟩
   clear k1
   have hval:Fv.val ⟨fc,⟨lp,ln⟩,⟨op,on⟩,fp,fa,ca,cn,cc⟩=.agg #[.int .i64 fc,.string (bs lp),.string (bs ln),.string (bs op),.string (bs on),.string (bs fp),.int .i64 fa,.slice ca cn cc]:=rfl
   rw [hval]
   clear hval
   clear HAK
   dsimp only
   have Z1:FK (w2.alloc (.cells #[.int .i64 fc,.string (bs lp),.string (bs ln),.string (bs op),.string (bs on),.string (bs fp),.int .i64 fa,.slice ca cn cc] 29)) w.heap.size zFv:=X6.out.2.later (balloc _ _)
   obtain ⟨z0,z1,z2,z3,z4,z5,z6,z7⟩:=Z1.get
   have y0:=Z1.soft 0
   have y1:=Z1.soft 1
   have y2:=Z1.soft 2
   have y3:=Z1.soft 3
   have y4:=Z1.soft 4
   have y5:=Z1.soft 5
   have y6:=Z1.soft 6
   have y7:=Z1.soft 7
   clear Z1
   cases fq with
   | true=>
    go_wp2_with fail
    have HP:=putF_only (w2.alloc (.cells #[.int .i64 fc,.string (bs lp),.string (bs ln),.string (bs op),.string (bs on),.string (bs fp),.int .i64 fa,.slice ca cn cc] 29)) w.heap.size ⟨fc,⟨lp,ln⟩,⟨op,on⟩,fp,fa,ca,cn,cc⟩
    refine bodyPost_ret (results_ct rfl _ _ w.heap.size 29 #[.int .i64 fc,.string (bs lp),.string (bs ln),.string (bs op),.string (bs on),.string (bs fp),.int .i64 fa,.slice ca cn cc] (0,0) _ rfl ((X6.out.2.later (balloc w2 (.cells #[.int .i64 fc,.string (bs lp),.string (bs ln),.string (bs op),.string (bs on),.string (bs fp),.int .i64 fa,.slice ca cn cc] 29))).set ⟨fc,⟨lp,ln⟩,⟨op,on⟩,fp,fa,ca,cn,cc⟩).blk Tryz.underlying29 rfl (by kernel_rfl)) rfl ?_
    obtain ⟨j1,j2⟩:=HFI.out trivial
    unfold AskP
    have hb9:Below w.heap.size w (w2.alloc (.cells #[.int .i64 fc,.string (bs lp),.string (bs ln),.string (bs op),.string (bs on),.string (bs fp),.int .i64 fa,.slice ca cn cc] 29)):=below_trans X6.out.1 (below_mono (balloc _ _) X6.out.1.size)
    exact ⟨by rw [j1,j2];rfl,below_trans hb9 (HP.below hb9.size (fun x hx=>by simp at hx;omega))⟩
   | false=>
    clear z0 z1 z2 z3 z4 z5 z6 z7 y0 y1 y2 y3 y4 y5 y6 y7
    go_wp2_with fail
    refine ⟨⟨i+1,by omega,by simp,fun a ha=>?_,below_trans X6.out.1 (below_mono (balloc _ _) X6.out.1.size),X6.out.2.later (balloc _ _)⟩,?_⟩
    ·rw [HTK.out] at ha
     rcases List.mem_append.1 ha with h | h
     ·exact X5.out.1 a h
     ·rw [List.mem_singleton.1 h]
      exact HFQ.out
    ·simp only [intOf]
     omega
  ·have Z1:FK wr w.heap.size zFv:=X5.out.2.2
   obtain ⟨z0,z1,z2,z3,z4,z5,z6,z7⟩:=Z1.get
   have y0:=Z1.soft 0
   have y1:=Z1.soft 1
   have y2:=Z1.soft 2
   have y3:=Z1.soft 3
   have y4:=Z1.soft 4
   have y5:=Z1.soft 5
   have y6:=Z1.soft 6
   have y7:=Z1.soft 7
   clear Z1
   go_wp2_with fail
   have HP:=putF_only wr w.heap.size zFv
   refine bodyPost_ret (results_ct rfl _ _ w.heap.size 29 #[.int .i64 0,.string { data:=#[] },.string { data:=#[] },.string { data:=#[] },.string { data:=#[] },.string { data:=#[] },.int .i64 0,.slice none 0 0] (0,0) _ rfl (X5.out.2.2.set zFv).blk Tryz.underlying29 rfl (by kernel_rfl)) rfl ?_
   have hin:i=n:=by omega
   have hno:=X5.out.1
   rw [List.take_of_length_le (by rw [HX.out.2,hin];exact Nat.le_refl _)] at hno
   have j1:fstF fd ft ls=zFv:=by
    unfold fstF
    rw [List.find?_eq_none.2 (fun a ha=>by simp [hno a ha])]
   have j2:ls.any fd=false:=List.any_eq_false.2 (fun a ha=>by simp [hno a ha])
   unfold AskP
   exact ⟨by rw [j1,j2];rfl,below_trans X5.out.2.1 (HP.below X5.out.2.1.size (fun x hx=>by simp at hx;omega))⟩
theorem bfirst49_any {w:World} {r:Nat} {lv:Value} {ls:List Lb} {fd:Lb→Bool} {ft:Lb→Fv} (hl:LS w lv ls) (hls:ls.length≤100000000)
  (HA:∀ W a,Below w.heap.size w W→a∈ls→Calls Tryz.prog 60 #[.pointer (some ⟨r,0,none⟩),a.val] W (AskP W (ft a) (fd a))) :
  Calls Tryz.prog 57 #[lv,.func (.func 60) #[.pointer (some ⟨r,0,none⟩)] #[]] w (AskP w (fstF fd ft ls) (ls.any fd)):=by
 obtain ⟨a0,c0,hlv,_⟩:=hl.form
 obtain ⟨n,hln⟩:∃ n,ls.length=n:=⟨_,rfl⟩
 have HX:Hid (LS w lv ls∧ls.length=n):=⟨hl,hln⟩
 rw [hln] at hlv
 subst hlv
 have HAS:=hid_of HA
 have hn8:n≤100000000:=by omega
 clear hl hls HA
 have HZ:Hid (FK (w.alloc (.cells #[.int .i64 0,.string { data:=#[] },.string { data:=#[] },.string { data:=#[] },.string { data:=#[] },.string { data:=#[] },.int .i64 0,.slice none 0 0] 29)) w.heap.size zFv):=FK.new w zFv
 clear hln
 go_enter Tryz.func57,Tryz.ntmps57
 go_wp2_with fail
 go_loopw [12] (fun iv wr=>∃ (i:Nat),i≤n∧iv=.int .i64 i∧(∀ a∈ls.take i,fd a=false)∧Below w.heap.size w wr∧FK wr w.heap.size zFv) (fun iv _=>n - (intOf iv).toNat)
 case atStart=>
  refine ⟨0,by omega,rfl,by simp,balloc _ _,HZ.out⟩
 case round=>
  obtain ⟨i,hi0,rfl,h1,h2,h3⟩:=hrel
  have X5:Hid ((∀ a∈ls.take i,fd a=false)∧Below w.heap.size w wr∧FK wr w.heap.size zFv):=⟨h1,h2,h3⟩
  clear h1 h2 h3
  by_cases hi:i < n
  ·have i1:(i:Int) < (n:Int):=by omega
   have i2:(0:Int)≤(i:Int):=by omega
   have hil:i < ls.length:=by rw [HX.out.2];exact hi
   obtain ⟨b,off,ea,hbl,q0,q1⟩:=LS.at HX.out.1 X5.out.2.1 hil
   subst ea
   have HAK:=hid_of (fun W (hW:Below w.heap.size w W)=>HAS.out W ls[i] hW (List.getElem_mem hil))
   have HTK:Hid (ls.take (i+1)=ls.take i++[ls[i]]):=List.take_succ_eq_append_getElem hil
   have HFI:Hid (fd ls[i]=true→fstF fd ft ls=ft ls[i]∧ls.any fd=true):=fun h=>fstF_at hil X5.out.1 h
   obtain ⟨x,hx⟩:∃ x,ls[i]=x:=⟨_,rfl⟩
   rw [hx] at q0 q1 HAK HTK HFI
   clear hx
   obtain ⟨p,m⟩:=x
   simp only [Lb.val] at q0 q1 HAK
   obtain ⟨fq,hfq⟩:∃ fq,fd ⟨p,m⟩=fq:=⟨_,rfl⟩
   have HFQ:Hid (fd ⟨p,m⟩=fq):=hfq
   rw [hfq] at HAK HFI
   clear hfq
   obtain ⟨fv,hfv⟩:∃ fv,ft ⟨p,m⟩=fv:=⟨_,rfl⟩
   rw [hfv] at HAK HFI
   clear hfv
   go_wp2_with fail
   refine (HAK.out _ (below_trans X5.out.2.1 (below_mono (balloc _ _) X5.out.2.1.size))).mono ?_
   rintro e w2 h
   unfold AskP at h
   obtain ⟨rfl,k1⟩:=h
   obtain ⟨fc,⟨lp,ln⟩,⟨op,on⟩,fp,fa,ca,cn,cc⟩:=fv
   have hs0:w.heap.size < wr.heap.size:=X5.out.2.2.lt
   have X6:Hid (Below w.heap.size w w2∧FK w2 w.heap.size zFv):=⟨below_trans X5.out.2.1 (below_mono (bstep (balloc _ _) k1) X5.out.2.1.size),(X5.out.2.2.later (balloc _ _)).later k1⟩
   clear k1
   have hval:Fv.val ⟨fc,⟨lp,ln⟩,⟨op,on⟩,fp,fa,ca,cn,cc⟩=.agg #[.int .i64 fc,.string (bs lp),.string (bs ln),.string (bs op),.string (bs on),.string (bs fp),.int .i64 fa,.slice ca cn cc]:=rfl
   rw [hval]
   clear hval
   clear HAK
   dsimp only
   have Z1:FK (w2.alloc (.cells #[.int .i64 fc,.string (bs lp),.string (bs ln),.string (bs op),.string (bs on),.string (bs fp),.int .i64 fa,.slice ca cn cc] 29)) w.heap.size zFv:=X6.out.2.later (balloc _ _)
   obtain ⟨z0,z1,z2,z3,z4,z5,z6,z7⟩:=Z1.get
   have y0:=Z1.soft 0
   have y1:=Z1.soft 1
   have y2:=Z1.soft 2
   have y3:=Z1.soft 3
   have y4:=Z1.soft 4
   have y5:=Z1.soft 5
   have y6:=Z1.soft 6
   have y7:=Z1.soft 7
   clear Z1
   cases fq with
   | true=>
    go_wp2_with fail
    have HP:=putF_only (w2.alloc (.cells #[.int .i64 fc,.string (bs lp),.string (bs ln),.string (bs op),.string (bs on),.string (bs fp),.int .i64 fa,.slice ca cn cc] 29)) w.heap.size ⟨fc,⟨lp,ln⟩,⟨op,on⟩,fp,fa,ca,cn,cc⟩
    refine bodyPost_ret (results_ct rfl _ _ w.heap.size 29 #[.int .i64 fc,.string (bs lp),.string (bs ln),.string (bs op),.string (bs on),.string (bs fp),.int .i64 fa,.slice ca cn cc] (0,0) _ rfl ((X6.out.2.later (balloc w2 (.cells #[.int .i64 fc,.string (bs lp),.string (bs ln),.string (bs op),.string (bs on),.string (bs fp),.int .i64 fa,.slice ca cn cc] 29))).set ⟨fc,⟨lp,ln⟩,⟨op,on⟩,fp,fa,ca,cn,cc⟩).blk Tryz.underlying29 rfl (by kernel_rfl)) rfl ?_
    obtain ⟨j1,j2⟩:=HFI.out trivial
    unfold AskP
    have hb9:Below w.heap.size w (w2.alloc (.cells #[.int .i64 fc,.string (bs lp),.string (bs ln),.string (bs op),.string (bs on),.string (bs fp),.int .i64 fa,.slice ca cn cc] 29)):=below_trans X6.out.1 (below_mono (balloc _ _) X6.out.1.size)
    exact ⟨by rw [j1,j2];rfl,below_trans hb9 (HP.below hb9.size (fun x hx=>by simp at hx;omega))⟩
   | false=>
    clear z0 z1 z2 z3 z4 z5 z6 z7 y0 y1 y2 y3 y4 y5 y6 y7
    go_wp2_with fail
    refine ⟨⟨i+1,by omega,by simp,fun a ha=>?_,below_trans X6.out.1 (below_mono (balloc _ _) X6.out.1.size),X6.out.2.later (balloc _ _)⟩,?_⟩
    ·rw [HTK.out] at ha
     rcases List.mem_append.1 ha with h | h
     ·exact X5.out.1 a h
     ·rw [List.mem_singleton.1 h]
      exact HFQ.out
    ·simp only [intOf]
     omega
  ·have Z1:FK wr w.heap.size zFv:=X5.out.2.2
   obtain ⟨z0,z1,z2,z3,z4,z5,z6,z7⟩:=Z1.get
   have y0:=Z1.soft 0
   have y1:=Z1.soft 1
   have y2:=Z1.soft 2
   have y3:=Z1.soft 3
   have y4:=Z1.soft 4
   have y5:=Z1.soft 5
   have y6:=Z1.soft 6
   have y7:=Z1.soft 7
   clear Z1
   go_wp2_with fail
   have HP:=putF_only wr w.heap.size zFv
   refine bodyPost_ret (results_ct rfl _ _ w.heap.size 29 #[.int .i64 0,.string { data:=#[] },.string { data:=#[] },.string { data:=#[] },.string { data:=#[] },.string { data:=#[] },.int .i64 0,.slice none 0 0] (0,0) _ rfl (X5.out.2.2.set zFv).blk Tryz.underlying29 rfl (by kernel_rfl)) rfl ?_
   have hin:i=n:=by omega
   have hno:=X5.out.1
   rw [List.take_of_length_le (by rw [HX.out.2,hin];exact Nat.le_refl _)] at hno
   have j1:fstF fd ft ls=zFv:=by
    unfold fstF
    rw [List.find?_eq_none.2 (fun a ha=>by simp [hno a ha])]
   have j2:ls.any fd=false:=List.any_eq_false.2 (fun a ha=>by simp [hno a ha])
   unfold AskP
   exact ⟨by rw [j1,j2];rfl,below_trans X5.out.2.1 (HP.below X5.out.2.1.size (fun x hx=>by simp at hx;omega))⟩
end
section
open Go.RowKit Go.Maps
def brkL (l:List Fl) (c:List (List UInt8)) (q:List UInt8):Int:=match c.find? (fun p=>decide (q=whl p wName)) with
 | some p=>(says l p).2
 | none=>-1
def isBk (l:List Fl) (c:List (List UInt8)) (f:Fl):Bool:=brkL l c f.path != -1
def brkV (l:List Fl) (c:List (List UInt8)) (f:Fl):Fv:=⟨1,⟨[],[]⟩,⟨[],[]⟩,f.path,brkL l c f.path,none,0,0⟩
def brkF (l:List Fl) (c:List (List UInt8)):Fv:=match l.find? (isBk l c) with
 | some f=>brkV l c f
 | none=>zFv
theorem brkL_none {l:List Fl} {c:List (List UInt8)} {q:List UInt8} (h:¬ ∃ p,p∈c∧q=whl p wName):brkL l c q = -1:=by
 unfold brkL
 rw [List.find?_eq_none.2 (fun p hp=>by simp;intro e;exact h ⟨p,hp,e⟩)]
theorem brkL_some {l:List Fl} {c:List (List UInt8)} {p:List UInt8} (h:p∈c):brkL l c (whl p wName)=(says l p).2:=by
 unfold brkL
 cases e:c.find? (fun p'=>decide (whl p wName=whl p' wName)) with
 | none=>exact absurd (List.find?_eq_none.1 e p h) (by simp)
 | some p'=>
  have:=List.find?_some e
  rw [whl_inj (of_decide_eq_true this)]
theorem brkF_at {l:List Fl} {c:List (List UInt8)} {i:Nat} (hi:i < l.length) (h:∀ a∈l.take i,isBk l c a=false) (hq:isBk l c l[i]=true):brkF l c=brkV l c l[i]∧l.any (isBk l c)=true:=by
 have e:l.take i++l[i]::l.drop (i+1)=l:=by rw [← List.drop_eq_getElem_cons hi,List.take_append_drop]
 have h1:=find_mid (f:=isBk l c) (A:=l.take i) (B:=l.drop (i+1)) (x:=l[i]) h hq
 rw [e] at h1
 refine ⟨by unfold brkF;rw [h1],?_⟩
 rw [List.any_eq_true]
 exact ⟨l[i],List.getElem_mem hi,hq⟩
theorem bbroken_any {w0 w:World} {R:Nat→Prop} {r:Nat} {c:List (List UInt8)} {l:List Fl} (H:RX w0 w R r l c) (sm:FQ l) :
  Calls Tryz.prog 56 #[.pointer (some ⟨r,0,none⟩)] w (AskP w (brkF l c) (l.any (isBk l c))):=by
 obtain ⟨fv,mb,F,cnt,hr,hfs,hms,hcnt,hne,hRr,hRm,hsh⟩:=H.it
 have hrl:=(H.rlo r hRr).2
 have r0:w.cell? ⟨r,0,none⟩=some fv:=by simp [World.cell?,hr]
 have r1:w.cell? ⟨r,1,none⟩=some (.map (some mb)):=by simp [World.cell?,hr]
 have HR1:Hid (∀ W,Below w.heap.size w W→W.cell? ⟨r,1,none⟩=some (.map (some mb))):=fun W hW=>by simp [World.cell?,hW.block r hrl,hr]
 have HLK:Hid (∀ W,Below w.heap.size w W→∀ q:List UInt8,q.length≤100000000→(Instr.lookup 64 (.map (some mb)) (.string (bs q)) true).run Tryz.prog W=.ok (.tuple #[shV ((F q).getD (none,0)),.bool (F q).isSome]) W):=fun W hW q hq=>(hms.later hW).look (by omega)
 have HBR:Hid (∀ q,(F q=none→brkL l c q = -1)∧∀ x,F q=some x→brkL l c q=x.2):=fun q=>by
  refine ⟨fun h=>brkL_none (fun hp=>?_),fun x hx=>?_⟩
  ·have:=(hsh.2 q).2 hp
   rw [h] at this
   cases this
  ·obtain ⟨p,e1,e2,_⟩:=hsh.1 q x hx
   obtain ⟨p',m1,m2⟩:=(hsh.2 q).1 (by rw [hx];rfl)
   obtain rfl:=whl_inj (e1.symm.trans m2)
   rw [e1,brkL_some m1,e2]
 obtain ⟨a0,c0,hfv,_⟩:=hfs.form
 obtain ⟨n,hln⟩:∃ n,l.length=n:=⟨_,rfl⟩
 have HFS:Hid (FS w0 fv l∧fv=.slice a0 l.length c0):=⟨hfs,hfv⟩
 rw [hln] at hfv
 subst hfv
 have W0:=cell_alloc (.cells #[.int .i64 0,.string { data:=#[] },.string { data:=#[] },.string { data:=#[] },.string { data:=#[] },.string { data:=#[] },.int .i64 0,.slice none 0 0] 29) hrl r0
 have HX:Hid (RX w0 w R r l c∧FQ l∧l.length=n):=⟨H,sm,hln⟩
 have hn8:n≤4000000:=by rw [← hln];exact sm.len
 clear H sm hln hr hfs hms hcnt hsh r0 r1
 have HZ:Hid (FK (w.alloc (.cells #[.int .i64 0,.string { data:=#[] },.string { data:=#[] },.string { data:=#[] },.string { data:=#[] },.string { data:=#[] },.int .i64 0,.slice none 0 0] 29)) w.heap.size zFv):=FK.new w zFv
 go_enter Tryz.func56,Tryz.ntmps56
 go_wp2_with fail
 clear W0
 go_loopw [13] (fun iv wr=>∃ (i:Nat),i≤n∧iv=.int .i64 i∧(∀ a∈l.take i,isBk l c a=false)∧Below w.heap.size w wr∧FK wr w.heap.size zFv) (fun iv _=>n - (intOf iv).toNat)
 case atStart=>exact ⟨0,by omega,rfl,by simp,balloc _ _,HZ.out⟩
 case round=>
  obtain ⟨i,hi0,rfl,h1,h2,h3⟩:=hrel
  have X5:Hid ((∀ a∈l.take i,isBk l c a=false)∧Below w.heap.size w wr∧FK wr w.heap.size zFv):=⟨h1,h2,h3⟩
  have hs0:w.heap.size < wr.heap.size:=h3.lt
  clear h1 h2 h3
  by_cases hi:i < n
  ·have i1:(i:Int) < (n:Int):=by omega
   have i2:(0:Int)≤(i:Int):=by omega
   have hil:i < l.length:=by rw [HX.out.2.2];exact hi
   obtain ⟨b,off,ea,hbw,d0,d1,d2,d3⟩:=FS.at (a:=a0) (c:=c0) (by have:=HFS.out;rw [this.2] at this;exact this.1) (below_trans HX.out.1.bel (below_mono X5.out.2.1 HX.out.1.bel.size)) hil
   subst ea
   have HTK:Hid (l.take (i+1)=l.take i++[l[i]]):=List.take_succ_eq_append_getElem hil
   have HFI:Hid (isBk l c l[i]=true→brkF l c=brkV l c l[i]∧l.any (isBk l c)=true):=fun h=>brkF_at hil X5.out.1 h
   have hpl:=HX.out.2.1.pat hil
   obtain ⟨x,hx⟩:∃ x,l[i]=x:=⟨_,rfl⟩
   rw [hx] at d0 d1 d2 d3 HTK HFI hpl
   clear hx
   obtain ⟨q,tx,bl,sz⟩:=x
   simp only at d0 d1 d2 d3 hpl
   obtain ⟨ya,yn,yc,k,m,hlook,hbl⟩:∃ ya yn yc k m,(∀ W,Below w.heap.size w W→(Instr.lookup 64 (.map (some mb)) (.string (bs q)) true).run Tryz.prog W=.ok (.tuple #[.agg #[.slice ya yn yc,.int .i64 k],.bool m]) W)∧brkL l c q=if m then k else -1:=by
    cases hF:F q with
    | none=>exact ⟨none,0,0,0,false,fun W hW=>by have h:=HLK.out W hW q hpl;rw [hF] at h;exact h,(HBR.out q).1 hF⟩
    | some x=>
     obtain ⟨y,k⟩:=x
     obtain ⟨ya,yn,yc,hy⟩:=sv_form y
     exact ⟨ya,yn,yc,k,true,fun W hW=>by have h:=HLK.out W hW q hpl;rw [hF] at h;simp only [Option.getD_some,Option.isSome_some,shV,hy] at h;exact h,(HBR.out q).2 _ hF⟩
   have HBL:Hid (brkL l c q=if m then k else -1):=hbl
   have HS0:Hid (∀ W,Below (wr.alloc (.cells #[.string (bs q),.string (bs tx),.int .i64 bl,.int .i64 sz] 55)).heap.size (wr.alloc (.cells #[.string (bs q),.string (bs tx),.int .i64 bl,.int .i64 sz] 55)) W→W.cell? ⟨r,1,none⟩=some (.map (some mb))∧W.cell? ⟨wr.heap.size,0,none⟩=some (.string (bs q))∧(Instr.lookup 64 (.map (some mb)) (.string (bs q)) true).run Tryz.prog W=.ok (.tuple #[.agg #[.slice ya yn yc,.int .i64 k],.bool m]) W):=fun W hW=>by
    have hb:Below w.heap.size w W:=bstep (bstep X5.out.2.1 (balloc _ _)) hW
    exact ⟨HR1.out W hb,(hW.cell (p:=⟨wr.heap.size,0,none⟩) (by simp)).trans (by simp),hlook W hb⟩
   clear hlook hbl hpl
   go_upto_region 4 with fail
   obtain ⟨x1,x2,x3⟩:=HS0.out _ (bd (wr.alloc (.cells #[.string (bs q),.string (bs tx),.int .i64 bl,.int .i64 sz] 55)) 1)
   refine wp_region_noPanic ?_
   refine wp_region_held_drew (S:=fun W'=>W'.cell? ⟨r,1,none⟩=some (.map (some mb))∧W'.cell? ⟨wr.heap.size,0,none⟩=some (.string (bs q))∧(Instr.lookup 64 (.map (some mb)) (.string (bs q)) true).run Tryz.prog W'=.ok (.tuple #[.agg #[.slice ya yn yc,.int .i64 k],.bool m]) W') (by kernel_rfl) (by exact HS0.out _ (bd _ 1)) (fun hHeld=>?_)
   refine tkH 0 ⟨some 18,_,_,_,_,_⟩ ?v1 rfl (Or.inl ⟨by rfl,?y1⟩) ?r1
   case y1=>(intro w h;(try dsimp only at h);go_simp;try with_reducible rfl)
   try simp only [Act.put,sA,sB,sC]
   refine tkH 1 ⟨some 19,_,_,_,_,_⟩ ?v2 rfl (Or.inl ⟨by rfl,?y2⟩) ?r2
   case y2=>(intro w h;(try dsimp only at h);go_simp;try with_reducible rfl)
   try simp only [Act.put,sA,sB,sC]
   refine tkH 2 ⟨some 20,_,_,_,_,_⟩ ?v3 rfl (Or.inl ⟨by rfl,?y3⟩) ?r3
   case y3=>(intro w h;(try dsimp only at h);go_simp;try with_reducible rfl)
   try simp only [Act.put,sA,sB,sC]
   refine tkH 3 ⟨some 21,_,_,_,_,_⟩ ?v4 rfl (Or.inl ⟨by rfl,?y4⟩) ?r4
   case y4=>(intro w h;(try dsimp only at h);go_simp;try with_reducible rfl)
   try simp only [Act.put,sA,sB,sC]
   refine tkH 4 ⟨some 22,_,_,_,_,_⟩ ?v5 rfl (Or.inl ⟨by rfl,?y5⟩) ?r5
   case y5=>(intro w h;(try dsimp only at h);go_simp;try with_reducible rfl)
   try simp only [Act.put,sA,sB,sC]
   refine tkH 5 ⟨some 23,_,_,_,_,_⟩ ?v6 rfl (Or.inl ⟨by rfl,?y6⟩) ?r6
   case y6=>(intro w h;(try dsimp only at h);go_simp;try with_reducible rfl)
   try simp only [Act.put,sA,sB,sC]
   refine tkH 6 ⟨some 24,_,_,_,_,_⟩ ?v7 rfl (Or.inl ⟨by rfl,?y7⟩) ?r7
   case y7=>(intro w h;(try dsimp only at h);go_simp;try with_reducible rfl)
   try simp only [Act.put,sA,sB,sC]
   refine tkH 7 ⟨some 17,_,_,_,_,_⟩ ?v8 rfl (Or.inl ⟨by rfl,?y8⟩) ?r8
   case y8=>(intro w h;(try dsimp only at h);go_simp;try with_reducible rfl)
   try simp only [Act.put,sA,sB,sC]
   refine tkH 8 ⟨some 25,_,_,_,_,_⟩ ?v9 rfl (Or.inl ⟨by rfl,?y9⟩) ?r9
   case y9=>(intro w h;(try dsimp only at h);go_simp;try with_reducible rfl)
   try simp only [Act.put,sA,sB,sC]
   refine tkH 9 ⟨some 26,_,_,_,_,_⟩ ?v10 rfl (Or.inl ⟨by rfl,?y10⟩) ?r10
   case y10=>(intro w h;(try dsimp only at h);go_simp;try with_reducible rfl)
   try simp only [Act.put,sA,sB,sC]
   refine wpAnyH_ready (rs:=[10]) (by kernel_rfl) (by simp) ?_
   refine AllReadyH.cons (o:=⟨some 6,_,_,_,_,_⟩) rfl (fun K hK=>?_) AllReadyH.nil
   go_simp
   refine hK.out _ _ (by exact HS0.out _ (bstep (bd _ 1) (balloc _ _))) (fun hHeld=>?_)
   clear hK K
   try simp only [sA,sB,sC]
   refine wpAnyH_ready (rs:=[11]) (by kernel_rfl) (by simp) ?_
   refine AllReadyH.cons (o:=⟨none,_,_,_,_,_⟩) rfl (fun K hK=>?_) AllReadyH.nil
   go_simp
   refine hK.out _ _ (by exact HS0.out _ (bstep (bd _ 1) (balloc _ _))) (fun hHeld=>?_)
   clear hK K
   try simp only [sA,sB,sC]
   refine tkH 12 ⟨some 7,_,_,_,_,_⟩ ?v11 rfl (Or.inl ⟨by rfl,?y11⟩) ?r11
   case y11=>(intro w h;(try dsimp only at h);go_simp;try with_reducible rfl)
   try simp only [Act.put,sA,sB,sC]
   refine wpAnyH_done (by kernel_rfl) ?_ _
   refine NoPanic.normal ?_
   obtain ⟨w8,hw8⟩:∃ w8,((wr.alloc (.cells #[.string (bs q),.string (bs tx),.int .i64 bl,.int .i64 sz] 55)).alloc (.cells #[.slice ya yn yc,.int .i64 k] 136)).drew=w8:=⟨_,rfl⟩
   have HB8:Hid (Below wr.heap.size wr w8):=by
    show Below wr.heap.size wr w8
    rw [← hw8];exact bstep (bstep (balloc _ _) (balloc _ _)) (bd _ 1)
   have v0:w8.cell? ⟨wr.heap.size,0,none⟩=some (.string (bs q)):=by
    rw [← hw8]
    exact (HS0.out _ (bstep (balloc _ _) (bd _ 1))).2.1
   have v1:w8.cell? ⟨wr.heap.size+1,1,none⟩=some (.int .i64 k):=by
    have h1:=heap_alloc_new (wr.alloc (.cells #[.string (bs q),.string (bs tx),.int .i64 bl,.int .i64 sz] 55)) (.cells #[.slice ya yn yc,.int .i64 k] 136)
    have hz:(wr.alloc (.cells #[.string (bs q),.string (bs tx),.int .i64 bl,.int .i64 sz] 55)).heap.size=wr.heap.size+1:=by simp
    rw [hz] at h1
    have h2:w8.heap[wr.heap.size+1]? = some (.cells #[.slice ya yn yc,.int .i64 k] 136 (0,0)):=by rw [← hw8];exact h1
    simp [World.cell?,h2]
   have Z1:FK w8 w.heap.size zFv:=X5.out.2.2.later HB8.out
   rw [hw8]
   clear hw8 x1 x2 x3
   obtain ⟨z0,z1,z2,z3,z4,z5,z6,z7⟩:=Z1.get
   have y0:=Z1.soft 0
   have y1:=Z1.soft 1
   have y2:=Z1.soft 2
   have y3:=Z1.soft 3
   have y4:=Z1.soft 4
   have y5:=Z1.soft 5
   have y6:=Z1.soft 6
   have y7:=Z1.soft 7
   have HZ8:Hid (FK w8 w.heap.size zFv):=Z1
   clear Z1
   have HNX:Hid (isBk l c ⟨q,tx,bl,sz⟩=false→∀ a∈l.take (i+1),isBk l c a=false):=fun hb a ha=>by
    rw [HTK.out] at ha
    rcases List.mem_append.1 ha with h | h
    ·exact X5.out.1 a h
    ·rw [List.mem_singleton.1 h];exact hb
   cases m with
   | false=>
    go_wp2_with fail
    refine ⟨⟨i+1,by omega,by simp,HNX.out (by unfold isBk;rw [HBL.out];rfl),bstep X5.out.2.1 HB8.out,HZ8.out⟩,?_⟩
    simp only [intOf]
    omega
   | true=>
    by_cases hk:k = -1
    ·have HK:Hid (k = -1):=hk
     subst hk
     go_wp2_with fail
     refine ⟨⟨i+1,by omega,by simp,HNX.out (by unfold isBk;rw [HBL.out];rfl),bstep X5.out.2.1 HB8.out,HZ8.out⟩,?_⟩
     simp only [intOf]
     omega
    ·have HK:Hid (k≠-1):=hk
     have hk2:(k == -1)=false:=by simpa using hk
     have hk3:decide (k = -1)=false:=by simpa using hk
     go_wp2_with fail
     obtain ⟨j1,j2⟩:=HFI.out (by unfold isBk;rw [HBL.out];simpa using HK.out)
     have HP:=putF_only w8 w.heap.size (brkV l c ⟨q,tx,bl,sz⟩)
     have hbk:brkV l c ⟨q,tx,bl,sz⟩=⟨1,⟨[],[]⟩,⟨[],[]⟩,q,k,none,0,0⟩:=by unfold brkV;rw [HBL.out];rfl
     rw [hbk] at HP j1
     refine bodyPost_ret (results_ct rfl _ _ w.heap.size 29 #[.int .i64 1,.string (bs []),.string (bs []),.string (bs []),.string (bs []),.string (bs q),.int .i64 k,.slice none 0 0] (0,0) _ rfl (HZ8.out.set ⟨1,⟨[],[]⟩,⟨[],[]⟩,q,k,none,0,0⟩).blk Tryz.underlying29 rfl (by kernel_rfl)) rfl ?_
     unfold AskP
     exact ⟨by rw [j1,j2];rfl,below_trans (bstep X5.out.2.1 HB8.out) (HP.below (bstep X5.out.2.1 HB8.out).size (fun x hx=>by simp at hx;omega))⟩
  ·have Z1:FK wr w.heap.size zFv:=X5.out.2.2
   obtain ⟨z0,z1,z2,z3,z4,z5,z6,z7⟩:=Z1.get
   have y0:=Z1.soft 0
   have y1:=Z1.soft 1
   have y2:=Z1.soft 2
   have y3:=Z1.soft 3
   have y4:=Z1.soft 4
   have y5:=Z1.soft 5
   have y6:=Z1.soft 6
   have y7:=Z1.soft 7
   clear Z1
   go_wp2_with fail
   have HP:=putF_only wr w.heap.size zFv
   refine bodyPost_ret (results_ct rfl _ _ w.heap.size 29 #[.int .i64 0,.string { data:=#[] },.string { data:=#[] },.string { data:=#[] },.string { data:=#[] },.string { data:=#[] },.int .i64 0,.slice none 0 0] (0,0) _ rfl (X5.out.2.2.set zFv).blk Tryz.underlying29 rfl (by kernel_rfl)) rfl ?_
   have hin:i=n:=by omega
   have hno:=X5.out.1
   rw [List.take_of_length_le (by rw [HX.out.2.2,hin];exact Nat.le_refl _)] at hno
   have j1:brkF l c=zFv:=by
    unfold brkF
    rw [List.find?_eq_none.2 (fun a ha=>by simp [hno a ha])]
   have j2:l.any (isBk l c)=false:=List.any_eq_false.2 (fun a ha=>by simp [hno a ha])
   unfold AskP
   exact ⟨by rw [j1,j2];rfl,below_trans X5.out.2.1 (HP.below X5.out.2.1.size (fun x hx=>by simp at hx;omega))⟩
end
end Go.Proofs.YtppnbdnpapellaaGreatDoor
