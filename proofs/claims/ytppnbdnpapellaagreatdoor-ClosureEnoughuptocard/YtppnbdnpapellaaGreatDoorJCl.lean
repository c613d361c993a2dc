import Derived.Test.YtppnbdnpapellaaGreatDoorJLSees
import Derived.Test.YtppnbdnpapellaaGreatDoorJCf
set_option maxRecDepth 100000
set_option maxHeartbeats 16000000
namespace Go.Proofs.YtppnbdnpapellaaGreatDoor
section
open Go.RowKit Go.Maps
def hdnL (l:List Fl) (p:List UInt8) (D:List Lb):List Lb:=D.filter (fun b=>!ses ((tgtL l b).getD zT).see b.pkg p)
def unsB (l:List Fl) (a:Lb):Bool:=!(hdnL l a.pkg (dpsL l a)).isEmpty
def unsF (l:List Fl) (a:Lb):Fv:=if unsB l a then ⟨4,a,mnL (hdnL l a.pkg (dpsL l a)),[],0,none,0,0⟩ else zFv
theorem bunseen_any {w0 w:World} {R:Nat→Prop} {r:Nat} {c:List (List UInt8)} {l:List Fl} (H:RX w0 w R r l c) (E0:Ev w0) (sm:FQ l) (hc:c.length≤1000000000) (a:Lb) (ha:a.pkg.length≤400000000) (hpc:a.pkg∈c) (hdl:(dpsL l a).length≤1000)
  (hd:∀ b∈dpsL l a,b.pkg∈c∧b.pkg.length≤400000000∧Lm b∧((tgtL l b).getD zT).see.length≤1125899906842624∧∀ x∈((tgtL l b).getD zT).see,x.length≤1125899906842624) :
  Calls Tryz.prog 60 #[.pointer (some ⟨r,0,none⟩),a.val] w (AskP w (unsF l a) (unsB l a)):=by
 have HDK:=hid_of (fun W (hW:Below w.heap.size w W)=>bdeps_known (H.later hW) E0 sm hc a ha hpc)
 have HTK:=hid_of (fun b (hb:b∈dpsL l a) W (hW:Below w.heap.size w W)=>btarget_known (H.later hW) E0 sm hc b (hd b hb).2.1 (hd b hb).1)
 obtain ⟨p,n⟩:=a
 simp only [Lb.val] at HDK HTK ⊢
 obtain ⟨D,hD⟩:∃ D,dpsL l ⟨p,n⟩=D:=⟨_,rfl⟩
 rw [hD] at HTK hd hdl
 have HD:Hid (dpsL l ⟨p,n⟩=D∧∀ b∈D,Lm b∧((tgtL l b).getD zT).see.length≤1125899906842624∧∀ x∈((tgtL l b).getD zT).see,x.length≤1125899906842624):=⟨hD,fun b hb=>(hd b hb).2.2⟩
 have HX:Hid (RX w0 w R r l c):=H
 have hp2:p.length≤1125899906842624:=by simp only at ha;omega
 clear H E0 sm hc ha hpc hd hD
 go_enter Tryz.func60,Tryz.ntmps60
 go_wp2_with fail
 refine (HDK.out _ (bstep (balloc _ _) (balloc _ _))).mono ?_
 rintro e w1 h
 unfold DepK at h
 obtain ⟨t,rfl,hti,hbe⟩:=h
 have hb1:Below w.heap.size w w1:=bstep (bstep (balloc _ _) (balloc _ _)) hbe
 have hF1:FK w1 (w.heap.size+1) zFv:=by
  have h1:=FK.new (w.alloc (.cells #[.string (bs p),.string (bs n)] 27)) zFv
  have hz:(w.alloc (.cells #[.string (bs p),.string (bs n)] 27)).heap.size=w.heap.size+1:=by simp
  rw [hz] at h1
  exact h1.later hbe
 have hR1:RB w1 w.heap.size ⟨p,n⟩:=((RB.new w ⟨p,n⟩).later (balloc _ _)).later hbe
 obtain ⟨base,hto⟩:=hti.own
 have hod:OwnL base w1 t.d D:=by rw [← HD.out.1];exact hto.d
 obtain ⟨da,dc,hv⟩:=hod.form
 obtain ⟨dn,hdn⟩:∃ dn,D.length=dn:=⟨_,rfl⟩
 rw [hv]
 rw [hdn] at hv hdl ⊢
 rw [hv] at hod
 have H1:Hid (Below w.heap.size w w1∧FK w1 (w.heap.size+1) zFv∧RB w1 w.heap.size ⟨p,n⟩∧OwnL base w1 (.slice da dn dc) D∧D.length=dn):=⟨hb1,hF1,hR1,hod,hdn⟩
 clear hb1 hF1 hR1 hod hdn hv hto hti hbe HDK
 go_wp2_with fail
 go_loopw [6,15] (fun hv iv wr=>∃ (i:Nat),i≤dn∧iv=.int .i64 i∧Below w1.heap.size w1 wr∧OwnL w1.heap.size wr hv (hdnL l p (D.take i))) (fun _ iv _=>dn - (intOf iv).toNat)
 case atStart=>exact ⟨0,by omega,rfl,Below.refl _ _,OwnL.nil _ _⟩
 case round=>
  obtain ⟨i,hi0,rfl,hbr,hoh⟩:=hrel
  obtain ⟨ha,hc,hv⟩:=hoh.form
  obtain ⟨hn,hhn⟩:∃ hn,(hdnL l p (D.take i)).length=hn:=⟨_,rfl⟩
  rw [hhn] at hv
  subst hv
  have hhl:hn≤dn:=by
   rw [← hhn]
   refine Nat.le_trans (List.length_filter_le _ _) ?_
   rw [List.length_take];omega
  have X5:Hid (Below w1.heap.size w1 wr∧OwnL w1.heap.size wr (.slice ha hn hc) (hdnL l p (D.take i))∧(hdnL l p (D.take i)).length=hn):=⟨hbr,hoh,hhn⟩
  clear hbr hoh hhn
  by_cases hi:i < dn
  ·have i1:(i:Int) < (dn:Int):=by omega
   have i2:(0:Int)≤(i:Int):=by omega
   have hil:i < D.length:=by rw [H1.out.2.2.2.2];exact hi
   obtain ⟨b,off,ea,hbl,q0,q1⟩:=LS.at H1.out.2.2.2.1.rs X5.out.1 hil
   subst ea
   have HTA:=hid_of (HTK.out D[i] (List.getElem_mem hil))
   have HDA:=hid_of (HD.out.2 D[i] (List.getElem_mem hil))
   have HTS:Hid (D.take (i+1)=D.take i++[D[i]]):=List.take_succ_eq_append_getElem hil
   obtain ⟨x,hx⟩:∃ x,D[i]=x:=⟨_,rfl⟩
   rw [hx] at q0 q1 HTA HDA HTS
   clear hx
   obtain ⟨p2,n2⟩:=x
   simp only at q0 q1 HTA
   go_wp2_with fail
   refine (HTA.out _ (bstep (bstep H1.out.1 X5.out.1) (balloc _ _))).mono ?_
   rintro e w2 h
   unfold TgtK at h
   obtain ⟨t2,rfl,hti,hbe⟩:=h
   obtain ⟨base2,hto⟩:=hti.own
   obtain ⟨tn,sa,sn,sc,da2,dn2,dc2,ea,en,ec⟩:=t2
   have hv:Tv.val ⟨tn,sa,sn,sc,da2,dn2,dc2,ea,en,ec⟩=.agg #[.string (bs tn),.slice sa sn sc,.slice da2 dn2 dc2,.slice ea en ec]:=rfl
   rw [hv]
   clear hv
   have HE:Hid (Own base2 w2 (.slice ea en ec) ((tgtL l ⟨p2,n2⟩).getD zT).see):=hto.e
   obtain ⟨w3,hw3⟩:∃ w3,w2.alloc (.cells #[.string (bs tn),.slice sa sn sc,.slice da2 dn2 dc2,.slice ea en ec] 95)=w3:=⟨_,rfl⟩
   have HB3:Hid (Below (wr.alloc (.cells #[.string (bs p2),.string (bs n2)] 27)).heap.size (wr.alloc (.cells #[.string (bs p2),.string (bs n2)] 27)) w2):=hbe
   obtain ⟨c0,c1,_,_⟩:=(((RB.new wr ⟨p2,n2⟩).later hbe).later (balloc w2 (.cells #[.string (bs tn),.slice sa sn sc,.slice da2 dn2 dc2,.slice ea en ec] 95))).cells
   obtain ⟨g0,g1,_,_⟩:=((H1.out.2.2.1.later X5.out.1).later (bstep (balloc _ _) hbe) |>.later (balloc w2 (.cells #[.string (bs tn),.slice sa sn sc,.slice da2 dn2 dc2,.slice ea en ec] 95))).cells
   simp only at c0 c1 g0 g1
   clear hti hto hbe hw3 w3
   go_wp2_with fail
   refine (sees_any p2 p (Own.bs (HE.out.later (balloc _ _))) HDA.out.2.1 HDA.out.2.2 hp2).mono ?_
   rintro e w3 ⟨rfl,hb3⟩
   have HB4:Hid (Below wr.heap.size wr w3):=bstep (bstep (bstep (balloc _ _) HB3.out) (balloc _ _)) hb3
   clear c0 c1 g0 g1
   obtain ⟨c0,c1,_,_⟩:=(((RB.new wr ⟨p2,n2⟩).later HB3.out).later (bstep (balloc w2 (.cells #[.string (bs tn),.slice sa sn sc,.slice da2 dn2 dc2,.slice ea en ec] 95)) hb3)).cells
   simp only at c0 c1
   clear hb3
   obtain ⟨sq,hsq⟩:∃ sq,ses ((tgtL l ⟨p2,n2⟩).getD zT).see p2 p=sq:=⟨_,rfl⟩
   have HSQ:Hid (hdnL l p (D.take (i+1))=hdnL l p (D.take i)++if sq then [] else [⟨p2,n2⟩]):=by
    show hdnL l p (D.take (i+1))=_
    rw [HTS.out]
    unfold hdnL
    rw [List.filter_append]
    congr 1
    rw [List.filter_cons,hsq]
    cases sq<;>rfl
   rw [hsq]
   clear hsq
   cases sq with
   | true=>
    go_wp2_with fail
    go_roundw
    case rel=>exact ⟨i+1,by omega,by go_num,bstep X5.out.1 HB4.out,by rw [HSQ.out];simp only [if_true,List.append_nil];exact X5.out.2.1.later HB4.out⟩
    case measure=>simp [intOf];omega
   | false=>
    have hl9:(hdnL l p (D.take i)).length+1≤100000000:=by rw [X5.out.2.2];omega
    have hw0:w1.heap.size≤w3.heap.size:=(bstep X5.out.1 HB4.out).size
    go_wp2_with (first | (at_builtin;refine app_L1 und_L (base:=w1.heap.size) ⟨p2,n2⟩ (X5.out.2.1.later HB4.out) hl9 hw0 rfl (.tmp 33) (.tmp 35) rfl rfl rfl ?_;intro v' wA ho hbA honA hsA hwhA))
    go_roundw
    case rel=>exact ⟨i+1,by omega,by go_num,below_trans (bstep X5.out.1 HB4.out) hbA,by rw [HSQ.out];exact ho⟩
    case measure=>simp [intOf];omega
  ·obtain rfl:i=dn:=by omega
   have HTD:Hid (D.take i=D):=List.take_of_length_le (by rw [H1.out.2.2.2.2];exact Nat.le_refl _)
   cases hn with
   | zero=>
    have Z1:FK wr (w.heap.size+1) zFv:=H1.out.2.1.later X5.out.1
    obtain ⟨z0,z1,z2,z3,z4,z5,z6,z7⟩:=Z1.get
    have y0:=Z1.soft 0
    have y1:=Z1.soft 1
    have y2:=Z1.soft 2
    have y3:=Z1.soft 3
    have y4:=Z1.soft 4
    have y5:=Z1.soft 5
    have y6:=Z1.soft 6
    have y7:=Z1.soft 7
    clear Z1
    go_wp2_with fail
    have HP:=putF_only wr (w.heap.size+1) zFv
    have hns:hdnL l p D=[]:=List.eq_nil_of_length_eq_zero (by rw [← HTD.out];exact X5.out.2.2)
    have j2:unsB l ⟨p,n⟩=false:=by unfold unsB;rw [HD.out.1];simp only [hns];rfl
    have j1:unsF l ⟨p,n⟩=zFv:=by unfold unsF;rw [j2];rfl
    refine bodyPost_ret (results_ct rfl _ _ (w.heap.size+1) 29 #[.int .i64 0,.string { data:=#[] },.string { data:=#[] },.string { data:=#[] },.string { data:=#[] },.string { data:=#[] },.int .i64 0,.slice none 0 0] (0,0) _ rfl ((H1.out.2.1.later X5.out.1).set zFv).blk Tryz.underlying29 rfl (by kernel_rfl)) rfl ?_
    unfold AskP
    have hbb:=bstep H1.out.1 X5.out.1
    exact ⟨by rw [j1,j2];rfl,below_trans hbb (HP.below hbb.size (fun x hx=>by simp at hx;omega))⟩
   | succ m=>
    have HBM:=hid_of (fun W (hW:Below wr.heap.size wr W)=>bminL_any (X5.out.2.1.later hW).rs (by rw [X5.out.2.2];omega) (by rw [X5.out.2.2];omega) (fun x hx=>(HD.out.2 x (by have h:=List.mem_filter.1 hx;rw [HTD.out] at h;exact h.1)).1))
    rw [HTD.out] at HBM
    obtain ⟨mx,hmx⟩:∃ mx,mnL (hdnL l p D)=mx:=⟨_,rfl⟩
    rw [hmx] at HBM
    have HMX:Hid (mnL (hdnL l p D)=mx):=hmx
    clear hmx
    obtain ⟨mp,mn⟩:=mx
    simp only [Lb.val] at HBM
    have HSD:Hid (∀ W,Below wr.heap.size wr W→W.cell? ⟨w.heap.size,0,none⟩=some (.string (bs p))∧W.cell? ⟨w.heap.size,1,none⟩=some (.string (bs n))):=fun W hW=>by
     obtain ⟨q0,q1,_,_⟩:=((H1.out.2.2.1.later X5.out.1).later hW).cells
     exact ⟨q0,q1⟩
    go_upto_region 11 with fail
    obtain ⟨x1,x2⟩:=HSD.out _ (bd wr 1)
    refine wp_region_noPanic ?_
    refine wp_region_held_drew (S:=fun W'=>W'.cell? ⟨w.heap.size,0,none⟩=some (.string (bs p))∧W'.cell? ⟨w.heap.size,1,none⟩=some (.string (bs n))) (by kernel_rfl) (by exact HSD.out _ (bd wr 1)) (fun hHeld=>?_)
    refine tkH 0 ⟨some 42,_,_,_,_,_⟩ ?v1 rfl (Or.inl ⟨by rfl,?y1⟩) ?r1
    case y1=>(intro w h;(try dsimp only at h);go_simp;try with_reducible rfl)
    try simp only [Act.put,sA,sB,sC]
    refine tkH 1 ⟨some 43,_,_,_,_,_⟩ ?v2 rfl (Or.inl ⟨by rfl,?y2⟩) ?r2
    case y2=>(intro w h;(try dsimp only at h);go_simp;try with_reducible rfl)
    try simp only [Act.put,sA,sB,sC]
    refine wpAnyH_ready (rs:=[2]) (by kernel_rfl) (by simp) ?_
    refine AllReadyH.cons (o:=⟨some 44,_,_,_,_,_⟩) rfl (fun K hK=>?_) AllReadyH.nil
    go_simp
    with_reducible refine (HBM.out wr.drew (bd1 wr)).mono ?_
    rintro e w2 ⟨rfl,hb⟩
    have HB2:Hid (Below wr.heap.size wr w2):=bstep (bd1 wr) hb
    clear hb
    refine hK.out _ _ (HSD.out w2 HB2.out) (fun hHeld=>?_)
    clear hK K
    try simp only [sA,sB,sC]
    have HF2:Hid (FK w2 (w.heap.size+1) zFv):=(H1.out.2.1.later X5.out.1).later HB2.out
    have HP:=hid_of (putF_only w2 (w.heap.size+1) ⟨4,⟨p,n⟩,⟨mp,mn⟩,[],0,none,0,0⟩)
    have HSP:Hid (∀ wp,Only [w.heap.size+1] w2 wp→wp.cell? ⟨w.heap.size,0,none⟩=some (.string (bs p))∧wp.cell? ⟨w.heap.size,1,none⟩=some (.string (bs n))):=fun wp ho=>by
     have hb:Below (w.heap.size+1) w2 wp:=ho.below (by have:=HF2.out.lt;omega) (fun x hx=>by simp at hx;omega)
     have h2:=HSD.out w2 HB2.out
     exact ⟨(hb.cell (p:=⟨w.heap.size,0,none⟩) (by show w.heap.size < w.heap.size+1;omega)).trans h2.1,(hb.cell (p:=⟨w.heap.size,1,none⟩) (by show w.heap.size < w.heap.size+1;omega)).trans h2.2⟩
    obtain ⟨z0,z1,z2,z3,z4,z5,z6,z7⟩:=HF2.out.get
    have y0:=HF2.out.soft 0
    have y1:=HF2.out.soft 1
    have y2:=HF2.out.soft 2
    have y3:=HF2.out.soft 3
    have y4:=HF2.out.soft 4
    have y5:=HF2.out.soft 5
    have y6:=HF2.out.soft 6
    have y7:=HF2.out.soft 7
    refine tkH 3 ⟨some 45,_,_,_,_,_⟩ ?v3 rfl (Or.inl ⟨by rfl,?y3⟩) ?r3
    case y3=>(intro w h;(try dsimp only at h);go_simp;try with_reducible rfl)
    try simp only [Act.put,sA,sB,sC]
    refine wpAnyH_ready (rs:=[4]) (by kernel_rfl) (by simp) ?_
    refine AllReadyH.cons (o:=⟨none,_,_,_,_,_⟩) rfl (fun K hK=>?_) AllReadyH.nil
    go_simp
    refine hK.out _ _ (HSP.out _ ((((((((Only.set _ _ _ _).trans (Only.set _ _ _ _)).trans (Only.set _ _ _ _)).trans (Only.set _ _ _ _)).trans (Only.set _ _ _ _)).trans (Only.set _ _ _ _)).trans (Only.set _ _ _ _)).trans (Only.set _ _ _ _))) (fun hHeld=>?_)
    clear hK K
    try simp only [sA,sB,sC]
    refine tkH 5 ⟨some 5,_,_,_,_,_⟩ ?v4 rfl (Or.inl ⟨by rfl,?y4⟩) ?r4
    case y4=>(intro w h;(try dsimp only at h);go_simp;try with_reducible rfl)
    try simp only [Act.put,sA,sB,sC]
    refine wpAnyH_done (by kernel_rfl) ?_ _
    refine NoPanic.normal ?_
    clear z0 z1 z2 z3 z4 z5 z6 z7 y0 y1 y2 y3 y4 y5 y6 y7
    go_wp2_with fail
    have hns:(hdnL l p D).isEmpty=false:=by
     have h:=X5.out.2.2
     rw [HTD.out] at h
     cases e:hdnL l p D with
     | nil=>rw [e] at h;cases h
     | cons _ _=>rfl
    have j2:unsB l ⟨p,n⟩=true:=by unfold unsB;rw [HD.out.1];simp only [hns];rfl
    have j1:unsF l ⟨p,n⟩=⟨4,⟨p,n⟩,⟨mp,mn⟩,[],0,none,0,0⟩:=by unfold unsF;rw [j2,HD.out.1];simp only [HMX.out,if_true]
    refine bodyPost_ret (results_ct rfl _ _ (w.heap.size+1) 29 #[.int .i64 4,.string (bs p),.string (bs n),.string (bs mp),.string (bs mn),.string (bs []),.int .i64 0,.slice none 0 0] (0,0) _ rfl (HF2.out.set ⟨4,⟨p,n⟩,⟨mp,mn⟩,[],0,none,0,0⟩).blk Tryz.underlying29 rfl (by kernel_rfl)) rfl ?_
    unfold AskP
    have hbb:=bstep (bstep H1.out.1 X5.out.1) HB2.out
    exact ⟨by rw [j1,j2];rfl,below_trans hbb (HP.out.below hbb.size (fun x hx=>by simp at hx;omega))⟩
end
section
open Go.RowKit Go.Maps
def lstL (l:List Fl) (p:List UInt8) (S:List (List UInt8)):List (List UInt8):=(S.filter (fun s=>!(exl l (whl p s)).2)).map (whl p)
def misB (l:List Fl) (a:Lb):Bool:=match tgtL l a with
 | none=>true
 | some t=>!(lstL l a.pkg t.srcs).isEmpty
def misF (l:List Fl) (a:Lb):Fv:=match tgtL l a with
 | none=>⟨2,a,⟨[],[]⟩,[],0,none,0,0⟩
 | some t=>if (lstL l a.pkg t.srcs).isEmpty then zFv else ⟨2,a,⟨[],[]⟩,mnP (lstL l a.pkg t.srcs),0,none,0,0⟩
theorem lst_le (l:List Fl) (p:List UInt8) (S:List (List UInt8)):(lstL l p S).length≤S.length:=by
 unfold lstL
 rw [List.length_map]
 exact List.length_filter_le _ _
theorem lstL_snoc (l:List Fl) (p:List UInt8) (S:List (List UInt8)) (s:List UInt8):lstL l p (S++[s])=lstL l p S++if (exl l (whl p s)).2 then [] else [whl p s]:=by
 unfold lstL
 rw [List.filter_append,List.map_append,List.filter_cons]
 cases (exl l (whl p s)).2<;>rfl
theorem lst_mem {l:List Fl} {p:List UInt8} {S:List (List UInt8)} {x:List UInt8} (h:x∈lstL l p S):∃ s∈S,x=whl p s:=by
 unfold lstL at h
 obtain ⟨s,hs,rfl⟩:=List.mem_map.1 h
 exact ⟨s,(List.mem_filter.1 hs).1,rfl⟩
theorem bmissing_any {w0 w:World} {R:Nat→Prop} {r:Nat} {c:List (List UInt8)} {l:List Fl} (H:RX w0 w R r l c) (E0:Ev w0) (sm:FQ l) (hc:c.length≤1000000000) (a:Lb) (ha:a.pkg.length≤400000000) (hpc:a.pkg∈c) (hs64:(((tgtL l a).getD zT).srcs).length≤64) (hsl:∀ s∈((tgtL l a).getD zT).srcs,s.length≤400000000) :
  Calls Tryz.prog 58 #[.pointer (some ⟨r,0,none⟩),a.val] w (AskP w (misF l a) (misB l a)):=by
 have HT:=hid_of (fun W (hW:Below w.heap.size w W)=>btarget_known (H.later hW) E0 sm hc a ha hpc)
 have HX:Hid (RX w0 w R r l c∧Ev w0∧FQ l∧a.pkg.length≤400000000):=⟨H,E0,sm,ha⟩
 obtain ⟨S,hS⟩:∃ S,((tgtL l a).getD zT).srcs=S:=⟨_,rfl⟩
 rw [hS] at hs64 hsl
 have HS:Hid (((tgtL l a).getD zT).srcs=S∧S.length≤64∧∀ s∈S,s.length≤400000000):=⟨hS,hs64,hsl⟩
 obtain ⟨fv,mb,F,cnt,hr,hfs,_,_,_,hRr,_⟩:=H.it
 have hrl0:=(H.rlo r hRr).2
 obtain ⟨fa,fc,hfv,_⟩:=hfs.form
 obtain ⟨fn,hfn⟩:∃ fn,l.length=fn:=⟨_,rfl⟩
 rw [hfn] at hfv
 subst hfv
 have HFS:Hid (FS w0 (.slice fa fn fc) l∧Below w0.heap.size w0 w∧w.heap[r]? = some (.cells #[.slice fa fn fc,.map (some mb)] 66 (0,0))∧r < w.heap.size):=⟨hfs,H.bel,hr,hrl0⟩
 obtain ⟨p,n⟩:=a
 simp only [Lb.val] at HT ⊢
 simp only at HX
 clear H E0 sm hc ha hpc hS hs64 hsl hr hfs hRr hrl0 hfn
 go_enter Tryz.func58,Tryz.ntmps58
 go_wp2_with fail
 refine (HT.out _ (bstep (balloc _ _) (balloc _ _))).mono ?_
 rintro e w1 h
 unfold TgtK at h
 obtain ⟨t,rfl,hti,hbe⟩:=h
 clear HT
 have HB1:Hid (Below w.heap.size w w1):=bstep (bstep (balloc _ _) (balloc _ _)) hbe
 have HF1:Hid (FK w1 (w.heap.size+1) zFv):=by
  have h1:=FK.new (w.alloc (.cells #[.string (bs p),.string (bs n)] 27)) zFv
  have hz:(w.alloc (.cells #[.string (bs p),.string (bs n)] 27)).heap.size=w.heap.size+1:=by simp
  rw [hz] at h1
  exact h1.later hbe
 have HR1:Hid (RB w1 w.heap.size ⟨p,n⟩):=((RB.new w ⟨p,n⟩).later (balloc _ _)).later hbe
 obtain ⟨base,hto⟩:=hti.own
 obtain ⟨tn,sa,sn,sc,da,dn,dc,ea,en,ec⟩:=t
 have hso:Own base w1 (.slice sa sn sc) S:=by
  have h:=hto.s
  rw [HS.out.1] at h
  exact h
 have hv:Tv.val ⟨tn,sa,sn,sc,da,dn,dc,ea,en,ec⟩=.agg #[.string (bs tn),.slice sa sn sc,.slice da dn dc,.slice ea en ec]:=rfl
 rw [hv]
 clear hv hto hti hbe
 obtain ⟨w2,hw2⟩:∃ w2,w1.alloc (.cells #[.string (bs tn),.slice sa sn sc,.slice da dn dc,.slice ea en ec] 95)=w2:=⟨_,rfl⟩
 have HB2:Hid (Below w1.heap.size w1 w2):=by
  show Below w1.heap.size w1 w2
  rw [← hw2];exact balloc _ _
 have c21:w2.cell? ⟨w1.heap.size,1,none⟩=some (.slice sa sn sc):=by rw [← hw2];simp
 have HSO:Hid (Own base w2 (.slice sa sn sc) S):=hso.later HB2.out
 obtain ⟨sa',sc',hsv⟩:=hso.len
 injection hsv with e1 hsn e3
 have HSN:Hid (sn=S.length):=hsn
 have hsn64:sn≤64:=by have:=HS.out.2.1;omega
 clear e1 e3 hsn hso
 have HF2:Hid (FK w2 (w.heap.size+1) zFv):=HF1.out.later HB2.out
 have HCS:Hid (∀ W,Below w2.heap.size w2 W→W.cell? ⟨r,0,none⟩=some (.slice fa fn fc)∧W.cell? ⟨w.heap.size,0,none⟩=some (.string (bs p))∧W.cell? ⟨w.heap.size,1,none⟩=some (.string (bs n))):=fun W hW=>by
  have hb:Below w.heap.size w W:=bstep HB1.out (bstep HB2.out hW)
  obtain ⟨q0,q1,_,_⟩:=(HR1.out.later (bstep HB2.out hW)).cells
  refine ⟨?_,q0,q1⟩
  have h0:w.cell? ⟨r,0,none⟩=some (.slice fa fn fc):=by simp [World.cell?,HFS.out.2.2.1]
  exact (hb.cell (p:=⟨r,0,none⟩) HFS.out.2.2.2).trans h0
 have HEX:Hid (∀ W,Below w2.heap.size w2 W→∀ s,s∈S→Calls Tryz.prog 64 #[.slice fa fn fc,.string (bs p),.string (bs s)] W fun e w'=>∃ u,e=.returned (.tuple #[u,.bool (exl l (whl p s)).2])∧OwnF W.heap.size w' u (exl l (whl p s)).1∧Below W.heap.size W w'):=fun W hW s hs=>by
  have hb:Below w0.heap.size w0 W:=bstep HFS.out.2.1 (bstep HB1.out (bstep HB2.out hW))
  exact expand_any p s (HFS.out.1.later hb) HX.out.2.2.1 (HX.out.2.1.below hb HX.out.2.1.big) HX.out.2.2.2 (HS.out.2.2 s hs)
 cases htg:tgtL l ⟨p,n⟩ with
 | none=>
  have HTG:Hid (tgtL l ⟨p,n⟩=none):=htg
  clear htg
  simp only [Option.isSome_none]
  obtain ⟨d0,d1,d2⟩:=HCS.out w2 (Below.refl _ _)
  obtain ⟨z0,z1,z2,z3,z4,z5,z6,z7⟩:=HF2.out.get
  have y0:=HF2.out.soft 0
  have y1:=HF2.out.soft 1
  have y2:=HF2.out.soft 2
  have y3:=HF2.out.soft 3
  have y4:=HF2.out.soft 4
  have y5:=HF2.out.soft 5
  have y6:=HF2.out.soft 6
  have y7:=HF2.out.soft 7
  go_upto_region 2 with fail
  try rw [hw2]
  clear hw2 c21
  go_wp2_with fail
  have HP:=putF_only w2 (w.heap.size+1) ⟨2,⟨p,n⟩,⟨[],[]⟩,[],0,none,0,0⟩
  have j2:misB l ⟨p,n⟩=true:=by unfold misB;rw [HTG.out]
  have j1:misF l ⟨p,n⟩=⟨2,⟨p,n⟩,⟨[],[]⟩,[],0,none,0,0⟩:=by unfold misF;rw [HTG.out]
  refine bodyPost_ret (results_ct rfl _ _ (w.heap.size+1) 29 #[.int .i64 2,.string (bs p),.string (bs n),.string (bs []),.string (bs []),.string (bs []),.int .i64 0,.slice none 0 0] (0,0) _ rfl (HF2.out.set ⟨2,⟨p,n⟩,⟨[],[]⟩,[],0,none,0,0⟩).blk Tryz.underlying29 rfl (by kernel_rfl)) rfl ?_
  unfold AskP
  have hbb:=bstep HB1.out HB2.out
  exact ⟨by rw [j1,j2];rfl,below_trans hbb (HP.below hbb.size (fun x hx=>by simp at hx;omega))⟩
 | some tg=>
  have HTG:Hid (tgtL l ⟨p,n⟩=some tg∧tg.srcs=S):=⟨htg,by have h:=HS.out.1;rw [htg] at h;exact h⟩
  clear htg
  simp only [Option.isSome_some]
  go_upto_region 4 with fail
  try rw [hw2]
  clear hw2
  go_upto_region 6 with fail
  clear c21
  go_loopw [8,26] (fun pv iv wr=>∃ j:Nat,j≤sn∧iv=.int .i64 j∧Own w2.heap.size wr pv (lstL l p (S.take j))∧Below w2.heap.size w2 wr) (fun _ iv _=>sn - (intOf iv).toNat)
  case atStart=>exact ⟨0,by omega,rfl,by simpa [lstL] using Own.nil _ _,Below.refl _ _⟩
  case round=>
   obtain ⟨j,hj0,rfl,hps,hb⟩:=hrel
   obtain ⟨pa,pc,hpv⟩:=hps.len
   obtain ⟨pn,hpn⟩:∃ pn,(lstL l p (S.take j)).length=pn:=⟨_,rfl⟩
   rw [hpn] at hpv
   subst hpv
   have X5:Hid (Own w2.heap.size wr (.slice pa pn pc) (lstL l p (S.take j))∧Below w2.heap.size w2 wr):=⟨hps,hb⟩
   have hpn9:pn≤64:=by
    rw [← hpn]
    refine Nat.le_trans (lst_le _ _ _) ?_
    rw [List.length_take];have:=HS.out.2.1;omega
   have HPN:Hid ((lstL l p (S.take j)).length=pn):=hpn
   clear hps hb hpn
   by_cases hj:j < sn
   ·have j1:(j:Int) < (sn:Int):=by omega
    have j2:(0:Int)≤(j:Int):=by omega
    have hjl:j < S.length:=by rw [← HSN.out];exact hj
    obtain ⟨a',c',e,hf⟩:=(HSO.out.later X5.out.2).bs.form
    injection e with e1 e2 e3
    obtain ⟨b,off,ea',hbl,c0⟩:=hf j hjl
    rw [ea'] at e1
    subst e1
    clear e2 e3 hf ea'
    have HSS:Hid (S.take (j+1)=S.take j++[S[j]]):=List.take_succ_eq_append_getElem hjl
    have HSJ':Hid (S[j]∈S):=List.getElem_mem hjl
    obtain ⟨sj,hsj⟩:∃ sj,S[j]=sj:=⟨_,rfl⟩
    rw [hsj] at c0 HSS HSJ'
    have HSJ:Hid (sj∈S):=HSJ'.out
    clear hsj HSJ'
    have HLS:Hid (lstL l p (S.take (j+1))=lstL l p (S.take j)++if (exl l (whl p sj)).2 then [] else [whl p sj]):=by
     show _=_
     rw [HSS.out];exact lstL_snoc _ _ _ _
    obtain ⟨d0,d1,d2⟩:=HCS.out wr X5.out.2
    have HBW:Hid (∀ W:World,Calls Tryz.prog 92 #[.string (bs p),.string (bs sj)] W fun e w'=>e=.returned (.string (bs (whl p sj)))∧w'=W):=fun W=>bbelow_any p sj W (by have:=HX.out.2.2.2;omega) (by have:=HS.out.2.2 sj HSJ.out;omega)
    go_wp2_with fail
    refine wp_region_noPanic ?_
    refine wp_region_held_drew (S:=fun W'=>W'.cell? ⟨r,0,none⟩=some (.slice fa fn fc)∧W'.cell? ⟨w.heap.size,0,none⟩=some (.string (bs p))∧W'.cell? ⟨w.heap.size,1,none⟩=some (.string (bs n))) (by kernel_rfl) (by exact HCS.out wr X5.out.2) (fun hHeld=>?_)
    refine tkH 0 ⟨some 31,_,_,_,_,_⟩ ?v1 rfl (Or.inl ⟨by rfl,?y1⟩) ?r1
    case y1=>(intro w h;(try dsimp only at h);go_simp;try with_reducible rfl)
    try simp only [Act.put,sA,sB,sC]
    refine tkH 1 ⟨some 32,_,_,_,_,_⟩ ?v2 rfl (Or.inl ⟨by rfl,?y2⟩) ?r2
    case y2=>(intro w h;(try dsimp only at h);go_simp;try with_reducible rfl)
    try simp only [Act.put,sA,sB,sC]
    refine tkH 2 ⟨some 33,_,_,_,_,_⟩ ?v3 rfl (Or.inl ⟨by rfl,?y3⟩) ?r3
    case y3=>(intro w h;(try dsimp only at h);go_simp;try with_reducible rfl)
    try simp only [Act.put,sA,sB,sC]
    refine tkH 3 ⟨some 34,_,_,_,_,_⟩ ?v4 rfl (Or.inl ⟨by rfl,?y4⟩) ?r4
    case y4=>(intro w h;(try dsimp only at h);go_simp;try with_reducible rfl)
    try simp only [Act.put,sA,sB,sC]
    refine tkH 4 ⟨some 35,_,_,_,_,_⟩ ?v5 rfl (Or.inl ⟨by rfl,?y5⟩) ?r5
    case y5=>(intro w h;(try dsimp only at h);go_simp;try with_reducible rfl)
    try simp only [Act.put,sA,sB,sC]
    refine tkH 5 ⟨some 36,_,_,_,_,_⟩ ?v6 rfl (Or.inl ⟨by rfl,?y6⟩) ?r6
    case y6=>(intro w h;(try dsimp only at h);go_simp;try with_reducible rfl)
    try simp only [Act.put,sA,sB,sC]
    refine tkH 6 ⟨some 37,_,_,_,_,_⟩ ?v7 rfl (Or.inl ⟨by rfl,?y7⟩) ?r7
    case y7=>(intro w h;(try dsimp only at h);go_simp;try with_reducible rfl)
    try simp only [Act.put,sA,sB,sC]
    refine wpAnyH_ready (rs:=[7]) (by kernel_rfl) (by simp) ?_
    refine AllReadyH.cons (o:=⟨some 38,_,_,_,_,_⟩) rfl (fun K hK=>?_) AllReadyH.nil
    go_simp
    with_reducible refine (HEX.out wr.drew (bstep X5.out.2 (Below.refl _ wr).drew) sj HSJ.out).mono ?_
    rintro e z1 ⟨u,rfl,hu,hb⟩
    obtain ⟨ua,uc,huv⟩:=hu.form
    obtain ⟨un,hun⟩:∃ un,(exl l (whl p sj)).1.length=un:=⟨_,rfl⟩
    rw [hun] at huv
    subst huv
    have HU:Hid (Below wr.heap.size wr z1):=bstep (Below.refl _ wr).drew hb
    clear hu hb hun
    refine hK.out _ _ (HCS.out z1 (bstep X5.out.2 HU.out)) (fun hHeld=>?_)
    clear hK K
    try simp only [sA,sB,sC]
    refine tkH 8 ⟨some 30,_,_,_,_,_⟩ ?v8 rfl (Or.inl ⟨by rfl,?y8⟩) ?r8
    case y8=>(intro w h;(try dsimp only at h);go_simp;try with_reducible rfl)
    try simp only [Act.put,sA,sB,sC]
    refine tkH 9 ⟨some 39,_,_,_,_,_⟩ ?v9 rfl (Or.inl ⟨by rfl,?y9⟩) ?r9
    case y9=>(intro w h;(try dsimp only at h);go_simp;try with_reducible rfl)
    try simp only [Act.put,sA,sB,sC]
    refine tkH 10 ⟨some 40,_,_,_,_,_⟩ ?v10 rfl (Or.inl ⟨by rfl,?y10⟩) ?r10
    case y10=>(intro w h;(try dsimp only at h);go_simp;try with_reducible rfl)
    try simp only [Act.put,sA,sB,sC]
    refine tkH 11 ⟨some 11,_,_,_,_,_⟩ ?v11 rfl (Or.inl ⟨by rfl,?y11⟩) ?r11
    case y11=>(intro w h;(try dsimp only at h);go_simp;try with_reducible rfl)
    try simp only [Act.put,sA,sB,sC]
    refine tkH 12 ⟨some 12,_,_,_,_,_⟩ ?v12 rfl (Or.inl ⟨by rfl,?y12⟩) ?r12
    case y12=>(intro w h;(try dsimp only at h);go_simp;try with_reducible rfl)
    try simp only [Act.put,sA,sB,sC]
    refine wpAnyH_done (by kernel_rfl) ?_ _
    refine NoPanic.normal ?_
    clear hHeld d0 d1 d2
    obtain ⟨d0,d1,d2⟩:=HCS.out z1 (bstep X5.out.2 HU.out)
    obtain ⟨q,hq⟩:∃ q,(exl l (whl p sj)).2=q:=⟨_,rfl⟩
    rw [hq] at HLS ⊢
    clear hq
    cases q with
    | true=>
     go_wp2_with fail
     go_roundw
     case rel=>exact ⟨j+1,by omega,by go_num,by rw [HLS.out];simp only [if_true,List.append_nil];exact X5.out.1.later HU.out,bstep X5.out.2 HU.out⟩
     case measure=>simp [intOf];omega
    | false=>
     have hlen1:(lstL l p (S.take j)).length+1≤8796093022208:=by rw [HPN.out];omega
     have hba:w2.heap.size≤z1.heap.size:=(bstep X5.out.2 HU.out).size
     go_wp2_with fail
     refine (HBW.out _).mono ?_
     rintro e w5 ⟨rfl,rfl⟩
     go_wp2_with (first | (at_builtin;refine app_one (base:=w2.heap.size) (whl p sj) (X5.out.1.later HU.out) hlen1 hba rfl (.tmp 43) (.tmp 48) rfl rfl rfl ?_;intro v' wA ho hbA hsA hgA hwhA))
     go_roundw
     case rel=>exact ⟨j+1,by omega,by go_num,by rw [HLS.out];exact ho,below_trans (bstep X5.out.2 HU.out) hbA⟩
     case measure=>simp [intOf];omega
   ·obtain rfl:j=sn:=by omega
    have HTS:Hid (S.take j=S):=List.take_of_length_le (by rw [HSN.out];exact Nat.le_refl _)
    cases pn with
    | zero=>
     have Z1:FK wr (w.heap.size+1) zFv:=HF2.out.later X5.out.2
     obtain ⟨z0,z1,z2,z3,z4,z5,z6,z7⟩:=Z1.get
     have y0:=Z1.soft 0
     have y1:=Z1.soft 1
     have y2:=Z1.soft 2
     have y3:=Z1.soft 3
     have y4:=Z1.soft 4
     have y5:=Z1.soft 5
     have y6:=Z1.soft 6
     have y7:=Z1.soft 7
     clear Z1
     go_wp2_with fail
     have HP:=putF_only wr (w.heap.size+1) zFv
     have hns:lstL l p S=[]:=List.eq_nil_of_length_eq_zero (by rw [← HTS.out];exact HPN.out)
     have k2:misB l ⟨p,n⟩=false:=by unfold misB;rw [HTG.out.1];simp only [HTG.out.2,hns];rfl
     have k1:misF l ⟨p,n⟩=zFv:=by unfold misF;rw [HTG.out.1];simp only [HTG.out.2,hns];rfl
     refine bodyPost_ret (results_ct rfl _ _ (w.heap.size+1) 29 #[.int .i64 0,.string { data:=#[] },.string { data:=#[] },.string { data:=#[] },.string { data:=#[] },.string { data:=#[] },.int .i64 0,.slice none 0 0] (0,0) _ rfl ((HF2.out.later X5.out.2).set zFv).blk Tryz.underlying29 rfl (by kernel_rfl)) rfl ?_
     unfold AskP
     have hbb:=bstep (bstep HB1.out HB2.out) X5.out.2
     exact ⟨by rw [k1,k2];rfl,below_trans hbb (HP.below hbb.size (fun x hx=>by simp at hx;omega))⟩
    | succ m=>
     have HBM:=hid_of (fun W (hW:Below wr.heap.size wr W)=>bmin_any (X5.out.1.later hW).bs (by rw [HPN.out];omega) (by rw [HPN.out];omega) (fun x hx=>by
      obtain ⟨s,hs,rfl⟩:=lst_mem hx
      have h1:=HS.out.2.2 s (List.mem_of_mem_take hs)
      have h2:=whl_le p s
      have h3:=HX.out.2.2.2
      omega))
     rw [HTS.out] at HBM
     obtain ⟨mp,hmx⟩:∃ mp,mnP (lstL l p S)=mp:=⟨_,rfl⟩
     rw [hmx] at HBM
     have HMX:Hid (mnP (lstL l p S)=mp):=hmx
     clear hmx
     have HSD:Hid (∀ W,Below wr.heap.size wr W→W.cell? ⟨w.heap.size,0,none⟩=some (.string (bs p))∧W.cell? ⟨w.heap.size,1,none⟩=some (.string (bs n))):=fun W hW=>(HCS.out W (bstep X5.out.2 hW)).2
     go_upto_region 14 with fail
     obtain ⟨x1,x2⟩:=HSD.out _ (bd wr 1)
     refine wp_region_noPanic ?_
     refine wp_region_held_drew (S:=fun W'=>W'.cell? ⟨w.heap.size,0,none⟩=some (.string (bs p))∧W'.cell? ⟨w.heap.size,1,none⟩=some (.string (bs n))) (by kernel_rfl) (by exact HSD.out _ (bd wr 1)) (fun hHeld=>?_)
     refine tkH 0 ⟨some 55,_,_,_,_,_⟩ ?v13 rfl (Or.inl ⟨by rfl,?y13⟩) ?r13
     case y13=>(intro w h;(try dsimp only at h);go_simp;try with_reducible rfl)
     try simp only [Act.put,sA,sB,sC]
     refine tkH 1 ⟨some 56,_,_,_,_,_⟩ ?v14 rfl (Or.inl ⟨by rfl,?y14⟩) ?r14
     case y14=>(intro w h;(try dsimp only at h);go_simp;try with_reducible rfl)
     try simp only [Act.put,sA,sB,sC]
     refine wpAnyH_ready (rs:=[2]) (by kernel_rfl) (by simp) ?_
     refine AllReadyH.cons (o:=⟨some 57,_,_,_,_,_⟩) rfl (fun K hK=>?_) AllReadyH.nil
     go_simp
     with_reducible refine (HBM.out wr.drew (bd1 wr)).mono ?_
     rintro e w4 ⟨rfl,hb⟩
     have HB4:Hid (Below wr.heap.size wr w4):=bstep (bd1 wr) hb
     clear hb
     refine hK.out _ _ (HSD.out w4 HB4.out) (fun hHeld=>?_)
     clear hK K
     try simp only [sA,sB,sC]
     have HF4:Hid (FK w4 (w.heap.size+1) zFv):=(HF2.out.later X5.out.2).later HB4.out
     have HP:=hid_of (putF_only w4 (w.heap.size+1) ⟨2,⟨p,n⟩,⟨[],[]⟩,mp,0,none,0,0⟩)
     have HSP:Hid (∀ wp,Only [w.heap.size+1] w4 wp→wp.cell? ⟨w.heap.size,0,none⟩=some (.string (bs p))∧wp.cell? ⟨w.heap.size,1,none⟩=some (.string (bs n))):=fun wp ho=>by
      have hb:Below (w.heap.size+1) w4 wp:=ho.below (by have:=HF4.out.lt;omega) (fun x hx=>by simp at hx;omega)
      have h2:=HSD.out w4 HB4.out
      exact ⟨(hb.cell (p:=⟨w.heap.size,0,none⟩) (by show w.heap.size < w.heap.size+1;omega)).trans h2.1,(hb.cell (p:=⟨w.heap.size,1,none⟩) (by show w.heap.size < w.heap.size+1;omega)).trans h2.2⟩
     obtain ⟨z0,z1,z2,z3,z4,z5,z6,z7⟩:=HF4.out.get
     have y0:=HF4.out.soft 0
     have y1:=HF4.out.soft 1
     have y2:=HF4.out.soft 2
     have y3:=HF4.out.soft 3
     have y4:=HF4.out.soft 4
     have y5:=HF4.out.soft 5
     have y6:=HF4.out.soft 6
     have y7:=HF4.out.soft 7
     refine tkH 3 ⟨some 58,_,_,_,_,_⟩ ?v15 rfl (Or.inl ⟨by rfl,?y15⟩) ?r15
     case y15=>(intro w h;(try dsimp only at h);go_simp;try with_reducible rfl)
     try simp only [Act.put,sA,sB,sC]
     refine wpAnyH_ready (rs:=[4]) (by kernel_rfl) (by simp) ?_
     refine AllReadyH.cons (o:=⟨none,_,_,_,_,_⟩) rfl (fun K hK=>?_) AllReadyH.nil
     go_simp
     refine hK.out _ _ (HSP.out _ ((((((((Only.set _ _ _ _).trans (Only.set _ _ _ _)).trans (Only.set _ _ _ _)).trans (Only.set _ _ _ _)).trans (Only.set _ _ _ _)).trans (Only.set _ _ _ _)).trans (Only.set _ _ _ _)).trans (Only.set _ _ _ _))) (fun hHeld=>?_)
     clear hK K
     try simp only [sA,sB,sC]
     refine tkH 5 ⟨some 5,_,_,_,_,_⟩ ?v16 rfl (Or.inl ⟨by rfl,?y16⟩) ?r16
     case y16=>(intro w h;(try dsimp only at h);go_simp;try with_reducible rfl)
     try simp only [Act.put,sA,sB,sC]
     refine wpAnyH_done (by kernel_rfl) ?_ _
     refine NoPanic.normal ?_
     clear z0 z1 z2 z3 z4 z5 z6 z7 y0 y1 y2 y3 y4 y5 y6 y7
     go_wp2_with fail
     have hns:(lstL l p S).isEmpty=false:=by
      have h:=HPN.out
      rw [HTS.out] at h
      cases e:lstL l p S with
      | nil=>rw [e] at h;cases h
      | cons _ _=>rfl
     have k2:misB l ⟨p,n⟩=true:=by unfold misB;rw [HTG.out.1];simp only [HTG.out.2,hns];rfl
     have k1:misF l ⟨p,n⟩=⟨2,⟨p,n⟩,⟨[],[]⟩,mp,0,none,0,0⟩:=by unfold misF;rw [HTG.out.1];simp only [HTG.out.2,hns,HMX.out];rfl
     refine bodyPost_ret (results_ct rfl _ _ (w.heap.size+1) 29 #[.int .i64 2,.string (bs p),.string (bs n),.string (bs []),.string (bs []),.string (bs mp),.int .i64 0,.slice none 0 0] (0,0) _ rfl (HF4.out.set ⟨2,⟨p,n⟩,⟨[],[]⟩,mp,0,none,0,0⟩).blk Tryz.underlying29 rfl (by kernel_rfl)) rfl ?_
     unfold AskP
     have hbb:=bstep (bstep (bstep HB1.out HB2.out) X5.out.2) HB4.out
     exact ⟨by rw [k1,k2];rfl,below_trans hbb (HP.out.below hbb.size (fun x hx=>by simp at hx;omega))⟩
end
end Go.Proofs.YtppnbdnpapellaaGreatDoor
