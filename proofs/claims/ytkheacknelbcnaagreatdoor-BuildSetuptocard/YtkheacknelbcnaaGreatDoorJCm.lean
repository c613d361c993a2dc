/-
  A target that is not there, or a literal of it.
  The first fault of a build.
-/
import Derived.Test.YtkheacknelbcnaaGreatDoorJCk
import Derived.Test.YtkheacknelbcnaaGreatDoorJCd
import Derived.Test.YtkheacknelbcnaaGreatDoorJBy
namespace Go.Proofs.YtkheacknelbcnaaGreatDoor
open Go.RowKit Go.Maps
/-- the literals that are not there -/
def lstL (l:List Fl) (p:List UInt8) (S:List (List UInt8)):List (List UInt8):=(S.filter (fun s=>!(exl l (whl p s)).2)).map (whl p)
def misB (l:List Fl) (a:Lb):Bool:=match tgtL l a with
 | none=>true
 | some t=>!(lstL l a.pkg t.srcs).isEmpty
def misF (l:List Fl) (a:Lb):Fv:=match tgtL l a with
 | none=>⟨2,a,⟨[],[]⟩,[],0,none,0,0⟩
 | some t=>if (lstL l a.pkg t.srcs).isEmpty then zFv else ⟨2,a,⟨[],[]⟩,mnP (lstL l a.pkg t.srcs),0,none,0,0⟩
theorem lst_le (l:List Fl) (p:List UInt8) (S:List (List UInt8)):(lstL l p S).length≤S.length:=by
 unfold lstL
 rw [List.length_map]
 exact List.length_filter_le _ _
theorem lstL_snoc (l:List Fl) (p:List UInt8) (S:List (List UInt8)) (s:List UInt8):lstL l p (S++[s])=lstL l p S++if (exl l (whl p s)).2 then [] else [whl p s]:=by
 unfold lstL
 rw [List.filter_append,List.map_append,List.filter_cons]
 cases (exl l (whl p s)).2<;>rfl
theorem lst_mem {l:List Fl} {p:List UInt8} {S:List (List UInt8)} {x:List UInt8} (h:x∈lstL l p S):∃ s∈S,x=whl p s:=by
 unfold lstL at h
 obtain ⟨s,hs,rfl⟩:=List.mem_map.1 h
 exact ⟨s,(List.mem_filter.1 hs).1,rfl⟩
set_option maxRecDepth 100000 in
set_option maxHeartbeats 8000000 in
theorem bmissing_any {w0 w:World} {R:Nat→Prop} {r:Nat} {c:List (List UInt8)} {l:List Fl} (H:RX w0 w R r l c) (E0:Ev w0) (sm:FQ l) (hc:c.length≤1000000000) (a:Lb) (ha:a.pkg.length≤400000000) (hpc:a.pkg∈c) (hs64:(((tgtL l a).getD zT).srcs).length≤64) (hsl:∀ s∈((tgtL l a).getD zT).srcs,s.length≤400000000) :
  Calls Tryz.prog 47 #[.pointer (some ⟨r,0,none⟩),a.val] w (AskP w (misF l a) (misB l a)):=by
 have HT:=hid_of (fun W (hW:Below w.heap.size w W)=>btarget_known (H.later hW) E0 sm hc a ha hpc)
 have HX:Hid (RX w0 w R r l c∧Ev w0∧FQ l∧a.pkg.length≤400000000):=⟨H,E0,sm,ha⟩
 obtain ⟨S,hS⟩:∃ S,((tgtL l a).getD zT).srcs=S:=⟨_,rfl⟩
 rw [hS] at hs64 hsl
 have HS:Hid (((tgtL l a).getD zT).srcs=S∧S.length≤64∧∀ s∈S,s.length≤400000000):=⟨hS,hs64,hsl⟩
 obtain ⟨fv,mb,F,cnt,hr,hfs,_,_,_,hRr,_⟩:=H.it
 have hrl0:=(H.rlo r hRr).2
 obtain ⟨fa,fc,hfv,_⟩:=hfs.form
 obtain ⟨fn,hfn⟩:∃ fn,l.length=fn:=⟨_,rfl⟩
 rw [hfn] at hfv
 subst hfv
 have HFS:Hid (FS w0 (.slice fa fn fc) l∧Below w0.heap.size w0 w∧w.heap[r]? = some (.cells #[.slice fa fn fc,.map (some mb)] 59 (0,0))∧r < w.heap.size):=⟨hfs,H.bel,hr,hrl0⟩
 obtain ⟨p,n⟩:=a
 simp only [Lb.val] at HT ⊢
 simp only at HX
 clear H E0 sm hc ha hpc hS hs64 hsl hr hfs hRr hrl0 hfn
 go_enter Tryz.func47,Tryz.ntmps47
 go_wp2_with fail
 refine (HT.out _ (bstep (balloc _ _) (balloc _ _))).mono ?_
 rintro e w1 h
 unfold TgtK at h
 obtain ⟨t,rfl,hti,hbe⟩:=h
 clear HT
 have HB1:Hid (Below w.heap.size w w1):=bstep (bstep (balloc _ _) (balloc _ _)) hbe
 have HF1:Hid (FK w1 (w.heap.size+1) zFv):=by
  have h1:=FK.new (w.alloc (.cells #[.string (bs p),.string (bs n)] 28)) zFv
  have hz:(w.alloc (.cells #[.string (bs p),.string (bs n)] 28)).heap.size=w.heap.size+1:=by simp
  rw [hz] at h1
  exact h1.later hbe
 have HR1:Hid (RB w1 w.heap.size ⟨p,n⟩):=((RB.new w ⟨p,n⟩).later (balloc _ _)).later hbe
 obtain ⟨base,hto⟩:=hti.own
 obtain ⟨tn,sa,sn,sc,da,dn,dc,ea,en,ec⟩:=t
 have hso:Own base w1 (.slice sa sn sc) S:=by
  have h:=hto.s
  rw [HS.out.1] at h
  exact h
 have hv:Tv.val ⟨tn,sa,sn,sc,da,dn,dc,ea,en,ec⟩=.agg #[.string (bs tn),.slice sa sn sc,.slice da dn dc,.slice ea en ec]:=rfl
 rw [hv]
 clear hv hto hti hbe
 obtain ⟨w2,hw2⟩:∃ w2,w1.alloc (.cells #[.string (bs tn),.slice sa sn sc,.slice da dn dc,.slice ea en ec] 76)=w2:=⟨_,rfl⟩
 have HB2:Hid (Below w1.heap.size w1 w2):=by
  show Below w1.heap.size w1 w2
  rw [← hw2];exact balloc _ _
 have c21:w2.cell? ⟨w1.heap.size,1,none⟩=some (.slice sa sn sc):=by rw [← hw2];simp
 have HSO:Hid (Own base w2 (.slice sa sn sc) S):=hso.later HB2.out
 obtain ⟨sa',sc',hsv⟩:=hso.len
 injection hsv with e1 hsn e3
 have HSN:Hid (sn=S.length):=hsn
 have hsn64:sn≤64:=by have:=HS.out.2.1;omega
 clear e1 e3 hsn hso
 have HF2:Hid (FK w2 (w.heap.size+1) zFv):=HF1.out.later HB2.out
 have HCS:Hid (∀ W,Below w2.heap.size w2 W→W.cell? ⟨r,0,none⟩=some (.slice fa fn fc)∧W.cell? ⟨w.heap.size,0,none⟩=some (.string (bs p))∧W.cell? ⟨w.heap.size,1,none⟩=some (.string (bs n))):=fun W hW=>by
  have hb:Below w.heap.size w W:=bstep HB1.out (bstep HB2.out hW)
  obtain ⟨q0,q1,_,_⟩:=(HR1.out.later (bstep HB2.out hW)).cells
  refine ⟨?_,q0,q1⟩
  have h0:w.cell? ⟨r,0,none⟩=some (.slice fa fn fc):=by simp [World.cell?,HFS.out.2.2.1]
  exact (hb.cell (p:=⟨r,0,none⟩) HFS.out.2.2.2).trans h0
 have HEX:Hid (∀ W,Below w2.heap.size w2 W→∀ s,s∈S→Calls Tryz.prog 53 #[.slice fa fn fc,.string (bs p),.string (bs s)] W fun e w'=>∃ u,e=.returned (.tuple #[u,.bool (exl l (whl p s)).2])∧OwnF W.heap.size w' u (exl l (whl p s)).1∧Below W.heap.size W w'):=fun W hW s hs=>by
  have hb:Below w0.heap.size w0 W:=bstep HFS.out.2.1 (bstep HB1.out (bstep HB2.out hW))
  exact expand_any p s (HFS.out.1.later hb) HX.out.2.2.1 (HX.out.2.1.below hb HX.out.2.1.big) HX.out.2.2.2 (HS.out.2.2 s hs)
 cases htg:tgtL l ⟨p,n⟩ with
 | none=>
  have HTG:Hid (tgtL l ⟨p,n⟩=none):=htg
  clear htg
  simp only [Option.isSome_none]
  obtain ⟨d0,d1,d2⟩:=HCS.out w2 (Below.refl _ _)
  obtain ⟨z0,z1,z2,z3,z4,z5,z6,z7⟩:=HF2.out.get
  have y0:=HF2.out.soft 0
  have y1:=HF2.out.soft 1
  have y2:=HF2.out.soft 2
  have y3:=HF2.out.soft 3
  have y4:=HF2.out.soft 4
  have y5:=HF2.out.soft 5
  have y6:=HF2.out.soft 6
  have y7:=HF2.out.soft 7
  go_upto_region 2 with fail
  try rw [hw2]
  clear hw2 c21
  go_wp2_with fail
  have HP:=putF_only w2 (w.heap.size+1) ⟨2,⟨p,n⟩,⟨[],[]⟩,[],0,none,0,0⟩
  have j2:misB l ⟨p,n⟩=true:=by unfold misB;rw [HTG.out]
  have j1:misF l ⟨p,n⟩=⟨2,⟨p,n⟩,⟨[],[]⟩,[],0,none,0,0⟩:=by unfold misF;rw [HTG.out]
  refine bodyPost_ret (results_ct rfl _ _ (w.heap.size+1) 30 #[.int .i64 2,.string (bs p),.string (bs n),.string (bs []),.string (bs []),.string (bs []),.int .i64 0,.slice none 0 0] (0,0) _ rfl (HF2.out.set ⟨2,⟨p,n⟩,⟨[],[]⟩,[],0,none,0,0⟩).blk Tryz.underlying30 rfl (by kernel_rfl)) rfl ?_
  unfold AskP
  have hbb:=bstep HB1.out HB2.out
  exact ⟨by rw [j1,j2];rfl,below_trans hbb (HP.below hbb.size (fun x hx=>by simp at hx;omega))⟩
 | some tg=>
  have HTG:Hid (tgtL l ⟨p,n⟩=some tg∧tg.srcs=S):=⟨htg,by have h:=HS.out.1;rw [htg] at h;exact h⟩
  clear htg
  simp only [Option.isSome_some]
  go_upto_region 4 with fail
  try rw [hw2]
  clear hw2
  go_upto_region 6 with fail
  clear c21
  go_loopw [8,26] (fun pv iv wr=>∃ j:Nat,j≤sn∧iv=.int .i64 j∧Own w2.heap.size wr pv (lstL l p (S.take j))∧Below w2.heap.size w2 wr) (fun _ iv _=>sn - (intOf iv).toNat)
  case atStart=>exact ⟨0,by omega,rfl,by simpa [lstL] using Own.nil _ _,Below.refl _ _⟩
  case round=>
   obtain ⟨j,hj0,rfl,hps,hb⟩:=hrel
   obtain ⟨pa,pc,hpv⟩:=hps.len
   obtain ⟨pn,hpn⟩:∃ pn,(lstL l p (S.take j)).length=pn:=⟨_,rfl⟩
   rw [hpn] at hpv
   subst hpv
   have X5:Hid (Own w2.heap.size wr (.slice pa pn pc) (lstL l p (S.take j))∧Below w2.heap.size w2 wr):=⟨hps,hb⟩
   have hpn9:pn≤64:=by
    rw [← hpn]
    refine Nat.le_trans (lst_le _ _ _) ?_
    rw [List.length_take];have:=HS.out.2.1;omega
   have HPN:Hid ((lstL l p (S.take j)).length=pn):=hpn
   clear hps hb hpn
   by_cases hj:j < sn
   ·have j1:(j:Int) < (sn:Int):=by omega
    have j2:(0:Int)≤(j:Int):=by omega
    have hjl:j < S.length:=by rw [← HSN.out];exact hj
    obtain ⟨a',c',e,hf⟩:=(HSO.out.later X5.out.2).bs.form
    injection e with e1 e2 e3
    obtain ⟨b,off,ea',hbl,c0⟩:=hf j hjl
    rw [ea'] at e1
    subst e1
    clear e2 e3 hf ea'
    have HSS:Hid (S.take (j+1)=S.take j++[S[j]]):=List.take_succ_eq_append_getElem hjl
    have HSJ':Hid (S[j]∈S):=List.getElem_mem hjl
    obtain ⟨sj,hsj⟩:∃ sj,S[j]=sj:=⟨_,rfl⟩
    rw [hsj] at c0 HSS HSJ'
    have HSJ:Hid (sj∈S):=HSJ'.out
    clear hsj HSJ'
    have HLS:Hid (lstL l p (S.take (j+1))=lstL l p (S.take j)++if (exl l (whl p sj)).2 then [] else [whl p sj]):=by
     show _=_
     rw [HSS.out];exact lstL_snoc _ _ _ _
    obtain ⟨d0,d1,d2⟩:=HCS.out wr X5.out.2
    have HBW:Hid (∀ W:World,Calls Tryz.prog 80 #[.string (bs p),.string (bs sj)] W fun e w'=>e=.returned (.string (bs (whl p sj)))∧w'=W):=fun W=>bbelow_any p sj W (by have:=HX.out.2.2.2;omega) (by have:=HS.out.2.2 sj HSJ.out;omega)
    go_wp2_with fail
    refine wp_region_noPanic ?_
    refine wp_region_held_drew (S:=fun W'=>W'.cell? ⟨r,0,none⟩=some (.slice fa fn fc)∧W'.cell? ⟨w.heap.size,0,none⟩=some (.string (bs p))∧W'.cell? ⟨w.heap.size,1,none⟩=some (.string (bs n))) (by kernel_rfl) (by exact HCS.out wr X5.out.2) (fun hHeld=>?_)
    refine wpAnyH_take (i:=0) (oi:=⟨some 31,_,_,_,_,_⟩) (v:=?vx1) rfl (by kernel_rfl) (by kernel_rfl) (by kernel_rfl) (fun _ _ _ h=>h) (Or.inl ⟨by rfl,?hyx1⟩) (by assumption) ?restx1
    case hyx1=>(intro w hSw;(try dsimp only at hSw);go_simp;try with_reducible rfl)
    try simp only [Act.put,List.setIfInBounds_toArray,List.set_cons_zero,List.set_cons_succ]
    refine wpAnyH_take (i:=1) (oi:=⟨some 32,_,_,_,_,_⟩) (v:=?vx2) rfl (by kernel_rfl) (by kernel_rfl) (by kernel_rfl) (fun _ _ _ h=>h) (Or.inl ⟨by rfl,?hyx2⟩) (by assumption) ?restx2
    case hyx2=>(intro w hSw;(try dsimp only at hSw);go_simp;try with_reducible rfl)
    try simp only [Act.put,List.setIfInBounds_toArray,List.set_cons_zero,List.set_cons_succ]
    refine wpAnyH_take (i:=2) (oi:=⟨some 33,_,_,_,_,_⟩) (v:=?vx3) rfl (by kernel_rfl) (by kernel_rfl) (by kernel_rfl) (fun _ _ _ h=>h) (Or.inl ⟨by rfl,?hyx3⟩) (by assumption) ?restx3
    case hyx3=>(intro w hSw;(try dsimp only at hSw);go_simp;try with_reducible rfl)
    try simp only [Act.put,List.setIfInBounds_toArray,List.set_cons_zero,List.set_cons_succ]
    refine wpAnyH_take (i:=3) (oi:=⟨some 34,_,_,_,_,_⟩) (v:=?vx4) rfl (by kernel_rfl) (by kernel_rfl) (by kernel_rfl) (fun _ _ _ h=>h) (Or.inl ⟨by rfl,?hyx4⟩) (by assumption) ?restx4
    case hyx4=>(intro w hSw;(try dsimp only at hSw);go_simp;try with_reducible rfl)
    try simp only [Act.put,List.setIfInBounds_toArray,List.set_cons_zero,List.set_cons_succ]
    refine wpAnyH_take (i:=4) (oi:=⟨some 35,_,_,_,_,_⟩) (v:=?vx5) rfl (by kernel_rfl) (by kernel_rfl) (by kernel_rfl) (fun _ _ _ h=>h) (Or.inl ⟨by rfl,?hyx5⟩) (by assumption) ?restx5
    case hyx5=>(intro w hSw;(try dsimp only at hSw);go_simp;try with_reducible rfl)
    try simp only [Act.put,List.setIfInBounds_toArray,List.set_cons_zero,List.set_cons_succ]
    refine wpAnyH_take (i:=5) (oi:=⟨some 36,_,_,_,_,_⟩) (v:=?vx6) rfl (by kernel_rfl) (by kernel_rfl) (by kernel_rfl) (fun _ _ _ h=>h) (Or.inl ⟨by rfl,?hyx6⟩) (by assumption) ?restx6
    case hyx6=>(intro w hSw;(try dsimp only at hSw);go_simp;try with_reducible rfl)
    try simp only [Act.put,List.setIfInBounds_toArray,List.set_cons_zero,List.set_cons_succ]
    refine wpAnyH_take (i:=6) (oi:=⟨some 37,_,_,_,_,_⟩) (v:=?vx7) rfl (by kernel_rfl) (by kernel_rfl) (by kernel_rfl) (fun _ _ _ h=>h) (Or.inl ⟨by rfl,?hyx7⟩) (by assumption) ?restx7
    case hyx7=>(intro w hSw;(try dsimp only at hSw);go_simp;try with_reducible rfl)
    try simp only [Act.put,List.setIfInBounds_toArray,List.set_cons_zero,List.set_cons_succ]
    refine wpAnyH_ready (rs:=[7]) (by kernel_rfl) (by simp) ?_
    refine AllReadyH.cons (o:=⟨some 38,_,_,_,_,_⟩) rfl (fun K hK=>?_) AllReadyH.nil
    go_simp
    with_reducible refine (HEX.out wr.drew (bstep X5.out.2 (Below.refl _ wr).drew) sj HSJ.out).mono ?_
    rintro e z1 ⟨u,rfl,hu,hb⟩
    obtain ⟨ua,uc,huv⟩:=hu.form
    obtain ⟨un,hun⟩:∃ un,(exl l (whl p sj)).1.length=un:=⟨_,rfl⟩
    rw [hun] at huv
    subst huv
    have HU:Hid (Below wr.heap.size wr z1):=bstep (Below.refl _ wr).drew hb
    clear hu hb hun
    refine hK.out _ _ (HCS.out z1 (bstep X5.out.2 HU.out)) (fun hHeld=>?_)
    clear hK K
    try simp only [List.setIfInBounds_toArray,List.set_cons_zero,List.set_cons_succ]
    refine wpAnyH_take (i:=8) (oi:=⟨some 30,_,_,_,_,_⟩) (v:=?vx8) rfl (by kernel_rfl) (by kernel_rfl) (by kernel_rfl) (fun _ _ _ h=>h) (Or.inl ⟨by rfl,?hyx8⟩) (by assumption) ?restx8
    case hyx8=>(intro w hSw;(try dsimp only at hSw);go_simp;try with_reducible rfl)
    try simp only [Act.put,List.setIfInBounds_toArray,List.set_cons_zero,List.set_cons_succ]
    refine wpAnyH_take (i:=9) (oi:=⟨some 39,_,_,_,_,_⟩) (v:=?vx9) rfl (by kernel_rfl) (by kernel_rfl) (by kernel_rfl) (fun _ _ _ h=>h) (Or.inl ⟨by rfl,?hyx9⟩) (by assumption) ?restx9
    case hyx9=>(intro w hSw;(try dsimp only at hSw);go_simp;try with_reducible rfl)
    try simp only [Act.put,List.setIfInBounds_toArray,List.set_cons_zero,List.set_cons_succ]
    refine wpAnyH_take (i:=10) (oi:=⟨some 40,_,_,_,_,_⟩) (v:=?vx10) rfl (by kernel_rfl) (by kernel_rfl) (by kernel_rfl) (fun _ _ _ h=>h) (Or.inl ⟨by rfl,?hyx10⟩) (by assumption) ?restx10
    case hyx10=>(intro w hSw;(try dsimp only at hSw);go_simp;try with_reducible rfl)
    try simp only [Act.put,List.setIfInBounds_toArray,List.set_cons_zero,List.set_cons_succ]
    refine wpAnyH_take (i:=11) (oi:=⟨some 11,_,_,_,_,_⟩) (v:=?vx11) rfl (by kernel_rfl) (by kernel_rfl) (by kernel_rfl) (fun _ _ _ h=>h) (Or.inl ⟨by rfl,?hyx11⟩) (by assumption) ?restx11
    case hyx11=>(intro w hSw;(try dsimp only at hSw);go_simp;try with_reducible rfl)
    try simp only [Act.put,List.setIfInBounds_toArray,List.set_cons_zero,List.set_cons_succ]
    refine wpAnyH_take (i:=12) (oi:=⟨some 12,_,_,_,_,_⟩) (v:=?vx12) rfl (by kernel_rfl) (by kernel_rfl) (by kernel_rfl) (fun _ _ _ h=>h) (Or.inl ⟨by rfl,?hyx12⟩) (by assumption) ?restx12
    case hyx12=>(intro w hSw;(try dsimp only at hSw);go_simp;try with_reducible rfl)
    try simp only [Act.put,List.setIfInBounds_toArray,List.set_cons_zero,List.set_cons_succ]
    refine wpAnyH_done (by kernel_rfl) ?_ _
    refine NoPanic.normal ?_
    clear hHeld d0 d1 d2
    obtain ⟨d0,d1,d2⟩:=HCS.out z1 (bstep X5.out.2 HU.out)
    obtain ⟨q,hq⟩:∃ q,(exl l (whl p sj)).2=q:=⟨_,rfl⟩
    rw [hq] at HLS ⊢
    clear hq
    cases q with
    | true=>
     go_wp2_with fail
     go_roundw
     case rel=>exact ⟨j+1,by omega,by go_num,by rw [HLS.out];simp only [if_true,List.append_nil];exact X5.out.1.later HU.out,bstep X5.out.2 HU.out⟩
     case measure=>simp [intOf];omega
    | false=>
     have hlen1:(lstL l p (S.take j)).length+1≤8796093022208:=by rw [HPN.out];omega
     have hba:w2.heap.size≤z1.heap.size:=(bstep X5.out.2 HU.out).size
     go_wp2_with fail
     refine (HBW.out _).mono ?_
     rintro e w5 ⟨rfl,rfl⟩
     go_wp2_with (first | (at_builtin;refine app_one (base:=w2.heap.size) (whl p sj) (X5.out.1.later HU.out) hlen1 hba rfl (.tmp 43) (.tmp 48) rfl rfl rfl ?_;intro v' wA ho hbA hsA hgA hwhA))
     go_roundw
     case rel=>exact ⟨j+1,by omega,by go_num,by rw [HLS.out];exact ho,below_trans (bstep X5.out.2 HU.out) hbA⟩
     case measure=>simp [intOf];omega
   ·obtain rfl:j=sn:=by omega
    have HTS:Hid (S.take j=S):=List.take_of_length_le (by rw [HSN.out];exact Nat.le_refl _)
    cases pn with
    | zero=>
     have Z1:FK wr (w.heap.size+1) zFv:=HF2.out.later X5.out.2
     obtain ⟨z0,z1,z2,z3,z4,z5,z6,z7⟩:=Z1.get
     have y0:=Z1.soft 0
     have y1:=Z1.soft 1
     have y2:=Z1.soft 2
     have y3:=Z1.soft 3
     have y4:=Z1.soft 4
     have y5:=Z1.soft 5
     have y6:=Z1.soft 6
     have y7:=Z1.soft 7
     clear Z1
     go_wp2_with fail
     have HP:=putF_only wr (w.heap.size+1) zFv
     have hns:lstL l p S=[]:=List.eq_nil_of_length_eq_zero (by rw [← HTS.out];exact HPN.out)
     have k2:misB l ⟨p,n⟩=false:=by unfold misB;rw [HTG.out.1];simp only [HTG.out.2,hns];rfl
     have k1:misF l ⟨p,n⟩=zFv:=by unfold misF;rw [HTG.out.1];simp only [HTG.out.2,hns];rfl
     refine bodyPost_ret (results_ct rfl _ _ (w.heap.size+1) 30 #[.int .i64 0,.string { data:=#[] },.string { data:=#[] },.string { data:=#[] },.string { data:=#[] },.string { data:=#[] },.int .i64 0,.slice none 0 0] (0,0) _ rfl ((HF2.out.later X5.out.2).set zFv).blk Tryz.underlying30 rfl (by kernel_rfl)) rfl ?_
     unfold AskP
     have hbb:=bstep (bstep HB1.out HB2.out) X5.out.2
     exact ⟨by rw [k1,k2];rfl,below_trans hbb (HP.below hbb.size (fun x hx=>by simp at hx;omega))⟩
    | succ m=>
     have HBM:=hid_of (fun W (hW:Below wr.heap.size wr W)=>bmin_any (X5.out.1.later hW).bs (by rw [HPN.out];omega) (by rw [HPN.out];omega) (fun x hx=>by
      obtain ⟨s,hs,rfl⟩:=lst_mem hx
      have h1:=HS.out.2.2 s (List.mem_of_mem_take hs)
      have h2:=whl_le p s
      have h3:=HX.out.2.2.2
      omega))
     rw [HTS.out] at HBM
     obtain ⟨mp,hmx⟩:∃ mp,mnP (lstL l p S)=mp:=⟨_,rfl⟩
     rw [hmx] at HBM
     have HMX:Hid (mnP (lstL l p S)=mp):=hmx
     clear hmx
     have HSD:Hid (∀ W,Below wr.heap.size wr W→W.cell? ⟨w.heap.size,0,none⟩=some (.string (bs p))∧W.cell? ⟨w.heap.size,1,none⟩=some (.string (bs n))):=fun W hW=>(HCS.out W (bstep X5.out.2 hW)).2
     go_upto_region 14 with fail
     obtain ⟨x1,x2⟩:=HSD.out _ (bd wr 1)
     refine wp_region_noPanic ?_
     refine wp_region_held_drew (S:=fun W'=>W'.cell? ⟨w.heap.size,0,none⟩=some (.string (bs p))∧W'.cell? ⟨w.heap.size,1,none⟩=some (.string (bs n))) (by kernel_rfl) (by exact HSD.out _ (bd wr 1)) (fun hHeld=>?_)
     refine wpAnyH_take (i:=0) (oi:=⟨some 55,_,_,_,_,_⟩) (v:=?vx13) rfl (by kernel_rfl) (by kernel_rfl) (by kernel_rfl) (fun _ _ _ h=>h) (Or.inl ⟨by rfl,?hyx13⟩) (by assumption) ?restx13
     case hyx13=>(intro w hSw;(try dsimp only at hSw);go_simp;try with_reducible rfl)
     try simp only [Act.put,List.setIfInBounds_toArray,List.set_cons_zero,List.set_cons_succ]
     refine wpAnyH_take (i:=1) (oi:=⟨some 56,_,_,_,_,_⟩) (v:=?vx14) rfl (by kernel_rfl) (by kernel_rfl) (by kernel_rfl) (fun _ _ _ h=>h) (Or.inl ⟨by rfl,?hyx14⟩) (by assumption) ?restx14
     case hyx14=>(intro w hSw;(try dsimp only at hSw);go_simp;try with_reducible rfl)
     try simp only [Act.put,List.setIfInBounds_toArray,List.set_cons_zero,List.set_cons_succ]
     refine wpAnyH_ready (rs:=[2]) (by kernel_rfl) (by simp) ?_
     refine AllReadyH.cons (o:=⟨some 57,_,_,_,_,_⟩) rfl (fun K hK=>?_) AllReadyH.nil
     go_simp
     with_reducible refine (HBM.out wr.drew (bd1 wr)).mono ?_
     rintro e w4 ⟨rfl,hb⟩
     have HB4:Hid (Below wr.heap.size wr w4):=bstep (bd1 wr) hb
     clear hb
     refine hK.out _ _ (HSD.out w4 HB4.out) (fun hHeld=>?_)
     clear hK K
     try simp only [List.setIfInBounds_toArray,List.set_cons_zero,List.set_cons_succ]
     have HF4:Hid (FK w4 (w.heap.size+1) zFv):=(HF2.out.later X5.out.2).later HB4.out
     have HP:=hid_of (putF_only w4 (w.heap.size+1) ⟨2,⟨p,n⟩,⟨[],[]⟩,mp,0,none,0,0⟩)
     have HSP:Hid (∀ wp,Only [w.heap.size+1] w4 wp→wp.cell? ⟨w.heap.size,0,none⟩=some (.string (bs p))∧wp.cell? ⟨w.heap.size,1,none⟩=some (.string (bs n))):=fun wp ho=>by
      have hb:Below (w.heap.size+1) w4 wp:=ho.below (by have:=HF4.out.lt;omega) (fun x hx=>by simp at hx;omega)
      have h2:=HSD.out w4 HB4.out
      exact ⟨(hb.cell (p:=⟨w.heap.size,0,none⟩) (by show w.heap.size < w.heap.size+1;omega)).trans h2.1,(hb.cell (p:=⟨w.heap.size,1,none⟩) (by show w.heap.size < w.heap.size+1;omega)).trans h2.2⟩
     obtain ⟨z0,z1,z2,z3,z4,z5,z6,z7⟩:=HF4.out.get
     have y0:=HF4.out.soft 0
     have y1:=HF4.out.soft 1
     have y2:=HF4.out.soft 2
     have y3:=HF4.out.soft 3
     have y4:=HF4.out.soft 4
     have y5:=HF4.out.soft 5
     have y6:=HF4.out.soft 6
     have y7:=HF4.out.soft 7
     refine wpAnyH_take (i:=3) (oi:=⟨some 58,_,_,_,_,_⟩) (v:=?vx15) rfl (by kernel_rfl) (by kernel_rfl) (by kernel_rfl) (fun _ _ _ h=>h) (Or.inl ⟨by rfl,?hyx15⟩) (by assumption) ?restx15
     case hyx15=>(intro w hSw;(try dsimp only at hSw);go_simp;try with_reducible rfl)
     try simp only [Act.put,List.setIfInBounds_toArray,List.set_cons_zero,List.set_cons_succ]
     refine wpAnyH_ready (rs:=[4]) (by kernel_rfl) (by simp) ?_
     refine AllReadyH.cons (o:=⟨none,_,_,_,_,_⟩) rfl (fun K hK=>?_) AllReadyH.nil
     go_simp
     refine hK.out _ _ (HSP.out _ ((((((((Only.set _ _ _ _).trans (Only.set _ _ _ _)).trans (Only.set _ _ _ _)).trans (Only.set _ _ _ _)).trans (Only.set _ _ _ _)).trans (Only.set _ _ _ _)).trans (Only.set _ _ _ _)).trans (Only.set _ _ _ _))) (fun hHeld=>?_)
     clear hK K
     try simp only [List.setIfInBounds_toArray,List.set_cons_zero,List.set_cons_succ]
     refine wpAnyH_take (i:=5) (oi:=⟨some 5,_,_,_,_,_⟩) (v:=?vx16) rfl (by kernel_rfl) (by kernel_rfl) (by kernel_rfl) (fun _ _ _ h=>h) (Or.inl ⟨by rfl,?hyx16⟩) (by assumption) ?restx16
     case hyx16=>(intro w hSw;(try dsimp only at hSw);go_simp;try with_reducible rfl)
     try simp only [Act.put,List.setIfInBounds_toArray,List.set_cons_zero,List.set_cons_succ]
     refine wpAnyH_done (by kernel_rfl) ?_ _
     refine NoPanic.normal ?_
     clear z0 z1 z2 z3 z4 z5 z6 z7 y0 y1 y2 y3 y4 y5 y6 y7
     go_wp2_with fail
     have hns:(lstL l p S).isEmpty=false:=by
      have h:=HPN.out
      rw [HTS.out] at h
      cases e:lstL l p S with
      | nil=>rw [e] at h;cases h
      | cons _ _=>rfl
     have k2:misB l ⟨p,n⟩=true:=by unfold misB;rw [HTG.out.1];simp only [HTG.out.2,hns];rfl
     have k1:misF l ⟨p,n⟩=⟨2,⟨p,n⟩,⟨[],[]⟩,mp,0,none,0,0⟩:=by unfold misF;rw [HTG.out.1];simp only [HTG.out.2,hns,HMX.out];rfl
     refine bodyPost_ret (results_ct rfl _ _ (w.heap.size+1) 30 #[.int .i64 2,.string (bs p),.string (bs n),.string (bs []),.string (bs []),.string (bs mp),.int .i64 0,.slice none 0 0] (0,0) _ rfl (HF4.out.set ⟨2,⟨p,n⟩,⟨[],[]⟩,mp,0,none,0,0⟩).blk Tryz.underlying30 rfl (by kernel_rfl)) rfl ?_
     unfold AskP
     have hbb:=bstep (bstep (bstep HB1.out HB2.out) X5.out.2) HB4.out
     exact ⟨by rw [k1,k2];rfl,below_trans hbb (HP.out.below hbb.size (fun x hx=>by simp at hx;omega))⟩
end Go.Proofs.YtkheacknelbcnaaGreatDoor

namespace Go.Proofs.YtkheacknelbcnaaGreatDoor
open Go.RowKit Go.Maps
/-- a fault, its circle as a list -/
structure Pf where
 code:Int
 lab:Lb
 oth:Lb
 path:List UInt8
 at':Int
 circ:List Lb
def Fv.pf (f:Fv) (q:List Lb):Pf:=⟨f.code,f.lab,f.oth,f.path,f.at',q⟩
/-- this fault lies here -/
structure FvIs (base:Nat) (w:World) (v:Fv) (f:Pf):Prop where
 it:v.pf f.circ=f
 ci:OwnL base w (.slice v.ca v.cn v.cc) f.circ
/-- it has no circle -/
def Fv.bare (f:Fv):Prop:=f.ca=none∧f.cn=0∧f.cc=0
theorem zFv_bare:zFv.bare:=⟨rfl,rfl,rfl⟩
theorem fstF_bare {fd:Lb→Bool} {ft:Lb→Fv} (h:∀ a,(ft a).bare) (ls:List Lb):(fstF fd ft ls).bare:=by
 unfold fstF
 split
 ·exact h _
 ·exact zFv_bare
theorem brkF_bare (l:List Fl) (c:List (List UInt8)):(brkF l c).bare:=by
 unfold brkF
 split
 ·exact ⟨rfl,rfl,rfl⟩
 ·exact zFv_bare
theorem misF_bare (l:List Fl) (a:Lb):(misF l a).bare:=by
 unfold misF
 split
 ·exact ⟨rfl,rfl,rfl⟩
 ·split
  ·exact zFv_bare
  ·exact ⟨rfl,rfl,rfl⟩
theorem unsF_bare (l:List Fl) (a:Lb):(unsF l a).bare:=by
 unfold unsF
 split
 ·exact ⟨rfl,rfl,rfl⟩
 ·exact zFv_bare
theorem FvIs.bare {base:Nat} {w:World} {f:Fv} (h:f.bare):FvIs base w f (f.pf []):=by
 obtain ⟨h1,h2,h3⟩:=h
 refine ⟨rfl,?_⟩
 rw [h1,h2,h3]
 exact OwnL.nil _ _
/-- the circle that is told -/
noncomputable def crcL (N:List Lb) (E:List Ee):Option (List Lb):=frs E (Gs.pts ltL N E)
/-- the first fault, of what is reached -/
noncomputable def fltP (l:List Fl) (N:List Lb) (E:List Ee) (c:List (List UInt8)):Pf×Bool:=
 if l.any (isBk l c) then ((brkF l c).pf [],true)
 else if (rs N).any (misB l) then ((fstF (misB l) (misF l) (rs N)).pf [],true)
 else if (crcL N E).isSome then (⟨3,⟨[],[]⟩,⟨[],[]⟩,[],0,(crcL N E).getD []⟩,true)
 else ((fstF (unsB l) (unsF l) (rs N)).pf [],(rs N).any (unsB l))
def FltP (w:World) (f:Pf×Bool) (e:Ending) (w':World):Prop:=∃ v:Fv,e=.returned (.tuple #[v.val,.bool f.2])∧FvIs w.heap.size w' v f.1∧Below w.heap.size w w'
set_option maxRecDepth 100000 in
set_option maxHeartbeats 8000000 in
theorem bfault_any {w0 w:World} {R:Nat→Prop} {r g B:Nat} {c:List (List UInt8)} {l:List Fl} {N:List Lb} {E:List Ee} (H:RX w0 w R r l c) (E0:Ev w0) (sm:FQ l) (hc:c.length≤1000000000) (P:PG B w g N E) (hz:N.length≤2000000) (hez:E.length≤2000000)
  (hn:∀ a∈N,Lu a∧Lm a∧a.pkg∈c∧a.pkg.length≤400000000∧∀ b∈dpsL l a,b∈N)
  (ht:∀ a,(((tgtL l a).getD zT).srcs).length≤64∧(∀ s∈((tgtL l a).getD zT).srcs,s.length≤400000000)∧(dpsL l a).length≤1000∧((tgtL l a).getD zT).see.length≤1125899906842624∧∀ x∈((tgtL l a).getD zT).see,x.length≤1125899906842624) :
  Calls Tryz.prog 24 #[.pointer (some ⟨r,0,none⟩),.pointer (some ⟨g,0,none⟩)] w (FltP w (fltP l N E c)):=by
 have hmr:∀ a,a∈rs N↔a∈N:=fun a=>Gs.mem_ris a N
 have hrl:(rs N).length≤N.length:=Gs.ris_le N
 have HND:=hid_of (fun W (hW:Below w.heap.size w W)=>(P.later hW).nodes)
 have HBK:=hid_of (fun W (hW:Below w.heap.size w W)=>bbroken_any (H.later hW) sm)
 have HMI:=hid_of (fun W (hW:Below w.heap.size w W) (lv:Value) (hl:LS W lv (rs N))=>bfirst47_any (r:=r) (fd:=misB l) (ft:=misF l) hl (by omega) (fun W' a hW' ha=>bmissing_any ((H.later hW).later hW') E0 sm hc a (hn a ((hmr a).1 ha)).2.2.2.1 (hn a ((hmr a).1 ha)).2.2.1 (ht a).1 (ht a).2.1))
 have HUN:=hid_of (fun W (hW:Below w.heap.size w W) (lv:Value) (hl:LS W lv (rs N))=>bfirst49_any (r:=r) (fd:=unsB l) (ft:=unsF l) hl (by omega) (fun W' a hW' ha=>bunseen_any ((H.later hW).later hW') E0 sm hc a (hn a ((hmr a).1 ha)).2.2.2.1 (hn a ((hmr a).1 ha)).2.2.1 (ht a).2.2.1 (fun b hb=>⟨(hn b ((hn a ((hmr a).1 ha)).2.2.2.2 b hb)).2.2.1,(hn b ((hn a ((hmr a).1 ha)).2.2.2.2 b hb)).2.2.2.1,(hn b ((hn a ((hmr a).1 ha)).2.2.2.2 b hb)).2.1,(ht b).2.2.2.1,(ht b).2.2.2.2⟩)))
 have HCI:=hid_of (fun W (hW:Below w.heap.size w W)=>(P.later hW).first hz (fun x hx=>(hn x hx).1) hez)
 obtain ⟨cf,hcf⟩:∃ cf,crcL N E=cf:=⟨_,rfl⟩
 have hcf':frs E (Gs.pts ltL N E)=cf:=hcf
 rw [hcf'] at HCI
 have HCF:Hid (crcL N E=cf):=hcf
 clear hcf hcf'
 obtain ⟨ns,hns⟩:∃ ns,rs N=ns:=⟨_,rfl⟩
 rw [hns] at HND HMI HUN
 have HNS:Hid (rs N=ns):=hns
 clear hns hmr hrl H E0 sm hc P hz hez hn ht
 have HFw1:Hid (FK (w.alloc (.cells #[.int .i64 0,.string { data:=#[] },.string { data:=#[] },.string { data:=#[] },.string { data:=#[] },.string { data:=#[] },.int .i64 0,.slice none 0 0] 30)) w.heap.size zFv):=FK.new w zFv
 go_enter Tryz.func24,Tryz.ntmps24
 go_wp2_with fail
 refine (HND.out _ (balloc _ _)).mono ?_
 rintro e w2 ⟨nv,rfl,hno,hb⟩
 have HBw2:Hid (Below w.heap.size w w2):=bstep (balloc _ _) hb
 have HFw2:Hid (FK w2 w.heap.size zFv):=HFw1.out.later hb
 obtain ⟨na,nc,hnv⟩:=hno.form
 have HLS:Hid (LS w2 nv ns):=hno.rs
 obtain ⟨nn,hnn⟩:∃ nn,ns.length=nn:=⟨_,rfl⟩
 rw [hnn] at hnv
 subst hnv
 clear hno hb hnn HFw1
 go_wp2_with fail
 have HCw2:Hid (Below w2.heap.size w2 w2):=Below.refl _ _
 refine (HBK.out _ HBw2.out).mono ?_
 rintro e w2x h
 unfold AskP at h
 obtain ⟨rfl,hbx⟩:=h
 have HCw2x:Hid (Below w2.heap.size w2 w2x):=bstep HCw2.out hbx
 have HFw2x:Hid (FK w2x w.heap.size zFv):=HFw2.out.later HCw2x.out
 clear hbx
 have HNI:=hid_of (brkF_bare l c)
 obtain ⟨fx,hfx⟩:∃ fx,brkF l c=fx:=⟨_,rfl⟩
 obtain ⟨bx,hbx⟩:∃ bx,l.any (isBk l c)=bx:=⟨_,rfl⟩
 have HFX:Hid (brkF l c=fx∧l.any (isBk l c)=bx):=⟨hfx,hbx⟩
 rw [hfx] at HNI
 rw [hfx,hbx]
 clear hfx hbx
 obtain ⟨fc,⟨lp,ln⟩,⟨op,on⟩,fp,fa,ca,cn,cc⟩:=fx
 have hval:Fv.val ⟨fc,⟨lp,ln⟩,⟨op,on⟩,fp,fa,ca,cn,cc⟩=.agg #[.int .i64 fc,.string (bs lp),.string (bs ln),.string (bs op),.string (bs on),.string (bs fp),.int .i64 fa,.slice ca cn cc]:=rfl
 rw [hval]
 clear hval
 obtain ⟨w2y,hW3⟩:∃ W3,w2x.alloc (.cells #[.int .i64 fc,.string (bs lp),.string (bs ln),.string (bs op),.string (bs on),.string (bs fp),.int .i64 fa,.slice ca cn cc] 30)=W3:=⟨_,rfl⟩
 have HCw2y:Hid (Below w2.heap.size w2 w2y):=by
  show Below w2.heap.size w2 w2y
  rw [← hW3];exact bstep HCw2x.out (balloc _ _)
 have HF3:Hid (FK w2y w.heap.size zFv):=HFw2.out.later HCw2y.out
 have HW3:Hid (FK w2y w2x.heap.size ⟨fc,⟨lp,ln⟩,⟨op,on⟩,fp,fa,ca,cn,cc⟩):=by
  show FK w2y w2x.heap.size ⟨fc,⟨lp,ln⟩,⟨op,on⟩,fp,fa,ca,cn,cc⟩
  rw [← hW3];exact FK.new _ ⟨fc,⟨lp,ln⟩,⟨op,on⟩,fp,fa,ca,cn,cc⟩
 cases bx with
 | true=>
  go_upto_region 3 with fail
  try rw [hW3]
  clear hW3
  obtain ⟨z0,z1,z2,z3,z4,z5,z6,z7⟩:=HF3.out.get
  have y0:=HF3.out.soft 0
  have y1:=HF3.out.soft 1
  have y2:=HF3.out.soft 2
  have y3:=HF3.out.soft 3
  have y4:=HF3.out.soft 4
  have y5:=HF3.out.soft 5
  have y6:=HF3.out.soft 6
  have y7:=HF3.out.soft 7
  obtain ⟨u0,u1,u2,u3,u4,u5,u6,u7⟩:=HW3.out.get
  go_wp2_with fail
  have HP:=putF_only w2y w.heap.size ⟨fc,⟨lp,ln⟩,⟨op,on⟩,fp,fa,ca,cn,cc⟩
  refine bodyPost_ret (results_ct rfl _ _ w.heap.size 30 #[.int .i64 fc,.string (bs lp),.string (bs ln),.string (bs op),.string (bs on),.string (bs fp),.int .i64 fa,.slice ca cn cc] (0,0) _ rfl (HF3.out.set ⟨fc,⟨lp,ln⟩,⟨op,on⟩,fp,fa,ca,cn,cc⟩).blk Tryz.underlying30 rfl (by kernel_rfl)) rfl ?_
  unfold FltP
  have hbb:=bstep HBw2.out HCw2y.out
  have e0:fltP l N E c=(Fv.pf ⟨fc,⟨lp,ln⟩,⟨op,on⟩,fp,fa,ca,cn,cc⟩ [],true):=by
   unfold fltP;rw [HFX.out.2,HFX.out.1];rfl
  rw [e0]
  exact ⟨⟨fc,⟨lp,ln⟩,⟨op,on⟩,fp,fa,ca,cn,cc⟩,rfl,FvIs.bare HNI.out,below_trans hbb (HP.below hbb.size (fun x hx=>by simp at hx;omega))⟩
 | false=>
  go_upto_region 3 with fail
  try rw [hW3]
  clear hW3 HW3 HF3 HCw2x HFw2x
  have HNO1:Hid (l.any (isBk l c)=false):=HFX.out.2
  clear HFX HNI
  go_wp2_with fail
  refine (HMI.out _ (bstep HBw2.out HCw2y.out) _ (HLS.out.later HCw2y.out)).mono ?_
  rintro e w2yx h
  unfold AskP at h
  obtain ⟨rfl,hbx⟩:=h
  have HCw2yx:Hid (Below w2.heap.size w2 w2yx):=bstep HCw2y.out hbx
  have HFw2yx:Hid (FK w2yx w.heap.size zFv):=HFw2.out.later HCw2yx.out
  clear hbx
  have HNI:=hid_of (fstF_bare (fd:=misB l) (misF_bare l) ns)
  obtain ⟨fx,hfx⟩:∃ fx,fstF (misB l) (misF l) ns=fx:=⟨_,rfl⟩
  obtain ⟨bx,hbx⟩:∃ bx,ns.any (misB l)=bx:=⟨_,rfl⟩
  have HFX:Hid (fstF (misB l) (misF l) ns=fx∧ns.any (misB l)=bx):=⟨hfx,hbx⟩
  rw [hfx] at HNI
  rw [hfx,hbx]
  clear hfx hbx
  obtain ⟨fc,⟨lp,ln⟩,⟨op,on⟩,fp,fa,ca,cn,cc⟩:=fx
  have hval:Fv.val ⟨fc,⟨lp,ln⟩,⟨op,on⟩,fp,fa,ca,cn,cc⟩=.agg #[.int .i64 fc,.string (bs lp),.string (bs ln),.string (bs op),.string (bs on),.string (bs fp),.int .i64 fa,.slice ca cn cc]:=rfl
  rw [hval]
  clear hval
  obtain ⟨w2yy,hW3⟩:∃ W3,w2yx.alloc (.cells #[.int .i64 fc,.string (bs lp),.string (bs ln),.string (bs op),.string (bs on),.string (bs fp),.int .i64 fa,.slice ca cn cc] 30)=W3:=⟨_,rfl⟩
  have HCw2yy:Hid (Below w2.heap.size w2 w2yy):=by
   show Below w2.heap.size w2 w2yy
   rw [← hW3];exact bstep HCw2yx.out (balloc _ _)
  have HF3:Hid (FK w2yy w.heap.size zFv):=HFw2.out.later HCw2yy.out
  have HW3:Hid (FK w2yy w2yx.heap.size ⟨fc,⟨lp,ln⟩,⟨op,on⟩,fp,fa,ca,cn,cc⟩):=by
   show FK w2yy w2yx.heap.size ⟨fc,⟨lp,ln⟩,⟨op,on⟩,fp,fa,ca,cn,cc⟩
   rw [← hW3];exact FK.new _ ⟨fc,⟨lp,ln⟩,⟨op,on⟩,fp,fa,ca,cn,cc⟩
  cases bx with
  | true=>
   go_upto_region 6 with fail
   try rw [hW3]
   clear hW3
   obtain ⟨z0,z1,z2,z3,z4,z5,z6,z7⟩:=HF3.out.get
   have y0:=HF3.out.soft 0
   have y1:=HF3.out.soft 1
   have y2:=HF3.out.soft 2
   have y3:=HF3.out.soft 3
   have y4:=HF3.out.soft 4
   have y5:=HF3.out.soft 5
   have y6:=HF3.out.soft 6
   have y7:=HF3.out.soft 7
   obtain ⟨u0,u1,u2,u3,u4,u5,u6,u7⟩:=HW3.out.get
   go_wp2_with fail
   have HP:=putF_only w2yy w.heap.size ⟨fc,⟨lp,ln⟩,⟨op,on⟩,fp,fa,ca,cn,cc⟩
   refine bodyPost_ret (results_ct rfl _ _ w.heap.size 30 #[.int .i64 fc,.string (bs lp),.string (bs ln),.string (bs op),.string (bs on),.string (bs fp),.int .i64 fa,.slice ca cn cc] (0,0) _ rfl (HF3.out.set ⟨fc,⟨lp,ln⟩,⟨op,on⟩,fp,fa,ca,cn,cc⟩).blk Tryz.underlying30 rfl (by kernel_rfl)) rfl ?_
   unfold FltP
   have hbb:=bstep HBw2.out HCw2yy.out
   have e0:fltP l N E c=(Fv.pf ⟨fc,⟨lp,ln⟩,⟨op,on⟩,fp,fa,ca,cn,cc⟩ [],true):=by
    unfold fltP;rw [HNO1.out,HNS.out,HFX.out.2,HFX.out.1];rfl
   rw [e0]
   exact ⟨⟨fc,⟨lp,ln⟩,⟨op,on⟩,fp,fa,ca,cn,cc⟩,rfl,FvIs.bare HNI.out,below_trans hbb (HP.below hbb.size (fun x hx=>by simp at hx;omega))⟩
  | false=>
   go_upto_region 6 with fail
   try rw [hW3]
   clear hW3 HW3 HF3 HCw2yx HFw2yx
   have HNO2:Hid (ns.any (misB l)=false):=HFX.out.2
   clear HFX HNI
   go_wp2_with fail
   refine (HCI.out _ (bstep HBw2.out HCw2yy.out)).mono ?_
   rintro e w6 ⟨cv,rfl,hco,hb⟩
   have HCw6:Hid (Below w2.heap.size w2 w6):=bstep HCw2yy.out hb
   have HF6:Hid (FK w6 w.heap.size zFv):=HFw2.out.later HCw6.out
   obtain ⟨qa,qc,hqv⟩:=hco.form
   obtain ⟨qn,hqn⟩:∃ qn,(cf.getD []).length=qn:=⟨_,rfl⟩
   rw [hqn] at hqv
   subst hqv
   have HCO:Hid (OwnL w.heap.size w6 (.slice qa qn qc) (cf.getD [])):=hco.mono (bstep HBw2.out HCw2yy.out).size
   have HCB:Hid (∀ k,(Value.slice qa qn qc).ownBlock=some k→w.heap.size < k):=fun k hk=>by
    have h1:=(hco.lt hk).1
    have h2:=HCw2yy.out.size
    have h3:=HFw2.out.lt
    omega
   clear hco hqn hb
   obtain ⟨bq,hbq⟩:∃ bq,cf.isSome=bq:=⟨_,rfl⟩
   have HBQ:Hid (cf.isSome=bq):=hbq
   rw [hbq]
   clear hbq
   cases bq with
   | true=>
    obtain ⟨z0,z1,z2,z3,z4,z5,z6,z7⟩:=HF6.out.get
    have y0:=HF6.out.soft 0
    have y1:=HF6.out.soft 1
    have y2:=HF6.out.soft 2
    have y3:=HF6.out.soft 3
    have y4:=HF6.out.soft 4
    have y5:=HF6.out.soft 5
    have y6:=HF6.out.soft 6
    have y7:=HF6.out.soft 7
    go_wp2_with fail
    have HP:=putF_only w6 w.heap.size ⟨3,⟨[],[]⟩,⟨[],[]⟩,[],0,qa,qn,qc⟩
    refine bodyPost_ret (results_ct rfl _ _ w.heap.size 30 #[.int .i64 3,.string (bs []),.string (bs []),.string (bs []),.string (bs []),.string (bs []),.int .i64 0,.slice qa qn qc] (0,0) _ rfl (HF6.out.set ⟨3,⟨[],[]⟩,⟨[],[]⟩,[],0,qa,qn,qc⟩).blk Tryz.underlying30 rfl (by kernel_rfl)) rfl ?_
    unfold FltP
    have hbb:=bstep HBw2.out HCw6.out
    have e0:fltP l N E c=(⟨3,⟨[],[]⟩,⟨[],[]⟩,[],0,cf.getD []⟩,true):=by
     unfold fltP;rw [HNO1.out,HNS.out,HNO2.out,HCF.out,HBQ.out];rfl
    rw [e0]
    refine ⟨⟨3,⟨[],[]⟩,⟨[],[]⟩,[],0,qa,qn,qc⟩,rfl,⟨rfl,?_⟩,below_trans hbb (HP.below hbb.size (fun x hx=>by simp at hx;omega))⟩
    exact OwnL.only HCO.out HP (fun k hk e=>by
     have h1:=HCB.out k hk
     simp at e
     omega)
   | false=>
    go_wp2_with fail
    refine (HUN.out _ (bstep HBw2.out HCw6.out) _ (HLS.out.later HCw6.out)).mono ?_
    rintro e w7 h
    unfold AskP at h
    obtain ⟨rfl,hb⟩:=h
    have HCw7:Hid (Below w2.heap.size w2 w7):=bstep HCw6.out hb
    have HF7:Hid (FK w7 w.heap.size zFv):=HFw2.out.later HCw7.out
    have HNI:=hid_of (fstF_bare (fd:=unsB l) (unsF_bare l) ns)
    obtain ⟨fx,hfx⟩:∃ fx,fstF (unsB l) (unsF l) ns=fx:=⟨_,rfl⟩
    obtain ⟨bx,hbx⟩:∃ bx,ns.any (unsB l)=bx:=⟨_,rfl⟩
    have HFX:Hid (fstF (unsB l) (unsF l) ns=fx∧ns.any (unsB l)=bx):=⟨hfx,hbx⟩
    rw [hfx] at HNI
    rw [hfx,hbx]
    clear hfx hbx hb HF6
    obtain ⟨fc,⟨lp,ln⟩,⟨op,on⟩,fp,fa,ca,cn,cc⟩:=fx
    have hval:Fv.val ⟨fc,⟨lp,ln⟩,⟨op,on⟩,fp,fa,ca,cn,cc⟩=.agg #[.int .i64 fc,.string (bs lp),.string (bs ln),.string (bs op),.string (bs on),.string (bs fp),.int .i64 fa,.slice ca cn cc]:=rfl
    rw [hval]
    clear hval
    obtain ⟨z0,z1,z2,z3,z4,z5,z6,z7⟩:=HF7.out.get
    have y0:=HF7.out.soft 0
    have y1:=HF7.out.soft 1
    have y2:=HF7.out.soft 2
    have y3:=HF7.out.soft 3
    have y4:=HF7.out.soft 4
    have y5:=HF7.out.soft 5
    have y6:=HF7.out.soft 6
    have y7:=HF7.out.soft 7
    go_wp2_with fail
    have HP:=putF_only w7 w.heap.size ⟨fc,⟨lp,ln⟩,⟨op,on⟩,fp,fa,ca,cn,cc⟩
    refine bodyPost_ret (results_ct rfl _ _ w.heap.size 30 #[.int .i64 fc,.string (bs lp),.string (bs ln),.string (bs op),.string (bs on),.string (bs fp),.int .i64 fa,.slice ca cn cc] (0,0) _ rfl (HF7.out.set ⟨fc,⟨lp,ln⟩,⟨op,on⟩,fp,fa,ca,cn,cc⟩).blk Tryz.underlying30 rfl (by kernel_rfl)) rfl ?_
    unfold FltP
    have hbb:=bstep HBw2.out HCw7.out
    have e0:fltP l N E c=(Fv.pf ⟨fc,⟨lp,ln⟩,⟨op,on⟩,fp,fa,ca,cn,cc⟩ [],bx):=by
     unfold fltP;rw [HNO1.out,HNS.out,HNO2.out,HCF.out,HBQ.out,HFX.out.1,HFX.out.2];rfl
    rw [e0]
    exact ⟨⟨fc,⟨lp,ln⟩,⟨op,on⟩,fp,fa,ca,cn,cc⟩,rfl,FvIs.bare HNI.out,below_trans hbb (HP.below hbb.size (fun x hx=>by simp at hx;omega))⟩
end Go.Proofs.YtkheacknelbcnaaGreatDoor
