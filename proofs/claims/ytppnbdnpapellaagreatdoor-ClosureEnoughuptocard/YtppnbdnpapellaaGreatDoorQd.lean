import Derived.Test.YtppnbdnpapellaaGreatDoorJQp
set_option maxRecDepth 100000
set_option maxHeartbeats 16000000
namespace Go.Proofs.YtppnbdnpapellaaGreatDoor
open Go.RowKit Go.Maps
theorem QB.only {G:Nat→Prop} {q:Nat} {w w':World} {v:Value} {l l':List Lb} (hb:Boxed w q 107 v) (ho:OwnQ G w v l) (ho':OwnL 0 w' v l') (hon:Only (bl v) w w'):QB G w' q l':=by
 refine ⟨v,(hon.block q hb.lt (fun hm=>?_)).trans hb,ho',ho.2⟩
 exact box_ne ho.1 hb (by unfold bl at hm;simpa using hm)
theorem up_any {G:Nat→Prop} {w:World} {q:Nat} {l:List Lb} (h:QB G w q l) (hbase:NewG G w) (hu:∀ x∈l,Lu x) (hl:l.length≤2000000) (j:Nat) (hj:j < l.length) (hI:UpI (fA l) l.length j) :
  Calls Tryz.prog 100 #[.iface 109 (.pointer (some ⟨q,0,none⟩)),.int .i64 (j:Int)] w fun e w'=>e=.returned (.tuple #[])∧∃ l',QB G w' q l'∧l'.Perm l∧HO (fA l') l'.length∧QX q G w w':=by
 have H:Hid (QB G w q l∧NewG G w∧(∀ x∈l,Lu x)∧UpI (fA l) l.length j∧j < l.length∧l.length≤2000000):=⟨h,hbase,hu,hI,hj,hl⟩
 have hjl:j≤2000000:=by omega
 clear h hbase hu hI hj hl
 go_enter Tryz.func100,Tryz.ntmps100
 go_wp2_with fail
 go_loopw [1] (fun s1 wr=>∃ (i:Nat) (m:List Lb),s1=.int .i64 i∧i < m.length∧QB G wr q m∧m.Perm l∧UpI (fA m) m.length i∧QX q G w wr) (fun s1 _=>(intOf s1).toNat)
 case atStart=>exact ⟨j,l,rfl,H.out.2.2.2.2.1,H.out.1,.refl _,H.out.2.2.2.1,OnlyP.refl _ _⟩
 case round=>
  obtain ⟨i,m,rfl,hi,hQ,hp,hI,hb⟩:=hrel
  obtain ⟨v,hv,ho⟩:=hQ
  have hc:=hv.cell
  have hml:m.length≤2000000:=by rw [hp.length_eq];exact H.out.2.2.2.2.2
  have HX:Hid (i < m.length∧Boxed wr q 107 v∧OwnQ G wr v m∧m.Perm l∧UpI (fA m) m.length i∧QX q G w wr∧(∀ x∈m,Lu x)∧NewG G wr):=⟨hi,hv,ho,hp,hI,hb,fun x hx=>H.out.2.2.1 x (hp.mem_iff.1 hx),H.out.2.1.mono hb.size⟩
  have hi2:i≤2000000:=by omega
  clear hv ho hp hI hb hi
  obtain ⟨pi,hpi⟩:∃ pi,par i=pi:=⟨_,rfl⟩
  have hq:((i:Int) - 1).tdiv 2=(pi:Int):=by
   rw [← hpi];unfold par
   by_cases h0:i=0
   ·subst h0;rfl
   ·rw [show ((i:Int) - 1)=((i - 1:Nat):Int) by omega]
    rfl
  have hpl:pi≤i:=by rw [← hpi];unfold par;omega
  by_cases h0:i=0
  ·subst h0
   obtain rfl:pi=0:=by omega
   go_wp2_with fail
   go_end0
   exact ⟨rfl,m,⟨v,HX.out.2.1,HX.out.2.2.1⟩,HX.out.2.2.2.1,HX.out.2.2.2.2.1.done (.inl rfl),HX.out.2.2.2.2.2.1⟩
  ·have hpl2:pi < i:=by rw [← hpi];unfold par;omega
   have HP:Hid (par i=pi∧0 < i):=⟨hpi,by omega⟩
   obtain ⟨av,cv,hvv⟩:=HX.out.2.2.1.1.form
   subst hvv
   have HL:Hid (Calls Tryz.prog 317 #[.slice av m.length cv,.int .i64 (i:Int),.int .i64 (pi:Int)] wr fun e w'=>e=.returned (.bool (ltL (fA m i) (fA m pi)))∧Below wr.heap.size wr w'):=qless_any HX.out.2.2.1.1.rs HX.out.2.2.2.2.2.2.1 i pi HX.out.1 (by have:=HX.out.1;omega)
   have hne:((pi:Int) == (i:Int))=false:=by rw [beq_eq_false_iff_ne];omega
   have hm1:=m_less q _ wr hc
   obtain ⟨bb,hbb⟩:∃ bb,ltL (fA m i) (fA m pi)=bb:=⟨_,rfl⟩
   rw [hbb] at HL
   have HBB:Hid (ltL (fA m i) (fA m pi)=bb):=hbb
   clear hbb hpi h0
   cases bb
   ·go_wp2_with fail
    refine HL.out.mono ?_
    rintro e w2 ⟨rfl,hb2⟩
    have HB2:Hid (Below wr.heap.size wr w2):=hb2
    clear hb2
    go_wp2_with fail
    go_end0
    refine ⟨rfl,m,QB.later ⟨_,HX.out.2.1,HX.out.2.2.1⟩ HB2.out,HX.out.2.2.2.1,HX.out.2.2.2.2.1.done (.inr ?_),QX.trans HX.out.2.2.2.2.2.1 (QX.of (HB2.out))⟩
    rw [HP.out.1];exact HBB.out
   ·go_wp2_with fail
    refine HL.out.mono ?_
    rintro e w2 ⟨rfl,hb2⟩
    have hbx2:Boxed w2 q 107 (.slice av m.length cv):=(hb2.block q HX.out.2.1.lt).trans HX.out.2.1
    have ho2:=HX.out.2.2.1.later hb2
    have hm2:=m_swap q _ w2 hbx2.cell
    have HB2:Hid (Below wr.heap.size wr w2∧Boxed w2 q 107 (.slice av m.length cv)∧OwnQ G w2 (.slice av m.length cv) m):=⟨hb2,hbx2,ho2⟩
    have HS:Hid (Calls Tryz.prog 318 #[.slice av m.length cv,.int .i64 (pi:Int),.int .i64 (i:Int)] w2 fun e w'=>e=.returned (.tuple #[])∧OwnL 0 w' (.slice av m.length cv) (swL m pi i)∧Only (bl (.slice av m.length cv)) w2 w'):=qswap_any ho2.1 pi i (by have:=HX.out.1;omega) HX.out.1
    clear hb2 hbx2 ho2 hm1
    go_wp2_with fail
    refine HS.out.mono ?_
    rintro e w3 ⟨rfl,ho3,hon3⟩
    have HQ3:Hid (QB G w3 q (swL m pi i)∧QX q G w w3):=by
     refine ⟨QB.only HB2.out.2.1 HB2.out.2.2 ho3 hon3,?_⟩
     have h1:QX q G w w2:=QX.trans HX.out.2.2.2.2.2.1 (QX.of (HB2.out.1))
     exact QX.trans h1 (QX.own HB2.out.2.2 hon3)
    clear ho3 hon3 hm2
    go_wp2_with fail
    go_roundw
    case rel=>
     refine ⟨pi,swL m pi i,rfl,by rw [swL_len];have:=HX.out.1;omega,HQ3.out.1,(swL_perm m pi i (by have:=HX.out.1;omega) HX.out.1).trans HX.out.2.2.2.1,?_,HQ3.out.2⟩
     rw [swL_len]
     have h5:=HX.out.2.2.2.2.1.step HP.out.2 HX.out.1 (by rw [HP.out.1];exact HBB.out)
     rw [HP.out.1] at h5
     exact h5.congr (fun k hk=>(fA_sw (by have:=HX.out.1;omega) HX.out.1 k hk).symm) (by have:=HX.out.1;omega)
    case measure=>simp [intOf];omega
theorem down_any {G:Nat→Prop} {w:World} {q:Nat} {l:List Lb} (h:QB G w q l) (hbase:NewG G w) (hu:∀ x∈l,Lu x) (hl:l.length≤2000000) (n:Nat) (hn:n≤l.length) (hI:DnI (fA l) n 0) :
  Calls Tryz.prog 101 #[.iface 109 (.pointer (some ⟨q,0,none⟩)),.int .i64 0,.int .i64 (n:Int)] w fun e w'=>(∃ x,e=.returned x)∧∃ l',QB G w' q l'∧l'.Perm l∧l'.length=l.length∧(∀ k,n≤k→fA l' k=fA l k)∧HO (fA l') n∧QX q G w w':=by
 have H:Hid (QB G w q l∧NewG G w∧(∀ x∈l,Lu x)∧DnI (fA l) n 0∧n≤l.length∧l.length≤2000000):=⟨h,hbase,hu,hI,hn,hl⟩
 have hnl:n≤2000000:=by omega
 clear h hbase hu hI hn hl
 go_enter Tryz.func101,Tryz.ntmps101
 go_wp2_with fail
 go_loopw [7] (fun s7 wr=>∃ (i:Nat) (m:List Lb),s7=.int .i64 i∧i≤2000000∧QB G wr q m∧m.Perm l∧m.length=l.length∧(∀ k,n≤k→fA m k=fA l k)∧DnI (fA m) n i∧QX q G w wr∧(i < n∨i=0)) (fun s7 _=>n - (intOf s7).toNat)
 case atStart=>exact ⟨0,l,rfl,by omega,H.out.1,.refl _,rfl,fun _ _=>rfl,H.out.2.2.2.1,OnlyP.refl _ _,.inr rfl⟩
 case round=>
  obtain ⟨i,m,rfl,hi2,hQ,hp,hlen,hrest,hI,hb,hin⟩:=hrel
  obtain ⟨v,hv,ho⟩:=hQ
  have hc:=hv.cell
  have HX:Hid (n≤m.length∧Boxed wr q 107 v∧OwnQ G wr v m∧m.Perm l∧DnI (fA m) n i∧QX q G w wr∧(∀ x∈m,Lu x)∧NewG G wr∧m.length=l.length∧(∀ k,n≤k→fA m k=fA l k)):=⟨by rw [hlen];exact H.out.2.2.2.2.1,hv,ho,hp,hI,hb,fun x hx=>H.out.2.2.1 x (hp.mem_iff.1 hx),H.out.2.1.mono hb.size,hlen,hrest⟩
  clear hv ho hp hI hb hlen hrest hin
  obtain ⟨av,cv,hvv⟩:=HX.out.2.2.1.1.form
  obtain ⟨ml,hml⟩:∃ ml,m.length=ml:=⟨_,rfl⟩
  rw [hml] at hvv
  subst hvv
  have HML:Hid (m.length=ml):=hml
  clear hml
  have kw:IntKind.i64.wrap (2 * (i:Int)+1)=2 * (i:Int)+1:=by rw [IntKind.wrap_i64];omega
  by_cases hj1:2 * i+1 < n
  ·obtain ⟨j1,hj1e⟩:∃ j1:Nat,2 * i+1=j1:=⟨_,rfl⟩
   have hj1i:2 * (i:Int)+1=(j1:Int):=by omega
   rw [hj1i] at kw
   rw [hj1e] at hj1
   have g1:¬ (n:Int)≤(j1:Int):=by omega
   have g2:decide ((n:Int)≤(j1:Int))=false:=decide_eq_false g1
   have g3:¬ (j1:Int) < 0:=by omega
   have g4:decide ((j1:Int) < 0)=false:=decide_eq_false g3
   by_cases hj2:j1+1 < n
   ·have g5:(j1:Int)+1 < (n:Int):=by omega
    have g6:decide ((j1:Int)+1 < (n:Int))=true:=decide_eq_true g5
    have HL1:Hid (Calls Tryz.prog 317 #[.slice av ml cv,.int .i64 ((j1:Int)+1),.int .i64 (j1:Int)] wr fun e w'=>e=.returned (.bool (ltL (fA m (j1+1)) (fA m j1)))∧Below wr.heap.size wr w'):=qless_any HX.out.2.2.1.1.rs HX.out.2.2.2.2.2.2.1 (j1+1) j1 (by have:=HX.out.1;omega) (by have:=HX.out.1;omega)
    have hm1:=m_less q _ wr hc
    obtain ⟨b1,hb1e⟩:∃ b1,ltL (fA m (j1+1)) (fA m j1)=b1:=⟨_,rfl⟩
    rw [hb1e] at HL1
    have HB1E:Hid (ltL (fA m (j1+1)) (fA m j1)=b1):=hb1e
    clear hb1e
    cases b1
    ·go_wp2_with fail
     refine HL1.out.mono ?_
     rintro e w4 ⟨rfl,hb4⟩
     have HW:Hid (Boxed w4 q 107 (.slice av ml cv)∧OwnQ G w4 (.slice av ml cv) m∧QX q G w w4∧NewG G w4):=⟨(hb4.block q HX.out.2.1.lt).trans HX.out.2.1,HX.out.2.2.1.later hb4,QX.trans HX.out.2.2.2.2.2.1 (QX.of (hb4)),HX.out.2.2.2.2.2.2.2.1.mono hb4.size⟩
     clear hb4 hm1
     have HMN:Hid (Mn (fA m) n i (j1)):=⟨by omega,by omega,by unfold par;omega,fun k h0 hk hpk=>by
       have hk2:k=j1∨k=j1+1:=by unfold par at hpk;omega
       rcases hk2 with rfl | rfl
       ·exact leL_refl _
       ·exact HB1E.out⟩
     have HL2:Hid (Calls Tryz.prog 317 #[.slice av ml cv,.int .i64 ((j1:Int)),.int .i64 (i:Int)] w4 fun e w'=>e=.returned (.bool (ltL (fA m (j1)) (fA m i)))∧Below w4.heap.size w4 w'):=qless_any HW.out.2.1.1.rs HX.out.2.2.2.2.2.2.1 (j1) i (by have:=HX.out.1;omega) (by have:=HX.out.1;omega)
     have hm2:=m_less q _ w4 HW.out.1.cell
     obtain ⟨b2,hb2e⟩:∃ b2,ltL (fA m (j1)) (fA m i)=b2:=⟨_,rfl⟩
     rw [hb2e] at HL2
     have HB2E:Hid (ltL (fA m (j1)) (fA m i)=b2):=hb2e
     clear hb2e
     cases b2
     ·go_wp2_with fail
      refine HL2.out.mono ?_
      rintro e w5 ⟨rfl,hb5⟩
      have HB5:Hid (Below w4.heap.size w4 w5):=hb5
      clear hb5
      go_wp2_with fail
      go_ret
      refine ⟨⟨_,rfl⟩,m,QB.later ⟨_,HW.out.1,HW.out.2.1⟩ HB5.out,HX.out.2.2.2.1,HX.out.2.2.2.2.2.2.2.2.1,HX.out.2.2.2.2.2.2.2.2.2,HX.out.2.2.2.2.1.done (fun k h0 hk hpk=>?_),QX.trans HW.out.2.2.1 (QX.of (HB5.out))⟩
      exact leL_trans HB2E.out (HMN.out.min k h0 hk hpk)
     ·go_wp2_with fail
      refine HL2.out.mono ?_
      rintro e w5 ⟨rfl,hb5⟩
      have hbx5:Boxed w5 q 107 (.slice av ml cv):=(hb5.block q HW.out.1.lt).trans HW.out.1
      have ho5:=HW.out.2.1.later hb5
      have hm5:=m_swap q _ w5 hbx5.cell
      have HB5:Hid (Below w4.heap.size w4 w5∧Boxed w5 q 107 (.slice av ml cv)∧OwnQ G w5 (.slice av ml cv) m):=⟨hb5,hbx5,ho5⟩
      have HS:Hid (Calls Tryz.prog 318 #[.slice av ml cv,.int .i64 (i:Int),.int .i64 ((j1:Int))] w5 fun e w'=>e=.returned (.tuple #[])∧OwnL 0 w' (.slice av ml cv) (swL m i (j1))∧Only (bl (.slice av ml cv)) w5 w'):=qswap_any ho5.1 i (j1) (by have:=HX.out.1;omega) (by have:=HX.out.1;omega)
      clear hb5 hbx5 ho5 hm2
      go_wp2_with fail
      refine HS.out.mono ?_
      rintro e w6 ⟨rfl,ho6,hon6⟩
      have HQ6:Hid (QB G w6 q (swL m i (j1))∧QX q G w w6):=by
       refine ⟨QB.only HB5.out.2.1 HB5.out.2.2 ho6 hon6,?_⟩
       exact QX.trans (QX.trans HW.out.2.2.1 (QX.of (HB5.out.1))) (QX.own HB5.out.2.2 hon6)
      clear ho6 hon6 hm5
      go_wp2_with fail
      go_roundw
      case rel=>
       have hml2:=HX.out.1
       refine ⟨j1,swL m i (j1),by first | rfl | go_num,by omega,HQ6.out.1,(swL_perm m i (j1) (by omega) (by omega)).trans HX.out.2.2.2.1,by rw [swL_len];exact HX.out.2.2.2.2.2.2.2.2.1,fun k hk=>?_,?_,HQ6.out.2,.inl (by omega)⟩
       ·rw [← HX.out.2.2.2.2.2.2.2.2.2 k hk]
        by_cases hkl:k < m.length
        ·rw [fA_sw (by omega) (by omega) k hkl]
         unfold swF
         rw [if_neg (by omega),if_neg (by omega)]
        ·unfold fA
         simp only [List.getD,List.getElem?_eq_none (show (swL m i (j1)).length≤k by rw [swL_len];omega),List.getElem?_eq_none (show m.length≤k by omega)]
       ·exact (HX.out.2.2.2.2.1.step HMN.out HB2E.out).congr (fun k hk=>(fA_sw (by omega) (by omega) k (by omega)).symm) (.inl (by omega))
      case measure=>simp [intOf];omega
    ·go_wp2_with fail
     refine HL1.out.mono ?_
     rintro e w4 ⟨rfl,hb4⟩
     have HW:Hid (Boxed w4 q 107 (.slice av ml cv)∧OwnQ G w4 (.slice av ml cv) m∧QX q G w w4∧NewG G w4):=⟨(hb4.block q HX.out.2.1.lt).trans HX.out.2.1,HX.out.2.2.1.later hb4,QX.trans HX.out.2.2.2.2.2.1 (QX.of (hb4)),HX.out.2.2.2.2.2.2.2.1.mono hb4.size⟩
     clear hb4 hm1
     have HMN:Hid (Mn (fA m) n i (j1+1)):=⟨by omega,by omega,by unfold par;omega,fun k h0 hk hpk=>by
       have hk2:k=j1∨k=j1+1:=by unfold par at hpk;omega
       rcases hk2 with rfl | rfl
       ·exact leL_of_lt HB1E.out
       ·exact leL_refl _⟩
     have HL2:Hid (Calls Tryz.prog 317 #[.slice av ml cv,.int .i64 ((j1:Int)+1),.int .i64 (i:Int)] w4 fun e w'=>e=.returned (.bool (ltL (fA m (j1+1)) (fA m i)))∧Below w4.heap.size w4 w'):=qless_any HW.out.2.1.1.rs HX.out.2.2.2.2.2.2.1 (j1+1) i (by have:=HX.out.1;omega) (by have:=HX.out.1;omega)
     have hm2:=m_less q _ w4 HW.out.1.cell
     obtain ⟨b2,hb2e⟩:∃ b2,ltL (fA m (j1+1)) (fA m i)=b2:=⟨_,rfl⟩
     rw [hb2e] at HL2
     have HB2E:Hid (ltL (fA m (j1+1)) (fA m i)=b2):=hb2e
     clear hb2e
     cases b2
     ·go_wp2_with fail
      refine HL2.out.mono ?_
      rintro e w5 ⟨rfl,hb5⟩
      have HB5:Hid (Below w4.heap.size w4 w5):=hb5
      clear hb5
      go_wp2_with fail
      go_ret
      refine ⟨⟨_,rfl⟩,m,QB.later ⟨_,HW.out.1,HW.out.2.1⟩ HB5.out,HX.out.2.2.2.1,HX.out.2.2.2.2.2.2.2.2.1,HX.out.2.2.2.2.2.2.2.2.2,HX.out.2.2.2.2.1.done (fun k h0 hk hpk=>?_),QX.trans HW.out.2.2.1 (QX.of (HB5.out))⟩
      exact leL_trans HB2E.out (HMN.out.min k h0 hk hpk)
     ·go_wp2_with fail
      refine HL2.out.mono ?_
      rintro e w5 ⟨rfl,hb5⟩
      have hbx5:Boxed w5 q 107 (.slice av ml cv):=(hb5.block q HW.out.1.lt).trans HW.out.1
      have ho5:=HW.out.2.1.later hb5
      have hm5:=m_swap q _ w5 hbx5.cell
      have HB5:Hid (Below w4.heap.size w4 w5∧Boxed w5 q 107 (.slice av ml cv)∧OwnQ G w5 (.slice av ml cv) m):=⟨hb5,hbx5,ho5⟩
      have HS:Hid (Calls Tryz.prog 318 #[.slice av ml cv,.int .i64 (i:Int),.int .i64 ((j1:Int)+1)] w5 fun e w'=>e=.returned (.tuple #[])∧OwnL 0 w' (.slice av ml cv) (swL m i (j1+1))∧Only (bl (.slice av ml cv)) w5 w'):=qswap_any ho5.1 i (j1+1) (by have:=HX.out.1;omega) (by have:=HX.out.1;omega)
      clear hb5 hbx5 ho5 hm2
      go_wp2_with fail
      refine HS.out.mono ?_
      rintro e w6 ⟨rfl,ho6,hon6⟩
      have HQ6:Hid (QB G w6 q (swL m i (j1+1))∧QX q G w w6):=by
       refine ⟨QB.only HB5.out.2.1 HB5.out.2.2 ho6 hon6,?_⟩
       exact QX.trans (QX.trans HW.out.2.2.1 (QX.of (HB5.out.1))) (QX.own HB5.out.2.2 hon6)
      clear ho6 hon6 hm5
      go_wp2_with fail
      go_roundw
      case rel=>
       have hml2:=HX.out.1
       refine ⟨j1+1,swL m i (j1+1),by first | rfl | go_num,by omega,HQ6.out.1,(swL_perm m i (j1+1) (by omega) (by omega)).trans HX.out.2.2.2.1,by rw [swL_len];exact HX.out.2.2.2.2.2.2.2.2.1,fun k hk=>?_,?_,HQ6.out.2,.inl (by omega)⟩
       ·rw [← HX.out.2.2.2.2.2.2.2.2.2 k hk]
        by_cases hkl:k < m.length
        ·rw [fA_sw (by omega) (by omega) k hkl]
         unfold swF
         rw [if_neg (by omega),if_neg (by omega)]
        ·unfold fA
         simp only [List.getD,List.getElem?_eq_none (show (swL m i (j1+1)).length≤k by rw [swL_len];omega),List.getElem?_eq_none (show m.length≤k by omega)]
       ·exact (HX.out.2.2.2.2.1.step HMN.out HB2E.out).congr (fun k hk=>(fA_sw (by omega) (by omega) k (by omega)).symm) (.inl (by omega))
      case measure=>simp [intOf];omega
   ·have g5:¬ (j1:Int)+1 < (n:Int):=by omega
    have g6:decide ((j1:Int)+1 < (n:Int))=false:=decide_eq_false g5
    have HW:Hid (Boxed wr q 107 (.slice av ml cv)∧OwnQ G wr (.slice av ml cv) m∧QX q G w wr∧NewG G wr):=⟨HX.out.2.1,HX.out.2.2.1,HX.out.2.2.2.2.2.1,HX.out.2.2.2.2.2.2.2.1⟩
    have HMN:Hid (Mn (fA m) n i (j1)):=⟨by omega,by omega,by unfold par;omega,fun k h0 hk hpk=>by
      have hk2:k=j1:=by unfold par at hpk;omega
      subst hk2
      exact leL_refl _⟩
    have HL2:Hid (Calls Tryz.prog 317 #[.slice av ml cv,.int .i64 ((j1:Int)),.int .i64 (i:Int)] wr fun e w'=>e=.returned (.bool (ltL (fA m (j1)) (fA m i)))∧Below wr.heap.size wr w'):=qless_any HW.out.2.1.1.rs HX.out.2.2.2.2.2.2.1 (j1) i (by have:=HX.out.1;omega) (by have:=HX.out.1;omega)
    have hm2:=m_less q _ wr HW.out.1.cell
    obtain ⟨b2,hb2e⟩:∃ b2,ltL (fA m (j1)) (fA m i)=b2:=⟨_,rfl⟩
    rw [hb2e] at HL2
    have HB2E:Hid (ltL (fA m (j1)) (fA m i)=b2):=hb2e
    clear hb2e
    cases b2
    ·go_wp2_with fail
     refine HL2.out.mono ?_
     rintro e w5 ⟨rfl,hb5⟩
     have HB5:Hid (Below wr.heap.size wr w5):=hb5
     clear hb5
     go_wp2_with fail
     go_ret
     refine ⟨⟨_,rfl⟩,m,QB.later ⟨_,HW.out.1,HW.out.2.1⟩ HB5.out,HX.out.2.2.2.1,HX.out.2.2.2.2.2.2.2.2.1,HX.out.2.2.2.2.2.2.2.2.2,HX.out.2.2.2.2.1.done (fun k h0 hk hpk=>?_),QX.trans HW.out.2.2.1 (QX.of (HB5.out))⟩
     exact leL_trans HB2E.out (HMN.out.min k h0 hk hpk)
    ·go_wp2_with fail
     refine HL2.out.mono ?_
     rintro e w5 ⟨rfl,hb5⟩
     have hbx5:Boxed w5 q 107 (.slice av ml cv):=(hb5.block q HW.out.1.lt).trans HW.out.1
     have ho5:=HW.out.2.1.later hb5
     have hm5:=m_swap q _ w5 hbx5.cell
     have HB5:Hid (Below wr.heap.size wr w5∧Boxed w5 q 107 (.slice av ml cv)∧OwnQ G w5 (.slice av ml cv) m):=⟨hb5,hbx5,ho5⟩
     have HS:Hid (Calls Tryz.prog 318 #[.slice av ml cv,.int .i64 (i:Int),.int .i64 ((j1:Int))] w5 fun e w'=>e=.returned (.tuple #[])∧OwnL 0 w' (.slice av ml cv) (swL m i (j1))∧Only (bl (.slice av ml cv)) w5 w'):=qswap_any ho5.1 i (j1) (by have:=HX.out.1;omega) (by have:=HX.out.1;omega)
     clear hb5 hbx5 ho5 hm2
     go_wp2_with fail
     refine HS.out.mono ?_
     rintro e w6 ⟨rfl,ho6,hon6⟩
     have HQ6:Hid (QB G w6 q (swL m i (j1))∧QX q G w w6):=by
      refine ⟨QB.only HB5.out.2.1 HB5.out.2.2 ho6 hon6,?_⟩
      exact QX.trans (QX.trans HW.out.2.2.1 (QX.of (HB5.out.1))) (QX.own HB5.out.2.2 hon6)
     clear ho6 hon6 hm5
     go_wp2_with fail
     go_roundw
     case rel=>
      have hml2:=HX.out.1
      refine ⟨j1,swL m i (j1),by first | rfl | go_num,by omega,HQ6.out.1,(swL_perm m i (j1) (by omega) (by omega)).trans HX.out.2.2.2.1,by rw [swL_len];exact HX.out.2.2.2.2.2.2.2.2.1,fun k hk=>?_,?_,HQ6.out.2,.inl (by omega)⟩
      ·rw [← HX.out.2.2.2.2.2.2.2.2.2 k hk]
       by_cases hkl:k < m.length
       ·rw [fA_sw (by omega) (by omega) k hkl]
        unfold swF
        rw [if_neg (by omega),if_neg (by omega)]
       ·unfold fA
        simp only [List.getD,List.getElem?_eq_none (show (swL m i (j1)).length≤k by rw [swL_len];omega),List.getElem?_eq_none (show m.length≤k by omega)]
      ·exact (HX.out.2.2.2.2.1.step HMN.out HB2E.out).congr (fun k hk=>(fA_sw (by omega) (by omega) k (by omega)).symm) (.inl (by omega))
     case measure=>simp [intOf];omega
  ·have g1:(n:Int)≤2 * (i:Int)+1:=by omega
   have g2:decide ((n:Int)≤2 * (i:Int)+1)=true:=decide_eq_true g1
   go_wp2_with fail
   go_ret
   refine ⟨⟨_,rfl⟩,m,⟨_,HX.out.2.1,HX.out.2.2.1⟩,HX.out.2.2.2.1,HX.out.2.2.2.2.2.2.2.2.1,HX.out.2.2.2.2.2.2.2.2.2,HX.out.2.2.2.2.1.done (fun k h0 hk hpk=>?_),HX.out.2.2.2.2.2.1⟩
   unfold par at hpk
   omega
end Go.Proofs.YtppnbdnpapellaaGreatDoor
