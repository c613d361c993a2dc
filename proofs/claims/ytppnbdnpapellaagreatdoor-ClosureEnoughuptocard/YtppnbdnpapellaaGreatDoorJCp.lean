import Derived.Test.YtppnbdnpapellaaGreatDoorJOe
import Derived.BigQuiet
import Derived.Test.YtppnbdnpapellaaGreatDoorJCo
import Derived.Test.YtppnbdnpapellaaGreatDoorJQp
import Derived.Test.YtppnbdnpapellaaGreatDoorJCq
set_option maxRecDepth 100000
set_option maxHeartbeats 16000000
namespace Go.Proofs.YtppnbdnpapellaaGreatDoor
section
open Go.RowKit Go.Maps
theorem order_any {w:World} {F:Nat→Prop} {g:Nat} {ns:List Lb} {out:Lb→List Lb} (h:GR w F g ns out) (hz:ns.length+2≤2000000) :
  Calls Tryz.prog 31 #[.pointer (some ⟨g,0,none⟩)] w fun e w'=>∃ v,e=.returned (.tuple #[v,.bool (Gs.ord (rs ns) (Eg ns out)).isSome])∧OwnL w.heap.size w' v ((Gs.ord (rs ns) (Eg ns out)).getD [])∧Below w.heap.size w w':=by
 have H:Hid (GR w F g ns out∧ns.length+2≤2000000):=⟨h,hz⟩
 obtain ⟨mm,hmc,_,hml,_,hlen,hlk⟩:=h.map
 obtain ⟨nl,hnl⟩:∃ nl,ns.length=nl:=⟨_,rfl⟩
 rw [hnl] at hlen hz
 have HM:Hid (w.cell? ⟨g,0,none⟩=some (.map (some mm))∧mm < w.heap.size∧g < w.heap.size∧ns.length=nl):=⟨hmc,hml,h.glt,hnl⟩
 have HLN:Hid (∀ w':World,w'.heap[mm]? = w.heap[mm]?→∀ ty,(Builtin.len_ #[104] ty #[.map (some mm)]).run Tryz.prog w'=.ok (.int .i64 nl) w'):=hlen
 have HLK:Hid (∀ a,Lu a→∃ v,OwnL 0 w v (out a)∧(∀ k,v.ownBlock=some k→F k)∧∀ w':World,w'.heap[mm]? = w.heap[mm]?→(Instr.lookup 104 (.map (some mm)) a.val false).run Tryz.prog w'=.ok v w'∧(Instr.lookup 104 (.map (some mm)) a.val true).run Tryz.prog w'=.ok (.tuple #[v,.bool (decide (a∈ns))]) w'):=hlk
 have HNR:Hid ((rs ns).length=nl):=(rs_len h).trans hnl
 have hz1:nl≤2000000:=by omega
 clear h hz hmc hml hlen hlk hnl
 go_enter Tryz.func31,Tryz.ntmps31
 go_wp2_with fail
 refine (back_any H.out.1 H.out.2).mono ?_
 rintro e w1 ⟨gb,Fb,nsb,outb,rfl,hgb,hFb,hmb,hob,hb1⟩
 have HOW:Hid (OW w w1 F g gb ns out Fb nsb outb):=⟨H.out.1,hb1,hgb,hmb,hob,H.out.2⟩
 clear hgb hFb hmb hob hb1
 have hmc1:=(HOW.out.b1.cell (p:=⟨g,0,none⟩) HM.out.2.2.1).trans HM.out.1
 have hl1:=HLN.out w1 (HOW.out.b1.block mm HM.out.2.1)
 have hmp:=make_M cI.und nl
 simp only [show cI.t=103 from rfl] at hmp
 obtain ⟨wB,hwB⟩:∃ wB,(w1.alloc (.map #[] 0)).alloc (.cells #[.slice none 0 0] 107)=wB:=⟨_,rfl⟩
 have HB:Hid (Below w1.heap.size w1 wB∧wB.heap.size=w1.heap.size+2∧MP cI wB w1.heap.size (fun _=>none) 0∧Boxed wB (w1.heap.size+1) 107 (.slice none 0 0)):=by
  rw [← hwB]
  refine ⟨bstep (balloc _ _) (balloc _ _),by simp,(MP.new cI w1).later (balloc _ _),?_⟩
  have:=Boxed.new (w1.alloc (.map #[] 0)) 107 (.slice none 0 0)
  simpa using this
 have HND:Hid (Calls Tryz.prog 55 #[.pointer (some ⟨g,0,none⟩)] wB fun e w'=>∃ v',e=.returned v'∧OwnL wB.heap.size w' v' (rs ns)∧Below wB.heap.size wB w'):=nodes_any ((H.out.1.later HOW.out.b1).later HB.out.1)
 go_wp2_with fail
 refine HND.out.mono ?_
 rintro e w2 ⟨v,rfl,hov,hb2⟩
 have HR:Hid (OR w w1 wB w2 v F g gb ns out Fb nsb outb):=⟨HOW.out,HB.out.1,hb2,hov,HB.out.2.1⟩
 have HI0:Hid (QS (g1 w2) w1.heap.size (w1.heap.size+1) ns (cF ns out 0) 0 [] w2):=by
  have hs2:=HR.out.s2
  refine ⟨(HB.out.2.2.1.later hb2).congr (fun k _=>by simp [cF]),⟨.slice none 0 0,(hb2.block _ HB.out.2.2.2.lt).trans HB.out.2.2.2,OwnL.nil _ _,fun k hk=>by cases hk⟩,?_,?_,?_,fun k hk=>hk,by simp⟩
  ·intro i h0 hi;simp at hi
  ·show ¬ w2.heap.size≤w1.heap.size;omega
  ·show ¬ w2.heap.size≤w1.heap.size+1;omega
 have HQ0:Hid (∀ a∈ns,Lu a):=H.out.1.lu
 obtain ⟨av,cv,hvv⟩:=hov.form
 clear hov hb2 hmc1 hl1 hmp hwB HB HND
 rw [HNR.out] at hvv
 subst hvv
 go_wp2_with fail
 go_loopw [24] (fun s24 wr=>∃ (k:Nat) (fl:List Lb),s24=.int .i64 k∧k≤nl∧QS (g1 w2) w1.heap.size (w1.heap.size+1) ns (cF ns out k) k fl wr∧fl.Nodup∧(∀ a,a∈fl↔a∈(rs ns).take k∧out a=[])∧OnlyP (oG w1 w2) w2 wr) (fun s24 _=>nl - (intOf s24).toNat)
 case atStart=>exact ⟨0,[],rfl,by omega,HI0.out,List.nodup_nil,by simp,OnlyP.refl _ _⟩
 case round=>
  obtain ⟨k,fl,rfl,hk,hQ,hfn,hfm,hon⟩:=hrel
  have HX:Hid (QS (g1 w2) w1.heap.size (w1.heap.size+1) ns (cF ns out k) k fl wr∧fl.Nodup∧(∀ a,a∈fl↔a∈(rs ns).take k∧out a=[])∧OnlyP (oG w1 w2) w2 wr):=⟨hQ,hfn,hfm,hon⟩
  clear hQ hfn hfm hon
  by_cases hlt:k < nl
  ·have hkl:k < (rs ns).length:=by rw [HNR.out];exact hlt
   obtain ⟨b,off,ea,hbw,d0,d1⟩:=LS.at (HR.out.list HX.out.2.2.2) (Below.refl _ wr) hkl
   subst ea
   obtain ⟨a,hae⟩:∃ a,(rs ns)[k]=a:=⟨_,rfl⟩
   have HA:Hid ((rs ns)[k]=a∧a∈ns∧Lu a):=by
    have hm:a∈ns:=by rw [← hae];exact (Gs.mem_ris _ _).1 (List.getElem_mem hkl)
    exact ⟨hae,hm,HQ0.out a hm⟩
   rw [hae] at d0 d1
   clear hae
   have k1:(k:Int) < (nl:Int):=by omega
   have hbr:=HR.out.below HX.out.2.2.2
   obtain ⟨va,hva,_,hlook⟩:=HLK.out a HA.out.2.2
   have hol:=H.out.1.olen a
   obtain ⟨ol,hole⟩:∃ ol,(out a).length=ol:=⟨_,rfl⟩
   obtain ⟨aa,ca,hvv⟩:=hva.form
   rw [hole] at hvv hol
   subst hvv
   rw [HM.out.2.2.2] at hol
   obtain ⟨w7,hrun7,hq7,ho7,hlk7⟩:=lp1_store HX.out.1 hkl (by omega) ((balloc wr (.cells #[.string (bs a.pkg),.string (bs a.name)] 27)).drew) HA.out.1 HA.out.2.2
   rw [hole] at hrun7 hlk7
   have hR7:RB w7 wr.heap.size a:=by
    have h1:=(RB.new wr a).later (bd _ 1)
    have hmbl:=HX.out.1.map.lt
    exact ⟨(ho7.block _ h1.lt (by simp;omega)).trans h1.blk⟩
   have HO7:Hid (OnlyP (oG w1 w2) w2 w7):=HX.out.2.2.2.trans ((OnlyP.of_below (balloc wr (.cells #[.string (bs a.pkg),.string (bs a.name)] 27)).drew (oG w1 w2)).trans (OnlyP.of_only (F:=oG w1 w2) ho7 (fun k hk _=>.inl (by simpa using hk))) (fun _ _ e=>e)) (fun _ _ e=>e)
   have HLE:Hid ((out a).length=ol):=hole
   have HQ7:Hid (QS (g1 w2) w1.heap.size (w1.heap.size+1) ns (cF ns out (k+1)) (k+1) fl w7):=hq7
   have HF:Hid (fl.length+1≤2000000):=by
    have:=Gs.nodup_sub fl ns HX.out.2.1 (fun x hx=>(Gs.mem_ris _ _).1 (List.mem_of_mem_take ((HX.out.2.2.1 x).1 hx).1))
    have:=H.out.2
    show fl.length+1≤2000000
    omega
   have HP:Hid (Calls Tryz.prog 62 #[.iface 109 (.pointer (some ⟨w1.heap.size+1,0,none⟩)),.iface 27 a.val] w7 fun e w'=>e=.returned (.tuple #[])∧∃ fl',fl'.Perm (fl++[a])∧QS (g1 w2) w1.heap.size (w1.heap.size+1) ns (cF ns out (k+1)) (k+1) fl' w'∧OnlyP (oG w1 w2) w7 w'):=hpush_q HQ7.out HQ0.out HF.out a HA.out.2.1
   have HNA:Hid (a∉(rs ns).take k∧∀ x,x∈(rs ns).take (k+1)↔x∈(rs ns).take k∨x=a):=by
    refine ⟨by rw [← HA.out.1];exact nd_take (rs_nd ns) hkl,fun x=>?_⟩
    rw [List.take_succ_eq_append_getElem hkl,HA.out.1];simp
   have hmcA:=cell_alloc (.cells #[.string (bs a.pkg),.string (bs a.name)] 27) (Nat.lt_of_lt_of_le HM.out.2.2.1 hbr.size) ((hbr.cell (p:=⟨g,0,none⟩) HM.out.2.2.1).trans HM.out.1)
   have hlook':=(hlook (wr.alloc (.cells #[.string (bs a.pkg),.string (bs a.name)] 27)).drew ((heap_alloc_old wr (.cells #[.string (bs a.pkg),.string (bs a.name)] 27) (Nat.lt_of_lt_of_le HM.out.2.1 hbr.size)).trans (hbr.block mm HM.out.2.1))).1
   obtain ⟨c0,c1,_,_⟩:=hR7.cells
   clear hlook hva hbr hq7 ho7 hR7 hole
   obtain ⟨p,n⟩:=a
   simp only [Lb.val] at *
   go_wp2_with fail
   go_region
   by_cases h0:ol=0
   ·subst h0
    go_wp2_with fail
    refine HP.out.mono ?_
    rintro e w8 ⟨rfl,fl',hp8,hq8,ho8⟩
    have HZ:Hid (QS (g1 w2) w1.heap.size (w1.heap.size+1) ns (cF ns out (k+1)) (k+1) fl' w8∧fl'.Nodup∧(∀ a,a∈fl'↔a∈(rs ns).take (k+1)∧out a=[])∧OnlyP (oG w1 w2) w2 w8):=by
     refine ⟨hq8,hp8.nodup_iff.2 ?_,fun x=>?_,HO7.out.trans ho8 (fun _ _ e=>e)⟩
     ·rw [List.nodup_append]
      refine ⟨HX.out.2.1,by simp,?_⟩
      intro x hx y hy
      have:y=⟨p,n⟩:=by simpa using hy
      subst this
      rintro rfl
      exact HNA.out.1 ((HX.out.2.2.1 _).1 hx).1
     ·rw [hp8.mem_iff,List.mem_append,HX.out.2.2.1,HNA.out.2]
      constructor
      ·rintro (h | h)
       ·exact ⟨.inl h.1,h.2⟩
       ·have:x=⟨p,n⟩:=by simpa using h
        subst this
        exact ⟨.inr rfl,List.eq_nil_of_length_eq_zero HLE.out⟩
      ·rintro ⟨h1 | h1,h2⟩
       ·exact .inl ⟨h1,h2⟩
       ·exact .inr (by simpa using h1)
    clear hp8 hq8 ho8
    go_wp2_with fail
    go_roundw
    case rel=>exact ⟨k+1,fl',by go_num,by omega,HZ.out.1,HZ.out.2.1,HZ.out.2.2.1,HZ.out.2.2.2⟩
    case measure=>simp [intOf];omega
   ·have h0':¬ ((ol:Int)=0):=by omega
    go_wp2_with fail
    go_roundw
    case rel=>
     refine ⟨k+1,fl,by go_num,by omega,HQ7.out,HX.out.2.1,fun x=>?_,HO7.out⟩
     rw [HX.out.2.2.1,HNA.out.2]
     constructor
     ·rintro ⟨h1,h2⟩;exact ⟨.inl h1,h2⟩
     ·rintro ⟨h1 | h1,h2⟩
      ·exact ⟨h1,h2⟩
      ·subst h1
       have:=HLE.out
       rw [h2] at this
       exact absurd this.symm h0
    case measure=>simp [intOf];omega
  ·obtain rfl:nl=k:=by omega
   have HOI:Hid (OI ns out [] fl []):=OI.start HX.out.2.1 (fun a=>by
    rw [HX.out.2.2.1,List.take_of_length_le (by rw [HNR.out];omega)]
    rw [show (a∈rs ns↔a∈ns) from Gs.mem_ris _ _])
   have hbr:=HR.out.below HX.out.2.2.2
   have hmc5:=(hbr.cell (p:=⟨g,0,none⟩) HM.out.2.2.1).trans HM.out.1
   have hl5:=HLN.out wr (hbr.block mm HM.out.2.1)
   have hms:=make_L nl hz1
   have HL0:Hid (L2 w1 w2 (fun k=>w2.heap.size≤k∧k≠wr.heap.size) ns (cW ns out [] []) [] fl (.slice (some ⟨wr.heap.size,0,none⟩) 0 nl) (wr.alloc (.cells (mkC nl) 27))):=by
    have hq:=HX.out.1
    rw [show nl=ns.length from HM.out.2.2.2.symm] at hq
    have hq2:=hq.congr (fun k _=>cF_end (out:=out) (by rw [HNR.out,HM.out.2.2.2];exact Nat.le_refl _) k)
    have hsz:w2.heap.size≤wr.heap.size:=HX.out.2.2.2.size
    have hs1:(wr.alloc (.cells (mkC nl) 27)).heap.size=wr.heap.size+1:=by simp
    have hs2:=HR.out.s2
    refine ⟨hq2.only (Only.of_below (balloc wr (.cells (mkC nl) 27)) []) (by simp) (fun k hk hg=>⟨hg,by omega⟩) (fun e=>?_) (fun e=>?_) (fun k hk=>⟨by omega,by omega⟩),fun k hk=>hk.1,fun k hk e=>?_,(own_L nl hz1 wr).mono hsz,HX.out.2.2.2.trans (OnlyP.of_below (balloc wr _) (oG w1 w2)) (fun _ _ e=>e)⟩
    ·have:=e.1;omega
    ·have:=e.1;omega
    ·simp only [Value.ownBlock,Option.some.injEq] at hk
     exact e.2 hk.symm
   have HS2:Hid (w1.heap.size+2≤w2.heap.size):=HR.out.s2
   rename World=>w5
   clear HX HI0
   go_wp2_with fail
   go_loopw [9] (fun s9 wr=>∃ (G:Nat→Prop) (T fl:List Lb),L2 w1 w2 G ns (cW ns out T []) T fl s9 wr∧OI ns out T fl []) (fun s9 _=>nl - gslen s9)
   case atStart=>exact ⟨_,[],fl,HL0.out,HOI.out⟩
   case round=>
    clear HL0 HOI hbr hmc5 hl5 hms
    obtain ⟨G,T,fl,hL,hOI⟩:=hrel
    obtain ⟨at1,ct,hvv⟩:=hL.own.form
    obtain ⟨tl,htl⟩:∃ tl,T.length=tl:=⟨_,rfl⟩
    rw [htl] at hvv
    subst hvv
    have hTl:=T_len hOI
    have hFl:=fl_len hOI
    rw [HM.out.2.2.2,htl] at hTl
    rw [HM.out.2.2.2] at hFl
    obtain ⟨vq,hbq,hoq,hgq⟩:=hL.qs.que
    obtain ⟨aq,cq,hvq⟩:=hoq.form
    obtain ⟨fn,hfn⟩:∃ fn,fl.length=fn:=⟨_,rfl⟩
    rw [hfn] at hvq hFl
    subst hvq
    have hcq:=hbq.cell
    have HX:Hid (L2 w1 w2 G ns (cW ns out T []) T fl (.slice at1 tl ct) wr∧OI ns out T fl []∧T.length=tl∧fl.length=fn∧OwnL 0 wr (.slice aq fn cq) fl):=⟨hL,hOI,htl,hfn,hoq⟩
    clear hL hOI htl hfn hbq hoq hgq
    by_cases hlt2:0 < fn
    ·have hfl0:0 < fl.length:=by rw [HX.out.2.2.2.1];exact hlt2
     obtain ⟨b0,off,ea,hbw,d0,d1⟩:=LS.at HX.out.2.2.2.2.rs (Below.refl _ wr) hfl0
     subst ea
     obtain ⟨b,hbe⟩:∃ b,fl[0]=b:=⟨_,rfl⟩
     have HBB:Hid (fA fl 0=b∧b∈fl∧b∈ns∧Lu b∧∀ x∈fl,leL b x):=by
      have hm:b∈fl:=by rw [← hbe];exact List.getElem_mem hfl0
      have hn:=((HX.out.2.1.fm b).1 hm).1
      refine ⟨(fA_get hfl0).trans hbe,hm,hn,HQ0.out b hn,fun x hx=>?_⟩
      obtain ⟨i,hi,rfl⟩:=List.getElem_of_mem hx
      have:=HX.out.1.qs.heap.min i hi
      rw [fA_get hfl0,fA_get hi,hbe] at this
      exact this
     rw [hbe] at d0 d1
     clear hbe
     have k1:(0:Int) < (fn:Int):=by omega
     have HLA:Hid (L2 w1 w2 (fun k=>G k∧k≠wr.heap.size) ns (cW ns out T []) T fl (.slice at1 tl ct) (wr.alloc (.cells #[.string (bs b.pkg),.string (bs b.name)] 27))):=HX.out.1.box _
     have HRB:Hid (RB (wr.alloc (.cells #[.string (bs b.pkg),.string (bs b.name)] 27)) wr.heap.size b):=RB.new wr b
     have HPP:Hid (Calls Tryz.prog 63 #[.iface 109 (.pointer (some ⟨w1.heap.size+1,0,none⟩))] (wr.alloc (.cells #[.string (bs b.pkg),.string (bs b.name)] 27)) fun e w'=>(∃ x,e=.returned x)∧∃ fl',(fl'++[fA fl 0]).Perm fl∧L2 w1 w2 (fun k=>G k∧k≠wr.heap.size) ns (cW ns out T []) T fl' (.slice at1 tl ct) w'∧OnlyP (oF (fun k=>G k∧k≠wr.heap.size) w1.heap.size (w1.heap.size+1)) (wr.alloc (.cells #[.string (bs b.pkg),.string (bs b.name)] 27)) w'):=
      HLA.out.pop HS2.out HQ0.out (by have:=HX.out.2.2.2.1;omega) hfl0
     obtain ⟨p,n⟩:=b
     simp only [Lb.val] at *
     rename World=>w9
     have d0':w9.cell? ⟨b0,off,none⟩=some (.string (bs p)):=by simpa using d0
     have d1':w9.cell? ⟨b0,off+1,none⟩=some (.string (bs n)):=by simpa using d1
     clear d0 d1
     go_wp2_with fail
     refine HPP.out.mono ?_
     rintro e w10 ⟨⟨x,rfl⟩,fl',hp10,hL10,ho10⟩
     have HR10:Hid (RB w10 w9.heap.size ⟨p,n⟩):=by
      refine HRB.out.onlyP ho10 (fun e=>?_)
      have:=HX.out.1.on.size
      have:=HS2.out
      rcases e with e | e | e
      ·omega
      ·omega
      ·exact e.2 rfl
     rw [HBB.out.1] at hp10
     have HL10:Hid (L2 w1 w2 (fun k=>G k∧k≠w9.heap.size) ns (cW ns out T []) T fl' (.slice at1 tl ct) w10∧(fl'++[(⟨p,n⟩:Lb)]).Perm fl):=⟨hL10,hp10⟩
     obtain ⟨c0,c1,_,_⟩:=HR10.out.cells
     simp only at c0 c1
     have hsz10:w2.heap.size≤w10.heap.size:=hL10.on.size
     clear hL10 hp10 ho10 d0' d1' hcq
     go_wp2_with (first | (at_builtin;refine app_L1 und_L ⟨p,n⟩ HL10.out.1.own (by have:=HX.out.2.2.1;omega) hsz10 rfl (.tmp 60) (.tmp 62) rfl rfl rfl ?_;intro v' w11 ho11 hb11 hon11 hs11 hwh11;obtain ⟨at2,ct2,hvv'⟩:=ho11.form;subst hvv'))
     have hlen1:(T++[(⟨p,n⟩:Lb)]).length=T.length+1:=by simp
     rw [hlen1] at ho11 hwh11
     obtain ⟨vl,hvl⟩:∃ vl,T.length+1=vl:=⟨_,rfl⟩
     rw [hvl] at ho11 hwh11 hlen1 ⊢
     have hpop:=OI.pop HR.out.gr.gf HX.out.2.1 HBB.out.2.2.2.2 HL10.out.2 (P:=outb ⟨p,n⟩) (fun a=>HOW.out.ob ⟨p,n⟩ a)
     have HL11:Hid (L2 w1 w2 (fun k=>(G k∧k≠w9.heap.size)∧(Value.slice at2 vl ct2).ownBlock≠some k) ns (cW ns out (T++[⟨p,n⟩]) (outb ⟨p,n⟩)) (T++[⟨p,n⟩]) fl' (.slice at2 vl ct2) w11):=
      (HL10.out.1.told HS2.out ho11 hon11 hwh11).congr (fun k _=>by unfold cW;rw [hpop.2.1 k])
     have HO11:Hid (OI ns out (T++[⟨p,n⟩]) fl' (outb ⟨p,n⟩)∧(∀ a∈outb ⟨p,n⟩,a∈ns∧a∉T++[⟨p,n⟩])∧(T++[(⟨p,n⟩:Lb)]).length=vl):=⟨hpop.1,hpop.2.2,hlen1⟩
     have hR11:RB w11 w9.heap.size ⟨p,n⟩:=⟨(hon11.block _ HR10.out.lt (fun hm=>by
      have h1:=(HX.out.1.own.lt (k:=w9.heap.size) (by simpa using hm)).2
      omega)).trans HR10.out.blk⟩
     obtain ⟨e0,e1,_,_⟩:=hR11.cells
     simp only at e0 e1
     have hbl:Below w1.heap.size w1 w11:=HR.out.below1 HL11.out.on
     obtain ⟨m2,hmc2,_,hml2,_,_,hlk2⟩:=HOW.out.gb.map
     obtain ⟨vb,hvb,_,hlook2⟩:=hlk2 ⟨p,n⟩ HBB.out.2.2.2.1
     have hmc11:=(hbl.cell (p:=⟨gb,0,none⟩) HOW.out.gb.glt).trans hmc2
     have hlook11:∀ j,(Instr.lookup 104 (.map (some m2)) (.agg #[.string (bs p),.string (bs n)]) false).run Tryz.prog (w11.drewN j)=.ok vb (w11.drewN j):=fun j=>(hlook2 (w11.drewN j) (hbl.block m2 hml2)).1
     have hol:=Nat.le_trans (HOW.out.gb.olen ⟨p,n⟩) HOW.out.gb.sz
     obtain ⟨ol,hole⟩:∃ ol,(outb ⟨p,n⟩).length=ol:=⟨_,rfl⟩
     obtain ⟨ab,cb,hvv⟩:=hvb.form
     rw [hole] at hvv hol
     subst hvv
     have HVB:Hid (LS w1 (.slice ab ol cb) (outb ⟨p,n⟩)∧(outb ⟨p,n⟩).length=ol):=⟨hvb.rs,hole⟩
     clear hlk2 hlook2 hvb hole hbl hmc2 hml2 hpop ho11 hb11 hon11 hs11 hwh11 hR11 hvl hlen1 c0 c1 hsz10
     go_wp2_with fail
     go_quiet (fail)
     go_wp2_with fail
     have HL12:Hid (∀ j,L2 w1 w2 (fun k=>(G k∧k≠w9.heap.size)∧(Value.slice at2 vl ct2).ownBlock≠some k) ns (cW ns out (T++[⟨p,n⟩]) (outb ⟨p,n⟩)) (T++[⟨p,n⟩]) fl' (.slice at2 vl ct2) (w11.drewN j)):=fun j=>HL11.out.later (bd w11 j)
     generalize (fun k=>(G k∧k≠w9.heap.size)∧(Value.slice at2 vl ct2).ownBlock≠some k)=G2 at HL12
     clear e0 e1 hmc11 hlook11
     go_loopw [71] (fun s71 wr=>∃ (j:Nat) (fl3:List Lb),s71=.int .i64 j∧j≤ol∧L2 w1 w2 G2 ns (cW ns out (T++[⟨p,n⟩]) ((outb ⟨p,n⟩).drop j)) (T++[⟨p,n⟩]) fl3 (.slice at2 vl ct2) wr∧OI ns out (T++[⟨p,n⟩]) fl3 ((outb ⟨p,n⟩).drop j)) (fun s71 _=>ol - (intOf s71).toNat)
     case atStart=>exact ⟨0,fl',rfl,by omega,by simpa using HL12.out _,by simpa using HO11.out.1⟩
     case round=>
      obtain ⟨j,fl3,rfl,hj,hLj,hOj⟩:=hrel
      have HY:Hid (L2 w1 w2 G2 ns (cW ns out (T++[⟨p,n⟩]) ((outb ⟨p,n⟩).drop j)) (T++[⟨p,n⟩]) fl3 (.slice at2 vl ct2) wr∧OI ns out (T++[⟨p,n⟩]) fl3 ((outb ⟨p,n⟩).drop j)):=⟨hLj,hOj⟩
      clear hLj hOj
      by_cases hjl:j < ol
      ·have hjl2:j < (outb ⟨p,n⟩).length:=by rw [HVB.out.2];exact hjl
       obtain ⟨b2,off2,ea,hbw2,d0,d1⟩:=LS.at (HVB.out.1.later (HR.out.below1 HY.out.1.on)) (Below.refl _ wr) hjl2
       subst ea
       obtain ⟨x,hxe⟩:∃ x,(outb ⟨p,n⟩)[j]=x:=⟨_,rfl⟩
       have hdr:=List.drop_eq_getElem_cons hjl2
       rw [hxe] at hdr
       have HXX:Hid (x∈ns∧Lu x∧x∉T++[⟨p,n⟩]∧x∉(outb ⟨p,n⟩).drop (j+1)):=by
        have hm:x∈outb ⟨p,n⟩:=by rw [← hxe];exact List.getElem_mem hjl2
        have h3:=HO11.out.2.1 x hm
        have hnd:((outb ⟨p,n⟩).drop j).Nodup:=(Gs.Ris.nodup stoL (HOW.out.gb.up ⟨p,n⟩)).sublist (List.drop_sublist _ _)
        rw [hdr] at hnd
        exact ⟨h3.1,HQ0.out x h3.1,h3.2,(List.nodup_cons.1 hnd).1⟩
       rw [hxe] at d0 d1
       rw [hdr] at HY
       clear hxe hdr
       have k2:(j:Int) < (ol:Int):=by omega
       obtain ⟨P,hP⟩:∃ P,(outb ⟨p,n⟩).drop (j+1)=P:=⟨_,rfl⟩
       have HPE:Hid ((outb ⟨p,n⟩).drop (j+1)=P):=hP
       rw [hP] at HY HXX
       clear hP
       obtain ⟨v0,st,w19,hlu,hent,hest,hL19,ho19,hlu2⟩:=L2.count HY.out.1 HS2.out HXX.out.2.2.2 HXX.out.1 HXX.out.2.1 (by rw [HM.out.2.2.2];exact hz1) (wA:=(wr.alloc (.cells #[.string (bs x.pkg),.string (bs x.name)] 27)).drew) (balloc _ _).drew
       obtain ⟨W,hW⟩:∃ W,wt out (T++[⟨p,n⟩]) P x=W:=⟨_,rfl⟩
       have hWl:W≤2000001:=by
        rw [← hW]
        unfold wt
        have h1:=List.countP_le_length (l:=out x) (p:=fun c=>!decide (c∈T++[⟨p,n⟩]))
        have h2:=H.out.1.olen x
        have h3:=HM.out.2.2.2
        split<;>omega
       rw [hW] at hlu hest hlu2
       have hent':(Instr.mapEntry 103 (.map (some w1.heap.size)) x.val).run Tryz.prog (wr.alloc (.cells #[.string (bs x.pkg),.string (bs x.name)] 27)).drew=.ok (.tuple #[v0,.int .i64 (st:Int)]) (wr.alloc (.cells #[.string (bs x.pkg),.string (bs x.name)] 27)).drew:=hent
       have hest':(Instr.entryStore 103 (.map (some w1.heap.size)) (.int .i64 (st:Int)) (.int .i64 (W:Int))).run Tryz.prog (wr.alloc (.cells #[.string (bs x.pkg),.string (bs x.name)] 27)).drew=.ok () w19:=hest
       clear hent hest
       have HWE:Hid (wt out (T++[⟨p,n⟩]) P x=W):=hW
       clear hW
       have hR19:RB w19 wr.heap.size x:=by
        have h1:=(RB.new wr x).later (bd _ 1)
        have hmbl:=HY.out.1.qs.map.lt
        exact ⟨(ho19.block _ h1.lt (by simp;omega)).trans h1.blk⟩
       obtain ⟨c0,c1,_,_⟩:=hR19.cells
       have HF3:Hid (fl3.length+1≤2000000):=by
        have:=fl_len HY.out.2
        have:=H.out.2
        show fl3.length+1≤2000000
        omega
       have HP3:Hid (Calls Tryz.prog 62 #[.iface 109 (.pointer (some ⟨w1.heap.size+1,0,none⟩)),.iface 27 x.val] w19 fun e w'=>e=.returned (.tuple #[])∧∃ fl',fl'.Perm (fl3++[x])∧L2 w1 w2 G2 ns (cW ns out (T++[⟨p,n⟩]) P) (T++[⟨p,n⟩]) fl' (.slice at2 vl ct2) w'∧OnlyP (oF G2 w1.heap.size (w1.heap.size+1)) w19 w'):=hL19.push HS2.out HQ0.out HF3.out x HXX.out.1
       have HL19:Hid (L2 w1 w2 G2 ns (cW ns out (T++[⟨p,n⟩]) P) (T++[⟨p,n⟩]) fl3 (.slice at2 vl ct2) w19):=hL19
       have HMO:Hid ((wt out (T++[⟨p,n⟩]) P x≠0→OI ns out (T++[⟨p,n⟩]) fl3 P)∧(wt out (T++[⟨p,n⟩]) P x=0→∀ fl':List Lb,fl'.Perm (fl3++[x])→OI ns out (T++[⟨p,n⟩]) fl' P)):=OI.more HY.out.2 HXX.out.2.2.2 HXX.out.1 HXX.out.2.2.1
       clear hL19 ho19 hR19
       obtain ⟨q,m⟩:=x
       simp only [Lb.val] at *
       go_wp2_with fail
       go_region
       by_cases h0:W=0
       ·subst h0
        go_wp2_with fail
        refine HP3.out.mono ?_
        rintro e w20 ⟨rfl,fl4,hp4,hl4,_⟩
        have HL20:Hid (L2 w1 w2 G2 ns (cW ns out (T++[⟨p,n⟩]) P) (T++[⟨p,n⟩]) fl4 (.slice at2 vl ct2) w20∧OI ns out (T++[⟨p,n⟩]) fl4 P):=⟨hl4,HMO.out.2 HWE.out fl4 hp4⟩
        clear hl4 hp4 c0 c1 d0 d1
        go_wp2_with fail
        go_roundw
        case rel=>exact ⟨j+1,fl4,by go_num,by omega,by rw [HPE.out];exact HL20.out.1,by rw [HPE.out];exact HL20.out.2⟩
        case measure=>simp [intOf];omega
       ·have h0':¬ ((W:Int)=0):=by omega
        go_wp2_with fail
        go_roundw
        case rel=>exact ⟨j+1,fl3,by go_num,by omega,by rw [HPE.out];exact HL19.out,by rw [HPE.out];exact HMO.out.1 (by rw [HWE.out];exact h0)⟩
        case measure=>simp [intOf];omega
      ·obtain rfl:ol=j:=by omega
       have HD:Hid ((outb ⟨p,n⟩).drop ol=[]):=List.drop_eq_nil_of_le (by rw [HVB.out.2];exact Nat.le_refl _)
       rw [HD.out] at HY
       go_wp2_with fail
       go_roundw
       case rel=>exact ⟨G2,T++[⟨p,n⟩],fl3,HY.out.1,HY.out.2⟩
       case measure=>
        have h1:=HO11.out.2.2
        have h2:=HX.out.2.2.1
        have h3:=T_len HO11.out.1
        have h4:=HM.out.2.2.2
        simp at h1 h3
        simp [gslen]
        omega
    ·obtain rfl:fn=0:=by omega
     have HE:Hid (fl=[]):=List.eq_nil_of_length_eq_zero HX.out.2.2.2.1
     have hbr:=HR.out.below HX.out.1.on
     have hmc5:=(hbr.cell (p:=⟨g,0,none⟩) HM.out.2.2.1).trans HM.out.1
     have hl5:=HLN.out wr (hbr.block mm HM.out.2.1)
     have HF:Hid (Gs.ord (rs ns) (Eg ns out)=if tl < nl then none else some T):=by
      have h1:=HX.out.2.1
      rw [HE.out] at h1
      have h2:=h1.last HR.out.gr.gf
      rw [HNR.out,HX.out.2.2.1] at h2
      exact h2
     have HBW:Hid (Below w.heap.size w wr):=hbr
     by_cases hT:tl < nl
     ·have hT':(tl:Int) < (nl:Int):=by omega
      go_wp2_with fail
      go_ret2
      rw [HF.out,if_pos hT]
      exact ⟨_,rfl,OwnL.nil _ _,HBW.out⟩
     ·have hT':¬ ((tl:Int) < (nl:Int)):=by omega
      go_wp2_with fail
      go_ret2
      rw [HF.out,if_neg hT]
      exact ⟨_,rfl,HX.out.1.own.mono (Nat.le_trans HOW.out.b1.size (by have:=HS2.out;omega)),HBW.out⟩
end
section
open Go.RowKit Go.Maps
theorem results_tmp_cell {fn:Func} {u p:Tmp} {ty:TypeId} (h:fn.results = #[.tmp u,.cell p ty]) (tmps:Array Value) (P:Program) (w:World) :
  (results fn tmps).run P w=((asAddr (tmps.getD p undef)).run P w).andThen fun a w'=>((loadVar ty a).run P w').andThen fun v w''=>.ok (.tuple #[tmps.getD u undef,v]) w'':=by
 simp only [results,h]
 simp [Sem.run_bind,Result.andThen]
theorem results_tc {P:Program} {fn:Func} {p u:Tmp} {ty:TypeId} (h:fn.results = #[.tmp u,.cell p ty]) (tmps:Array Value) (w:World) (g:Nat) (t:TypeId) (cs:Array Value) (fr:Nat×Nat) (d:TypeDesc)
  (hp:tmps.getD p undef=.pointer (some ⟨g,0,none⟩)) (hg:w.heap[g]? = some (.cells cs t fr))
  (hu:P.underlying ty=some d) (hd:(match d with | .struct _ | .array _ _=>true | _=>false)=true) (hi:(P.info? ty).map (·.size)=some cs.size) :
  (results fn tmps).run P w=.ok (.tuple #[tmps.getD u undef,.agg cs]) w:=by
 rw [results_tmp_cell h]
 rw [hp]
 simp only [asAddr,Sem.run_pure,Result.andThen_ok]
 rw [run_loadVar_row w g t ty cs fr d hg hu hd hi]
 rfl
def zPf:Pf:=⟨0,⟨[],[]⟩,⟨[],[]⟩,[],0,[]⟩
structure RchS (l:List Fl) (t N:List Lb) (E:List Ee) (c:List (List UInt8)):Prop where
 nn:∀ x,x∈N↔Rea l t x
 ee:∀ a b,(a,b)∈E↔Rea l t a∧b∈dpsL l a
 cc:∀ q,q∈c↔∃ a,Rea l t a∧a.pkg=q
def ndsP (l:List Fl) (N:List Lb) (E:List Ee):List Nd:=((Gs.ord (rs N) E).getD []).map (ndF (srcL l) (fun a=>rs (oE E a)))
noncomputable def bldP (l:List Fl) (t N:List Lb) (E:List Ee) (c:List (List UInt8)):List Nd×Pf:=
 if refE l t=0 then (if (fltP l N E c).2 then ([],(fltP l N E c).1) else (ndsP l N E,zPf))
 else ([],⟨refE l t,⟨[],[]⟩,⟨[],[]⟩,[],0,[]⟩)
def OfP (w:World) (l:List Fl) (t:List Lb) (e:Ending) (w':World):Prop:=
 ∃ nv fv N E c,e=.returned (.tuple #[nv,Fv.val fv])∧(refE l t=0→RchS l t N E c)∧NOwn w.heap.size w' nv (bldP l t N E c).1∧FvIs w.heap.size w' fv (bldP l t N E c).2∧Below w.heap.size w w'
theorem refE_ok {l:List Fl} {t:List Lb} (h:refE l t=0):validE l=0∧t.all okL=true:=by
 unfold refE at h
 by_cases hv:validE l=0
 ·rw [if_pos hv] at h
  refine ⟨hv,?_⟩
  cases e:t.all okL with
  | true=>rfl
  | false=>rw [e] at h;simp at h
 ·rw [if_neg hv] at h
  exact absurd h hv
theorem NOwn.kept {base:Nat} {w w':World} {v:Value} {l:List Nd} {S:List Nat} (h:NOwn base w v l) (ho:Only S w w') (hs:∀ k∈S,k < base):NOwn base w' v l:=by
 obtain ⟨a,h1,h2,h3,h4,h5⟩:=h.it
 exact ⟨a,h1.only ho (fun k hk e=>by have:=hs k e;have:=(h1.lt hk).1;omega),h2,fun i x y=>(h3 i x y).only ho (fun k hk e=>by have:=hs k e;have:=((h3 i x y).lt hk).1;omega),h4,h5⟩
theorem NOwn.mono {base base':Nat} {w:World} {v:Value} {l:List Nd} (h:NOwn base w v l) (hb:base'≤base):NOwn base' w v l:=by
 obtain ⟨a,h1,h2,h3,h4,h5⟩:=h.it
 exact ⟨a,h1.mono hb,h2,fun i x y=>⟨(h3 i x y).lab,(h3 i x y).s.mono hb,(h3 i x y).d.mono hb⟩,h4,h5⟩
theorem FvIs.mono {base base':Nat} {w:World} {v:Fv} {f:Pf} (h:FvIs base w v f) (hb:base'≤base):FvIs base' w v f:=⟨h.it,h.ci.mono hb⟩
theorem FvIs.kept {base:Nat} {w w':World} {v:Fv} {f:Pf} {S:List Nat} (h:FvIs base w v f) (ho:Only S w w') (hs:∀ k∈S,k < base):FvIs base w' v f:=
 ⟨h.it,h.ci.only ho (fun k hk e=>by have:=hs k e;have:=(h.ci.lt hk).1;omega)⟩
theorem FvIs.later {base:Nat} {w w':World} {v:Fv} {f:Pf} (h:FvIs base w v f) (hb:Below w.heap.size w w'):FvIs base w' v f:=⟨h.it,h.ci.later hb⟩
theorem PG.order {B:Nat} {w W:World} {g:Nat} {N:List Lb} {E:List Ee} (h:PG B w g N E) (hz:N.length+2≤2000000) (hb:Below w.heap.size w W):Ow2 31 #[.pointer (some ⟨g,0,none⟩)] W ((Gs.ord (rs N) E).getD []) (Gs.ord (rs N) E).isSome:=by
 obtain ⟨⟨F,ns,out,h1,h2,h3⟩,h4⟩:=h.later hb
 have hl:=h1.nlen h2
 have:=order_any h1 (by omega)
 rw [h2.ord_eq h1.gf] at this
 exact this
theorem ord_in {N:List Lb} {E:List Ee} {a:Lb} (h:a∈(Gs.ord (rs N) E).getD []):a∈N:=by
 cases e:Gs.ord (rs N) E with
 | none=>rw [e] at h;simp at h
 | some L=>
  rw [e] at h
  exact (Gs.mem_ris _ _).1 ((Gs.ordF_some _ _ _ (Gs.Tld.nil _ _) e).1.sub a h)
theorem ordL_len (N:List Lb) (E:List Ee):((Gs.ord (rs N) E).getD []).length≤N.length:=by
 cases e:Gs.ord (rs N) E with
 | none=>simp
 | some L=>
  have h1:=(Gs.ordF_some _ _ _ (Gs.Tld.nil _ _) e).2.1
  have h2:(rs N).length≤N.length:=Gs.ris_le N
  simp only [Option.getD_some,List.length_nil] at h1 ⊢
  omega
theorem valid_len {l:List Fl} (h:validE l=0):l.length≤512:=by
 have h1:=(validE_zero l).1 h
 unfold stand at h1
 simp only [Bool.and_eq_true,decide_eq_true_eq] at h1
 omega
structure OfB (l:List Fl) (t:List Lb):Prop where
 fq:FQ l
 fs:FSm l
 ll:l.length≤2000000
 tl:t.length≤1100000
 lm:∀ x∈t,Lm x
 ul:t.length+txt l≤1500000
theorem bof_any {w:World} {lv tv:Value} {l:List Fl} {t:List Lb} (E0:Ev w) (hf:FS w lv l) (ht:LS w tv t) (B:OfB l t) :
  Calls Tryz.prog 11 #[lv,tv] w (OfP w l t):=by
 have hmm:=@run_makeMap Tryz.prog
 have HRF:=hid_of (fun W (hW:Below w.heap.size w W)=>brefused_any (hf.later hW) B.fs (ht.later hW) B.lm (by have:=B.tl;omega))
 have HX:Hid (Ev w∧FS w lv l∧LS w tv t∧OfB l t):=⟨E0,hf,ht,B⟩
 obtain ⟨fa,fcp,hfv,_⟩:=hf.form
 obtain ⟨fn,hfn⟩:∃ fn,l.length=fn:=⟨_,rfl⟩
 rw [hfn] at hfv
 subst hfv
 obtain ⟨ta,tc,htv,-⟩:=ht.form
 obtain ⟨tn,htn⟩:∃ tn,t.length=tn:=⟨_,rfl⟩
 rw [htn] at htv
 subst htv
 obtain ⟨ev,hev⟩:∃ ev,refE l t=ev:=⟨_,rfl⟩
 have HEV:Hid (refE l t=ev):=hev
 rw [hev] at HRF
 clear E0 hf ht B hfn htn hev
 have HFw1:Hid (FK (w.alloc (.cells #[.int .i64 0,.string { data:=#[] },.string { data:=#[] },.string { data:=#[] },.string { data:=#[] },.string { data:=#[] },.int .i64 0,.slice none 0 0] 29)) w.heap.size zFv):=FK.new w zFv
 go_enter Tryz.func11,Tryz.ntmps11
 go_wp2_with fail
 refine (HRF.out _ (balloc _ _)).mono ?_
 rintro e w1 ⟨rfl,hb1⟩
 have HB1:Hid (Below w.heap.size w w1):=bstep (balloc _ _) hb1
 have HF1:Hid (FK w1 w.heap.size zFv):=HFw1.out.later hb1
 clear hb1 HFw1 HRF
 by_cases h0:ev=0
 ·subst h0
  have HU:=hid_of (uni_ok l t)
  obtain ⟨hv0,hal⟩:=refE_ok HEV.out
  have hll:l.length≤512:=valid_len hv0
  have HAL:Hid (t.all okL=true∧l.length≤512):=⟨hal,hll⟩
  have hul:=uni_le l t
  have hub:=HX.out.2.2.2.ul
  have HR2:Hid (RX w1 ((w1.alloc (.map #[] 0)).alloc (.cells #[.slice fa fn fcp,.map (some w1.heap.size)] 66)) (fun k=>k=w1.heap.size∨k=w1.heap.size+1) (w1.heap.size+1) l []):=by
   refine ⟨bstep (balloc _ _) (balloc _ _),fun k hk=>?_,?_⟩
   ·have hz2:((w1.alloc (.map #[] 0)).alloc (.cells #[.slice fa fn fcp,.map (some w1.heap.size)] 66)).heap.size=w1.heap.size+1+1:=by simp
    rcases hk with rfl | rfl<;>omega
   ·have hbk:=heap_alloc_new (w1.alloc (.map #[] 0)) (.cells #[.slice fa fn fcp,.map (some w1.heap.size)] 66)
    have hz:(w1.alloc (.map #[] 0)).heap.size=w1.heap.size+1:=by simp
    rw [hz] at hbk
    exact ⟨.slice fa fn fcp,w1.heap.size,fun _=>none,0,hbk,HX.out.2.1.later HB1.out,(MS.new w1).later (balloc _ _),Nat.zero_le _,by omega,.inr rfl,.inl rfl,(fun k x h=>by cases h),fun k=>by simp⟩
  have HRC:=hid_of (breached_any HR2.out (HX.out.1.later HB1.out) HX.out.2.2.2.fq (HX.out.2.2.1.later (bstep HB1.out (bstep (balloc _ _) (balloc _ _)))) HU.out (fun x hx=>by
   have h:=okL_small (uni_all HAL.out.1 x hx)
   exact ⟨⟨by omega,by omega⟩,by omega⟩) (by omega) (by omega) (by omega))
  clear hv0 hal hll hul hub HR2
  go_wp2_with fail
  refine HRC.out.mono ?_
  rintro e w3 h
  unfold RcP at h
  obtain ⟨g,N,E,R,c,rfl,hrx,⟨F,ns,out,hgr,hlnk,hF⟩,hN,hE,hnd,hed,hcl,hcc⟩:=h
  have hul:=uni_le l t
  have hub:=HX.out.2.2.2.ul
  have hNl:N.length≤1500000:=by
   have:=Gs.nodup_sub N (uniL l t) hnd (fun x hx=>HU.out.all x ((hN x).1 hx))
   omega
  have hEl:E.length≤1500000:=by
   have h1:=Gs.nodup_sub E (l.flatMap edgF) hed (fun e he=>by
    obtain ⟨x,y⟩:=e
    exact edg_mem ((hE x y).1 he).2)
   have h2:=edg_le l
   omega
  have hPG:PG w1.heap.size w3 g N E:=⟨⟨F,ns,out,hgr,hlnk,fun k hk=>(hF k hk).1⟩,fun e he=>by
   obtain ⟨x,y⟩:=e
   have h1:=(hE x y).1 he
   exact ⟨(hN x).2 h1.1,(hN y).2 (.step h1.1 h1.2)⟩⟩
  have hsm:∀ a∈N,Lu a∧Lm a∧a.pkg∈c∧a.pkg.length≤400000000∧∀ b∈dpsL l a,b∈N:=fun a ha=>by
   have h1:=(hN a).1 ha
   have h2:=okL_small (rea_ok HAL.out.1 h1)
   exact ⟨⟨by omega,by omega⟩,⟨by omega,by omega⟩,(hcc _).2 ⟨a,h1,rfl⟩,by omega,fun b hb=>(hN b).2 (.step h1 hb)⟩
  have htg:∀ a,(((tgtL l a).getD zT).srcs).length≤64∧(∀ s∈((tgtL l a).getD zT).srcs,s.length≤400000000)∧(dpsL l a).length≤1000∧((tgtL l a).getD zT).see.length≤1125899906842624∧∀ x∈((tgtL l a).getD zT).see,x.length≤1125899906842624:=fun a=>by
   obtain ⟨g1,g2,g3,g4,g5⟩:=tgt_small (l:=l) a
   exact ⟨g1,fun s hs=>by have:=g2 s hs;omega,by omega,by omega,fun x hx=>by have:=g5 x hx;omega⟩
  have HQ:Hid (RX w1 w3 R (w1.heap.size+1) l c∧PG w1.heap.size w3 g N E∧(∀ a∈N,Lu a∧Lm a∧a.pkg∈c∧a.pkg.length≤400000000∧∀ b∈dpsL l a,b∈N)∧(∀ a,(((tgtL l a).getD zT).srcs).length≤64∧(∀ s∈((tgtL l a).getD zT).srcs,s.length≤400000000)∧(dpsL l a).length≤1000∧((tgtL l a).getD zT).see.length≤1125899906842624∧∀ x∈((tgtL l a).getD zT).see,x.length≤1125899906842624)∧RchS l t N E c∧N.length≤1500000∧c.length≤1500000):=⟨hrx,hPG,hsm,htg,⟨hN,hE,hcc⟩,hNl,by omega⟩
  have HFL:=hid_of (bfault_any hrx (HX.out.1.later HB1.out) HX.out.2.2.2.fq (by omega) hPG (by omega) (by omega) hsm htg)
  have HOR:=hid_of (fun W (hW:Below w3.heap.size w3 W)=>hPG.order (by omega) hW)
  have HB3:Hid (Below w1.heap.size w1 w3):=hrx.bel
  have HF3:Hid (FK w3 w.heap.size zFv):=HF1.out.later hrx.bel
  clear hul hub hNl hEl hPG hsm htg hrx hgr hlnk hF hN hE hnd hed hcl hcc HRC
  go_wp2_with fail
  refine HFL.out.mono ?_
  rintro e w4 h
  unfold FltP at h
  obtain ⟨fv,rfl,his,hb4⟩:=h
  have HB4:Hid (Below w3.heap.size w3 w4):=hb4
  have HIS:Hid (FvIs w3.heap.size w4 fv (fltP l N E c).1):=his
  clear hb4 his HFL
  obtain ⟨bq,hbq⟩:∃ bq,(fltP l N E c).2=bq:=⟨_,rfl⟩
  have HBQ:Hid ((fltP l N E c).2=bq):=hbq
  rw [hbq]
  clear hbq
  obtain ⟨fc,⟨lp,ln⟩,⟨op,on⟩,fp,fa',ca,cn,cc⟩:=fv
  have hval:Fv.val ⟨fc,⟨lp,ln⟩,⟨op,on⟩,fp,fa',ca,cn,cc⟩=.agg #[.int .i64 fc,.string (bs lp),.string (bs ln),.string (bs op),.string (bs on),.string (bs fp),.int .i64 fa',.slice ca cn cc]:=rfl
  rw [hval]
  clear hval
  obtain ⟨w5,hw5⟩:∃ w5,w4.alloc (.cells #[.int .i64 fc,.string (bs lp),.string (bs ln),.string (bs op),.string (bs on),.string (bs fp),.int .i64 fa',.slice ca cn cc] 29)=w5:=⟨_,rfl⟩
  have HB5:Hid (Below w4.heap.size w4 w5):=by
   show Below w4.heap.size w4 w5
   rw [← hw5];exact balloc _ _
  have HF5:Hid (FK w5 w.heap.size zFv):=(HF3.out.later HB4.out).later HB5.out
  have HG5:Hid (FK w5 w4.heap.size ⟨fc,⟨lp,ln⟩,⟨op,on⟩,fp,fa',ca,cn,cc⟩):=by
   show FK w5 w4.heap.size ⟨fc,⟨lp,ln⟩,⟨op,on⟩,fp,fa',ca,cn,cc⟩
   rw [← hw5];exact FK.new _ ⟨fc,⟨lp,ln⟩,⟨op,on⟩,fp,fa',ca,cn,cc⟩
  have HWZ:Hid (w.heap.size < w1.heap.size):=HF1.out.lt
  cases bq with
  | true=>
   go_upto_region 8 with fail
   try rw [hw5]
   clear hw5
   refine wp_region_noPanic ?_
   refine wp_region_held_drew (S:=fun _=>True) (by kernel_rfl) trivial (fun hHeld=>?_)
   obtain ⟨wd,hwd⟩:∃ wd,w5.drew=wd:=⟨_,rfl⟩
   have HD:Hid (Below w5.heap.size w5 wd):=by
    show Below w5.heap.size w5 wd
    rw [← hwd];exact bd1 w5
   rw [hwd]
   clear hwd
   obtain ⟨z0,z1,z2,z3,z4,z5,z6,z7⟩:=(HF5.out.later HD.out).get
   have y0:=(HF5.out.later HD.out).soft 0
   have y1:=(HF5.out.later HD.out).soft 1
   have y2:=(HF5.out.later HD.out).soft 2
   have y3:=(HF5.out.later HD.out).soft 3
   have y4:=(HF5.out.later HD.out).soft 4
   have y5:=(HF5.out.later HD.out).soft 5
   have y6:=(HF5.out.later HD.out).soft 6
   have y7:=(HF5.out.later HD.out).soft 7
   obtain ⟨u0,u1,u2,u3,u4,u5,u6,u7⟩:=(HG5.out.later HD.out).get
   refine tkH 1 ⟨some 4,_,_,_,_,_⟩ ?v1 rfl (Or.inl ⟨by rfl,?y1⟩) ?r1
   case y1=>(intro w h;(try dsimp only at h);go_simp;try with_reducible rfl)
   try simp only [Act.put,sA,sB,sC]
   refine wpAnyH_ready (rs:=[0]) (by kernel_rfl) (by simp) ?_
   refine AllReadyH.cons (o:=⟨some 35,_,_,_,_,_⟩) rfl (fun K hK=>?_) AllReadyH.nil
   go_simp
   refine hK.out _ _ trivial (fun hHeld=>?_)
   clear hK K
   try simp only [sA,sB,sC]
   refine wpAnyH_ready (rs:=[2]) (by kernel_rfl) (by simp) ?_
   refine AllReadyH.cons (o:=⟨none,_,_,_,_,_⟩) rfl (fun K hK=>?_) AllReadyH.nil
   go_simp
   refine hK.out _ _ trivial (fun hHeld=>?_)
   clear hK K
   try simp only [sA,sB,sC]
   refine wpAnyH_done (by kernel_rfl) ?_ _
   refine NoPanic.normal ?_
   clear z0 z1 z2 z3 z4 z5 z6 z7 y0 y1 y2 y3 y4 y5 y6 y7 u0 u1 u2 u3 u4 u5 u6 u7
   go_wp2_with fail
   have HP:=putF_only wd w.heap.size ⟨fc,⟨lp,ln⟩,⟨op,on⟩,fp,fa',ca,cn,cc⟩
   refine bodyPost_ret (results_tc rfl _ _ w.heap.size 29 #[.int .i64 fc,.string (bs lp),.string (bs ln),.string (bs op),.string (bs on),.string (bs fp),.int .i64 fa',.slice ca cn cc] (0,0) _ rfl ((HF5.out.later HD.out).set ⟨fc,⟨lp,ln⟩,⟨op,on⟩,fp,fa',ca,cn,cc⟩).blk Tryz.underlying29 rfl (by kernel_rfl)) rfl ?_
   unfold OfP
   have hbb:=bstep (bstep (bstep (bstep HB1.out HB3.out) HB4.out) HB5.out) HD.out
   have hbz:=below_trans hbb (HP.below hbb.size (fun x hx=>by simp at hx;omega))
   have e0:bldP l t N E c=([],(fltP l N E c).1):=by
    unfold bldP;rw [HEV.out,if_pos rfl,HBQ.out,if_pos rfl]
   refine ⟨.slice none 0 0,⟨fc,⟨lp,ln⟩,⟨op,on⟩,fp,fa',ca,cn,cc⟩,N,E,c,rfl,fun _=>HQ.out.2.2.2.2.1,?_,?_,hbz⟩
   ·rw [e0];exact NOwn.nil _ _
   ·rw [e0]
    have h1:=((HIS.out.later HB5.out).later HD.out).kept HP (fun k hk=>by
     simp at hk
     have h2:=HB3.out.size
     have h3:=HWZ.out
     omega)
    exact h1.mono (bstep HB1.out HB3.out).size
  | false=>
   go_upto_region 9 with fail
   try rw [hw5]
   clear hw5
   go_wp2_with fail
   refine (HOR.out w5 (bstep HB4.out HB5.out)).mono ?_
   rintro e w6 ⟨ov,rfl,hoo,hb6⟩
   have HB36:Hid (Below w3.heap.size w3 w6):=bstep (bstep HB4.out HB5.out) hb6
   have HTO:=hid_of (btold_any (r:=w1.heap.size+1) (g:=g) (sf:=srcL l) (df:=fun a=>rs (oE E a)) hoo.rs (by have:=ordL_len N E;have:=HQ.out.2.2.2.2.2.1;omega) (fun W a hW ha=>bsrcs_known (HQ.out.1.later (bstep HB36.out hW)) (HX.out.1.later HB1.out) HX.out.2.2.2.fq HX.out.2.2.2.fs HAL.out.2 (by have:=HQ.out.2.2.2.2.2.2;omega) a (HQ.out.2.2.1 a (ord_in ha)).2.2.2.1 (HQ.out.2.2.1 a (ord_in ha)).2.2.1 (HQ.out.2.2.2.1 a).1 (HQ.out.2.2.2.1 a).2.1) (fun W a hW ha=>(HQ.out.2.1.later (bstep HB36.out hW)).outs a (HQ.out.2.2.1 a (ord_in ha)).1))
   obtain ⟨oa,oc,hov⟩:=hoo.form
   obtain ⟨oN,hoN⟩:∃ oN,((Gs.ord (rs N) E).getD []).length=oN:=⟨_,rfl⟩
   rw [hoN] at hov
   subst hov
   clear hoN hoo hb6
   obtain ⟨ob,hob⟩:∃ ob,(Gs.ord (rs N) E).isSome=ob:=⟨_,rfl⟩
   rw [hob]
   clear hob
   go_wp2_with fail
   refine HTO.out.mono ?_
   rintro e w7 ⟨nv,rfl,hno,hb7⟩
   have HB7:Hid (Below w3.heap.size w3 w7):=bstep HB36.out hb7
   have HF7:Hid (FK w7 w.heap.size zFv):=HF3.out.later HB7.out
   have HNO:Hid (NOwn w6.heap.size w7 nv (ndsP l N E)):=hno
   obtain ⟨na,ncp,hnv⟩:=hno.form
   obtain ⟨nN,hnN⟩:∃ nN,(((Gs.ord (rs N) E).getD []).map (ndF (srcL l) (fun a=>rs (oE E a)))).length=nN:=⟨_,rfl⟩
   rw [hnN] at hnv
   subst hnv
   clear hnN hno hb7 HTO
   obtain ⟨z0,z1,z2,z3,z4,z5,z6,z7⟩:=HF7.out.get
   have y0:=HF7.out.soft 0
   have y1:=HF7.out.soft 1
   have y2:=HF7.out.soft 2
   have y3:=HF7.out.soft 3
   have y4:=HF7.out.soft 4
   have y5:=HF7.out.soft 5
   have y6:=HF7.out.soft 6
   have y7:=HF7.out.soft 7
   go_wp2_with fail
   have HP:=putF_only w7 w.heap.size zFv
   refine bodyPost_ret (results_tc rfl _ _ w.heap.size 29 #[.int .i64 0,.string { data:=#[] },.string { data:=#[] },.string { data:=#[] },.string { data:=#[] },.string { data:=#[] },.int .i64 0,.slice none 0 0] (0,0) _ rfl (HF7.out.set zFv).blk Tryz.underlying29 rfl (by kernel_rfl)) rfl ?_
   unfold OfP
   have hbb:=bstep (bstep HB1.out HB3.out) HB7.out
   have hbz:=below_trans hbb (HP.below hbb.size (fun x hx=>by simp at hx;omega))
   have e0:bldP l t N E c=(ndsP l N E,zPf):=by
    unfold bldP;rw [HEV.out,if_pos rfl,HBQ.out];rfl
   have hlt:w.heap.size < w6.heap.size:=by
    have h1:=HB36.out.size
    have h2:=HB3.out.size
    have h3:=HWZ.out
    omega
   refine ⟨.slice na nN ncp,zFv,N,E,c,rfl,fun _=>HQ.out.2.2.2.2.1,?_,?_,hbz⟩
   ·rw [e0]
    exact (HNO.out.kept HP (fun k hk=>by simp at hk;omega)).mono (Nat.le_of_lt hlt)
   ·rw [e0];exact ⟨rfl,OwnL.nil _ _⟩
 ·have n1:(ev == 0)=false:=by simpa using h0
  have n2:decide (ev=0)=false:=by simpa using h0
  have HN0:Hid (ev≠0):=h0
  obtain ⟨z0,z1,z2,z3,z4,z5,z6,z7⟩:=HF1.out.get
  have y0:=HF1.out.soft 0
  have y1:=HF1.out.soft 1
  have y2:=HF1.out.soft 2
  have y3:=HF1.out.soft 3
  have y4:=HF1.out.soft 4
  have y5:=HF1.out.soft 5
  have y6:=HF1.out.soft 6
  have y7:=HF1.out.soft 7
  go_wp2_with fail
  have HP:=putF_only w1 w.heap.size ⟨ev,⟨[],[]⟩,⟨[],[]⟩,[],0,none,0,0⟩
  refine bodyPost_ret (results_tc rfl _ _ w.heap.size 29 #[.int .i64 ev,.string (bs []),.string (bs []),.string (bs []),.string (bs []),.string (bs []),.int .i64 0,.slice none 0 0] (0,0) _ rfl (HF1.out.set ⟨ev,⟨[],[]⟩,⟨[],[]⟩,[],0,none,0,0⟩).blk Tryz.underlying29 rfl (by kernel_rfl)) rfl ?_
  unfold OfP
  have hbb:=HB1.out
  have hbz:=below_trans hbb (HP.below hbb.size (fun x hx=>by simp at hx;omega))
  have e0:bldP l t [] [] []=([],⟨ev,⟨[],[]⟩,⟨[],[]⟩,[],0,[]⟩):=by
   unfold bldP;rw [HEV.out,if_neg HN0.out]
  refine ⟨.slice none 0 0,⟨ev,⟨[],[]⟩,⟨[],[]⟩,[],0,none,0,0⟩,[],[],[],rfl,fun h=>absurd (HEV.out.symm.trans h) HN0.out,?_,?_,hbz⟩
  ·rw [e0];exact NOwn.nil _ _
  ·rw [e0];exact ⟨rfl,OwnL.nil _ _⟩
end
end Go.Proofs.YtppnbdnpapellaaGreatDoor
