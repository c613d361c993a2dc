import Derived.Test.YtppnbdnpapellaaGreatDoorQd
import Derived.Test.YtppnbdnpapellaaGreatDoorJRw
set_option maxRecDepth 100000
set_option maxHeartbeats 16000000
namespace Go.Proofs.YtppnbdnpapellaaGreatDoor
section
open Go.RowKit Go.Maps
theorem hpush_any {G:Nat→Prop} {w:World} {q:Nat} {l:List Lb} (h:QB G w q l) (hbase:NewG G w) (hu:∀ x∈l,Lu x) (hl:l.length+1≤2000000) (hH:HO (fA l) l.length) (a:Lb) (ha:Lu a) :
  Calls Tryz.prog 62 #[.iface 109 (.pointer (some ⟨q,0,none⟩)),.iface 27 a.val] w fun e w'=>e=.returned (.tuple #[])∧∃ l',QB G w' q l'∧l'.Perm (l++[a])∧HO (fA l') l'.length∧QX q G w w':=by
 have HP:Hid (Calls Tryz.prog 320 #[.pointer (some ⟨q,0,none⟩),.iface 27 a.val] w fun e w'=>e=.returned (.tuple #[])∧QB G w' q (l++[a])∧QX q G w w'):=qpush_any h hbase hl a
 have HU:Hid (UpI (fA (l++[a])) (l++[a]).length l.length):=by
  refine ⟨fun k h0 hk hne=>?_,fun k h0 hk hp h1=>?_⟩
  ·have hkl:k < l.length:=by simp at hk;omega
   have hpk:par k < l.length:=by unfold par;omega
   have e1:∀ j,j < l.length→fA (l++[a]) j=fA l j:=fun j hj=>by
    rw [fA_get (by simp;omega),fA_get hj,List.getElem_append_left hj]
   rw [e1 k hkl,e1 _ hpk]
   exact hH k h0 hkl
  ·exfalso
   simp at hk
   unfold par at hp
   omega
 have H:Hid ((∀ x∈l++[a],Lu x)∧NewG G w∧l.length+1≤2000000):=⟨fun x hx=>by
  rcases List.mem_append.1 hx with hx | hx
  ·exact hu x hx
  ·have:x=a:=by simpa using hx
   rw [this];exact ha,hbase,hl⟩
 clear h hbase hu hl hH ha
 obtain ⟨p,n⟩:=a
 simp only [Lb.val] at HP ⊢
 have hmp:=m_push q
 go_enter Tryz.func62,Tryz.ntmps62
 go_wp2_with fail
 refine HP.out.mono ?_
 rintro e w1 ⟨rfl,hQ1,hb1⟩
 obtain ⟨v,hv,ho⟩:=id hQ1
 have hml:=m_len q _ w1 hv.cell
 obtain ⟨av,cv,hvv⟩:=ho.1.form
 rw [show (l++[(⟨p,n⟩:Lb)]).length=l.length+1 by simp] at hvv
 subst hvv
 have HUP:Hid (Calls Tryz.prog 100 #[.iface 109 (.pointer (some ⟨q,0,none⟩)),.int .i64 (l.length:Int)] w1 fun e w'=>e=.returned (.tuple #[])∧∃ l',QB G w' q l'∧l'.Perm (l++[⟨p,n⟩])∧HO (fA l') l'.length∧QX q G w1 w'):=up_any hQ1 (H.out.2.1.mono hb1.size) H.out.1 (by have:=H.out.2.2;simp;omega) l.length (by simp) HU.out
 have HB1:Hid (QX q G w w1):=hb1
 have HLN:Hid (Calls Tryz.prog 316 #[.slice av (l.length+1) cv] w1 fun e w'=>e=.returned (.int .i64 ((l.length:Int)+1))∧w'=w1):=(qlen_any w1 av (l.length+1) cv).mono fun e w' ⟨h1,h2⟩=>⟨by rw [h1];congr 2,h2⟩
 obtain ⟨k,hk⟩:∃ k,l.length=k:=⟨_,rfl⟩
 have hkl:k≤2000000:=by have:=H.out.2.2;omega
 rw [hk] at HUP HLN hml
 clear hQ1 hb1 hv ho hk hmp
 go_wp2_with fail
 refine HLN.out.mono ?_
 rintro e w2 ⟨rfl,rfl⟩
 go_wp2_with fail
 refine HUP.out.mono ?_
 rintro e w3 ⟨rfl,l',h1,h2,h3,h4⟩
 have HF:Hid (QB G w3 q l'∧l'.Perm (l++[⟨p,n⟩])∧HO (fA l') l'.length∧QX q G w w3):=⟨h1,h2,h3,QX.trans HB1.out h4⟩
 clear h1 h2 h3 h4
 go_wp2_with fail
 go_end0
 exact ⟨rfl,l',HF.out⟩
theorem hpop_any {G:Nat→Prop} {w:World} {q:Nat} {l:List Lb} (h:QB G w q l) (hbase:NewG G w) (hu:∀ x∈l,Lu x) (hl:l.length≤2000000) (hne:0 < l.length) (hH:HO (fA l) l.length) :
  Calls Tryz.prog 63 #[.iface 109 (.pointer (some ⟨q,0,none⟩))] w fun e w'=>(∃ x,e=.returned x)∧∃ l',QB G w' q l'∧(l'++[fA l 0]).Perm l∧HO (fA l') l'.length∧QX q G w w':=by
 obtain ⟨k,hk⟩:∃ k,l.length=k+1:=⟨l.length - 1,by omega⟩
 obtain ⟨v,hv,ho⟩:=h
 have hml:=m_len q _ w hv.cell
 have hms:=m_swap q _ w hv.cell
 obtain ⟨av,cv,hvv⟩:=ho.1.form
 rw [hk] at hvv
 subst hvv
 have HS:Hid (Calls Tryz.prog 318 #[.slice av (k+1) cv,.int .i64 0,.int .i64 (k:Int)] w fun e w'=>e=.returned (.tuple #[])∧OwnL 0 w' (.slice av (k+1) cv) (swL l 0 k)∧Only (bl (.slice av (k+1) cv)) w w'):=qswap_any ho.1 0 k (by omega) (by omega)
 have HLN:Hid (Calls Tryz.prog 316 #[.slice av (k+1) cv] w fun e w'=>e=.returned (.int .i64 ((k:Int)+1))∧w'=w):=(qlen_any w av (k+1) cv).mono fun e w' ⟨h1,h2⟩=>⟨by rw [h1];congr 2,h2⟩
 have HX:Hid (Boxed w q 107 (.slice av (k+1) cv)∧OwnQ G w (.slice av (k+1) cv) l∧True∧NewG G w∧(∀ x∈l,Lu x)∧l.length=k+1∧HO (fA l) l.length∧l.length≤2000000):=⟨hv,ho,trivial,hbase,hu,hk,hH,hl⟩
 have hkl:k≤2000000:=by omega
 clear hv ho hbase hu hH hl hne hk
 have hmp:=m_pop q
 go_enter Tryz.func63,Tryz.ntmps63
 go_wp2_with fail
 refine HLN.out.mono ?_
 rintro e w1 ⟨rfl,rfl⟩
 go_wp2_with fail
 refine HS.out.mono ?_
 rintro e w2 ⟨rfl,ho2,hon2⟩
 have hQ2:QB G w2 q (swL l 0 k):=QB.only HX.out.1 HX.out.2.1 ho2 hon2
 have hB2:QX q G w1 w2:=QX.own HX.out.2.1 hon2
 have hperm2:=swL_perm l 0 k (by have:=HX.out.2.2.2.2.2.1;omega) (by have:=HX.out.2.2.2.2.2.1;omega)
 have hD:DnI (fA (swL l 0 k)) k 0:=by
  have hlk:=HX.out.2.2.2.2.2.1
  refine ⟨fun j h0 hj hp=>?_,fun j h0 hj hp h1=>by omega⟩
  have e1:∀ j,0 < j→j < k→fA (swL l 0 k) j=fA l j:=fun j h0 hj=>by
   rw [fA_sw (by omega) (by omega) j (by omega)]
   unfold swF
   rw [if_neg (by omega),if_neg (by omega)]
  have hpj:par j < j:=by unfold par;omega
  rw [e1 j h0 hj,e1 (par j) (by omega) (by omega)]
  exact HX.out.2.2.2.2.2.2.1 j h0 (by omega)
 have HD:Hid (Calls Tryz.prog 101 #[.iface 109 (.pointer (some ⟨q,0,none⟩)),.int .i64 0,.int .i64 (k:Int)] w2 fun e w'=>(∃ x,e=.returned x)∧∃ l',QB G w' q l'∧l'.Perm (swL l 0 k)∧l'.length=(swL l 0 k).length∧(∀ j,k≤j→fA l' j=fA (swL l 0 k) j)∧HO (fA l') k∧QX q G w2 w'):=
  down_any hQ2 (HX.out.2.2.2.1.mono hB2.size) (fun x hx=>HX.out.2.2.2.2.1 x (hperm2.mem_iff.1 hx)) (by rw [swL_len];exact HX.out.2.2.2.2.2.2.2) k (by rw [swL_len];have:=HX.out.2.2.2.2.2.1;omega) hD
 have HB2:Hid (QX q G w1 w2∧(swL l 0 k).Perm l):=⟨hB2,hperm2⟩
 clear ho2 hon2 hQ2 hB2 hperm2 hD hml hms
 go_wp2_with fail
 refine HD.out.mono ?_
 rintro e w3 ⟨⟨x,rfl⟩,l3,h1,h2,h3,h4,h5,h6⟩
 have hl3:l3.length=k+1:=by rw [h3,swL_len];exact HX.out.2.2.2.2.2.1
 have HPO:Hid (Calls Tryz.prog 319 #[.pointer (some ⟨q,0,none⟩)] w3 fun e w'=>(∃ x,e=.returned x)∧QB G w' q (l3.take (l3.length - 1))∧QX q G w3 w'):=qpop_any h1 (by have:=HX.out.2.2.2.2.2.2.2;have:=HX.out.2.2.2.2.2.1;omega) (by omega)
 have HZ:Hid ((l3.take k++[fA l 0]).Perm l∧HO (fA (l3.take k)) (l3.take k).length∧QX q G w1 w3∧l3.length - 1=k):=by
  have hk3:k < l3.length:=by omega
  refine ⟨?_,?_,QX.trans HB2.out.1 h6,by omega⟩
  ·have e1:l3=l3.take k++[l3[k]]:=by
    conv=>lhs;rw [← List.take_append_drop k l3]
    rw [List.drop_eq_getElem_cons hk3,List.drop_eq_nil_of_le (by omega)]
   have e2:l3[k]=fA l 0:=by
    rw [← fA_get hk3,h4 k (Nat.le_refl _)]
    have hlk:=HX.out.2.2.2.2.2.1
    rw [fA_sw (by omega) (by omega) k (by omega)]
    unfold swF
    by_cases hk0:k=0
    ·rw [if_pos hk0,hk0]
    ·rw [if_neg hk0,if_pos rfl]
   rw [← e2,← e1]
   exact h2.trans HB2.out.2
  ·have hlt:(l3.take k).length=k:=by simp;omega
   rw [hlt]
   refine h5.congr (fun j hj=>?_)
   rw [fA_get (by omega),fA_get (by rw [hlt];exact hj),List.getElem_take]
 clear h1 h2 h3 h4 h5 h6 hl3
 go_wp2_with fail
 refine HPO.out.mono ?_
 rintro e w4 ⟨⟨y,rfl⟩,hQ4,hb4⟩
 rw [HZ.out.2.2.2] at hQ4
 have HF:Hid (QB G w4 q (l3.take k)∧QX q G w1 w4):=⟨hQ4,QX.trans HZ.out.2.2.1 hb4⟩
 clear hQ4 hb4
 go_wp2_with fail
 go_ret
 exact ⟨⟨_,rfl⟩,l3.take k,HF.out.1,HZ.out.1,HZ.out.2.1,HF.out.2⟩
end
def wt (out:Lb→List Lb) (T pend:List Lb) (a:Lb):Nat:=(out a).countP (fun c=>!decide (c∈T))+(if a∈pend then 1 else 0)
structure OI (ns:List Lb) (out:Lb→List Lb) (T fl pend:List Lb):Prop where
 nd:T.Nodup
 sub:∀ a∈T,a∈ns
 cl:∀ a∈T,∀ c∈out a,c∈T
 fnd:fl.Nodup
 fm:∀ a,a∈fl↔a∈ns∧a∉T∧wt out T pend a=0
 od:Gs.ord (rs ns) (Eg ns out)=Gs.ordF (rs ns) (Eg ns out) ((rs ns).length - T.length) T
 ln:T.length≤(rs ns).length
theorem countP_zero {l T:List Lb}:l.countP (fun c=>!decide (c∈T))=0↔∀ c∈l,c∈T:=by
 rw [List.countP_eq_zero]
 constructor
 ·intro h c hc
  have:=h c hc
  simpa using this
 ·intro h c hc
  simp [h c hc]
theorem find_least {l:List Lb} (hl:UpL l) {p:Lb→Bool} {b:Lb} (hb:b∈l) (hp:p b=true) (hm:∀ x∈l,p x=true→leL b x):l.find? p=some b:=by
 induction l with
 | nil=>simp at hb
 | cons y r ih=>
  obtain ⟨h1,h2⟩:=List.pairwise_cons.1 hl
  rw [List.find?_cons]
  by_cases hpy:p y=true
  ·rw [hpy]
   rcases List.mem_cons.1 hb with rfl | hbr
   ·rfl
   ·have h3:=hm y (by simp) hpy
    have h4:=h1 b hbr
    unfold leL at h3
    rw [h4] at h3;cases h3
  ·have:p y=false:=by simpa using hpy
   rw [this]
   rcases List.mem_cons.1 hb with rfl | hbr
   ·rw [this] at hp;cases hp
   ·exact ih h2 hbr (fun x hx=>hm x (by simp [hx]))
theorem OI.cand {ns:List Lb} {out:Lb→List Lb} (g:GF ns out) {T fl:List Lb} (h:OI ns out T fl []) (a:Lb) (ha:a∈ns):(!decide (a∈T) && Gs.rdy (Eg ns out) T a)=true↔a∈fl:=by
 rw [h.fm a]
 simp only [Bool.and_eq_true,Bool.not_eq_true',decide_eq_false_iff_not,Gs.rdy_iff,wt]
 have e:(if a∈([]:List Lb) then 1 else 0)=0:=by simp
 rw [e,Nat.add_zero,countP_zero]
 constructor
 ·rintro ⟨h1,h2⟩
  exact ⟨ha,h1,fun c hc=>h2 c ((g.eg a c).2 hc)⟩
 ·rintro ⟨_,h1,h2⟩
  exact ⟨h1,fun c hc=>h2 c ((g.eg a c).1 hc)⟩
theorem OI.nxt {ns:List Lb} {out:Lb→List Lb} (g:GF ns out) {T fl:List Lb} (h:OI ns out T fl []) {b:Lb} (hb:b∈fl) (hm:∀ x∈fl,leL b x):Gs.nxt (rs ns) (Eg ns out) T=some b:=by
 have hbn:=((h.fm b).1 hb).1
 refine find_least (Gs.ris_up stoL ns) ((Gs.mem_ris b ns).2 hbn) ((h.cand g b hbn).2 hb) (fun x hx hp=>hm x ?_)
 exact (h.cand g x ((Gs.mem_ris x ns).1 hx)).1 hp
theorem OI.last {ns:List Lb} {out:Lb→List Lb} (g:GF ns out) {T:List Lb} (h:OI ns out T [] []):Gs.ord (rs ns) (Eg ns out)=if T.length < (rs ns).length then none else some T:=by
 rw [h.od]
 split
 ·rename_i hlt
  obtain ⟨k,hk⟩:∃ k,(rs ns).length - T.length=k+1:=⟨(rs ns).length - T.length - 1,by omega⟩
  rw [hk]
  unfold Gs.ordF
  have:Gs.nxt (rs ns) (Eg ns out) T=none:=by
   unfold Gs.nxt
   rw [List.find?_eq_none]
   intro x hx hp
   have:=(h.cand g x ((Gs.mem_ris x ns).1 hx)).1 hp
   simp at this
  rw [this]
 ·rename_i hlt
  rw [show (rs ns).length - T.length=0 by omega]
  rfl
theorem nodup_sub_len {T ns:List Lb} (h:T.Nodup) (hs:∀ a∈T,a∈ns):T.length≤(rs ns).length:=Gs.nodup_sub T (rs ns) h (fun x hx=>(Gs.mem_ris x ns).2 (hs x hx))
theorem countP_snoc {l T:List Lb} {b:Lb} (hl:l.Nodup) (hb:b∉T):l.countP (fun c=>!decide (c∈T))=l.countP (fun c=>!decide (c∈T++[b]))+(if b∈l then 1 else 0):=by
 induction l with
 | nil=>simp
 | cons x r ih=>
  obtain ⟨h1,h2⟩:=List.nodup_cons.1 hl
  have ih:=ih h2
  rw [List.countP_cons,List.countP_cons,ih]
  by_cases hx:x=b
  ·subst hx
   simp [hb,h1]
  ·have hbx:b≠x:=fun e=>hx e.symm
   by_cases hT:x∈T
   ·simp [hT,hbx]
   ·simp [hT,hx,hbx];omega
theorem OI.pop {ns:List Lb} {out:Lb→List Lb} (g:GF ns out) {T fl:List Lb} (h:OI ns out T fl []) {b:Lb} (hm:∀ x∈fl,leL b x) {fl':List Lb} (hp:(fl'++[b]).Perm fl) {P:List Lb} (hP:∀ a,a∈P↔b∈out a) :
  OI ns out (T++[b]) fl' P∧(∀ a,wt out (T++[b]) P a=wt out T [] a)∧∀ a∈P,a∈ns∧a∉T++[b]:=by
 have hb:b∈fl:=hp.mem_iff.1 (by simp)
 obtain ⟨hbn,hbT,hbw⟩:=(h.fm b).1 hb
 have hrb:∀ c∈out b,c∈T:=by
  unfold wt at hbw
  exact countP_zero.1 (by omega)
 have hw:∀ a,wt out (T++[b]) P a=wt out T [] a:=by
  intro a
  unfold wt
  rw [countP_snoc (Gs.Ris.nodup stoL (g.up a)) hbT]
  have e1:(if a∈([]:List Lb) then 1 else 0)=0:=by simp
  rw [e1,Nat.add_zero]
  congr 1
  by_cases hx:b∈out a
  ·rw [if_pos ((hP a).2 hx),if_pos hx]
  ·rw [if_neg (fun e=>hx ((hP a).1 e)),if_neg hx]
 have hnd:(fl'++[b]).Nodup:=hp.nodup_iff.2 h.fnd
 have hndT:(T++[b]).Nodup:=by
  rw [List.nodup_append]
  refine ⟨h.nd,by simp,?_⟩
  intro x hx y hy
  have:y=b:=by simpa using hy
  subst this
  rintro rfl
  exact hbT hx
 have hsubT:∀ a∈T++[b],a∈ns:=by
  intro a ha
  rcases List.mem_append.1 ha with ha | ha
  ·exact h.sub a ha
  ·have:a=b:=by simpa using ha
   rw [this];exact hbn
 have hlen:=nodup_sub_len hndT hsubT
 refine ⟨⟨hndT,hsubT,?_,(List.nodup_append.1 hnd).1,?_,?_,hlen⟩,hw,?_⟩
 ·intro a ha c hc
  rcases List.mem_append.1 ha with ha | ha
  ·exact List.mem_append.2 (.inl (h.cl a ha c hc))
  ·have:a=b:=by simpa using ha
   subst this
   exact List.mem_append.2 (.inl (hrb c hc))
 ·intro a
  rw [hw a]
  have h1:a∈fl↔a∈fl'∨a=b:=by rw [← hp.mem_iff];simp
  have h2:a∈fl'→a≠b:=by
   intro ha e
   exact (List.nodup_append.1 hnd).2.2 a ha b (by simp) e
  rw [show (a∉T++[b])↔(a∉T∧a≠b) by simp]
  constructor
  ·intro ha
   obtain ⟨x1,x2,x3⟩:=(h.fm a).1 (h1.2 (.inl ha))
   exact ⟨x1,⟨x2,h2 ha⟩,x3⟩
  ·rintro ⟨x1,⟨x2,x3⟩,x4⟩
   rcases h1.1 ((h.fm a).2 ⟨x1,x2,x4⟩) with h5 | h5
   ·exact h5
   ·exact absurd h5 x3
 ·rw [h.od]
  have hl2:(T++[b]).length=T.length+1:=by simp
  rw [hl2] at hlen ⊢
  obtain ⟨k,hk⟩:∃ k,(rs ns).length - T.length=k+1:=⟨(rs ns).length - T.length - 1,by omega⟩
  rw [hk,show (rs ns).length - (T.length+1)=k by omega]
  conv=>lhs;unfold Gs.ordF
  rw [h.nxt g hb hm]
 ·intro a ha
  have hba:=(hP a).1 ha
  refine ⟨(g.sub a b hba).1,?_⟩
  intro e
  rcases List.mem_append.1 e with e | e
  ·exact hbT (h.cl a e b hba)
  ·have:a=b:=by simpa using e
   subst this
   exact hbT (hrb a hba)
theorem wt_cons {out:Lb→List Lb} {T P:List Lb} {a:Lb} (ha:a∉P):wt out T (a::P) a=wt out T P a+1∧∀ x,x≠a→wt out T (a::P) x=wt out T P x:=by
 unfold wt
 refine ⟨by simp [ha],fun x hx=>by simp [hx]⟩
theorem OI.more {ns:List Lb} {out:Lb→List Lb} {T fl P:List Lb} {a:Lb} (h:OI ns out T fl (a::P)) (ha:a∉P) (han:a∈ns) (haT:a∉T) :
  (wt out T P a≠0→OI ns out T fl P)∧(wt out T P a=0→∀ fl':List Lb,fl'.Perm (fl++[a])→OI ns out T fl' P):=by
 obtain ⟨w1,w2⟩:=wt_cons (out:=out) (T:=T) ha
 have hna:a∉fl:=by
  intro e
  have:=((h.fm a).1 e).2.2
  omega
 refine ⟨fun h0=>⟨h.nd,h.sub,h.cl,h.fnd,fun x=>?_,h.od,h.ln⟩,fun h0 fl' hp=>⟨h.nd,h.sub,h.cl,?_,fun x=>?_,h.od,h.ln⟩⟩
 ·by_cases hx:x=a
  ·subst hx
   constructor
   ·intro e;exact absurd e hna
   ·rintro ⟨_,_,e⟩;exact absurd e h0
  ·rw [h.fm x,w2 x hx]
 ·rw [hp.nodup_iff,List.nodup_append]
  refine ⟨h.fnd,by simp,?_⟩
  intro x hx y hy
  have:y=a:=by simpa using hy
  subst this
  rintro rfl
  exact hna hx
 ·rw [hp.mem_iff,List.mem_append]
  by_cases hx:x=a
  ·subst hx
   constructor
   ·intro _;exact ⟨han,haT,h0⟩
   ·intro _;right;simp
  ·rw [h.fm x,w2 x hx]
   simp [hx]
theorem OI.start {ns:List Lb} {out:Lb→List Lb} {fl:List Lb} (hf:fl.Nodup) (hm:∀ a,a∈fl↔a∈ns∧out a=[]):OI ns out [] fl []:=by
 refine ⟨List.nodup_nil,by simp,by simp,hf,fun a=>?_,rfl,by simp⟩
 rw [hm a]
 unfold wt
 have e:(out a).countP (fun c=>!decide (c∈([]:List Lb)))=(out a).length:=by simp
 rw [e]
 simp
theorem wt_start (out:Lb→List Lb) (a:Lb):wt out [] [] a=(out a).length:=by simp [wt]
section
open Go.RowKit Go.Maps
structure OW (w w1:World) (F:Nat→Prop) (g gb:Nat) (ns:List Lb) (out:Lb→List Lb) (Fb:Nat→Prop) (nsb:List Lb) (outb:Lb→List Lb):Prop where
 gr:GR w F g ns out
 b1:Below w.heap.size w w1
 gb:GR w1 Fb gb nsb outb
 mb:∀ x,x∈nsb↔x∈ns
 ob:∀ x y,y∈outb x↔x∈out y
 sz:ns.length+2≤2000000
structure QS (G:Nat→Prop) (mb q:Nat) (ns:List Lb) (c:Lb→Option Int) (cnt:Nat) (fl:List Lb) (wr:World):Prop where
 map:MP cI wr mb c cnt
 que:QB G wr q fl
 heap:HO (fA fl) fl.length
 gm:¬ G mb
 gq:¬ G q
 new:NewG G wr
 lu:∀ a∈fl,a∈ns
section
variable {G:Nat→Prop} {mb q cnt:Nat} {ns fl:List Lb} {c:Lb→Option Int} {wr:World}
theorem QS.later {wr':World} (h:QS G mb q ns c cnt fl wr) (hb:Below wr.heap.size wr wr'):QS G mb q ns c cnt fl wr':=
 ⟨h.map.later hb,h.que.later hb,h.heap,h.gm,h.gq,h.new.mono hb.size,h.lu⟩
theorem QS.congr {c':Lb→Option Int} (h:QS G mb q ns c cnt fl wr) (hc:∀ k,Lu k→c k=c' k):QS G mb q ns c' cnt fl wr:=
 ⟨h.map.congr hc,h.que,h.heap,h.gm,h.gq,h.new,h.lu⟩
theorem QS.ne (h:QS G mb q ns c cnt fl wr):mb≠q:=by
 rintro rfl
 obtain ⟨v,hv,_⟩:=h.que
 obtain ⟨D,⟨es,clock,hb,_⟩,_⟩:=h.map
 rw [show wr.heap[mb]? = _ from hv] at hb;cases hb
theorem QS.store {w2:World} {c':Lb→Option Int} {cnt':Nat} (h:QS G mb q ns c cnt fl wr) (hm:MP cI w2 mb c' cnt') (ho:Only [mb] wr w2):QS G mb q ns c' cnt' fl w2:=by
 have hne:=h.ne
 obtain ⟨v,hv,hov,hg⟩:=h.que
 refine ⟨hm,⟨v,(ho.block q hv.lt (by simpa using hne.symm)).trans hv,hov.only ho (fun k hk hm=>?_),hg⟩,h.heap,h.gm,h.gq,h.new.mono ho.size,h.lu⟩
 have e:k=mb:=by simpa using hm
 exact h.gm (e▸hg k hk)
abbrev oF (G:Nat→Prop) (mb q:Nat):Nat→Prop:=fun k=>k=mb∨k=q∨G k
theorem hpush_q (h:QS G mb q ns c cnt fl wr) (hlu:∀ a∈ns,Lu a) (hl:fl.length+1≤2000000) (a:Lb) (ha:a∈ns) :
  Calls Tryz.prog 62 #[.iface 109 (.pointer (some ⟨q,0,none⟩)),.iface 27 a.val] wr fun e w'=>e=.returned (.tuple #[])∧∃ fl',fl'.Perm (fl++[a])∧QS G mb q ns c cnt fl' w'∧OnlyP (oF G mb q) wr w':=by
 have hne:=h.ne
 refine (hpush_any h.que h.new (fun x hx=>hlu x (h.lu x hx)) hl h.heap a (hlu a ha)).mono ?_
 rintro e w' ⟨rfl,l',h1,h2,h3,h4⟩
 refine ⟨rfl,l',h2,⟨h.map.block (h4.block mb h.map.lt (fun e=>?_)),h1,h3,h.gm,h.gq,h.new.mono h4.size,fun x hx=>?_⟩,⟨h4.os,h4.tape,h4.output,h4.size,fun k hk hn=>h4.block k hk (fun e=>hn (.inr e))⟩⟩
 ·rcases e with e | e
  ·exact hne e
  ·exact h.gm e
 ·rcases List.mem_append.1 (h2.mem_iff.1 hx) with h5 | h5
  ·exact h.lu x h5
  ·have:x=a:=by simpa using h5
   rw [this];exact ha
theorem hpop_q (h:QS G mb q ns c cnt fl wr) (hlu:∀ a∈ns,Lu a) (hl:fl.length≤2000000) (hne:0 < fl.length) :
  Calls Tryz.prog 63 #[.iface 109 (.pointer (some ⟨q,0,none⟩))] wr fun e w'=>(∃ x,e=.returned x)∧∃ fl',(fl'++[fA fl 0]).Perm fl∧QS G mb q ns c cnt fl' w'∧OnlyP (oF G mb q) wr w':=by
 have hnq:=h.ne
 refine (hpop_any h.que h.new (fun x hx=>hlu x (h.lu x hx)) hl hne h.heap).mono ?_
 rintro e w' ⟨hx,l',h1,h2,h3,h4⟩
 refine ⟨hx,l',h2,⟨h.map.block (h4.block mb h.map.lt (fun e=>?_)),h1,h3,h.gm,h.gq,h.new.mono h4.size,fun x hx=>h.lu x (h2.mem_iff.1 (by simp [hx]))⟩,⟨h4.os,h4.tape,h4.output,h4.size,fun k hk hn=>h4.block k hk (fun e=>hn (.inr e))⟩⟩
 rcases e with e | e
 ·exact hnq e
 ·exact h.gm e
end
structure OR (w w1 wB w2:World) (v:Value) (F:Nat→Prop) (g gb:Nat) (ns:List Lb) (out:Lb→List Lb) (Fb:Nat→Prop) (nsb:List Lb) (outb:Lb→List Lb):Prop extends OW w w1 F g gb ns out Fb nsb outb where
 bB:Below w1.heap.size w1 wB
 b2:Below wB.heap.size wB w2
 own:OwnL wB.heap.size w2 v (rs ns)
 sB:wB.heap.size=w1.heap.size+2
abbrev oG (w1 w2:World):Nat→Prop:=fun k=>k=w1.heap.size∨k=w1.heap.size+1∨w2.heap.size≤k
section
variable {w w1 wB w2:World} {v:Value} {F:Nat→Prop} {g gb:Nat} {ns:List Lb} {out:Lb→List Lb} {Fb:Nat→Prop} {nsb:List Lb} {outb:Lb→List Lb}
theorem OR.s2 (h:OR w w1 wB w2 v F g gb ns out Fb nsb outb):w1.heap.size+2≤w2.heap.size:=by have:=h.sB;have:=h.b2.size;omega
theorem OR.below1 (h:OR w w1 wB w2 v F g gb ns out Fb nsb outb) {wr:World} (ho:OnlyP (oG w1 w2) w2 wr):Below w1.heap.size w1 wr:=by
 have h1:Below w1.heap.size w1 w2:=bstep h.bB h.b2
 exact below_trans h1 (ho.below h1.size (fun k hk=>by have:=h.s2;rcases hk with hk | hk | hk<;>omega))
theorem OR.below (h:OR w w1 wB w2 v F g gb ns out Fb nsb outb) {wr:World} (ho:OnlyP (oG w1 w2) w2 wr):Below w.heap.size w wr:=bstep h.b1 (h.below1 ho)
theorem OR.list (h:OR w w1 wB w2 v F g gb ns out Fb nsb outb) {wr:World} (hon:OnlyP (oG w1 w2) w2 wr):LS wr v (rs ns):=by
 rcases OL.of h.own with ⟨e,e2⟩ | ⟨q,cap,rest,e,ho⟩
 ·exact .inl ⟨⟨_,_,e⟩,e2⟩
 ·have h1:wr.heap[q]? = w2.heap[q]?:=hon.block q ho.lt (fun hk=>by have:=ho.ge;have:=ho.lt;have:=h.sB;rcases hk with h | h | h<;>omega)
  have ho2:OL wB.heap.size wr q cap (rs ns) rest:=⟨h1.trans ho.blk,ho.ge,ho.cm,ho.sz⟩
  rw [e]
  exact ho2.own.rs
end
end
section
open Go.RowKit Go.Maps
def cF (ns:List Lb) (out:Lb→List Lb) (k:Nat):Lb→Option Int:=fun a=>if a∈(rs ns).take k then some ((out a).length:Int) else none
def cW (ns:List Lb) (out:Lb→List Lb) (T P:List Lb):Lb→Option Int:=fun a=>if a∈ns then some (wt out T P a:Int) else none
theorem cF_end {ns:List Lb} {out:Lb→List Lb} {k:Nat} (hk:(rs ns).length≤k) (a:Lb):cF ns out k a=cW ns out [] [] a:=by
 unfold cF cW
 rw [List.take_of_length_le hk,wt_start]
 by_cases h:a∈ns
 ·rw [if_pos h,if_pos ((Gs.mem_ris _ _).2 h)]
 ·rw [if_neg h,if_neg (fun e=>h ((Gs.mem_ris _ _).1 e))]
abbrev g1 (w2:World):Nat→Prop:=fun k=>w2.heap.size≤k
section
variable {G:Nat→Prop} {mb q cnt:Nat} {ns fl:List Lb} {out:Lb→List Lb} {c:Lb→Option Int} {wr:World}
theorem lp1_store {k:Nat} (h:QS G mb q ns (cF ns out k) k fl wr) (hk:k < (rs ns).length) (hs:k < 2000000) {wA:World} (hb:Below wr.heap.size wr wA) {a:Lb} (ha:(rs ns)[k]=a) (hu:Lu a) :
  ∃ w7,(Instr.mapUpdate 103 (.map (some mb)) a.val (.int .i64 ((out a).length:Int))).run Tryz.prog wA=.ok () w7∧QS G mb q ns (cF ns out (k+1)) (k+1) fl w7∧Only [mb] wA w7∧(Instr.lookup 103 (.map (some mb)) a.val false).run Tryz.prog w7=.ok (.int .i64 ((out a).length:Int)) w7:=by
 have hn:a∉(rs ns).take k:=by rw [← ha];exact nd_take (rs_nd ns) hk
 have h1:=h.later hb
 obtain ⟨w7,hrun,hm,ho,hsz⟩:=h1.map.store hu (by omega) ((out a).length:Int)
 have e:(if (cF ns out k a).isSome=true then k else k+1)=k+1:=by simp [cF,hn]
 rw [e] at hm
 have hm':MP cI w7 mb (cF ns out (k+1)) (k+1):=by
  refine hm.congr (fun y _=>?_)
  unfold cF
  rw [List.take_succ_eq_append_getElem hk,ha]
  by_cases hy:y=a
  ·subst hy;simp
  ·simp [hy]
 refine ⟨w7,hrun,h1.store hm' ho,ho,?_⟩
 have:=hm'.look hu false
 have e2:at_ cI (cF ns out (k+1) a)=((out a).length:Int):=by
  unfold cF
  rw [List.take_succ_eq_append_getElem hk,ha]
  simp [at_]
 rw [e2] at this
 exact this
theorem QS.only {S:List Nat} {G':Nat→Prop} {w':World} (h:QS G mb q ns c cnt fl wr) (ho:Only S wr w') (hS:∀ k∈S,k≠mb∧k≠q∧¬ G k) (hG:∀ k,k < wr.heap.size→G k→G' k) (hm:¬ G' mb) (hq:¬ G' q) (hn:NewG G' w'):QS G' mb q ns c cnt fl w':=by
 obtain ⟨v,hv,hov,hg⟩:=h.que
 exact ⟨h.map.only ho (fun e=>(hS _ e).1 rfl),⟨v,(ho.block q hv.lt (fun e=>(hS _ e).2.1 rfl)).trans hv,hov.only ho (fun k hk e=>(hS _ e).2.2 (hg k hk)),fun k hk=>hG k (hov.lt hk).2 (hg k hk)⟩,h.heap,hm,hq,hn,h.lu⟩
end
structure L2 (w1 w2:World) (G:Nat→Prop) (ns:List Lb) (c:Lb→Option Int) (T fl:List Lb) (v:Value) (wr:World):Prop where
 qs:QS G w1.heap.size (w1.heap.size+1) ns c ns.length fl wr
 g2:∀ k,G k→w2.heap.size≤k
 gv:∀ k,v.ownBlock=some k→¬ G k
 own:OwnL w2.heap.size wr v T
 on:OnlyP (oG w1 w2) w2 wr
section
variable {w1 w2 wr:World} {G:Nat→Prop} {ns T fl:List Lb} {c:Lb→Option Int} {v:Value}
theorem L2.later {wr':World} (h:L2 w1 w2 G ns c T fl v wr) (hb:Below wr.heap.size wr wr'):L2 w1 w2 G ns c T fl v wr':=
 ⟨h.qs.later hb,h.g2,h.gv,h.own.later hb,h.on.trans (OnlyP.of_below hb (oG w1 w2)) (fun _ _ e=>e)⟩
theorem L2.onto {wr':World} (h:L2 w1 w2 G ns c T fl v wr) (hb:OnlyP (oF G w1.heap.size (w1.heap.size+1)) wr wr'):OnlyP (oG w1 w2) w2 wr':=
 h.on.trans hb (fun k _ e=>by
  rcases e with e | e | e
  ·exact .inl e
  ·exact .inr (.inl e)
  ·exact .inr (.inr (h.g2 k e)))
theorem L2.keep {wr':World} (hw:w1.heap.size+2≤w2.heap.size) (h:L2 w1 w2 G ns c T fl v wr) (hb:OnlyP (oF G w1.heap.size (w1.heap.size+1)) wr wr'):OwnL w2.heap.size wr' v T:=by
 have ho:=h.own
 rcases OL.of h.own with ⟨e,e2⟩ | ⟨q,cap,rest,e,hol⟩
 ·subst e e2;exact OwnL.nil _ _
 ·have hge:=hol.ge
  have hq:wr'.heap[q]? = wr.heap[q]?:=hb.block q hol.lt (fun hk=>by
   rcases hk with hk | hk | hk
   ·omega
   ·omega
   ·exact h.gv q (by rw [e];rfl) hk)
  have ho2:OL w2.heap.size wr' q cap T rest:=⟨hq.trans hol.blk,hol.ge,hol.cm,hol.sz⟩
  rw [e]
  exact ho2.own
theorem L2.box (h:L2 w1 w2 G ns c T fl v wr) (o:Obj):L2 w1 w2 (fun k=>G k∧k≠wr.heap.size) ns c T fl v (wr.alloc o):=by
 have h1:=h.later (balloc wr o)
 obtain ⟨x,hx,hox,hgx⟩:=h.qs.que
 refine ⟨⟨h1.qs.map,⟨x,(((balloc wr o).block _ hx.lt).trans hx),hox.later (balloc wr o),fun k hk=>⟨hgx k hk,?_⟩⟩,h.qs.heap,fun e=>h.qs.gm e.1,fun e=>h.qs.gq e.1,fun k hk=>⟨h1.qs.new k hk,?_⟩,h.qs.lu⟩,fun k hk=>h.g2 k hk.1,fun k hk e=>h.gv k hk e.1,h1.own,h1.on⟩
 ·have:=(hox.lt hk).2;omega
 ·have:=(balloc wr o).size
  have:(wr.alloc o).heap.size=wr.heap.size+1:=by simp
  omega
theorem L2.push (hw:w1.heap.size+2≤w2.heap.size) (h:L2 w1 w2 G ns c T fl v wr) (hlu:∀ a∈ns,Lu a) (hl:fl.length+1≤2000000) (a:Lb) (ha:a∈ns) :
  Calls Tryz.prog 62 #[.iface 109 (.pointer (some ⟨w1.heap.size+1,0,none⟩)),.iface 27 a.val] wr fun e w'=>e=.returned (.tuple #[])∧∃ fl',fl'.Perm (fl++[a])∧L2 w1 w2 G ns c T fl' v w'∧OnlyP (oF G w1.heap.size (w1.heap.size+1)) wr w':=by
 refine (hpush_q h.qs hlu hl a ha).mono ?_
 rintro e w' ⟨rfl,fl',h1,h2,h3⟩
 exact ⟨rfl,fl',h1,⟨h2,h.g2,h.gv,h.keep hw h3,h.onto h3⟩,h3⟩
theorem L2.pop (hw:w1.heap.size+2≤w2.heap.size) (h:L2 w1 w2 G ns c T fl v wr) (hlu:∀ a∈ns,Lu a) (hl:fl.length≤2000000) (hne:0 < fl.length) :
  Calls Tryz.prog 63 #[.iface 109 (.pointer (some ⟨w1.heap.size+1,0,none⟩))] wr fun e w'=>(∃ x,e=.returned x)∧∃ fl',(fl'++[fA fl 0]).Perm fl∧L2 w1 w2 G ns c T fl' v w'∧OnlyP (oF G w1.heap.size (w1.heap.size+1)) wr w':=by
 refine (hpop_q h.qs hlu hl hne).mono ?_
 rintro e w' ⟨hx,fl',h1,h2,h3⟩
 exact ⟨hx,fl',h1,⟨h2,h.g2,h.gv,h.keep hw h3,h.onto h3⟩,h3⟩
theorem L2.told (hw:w1.heap.size+2≤w2.heap.size) (h:L2 w1 w2 G ns c T fl v wr) {w':World} {v':Value} {b:Lb} (ho:OwnL w2.heap.size w' v' (T++[b])) (hon:Only v.ownBlock.toList wr w') (hkk:v'.ownBlock=v.ownBlock∨∃ k,v'.ownBlock=some k∧wr.heap.size≤k) :
  L2 w1 w2 (fun k=>G k∧v'.ownBlock≠some k) ns c (T++[b]) fl v' w':=by
 have hv:∀ k∈v.ownBlock.toList,v.ownBlock=some k:=fun k hk=>by simpa using hk
 refine ⟨h.qs.only hon (fun k hk=>?_) (fun k hk hg=>⟨hg,fun e=>?_⟩) (fun e=>h.qs.gm e.1) (fun e=>h.qs.gq e.1) (fun k hk=>⟨h.qs.new k (Nat.le_trans hon.size hk),fun e=>?_⟩),fun k hk=>h.g2 k hk.1,fun k hk e=>e.2 hk,ho,h.on.trans (OnlyP.of_only (F:=oG w1 w2) hon (fun k hk _=>.inr (.inr (h.own.lt (hv k hk)).1))) (fun _ _ e=>e)⟩
 ·have:=(h.own.lt (hv k hk)).1
  exact ⟨by omega,by omega,h.gv k (hv k hk)⟩
 ·rcases hkk with h1 | ⟨j,h1,h2⟩
  ·exact h.gv k (h1▸e) hg
  ·rw [h1] at e
   injection e with e
   omega
 ·have:=(ho.lt e).2
  omega
theorem L2.count {out:Lb→List Lb} {P:List Lb} {x:Lb} (h:L2 w1 w2 G ns (cW ns out T (x::P)) T fl v wr) (hw:w1.heap.size+2≤w2.heap.size) (hx:x∉P) (hn:x∈ns) (hu:Lu x) (hz:ns.length≤2000000) {wA:World} (hb:Below wr.heap.size wr wA) :
  ∃ (v0:Value) (st:Nat) (w':World),(Instr.lookup 103 (.map (some w1.heap.size)) x.val false).run Tryz.prog wA=.ok (.int .i64 ((wt out T P x:Int)+1)) wA∧(Instr.mapEntry 103 (.map (some w1.heap.size)) x.val).run Tryz.prog wA=.ok (.tuple #[v0,goInt st]) wA∧
   (Instr.entryStore 103 (.map (some w1.heap.size)) (goInt st) (.int .i64 (wt out T P x:Int))).run Tryz.prog wA=.ok () w'∧L2 w1 w2 G ns (cW ns out T P) T fl v w'∧Only [w1.heap.size] wA w'∧(Instr.lookup 103 (.map (some w1.heap.size)) x.val false).run Tryz.prog w'=.ok (.int .i64 (wt out T P x:Int)) w':=by
 obtain ⟨e1,e2⟩:=wt_cons (out:=out) (T:=T) hx
 have h1:=h.later hb
 have hc:cW ns out T (x::P) x=some ((wt out T P x:Int)+1):=by
  unfold cW
  rw [if_pos hn,e1];rfl
 obtain ⟨v0,st,hent,hst⟩:=h1.qs.map.entry hu (by omega) hc
 obtain ⟨w',hrun,hm,ho,hsz⟩:=hst (wt out T P x:Int)
 have hm':MP cI w' w1.heap.size (cW ns out T P) ns.length:=by
  refine hm.congr (fun y _=>?_)
  unfold cW
  by_cases hy:y=x
  ·subst hy;simp [hn]
  ·rw [if_neg hy,e2 y hy]
 have hl1:=h1.qs.map.look hu false
 rw [hc] at hl1
 have hl2:=hm'.look hu false
 rw [show cW ns out T P x=some (wt out T P x:Int) by unfold cW;rw [if_pos hn]] at hl2
 refine ⟨v0,st,w',hl1,hent,hrun,⟨h1.qs.store hm' ho,h.g2,h.gv,h1.own.only ho (fun k hk e=>?_),h1.on.trans (OnlyP.of_only (F:=oG w1 w2) ho (fun k hk _=>.inl (by simpa using hk))) (fun _ _ e=>e)⟩,ho,hl2⟩
 have:k=w1.heap.size:=by simpa using e
 have:=(h.own.lt hk).1
 omega
theorem L2.congr {c':Lb→Option Int} (h:L2 w1 w2 G ns c T fl v wr) (hc:∀ k,Lu k→c k=c' k):L2 w1 w2 G ns c' T fl v wr:=⟨h.qs.congr hc,h.g2,h.gv,h.own,h.on⟩
end
def gslen:Value→Nat
 | .slice _ n _=>n
 | _=>0
theorem fl_len {ns T fl P:List Lb} {out:Lb→List Lb} (h:OI ns out T fl P):fl.length≤ns.length:=Gs.nodup_sub fl ns h.fnd (fun x hx=>((h.fm x).1 hx).1)
theorem T_len {ns T fl P:List Lb} {out:Lb→List Lb} (h:OI ns out T fl P):T.length≤ns.length:=Gs.nodup_sub T ns h.nd h.sub
end
end Go.Proofs.YtppnbdnpapellaaGreatDoor
