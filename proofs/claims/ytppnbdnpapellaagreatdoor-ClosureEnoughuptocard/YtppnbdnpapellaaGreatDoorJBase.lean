import Derived.Test.YtppnbdnpapellaaGreatDoorJOrd
import Derived.WalkKit
import Derived.WalkSpells
import Derived.WalkLawsBesides
import Derived.Deep.AppendSrc
import Derived.Deep.Upon
import Derived.Deep.Onto
import Derived.Deep.AppendLies
import Derived.Maps.AppendAt
set_option maxRecDepth 100000
set_option maxHeartbeats 16000000
namespace Go.Proofs.YtppnbdnpapellaaGreatDoor
section
open Go.RowKit
theorem cmp_any (a b:List UInt8) (w:World) (ha:a.length≤9223372036854775807) (hb:b.length≤9223372036854775807) :
  Calls Tryz.prog 36 #[.string (bs a),.string (bs b)] w fun e w'=>e=.returned (.int .i64 (cmpP (pcs a) (pcs b)))∧Laid w w':=by
 have HA:Hid (a.length≤9223372036854775807∧b.length≤9223372036854775807):=⟨ha,hb⟩
 clear ha hb
 go_enter Tryz.func36,Tryz.ntmps36
 go_wp2_with fail
 refine (meet_any _ _ _ HA.out.1 HA.out.2).mono ?_
 rintro e w1 ⟨rfl,hb1⟩
 have B1:Hid (Laid w w1):=hb1
 clear hb1
 go_wp2_with fail
 go_ret
 exact ⟨rfl,B1.out⟩
theorem above_any (a b:List UInt8) (w:World) (ha:a.length≤9223372036854775807) (hb:b.length≤9223372036854775807) :
  Calls Tryz.prog 174 #[.string (bs a),.string (bs b)] w fun e w'=>e=.returned (.bool (abvV a b))∧Laid w w':=by
 have HA:Hid (a.length≤9223372036854775807∧b.length≤9223372036854775807):=⟨ha,hb⟩
 clear ha hb
 have hz:(bs a).size=a.length:=rfl
 obtain ⟨r,hr⟩:∃ r,abvV a b=r:=⟨_,rfl⟩
 rw [hr]
 have HR:Hid (abvV a b=r):=hr
 clear hr
 go_enter Tryz.func174,Tryz.ntmps174
 go_wp2_with fail
 refine (meet_any _ _ _ HA.out.1 HA.out.2).mono ?_
 rintro e w1 ⟨rfl,hb1⟩
 have B1:Hid (Laid w w1):=hb1
 clear hb1
 by_cases h1:(cmn a b).length=a.length
 ·have e1:(((cmn a b).length:Int) == (a.length:Int))=true:=by rw [h1];simp
  by_cases h2:cmpP (pcs a) (pcs b) < 0
  ·go_wp2_with fail
   go_ret
   exact ⟨by rw [← HR.out];simp [abvV,h1,h2],B1.out⟩
  ·go_wp2_with fail
   go_ret
   exact ⟨by rw [← HR.out];simp [abvV,h1],B1.out⟩
 ·have e1:(((cmn a b).length:Int) == (a.length:Int))=false:=by rw [beq_eq_false_iff_ne];omega
  go_wp2_with fail
  go_ret
  exact ⟨by rw [← HR.out];simp [abvV,h1],B1.out⟩
theorem extract_to (l:List UInt8) (n:Nat):(bs l).extract 0 n=bs (l.take n):=by rw [bs_extract];simp
theorem extract_from (l:List UInt8) (n:Nat):(bs l).extract n l.length=bs (l.drop n):=by
 rw [bs_extract];congr 1;exact List.take_of_length_le (by simp)
theorem base_any (l:List UInt8) (w:World) (hl:l.length≤9223372036854775807) :
  Calls Tryz.prog 109 #[.string (bs l)] w fun e w'=>e=.returned (.string (bs (base l)))∧w'=w:=by
 have HL:Hid (l.length≤9223372036854775807):=hl
 have hz:(bs l).size=l.length:=rfl
 have h2:=lst_lt l
 have h3:=lst_ge l
 obtain ⟨n,hn⟩:∃ n:Nat,lst l=(n:Int) - 1:=⟨(lst l+1).toNat,by omega⟩
 have hd0:base l=l.drop n:=by unfold base;congr 1;omega
 rw [hd0]
 have HE:Hid ((bs l).extract n l.length=bs (l.drop n)):=extract_from l n
 have hnl:n≤l.length:=by omega
 clear h2 h3
 go_enter Tryz.func109,Tryz.ntmps109
 go_wp2_with fail
 refine (last_any _ _ HL.out).mono ?_
 rintro e w1 ⟨rfl,rfl⟩
 rw [hn]
 go_wp2_with fail
 go_ret
 exact ⟨by rw [← HE.out];rfl,rfl⟩
theorem depth_any (l:List UInt8) (w:World) (hl:l.length < 9223372036854775807) :
  Calls Tryz.prog 131 #[.string (bs l)] w fun e w'=>e=.returned (.int .i64 (dep l:Nat))∧w'=w:=by
 have he:=isE l
 by_cases h:l=[]
 ·subst h
  have hd0:dep []=0:=rfl
  rw [hd0]
  go_enter Tryz.func131,Tryz.ntmps131
  go_wp2_with fail
  go_ret
  exact ⟨rfl,rfl⟩
 ·have hd0:dep l=l.count 47+1:=by simp [dep,h]
  have hle:=dep_le l
  rw [hd0] at hle
  have hi:l.isEmpty=false:=by cases l;exact absurd rfl h;rfl
  rw [hi] at he
  obtain ⟨n,hn⟩:∃ n,l.count 47=n:=⟨_,rfl⟩
  rw [hd0]
  rw [hn] at hle ⊢
  go_enter Tryz.func131,Tryz.ntmps131
  go_wp2_with fail
  refine (count_any _ _).mono ?_
  rintro e w1 ⟨rfl,rfl⟩
  rw [hn]
  go_wp2_with fail
  go_ret
  exact ⟨rfl,rfl⟩
theorem allowed_any (c:UInt8) (w:World) :
  Calls Tryz.prog 132 #[.int .u8 c.toNat] w fun e w'=>e=.returned (.bool (okB c))∧w'=w:=by
 obtain ⟨r,hr⟩:∃ r,okB c=r:=⟨_,rfl⟩
 rw [hr]
 have HR:Hid (okB c=r):=hr
 clear hr
 obtain ⟨n,hn⟩:∃ n,c.toNat=n:=⟨_,rfl⟩
 rw [hn]
 have HR2:Hid (((97≤n && n≤122) || (65≤n && n≤90) || (48≤n && n≤57) || n == 46 || n == 95 || n == 45)=r):=by rw [← hn];exact HR.out
 clear HR hn
 by_cases h1:97≤n∧n≤122
 ·obtain ⟨h1,h2⟩:=h1
  go_enter Tryz.func132,Tryz.ntmps132
  go_wp2_with fail
  go_ret
  exact ⟨by rw [← HR2.out];simp [h1,h2],rfl⟩
 ·by_cases h2:65≤n∧n≤90
  ·obtain ⟨h2,h3⟩:=h2
   have h4:¬ 97≤n:=by omega
   clear h1
   go_enter Tryz.func132,Tryz.ntmps132
   go_wp2_with fail
   go_ret
   exact ⟨by rw [← HR2.out];simp [h2,h3],rfl⟩
  ·by_cases h3:48≤n∧n≤57
   ·obtain ⟨h3,h4⟩:=h3
    have h5:¬ 97≤n:=by omega
    have h6:¬ 65≤n:=by omega
    clear h1 h2
    go_enter Tryz.func132,Tryz.ntmps132
    go_wp2_with fail
    go_ret
    exact ⟨by rw [← HR2.out];simp [h3,h4],rfl⟩
   ·by_cases q1:n=46
    ·subst q1
     clear h1 h2 h3
     go_enter Tryz.func132,Tryz.ntmps132
     go_wp2_with fail
     go_ret
     exact ⟨by rw [← HR2.out];rfl,rfl⟩
    by_cases q2:n=95
    ·subst q2
     clear h1 h2 h3
     go_enter Tryz.func132,Tryz.ntmps132
     go_wp2_with fail
     go_ret
     exact ⟨by rw [← HR2.out];rfl,rfl⟩
    by_cases q3:n=45
    ·subst q3
     clear h1 h2 h3
     go_enter Tryz.func132,Tryz.ntmps132
     go_wp2_with fail
     go_ret
     exact ⟨by rw [← HR2.out];rfl,rfl⟩
    have z:r=false:=by
     rw [← HR2.out]
     simp only [Bool.or_eq_false_iff,Bool.and_eq_false_iff,decide_eq_false_iff_not,beq_eq_false_iff_ne]
     omega
    subst z
    have e1:(((n:Int)) == 46)=false:=by rw [beq_eq_false_iff_ne];omega
    have e2:(((n:Int)) == 95)=false:=by rw [beq_eq_false_iff_ne];omega
    have e3:(((n:Int)) == 45)=false:=by rw [beq_eq_false_iff_ne];omega
    by_cases p1:97≤n
    ·have p2:¬ n≤122:=by omega
     have p3:65≤n:=by omega
     have p4:¬ n≤90:=by omega
     have p5:48≤n:=by omega
     have p6:¬ n≤57:=by omega
     clear h1 h2 h3
     go_enter Tryz.func132,Tryz.ntmps132
     go_wp2_with fail
     go_ret
     exact ⟨rfl,rfl⟩
    by_cases p3:65≤n
    ·have p4:¬ n≤90:=by omega
     have p5:48≤n:=by omega
     have p6:¬ n≤57:=by omega
     clear h1 h2 h3
     go_enter Tryz.func132,Tryz.ntmps132
     go_wp2_with fail
     go_ret
     exact ⟨rfl,rfl⟩
    by_cases p5:48≤n
    ·have p6:¬ n≤57:=by omega
     clear h1 h2 h3
     go_enter Tryz.func132,Tryz.ntmps132
     go_wp2_with fail
     go_ret
     exact ⟨rfl,rfl⟩
    ·clear h1 h2 h3
     go_enter Tryz.func132,Tryz.ntmps132
     go_wp2_with fail
     go_ret
     exact ⟨rfl,rfl⟩
theorem all_take_succ (l:List UInt8) (k:Nat) (h:k < l.length):(l.drop k).all okB=(okB (l[k]'h) && (l.drop (k+1)).all okB):=by
 rw [List.drop_eq_getElem_cons h];rfl
theorem component_any (l:List UInt8) (w:World) (hm:l.length≤9223372036854775807) :
  Calls Tryz.prog 84 #[.string (bs l)] w fun e w'=>e=.returned (.bool (okC l))∧w'=w:=by
 have hz:(bs l).size=l.length:=rfl
 have e0:(bs l).toList.isEmpty=l.isEmpty:=isE l
 have c1:(ByteArray.mk #[46]).toList=[46]:=ByteArray.toList_mk [46]
 have c2:(ByteArray.mk #[46,46]).toList=[46,46]:=ByteArray.toList_mk [46,46]
 have c3:(ByteArray.mk #[46,46,46]).toList=[46,46,46]:=ByteArray.toList_mk [46,46,46]
 by_cases h0:l=[]
 ·subst h0
  have h:okC []=false:=by decide
  rw [h]
  clear c1 c2 c3
  go_enter Tryz.func84,Tryz.ntmps84
  go_wp2_with fail
  go_ret
  exact ⟨rfl,rfl⟩
 have i0:l.isEmpty=false:=by cases l;exact absurd rfl h0;rfl
 rw [i0] at e0
 by_cases h1:l=[46]
 ·subst h1
  have h:okC [46]=false:=by decide
  rw [h]
  have e1:((bs [46]).toList == [46])=true:=by rw [bs_toList];rfl
  go_enter Tryz.func84,Tryz.ntmps84
  go_wp2_with fail
  go_ret
  exact ⟨rfl,rfl⟩
 have e1:((bs l).toList == [46])=false:=by rw [bs_toList,beq_eq_false_iff_ne];exact h1
 by_cases h2:l=[46,46]
 ·subst h2
  have h:okC [46,46]=false:=by decide
  rw [h]
  have e2:((bs [46,46]).toList == [46,46])=true:=by rw [bs_toList];rfl
  go_enter Tryz.func84,Tryz.ntmps84
  go_wp2_with fail
  go_ret
  exact ⟨rfl,rfl⟩
 have e2:((bs l).toList == [46,46])=false:=by rw [bs_toList,beq_eq_false_iff_ne];exact h2
 by_cases h3:l=[46,46,46]
 ·subst h3
  have h:okC [46,46,46]=false:=by decide
  rw [h]
  have e3:((bs [46,46,46]).toList == [46,46,46])=true:=by rw [bs_toList];rfl
  go_enter Tryz.func84,Tryz.ntmps84
  go_wp2_with fail
  go_ret
  exact ⟨rfl,rfl⟩
 have e3:((bs l).toList == [46,46,46])=false:=by rw [bs_toList,beq_eq_false_iff_ne];exact h3
 have hok:okC l=(decide (l.length≤32) && l.all okB):=by
  unfold okC
  rw [show (l == [])=false from by rw [beq_eq_false_iff_ne];exact h0,show (l == [46])=false from by rw [beq_eq_false_iff_ne];exact h1,show (l == [46,46])=false from by rw [beq_eq_false_iff_ne];exact h2,show (l == [46,46,46])=false from by rw [beq_eq_false_iff_ne];exact h3]
  simp
 rw [hok]
 clear hok h0 h1 h2 h3 i0
 by_cases h4:32 < l.length
 ·have:decide (l.length≤32)=false:=by simpa using h4
  rw [this]
  go_enter Tryz.func84,Tryz.ntmps84
  go_wp2_with fail
  go_ret
  exact ⟨rfl,rfl⟩
 have:decide (l.length≤32)=true:=by simpa using Nat.le_of_not_lt h4
 rw [this,Bool.true_and]
 obtain ⟨r,hr⟩:∃ r,l.all okB=r:=⟨_,rfl⟩
 rw [hr]
 have HR:Hid ((l.drop 0).all okB=r):=hr
 clear hr this
 go_enter Tryz.func84,Tryz.ntmps84
 go_wp2_with fail
 go_loop [15] (fun i=>∃ k:Nat,k≤l.length∧i=.int .i64 k∧(l.drop k).all okB=r) (fun i=>l.length - (intOf i).toNat)
 case atStart=>exact ⟨0,Nat.zero_le _,rfl,HR.out⟩
 case round=>
  obtain ⟨k,hk,rfl,ha⟩:=hrel
  have HA:Hid ((l.drop k).all okB=r):=ha
  clear ha
  by_cases hlt:k < l.length
  ·have HB:Hid ((okB (l[k]'hlt) && (l.drop (k+1)).all okB)=r):=by have:=HA.out;rw [all_take_succ l k hlt] at this;exact this
   have hkz:k < (bs l).size:=hlt
   go_wp2_with fail
   refine (allowed_any (l[k]'hlt) _).mono ?_
   rintro e w1 ⟨rfl,rfl⟩
   have hb:=HB.out
   cases ho:okB (l[k]'hlt)
   ·rw [ho] at hb
    have hb:false=r:=hb
    subst hb
    go_wp2_with fail
    go_ret
    exact ⟨rfl,rfl⟩
   ·rw [ho] at hb
    have HB2:Hid ((l.drop (k+1)).all okB=r):=hb
    clear hb
    go_wp2_with fail
    go_round
    case rel=>exact ⟨k+1,by omega,by go_num,HB2.out⟩
    case measure=>simp [intOf];omega
  ·obtain rfl:k=l.length:=by omega
   have hb:=HA.out
   rw [List.drop_length] at hb
   have hb:true=r:=hb
   subst hb
   go_wp2_with fail
   go_ret
   exact ⟨rfl,rfl⟩
theorem valid_any (l:List UInt8) (w:World) (hm:l.length < 9223372036854775807) :
  Calls Tryz.prog 83 #[.string (bs l)] w fun e w'=>e=.returned (.bool (okP l))∧Below w.heap.size w w':=by
 have hz:(bs l).size=l.length:=rfl
 by_cases h1:120 < l.length
 ·have:okP l=false:=by
   unfold okP;rw [show decide (l.length≤120)=false from by simpa using h1];rfl
  rw [this]
  go_enter Tryz.func83,Tryz.ntmps83
  go_wp2_with fail
  go_ret
  exact ⟨rfl,Below.refl _ _⟩
 have g1:decide (l.length≤120)=true:=by simpa using Nat.le_of_not_lt h1
 by_cases h2:12 < dep l
 ·have:okP l=false:=by
   unfold okP;rw [show decide (dep l≤12)=false from by simpa using h2,g1];rfl
  rw [this]
  clear g1
  go_enter Tryz.func83,Tryz.ntmps83
  go_wp2_with fail
  refine (depth_any _ _ hm).mono ?_
  rintro e w1 ⟨rfl,rfl⟩
  go_wp2_with fail
  go_ret
  exact ⟨rfl,Below.refl _ _⟩
 have hok:okP l=(left l (!l.isEmpty)).all okC:=by
  unfold okP;rw [g1,show decide (dep l≤12)=true from by simpa using Nat.le_of_not_lt h2,left_start];rfl
 rw [hok]
 obtain ⟨r,hr⟩:∃ r,(left l (!l.isEmpty)).all okC=r:=⟨_,rfl⟩
 rw [hr]
 have HR:Hid ((left l (!l.isEmpty)).all okC=r):=hr
 obtain ⟨ma,hma⟩:∃ m,(!l.isEmpty)=m:=⟨_,rfl⟩
 rw [hma] at HR
 have HM:Hid (l.length < 9223372036854775807):=hm
 clear hr hok g1
 go_enter Tryz.func83,Tryz.ntmps83
 go_wp2_with fail
 refine (depth_any _ _ HM.out).mono ?_
 rintro e w1 ⟨rfl,rfl⟩
 go_wp2_with fail
 refine (begin_any _ _).mono ?_
 rintro e w2 ⟨rfl,hb2⟩
 rw [hma]
 replace hb2:=hb2.below
 have hz2:=hb2.size
 have B2:Hid (Below w1.heap.size w1 w2):=hb2
 clear hb2
 go_wp2_with fail
 have K0:Hid (WK (w2.alloc (.cells #[.string (bs l),.bool ma] 163)) w2.heap.size l ma∧Below w1.heap.size w1 (w2.alloc (.cells #[.string (bs l),.bool ma] 163))):=⟨WK.new _ _ _ _,B2.out.alloc hz2 _⟩
 go_loopg [3] (left l ma).length (fun g p wr=>∃ (gp:Nat) (t:List UInt8) (m:Bool),p=.pointer (some ⟨gp,0,none⟩)∧w1.heap.size≤gp∧WK wr gp t m∧Below w1.heap.size w1 wr∧(left t m).all okC=r∧t.length≤l.length∧(left t m).length≤g)
 case atStart=>exact ⟨_,l,ma,rfl,hz2,K0.out.1,K0.out.2,HR.out,Nat.le_refl _,Nat.le_refl _⟩
 case round=>
  obtain ⟨gp,t,m,rfl,hgp,k,hbw,hall,htl,hg⟩:=hrel
  have HX:Hid (WK wr gp t m):=k
  have HB:Hid (Below w1.heap.size w1 wr):=hbw
  have HA:Hid ((left t m).all okC=r):=hall
  have HG:Hid ((left t m).length≤gk):=hg
  have HT:Hid (t.length≤l.length):=htl
  obtain ⟨_,x1,_,_,xlt⟩:=k
  clear hbw hall hg htl
  cases m
  ·have ha:=HA.out
   have ha:true=r:=ha
   subst ha
   go_wp2_with fail
   go_ret
   exact ⟨rfl,HB.out⟩
  ·go_wp2_with fail
   refine (next_any HX.out (by have:=HT.out;have:=HM.out;omega)).mono ?_
   rintro e w3 ⟨rfl,k3,o3⟩
   have HX3:Hid (WK w3 gp (tl t) (sl t)):=k3
   have HB3:Hid (Below w1.heap.size w1 w3):=below_trans HB.out (o3.1.below (by have:=HB.out.size;omega) (by simp;omega))
   have hz3:=HB3.out.size
   obtain ⟨y0,y1,_,_,_⟩:=k3
   clear o3 x1
   go_wp2_with fail
   refine (component_any _ _ (by have:=hd_le t;have:=HT.out;have:=HM.out;omega)).mono ?_
   rintro e w4 ⟨rfl,rfl⟩
   have ha:=HA.out
   rw [left_next,List.all_cons] at ha
   have hg:=HG.out
   rw [left_next] at hg
   cases hc:okC (hd t)
   ·rw [hc] at ha
    have ha:false=r:=ha
    subst ha
    go_wp2_with fail
    go_ret
    exact ⟨rfl,HB3.out⟩
   ·rw [hc] at ha
    have HA4:Hid ((left (tl t) (sl t)).all okC=r):=ha
    have HG4:Hid ((left (tl t) (sl t)).length < gk):=by simp at hg;exact hg
    clear ha hg
    go_wp2_with fail
    go_roundg (left (tl t) (sl t)).length
    case measure=>exact HG4.out
    case rel=>exact ⟨_,tl t,sl t,rfl,hz3,WK.new _ _ _ _,HB3.out.alloc hz3 _,HA4.out,by have:=tl_le t;have:=HT.out;omega,Nat.le_refl _⟩
end
section
open Go.RowKit
def sc (l:List (List UInt8)):List Value:=l.map fun p=>Value.string (bs p)
theorem sc_length (l:List (List UInt8)):(sc l).length=l.length:=by simp [sc]
theorem sc_append (a b:List (List UInt8)):sc (a++b)=sc a++sc b:=by simp [sc]
theorem sc_get (l:List (List UInt8)) (i:Nat):(sc l)[i]? = (l[i]?).map fun p=>Value.string (bs p):=by simp [sc]
theorem sc_one (l:List (List UInt8)):∀ u∈sc l,u.oneCell'=true:=by
 intro u hu
 obtain ⟨_,_,rfl⟩:=List.mem_map.1 hu
 rfl
def SS (w:World) (v:Value) (l:List (List UInt8)):Prop:=
 ((∃ a c,v=.slice a 0 c)∧l=[])∨
 ∃ b off cap,v=.slice (some ⟨b,off,none⟩) l.length cap∧l.length≤cap∧b < w.heap.size∧∀ i u,(sc l)[i]? = some u→w.cell? ⟨b,off+i,none⟩=some u
def Own (base:Nat) (w:World) (v:Value) (l:List (List UInt8)):Prop:=w.ownsRow base 9 1 v l.length (sc l)
theorem add_lit (b off j:Nat):(⟨b,off,none⟩:Addr).add j=⟨b,off+j,none⟩:=by unfold Addr.add;split<;>simp_all
theorem SS.later {w w':World} {v:Value} {l:List (List UInt8)} (h:SS w v l) (hb:Below w.heap.size w w'):SS w' v l:=by
 rcases h with h | ⟨b,off,cap,rfl,hc,hlt,hcell⟩
 ·exact .inl h
 ·refine .inr ⟨b,off,cap,rfl,hc,Nat.lt_of_lt_of_le hlt hb.size,fun i u hu=>?_⟩
  rw [hb.cell (p:=⟨b,off+i,none⟩) hlt];exact hcell i u hu
theorem SS_nil (w:World):SS w (.slice none 0 0) []:=.inl ⟨⟨_,_,rfl⟩,rfl⟩
theorem Own.bs {base:Nat} {w:World} {v:Value} {l:List (List UInt8)} (h:Own base w v l):SS w v l:=by
 rcases h.2 with ⟨rfl,h0⟩ | ⟨g,cap,cur,rfl,hb,hg,hn,_⟩
 ·exact .inl ⟨⟨_,_,rfl⟩,List.eq_nil_of_length_eq_zero h0⟩
 ·refine .inr ⟨g,0,cap,rfl,hn,(Array.getElem?_eq_some_iff.1 hg).1,fun i u hu=>?_⟩
  have:=World.ownsRow.cells h (g:=g) rfl i u hu
  rw [add_lit] at this;exact this
theorem Own.mono {base base':Nat} {w:World} {v:Value} {l:List (List UInt8)} (h:Own base w v l) (hb:base'≤base):Own base' w v l:=World.ownsRow.mono h hb
theorem Own.nil (base:Nat) (w:World):Own base w (.slice none 0 0) []:=World.ownsRow_nil w base 9 1
theorem SS.src {w:World} {v:Value} {l:List (List UInt8)} {P:Program} {tx e':TypeId} (h:SS w v l) (hk:P.underlying tx=some (.slice e')):Src P 1 tx v l.length (sc l) w:=by
 rcases h with ⟨⟨a,c,rfl⟩,rfl⟩ | ⟨b,off,cap,rfl,hc,hlt,hcell⟩
 ·cases a with
  | none=>exact Src.ofNil w hk c
  | some a=>exact Src.ofSlice w hk a 0 c [] (by simp) (fun j u hu=>by simp at hu) (fun u hu=>by cases hu)
 ·exact Src.ofSlice w hk ⟨b,off,none⟩ l.length cap (sc l) (by simp [sc]) (fun j u hu=>by rw [add_lit];exact hcell j u hu) (sc_one l)
section
variable {P:Program} (w:World)
theorem run_append_src (base:Nat) (t tx ty e:TypeId) (i:TypeInfo) (z:Value) (size bytes:Nat) (ht:P.underlying t=some (.slice e)) (hi:P.info? e=some i) (hz:i.zero=some z)
  (hsize:i.size=size) (hby:i.bytes=bytes) (hzs:z.cells.size=size)
  (v:Value) (n:Nat) (xs:List Value) (hown:w.ownsRow base e size v n xs)
  (x:Value) (m:Nat) (news:List Value) (hs:Src P size tx x m news w)
  (h63:n+m≤maxLen) (hbytes:(n+m) * bytes≤140737488355328) (hbase:base≤w.heap.size) :
  ∃ v' w',(Builtin.append_ #[t,tx] ty #[v,x]).run P w=.ok v' w'∧w'.ownsRow base e size v' (n+m) (xs++news)∧w.grownBy w' v.ownBlock∧
   (v'.ownBlock=v.ownBlock∨v'.ownBlock=some w.heap.size):=by
 subst hsize
 subst hby
 have hsmall:n+m≤9223372036854775807:=by simp only [maxLen] at h63;omega
 have hlen:(xs++news).length=(n+m) * i.size:=by rw [List.length_append,hown.1,hs.newsLen,Nat.add_mul]
 have grown:∀ (old:Nat),old < n+m→∀ (row:Option Nat),
   (w.drew.alloc (.cells ((xs++news).toArray++Builtin.zeroCells z.cells (grownCap w (n+m) old e - (n+m))) e)).ownsRow base e i.size
    (.slice (some ⟨w.heap.size,0,none⟩) (n+m) (grownCap w (n+m) old e)) (n+m) (xs++news)∧
   w.grownBy (w.drew.alloc (.cells ((xs++news).toArray++Builtin.zeroCells z.cells (grownCap w (n+m) old e - (n+m))) e)) row:=by
  intro old ho row
  have hge:=grownCap_ge w (n+m) old e
  have hcm:grownCap w (n+m) old e≤maxLen:=grownCap_le_maxLen w (n+m) old e h63
  refine ⟨⟨hlen,.inr ⟨w.heap.size,_,_,rfl,hbase,heap_alloc_new w.drew _,hge,hcm,?_,?_⟩⟩,⟨rfl,rfl,rfl,by simp,fun k hk _=>Below.heap_alloc w.drew _ k hk⟩⟩
  ·simp only [Array.size_append,List.size_toArray,size_zeroCells,hzs,hlen,← Nat.add_mul]
   congr 1
   omega
  ·simp only [Array.toList_append]
   rw [← hlen]
   exact List.take_left
 rcases hown.2 with ⟨rfl,rfl⟩ | ⟨g,cap,cur,rfl,hbg,hg,hnc,hcm,hcs,htake⟩
 ·have hx:xs=[]:=List.eq_nil_of_length_eq_zero (by simpa using hown.1)
  subst hx
  by_cases hm:m=0
  ·subst hm
   have hn:news=[]:=List.eq_nil_of_length_eq_zero (by simpa using hs.newsLen)
   subst hn
   exact ⟨.slice none 0 0,w,run_append_nothing w t tx ty e i ht hi none 0 0 (Nat.le_refl _) x hs,World.ownsRow_nil w base e i.size,⟨rfl,rfl,rfl,Nat.le_refl _,fun _ _ _=>rfl⟩,Or.inl rfl⟩
  ·have hr:=run_append_grow_src (P:=P) w t tx ty e i z ht hi hz none 0 0 [] (run_firstCells_none w.drew i.size 0 0 0) x m news hs (by omega) (by omega) (growslice_fits (by omega) hbytes)
   have hgr:=grown 0 (by omega) (Value.ownBlock (.slice none 0 0))
   exact ⟨_,_,hr,hgr.1,hgr.2,Or.inr rfl⟩
 ·by_cases hroom:n+m≤cap
  ·have hfit:n * i.size+news.length≤cur.size:=by rw [hs.newsLen,hcs,← Nat.add_mul];exact Nat.mul_le_mul_right _ hroom
   have hst:=run_storeCells_at P g (n * i.size) e news 0 cur w hg (by simpa using hfit) hs.one
   simp only [Nat.add_zero] at hst
   have hr:(Builtin.append_ #[t,tx] ty #[.slice (some ⟨g,0,none⟩) n cap,x]).run P w =
     .ok (.slice (some ⟨g,0,none⟩) (n+m) cap) (w.setRow g (cur.toList.take (n * i.size)++news++cur.toList.drop (n * i.size+news.length)).toArray):=by
    rcases hs.kind with ⟨e',hk⟩ | hk<;>simp [Builtin.append_,run_underlying ht,run_underlying hk,sizeOf,typeInfo,hi,hs.len,hroom,hs.cells,Addr.add_lit,hst]
   refine ⟨_,_,hr,⟨hlen,.inr ⟨g,cap,_,rfl,hbg,setRow_heap w g cur _ e _ hg,hroom,hcm,?_,?_⟩⟩,⟨rfl,rfl,rfl,by simp,fun k _ hk=>setRow_other w g k _ (fun e=>hk (by simp [Value.ownBlock,e]))⟩,Or.inl rfl⟩
   ·simp only [List.size_toArray,List.length_append,List.length_take,List.length_drop,Array.length_toList]
    omega
   ·rw [htake,← hlen]
    exact List.take_left
  ·have holds:∀ j u,xs[j]? = some u→w.cell? ((⟨g,0,none⟩:Addr).add j)=some u:=hown.cells (g:=g) rfl
   have hr:=run_append_grow_src (P:=P) w t tx ty e i z ht hi hz (some ⟨g,0,none⟩) n cap xs (run_firstCells_some w.drew i.size n _ n cap xs hown.1 (by simpa using holds)) x m news hs (by omega) (by omega) (growslice_fits (by omega) hbytes)
   have hgr:=grown cap (by omega) (Value.ownBlock (.slice (some ⟨g,0,none⟩) n cap))
   exact ⟨_,_,hr,hgr.1,hgr.2,Or.inr rfl⟩
theorem wpList_append_src {ops:Array Oper} {rest:List Oper} {o:Oper} {a:Act} {Q:Exit→Act→World→Prop} (hgd:o.guard=none) (s x:Operand) (t tx:TypeId)
  (ho:o.op=.call { callee:=.builtin .append,args:=#[s,x],argTypes:=#[t,tx] })
  (base:Nat) (e:TypeId) (i:TypeInfo) (z:Value) (size bytes:Nat) (ht:P.underlying t=some (.slice e)) (hi:P.info? e=some i) (hz:i.zero=some z)
  (hsize:i.size=size) (hby:i.bytes=bytes) (hzs:z.cells.size=size)
  (v:Value) (n:Nat) (xs:List Value) (hv:a.eval s=v) (hown:w.ownsRow base e size v n xs)
  (y:Value) (m:Nat) (news:List Value) (hx:a.eval x=y) (hs:Src P size tx y m news w)
  (h63:n+m≤maxLen) (hbytes:(n+m) * bytes≤140737488355328) (hbase:base≤w.heap.size)
  (h:∀ v' w',w'.ownsRow base e size v' (n+m) (xs++news)→w.grownBy w' v.ownBlock→(v'.ownBlock=v.ownBlock∨v'.ownBlock=some w.heap.size)→wpList P ops Q rest (a.put o.dst v') w') :
  wpList P ops Q (o::rest) a w:=by
 refine wpList_plain hgd fun K hK=>?_
 obtain ⟨v',w',hr,h2,h3,h4⟩:=run_append_src (P:=P) w base t tx o.type e i z size bytes ht hi hz hsize hby hzs v n xs hown y m news hs h63 hbytes hbase
 unfold Oper.wp execOp
 simp only [ho,resolve,invoke,builtin,Sem.run_bind,Sem.run_pure,Result.andThen_ok,List.map_toArray,List.map_cons,List.map_nil,hv,hx,hr]
 exact hK _ _ (h v' w' h2 h3 h4)
end
theorem und86:Tryz.prog.underlying 24=some (.slice 9):=by kernel_rfl
theorem info9:(Tryz.prog.info? 9).map (fun i=>(i.zero,i.size,i.bytes))=some (some (.string ByteArray.empty),1,16):=by kernel_rfl
theorem app_strs {w:World} {base:Nat} {v x:Value} {l k:List (List UInt8)} (hown:Own base w v l) (hs:Src Tryz.prog 1 24 x k.length (sc k) w) (hb:l.length+k.length≤8796093022208) (hbase:base≤w.heap.size)
  {ops:Array Oper} {rest:List Oper} {o:Oper} {a:Act} {Q:Exit→Act→World→Prop} (hgd:o.guard=none) (s y:Operand)
  (ho:o.op=.call { callee:=.builtin .append,args:=#[s,y],argTypes:=#[24,24] }) (hv:a.eval s=v) (hx:a.eval y=x)
  (h:∀ v' w',Own base w' v' (l++k)→w.grownBy w' v.ownBlock→(v'.ownBlock=v.ownBlock∨v'.ownBlock=some w.heap.size)→wpList Tryz.prog ops Q rest (a.put o.dst v') w') :
  wpList Tryz.prog ops Q (o::rest) a w:=by
 obtain ⟨i0,hi,hz0,hz1,hz2⟩:=info_parts info9
 refine wpList_append_src w hgd s y 24 24 ho base 9 i0 (.string ByteArray.empty) 1 16 und86 hi hz0 hz1 hz2 rfl v l.length (sc l) hv hown x k.length (sc k) hx hs (by simp only [maxLen];omega) (by omega) hbase ?_
 intro v' w' h1 h2 h3
 exact h v' w' (by unfold Own;rw [sc_append,List.length_append];exact h1) h2 h3
end
end Go.Proofs.YtppnbdnpapellaaGreatDoor
