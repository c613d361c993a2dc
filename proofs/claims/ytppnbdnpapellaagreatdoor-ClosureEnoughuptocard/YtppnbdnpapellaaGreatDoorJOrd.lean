import Derived.Lib.Bytealg
import Derived.Test.YtppnbdnpapellaaGreatDoorProg
import Derived.WalkKit
import Derived.OrdersHeld
import Derived.WalkSpells
import Derived.WalkLawsBesides
import Derived.Lib.Walk
import Derived.Deep.QuietTactic
import Derived.BigQuiet
import Derived.Deep.RegionWith
import Derived.Deep.LoopGhost
import Derived.Sort.Grow
set_option maxRecDepth 100000
set_option maxHeartbeats 16000000
namespace Go.Proofs.YtppnbdnpapellaaGreatDoor
def sp:List UInt8→List (List UInt8)
 | []=>[[]]
 | c::l=>if c=47 then []::sp l else match sp l with
  | []=>[[c]]
  | p::ps=>(c::p)::ps
def hd:List UInt8→List UInt8
 | []=>[]
 | c::l=>if c=47 then [] else c::hd l
def tl:List UInt8→List UInt8
 | []=>[]
 | c::l=>if c=47 then l else tl l
def sl:List UInt8→Bool
 | []=>false
 | c::l=>if c=47 then true else sl l
def pcs (l:List UInt8):List (List UInt8):=if l=[] then [] else sp l
def left (t:List UInt8) (m:Bool):List (List UInt8):=if m then sp t else []
theorem sp_eq:∀ l,sp l=hd l::left (tl l) (sl l)
 | []=>rfl
 | c::l=>by
  have ih:=sp_eq l
  by_cases h:c=47
  ·simp [sp,hd,tl,sl,left,h]
  ·simp [sp,hd,tl,sl,left,h,ih]
theorem sp_ne (l):sp l≠[]:=by rw [sp_eq];simp
theorem left_next (t:List UInt8):left t true=hd t::left (tl t) (sl t):=by rw [← sp_eq];rfl
theorem left_false (t:List UInt8):left t false=[]:=rfl
theorem cut_eq:∀ l,l=hd l++(if sl l then 47::tl l else [])
 | []=>rfl
 | c::l=>by
  have ih:=cut_eq l
  by_cases h:c=47
  ·simp [hd,tl,sl,h]
  ·simp only [hd,tl,sl,h,if_false,List.cons_append,List.cons.injEq,true_and];exact ih
theorem indexByte_eq:∀ l,Lib.indexByte l 47=if sl l then ((hd l).length:Int) else -1
 | []=>rfl
 | c::l=>by
  have ih:=indexByte_eq l
  unfold Lib.indexByte
  by_cases h:c=47
  ·simp [hd,sl,h]
  ·have e:(c == 47)=false:=by simpa using h
   rw [e,ih]
   simp only [hd,sl,h,if_false,Bool.false_eq_true]
   cases hs:sl l
   ·simp
   ·simp only [if_true,List.length_cons]
    have:((((hd l).length:Int)) == -1)=false:=by rw [beq_eq_false_iff_ne];omega
    rw [this];simp
theorem hd_len (l) (h:sl l=true):(hd l).length+1+(tl l).length=l.length:=by
 have:=congrArg List.length (cut_eq l)
 rw [h] at this;simp at this;omega
theorem hd_all (l) (h:sl l=false):hd l=l:=by
 have:=cut_eq l
 rw [h] at this;simpa using this.symm
theorem tl_none:∀ l,sl l=false→tl l=[]
 | [],_=>rfl
 | c::l,h=>by
  by_cases hc:c=47
  ·simp [sl,hc] at h
  ·simp only [sl,hc,if_false] at h;simp only [tl,hc,if_false];exact tl_none l h
theorem hd_le (l):(hd l).length≤l.length:=by
 cases h:sl l
 ·rw [hd_all l h];exact Nat.le_refl _
 ·have:=hd_len l h;omega
theorem tl_le (l):(tl l).length≤l.length:=by
 cases h:sl l
 ·rw [tl_none l h];simp
 ·have:=hd_len l h;omega
theorem take_app {α:Type} {l a r:List α} (h:l=a++r):l.take a.length=a:=by rw [h];simp
theorem drop_app {α:Type} {l a r:List α} (h:l=a++r):l.drop a.length=r:=by rw [h];simp
theorem hd_take (l):hd l=l.take (hd l).length:=(take_app (cut_eq l)).symm
theorem tl_drop (l) (h:sl l=true):tl l=l.drop ((hd l).length+1):=by
 rw [← List.drop_drop,drop_app (cut_eq l),h];rfl
def dep (l:List UInt8):Nat:=if l=[] then 0 else l.count 47+1
theorem dep_le (l):dep l≤l.length+1:=by
 unfold dep
 have:=List.count_le_length (a:=(47:UInt8)) (l:=l)
 split<;>omega
def join:List (List UInt8)→List UInt8
 | []=>[]
 | [p]=>p
 | p::q::r=>p++47::join (q::r)
theorem join_cons (p:List UInt8) (r:List (List UInt8)) (h:r≠[]):join (p::r)=p++47::join r:=by
 cases r with
 | nil=>exact absurd rfl h
 | cons q r=>rfl
theorem join_sp:∀ l,join (sp l)=l
 | []=>rfl
 | c::l=>by
  have ih:=join_sp l
  by_cases h:c=47
  ·simp only [sp,h,if_true];rw [join_cons _ _ (sp_ne l),ih];rfl
  ·unfold sp
   rw [if_neg h]
   cases hs:sp l with
   | nil=>exact absurd hs (sp_ne l)
   | cons p ps=>
    rw [hs] at ih
    cases ps with
    | nil=>simp only [join] at ih ⊢;rw [ih]
    | cons q r=>simp only [join] at ih ⊢;rw [List.cons_append,ih]
theorem join_pcs (l):join (pcs l)=l:=by
 unfold pcs
 by_cases h:l=[]
 ·simp [h,join]
 ·simp [h,join_sp]
theorem pcs_inj {a b:List UInt8} (h:pcs a=pcs b):a=b:=by rw [← join_pcs a,← join_pcs b,h]
def cmpP:List (List UInt8)→List (List UInt8)→Int
 | [],[]=>0
 | [],_::_=>-1
 | _::_,[]=>1
 | p::ps,q::qs=>if Lib.compareBytes p q=0 then cmpP ps qs else Lib.compareBytes p q
def com:List (List UInt8)→List (List UInt8)→Nat
 | p::ps,q::qs=>if p=q then com ps qs+1 else 0
 | _,_=>0
def mt:Nat→Nat→List (List UInt8)→List (List UInt8)→Nat
 | st,sm,p::ps,q::qs=>if Lib.compareBytes p q=0 then mt (st+p.length+1) (st+p.length) ps qs else sm
 | _,sm,_,_=>sm
theorem cb_refl:∀ a,Lib.compareBytes a a=0
 | []=>rfl
 | x::a=>by
  have:¬ x < x:=UInt8.lt_irrefl x
  simp [Lib.compareBytes,this,cb_refl a]
theorem cb_zero:∀ {a b},Lib.compareBytes a b=0→a=b
 | [],[],_=>rfl
 | [],_::_,h=>by simp [Lib.compareBytes] at h
 | _::_,[],h=>by simp [Lib.compareBytes] at h
 | x::a,y::b,h=>by
  unfold Lib.compareBytes at h
  by_cases h1:x < y
  ·simp [h1] at h
  ·by_cases h2:y < x
   ·simp [h1,h2] at h
   ·simp only [h1,h2,if_false] at h
    have:x=y:=UInt8.le_antisymm (UInt8.not_lt.1 h2) (UInt8.not_lt.1 h1)
    rw [this,cb_zero h]
theorem cb_iff {a b}:Lib.compareBytes a b=0↔a=b:=⟨cb_zero,fun h=>h▸cb_refl _⟩
theorem cb_neg:∀ a b,Lib.compareBytes b a = - Lib.compareBytes a b
 | [],[]=>rfl
 | [],_::_=>rfl
 | _::_,[]=>rfl
 | x::a,y::b=>by
  unfold Lib.compareBytes
  by_cases h1:x < y
  ·have h2:¬ y < x:=UInt8.not_lt.2 (UInt8.le_of_lt h1)
   simp [h1,h2]
  ·by_cases h2:y < x
   ·simp [h1,h2]
   ·simp [h1,h2,cb_neg a b]
theorem cb_range:∀ a b,Lib.compareBytes a b = -1∨Lib.compareBytes a b=0∨Lib.compareBytes a b=1
 | [],[]=>.inr (.inl rfl)
 | [],_::_=>.inl rfl
 | _::_,[]=>.inr (.inr rfl)
 | x::a,y::b=>by
  unfold Lib.compareBytes
  by_cases h1:x < y
  ·simp [h1]
  ·by_cases h2:y < x
   ·simp [h1,h2]
   ·simp only [h1,h2,if_false];exact cb_range a b
theorem cb_trans:∀ a b c,Lib.compareBytes a b = -1→Lib.compareBytes b c = -1→Lib.compareBytes a c = -1
 | [],[],_,h,_=>by simp [Lib.compareBytes] at h
 | [],_::_,[],_,h=>by simp [Lib.compareBytes] at h
 | [],_::_,_::_,_,_=>rfl
 | _::_,[],_,h,_=>by simp [Lib.compareBytes] at h
 | _::_,_::_,[],_,h=>by simp [Lib.compareBytes] at h
 | x::a,y::b,z::c,h,h'=>by
  unfold Lib.compareBytes at h h' ⊢
  have k1:∀ {p q:UInt8},p < q↔p.toNat < q.toNat:=UInt8.lt_iff_toNat_lt
  simp only [k1] at h h' ⊢
  by_cases h1:x.toNat < y.toNat
  ·by_cases h2:y.toNat < z.toNat
   ·rw [if_pos (by omega)]
   ·by_cases h3:z.toNat < y.toNat
    ·rw [if_neg h2,if_pos h3] at h';simp at h'
    ·rw [if_pos (by omega)]
  ·by_cases h2:y.toNat < x.toNat
   ·rw [if_neg h1,if_pos h2] at h;simp at h
   ·rw [if_neg h1,if_neg h2] at h
    by_cases h3:y.toNat < z.toNat
    ·rw [if_pos (by omega)]
    ·by_cases h4:z.toNat < y.toNat
     ·rw [if_neg h3,if_pos h4] at h';simp at h'
     ·rw [if_neg h3,if_neg h4] at h'
      rw [if_neg (by omega),if_neg (by omega)]
      exact cb_trans a b c h h'
theorem cmpP_refl:∀ a,cmpP a a=0
 | []=>rfl
 | p::ps=>by simp [cmpP,cb_refl,cmpP_refl ps]
theorem cmpP_zero:∀ {a b},cmpP a b=0→a=b
 | [],[],_=>rfl
 | [],_::_,h=>by simp [cmpP] at h
 | _::_,[],h=>by simp [cmpP] at h
 | p::ps,q::qs,h=>by
  unfold cmpP at h
  by_cases h0:Lib.compareBytes p q=0
  ·rw [if_pos h0] at h;rw [cb_zero h0,cmpP_zero h]
  ·rw [if_neg h0] at h;exact absurd h h0
theorem cmpP_neg:∀ a b,cmpP b a = - cmpP a b
 | [],[]=>rfl
 | [],_::_=>rfl
 | _::_,[]=>rfl
 | p::ps,q::qs=>by
  unfold cmpP
  rw [cb_neg p q]
  by_cases h0:Lib.compareBytes p q=0
  ·rw [if_pos (by omega),if_pos h0,cmpP_neg ps qs]
  ·rw [if_neg (by omega),if_neg h0]
theorem cmpP_range:∀ a b,cmpP a b = -1∨cmpP a b=0∨cmpP a b=1
 | [],[]=>.inr (.inl rfl)
 | [],_::_=>.inl rfl
 | _::_,[]=>.inr (.inr rfl)
 | p::ps,q::qs=>by
  unfold cmpP
  by_cases h0:Lib.compareBytes p q=0
  ·rw [if_pos h0];exact cmpP_range ps qs
  ·rw [if_neg h0];exact cb_range p q
theorem cmpP_trans:∀ a b c,cmpP a b = -1→cmpP b c = -1→cmpP a c = -1
 | [],[],_,h,_=>by simp [cmpP] at h
 | [],_::_,[],_,h=>by simp [cmpP] at h
 | [],_::_,_::_,_,_=>rfl
 | _::_,[],_,h,_=>by simp [cmpP] at h
 | _::_,_::_,[],_,h=>by simp [cmpP] at h
 | p::ps,q::qs,r::rs,h,h'=>by
  unfold cmpP at h h' ⊢
  by_cases h1:Lib.compareBytes p q=0
  ·rw [if_pos h1] at h
   have:=cb_zero h1;subst this
   by_cases h2:Lib.compareBytes p r=0
   ·rw [if_pos h2] at h' ⊢;exact cmpP_trans ps qs rs h h'
   ·rw [if_neg h2] at h' ⊢;exact h'
  ·rw [if_neg h1] at h
   by_cases h2:Lib.compareBytes q r=0
   ·have:=cb_zero h2;subst this
    rw [if_neg h1];exact h
   ·rw [if_neg h2] at h'
    have:=cb_trans p q r h h'
    rw [if_neg (by omega)];exact this
theorem com_le:∀ a b,com a b≤a.length∧com a b≤b.length
 | [],b=>by simp [com]
 | _::_,[]=>by simp [com]
 | p::ps,q::qs=>by
  have:=com_le ps qs
  unfold com
  split<;>simp<;>omega
theorem mt_eq:∀ (A B:List (List UInt8)) (st sm:Nat),mt st sm A B=if com A B=0 then sm else st+(join (A.take (com A B))).length
 | [],_,_,_=>by simp [mt,com]
 | _::_,[],_,_=>by simp [mt,com]
 | p::ps,q::qs,st,sm=>by
  unfold mt com
  by_cases h:p=q
  ·rw [if_pos (cb_iff.2 h),if_pos h,mt_eq ps qs]
   rw [List.take_succ_cons]
   by_cases h0:com ps qs=0
   ·rw [if_pos h0,h0];simp [join]
   ·rw [if_neg h0,if_neg (Nat.succ_ne_zero _)]
    have hne:ps.take (com ps qs)≠[]:=by
     intro e
     have h1:=congrArg List.length e
     have h2:=(com_le ps qs).1
     simp at h1
     rcases h1 with h1 | h1
     ·exact h0 h1
     ·subst h1;simp [com] at h0
    rw [join_cons _ _ hne]
    simp;omega
  ·rw [if_neg (fun e=>h (cb_iff.1 e)),if_neg h];simp
def cmn (a b:List UInt8):List UInt8:=join ((pcs a).take (com (pcs a) (pcs b)))
theorem mt_cmn (a b:List UInt8):mt 0 0 (pcs a) (pcs b)=(cmn a b).length:=by
 rw [mt_eq]
 unfold cmn
 by_cases h:com (pcs a) (pcs b)=0
 ·rw [if_pos h,h];simp [join]
 ·rw [if_neg h];simp
def lst:List UInt8→Int
 | []=>-1
 | c::l=>if 0≤lst l then lst l+1 else if c=47 then 0 else -1
theorem lst_ge:∀ l,-1≤lst l
 | []=>by simp [lst]
 | c::l=>by have:=lst_ge l;unfold lst;split;omega;split<;>omega
theorem lst_lt:∀ l,lst l < l.length
 | []=>by simp [lst]
 | c::l=>by have:=lst_lt l;unfold lst;simp;split;omega;split<;>omega
theorem lst_miss:∀ (l:List UInt8),(∀ j:Nat,l[j]?≠some 47)→lst l = -1
 | [],_=>rfl
 | c::l,h=>by
  have ih:=lst_miss l (fun j=>by have:=h (j+1);simpa using this)
  have hc:c≠47:=by have:=h 0;simpa using this
  unfold lst;rw [ih];simp [hc]
theorem lst_hit:∀ (l:List UInt8) (i:Nat),l[i]? = some 47→(∀ j:Nat,i < j→l[j]?≠some 47)→lst l=i
 | [],i,h,_=>by simp at h
 | c::l,0,h,h'=>by
  have ih:=lst_miss l (fun j=>by have:=h' (j+1) (by omega);simpa using this)
  have hc:c=47:=by simpa using h
  unfold lst;rw [ih];simp [hc]
 | c::l,i+1,h,h'=>by
  have ih:=lst_hit l i (by simpa using h) (fun j hj=>by have:=h' (j+1) (by omega);simpa using this)
  unfold lst;rw [ih];simp
def dir (l:List UInt8):List UInt8:=if lst l < 0 then [] else l.take (lst l).toNat
def base (l:List UInt8):List UInt8:=l.drop (lst l+1).toNat
def okB (c:UInt8):Bool:=(97≤c.toNat && c.toNat≤122) || (65≤c.toNat && c.toNat≤90) || (48≤c.toNat && c.toNat≤57) || c.toNat == 46 || c.toNat == 95 || c.toNat == 45
def okC (l:List UInt8):Bool:=!(l == []) && !(l == [46]) && !(l == [46,46]) && !(l == [46,46,46]) && decide (l.length≤32) && l.all okB
def okP (l:List UInt8):Bool:=decide (l.length≤120) && decide (dep l≤12) && (pcs l).all okC
def jn (a b:List UInt8):List UInt8×Int:=
 if okP a=true∧okP b=true then
  (if a=[] then (b,0) else if b=[] then (a,0) else if okP (a++47::b)=true then (a++47::b,0) else ([],7))
 else ([],7)
section
open Go.RowKit
def bs (l:List UInt8):ByteArray:=⟨l.toArray⟩
theorem bs_data (l:List UInt8):(bs l).data.toList=l:=rfl
theorem bs_size (l:List UInt8):(bs l).size=l.length:=rfl
theorem bs_toList (l:List UInt8):(bs l).toList=l:=by rw [Lib.toList_data];rfl
theorem bs_inj {a b:List UInt8}:bs a=bs b↔a=b:=⟨fun h=>by have:=congrArg (fun s=>s.data.toList) h;exact this,fun h=>by rw [h]⟩
theorem bs_extract (l:List UInt8) (a b:Nat):(bs l).extract a b=bs ((l.drop a).take (b - a)):=Lib.extract_eq (bs l) a b
theorem compareString (a b:List UInt8) (w:World) :
  Calls Tryz.prog 152 #[.string (bs a),.string (bs b)] w fun e w'=>e=.returned (.int .i64 (Lib.compareBytes a b))∧w'=w:=by
 go_enter Tryz.func152,Tryz.ntmps152
 go_wp2
 rw [run_callFunc_extern Tryz.func190 (by kernel_rfl) (by kernel_rfl) (by kernel_rfl) (e:=Extern.BytealgCompare.compare) (by kernel_rfl),Lib.run_compareString]
 simp only [Result.andThen]
 rw [Oper.upon_value]
 go_wp2
 go_ret
 exact ⟨rfl,rfl⟩
theorem compare_any (a b:List UInt8) (w:World) :
  Calls Tryz.prog 112 #[.string (bs a),.string (bs b)] w fun e w'=>e=.returned (.int .i64 (Lib.compareBytes a b))∧w'=w:=by
 go_enter Tryz.func112,Tryz.ntmps112
 go_wp2_with fail
 refine (compareString _ _ _).mono ?_
 rintro e w1 ⟨rfl,rfl⟩
 go_wp2_with fail
 go_ret
 exact ⟨rfl,rfl⟩
theorem indexByte_any (l:List UInt8) (w:World) :
  Calls Tryz.prog 228 #[.string (bs l),.int .u8 47] w fun e w'=>e=.returned (.int .i64 (Lib.indexByte l 47))∧w'=w:=by
 go_enter Tryz.func228,Tryz.ntmps228
 go_wp2
 rw [run_callFunc_extern Tryz.func258 (by kernel_rfl) (by kernel_rfl) (by kernel_rfl) (e:=Extern.BytealgIndexByte.indexByte) (by kernel_rfl),Lib.run_indexByteString]
 simp only [Result.andThen]
 rw [Oper.upon_value]
 go_wp2
 go_ret
 exact ⟨rfl,rfl⟩
theorem index_any (l:List UInt8) (w:World) :
  Calls Tryz.prog 188 #[.string (bs l),.string (bs [47])] w fun e w'=>e=.returned (.int .i64 (Lib.indexByte l 47))∧w'=w:=by
 have hz:(bs [47]).size=1:=rfl
 by_cases hl:l=[47]
 ·subst hl
  have he:((bs [47]).toList == (bs [47]).toList)=true:=by simp
  go_enter Tryz.func188,Tryz.ntmps188
  go_wp2_with fail
  go_ret
  exact ⟨rfl,rfl⟩
 ·have he:((bs [47]).toList == (bs l).toList)=false:=by rw [bs_toList,bs_toList,beq_eq_false_iff_ne];exact fun e=>hl e.symm
  go_enter Tryz.func188,Tryz.ntmps188
  go_wp2_with fail
  refine (indexByte_any _ _).mono ?_
  rintro e w1 ⟨rfl,rfl⟩
  go_wp2_with fail
  go_ret
  exact ⟨rfl,rfl⟩
theorem extract_hd (l:List UInt8):(bs l).extract 0 (hd l).length=bs (hd l):=by
 rw [bs_extract];congr 1;simp [← hd_take l]
theorem extract_tl (l:List UInt8) (h:sl l=true):(bs l).extract ((hd l).length+1) (bs l).size=bs (tl l):=by
 rw [bs_extract,← tl_drop l h];congr 1
 rw [bs_size];have:=hd_len l h;exact List.take_of_length_le (by omega)
theorem cut0_any (l:List UInt8) (w:World) (hm:l.length≤9223372036854775807) :
  Calls Tryz.prog 189 #[.string (bs l),.string (bs [47])] w fun e w'=>e=.returned (.tuple #[.string (bs (hd l)),.string (bs (tl l)),.bool (sl l)])∧∃ n,w'=w.drewN n:=by
 have hz:(bs [47]).size=1:=rfl
 have hx:=indexByte_eq l
 cases h:sl l
 ·rw [h] at hx
  simp only [Bool.false_eq_true,if_false] at hx
  rw [hd_all l h,tl_none l h]
  go_enter Tryz.func189,Tryz.ntmps189
  go_wp2_with fail
  refine (index_any _ _).mono ?_
  rintro e w1 ⟨rfl,rfl⟩
  rw [hx]
  go_wp2_with fail
  go_ret3
  exact ⟨rfl,0,rfl⟩
 ·rw [h] at hx
  simp only [if_true] at hx
  have hlen:=hd_len l h
  have hsz:(bs l).size=l.length:=rfl
  obtain ⟨n,hn⟩:∃ n,(hd l).length=n:=⟨_,rfl⟩
  have e1:=extract_hd l
  have e2:=extract_tl l h
  rw [hn] at e1 e2 hx hlen
  rw [hsz] at e2
  have E1:Hid ((bs l).extract 0 n=bs (hd l)):=e1
  have E2:Hid ((bs l).extract (n+1) l.length=bs (tl l)):=e2
  clear e1 e2
  have c1:(0:Int)≤↑n:=by omega
  have c2:(n:Int)≤(l.length:Int):=by omega
  have c3:(0:Int)≤↑n+1:=by omega
  have c4:(n:Int)+1≤(l.length:Int):=by omega
  go_enter Tryz.func189,Tryz.ntmps189
  go_wp2_with fail
  refine (index_any _ _).mono ?_
  rintro e w1 ⟨rfl,rfl⟩
  rw [hx]
  go_wp2_with fail
  go_region
  go_wp2_with fail
  go_ret3
  refine ⟨?_,1,rfl⟩
  rw [← E1.out,← E2.out];rfl
theorem cut_any (l:List UInt8) (w:World) (hm:l.length≤9223372036854775807) :
  Calls Tryz.prog 151 #[.string (bs l),.string (bs [47])] w fun e w'=>e=.returned (.tuple #[.string (bs (hd l)),.string (bs (tl l)),.bool (sl l)])∧∃ n,w'=w.drewN n:=by
 have HM:Hid (l.length≤9223372036854775807):=hm
 clear hm
 go_enter Tryz.func151,Tryz.ntmps151
 go_wp2_with fail
 refine (cut0_any _ _ HM.out).mono ?_
 rintro e w1 ⟨rfl,n,rfl⟩
 go_wp2_with fail
 go_ret3
 exact ⟨rfl,n,rfl⟩
theorem bs_get (l:List UInt8) (i:Nat) (h:i < (bs l).size) (h':i < l.length):(bs l)[i]'h=l[i]'h':=rfl
theorem lastB_any (l:List UInt8) (w:World) (hm:l.length≤9223372036854775807) :
  Calls Tryz.prog 186 #[.string (bs l),.int .u8 47] w fun e w'=>e=.returned (.int .i64 (lst l))∧w'=w:=by
 have hz:(bs l).size=l.length:=rfl
 go_enter Tryz.func186,Tryz.ntmps186
 go_wp2_with fail
 go_loop [5] (fun i=>∃ k:Nat,k≤l.length∧i=.int .i64 ((k:Int) - 1)∧∀ j:Nat,k≤j→l[j]?≠some 47) (fun i=>(intOf i+1).toNat)
 case atStart=>exact ⟨l.length,Nat.le_refl _,rfl,fun j hj=>by rw [List.getElem?_eq_none hj];simp⟩
 case round=>
  obtain ⟨k,hk,rfl,hno⟩:=hrel
  have HN:Hid (∀ j:Nat,k≤j→l[j]?≠some 47):=hno
  clear hno
  rcases k with _ | k
  ·go_wp2_with fail
   go_ret
   exact ⟨by rw [lst_miss l (fun j=>HN.out j (Nat.zero_le _))];rfl,rfl⟩
  ·have hkl:k < l.length:=by omega
   by_cases hc:l[k]'hkl=47
   ·have hkz:k < (bs l).size:=hkl
    have e1:(((bs l)[k].toNat:Int) == 47)=true:=by rw [bs_get _ _ _ hkl,hc];rfl
    go_wp2_with fail
    go_ret
    exact ⟨by rw [lst_hit l k (by rw [List.getElem?_eq_getElem hkl,hc]) (fun j hj=>HN.out j hj)];rfl,rfl⟩
   ·have hkz:k < (bs l).size:=hkl
    have e1:(((bs l)[k].toNat:Int) == 47)=false:=by
     rw [bs_get _ _ _ hkl,beq_eq_false_iff_ne];intro e;apply hc;apply UInt8.toNat_inj.1;exact Int.ofNat.inj e
    go_wp2_with fail
    go_round
    case rel=>
     refine ⟨k,by omega,rfl,fun j hj=>?_⟩
     by_cases hjk:j=k
     ·subst hjk;rw [List.getElem?_eq_getElem hkl];simpa using hc
     ·exact HN.out j (by omega)
    case measure=>simp only [intOf];omega
theorem last_any (l:List UInt8) (w:World) (hm:l.length≤9223372036854775807) :
  Calls Tryz.prog 149 #[.string (bs l),.string (bs [47])] w fun e w'=>e=.returned (.int .i64 (lst l))∧w'=w:=by
 have hz:(bs [47]).size=1:=rfl
 have HM:Hid (l.length≤9223372036854775807):=hm
 clear hm
 go_enter Tryz.func149,Tryz.ntmps149
 go_wp2_with fail
 refine (lastB_any _ _ HM.out).mono ?_
 rintro e w1 ⟨rfl,rfl⟩
 go_wp2_with fail
 go_ret
 exact ⟨rfl,rfl⟩
theorem count_any (l:List UInt8) (w:World) :
  Calls Tryz.prog 175 #[.string (bs l),.string (bs [47])] w fun e w'=>e=.returned (.int .i64 (l.count 47:Nat))∧w'=w:=by
 go_enter Tryz.func175,Tryz.ntmps175
 go_wp2
 rw [run_callFunc_extern Tryz.func205 (by kernel_rfl) (by kernel_rfl) (by kernel_rfl) (e:=Extern.BytealgCount.count) (by kernel_rfl),Lib.run_countString]
 simp only [Result.andThen]
 rw [Oper.upon_value]
 go_wp2
 go_ret
 exact ⟨rfl,rfl⟩
theorem tkH {P:Program} {md:Region.Mode} {ops:Array Oper} {Q:Exit→Act→World→Prop} {S:World→Prop} {fuel:Nat} {listed:Array Bool} {a:Act} {w:World} (i:Nat) (oi:Oper) (v:Value) (hi:ops[i]? = some oi) (hy:YieldsIf P ops S oi v a) (h:wpAnyH P md ops Q S fuel (listed.setIfInBounds i true) (a.put oi.dst v) w) (hs:Region.noSelect ops=true:=by kernel_rfl) (hf:Region.free md ops listed i=true:=by kernel_rfl) (hr:(Region.ready md ops listed).contains i=true:=by kernel_rfl) (hQ:∀ c a w,Q (.panic c) (a.put oi.dst v) w→Q (.panic c) a w:=by exact fun _ _ _ h=>h) (hS:S w:=by assumption):wpAnyH P md ops Q S (fuel+1) listed a w:=wpAnyH_take hi hs hf hr hQ hy hS h
theorem sA {α:Type} (l:List α) (i:Nat) (a:α):l.toArray.setIfInBounds i a=(l.set i a).toArray:=List.setIfInBounds_toArray ..
theorem sB {α:Type} {x:α} {xs:List α} {b:α}:(x::xs).set 0 b=b::xs:=List.set_cons_zero
theorem sC {α:Type} {x:α} {xs:List α} {n:Nat} {b:α}:(x::xs).set (n+1) b=x::xs.set n b:=List.set_cons_succ
end
section
open Go.RowKit
structure Only (S:List Nat) (w w':World):Prop where
 os:w'.os=w.os
 tape:w'.tape=w.tape
 output:w'.output=w.output
 size:w.heap.size≤w'.heap.size
 block:∀ k,k < w.heap.size→k∉S→w'.heap[k]? = w.heap[k]?
structure Laid (w w':World):Prop where
 below:Below w.heap.size w w'
 drawn:w.drawn≤w'.drawn
theorem Only.refl (S:List Nat) (w:World):Only S w w:=⟨rfl,rfl,rfl,Nat.le_refl _,fun _ _ _=>rfl⟩
theorem Only.trans {S:List Nat} {a b c:World} (h:Only S a b) (k:Only S b c):Only S a c:=
 ⟨k.os.trans h.os,k.tape.trans h.tape,k.output.trans h.output,Nat.le_trans h.size k.size,fun i hi hn=>(k.block i (Nat.lt_of_lt_of_le hi h.size) hn).trans (h.block i hi hn)⟩
theorem Only.mono {S T:List Nat} {a b:World} (h:Only S a b) (hs:∀ k,k∈S→k∈T):Only T a b:=
 ⟨h.os,h.tape,h.output,h.size,fun i hi hn=>h.block i hi (fun e=>hn (hs i e))⟩
theorem Only.of_below {a b:World} (h:Below a.heap.size a b) (S:List Nat):Only S a b:=
 ⟨h.os,h.tape,h.output,h.size,fun i hi _=>h.block i hi⟩
theorem Only.below {S:List Nat} {a b:World} {B:Nat} (h:Only S a b) (hB:B≤a.heap.size) (hS:∀ k,k∈S→B≤k):Below B a b:=
 ⟨h.os,h.tape,h.output,h.size,fun i hi=>h.block i (by omega) (fun e=>by have:=hS i e;omega)⟩
theorem Only.set (w:World) (g o:Nat) (v:Value):Only [g] w (w.setCell ⟨g,o,none⟩ v):=
 ⟨rfl,rfl,rfl,by simp [World.setCell],fun k _ hn=>Below.heap_setCell _ _ _ _ (fun e=>hn (by simp [e]))⟩
theorem Only.drew (S:List Nat) (w:World) (n:Nat):Only S w (w.drewN n):=⟨rfl,rfl,rfl,Nat.le_refl _,fun _ _ _=>rfl⟩
theorem balloc (w:World) (o:Obj):Below w.heap.size w (w.alloc o):=(Below.refl _ _).alloc (Nat.le_refl _) o
theorem below_trans {B:Nat} {a b c:World} (h:Below B a b) (k:Below B b c):Below B a c:=
 ⟨k.os.trans h.os,k.tape.trans h.tape,k.output.trans h.output,Nat.le_trans h.size k.size,fun i hi=>(k.block i hi).trans (h.block i hi)⟩
theorem below_mono {B C:Nat} {a b:World} (h:Below C a b) (hBC:B≤C):Below B a b:=
 ⟨h.os,h.tape,h.output,h.size,fun i hi=>h.block i (by omega)⟩
structure WK (w:World) (g:Nat) (t:List UInt8) (m:Bool):Prop where
 text:w.cell? ⟨g,0,none⟩=some (.string (bs t))
 more:w.cell? ⟨g,1,none⟩=some (.bool m)
 f0:w.frozen? ⟨g,0,none⟩=false
 f1:w.frozen? ⟨g,1,none⟩=false
 lt:g < w.heap.size
theorem WK.only {S:List Nat} {w w':World} {g:Nat} {t:List UInt8} {m:Bool} (h:WK w g t m) (ho:Only S w w') (hg:g∉S):WK w' g t m:=by
 have hb:=ho.block g h.lt hg
 exact ⟨by rw [World.cell?_of_block (w:=w) hb];exact h.text,by rw [World.cell?_of_block (w:=w) hb];exact h.more,
  by rw [World.frozen?_of_block (w:=w) hb];exact h.f0,by rw [World.frozen?_of_block (w:=w) hb];exact h.f1,Nat.lt_of_lt_of_le h.lt ho.size⟩
theorem WK.later {w w':World} {g:Nat} {t:List UInt8} {m:Bool} (h:WK w g t m) (hb:Below w.heap.size w w'):WK w' g t m:=h.only (Only.of_below hb []) (by simp)
theorem WK.new (w:World) (t:List UInt8) (m:Bool) (k:TypeId):WK (w.alloc (.cells #[.string (bs t),.bool m] k)) w.heap.size t m:=
 ⟨by simp,by simp,by simp,by simp,by simp⟩
theorem WK.set {w:World} {g:Nat} {t:List UInt8} {m:Bool} (h:WK w g t m) (t':List UInt8) (m':Bool) :
  WK ((w.setCell ⟨g,0,none⟩ (.string (bs t'))).setCell ⟨g,1,none⟩ (.bool m')) g t' m':=by
 refine ⟨?_,?_,by simpa using h.f0,by simpa using h.f1,by simpa using h.lt⟩
 ·rw [World.cell?_setCell_other _ _ _ _ (by simp)];exact World.cell?_setCell_same _ _ _ h.text
 ·refine World.cell?_setCell_same _ _ _ (u:=.bool m) ?_
  rw [World.cell?_setCell_other _ _ _ _ (by simp)];exact h.more
theorem isE (l:List UInt8):(bs l).toList.isEmpty=l.isEmpty:=by rw [bs_toList]
theorem begin_any (l:List UInt8) (w:World) :
  Calls Tryz.prog 110 #[.string (bs l)] w fun e w'=>e=.returned (.agg #[.string (bs l),.bool (!l.isEmpty)])∧Laid w w':=by
 have he:=isE l
 go_enter Tryz.func110,Tryz.ntmps110
 go_wp2_with fail
 refine bodyPost_ret (results_cell_row rfl _ _ w.heap.size 163 #[.string (bs l),.bool (!l.isEmpty)] (0,0) _ rfl (heap_alloc_new _ _) Tryz.underlying163 rfl (by kernel_rfl)) rfl ?_
 exact ⟨rfl,balloc _ _,Nat.le_refl _⟩
theorem left_start (l:List UInt8):left l (!l.isEmpty)=pcs l:=by
 cases l<;>simp [left,pcs]
theorem next_any {w:World} {g:Nat} {t:List UInt8} {m:Bool} (h:WK w g t m) (hm:t.length≤9223372036854775807) :
  Calls Tryz.prog 111 #[.pointer (some ⟨g,0,none⟩)] w fun e w'=>e=.returned (.string (bs (hd t)))∧WK w' g (tl t) (sl t)∧Only [g] w w'∧w.drawn≤w'.drawn:=by
 have H:Hid (WK w g t m):=h
 obtain ⟨h0,h1,h2,h3,h4⟩:=h
 have HM:Hid (t.length≤9223372036854775807):=hm
 clear hm
 go_enter Tryz.func111,Tryz.ntmps111
 go_wp2_with fail
 refine (cut_any _ _ HM.out).mono ?_
 rintro e w1 ⟨rfl,n,rfl⟩
 go_wp2_with fail
 go_ret
 exact ⟨rfl,(H.out.only (Only.drew [] w n) (by simp)).set _ _,((Only.drew [g] w n).trans (Only.set _ _ _ _)).trans (Only.set _ _ _ _),Nat.le_add_right _ _⟩
theorem meet_any (a b:List UInt8) (w:World) (ha:a.length≤9223372036854775807) (hb:b.length≤9223372036854775807) :
  Calls Tryz.prog 65 #[.string (bs a),.string (bs b)] w fun e w'=>e=.returned (.tuple #[.int .i64 ((cmn a b).length:Nat),.int .i64 (cmpP (pcs a) (pcs b))])∧Laid w w':=by
 rw [← mt_cmn]
 obtain ⟨S,hS⟩:∃ S,mt 0 0 (pcs a) (pcs b)=S:=⟨_,rfl⟩
 obtain ⟨O,hO⟩:∃ O,cmpP (pcs a) (pcs b)=O:=⟨_,rfl⟩
 rw [hS,hO]
 have HS:Hid (mt 0 0 (left a (!a.isEmpty)) (left b (!b.isEmpty))=S):=by rw [left_start,left_start];exact hS
 have HO:Hid (cmpP (left a (!a.isEmpty)) (left b (!b.isEmpty))=O):=by rw [left_start,left_start];exact hO
 obtain ⟨ma,hma⟩:∃ m,(!a.isEmpty)=m:=⟨_,rfl⟩
 obtain ⟨mb,hmb⟩:∃ m,(!b.isEmpty)=m:=⟨_,rfl⟩
 rw [hma,hmb] at HS HO
 clear hS hO
 go_enter Tryz.func65,Tryz.ntmps65
 go_wp2_with fail
 go_step3
 go_wp2_with fail
 refine (begin_any _ _).mono ?_
 rintro e w1 ⟨rfl,hb1,hd1⟩
 have D1:Hid (w.drawn≤w1.drawn):=hd1
 clear hd1
 rw [hma]
 have hz1:=hb1.size
 have B1:Hid (Below w.heap.size w w1):=hb1
 clear hb1
 go_wp2_with fail
 refine (begin_any _ _).mono ?_
 rintro e w2 ⟨rfl,hb2,hd2⟩
 have D2:Hid (w1.drawn≤w2.drawn):=hd2
 clear hd2
 rw [hmb]
 have hz2:=hb2.size
 have B2:Hid (Below w1.heap.size w1 w2):=hb2
 clear hb2
 go_wp2_with fail
 go_step3
 go_wp2_with fail
 obtain ⟨gx,hgx⟩:∃ gx,w2.heap.size=gx:=⟨_,rfl⟩
 have K0:Hid (WK ((w2.alloc (.cells #[.string (bs a),.bool ma] 163)).alloc (.cells #[.string (bs b),.bool mb] 163)) gx a ma∧WK ((w2.alloc (.cells #[.string (bs a),.bool ma] 163)).alloc (.cells #[.string (bs b),.bool mb] 163)) (gx+1) b mb∧Below w.heap.size w ((w2.alloc (.cells #[.string (bs a),.bool ma] 163)).alloc (.cells #[.string (bs b),.bool mb] 163))):=by
  have h1:=WK.new w2 a ma 163
  have h2:=WK.new (w2.alloc (.cells #[.string (bs a),.bool ma] 163)) b mb 163
  rw [hgx] at h1
  have e2:(w2.alloc (.cells #[.string (bs a),.bool ma] 163)).heap.size=gx+1:=by simp [hgx]
  rw [e2] at h2
  exact ⟨h1.later (balloc _ _),h2,((below_trans B1.out (below_mono B2.out hz1)).alloc (by omega) _).alloc (by simp;omega) _⟩
 rw [hgx]
 go_loopg [4,5,8] (left a ma).length (fun g sm od st wr=>∃ (t1 t2:List UInt8) (m1 m2:Bool) (s r:Nat) (z:Int),sm=.int .i64 s∧od=.int .i64 0∧st=.int .i64 z∧WK wr gx t1 m1∧WK wr (gx+1) t2 m2∧Below w.heap.size w wr∧w.drawn≤wr.drawn∧mt r s (left t1 m1) (left t2 m2)=S∧cmpP (left t1 m1) (left t2 m2)=O∧(m1=true→z=r∧r+t1.length≤9223372036854775807)∧t1.length≤9223372036854775807∧t2.length≤9223372036854775807∧(left t1 m1).length≤g)
 case atStart=>exact ⟨a,b,ma,mb,0,0,0,rfl,rfl,rfl,K0.out.1,K0.out.2.1,K0.out.2.2,Nat.le_trans D1.out D2.out,HS.out,HO.out,fun _=>⟨rfl,by omega⟩,ha,hb,Nat.le_refl _⟩
 case round=>
  obtain ⟨t1,t2,m1,m2,s,r,z,rfl,rfl,rfl,k1,k2,hbw,hdw,hmt,hcm,hzr,hl1,hl2,hg⟩:=hrel
  have HX:Hid (WK wr gx t1 m1):=k1
  have HY:Hid (WK wr (gx+1) t2 m2):=k2
  have HB:Hid (Below w.heap.size w wr):=hbw
  have HW:Hid (w.drawn≤wr.drawn):=hdw
  clear hdw
  have HT:Hid (mt r s (left t1 m1) (left t2 m2)=S):=hmt
  have HC:Hid (cmpP (left t1 m1) (left t2 m2)=O):=hcm
  have HG:Hid ((left t1 m1).length≤gk):=hg
  have HL1:Hid (t1.length≤9223372036854775807):=hl1
  have HL2:Hid (t2.length≤9223372036854775807):=hl2
  obtain ⟨_,x1,_,_,xlt⟩:=k1
  obtain ⟨_,y1,_,_,ylt⟩:=k2
  clear hbw hmt hcm hg hl1 hl2
  cases m1
  ·clear hzr
   cases m2
   ·go_wp2_with fail
    rw [Exit.noGoto_ret]
    go_ret2
    refine ⟨?_,HB.out,HW.out⟩
    rw [← HT.out,← HC.out];rfl
   ·go_wp2_with fail
    rw [Exit.noGoto_ret]
    go_ret2
    refine ⟨?_,HB.out,HW.out⟩
    rw [← HT.out,← HC.out]
    simp only [left_false,left_next];rfl
  ·obtain ⟨rfl,hr⟩:=hzr rfl
   clear hzr
   cases m2
   ·go_wp2_with fail
    rw [Exit.noGoto_ret]
    go_ret2
    refine ⟨?_,HB.out,HW.out⟩
    rw [← HT.out,← HC.out]
    simp only [left_false,left_next];rfl
   ·go_wp2_with fail
    refine (next_any HX.out HL1.out).mono ?_
    rintro e w3 ⟨rfl,k3,o3,d3⟩
    have D3:Hid (wr.drawn≤w3.drawn):=d3
    clear d3
    have HX3:Hid (WK w3 gx (tl t1) (sl t1)):=k3
    have O3:Hid (Only [gx] wr w3):=o3
    have HY3:Hid (WK w3 (gx+1) t2 true):=HY.out.only o3 (by simp)
    clear k3 o3
    go_wp2_with fail
    refine (next_any HY3.out HL2.out).mono ?_
    rintro e w4 ⟨rfl,k4,o4,d4⟩
    have HW4:Hid (w.drawn≤w4.drawn):=Nat.le_trans HW.out (Nat.le_trans D3.out d4)
    clear d4
    have HY4:Hid (WK w4 (gx+1) (tl t2) (sl t2)):=k4
    have O4:Hid (Only [gx+1] w3 w4):=o4
    have HX4:Hid (WK w4 gx (tl t1) (sl t1)):=HX3.out.only o4 (by simp)
    have HB4:Hid (Below w.heap.size w w4):=below_trans HB.out (below_trans (O3.out.below (by have:=HB.out.size;omega) (by simp;omega)) (O4.out.below (by have:=HB.out.size;have:=O3.out.size;omega) (by simp;omega)))
    clear k4 o4
    go_wp2_with fail
    refine (compare_any _ _ _).mono ?_
    rintro e w5 ⟨rfl,rfl⟩
    have hmt:=HT.out
    have hcm:=HC.out
    have hg:=HG.out
    rw [left_next,left_next] at hmt hcm
    rw [left_next] at hg
    simp only [mt,cmpP] at hmt hcm
    by_cases h0:Lib.compareBytes (hd t1) (hd t2)=0
    ·rw [if_pos h0] at hmt hcm
     have HT5:Hid (mt (r+(hd t1).length+1) (r+(hd t1).length) (left (tl t1) (sl t1)) (left (tl t2) (sl t2))=S):=hmt
     have HC5:Hid (cmpP (left (tl t1) (sl t1)) (left (tl t2) (sl t2))=O):=hcm
     have HG5:Hid ((left (tl t1) (sl t1)).length < gk):=by simp at hg;exact hg
     clear hmt hcm hg
     rw [h0]
     have hz:(bs (hd t1)).size=(hd t1).length:=rfl
     have hle:=hd_le t1
     have hle2:=tl_le t2
     have hle3:=tl_le t1
     cases hs:sl t1
     ·by_cases hw:r+(hd t1).length+1≤9223372036854775807
      ·go_wp2_with fail
       go_roundg (left (tl t1) (sl t1)).length
       case measure=>exact HG5.out
       case rel=>
        refine ⟨tl t1,tl t2,sl t1,sl t2,r+(hd t1).length,r+(hd t1).length+1,_,by go_num,rfl,rfl,HX4.out,HY4.out,HB4.out,HW4.out,HT5.out,HC5.out,(fun h=>absurd h (by rw [hs];simp)),by have:=HL1.out;omega,by have:=HL2.out;omega,Nat.le_refl _⟩
      ·go_wp2_with fail
       go_roundg (left (tl t1) (sl t1)).length
       case measure=>exact HG5.out
       case rel=>
        refine ⟨tl t1,tl t2,sl t1,sl t2,r+(hd t1).length,r+(hd t1).length+1,_,by go_num,rfl,rfl,HX4.out,HY4.out,HB4.out,HW4.out,HT5.out,HC5.out,(fun h=>absurd h (by rw [hs];simp)),by have:=HL1.out;omega,by have:=HL2.out;omega,Nat.le_refl _⟩
     ·have hlen:=hd_len t1 hs
      go_wp2_with fail
      go_roundg (left (tl t1) (sl t1)).length
      case measure=>exact HG5.out
      case rel=>
       refine ⟨tl t1,tl t2,sl t1,sl t2,r+(hd t1).length,r+(hd t1).length+1,_,by go_num,rfl,rfl,HX4.out,HY4.out,HB4.out,HW4.out,HT5.out,HC5.out,fun _=>⟨by go_num,by omega⟩,by have:=HL1.out;omega,by have:=HL2.out;omega,Nat.le_refl _⟩
    ·rw [if_neg h0] at hmt hcm
     have hne:(Lib.compareBytes (hd t1) (hd t2) != 0)=true:=by simpa using h0
     have HT5:Hid (s=S):=hmt
     have HC5:Hid (Lib.compareBytes (hd t1) (hd t2)=O):=hcm
     clear hmt hcm hg
     go_wp2_with fail
     rw [Exit.noGoto_ret]
     go_ret2
     refine ⟨?_,HB4.out,HW4.out⟩
     rw [← HT5.out,← HC5.out];rfl
end
theorem join_cut:∀ (L:List (List UInt8)) (k:Nat),0 < k→k < L.length→join L=join (L.take k)++47::join (L.drop k)
 | [],_,_,h=>by simp at h
 | p::r,1,_,h=>by
  have hr:r≠[]:=by rintro rfl;simp at h
  rw [join_cons p r hr];rfl
 | p::r,k+2,_,h=>by
  have hl:k+1 < r.length:=by simp at h;omega
  have hr:r≠[]:=by rintro rfl;simp at hl
  have ih:=join_cut r (k+1) (by omega) hl
  have ht:r.take (k+1)≠[]:=by
   intro e
   have:=congrArg List.length e
   rw [List.length_take,List.length_nil] at this
   omega
  rw [join_cons p r hr,List.take_succ_cons,List.drop_succ_cons,join_cons p _ ht,ih];simp
theorem cmn_len_iff (a b:List UInt8):(cmn a b).length=a.length↔com (pcs a) (pcs b)=(pcs a).length:=by
 constructor
 ·intro h
  have hle:=(com_le (pcs a) (pcs b)).1
  by_cases he:com (pcs a) (pcs b)=(pcs a).length
  ·exact he
  ·have hlt:com (pcs a) (pcs b) < (pcs a).length:=by omega
   by_cases h0:com (pcs a) (pcs b)=0
   ·unfold cmn at h
    rw [h0] at h
    have:a=[]:=List.eq_nil_of_length_eq_zero (by simpa [join] using h.symm)
    subst this
    simp [pcs] at hlt
   ·have hc:=join_cut (pcs a) _ (by omega) hlt
    rw [join_pcs] at hc
    have:=congrArg List.length hc
    unfold cmn at h
    rw [List.length_append,h] at this
    simp at this
 ·intro h
  unfold cmn
  rw [h,List.take_length,join_pcs]
theorem com_pre:∀ (A B:List (List UInt8)),com A B=A.length↔∃ r,B=A++r
 | [],B=>by simp [com]
 | p::ps,[]=>by simp [com]
 | p::ps,q::qs=>by
  unfold com
  by_cases h:p=q
  ·subst h
   rw [if_pos rfl,List.length_cons,Nat.add_right_cancel_iff,com_pre ps qs]
   simp
  ·rw [if_neg h]
   constructor
   ·intro e;simp at e
   ·rintro ⟨r,e⟩;simp at e;exact absurd e.1.symm h
theorem cmpP_app:∀ (A r:List (List UInt8)),r≠[]→cmpP A (A++r) = -1
 | [],r,h=>by
  cases r with
  | nil=>exact absurd rfl h
  | cons=>rfl
 | p::ps,r,h=>by
  rw [List.cons_append];unfold cmpP;rw [if_pos (cb_refl p),cmpP_app ps r h]
theorem cmpP_between:∀ (A B r:List (List UInt8)),cmpP A B = -1→cmpP B (A++r)≤0→∃ s,s≠[]∧B=A++s
 | [],[],_,h,_=>by simp [cmpP] at h
 | [],q::qs,_,_,_=>⟨q::qs,by simp,rfl⟩
 | _::_,[],_,h,_=>by simp [cmpP] at h
 | p::ps,q::qs,r,h,h'=>by
  rw [List.cons_append] at h'
  unfold cmpP at h h'
  by_cases h0:Lib.compareBytes p q=0
  ·have:=cb_zero h0;subst this
   rw [if_pos h0] at h
   rw [if_pos h0] at h'
   obtain ⟨s,hs,e⟩:=cmpP_between ps qs r h h'
   exact ⟨s,hs,by rw [e];rfl⟩
  ·rw [if_neg h0] at h
   have hn:=cb_neg p q
   rw [h] at hn
   rw [if_neg (by omega)] at h'
   omega
def abvV (a b:List UInt8):Bool:=decide ((cmn a b).length=a.length) && decide (cmpP (pcs a) (pcs b) < 0)
theorem abvV_iff (a b:List UInt8):abvV a b=true↔∃ r,r≠[]∧pcs b=pcs a++r:=by
 unfold abvV
 rw [Bool.and_eq_true,decide_eq_true_eq,decide_eq_true_eq,cmn_len_iff,com_pre]
 constructor
 ·rintro ⟨⟨r,hr⟩,h⟩
  refine ⟨r,?_,hr⟩
  rintro rfl
  rw [hr,List.append_nil,cmpP_refl] at h
  omega
 ·rintro ⟨r,hne,hr⟩
  exact ⟨⟨r,hr⟩,by rw [hr,cmpP_app _ _ hne];omega⟩
end Go.Proofs.YtppnbdnpapellaaGreatDoor
