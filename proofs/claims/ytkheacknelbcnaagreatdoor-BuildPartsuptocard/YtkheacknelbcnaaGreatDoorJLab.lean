/-
  The package: one file, and files together.
  Labels, their texts, see words: plain lists.
-/
import Derived.Test.YtkheacknelbcnaaGreatDoorJSEq
import Derived.Deep.RegionHeld3
import Derived.BigQuiet
namespace Go.Proofs.YtkheacknelbcnaaGreatDoor
open Go.RowKit
structure GW (w:World) where
 it:World
 below:Below w.heap.size w it
theorem gw_ne (w:World):Nonempty (GW w):=⟨⟨w,Below.refl _ _⟩⟩
/-- a region that draws its order, whose operations read and whose callees grow memory -/
theorem wp_region_grow {id:Nat} {Q:Exit→Act→World→Prop} {a:Act} {w:World} {l:List Oper} (hm:Tryz.prog.follows .mixedOrders=true) (hB:Region.lexB .any l.toArray=true)
  (h:wpQuiet Tryz.prog l.toArray (fun w'=>∃ X:GW w,w'=X.it) (fun a'=>∀ w',(∃ X:GW w,w'=X.it)→Q .normal a' w') l a):(Code.region id l.toArray true).wp Tryz.prog Q a w:=
 wp_region_quiet (C:=fun w'=>∃ X:GW w,w'=X.it) hm hB ⟨⟨w.drew,(Below.refl _ _).drew⟩,rfl⟩ (by simpa using h)
theorem GW.cell {w:World} (X:GW w) {p:Addr} {v:Value} (hp:p.block < w.heap.size) (h:w.cell? p=some v):X.it.cell? p=some v:=by rw [X.below.cell hp];exact h
theorem gw_of {w:World} {f:Nat} {args:Array Value} {v:Value} (h:∀ W:World,Calls Tryz.prog f args W fun e w'=>e=.returned v∧Below W.heap.size W w') (X:GW w) :
  Calls Tryz.prog f args X.it fun e w'=>e=.returned v∧∃ Y:GW w,w'=Y.it:=
 (h X.it).mono fun _ w' ⟨he,hl⟩=>⟨he,⟨w',bstep X.below hl⟩,rfl⟩
theorem bd (w:World) (n:Nat):Below w.heap.size w (w.drewN n):=⟨rfl,rfl,rfl,Nat.le_refl _,fun _ _=>rfl⟩
theorem wrap_small (k:Nat) (h:k≤9223372036854775807):IntKind.i64.wrap (k:Int)=(k:Int):=by rw [IntKind.wrap_i64];omega
theorem c_tgt:(ByteArray.mk #[84,65,82,71,69,84,83]).toList=tgt:=ByteArray.toList_mk tgt
set_option maxRecDepth 100000 in
set_option maxHeartbeats 1000000 in
theorem isManifest_any (f:Fl) (w:World) (hf:Fok f):Calls Tryz.prog 146 #[f.val] w fun e w'=>e=.returned (.bool (isM f.path))∧Below w.heap.size w w':=by
 obtain ⟨p,t,b,s⟩:=f
 have HF:Hid (Fok ⟨p,t,b,s⟩):=hf
 clear hf
 simp only [Fl.val]
 go_enter Tryz.func146,Tryz.ntmps146
 go_wp2_with fail
 refine (base_any p _ (by have:=HF.out.path;simp only at this;omega)).mono ?_
 rintro e w1 ⟨rfl,rfl⟩
 have e1:=c_tgt
 have e2:=bs_toList (base p)
 go_wp2_with fail
 go_ret
 exact ⟨rfl,balloc _ _⟩
set_option maxRecDepth 100000 in
set_option maxHeartbeats 1000000 in
theorem sfits_any (f:Fl) (w:World) (hf:Fok f):Calls Tryz.prog 109 #[f.val] w fun e w'=>e=.returned (.bool (fits f))∧Below w.heap.size w w':=by
 obtain ⟨p,t,b,s⟩:=f
 have HF:Hid (Fok ⟨p,t,b,s⟩):=hf
 clear hf
 have HI:Hid (∀ w:World,Calls Tryz.prog 146 #[.agg #[.string (bs p),.string (bs t),.int .i64 b,.int .i64 s]] w fun e w'=>e=.returned (.bool (isM p))∧Below w.heap.size w w'):=fun w=>isManifest_any ⟨p,t,b,s⟩ w HF.out
 simp only [Fl.val]
 unfold fits
 simp only
 have ee:=isE t
 cases hm:isM p
 ·rw [hm] at HI
  have HW:Hid (∀ (n m:Int) (w:World),Calls Tryz.prog 148 #[.int .i64 n,.int .i64 m] w fun e w'=>e=.returned (.bool (decide (0≤n) && decide (n≤m)))∧w'=w):=within_any
  cases ht:t.isEmpty
  ·have htb:(t == [])=false:=by
    cases t with
    | nil=>simp at ht
    | cons x r=>rfl
   simp only [htb,Bool.false_eq_true,if_false,Bool.false_and]
   clear htb
   rw [ht] at ee
   go_enter Tryz.func109,Tryz.ntmps109
   go_wp2_with fail
   refine (HI.out _).mono ?_
   rintro e w1 ⟨rfl,hb1⟩
   have hF:Hid (FB w1 w.heap.size ⟨p,t,b,s⟩):=(FB.new w ⟨p,t,b,s⟩ 42).later hb1
   have HB:Hid (Below w.heap.size w w1):=bstep (balloc w _) hb1
   obtain ⟨c0,c1,c2,c3,hlt⟩:=hF.out
   simp only at c0 c1 c2 c3
   clear hb1
   go_wp2_with fail
   go_ret
   exact ⟨rfl,HB.out⟩
  ·have htb:(t == [])=true:=by
    cases t with
    | nil=>rfl
    | cons x r=>simp at ht
   simp only [htb,Bool.false_eq_true,if_false,Bool.true_and]
   clear htb
   rw [ht] at ee
   cases hbw:(decide (0≤b) && decide (b≤1152921504606846976))
   ·have HWb:Hid (∀ (w:World),Calls Tryz.prog 148 #[.int .i64 b,.int .i64 1152921504606846976] w fun e w'=>e=.returned (.bool false)∧w'=w):=by rw [← hbw];exact HW.out _ _
    clear hbw
    go_enter Tryz.func109,Tryz.ntmps109
    go_wp2_with fail
    refine (HI.out _).mono ?_
    rintro e w1 ⟨rfl,hb1⟩
    have hF:Hid (FB w1 w.heap.size ⟨p,t,b,s⟩):=(FB.new w ⟨p,t,b,s⟩ 42).later hb1
    have HB:Hid (Below w.heap.size w w1):=bstep (balloc w _) hb1
    obtain ⟨c0,c1,c2,c3,hlt⟩:=hF.out
    simp only at c0 c1 c2 c3
    clear hb1
    go_wp2_with fail
    refine (HWb.out _).mono ?_
    rintro e w2 ⟨rfl,rfl⟩
    go_wp2_with fail
    go_ret
    exact ⟨rfl,HB.out⟩
   ·have HWb:Hid (∀ (w:World),Calls Tryz.prog 148 #[.int .i64 b,.int .i64 1152921504606846976] w fun e w'=>e=.returned (.bool true)∧w'=w):=by rw [← hbw];exact HW.out _ _
    clear hbw
    obtain ⟨z,hz⟩:∃ z,(decide (0≤s) && decide (s≤4611686018427387904))=z:=⟨_,rfl⟩
    have HWs:Hid (∀ (w:World),Calls Tryz.prog 148 #[.int .i64 s,.int .i64 4611686018427387904] w fun e w'=>e=.returned (.bool z)∧w'=w):=by rw [← hz];exact HW.out _ _
    rw [hz]
    clear hz
    go_enter Tryz.func109,Tryz.ntmps109
    go_wp2_with fail
    refine (HI.out _).mono ?_
    rintro e w1 ⟨rfl,hb1⟩
    have hF:Hid (FB w1 w.heap.size ⟨p,t,b,s⟩):=(FB.new w ⟨p,t,b,s⟩ 42).later hb1
    have HB:Hid (Below w.heap.size w w1):=bstep (balloc w _) hb1
    obtain ⟨c0,c1,c2,c3,hlt⟩:=hF.out
    simp only at c0 c1 c2 c3
    clear hb1
    go_wp2_with fail
    refine (HWb.out _).mono ?_
    rintro e w2 ⟨rfl,rfl⟩
    go_wp2_with fail
    refine (HWs.out _).mono ?_
    rintro e w2 ⟨rfl,rfl⟩
    go_wp2_with fail
    go_ret
    exact ⟨rfl,HB.out⟩
 ·rw [hm] at HI
  simp only [if_true]
  have hz:(bs t).size=t.length:=rfl
  go_enter Tryz.func109,Tryz.ntmps109
  go_wp2_with fail
  refine (HI.out _).mono ?_
  rintro e w1 ⟨rfl,hb1⟩
  have hF:Hid (FB w1 w.heap.size ⟨p,t,b,s⟩):=(FB.new w ⟨p,t,b,s⟩ 42).later hb1
  have HB:Hid (Below w.heap.size w w1):=bstep (balloc w _) hb1
  obtain ⟨c0,c1,c2,c3,hlt⟩:=hF.out
  simp only at c0 c1 c2 c3
  clear hb1
  have x0:∀ X:GW w1,X.it.cell? ⟨w.heap.size,0,none⟩=some (.string (bs p)):=fun X=>X.cell hlt c0
  have x1:∀ X:GW w1,X.it.cell? ⟨w.heap.size,1,none⟩=some (.string (bs t)):=fun X=>X.cell hlt c1
  have x2:∀ X:GW w1,X.it.cell? ⟨w.heap.size,2,none⟩=some (.int .i64 b):=fun X=>X.cell hlt c2
  have x3:∀ X:GW w1,X.it.cell? ⟨w.heap.size,3,none⟩=some (.int .i64 s):=fun X=>X.cell hlt c3
  have xne:=gw_ne w1
  have HM:Hid (∀ X:GW w1,Calls Tryz.prog 147 #[.string (bs p),.string (bs t)] X.it fun e w'=>e=.returned (.agg #[.string (bs p),.string (bs t),.int .i64 0,.int .i64 (t.length:Nat)])∧∃ Y:GW w1,w'=Y.it):=fun X=>gw_of (manifest_any p t) X
  clear c0 c1 c2 c3
  have q1:=feql_run
  have q2:=fguard_run
  go_wp2_with fail
  refine wp_region_grow (by kernel_rfl) (by kernel_rfl) ?_
  repeat (go_big_quiet_step (fail))
  go_big_quiet_step (exact HM.out _)
  repeat (go_big_quiet_step (fail))
  refine wpQuiet_nil ?_
  rintro w2 ⟨⟨w2,bx⟩,rfl⟩
  have HB5:Hid (Below w.heap.size w w2):=bstep HB.out bx
  clear bx
  go_wp2_with fail
  go_ret
  refine ⟨?_,HB5.out⟩
  show Ending.returned (Value.bool (feq ⟨p,t,b,s⟩ ⟨p,t,0,t.length⟩))=_
  simp [feq]
set_option maxRecDepth 100000 in
set_option maxHeartbeats 1000000 in
theorem file_any (f:Fl) (w:World) (hf:Fok f):Calls Tryz.prog 69 #[f.val] w fun e w'=>e=.returned (.int .i64 (fileE f))∧Below w.heap.size w w':=by
 obtain ⟨p,t,b,s⟩:=f
 have HF:Hid (Fok ⟨p,t,b,s⟩):=hf
 have hpl:p.length≤140737488355328:=hf.path
 clear hf
 have HV:Hid (∀ w:World,Calls Tryz.prog 71 #[.string (bs p)] w fun e w'=>e=.returned (.bool (okP p))∧Below w.heap.size w w'):=fun w=>valid_any p w (by omega)
 have HI:Hid (∀ w:World,Calls Tryz.prog 109 #[.agg #[.string (bs p),.string (bs t),.int .i64 b,.int .i64 s]] w fun e w'=>e=.returned (.bool (fits ⟨p,t,b,s⟩))∧Below w.heap.size w w'):=fun w=>sfits_any ⟨p,t,b,s⟩ w HF.out
 simp only [Fl.val]
 unfold fileE pathOk
 simp only
 generalize fits ⟨p,t,b,s⟩=ft at *
 have ee:=isE p
 cases hp:p.isEmpty
 ·have htb:(p == [])=false:=by
   cases p with
   | nil=>simp at hp
   | cons x r=>rfl
  rw [htb]
  clear htb
  rw [hp] at ee
  cases hv:okP p
  ·rw [hv] at HV
   simp only [Bool.not_false,Bool.true_and,Bool.false_eq_true,if_false]
   go_enter Tryz.func69,Tryz.ntmps69
   go_wp2_with fail
   refine (HV.out _).mono ?_
   rintro e w1 ⟨rfl,hb1⟩
   have HB:Hid (Below w.heap.size w w1):=bstep (balloc w _) hb1
   clear hb1
   go_wp2_with fail
   go_ret
   exact ⟨rfl,HB.out⟩
  ·rw [hv] at HV
   simp only [Bool.not_false,Bool.true_and,if_true]
   go_enter Tryz.func69,Tryz.ntmps69
   go_wp2_with fail
   refine (HV.out _).mono ?_
   rintro e w1 ⟨rfl,hb1⟩
   have hF:Hid (FB w1 w.heap.size ⟨p,t,b,s⟩):=(FB.new w ⟨p,t,b,s⟩ 42).later hb1
   have HB:Hid (Below w.heap.size w w1):=bstep (balloc w _) hb1
   obtain ⟨c0,c1,c2,c3,hlt⟩:=hF.out
   simp only at c0 c1 c2 c3
   clear hb1
   go_wp2_with fail
   refine (HI.out _).mono ?_
   rintro e w2 ⟨rfl,hb2⟩
   have HB2:Hid (Below w.heap.size w w2):=bstep HB.out hb2
   clear hb2 c0 c1 c2 c3
   cases ft
   ·go_wp2_with fail
    go_ret
    exact ⟨rfl,HB2.out⟩
   ·go_wp2_with fail
    go_ret
    exact ⟨rfl,HB2.out⟩
 ·have htb:(p == [])=true:=by
   cases p with
   | nil=>rfl
   | cons x r=>simp at hp
  rw [htb]
  clear htb
  rw [hp] at ee
  simp only [Bool.not_true,Bool.false_and,Bool.false_eq_true,if_false]
  go_enter Tryz.func69,Tryz.ntmps69
  go_wp2_with fail
  go_ret
  exact ⟨rfl,balloc _ _⟩
set_option maxRecDepth 100000 in
set_option maxHeartbeats 1000000 in
theorem follows_any (q p:List UInt8) (w:World) (hq:q.length≤140737488355328) (hp:p.length≤140737488355328):Calls Tryz.prog 110 #[.string (bs q),.string (bs p)] w fun e w'=>e=.returned (.bool (fol p q))∧Below w.heap.size w w':=by
 have HC:Hid (∀ w:World,Calls Tryz.prog 100 #[.string (bs p),.string (bs q)] w fun e w'=>e=.returned (.int .i64 (cmpP (pcs p) (pcs q)))∧Laid w w'):=fun w=>cmp_any p q w (by omega) (by omega)
 have HA:Hid (∀ w:World,Calls Tryz.prog 149 #[.string (bs p),.string (bs q)] w fun e w'=>e=.returned (.bool (abvV p q))∧Laid w w'):=fun w=>above_any p q w (by omega) (by omega)
 unfold fol
 generalize cmpP (pcs p) (pcs q)=o at *
 generalize abvV p q=a at *
 by_cases h:o < 0
 ·have hd:decide (o < 0)=true:=by simpa using h
  rw [hd]
  go_enter Tryz.func110,Tryz.ntmps110
  go_wp2_with fail
  refine (HC.out _).mono ?_
  rintro e w1 ⟨rfl,hb1⟩
  have HB:Hid (Below w.heap.size w w1):=hb1.below
  clear hb1
  go_wp2_with fail
  refine (HA.out _).mono ?_
  rintro e w2 ⟨rfl,hb2⟩
  have HB2:Hid (Below w.heap.size w w2):=bstep HB.out hb2.below
  clear hb2
  go_wp2_with fail
  go_ret
  exact ⟨by simp,HB2.out⟩
 ·have hd:decide (o < 0)=false:=by simpa using h
  rw [hd]
  go_enter Tryz.func110,Tryz.ntmps110
  go_wp2_with fail
  refine (HC.out _).mono ?_
  rintro e w1 ⟨rfl,hb1⟩
  have HB:Hid (Below w.heap.size w w1):=hb1.below
  clear hb1
  go_wp2_with fail
  go_ret
  exact ⟨rfl,HB.out⟩
end Go.Proofs.YtkheacknelbcnaaGreatDoor

namespace Go.Proofs.YtkheacknelbcnaaGreatDoor
def chd:List UInt8→List UInt8
 | []=>[]
 | c::l=>if c=58 then [] else c::chd l
def ctl:List UInt8→List UInt8
 | []=>[]
 | c::l=>if c=58 then l else ctl l
def csl:List UInt8→Bool
 | []=>false
 | c::l=>if c=58 then true else csl l
theorem c_cut_eq:∀ l,l=chd l++(if csl l then 58::ctl l else [])
 | []=>rfl
 | c::l=>by
  have ih:=c_cut_eq l
  by_cases h:c=58
  ·simp [chd,ctl,csl,h]
  ·simp only [chd,ctl,csl,h,if_false,List.cons_append,List.cons.injEq,true_and];exact ih
theorem c_indexByte_eq:∀ l,Lib.indexByte l 58=if csl l then ((chd l).length:Int) else -1
 | []=>rfl
 | c::l=>by
  have ih:=c_indexByte_eq l
  unfold Lib.indexByte
  by_cases h:c=58
  ·simp [chd,csl,h]
  ·have e:(c == 58)=false:=by simpa using h
   rw [e,ih]
   simp only [chd,csl,h,if_false,Bool.false_eq_true]
   cases hs:csl l
   ·simp
   ·simp only [if_true,List.length_cons]
    have:((((chd l).length:Int)) == -1)=false:=by rw [beq_eq_false_iff_ne];omega
    rw [this];simp
theorem c_hd_len (l) (h:csl l=true):(chd l).length+1+(ctl l).length=l.length:=by
 have:=congrArg List.length (c_cut_eq l)
 rw [h] at this;simp at this;omega
theorem c_hd_all (l) (h:csl l=false):chd l=l:=by
 have:=c_cut_eq l
 rw [h] at this;simpa using this.symm
theorem c_tl_none:∀ l,csl l=false→ctl l=[]
 | [],_=>rfl
 | c::l,h=>by
  by_cases hc:c=58
  ·simp [csl,hc] at h
  ·simp only [csl,hc,if_false] at h;simp only [ctl,hc,if_false];exact c_tl_none l h
theorem c_hd_le (l):(chd l).length≤l.length:=by
 cases h:csl l
 ·rw [c_hd_all l h];exact Nat.le_refl _
 ·have:=c_hd_len l h;omega
theorem c_tl_le (l):(ctl l).length≤l.length:=by
 cases h:csl l
 ·rw [c_tl_none l h];simp
 ·have:=c_hd_len l h;omega
theorem c_hd_take (l):chd l=l.take (chd l).length:=(take_app (c_cut_eq l)).symm
theorem c_tl_drop (l) (h:csl l=true):ctl l=l.drop ((chd l).length+1):=by
 rw [← List.drop_drop,drop_app (c_cut_eq l),h];rfl
/-- a label -/
structure Lb where
 pkg:List UInt8
 name:List UInt8
 deriving DecidableEq
def zl:Lb:=⟨[],[]⟩
def okL (l:Lb):Bool:=okP l.pkg && okC l.name
def prt (l:Lb):List UInt8:=47::47::(l.pkg++58::l.name)
def chk (l:Lb):Lb×Int:=if okL l then (l,0) else (zl,10)
def prs (s:List UInt8):Lb×Int:=if [47,47].isPrefixOf s then chk ⟨chd (s.drop 2),ctl (s.drop 2)⟩ else (zl,10)
def inn (p s:List UInt8):Lb×Int:=if okP p then (if [58].isPrefixOf s then chk ⟨p,s.drop 1⟩ else prs s) else (zl,7)
def cmpL (a b:Lb):Int:=if cmpP (pcs a.pkg) (pcs b.pkg)=0 then Lib.compareBytes a.name b.name else cmpP (pcs a.pkg) (pcs b.pkg)
/-- whom a see word names -/
inductive Kd where
 | nobody
 | all
 | one (p:List UInt8)
 | tree (p:List UInt8)
 deriving DecidableEq
def pub:List UInt8:=[112,117,98,108,105,99]
def dots:List UInt8:=[47,46,46,46]
def adots:List UInt8:=[47,47,46,46,46]
def kin (s:List UInt8):Kd:=
 if s=pub then .all else if s=adots then .tree [] else if s=47::47::dots then .nobody else
 if [47,47].isPrefixOf s then (if dots.isSuffixOf (s.drop 2) then .tree ((s.drop 2).take ((s.drop 2).length - 4)) else .one (s.drop 2)) else .nobody
def Kd.top:Kd→List UInt8
 | .nobody=>[]
 | .all=>[]
 | .one p=>p
 | .tree p=>p
def rdk (s:List UInt8):Kd:=if okP (kin s).top then kin s else .nobody
def nms:Kd→List UInt8→Bool
 | .nobody,_=>false
 | .all,_=>true
 | .one p,f=>decide (f=p)
 | .tree p,f=>decide (f=p) || abvV p f
def ser (s:List UInt8):Bool:=!decide (rdk s=.nobody)
def ses (see:List (List UInt8)) (own from_:List UInt8):Bool:=decide (own=from_) || see.any fun s=>nms (rdk s) from_
theorem okP_nil:okP []=true:=by decide
theorem suffix_iff (d p:List UInt8):d.isSuffixOf p=true↔d.length≤p.length∧p.drop (p.length - d.length)=d:=by
 rw [List.isSuffixOf_iff_suffix]
 constructor
 ·rintro ⟨r,rfl⟩
  exact ⟨by simp,by simp⟩
 ·rintro ⟨h1,h2⟩
  exact ⟨p.take (p.length - d.length),by conv=>rhs;rw [← List.take_append_drop (p.length - d.length) p,h2]⟩
theorem cmpL_neg (a b:Lb):cmpL b a = - cmpL a b:=by
 unfold cmpL
 rw [cmpP_neg (pcs a.pkg) (pcs b.pkg),cb_neg a.name b.name]
 by_cases h:cmpP (pcs a.pkg) (pcs b.pkg)=0
 ·simp [h]
 ·have:¬ (- cmpP (pcs a.pkg) (pcs b.pkg)=0):=by omega
  simp [h,this]
theorem cmpL_range (a b:Lb):cmpL a b = -1∨cmpL a b=0∨cmpL a b=1:=by
 unfold cmpL
 split
 ·exact cb_range _ _
 ·exact cmpP_range _ _
theorem cmpL_zero (a b:Lb):cmpL a b=0↔a=b:=by
 unfold cmpL
 constructor
 ·intro h
  split at h
  ·rename_i h1
   have e1:=pcs_inj (cmpP_zero h1)
   have e2:=cb_zero h
   cases a;cases b;simp only at e1 e2;rw [e1,e2]
  ·rename_i h1;exact absurd h h1
 ·rintro rfl
  rw [if_pos (cmpP_refl _)];exact cb_refl _
theorem cmpL_trans (a b c:Lb) (h1:cmpL a b≤0) (h2:cmpL b c≤0):cmpL a c≤0:=by
 unfold cmpL at h1 h2 ⊢
 by_cases e1:cmpP (pcs a.pkg) (pcs b.pkg)=0
 ·rw [if_pos e1] at h1
  have p1:=cmpP_zero e1
  rw [p1]
  by_cases e2:cmpP (pcs b.pkg) (pcs c.pkg)=0
  ·rw [if_pos e2] at h2 ⊢
   rcases cb_range a.name b.name with q | q | q
   ·rcases cb_range b.name c.name with r | r | r
    ·rw [cb_trans _ _ _ q r];decide
    ·rw [← cb_zero r,q];decide
    ·omega
   ·rw [cb_zero q];exact h2
   ·omega
  ·rw [if_neg e2] at h2 ⊢;exact h2
 ·rw [if_neg e1] at h1
  have q1:cmpP (pcs a.pkg) (pcs b.pkg) = -1:=by rcases cmpP_range (pcs a.pkg) (pcs b.pkg) with q | q | q<;>omega
  by_cases e2:cmpP (pcs b.pkg) (pcs c.pkg)=0
  ·rw [← cmpP_zero e2,if_neg e1];exact h1
  ·rw [if_neg e2] at h2
   have q2:cmpP (pcs b.pkg) (pcs c.pkg) = -1:=by rcases cmpP_range (pcs b.pkg) (pcs c.pkg) with q | q | q<;>omega
   have q3:=cmpP_trans _ _ _ q1 q2
   rw [if_neg (by rw [q3];decide),q3];decide
end Go.Proofs.YtkheacknelbcnaaGreatDoor
