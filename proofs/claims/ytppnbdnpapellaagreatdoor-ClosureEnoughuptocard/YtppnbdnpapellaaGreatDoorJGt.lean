import Derived.Test.YtppnbdnpapellaaGreatDoorJLrow
import Derived.Maps.OwnSet
import Derived.Maps.OwnOps
import Derived.Maps.RangeWalk
import Derived.WideKeyEntry
import Derived.DeepKeys4
import Derived.Test.YtppnbdnpapellaaGreatDoorJOrd
set_option maxRecDepth 100000
set_option maxHeartbeats 16000000
namespace Go.Proofs.YtppnbdnpapellaaGreatDoor
section
open Go.RowKit
theorem Laid.step {a b c:World} (h:Laid a b) (k:Laid b c):Laid a c:=⟨bstep h.below k.below,Nat.le_trans h.drawn k.drawn⟩
theorem Laid.alloc (w:World) (o:Obj):Laid w (w.alloc o):=⟨balloc w o,Nat.le_refl _⟩
theorem Laid.drew (w:World):Laid w w.drew:=⟨(Below.refl w.heap.size w).drew,Nat.le_succ _⟩
theorem lcmp_laid (a b:Lb) (w:World) (ha:Lm a) (hb:Lm b):Calls Tryz.prog 99 #[a.val,b.val] w fun e w'=>e=.returned (.int .i64 (cmpL a b))∧Laid w w':=by
 obtain ⟨p,n⟩:=a
 obtain ⟨q,m⟩:=b
 have h1:=ha.pkg
 have h2:=hb.pkg
 simp only at h1 h2
 have HC:Hid (∀ w:World,Calls Tryz.prog 36 #[.string (bs p),.string (bs q)] w fun e w'=>e=.returned (.int .i64 (cmpP (pcs p) (pcs q)))∧Laid w w'):=fun w=>cmp_any p q w (by omega) (by omega)
 have HS:Hid (∀ w:World,Calls Tryz.prog 112 #[.string (bs n),.string (bs m)] w fun e w'=>e=.returned (.int .i64 (Lib.compareBytes n m))∧w'=w):=fun w=>compare_any n m w
 clear h1 h2 ha hb
 simp only [Lb.val,cmpL]
 generalize cmpP (pcs p) (pcs q)=x at *
 generalize Lib.compareBytes n m=y at *
 have HO:Hid (∀ w:World,Calls Tryz.prog 133 #[.slice (some ⟨w.heap.size,0,none⟩) 2 2] (w.alloc (.cells #[.int .i64 x,.int .i64 y] 3)) fun e w'=>e=.returned (.int .i64 (if x=0 then y else x))∧w'=w.alloc (.cells #[.int .i64 x,.int .i64 y] 3)):=or_new x y
 obtain ⟨r,hr⟩:∃ r,(if x=0 then y else x)=r:=⟨_,rfl⟩
 rw [hr] at HO ⊢
 clear hr
 have HA:Hid (RB ((w.alloc (.cells #[.string (bs p),.string (bs n)] 27)).alloc (.cells #[.string (bs q),.string (bs m)] 27)) w.heap.size ⟨p,n⟩):=(RB.new w ⟨p,n⟩).later (balloc _ _)
 have HB:Hid (RB ((w.alloc (.cells #[.string (bs p),.string (bs n)] 27)).alloc (.cells #[.string (bs q),.string (bs m)] 27)) (w.heap.size+1) ⟨q,m⟩):=by
  show RB _ _ _
  have:=RB.new (w.alloc (.cells #[.string (bs p),.string (bs n)] 27)) ⟨q,m⟩
  simpa using this
 have HB0:Hid (Laid w ((w.alloc (.cells #[.string (bs p),.string (bs n)] 27)).alloc (.cells #[.string (bs q),.string (bs m)] 27))):=(Laid.alloc w _).step (Laid.alloc _ _)
 go_enter Tryz.func99,Tryz.ntmps99
 go_wp2_with fail
 generalize (w.alloc (.cells #[.string (bs p),.string (bs n)] 27)).alloc (.cells #[.string (bs q),.string (bs m)] 27)=w0 at *
 obtain ⟨c0,c1,_,_⟩:=HA.out.cells
 obtain ⟨d0,d1,_,_⟩:=HB.out.cells
 have la:=HA.out.lt
 have lb:=HB.out.lt
 simp only at c0 c1 d0 d1
 have HL:Hid (w.heap.size < w0.heap.size∧w.heap.size+1 < w0.heap.size):=⟨la,lb⟩
 clear la lb
 go_region_held3 (fun w'=>w'.cell? ⟨w.heap.size,0,none⟩=some (.string (bs p))∧w'.cell? ⟨w.heap.size,1,none⟩=some (.string (bs n))∧w'.cell? ⟨w.heap.size+1,0,none⟩=some (.string (bs q))∧w'.cell? ⟨w.heap.size+1,1,none⟩=some (.string (bs m))) (first | (with_reducible exact ⟨c0,c1,d0,d1⟩) | (with_reducible exact KS1.out) | go_keep) (first | (go_at_call 36;(with_reducible refine (HC.out _).mono ?_);rintro e w1 ⟨rfl,hb1⟩;have HL1:Hid (Laid w0 w1):=(Laid.drew w0).step hb1;have KS1:Hid (w1.cell? ⟨w.heap.size,0,none⟩=some (.string (bs p))∧w1.cell? ⟨w.heap.size,1,none⟩=some (.string (bs n))∧w1.cell? ⟨w.heap.size+1,0,none⟩=some (.string (bs q))∧w1.cell? ⟨w.heap.size+1,1,none⟩=some (.string (bs m))):=cells4 HL1.out.below HL.out.1 HL.out.2 c0 c1 d0 d1;clear hb1) | (go_at_call 112;(with_reducible refine (HS.out _).mono ?_);rintro e w2 ⟨rfl,rfl⟩) | (go_at_call 133;(with_reducible refine (HO.out _).mono ?_);rintro e w3 ⟨rfl,rfl⟩))
 all_goals (go_wp2_with fail;go_ret)
 all_goals exact ⟨rfl,HB0.out.step (HL1.out.step (Laid.alloc _ _))⟩
theorem ris_or (a b:Lb):(if cmpL a b=0 then Lib.compareBytes a.pkg b.pkg else cmpL a b)=cmpL a b:=by
 split
 ·rename_i h
  have e:=(cmpL_zero a b).1 h
  rw [h,e]
  exact cb_refl _
 ·rfl
theorem rising_any (a b:Lb) (w:World) (ha:Lm a) (hb:Lm b):Calls Tryz.prog 87 #[a.val,b.val] w fun e w'=>e=.returned (.int .i64 (cmpL a b))∧Laid w w':=by
 have HC:Hid (∀ w:World,Calls Tryz.prog 99 #[a.val,b.val] w fun e w'=>e=.returned (.int .i64 (cmpL a b))∧Laid w w'):=fun w=>lcmp_laid a b w ha hb
 have HE:Hid ((if cmpL a b=0 then Lib.compareBytes a.pkg b.pkg else cmpL a b)=cmpL a b):=ris_or a b
 obtain ⟨p,n⟩:=a
 obtain ⟨q,m⟩:=b
 have HS:Hid (∀ w:World,Calls Tryz.prog 112 #[.string (bs p),.string (bs q)] w fun e w'=>e=.returned (.int .i64 (Lib.compareBytes p q))∧w'=w):=fun w=>compare_any p q w
 clear ha hb
 simp only [Lb.val] at *
 generalize cmpL ⟨p,n⟩ ⟨q,m⟩=x at *
 generalize Lib.compareBytes p q=y at *
 have HO:Hid (∀ w:World,Calls Tryz.prog 133 #[.slice (some ⟨w.heap.size,0,none⟩) 2 2] (w.alloc (.cells #[.int .i64 x,.int .i64 y] 3)) fun e w'=>e=.returned (.int .i64 (if x=0 then y else x))∧w'=w.alloc (.cells #[.int .i64 x,.int .i64 y] 3)):=or_new x y
 rw [HE.out] at HO
 clear HE
 have HA:Hid (RB ((w.alloc (.cells #[.string (bs p),.string (bs n)] 27)).alloc (.cells #[.string (bs q),.string (bs m)] 27)) w.heap.size ⟨p,n⟩):=(RB.new w ⟨p,n⟩).later (balloc _ _)
 have HB:Hid (RB ((w.alloc (.cells #[.string (bs p),.string (bs n)] 27)).alloc (.cells #[.string (bs q),.string (bs m)] 27)) (w.heap.size+1) ⟨q,m⟩):=by
  show RB _ _ _
  have:=RB.new (w.alloc (.cells #[.string (bs p),.string (bs n)] 27)) ⟨q,m⟩
  simpa using this
 have HB0:Hid (Laid w ((w.alloc (.cells #[.string (bs p),.string (bs n)] 27)).alloc (.cells #[.string (bs q),.string (bs m)] 27))):=(Laid.alloc w _).step (Laid.alloc _ _)
 go_enter Tryz.func87,Tryz.ntmps87
 go_wp2_with fail
 generalize (w.alloc (.cells #[.string (bs p),.string (bs n)] 27)).alloc (.cells #[.string (bs q),.string (bs m)] 27)=w0 at *
 obtain ⟨c0,c1,_,_⟩:=HA.out.cells
 obtain ⟨d0,d1,_,_⟩:=HB.out.cells
 have la:=HA.out.lt
 have lb:=HB.out.lt
 simp only at c0 c1 d0 d1
 have HL:Hid (w.heap.size < w0.heap.size∧w.heap.size+1 < w0.heap.size):=⟨la,lb⟩
 clear la lb
 go_region_held3 (fun w'=>w'.cell? ⟨w.heap.size,0,none⟩=some (.string (bs p))∧w'.cell? ⟨w.heap.size,1,none⟩=some (.string (bs n))∧w'.cell? ⟨w.heap.size+1,0,none⟩=some (.string (bs q))∧w'.cell? ⟨w.heap.size+1,1,none⟩=some (.string (bs m))) (first | (with_reducible exact ⟨c0,c1,d0,d1⟩) | (with_reducible exact KS1.out) | go_keep) (first | (go_at_call 99;(with_reducible refine (HC.out _).mono ?_);rintro e w1 ⟨rfl,hb1⟩;have HL1:Hid (Laid w0 w1):=(Laid.drew w0).step hb1;have KS1:Hid (w1.cell? ⟨w.heap.size,0,none⟩=some (.string (bs p))∧w1.cell? ⟨w.heap.size,1,none⟩=some (.string (bs n))∧w1.cell? ⟨w.heap.size+1,0,none⟩=some (.string (bs q))∧w1.cell? ⟨w.heap.size+1,1,none⟩=some (.string (bs m))):=cells4 HL1.out.below HL.out.1 HL.out.2 c0 c1 d0 d1;clear hb1) | (go_at_call 112;(with_reducible refine (HS.out _).mono ?_);rintro e w2 ⟨rfl,rfl⟩) | (go_at_call 133;(with_reducible refine (HO.out _).mono ?_);rintro e w3 ⟨rfl,rfl⟩))
 all_goals (go_wp2_with fail;go_ret)
 all_goals exact ⟨rfl,HB0.out.step (HL1.out.step (Laid.alloc _ _))⟩
end
section
open Go.RowKit Go.Maps
def kb (a:Lb):List UInt8:=keyBytes [.string a.pkg,.string a.name]
theorem laidOut:laidOutB Tryz.prog=true:=by kernel_rfl
theorem und37:Tryz.prog.underlying 27=some (.struct (Tryz.prog.fieldsOf 27)):=by kernel_rfl
theorem tsz:Tryz.prog.types.size=370:=by kernel_rfl
theorem klaw:WideMaps.KeyLaw Tryz.prog 27:=deep_law_laid laidOut (m:=3) (by omega) (by rw [tsz];decide) (by kernel_rfl) (by rw [und37])
theorem lawL:Keyed Tryz.prog 27:=Keyed.of_law klaw
theorem keyT:Tryz.prog.keyType 27=true:=by kernel_rfl
theorem flds2:∃ A B:Field,(Tryz.prog.fieldsOf 27).toList=[A,B]∧A.type=9∧A.offset=0∧B.type=9∧B.offset=1:=by
 have h:=flds23
 generalize (Tryz.prog.fieldsOf 27).toList=L at h
 have hl:L.length=2:=by have:=congrArg List.length h;simpa using this
 match L,hl with
 | [A,B],_=>
  simp only [List.map_cons,List.map_nil,List.cons.injEq,Prod.mk.injEq,and_true] at h
  exact ⟨A,B,rfl,h.1.2.1,h.1.2.2,h.2.2.1,h.2.2.2⟩
theorem hc31:Tryz.prog.cellsOf 27=2:=by kernel_rfl
theorem hc9:Tryz.prog.cellsOf 9=1:=by kernel_rfl
theorem hnb31 : (Tryz.prog.fieldsOf 27).all (fun f => f.name != "_") = true := by kernel_rfl
theorem lits_eq (d:Nat) (cs:List Value):Tryz.prog.keyLits (d+2) 27 cs=if cs.length=2 then (match Tryz.prog.keyLits (d+1) 9 (cs.take 1),Tryz.prog.keyLits (d+1) 9 ((cs.drop 1).take 1) with | some x,some y=>some (x++y) | _,_=>none) else none:=by
 obtain ⟨A,B,hf,a1,a2,b1,b2⟩:=flds2
 conv=>lhs;unfold Program.keyLits
 rw [und37]
 simp only [hc31,hnb31,and_true,hf,List.mapM_cons,List.mapM_nil,a1,a2,b1,b2,hc9,List.drop_zero]
 split
 ·cases Tryz.prog.keyLits (d+1) 9 (cs.take 1) with
  | none=>rfl
  | some x=>
   cases Tryz.prog.keyLits (d+1) 9 ((cs.drop 1).take 1) with
   | none=>rfl
   | some y=>simp
 ·rfl
theorem lits9 (d:Nat) (s:ByteArray) (hs:s.size≤maxLen):Tryz.prog.keyLits (d+1) 9 [.string s]=some [.string s.data.toList]:=by
 unfold Program.keyLits
 rw [u9]
 simp [hs]
theorem lits9_inv (d:Nat) (c:Value) (x:List Lit) (hx:Tryz.prog.keyLits (d+1) 9 [c]=some x):∃ s,c=.string s∧x=[.string s.data.toList]:=by
 unfold Program.keyLits at hx
 rw [u9] at hx
 cases c<;>simp at hx
 exact ⟨_,rfl,hx.2.symm⟩
theorem lits (p n:ByteArray) (hp:p.size≤maxLen) (hn:n.size≤maxLen):Tryz.prog.keyLits (Tryz.prog.types.size+1) 27 [.string p,.string n]=some [.string p.data.toList,.string n.data.toList]:=by
 rw [tsz]
 refine (lits_eq 369 _).trans ?_
 simp [lits9 369 p hp,lits9 369 n hn]
theorem keyL {a:Lb} (h:Lu a):keyOf Tryz.prog 27 a.val=some (.string (kb a)):=by
 obtain ⟨p,n⟩:=a
 have h1:=h.pkg
 have h2:=h.name
 simp only at h1 h2
 unfold keyOf
 rw [und37]
 have hf:(Lb.val ⟨p,n⟩).formed Tryz.prog 27=true:=by kernel_rfl
 simp only [keyT,hf,Bool.and_self,if_true]
 have:=lits (bs p) (bs n) (by rw [bs_size];unfold maxLen;omega) (by rw [bs_size];unfold maxLen;omega)
 show (Tryz.prog.keyLits (Tryz.prog.types.size+1) 27 [.string (bs p),.string (bs n)]).map _=_
 rw [this]
 rfl
theorem lits_inv (d:Nat) (cs:List Value) (L:List Lit) (h:Tryz.prog.keyLits (d+2) 27 cs=some L):∃ s t:ByteArray,cs=[.string s,.string t]∧L=[.string s.data.toList,.string t.data.toList]:=by
 rw [lits_eq] at h
 split at h
 ·rename_i hl
  match cs,hl with
  | [c,e],_=>
   simp only [List.drop_succ_cons,List.drop_zero,List.take_succ_cons,List.take_zero] at h
   cases e0:Tryz.prog.keyLits (d+1) 9 [c] with
   | none=>rw [e0] at h;cases h
   | some x=>
    cases e1:Tryz.prog.keyLits (d+1) 9 [e] with
    | none=>rw [e0,e1] at h;cases h
    | some y=>
     obtain ⟨s,rfl,rfl⟩:=lits9_inv d c x e0
     obtain ⟨t,rfl,rfl⟩:=lits9_inv d e y e1
     rw [e0,e1] at h
     injection h with h
     exact ⟨s,t,rfl,h.symm⟩
 ·cases h
theorem keyInv {v:Value} {l:Lit} (h:keyOf Tryz.prog 27 v=some l):∃ a:Lb,v=a.val∧l=.string (kb a):=by
 obtain ⟨xs,L,rfl,h2,rfl⟩:=keyOf_top (P:=Tryz.prog) (k:=27) (by rw [und37]) h
 obtain ⟨d,hd⟩:∃ d,Tryz.prog.types.size+1=d+2:=⟨369,by rw [tsz]⟩
 rw [hd] at h2
 obtain ⟨s,t,h4,rfl⟩:=lits_inv d _ _ h2
 have h5:xs = #[.string s,.string t]:=Array.toList_inj.1 h4
 subst h5
 exact ⟨⟨s.data.toList,t.data.toList⟩,rfl,rfl⟩
theorem val_inj {a b:Lb} (h:a.val=b.val):a=b:=by
 obtain ⟨p,n⟩:=a
 obtain ⟨q,m⟩:=b
 unfold Lb.val at h
 injection h with h
 have e:=congrArg Array.toList h
 injection e with e1 e2
 injection e2 with e2 _
 injection e1 with e1
 injection e2 with e2
 have h1:p=q:=bs_inj.1 e1
 have h2:n=m:=bs_inj.1 e2
 rw [h1,h2]
theorem kb_inj {a b:Lb} (ha:Lu a) (hb:Lu b) (h:kb a=kb b):a=b:=by
 have h1:=keyL ha
 have h2:=keyL hb
 rw [h] at h1
 exact val_inj (lawL.inj h1 h2)
theorem isKeyLit (k:List UInt8):WideAt.IsKeyLit (.string k):=trivial
structure Cd (V:Type) where
 R:Value→Option (DataW Unit×List MemPlace)
 enc:V→Value
 d:V→DataW Unit
 z:V
 t:TypeId
 e:TypeId
 hR:∀ x,R (enc x)=some (d x,[])
 inv:∀ v y,R v=some y→∃ x,v=enc x
 inj:∀ x y,d x=d y→x=y
 und:Tryz.prog.underlying t=some (.map 27 e)
 zero:∀ w:World,(zeroValue e).run Tryz.prog w=.ok (enc z) w
variable {V:Type} {c:Cd V}
def Ks (D:DataW Unit):Prop:=∀ a:Lb,keyOf Tryz.prog 27 a.val=some (.string (kb a))→Maps.has D (.string (kb a))=true→Lu a
def MP (c:Cd V) (w:World) (b:Nat) (F:Lb→Option V) (cnt:Nat):Prop:=
 ∃ D,w.ownsMap Tryz.prog 27 c.R b cnt D∧Maps.size D=cnt∧Ks D∧∀ k:Lb,Lu k→Maps.has D (.string (kb k))=(F k).isSome∧∀ x,F k=some x→∀ zd,D.atKey (.string (kb k)) zd=c.d x
theorem MP.lt {w:World} {b cnt:Nat} {F:Lb→Option V} (h:MP c w b F cnt):b < w.heap.size:=by obtain ⟨D,h1,_⟩:=h;exact h1.lt
theorem MP.congr {w:World} {b cnt:Nat} {F G:Lb→Option V} (h:MP c w b F cnt) (e:∀ k,Lu k→F k=G k):MP c w b G cnt:=by
 obtain ⟨D,h1,h2,h0,h3⟩:=h
 exact ⟨D,h1,h2,h0,fun k hk=>by rw [← e k hk];exact h3 k hk⟩
theorem MP.block {w w':World} {b cnt:Nat} {F:Lb→Option V} (h:MP c w b F cnt) (e:w'.heap[b]? = w.heap[b]?):MP c w' b F cnt:=by
 obtain ⟨D,⟨es,clock,hb,hr⟩,h2⟩:=h
 exact ⟨D,⟨es,clock,e.trans hb,hr⟩,h2⟩
theorem MP.only {S:List Nat} {w w':World} {b cnt:Nat} {F:Lb→Option V} (h:MP c w b F cnt) (ho:Only S w w') (hn:b∉S):MP c w' b F cnt:=h.block (ho.block b h.lt hn)
theorem MP.later {w w':World} {b cnt:Nat} {F:Lb→Option V} (h:MP c w b F cnt) (hb:Below w.heap.size w w'):MP c w' b F cnt:=h.block (hb.block b h.lt)
theorem MP.new (c:Cd V) (w:World):MP c (w.alloc (.map #[] 0)) w.heap.size (fun _=>none) 0:=
 ⟨.map [],World.ownsMap_made w _ _ _,rfl,(fun a _ h=>by cases h),fun _ _=>⟨rfl,fun a h=>by cases h⟩⟩
def at_ (c:Cd V) (o:Option V):V:=o.getD c.z
theorem MP.look {w:World} {b cnt:Nat} {F:Lb→Option V} (h:MP c w b F cnt) {k:Lb} (hk:Lu k) (q:Bool) :
  (Instr.lookup c.t (.map (some b)) k.val q).run Tryz.prog w=.ok (if q then .tuple #[c.enc (at_ c (F k)),.bool (F k).isSome] else c.enc (at_ c (F k))) w:=by
 obtain ⟨D,h1,h2,_,h4⟩:=h
 have hv:∀ v ps,c.R v=some (D.atKey (.string (kb k)) (c.d c.z),ps)→v=c.enc (at_ c (F k)):=by
  intro v ps hv
  obtain ⟨x,rfl⟩:=c.inv _ _ hv
  rw [c.hR] at hv
  simp only [Option.some.injEq,Prod.mk.injEq] at hv
  congr 1
  apply c.inj
  cases e:F k with
  | some y=>
   rw [(h4 k hk).2 y e] at hv
   exact hv.1
  | none=>
   have:=(h4 k hk).1
   rw [e] at this
   rw [Maps.atKey_of_not_has this] at hv
   exact hv.1
 cases q
 ·obtain ⟨v,ps,hrun,hr⟩:=h1.lookup lawL c.und (c.zero w) (c.hR c.z) (keyL hk)
  rw [hrun,hv v ps hr];rfl
 ·obtain ⟨v,ps,hrun,hr⟩:=h1.look_ok lawL c.und (c.zero w) (c.hR c.z) (keyL hk)
  rw [hrun,hv v ps hr,(h4 k hk).1];rfl
theorem Only.turned {w w':World} {b:Nat} (h:w.mapTurned w' b):Only [b] w w':=by
 have g:=h.grown
 exact ⟨g.os,g.tape,g.output,g.size,fun k hk hn=>g.block k hk (by simpa using hn)⟩
theorem turned_size {w w':World} {b:Nat} (h:w.mapTurned w' b):w'.heap.size=w.heap.size:=by
 obtain ⟨_,_,_,_,_,rfl⟩:=h;simp [ChangeMaps.setBlock]
theorem tight {w:World} {R:Value→Option (DataW Unit×List MemPlace)} {b n:Nat} {D:DataW Unit} (h:w.ownsMap Tryz.prog 27 R b n D):w.ownsMap Tryz.prog 27 R b (Maps.size D) D:=by
 obtain ⟨es,clock,hb,F,hs,rfl⟩:=h
 exact ⟨es,clock,hb,F,by simp [Maps.size,length_sorted],rfl⟩
theorem put_at {w:World} {b cnt:Nat} {F:Lb→Option V} {D:DataW Unit} (h1:w.ownsMap Tryz.prog 27 c.R b cnt D) (h2:Maps.size D=cnt) (h0:Ks D) (h4:∀ k:Lb,Lu k→Maps.has D (.string (kb k))=(F k).isSome∧∀ x,F k=some x→∀ zd,D.atKey (.string (kb k)) zd=c.d x) {k:Lb} (hk:Lu k) (x:V) {w':World}
  (h5:w'.ownsMap Tryz.prog 27 c.R b (cnt+1) (D.put (.string (kb k)) (c.d x))):MP c w' b (fun y=>if y=k then some x else F y) (if (F k).isSome then cnt else cnt+1):=by
 have hs:Maps.size (D.put (.string (kb k)) (c.d x))=if (F k).isSome then cnt else cnt+1:=by rw [Maps.size_put (h1.tidy lawL),(h4 k hk).1,h2]
 refine ⟨_,?_,hs,fun a ha hh=>?_,fun y hy=>?_⟩
 rotate_left
 ·by_cases e:kb a=kb k
  ·have h6:=keyL hk
   rw [e] at ha
   rw [val_inj (lawL.inj ha h6)]
   exact hk
  ·rw [Maps.has_put_other (fun h=>e (Lit.string.inj h))] at hh
   exact h0 a ha hh
 rotate_left
 ·have:=tight h5
  rw [hs] at this
  exact this
 ·simp only []
  by_cases e:y=k
  ·subst e
   rw [if_pos rfl,Maps.has_put_same h1.isMap (isKeyLit _)]
   exact ⟨rfl,fun b hb zd=>by rw [Maps.atKey_put_same h1.isMap (isKeyLit _)];cases hb;rfl⟩
  ·have hne:Lit.string (kb y)≠Lit.string (kb k):=fun h=>e (kb_inj hy hk (Lit.string.inj h))
   rw [if_neg e,Maps.has_put_other hne]
   exact ⟨(h4 y hy).1,fun b hb zd=>by rw [Maps.atKey_put_other hne];exact (h4 y hy).2 b hb zd⟩
theorem MP.store {w:World} {b cnt:Nat} {F:Lb→Option V} (h:MP c w b F cnt) {k:Lb} (hk:Lu k) (hN:cnt < 4611686018427387904) (x:V) :
  ∃ w',(Instr.mapUpdate c.t (.map (some b)) k.val (c.enc x)).run Tryz.prog w=.ok () w'∧MP c w' b (fun y=>if y=k then some x else F y) (if (F k).isSome then cnt else cnt+1)∧Only [b] w w'∧w'.heap.size=w.heap.size:=by
 obtain ⟨D,h1,h2,h0,h4⟩:=h
 obtain ⟨w',hrun,h5,h6⟩:=h1.store lawL c.und (by unfold maxLen;omega) (keyL hk) (c.hR x)
 exact ⟨w',hrun,put_at h1 h2 h0 h4 hk x h5,Only.turned h6,turned_size h6⟩
theorem MP.len {w:World} {b cnt:Nat} {F:Lb→Option V} (h:MP c w b F cnt) (ty:TypeId):(Builtin.len_ #[c.t] ty #[.map (some b)]).run Tryz.prog w=.ok (.int .i64 cnt) w:=by
 obtain ⟨D,h1,h2,_,h4⟩:=h
 rw [h1.len c.und,h2]
theorem MP.entry {w:World} {b cnt:Nat} {F:Lb→Option V} (h:MP c w b F cnt) {k:Lb} (hk:Lu k) (hN:cnt < 4611686018427387904) {y:V} (hy:F k=some y) :
  ∃ (v0:Value) (st:Nat),(Instr.mapEntry c.t (.map (some b)) k.val).run Tryz.prog w=.ok (.tuple #[v0,goInt st]) w∧∀ (x:V),∃ w',(Instr.entryStore c.t (.map (some b)) (goInt st) (c.enc x)).run Tryz.prog w=.ok () w'∧MP c w' b (fun y=>if y=k then some x else F y) cnt∧Only [b] w w'∧w'.heap.size=w.heap.size:=by
 obtain ⟨D,h1,h2,h0,h4⟩:=h
 have h1':=h1
 obtain ⟨es,clock,hb,Ft,hs,hD⟩:=h1
 obtain ⟨v0,st,es1,clock1,hm,_,hst⟩:=WideElems.entry_then_store klaw c.und c.zero hb Ft (keyL hk)
 have hstamp:=Ft.stamped
 have hhas:Maps.has D (.string (kb k))=true:=by rw [(h4 k hk).1,hy];rfl
 have hsame:ChangeMaps.setBlock w b (.map es1 clock1)=w:=by
  obtain ⟨s1,s2,_⟩:=Ft.stamped
  rcases klaw.find w (keyL hk) es.toList Ft.keys with ⟨f1,f2⟩ | ⟨j,e0,f1,f2,f3⟩
  ·exfalso
   rcases Maps.fit_look true lawL c.und (c.zero w) hb Ft (keyL hk) with ⟨_,_,hat⟩ | ⟨e0,y0,hm0,hk0,_⟩
   ·rw [← hD] at hat
    rw [Maps.has_false_of_atKey hat] at hhas;cases hhas
   ·exact f2 e0 hm0 hk0
  ·have hj:es[j]? = some e0:=by simpa using f2
   have hsame:es.modify j (fun e=>{ e with key:=k.val })=es:=by
    apply Array.ext'
    rw [Array.toList_modify,ChangeMaps.modify_eq_set _ _ _ _ f2]
    have:({ e0 with key:=k.val }:MapEntry)=e0:=by rw [← f3]
    rw [this]
    exact WideElems.set_self _ _ _ f2
   have hrun:(Instr.mapEntry c.t (.map (some b)) k.val).run Tryz.prog w=.ok (.tuple #[e0.val,goInt e0.born]) (ChangeMaps.setBlock w b (.map es clock)):=by
    simp [Instr.mapEntry,run_underlying c.und,MapKept.run_getObj_map hb,klaw.check w false (keyL hk),f1,hj,f3,klaw.stays w (keyL hk),hsame,MapKept.run_setObj_map _ hb,Result.andThen,ChangeMaps.setBlock]
   rw [hm] at hrun
   injection hrun with _ hw
   rw [hw]
   have e:w.heap.setIfInBounds b (.map es clock)=w.heap:=by
    apply Array.ext_getElem?
    intro i
    by_cases hi:i=b
    ·subst hi
     exact (ChangeMaps.heap_setBlock_same hb _).trans hb.symm
    ·exact ChangeMaps.heap_setBlock_other hb _ hi
   unfold ChangeMaps.setBlock
   rw [e]
 rw [hsame] at hm
 refine ⟨v0,st,hm,fun x=>?_⟩
 have hw1:w.heap[b]? = some (.map es1 clock1):=by
  rw [← hsame];exact ChangeMaps.heap_setBlock_same hb _
 obtain ⟨es',clock',hrun,hup⟩:=hst w (c.enc x) hw1
 obtain ⟨w',hrun2,h5,h6⟩:=h1'.store lawL c.und (by unfold maxLen;omega) (keyL hk) (c.hR x)
 rw [hup] at hrun2
 injection hrun2 with _ hw
 subst hw
 refine ⟨_,hrun,?_,Only.turned h6,turned_size h6⟩
 have:=put_at h1' h2 h0 h4 hk x h5
 rw [hy] at this
 exact this
end
end Go.Proofs.YtppnbdnpapellaaGreatDoor
namespace Go.Proofs.YtppnbdnpapellaaGreatDoor
namespace Gs
structure Sto {α:Type} (lt:α→α→Bool):Prop where
 irr:∀ a,lt a a=false
 trans:∀ a b c,lt a b=true→lt b c=true→lt a c=true
 tot:∀ a b,a≠b→lt a b=true∨lt b a=true
variable {α:Type} {lt:α→α→Bool}
theorem Sto.asym (h:Sto lt) {a b:α} (hab:lt a b=true):lt b a=false:=by
 cases hb:lt b a
 ·rfl
 ·have:=h.trans a b a hab hb
  rw [h.irr] at this;cases this
def Ris (lt:α→α→Bool) (l:List α):Prop:=l.Pairwise (fun a b=>lt a b=true)
theorem ris_ext (h:Sto lt):∀ {a b:List α},Ris lt a→Ris lt b→(∀ x,x∈a↔x∈b)→a=b
 | [],[],_,_,_=>rfl
 | [],y::r,_,_,hm=>absurd ((hm y).2 (by simp)) (by simp)
 | x::r,[],_,_,hm=>absurd ((hm x).1 (by simp)) (by simp)
 | x::r,y::s,ha,hb,hm=>by
  obtain ⟨ha1,ha2⟩:=List.pairwise_cons.1 ha
  obtain ⟨hb1,hb2⟩:=List.pairwise_cons.1 hb
  have hxy:x=y:=by
   rcases List.mem_cons.1 ((hm x).1 (by simp)) with h1 | h1
   ·exact h1
   ·rcases List.mem_cons.1 ((hm y).2 (by simp)) with h2 | h2
    ·exact h2.symm
    ·have h3:=ha1 y h2
     have h4:=hb1 x h1
     rw [h.asym h3] at h4;cases h4
  subst hxy
  congr 1
  refine ris_ext h ha2 hb2 (fun z=>?_)
  constructor
  ·intro hz
   rcases List.mem_cons.1 ((hm z).1 (by simp [hz])) with h1 | h1
   ·subst h1
    have:=ha1 z hz
    rw [h.irr] at this;cases this
   ·exact h1
  ·intro hz
   rcases List.mem_cons.1 ((hm z).2 (by simp [hz])) with h1 | h1
   ·subst h1
    have:=hb1 z hz
    rw [h.irr] at this;cases this
   ·exact h1
theorem Ris.nodup (h:Sto lt) {l:List α} (hl:Ris lt l):l.Nodup:=by
 refine hl.imp (fun {a b} hab=>?_)
 rintro rfl
 rw [h.irr] at hab;cases hab
def insr [DecidableEq α] (lt:α→α→Bool) (x:α):List α→List α
 | []=>[x]
 | y::r=>if lt y x=true then y::insr lt x r else if y=x then y::r else x::y::r
theorem mem_insr [DecidableEq α] (x z:α):∀ l:List α,z∈insr lt x l↔z=x∨z∈l
 | []=>by simp [insr]
 | y::r=>by
  unfold insr
  split
  ·rw [List.mem_cons,mem_insr x z r,List.mem_cons]
   constructor
   ·rintro (h | h | h)
    ·exact .inr (.inl h)
    ·exact .inl h
    ·exact .inr (.inr h)
   ·rintro (h | h | h)
    ·exact .inr (.inl h)
    ·exact .inl h
    ·exact .inr (.inr h)
  ·split
   ·rename_i h1 h2
    subst h2
    simp
   ·simp
theorem ris_insr [DecidableEq α] (h:Sto lt) (x:α):∀ {l:List α},Ris lt l→Ris lt (insr lt x l)
 | [],_=>by simp [insr,Ris]
 | y::r,hl=>by
  obtain ⟨h1,h2⟩:=List.pairwise_cons.1 hl
  unfold insr
  split
  ·rename_i hyx
   refine List.pairwise_cons.2 ⟨fun z hz=>?_,ris_insr h x h2⟩
   rcases (mem_insr x z r).1 hz with rfl | hz
   ·exact hyx
   ·exact h1 z hz
  ·split
   ·exact hl
   ·rename_i hyx hne
    have hxy:lt x y=true:=by
     rcases h.tot x y (fun e=>hne e.symm) with h3 | h3
     ·exact h3
     ·exact absurd h3 hyx
    refine List.pairwise_cons.2 ⟨fun z hz=>?_,hl⟩
    rcases List.mem_cons.1 hz with rfl | hz
    ·exact hxy
    ·exact h.trans _ _ _ hxy (h1 z hz)
def ris [DecidableEq α] (lt:α→α→Bool) (l:List α):List α:=l.foldl (fun o x=>insr lt x o) []
theorem fold_mem [DecidableEq α] (z:α):∀ (l o:List α),z∈l.foldl (fun o x=>insr lt x o) o↔z∈o∨z∈l
 | [],o=>by simp
 | x::r,o=>by
  rw [List.foldl_cons,fold_mem z r,mem_insr,List.mem_cons]
  constructor
  ·rintro ((h | h) | h)
   ·exact .inr (.inl h)
   ·exact .inl h
   ·exact .inr (.inr h)
  ·rintro (h | h | h)
   ·exact .inl (.inr h)
   ·exact .inl (.inl h)
   ·exact .inr h
theorem fold_ris [DecidableEq α] (h:Sto lt):∀ (l:List α) {o:List α},Ris lt o→Ris lt (l.foldl (fun o x=>insr lt x o) o)
 | [],_,ho=>ho
 | x::r,_,ho=>by rw [List.foldl_cons];exact fold_ris h r (ris_insr h x ho)
theorem mem_ris [DecidableEq α] (z:α) (l:List α):z∈ris lt l↔z∈l:=by unfold ris;rw [fold_mem];simp
theorem ris_up [DecidableEq α] (h:Sto lt) (l:List α):Ris lt (ris lt l):=fold_ris h l List.Pairwise.nil
theorem ris_eq [DecidableEq α] (h:Sto lt) {a b:List α} (hm:∀ x,x∈a↔x∈b):ris lt a=ris lt b:=
 ris_ext h (ris_up h a) (ris_up h b) (fun x=>by rw [mem_ris,mem_ris];exact hm x)
theorem insr_le [DecidableEq α] (x:α):∀ l:List α,(insr lt x l).length≤l.length+1
 | []=>by simp [insr]
 | y::r=>by
  unfold insr
  split
  ·have:=insr_le x r
   simp;omega
  ·split<;>simp
theorem ris_le [DecidableEq α] (l:List α):(ris lt l).length≤l.length:=by
 have:∀ (l o:List α),(l.foldl (fun o x=>insr lt x o) o).length≤o.length+l.length:=by
  intro l
  induction l with
  | nil=>intro o;simp
  | cons x r ih=>intro o;rw [List.foldl_cons];have h1:=ih (insr lt x o);have h2:=insr_le (lt:=lt) x o;simp;omega
 have:=this l []
 simpa [ris] using this
inductive Way (E:List (α×α)):α→α→Prop
 | refl (a:α):Way E a a
 | step {a b c:α}:Way E a b→(b,c)∈E→Way E a c
theorem Way.trans {E:List (α×α)} {a b c:α} (h:Way E a b) (k:Way E b c):Way E a c:=by
 induction k with
 | refl=>exact h
 | step _ hm ih=>exact .step ih hm
theorem Way.mono {E F:List (α×α)} (hs:∀ e∈E,e∈F) {a b:α} (h:Way E a b):Way F a b:=by
 induction h with
 | refl=>exact .refl _
 | step _ hm ih=>exact .step ih (hs _ hm)
def rdy [DecidableEq α] (E:List (α×α)) (told:List α) (a:α):Bool:=E.all (fun e=>!decide (e.1=a) || decide (e.2∈told))
theorem rdy_iff [DecidableEq α] {E:List (α×α)} {told:List α} {a:α}:rdy E told a=true↔∀ b,(a,b)∈E→b∈told:=by
 unfold rdy
 rw [List.all_eq_true]
 constructor
 ·intro h b hb
  have:=h (a,b) hb
  simpa using this
 ·rintro h ⟨x,y⟩ hm
  by_cases hx:x=a
  ·subst hx;simp [h y hm]
  ·simp [hx]
def nxt [DecidableEq α] (all:List α) (E:List (α×α)) (told:List α):Option α:=all.find? (fun a=>!decide (a∈told) && rdy E told a)
def ordF [DecidableEq α] (all:List α) (E:List (α×α)):Nat→List α→Option (List α)
 | 0,told=>some told
 | n+1,told=>match nxt all E told with
  | none=>none
  | some a=>ordF all E n (told++[a])
def ord [DecidableEq α] (all:List α) (E:List (α×α)):Option (List α):=ordF all E all.length []
theorem nxt_some [DecidableEq α] {all:List α} {E:List (α×α)} {told:List α} {a:α} (h:nxt all E told=some a):a∈all∧a∉told∧∀ b,(a,b)∈E→b∈told:=by
 have h1:=List.mem_of_find?_eq_some h
 have h2:=List.find?_some h
 simp only [Bool.and_eq_true,Bool.not_eq_true',decide_eq_false_iff_not] at h2
 exact ⟨h1,h2.1,rdy_iff.1 h2.2⟩
structure Tld (all:List α) (E:List (α×α)) (told:List α):Prop where
 nodup:told.Nodup
 sub:∀ a∈told,a∈all
 before:∀ (i:Nat) (h:i < told.length) (b:α),(told[i],b)∈E→b∈told.take i
theorem Tld.nil (all:List α) (E:List (α×α)):Tld all E []:=⟨List.nodup_nil,by simp,fun i h=>by simp at h⟩
theorem Tld.snoc [DecidableEq α] {all:List α} {E:List (α×α)} {told:List α} {a:α} (h:Tld all E told) (hn:nxt all E told=some a):Tld all E (told++[a]):=by
 obtain ⟨h1,h2,h3⟩:=nxt_some hn
 refine ⟨?_,?_,?_⟩
 ·rw [List.nodup_append]
  refine ⟨h.nodup,by simp,?_⟩
  intro x hx y hy
  have:y=a:=by simpa using hy
  subst this
  rintro rfl
  exact h2 hx
 ·intro x hx
  rcases List.mem_append.1 hx with hx | hx
  ·exact h.sub x hx
  ·have:x=a:=by simpa using hx
   rw [this];exact h1
 ·intro i hi b hb
  by_cases hlt:i < told.length
  ·rw [List.getElem_append_left hlt] at hb
   rw [List.take_append_of_le_length (by omega)]
   exact h.before i hlt b hb
  ·have hi':i=told.length:=by simp at hi;omega
   subst hi'
   simp only [List.getElem_concat_length] at hb
   rw [List.take_left]
   exact h3 b hb
theorem ordF_some [DecidableEq α] {all:List α} {E:List (α×α)}:∀ (n:Nat) (told L:List α),Tld all E told→ordF all E n told=some L→Tld all E L∧L.length=told.length+n∧L.take told.length=told
 | 0,told,L,ht,h=>by
  unfold ordF at h
  cases h
  exact ⟨ht,by simp,by simp⟩
 | n+1,told,L,ht,h=>by
  unfold ordF at h
  cases hn:nxt all E told with
  | none=>rw [hn] at h;cases h
  | some a=>
   rw [hn] at h
   obtain ⟨h1,h2,h3⟩:=ordF_some n (told++[a]) L (ht.snoc hn) h
   refine ⟨h1,by simp at h2;omega,?_⟩
   have:L.take told.length=(L.take (told++[a]).length).take told.length:=by rw [List.take_take];congr 1;simp
   rw [this,h3];simp
theorem tld_way {all:List α} {E:List (α×α)} {L:List α} (h:Tld all E L) {a b:α} (hw:Way E a b):∀ i,(hi:i < L.length)→L[i]=a→∃ j,∃ hj:j < L.length,L[j]=b∧j≤i:=by
 induction hw with
 | refl=>intro i hi e;exact ⟨i,hi,e,Nat.le_refl _⟩
 | step _ hm ih=>
  intro i hi e
  obtain ⟨j,hj,e2,hji⟩:=ih i hi e
  have hb:=h.before j hj _ (by rw [e2];exact hm)
  obtain ⟨k,hk,e3⟩:=List.getElem_of_mem hb
  have hkj:k < j:=by simp at hk;omega
  refine ⟨k,by omega,?_,by omega⟩
  rw [List.getElem_take] at e3;exact e3
theorem tld_no_circle {all:List α} {E:List (α×α)} {L:List α} (h:Tld all E L) {a b:α} (ha:a∈L) (hm:(a,b)∈E) (hw:Way E b a):False:=by
 obtain ⟨i,hi,e⟩:=List.getElem_of_mem ha
 have hb:=h.before i hi b (by rw [e];exact hm)
 obtain ⟨k,hk,e3⟩:=List.getElem_of_mem hb
 have hki:k < i:=by simp at hk;omega
 rw [List.getElem_take] at e3
 obtain ⟨j,hj,e4,hjk⟩:=tld_way h hw k (by omega) e3
 exact (List.pairwise_iff_getElem.1 h.nodup) j i hj hi (by omega) (e4.trans e.symm)
end Gs
end Go.Proofs.YtppnbdnpapellaaGreatDoor
namespace Go.Proofs.YtppnbdnpapellaaGreatDoor
namespace Gs
variable {α:Type}
theorem filter_len_lt:∀ (l:List α) (p q:α→Bool),(∀ x∈l,p x=true→q x=true)→(∃ u∈l,q u=true∧p u=false)→(l.filter p).length < (l.filter q).length
 | [],_,_,_,⟨u,hu,_⟩=>by simp at hu
 | x::r,p,q,hpq,⟨u,hu,h1,h2⟩=>by
  have hr:∀ y∈r,p y=true→q y=true:=fun y hy=>hpq y (by simp [hy])
  have hle:∀ (r:List α),(∀ y∈r,p y=true→q y=true)→(r.filter p).length≤(r.filter q).length:=by
   intro r
   induction r with
   | nil=>intro _;simp
   | cons y s ih=>
    intro h
    have h3:=ih (fun z hz=>h z (by simp [hz]))
    have h4:=h y (by simp)
    by_cases hp:p y=true
    ·rw [List.filter_cons_of_pos hp,List.filter_cons_of_pos (h4 hp)];simp;exact h3
    ·rw [List.filter_cons_of_neg hp]
     by_cases hq:q y=true
     ·rw [List.filter_cons_of_pos hq];simp;omega
     ·rw [List.filter_cons_of_neg hq];exact h3
  rcases List.mem_cons.1 hu with rfl | hu
  ·rw [List.filter_cons_of_neg (by rw [h2];simp),List.filter_cons_of_pos h1]
   have:=hle r hr
   simp;omega
  ·have ih:=filter_len_lt r p q hr ⟨u,hu,h1,h2⟩
   by_cases hp:p x=true
   ·rw [List.filter_cons_of_pos hp,List.filter_cons_of_pos (hpq x (by simp) hp)];simp;exact ih
   ·rw [List.filter_cons_of_neg hp]
    by_cases hq:q x=true
    ·rw [List.filter_cons_of_pos hq];simp;omega
    ·rw [List.filter_cons_of_neg hq];exact ih
theorem nodup_sub [DecidableEq α]:∀ (a b:List α),a.Nodup→(∀ x∈a,x∈b)→a.length≤b.length
 | [],_,_,_=>by simp
 | x::r,b,hn,hs=>by
  obtain ⟨h1,h2⟩:=List.nodup_cons.1 hn
  have hx:x∈b:=hs x (by simp)
  have:=nodup_sub r (b.erase x) h2 (fun y hy=>by
   have hne:y≠x:=by rintro rfl;exact h1 hy
   exact (List.mem_erase_of_ne hne).2 (hs y (by simp [hy])))
  rw [List.length_erase_of_mem hx] at this
  have hb:0 < b.length:=List.length_pos_of_mem hx
  simp;omega
theorem nxt_none [DecidableEq α] {all:List α} {E:List (α×α)} {told:List α} (h:nxt all E told=none) {u:α} (hu:u∈all) (hn:u∉told):∃ b,(u,b)∈E∧b∉told:=by
 have h1:=List.find?_eq_none.1 h u hu
 by_cases hr:rdy E told u=true
 ·exact absurd (by simp [hn,hr]) h1
 ·by_cases hx:∃ b,(u,b)∈E∧b∉told
  ·exact hx
  ·exfalso
   apply hr
   rw [rdy_iff]
   intro b hb
   by_cases hbt:b∈told
   ·exact hbt
   ·exact absurd ⟨b,hb,hbt⟩ hx
open Classical in
theorem ready_there {all:List α} {E:List (α×α)} {told:List α} (hE:∀ a b,(a,b)∈E→b∈all) (hc:∀ a b,(a,b)∈E→Way E b a→False)
  (hs:∀ u∈all,u∉told→∃ b,(u,b)∈E∧b∉told):∀ (k:Nat) (u:α),u∈all→u∉told→(all.filter (fun x=>decide (Way E u x))).length≤k→False
 | 0,u,hu,_,hk=>by
  have:u∈all.filter (fun x=>decide (Way E u x)):=List.mem_filter.2 ⟨hu,by simp [Way.refl u]⟩
  have:=List.length_pos_of_mem this
  omega
 | k+1,u,hu,hn,hk=>by
  obtain ⟨b,hb,hbt⟩:=hs u hu hn
  refine ready_there hE hc hs k b (hE u b hb) hbt ?_
  have:=filter_len_lt all (fun x=>decide (Way E b x)) (fun x=>decide (Way E u x)) (fun x _ hx=>by
   simp only [decide_eq_true_eq] at hx ⊢
   exact Way.trans (.step (.refl u) hb) hx) ⟨u,hu,by simp [Way.refl u],by simpa using fun h=>hc u b hb h⟩
  omega
theorem ordF_there [DecidableEq α] {all:List α} {E:List (α×α)} (ha:all.Nodup) (hE:∀ a b,(a,b)∈E→b∈all) (hc:∀ a b,(a,b)∈E→Way E b a→False) :
  ∀ (n:Nat) (told:List α),Tld all E told→told.length+n=all.length→∃ L,ordF all E n told=some L
 | 0,told,_,_=>⟨told,rfl⟩
 | n+1,told,ht,hl=>by
  cases hn:nxt all E told with
  | some a=>
   obtain ⟨L,hL⟩:=ordF_there ha hE hc n (told++[a]) (ht.snoc hn) (by simp;omega)
   exact ⟨L,by unfold ordF;rw [hn];exact hL⟩
  | none=>
   exfalso
   have hu:∃ u∈all,u∉told:=by
    by_cases hx:∃ u∈all,u∉told
    ·exact hx
    ·have:=nodup_sub all told ha (fun x hx'=>by
      by_cases h:x∈told
      ·exact h
      ·exact absurd ⟨x,hx',h⟩ hx)
     omega
   obtain ⟨u,hu,hun⟩:=hu
   classical
   exact ready_there hE hc (fun u hu hn'=>nxt_none hn hu hn') _ u hu hun (Nat.le_refl _)
theorem ord_some_iff [DecidableEq α] {all:List α} {E:List (α×α)} (ha:all.Nodup) (hE:∀ a b,(a,b)∈E→a∈all∧b∈all):(∃ L,ord all E=some L)↔∀ a b,(a,b)∈E→Way E b a→False:=by
 constructor
 ·rintro ⟨L,hL⟩ a b hm hw
  obtain ⟨h1,h2,_⟩:=ordF_some _ _ _ (Tld.nil all E) hL
  have hal:a∈L:=by
   by_cases h:a∈L
   ·exact h
   ·exfalso
    have:=nodup_sub (a::L) all (List.nodup_cons.2 ⟨h,h1.nodup⟩) (fun x hx=>by
     rcases List.mem_cons.1 hx with rfl | hx
     ·exact (hE _ _ hm).1
     ·exact h1.sub x hx)
    simp at this h2
    omega
  exact tld_no_circle h1 hal hm hw
 ·intro hc
  exact ordF_there ha (fun a b h=>(hE a b h).2) hc _ _ (Tld.nil all E) (by simp)
end Gs
end Go.Proofs.YtppnbdnpapellaaGreatDoor
