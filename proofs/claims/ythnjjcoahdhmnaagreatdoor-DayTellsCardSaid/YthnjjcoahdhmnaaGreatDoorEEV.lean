import Derived.Test.YthnjjcoahdhmnaaGreatDoorEPo
import Derived.Shelf.SlSortCmp.NoneTotal
import Derived.WalkKit
import Derived.ProofKit
import Derived.OpenShut
import Derived.Test.YthnjjcoahdhmnaaGreatDoorEBB
import Derived.Test.YthnjjcoahdhmnaaGreatDoorELib
import Derived.Lib.OwnBridge
import Derived.Shelf.SlicesE.Clone
import Derived.Test.YthnjjcoahdhmnaaGreatDoorEHR
import Derived.LoopTactic
import Derived.Maps.AppendAt
import Derived.Laws.AppendOwnNone
import Derived.Deep.RegionLaw
set_option maxHeartbeats 8000000
set_option maxRecDepth 100000
set_option linter.unusedVariables false
namespace Go.Proofs.YthnjjcoahdhmnaaGreatDoor
section
open Go.ChangeShapes Go.WideShapes Go.ChangeAt Go.RowKit
namespace Ev
def enc(x:Int×Int):List Value:= [.int .i64 x.1,.int .i64 x.2]
def flat(l:List (Int×Int)):List Value:=l.flatMap enc
def lt(x y:Int×Int):Bool:=decide (x.2<y.2)||(decide (x.2=y.2)&&decide (x.1<y.1))
def cf(x y:Int×Int):Int:=if Lib.compareInt x.2 y.2=0 then Lib.compareInt x.1 y.1 else Lib.compareInt x.2 y.2
theorem lt_iff(x y:Int×Int):lt x y=true↔(x.2<y.2∨x.2=y.2/\x.1<y.1):=by simp [lt]
theorem nK(x y:Int×Int):lt x y=false↔¬ (x.2<y.2∨x.2=y.2/\x.1<y.1):=by rw [←lt_iff,Bool.not_eq_true]
theorem uD(x y:Int×Int):ltOf cf x y=lt x y:=by
 have h1:∀a b:Int,a<b->Lib.compareInt a b= -1:=fun a b h=>by simp [Lib.compareInt,h]
 have h2:∀a b:Int,b<a->Lib.compareInt a b=1:=fun a b h=>by simp [Lib.compareInt,h,show ¬ a<b by omega]
 have h3:∀a:Int,Lib.compareInt a a=0:=fun a=>by simp [Lib.compareInt]
 obtain⟨a,b⟩:=x
 obtain⟨c,d⟩:=y
 unfold ltOf cf lt
 dsimp only
 rcases Int.lt_trichotomy b d with h|h|h
 ·rw [h1 b d h];simp [h]
 ·subst h
  rw [h3,if_pos rfl]
  rcases Int.lt_trichotomy a c with g|g|g
  ·rw [h1 a c g];simp [g]
  ·subst g;rw [h3];simp
  ·rw [h2 a c g];simp;omega
 ·rw [h2 b d h];simp;omega
theorem swo:Sort.SWO (ltOf cf) where
 irrefl x:=by rw [uD,nK];omega
 trans x y z h1 h2:=by rw [uD,lt_iff]at*;omega
 ntrans x y z h1 h2:=by rw [uD,nK]at*;omega
theorem tot:∀x y,ltOf cf x y=false->ltOf cf y x=false->x=y:=by
 intro x y h1 h2
 rw [uD,nK]at h1 h2
 obtain⟨a,b⟩:=x
 obtain⟨c,d⟩:=y
 simp only [Prod.mk.injEq]
 dsimp only at h1 h2
 omega
def Srt(l:List (Int×Int)):Prop:=l.Pairwise fun x y=>lt y x=false
theorem YW{x y:Int×Int}(h1:lt x y=false)(h2:lt y x=false):x=y:=tot x y (by rw [uD];exact h1) (by rw [uD];exact h2)
theorem NT:∀{a b:List (Int×Int)},Srt a->Srt b->a.Perm b->a=b
 | [],b,_,_,h=>(List.Perm.nil_eq h)
 |x :: a,[],_,_,h=>absurd h.length_eq (by simp)
 | x :: a,y :: b,ha,hb,h=>by
  have ha':=List.pairwise_cons.1 ha
  have hb':=List.pairwise_cons.1 hb
  have e:x=y:=by
   have m1:x∈y :: b:=h.mem_iff.1 List.mem_cons_self
   have m2:y∈x :: a:=h.mem_iff.2 List.mem_cons_self
   rcases List.mem_cons.1 m1 with e|m1
   ·exact e
   ·rcases List.mem_cons.1 m2 with e|m2
    ·exact e.symm
    ·exact YW (hb'.1 x m1) (ha'.1 y m2)
  subst e
  rw [NT ha'.2 hb'.2 (List.Perm.cons_inv h)]
def ins(x:Int×Int):List (Int×Int)->List (Int×Int)
 | []=> [x]
 |y :: r=>if lt x y then x :: y :: r else y :: ins x r
def sort:List (Int×Int)->List (Int×Int)
 | []=> []
 |x :: r=>ins x (sort r)
theorem GL(x:Int×Int):∀l,(ins x l).Perm (x :: l)
 | []=>List.Perm.refl _
 |y :: r=>by
  unfold ins
  split
  ·exact List.Perm.refl _
  ·exact((GL x r).cons y).trans (List.Perm.swap x y r)
theorem lD:∀l,(sort l).Perm l
 | []=>List.Perm.refl _
 |x :: r=>(GL x (sort r)).trans ((lD r).cons x)
theorem UN(x:Int×Int):∀l,Srt l->Srt (ins x l)
 | [],_=>List.pairwise_singleton _ _
 | y :: r,h=>by
  have h':=List.pairwise_cons.1 h
  unfold ins
  split
  ·rename_i hx
   refine List.pairwise_cons.2 ⟨fun z hz=> ?_,h⟩
   rw [lt_iff]at hx
   rcases List.mem_cons.1 hz with rfl|hz
   ·rw [nK];omega
   ·have:=h'.1 z hz
    rw [nK]at this⊢;omega
  ·rename_i hx
   refine List.pairwise_cons.2 ⟨fun z hz=> ?_,UN x r h'.2⟩
   rcases List.mem_cons.1 ((GL x r).mem_iff.1 hz)with rfl|hz
   ·simpa using hx
   ·exact h'.1 z hz
theorem zk:∀l,Srt (sort l)
 | []=>List.Pairwise.nil
 |x :: r=>UN x _ (zk r)
theorem Xw(d:List (Int×Int)):(d.mergeSort fun x y=> !(ltOf cf) y x)=sort d:=by
 refine NT ?_ (zk d) ((List.mergeSort_perm d _).trans (lD d).symm)
 have h:List.Pairwise (fun x y=>(!(ltOf cf) y x)=true) (d.mergeSort fun x y=> !(ltOf cf) y x):=by
  apply List.pairwise_mergeSort
  ·intro a b c h1 h2
   rw [Bool.not_eq_true',uD,nK]at*
   omega
  ·intro a b
   rw [Bool.or_eq_true,Bool.not_eq_true',Bool.not_eq_true',uD,uD,nK,nK]
   omega
 exact h.imp fun g=>by rw [Bool.not_eq_true',uD]at g;exact g
theorem UJ{s l:List (Int×Int)}(h:Srt s)(hp:s.Perm l):sort l=s:=NT (zk l) h ((lD l).trans hp.symm)
def sh(k:Int)(x:Int×Int):Int×Int:=(x.1,k+x.2)
theorem zN(k:Int)(l:List (Int×Int)):sort (l.map (sh k))=(sort l).map (sh k):=by
 refine UJ ?_ ((lD l).map _)
 refine List.Pairwise.map _ (fun x y h=> ?_) (zk l)
 rw [nK]at h⊢
 simp only [sh]
 omega
theorem aX:∀l,(flat l).length=l.length*2
 | []=>rfl
 |x :: r=>by
  have:=aX r
  unfold flat at this⊢
  rw [List.flatMap_cons,List.length_append,this]
  simp [enc];omega
theorem iq(a b:List (Int×Int)):flat (a++b)=flat a++flat b:=by simp [flat]
theorem flat_get:∀ (l:List (Int×Int)) (j:Nat) (x:Int×Int),l[j]? =some x->(flat l)[2*j]? =some (.int .i64 x.1)/\(flat l)[2*j+1]? =some (.int .i64 x.2)
 | [],j,x,h=>by simp at h
 |y :: r,0,x,h=>by
  obtain rfl:y=x:=by simpa using h
  exact⟨rfl,rfl⟩
 |y :: r,j+1,x,h=>by
  have:=flat_get r j x (by simpa using h)
  have e:flat (y :: r)= .int .i64 y.1 :: .int .i64 y.2 :: flat r:=rfl
  rw [e,show 2*(j+1)=2*j+1+1 by omega,show 2*j+1+1+1=(2*j+1)+1+1 by omega]
  simpa using this
theorem fD(l:List (Int×Int)):∀u∈flat l,u.oneCell'=true:=by
 intro u hu
 obtain⟨x,_,hx⟩:=List.mem_flatMap.1 hu
 simp [enc]at hx
 rcases hx with rfl|rfl <;> rfl
end Ev
end
section
open Go.ChangeShapes Go.WideShapes Go.ChangeAt Go.RowKit Go.Lib Go.Sort Go.Shelf
theorem bD:(Tryo.prog.info? 72).map (fun i=>(i.zero,i.size,i.bytes))=some (some (.agg #[.int .i64 0,.int .i64 0]),2,16):=by kernel_rfl
namespace Ev
def Own(w:World)(B:Nat)(v:Value)(l:List (Int×Int)):Prop:=w.ownsRow B 72 2 v l.length (flat l)
def Row(w:World)(v:Value)(l:List (Int×Int)):Prop:=(v= .slice none 0 0/\l= [])∨∃b off cap,v= .slice (some ⟨b,off,none⟩) l.length cap/\∀j u,(flat l)[j]? =some u->w.cell? ⟨b,off+j,none⟩=some u
theorem Own.nil(w:World)(B:Nat):Own w B (.slice none 0 0) []:=World.ownsRow_nil w B _ _
theorem Own.row{w:World}{B:Nat}{v:Value}{l:List (Int×Int)}(h:Own w B v l):Row w v l:=by
 rcases h.2 with ⟨rfl,h0⟩|⟨g,cap,cur,rfl,hb,hg,hn,hm,hs,ht⟩
 ·exact .inl ⟨rfl,List.eq_nil_of_length_eq_zero h0⟩
 ·refine .inr ⟨g,0,cap,rfl,fun j u hj=> ?_⟩
  have:=World.ownsRow.cells h rfl j u hj
  rwa [Addr.add_lit]at this
theorem Row.below{w w':World}{v:Value}{l:List (Int×Int)}(h:Row w v l)(hb:Below w.heap.size w w'):Row w' v l:=by
 rcases h with h|⟨b,off,cap,rfl,hc⟩
 ·exact .inl h
 ·exact .inr ⟨b,off,cap,rfl,fun j u hj=>(hb.cell (World.block_lt_of_cell? w _ (hc j u hj))).trans (hc j u hj)⟩
theorem grown_of{w w':World}(hb:Below w.heap.size w w'):w.grownBy w' none:=⟨hb.os,hb.tape,hb.output,hb.size,fun k hk _=>hb.block k hk⟩
theorem Own.below{w w':World}{B:Nat}{v:Value}{l:List (Int×Int)}(h:Own w B v l)(hb:Below w.heap.size w w'):Own w' B v l:=
 h.kept (grown_of hb) (by cases v.ownBlock <;> simp)
theorem Own.base{w:World}{B B':Nat}{v:Value}{l:List (Int×Int)}(h:Own w B v l)(hB:B'<=B):Own w B' v l:=⟨h.1,h.2.imp id fun⟨g,cap,cur,e,hb,r⟩=>⟨g,cap,cur,e,Nat.le_trans hB hb,r⟩⟩
theorem dW{w:World}{b off:Nat}{l:List (Int×Int)}(h:∀j u,(flat l)[j]? =some u->w.cell? ⟨b,off+j,none⟩=some u)(i:Nat)(x:Int×Int)(hx:l[i]? =some x):
  w.cell? ⟨b,off+i*2,none⟩=some (.int .i64 x.1)/\w.cell? ⟨b,off+i*2+1,none⟩=some (.int .i64 x.2):=by
 obtain⟨h1,h2⟩:=flat_get l i x hx
 rw [Nat.mul_comm 2 i]at h1 h2
 exact⟨h _ _ h1,by rw [Nat.add_assoc];exact h _ _ h2⟩
theorem Row.len{w:World}{v:Value}{l:List (Int×Int)}(h:Row w v l):∃p cap,v= .slice p l.length cap:=by
 rcases h with ⟨rfl,rfl⟩|⟨b,off,cap,rfl,_⟩
 ·exact⟨_,_,rfl⟩
 ·exact⟨_,_,rfl⟩
theorem Row.bH{w:World}{v:Value}{l:List (Int×Int)}(h:Row w v l)(h0:0<l.length):∃b off cap,v= .slice (some ⟨b,off,none⟩) l.length cap/\∀j u,(flat l)[j]? =some u->w.cell? ⟨b,off+j,none⟩=some u:=by
 rcases h with ⟨_,rfl⟩|h
 ·simp at h0
 ·exact h
theorem Gy(l:List (Int×Int)):flatK enc 2 l.toArray=(flat l).toArray:=by
 refine ext_get! (by simp [aX]) fun t ht=> ?_
 have ht':t<l.toArray.size*2:=by simpa using ht
 rw [get_flatK _ _ _ t ht']
 have hi:t / 2<l.length:=by simp at ht';omega
 obtain⟨h1,h2⟩:=flat_get l (t / 2) l[t / 2] (List.getElem?_eq_getElem hi)
 have e:l.toArray[t / 2]! =l[t / 2]:=by simp [hi]
 rw [e]
 rcases Nat.mod_two_eq_zero_or_one t with c|c
 ·rw [c]
  rw [show 2*(t / 2)=t by omega]at h1
  have hl:=(List.getElem?_eq_some_iff.1 h1).1
  rw [getElem!_pos (flat l).toArray t (by simpa using hl)]
  have:=(List.getElem?_eq_some_iff.1 h1).2
  simp only [List.getElem_toArray]
  rw [this]
  rfl
 ·rw [c]
  rw [show 2*(t / 2)+1=t by omega]at h2
  have hl:=(List.getElem?_eq_some_iff.1 h2).1
  rw [getElem!_pos (flat l).toArray t (by simpa using hl)]
  have:=(List.getElem?_eq_some_iff.1 h2).2
  simp only [List.getElem_toArray]
  rw [this]
  rfl
theorem Own.form{w:World}{B:Nat}{v:Value}{l:List (Int×Int)}(h:Own w B v l)(hv:v≠ .slice none 0 0):
  ∃g cap,v= .slice (some ⟨g,0,none⟩) l.length cap/\B<=g/\g<w.heap.size/\HoldsK enc 2 w g 0 l.toArray:=by
 have h':=h
 rcases h.2 with ⟨e,_⟩|⟨g,cap,cur,rfl,hb,hg,hn,hm,hs,ht⟩
 ·exact absurd e hv
 ·refine⟨g,cap,rfl,hb,(Array.getElem?_eq_some_iff.1 hg).1, ?_⟩
  unfold HoldsK
  rw [Gy]
  intro j hj
  have hj':j<(flat l).length:=by simpa using hj
  refine⟨?_, ?_⟩
  ·have:=World.ownsRow.cells h' rfl j _ (List.getElem?_eq_getElem hj')
   rw [Addr.add_lit]at this
   rw [this]
   simp [hj']
  ·rw [Nat.zero_add];exact World.ownsRow.frozenAt h' j
theorem YG{w:World}{B g cap n:Nat}{l ys:List (Int×Int)}{os:Array Obj}(h:Own w B (.slice (some ⟨g,0,none⟩) l.length cap) l)(hy:ys.length=l.length):
  Own (sortWorldK enc 2 w g 0 n ys.toArray os) B (.slice (some ⟨g,0,none⟩) l.length cap) ys:=by
 rcases h.2 with ⟨e0,_⟩|⟨g',cap',cur,e0,hb,hg,hn,hm,hs,ht⟩
 ·cases e0
 ·injection e0 with e1 _ e3
  injection e1 with e1
  injection e1 with e1
  subst e1;subst e3
  have hlt:g<w.heap.size:=(Array.getElem?_eq_some_iff.1 hg).1
  have hF:(flat ys).length=l.length*2:=by rw [aX,hy]
  refine⟨by rw [hy];exact hF,.inr ⟨g,cap,putCells id 0 (flat ys).toArray cur,by rw [hy],hb, ?_,by rw [hy];exact hn,hm,by simpa [putCells]using hs, ?_⟩⟩
  ·unfold sortWorldK putRowK
   rw [Gy,heap_grow_old _ _ (by simpa using hlt)]
   simp [putRow,mapBlock,Sort.ahead,Array.getElem?_modify,hg,onCells]
  ·rw [hy]
   apply List.ext_getElem?
   intro j
   rw [List.getElem?_take,Array.getElem?_toList]
   by_cases hj:j<l.length*2
   ·have hjc:j<cur.size:=by rw [hs];omega
    have hjF:j<(flat ys).length:=by omega
    simp only [if_pos hj,putCells,Array.getElem?_mapIdx,Array.getElem?_eq_getElem hjc,Option.map_some]
    rw [if_pos (by simp;omega),List.getElem?_eq_getElem hjF]
    simp [hjF]
   ·rw [if_neg hj,List.getElem?_eq_none (by omega)]
theorem Vk{w w1:World}{g n:Nat}{ys:Array (Int×Int)}{os:Array Obj}(hB:Below w.heap.size w w1)(hg:w.heap.size<=g):Below w.heap.size w (sortWorldK enc 2 w1 g 0 n ys os):=by
 have h1:Below w.heap.size w (putRowK enc 2 (Sort.ahead w1 n) g 0 ys):=Lib.below_putRow hB hg
 refine⟨h1.os,h1.tape,h1.output,Nat.le_trans h1.size (by simp [sortWorldK,grow]),fun k hk=> ?_⟩
 rw [←h1.block k hk]
 exact heap_grow_old _ _ (Nat.lt_of_lt_of_le hk h1.size)
theorem Yc:∀x:Int×Int,∀v∈enc x,v.oneCell'=true:=by
 intro x v hv
 simp [enc]at hv
 rcases hv with rfl|rfl <;> rfl
end Ev
theorem AX(a b c d r:Int)(W:World)(HC:Hid (∀W:World,Calls Tryo.prog 184 #[.int .i64 b,.int .i64 d] W fun e w'=>e= .returned (.int .i64 r)/\w'=W))(h:(r !=0)=true):
  Calls Tryo.prog 113 #[.agg #[.int .i64 a,.int .i64 b],.agg #[.int .i64 c,.int .i64 d]] W fun e w'=>e= .returned (.int .i64 r)/\∃q os',w'=grow (W.drewN q) os':=by
 go_enter Tryo.func113,Tryz.ntmps113
 go_wp2_with fail
 refine(HC.out _).mono ?_
 rintro e w' ⟨rfl,rfl⟩
 go_wp2_with fail
 go_ret
 exact⟨rfl,0,_,by rw [alloc_eq_grow,alloc_eq_grow,grow_grow];rfl⟩
theorem BD(a b c d r:Int)(W:World)(HC:Hid (∀W:World,Calls Tryo.prog 184 #[.int .i64 b,.int .i64 d] W fun e w'=>e= .returned (.int .i64 0)/\w'=W))(HK:Hid (∀W:World,Calls Tryo.prog 184 #[.int .i64 a,.int .i64 c] W fun e w'=>e= .returned (.int .i64 r)/\w'=W)):
  Calls Tryo.prog 113 #[.agg #[.int .i64 a,.int .i64 b],.agg #[.int .i64 c,.int .i64 d]] W fun e w'=>e= .returned (.int .i64 r)/\∃q os',w'=grow (W.drewN q) os':=by
 go_enter Tryo.func113,Tryz.ntmps113
 go_wp2_with fail
 refine(HC.out _).mono ?_
 rintro e w' ⟨rfl,rfl⟩
 go_wp2_with fail
 refine(HK.out _).mono ?_
 rintro e w' ⟨rfl,rfl⟩
 go_wp2_with fail
 go_ret
 exact⟨rfl,0,_,by rw [alloc_eq_grow,alloc_eq_grow,grow_grow];rfl⟩
theorem Je(x y:Int×Int)(W:World):Calls Tryo.prog 113 #[.agg #[.int .i64 x.1,.int .i64 x.2],.agg #[.int .i64 y.1,.int .i64 y.2]] W fun e w'=>e= .returned (.int .i64 (Ev.cf x y))/\∃q os',w'=grow (W.drewN q) os':=by
 obtain⟨a,b⟩:=x
 obtain⟨c,d⟩:=y
 have hc:=fun(p q:Int)=>Lib.hid (fun W:World=>Tryz.cmp_Compare_int p q W)
 unfold Ev.cf
 dsimp only
 have H1:=hc b d
 have H2:=hc a c
 clear hc
 generalize Lib.compareInt a c=r2 at*
 by_cases h:Lib.compareInt b d=0
 ·rw [if_pos h]
  rw [h]at H1
  exact BD a b c d r2 W H1 H2
 ·rw [if_neg h]
  exact AX a b c d _ W H1 (by simpa using h)
theorem Jt(blk off size:Nat)(w:World):CmpLays Tryo.prog 113 #[] Ev.enc 2 Ev.cf blk off size w:=
 fun _ _ _ _ x y=>Je x y _
theorem jR(v:Value)(l:List (Int×Int))(w:World)(h:Ev.Row w v l)(hl:l.length<=100000):
  Calls Tryo.prog 42 #[v] w fun e w'=>∃v',e= .returned v'/\Ev.Own w' w.heap.size v' (Ev.sort l)/\Below w.heap.size w w':=by
 rcases h with ⟨rfl,rfl⟩|⟨b,off,cap,rfl,hc⟩
 ·have h1:∀W:World,Calls Tryo.prog 111 #[.slice none 0 0] W fun e w'=>e= .returned (.slice none 0 0)/\w'=W:=fun W=>AnyE.slices_Clone_nil Tryz.RP 0 0 W
  have h2:∀W:World,Calls Tryo.prog 112 #[.slice none 0 0,.func (.func 113) #[] #[]] W fun e w'=>e= .returned (.tuple #[])/\w'=W:=fun W=>AnyF.slices_SortFunc_none Tryz.Uq none 0 (.func (.func 113) #[] #[]) W
  have H1:=Lib.hid h1
  have H2:=Lib.hid h2
  clear h1 h2
  go_enter Tryo.func42,Tryz.ntmps42
  go_wp2_with fail
  refine(H1.out _).mono ?_
  rintro e w' ⟨rfl,rfl⟩
  go_wp2_with fail
  refine(H2.out _).mono ?_
  rintro e w' ⟨rfl,rfl⟩
  go_wp2_with fail
  go_ret
  exact⟨_,rfl,Ev.Own.nil _ _,Below.refl _ _⟩
 ·obtain⟨i0,hi,hz0,hz1,hz2⟩:=info_parts bD
  have h1:Calls Tryo.prog 111 #[.slice (some ⟨b,off,none⟩) l.length cap] w fun e w'=>∃v',e= .returned v'/\w'.ownsRow w.heap.size 72 2 v' l.length (Ev.flat l)/\v'≠ .slice none 0 0/\Below w.heap.size w w':=
   AnyE.slices_Clone Tryz.RP i0 (.agg #[.int .i64 0,.int .i64 0]) 2 16 hi hz0 hz1 hz2 rfl (by decide) (aL (Tryo.sizeOf 72) Tryz.sizeOf72) b off l.length cap (Ev.flat l) w (Ev.aX l) (by simp only [maxLen];omega) (by omega) hc (Ev.fD l)
  have h2:∀ (v1:Value) (w1:World),Ev.Own w1 w.heap.size v1 l->v1≠ .slice none 0 0->Below w.heap.size w w1->Calls Tryo.prog 112 #[v1,.func (.func 113) #[] #[]] w1 fun e w'=>e= .returned (.tuple #[])/\Ev.Own w' w.heap.size v1 (Ev.sort l)/\Below w.heap.size w w':=by
   intro v1 w1 ho hv hB
   obtain⟨g,cap1,rfl,hg1,hg2,hH⟩:=ho.form hv
   have h3:Calls Tryo.prog 112 #[.slice (some ⟨g,0,none⟩) l.toArray.size cap1,.func (.func 113) #[] #[]] w1 fun e w'=>e= .returned (.tuple #[])/\∃n os,w'=sortWorldK Ev.enc 2 w1 g 0 n (l.toArray.toList.mergeSort fun x y=> !(ltOf Ev.cf) y x).toArray os:=
    AnyQ.slices_SortFunc_total Tryz.Uq 2 (aL (Tryo.isAgg 72) Tryz.isAgg72) (aL (Tryo.sizeOf 72) Tryz.sizeOf72) Ev.enc (fun _=>rfl) Ev.Yc Ev.cf Ev.swo 113 #[] g 0 cap1 l.toArray w1 (enters_of Tryo.func113 (by kernel_rfl) rfl) (Jt g 0 _ w1) hH hg2 (by simp;omega) Ev.tot
   rw [List.size_toArray]at h3
   refine h3.mono ?_
   rintro e w' ⟨he,n,os,rfl⟩
   rw [show l.toArray.toList=l from rfl,Ev.Xw]
   exact⟨he,Ev.YG ho (Ev.lD l).length_eq,Ev.Vk hB hg1⟩
  have H1:=Lib.hid h1
  have H2:=Lib.hid h2
  clear h1 h2 hc hi hz0 hz1 hz2
  go_enter Tryo.func42,Tryz.ntmps42
  go_wp2_with fail
  refine H1.out.mono ?_
  rintro e w1 ⟨v1,rfl,ho,hne,hB1⟩
  go_wp2_with fail
  refine(H2.out _ _ ho hne hB1).mono ?_
  rintro e w2 ⟨rfl,ho2,hB2⟩
  go_wp2_with fail
  go_ret
  exact⟨_,rfl,ho2,hB2⟩
end
section
open Go.ChangeShapes Go.WideShapes Go.ChangeAt Go.RowKit Go.Lib Go.Sort Go.Shelf
theorem bL{P:Program}{w:World}{ops:Array Oper}{o:Oper}{a:Act}{K:Act->World->Prop}{Q:Exit->Act->World->Prop}{E:Prop}(hgd:o.guard=none)(s x:Operand)(t:TypeId)
  (ho:o.op= .call {callee:= .builtin .append,args:= #[s,x],argTypes:= #[t,t]})
  (base:Nat) (e:TypeId) (i:TypeInfo) (z:Value) (size bytes:Nat) (ht:P.underlying t=some (.slice e)) (hi:P.info? e=some i) (hz:i.zero=some z)
  (hsize:i.size=size) (hby:i.bytes=bytes) (hzs:z.cells.size=size) (hsz:0<size)
  (v:Value) (n:Nat) (xs:List Value) (hs:a.eval s=v) (hown:w.ownsRow base e size v n xs)
  (ad:Addr) (m c:Nat) (news:List Value) (hx:a.eval x= .slice (some ad) m c) (hl:news.length=m*size) (hnews:∀j u,news[j]? =some u->w.cell? (ad.add j)=some u) (h1:∀u∈news,u.oneCell'=true)
  (h63:n+m<=maxLen) (hbytes:(n+m)*bytes<=140737488355328) (hbase:base<=w.heap.size)
  (h:∀v' w',w'.ownsRow base e size v' (n+m) (xs++news)->w.grownBy w' v.ownBlock->(v'.ownBlock=v.ownBlock∨v'.ownBlock=some w.heap.size)->K (a.put o.dst v') w'):
  if Region.wanted o (yielded ops a.tmps)=true then Oper.wp P o a w K Q else E:=by
 have hw:Region.wanted o (yielded ops a.tmps)=true:=by simp [Region.wanted,hgd]
 rw [if_pos hw]
 obtain⟨v',w',hr,h2,h3,_,h5⟩:=run_append_own_at (P:=P) w base t o.type e i z size bytes ht hi hz hsize hby hzs hsz v n xs hown ad m c news hl hnews h1 h63 hbytes hbase
 unfold Oper.wp execOp
 simp only [ho,resolve,invoke,builtin,Sem.run_bind,Sem.run_pure,Result.andThen_ok,List.map_toArray,List.map_cons,List.map_nil,hs,hx,hr]
 exact h v' w' h2 h3 h5
namespace Ev
theorem Yy{S:List (Int×Int)}(h:Srt S){i j:Nat}(hij:i<j)(hj:j<S.length):lt S[j] S[i]=false:=List.pairwise_iff_getElem.1 h i j (by omega) hj hij
theorem LD{S:List (Int×Int)}{x:Int×Int}{p:Nat}(hp:p<=S.length)(h:Srt S)(h1:∀j y,p<=j->S[j]? =some y->lt x y=true)(h2:∀y,p≠0->S[p-1]? =some y->lt x y=false):
  Srt (S.take p++x :: S.drop p)/\(S.take p++x :: S.drop p).Perm (x :: S):=by
 have hs:=h
 unfold Srt at hs
 rw [←List.take_append_drop p S,List.pairwise_append]at hs
 obtain⟨a1,a2,a3⟩:=hs
 refine⟨List.pairwise_append.2 ⟨a1,List.pairwise_cons.2 ⟨fun y hy=> ?_,a2⟩,fun a ha b hb=> ?_⟩, ?_⟩
 ·obtain⟨j,hj,e⟩:=List.getElem_of_mem hy
  rw [List.getElem_drop]at e
  have:=h1 (p+j) y (by omega) (by rw [←e];exact List.getElem?_eq_getElem _)
  rw [lt_iff]at this
  rw [nK];omega
 ·rcases List.mem_cons.1 hb with rfl|hb
  ·obtain⟨i,hi,e⟩:=List.getElem_of_mem ha
   rw [List.length_take]at hi
   rw [List.getElem_take]at e
   have hlt:p-1<S.length:=by omega
   have g2:=h2 S[p-1] (by omega) (List.getElem?_eq_getElem hlt)
   rcases Nat.lt_or_ge i (p-1)with c|c
   ·have g:=Yy h c hlt
    rw [e]at g
    rw [nK]at g g2⊢
    omega
   ·have:i=p-1:=by omega
    subst this
    rw [←e];exact g2
  ·exact a3 a ha b hb
 ·refine List.perm_middle.trans ?_
  rw [List.take_append_drop]
theorem FB{w:World}{B g cap:Nat}{l:List (Int×Int)}(h:Own w B (.slice (some ⟨g,0,none⟩) l.length cap) l)(p:Nat)(hp:p<=l.length):Own w B (.slice (some ⟨g,0,none⟩) p cap) (l.take p):=by
 have hl:(l.take p).length=p:=by rw [List.length_take];omega
 unfold Own
 rw [hl]
 rcases h.2 with ⟨e0,_⟩|⟨g',cap',cur,e0,hb,hg,hn,hm,hs,ht⟩
 ·cases e0
 ·injection e0 with e1 _ e3
  injection e1 with e1
  injection e1 with e1
  subst e1;subst e3
  refine⟨by rw [aX,hl],.inr ⟨g,cap,cur,rfl,hb,hg,by omega,hm,hs, ?_⟩⟩
  have e:flat l=flat (l.take p)++flat (l.drop p):=by rw [←iq,List.take_append_drop]
  have:=congrArg (List.take (p*2)) ht
  rw [List.take_take,show min (p*2) (l.length*2)=p*2 by omega,e,List.take_append_of_le_length (by rw [aX,hl];omega),show List.take (p*2) (flat (l.take p))=flat (l.take p)from List.take_of_length_le (by rw [aX,hl];omega)]at this
  exact this
theorem AO(l:List (Int×Int))(p j:Nat)(u:Value)(hp:p<=l.length)(h:(flat (l.drop p))[j]? =some u):(flat l)[p*2+j]? =some u:=by
 have e:flat l=flat (l.take p)++flat (l.drop p):=by rw [←iq,List.take_append_drop]
 have hl:(flat (l.take p)).length=p*2:=by rw [aX,List.length_take];omega
 rw [e,List.getElem?_append_right (by omega),hl,Nat.add_sub_cancel_left]
 exact h
end Ev
theorem Dv(a b c d:Int)(w:World)(h:b<d):
  Calls Tryo.prog 124 #[.agg #[.int .i64 a,.int .i64 b],.agg #[.int .i64 c,.int .i64 d]] w fun e w'=>e= .returned (.bool true)/\Below w.heap.size w w':=by
 go_enter Tryo.func124,Tryz.ntmps124
 go_wp2_with fail
 go_ret
 exact⟨rfl,baa (ba _ _) _⟩
theorem DX(a b c d:Int)(w:World)(h:¬ b<d)(h2:(b==d)=false):
  Calls Tryo.prog 124 #[.agg #[.int .i64 a,.int .i64 b],.agg #[.int .i64 c,.int .i64 d]] w fun e w'=>e= .returned (.bool false)/\Below w.heap.size w w':=by
 go_enter Tryo.func124,Tryz.ntmps124
 go_wp2_with fail
 go_ret
 exact⟨rfl,baa (ba _ _) _⟩
theorem Dr(a b c:Int)(w:World)(h:a<c):
  Calls Tryo.prog 124 #[.agg #[.int .i64 a,.int .i64 b],.agg #[.int .i64 c,.int .i64 b]] w fun e w'=>e= .returned (.bool true)/\Below w.heap.size w w':=by
 go_enter Tryo.func124,Tryz.ntmps124
 go_wp2_with fail
 go_ret
 exact⟨rfl,baa (ba _ _) _⟩
theorem DK(a b c:Int)(w:World)(h:¬ a<c):
  Calls Tryo.prog 124 #[.agg #[.int .i64 a,.int .i64 b],.agg #[.int .i64 c,.int .i64 b]] w fun e w'=>e= .returned (.bool false)/\Below w.heap.size w w':=by
 go_enter Tryo.func124,Tryz.ntmps124
 go_wp2_with fail
 go_ret
 exact⟨rfl,baa (ba _ _) _⟩
theorem Lj(a b c d:Int)(w:World):Calls Tryo.prog 124 #[.agg #[.int .i64 a,.int .i64 b],.agg #[.int .i64 c,.int .i64 d]] w fun e w'=>e= .returned (.bool (Ev.lt (a,b) (c,d)))/\Below w.heap.size w w':=by
 rcases Int.lt_trichotomy b d with h|rfl|h
 ·rw [(Ev.lt_iff (a,b) (c,d)).2 (.inl h)];exact Dv a b c d w h
 ·by_cases g:a<c
  ·rw [(Ev.lt_iff (a,b) (c,b)).2 (.inr ⟨rfl,g⟩)];exact Dr a b c w g
  ·rw [(Ev.nK (a,b) (c,b)).2 (by simp;omega)];exact DK a b c w g
 ·rw [(Ev.nK (a,b) (c,d)).2 (by simp;omega)];exact DX a b c d w (by omega) (by rw [beq_eq_false_iff_ne];omega)
theorem bJ(y n d:Int)(w:World)(hy:I64 y):Calls Tryo.prog 99 #[.int .i64 y,.int .i64 n,.int .i64 d] w fun e w'=>e= .returned (.int .i64 (D10.aC y n false d))/\Below w.heap.size w w':=by
 have HC:=Lib.hid (fun w=>Pv y n false d w hy)
 generalize D10.aC y n false d=v at*
 generalize D10.bO y n false d=e at*
 go_enter Tryo.func99,Tryz.ntmps99
 go_wp2_with fail
 refine(HC.out _).mono ?_
 rintro e w1 ⟨rfl,hb1⟩
 obtain⟨hc1,hf1⟩:=aA hb1
 have hz1:=hb1.size
 try simp at hz1
 go_wp2_with fail
 go_ret
 exact⟨rfl,hb1⟩
theorem Jo(p q:Option Addr)(n m c d:Nat)(w:World)(h:((n:Int)!=(m:Int))=true):
  Calls Tryo.prog 13 #[.slice p n c,.slice q m d] w fun e w'=>e= .returned (.bool false)/\Below w.heap.size w w':=by
 go_enter Tryo.func13,Tryz.ntmps13
 go_wp2_with fail
 go_ret
 exact⟨rfl,Below.refl _ _⟩
theorem Dc(p q:Option Addr)(c d:Nat)(w:World):
  Calls Tryo.prog 13 #[.slice p 0 c,.slice q 0 d] w fun e w'=>e= .returned (.bool true)/\Below w.heap.size w w':=by
 go_enter Tryo.func13,Tryz.ntmps13
 go_wp2_with fail
 go_loopw [5] (fun i wr=>i= .int .i64 0/\wr=w) (fun _ _=>0)
 case atStart=>exact⟨rfl,rfl⟩
 case round=>
  obtain⟨rfl,rfl⟩:=hrel
  go_wp2_with fail
  go_ret
  exact⟨rfl,Below.refl _ _⟩
theorem Hw(b1 o1 c1 b2 o2 c2 n:Nat)(l m:List (Int×Int))(w:World)(hn:n<=100000)(hl:l.length=n)(hm:m.length=n)
  (H1:Hid (∀j u,(Ev.flat l)[j]? =some u->w.cell? ⟨b1,o1+j,none⟩=some u)) (H2:Hid (∀j u,(Ev.flat m)[j]? =some u->w.cell? ⟨b2,o2+j,none⟩=some u)) (vv:Bool) (HV:Hid (vv=decide (l=m))):
  Calls Tryo.prog 13 #[.slice (some ⟨b1,o1,none⟩) n c1,.slice (some ⟨b2,o2,none⟩) n c2] w fun e w'=>e= .returned (.bool vv)/\Below w.heap.size w w':=by
 go_enter Tryo.func13,Tryz.ntmps13
 go_wp2_with fail
 go_loopw [5] (fun i wr=>∃k:Nat,k<=n/\i= .int .i64 (k:Int)/\Hid (∀j,j<k->l[j]? =m[j]?)/\Below w.heap.size w wr) (fun i _=>n-(intOf i).toNat)
 case atStart=>exact⟨0,Nat.zero_le _,rfl,Lib.hid (fun j hj=>absurd hj (Nat.not_lt_zero _)),Below.refl _ _⟩
 case round=>
  obtain⟨k,hk,rfl,HE,hB⟩:=hrel
  by_cases hlt:k<n
  ·obtain⟨x,hx⟩:∃x,l[k]? =some x:=⟨_,List.getElem?_eq_getElem (by omega)⟩
   obtain⟨y,hy⟩:∃y,m[k]? =some y:=⟨_,List.getElem?_eq_getElem (by omega)⟩
   obtain⟨cx1,cx2⟩:=Ev.dW (w:=wr) (fun j u hj=>(hB.cell (World.block_lt_of_cell? w _ (H1.out j u hj))).trans (H1.out j u hj)) k x hx
   obtain⟨cy1,cy2⟩:=Ev.dW (w:=wr) (fun j u hj=>(hB.cell (World.block_lt_of_cell? w _ (H2.out j u hj))).trans (H2.out j u hj)) k y hy
   have lx:=World.block_lt_of_cell? wr _ cx1
   have ly:=World.block_lt_of_cell? wr _ cy1
   dsimp only at lx ly
   have k0:(0:Int)<=(k:Int):=by omega
   have k1:(k:Int)<(n:Int):=by omega
   obtain⟨x1,x2⟩:=x
   obtain⟨y1,y2⟩:=y
   dsimp only at cx1 cx2 cy1 cy2
   have HXY:=Lib.hid (And.intro hx hy)
   have HL:=Lib.hid (And.intro hl hm)
   clear hx hy hl hm
   by_cases e:x1=y1/\x2=y2
   ·obtain⟨rfl,rfl⟩:=e
    go_wp2_with fail
    refine aJ (by kernel_rfl) (by kernel_rfl) (fun hall=> ?_)
    repeat(first|go_big_quiet_skip|(go_big_quiet_want;first|(refine ql1 _ _ _ rfl rfl ?_;apply Exists.intro;refine⟨?_, ?_⟩;assumption;go_simp;go_big_quiet_on)|(refine ql2 _ _ _ _ rfl rfl ?_;apply Exists.intro;apply Exists.intro;refine⟨?_, ?_, ?_⟩;assumption;assumption;go_simp;go_big_quiet_on)|(refine ql3 _ _ _ _ rfl rfl ?_;apply Exists.intro;apply Exists.intro;apply Exists.intro;refine⟨?_, ?_, ?_, ?_⟩;assumption;assumption;assumption;go_simp;go_big_quiet_on)|(refine ql4 _ _ _ _ rfl rfl ?_;apply Exists.intro;apply Exists.intro;apply Exists.intro;apply Exists.intro;refine⟨?_, ?_, ?_, ?_, ?_⟩;assumption;assumption;assumption;assumption;go_simp;go_big_quiet_on)|(go_big_quiet_op;first|go_big_quiet_on|(apply Exists.intro;refine⟨fun x hx=> ?_, ?_⟩;(first|fail);go_big_quiet_on))))
    refine wpQuiet_nil ?_
    clear hall
    intro x6 hx6
    go_wp2_with fail
    go_roundw
    case rel=>exact⟨k+1,by omega,by go_num,Lib.hid (fun j hj=>by
      rcases Nat.lt_or_ge j k with c|c
      ·exact HE.out j c
      ·obtain rfl:j=k:=by omega
       rw [HXY.out.1,HXY.out.2]),bt hB hx6⟩
    case measure=>simp [intOf];omega
   ·have ev:vv=false:=by
     rw [HV.out,decide_eq_false]
     rintro rfl
     have:=HXY.out.1.symm.trans HXY.out.2
     simp only [Option.some.injEq,Prod.mk.injEq]at this
     exact e this
    subst ev
    have hne:((x1==y1)&&(x2==y2))=false:=by
     rw [Bool.and_eq_false_iff,beq_eq_false_iff_ne,beq_eq_false_iff_ne]
     rcases Decidable.em (x1=y1)with c|c
     ·exact .inr (fun c2=>e ⟨c,c2⟩)
     ·exact .inl c
    rcases Decidable.em (x1=y1)with c|c
    ·subst c
     have c2:(x2==y2)=false:=by rw [beq_eq_false_iff_ne];exact fun c2=>e ⟨rfl,c2⟩
     clear e hne
     go_wp2_with fail
     refine aJ (by kernel_rfl) (by kernel_rfl) (fun hall=> ?_)
     repeat(first|go_big_quiet_skip|(go_big_quiet_want;first|(refine ql1 _ _ _ rfl rfl ?_;apply Exists.intro;refine⟨?_, ?_⟩;assumption;go_simp;go_big_quiet_on)|(refine ql2 _ _ _ _ rfl rfl ?_;apply Exists.intro;apply Exists.intro;refine⟨?_, ?_, ?_⟩;assumption;assumption;go_simp;go_big_quiet_on)|(refine ql3 _ _ _ _ rfl rfl ?_;apply Exists.intro;apply Exists.intro;apply Exists.intro;refine⟨?_, ?_, ?_, ?_⟩;assumption;assumption;assumption;go_simp;go_big_quiet_on)|(refine ql4 _ _ _ _ rfl rfl ?_;apply Exists.intro;apply Exists.intro;apply Exists.intro;apply Exists.intro;refine⟨?_, ?_, ?_, ?_, ?_⟩;assumption;assumption;assumption;assumption;go_simp;go_big_quiet_on)|(go_big_quiet_op;first|go_big_quiet_on|(apply Exists.intro;refine⟨fun x hx=> ?_, ?_⟩;(first|fail);go_big_quiet_on))))
     refine wpQuiet_nil ?_
     clear hall
     intro x6 hx6
     go_wp2_with fail
     go_ret
     exact⟨rfl,bt hB hx6⟩
    ·have c2:(x1==y1)=false:=by rw [beq_eq_false_iff_ne];exact c
     clear e hne c
     go_wp2_with fail
     refine aJ (by kernel_rfl) (by kernel_rfl) (fun hall=> ?_)
     repeat(first|go_big_quiet_skip|(go_big_quiet_want;first|(refine ql1 _ _ _ rfl rfl ?_;apply Exists.intro;refine⟨?_, ?_⟩;assumption;go_simp;go_big_quiet_on)|(refine ql2 _ _ _ _ rfl rfl ?_;apply Exists.intro;apply Exists.intro;refine⟨?_, ?_, ?_⟩;assumption;assumption;go_simp;go_big_quiet_on)|(refine ql3 _ _ _ _ rfl rfl ?_;apply Exists.intro;apply Exists.intro;apply Exists.intro;refine⟨?_, ?_, ?_, ?_⟩;assumption;assumption;assumption;go_simp;go_big_quiet_on)|(refine ql4 _ _ _ _ rfl rfl ?_;apply Exists.intro;apply Exists.intro;apply Exists.intro;apply Exists.intro;refine⟨?_, ?_, ?_, ?_, ?_⟩;assumption;assumption;assumption;assumption;go_simp;go_big_quiet_on)|(go_big_quiet_op;first|go_big_quiet_on|(apply Exists.intro;refine⟨fun x hx=> ?_, ?_⟩;(first|fail);go_big_quiet_on))))
     refine wpQuiet_nil ?_
     clear hall
     intro x6 hx6
     go_wp2_with fail
     go_ret
     exact⟨rfl,bt hB hx6⟩
  ·obtain rfl:k=n:=by omega
   have ev:vv=true:=by
    rw [HV.out,decide_eq_true]
    apply List.ext_getElem?
    intro j
    rcases Nat.lt_or_ge j k with c|c
    ·exact HE.out j c
    ·rw [List.getElem?_eq_none (by omega),List.getElem?_eq_none (by omega)]
   subst ev
   go_wp2_with fail
   go_ret
   exact⟨rfl,hB⟩
theorem SH(v c:Value)(l m:List (Int×Int))(w:World)(h:Ev.Row w v l)(h':Ev.Row w c m)(hl:l.length<=100000):
  Calls Tryo.prog 13 #[v,c] w fun e w'=>e= .returned (.bool (decide (l=m)))/\Below w.heap.size w w':=by
 by_cases hn:l.length=m.length
 ·by_cases h0:0<l.length
  ·obtain⟨b1,o1,c1,rfl,hc1⟩:=h.bH h0
   obtain⟨b2,o2,c2,rfl,hc2⟩:=h'.bH (by omega)
   rw [←hn]
   exact Hw b1 o1 c1 b2 o2 c2 l.length l m w hl rfl hn.symm (Lib.hid hc1) (Lib.hid hc2) _ (Lib.hid rfl)
  ·have e1:l= []:=List.eq_nil_of_length_eq_zero (by omega)
   have e2:m= []:=List.eq_nil_of_length_eq_zero (by omega)
   subst e1;subst e2
   obtain⟨p,c1,rfl⟩:=h.len
   obtain⟨q,c2,rfl⟩:=h'.len
   exact Dc p q c1 c2 w
 ·obtain⟨p,c1,rfl⟩:=h.len
  obtain⟨q,c2,rfl⟩:=h'.len
  rw [decide_eq_false (fun e=>hn (by rw [e]))]
  exact Jo p q _ _ c1 c2 w (by rw [bne_iff_ne];omega)
end
section
open Go.ChangeShapes Go.WideShapes Go.ChangeAt Go.RowKit Go.Lib Go.Sort Go.Shelf
theorem bK(w:World)(x1 x2:Int):∀j u,[Value.int .i64 x1,.int .i64 x2][j]? =some u->(w.alloc (.cells #[.int .i64 x1,.int .i64 x2] 72)).cell? ((⟨w.heap.size,0,none⟩:Addr).add j)=some u:=iF w #[.int .i64 x1,.int .i64 x2] 72 w.heap.size rfl
theorem dD(x1 x2:Int):∀u∈ [Value.int .i64 x1,.int .i64 x2],u.oneCell'=true:=Ev.fD [(x1,x2)]
theorem Ev.YU{w:World}{B n c:Nat}{a:Addr}{l:List (Int×Int)}{m:Nat}(h:w.ownsRow B 72 2 (.slice (some a) n c) m (Ev.flat l)):m<=c:=by
 rcases h.2 with ⟨e0,_⟩|⟨g,cap,cur,e0,hb,hg,hn,hm,hs,ht⟩
 ·cases e0
 ·injection e0 with _ _ e3
  subst e3
  exact hn
theorem Ev.Xm{w:World}{B n:Nat}{v:Value}{xs:List Value}(h:w.ownsRow B 72 2 v n xs)(hv:v≠ .slice none 0 0):∃g c,v= .slice (some ⟨g,0,none⟩) n c/\B<=g/\g<w.heap.size:=by
 rcases h.2 with ⟨e,_⟩|⟨g,cap,cur,e,hb,hg,_⟩
 ·exact absurd e hv
 ·exact⟨g,cap,e,hb,(Array.getElem?_eq_some_iff.1 hg).1⟩
theorem Ev.EU{w:World}{B p k:Nat}{v:Value}{S:List (Int×Int)}{x1 x2:Int}(hS:S.length=k)(hp:p<=k)(h:w.ownsRow B 72 2 v (p+1+(k-p)) (Ev.flat (S.take p)++ [.int .i64 x1,.int .i64 x2]++Ev.flat (S.drop p))):Ev.Own w B v (S.take p++(x1,x2) :: S.drop p):=by
 unfold Ev.Own
 have e:(S.take p++(x1,x2) :: S.drop p).length=p+1+(k-p):=by
  rw [List.length_append,List.length_take,List.length_cons,List.length_drop];omega
 rw [e,Ev.iq,show Ev.flat ((x1,x2) :: S.drop p)= [.int .i64 x1,.int .i64 x2]++Ev.flat (S.drop p)from rfl,←List.append_assoc]
 exact h
theorem sZ{l S S':List (Int×Int)}{k:Nat}{x:Int×Int}(hx:l[k]? =some x)(hp:S.Perm (l.take k))(h':S'.Perm (x :: S)):S'.Perm (l.take (k+1)):=by
 rw [List.take_add_one,hx]
 exact h'.trans ((hp.cons x).trans (List.perm_append_singleton x (l.take k)).symm)
theorem Ir (b off cap n:Nat) (l:List (Int×Int)) (w:World) (hn:n<=1000) (hl:l.length=n)
  (H1:Hid (∀j u,(Ev.flat l)[j]? =some u->w.cell? ⟨b,off+j,none⟩=some u)):
  Calls Tryo.prog 48 #[.slice (some ⟨b,off,none⟩) n cap] w fun e w'=>∃v',e= .returned v'/\Ev.Own w' w.heap.size v' (Ev.sort l)/\Below w.heap.size w w':=by
 obtain⟨i0,hi,hz0,hz1,hz2⟩:=info_parts bD
 go_enter Tryo.func48,Tryz.ntmps48
 go_wp2_with fail
 go_loopw [3,4] (fun v i wr=>∃ (k:Nat) (S:List (Int×Int)),k<=n/\i= .int .i64 (k:Int)/\Ev.Own wr w.heap.size v S/\Hid (Ev.Srt S/\S.Perm (l.take k))/\Hid (v= .slice none 0 0∨0<k)/\Below w.heap.size w wr) (fun _ i _=>n-(intOf i).toNat)
 case atStart=>exact⟨0,[],Nat.zero_le _,rfl,Ev.Own.nil _ _,Lib.hid ⟨List.Pairwise.nil,List.Perm.refl _⟩,Lib.hid (.inl rfl),Below.refl _ _⟩
 case round=>
  obtain⟨k,S,hk,rfl,HO,HS,HV,hB⟩:=hrel
  obtain⟨w1,rfl⟩:∃x,x=wr:=⟨_,rfl⟩
  have hL:S.length=k:=by
   have:=HS.out.2.length_eq
   rw [List.length_take]at this
   omega
  have hsz:=hB.size
  by_cases hlt:k<n
  ·have k0:(0:Int)<=(k:Int):=by omega
   have k1:(k:Int)<(n:Int):=by omega
   obtain⟨x,hx⟩:∃x,l[k]? =some x:=⟨_,List.getElem?_eq_getElem (by omega)⟩
   obtain⟨x1,x2⟩:=x
   have HCX:=Lib.hid (fun(W:World) (hW:Below w.heap.size w W)=>Ev.dW (w:=W) (fun j u hj=>(hW.cell (World.block_lt_of_cell? w _ (H1.out j u hj))).trans (H1.out j u hj)) k (x1,x2) hx)
   have HX:=Lib.hid hx
   clear hx
   by_cases hk0:k=0
   ·have hS:S= []:=List.eq_nil_of_length_eq_zero (by omega)
    subst hS
    rcases HV.out with rfl|h
    case inr=>omega
    clear hk0 hL
    go_wp2_with fail
    go_loopw [5] (fun a ws=>a= .int .i64 0/\ws=w1) (fun _ _=>0)
    case atStart=>exact⟨rfl,rfl⟩
    case round=>
     obtain⟨rfl,rfl⟩:=hrel
     go_wp2_with fail
     refine aJ (by kernel_rfl) (by kernel_rfl) (fun hall=> ?_)
     repeat(first|go_big_quiet_skip|(go_big_quiet_want;first|(refine ql1 _ _ _ rfl rfl ?_;apply Exists.intro;refine⟨?_, ?_⟩;assumption;go_simp;go_big_quiet_on)|(refine ql2 _ _ _ _ rfl rfl ?_;apply Exists.intro;apply Exists.intro;refine⟨?_, ?_, ?_⟩;assumption;assumption;go_simp;go_big_quiet_on)|(refine ql3 _ _ _ _ rfl rfl ?_;apply Exists.intro;apply Exists.intro;apply Exists.intro;refine⟨?_, ?_, ?_, ?_⟩;assumption;assumption;assumption;go_simp;go_big_quiet_on)|(refine ql4 _ _ _ _ rfl rfl ?_;apply Exists.intro;apply Exists.intro;apply Exists.intro;apply Exists.intro;refine⟨?_, ?_, ?_, ?_, ?_⟩;assumption;assumption;assumption;assumption;go_simp;go_big_quiet_on)|(go_big_quiet_op;first|go_big_quiet_on|(apply Exists.intro;refine⟨fun x hx=> ?_, ?_⟩;(first|fail);go_big_quiet_on))))
     refine wpQuiet_nil ?_
     clear hall
     intro x6 hx6
     go_wp2_with fail
     refine settle (fun W=>W.cell? ⟨b,off+k*2,none⟩=some (.int .i64 x1)/\W.cell? ⟨b,off+k*2+1,none⟩=some (.int .i64 x2)/\w.heap.size<=W.heap.size/\Below w.heap.size w W) ⟨(HCX.out _ (baa (bt hB hx6) _)).1,(HCX.out _ (baa (bt hB hx6) _)).2,(baa (bt hB hx6) _).size,baa (bt hB hx6) _⟩ ?_
     rintro W9 ⟨c1,c2,hs9,hB9⟩
     go_region_law (first
      |(refine bL rfl (.tmp 38) (.tmp 43) 38 rfl w.heap.size 72 i0 (.agg #[.int .i64 0,.int .i64 0]) 2 16 (aI Tryz.underlying38) hi hz0 hz1 hz2 rfl (by decide) (.slice none 0 0) 0 [] rfl (World.ownsRow_nil _ _ _ _) _ 1 1 [.int .i64 x1,.int .i64 x2] rfl (by first|rfl|(exact HD.out)|(simp [Ev.aX];done)|(simp [Ev.aX];omega)) (bK _ x1 x2) (dD x1 x2) (by simp only [maxLen];omega) (by omega) (by first|assumption|(simp;omega)|omega) ?_;intro v7 w7 hown7 hgrow7 hblk7)
      |(refine bL rfl (.tmp 44) (.tmp 45) 38 rfl w.heap.size 72 i0 (.agg #[.int .i64 0,.int .i64 0]) 2 16 (aI Tryz.underlying38) hi hz0 hz1 hz2 rfl (by decide) v7 1 ([]++ [.int .i64 x1,.int .i64 x2]) rfl hown7 _ 0 0 [] rfl (by first|rfl|(exact HD.out)|(simp [Ev.aX];done)|(simp [Ev.aX];omega)) (by simp) (by simp) (by simp only [maxLen];omega) (by omega) (by have h9:=hgrow7.size;simp at h9;omega) ?_;intro v8 w8 hown8 hgrow8 hblk8))
     all_goals go_wp2_with fail
     all_goals go_roundw
     case rel=>
      have hb8:Below w.heap.size w w8:=aB (aB (bU (baa hB9 _)) hgrow7 (by intro k e;cases e)) hgrow8 (fun k e=>(hown7.lt k e).1)
      exact⟨k+1,[(x1,x2)],by omega,by go_num,hown8,Lib.hid ⟨List.pairwise_singleton _ _,sZ HX.out HS.out.2 (List.Perm.refl _)⟩,Lib.hid (.inr (by omega)),hb8⟩
     case measure=>simp [intOf];omega
   ·obtain⟨g,cap1,hv,hg1,hg2⟩:=World.ownsRow.form HO (by omega)
    rw [hL]at hv
    subst hv
    have HOL:=Lib.hid (show Ev.Own w1 w.heap.size (.slice (some ⟨g,0,none⟩) S.length cap1) S by rw [hL];exact HO)
    have HL:=Lib.hid hL
    have hcp:k<=cap1:=by have:=Ev.YU HO;omega
    clear HO hL
    go_wp2_with fail
    go_loopw [5] (fun a ws=>∃p:Nat,p<=k/\a= .int .i64 (p:Int)/\Hid (∀j y,p<=j->S[j]? =some y->Ev.lt (x1,x2) y=true)/\Below w1.heap.size w1 ws) (fun a _=>(intOf a).toNat)
    case atStart=>exact⟨k,Nat.le_refl _,rfl,Lib.hid (fun j y hj hy=>by rw [List.getElem?_eq_none (by have:=HL.out;omega)]at hy;cases hy),Below.refl _ _⟩
    case round=>
     obtain⟨p,hp,rfl,HP,hBs⟩:=hrel
     have hBw:=bt hB hBs
     obtain⟨cx1,cx2⟩:=HCX.out _ hBw
     have lx:=World.block_lt_of_cell? _ _ cx1
     dsimp only at lx
     by_cases hp0:p=0
     ·subst hp0
      have p2:(k:Int)<=(cap1:Int):=by omega
      go_wp2_with fail
      refine aJ (by kernel_rfl) (by kernel_rfl) (fun hall=> ?_)
      repeat(first|go_big_quiet_skip|(go_big_quiet_want;first|(refine ql1 _ _ _ rfl rfl ?_;apply Exists.intro;refine⟨?_, ?_⟩;assumption;go_simp;go_big_quiet_on)|(refine ql2 _ _ _ _ rfl rfl ?_;apply Exists.intro;apply Exists.intro;refine⟨?_, ?_, ?_⟩;assumption;assumption;go_simp;go_big_quiet_on)|(refine ql3 _ _ _ _ rfl rfl ?_;apply Exists.intro;apply Exists.intro;apply Exists.intro;refine⟨?_, ?_, ?_, ?_⟩;assumption;assumption;assumption;go_simp;go_big_quiet_on)|(refine ql4 _ _ _ _ rfl rfl ?_;apply Exists.intro;apply Exists.intro;apply Exists.intro;apply Exists.intro;refine⟨?_, ?_, ?_, ?_, ?_⟩;assumption;assumption;assumption;assumption;go_simp;go_big_quiet_on)|(go_big_quiet_op;first|go_big_quiet_on|(apply Exists.intro;refine⟨fun x hx=> ?_, ?_⟩;(first|fail);go_big_quiet_on))))
      refine wpQuiet_nil ?_
      clear hall
      intro x6 hx6
      have hBx:=bt hBs hx6
      have hbx:=bt hB hBx
      have HX6:=HOL.out.below hBx
      have hgx:g<x6.heap.size:=by have:=hBx.size;omega
      have HD:Hid ((Ev.flat (S.drop 0)).length=(k-0)*2):=Lib.hid (by rw [Ev.aX,List.length_drop,HL.out];try omega)
      have HZ:Hid (cap1<=0->Ev.flat (S.drop 0)= []):=Lib.hid (fun h=>by rw [List.drop_eq_nil_of_le (by rw [HL.out];omega)];rfl)
      have HN:Hid (∀j u,(Ev.flat (S.drop 0))[j]? =some u->(x6.alloc (.cells #[] 72)).cell? ((⟨g,0*2,none⟩:Addr).add j)=some u):=Lib.hid (fun j u hj=>by
       rw [Addr.add_lit]
       refine Lib.cell?_alloc_some _ ?_
       have:=World.ownsRow.cells HX6 rfl (0*2+j) u (Ev.AO S 0 j u (by rw [HL.out];omega) hj)
       rw [Addr.add_lit,Nat.zero_add]at this
       exact this)
      go_wp2_with (at_builtin;refine wpList_append_own_at _ rfl (.tmp 31) (.tmp 34) 38 rfl x6.heap.size 72 i0 (.agg #[.int .i64 0,.int .i64 0]) 2 16 (aI Tryz.underlying38) hi hz0 hz1 hz2 rfl (by decide) _ 0 [] rfl (World.ownsRow_made x6 #[] 0 (Nat.le_refl _) (Nat.zero_le _) (by simp)) _ _ _ (Ev.flat (S.drop 0)) rfl (by first|exact HD.out|(rw [HD.out];done)) (by first|exact HN.out|exact(fun j u hj=>absurd hj (by rw [HZ.out (by omega)];simp))) (Ev.fD _) (by simp only [maxLen];omega) (by omega) (by simp) ?_;intro v6 w6 hown6 hgrow6 hnil6 hblk6)
      all_goals(
       have hv6:v6≠ .slice none 0 0:=fun e=>by have:=(hnil6.1 e).1;cases this
       obtain⟨g6,cap6,rfl,hg6,hg7⟩:=Ev.Xm hown6 hv6
       simp only [Nat.zero_add,List.nil_append]at hown6 hnil6 hblk6⊢
       have hb6:Below w.heap.size w w6:=aB (baa hbx _) hgrow6 (fun k e=>by cases e;exact hbx.size)
       have hk6:Ev.Own w6 w.heap.size (.slice (some ⟨g,0,none⟩) S.length cap1) S:=(World.ownsRow.alloc HX6 _).kept hgrow6 (.inr (fun e=>by have e2:g=x6.heap.size:=Option.some.inj e;omega))
       refine settle (fun W=>W.cell? ⟨b,off+k*2,none⟩=some (.int .i64 x1)/\W.cell? ⟨b,off+k*2+1,none⟩=some (.int .i64 x2)/\w.heap.size<=W.heap.size/\Below w.heap.size w W/\W.ownsRow w.heap.size 72 2 (.slice (some ⟨g,0,none⟩) 0 cap1) 0 (Ev.flat (S.take 0))/\W.ownsRow x6.heap.size 72 2 (.slice (some ⟨g6,0,none⟩) (k-0) cap6) (k-0) (Ev.flat (S.drop 0))) ⟨(HCX.out _ hb6).1,(HCX.out _ hb6).2,hb6.size,hb6, ?_,hown6⟩ ?_
       ·have:=Ev.FB hk6 0 (by rw [HL.out];omega)
        unfold Ev.Own at this
        rwa [List.length_take,HL.out,show min 0 k=0 by omega]at this
       rintro W9 ⟨c1,c2,hs9,hB9,HOP,hr9⟩
       have hne:g6≠g:=by omega
       clear hnil6 hv6 hblk6 hgrow6 hown6 hb6 hk6 hg7
       go_region_law (first
        |(refine bL rfl (.tmp 38) (.tmp 43) 38 rfl w.heap.size 72 i0 (.agg #[.int .i64 0,.int .i64 0]) 2 16 (aI Tryz.underlying38) hi hz0 hz1 hz2 rfl (by decide) (.slice (some ⟨g,0,none⟩) 0 cap1) 0 (Ev.flat (S.take 0)) rfl (HOP.alloc _) _ 1 1 [.int .i64 x1,.int .i64 x2] rfl (by first|rfl|(exact HD.out)|(simp [Ev.aX];done)|(simp [Ev.aX];omega)) (bK _ x1 x2) (dD x1 x2) (by simp only [maxLen];omega) (by omega) (by first|assumption|(simp;omega)|omega) ?_;intro v7 w7 hown7 hgrow7 hblk7)
        |(refine bL rfl (.tmp 44) (.tmp 45) 38 rfl w.heap.size 72 i0 (.agg #[.int .i64 0,.int .i64 0]) 2 16 (aI Tryz.underlying38) hi hz0 hz1 hz2 rfl (by decide) v7 (0+1) (Ev.flat (S.take 0)++ [.int .i64 x1,.int .i64 x2]) rfl hown7 ⟨g6,0,none⟩ (k-0) cap6 (Ev.flat (S.drop 0)) rfl (by first|rfl|(exact HD.out)|(simp [Ev.aX];done)|(simp [Ev.aX];omega)) (fun j u hj=>World.grownBy.cell hgrow7 (World.ownsRow.cells (World.ownsRow.alloc hr9 _) rfl j u hj) (fun e=>hne (Option.some.inj (show some g6=some g by rw [Addr.add_lit]at e;exact e)))) (Ev.fD _) (by simp only [maxLen];omega) (by omega) (by have h9:=hgrow7.size;simp at h9;omega) ?_;intro v8 w8 hown8 hgrow8 hblk8))
       all_goals go_wp2_with fail
       all_goals go_roundw
       case rel=>
        have hb8:Below w.heap.size w w8:=aB (aB (bU (baa hB9 _)) hgrow7 (fun k e=>by cases e;exact hg1)) hgrow8 (fun k e=>(hown7.lt k e).1)
        have hsp:=Ev.LD (S:=S) (x:=(x1,x2)) (p:=0) (by rw [HL.out];omega) HS.out.1 HP.out (fun y h=>absurd rfl h)
        exact⟨k+1,_,by omega,by go_num,Ev.EU HL.out (by omega) (by first|exact hown8|(rw [show k-0=0 by omega];exact hown8)),Lib.hid ⟨hsp.1,sZ HX.out HS.out.2 hsp.2⟩,Lib.hid (.inr (by omega)),hb8⟩
       case measure=>simp [intOf];omega
      )
     ·obtain⟨q,rfl⟩:∃q,p=q+1:=⟨p-1,by omega⟩
      obtain⟨y,hy⟩:∃y,S[q]? =some y:=⟨_,List.getElem?_eq_getElem (by have:=HL.out;omega)⟩
      obtain⟨y1,y2⟩:=y
      have HY:=Lib.hid hy
      have hcy:wr.cell? ⟨g,q*2,none⟩=some (.int .i64 y1)/\wr.cell? ⟨g,q*2+1,none⟩=some (.int .i64 y2):=by
       obtain⟨b',off',c',e',hc'⟩:=(HOL.out.below hBs).row.bH (by have:=HL.out;omega)
       simp only [Value.slice.injEq,Option.some.injEq,Addr.mk.injEq]at e'
       obtain⟨⟨rfl,rfl,_⟩,_,rfl⟩:=e'
       have:=Ev.dW hc' q (y1,y2) HY.out
       rw [Nat.zero_add]at this
       exact this
      obtain⟨cy1,cy2⟩:=hcy
      have ly:g<wr.heap.size:=by have:=hBs.size;omega
      have q0:(0:Int)<=(q:Int):=by omega
      have q1:(q:Int)<(k:Int):=by omega
      have q2:(0:Int)<(q:Int)+1:=by omega
      have q3:(q:Int)<=1000:=by omega
      have q4:(q:Int)+1<=(cap1:Int):=by omega
      have q5:(0:Int)<=(q:Int)+1:=by omega
      have q6:((q:Int)+1).toNat=q+1:=by omega
      have q7:(q:Int)+1<=(k:Int):=by omega
      have q8:(k:Int)<=(cap1:Int):=by omega
      have q9:q+1<=cap1:=by omega
      have e0:((q+1:Nat):Int)=(q:Int)+1:=by omega
      have HBf:=Lib.hid (fun W=>Lj x1 x2 y1 y2 W)
      clear hy
      cases hlt2:Ev.lt (x1,x2) (y1,y2)
      ·rw [hlt2]at HBf
       have HLT:=Lib.hid hlt2
       clear hlt2
       rw [e0]
       clear e0
       go_wp2_with fail
       refine aJ (by kernel_rfl) (by kernel_rfl) (fun hall=> ?_)
       repeat(first|go_big_quiet_skip|(go_big_quiet_want;first|(refine ql1 _ _ _ rfl rfl ?_;apply Exists.intro;refine⟨?_, ?_⟩;assumption;go_simp;go_big_quiet_on)|(refine ql2 _ _ _ _ rfl rfl ?_;apply Exists.intro;apply Exists.intro;refine⟨?_, ?_, ?_⟩;assumption;assumption;go_simp;go_big_quiet_on)|(refine ql3 _ _ _ _ rfl rfl ?_;apply Exists.intro;apply Exists.intro;apply Exists.intro;refine⟨?_, ?_, ?_, ?_⟩;assumption;assumption;assumption;go_simp;go_big_quiet_on)|(refine ql4 _ _ _ _ rfl rfl ?_;apply Exists.intro;apply Exists.intro;apply Exists.intro;apply Exists.intro;refine⟨?_, ?_, ?_, ?_, ?_⟩;assumption;assumption;assumption;assumption;go_simp;go_big_quiet_on)|(go_big_quiet_op;first|go_big_quiet_on|(apply Exists.intro;refine⟨fun x hx=> ?_, ?_⟩;(first|(with_reducible exact aK hx (HBf.out x))|exact aK hx (HBf.out x));go_big_quiet_on))))
       refine wpQuiet_nil ?_
       clear hall
       intro x6 hx6
       by_cases hcq:cap1=q+1
       ·subst hcq
        have hBx:=bt hBs hx6
        have hbx:=bt hB hBx
        have HX6:=HOL.out.below hBx
        have hgx:g<x6.heap.size:=by have:=hBx.size;omega
        have HD:Hid ((Ev.flat (S.drop (q+1))).length=0*2):=Lib.hid (by rw [Ev.aX,List.length_drop,HL.out];try omega)
        have HZ:Hid ((q+1)<=(q+1)->Ev.flat (S.drop (q+1))= []):=Lib.hid (fun h=>by rw [List.drop_eq_nil_of_le (by rw [HL.out];omega)];rfl)
        have HN:Hid (∀j u,(Ev.flat (S.drop (q+1)))[j]? =some u->(x6.alloc (.cells #[] 72)).cell? ((⟨g,(q+1)*2,none⟩:Addr).add j)=some u):=Lib.hid (fun j u hj=>by
         rw [Addr.add_lit]
         refine Lib.cell?_alloc_some _ ?_
         have:=World.ownsRow.cells HX6 rfl ((q+1)*2+j) u (Ev.AO S (q+1) j u (by rw [HL.out];omega) hj)
         rw [Addr.add_lit,Nat.zero_add]at this
         exact this)
        go_wp2_with (at_builtin;refine wpList_append_own_at _ rfl (.tmp 31) (.tmp 34) 38 rfl x6.heap.size 72 i0 (.agg #[.int .i64 0,.int .i64 0]) 2 16 (aI Tryz.underlying38) hi hz0 hz1 hz2 rfl (by decide) _ 0 [] rfl (World.ownsRow_made x6 #[] 0 (Nat.le_refl _) (Nat.zero_le _) (by simp)) _ _ _ (Ev.flat (S.drop (q+1))) rfl (by first|exact HD.out|(rw [HD.out];done)) (by first|exact HN.out|exact(fun j u hj=>absurd hj (by rw [HZ.out (by omega)];simp))) (Ev.fD _) (by simp only [maxLen];omega) (by omega) (by simp) ?_;intro v6 w6 hown6 hgrow6 hnil6 hblk6)
        all_goals(
         have hv6:v6≠ .slice none 0 0:=fun e=>by have:=(hnil6.1 e).1;cases this
         obtain⟨g6,cap6,rfl,hg6,hg7⟩:=Ev.Xm hown6 hv6
         simp only [Nat.zero_add,List.nil_append]at hown6 hnil6 hblk6⊢
         have hb6:Below w.heap.size w w6:=aB (baa hbx _) hgrow6 (fun k e=>by cases e;exact hbx.size)
         have hk6:Ev.Own w6 w.heap.size (.slice (some ⟨g,0,none⟩) S.length (q+1)) S:=(World.ownsRow.alloc HX6 _).kept hgrow6 (.inr (fun e=>by have e2:g=x6.heap.size:=Option.some.inj e;omega))
         refine settle (fun W=>W.cell? ⟨b,off+k*2,none⟩=some (.int .i64 x1)/\W.cell? ⟨b,off+k*2+1,none⟩=some (.int .i64 x2)/\w.heap.size<=W.heap.size/\Below w.heap.size w W/\W.ownsRow w.heap.size 72 2 (.slice (some ⟨g,0,none⟩) (q+1) (q+1)) (q+1) (Ev.flat (S.take (q+1)))/\W.ownsRow x6.heap.size 72 2 (.slice (some ⟨g6,0,none⟩) 0 cap6) 0 (Ev.flat (S.drop (q+1)))) ⟨(HCX.out _ hb6).1,(HCX.out _ hb6).2,hb6.size,hb6, ?_,hown6⟩ ?_
         ·have:=Ev.FB hk6 (q+1) (by rw [HL.out];omega)
          unfold Ev.Own at this
          rwa [List.length_take,HL.out,show min (q+1) k=(q+1) by omega]at this
         rintro W9 ⟨c1,c2,hs9,hB9,HOP,hr9⟩
         have hne:g6≠g:=by omega
         clear hnil6 hv6 hblk6 hgrow6 hown6 hb6 hk6 hg7
         go_region_law (first
          |(refine bL rfl (.tmp 38) (.tmp 43) 38 rfl w.heap.size 72 i0 (.agg #[.int .i64 0,.int .i64 0]) 2 16 (aI Tryz.underlying38) hi hz0 hz1 hz2 rfl (by decide) (.slice (some ⟨g,0,none⟩) (q+1) (q+1)) (q+1) (Ev.flat (S.take (q+1))) rfl (HOP.alloc _) _ 1 1 [.int .i64 x1,.int .i64 x2] rfl (by first|rfl|(exact HD.out)|(simp [Ev.aX];done)|(simp [Ev.aX];omega)) (bK _ x1 x2) (dD x1 x2) (by simp only [maxLen];omega) (by omega) (by first|assumption|(simp;omega)|omega) ?_;intro v7 w7 hown7 hgrow7 hblk7)
          |(refine bL rfl (.tmp 44) (.tmp 45) 38 rfl w.heap.size 72 i0 (.agg #[.int .i64 0,.int .i64 0]) 2 16 (aI Tryz.underlying38) hi hz0 hz1 hz2 rfl (by decide) v7 ((q+1)+1) (Ev.flat (S.take (q+1))++ [.int .i64 x1,.int .i64 x2]) rfl hown7 ⟨g6,0,none⟩ 0 cap6 (Ev.flat (S.drop (q+1))) rfl (by first|rfl|(exact HD.out)|(simp [Ev.aX];done)|(simp [Ev.aX];omega)) (fun j u hj=>World.grownBy.cell hgrow7 (World.ownsRow.cells (World.ownsRow.alloc hr9 _) rfl j u hj) (fun e=>hne (Option.some.inj (show some g6=some g by rw [Addr.add_lit]at e;exact e)))) (Ev.fD _) (by simp only [maxLen];omega) (by omega) (by have h9:=hgrow7.size;simp at h9;omega) ?_;intro v8 w8 hown8 hgrow8 hblk8))
         all_goals go_wp2_with fail
         all_goals go_roundw
         case rel=>
          have hb8:Below w.heap.size w w8:=aB (aB (bU (baa hB9 _)) hgrow7 (fun k e=>by cases e;exact hg1)) hgrow8 (fun k e=>(hown7.lt k e).1)
          have hsp:=Ev.LD (S:=S) (x:=(x1,x2)) (p:=(q+1)) (by rw [HL.out];omega) HS.out.1 HP.out (fun z _ hz=>by have hz2:S[q]? =some z:=hz;rw [HY.out]at hz2;cases hz2;exact HLT.out)
          exact⟨k+1,_,by omega,by go_num,Ev.EU HL.out (by omega) (by first|exact hown8|(rw [show k-(q+1)=0 by omega];exact hown8)),Lib.hid ⟨hsp.1,sZ HX.out HS.out.2 hsp.2⟩,Lib.hid (.inr (by omega)),hb8⟩
         case measure=>simp [intOf];omega
        )
       ·skip
        have hBx:=bt hBs hx6
        have hbx:=bt hB hBx
        have HX6:=HOL.out.below hBx
        have hgx:g<x6.heap.size:=by have:=hBx.size;omega
        have HD:Hid ((Ev.flat (S.drop (q+1))).length=(k-(q+1))*2):=Lib.hid (by rw [Ev.aX,List.length_drop,HL.out];try omega)
        have HZ:Hid (cap1<=(q+1)->Ev.flat (S.drop (q+1))= []):=Lib.hid (fun h=>by rw [List.drop_eq_nil_of_le (by rw [HL.out];omega)];rfl)
        have HN:Hid (∀j u,(Ev.flat (S.drop (q+1)))[j]? =some u->(x6.alloc (.cells #[] 72)).cell? ((⟨g,(q+1)*2,none⟩:Addr).add j)=some u):=Lib.hid (fun j u hj=>by
         rw [Addr.add_lit]
         refine Lib.cell?_alloc_some _ ?_
         have:=World.ownsRow.cells HX6 rfl ((q+1)*2+j) u (Ev.AO S (q+1) j u (by rw [HL.out];omega) hj)
         rw [Addr.add_lit,Nat.zero_add]at this
         exact this)
        go_wp2_with (at_builtin;refine wpList_append_own_at _ rfl (.tmp 31) (.tmp 34) 38 rfl x6.heap.size 72 i0 (.agg #[.int .i64 0,.int .i64 0]) 2 16 (aI Tryz.underlying38) hi hz0 hz1 hz2 rfl (by decide) _ 0 [] rfl (World.ownsRow_made x6 #[] 0 (Nat.le_refl _) (Nat.zero_le _) (by simp)) _ _ _ (Ev.flat (S.drop (q+1))) rfl (by first|exact HD.out|(rw [HD.out];done)) (by first|exact HN.out|exact(fun j u hj=>absurd hj (by rw [HZ.out (by omega)];simp))) (Ev.fD _) (by simp only [maxLen];omega) (by omega) (by simp) ?_;intro v6 w6 hown6 hgrow6 hnil6 hblk6)
        all_goals(
         have hv6:v6≠ .slice none 0 0:=fun e=>by have:=(hnil6.1 e).1;cases this
         obtain⟨g6,cap6,rfl,hg6,hg7⟩:=Ev.Xm hown6 hv6
         simp only [Nat.zero_add,List.nil_append]at hown6 hnil6 hblk6⊢
         have hb6:Below w.heap.size w w6:=aB (baa hbx _) hgrow6 (fun k e=>by cases e;exact hbx.size)
         have hk6:Ev.Own w6 w.heap.size (.slice (some ⟨g,0,none⟩) S.length cap1) S:=(World.ownsRow.alloc HX6 _).kept hgrow6 (.inr (fun e=>by have e2:g=x6.heap.size:=Option.some.inj e;omega))
         refine settle (fun W=>W.cell? ⟨b,off+k*2,none⟩=some (.int .i64 x1)/\W.cell? ⟨b,off+k*2+1,none⟩=some (.int .i64 x2)/\w.heap.size<=W.heap.size/\Below w.heap.size w W/\W.ownsRow w.heap.size 72 2 (.slice (some ⟨g,0,none⟩) (q+1) cap1) (q+1) (Ev.flat (S.take (q+1)))/\W.ownsRow x6.heap.size 72 2 (.slice (some ⟨g6,0,none⟩) (k-(q+1)) cap6) (k-(q+1)) (Ev.flat (S.drop (q+1)))) ⟨(HCX.out _ hb6).1,(HCX.out _ hb6).2,hb6.size,hb6, ?_,hown6⟩ ?_
         ·have:=Ev.FB hk6 (q+1) (by rw [HL.out];omega)
          unfold Ev.Own at this
          rwa [List.length_take,HL.out,show min (q+1) k=(q+1) by omega]at this
         rintro W9 ⟨c1,c2,hs9,hB9,HOP,hr9⟩
         have hne:g6≠g:=by omega
         clear hnil6 hv6 hblk6 hgrow6 hown6 hb6 hk6 hg7
         go_region_law (first
          |(refine bL rfl (.tmp 38) (.tmp 43) 38 rfl w.heap.size 72 i0 (.agg #[.int .i64 0,.int .i64 0]) 2 16 (aI Tryz.underlying38) hi hz0 hz1 hz2 rfl (by decide) (.slice (some ⟨g,0,none⟩) (q+1) cap1) (q+1) (Ev.flat (S.take (q+1))) rfl (HOP.alloc _) _ 1 1 [.int .i64 x1,.int .i64 x2] rfl (by first|rfl|(exact HD.out)|(simp [Ev.aX];done)|(simp [Ev.aX];omega)) (bK _ x1 x2) (dD x1 x2) (by simp only [maxLen];omega) (by omega) (by first|assumption|(simp;omega)|omega) ?_;intro v7 w7 hown7 hgrow7 hblk7)
          |(refine bL rfl (.tmp 44) (.tmp 45) 38 rfl w.heap.size 72 i0 (.agg #[.int .i64 0,.int .i64 0]) 2 16 (aI Tryz.underlying38) hi hz0 hz1 hz2 rfl (by decide) v7 ((q+1)+1) (Ev.flat (S.take (q+1))++ [.int .i64 x1,.int .i64 x2]) rfl hown7 ⟨g6,0,none⟩ (k-(q+1)) cap6 (Ev.flat (S.drop (q+1))) rfl (by first|rfl|(exact HD.out)|(simp [Ev.aX];done)|(simp [Ev.aX];omega)) (fun j u hj=>World.grownBy.cell hgrow7 (World.ownsRow.cells (World.ownsRow.alloc hr9 _) rfl j u hj) (fun e=>hne (Option.some.inj (show some g6=some g by rw [Addr.add_lit]at e;exact e)))) (Ev.fD _) (by simp only [maxLen];omega) (by omega) (by have h9:=hgrow7.size;simp at h9;omega) ?_;intro v8 w8 hown8 hgrow8 hblk8))
         all_goals go_wp2_with fail
         all_goals go_roundw
         case rel=>
          have hb8:Below w.heap.size w w8:=aB (aB (bU (baa hB9 _)) hgrow7 (fun k e=>by cases e;exact hg1)) hgrow8 (fun k e=>(hown7.lt k e).1)
          have hsp:=Ev.LD (S:=S) (x:=(x1,x2)) (p:=(q+1)) (by rw [HL.out];omega) HS.out.1 HP.out (fun z _ hz=>by have hz2:S[q]? =some z:=hz;rw [HY.out]at hz2;cases hz2;exact HLT.out)
          exact⟨k+1,_,by omega,by go_num,Ev.EU HL.out (by omega) (by first|exact hown8|(rw [show k-(q+1)=0 by omega];exact hown8)),Lib.hid ⟨hsp.1,sZ HX.out HS.out.2 hsp.2⟩,Lib.hid (.inr (by omega)),hb8⟩
         case measure=>simp [intOf];omega
        )
      ·rw [hlt2]at HBf
       have HLT:=Lib.hid hlt2
       clear hlt2
       rw [e0]
       clear e0
       go_wp2_with fail
       refine aJ (by kernel_rfl) (by kernel_rfl) (fun hall=> ?_)
       repeat(first|go_big_quiet_skip|(go_big_quiet_want;first|(refine ql1 _ _ _ rfl rfl ?_;apply Exists.intro;refine⟨?_, ?_⟩;assumption;go_simp;go_big_quiet_on)|(refine ql2 _ _ _ _ rfl rfl ?_;apply Exists.intro;apply Exists.intro;refine⟨?_, ?_, ?_⟩;assumption;assumption;go_simp;go_big_quiet_on)|(refine ql3 _ _ _ _ rfl rfl ?_;apply Exists.intro;apply Exists.intro;apply Exists.intro;refine⟨?_, ?_, ?_, ?_⟩;assumption;assumption;assumption;go_simp;go_big_quiet_on)|(refine ql4 _ _ _ _ rfl rfl ?_;apply Exists.intro;apply Exists.intro;apply Exists.intro;apply Exists.intro;refine⟨?_, ?_, ?_, ?_, ?_⟩;assumption;assumption;assumption;assumption;go_simp;go_big_quiet_on)|(go_big_quiet_op;first|go_big_quiet_on|(apply Exists.intro;refine⟨fun x hx=> ?_, ?_⟩;(first|(with_reducible exact aK hx (HBf.out x))|exact aK hx (HBf.out x));go_big_quiet_on))))
       refine wpQuiet_nil ?_
       clear hall
       intro x6 hx6
       go_wp2_with fail
       go_roundw
       case rel=>exact⟨q,by omega,rfl,Lib.hid (fun j z hj hz=>by
        rcases Nat.lt_or_ge q j with c|c
        ·exact HP.out j z c hz
        ·obtain rfl:j=q:=by omega
         rw [HY.out]at hz
         cases hz
         exact HLT.out),bt hBs hx6⟩
       case measure=>simp [intOf]
  ·obtain rfl:k=n:=by omega
   have hfin:Ev.sort l=S:=Ev.UJ HS.out.1 (by have:=HS.out.2;rwa [List.take_of_length_le (by omega)]at this)
   have HF:=Lib.hid hfin
   clear hfin
   go_wp2_with fail
   go_ret
   exact⟨_,rfl,by rw [HF.out];exact HO,hB⟩
theorem jf(v:Value)(l:List (Int×Int))(w:World)(h:Ev.Row w v l)(hl:l.length<=1000):
  Calls Tryo.prog 48 #[v] w fun e w'=>∃v',e= .returned v'/\Ev.Own w' w.heap.size v' (Ev.sort l)/\Below w.heap.size w w':=by
 rcases h with ⟨rfl,rfl⟩|⟨b,off,cap,rfl,hc⟩
 ·clear hl
  go_enter Tryo.func48,Tryz.ntmps48
  go_wp2_with fail
  go_loopw [3,4] (fun v i wr=>v= .slice none 0 0/\i= .int .i64 0/\wr=w) (fun _ _ _=>0)
  case atStart=>exact⟨rfl,rfl,rfl⟩
  case round=>
   obtain⟨rfl,rfl,rfl⟩:=hrel
   go_wp2_with fail
   go_ret
   exact⟨_,rfl,Ev.Own.nil _ _,Below.refl _ _⟩
 ·exact Ir b off cap _ l w hl rfl (Lib.hid hc)
end
end Go.Proofs.YthnjjcoahdhmnaaGreatDoor
