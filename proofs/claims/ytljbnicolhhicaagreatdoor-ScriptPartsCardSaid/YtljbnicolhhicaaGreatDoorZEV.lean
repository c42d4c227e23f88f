import Derived.Test.YtljbnicolhhicaaGreatDoorZLib
import Derived.Lib.OwnBridge
import Derived.Test.YtljbnicolhhicaaGreatDoorZHR
import Derived.Laws.AppendOwnNone
set_option maxHeartbeats 8000000
set_option maxRecDepth 100000
set_option linter.unusedVariables false
namespace Go.Proofs.YtljbnicolhhicaaGreatDoor
section
open Go.ChangeShapes Go.WideShapes Go.ChangeAt Go.RowKit
namespace Ev
def enc(x:Int×Int):List Value:= [.int .i64 x.1,.int .i64 x.2]
def flat(l:List (Int×Int)):List Value:=l.flatMap enc
def lt(x y:Int×Int):Bool:=decide (x.2<y.2)||(decide (x.2=y.2)&&decide (x.1<y.1))
def cf(x y:Int×Int):Int:=if Lib.compareInt x.2 y.2=0 then Lib.compareInt x.1 y.1 else Lib.compareInt x.2 y.2
theorem lt_iff(x y:Int×Int):lt x y=true↔(x.2<y.2∨x.2=y.2/\x.1<y.1):=by simp [lt]
theorem BG(x y:Int×Int):lt x y=false↔¬ (x.2<y.2∨x.2=y.2/\x.1<y.1):=by rw [←lt_iff,Bool.not_eq_true]
theorem Aw(x y:Int×Int):ltOf cf x y=lt x y:=by
 have h1:∀a b:Int,a<b->Lib.compareInt a b= -1:=fun a b h=>by simp [Lib.compareInt,h]
 have h2:∀a b:Int,b<a->Lib.compareInt a b=1:=fun a b h=>by simp [Lib.compareInt,h,show ¬ a<b by omega]
 have h3:∀a:Int,Lib.compareInt a a=0:=fun a=>by simp [Lib.compareInt]
 obtain⟨a,b⟩:=x
 obtain⟨c,d⟩:=y
 unfold ltOf cf lt
 dsimp only
 rcases Int.lt_trichotomy b d with h|h|h
 ·rw [h1 b d h];simp [h]
 ·subst h
  rw [h3,if_pos rfl]
  rcases Int.lt_trichotomy a c with g|g|g
  ·rw [h1 a c g];simp [g]
  ·subst g;rw [h3];simp
  ·rw [h2 a c g];simp;omega
 ·rw [h2 b d h];simp;omega
theorem swo:Sort.SWO (ltOf cf) where
 irrefl x:=by rw [Aw,BG];omega
 trans x y z h1 h2:=by rw [Aw,lt_iff]at*;omega
 ntrans x y z h1 h2:=by rw [Aw,BG]at*;omega
theorem tot:∀x y,ltOf cf x y=false->ltOf cf y x=false->x=y:=by
 intro x y h1 h2
 rw [Aw,BG]at h1 h2
 obtain⟨a,b⟩:=x
 obtain⟨c,d⟩:=y
 simp only [Prod.mk.injEq]
 dsimp only at h1 h2
 omega
def Srt(l:List (Int×Int)):Prop:=l.Pairwise fun x y=>lt y x=false
theorem Z4{x y:Int×Int}(h1:lt x y=false)(h2:lt y x=false):x=y:=tot x y (by rw [Aw];exact h1) (by rw [Aw];exact h2)
theorem N9:∀{a b:List (Int×Int)},Srt a->Srt b->a.Perm b->a=b
 | [],b,_,_,h=>(List.Perm.nil_eq h)
 |x :: a,[],_,_,h=>absurd h.length_eq vS
 | x :: a,y :: b,ha,hb,h=>by
  have ha':=List.pairwise_cons.1 ha
  have hb':=List.pairwise_cons.1 hb
  have e:x=y:=by
   have m1:x∈y :: b:=h.mem_iff.1 List.mem_cons_self
   have m2:y∈x :: a:=h.mem_iff.2 List.mem_cons_self
   rcases List.mem_cons.1 m1 with e|m1
   ·exact e
   ·rcases List.mem_cons.1 m2 with e|m2
    ·exact e.symm
    ·exact Z4 (hb'.1 x m1) (ha'.1 y m2)
  subst e
  rw [N9 ha'.2 hb'.2 (List.Perm.cons_inv h)]
def ins(x:Int×Int):List (Int×Int)->List (Int×Int)
 | []=> [x]
 |y :: r=>if lt x y then x :: y :: r else y :: ins x r
def sort:List (Int×Int)->List (Int×Int)
 | []=> []
 |x :: r=>ins x (sort r)
theorem Jg(x:Int×Int):∀l,(ins x l).Perm (x :: l)
 | []=>List.Perm.refl _
 |y :: r=>by
  unfold ins
  split
  ·exact List.Perm.refl _
  ·exact((Jg x r).cons y).trans (List.Perm.swap x y r)
theorem qL:∀l,(sort l).Perm l
 | []=>List.Perm.refl _
 |x :: r=>(Jg x (sort r)).trans ((qL r).cons x)
theorem UU(x:Int×Int):∀l,Srt l->Srt (ins x l)
 | [],_=>List.pairwise_singleton _ _
 | y :: r,h=>by
  have h':=List.pairwise_cons.1 h
  unfold ins
  split
  ·rename_i hx
   refine List.pairwise_cons.2 ⟨fun z hz=> ?_,h⟩
   rw [lt_iff]at hx
   rcases List.mem_cons.1 hz with rfl|hz
   ·rw [BG];omega
   ·have:=h'.1 z hz
    rw [BG]at this⊢;omega
  ·rename_i hx
   refine List.pairwise_cons.2 ⟨fun z hz=> ?_,UU x r h'.2⟩
   rcases List.mem_cons.1 ((Jg x r).mem_iff.1 hz)with rfl|hz
   ·simpa using hx
   ·exact h'.1 z hz
theorem Dk:∀l,Srt (sort l)
 | []=>List.Pairwise.nil
 |x :: r=>UU x _ (Dk r)
theorem X6(d:List (Int×Int)):(d.mergeSort fun x y=> !(ltOf cf) y x)=sort d:=by
 refine N9 ?_ (Dk d) ((List.mergeSort_perm d _).trans (qL d).symm)
 have h:List.Pairwise (fun x y=>(!(ltOf cf) y x)=true) (d.mergeSort fun x y=> !(ltOf cf) y x):=by
  apply List.pairwise_mergeSort
  ·intro a b c h1 h2
   rw [Bool.not_eq_true',Aw,BG]at*
   omega
  ·intro a b
   rw [Bool.or_eq_true,Bool.not_eq_true',Bool.not_eq_true',Aw,Aw,BG,BG]
   omega
 exact h.imp fun g=>by rw [Bool.not_eq_true',Aw]at g;exact g
theorem Zz{s l:List (Int×Int)}(h:Srt s)(hp:s.Perm l):sort l=s:=N9 (Dk l) h ((qL l).trans hp.symm)
def sh(k:Int)(x:Int×Int):Int×Int:=(x.1,k+x.2)
theorem Y7(k:Int)(l:List (Int×Int)):sort (l.map (sh k))=(sort l).map (sh k):=by
 refine Zz ?_ ((qL l).map _)
 refine List.Pairwise.map _ (fun x y h=> ?_) (Dk l)
 rw [BG]at h⊢
 simp only [sh]
 omega
theorem kK:∀l,(flat l).length=l.length*2
 | []=>rfl
 |x :: r=>by
  have:=kK r
  unfold flat at this⊢
  rw [List.flatMap_cons,List.length_append,this]
  simp [enc];omega
theorem qG(a b:List (Int×Int)):flat (a++b)=flat a++flat b:=by simp [flat]
theorem flat_get:∀ (l:List (Int×Int)) (j:Nat) (x:Int×Int),l[j]? =some x->(flat l)[2*j]? =some (x.1:vV)/\(flat l)[2*j+1]? =some (x.2:vV)
 | [],j,x,h=>by simp at h
 |y :: r,0,x,h=>by
  obtain rfl:y=x:=by simpa using h
  exact⟨rfl,rfl⟩
 |y :: r,j+1,x,h=>by
  have:=flat_get r j x (by simpa using h)
  have e:flat (y :: r)= .int .i64 y.1 :: .int .i64 y.2 :: flat r:=rfl
  rw [e,show 2*(j+1)=2*j+1+1 by omega,show 2*j+1+1+1=(2*j+1)+1+1 by omega]
  simpa using this
theorem zw(l:List (Int×Int)):∀u∈flat l,u.oneCell'=true:=by
 intro u hu
 obtain⟨x,_,hx⟩:=List.mem_flatMap.1 hu
 simp [enc]at hx
 rcases hx with rfl|rfl <;> rfl
end Ev
end
section
open Go.ChangeShapes Go.WideShapes Go.ChangeAt Go.RowKit Go.Lib Go.Sort Go.Shelf
theorem EL:(Tryo.prog.info? 189).map (fun i=>(i.zero,i.size,i.bytes))=some (some (.agg #[(0:Int),(0:Int)]),2,16):=vK
namespace Ev
def Own(w:World)(B:Nat)(v:Value)(l:List (Int×Int)):Prop:=w.ownsRow B 189 2 v l.length (flat l)
def Row(w:World)(v:Value)(l:List (Int×Int)):Prop:=(v= .slice none 0 0/\l= [])∨∃b off cap,v= .slice (some ⟨b,off,none⟩) l.length cap/\∀j u,(flat l)[j]? =some u->w.cell? ⟨b,off+j,none⟩=some u
theorem Own.nil(w:World)(B:Nat):Own w B (.slice none 0 0) []:=World.ownsRow_nil w B _ _
theorem Own.row{w:World}{B:Nat}{v:Value}{l:List (Int×Int)}(h:Own w B v l):Row w v l:=by
 rcases h.2 with ⟨rfl,h0⟩|⟨g,cap,cur,rfl,hb,hg,hn,hm,hs,ht⟩
 ·exact .inl ⟨rfl,List.eq_nil_of_length_eq_zero h0⟩
 ·refine .inr ⟨g,0,cap,rfl,fun j u hj=> ?_⟩
  have:=World.ownsRow.cells h rfl j u hj
  rwa [Addr.add_lit]at this
theorem Row.below{w w':World}{v:Value}{l:List (Int×Int)}(h:Row w v l)(hb:Below w.1.size w w'):Row w' v l:=by
 rcases h with h|⟨b,off,cap,rfl,hc⟩
 ·exact .inl h
 ·exact .inr ⟨b,off,cap,rfl,fun j u hj=>(hb.cell (World.block_lt_of_cell? w _ (hc j u hj))).trans (hc j u hj)⟩
theorem grown_of{w w':World}(hb:Below w.1.size w w'):w.grownBy w' none:=⟨hb.os,hb.tape,hb.output,hb.size,fun k hk _=>hb.block k hk⟩
theorem Own.below{w w':World}{B:Nat}{v:Value}{l:List (Int×Int)}(h:Own w B v l)(hb:Below w.1.size w w'):Own w' B v l:=
 h.kept (grown_of hb) (by cases v.ownBlock <;> simp)
theorem Own.base{w:World}{B B':Nat}{v:Value}{l:List (Int×Int)}(h:Own w B v l)(hB:B'<=B):Own w B' v l:=⟨h.1,h.2.imp id fun⟨g,cap,cur,e,hb,r⟩=>⟨g,cap,cur,e,Nat.le_trans hB hb,r⟩⟩
theorem yg{w:World}{b off:Nat}{l:List (Int×Int)}(h:∀j u,(flat l)[j]? =some u->w.cell? ⟨b,off+j,none⟩=some u)(i:Nat)(x:Int×Int)(hx:l[i]? =some x):
  w.cell? ⟨b,off+i*2,none⟩=some (x.1:vV)/\w.cell? ⟨b,off+i*2+1,none⟩=some (x.2:vV):=by
 obtain⟨h1,h2⟩:=flat_get l i x hx
 rw [Nat.mul_comm 2 i]at h1 h2
 exact⟨h _ _ h1,by rw [Nat.add_assoc];exact h _ _ h2⟩
theorem Row.len{w:World}{v:Value}{l:List (Int×Int)}(h:Row w v l):∃p cap,v= .slice p l.length cap:=by
 rcases h with ⟨rfl,rfl⟩|⟨b,off,cap,rfl,_⟩
 ·exact⟨_,_,rfl⟩
 ·exact⟨_,_,rfl⟩
theorem Row.kI{w:World}{v:Value}{l:List (Int×Int)}(h:Row w v l)(h0:0<l.length):∃b off cap,v= .slice (some ⟨b,off,none⟩) l.length cap/\∀j u,(flat l)[j]? =some u->w.cell? ⟨b,off+j,none⟩=some u:=by
 rcases h with ⟨_,rfl⟩|h
 ·simp at h0
 ·exact h
theorem JW(l:List (Int×Int)):flatK enc 2 l.toArray=(flat l).toArray:=by
 refine ext_get! (by simp [kK]) fun t ht=> ?_
 have ht':t<l.toArray.size*2:=by simpa using ht
 rw [get_flatK _ _ _ t ht']
 have hi:t / 2<l.length:=by simp at ht';omega
 obtain⟨h1,h2⟩:=flat_get l (t / 2) l[t / 2] (List.getElem?_eq_getElem hi)
 have e:l.toArray[t / 2]! =l[t / 2]:=by simp [hi]
 rw [e]
 rcases Nat.mod_two_eq_zero_or_one t with c|c
 ·rw [c]
  rw [show 2*(t / 2)=t by omega]at h1
  have hl:=(List.getElem?_eq_some_iff.1 h1).1
  rw [getElem!_pos (flat l).toArray t (by simpa using hl)]
  have:=(List.getElem?_eq_some_iff.1 h1).2
  simp only [List.getElem_toArray]
  rw [this]
  rfl
 ·rw [c]
  rw [show 2*(t / 2)+1=t by omega]at h2
  have hl:=(List.getElem?_eq_some_iff.1 h2).1
  rw [getElem!_pos (flat l).toArray t (by simpa using hl)]
  have:=(List.getElem?_eq_some_iff.1 h2).2
  simp only [List.getElem_toArray]
  rw [this]
  rfl
theorem Own.form{w:World}{B:Nat}{v:Value}{l:List (Int×Int)}(h:Own w B v l)(hv:v≠ .slice none 0 0):
  ∃g cap,v= .slice (some ⟨g,0,none⟩) l.length cap/\B<=g/\g<w.1.size/\HoldsK enc 2 w g 0 l.toArray:=by
 have h':=h
 rcases h.2 with ⟨e,_⟩|⟨g,cap,cur,rfl,hb,hg,hn,hm,hs,ht⟩
 ·exact absurd e hv
 ·refine⟨g,cap,rfl,hb,(Array.getElem?_eq_some_iff.1 hg).1, ?_⟩
  unfold HoldsK
  rw [JW]
  intro j hj
  have hj':j<(flat l).length:=by simpa using hj
  refine⟨?_, ?_⟩
  ·have:=World.ownsRow.cells h' rfl j _ (List.getElem?_eq_getElem hj')
   rw [Addr.add_lit]at this
   rw [this]
   simp [hj']
  ·rw [Nat.zero_add];exact World.ownsRow.frozenAt h' j
theorem ZC{w:World}{B g cap n:Nat}{l ys:List (Int×Int)}{os:Array Obj}(h:Own w B (.slice (some ⟨g,0,none⟩) l.length cap) l)(hy:ys.length=l.length):
  Own (sortWorldK enc 2 w g 0 n ys.toArray os) B (.slice (some ⟨g,0,none⟩) l.length cap) ys:=by
 rcases h.2 with ⟨e0,_⟩|⟨g',cap',cur,e0,hb,hg,hn,hm,hs,ht⟩
 ·cases e0
 ·injection e0 with e1 _ e3
  injection e1 with e1
  injection e1 with e1
  subst e1;subst e3
  have hlt:g<w.1.size:=(Array.getElem?_eq_some_iff.1 hg).1
  have hF:(flat ys).length=l.length*2:=by rw [kK,hy]
  refine⟨by rw [hy];exact hF,.inr ⟨g,cap,putCells id 0 (flat ys).toArray cur,by rw [hy],hb, ?_,by rw [hy];exact hn,hm,by simpa [putCells]using hs, ?_⟩⟩
  ·unfold sortWorldK putRowK
   rw [JW,heap_grow_old _ _ (by simpa using hlt)]
   simp [putRow,mapBlock,Sort.ahead,Array.getElem?_modify,hg,onCells]
  ·rw [hy]
   apply List.ext_getElem?
   intro j
   rw [List.getElem?_take,Array.getElem?_toList]
   by_cases hj:j<l.length*2
   ·have hjc:j<cur.size:=by rw [hs];omega
    have hjF:j<(flat ys).length:=vO
    simp only [if_pos hj,putCells,Array.getElem?_mapIdx,Array.getElem?_eq_getElem hjc,Option.map_some]
    rw [if_pos vQ,List.getElem?_eq_getElem hjF]
    simp [hjF]
   ·rw [if_neg hj,List.getElem?_eq_none vO]
theorem Vr{w w1:World}{g n:Nat}{ys:Array (Int×Int)}{os:Array Obj}(hB:Below w.1.size w w1)(hg:w.1.size<=g):Below w.1.size w (sortWorldK enc 2 w1 g 0 n ys os):=by
 have h1:Below w.1.size w (putRowK enc 2 (Sort.ahead w1 n) g 0 ys):=Lib.below_putRow hB hg
 refine⟨h1.os,h1.tape,h1.output,Nat.le_trans h1.size (by simp [sortWorldK,grow]),fun k hk=> ?_⟩
 rw [←h1.block k hk]
 exact heap_grow_old _ _ (Nat.lt_of_lt_of_le hk h1.size)
theorem Ze:∀x:Int×Int,∀v∈enc x,v.oneCell'=true:=by
 intro x v hv
 simp [enc]at hv
 rcases hv with rfl|rfl <;> rfl
end Ev
theorem Eu(a b c d r:Int)(W:World)(HC:Hid (∀W:World,Calls Tryo.prog 226 #[b,d] W fun e w'=>e= .returned (.int .i64 r)/\w'=W))(h:(r !=0)=true):
  Calls Tryo.prog 201 #[.agg #[a,b],.agg #[c,d]] W fun e w'=>e= .returned (.int .i64 r)/\∃q os',w'=grow (W.drewN q) os':=by
 go_enter (vF Tryz.func201),Tryz.ntmps201
 go_wp2_with fail
 refine(HC.out _).mono ?_
 rintro e w' ⟨rfl,rfl⟩
 go_wp2_with fail
 go_ret
 exact⟨rfl,0,_,by rw [alloc_eq_grow,alloc_eq_grow,grow_grow];rfl⟩
theorem Dx(a b c d r:Int)(W:World)(HC:Hid (∀W:World,Calls Tryo.prog 226 #[b,d] W fun e w'=>e= .returned (.int .i64 0)/\w'=W))(HK:Hid (∀W:World,Calls Tryo.prog 226 #[a,c] W fun e w'=>e= .returned (.int .i64 r)/\w'=W)):
  Calls Tryo.prog 201 #[.agg #[a,b],.agg #[c,d]] W fun e w'=>e= .returned (.int .i64 r)/\∃q os',w'=grow (W.drewN q) os':=by
 go_enter (vF Tryz.func201),Tryz.ntmps201
 go_wp2_with fail
 refine(HC.out _).mono ?_
 rintro e w' ⟨rfl,rfl⟩
 go_wp2_with fail
 refine(HK.out _).mono ?_
 rintro e w' ⟨rfl,rfl⟩
 go_wp2_with fail
 go_ret
 exact⟨rfl,0,_,by rw [alloc_eq_grow,alloc_eq_grow,grow_grow];rfl⟩
theorem K5(x y:Int×Int)(W:World):Calls Tryo.prog 201 #[.agg #[x.1,x.2],.agg #[y.1,y.2]] W fun e w'=>e= .returned (.int .i64 (Ev.cf x y))/\∃q os',w'=grow (W.drewN q) os':=by
 obtain⟨a,b⟩:=x
 obtain⟨c,d⟩:=y
 have hc:=fun(p q:Int)=>Lib.hid (fun W:World=>Tryz.cmp_Compare_int p q W)
 unfold Ev.cf
 dsimp only
 have H1:=hc b d
 have H2:=hc a c
 clear hc
 generalize Lib.compareInt a c=r2 at*
 by_cases h:Lib.compareInt b d=0
 ·rw [if_pos h]
  rw [h]at H1
  exact Dx a b c d r2 W H1 H2
 ·rw [if_neg h]
  exact Eu a b c d _ W H1 (by simpa using h)
theorem Lg(blk off size:Nat)(w:World):CmpLays Tryo.prog 201 #[] Ev.enc 2 Ev.cf blk off size w:=
 fun _ _ _ _ x y=>K5 x y _
theorem Ue(v:Value)(l:List (Int×Int))(w:World)(h:Ev.Row w v l)(hl:l.length<=100000):
  Calls Tryo.prog 180 #[v] w fun e w'=>∃v',e= .returned v'/\Ev.Own w' w.1.size v' (Ev.sort l)/\Below w.1.size w w':=by
 rcases h with ⟨rfl,rfl⟩|⟨b,off,cap,rfl,hc⟩
 ·have h1:∀W:World,Calls Tryo.prog 199 #[.slice none 0 0] W fun e w'=>e= .returned (.slice none 0 0)/\w'=W:=fun W=>AnyE.slices_Clone_nil Tryz.PV 0 0 W
  have h2:∀W:World,Calls Tryo.prog 200 #[.slice none 0 0,.func (.func 201) #[] #[]] W fun e w'=>e= .returned (.tuple #[])/\w'=W:=fun W=>AnyF.slices_SortFunc_none Tryz.Ve none 0 (.func (.func 201) #[] #[]) W
  have H1:=Lib.hid h1
  have H2:=Lib.hid h2
  clear h1 h2
  go_enter (vF Tryz.func180),Tryz.ntmps180
  go_wp2_with fail
  refine(H1.out _).mono ?_
  rintro e w' ⟨rfl,rfl⟩
  go_wp2_with fail
  refine(H2.out _).mono ?_
  rintro e w' ⟨rfl,rfl⟩
  go_wp2_with fail
  go_ret
  exact⟨_,rfl,Ev.Own.nil _ _,Below.refl _ _⟩
 ·obtain⟨i0,hi,hz0,hz1,hz2⟩:=info_parts EL
  have h1:Calls Tryo.prog 199 #[.slice (some ⟨b,off,none⟩) l.length cap] w fun e w'=>∃v',e= .returned v'/\w'.ownsRow w.1.size 189 2 v' l.length (Ev.flat l)/\v'≠ .slice none 0 0/\Below w.1.size w w':=
   AnyE.slices_Clone Tryz.PV i0 (.agg #[(0:Int),(0:Int)]) 2 16 hi hz0 hz1 hz2 rfl vD (au (Tryo.sizeOf 189) Tryz.sizeOf189) b off l.length cap (Ev.flat l) w (Ev.kK l) (by simp only [maxLen];omega) vO hc (Ev.zw l)
  have h2:∀ (v1:Value) (w1:World),Ev.Own w1 w.1.size v1 l->v1≠ .slice none 0 0->Below w.1.size w w1->Calls Tryo.prog 200 #[v1,.func (.func 201) #[] #[]] w1 fun e w'=>e= .returned (.tuple #[])/\Ev.Own w' w.1.size v1 (Ev.sort l)/\Below w.1.size w w':=by
   intro v1 w1 ho hv hB
   obtain⟨g,cap1,rfl,hg1,hg2,hH⟩:=ho.form hv
   have h3:Calls Tryo.prog 200 #[.slice (some ⟨g,0,none⟩) l.toArray.size cap1,.func (.func 201) #[] #[]] w1 fun e w'=>e= .returned (.tuple #[])/\∃n os,w'=sortWorldK Ev.enc 2 w1 g 0 n (l.toArray.toList.mergeSort fun x y=> !(ltOf Ev.cf) y x).toArray os:=
    AnyQ.slices_SortFunc_total Tryz.Ve 2 (au (Tryo.isAgg 189) Tryz.isAgg189) (au (Tryo.sizeOf 189) Tryz.sizeOf189) Ev.enc (fun _=>rfl) Ev.Ze Ev.cf Ev.swo 201 #[] g 0 cap1 l.toArray w1 (enters_of (vF Tryz.func201) vK rfl) (Lg g 0 _ w1) hH hg2 vQ Ev.tot
   rw [List.size_toArray]at h3
   refine h3.mono ?_
   rintro e w' ⟨he,n,os,rfl⟩
   rw [show l.toArray.toList=l from rfl,Ev.X6]
   exact⟨he,Ev.ZC ho (Ev.qL l).length_eq,Ev.Vr hB hg1⟩
  have H1:=Lib.hid h1
  have H2:=Lib.hid h2
  clear h1 h2 hc hi hz0 hz1 hz2
  go_enter (vF Tryz.func180),Tryz.ntmps180
  go_wp2_with fail
  refine H1.out.mono ?_
  rintro e w1 ⟨v1,rfl,ho,hne,hB1⟩
  go_wp2_with fail
  refine(H2.out _ _ ho hne hB1).mono ?_
  rintro e w2 ⟨rfl,ho2,hB2⟩
  go_wp2_with fail
  go_ret
  exact⟨_,rfl,ho2,hB2⟩
end
section
open Go.ChangeShapes Go.WideShapes Go.ChangeAt Go.RowKit Go.Lib Go.Sort Go.Shelf
namespace Ev
end Ev
end
section
open Go.ChangeShapes Go.WideShapes Go.ChangeAt Go.RowKit Go.Lib Go.Sort Go.Shelf
theorem ZE(w:World)(x1 x2:Int):∀j u,[Value.int .i64 x1,.int .i64 x2][j]? =some u->(w.alloc (.cells #[x1,x2] 189)).cell? ((⟨w.1.size,0,none⟩:Addr).add j)=some u:=CO w #[x1,x2] 189 w.1.size rfl
theorem abl(x1 x2:Int):∀u∈ [Value.int .i64 x1,.int .i64 x2],u.oneCell'=true:=Ev.zw [(x1,x2)]
end
end Go.Proofs.YtljbnicolhhicaaGreatDoor
