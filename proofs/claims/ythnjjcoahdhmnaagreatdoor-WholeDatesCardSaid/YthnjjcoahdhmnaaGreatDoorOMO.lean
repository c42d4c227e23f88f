import Derived.Test.YthnjjcoahdhmnaaGreatDoorOKE
import Derived.Deep.RegionHeld3
import Derived.RegionTactic
import Derived.BigRegion
import Derived.Lib.SmallJoins
import Derived.Test.YthnjjcoahdhmnaaGreatDoorOBB
import Derived.Deep.AppendLies
import Derived.OwnWalk
import Derived.LoopTactic
set_option maxHeartbeats 8000000
set_option maxRecDepth 100000
set_option linter.unusedVariables false
namespace Go.Proofs.YthnjjcoahdhmnaaGreatDoor
section
open Go.ChangeShapes Go.WideShapes Go.ChangeAt Go.RowKit
def lenCells:List Value:= [30,29,30,29,30,30,29,30,29,30,29,30,29].map (Value.int .i64)
def lens(k:Int)(l:Bool):List Int:= [30,if k=2 then 30 else 29,if k=0 then 29 else 30,29,30]++((if l then [30]else [])++ [29,30,29,30,29,30,29])
def Ints(w:World)(B:Nat)(v:Value)(xs:List Int):Prop:=∃g cap,v= .slice (some ⟨g,0,none⟩) xs.length cap/\xs.length<=cap/\B<=g/\g<w.heap.size/\∀ (j:Nat) x,xs[j]? =some x->w.cell? ⟨g,j,none⟩=some (.int .i64 x)
theorem oh{W:World}{B g cap n:Nat}{xs:List Int}{arr:Array Value}(hh:∀j,W.cell? ⟨g,j,none⟩=arr[j]?)(hn:n=xs.length)(hx:arr.toList.take xs.length=xs.map (Value.int .i64))(hc:xs.length<=cap)(hB:B<=g)(hg:g<W.heap.size):
  Ints W B (.slice (some ⟨g,0,none⟩) n cap) xs:=
 ⟨g,cap,by rw [hn],hc,hB,hg,fun j x hj=>by
  have hl:j<xs.length:=(List.getElem?_eq_some_iff.1 hj).1
  have h1:(arr.toList.take xs.length)[j]? =some (.int .i64 x):=by rw [hx,List.getElem?_map,hj];rfl
  rw [List.getElem?_take_of_lt hl]at h1
  rw [hh j]
  simpa using h1⟩
theorem Ints.below{w w':World}{B:Nat}{v:Value}{xs:List Int}(h:Ints w B v xs)(hb:Below w.heap.size w w'):Ints w' B v xs:=by
 obtain⟨g,cap,h1,h2,h3,h4,h5⟩:=h
 exact⟨g,cap,h1,h2,h3,Nat.lt_of_lt_of_le h4 hb.size,fun j x hj=>(hb.cell (p:=⟨g,j,none⟩) h4).trans (h5 j x hj)⟩
theorem UQ:lens (0) false= [30,29,29,29,30,29,30,29,30,29,30,29]:=by simp [lens]
theorem Gh(b:Int)(w:World)(hT:Tab w 5 lenCells):
  Calls Tryo.prog 146 #[.agg #[.int .i64 b,.int .i64 0,.bool false]] w fun e w'=>∃v,e= .returned v/\Ints w' w.heap.size v [30,29,29,29,30,29,30,29,30,29,30,29]/\Below w.heap.size w w':=by
 have hlt0:=hT.lt
 obtain⟨t,hT⟩:=hT
 have hT2:w.heap[5]? =some (.cells #[.int .i64 30,.int .i64 29,.int .i64 30,.int .i64 29,.int .i64 30,.int .i64 30,.int .i64 29,.int .i64 30,.int .i64 29,.int .i64 30,.int .i64 29,.int .i64 30,.int .i64 29] t (0,0)):=hT
 have HT:=Lib.hid hT2
 clear hT hT2
 go_enter Tryo.func146,Tryz.ntmps146
 go_wp2_with (refine wpList_load_row rfl 201 _ rfl 5 rfl t #[.int .i64 30,.int .i64 29,.int .i64 30,.int .i64 29,.int .i64 30,.int .i64 30,.int .i64 29,.int .i64 30,.int .i64 29,.int .i64 30,.int .i64 29,.int .i64 30,.int .i64 29] (0,0) _ ((Below.heap_alloc _ _ _ hlt0).trans HT.out) (aU Tryz.underlying201) rfl (by kernel_rfl) ?_)
 go_region
 go_wp2_with fail
 go_ret
 refine⟨_,rfl,oh (g:=w.heap.size+1) (fun j=>Joins.cell_alloc_mark_at _ _ _ _ _ _ (by simp)) rfl rfl (by decide) (by omega) (by simp), ?_⟩
 exact beo
theorem UE:lens (2) false= [30,30,30,29,30,29,30,29,30,29,30,29]:=by simp [lens]
theorem Gw(b:Int)(w:World)(hT:Tab w 5 lenCells):
  Calls Tryo.prog 146 #[.agg #[.int .i64 b,.int .i64 2,.bool false]] w fun e w'=>∃v,e= .returned v/\Ints w' w.heap.size v [30,30,30,29,30,29,30,29,30,29,30,29]/\Below w.heap.size w w':=by
 have hlt0:=hT.lt
 obtain⟨t,hT⟩:=hT
 have hT2:w.heap[5]? =some (.cells #[.int .i64 30,.int .i64 29,.int .i64 30,.int .i64 29,.int .i64 30,.int .i64 30,.int .i64 29,.int .i64 30,.int .i64 29,.int .i64 30,.int .i64 29,.int .i64 30,.int .i64 29] t (0,0)):=hT
 have HT:=Lib.hid hT2
 clear hT hT2
 go_enter Tryo.func146,Tryz.ntmps146
 go_wp2_with (refine wpList_load_row rfl 201 _ rfl 5 rfl t #[.int .i64 30,.int .i64 29,.int .i64 30,.int .i64 29,.int .i64 30,.int .i64 30,.int .i64 29,.int .i64 30,.int .i64 29,.int .i64 30,.int .i64 29,.int .i64 30,.int .i64 29] (0,0) _ ((Below.heap_alloc _ _ _ hlt0).trans HT.out) (aU Tryz.underlying201) rfl (by kernel_rfl) ?_)
 go_region
 go_wp2_with fail
 go_ret
 refine⟨_,rfl,oh (g:=w.heap.size+1) (fun j=>Joins.cell_alloc_mark_at _ _ _ _ _ _ (by simp)) rfl rfl (by decide) (by omega) (by simp), ?_⟩
 exact beo
theorem Uv(k:Int)(h0:¬ k=0)(h2:¬ k=2):lens k false= [30,29,30,29,30,29,30,29,30,29,30,29]:=by simp [lens,h0,h2]
theorem Fg(b k:Int)(w:World)(hT:Tab w 5 lenCells)(h0:¬ k=0)(h2:¬ k=2):
  Calls Tryo.prog 146 #[.agg #[.int .i64 b,.int .i64 k,.bool false]] w fun e w'=>∃v,e= .returned v/\Ints w' w.heap.size v [30,29,30,29,30,29,30,29,30,29,30,29]/\Below w.heap.size w w':=by
 have hlt0:=hT.lt
 obtain⟨t,hT⟩:=hT
 have hT2:w.heap[5]? =some (.cells #[.int .i64 30,.int .i64 29,.int .i64 30,.int .i64 29,.int .i64 30,.int .i64 30,.int .i64 29,.int .i64 30,.int .i64 29,.int .i64 30,.int .i64 29,.int .i64 30,.int .i64 29] t (0,0)):=hT
 have HT:=Lib.hid hT2
 clear hT hT2
 have q0:(k==0)=false:=by simpa using h0
 have q2:(k==2)=false:=by simpa using h2
 clear h0 h2
 go_enter Tryo.func146,Tryz.ntmps146
 go_wp2_with (refine wpList_load_row rfl 201 _ rfl 5 rfl t #[.int .i64 30,.int .i64 29,.int .i64 30,.int .i64 29,.int .i64 30,.int .i64 30,.int .i64 29,.int .i64 30,.int .i64 29,.int .i64 30,.int .i64 29,.int .i64 30,.int .i64 29] (0,0) _ ((Below.heap_alloc _ _ _ hlt0).trans HT.out) (aU Tryz.underlying201) rfl (by kernel_rfl) ?_)
 go_region
 go_wp2_with fail
 go_ret
 refine⟨_,rfl,oh (g:=w.heap.size+1) (fun j=>Joins.cell_alloc_mark_at _ _ _ _ _ _ (by simp)) rfl rfl (by decide) (by omega) (by simp), ?_⟩
 exact beo
theorem U4:lens (0) true= [30,29,29,29,30,30,29,30,29,30,29,30,29]:=by simp [lens]
theorem Gn(b:Int)(w:World)(hT:Tab w 5 lenCells):
  Calls Tryo.prog 146 #[.agg #[.int .i64 b,.int .i64 0,.bool true]] w fun e w'=>∃v,e= .returned v/\Ints w' w.heap.size v [30,29,29,29,30,30,29,30,29,30,29,30,29]/\Below w.heap.size w w':=by
 have hlt0:=hT.lt
 obtain⟨t,hT⟩:=hT
 have hT2:w.heap[5]? =some (.cells #[.int .i64 30,.int .i64 29,.int .i64 30,.int .i64 29,.int .i64 30,.int .i64 30,.int .i64 29,.int .i64 30,.int .i64 29,.int .i64 30,.int .i64 29,.int .i64 30,.int .i64 29] t (0,0)):=hT
 have HT:=Lib.hid hT2
 clear hT hT2
 go_enter Tryo.func146,Tryz.ntmps146
 go_wp2_with (refine wpList_load_row rfl 201 _ rfl 5 rfl t #[.int .i64 30,.int .i64 29,.int .i64 30,.int .i64 29,.int .i64 30,.int .i64 30,.int .i64 29,.int .i64 30,.int .i64 29,.int .i64 30,.int .i64 29,.int .i64 30,.int .i64 29] (0,0) _ ((Below.heap_alloc _ _ _ hlt0).trans HT.out) (aU Tryz.underlying201) rfl (by kernel_rfl) ?_)
 go_ret
 refine⟨_,rfl,oh (g:=w.heap.size+1) (fun j=>Joins.cell_alloc_mark_at _ _ _ _ _ _ (by simp)) rfl rfl (by decide) (by omega) (by simp), ?_⟩
 exact beo
theorem Um:lens (2) true= [30,30,30,29,30,30,29,30,29,30,29,30,29]:=by simp [lens]
theorem FB(b:Int)(w:World)(hT:Tab w 5 lenCells):
  Calls Tryo.prog 146 #[.agg #[.int .i64 b,.int .i64 2,.bool true]] w fun e w'=>∃v,e= .returned v/\Ints w' w.heap.size v [30,30,30,29,30,30,29,30,29,30,29,30,29]/\Below w.heap.size w w':=by
 have hlt0:=hT.lt
 obtain⟨t,hT⟩:=hT
 have hT2:w.heap[5]? =some (.cells #[.int .i64 30,.int .i64 29,.int .i64 30,.int .i64 29,.int .i64 30,.int .i64 30,.int .i64 29,.int .i64 30,.int .i64 29,.int .i64 30,.int .i64 29,.int .i64 30,.int .i64 29] t (0,0)):=hT
 have HT:=Lib.hid hT2
 clear hT hT2
 go_enter Tryo.func146,Tryz.ntmps146
 go_wp2_with (refine wpList_load_row rfl 201 _ rfl 5 rfl t #[.int .i64 30,.int .i64 29,.int .i64 30,.int .i64 29,.int .i64 30,.int .i64 30,.int .i64 29,.int .i64 30,.int .i64 29,.int .i64 30,.int .i64 29,.int .i64 30,.int .i64 29] (0,0) _ ((Below.heap_alloc _ _ _ hlt0).trans HT.out) (aU Tryz.underlying201) rfl (by kernel_rfl) ?_)
 go_ret
 refine⟨_,rfl,oh (g:=w.heap.size+1) (fun j=>Joins.cell_alloc_mark_at _ _ _ _ _ _ (by simp)) rfl rfl (by decide) (by omega) (by simp), ?_⟩
 exact beo
theorem UO(k:Int)(h0:¬ k=0)(h2:¬ k=2):lens k true= [30,29,30,29,30,30,29,30,29,30,29,30,29]:=by simp [lens,h0,h2]
theorem Fq(b k:Int)(w:World)(hT:Tab w 5 lenCells)(h0:¬ k=0)(h2:¬ k=2):
  Calls Tryo.prog 146 #[.agg #[.int .i64 b,.int .i64 k,.bool true]] w fun e w'=>∃v,e= .returned v/\Ints w' w.heap.size v [30,29,30,29,30,30,29,30,29,30,29,30,29]/\Below w.heap.size w w':=by
 have hlt0:=hT.lt
 obtain⟨t,hT⟩:=hT
 have hT2:w.heap[5]? =some (.cells #[.int .i64 30,.int .i64 29,.int .i64 30,.int .i64 29,.int .i64 30,.int .i64 30,.int .i64 29,.int .i64 30,.int .i64 29,.int .i64 30,.int .i64 29,.int .i64 30,.int .i64 29] t (0,0)):=hT
 have HT:=Lib.hid hT2
 clear hT hT2
 have q0:(k==0)=false:=by simpa using h0
 have q2:(k==2)=false:=by simpa using h2
 clear h0 h2
 go_enter Tryo.func146,Tryz.ntmps146
 go_wp2_with (refine wpList_load_row rfl 201 _ rfl 5 rfl t #[.int .i64 30,.int .i64 29,.int .i64 30,.int .i64 29,.int .i64 30,.int .i64 30,.int .i64 29,.int .i64 30,.int .i64 29,.int .i64 30,.int .i64 29,.int .i64 30,.int .i64 29] (0,0) _ ((Below.heap_alloc _ _ _ hlt0).trans HT.out) (aU Tryz.underlying201) rfl (by kernel_rfl) ?_)
 go_ret
 refine⟨_,rfl,oh (g:=w.heap.size+1) (fun j=>Joins.cell_alloc_mark_at _ _ _ _ _ _ (by simp)) rfl rfl (by decide) (by omega) (by simp), ?_⟩
 exact beo
theorem oW(b k:Int)(l:Bool)(w:World)(hT:Tab w 5 lenCells):
  Calls Tryo.prog 146 #[.agg #[.int .i64 b,.int .i64 k,.bool l]] w fun e w'=>∃v,e= .returned v/\Ints w' w.heap.size v (lens k l)/\Below w.heap.size w w':=by
 by_cases h0:k=0
 ·subst h0
  cases l
  ·rw [UQ];exact Gh b w hT
  ·rw [U4];exact Gn b w hT
 ·by_cases h2:k=2
  ·subst h2
   cases l
   ·rw [UE];exact Gw b w hT
   ·rw [Um];exact FB b w hT
  ·cases l
   ·rw [Uv k h0 h2];exact Fg b k w hT h0 h2
   ·rw [UO k h0 h2];exact Fq b k w hT h0 h2
end
section
open Go.ChangeShapes Go.WideShapes Go.ChangeAt Go.RowKit
end
section
open Go.ChangeShapes Go.WideShapes Go.ChangeAt Go.RowKit
def cnt(b k:Int)(l:Bool):Int:=if number b k l=0 then 0 else if l then 13 else 12
def has(b k:Int)(l:Bool)(m:Int):Bool:=decide (1<=m)&&decide (m<=cnt b k l)
def pq(b k:Int)(l:Bool)(m:Int):Int:=if has b k l m then(lens k l).getD (m-1).toNat 0 else 0
def jc(b k:Int)(l:Bool)(m:Int):Int:=if has b k l m then((lens k l).take (m-1).toNat).sum else 0
def jy:List Int->Int->Int->Int×Int×Bool
 | [],_,_=>(0,0,false)
 |x :: r,i,n=>if n<=x then(i,n,true)else jy r (i+1) (n-x)
def zC(b k:Int)(l:Bool)(n:Int):Int×Int×Bool:=if n<1 then(0,0,false)else jy ((lens k l).take (cnt b k l).toNat) 1 n
theorem lQ(k:Int)(l:Bool):(lens k l).length=if l then 13 else 12:=by cases l <;> simp [lens]
theorem Ao(b k:Int)(l:Bool):0<=cnt b k l/\cnt b k l<=13:=by unfold cnt;split <;> (try split) <;> omega
theorem CY(b k:Int)(l:Bool):cnt b k l<=(lens k l).length:=by rw [lQ];unfold cnt;split <;> cases l <;> simp
theorem VD(b k:Int)(l:Bool)(h:number b k l=0):cnt b k l=0:=by unfold cnt;rw [if_pos h]
theorem O1(b k:Int)(l:Bool)(h:number b k l≠0):cnt b k l=(lens k l).length:=by rw [lQ];unfold cnt;rw [if_neg h];cases l <;> rfl
theorem sZ(k:Int)(l:Bool):∀x∈lens k l,29<=x/\x<=30:=by
 intro x hx
 simp only [lens,List.mem_append,List.mem_cons,List.not_mem_nil,or_false]at hx
 rcases hx with (h|h|h|h|h)|h|h
 ·omega
 ·split at h <;> omega
 ·split at h <;> omega
 ·omega
 ·omega
 ·cases l <;> simp at h;omega
 ·omega
theorem Jm(k:Int)(l:Bool)(j:Nat)(hj:j<(lens k l).length):∃x,(lens k l)[j]? =some x/\(lens k l).getD j 0=x/\29<=x/\x<=30:=by
 refine⟨_,List.getElem?_eq_getElem hj,by simp [List.getD,List.getElem?_eq_getElem hj],sZ k l _ (List.getElem_mem hj)⟩
theorem nV(xs:List Int)(j:Nat)(x:Int)(h:xs[j]? =some x):(xs.take (j+1)).sum=(xs.take j).sum+x:=by
 rw [List.take_add_one,h];simp
theorem Iw(xs:List Int)(h:∀x∈xs,29<=x/\x<=30):∀j:Nat,0<=(xs.take j).sum/\(xs.take j).sum<=30*j
 |0=>by simp
 | j+1=>by
  have ih:=Iw xs h j
  cases hj:xs[j]? with
  |none=>rw [List.take_add_one,hj];simp;omega
  |some x=>
   have:=h x (List.mem_of_getElem? hj)
   rw [nV xs j x hj];omega
theorem Eu(xs:List Int)(j:Nat)(x i n:Int)(h:xs[j]? =some x)(hx:¬ n<=x):jy (xs.drop j) i n=jy (xs.drop (j+1)) (i+1) (n-x):=by
 have hl:=(List.getElem?_eq_some_iff.1 h).1
 rw [List.drop_eq_getElem_cons hl,jy,(List.getElem?_eq_some_iff.1 h).2,if_neg hx]
theorem GL(xs:List Int)(j:Nat)(x i n:Int)(h:xs[j]? =some x)(hx:n<=x):jy (xs.drop j) i n=(i,n,true):=by
 have hl:=(List.getElem?_eq_some_iff.1 h).1
 rw [List.drop_eq_getElem_cons hl,jy,(List.getElem?_eq_some_iff.1 h).2,if_pos hx]
theorem Qw(xs:List Int)(j:Nat)(i n:Int)(h:xs.length<=j):jy (xs.drop j) i n=(0,0,false):=by
 rw [List.drop_eq_nil_of_le h];rfl
theorem kR(b k:Int)(l:Bool)(w:World)(hT:Tab w 7 kevCells):
  Calls Tryo.prog 107 #[.agg #[.int .i64 b,.int .i64 k,.bool l]] w fun e w'=>e= .returned (.int .i64 (cnt b k l))/\Below w.heap.size w w':=by
 have hN:=fun(w:World) (h:Tab w 7 kevCells)=>zH b k l w h
 by_cases h:number b k l=0
 ·rw [VD b k l h]
  rw [h]at hN
  have HN:=Lib.hid hN
  clear hN h
  go_enter Tryo.func107,Tryz.ntmps107
  go_wp2_with fail
  refine(HN.out _ (Tab.below hT (ba _ _))).mono ?_
  rintro e w1 ⟨rfl,hb1⟩
  obtain⟨hc1,hf1⟩:=aA hb1
  have hz1:=hb1.size
  try simp at hz1
  have hl1w:w.heap.size<w1.heap.size:=by omega
  have hm1w:w.heap.size<=w1.heap.size:=by omega
  have g1x0:w1.cell? ⟨w.heap.size,0,none⟩=some (.int .i64 b):=aR hc1
  have g1x1:w1.cell? ⟨w.heap.size,1,none⟩=some (.int .i64 k):=aR hc1
  have g1x2:w1.cell? ⟨w.heap.size,2,none⟩=some (.bool l):=aR hc1
  go_wp2_with fail
  go_ret
  exact⟨rfl,bt (ba _ _) hb1⟩
 ·have q:(number b k l==0)=false:=by rw [beq_eq_false_iff_ne];exact h
  rw [O1 b k l h,lQ]
  have HN:=Lib.hid hN
  clear hN h
  cases l
  ·generalize number b k false=N at*
   go_enter Tryo.func107,Tryz.ntmps107
   go_wp2_with fail
   refine(HN.out _ (Tab.below hT (ba _ _))).mono ?_
   rintro e w1 ⟨rfl,hb1⟩
   obtain⟨hc1,hf1⟩:=aA hb1
   have hz1:=hb1.size
   try simp at hz1
   have hl1w:w.heap.size<w1.heap.size:=by omega
   have hm1w:w.heap.size<=w1.heap.size:=by omega
   have g1x0:w1.cell? ⟨w.heap.size,0,none⟩=some (.int .i64 b):=aR hc1
   have g1x1:w1.cell? ⟨w.heap.size,1,none⟩=some (.int .i64 k):=aR hc1
   have g1x2:w1.cell? ⟨w.heap.size,2,none⟩=some (.bool false):=aR hc1
   go_wp2_with fail
   go_ret
   exact⟨rfl,bt (ba _ _) hb1⟩
  ·generalize number b k true=N at*
   go_enter Tryo.func107,Tryz.ntmps107
   go_wp2_with fail
   refine(HN.out _ (Tab.below hT (ba _ _))).mono ?_
   rintro e w1 ⟨rfl,hb1⟩
   obtain⟨hc1,hf1⟩:=aA hb1
   have hz1:=hb1.size
   try simp at hz1
   have hl1w:w.heap.size<w1.heap.size:=by omega
   have hm1w:w.heap.size<=w1.heap.size:=by omega
   have g1x0:w1.cell? ⟨w.heap.size,0,none⟩=some (.int .i64 b):=aR hc1
   have g1x1:w1.cell? ⟨w.heap.size,1,none⟩=some (.int .i64 k):=aR hc1
   have g1x2:w1.cell? ⟨w.heap.size,2,none⟩=some (.bool true):=aR hc1
   go_wp2_with fail
   go_ret
   exact⟨rfl,bt (ba _ _) hb1⟩
theorem FV(b k:Int)(l:Bool)(j:Nat)(x:Int)(w:World)(hT:Tab w 7 kevCells)(hL:Tab w 5 lenCells)(hj:(j:Int)+1<=cnt b k l)(hx:(lens k l)[j]? =some x):
  Calls Tryo.prog 109 #[.agg #[.int .i64 b,.int .i64 k,.bool l],.int .i64 ((j:Int)+1)] w fun e w'=>e= .returned (.int .i64 x)/\Below w.heap.size w w':=by
 have hl:=CY b k l
 have hb0:=Ao b k l
 have HC:=Lib.hid (fun w h=>kR b k l w h)
 generalize cnt b k l=C at*
 rw [lQ]at hl
 cases l
 ·have h1:(j:Int)<12:=by simp at hl;omega
  have h2:(0:Int)<=(j:Int):=by omega
  have hn:(j:Int)<=13:=by omega
  have HX:=Lib.hid hx
  clear hl hx
  go_enter Tryo.func109,Tryz.ntmps109
  go_wp2_with fail
  refine(HC.out _ (Tab.below hT (ba _ _))).mono ?_
  rintro e w1 ⟨rfl,hb1⟩
  obtain⟨hc1,hf1⟩:=aA hb1
  have hz1:=hb1.size
  try simp at hz1
  have hl1w:w.heap.size<w1.heap.size:=by omega
  have hm1w:w.heap.size<=w1.heap.size:=by omega
  have g1x0:w1.cell? ⟨w.heap.size,0,none⟩=some (.int .i64 b):=aR hc1
  have g1x1:w1.cell? ⟨w.heap.size,1,none⟩=some (.int .i64 k):=aR hc1
  have g1x2:w1.cell? ⟨w.heap.size,2,none⟩=some (.bool false):=aR hc1
  go_wp2_with fail
  refine(oW b k false _ (Tab.below hL (bt (ba _ _) hb1))).mono ?_
  rintro e w2 ⟨v,rfl,⟨g,cap,rfl,hcap,hBg,hg,hcell⟩,hb2⟩
  have hcx:=hcell j x HX.out
  clear hcell hcap
  rw [lQ]
  go_wp2_with fail
  go_ret
  exact⟨rfl,bt (bt (ba _ _) hb1) hb2⟩
 ·have h1:(j:Int)<13:=by simp at hl;omega
  have h2:(0:Int)<=(j:Int):=by omega
  have hn:(j:Int)<=13:=by omega
  have HX:=Lib.hid hx
  clear hl hx
  go_enter Tryo.func109,Tryz.ntmps109
  go_wp2_with fail
  refine(HC.out _ (Tab.below hT (ba _ _))).mono ?_
  rintro e w1 ⟨rfl,hb1⟩
  obtain⟨hc1,hf1⟩:=aA hb1
  have hz1:=hb1.size
  try simp at hz1
  have hl1w:w.heap.size<w1.heap.size:=by omega
  have hm1w:w.heap.size<=w1.heap.size:=by omega
  have g1x0:w1.cell? ⟨w.heap.size,0,none⟩=some (.int .i64 b):=aR hc1
  have g1x1:w1.cell? ⟨w.heap.size,1,none⟩=some (.int .i64 k):=aR hc1
  have g1x2:w1.cell? ⟨w.heap.size,2,none⟩=some (.bool true):=aR hc1
  go_wp2_with fail
  refine(oW b k true _ (Tab.below hL (bt (ba _ _) hb1))).mono ?_
  rintro e w2 ⟨v,rfl,⟨g,cap,rfl,hcap,hBg,hg,hcell⟩,hb2⟩
  have hcx:=hcell j x HX.out
  clear hcell hcap
  rw [lQ]
  go_wp2_with fail
  go_ret
  exact⟨rfl,bt (bt (ba _ _) hb1) hb2⟩
theorem FI(b k:Int)(l:Bool)(m:Int)(w:World)(hT:Tab w 7 kevCells)(hL:Tab w 5 lenCells)(h:has b k l m=false):
  Calls Tryo.prog 109 #[.agg #[.int .i64 b,.int .i64 k,.bool l],.int .i64 m] w fun e w'=>e= .returned (.int .i64 0)/\Below w.heap.size w w':=by
 have HC:=Lib.hid (fun w h=>kR b k l w h)
 rcases(show m<1∨(1<=m/\cnt b k l<m) by
  by_cases c:m<1
  ·exact .inl c
  ·refine .inr ⟨by omega, ?_⟩
   unfold has at h
   simp only [Bool.and_eq_false_iff,decide_eq_false_iff_not]at h
   omega)with c|⟨c1,c2⟩
 ·clear h HC
  go_enter Tryo.func109,Tryz.ntmps109
  go_wp2_with fail
  go_ret
  exact⟨rfl,ba _ _⟩
 ·clear h
  generalize cnt b k l=C at*
  go_enter Tryo.func109,Tryz.ntmps109
  go_wp2_with fail
  refine(HC.out _ (Tab.below hT (ba _ _))).mono ?_
  rintro e w1 ⟨rfl,hb1⟩
  obtain⟨hc1,hf1⟩:=aA hb1
  have hz1:=hb1.size
  try simp at hz1
  have hl1w:w.heap.size<w1.heap.size:=by omega
  have hm1w:w.heap.size<=w1.heap.size:=by omega
  have g1x0:w1.cell? ⟨w.heap.size,0,none⟩=some (.int .i64 b):=aR hc1
  have g1x1:w1.cell? ⟨w.heap.size,1,none⟩=some (.int .i64 k):=aR hc1
  have g1x2:w1.cell? ⟨w.heap.size,2,none⟩=some (.bool l):=aR hc1
  go_wp2_with fail
  go_ret
  exact⟨rfl,bt (ba _ _) hb1⟩
theorem N7(b k:Int)(l:Bool)(m:Int)(w:World)(hT:Tab w 7 kevCells)(hL:Tab w 5 lenCells):
  Calls Tryo.prog 109 #[.agg #[.int .i64 b,.int .i64 k,.bool l],.int .i64 m] w fun e w'=>e= .returned (.int .i64 (pq b k l m))/\Below w.heap.size w w':=by
 cases h:has b k l m
 ·rw [pq,h,if_neg Bool.false_ne_true]
  exact FI b k l m w hT hL h
 ·rw [pq,h,if_pos rfl]
  unfold has at h
  simp only [Bool.and_eq_true,decide_eq_true_eq]at h
  have hl:=CY b k l
  obtain⟨x,hx,hx2,_⟩:=Jm k l (m-1).toNat (by omega)
  rw [hx2]
  have:=FV b k l (m-1).toNat x w hT hL (by omega) hx
  rwa [show(((m-1).toNat:Nat):Int)+1=m by omega]at this
end
section
open Go.ChangeShapes Go.WideShapes Go.ChangeAt Go.RowKit
theorem Vq{a b:World}{g:Nat}{v0 v1 v2:Value}(h:a.cell? ⟨g,0,none⟩=some v0/\a.cell? ⟨g,1,none⟩=some v1/\a.cell? ⟨g,2,none⟩=some v2/\g<a.heap.size)(hb:Below a.heap.size a b):
  b.cell? ⟨g,0,none⟩=some v0/\b.cell? ⟨g,1,none⟩=some v1/\b.cell? ⟨g,2,none⟩=some v2/\g<b.heap.size:=
 ⟨(hb.cell (p:=⟨g,0,none⟩) h.2.2.2).trans h.1,(hb.cell (p:=⟨g,1,none⟩) h.2.2.2).trans h.2.1,(hb.cell (p:=⟨g,2,none⟩) h.2.2.2).trans h.2.2.1,Nat.lt_of_lt_of_le h.2.2.2 hb.size⟩
theorem Pv{a b c d:Int}{x y:Bool}(h:(a,c,x)=(b,d,y)):Ending.returned (.tuple #[.int .i64 a,.int .i64 c,.bool x])= .returned (.tuple #[.int .i64 b,.int .i64 d,.bool y]):=by cases h;rfl
theorem Eo(b k:Int)(l:Bool)(j:Nat)(w:World)(hT:Tab w 7 kevCells)(hL:Tab w 5 lenCells)(hj:(j:Int)+1<=cnt b k l):
  Calls Tryo.prog 108 #[.agg #[.int .i64 b,.int .i64 k,.bool l],.int .i64 ((j:Int)+1)] w fun e w'=>e= .returned (.int .i64 ((lens k l).take j).sum)/\Below w.heap.size w w':=by
 have hl:=CY b k l
 have hb0:=Ao b k l
 have hbd:=Lib.hid (sZ k l)
 have HC:=Lib.hid (fun w h=>kR b k l w h)
 have HDs:=Lib.hid (fun w h=>oW b k l w h)
 generalize cnt b k l=C at*
 generalize lens k l=xs at*
 have h2:(0:Int)<=(j:Int):=by omega
 have hn:(j:Int)<=13:=by omega
 have hjl:j<xs.length:=by omega
 go_enter Tryo.func108,Tryz.ntmps108
 go_wp2_with fail
 refine(HC.out _ (Tab.below hT (ba _ _))).mono ?_
 rintro e w1 ⟨rfl,hb1⟩
 obtain⟨hc1,hf1⟩:=aA hb1
 have hz1:=hb1.size
 try simp at hz1
 have hl1w:w.heap.size<w1.heap.size:=by omega
 have hm1w:w.heap.size<=w1.heap.size:=by omega
 have g1x0:w1.cell? ⟨w.heap.size,0,none⟩=some (.int .i64 b):=aR hc1
 have g1x1:w1.cell? ⟨w.heap.size,1,none⟩=some (.int .i64 k):=aR hc1
 have g1x2:w1.cell? ⟨w.heap.size,2,none⟩=some (.bool l):=aR hc1
 go_wp2_with fail
 refine(HDs.out _ (Tab.below hL (bt (ba _ _) hb1))).mono ?_
 rintro e w2 ⟨v,rfl,⟨g,cap,rfl,hcap,hBg,hg,hcell⟩,hb2⟩
 have HCl:=Lib.hid hcell
 have h3:(j:Int)<=(cap:Int):=by omega
 clear hcell
 go_wp2_with fail
 go_loop [5,22] (fun s i=>∃n:Nat,n<=j/\i= .int .i64 n/\s= .int .i64 (xs.take n).sum) (fun _ i=>j-(intOf i).toNat)
 case atStart=>exact⟨0,by omega,rfl,rfl⟩
 case round=>
  obtain⟨n,hn1,rfl,rfl⟩:=hrel
  obtain⟨s1,s2⟩:=Iw xs hbd.out n
  by_cases hlt:n<j
  ·obtain⟨x,hx⟩:∃x,xs[n]? =some x:=⟨_,List.getElem?_eq_getElem (by omega)⟩
   obtain⟨x1,x2⟩:=hbd.out x (List.mem_of_getElem? hx)
   have hcx:=HCl.out n x hx
   have hs:=Lib.hid (nV xs n x hx)
   clear hx
   generalize (xs.take n).sum=S at*
   go_wp2_with fail
   go_round
   case rel=>exact⟨n+1,by omega,by go_num,by rw [hs.out]⟩
   case measure=>simp [intOf];omega
  ·obtain rfl:n=j:=by omega
   go_wp2_with fail
   go_ret
   exact⟨rfl,bt (bt (ba _ _) hb1) hb2⟩
theorem Ej(b k:Int)(l:Bool)(m:Int)(w:World)(hT:Tab w 7 kevCells)(hL:Tab w 5 lenCells)(h:has b k l m=false):
  Calls Tryo.prog 108 #[.agg #[.int .i64 b,.int .i64 k,.bool l],.int .i64 m] w fun e w'=>e= .returned (.int .i64 0)/\Below w.heap.size w w':=by
 have HC:=Lib.hid (fun w h=>kR b k l w h)
 rcases(show m<1∨(1<=m/\cnt b k l<m) by
  by_cases c:m<1
  ·exact .inl c
  ·refine .inr ⟨by omega, ?_⟩
   unfold has at h
   simp only [Bool.and_eq_false_iff,decide_eq_false_iff_not]at h
   omega)with c|⟨c1,c2⟩
 ·clear h HC
  go_enter Tryo.func108,Tryz.ntmps108
  go_wp2_with fail
  go_ret
  exact⟨rfl,ba _ _⟩
 ·clear h
  generalize cnt b k l=C at*
  go_enter Tryo.func108,Tryz.ntmps108
  go_wp2_with fail
  refine(HC.out _ (Tab.below hT (ba _ _))).mono ?_
  rintro e w1 ⟨rfl,hb1⟩
  obtain⟨hc1,hf1⟩:=aA hb1
  have hz1:=hb1.size
  try simp at hz1
  have hl1w:w.heap.size<w1.heap.size:=by omega
  have hm1w:w.heap.size<=w1.heap.size:=by omega
  have g1x0:w1.cell? ⟨w.heap.size,0,none⟩=some (.int .i64 b):=aR hc1
  have g1x1:w1.cell? ⟨w.heap.size,1,none⟩=some (.int .i64 k):=aR hc1
  have g1x2:w1.cell? ⟨w.heap.size,2,none⟩=some (.bool l):=aR hc1
  go_wp2_with fail
  go_ret
  exact⟨rfl,bt (ba _ _) hb1⟩
theorem KE(b k:Int)(l:Bool)(m:Int)(w:World)(hT:Tab w 7 kevCells)(hL:Tab w 5 lenCells):
  Calls Tryo.prog 108 #[.agg #[.int .i64 b,.int .i64 k,.bool l],.int .i64 m] w fun e w'=>e= .returned (.int .i64 (jc b k l m))/\Below w.heap.size w w':=by
 cases h:has b k l m
 ·rw [jc,h,if_neg Bool.false_ne_true]
  exact Ej b k l m w hT hL h
 ·rw [jc,h,if_pos rfl]
  unfold has at h
  simp only [Bool.and_eq_true,decide_eq_true_eq]at h
  have:=Eo b k l (m-1).toNat w hT hL (by omega)
  rwa [show(((m-1).toNat:Nat):Int)+1=m by omega]at this
theorem C8(b k:Int)(l:Bool)(n:Int)(w:World)(hT:Tab w 7 kevCells)(hL:Tab w 5 lenCells)(h1:1<=n)(h64:n<=9223372036854775807):
  Calls Tryo.prog 72 #[.agg #[.int .i64 b,.int .i64 k,.bool l],.int .i64 n] w fun e w'=>e= .returned (.tuple #[.int .i64 (jy ((lens k l).take (cnt b k l).toNat) 1 n).1,.int .i64 (jy ((lens k l).take (cnt b k l).toNat) 1 n).2.1,.bool (jy ((lens k l).take (cnt b k l).toNat) 1 n).2.2])/\Below w.heap.size w w':=by
 have hl:=CY b k l
 have hb0:=Ao b k l
 have hbd:=Lib.hid (sZ k l)
 obtain⟨N,hN⟩:∃N:Nat,cnt b k l=N:=⟨(cnt b k l).toNat,by omega⟩
 have hC:=fun w h=>kR b k l w h
 rw [hN]at hC hl hb0⊢
 have HC:=Lib.hid hC
 have HDs:=Lib.hid (fun w h=>oW b k l w h)
 clear hC hN
 simp only [Int.toNat_natCast]
 generalize lens k l=xs at*
 have hlN:(xs.take N).length=N:=by rw [List.length_take];omega
 have hat:∀i,i<N->(xs.take N)[i]? =xs[i]? :=fun i hi=>List.getElem?_take_of_lt hi
 generalize hF:jy (xs.take N) 1 n=F at*
 have HF:=Lib.hid hF
 have HL:=Lib.hid hlN
 have HA:=Lib.hid hat
 clear hF hlN hat
 go_enter Tryo.func72,Tryz.ntmps72
 go_wp2_with fail
 go_region_held3 (fun x=>x.cell? ⟨w.heap.size,0,none⟩=some (.int .i64 b)/\x.cell? ⟨w.heap.size,1,none⟩=some (.int .i64 k)/\x.cell? ⟨w.heap.size,2,none⟩=some (.bool l)/\w.heap.size<x.heap.size) (first|assumption|go_keep)
   (first | (go_at_call 146;refine(HDs.out _ (Tab.below hL beo)).mono ?_;rintro e w1 ⟨v,rfl,⟨g,cap,rfl,hcap,hBg,hg,hcell⟩,hb1⟩;have hk1:=Vq (by assumption) hb1;have h3:(N:Int)<=(cap:Int):=(by omega);have HCl:=Lib.hid hcell;clear hcell)
             |(go_at_call 107;refine(HC.out _ (Tab.below hT beo)).mono ?_;rintro e w2 ⟨rfl,hb2⟩;have hk2:=Vq (by assumption) hb2))
 all_goals go_wp2_with fail
 have HCl2:=Lib.hid (fun(j:Nat) (x:Int) hj=>(hb2.cell (p:=⟨g,j,none⟩) hg).trans (HCl.out j x hj))
 go_loop [17,1] (fun i m=>∃ (n':Nat) (z:Int),n'<=N/\i= .int .i64 n'/\m= .int .i64 z/\1<=z/\z<=9223372036854775807/\Hid (jy ((xs.take N).drop n') ((n':Int)+1) z=F)) (fun i _=>N-(intOf i).toNat)
 case atStart=>exact⟨0,n,by omega,rfl,rfl,by omega,by omega,HF⟩
 case round=>
  obtain⟨i,z,hi1,rfl,rfl,z1,z2,hI⟩:=hrel
  by_cases hlt:i<N
  ·obtain⟨x,hx⟩:∃x,xs[i]? =some x:=⟨_,List.getElem?_eq_getElem (by omega)⟩
   obtain⟨x1,x2⟩:=hbd.out x (List.mem_of_getElem? hx)
   have hcx:=HCl2.out i x hx
   have hy:=(HA.out i hlt).trans hx
   clear hx
   by_cases hzx:z<=x
   ·have hR:=Lib.hid ((GL _ i x _ z hy hzx).symm.trans hI.out)
    clear hy hI
    go_wp2_with fail
    go_ret3
    exact⟨Pv hR.out,bt (bt (bdw (ba _ _)) hb1) hb2⟩
   ·have hR:=Lib.hid ((Eu _ i x _ z hy hzx).symm.trans hI.out)
    clear hy hI
    go_wp2_with fail
    go_round
    case rel=>exact⟨i+1,z-x,by omega,by go_num,rfl,by omega,by omega,hR⟩
    case measure=>simp [intOf];omega
  ·have hR:=Lib.hid ((Qw _ i _ z (by rw [HL.out];omega)).symm.trans hI.out)
   clear hI
   go_wp2_with fail
   go_ret3
   exact⟨Pv hR.out,bt (bt (bdw (ba _ _)) hb1) hb2⟩
theorem Fj(b k:Int)(l:Bool)(n:Int)(w:World)(h:n<1):
  Calls Tryo.prog 72 #[.agg #[.int .i64 b,.int .i64 k,.bool l],.int .i64 n] w fun e w'=>e= .returned (.tuple #[.int .i64 0,.int .i64 0,.bool false])/\Below w.heap.size w w':=by
 go_enter Tryo.func72,Tryz.ntmps72
 go_wp2_with fail
 go_ret3
 exact⟨rfl,ba _ _⟩
theorem OD(b k:Int)(l:Bool)(n:Int)(w:World)(hT:Tab w 7 kevCells)(hL:Tab w 5 lenCells)(h64:n<=9223372036854775807):
  Calls Tryo.prog 72 #[.agg #[.int .i64 b,.int .i64 k,.bool l],.int .i64 n] w fun e w'=>e= .returned (.tuple #[.int .i64 (zC b k l n).1,.int .i64 (zC b k l n).2.1,.bool (zC b k l n).2.2])/\Below w.heap.size w w':=by
 by_cases h:n<1
 ·rw [zC,if_pos h]
  exact Fj b k l n w h
 ·rw [zC,if_neg h]
  exact C8 b k l n w hT hL (by omega) h64
end
end Go.Proofs.YthnjjcoahdhmnaaGreatDoor
