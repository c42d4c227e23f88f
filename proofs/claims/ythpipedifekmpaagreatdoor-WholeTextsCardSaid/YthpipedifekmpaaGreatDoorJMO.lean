import Derived.Test.YthpipedifekmpaaGreatDoorJKE
import Derived.Deep.RegionHeld3
import Derived.RegionTactic
import Derived.BigRegion
import Derived.Lib.SmallJoins
import Derived.Test.YthpipedifekmpaaGreatDoorJBB
import Derived.Deep.AppendLies
import Derived.OwnWalk
import Derived.LoopTactic
set_option maxHeartbeats 8000000
set_option maxRecDepth 100000
set_option linter.unusedVariables false
namespace Go.Proofs.YthpipedifekmpaaGreatDoor
section
open Go.ChangeShapes Go.WideShapes Go.ChangeAt Go.RowKit
def lenCells:List Value:= [30,29,30,29,30,30,29,30,29,30,29,30,29].map (Value.int .i64)
def lens(k:Int)(l:Bool):List Int:= [30,if k=2 then 30 else 29,if k=0 then 29 else 30,29,30]++((if l then [30]else [])++ [29,30,29,30,29,30,29])
def Ints(w:World)(B:Nat)(v:Value)(xs:List Int):Prop:=∃g cap,v= .slice (some ⟨g,0,none⟩) xs.length cap/\xs.length<=cap/\B<=g/\g<w.heap.size/\∀ (j:Nat) x,xs[j]? =some x->w.cell? ⟨g,j,none⟩=some (.int .i64 x)
theorem ints_lit{W:World}{B g cap n:Nat}{xs:List Int}{arr:Array Value}(hh:∀j,W.cell? ⟨g,j,none⟩=arr[j]?)(hn:n=xs.length)(hx:arr.toList.take xs.length=xs.map (Value.int .i64))(hc:xs.length<=cap)(hB:B<=g)(hg:g<W.heap.size):
  Ints W B (.slice (some ⟨g,0,none⟩) n cap) xs:=
 ⟨g,cap,by rw [hn],hc,hB,hg,fun j x hj=>by
  have hl:j<xs.length:=(List.getElem?_eq_some_iff.1 hj).1
  have h1:(arr.toList.take xs.length)[j]? =some (.int .i64 x):=by rw [hx,List.getElem?_map,hj];rfl
  rw [List.getElem?_take_of_lt hl]at h1
  rw [hh j]
  simpa using h1⟩
theorem Ints.below{w w':World}{B:Nat}{v:Value}{xs:List Int}(h:Ints w B v xs)(hb:Below w.heap.size w w'):Ints w' B v xs:=by
 obtain⟨g,cap,h1,h2,h3,h4,h5⟩:=h
 exact⟨g,cap,h1,h2,h3,Nat.lt_of_lt_of_le h4 hb.size,fun j x hj=>(hb.cell (p:=⟨g,j,none⟩) h4).trans (h5 j x hj)⟩
theorem lens_0f:lens (0) false= [30,29,29,29,30,29,30,29,30,29,30,29]:=by simp [lens]
theorem month_days_0f(b:Int)(w:World)(hT:Tab w 4 lenCells):
  Calls Tryo.prog 53 #[.agg #[.int .i64 b,.int .i64 0,.bool false]] w fun e w'=>∃v,e= .returned v/\Ints w' w.heap.size v [30,29,29,29,30,29,30,29,30,29,30,29]/\Below w.heap.size w w':=by
 have hlt0:=hT.lt
 obtain⟨t,hT⟩:=hT
 have hT2:w.heap[4]? =some (.cells #[.int .i64 30,.int .i64 29,.int .i64 30,.int .i64 29,.int .i64 30,.int .i64 30,.int .i64 29,.int .i64 30,.int .i64 29,.int .i64 30,.int .i64 29,.int .i64 30,.int .i64 29] t (0,0)):=hT
 have HT:=Lib.hid hT2
 clear hT hT2
 go_enter Tryo.func53,Tryz.ntmps53
 go_wp2_with (refine wpList_load_row rfl 129 _ rfl 4 rfl t #[.int .i64 30,.int .i64 29,.int .i64 30,.int .i64 29,.int .i64 30,.int .i64 30,.int .i64 29,.int .i64 30,.int .i64 29,.int .i64 30,.int .i64 29,.int .i64 30,.int .i64 29] (0,0) _ ((Below.heap_alloc _ _ _ hlt0).trans HT.out) (und_o Tryz.underlying129) rfl (by kernel_rfl) ?_)
 go_region
 go_wp2_with fail
 go_ret
 refine⟨_,rfl,ints_lit (g:=w.heap.size+1) (fun j=>Joins.cell_alloc_mark_at _ _ _ _ _ _ (by simp)) rfl rfl (by decide) (by omega) (by simp), ?_⟩
 repeat(first|exact Below.refl _ _|assumption|(with_reducible refine bdrew ?_)|(with_reducible refine baa ?_ _)|(with_reducible refine bs ?_ (by first|exact Nat.le_refl _|omega|(simp;omega)) _)|(with_reducible refine bt ?_ (by assumption)))
theorem lens_2f:lens (2) false= [30,30,30,29,30,29,30,29,30,29,30,29]:=by simp [lens]
theorem month_days_2f(b:Int)(w:World)(hT:Tab w 4 lenCells):
  Calls Tryo.prog 53 #[.agg #[.int .i64 b,.int .i64 2,.bool false]] w fun e w'=>∃v,e= .returned v/\Ints w' w.heap.size v [30,30,30,29,30,29,30,29,30,29,30,29]/\Below w.heap.size w w':=by
 have hlt0:=hT.lt
 obtain⟨t,hT⟩:=hT
 have hT2:w.heap[4]? =some (.cells #[.int .i64 30,.int .i64 29,.int .i64 30,.int .i64 29,.int .i64 30,.int .i64 30,.int .i64 29,.int .i64 30,.int .i64 29,.int .i64 30,.int .i64 29,.int .i64 30,.int .i64 29] t (0,0)):=hT
 have HT:=Lib.hid hT2
 clear hT hT2
 go_enter Tryo.func53,Tryz.ntmps53
 go_wp2_with (refine wpList_load_row rfl 129 _ rfl 4 rfl t #[.int .i64 30,.int .i64 29,.int .i64 30,.int .i64 29,.int .i64 30,.int .i64 30,.int .i64 29,.int .i64 30,.int .i64 29,.int .i64 30,.int .i64 29,.int .i64 30,.int .i64 29] (0,0) _ ((Below.heap_alloc _ _ _ hlt0).trans HT.out) (und_o Tryz.underlying129) rfl (by kernel_rfl) ?_)
 go_region
 go_wp2_with fail
 go_ret
 refine⟨_,rfl,ints_lit (g:=w.heap.size+1) (fun j=>Joins.cell_alloc_mark_at _ _ _ _ _ _ (by simp)) rfl rfl (by decide) (by omega) (by simp), ?_⟩
 repeat(first|exact Below.refl _ _|assumption|(with_reducible refine bdrew ?_)|(with_reducible refine baa ?_ _)|(with_reducible refine bs ?_ (by first|exact Nat.le_refl _|omega|(simp;omega)) _)|(with_reducible refine bt ?_ (by assumption)))
theorem lens_xf(k:Int)(h0:¬ k=0)(h2:¬ k=2):lens k false= [30,29,30,29,30,29,30,29,30,29,30,29]:=by simp [lens,h0,h2]
theorem month_days_xf(b k:Int)(w:World)(hT:Tab w 4 lenCells)(h0:¬ k=0)(h2:¬ k=2):
  Calls Tryo.prog 53 #[.agg #[.int .i64 b,.int .i64 k,.bool false]] w fun e w'=>∃v,e= .returned v/\Ints w' w.heap.size v [30,29,30,29,30,29,30,29,30,29,30,29]/\Below w.heap.size w w':=by
 have hlt0:=hT.lt
 obtain⟨t,hT⟩:=hT
 have hT2:w.heap[4]? =some (.cells #[.int .i64 30,.int .i64 29,.int .i64 30,.int .i64 29,.int .i64 30,.int .i64 30,.int .i64 29,.int .i64 30,.int .i64 29,.int .i64 30,.int .i64 29,.int .i64 30,.int .i64 29] t (0,0)):=hT
 have HT:=Lib.hid hT2
 clear hT hT2
 have q0:(k==0)=false:=by simpa using h0
 have q2:(k==2)=false:=by simpa using h2
 clear h0 h2
 go_enter Tryo.func53,Tryz.ntmps53
 go_wp2_with (refine wpList_load_row rfl 129 _ rfl 4 rfl t #[.int .i64 30,.int .i64 29,.int .i64 30,.int .i64 29,.int .i64 30,.int .i64 30,.int .i64 29,.int .i64 30,.int .i64 29,.int .i64 30,.int .i64 29,.int .i64 30,.int .i64 29] (0,0) _ ((Below.heap_alloc _ _ _ hlt0).trans HT.out) (und_o Tryz.underlying129) rfl (by kernel_rfl) ?_)
 go_region
 go_wp2_with fail
 go_ret
 refine⟨_,rfl,ints_lit (g:=w.heap.size+1) (fun j=>Joins.cell_alloc_mark_at _ _ _ _ _ _ (by simp)) rfl rfl (by decide) (by omega) (by simp), ?_⟩
 repeat(first|exact Below.refl _ _|assumption|(with_reducible refine bdrew ?_)|(with_reducible refine baa ?_ _)|(with_reducible refine bs ?_ (by first|exact Nat.le_refl _|omega|(simp;omega)) _)|(with_reducible refine bt ?_ (by assumption)))
theorem lens_0t:lens (0) true= [30,29,29,29,30,30,29,30,29,30,29,30,29]:=by simp [lens]
theorem month_days_0t(b:Int)(w:World)(hT:Tab w 4 lenCells):
  Calls Tryo.prog 53 #[.agg #[.int .i64 b,.int .i64 0,.bool true]] w fun e w'=>∃v,e= .returned v/\Ints w' w.heap.size v [30,29,29,29,30,30,29,30,29,30,29,30,29]/\Below w.heap.size w w':=by
 have hlt0:=hT.lt
 obtain⟨t,hT⟩:=hT
 have hT2:w.heap[4]? =some (.cells #[.int .i64 30,.int .i64 29,.int .i64 30,.int .i64 29,.int .i64 30,.int .i64 30,.int .i64 29,.int .i64 30,.int .i64 29,.int .i64 30,.int .i64 29,.int .i64 30,.int .i64 29] t (0,0)):=hT
 have HT:=Lib.hid hT2
 clear hT hT2
 go_enter Tryo.func53,Tryz.ntmps53
 go_wp2_with (refine wpList_load_row rfl 129 _ rfl 4 rfl t #[.int .i64 30,.int .i64 29,.int .i64 30,.int .i64 29,.int .i64 30,.int .i64 30,.int .i64 29,.int .i64 30,.int .i64 29,.int .i64 30,.int .i64 29,.int .i64 30,.int .i64 29] (0,0) _ ((Below.heap_alloc _ _ _ hlt0).trans HT.out) (und_o Tryz.underlying129) rfl (by kernel_rfl) ?_)
 go_ret
 refine⟨_,rfl,ints_lit (g:=w.heap.size+1) (fun j=>Joins.cell_alloc_mark_at _ _ _ _ _ _ (by simp)) rfl rfl (by decide) (by omega) (by simp), ?_⟩
 repeat(first|exact Below.refl _ _|assumption|(with_reducible refine bdrew ?_)|(with_reducible refine baa ?_ _)|(with_reducible refine bs ?_ (by first|exact Nat.le_refl _|omega|(simp;omega)) _)|(with_reducible refine bt ?_ (by assumption)))
theorem lens_2t:lens (2) true= [30,30,30,29,30,30,29,30,29,30,29,30,29]:=by simp [lens]
theorem month_days_2t(b:Int)(w:World)(hT:Tab w 4 lenCells):
  Calls Tryo.prog 53 #[.agg #[.int .i64 b,.int .i64 2,.bool true]] w fun e w'=>∃v,e= .returned v/\Ints w' w.heap.size v [30,30,30,29,30,30,29,30,29,30,29,30,29]/\Below w.heap.size w w':=by
 have hlt0:=hT.lt
 obtain⟨t,hT⟩:=hT
 have hT2:w.heap[4]? =some (.cells #[.int .i64 30,.int .i64 29,.int .i64 30,.int .i64 29,.int .i64 30,.int .i64 30,.int .i64 29,.int .i64 30,.int .i64 29,.int .i64 30,.int .i64 29,.int .i64 30,.int .i64 29] t (0,0)):=hT
 have HT:=Lib.hid hT2
 clear hT hT2
 go_enter Tryo.func53,Tryz.ntmps53
 go_wp2_with (refine wpList_load_row rfl 129 _ rfl 4 rfl t #[.int .i64 30,.int .i64 29,.int .i64 30,.int .i64 29,.int .i64 30,.int .i64 30,.int .i64 29,.int .i64 30,.int .i64 29,.int .i64 30,.int .i64 29,.int .i64 30,.int .i64 29] (0,0) _ ((Below.heap_alloc _ _ _ hlt0).trans HT.out) (und_o Tryz.underlying129) rfl (by kernel_rfl) ?_)
 go_ret
 refine⟨_,rfl,ints_lit (g:=w.heap.size+1) (fun j=>Joins.cell_alloc_mark_at _ _ _ _ _ _ (by simp)) rfl rfl (by decide) (by omega) (by simp), ?_⟩
 repeat(first|exact Below.refl _ _|assumption|(with_reducible refine bdrew ?_)|(with_reducible refine baa ?_ _)|(with_reducible refine bs ?_ (by first|exact Nat.le_refl _|omega|(simp;omega)) _)|(with_reducible refine bt ?_ (by assumption)))
theorem lens_xt(k:Int)(h0:¬ k=0)(h2:¬ k=2):lens k true= [30,29,30,29,30,30,29,30,29,30,29,30,29]:=by simp [lens,h0,h2]
theorem month_days_xt(b k:Int)(w:World)(hT:Tab w 4 lenCells)(h0:¬ k=0)(h2:¬ k=2):
  Calls Tryo.prog 53 #[.agg #[.int .i64 b,.int .i64 k,.bool true]] w fun e w'=>∃v,e= .returned v/\Ints w' w.heap.size v [30,29,30,29,30,30,29,30,29,30,29,30,29]/\Below w.heap.size w w':=by
 have hlt0:=hT.lt
 obtain⟨t,hT⟩:=hT
 have hT2:w.heap[4]? =some (.cells #[.int .i64 30,.int .i64 29,.int .i64 30,.int .i64 29,.int .i64 30,.int .i64 30,.int .i64 29,.int .i64 30,.int .i64 29,.int .i64 30,.int .i64 29,.int .i64 30,.int .i64 29] t (0,0)):=hT
 have HT:=Lib.hid hT2
 clear hT hT2
 have q0:(k==0)=false:=by simpa using h0
 have q2:(k==2)=false:=by simpa using h2
 clear h0 h2
 go_enter Tryo.func53,Tryz.ntmps53
 go_wp2_with (refine wpList_load_row rfl 129 _ rfl 4 rfl t #[.int .i64 30,.int .i64 29,.int .i64 30,.int .i64 29,.int .i64 30,.int .i64 30,.int .i64 29,.int .i64 30,.int .i64 29,.int .i64 30,.int .i64 29,.int .i64 30,.int .i64 29] (0,0) _ ((Below.heap_alloc _ _ _ hlt0).trans HT.out) (und_o Tryz.underlying129) rfl (by kernel_rfl) ?_)
 go_ret
 refine⟨_,rfl,ints_lit (g:=w.heap.size+1) (fun j=>Joins.cell_alloc_mark_at _ _ _ _ _ _ (by simp)) rfl rfl (by decide) (by omega) (by simp), ?_⟩
 repeat(first|exact Below.refl _ _|assumption|(with_reducible refine bdrew ?_)|(with_reducible refine baa ?_ _)|(with_reducible refine bs ?_ (by first|exact Nat.le_refl _|omega|(simp;omega)) _)|(with_reducible refine bt ?_ (by assumption)))
theorem month_days(b k:Int)(l:Bool)(w:World)(hT:Tab w 4 lenCells):
  Calls Tryo.prog 53 #[.agg #[.int .i64 b,.int .i64 k,.bool l]] w fun e w'=>∃v,e= .returned v/\Ints w' w.heap.size v (lens k l)/\Below w.heap.size w w':=by
 by_cases h0:k=0
 ·subst h0
  cases l
  ·rw [lens_0f];exact month_days_0f b w hT
  ·rw [lens_0t];exact month_days_0t b w hT
 ·by_cases h2:k=2
  ·subst h2
   cases l
   ·rw [lens_2f];exact month_days_2f b w hT
   ·rw [lens_2t];exact month_days_2t b w hT
  ·cases l
   ·rw [lens_xf k h0 h2];exact month_days_xf b k w hT h0 h2
   ·rw [lens_xt k h0 h2];exact month_days_xt b k w hT h0 h2
end
section
open Go.ChangeShapes Go.WideShapes Go.ChangeAt Go.RowKit
end
section
open Go.ChangeShapes Go.WideShapes Go.ChangeAt Go.RowKit
def cnt(b k:Int)(l:Bool):Int:=if number b k l=0 then 0 else if l then 13 else 12
def has(b k:Int)(l:Bool)(m:Int):Bool:=decide (1<=m)&&decide (m<=cnt b k l)
def daysV(b k:Int)(l:Bool)(m:Int):Int:=if has b k l m then(lens k l).getD (m-1).toNat 0 else 0
def aheadV(b k:Int)(l:Bool)(m:Int):Int:=if has b k l m then((lens k l).take (m-1).toNat).sum else 0
def findL:List Int->Int->Int->Int×Int×Bool
 | [],_,_=>(0,0,false)
 |x :: r,i,n=>if n<=x then(i,n,true)else findL r (i+1) (n-x)
def findV(b k:Int)(l:Bool)(n:Int):Int×Int×Bool:=if n<1 then(0,0,false)else findL ((lens k l).take (cnt b k l).toNat) 1 n
theorem lens_len(k:Int)(l:Bool):(lens k l).length=if l then 13 else 12:=by cases l <;> simp [lens]
theorem cnt_bd(b k:Int)(l:Bool):0<=cnt b k l/\cnt b k l<=13:=by unfold cnt;split <;> (try split) <;> omega
theorem cnt_le(b k:Int)(l:Bool):cnt b k l<=(lens k l).length:=by rw [lens_len];unfold cnt;split <;> cases l <;> simp
theorem cnt_no(b k:Int)(l:Bool)(h:number b k l=0):cnt b k l=0:=by unfold cnt;rw [if_pos h]
theorem cnt_yes(b k:Int)(l:Bool)(h:number b k l≠0):cnt b k l=(lens k l).length:=by rw [lens_len];unfold cnt;rw [if_neg h];cases l <;> rfl
theorem lens_bd(k:Int)(l:Bool):∀x∈lens k l,29<=x/\x<=30:=by
 intro x hx
 simp only [lens,List.mem_append,List.mem_cons,List.not_mem_nil,or_false]at hx
 rcases hx with (h|h|h|h|h)|h|h
 ·omega
 ·split at h <;> omega
 ·split at h <;> omega
 ·omega
 ·omega
 ·cases l <;> simp at h;omega
 ·omega
theorem lens_at(k:Int)(l:Bool)(j:Nat)(hj:j<(lens k l).length):∃x,(lens k l)[j]? =some x/\(lens k l).getD j 0=x/\29<=x/\x<=30:=by
 refine⟨_,List.getElem?_eq_getElem hj,by simp [List.getD,List.getElem?_eq_getElem hj],lens_bd k l _ (List.getElem_mem hj)⟩
theorem sum_take(xs:List Int)(j:Nat)(x:Int)(h:xs[j]? =some x):(xs.take (j+1)).sum=(xs.take j).sum+x:=by
 rw [List.take_add_one,h];simp
theorem sum_bd(xs:List Int)(h:∀x∈xs,29<=x/\x<=30):∀j:Nat,0<=(xs.take j).sum/\(xs.take j).sum<=30*j
 |0=>by simp
 | j+1=>by
  have ih:=sum_bd xs h j
  cases hj:xs[j]? with
  |none=>rw [List.take_add_one,hj];simp;omega
  |some x=>
   have:=h x (List.mem_of_getElem? hj)
   rw [sum_take xs j x hj];omega
theorem findL_step(xs:List Int)(j:Nat)(x i n:Int)(h:xs[j]? =some x)(hx:¬ n<=x):findL (xs.drop j) i n=findL (xs.drop (j+1)) (i+1) (n-x):=by
 have hl:=(List.getElem?_eq_some_iff.1 h).1
 rw [List.drop_eq_getElem_cons hl,findL,(List.getElem?_eq_some_iff.1 h).2,if_neg hx]
theorem findL_hit(xs:List Int)(j:Nat)(x i n:Int)(h:xs[j]? =some x)(hx:n<=x):findL (xs.drop j) i n=(i,n,true):=by
 have hl:=(List.getElem?_eq_some_iff.1 h).1
 rw [List.drop_eq_getElem_cons hl,findL,(List.getElem?_eq_some_iff.1 h).2,if_pos hx]
theorem findL_end(xs:List Int)(j:Nat)(i n:Int)(h:xs.length<=j):findL (xs.drop j) i n=(0,0,false):=by
 rw [List.drop_eq_nil_of_le h];rfl
theorem month_Count(b k:Int)(l:Bool)(w:World)(hT:Tab w 5 kevCells):
  Calls Tryo.prog 54 #[.agg #[.int .i64 b,.int .i64 k,.bool l]] w fun e w'=>e= .returned (.int .i64 (cnt b k l))/\Below w.heap.size w w':=by
 have hN:=fun(w:World) (h:Tab w 5 kevCells)=>keviah_Number_any b k l w h
 by_cases h:number b k l=0
 ·rw [cnt_no b k l h]
  rw [h]at hN
  have HN:=Lib.hid hN
  clear hN h
  go_enter Tryo.func54,Tryz.ntmps54
  go_wp2_with fail
  refine(HN.out _ (Tab.below hT (ba _ _))).mono ?_
  rintro e w1 ⟨rfl,hb1⟩
  obtain⟨hc1,hf1⟩:=bcell hb1
  have hz1:=hb1.size
  try simp at hz1
  have hl1w:w.heap.size<w1.heap.size:=by omega
  have hm1w:w.heap.size<=w1.heap.size:=by omega
  have g1x0:w1.cell? ⟨w.heap.size,0,none⟩=some (.int .i64 b):=celB hc1
  have g1x1:w1.cell? ⟨w.heap.size,1,none⟩=some (.int .i64 k):=celB hc1
  have g1x2:w1.cell? ⟨w.heap.size,2,none⟩=some (.bool l):=celB hc1
  go_wp2_with fail
  go_ret
  exact⟨rfl,bt (ba _ _) hb1⟩
 ·have q:(number b k l==0)=false:=by rw [beq_eq_false_iff_ne];exact h
  rw [cnt_yes b k l h,lens_len]
  have HN:=Lib.hid hN
  clear hN h
  cases l
  ·generalize number b k false=N at*
   go_enter Tryo.func54,Tryz.ntmps54
   go_wp2_with fail
   refine(HN.out _ (Tab.below hT (ba _ _))).mono ?_
   rintro e w1 ⟨rfl,hb1⟩
   obtain⟨hc1,hf1⟩:=bcell hb1
   have hz1:=hb1.size
   try simp at hz1
   have hl1w:w.heap.size<w1.heap.size:=by omega
   have hm1w:w.heap.size<=w1.heap.size:=by omega
   have g1x0:w1.cell? ⟨w.heap.size,0,none⟩=some (.int .i64 b):=celB hc1
   have g1x1:w1.cell? ⟨w.heap.size,1,none⟩=some (.int .i64 k):=celB hc1
   have g1x2:w1.cell? ⟨w.heap.size,2,none⟩=some (.bool false):=celB hc1
   go_wp2_with fail
   go_ret
   exact⟨rfl,bt (ba _ _) hb1⟩
  ·generalize number b k true=N at*
   go_enter Tryo.func54,Tryz.ntmps54
   go_wp2_with fail
   refine(HN.out _ (Tab.below hT (ba _ _))).mono ?_
   rintro e w1 ⟨rfl,hb1⟩
   obtain⟨hc1,hf1⟩:=bcell hb1
   have hz1:=hb1.size
   try simp at hz1
   have hl1w:w.heap.size<w1.heap.size:=by omega
   have hm1w:w.heap.size<=w1.heap.size:=by omega
   have g1x0:w1.cell? ⟨w.heap.size,0,none⟩=some (.int .i64 b):=celB hc1
   have g1x1:w1.cell? ⟨w.heap.size,1,none⟩=some (.int .i64 k):=celB hc1
   have g1x2:w1.cell? ⟨w.heap.size,2,none⟩=some (.bool true):=celB hc1
   go_wp2_with fail
   go_ret
   exact⟨rfl,bt (ba _ _) hb1⟩
theorem month_Days_at(b k:Int)(l:Bool)(j:Nat)(x:Int)(w:World)(hT:Tab w 5 kevCells)(hL:Tab w 4 lenCells)(hj:(j:Int)+1<=cnt b k l)(hx:(lens k l)[j]? =some x):
  Calls Tryo.prog 90 #[.agg #[.int .i64 b,.int .i64 k,.bool l],.int .i64 ((j:Int)+1)] w fun e w'=>e= .returned (.int .i64 x)/\Below w.heap.size w w':=by
 have hl:=cnt_le b k l
 have hb0:=cnt_bd b k l
 have HC:=Lib.hid (fun w h=>month_Count b k l w h)
 generalize cnt b k l=C at*
 rw [lens_len]at hl
 cases l
 ·have h1:(j:Int)<12:=by simp at hl;omega
  have h2:(0:Int)<=(j:Int):=by omega
  have hn:(j:Int)<=13:=by omega
  have HX:=Lib.hid hx
  clear hl hx
  go_enter Tryo.func90,Tryz.ntmps90
  go_wp2_with fail
  refine(HC.out _ (Tab.below hT (ba _ _))).mono ?_
  rintro e w1 ⟨rfl,hb1⟩
  obtain⟨hc1,hf1⟩:=bcell hb1
  have hz1:=hb1.size
  try simp at hz1
  have hl1w:w.heap.size<w1.heap.size:=by omega
  have hm1w:w.heap.size<=w1.heap.size:=by omega
  have g1x0:w1.cell? ⟨w.heap.size,0,none⟩=some (.int .i64 b):=celB hc1
  have g1x1:w1.cell? ⟨w.heap.size,1,none⟩=some (.int .i64 k):=celB hc1
  have g1x2:w1.cell? ⟨w.heap.size,2,none⟩=some (.bool false):=celB hc1
  go_wp2_with fail
  refine(month_days b k false _ (Tab.below hL (bt (ba _ _) hb1))).mono ?_
  rintro e w2 ⟨v,rfl,⟨g,cap,rfl,hcap,hBg,hg,hcell⟩,hb2⟩
  have hcx:=hcell j x HX.out
  clear hcell hcap
  rw [lens_len]
  go_wp2_with fail
  go_ret
  exact⟨rfl,bt (bt (ba _ _) hb1) hb2⟩
 ·have h1:(j:Int)<13:=by simp at hl;omega
  have h2:(0:Int)<=(j:Int):=by omega
  have hn:(j:Int)<=13:=by omega
  have HX:=Lib.hid hx
  clear hl hx
  go_enter Tryo.func90,Tryz.ntmps90
  go_wp2_with fail
  refine(HC.out _ (Tab.below hT (ba _ _))).mono ?_
  rintro e w1 ⟨rfl,hb1⟩
  obtain⟨hc1,hf1⟩:=bcell hb1
  have hz1:=hb1.size
  try simp at hz1
  have hl1w:w.heap.size<w1.heap.size:=by omega
  have hm1w:w.heap.size<=w1.heap.size:=by omega
  have g1x0:w1.cell? ⟨w.heap.size,0,none⟩=some (.int .i64 b):=celB hc1
  have g1x1:w1.cell? ⟨w.heap.size,1,none⟩=some (.int .i64 k):=celB hc1
  have g1x2:w1.cell? ⟨w.heap.size,2,none⟩=some (.bool true):=celB hc1
  go_wp2_with fail
  refine(month_days b k true _ (Tab.below hL (bt (ba _ _) hb1))).mono ?_
  rintro e w2 ⟨v,rfl,⟨g,cap,rfl,hcap,hBg,hg,hcell⟩,hb2⟩
  have hcx:=hcell j x HX.out
  clear hcell hcap
  rw [lens_len]
  go_wp2_with fail
  go_ret
  exact⟨rfl,bt (bt (ba _ _) hb1) hb2⟩
theorem month_Days_no(b k:Int)(l:Bool)(m:Int)(w:World)(hT:Tab w 5 kevCells)(hL:Tab w 4 lenCells)(h:has b k l m=false):
  Calls Tryo.prog 90 #[.agg #[.int .i64 b,.int .i64 k,.bool l],.int .i64 m] w fun e w'=>e= .returned (.int .i64 0)/\Below w.heap.size w w':=by
 have HC:=Lib.hid (fun w h=>month_Count b k l w h)
 rcases(show m<1∨(1<=m/\cnt b k l<m) by
  by_cases c:m<1
  ·exact .inl c
  ·refine .inr ⟨by omega, ?_⟩
   unfold has at h
   simp only [Bool.and_eq_false_iff,decide_eq_false_iff_not]at h
   omega)with c|⟨c1,c2⟩
 ·clear h HC
  go_enter Tryo.func90,Tryz.ntmps90
  go_wp2_with fail
  go_ret
  exact⟨rfl,ba _ _⟩
 ·clear h
  generalize cnt b k l=C at*
  go_enter Tryo.func90,Tryz.ntmps90
  go_wp2_with fail
  refine(HC.out _ (Tab.below hT (ba _ _))).mono ?_
  rintro e w1 ⟨rfl,hb1⟩
  obtain⟨hc1,hf1⟩:=bcell hb1
  have hz1:=hb1.size
  try simp at hz1
  have hl1w:w.heap.size<w1.heap.size:=by omega
  have hm1w:w.heap.size<=w1.heap.size:=by omega
  have g1x0:w1.cell? ⟨w.heap.size,0,none⟩=some (.int .i64 b):=celB hc1
  have g1x1:w1.cell? ⟨w.heap.size,1,none⟩=some (.int .i64 k):=celB hc1
  have g1x2:w1.cell? ⟨w.heap.size,2,none⟩=some (.bool l):=celB hc1
  go_wp2_with fail
  go_ret
  exact⟨rfl,bt (ba _ _) hb1⟩
theorem month_Days(b k:Int)(l:Bool)(m:Int)(w:World)(hT:Tab w 5 kevCells)(hL:Tab w 4 lenCells):
  Calls Tryo.prog 90 #[.agg #[.int .i64 b,.int .i64 k,.bool l],.int .i64 m] w fun e w'=>e= .returned (.int .i64 (daysV b k l m))/\Below w.heap.size w w':=by
 cases h:has b k l m
 ·rw [daysV,h,if_neg Bool.false_ne_true]
  exact month_Days_no b k l m w hT hL h
 ·rw [daysV,h,if_pos rfl]
  unfold has at h
  simp only [Bool.and_eq_true,decide_eq_true_eq]at h
  have hl:=cnt_le b k l
  obtain⟨x,hx,hx2,_⟩:=lens_at k l (m-1).toNat (by omega)
  rw [hx2]
  have:=month_Days_at b k l (m-1).toNat x w hT hL (by omega) hx
  rwa [show(((m-1).toNat:Nat):Int)+1=m by omega]at this
end
section
open Go.ChangeShapes Go.WideShapes Go.ChangeAt Go.RowKit
theorem keep3{a b:World}{g:Nat}{v0 v1 v2:Value}(h:a.cell? ⟨g,0,none⟩=some v0/\a.cell? ⟨g,1,none⟩=some v1/\a.cell? ⟨g,2,none⟩=some v2/\g<a.heap.size)(hb:Below a.heap.size a b):
  b.cell? ⟨g,0,none⟩=some v0/\b.cell? ⟨g,1,none⟩=some v1/\b.cell? ⟨g,2,none⟩=some v2/\g<b.heap.size:=
 ⟨(hb.cell (p:=⟨g,0,none⟩) h.2.2.2).trans h.1,(hb.cell (p:=⟨g,1,none⟩) h.2.2.2).trans h.2.1,(hb.cell (p:=⟨g,2,none⟩) h.2.2.2).trans h.2.2.1,Nat.lt_of_lt_of_le h.2.2.2 hb.size⟩
theorem ret_iib{a b c d:Int}{x y:Bool}(h:(a,c,x)=(b,d,y)):Ending.returned (.tuple #[.int .i64 a,.int .i64 c,.bool x])= .returned (.tuple #[.int .i64 b,.int .i64 d,.bool y]):=by cases h;rfl
theorem month_Ahead_at(b k:Int)(l:Bool)(j:Nat)(w:World)(hT:Tab w 5 kevCells)(hL:Tab w 4 lenCells)(hj:(j:Int)+1<=cnt b k l):
  Calls Tryo.prog 76 #[.agg #[.int .i64 b,.int .i64 k,.bool l],.int .i64 ((j:Int)+1)] w fun e w'=>e= .returned (.int .i64 ((lens k l).take j).sum)/\Below w.heap.size w w':=by
 have hl:=cnt_le b k l
 have hb0:=cnt_bd b k l
 have hbd:=Lib.hid (lens_bd k l)
 have HC:=Lib.hid (fun w h=>month_Count b k l w h)
 have HDs:=Lib.hid (fun w h=>month_days b k l w h)
 generalize cnt b k l=C at*
 generalize lens k l=xs at*
 have h2:(0:Int)<=(j:Int):=by omega
 have hn:(j:Int)<=13:=by omega
 have hjl:j<xs.length:=by omega
 go_enter Tryo.func76,Tryz.ntmps76
 go_wp2_with fail
 refine(HC.out _ (Tab.below hT (ba _ _))).mono ?_
 rintro e w1 ⟨rfl,hb1⟩
 obtain⟨hc1,hf1⟩:=bcell hb1
 have hz1:=hb1.size
 try simp at hz1
 have hl1w:w.heap.size<w1.heap.size:=by omega
 have hm1w:w.heap.size<=w1.heap.size:=by omega
 have g1x0:w1.cell? ⟨w.heap.size,0,none⟩=some (.int .i64 b):=celB hc1
 have g1x1:w1.cell? ⟨w.heap.size,1,none⟩=some (.int .i64 k):=celB hc1
 have g1x2:w1.cell? ⟨w.heap.size,2,none⟩=some (.bool l):=celB hc1
 go_wp2_with fail
 refine(HDs.out _ (Tab.below hL (bt (ba _ _) hb1))).mono ?_
 rintro e w2 ⟨v,rfl,⟨g,cap,rfl,hcap,hBg,hg,hcell⟩,hb2⟩
 have HCl:=Lib.hid hcell
 have h3:(j:Int)<=(cap:Int):=by omega
 clear hcell
 go_wp2_with fail
 go_loop [5,22] (fun s i=>∃n:Nat,n<=j/\i= .int .i64 n/\s= .int .i64 (xs.take n).sum) (fun _ i=>j-(intOf i).toNat)
 case atStart=>exact⟨0,by omega,rfl,rfl⟩
 case round=>
  obtain⟨n,hn1,rfl,rfl⟩:=hrel
  obtain⟨s1,s2⟩:=sum_bd xs hbd.out n
  by_cases hlt:n<j
  ·obtain⟨x,hx⟩:∃x,xs[n]? =some x:=⟨_,List.getElem?_eq_getElem (by omega)⟩
   obtain⟨x1,x2⟩:=hbd.out x (List.mem_of_getElem? hx)
   have hcx:=HCl.out n x hx
   have hs:=Lib.hid (sum_take xs n x hx)
   clear hx
   generalize (xs.take n).sum=S at*
   go_wp2_with fail
   go_round
   case rel=>exact⟨n+1,by omega,by go_num,by rw [hs.out]⟩
   case measure=>simp [intOf];omega
  ·obtain rfl:n=j:=by omega
   go_wp2_with fail
   go_ret
   exact⟨rfl,bt (bt (ba _ _) hb1) hb2⟩
theorem month_Ahead_no(b k:Int)(l:Bool)(m:Int)(w:World)(hT:Tab w 5 kevCells)(hL:Tab w 4 lenCells)(h:has b k l m=false):
  Calls Tryo.prog 76 #[.agg #[.int .i64 b,.int .i64 k,.bool l],.int .i64 m] w fun e w'=>e= .returned (.int .i64 0)/\Below w.heap.size w w':=by
 have HC:=Lib.hid (fun w h=>month_Count b k l w h)
 rcases(show m<1∨(1<=m/\cnt b k l<m) by
  by_cases c:m<1
  ·exact .inl c
  ·refine .inr ⟨by omega, ?_⟩
   unfold has at h
   simp only [Bool.and_eq_false_iff,decide_eq_false_iff_not]at h
   omega)with c|⟨c1,c2⟩
 ·clear h HC
  go_enter Tryo.func76,Tryz.ntmps76
  go_wp2_with fail
  go_ret
  exact⟨rfl,ba _ _⟩
 ·clear h
  generalize cnt b k l=C at*
  go_enter Tryo.func76,Tryz.ntmps76
  go_wp2_with fail
  refine(HC.out _ (Tab.below hT (ba _ _))).mono ?_
  rintro e w1 ⟨rfl,hb1⟩
  obtain⟨hc1,hf1⟩:=bcell hb1
  have hz1:=hb1.size
  try simp at hz1
  have hl1w:w.heap.size<w1.heap.size:=by omega
  have hm1w:w.heap.size<=w1.heap.size:=by omega
  have g1x0:w1.cell? ⟨w.heap.size,0,none⟩=some (.int .i64 b):=celB hc1
  have g1x1:w1.cell? ⟨w.heap.size,1,none⟩=some (.int .i64 k):=celB hc1
  have g1x2:w1.cell? ⟨w.heap.size,2,none⟩=some (.bool l):=celB hc1
  go_wp2_with fail
  go_ret
  exact⟨rfl,bt (ba _ _) hb1⟩
theorem month_Ahead(b k:Int)(l:Bool)(m:Int)(w:World)(hT:Tab w 5 kevCells)(hL:Tab w 4 lenCells):
  Calls Tryo.prog 76 #[.agg #[.int .i64 b,.int .i64 k,.bool l],.int .i64 m] w fun e w'=>e= .returned (.int .i64 (aheadV b k l m))/\Below w.heap.size w w':=by
 cases h:has b k l m
 ·rw [aheadV,h,if_neg Bool.false_ne_true]
  exact month_Ahead_no b k l m w hT hL h
 ·rw [aheadV,h,if_pos rfl]
  unfold has at h
  simp only [Bool.and_eq_true,decide_eq_true_eq]at h
  have:=month_Ahead_at b k l (m-1).toNat w hT hL (by omega)
  rwa [show(((m-1).toNat:Nat):Int)+1=m by omega]at this
theorem month_Find_yes(b k:Int)(l:Bool)(n:Int)(w:World)(hT:Tab w 5 kevCells)(hL:Tab w 4 lenCells)(h1:1<=n)(h64:n<=9223372036854775807):
  Calls Tryo.prog 28 #[.agg #[.int .i64 b,.int .i64 k,.bool l],.int .i64 n] w fun e w'=>e= .returned (.tuple #[.int .i64 (findL ((lens k l).take (cnt b k l).toNat) 1 n).1,.int .i64 (findL ((lens k l).take (cnt b k l).toNat) 1 n).2.1,.bool (findL ((lens k l).take (cnt b k l).toNat) 1 n).2.2])/\Below w.heap.size w w':=by
 have hl:=cnt_le b k l
 have hb0:=cnt_bd b k l
 have hbd:=Lib.hid (lens_bd k l)
 obtain⟨N,hN⟩:∃N:Nat,cnt b k l=N:=⟨(cnt b k l).toNat,by omega⟩
 have hC:=fun w h=>month_Count b k l w h
 rw [hN]at hC hl hb0⊢
 have HC:=Lib.hid hC
 have HDs:=Lib.hid (fun w h=>month_days b k l w h)
 clear hC hN
 simp only [Int.toNat_natCast]
 generalize lens k l=xs at*
 have hlN:(xs.take N).length=N:=by rw [List.length_take];omega
 have hat:∀i,i<N->(xs.take N)[i]? =xs[i]? :=fun i hi=>List.getElem?_take_of_lt hi
 generalize hF:findL (xs.take N) 1 n=F at*
 have HF:=Lib.hid hF
 have HL:=Lib.hid hlN
 have HA:=Lib.hid hat
 clear hF hlN hat
 go_enter Tryo.func28,Tryz.ntmps28
 go_wp2_with fail
 go_region_held3 (fun x=>x.cell? ⟨w.heap.size,0,none⟩=some (.int .i64 b)/\x.cell? ⟨w.heap.size,1,none⟩=some (.int .i64 k)/\x.cell? ⟨w.heap.size,2,none⟩=some (.bool l)/\w.heap.size<x.heap.size) (first|assumption|go_keep)
   (first | (go_at_call 53;refine(HDs.out _ (Tab.below hL (by repeat(first|exact Below.refl _ _|assumption|(with_reducible refine bdrew ?_)|(with_reducible refine baa ?_ _)|(with_reducible refine bs ?_ (by first|exact Nat.le_refl _|omega|(simp;omega)) _)|(with_reducible refine bt ?_ (by assumption)))))).mono ?_;rintro e w1 ⟨v,rfl,⟨g,cap,rfl,hcap,hBg,hg,hcell⟩,hb1⟩;have hk1:=keep3 (by assumption) hb1;have h3:(N:Int)<=(cap:Int):=(by omega);have HCl:=Lib.hid hcell;clear hcell)
             |(go_at_call 54;refine(HC.out _ (Tab.below hT (by repeat(first|exact Below.refl _ _|assumption|(with_reducible refine bdrew ?_)|(with_reducible refine baa ?_ _)|(with_reducible refine bs ?_ (by first|exact Nat.le_refl _|omega|(simp;omega)) _)|(with_reducible refine bt ?_ (by assumption)))))).mono ?_;rintro e w2 ⟨rfl,hb2⟩;have hk2:=keep3 (by assumption) hb2))
 all_goals go_wp2_with fail
 have HCl2:=Lib.hid (fun(j:Nat) (x:Int) hj=>(hb2.cell (p:=⟨g,j,none⟩) hg).trans (HCl.out j x hj))
 go_loop [17,1] (fun i m=>∃ (n':Nat) (z:Int),n'<=N/\i= .int .i64 n'/\m= .int .i64 z/\1<=z/\z<=9223372036854775807/\Hid (findL ((xs.take N).drop n') ((n':Int)+1) z=F)) (fun i _=>N-(intOf i).toNat)
 case atStart=>exact⟨0,n,by omega,rfl,rfl,by omega,by omega,HF⟩
 case round=>
  obtain⟨i,z,hi1,rfl,rfl,z1,z2,hI⟩:=hrel
  by_cases hlt:i<N
  ·obtain⟨x,hx⟩:∃x,xs[i]? =some x:=⟨_,List.getElem?_eq_getElem (by omega)⟩
   obtain⟨x1,x2⟩:=hbd.out x (List.mem_of_getElem? hx)
   have hcx:=HCl2.out i x hx
   have hy:=(HA.out i hlt).trans hx
   clear hx
   by_cases hzx:z<=x
   ·have hR:=Lib.hid ((findL_hit _ i x _ z hy hzx).symm.trans hI.out)
    clear hy hI
    go_wp2_with fail
    go_ret3
    exact⟨ret_iib hR.out,bt (bt (bdw (ba _ _)) hb1) hb2⟩
   ·have hR:=Lib.hid ((findL_step _ i x _ z hy hzx).symm.trans hI.out)
    clear hy hI
    go_wp2_with fail
    go_round
    case rel=>exact⟨i+1,z-x,by omega,by go_num,rfl,by omega,by omega,hR⟩
    case measure=>simp [intOf];omega
  ·have hR:=Lib.hid ((findL_end _ i _ z (by rw [HL.out];omega)).symm.trans hI.out)
   clear hI
   go_wp2_with fail
   go_ret3
   exact⟨ret_iib hR.out,bt (bt (bdw (ba _ _)) hb1) hb2⟩
theorem month_Find_no(b k:Int)(l:Bool)(n:Int)(w:World)(h:n<1):
  Calls Tryo.prog 28 #[.agg #[.int .i64 b,.int .i64 k,.bool l],.int .i64 n] w fun e w'=>e= .returned (.tuple #[.int .i64 0,.int .i64 0,.bool false])/\Below w.heap.size w w':=by
 go_enter Tryo.func28,Tryz.ntmps28
 go_wp2_with fail
 go_ret3
 exact⟨rfl,ba _ _⟩
theorem month_Find(b k:Int)(l:Bool)(n:Int)(w:World)(hT:Tab w 5 kevCells)(hL:Tab w 4 lenCells)(h64:n<=9223372036854775807):
  Calls Tryo.prog 28 #[.agg #[.int .i64 b,.int .i64 k,.bool l],.int .i64 n] w fun e w'=>e= .returned (.tuple #[.int .i64 (findV b k l n).1,.int .i64 (findV b k l n).2.1,.bool (findV b k l n).2.2])/\Below w.heap.size w w':=by
 by_cases h:n<1
 ·rw [findV,if_pos h]
  exact month_Find_no b k l n w h
 ·rw [findV,if_neg h]
  exact month_Find_yes b k l n w hT hL (by omega) h64
end
end Go.Proofs.YthpipedifekmpaaGreatDoor
