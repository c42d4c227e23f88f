import Derived.Test.YtljbnicolhhicaaGreatDoorZKE
set_option linter.defProp false
set_option maxHeartbeats 8000000
set_option maxRecDepth 100000
set_option linter.unusedVariables false
namespace Go.Proofs.YtljbnicolhhicaaGreatDoor
open Go.ChangeShapes Go.WideShapes Go.ChangeAt Go.RowKit
def lenCells:List Value:= [30,29,30,29,30,30,29,30,29,30,29,30,29].map (Value.int .i64)
def lens(k:Int)(l:Bool):List Int:= [30,if k=2 then 30 else 29,if k=0 then 29 else 30,29,30]++((if l then [30]else [])++ [29,30,29,30,29,30,29])
def Ints(w:World)(B:Nat)(v:Value)(xs:List Int):Prop:=∃g cap,v= .slice (some ⟨g,0,none⟩) xs.length cap/\xs.length<=cap/\B<=g/\g<w.1.size/\∀ (j:Nat) x,xs[j]? =some x->w.cell? ⟨g,j,none⟩=some (x:vV)
theorem IQ{W:World}{B g cap n:Nat}{xs:List Int}{arr:Array Value}(hh:∀j,W.cell? ⟨g,j,none⟩=arr[j]?)(hn:n=xs.length)(hx:arr.toList.take xs.length=xs.map (Value.int .i64))(hc:xs.length<=cap)(hB:B<=g)(hg:g<W.1.size):
  Ints W B (.slice (some ⟨g,0,none⟩) n cap) xs:=
 ⟨g,cap,by rw [hn],hc,hB,hg,fun j x hj=>by
  have hl:j<xs.length:=(List.getElem?_eq_some_iff.1 hj).1
  have h1:(arr.toList.take xs.length)[j]? =some (x:vV):=by rw [hx,List.getElem?_map,hj];rfl
  rw [List.getElem?_take_of_lt hl]at h1
  rw [hh j]
  simpa using h1⟩
theorem Ints.below{w w':World}{B:Nat}{v:Value}{xs:List Int}(h:Ints w B v xs)(hb:Below w.1.size w w'):Ints w' B v xs:=by
 obtain⟨g,cap,h1,h2,h3,h4,h5⟩:=h
 exact⟨g,cap,h1,h2,h3,Nat.lt_of_lt_of_le h4 hb.size,fun j x hj=>(hb.cell (p:=⟨g,j,none⟩) h4).trans (h5 j x hj)⟩
theorem Z6:lens (0) false= [30,29,29,29,30,29,30,29,30,29,30,29]:=by simp [lens]
theorem ZA:lens (2) false= [30,30,30,29,30,29,30,29,30,29,30,29]:=by simp [lens]
theorem uO:(∀(b:Int)(w:World)(hT:Tab w 4 lenCells),Calls Tryo.prog 109 #[.agg #[b,(0:Int),false]] w fun e w'=>∃v,e= .returned v/\Ints w' w.1.size v [30,29,29,29,30,29,30,29,30,29,30,29]/\Below w.1.size w w')/\(∀(b:Int)(w:World)(hT:Tab w 4 lenCells),Calls Tryo.prog 109 #[.agg #[b,(2:Int),false]] w fun e w'=>∃v,e= .returned v/\Ints w' w.1.size v [30,30,30,29,30,29,30,29,30,29,30,29]/\Below w.1.size w w'):=by
 refine⟨@fun b w hT=> ?_,@fun b w hT=> ?_⟩
 all_goals(
 have hlt0:=hT.lt
 obtain⟨t,hT⟩:=hT
 have hT2:w.1[4]? =some (.cells #[(30:Int),(29:Int),(30:Int),(29:Int),(30:Int),(30:Int),(29:Int),(30:Int),(29:Int),(30:Int),(29:Int),(30:Int),(29:Int)] t (0,0)):=hT
 have HT:=Lib.hid hT2
 clear hT hT2
 go_enter (vF Tryz.func109),Tryz.ntmps109
 go_wp2_with (refine wpList_load_row rfl 178 _ rfl 4 rfl t #[(30:Int),(29:Int),(30:Int),(29:Int),(30:Int),(30:Int),(29:Int),(30:Int),(29:Int),(30:Int),(29:Int),(30:Int),(29:Int)] (0,0) _ ((Below.heap_alloc _ _ _ hlt0).trans HT.out) (aB Tryz.underlying178) rfl vK ?_)
 go_region
 go_wp2_with fail
 go_ret
 refine⟨_,rfl,IQ (g:=w.1.size+1) (fun j=>Joins.cell_alloc_mark_at _ _ _ _ _ _ vS) rfl rfl vD vO vS, ?_⟩
 exact beo
 )
def Li:=uO.1
def Kr:=uO.2
theorem Z8(k:Int)(h0:¬ k=0)(h2:¬ k=2):lens k false= [30,29,30,29,30,29,30,29,30,29,30,29]:=by simp [lens,h0,h2]
theorem aaj:lens (0) true= [30,29,29,29,30,30,29,30,29,30,29,30,29]:=by simp [lens]
theorem ZO:lens (2) true= [30,30,30,29,30,30,29,30,29,30,29,30,29]:=by simp [lens]
theorem uT:(∀(b:Int)(w:World)(hT:Tab w 4 lenCells),Calls Tryo.prog 109 #[.agg #[b,(0:Int),true]] w fun e w'=>∃v,e= .returned v/\Ints w' w.1.size v [30,29,29,29,30,30,29,30,29,30,29,30,29]/\Below w.1.size w w')/\(∀(b:Int)(w:World)(hT:Tab w 4 lenCells),Calls Tryo.prog 109 #[.agg #[b,(2:Int),true]] w fun e w'=>∃v,e= .returned v/\Ints w' w.1.size v [30,30,30,29,30,30,29,30,29,30,29,30,29]/\Below w.1.size w w'):=by
 refine⟨@fun b w hT=> ?_,@fun b w hT=> ?_⟩
 all_goals(
 have hlt0:=hT.lt
 obtain⟨t,hT⟩:=hT
 have hT2:w.1[4]? =some (.cells #[(30:Int),(29:Int),(30:Int),(29:Int),(30:Int),(30:Int),(29:Int),(30:Int),(29:Int),(30:Int),(29:Int),(30:Int),(29:Int)] t (0,0)):=hT
 have HT:=Lib.hid hT2
 clear hT hT2
 go_enter (vF Tryz.func109),Tryz.ntmps109
 go_wp2_with (refine wpList_load_row rfl 178 _ rfl 4 rfl t #[(30:Int),(29:Int),(30:Int),(29:Int),(30:Int),(30:Int),(29:Int),(30:Int),(29:Int),(30:Int),(29:Int),(30:Int),(29:Int)] (0,0) _ ((Below.heap_alloc _ _ _ hlt0).trans HT.out) (aB Tryz.underlying178) rfl vK ?_)
 go_ret
 refine⟨_,rfl,IQ (g:=w.1.size+1) (fun j=>Joins.cell_alloc_mark_at _ _ _ _ _ _ vS) rfl rfl vD vO vS, ?_⟩
 exact beo
 )
def K3:=uT.1
def Kz:=uT.2
theorem Zk(k:Int)(h0:¬ k=0)(h2:¬ k=2):lens k true= [30,29,30,29,30,30,29,30,29,30,29,30,29]:=by simp [lens,h0,h2]
theorem uK:(∀(b k:Int)(w:World)(hT:Tab w 4 lenCells)(h0:¬ k=0)(h2:¬ k=2),Calls Tryo.prog 109 #[.agg #[b,k,false]] w fun e w'=>∃v,e= .returned v/\Ints w' w.1.size v [30,29,30,29,30,29,30,29,30,29,30,29]/\Below w.1.size w w')/\(∀(b k:Int)(w:World)(hT:Tab w 4 lenCells)(h0:¬ k=0)(h2:¬ k=2),Calls Tryo.prog 109 #[.agg #[b,k,true]] w fun e w'=>∃v,e= .returned v/\Ints w' w.1.size v [30,29,30,29,30,30,29,30,29,30,29,30,29]/\Below w.1.size w w'):=by
 refine⟨@fun b k w hT h0 h2=>(fun(k90:Nat)=> ?_) 0,@fun b k w hT h0 h2=> ?_⟩
 all_goals(
 have hlt0:=hT.lt
 obtain⟨t,hT⟩:=hT
 have hT2:w.1[4]? =some (.cells #[(30:Int),(29:Int),(30:Int),(29:Int),(30:Int),(30:Int),(29:Int),(30:Int),(29:Int),(30:Int),(29:Int),(30:Int),(29:Int)] t (0,0)):=hT
 have HT:=Lib.hid hT2
 clear hT hT2
 have q0:(k==0)=false:=by simpa using h0
 have q2:(k==2)=false:=by simpa using h2
 clear h0 h2
 go_enter (vF Tryz.func109),Tryz.ntmps109
 go_wp2_with (refine wpList_load_row rfl 178 _ rfl 4 rfl t #[(30:Int),(29:Int),(30:Int),(29:Int),(30:Int),(30:Int),(29:Int),(30:Int),(29:Int),(30:Int),(29:Int),(30:Int),(29:Int)] (0,0) _ ((Below.heap_alloc _ _ _ hlt0).trans HT.out) (aB Tryz.underlying178) rfl vK ?_)
 first|(have _:=k90;(go_region);(go_wp2_with fail))|(skip)
 go_ret
 refine⟨_,rfl,IQ (g:=w.1.size+1) (fun j=>Joins.cell_alloc_mark_at _ _ _ _ _ _ vS) rfl rfl vD vO vS, ?_⟩
 exact beo
 )
def Ko:=uK.1
def KU:=uK.2
theorem uz(b k:Int)(l:Bool)(w:World)(hT:Tab w 4 lenCells):
  Calls Tryo.prog 109 #[.agg #[b,k,l]] w fun e w'=>∃v,e= .returned v/\Ints w' w.1.size v (lens k l)/\Below w.1.size w w':=by
 by_cases h0:k=0
 ·subst h0
  cases l
  ·rw [Z6];exact Li b w hT
  ·rw [aaj];exact K3 b w hT
 ·by_cases h2:k=2
  ·subst h2
   cases l
   ·rw [ZA];exact Kr b w hT
   ·rw [ZO];exact Kz b w hT
  ·cases l
   ·rw [Z8 k h0 h2];exact Ko b k w hT h0 h2
   ·rw [Zk k h0 h2];exact KU b k w hT h0 h2
def cnt(b k:Int)(l:Bool):Int:=if number b k l=0 then 0 else if l then 13 else 12
def has(b k:Int)(l:Bool)(m:Int):Bool:=decide (1<=m)&&decide (m<=cnt b k l)
def uI(b k:Int)(l:Bool)(m:Int):Int:=if has b k l m then(lens k l).getD (m-1).toNat 0 else 0
def jM(b k:Int)(l:Bool)(m:Int):Int:=if has b k l m then((lens k l).take (m-1).toNat).sum else 0
def nA:List Int->Int->Int->Int×Int×Bool
 | [],_,_=>(0,0,false)
 |x :: r,i,n=>if n<=x then(i,n,true)else nA r (i+1) (n-x)
def BX(b k:Int)(l:Bool)(n:Int):Int×Int×Bool:=if n<1 then(0,0,false)else nA ((lens k l).take (cnt b k l).toNat) 1 n
theorem nY(k:Int)(l:Bool):(lens k l).length=if l then 13 else 12:=by cases l <;> simp [lens]
theorem D5(b k:Int)(l:Bool):0<=cnt b k l/\cnt b k l<=13:=by unfold cnt;split <;> (try split) <;> omega
theorem Ju(b k:Int)(l:Bool):cnt b k l<=(lens k l).length:=by rw [nY];unfold cnt;split <;> cases l <;> simp
theorem abR(b k:Int)(l:Bool)(h:number b k l=0):cnt b k l=0:=by unfold cnt;rw [if_pos h]
theorem UW(b k:Int)(l:Bool)(h:number b k l≠0):cnt b k l=(lens k l).length:=by rw [nY];unfold cnt;rw [if_neg h];cases l <;> rfl
theorem zV(k:Int)(l:Bool):∀x∈lens k l,29<=x/\x<=30:=by
 intro x hx
 simp only [lens,List.mem_append,List.mem_cons,List.not_mem_nil,or_false]at hx
 rcases hx with (h|h|h|h|h)|h|h
 ·omega
 ·split at h <;> omega
 ·split at h <;> omega
 ·omega
 ·omega
 ·cases l <;> simp at h;omega
 ·omega
theorem NC(k:Int)(l:Bool)(j:Nat)(hj:j<(lens k l).length):∃x,(lens k l)[j]? =some x/\(lens k l).getD j 0=x/\29<=x/\x<=30:=by
 refine⟨_,List.getElem?_eq_getElem hj,by simp [List.getD,List.getElem?_eq_getElem hj],zV k l _ (List.getElem_mem hj)⟩
theorem oq(xs:List Int)(j:Nat)(x:Int)(h:xs[j]? =some x):(xs.take (j+1)).sum=(xs.take j).sum+x:=by
 rw [List.take_add_one,h];simp
theorem ME(xs:List Int)(h:∀x∈xs,29<=x/\x<=30):∀j:Nat,0<=(xs.take j).sum/\(xs.take j).sum<=30*j
 |0=>by simp
 | j+1=>by
  have ih:=ME xs h j
  cases hj:xs[j]? with
  |none=>rw [List.take_add_one,hj];simp;omega
  |some x=>
   have:=h x (List.mem_of_getElem? hj)
   rw [oq xs j x hj];omega
theorem Tg(xs:List Int)(j:Nat)(x i n:Int)(h:xs[j]? =some x)(hx:¬ n<=x):nA (xs.drop j) i n=nA (xs.drop (j+1)) (i+1) (n-x):=by
 have hl:=(List.getElem?_eq_some_iff.1 h).1
 rw [List.drop_eq_getElem_cons hl,nA,(List.getElem?_eq_some_iff.1 h).2,if_neg hx]
theorem VT(xs:List Int)(j:Nat)(x i n:Int)(h:xs[j]? =some x)(hx:n<=x):nA (xs.drop j) i n=(i,n,true):=by
 have hl:=(List.getElem?_eq_some_iff.1 h).1
 rw [List.drop_eq_getElem_cons hl,nA,(List.getElem?_eq_some_iff.1 h).2,if_pos hx]
theorem Xb(xs:List Int)(j:Nat)(i n:Int)(h:xs.length<=j):nA (xs.drop j) i n=(0,0,false):=by
 rw [List.drop_eq_nil_of_le h];rfl
theorem mQ(b k:Int)(l:Bool)(w:World)(hT:Tab w 6 kevCells):
  vB 110 #[.agg #[b,k,l]] w (.int .i64 (cnt b k l)):=by
 have hN:=fun(w:World) (h:Tab w 6 kevCells)=>Ck b k l w h
 by_cases h:number b k l=0
 ·rw [abR b k l h]
  rw [h]at hN
  have HN:=Lib.hid hN
  clear hN h
  go_enter (vF Tryz.func110),Tryz.ntmps110
  go_wp2_with fail
  refine vX (HN.out _ (Tab.below hT (ba _ _))) fun w1 hb1 hz1 hc1 hf1=>?_
  try simp at hz1
  have hl1w:w.1.size<w1.1.size:=vO
  have hm1w:w.1.size<=w1.1.size:=vO
  have g1x0:w1.cell? ⟨w.1.size,0,none⟩=some (b:vV):=bg hc1
  have g1x1:w1.cell? ⟨w.1.size,1,none⟩=some (k:vV):=bg hc1
  have g1x2:w1.cell? ⟨w.1.size,2,none⟩=some (.bool l):=bg hc1
  go_wp2_with fail
  go_ret
  exact⟨rfl,bt (ba _ _) hb1⟩
 ·have q:(number b k l==0)=false:=by rw [beq_eq_false_iff_ne];exact h
  rw [UW b k l h,nY]
  have HN:=Lib.hid hN
  clear hN h
  cases l
  ·generalize number b k false=N at*
   go_enter (vF Tryz.func110),Tryz.ntmps110
   go_wp2_with fail
   refine vX (HN.out _ (Tab.below hT (ba _ _))) fun w1 hb1 hz1 hc1 hf1=>?_
   try simp at hz1
   have hl1w:w.1.size<w1.1.size:=vO
   have hm1w:w.1.size<=w1.1.size:=vO
   have g1x0:w1.cell? ⟨w.1.size,0,none⟩=some (b:vV):=bg hc1
   have g1x1:w1.cell? ⟨w.1.size,1,none⟩=some (k:vV):=bg hc1
   have g1x2:w1.cell? ⟨w.1.size,2,none⟩=some (.bool false):=bg hc1
   go_wp2_with fail
   go_ret
   exact⟨rfl,bt (ba _ _) hb1⟩
  ·generalize number b k true=N at*
   go_enter (vF Tryz.func110),Tryz.ntmps110
   go_wp2_with fail
   refine vX (HN.out _ (Tab.below hT (ba _ _))) fun w1 hb1 hz1 hc1 hf1=>?_
   try simp at hz1
   have hl1w:w.1.size<w1.1.size:=vO
   have hm1w:w.1.size<=w1.1.size:=vO
   have g1x0:w1.cell? ⟨w.1.size,0,none⟩=some (b:vV):=bg hc1
   have g1x1:w1.cell? ⟨w.1.size,1,none⟩=some (k:vV):=bg hc1
   have g1x2:w1.cell? ⟨w.1.size,2,none⟩=some (.bool true):=bg hc1
   go_wp2_with fail
   go_ret
   exact⟨rfl,bt (ba _ _) hb1⟩
theorem Kg(b k:Int)(l:Bool)(j:Nat)(x:Int)(w:World)(hT:Tab w 6 kevCells)(hL:Tab w 4 lenCells)(hj:(j:Int)+1<=cnt b k l)(hx:(lens k l)[j]? =some x):
  vB 157 #[.agg #[b,k,l],.int .i64 ((j:Int)+1)] w (.int .i64 x):=by
 have hl:=Ju b k l
 have hb0:=D5 b k l
 have HC:=Lib.hid (fun w h=>mQ b k l w h)
 generalize cnt b k l=C at*
 rw [nY]at hl
 cases l
 ·have h1:(j:Int)<12:=by simp at hl;omega
  have h2:(0:Int)<=(j:Int):=vO
  have hn:(j:Int)<=13:=vO
  have HX:=Lib.hid hx
  clear hl hx
  go_enter (vF Tryz.func157),Tryz.ntmps157
  go_wp2_with fail
  refine vX (HC.out _ (Tab.below hT (ba _ _))) fun w1 hb1 hz1 hc1 hf1=>?_
  try simp at hz1
  have hl1w:w.1.size<w1.1.size:=vO
  have hm1w:w.1.size<=w1.1.size:=vO
  have g1x0:w1.cell? ⟨w.1.size,0,none⟩=some (b:vV):=bg hc1
  have g1x1:w1.cell? ⟨w.1.size,1,none⟩=some (k:vV):=bg hc1
  have g1x2:w1.cell? ⟨w.1.size,2,none⟩=some (.bool false):=bg hc1
  go_wp2_with fail
  refine(uz b k false _ (Tab.below hL (bt (ba _ _) hb1))).mono ?_
  rintro e w2 ⟨v,rfl,⟨g,cap,rfl,hcap,hBg,hg,hcell⟩,hb2⟩
  have hcx:=hcell j x HX.out
  clear hcell hcap
  rw [nY]
  go_wp2_with fail
  go_ret
  exact⟨rfl,bt (bt (ba _ _) hb1) hb2⟩
 ·have h1:(j:Int)<13:=by simp at hl;omega
  have h2:(0:Int)<=(j:Int):=vO
  have hn:(j:Int)<=13:=vO
  have HX:=Lib.hid hx
  clear hl hx
  go_enter (vF Tryz.func157),Tryz.ntmps157
  go_wp2_with fail
  refine vX (HC.out _ (Tab.below hT (ba _ _))) fun w1 hb1 hz1 hc1 hf1=>?_
  try simp at hz1
  have hl1w:w.1.size<w1.1.size:=vO
  have hm1w:w.1.size<=w1.1.size:=vO
  have g1x0:w1.cell? ⟨w.1.size,0,none⟩=some (b:vV):=bg hc1
  have g1x1:w1.cell? ⟨w.1.size,1,none⟩=some (k:vV):=bg hc1
  have g1x2:w1.cell? ⟨w.1.size,2,none⟩=some (.bool true):=bg hc1
  go_wp2_with fail
  refine(uz b k true _ (Tab.below hL (bt (ba _ _) hb1))).mono ?_
  rintro e w2 ⟨v,rfl,⟨g,cap,rfl,hcap,hBg,hg,hcell⟩,hb2⟩
  have hcx:=hcell j x HX.out
  clear hcell hcap
  rw [nY]
  go_wp2_with fail
  go_ret
  exact⟨rfl,bt (bt (ba _ _) hb1) hb2⟩
theorem Kj(b k:Int)(l:Bool)(m:Int)(w:World)(hT:Tab w 6 kevCells)(hL:Tab w 4 lenCells)(h:has b k l m=false):
  vB 157 #[.agg #[b,k,l],m] w (.int .i64 0):=by
 have HC:=Lib.hid (fun w h=>mQ b k l w h)
 rcases(show m<1∨(1<=m/\cnt b k l<m) by
  by_cases c:m<1
  ·exact .inl c
  ·refine .inr ⟨vO, ?_⟩
   unfold has at h
   simp only [Bool.and_eq_false_iff,decide_eq_false_iff_not]at h
   omega)with c|⟨c1,c2⟩
 ·clear h HC
  go_enter (vF Tryz.func157),Tryz.ntmps157
  go_wp2_with fail
  go_ret
  exact⟨rfl,ba _ _⟩
 ·clear h
  generalize cnt b k l=C at*
  go_enter (vF Tryz.func157),Tryz.ntmps157
  go_wp2_with fail
  refine vX (HC.out _ (Tab.below hT (ba _ _))) fun w1 hb1 hz1 hc1 hf1=>?_
  try simp at hz1
  have hl1w:w.1.size<w1.1.size:=vO
  have hm1w:w.1.size<=w1.1.size:=vO
  have g1x0:w1.cell? ⟨w.1.size,0,none⟩=some (b:vV):=bg hc1
  have g1x1:w1.cell? ⟨w.1.size,1,none⟩=some (k:vV):=bg hc1
  have g1x2:w1.cell? ⟨w.1.size,2,none⟩=some (.bool l):=bg hc1
  go_wp2_with fail
  go_ret
  exact⟨rfl,bt (ba _ _) hb1⟩
theorem TR(b k:Int)(l:Bool)(m:Int)(w:World)(hT:Tab w 6 kevCells)(hL:Tab w 4 lenCells):
  vB 157 #[.agg #[b,k,l],m] w (.int .i64 (uI b k l m)):=by
 cases h:has b k l m
 ·rw [uI,h,if_neg Bool.false_ne_true]
  exact Kj b k l m w hT hL h
 ·rw [uI,h,if_pos rfl]
  unfold has at h
  simp only [Bool.and_eq_true,decide_eq_true_eq]at h
  have hl:=Ju b k l
  obtain⟨x,hx,hx2,_⟩:=NC k l (m-1).toNat vO
  rw [hx2]
  have:=Kg b k l (m-1).toNat x w hT hL vO hx
  rwa [show(((m-1).toNat:Nat):Int)+1=m by omega]at this
theorem aaS{a b:World}{g:Nat}{v0 v1 v2:Value}(h:a.cell? ⟨g,0,none⟩=some v0/\a.cell? ⟨g,1,none⟩=some v1/\a.cell? ⟨g,2,none⟩=some v2/\g<a.1.size)(hb:Below a.1.size a b):
  b.cell? ⟨g,0,none⟩=some v0/\b.cell? ⟨g,1,none⟩=some v1/\b.cell? ⟨g,2,none⟩=some v2/\g<b.1.size:=
 ⟨(hb.cell (p:=⟨g,0,none⟩) h.2.2.2).trans h.1,(hb.cell (p:=⟨g,1,none⟩) h.2.2.2).trans h.2.1,(hb.cell (p:=⟨g,2,none⟩) h.2.2.2).trans h.2.2.1,Nat.lt_of_lt_of_le h.2.2.2 hb.size⟩
theorem Vg{a b c d:Int}{x y:Bool}(h:(a,c,x)=(b,d,y)):Ending.returned (.tuple #[a,c,x])= .returned (.tuple #[b,d,y]):=by cases h;rfl
theorem JJ(b k:Int)(l:Bool)(j:Nat)(w:World)(hT:Tab w 6 kevCells)(hL:Tab w 4 lenCells)(hj:(j:Int)+1<=cnt b k l):
  vB 143 #[.agg #[b,k,l],.int .i64 ((j:Int)+1)] w (.int .i64 ((lens k l).take j).sum):=by
 have hl:=Ju b k l
 have hb0:=D5 b k l
 have hbd:=Lib.hid (zV k l)
 have HC:=Lib.hid (fun w h=>mQ b k l w h)
 have HDs:=Lib.hid (fun w h=>uz b k l w h)
 generalize cnt b k l=C at*
 generalize lens k l=xs at*
 have h2:(0:Int)<=(j:Int):=vO
 have hn:(j:Int)<=13:=vO
 have hjl:j<xs.length:=vO
 go_enter (vF Tryz.func143),Tryz.ntmps143
 go_wp2_with fail
 refine vX (HC.out _ (Tab.below hT (ba _ _))) fun w1 hb1 hz1 hc1 hf1=>?_
 try simp at hz1
 have hl1w:w.1.size<w1.1.size:=vO
 have hm1w:w.1.size<=w1.1.size:=vO
 have g1x0:w1.cell? ⟨w.1.size,0,none⟩=some (b:vV):=bg hc1
 have g1x1:w1.cell? ⟨w.1.size,1,none⟩=some (k:vV):=bg hc1
 have g1x2:w1.cell? ⟨w.1.size,2,none⟩=some (.bool l):=bg hc1
 go_wp2_with fail
 refine(HDs.out _ (Tab.below hL (bt (ba _ _) hb1))).mono ?_
 rintro e w2 ⟨v,rfl,⟨g,cap,rfl,hcap,hBg,hg,hcell⟩,hb2⟩
 have HCl:=Lib.hid hcell
 have h3:(j:Int)<=(cap:Int):=vO
 clear hcell
 go_wp2_with fail
 go_loop [5,22] (fun s i=>∃n:Nat,n<=j/\i= .int .i64 n/\s= .int .i64 (xs.take n).sum) (fun _ i=>j-(intOf i).toNat)
 case atStart=>exact⟨0,vO,rfl,rfl⟩
 case round=>
  obtain⟨n,hn1,rfl,rfl⟩:=hrel
  obtain⟨s1,s2⟩:=ME xs hbd.out n
  by_cases hlt:n<j
  ·obtain⟨x,hx⟩:∃x,xs[n]? =some x:=⟨_,List.getElem?_eq_getElem vO⟩
   obtain⟨x1,x2⟩:=hbd.out x (List.mem_of_getElem? hx)
   have hcx:=HCl.out n x hx
   have hs:=Lib.hid (oq xs n x hx)
   clear hx
   generalize (xs.take n).sum=S at*
   go_wp2_with fail
   go_round
   case rel=>exact⟨n+1,vO,by go_num,by rw [hs.out]⟩
   case measure=>simp [intOf];omega
  ·obtain rfl:n=j:=vO
   go_wp2_with fail
   go_ret
   exact⟨rfl,bt (bt (ba _ _) hb1) hb2⟩
theorem Ho(b k:Int)(l:Bool)(m:Int)(w:World)(hT:Tab w 6 kevCells)(hL:Tab w 4 lenCells)(h:has b k l m=false):
  vB 143 #[.agg #[b,k,l],m] w (.int .i64 0):=by
 have HC:=Lib.hid (fun w h=>mQ b k l w h)
 rcases(show m<1∨(1<=m/\cnt b k l<m) by
  by_cases c:m<1
  ·exact .inl c
  ·refine .inr ⟨vO, ?_⟩
   unfold has at h
   simp only [Bool.and_eq_false_iff,decide_eq_false_iff_not]at h
   omega)with c|⟨c1,c2⟩
 ·clear h HC
  go_enter (vF Tryz.func143),Tryz.ntmps143
  go_wp2_with fail
  go_ret
  exact⟨rfl,ba _ _⟩
 ·clear h
  generalize cnt b k l=C at*
  go_enter (vF Tryz.func143),Tryz.ntmps143
  go_wp2_with fail
  refine vX (HC.out _ (Tab.below hT (ba _ _))) fun w1 hb1 hz1 hc1 hf1=>?_
  try simp at hz1
  have hl1w:w.1.size<w1.1.size:=vO
  have hm1w:w.1.size<=w1.1.size:=vO
  have g1x0:w1.cell? ⟨w.1.size,0,none⟩=some (b:vV):=bg hc1
  have g1x1:w1.cell? ⟨w.1.size,1,none⟩=some (k:vV):=bg hc1
  have g1x2:w1.cell? ⟨w.1.size,2,none⟩=some (.bool l):=bg hc1
  go_wp2_with fail
  go_ret
  exact⟨rfl,bt (ba _ _) hb1⟩
theorem Rb(b k:Int)(l:Bool)(m:Int)(w:World)(hT:Tab w 6 kevCells)(hL:Tab w 4 lenCells):
  vB 143 #[.agg #[b,k,l],m] w (.int .i64 (jM b k l m)):=by
 cases h:has b k l m
 ·rw [jM,h,if_neg Bool.false_ne_true]
  exact Ho b k l m w hT hL h
 ·rw [jM,h,if_pos rfl]
  unfold has at h
  simp only [Bool.and_eq_true,decide_eq_true_eq]at h
  have:=JJ b k l (m-1).toNat w hT hL vO
  rwa [show(((m-1).toNat:Nat):Int)+1=m by omega]at this
theorem I6(b k:Int)(l:Bool)(n:Int)(w:World)(hT:Tab w 6 kevCells)(hL:Tab w 4 lenCells)(h1:1<=n)(h64:n<=9223372036854775807):
  vB 61 #[.agg #[b,k,l],n] w (.tuple #[.int .i64 (nA ((lens k l).take (cnt b k l).toNat) 1 n).1,.int .i64 (nA ((lens k l).take (cnt b k l).toNat) 1 n).2.1,.bool (nA ((lens k l).take (cnt b k l).toNat) 1 n).2.2]):=by
 have hl:=Ju b k l
 have hb0:=D5 b k l
 have hbd:=Lib.hid (zV k l)
 obtain⟨N,hN⟩:∃N:Nat,cnt b k l=N:=⟨(cnt b k l).toNat,vO⟩
 have hC:=fun w h=>mQ b k l w h
 rw [hN]at hC hl hb0⊢
 have HC:=Lib.hid hC
 have HDs:=Lib.hid (fun w h=>uz b k l w h)
 clear hC hN
 simp only [Int.toNat_natCast]
 generalize lens k l=xs at*
 have hlN:(xs.take N).length=N:=by rw [List.length_take];omega
 have hat:∀i,i<N->(xs.take N)[i]? =xs[i]? :=fun i hi=>List.getElem?_take_of_lt hi
 generalize hF:nA (xs.take N) 1 n=F at*
 have HF:=Lib.hid hF
 have HL:=Lib.hid hlN
 have HA:=Lib.hid hat
 clear hF hlN hat
 go_enter (vF Tryz.func61),Tryz.ntmps61
 go_wp2_with fail
 go_region_held3 (fun x=>x.cell? ⟨w.1.size,0,none⟩=some (b:vV)/\x.cell? ⟨w.1.size,1,none⟩=some (k:vV)/\x.cell? ⟨w.1.size,2,none⟩=some (.bool l)/\w.1.size<x.1.size) (first|assumption|go_keep)
   (first | (go_at_call 109;refine(HDs.out _ (Tab.below hL beo)).mono ?_;rintro e w1 ⟨v,rfl,⟨g,cap,rfl,hcap,hBg,hg,hcell⟩,hb1⟩;have hk1:=aaS tQ hb1;have h3:(N:Int)<=(cap:Int):=vO;have HCl:=Lib.hid hcell;clear hcell)
             |(go_at_call 110;refine(HC.out _ (Tab.below hT beo)).mono ?_;rintro e w2 ⟨rfl,hb2⟩;have hk2:=aaS tQ hb2))
 all_goals go_wp2_with fail
 have HCl2:=Lib.hid (fun(j:Nat) (x:Int) hj=>(hb2.cell (p:=⟨g,j,none⟩) hg).trans (HCl.out j x hj))
 go_loop [17,1] (fun i m=>∃ (n':Nat) (z:Int),n'<=N/\i= .int .i64 n'/\m= .int .i64 z/\1<=z/\z<=9223372036854775807/\Hid (nA ((xs.take N).drop n') ((n':Int)+1) z=F)) (fun i _=>N-(intOf i).toNat)
 case atStart=>exact⟨0,n,vO,rfl,rfl,vO,vO,HF⟩
 case round=>
  obtain⟨i,z,hi1,rfl,rfl,z1,z2,hI⟩:=hrel
  by_cases hlt:i<N
  ·obtain⟨x,hx⟩:∃x,xs[i]? =some x:=⟨_,List.getElem?_eq_getElem vO⟩
   obtain⟨x1,x2⟩:=hbd.out x (List.mem_of_getElem? hx)
   have hcx:=HCl2.out i x hx
   have hy:=(HA.out i hlt).trans hx
   clear hx
   by_cases hzx:z<=x
   ·have hR:=Lib.hid ((VT _ i x _ z hy hzx).symm.trans hI.out)
    clear hy hI
    go_wp2_with fail
    go_ret3
    exact⟨Vg hR.out,bt (bt (bdw (ba _ _)) hb1) hb2⟩
   ·have hR:=Lib.hid ((Tg _ i x _ z hy hzx).symm.trans hI.out)
    clear hy hI
    go_wp2_with fail
    go_round
    case rel=>exact⟨i+1,z-x,vO,by go_num,rfl,vO,vO,hR⟩
    case measure=>simp [intOf];omega
  ·have hR:=Lib.hid ((Xb _ i _ z (by rw [HL.out];omega)).symm.trans hI.out)
   clear hI
   go_wp2_with fail
   go_ret3
   exact⟨Vg hR.out,bt (bt (bdw (ba _ _)) hb1) hb2⟩
theorem KF(b k:Int)(l:Bool)(n:Int)(w:World)(h:n<1):
  vB 61 #[.agg #[b,k,l],n] w (.tuple #[(0:Int),(0:Int),false]):=by
 go_enter (vF Tryz.func61),Tryz.ntmps61
 go_wp2_with fail
 go_ret3
 exact⟨rfl,ba _ _⟩
theorem Te(b k:Int)(l:Bool)(n:Int)(w:World)(hT:Tab w 6 kevCells)(hL:Tab w 4 lenCells)(h64:n<=9223372036854775807):
  vB 61 #[.agg #[b,k,l],n] w (.tuple #[.int .i64 (BX b k l n).1,.int .i64 (BX b k l n).2.1,.bool (BX b k l n).2.2]):=by
 by_cases h:n<1
 ·rw [BX,if_pos h]
  exact KF b k l n w h
 ·rw [BX,if_neg h]
  exact I6 b k l n w hT hL vO h64
end Go.Proofs.YtljbnicolhhicaaGreatDoor
