import Derived.Test.YthnjjcoahdhmnaaGreatDoorEKE
import Derived.Deep.RegionHeld3
import Derived.RegionTactic
import Derived.BigRegion
import Derived.Lib.SmallJoins
import Derived.Test.YthnjjcoahdhmnaaGreatDoorEBB
import Derived.Deep.AppendLies
import Derived.OwnWalk
import Derived.LoopTactic
set_option maxHeartbeats 8000000
set_option maxRecDepth 100000
set_option linter.unusedVariables false
namespace Go.Proofs.YthnjjcoahdhmnaaGreatDoor
section
open Go.ChangeShapes Go.WideShapes Go.ChangeAt Go.RowKit
def lenCells:List Value:= [30,29,30,29,30,30,29,30,29,30,29,30,29].map (Value.int .i64)
def lens(k:Int)(l:Bool):List Int:= [30,if k=2 then 30 else 29,if k=0 then 29 else 30,29,30]++((if l then [30]else [])++ [29,30,29,30,29,30,29])
def Ints(w:World)(B:Nat)(v:Value)(xs:List Int):Prop:=∃g cap,v= .slice (some ⟨g,0,none⟩) xs.length cap/\xs.length<=cap/\B<=g/\g<w.heap.size/\∀ (j:Nat) x,xs[j]? =some x->w.cell? ⟨g,j,none⟩=some (.int .i64 x)
theorem nN{W:World}{B g cap n:Nat}{xs:List Int}{arr:Array Value}(hh:∀j,W.cell? ⟨g,j,none⟩=arr[j]?)(hn:n=xs.length)(hx:arr.toList.take xs.length=xs.map (Value.int .i64))(hc:xs.length<=cap)(hB:B<=g)(hg:g<W.heap.size):
  Ints W B (.slice (some ⟨g,0,none⟩) n cap) xs:=
 ⟨g,cap,by rw [hn],hc,hB,hg,fun j x hj=>by
  have hl:j<xs.length:=(List.getElem?_eq_some_iff.1 hj).1
  have h1:(arr.toList.take xs.length)[j]? =some (.int .i64 x):=by rw [hx,List.getElem?_map,hj];rfl
  rw [List.getElem?_take_of_lt hl]at h1
  rw [hh j]
  simpa using h1⟩
theorem Ints.below{w w':World}{B:Nat}{v:Value}{xs:List Int}(h:Ints w B v xs)(hb:Below w.heap.size w w'):Ints w' B v xs:=by
 obtain⟨g,cap,h1,h2,h3,h4,h5⟩:=h
 exact⟨g,cap,h1,h2,h3,Nat.lt_of_lt_of_le h4 hb.size,fun j x hj=>(hb.cell (p:=⟨g,j,none⟩) h4).trans (h5 j x hj)⟩
theorem Uv:lens (0) false= [30,29,29,29,30,29,30,29,30,29,30,29]:=by simp [lens]
theorem Ii(b:Int)(w:World)(hT:Tab w 5 lenCells):
  Calls Tryo.prog 146 #[.agg #[.int .i64 b,.int .i64 0,.bool false]] w fun e w'=>∃v,e= .returned v/\Ints w' w.heap.size v [30,29,29,29,30,29,30,29,30,29,30,29]/\Below w.heap.size w w':=by
 have hlt0:=hT.lt
 obtain⟨t,hT⟩:=hT
 have hT2:w.heap[5]? =some (.cells #[.int .i64 30,.int .i64 29,.int .i64 30,.int .i64 29,.int .i64 30,.int .i64 30,.int .i64 29,.int .i64 30,.int .i64 29,.int .i64 30,.int .i64 29,.int .i64 30,.int .i64 29] t (0,0)):=hT
 have HT:=Lib.hid hT2
 clear hT hT2
 go_enter Tryo.func146,Tryz.ntmps146
 go_wp2_with (refine wpList_load_row rfl 201 _ rfl 5 rfl t #[.int .i64 30,.int .i64 29,.int .i64 30,.int .i64 29,.int .i64 30,.int .i64 30,.int .i64 29,.int .i64 30,.int .i64 29,.int .i64 30,.int .i64 29,.int .i64 30,.int .i64 29] (0,0) _ ((Below.heap_alloc _ _ _ hlt0).trans HT.out) (aI Tryz.underlying201) rfl (by kernel_rfl) ?_)
 go_region
 go_wp2_with fail
 go_ret
 refine⟨_,rfl,nN (g:=w.heap.size+1) (fun j=>Joins.cell_alloc_mark_at _ _ _ _ _ _ (by simp)) rfl rfl (by decide) (by omega) (by simp), ?_⟩
 repeat(first|exact Below.refl _ _|assumption|(with_reducible refine bU ?_)|(with_reducible refine baa ?_ _)|(with_reducible refine bs ?_ (by first|exact Nat.le_refl _|omega|(simp;omega)) _)|(with_reducible refine bt ?_ (by assumption)))
theorem T9:lens (2) false= [30,30,30,29,30,29,30,29,30,29,30,29]:=by simp [lens]
theorem Jg(b:Int)(w:World)(hT:Tab w 5 lenCells):
  Calls Tryo.prog 146 #[.agg #[.int .i64 b,.int .i64 2,.bool false]] w fun e w'=>∃v,e= .returned v/\Ints w' w.heap.size v [30,30,30,29,30,29,30,29,30,29,30,29]/\Below w.heap.size w w':=by
 have hlt0:=hT.lt
 obtain⟨t,hT⟩:=hT
 have hT2:w.heap[5]? =some (.cells #[.int .i64 30,.int .i64 29,.int .i64 30,.int .i64 29,.int .i64 30,.int .i64 30,.int .i64 29,.int .i64 30,.int .i64 29,.int .i64 30,.int .i64 29,.int .i64 30,.int .i64 29] t (0,0)):=hT
 have HT:=Lib.hid hT2
 clear hT hT2
 go_enter Tryo.func146,Tryz.ntmps146
 go_wp2_with (refine wpList_load_row rfl 201 _ rfl 5 rfl t #[.int .i64 30,.int .i64 29,.int .i64 30,.int .i64 29,.int .i64 30,.int .i64 30,.int .i64 29,.int .i64 30,.int .i64 29,.int .i64 30,.int .i64 29,.int .i64 30,.int .i64 29] (0,0) _ ((Below.heap_alloc _ _ _ hlt0).trans HT.out) (aI Tryz.underlying201) rfl (by kernel_rfl) ?_)
 go_region
 go_wp2_with fail
 go_ret
 refine⟨_,rfl,nN (g:=w.heap.size+1) (fun j=>Joins.cell_alloc_mark_at _ _ _ _ _ _ (by simp)) rfl rfl (by decide) (by omega) (by simp), ?_⟩
 repeat(first|exact Below.refl _ _|assumption|(with_reducible refine bU ?_)|(with_reducible refine baa ?_ _)|(with_reducible refine bs ?_ (by first|exact Nat.le_refl _|omega|(simp;omega)) _)|(with_reducible refine bt ?_ (by assumption)))
theorem U1(k:Int)(h0:¬ k=0)(h2:¬ k=2):lens k false= [30,29,30,29,30,29,30,29,30,29,30,29]:=by simp [lens,h0,h2]
theorem I4(b k:Int)(w:World)(hT:Tab w 5 lenCells)(h0:¬ k=0)(h2:¬ k=2):
  Calls Tryo.prog 146 #[.agg #[.int .i64 b,.int .i64 k,.bool false]] w fun e w'=>∃v,e= .returned v/\Ints w' w.heap.size v [30,29,30,29,30,29,30,29,30,29,30,29]/\Below w.heap.size w w':=by
 have hlt0:=hT.lt
 obtain⟨t,hT⟩:=hT
 have hT2:w.heap[5]? =some (.cells #[.int .i64 30,.int .i64 29,.int .i64 30,.int .i64 29,.int .i64 30,.int .i64 30,.int .i64 29,.int .i64 30,.int .i64 29,.int .i64 30,.int .i64 29,.int .i64 30,.int .i64 29] t (0,0)):=hT
 have HT:=Lib.hid hT2
 clear hT hT2
 have q0:(k==0)=false:=by simpa using h0
 have q2:(k==2)=false:=by simpa using h2
 clear h0 h2
 go_enter Tryo.func146,Tryz.ntmps146
 go_wp2_with (refine wpList_load_row rfl 201 _ rfl 5 rfl t #[.int .i64 30,.int .i64 29,.int .i64 30,.int .i64 29,.int .i64 30,.int .i64 30,.int .i64 29,.int .i64 30,.int .i64 29,.int .i64 30,.int .i64 29,.int .i64 30,.int .i64 29] (0,0) _ ((Below.heap_alloc _ _ _ hlt0).trans HT.out) (aI Tryz.underlying201) rfl (by kernel_rfl) ?_)
 go_region
 go_wp2_with fail
 go_ret
 refine⟨_,rfl,nN (g:=w.heap.size+1) (fun j=>Joins.cell_alloc_mark_at _ _ _ _ _ _ (by simp)) rfl rfl (by decide) (by omega) (by simp), ?_⟩
 repeat(first|exact Below.refl _ _|assumption|(with_reducible refine bU ?_)|(with_reducible refine baa ?_ _)|(with_reducible refine bs ?_ (by first|exact Nat.le_refl _|omega|(simp;omega)) _)|(with_reducible refine bt ?_ (by assumption)))
theorem Un:lens (0) true= [30,29,29,29,30,30,29,30,29,30,29,30,29]:=by simp [lens]
theorem Js(b:Int)(w:World)(hT:Tab w 5 lenCells):
  Calls Tryo.prog 146 #[.agg #[.int .i64 b,.int .i64 0,.bool true]] w fun e w'=>∃v,e= .returned v/\Ints w' w.heap.size v [30,29,29,29,30,30,29,30,29,30,29,30,29]/\Below w.heap.size w w':=by
 have hlt0:=hT.lt
 obtain⟨t,hT⟩:=hT
 have hT2:w.heap[5]? =some (.cells #[.int .i64 30,.int .i64 29,.int .i64 30,.int .i64 29,.int .i64 30,.int .i64 30,.int .i64 29,.int .i64 30,.int .i64 29,.int .i64 30,.int .i64 29,.int .i64 30,.int .i64 29] t (0,0)):=hT
 have HT:=Lib.hid hT2
 clear hT hT2
 go_enter Tryo.func146,Tryz.ntmps146
 go_wp2_with (refine wpList_load_row rfl 201 _ rfl 5 rfl t #[.int .i64 30,.int .i64 29,.int .i64 30,.int .i64 29,.int .i64 30,.int .i64 30,.int .i64 29,.int .i64 30,.int .i64 29,.int .i64 30,.int .i64 29,.int .i64 30,.int .i64 29] (0,0) _ ((Below.heap_alloc _ _ _ hlt0).trans HT.out) (aI Tryz.underlying201) rfl (by kernel_rfl) ?_)
 go_ret
 refine⟨_,rfl,nN (g:=w.heap.size+1) (fun j=>Joins.cell_alloc_mark_at _ _ _ _ _ _ (by simp)) rfl rfl (by decide) (by omega) (by simp), ?_⟩
 repeat(first|exact Below.refl _ _|assumption|(with_reducible refine bU ?_)|(with_reducible refine baa ?_ _)|(with_reducible refine bs ?_ (by first|exact Nat.le_refl _|omega|(simp;omega)) _)|(with_reducible refine bt ?_ (by assumption)))
theorem UO:lens (2) true= [30,30,30,29,30,30,29,30,29,30,29,30,29]:=by simp [lens]
theorem Ik(b:Int)(w:World)(hT:Tab w 5 lenCells):
  Calls Tryo.prog 146 #[.agg #[.int .i64 b,.int .i64 2,.bool true]] w fun e w'=>∃v,e= .returned v/\Ints w' w.heap.size v [30,30,30,29,30,30,29,30,29,30,29,30,29]/\Below w.heap.size w w':=by
 have hlt0:=hT.lt
 obtain⟨t,hT⟩:=hT
 have hT2:w.heap[5]? =some (.cells #[.int .i64 30,.int .i64 29,.int .i64 30,.int .i64 29,.int .i64 30,.int .i64 30,.int .i64 29,.int .i64 30,.int .i64 29,.int .i64 30,.int .i64 29,.int .i64 30,.int .i64 29] t (0,0)):=hT
 have HT:=Lib.hid hT2
 clear hT hT2
 go_enter Tryo.func146,Tryz.ntmps146
 go_wp2_with (refine wpList_load_row rfl 201 _ rfl 5 rfl t #[.int .i64 30,.int .i64 29,.int .i64 30,.int .i64 29,.int .i64 30,.int .i64 30,.int .i64 29,.int .i64 30,.int .i64 29,.int .i64 30,.int .i64 29,.int .i64 30,.int .i64 29] (0,0) _ ((Below.heap_alloc _ _ _ hlt0).trans HT.out) (aI Tryz.underlying201) rfl (by kernel_rfl) ?_)
 go_ret
 refine⟨_,rfl,nN (g:=w.heap.size+1) (fun j=>Joins.cell_alloc_mark_at _ _ _ _ _ _ (by simp)) rfl rfl (by decide) (by omega) (by simp), ?_⟩
 repeat(first|exact Below.refl _ _|assumption|(with_reducible refine bU ?_)|(with_reducible refine baa ?_ _)|(with_reducible refine bs ?_ (by first|exact Nat.le_refl _|omega|(simp;omega)) _)|(with_reducible refine bt ?_ (by assumption)))
theorem TY(k:Int)(h0:¬ k=0)(h2:¬ k=2):lens k true= [30,29,30,29,30,30,29,30,29,30,29,30,29]:=by simp [lens,h0,h2]
theorem Jl(b k:Int)(w:World)(hT:Tab w 5 lenCells)(h0:¬ k=0)(h2:¬ k=2):
  Calls Tryo.prog 146 #[.agg #[.int .i64 b,.int .i64 k,.bool true]] w fun e w'=>∃v,e= .returned v/\Ints w' w.heap.size v [30,29,30,29,30,30,29,30,29,30,29,30,29]/\Below w.heap.size w w':=by
 have hlt0:=hT.lt
 obtain⟨t,hT⟩:=hT
 have hT2:w.heap[5]? =some (.cells #[.int .i64 30,.int .i64 29,.int .i64 30,.int .i64 29,.int .i64 30,.int .i64 30,.int .i64 29,.int .i64 30,.int .i64 29,.int .i64 30,.int .i64 29,.int .i64 30,.int .i64 29] t (0,0)):=hT
 have HT:=Lib.hid hT2
 clear hT hT2
 have q0:(k==0)=false:=by simpa using h0
 have q2:(k==2)=false:=by simpa using h2
 clear h0 h2
 go_enter Tryo.func146,Tryz.ntmps146
 go_wp2_with (refine wpList_load_row rfl 201 _ rfl 5 rfl t #[.int .i64 30,.int .i64 29,.int .i64 30,.int .i64 29,.int .i64 30,.int .i64 30,.int .i64 29,.int .i64 30,.int .i64 29,.int .i64 30,.int .i64 29,.int .i64 30,.int .i64 29] (0,0) _ ((Below.heap_alloc _ _ _ hlt0).trans HT.out) (aI Tryz.underlying201) rfl (by kernel_rfl) ?_)
 go_ret
 refine⟨_,rfl,nN (g:=w.heap.size+1) (fun j=>Joins.cell_alloc_mark_at _ _ _ _ _ _ (by simp)) rfl rfl (by decide) (by omega) (by simp), ?_⟩
 repeat(first|exact Below.refl _ _|assumption|(with_reducible refine bU ?_)|(with_reducible refine baa ?_ _)|(with_reducible refine bs ?_ (by first|exact Nat.le_refl _|omega|(simp;omega)) _)|(with_reducible refine bt ?_ (by assumption)))
theorem oM(b k:Int)(l:Bool)(w:World)(hT:Tab w 5 lenCells):
  Calls Tryo.prog 146 #[.agg #[.int .i64 b,.int .i64 k,.bool l]] w fun e w'=>∃v,e= .returned v/\Ints w' w.heap.size v (lens k l)/\Below w.heap.size w w':=by
 by_cases h0:k=0
 ·subst h0
  cases l
  ·rw [Uv];exact Ii b w hT
  ·rw [Un];exact Js b w hT
 ·by_cases h2:k=2
  ·subst h2
   cases l
   ·rw [T9];exact Jg b w hT
   ·rw [UO];exact Ik b w hT
  ·cases l
   ·rw [U1 k h0 h2];exact I4 b k w hT h0 h2
   ·rw [TY k h0 h2];exact Jl b k w hT h0 h2
end
section
open Go.ChangeShapes Go.WideShapes Go.ChangeAt Go.RowKit
theorem jq{w:World}{B g cap n e:Nat}{xs:List Int}{ys:List Value}(h:w.ownsRow B e 1 (.slice (some ⟨g,0,none⟩) n cap) n ys)(hy:ys=xs.map (Value.int .i64))(hn:n=xs.length):Ints w B (.slice (some ⟨g,0,none⟩) n cap) xs:=by
 subst hy hn
 have hc:=fun j hj=>h.cellAt (g:=g) (cap:=cap) j hj
 obtain⟨_,h2⟩:=h
 rcases h2 with ⟨h,_⟩|⟨g',cap',cur,hv,h1,h2,h3,h4,h5,h6⟩
 ·cases h
 ·simp only [Value.slice.injEq,Option.some.injEq,Addr.mk.injEq,and_true,true_and]at hv
  obtain⟨rfl,rfl⟩:=hv
  refine⟨_,_,rfl,h3,h1,(Array.getElem?_eq_some_iff.1 h2).1,fun j x hj=> ?_⟩
  rw [hc j (by have:=(List.getElem?_eq_some_iff.1 hj).1;omega),List.getElem?_map,hj]
  rfl
theorem qU:(Tryo.prog.info? 3).map (fun i=>(i.zero,i.size,i.bytes))=some (some (.int .i64 0),1,8):=by kernel_rfl
theorem jH(l:List Int):∀u∈l.map (Value.int .i64),u.oneCell'=true:=by
 intro u hu
 obtain⟨x,_,rfl⟩:=List.mem_map.1 hu
 rfl
theorem CQ(b:Int)(w:World):
  Calls Tryo.prog 187 #[.agg #[.int .i64 b,.int .i64 0,.bool false]] w fun e w'=>∃v,e= .returned v/\Ints w' w.heap.size v [30,29,29,29,30,29,30,29,30,29,30,29]/\Below w.heap.size w w':=by
 obtain⟨i0,hi,hz0,hz1,hz2⟩:=info_parts qU
 go_enter Tryo.func187,Tryz.ntmps187
 go_wp2_with ((at_builtin;refine wpList_append_lies _ rfl (.tmp 20) (.tmp 21) _ rfl w.heap.size 3 i0 (.int .i64 0) 1 8 (aI Tryz.underlying30) hi hz0 hz1 hz2 rfl (by decide) _ 5 ([.int .i64 30,.int .i64 29,.int .i64 29,.int .i64 29,.int .i64 30]) rfl ((jT (w.alloc _) #[.int .i64 30,.int .i64 29,.int .i64 29,.int .i64 29,.int .i64 30] _ 5 (w.heap.size+1) w.heap.size (by simp) (by omega) (by decide) rfl).alloc _) ⟨w.heap.size+2,0,none⟩ 7 7 [.int .i64 29,.int .i64 30,.int .i64 29,.int .i64 30,.int .i64 29,.int .i64 30,.int .i64 29] rfl rfl (iF _ #[.int .i64 29,.int .i64 30,.int .i64 29,.int .i64 30,.int .i64 29,.int .i64 30,.int .i64 29] _ _ (by simp)) (jH [29,30,29,30,29,30,29]) (by decide) (by simp [maxLen]) (by decide) (by simp;omega) _ rfl ?_;intro g1 cap1 w1 hown1 hgrow1 hat1 hlt1))
 go_ret
 refine⟨_,rfl,jq hown1 rfl rfl,aB ?_ hgrow1 (fun k hk=>by have h:w.heap.size+1=k:=sS hk;omega)⟩
 repeat(first|exact Below.refl _ _|assumption|(with_reducible refine bU ?_)|(with_reducible refine baa ?_ _)|(with_reducible refine bs ?_ (by first|exact Nat.le_refl _|omega|(simp;omega)) _)|(with_reducible refine bt ?_ (by assumption)))
theorem CX(b:Int)(w:World):
  Calls Tryo.prog 187 #[.agg #[.int .i64 b,.int .i64 2,.bool false]] w fun e w'=>∃v,e= .returned v/\Ints w' w.heap.size v [30,30,30,29,30,29,30,29,30,29,30,29]/\Below w.heap.size w w':=by
 obtain⟨i0,hi,hz0,hz1,hz2⟩:=info_parts qU
 go_enter Tryo.func187,Tryz.ntmps187
 go_wp2_with ((at_builtin;refine wpList_append_lies _ rfl (.tmp 20) (.tmp 21) _ rfl w.heap.size 3 i0 (.int .i64 0) 1 8 (aI Tryz.underlying30) hi hz0 hz1 hz2 rfl (by decide) _ 5 ([.int .i64 30,.int .i64 30,.int .i64 30,.int .i64 29,.int .i64 30]) rfl ((jT (w.alloc _) #[.int .i64 30,.int .i64 30,.int .i64 30,.int .i64 29,.int .i64 30] _ 5 (w.heap.size+1) w.heap.size (by simp) (by omega) (by decide) rfl).alloc _) ⟨w.heap.size+2,0,none⟩ 7 7 [.int .i64 29,.int .i64 30,.int .i64 29,.int .i64 30,.int .i64 29,.int .i64 30,.int .i64 29] rfl rfl (iF _ #[.int .i64 29,.int .i64 30,.int .i64 29,.int .i64 30,.int .i64 29,.int .i64 30,.int .i64 29] _ _ (by simp)) (jH [29,30,29,30,29,30,29]) (by decide) (by simp [maxLen]) (by decide) (by simp;omega) _ rfl ?_;intro g1 cap1 w1 hown1 hgrow1 hat1 hlt1))
 go_ret
 refine⟨_,rfl,jq hown1 rfl rfl,aB ?_ hgrow1 (fun k hk=>by have h:w.heap.size+1=k:=sS hk;omega)⟩
 repeat(first|exact Below.refl _ _|assumption|(with_reducible refine bU ?_)|(with_reducible refine baa ?_ _)|(with_reducible refine bs ?_ (by first|exact Nat.le_refl _|omega|(simp;omega)) _)|(with_reducible refine bt ?_ (by assumption)))
theorem Dh(b k:Int)(w:World)(h0:¬ k=0)(h2:¬ k=2):
  Calls Tryo.prog 187 #[.agg #[.int .i64 b,.int .i64 k,.bool false]] w fun e w'=>∃v,e= .returned v/\Ints w' w.heap.size v [30,29,30,29,30,29,30,29,30,29,30,29]/\Below w.heap.size w w':=by
 obtain⟨i0,hi,hz0,hz1,hz2⟩:=info_parts qU
 have q0:(k==0)=false:=by simpa using h0
 have q2:(k==2)=false:=by simpa using h2
 clear h0 h2
 go_enter Tryo.func187,Tryz.ntmps187
 go_wp2_with ((at_builtin;refine wpList_append_lies _ rfl (.tmp 20) (.tmp 21) _ rfl w.heap.size 3 i0 (.int .i64 0) 1 8 (aI Tryz.underlying30) hi hz0 hz1 hz2 rfl (by decide) _ 5 ([.int .i64 30,.int .i64 29,.int .i64 30,.int .i64 29,.int .i64 30]) rfl ((jT (w.alloc _) #[.int .i64 30,.int .i64 29,.int .i64 30,.int .i64 29,.int .i64 30] _ 5 (w.heap.size+1) w.heap.size (by simp) (by omega) (by decide) rfl).alloc _) ⟨w.heap.size+2,0,none⟩ 7 7 [.int .i64 29,.int .i64 30,.int .i64 29,.int .i64 30,.int .i64 29,.int .i64 30,.int .i64 29] rfl rfl (iF _ #[.int .i64 29,.int .i64 30,.int .i64 29,.int .i64 30,.int .i64 29,.int .i64 30,.int .i64 29] _ _ (by simp)) (jH [29,30,29,30,29,30,29]) (by decide) (by simp [maxLen]) (by decide) (by simp;omega) _ rfl ?_;intro g1 cap1 w1 hown1 hgrow1 hat1 hlt1))
 go_ret
 refine⟨_,rfl,jq hown1 rfl rfl,aB ?_ hgrow1 (fun k hk=>by have h:w.heap.size+1=k:=sS hk;omega)⟩
 repeat(first|exact Below.refl _ _|assumption|(with_reducible refine bU ?_)|(with_reducible refine baa ?_ _)|(with_reducible refine bs ?_ (by first|exact Nat.le_refl _|omega|(simp;omega)) _)|(with_reducible refine bt ?_ (by assumption)))
theorem DT(b:Int)(w:World):
  Calls Tryo.prog 187 #[.agg #[.int .i64 b,.int .i64 0,.bool true]] w fun e w'=>∃v,e= .returned v/\Ints w' w.heap.size v [30,29,29,29,30,30,29,30,29,30,29,30,29]/\Below w.heap.size w w':=by
 obtain⟨i0,hi,hz0,hz1,hz2⟩:=info_parts qU
 go_enter Tryo.func187,Tryz.ntmps187
 go_wp2_with (first|(at_builtin;refine wpList_append_lies _ rfl (.tmp 17) (.tmp 18) _ rfl w.heap.size 3 i0 (.int .i64 0) 1 8 (aI Tryz.underlying30) hi hz0 hz1 hz2 rfl (by decide) _ 5 ([.int .i64 30,.int .i64 29,.int .i64 29,.int .i64 29,.int .i64 30]) rfl ((jT (w.alloc _) #[.int .i64 30,.int .i64 29,.int .i64 29,.int .i64 29,.int .i64 30] _ 5 (w.heap.size+1) w.heap.size (by simp) (by omega) (by decide) rfl).alloc _) ⟨w.heap.size+2,0,none⟩ 1 1 [.int .i64 30] rfl rfl (iF _ #[.int .i64 30] _ _ (by simp)) (jH [30]) (by decide) (by simp [maxLen]) (by decide) (by simp;omega) _ rfl ?_;intro g1 cap1 w1 hown1 hgrow1 hat1 hlt1)|(at_builtin;refine wpList_append_lies _ rfl (.tmp 20) (.tmp 21) _ rfl w.heap.size 3 i0 (.int .i64 0) 1 8 (aI Tryz.underlying30) hi hz0 hz1 hz2 rfl (by decide) _ 6 ([.int .i64 30,.int .i64 29,.int .i64 29,.int .i64 29,.int .i64 30]++ [.int .i64 30]) rfl (hown1.alloc _) ⟨w1.heap.size,0,none⟩ 7 7 [.int .i64 29,.int .i64 30,.int .i64 29,.int .i64 30,.int .i64 29,.int .i64 30,.int .i64 29] rfl rfl (iF _ #[.int .i64 29,.int .i64 30,.int .i64 29,.int .i64 30,.int .i64 29,.int .i64 30,.int .i64 29] _ _ rfl) (jH [29,30,29,30,29,30,29]) (by decide) (by simp [maxLen]) (by decide) (by have:=hgrow1.size;simp at this⊢;omega) _ rfl ?_;intro g2 cap2 w2 hown2 hgrow2 hat2 hlt2))
 go_ret
 refine⟨_,rfl,jq hown2 rfl rfl,aB (baa (aB ?_ hgrow1 (fun k hk=>by have h:w.heap.size+1=k:=sS hk;omega)) _) hgrow2 (fun k hk=>(hown1.lt k hk).1)⟩
 repeat(first|exact Below.refl _ _|assumption|(with_reducible refine bU ?_)|(with_reducible refine baa ?_ _)|(with_reducible refine bs ?_ (by first|exact Nat.le_refl _|omega|(simp;omega)) _)|(with_reducible refine bt ?_ (by assumption)))
theorem DU(b:Int)(w:World):
  Calls Tryo.prog 187 #[.agg #[.int .i64 b,.int .i64 2,.bool true]] w fun e w'=>∃v,e= .returned v/\Ints w' w.heap.size v [30,30,30,29,30,30,29,30,29,30,29,30,29]/\Below w.heap.size w w':=by
 obtain⟨i0,hi,hz0,hz1,hz2⟩:=info_parts qU
 go_enter Tryo.func187,Tryz.ntmps187
 go_wp2_with (first|(at_builtin;refine wpList_append_lies _ rfl (.tmp 17) (.tmp 18) _ rfl w.heap.size 3 i0 (.int .i64 0) 1 8 (aI Tryz.underlying30) hi hz0 hz1 hz2 rfl (by decide) _ 5 ([.int .i64 30,.int .i64 30,.int .i64 30,.int .i64 29,.int .i64 30]) rfl ((jT (w.alloc _) #[.int .i64 30,.int .i64 30,.int .i64 30,.int .i64 29,.int .i64 30] _ 5 (w.heap.size+1) w.heap.size (by simp) (by omega) (by decide) rfl).alloc _) ⟨w.heap.size+2,0,none⟩ 1 1 [.int .i64 30] rfl rfl (iF _ #[.int .i64 30] _ _ (by simp)) (jH [30]) (by decide) (by simp [maxLen]) (by decide) (by simp;omega) _ rfl ?_;intro g1 cap1 w1 hown1 hgrow1 hat1 hlt1)|(at_builtin;refine wpList_append_lies _ rfl (.tmp 20) (.tmp 21) _ rfl w.heap.size 3 i0 (.int .i64 0) 1 8 (aI Tryz.underlying30) hi hz0 hz1 hz2 rfl (by decide) _ 6 ([.int .i64 30,.int .i64 30,.int .i64 30,.int .i64 29,.int .i64 30]++ [.int .i64 30]) rfl (hown1.alloc _) ⟨w1.heap.size,0,none⟩ 7 7 [.int .i64 29,.int .i64 30,.int .i64 29,.int .i64 30,.int .i64 29,.int .i64 30,.int .i64 29] rfl rfl (iF _ #[.int .i64 29,.int .i64 30,.int .i64 29,.int .i64 30,.int .i64 29,.int .i64 30,.int .i64 29] _ _ rfl) (jH [29,30,29,30,29,30,29]) (by decide) (by simp [maxLen]) (by decide) (by have:=hgrow1.size;simp at this⊢;omega) _ rfl ?_;intro g2 cap2 w2 hown2 hgrow2 hat2 hlt2))
 go_ret
 refine⟨_,rfl,jq hown2 rfl rfl,aB (baa (aB ?_ hgrow1 (fun k hk=>by have h:w.heap.size+1=k:=sS hk;omega)) _) hgrow2 (fun k hk=>(hown1.lt k hk).1)⟩
 repeat(first|exact Below.refl _ _|assumption|(with_reducible refine bU ?_)|(with_reducible refine baa ?_ _)|(with_reducible refine bs ?_ (by first|exact Nat.le_refl _|omega|(simp;omega)) _)|(with_reducible refine bt ?_ (by assumption)))
theorem CV(b k:Int)(w:World)(h0:¬ k=0)(h2:¬ k=2):
  Calls Tryo.prog 187 #[.agg #[.int .i64 b,.int .i64 k,.bool true]] w fun e w'=>∃v,e= .returned v/\Ints w' w.heap.size v [30,29,30,29,30,30,29,30,29,30,29,30,29]/\Below w.heap.size w w':=by
 obtain⟨i0,hi,hz0,hz1,hz2⟩:=info_parts qU
 have q0:(k==0)=false:=by simpa using h0
 have q2:(k==2)=false:=by simpa using h2
 clear h0 h2
 go_enter Tryo.func187,Tryz.ntmps187
 go_wp2_with (first|(at_builtin;refine wpList_append_lies _ rfl (.tmp 17) (.tmp 18) _ rfl w.heap.size 3 i0 (.int .i64 0) 1 8 (aI Tryz.underlying30) hi hz0 hz1 hz2 rfl (by decide) _ 5 ([.int .i64 30,.int .i64 29,.int .i64 30,.int .i64 29,.int .i64 30]) rfl ((jT (w.alloc _) #[.int .i64 30,.int .i64 29,.int .i64 30,.int .i64 29,.int .i64 30] _ 5 (w.heap.size+1) w.heap.size (by simp) (by omega) (by decide) rfl).alloc _) ⟨w.heap.size+2,0,none⟩ 1 1 [.int .i64 30] rfl rfl (iF _ #[.int .i64 30] _ _ (by simp)) (jH [30]) (by decide) (by simp [maxLen]) (by decide) (by simp;omega) _ rfl ?_;intro g1 cap1 w1 hown1 hgrow1 hat1 hlt1)|(at_builtin;refine wpList_append_lies _ rfl (.tmp 20) (.tmp 21) _ rfl w.heap.size 3 i0 (.int .i64 0) 1 8 (aI Tryz.underlying30) hi hz0 hz1 hz2 rfl (by decide) _ 6 ([.int .i64 30,.int .i64 29,.int .i64 30,.int .i64 29,.int .i64 30]++ [.int .i64 30]) rfl (hown1.alloc _) ⟨w1.heap.size,0,none⟩ 7 7 [.int .i64 29,.int .i64 30,.int .i64 29,.int .i64 30,.int .i64 29,.int .i64 30,.int .i64 29] rfl rfl (iF _ #[.int .i64 29,.int .i64 30,.int .i64 29,.int .i64 30,.int .i64 29,.int .i64 30,.int .i64 29] _ _ rfl) (jH [29,30,29,30,29,30,29]) (by decide) (by simp [maxLen]) (by decide) (by have:=hgrow1.size;simp at this⊢;omega) _ rfl ?_;intro g2 cap2 w2 hown2 hgrow2 hat2 hlt2))
 go_ret
 refine⟨_,rfl,jq hown2 rfl rfl,aB (baa (aB ?_ hgrow1 (fun k hk=>by have h:w.heap.size+1=k:=sS hk;omega)) _) hgrow2 (fun k hk=>(hown1.lt k hk).1)⟩
 repeat(first|exact Below.refl _ _|assumption|(with_reducible refine bU ?_)|(with_reducible refine baa ?_ _)|(with_reducible refine bs ?_ (by first|exact Nat.le_refl _|omega|(simp;omega)) _)|(with_reducible refine bt ?_ (by assumption)))
theorem fA(b k:Int)(l:Bool)(w:World):
  Calls Tryo.prog 187 #[.agg #[.int .i64 b,.int .i64 k,.bool l]] w fun e w'=>∃v,e= .returned v/\Ints w' w.heap.size v (lens k l)/\Below w.heap.size w w':=by
 by_cases h0:k=0
 ·subst h0
  cases l
  ·rw [Uv];exact CQ b w
  ·rw [Un];exact DT b w
 ·by_cases h2:k=2
  ·subst h2
   cases l
   ·rw [T9];exact CX b w
   ·rw [UO];exact DU b w
  ·cases l
   ·rw [U1 k h0 h2];exact Dh b k w h0 h2
   ·rw [TY k h0 h2];exact CV b k w h0 h2
end
section
open Go.ChangeShapes Go.WideShapes Go.ChangeAt Go.RowKit
def cnt(b k:Int)(l:Bool):Int:=if number b k l=0 then 0 else if l then 13 else 12
def has(b k:Int)(l:Bool)(m:Int):Bool:=decide (1<=m)&&decide (m<=cnt b k l)
def jo(b k:Int)(l:Bool)(m:Int):Int:=if has b k l m then(lens k l).getD (m-1).toNat 0 else 0
def bE(b k:Int)(l:Bool)(m:Int):Int:=if has b k l m then((lens k l).take (m-1).toNat).sum else 0
def dS:List Int->Int->Int->Int×Int×Bool
 | [],_,_=>(0,0,false)
 |x :: r,i,n=>if n<=x then(i,n,true)else dS r (i+1) (n-x)
def mU(b k:Int)(l:Bool)(n:Int):Int×Int×Bool:=if n<1 then(0,0,false)else dS ((lens k l).take (cnt b k l).toNat) 1 n
theorem dH(k:Int)(l:Bool):(lens k l).length=if l then 13 else 12:=by cases l <;> simp [lens]
theorem Gv(b k:Int)(l:Bool):∀n i:Nat,0<=iV b k l n i
 |0,_=>by simp [iV]
 |n+1,i=>by
  have:=Gv b k l n (i+1)
  simp only [iV]
  split <;> omega
theorem Vp(b k:Int)(l:Bool):0<=number b k l:=Gv b k l 14 0
theorem nD(b k:Int)(l:Bool):0<=cnt b k l/\cnt b k l<=13:=by unfold cnt;split <;> (try split) <;> omega
theorem oK(b k:Int)(l:Bool):cnt b k l<=(lens k l).length:=by rw [dH];unfold cnt;split <;> cases l <;> simp
theorem TP(b k:Int)(l:Bool)(h:number b k l=0):cnt b k l=0:=by unfold cnt;rw [if_pos h]
theorem EA(b k:Int)(l:Bool)(h:number b k l≠0):cnt b k l=(lens k l).length:=by rw [dH];unfold cnt;rw [if_neg h];cases l <;> rfl
theorem mX(k:Int)(l:Bool):∀x∈lens k l,29<=x/\x<=30:=by
 intro x hx
 simp only [lens,List.mem_append,List.mem_cons,List.not_mem_nil,or_false]at hx
 rcases hx with (h|h|h|h|h)|h|h
 ·omega
 ·split at h <;> omega
 ·split at h <;> omega
 ·omega
 ·omega
 ·cases l <;> simp at h;omega
 ·omega
theorem Et(k:Int)(l:Bool)(j:Nat)(hj:j<(lens k l).length):∃x,(lens k l)[j]? =some x/\(lens k l).getD j 0=x/\29<=x/\x<=30:=by
 refine⟨_,List.getElem?_eq_getElem hj,by simp [List.getD,List.getElem?_eq_getElem hj],mX k l _ (List.getElem_mem hj)⟩
theorem og(xs:List Int)(j:Nat)(x:Int)(h:xs[j]? =some x):(xs.take (j+1)).sum=(xs.take j).sum+x:=by
 rw [List.take_add_one,h];simp
theorem Fu(xs:List Int)(h:∀x∈xs,29<=x/\x<=30):∀j:Nat,0<=(xs.take j).sum/\(xs.take j).sum<=30*j
 |0=>by simp
 | j+1=>by
  have ih:=Fu xs h j
  cases hj:xs[j]? with
  |none=>rw [List.take_add_one,hj];simp;omega
  |some x=>
   have:=h x (List.mem_of_getElem? hj)
   rw [og xs j x hj];omega
theorem oW(xs:List Int)(j:Nat)(x i n:Int)(h:xs[j]? =some x)(hx:¬ n<=x):dS (xs.drop j) i n=dS (xs.drop (j+1)) (i+1) (n-x):=by
 have hl:=(List.getElem?_eq_some_iff.1 h).1
 rw [List.drop_eq_getElem_cons hl,dS,(List.getElem?_eq_some_iff.1 h).2,if_neg hx]
theorem sG(xs:List Int)(j:Nat)(x i n:Int)(h:xs[j]? =some x)(hx:n<=x):dS (xs.drop j) i n=(i,n,true):=by
 have hl:=(List.getElem?_eq_some_iff.1 h).1
 rw [List.drop_eq_getElem_cons hl,dS,(List.getElem?_eq_some_iff.1 h).2,if_pos hx]
theorem J5(xs:List Int)(j:Nat)(i n:Int)(h:xs.length<=j):dS (xs.drop j) i n=(0,0,false):=by
 rw [List.drop_eq_nil_of_le h];rfl
theorem jl(b k:Int)(l:Bool)(w:World)(hT:Tab w 7 kevCells):
  Calls Tryo.prog 107 #[.agg #[.int .i64 b,.int .i64 k,.bool l]] w fun e w'=>e= .returned (.int .i64 (cnt b k l))/\Below w.heap.size w w':=by
 have hN:=fun(w:World) (h:Tab w 7 kevCells)=>zW b k l w h
 by_cases h:number b k l=0
 ·rw [TP b k l h]
  rw [h]at hN
  have HN:=Lib.hid hN
  clear hN h
  go_enter Tryo.func107,Tryz.ntmps107
  go_wp2_with fail
  refine(HN.out _ (Tab.below hT (ba _ _))).mono ?_
  rintro e w1 ⟨rfl,hb1⟩
  obtain⟨hc1,hf1⟩:=aA hb1
  have hz1:=hb1.size
  try simp at hz1
  have hl1w:w.heap.size<w1.heap.size:=by omega
  have hm1w:w.heap.size<=w1.heap.size:=by omega
  have g1x0:w1.cell? ⟨w.heap.size,0,none⟩=some (.int .i64 b):=aH hc1
  have g1x1:w1.cell? ⟨w.heap.size,1,none⟩=some (.int .i64 k):=aH hc1
  have g1x2:w1.cell? ⟨w.heap.size,2,none⟩=some (.bool l):=aH hc1
  go_wp2_with fail
  go_ret
  exact⟨rfl,bt (ba _ _) hb1⟩
 ·have q:(number b k l==0)=false:=by rw [beq_eq_false_iff_ne];exact h
  rw [EA b k l h,dH]
  have HN:=Lib.hid hN
  clear hN h
  cases l
  ·generalize number b k false=N at*
   go_enter Tryo.func107,Tryz.ntmps107
   go_wp2_with fail
   refine(HN.out _ (Tab.below hT (ba _ _))).mono ?_
   rintro e w1 ⟨rfl,hb1⟩
   obtain⟨hc1,hf1⟩:=aA hb1
   have hz1:=hb1.size
   try simp at hz1
   have hl1w:w.heap.size<w1.heap.size:=by omega
   have hm1w:w.heap.size<=w1.heap.size:=by omega
   have g1x0:w1.cell? ⟨w.heap.size,0,none⟩=some (.int .i64 b):=aH hc1
   have g1x1:w1.cell? ⟨w.heap.size,1,none⟩=some (.int .i64 k):=aH hc1
   have g1x2:w1.cell? ⟨w.heap.size,2,none⟩=some (.bool false):=aH hc1
   go_wp2_with fail
   go_ret
   exact⟨rfl,bt (ba _ _) hb1⟩
  ·generalize number b k true=N at*
   go_enter Tryo.func107,Tryz.ntmps107
   go_wp2_with fail
   refine(HN.out _ (Tab.below hT (ba _ _))).mono ?_
   rintro e w1 ⟨rfl,hb1⟩
   obtain⟨hc1,hf1⟩:=aA hb1
   have hz1:=hb1.size
   try simp at hz1
   have hl1w:w.heap.size<w1.heap.size:=by omega
   have hm1w:w.heap.size<=w1.heap.size:=by omega
   have g1x0:w1.cell? ⟨w.heap.size,0,none⟩=some (.int .i64 b):=aH hc1
   have g1x1:w1.cell? ⟨w.heap.size,1,none⟩=some (.int .i64 k):=aH hc1
   have g1x2:w1.cell? ⟨w.heap.size,2,none⟩=some (.bool true):=aH hc1
   go_wp2_with fail
   go_ret
   exact⟨rfl,bt (ba _ _) hb1⟩
theorem GQ(b k:Int)(l:Bool)(w:World):
  Calls Tryo.prog 119 #[.agg #[.int .i64 b,.int .i64 k,.bool l]] w fun e w'=>e= .returned (.int .i64 (cnt b k l))/\Below w.heap.size w w':=by
 have hN:=fun(w:World)=>o9 b k l w
 by_cases h:number b k l=0
 ·rw [TP b k l h]
  rw [h]at hN
  have HN:=Lib.hid hN
  clear hN h
  go_enter Tryo.func119,Tryz.ntmps119
  go_wp2_with fail
  refine(HN.out _).mono ?_
  rintro e w1 ⟨rfl,hb1⟩
  obtain⟨hc1,hf1⟩:=aA hb1
  have hz1:=hb1.size
  try simp at hz1
  have hl1w:w.heap.size<w1.heap.size:=by omega
  have hm1w:w.heap.size<=w1.heap.size:=by omega
  have g1x0:w1.cell? ⟨w.heap.size,0,none⟩=some (.int .i64 b):=aH hc1
  have g1x1:w1.cell? ⟨w.heap.size,1,none⟩=some (.int .i64 k):=aH hc1
  have g1x2:w1.cell? ⟨w.heap.size,2,none⟩=some (.bool l):=aH hc1
  go_wp2_with fail
  go_ret
  exact⟨rfl,bt (ba _ _) hb1⟩
 ·have q:(number b k l==0)=false:=by rw [beq_eq_false_iff_ne];exact h
  rw [EA b k l h,dH]
  have HN:=Lib.hid hN
  clear hN h
  cases l
  ·generalize number b k false=N at*
   go_enter Tryo.func119,Tryz.ntmps119
   go_wp2_with fail
   refine(HN.out _).mono ?_
   rintro e w1 ⟨rfl,hb1⟩
   obtain⟨hc1,hf1⟩:=aA hb1
   have hz1:=hb1.size
   try simp at hz1
   have hl1w:w.heap.size<w1.heap.size:=by omega
   have hm1w:w.heap.size<=w1.heap.size:=by omega
   have g1x0:w1.cell? ⟨w.heap.size,0,none⟩=some (.int .i64 b):=aH hc1
   have g1x1:w1.cell? ⟨w.heap.size,1,none⟩=some (.int .i64 k):=aH hc1
   have g1x2:w1.cell? ⟨w.heap.size,2,none⟩=some (.bool false):=aH hc1
   go_wp2_with fail
   refine(fA b k false _).mono ?_
   rintro e w2 ⟨v,rfl,⟨g,cap,rfl,hcap,hBg,hg,hcell⟩,hb2⟩
   rw [dH]
   go_wp2_with fail
   go_ret
   exact⟨rfl,bt (bt (ba _ _) hb1) hb2⟩
  ·generalize number b k true=N at*
   go_enter Tryo.func119,Tryz.ntmps119
   go_wp2_with fail
   refine(HN.out _).mono ?_
   rintro e w1 ⟨rfl,hb1⟩
   obtain⟨hc1,hf1⟩:=aA hb1
   have hz1:=hb1.size
   try simp at hz1
   have hl1w:w.heap.size<w1.heap.size:=by omega
   have hm1w:w.heap.size<=w1.heap.size:=by omega
   have g1x0:w1.cell? ⟨w.heap.size,0,none⟩=some (.int .i64 b):=aH hc1
   have g1x1:w1.cell? ⟨w.heap.size,1,none⟩=some (.int .i64 k):=aH hc1
   have g1x2:w1.cell? ⟨w.heap.size,2,none⟩=some (.bool true):=aH hc1
   go_wp2_with fail
   refine(fA b k true _).mono ?_
   rintro e w2 ⟨v,rfl,⟨g,cap,rfl,hcap,hBg,hg,hcell⟩,hb2⟩
   rw [dH]
   go_wp2_with fail
   go_ret
   exact⟨rfl,bt (bt (ba _ _) hb1) hb2⟩
theorem Ei(b k:Int)(l:Bool)(m:Int)(w:World):
  Calls Tryo.prog 188 #[.agg #[.int .i64 b,.int .i64 k,.bool l],.int .i64 m] w fun e w'=>e= .returned (.bool (has b k l m))/\Below w.heap.size w w':=by
 have hN:=fun(w:World)=>o9 b k l w
 have hnn:=Vp b k l
 by_cases h:number b k l=0
 ·have e:has b k l m=false:=by
   unfold has;rw [TP b k l h]
   by_cases c:1<=m
   ·have:¬ m<=0:=by omega
    simp [this]
   ·simp [c]
  rw [e]
  rw [h]at hN
  have HN:=Lib.hid hN
  clear hN h hnn e
  go_enter Tryo.func188,Tryz.ntmps188
  go_wp2_with fail
  refine(HN.out _).mono ?_
  rintro e w1 ⟨rfl,hb1⟩
  obtain⟨hc1,hf1⟩:=aA hb1
  have hz1:=hb1.size
  try simp at hz1
  have hl1w:w.heap.size<w1.heap.size:=by omega
  have hm1w:w.heap.size<=w1.heap.size:=by omega
  have g1x0:w1.cell? ⟨w.heap.size,0,none⟩=some (.int .i64 b):=aH hc1
  have g1x1:w1.cell? ⟨w.heap.size,1,none⟩=some (.int .i64 k):=aH hc1
  have g1x2:w1.cell? ⟨w.heap.size,2,none⟩=some (.bool l):=aH hc1
  go_wp2_with fail
  go_ret
  exact⟨rfl,bt (ba _ _) hb1⟩
 ·have q:(0:Int)<number b k l:=by omega
  have e:has b k l m=(decide (1<=m)&&decide (m<=((lens k l).length:Int))):=by unfold has;rw [EA b k l h]
  rw [e,dH]
  have HN:=Lib.hid hN
  clear hN h hnn e
  by_cases c:1<=m
  ·cases l
   ·generalize number b k false=N at*
    go_enter Tryo.func188,Tryz.ntmps188
    go_wp2_with fail
    refine(HN.out _).mono ?_
    rintro e w1 ⟨rfl,hb1⟩
    obtain⟨hc1,hf1⟩:=aA hb1
    have hz1:=hb1.size
    try simp at hz1
    have hl1w:w.heap.size<w1.heap.size:=by omega
    have hm1w:w.heap.size<=w1.heap.size:=by omega
    have g1x0:w1.cell? ⟨w.heap.size,0,none⟩=some (.int .i64 b):=aH hc1
    have g1x1:w1.cell? ⟨w.heap.size,1,none⟩=some (.int .i64 k):=aH hc1
    have g1x2:w1.cell? ⟨w.heap.size,2,none⟩=some (.bool false):=aH hc1
    go_wp2_with fail
    refine(fA b k false _).mono ?_
    rintro e w2 ⟨v,rfl,⟨g,cap,rfl,hcap,hBg,hg,hcell⟩,hb2⟩
    rw [dH]
    go_wp2_with fail
    go_ret
    refine⟨fT ?_,bt (bt (ba _ _) hb1) hb2⟩
    simp
   ·generalize number b k true=N at*
    go_enter Tryo.func188,Tryz.ntmps188
    go_wp2_with fail
    refine(HN.out _).mono ?_
    rintro e w1 ⟨rfl,hb1⟩
    obtain⟨hc1,hf1⟩:=aA hb1
    have hz1:=hb1.size
    try simp at hz1
    have hl1w:w.heap.size<w1.heap.size:=by omega
    have hm1w:w.heap.size<=w1.heap.size:=by omega
    have g1x0:w1.cell? ⟨w.heap.size,0,none⟩=some (.int .i64 b):=aH hc1
    have g1x1:w1.cell? ⟨w.heap.size,1,none⟩=some (.int .i64 k):=aH hc1
    have g1x2:w1.cell? ⟨w.heap.size,2,none⟩=some (.bool true):=aH hc1
    go_wp2_with fail
    refine(fA b k true _).mono ?_
    rintro e w2 ⟨v,rfl,⟨g,cap,rfl,hcap,hBg,hg,hcell⟩,hb2⟩
    rw [dH]
    go_wp2_with fail
    go_ret
    refine⟨fT ?_,bt (bt (ba _ _) hb1) hb2⟩
    simp
  ·cases l
   ·generalize number b k false=N at*
    go_enter Tryo.func188,Tryz.ntmps188
    go_wp2_with fail
    refine(HN.out _).mono ?_
    rintro e w1 ⟨rfl,hb1⟩
    obtain⟨hc1,hf1⟩:=aA hb1
    have hz1:=hb1.size
    try simp at hz1
    have hl1w:w.heap.size<w1.heap.size:=by omega
    have hm1w:w.heap.size<=w1.heap.size:=by omega
    have g1x0:w1.cell? ⟨w.heap.size,0,none⟩=some (.int .i64 b):=aH hc1
    have g1x1:w1.cell? ⟨w.heap.size,1,none⟩=some (.int .i64 k):=aH hc1
    have g1x2:w1.cell? ⟨w.heap.size,2,none⟩=some (.bool false):=aH hc1
    go_wp2_with fail
    go_ret
    refine⟨fT ?_,bt (ba _ _) hb1⟩
    simp
    intro _
    omega
   ·generalize number b k true=N at*
    go_enter Tryo.func188,Tryz.ntmps188
    go_wp2_with fail
    refine(HN.out _).mono ?_
    rintro e w1 ⟨rfl,hb1⟩
    obtain⟨hc1,hf1⟩:=aA hb1
    have hz1:=hb1.size
    try simp at hz1
    have hl1w:w.heap.size<w1.heap.size:=by omega
    have hm1w:w.heap.size<=w1.heap.size:=by omega
    have g1x0:w1.cell? ⟨w.heap.size,0,none⟩=some (.int .i64 b):=aH hc1
    have g1x1:w1.cell? ⟨w.heap.size,1,none⟩=some (.int .i64 k):=aH hc1
    have g1x2:w1.cell? ⟨w.heap.size,2,none⟩=some (.bool true):=aH hc1
    go_wp2_with fail
    go_ret
    refine⟨fT ?_,bt (ba _ _) hb1⟩
    simp
    intro _
    omega
theorem Jw(b k:Int)(l:Bool)(j:Nat)(x:Int)(w:World)(hT:Tab w 7 kevCells)(hL:Tab w 5 lenCells)(hj:(j:Int)+1<=cnt b k l)(hx:(lens k l)[j]? =some x):
  Calls Tryo.prog 109 #[.agg #[.int .i64 b,.int .i64 k,.bool l],.int .i64 ((j:Int)+1)] w fun e w'=>e= .returned (.int .i64 x)/\Below w.heap.size w w':=by
 have hl:=oK b k l
 have hb0:=nD b k l
 have HC:=Lib.hid (fun w h=>jl b k l w h)
 generalize cnt b k l=C at*
 rw [dH]at hl
 cases l
 ·have h1:(j:Int)<12:=by simp at hl;omega
  have h2:(0:Int)<=(j:Int):=by omega
  have hn:(j:Int)<=13:=by omega
  have HX:=Lib.hid hx
  clear hl hx
  go_enter Tryo.func109,Tryz.ntmps109
  go_wp2_with fail
  refine(HC.out _ (Tab.below hT (ba _ _))).mono ?_
  rintro e w1 ⟨rfl,hb1⟩
  obtain⟨hc1,hf1⟩:=aA hb1
  have hz1:=hb1.size
  try simp at hz1
  have hl1w:w.heap.size<w1.heap.size:=by omega
  have hm1w:w.heap.size<=w1.heap.size:=by omega
  have g1x0:w1.cell? ⟨w.heap.size,0,none⟩=some (.int .i64 b):=aH hc1
  have g1x1:w1.cell? ⟨w.heap.size,1,none⟩=some (.int .i64 k):=aH hc1
  have g1x2:w1.cell? ⟨w.heap.size,2,none⟩=some (.bool false):=aH hc1
  go_wp2_with fail
  refine(oM b k false _ (Tab.below hL (bt (ba _ _) hb1))).mono ?_
  rintro e w2 ⟨v,rfl,⟨g,cap,rfl,hcap,hBg,hg,hcell⟩,hb2⟩
  have hcx:=hcell j x HX.out
  clear hcell hcap
  rw [dH]
  go_wp2_with fail
  go_ret
  exact⟨rfl,bt (bt (ba _ _) hb1) hb2⟩
 ·have h1:(j:Int)<13:=by simp at hl;omega
  have h2:(0:Int)<=(j:Int):=by omega
  have hn:(j:Int)<=13:=by omega
  have HX:=Lib.hid hx
  clear hl hx
  go_enter Tryo.func109,Tryz.ntmps109
  go_wp2_with fail
  refine(HC.out _ (Tab.below hT (ba _ _))).mono ?_
  rintro e w1 ⟨rfl,hb1⟩
  obtain⟨hc1,hf1⟩:=aA hb1
  have hz1:=hb1.size
  try simp at hz1
  have hl1w:w.heap.size<w1.heap.size:=by omega
  have hm1w:w.heap.size<=w1.heap.size:=by omega
  have g1x0:w1.cell? ⟨w.heap.size,0,none⟩=some (.int .i64 b):=aH hc1
  have g1x1:w1.cell? ⟨w.heap.size,1,none⟩=some (.int .i64 k):=aH hc1
  have g1x2:w1.cell? ⟨w.heap.size,2,none⟩=some (.bool true):=aH hc1
  go_wp2_with fail
  refine(oM b k true _ (Tab.below hL (bt (ba _ _) hb1))).mono ?_
  rintro e w2 ⟨v,rfl,⟨g,cap,rfl,hcap,hBg,hg,hcell⟩,hb2⟩
  have hcx:=hcell j x HX.out
  clear hcell hcap
  rw [dH]
  go_wp2_with fail
  go_ret
  exact⟨rfl,bt (bt (ba _ _) hb1) hb2⟩
theorem Ij(b k:Int)(l:Bool)(m:Int)(w:World)(hT:Tab w 7 kevCells)(hL:Tab w 5 lenCells)(h:has b k l m=false):
  Calls Tryo.prog 109 #[.agg #[.int .i64 b,.int .i64 k,.bool l],.int .i64 m] w fun e w'=>e= .returned (.int .i64 0)/\Below w.heap.size w w':=by
 have HC:=Lib.hid (fun w h=>jl b k l w h)
 rcases(show m<1∨(1<=m/\cnt b k l<m) by
  by_cases c:m<1
  ·exact .inl c
  ·refine .inr ⟨by omega, ?_⟩
   unfold has at h
   simp only [Bool.and_eq_false_iff,decide_eq_false_iff_not]at h
   omega)with c|⟨c1,c2⟩
 ·clear h HC
  go_enter Tryo.func109,Tryz.ntmps109
  go_wp2_with fail
  go_ret
  exact⟨rfl,ba _ _⟩
 ·clear h
  generalize cnt b k l=C at*
  go_enter Tryo.func109,Tryz.ntmps109
  go_wp2_with fail
  refine(HC.out _ (Tab.below hT (ba _ _))).mono ?_
  rintro e w1 ⟨rfl,hb1⟩
  obtain⟨hc1,hf1⟩:=aA hb1
  have hz1:=hb1.size
  try simp at hz1
  have hl1w:w.heap.size<w1.heap.size:=by omega
  have hm1w:w.heap.size<=w1.heap.size:=by omega
  have g1x0:w1.cell? ⟨w.heap.size,0,none⟩=some (.int .i64 b):=aH hc1
  have g1x1:w1.cell? ⟨w.heap.size,1,none⟩=some (.int .i64 k):=aH hc1
  have g1x2:w1.cell? ⟨w.heap.size,2,none⟩=some (.bool l):=aH hc1
  go_wp2_with fail
  go_ret
  exact⟨rfl,bt (ba _ _) hb1⟩
theorem EX(b k:Int)(l:Bool)(m:Int)(w:World)(hT:Tab w 7 kevCells)(hL:Tab w 5 lenCells):
  Calls Tryo.prog 109 #[.agg #[.int .i64 b,.int .i64 k,.bool l],.int .i64 m] w fun e w'=>e= .returned (.int .i64 (jo b k l m))/\Below w.heap.size w w':=by
 cases h:has b k l m
 ·rw [jo,h,if_neg Bool.false_ne_true]
  exact Ij b k l m w hT hL h
 ·rw [jo,h,if_pos rfl]
  unfold has at h
  simp only [Bool.and_eq_true,decide_eq_true_eq]at h
  have hl:=oK b k l
  obtain⟨x,hx,hx2,_⟩:=Et k l (m-1).toNat (by omega)
  rw [hx2]
  have:=Jw b k l (m-1).toNat x w hT hL (by omega) hx
  rwa [show(((m-1).toNat:Nat):Int)+1=m by omega]at this
theorem zm(b k:Int)(l:Bool)(j:Nat)(x:Int)(w:World)(hj:(j:Int)+1<=cnt b k l)(hx:(lens k l)[j]? =some x):
  Calls Tryo.prog 121 #[.agg #[.int .i64 b,.int .i64 k,.bool l],.int .i64 ((j:Int)+1)] w fun e w'=>e= .returned (.int .i64 x)/\Below w.heap.size w w':=by
 have hl:=oK b k l
 have hb0:=nD b k l
 have hI:=fun w=>Ei b k l ((j:Int)+1) w
 have e:has b k l ((j:Int)+1)=true:=by unfold has;simp [hj];omega
 rw [e]at hI
 have HI:=Lib.hid hI
 clear hI e
 rw [dH]at hl
 cases l
 ·have h1:(j:Int)<12:=by simp at hl;omega
  have h2:(0:Int)<=(j:Int):=by omega
  have hn:(j:Int)<=13:=by omega
  have HX:=Lib.hid hx
  clear hl hx hj
  go_enter Tryo.func121,Tryz.ntmps121
  go_wp2_with fail
  refine(HI.out _).mono ?_
  rintro e w1 ⟨rfl,hb1⟩
  obtain⟨hc1,hf1⟩:=aA hb1
  have hz1:=hb1.size
  try simp at hz1
  have hl1w:w.heap.size<w1.heap.size:=by omega
  have hm1w:w.heap.size<=w1.heap.size:=by omega
  have g1x0:w1.cell? ⟨w.heap.size,0,none⟩=some (.int .i64 b):=aH hc1
  have g1x1:w1.cell? ⟨w.heap.size,1,none⟩=some (.int .i64 k):=aH hc1
  have g1x2:w1.cell? ⟨w.heap.size,2,none⟩=some (.bool false):=aH hc1
  go_wp2_with fail
  refine(fA b k false _).mono ?_
  rintro e w2 ⟨v,rfl,⟨g,cap,rfl,hcap,hBg,hg,hcell⟩,hb2⟩
  have hcx:=hcell j x HX.out
  clear hcell hcap
  rw [dH]
  go_wp2_with fail
  go_ret
  exact⟨rfl,bt (bt (ba _ _) hb1) hb2⟩
 ·have h1:(j:Int)<13:=by simp at hl;omega
  have h2:(0:Int)<=(j:Int):=by omega
  have hn:(j:Int)<=13:=by omega
  have HX:=Lib.hid hx
  clear hl hx hj
  go_enter Tryo.func121,Tryz.ntmps121
  go_wp2_with fail
  refine(HI.out _).mono ?_
  rintro e w1 ⟨rfl,hb1⟩
  obtain⟨hc1,hf1⟩:=aA hb1
  have hz1:=hb1.size
  try simp at hz1
  have hl1w:w.heap.size<w1.heap.size:=by omega
  have hm1w:w.heap.size<=w1.heap.size:=by omega
  have g1x0:w1.cell? ⟨w.heap.size,0,none⟩=some (.int .i64 b):=aH hc1
  have g1x1:w1.cell? ⟨w.heap.size,1,none⟩=some (.int .i64 k):=aH hc1
  have g1x2:w1.cell? ⟨w.heap.size,2,none⟩=some (.bool true):=aH hc1
  go_wp2_with fail
  refine(fA b k true _).mono ?_
  rintro e w2 ⟨v,rfl,⟨g,cap,rfl,hcap,hBg,hg,hcell⟩,hb2⟩
  have hcx:=hcell j x HX.out
  clear hcell hcap
  rw [dH]
  go_wp2_with fail
  go_ret
  exact⟨rfl,bt (bt (ba _ _) hb1) hb2⟩
theorem Lf(b k:Int)(l:Bool)(m:Int)(w:World)(h:has b k l m=false):
  Calls Tryo.prog 121 #[.agg #[.int .i64 b,.int .i64 k,.bool l],.int .i64 m] w fun e w'=>e= .returned (.int .i64 0)/\Below w.heap.size w w':=by
 have hI:=fun w=>Ei b k l m w
 rw [h]at hI
 have HI:=Lib.hid hI
 clear hI h
 go_enter Tryo.func121,Tryz.ntmps121
 go_wp2_with fail
 refine(HI.out _).mono ?_
 rintro e w1 ⟨rfl,hb1⟩
 obtain⟨hc1,hf1⟩:=aA hb1
 have hz1:=hb1.size
 try simp at hz1
 have hl1w:w.heap.size<w1.heap.size:=by omega
 have hm1w:w.heap.size<=w1.heap.size:=by omega
 have g1x0:w1.cell? ⟨w.heap.size,0,none⟩=some (.int .i64 b):=aH hc1
 have g1x1:w1.cell? ⟨w.heap.size,1,none⟩=some (.int .i64 k):=aH hc1
 have g1x2:w1.cell? ⟨w.heap.size,2,none⟩=some (.bool l):=aH hc1
 go_wp2_with fail
 go_ret
 exact⟨rfl,bt (ba _ _) hb1⟩
theorem JQ(b k:Int)(l:Bool)(m:Int)(w:World):
  Calls Tryo.prog 121 #[.agg #[.int .i64 b,.int .i64 k,.bool l],.int .i64 m] w fun e w'=>e= .returned (.int .i64 (jo b k l m))/\Below w.heap.size w w':=by
 cases h:has b k l m
 ·rw [jo,h,if_neg Bool.false_ne_true]
  exact Lf b k l m w h
 ·rw [jo,h,if_pos rfl]
  unfold has at h
  simp only [Bool.and_eq_true,decide_eq_true_eq]at h
  have hl:=oK b k l
  obtain⟨x,hx,hx2,_⟩:=Et k l (m-1).toNat (by omega)
  rw [hx2]
  have:=zm b k l (m-1).toNat x w (by omega) hx
  rwa [show(((m-1).toNat:Nat):Int)+1=m by omega]at this
end
section
open Go.ChangeShapes Go.WideShapes Go.ChangeAt Go.RowKit
theorem GJ{a b:World}{g:Nat}{v0 v1 v2:Value}(h:a.cell? ⟨g,0,none⟩=some v0/\a.cell? ⟨g,1,none⟩=some v1/\a.cell? ⟨g,2,none⟩=some v2/\g<a.heap.size)(hb:Below a.heap.size a b):
  b.cell? ⟨g,0,none⟩=some v0/\b.cell? ⟨g,1,none⟩=some v1/\b.cell? ⟨g,2,none⟩=some v2/\g<b.heap.size:=
 ⟨(hb.cell (p:=⟨g,0,none⟩) h.2.2.2).trans h.1,(hb.cell (p:=⟨g,1,none⟩) h.2.2.2).trans h.2.1,(hb.cell (p:=⟨g,2,none⟩) h.2.2.2).trans h.2.2.1,Nat.lt_of_lt_of_le h.2.2.2 hb.size⟩
theorem Ej{a b c d:Int}{x y:Bool}(h:(a,c,x)=(b,d,y)):Ending.returned (.tuple #[.int .i64 a,.int .i64 c,.bool x])= .returned (.tuple #[.int .i64 b,.int .i64 d,.bool y]):=by cases h;rfl
theorem ZM(b k:Int)(l:Bool)(j:Nat)(h:(j:Int)+1<=cnt b k l):has b k l ((j:Int)+1)=true:=by unfold has;simp [h];omega
theorem He(b k:Int)(l:Bool)(j:Nat)(w:World)(hT:Tab w 7 kevCells)(hL:Tab w 5 lenCells)(hj:(j:Int)+1<=cnt b k l):
  Calls Tryo.prog 108 #[.agg #[.int .i64 b,.int .i64 k,.bool l],.int .i64 ((j:Int)+1)] w fun e w'=>e= .returned (.int .i64 ((lens k l).take j).sum)/\Below w.heap.size w w':=by
 have hl:=oK b k l
 have hb0:=nD b k l
 have hbd:=Lib.hid (mX k l)
 have HC:=Lib.hid (fun w h=>jl b k l w h)
 have HDs:=Lib.hid (fun w h=>oM b k l w h)
 generalize cnt b k l=C at*
 generalize lens k l=xs at*
 have h2:(0:Int)<=(j:Int):=by omega
 have hn:(j:Int)<=13:=by omega
 have hjl:j<xs.length:=by omega
 go_enter Tryo.func108,Tryz.ntmps108
 go_wp2_with fail
 refine(HC.out _ (Tab.below hT (ba _ _))).mono ?_
 rintro e w1 ⟨rfl,hb1⟩
 obtain⟨hc1,hf1⟩:=aA hb1
 have hz1:=hb1.size
 try simp at hz1
 have hl1w:w.heap.size<w1.heap.size:=by omega
 have hm1w:w.heap.size<=w1.heap.size:=by omega
 have g1x0:w1.cell? ⟨w.heap.size,0,none⟩=some (.int .i64 b):=aH hc1
 have g1x1:w1.cell? ⟨w.heap.size,1,none⟩=some (.int .i64 k):=aH hc1
 have g1x2:w1.cell? ⟨w.heap.size,2,none⟩=some (.bool l):=aH hc1
 go_wp2_with fail
 refine(HDs.out _ (Tab.below hL (bt (ba _ _) hb1))).mono ?_
 rintro e w2 ⟨v,rfl,⟨g,cap,rfl,hcap,hBg,hg,hcell⟩,hb2⟩
 have HCl:=Lib.hid hcell
 have h3:(j:Int)<=(cap:Int):=by omega
 clear hcell
 go_wp2_with fail
 go_loop [5,22] (fun s i=>∃n:Nat,n<=j/\i= .int .i64 n/\s= .int .i64 (xs.take n).sum) (fun _ i=>j-(intOf i).toNat)
 case atStart=>exact⟨0,by omega,rfl,rfl⟩
 case round=>
  obtain⟨n,hn1,rfl,rfl⟩:=hrel
  obtain⟨s1,s2⟩:=Fu xs hbd.out n
  by_cases hlt:n<j
  ·obtain⟨x,hx⟩:∃x,xs[n]? =some x:=⟨_,List.getElem?_eq_getElem (by omega)⟩
   obtain⟨x1,x2⟩:=hbd.out x (List.mem_of_getElem? hx)
   have hcx:=HCl.out n x hx
   have hs:=Lib.hid (og xs n x hx)
   clear hx
   generalize (xs.take n).sum=S at*
   go_wp2_with fail
   go_round
   case rel=>exact⟨n+1,by omega,by go_num,by rw [hs.out]⟩
   case measure=>simp [intOf];omega
  ·obtain rfl:n=j:=by omega
   go_wp2_with fail
   go_ret
   exact⟨rfl,bt (bt (ba _ _) hb1) hb2⟩
theorem FN(b k:Int)(l:Bool)(m:Int)(w:World)(hT:Tab w 7 kevCells)(hL:Tab w 5 lenCells)(h:has b k l m=false):
  Calls Tryo.prog 108 #[.agg #[.int .i64 b,.int .i64 k,.bool l],.int .i64 m] w fun e w'=>e= .returned (.int .i64 0)/\Below w.heap.size w w':=by
 have HC:=Lib.hid (fun w h=>jl b k l w h)
 rcases(show m<1∨(1<=m/\cnt b k l<m) by
  by_cases c:m<1
  ·exact .inl c
  ·refine .inr ⟨by omega, ?_⟩
   unfold has at h
   simp only [Bool.and_eq_false_iff,decide_eq_false_iff_not]at h
   omega)with c|⟨c1,c2⟩
 ·clear h HC
  go_enter Tryo.func108,Tryz.ntmps108
  go_wp2_with fail
  go_ret
  exact⟨rfl,ba _ _⟩
 ·clear h
  generalize cnt b k l=C at*
  go_enter Tryo.func108,Tryz.ntmps108
  go_wp2_with fail
  refine(HC.out _ (Tab.below hT (ba _ _))).mono ?_
  rintro e w1 ⟨rfl,hb1⟩
  obtain⟨hc1,hf1⟩:=aA hb1
  have hz1:=hb1.size
  try simp at hz1
  have hl1w:w.heap.size<w1.heap.size:=by omega
  have hm1w:w.heap.size<=w1.heap.size:=by omega
  have g1x0:w1.cell? ⟨w.heap.size,0,none⟩=some (.int .i64 b):=aH hc1
  have g1x1:w1.cell? ⟨w.heap.size,1,none⟩=some (.int .i64 k):=aH hc1
  have g1x2:w1.cell? ⟨w.heap.size,2,none⟩=some (.bool l):=aH hc1
  go_wp2_with fail
  go_ret
  exact⟨rfl,bt (ba _ _) hb1⟩
theorem BL(b k:Int)(l:Bool)(m:Int)(w:World)(hT:Tab w 7 kevCells)(hL:Tab w 5 lenCells):
  Calls Tryo.prog 108 #[.agg #[.int .i64 b,.int .i64 k,.bool l],.int .i64 m] w fun e w'=>e= .returned (.int .i64 (bE b k l m))/\Below w.heap.size w w':=by
 cases h:has b k l m
 ·rw [bE,h,if_neg Bool.false_ne_true]
  exact FN b k l m w hT hL h
 ·rw [bE,h,if_pos rfl]
  unfold has at h
  simp only [Bool.and_eq_true,decide_eq_true_eq]at h
  have:=He b k l (m-1).toNat w hT hL (by omega)
  rwa [show(((m-1).toNat:Nat):Int)+1=m by omega]at this
theorem Ji(b k:Int)(l:Bool)(j:Nat)(w:World)(hj:(j:Int)+1<=cnt b k l):
  Calls Tryo.prog 120 #[.agg #[.int .i64 b,.int .i64 k,.bool l],.int .i64 ((j:Int)+1)] w fun e w'=>e= .returned (.int .i64 ((lens k l).take j).sum)/\Below w.heap.size w w':=by
 have hl:=oK b k l
 have hb0:=nD b k l
 have hbd:=Lib.hid (mX k l)
 have hI:=fun w=>Ei b k l ((j:Int)+1) w
 rw [ZM b k l j hj]at hI
 have HI:=Lib.hid hI
 have HDs:=Lib.hid (fun w=>fA b k l w)
 clear hI
 generalize cnt b k l=C at*
 generalize lens k l=xs at*
 have h2:(0:Int)<=(j:Int):=by omega
 have hn:(j:Int)<=13:=by omega
 have hjl:j<xs.length:=by omega
 go_enter Tryo.func120,Tryz.ntmps120
 go_wp2_with fail
 refine(HI.out _).mono ?_
 rintro e w1 ⟨rfl,hb1⟩
 obtain⟨hc1,hf1⟩:=aA hb1
 have hz1:=hb1.size
 try simp at hz1
 have hl1w:w.heap.size<w1.heap.size:=by omega
 have hm1w:w.heap.size<=w1.heap.size:=by omega
 have g1x0:w1.cell? ⟨w.heap.size,0,none⟩=some (.int .i64 b):=aH hc1
 have g1x1:w1.cell? ⟨w.heap.size,1,none⟩=some (.int .i64 k):=aH hc1
 have g1x2:w1.cell? ⟨w.heap.size,2,none⟩=some (.bool l):=aH hc1
 go_wp2_with fail
 go_loopw [5,6] (fun s i wr=>∃n:Nat,n<=j/\i= .int .i64 ((n:Int)+1)/\s= .int .i64 (xs.take n).sum/\wr.cell? ⟨w.heap.size,0,none⟩=some (.int .i64 b)/\wr.cell? ⟨w.heap.size,1,none⟩=some (.int .i64 k)/\wr.cell? ⟨w.heap.size,2,none⟩=some (.bool l)/\w.heap.size<wr.heap.size/\Below w.heap.size w wr) (fun _ i _=>j+1-(intOf i).toNat)
 case atStart=>exact⟨0,by omega,rfl,rfl,g1x0,g1x1,g1x2,hl1w,bt (ba _ _) hb1⟩
 case round=>
  obtain⟨n,hn1,rfl,rfl,c0,c1,c2,hsz,hB⟩:=hrel
  obtain⟨s1,s2⟩:=Fu xs hbd.out n
  by_cases hlt:n<j
  ·obtain⟨x,hx⟩:∃x,xs[n]? =some x:=⟨_,List.getElem?_eq_getElem (by omega)⟩
   obtain⟨x1,x2⟩:=hbd.out x (List.mem_of_getElem? hx)
   have hs:=Lib.hid (og xs n x hx)
   have HX:=Lib.hid hx
   have h4:(n:Int)<(xs.length:Int):=by omega
   have h5:(0:Int)<=(n:Int):=by omega
   clear hx
   generalize (xs.take n).sum=S at*
   go_wp2_with fail
   refine(HDs.out _).mono ?_
   rintro e w2 ⟨v,rfl,⟨g,cap,rfl,hcap,hBg,hg,hcell⟩,hb2⟩
   have hcx:=hcell n x HX.out
   clear hcell
   obtain⟨d0,d1,d2,d3⟩:=GJ ⟨c0,c1,c2,hsz⟩ hb2
   go_wp2_with fail
   go_roundw
   case rel=>exact⟨n+1,by omega,by go_num,by rw [hs.out],d0,d1,d2,d3,bt hB hb2⟩
   case measure=>simp [intOf];omega
  ·obtain rfl:n=j:=by omega
   go_wp2_with fail
   go_ret
   exact⟨rfl,hB⟩
theorem Ih(b k:Int)(l:Bool)(m:Int)(w:World)(h:has b k l m=false):
  Calls Tryo.prog 120 #[.agg #[.int .i64 b,.int .i64 k,.bool l],.int .i64 m] w fun e w'=>e= .returned (.int .i64 0)/\Below w.heap.size w w':=by
 have hI:=fun w=>Ei b k l m w
 rw [h]at hI
 have HI:=Lib.hid hI
 clear hI h
 go_enter Tryo.func120,Tryz.ntmps120
 go_wp2_with fail
 refine(HI.out _).mono ?_
 rintro e w1 ⟨rfl,hb1⟩
 obtain⟨hc1,hf1⟩:=aA hb1
 have hz1:=hb1.size
 try simp at hz1
 have hl1w:w.heap.size<w1.heap.size:=by omega
 have hm1w:w.heap.size<=w1.heap.size:=by omega
 have g1x0:w1.cell? ⟨w.heap.size,0,none⟩=some (.int .i64 b):=aH hc1
 have g1x1:w1.cell? ⟨w.heap.size,1,none⟩=some (.int .i64 k):=aH hc1
 have g1x2:w1.cell? ⟨w.heap.size,2,none⟩=some (.bool l):=aH hc1
 go_wp2_with fail
 go_ret
 exact⟨rfl,bt (ba _ _) hb1⟩
theorem Gm(b k:Int)(l:Bool)(m:Int)(w:World):
  Calls Tryo.prog 120 #[.agg #[.int .i64 b,.int .i64 k,.bool l],.int .i64 m] w fun e w'=>e= .returned (.int .i64 (bE b k l m))/\Below w.heap.size w w':=by
 cases h:has b k l m
 ·rw [bE,h,if_neg Bool.false_ne_true]
  exact Ih b k l m w h
 ·rw [bE,h,if_pos rfl]
  unfold has at h
  simp only [Bool.and_eq_true,decide_eq_true_eq]at h
  have:=Ji b k l (m-1).toNat w (by omega)
  rwa [show(((m-1).toNat:Nat):Int)+1=m by omega]at this
theorem FY(b k:Int)(l:Bool)(n:Int)(w:World)(hT:Tab w 7 kevCells)(hL:Tab w 5 lenCells)(h1:1<=n)(h64:n<=9223372036854775807):
  Calls Tryo.prog 72 #[.agg #[.int .i64 b,.int .i64 k,.bool l],.int .i64 n] w fun e w'=>e= .returned (.tuple #[.int .i64 (dS ((lens k l).take (cnt b k l).toNat) 1 n).1,.int .i64 (dS ((lens k l).take (cnt b k l).toNat) 1 n).2.1,.bool (dS ((lens k l).take (cnt b k l).toNat) 1 n).2.2])/\Below w.heap.size w w':=by
 have hl:=oK b k l
 have hb0:=nD b k l
 have hbd:=Lib.hid (mX k l)
 obtain⟨N,hN⟩:∃N:Nat,cnt b k l=N:=⟨(cnt b k l).toNat,by omega⟩
 have hC:=fun w h=>jl b k l w h
 rw [hN]at hC hl hb0⊢
 have HC:=Lib.hid hC
 have HDs:=Lib.hid (fun w h=>oM b k l w h)
 clear hC hN
 simp only [Int.toNat_natCast]
 generalize lens k l=xs at*
 have hlN:(xs.take N).length=N:=by rw [List.length_take];omega
 have hat:∀i,i<N->(xs.take N)[i]? =xs[i]? :=fun i hi=>List.getElem?_take_of_lt hi
 generalize hF:dS (xs.take N) 1 n=F at*
 have HF:=Lib.hid hF
 have HL:=Lib.hid hlN
 have HA:=Lib.hid hat
 clear hF hlN hat
 go_enter Tryo.func72,Tryz.ntmps72
 go_wp2_with fail
 go_region_held3 (fun x=>x.cell? ⟨w.heap.size,0,none⟩=some (.int .i64 b)/\x.cell? ⟨w.heap.size,1,none⟩=some (.int .i64 k)/\x.cell? ⟨w.heap.size,2,none⟩=some (.bool l)/\w.heap.size<x.heap.size) (first|assumption|go_keep)
   (first | (go_at_call 146;refine(HDs.out _ (Tab.below hL (by repeat(first|exact Below.refl _ _|assumption|(with_reducible refine bU ?_)|(with_reducible refine baa ?_ _)|(with_reducible refine bs ?_ (by first|exact Nat.le_refl _|omega|(simp;omega)) _)|(with_reducible refine bt ?_ (by assumption)))))).mono ?_;rintro e w1 ⟨v,rfl,⟨g,cap,rfl,hcap,hBg,hg,hcell⟩,hb1⟩;have hk1:=GJ (by assumption) hb1;have h3:(N:Int)<=(cap:Int):=(by omega);have HCl:=Lib.hid hcell;clear hcell)
             |(go_at_call 107;refine(HC.out _ (Tab.below hT (by repeat(first|exact Below.refl _ _|assumption|(with_reducible refine bU ?_)|(with_reducible refine baa ?_ _)|(with_reducible refine bs ?_ (by first|exact Nat.le_refl _|omega|(simp;omega)) _)|(with_reducible refine bt ?_ (by assumption)))))).mono ?_;rintro e w2 ⟨rfl,hb2⟩;have hk2:=GJ (by assumption) hb2))
 all_goals go_wp2_with fail
 have HCl2:=Lib.hid (fun(j:Nat) (x:Int) hj=>(hb2.cell (p:=⟨g,j,none⟩) hg).trans (HCl.out j x hj))
 go_loop [17,1] (fun i m=>∃ (n':Nat) (z:Int),n'<=N/\i= .int .i64 n'/\m= .int .i64 z/\1<=z/\z<=9223372036854775807/\Hid (dS ((xs.take N).drop n') ((n':Int)+1) z=F)) (fun i _=>N-(intOf i).toNat)
 case atStart=>exact⟨0,n,by omega,rfl,rfl,by omega,by omega,HF⟩
 case round=>
  obtain⟨i,z,hi1,rfl,rfl,z1,z2,hI⟩:=hrel
  by_cases hlt:i<N
  ·obtain⟨x,hx⟩:∃x,xs[i]? =some x:=⟨_,List.getElem?_eq_getElem (by omega)⟩
   obtain⟨x1,x2⟩:=hbd.out x (List.mem_of_getElem? hx)
   have hcx:=HCl2.out i x hx
   have hy:=(HA.out i hlt).trans hx
   clear hx
   by_cases hzx:z<=x
   ·have hR:=Lib.hid ((sG _ i x _ z hy hzx).symm.trans hI.out)
    clear hy hI
    go_wp2_with fail
    go_ret3
    exact⟨Ej hR.out,bt (bt (bdw (ba _ _)) hb1) hb2⟩
   ·have hR:=Lib.hid ((oW _ i x _ z hy hzx).symm.trans hI.out)
    clear hy hI
    go_wp2_with fail
    go_round
    case rel=>exact⟨i+1,z-x,by omega,by go_num,rfl,by omega,by omega,hR⟩
    case measure=>simp [intOf];omega
  ·have hR:=Lib.hid ((J5 _ i _ z (by rw [HL.out];omega)).symm.trans hI.out)
   clear hI
   go_wp2_with fail
   go_ret3
   exact⟨Ej hR.out,bt (bt (bdw (ba _ _)) hb1) hb2⟩
theorem Hy(b k:Int)(l:Bool)(n:Int)(w:World)(h:n<1):
  Calls Tryo.prog 72 #[.agg #[.int .i64 b,.int .i64 k,.bool l],.int .i64 n] w fun e w'=>e= .returned (.tuple #[.int .i64 0,.int .i64 0,.bool false])/\Below w.heap.size w w':=by
 go_enter Tryo.func72,Tryz.ntmps72
 go_wp2_with fail
 go_ret3
 exact⟨rfl,ba _ _⟩
theorem RU(b k:Int)(l:Bool)(n:Int)(w:World)(hT:Tab w 7 kevCells)(hL:Tab w 5 lenCells)(h64:n<=9223372036854775807):
  Calls Tryo.prog 72 #[.agg #[.int .i64 b,.int .i64 k,.bool l],.int .i64 n] w fun e w'=>e= .returned (.tuple #[.int .i64 (mU b k l n).1,.int .i64 (mU b k l n).2.1,.bool (mU b k l n).2.2])/\Below w.heap.size w w':=by
 by_cases h:n<1
 ·rw [mU,if_pos h]
  exact Hy b k l n w h
 ·rw [mU,if_neg h]
  exact FY b k l n w hT hL (by omega) h64
theorem Jf(b k:Int)(l:Bool)(n:Int)(w:World)(h1:1<=n)(h64:n<=9223372036854775807):
  Calls Tryo.prog 92 #[.agg #[.int .i64 b,.int .i64 k,.bool l],.int .i64 n] w fun e w'=>e= .returned (.tuple #[.int .i64 (dS ((lens k l).take (cnt b k l).toNat) 1 n).1,.int .i64 (dS ((lens k l).take (cnt b k l).toNat) 1 n).2.1,.bool (dS ((lens k l).take (cnt b k l).toNat) 1 n).2.2])/\Below w.heap.size w w':=by
 have hl:=oK b k l
 have hb0:=nD b k l
 have hbd:=Lib.hid (mX k l)
 obtain⟨N,hN⟩:∃N:Nat,cnt b k l=N:=⟨(cnt b k l).toNat,by omega⟩
 have hC:=fun w=>GQ b k l w
 have HD:=Lib.hid (fun(j:Nat) (x:Int) (w:World) h hx=>zm b k l j x w h hx)
 rw [hN]at hC hl hb0 HD⊢
 have HC:=Lib.hid hC
 clear hC hN
 simp only [Int.toNat_natCast]
 generalize lens k l=xs at*
 have hlN:(xs.take N).length=N:=by rw [List.length_take];omega
 have hat:∀i,i<N->(xs.take N)[i]? =xs[i]? :=fun i hi=>List.getElem?_take_of_lt hi
 generalize hF:dS (xs.take N) 1 n=F at*
 have HF:=Lib.hid hF
 have HL:=Lib.hid hlN
 have HA:=Lib.hid hat
 clear hF hlN hat
 go_enter Tryo.func92,Tryz.ntmps92
 go_wp2_with fail
 go_loopw [7,1] (fun i m wr=>∃ (n':Nat) (z:Int),n'<=N/\i= .int .i64 ((n':Int)+1)/\m= .int .i64 z/\1<=z/\z<=9223372036854775807/\Hid (dS ((xs.take N).drop n') ((n':Int)+1) z=F)/\wr.cell? ⟨w.heap.size,0,none⟩=some (.int .i64 b)/\wr.cell? ⟨w.heap.size,1,none⟩=some (.int .i64 k)/\wr.cell? ⟨w.heap.size,2,none⟩=some (.bool l)/\w.heap.size<wr.heap.size/\Below w.heap.size w wr) (fun i _ _=>N+1-(intOf i).toNat)
 case atStart=>exact⟨0,n,by omega,rfl,rfl,by omega,by omega,HF,by simp [go_sem],by simp [go_sem],by simp [go_sem],by simp,ba _ _⟩
 case round=>
  obtain⟨i,z,hi1,rfl,rfl,z1,z2,hI,c0,c1,c2,hsz,hB⟩:=hrel
  by_cases hlt:i<N
  ·obtain⟨x,hx⟩:∃x,xs[i]? =some x:=⟨_,List.getElem?_eq_getElem (by omega)⟩
   obtain⟨x1,x2⟩:=hbd.out x (List.mem_of_getElem? hx)
   have hy:=(HA.out i hlt).trans hx
   have HX:=Lib.hid (fun w=>HD.out i x w (by omega) hx)
   clear hx
   by_cases hzx:z<=x
   ·have hR:=Lib.hid ((sG _ i x _ z hy hzx).symm.trans hI.out)
    clear hy hI
    go_wp2_with fail
    refine(HC.out _).mono ?_
    rintro e w2 ⟨rfl,hb2⟩
    obtain⟨d0,d1,d2,d3⟩:=GJ ⟨c0,c1,c2,hsz⟩ hb2
    go_wp2_with fail
    refine(HX.out _).mono ?_
    rintro e w3 ⟨rfl,hb3⟩
    go_wp2_with fail
    go_ret3
    exact⟨Ej hR.out,bt (bt hB hb2) hb3⟩
   ·have hR:=Lib.hid ((oW _ i x _ z hy hzx).symm.trans hI.out)
    clear hy hI
    go_wp2_with fail
    refine(HC.out _).mono ?_
    rintro e w2 ⟨rfl,hb2⟩
    obtain⟨d0,d1,d2,d3⟩:=GJ ⟨c0,c1,c2,hsz⟩ hb2
    go_wp2_with fail
    refine(HX.out _).mono ?_
    rintro e w3 ⟨rfl,hb3⟩
    obtain⟨e0,e1,e2,e3⟩:=GJ ⟨d0,d1,d2,d3⟩ hb3
    go_wp2_with fail
    refine(HX.out _).mono ?_
    rintro e w4 ⟨rfl,hb4⟩
    obtain⟨f0,f1,f2,f3⟩:=GJ ⟨e0,e1,e2,e3⟩ hb4
    go_wp2_with fail
    go_roundw
    case rel=>exact⟨i+1,z-x,by omega,by go_num,rfl,by omega,by omega,hR,f0,f1,f2,f3,bt (bt (bt hB hb2) hb3) hb4⟩
    case measure=>simp [intOf];omega
  ·have hR:=Lib.hid ((J5 _ i _ z (by rw [HL.out];omega)).symm.trans hI.out)
   clear hI
   go_wp2_with fail
   refine(HC.out _).mono ?_
   rintro e w2 ⟨rfl,hb2⟩
   go_wp2_with fail
   go_ret3
   exact⟨Ej hR.out,bt hB hb2⟩
theorem LW(b k:Int)(l:Bool)(n:Int)(w:World)(h:n<1):
  Calls Tryo.prog 92 #[.agg #[.int .i64 b,.int .i64 k,.bool l],.int .i64 n] w fun e w'=>e= .returned (.tuple #[.int .i64 0,.int .i64 0,.bool false])/\Below w.heap.size w w':=by
 go_enter Tryo.func92,Tryz.ntmps92
 go_wp2_with fail
 go_ret3
 exact⟨rfl,ba _ _⟩
theorem VH(b k:Int)(l:Bool)(n:Int)(w:World)(h64:n<=9223372036854775807):
  Calls Tryo.prog 92 #[.agg #[.int .i64 b,.int .i64 k,.bool l],.int .i64 n] w fun e w'=>e= .returned (.tuple #[.int .i64 (mU b k l n).1,.int .i64 (mU b k l n).2.1,.bool (mU b k l n).2.2])/\Below w.heap.size w w':=by
 by_cases h:n<1
 ·rw [mU,if_pos h]
  exact LW b k l n w h
 ·rw [mU,if_neg h]
  exact Jf b k l n w (by omega) h64
end
end Go.Proofs.YthnjjcoahdhmnaaGreatDoor
