import Derived.Test.YtljbnicolhhicaaGreatDoorZQe
set_option maxHeartbeats 8000000
set_option maxRecDepth 100000
set_option linter.unusedSimpArgs false
set_option linter.unusedVariables false
namespace Go.Proofs.YtljbnicolhhicaaGreatDoor
open Go.ChangeShapes Go.WideShapes Go.ChangeAt Go.RowKit Go.Lib
def J26(xs:List ByteArray):ByteArray:=⟨(Lib.join (xs.map (·.data.toList)) (⟨#[45]⟩:ByteArray).data.toList).toArray⟩
theorem join_nil(w:World):vB 48 #[.slice none 0 0,.string ⟨#[45]⟩] w (.string ⟨#[]⟩):=by
 go_enter (vF Tryz.func48),Tryz.ntmps48
 go_wp2_with fail
 go_ret
 exact⟨rfl,bel⟩
theorem YW(v:Value)(xs:List ByteArray)(B:Nat)(w:World)(h:w.ownsRow B 9 1 v xs.length (xs.map .string))(hk:xs.length<=2)(hs:∀x∈xs,x.size<=1000):
  vB 48 #[v,.string ⟨#[45]⟩] w (.string (J26 xs)):=by
 rcases h.2 with ⟨rfl,h0⟩|⟨g,cap,cur,rfl,hb,hg,hn,hm,hz,ht⟩
 ·obtain rfl:xs= []:=List.eq_nil_of_length_eq_zero h0
  exact join_nil w
 ·refine Tryz.strings_Join g 0 cap xs ⟨#[45]⟩ w (fun j x hj=> ?_) (Array.getElem?_eq_some_iff.1 hg).1 vO hn ?_
  ·have:=World.ownsRow.cells h rfl j (.string x) (by simp [hj])
   rwa [Addr.add_lit]at this
  ·have e:∀x:ByteArray,x.data.toList.length=x.size:=fun x=>Array.length_toList
   match xs,hk,hs with
   | [],_,_=>simp [Lib.join]
   | [a],_,hs=>have:=hs a vS;simp [Lib.join,e];omega
   | [a,b],_,hs=>have:=hs a vS;have:=hs b vS;simp [Lib.join,e];omega
   |_ :: _ :: _ :: _,hk,_=>simp at hk
theorem S26.info:(Tryo.prog.info? 9).map (fun i=>(i.zero,i.size,i.bytes))=some (some (.string ⟨#[]⟩),1,16):=vK
theorem BL(o:O26)(m:Int)(r1 r2 r3 er:Int)(he:er≠0)
  (HA:Yes m 46 #[o.a,o.b] (.tuple #[.agg #[r1,r2,r3],er])):
  Yes m 23 #[o.v] (A26.v {e:=er}):=by
 intro w hT
 unfold O26.v
 have n1:(er !=0)=true:=bne_iff_ne.2 he
 go_enter (vF Tryz.func23),Tryz.ntmps23
 go_wp2_with fail
 refine ca (HA _ (hT.below bel)) fun w1 hb1 hz1 hc1 hf1=> ?_
 have hR1:Row w1 (w.1.size+1) 39 (A26.c {}):=(hb1.block _ vS).trans (al1 _ _ _)
 try simp at hz1
 go_wp2_with (refine wpList_store_row rfl _ _ _ rfl _ _ rfl rfl _ _ (al0 _ _) vK rfl vK ?_)
 have hB:Below w1.1.size w1 ((w1.alloc (.cells #[(0:Int),(0:Int),(0:Int)] 78)).setRow w1.1.size #[r1,r2,r3]):=below_setRow (ba _ _) (Nat.le_refl _) _
 refine ca (fu er _) fun w2 hb2 hz2 hc2 hf2=> ?_
 have hR2:=(hR1.below (n:=w1.1.size) hB vO).below hb2 (by have:=hB.size;omega)
 go_wp2_with (refine wpList_store_row rfl _ _ _ rfl _ _ rfl rfl _ _ hR2 vK rfl vK ?_)
 refine bodyPost_ret (v:=A26.v {e:=er}) (results_cell_row rfl _ _ _ _ _ _ _ rfl (setRow_heap _ _ _ _ _ _ hR2) (aB (aB Tryz.underlying39)) rfl vK) rfl ⟨by first|rfl|(simp [*];done), ?_⟩
 exact below_setRow (bt (bt bel hB) hb2) vO _
theorem Nn(o:O26)(m:Int)(r1 r2 r3:Int)(k:Nat)(hk:r2=(k:Int))(hk2:k<=2)(b1: -1000<=r1/\r1<=1000)(Nm:Int->ByteArray)(hs:∀n,(Nm n).size<=1000)
  (HA:Yes m 46 #[.int .i64 o.a,.int .i64 o.b] (.tuple #[.agg #[.int .i64 r1,.int .i64 r2,.int .i64 r3],.int .i64 0]))
  (HN:∀n,Yes m 47 #[.int .i64 n] (.string (Nm n))):
  Yes m 23 #[o.v] (A26.v {n:=r1,t:=J26 ((List.range k).map fun(j:Nat)=>Nm (r1+(j:Int)))}):=by
 intro w hT
 unfold O26.v
 obtain⟨i0,hi,hz0,hz1,hz2⟩:=TV S26.info
 subst hk
 go_enter (vF Tryz.func23),Tryz.ntmps23
 go_wp2_with fail
 refine ca (HA _ (hT.below bel)) fun w1 hb1 hz1s hc1 hf1=> ?_
 have hR1:Row w1 (w.1.size+1) 39 (A26.c {}):=(hb1.block _ vS).trans (al1 _ _ _)
 have hBw1:Below w.1.size w w1:=bel
 try simp at hz1s
 have q0:((w1.alloc (.cells #[.int .i64 0,.int .i64 0,.int .i64 0] 78)).setRow w1.1.size #[.int .i64 r1,.int .i64 (k:Int),.int .i64 r3]).cell? ⟨w1.1.size,0,none⟩=some (.int .i64 r1):=World.news_of_block (setRow_heap _ _ _ _ _ _ (al0 _ _)) 0 _ rfl
 have q1:((w1.alloc (.cells #[.int .i64 0,.int .i64 0,.int .i64 0] 78)).setRow w1.1.size #[.int .i64 r1,.int .i64 (k:Int),.int .i64 r3]).cell? ⟨w1.1.size,1,none⟩=some (.int .i64 (k:Int)):=World.news_of_block (setRow_heap _ _ _ _ _ _ (al0 _ _)) 1 _ rfl
 have hB:Below w1.1.size w1 ((w1.alloc (.cells #[.int .i64 0,.int .i64 0,.int .i64 0] 78)).setRow w1.1.size #[.int .i64 r1,.int .i64 (k:Int),.int .i64 r3]):=below_setRow (ba _ _) (Nat.le_refl _) _
 have hs0:w1.1.size<((w1.alloc (.cells #[.int .i64 0,.int .i64 0,.int .i64 0] 78)).setRow w1.1.size #[.int .i64 r1,.int .i64 (k:Int),.int .i64 r3]).1.size:=World.block_lt_of_cell? _ _ q0
 go_wp2_with (refine wpList_store_row rfl _ _ _ rfl _ _ rfl rfl _ _ (al0 _ _) vK rfl vK ?_)
 clear HA
 generalize hw2:((w1.alloc (.cells #[.int .i64 0,.int .i64 0,.int .i64 0] 78)).setRow w1.1.size #[.int .i64 r1,.int .i64 (k:Int),.int .i64 r3])=w2 at*
 clear hw2
 go_loopw [5,21] (fun v i wr=>∃ (j:Nat),j<=k/\i= .int .i64 (j:Int)/\wr.ownsRow w2.1.size 9 1 v j (((List.range j).map fun(j:Nat)=>Nm (r1+(j:Int))).map .string)/\Below w2.1.size w2 wr) (fun _ i _=>((k:Int)-intOf i).toNat)
 case atStart=>exact⟨0,Nat.zero_le _,rfl,World.ownsRow_nil _ _ _ _,bel⟩
 case round=>
  obtain⟨j,hj,rfl,HO,hB9⟩:=hrel
  have hzr:=hB9.size
  have p0:wr.cell? ⟨w1.1.size,0,none⟩=some (.int .i64 r1):=(hB9.cell hs0).trans q0
  have hB91:Below w1.1.size w1 wr:=bt hB hB9
  by_cases hlt:j<k
  ·have dl:decide ((j:Int)<(k:Int))=true:=decide_eq_true vO
   have dl2:(j:Int)<(k:Int):=vO
   have e7:wrap64 (r1+(j:Int))=r1+(j:Int):=IntWalk.wrap64_in _ ⟨vO,vO⟩
   have htk:((List.range (j+1)).map fun(j:Nat)=>Nm (r1+(j:Int))).map Value.string=((List.range j).map fun(j:Nat)=>Nm (r1+(j:Int))).map Value.string++ [.string (Nm (r1+(j:Int)))]:=by rw [List.range_succ];simp
   have HNj:=HN (r1+(j:Int))
   generalize Nm (r1+(j:Int))=nm at*
   clear HN
   go_wp2_with fail
   refine(HNj _ (hT.below (bt hBw1 hB91))).mono ?_
   rintro e w5 ⟨rfl,hb5⟩
   have hB51:Below w2.1.size w2 w5:=bt hB9 hb5
   have hzz:=hB51.size
   have HO5:w5.ownsRow w2.1.size 9 1 u5 j _:=HO.kept (⟨hb5.os,hb5.tape,hb5.output,hb5.size,fun k hk _=>hb5.block k hk⟩:wr.grownBy w5 none) (by cases u5.ownBlock <;> simp)
   go_wp2_with (at_builtin;refine wpList_append_own_at _ rfl (.tmp 24) (.tmp 30) 81 rfl w2.1.size 9 i0 (.string ⟨#[]⟩) 1 16 (aB Tryz.underlying81) hi hz0 hz1 hz2 rfl vD u5 j _ rfl (HO5.alloc _) ⟨w5.1.size,0,none⟩ 1 1 [.string nm] rfl rfl (CO w5 #[.string nm] 9 w5.1.size rfl) (by intro u hu;simp at hu;subst hu;rfl) (by simp only [maxLen];omega) vO (by first|assumption|(simp;omega)|omega) ?_;intro v7 w7 hown7 hgrow7 _ hblk7)
   go_roundw
   case rel=>exact⟨j+1,vO,by first|rfl|(simp;done),by rw [htk];exact hown7,oG (baa hB51 _) hgrow7 (fun k e=>(World.ownsRow.lt HO5 k e).1)⟩
   case measure=>simp [intOf];omega
  ·obtain rfl:j=k:=vO
   have dl:decide ((j:Int)<(j:Int))=false:=decide_eq_false vO
   clear hlt HN
   have hlen2:((List.range j).map fun(j:Nat)=>Nm (r1+(j:Int))).length<=2:=by simpa using hk2
   have hlenj:((List.range j).map fun(j:Nat)=>Nm (r1+(j:Int))).length=j:=vS
   have hsz:∀x∈((List.range j).map fun(j:Nat)=>Nm (r1+(j:Int))),x.size<=1000:=by
    intro x hx
    obtain⟨q,_,rfl⟩:=List.mem_map.1 hx
    exact hs _
   generalize hxs:((List.range j).map fun(j:Nat)=>Nm (r1+(j:Int)))=xs at*
   rw [←hlenj]at HO
   have hRr:Row wr (w.1.size+1) 39 (A26.c {}):=(hB91.block _ vO).trans hR1
   go_wp2_with fail
   have HOd:wr.drew.ownsRow w2.1.size 9 1 u5 xs.length (xs.map .string):=HO.drew
   refine fE 3 vK ?_
   refine up 0 (v:= ?_) rfl ?_ ?_
   rotate_left 1
   ·first|(intro w;go_simp;done)|(intro w;go_simp;with_reducible rfl)
   try simp only [Act.put,List.setIfInBounds_toArray]
   refine up 2 (v:= ?_) rfl ?_ ?_
   rotate_left 1
   ·first|(intro w;go_simp;done)|(intro w;go_simp;with_reducible rfl)
   try simp only [Act.put,List.setIfInBounds_toArray]
   refine LA (i:=3) (j:=1) rfl rfl vK vK vK (fun _=>rfl) (fun K hK=> ?_) (fun K hK=> ?_)
   ·go_simp
    refine(YW _ xs _ _ HOd hlen2 hsz).mono ?_
    rintro e w6 ⟨rfl,hb6⟩
    have hR6:Row w6 (w.1.size+1) 39 (A26.c {}):=(hb6.block (w.1.size+1) (by show w.1.size+1<wr.1.size;omega)).trans hRr
    have p6:w6.cell? ⟨w1.1.size,0,none⟩=some (.int .i64 r1):=(hb6.cell (p:=⟨w1.1.size,0,none⟩) (show w1.1.size<wr.1.size by omega)).trans p0
    have hz6:wr.1.size<=w6.1.size:=hb6.size
    have hB6:Below wr.1.size wr w6:=bt (aT (Below.refl _ _)) hb6
    refine hK.out _ _ ?_
    clear hK K
    try simp only [Act.put,List.setIfInBounds_toArray]
    refine bG (k:=1) rfl vK vK (fun K hK=> ?_)
    go_simp
    refine hK.out _ _ ?_
    clear hK K
    try simp only [Act.put,List.setIfInBounds_toArray]
    refine bG (k:=4) rfl vK vK (fun K hK=> ?_)
    go_simp
    refine hK.out _ _ ?_
    clear hK K
    try simp only [Act.put,List.setIfInBounds_toArray]
    refine bG (k:=5) rfl vK vK (fun K hK=> ?_)
    rw [if_pos (by rfl)]
    refine wp_store_row 39 (.tmp 2) (.tmp 37) rfl (w.1.size+1) (A26.c {n:=r1,t:=J26 xs}) rfl rfl 39 (A26.c {}) hR6 vK rfl vK ?_
    refine hK.out _ _ ?_
    clear hK K
    try simp only [Act.put,List.setIfInBounds_toArray]
    refine iQ vK ?_ _
    go_wp2_with fail
    refine bodyPost_ret (v:=A26.v {n:=r1,t:=J26 xs}) (results_cell_row rfl _ _ _ _ _ _ _ rfl (setRow_heap _ _ _ _ _ _ hR6) (aB (aB Tryz.underlying39)) rfl vK) rfl ⟨by rw [hxs], ?_⟩
    exact below_setRow (bt hBw1 (bt hB91 hB6)) vO _
   ·go_simp
    refine hK.out _ ?_
    clear hK K
    try simp only [Act.put,List.setIfInBounds_toArray]
    refine bG (k:=3) rfl vK vK (fun K hK=> ?_)
    go_simp
    refine(YW _ xs _ _ HOd hlen2 hsz).mono ?_
    rintro e w6 ⟨rfl,hb6⟩
    have hR6:Row w6 (w.1.size+1) 39 (A26.c {}):=(hb6.block (w.1.size+1) (by show w.1.size+1<wr.1.size;omega)).trans hRr
    have p6:w6.cell? ⟨w1.1.size,0,none⟩=some (.int .i64 r1):=(hb6.cell (p:=⟨w1.1.size,0,none⟩) (show w1.1.size<wr.1.size by omega)).trans p0
    have hz6:wr.1.size<=w6.1.size:=hb6.size
    have hB6:Below wr.1.size wr w6:=bt (aT (Below.refl _ _)) hb6
    refine hK.out _ _ ?_
    clear hK K
    try simp only [Act.put,List.setIfInBounds_toArray]
    refine bG (k:=4) rfl vK vK (fun K hK=> ?_)
    go_simp
    refine hK.out _ _ ?_
    clear hK K
    try simp only [Act.put,List.setIfInBounds_toArray]
    refine bG (k:=5) rfl vK vK (fun K hK=> ?_)
    rw [if_pos (by rfl)]
    refine wp_store_row 39 (.tmp 2) (.tmp 37) rfl (w.1.size+1) (A26.c {n:=r1,t:=J26 xs}) rfl rfl 39 (A26.c {}) hR6 vK rfl vK ?_
    refine hK.out _ _ ?_
    clear hK K
    try simp only [Act.put,List.setIfInBounds_toArray]
    refine iQ vK ?_ _
    go_wp2_with fail
    refine bodyPost_ret (v:=A26.v {n:=r1,t:=J26 xs}) (results_cell_row rfl _ _ _ _ _ _ _ rfl (setRow_heap _ _ _ _ _ _ hR6) (aB (aB Tryz.underlying39)) rfl vK) rfl ⟨by rw [hxs], ?_⟩
    exact below_setRow (bt hBw1 (bt hB91 hB6)) vO _
end Go.Proofs.YtljbnicolhhicaaGreatDoor
