import Derived.Test.YthnjjcoahdhmnaaGreatDoorEEV
import Derived.Test.YthnjjcoahdhmnaaGreatDoorEYM
import Derived.Test.YthnjjcoahdhmnaaGreatDoorEBB
import Derived.Test.YthnjjcoahdhmnaaGreatDoorEHR
set_option maxHeartbeats 8000000
set_option maxRecDepth 100000
set_option linter.unusedVariables false
namespace Go.Proofs.YthnjjcoahdhmnaaGreatDoor
section
open Go.ChangeShapes Go.WideShapes Go.ChangeAt Go.RowKit Go.Lib Go.Sort Go.Shelf
theorem Ch.aM{w:World}{B n:Nat}{v:Value}{l:List (Int×Int)}{x1 x2:Int}(hn:n=l.length)(h:w.ownsRow B 72 2 v (n+1) (Ev.flat l++ [.int .i64 x1,.int .i64 x2])):Ev.Own w B v (l++ [(x1,x2)]):=by
 subst hn
 unfold Ev.Own
 rw [List.length_append,Ev.iq]
 exact h
namespace Ch
def mon(b k:Int)(lp:Bool)(F:Int)(j:Nat):List (Int×Int):=
 (if j=0 then []else [(29,F+bE b k lp ((j:Int)+1))])++(if jo b k lp ((j:Int)+1)=30 then [(29,F+bE b k lp ((j:Int)+1)+29)]else [])
def upto(b k:Int)(lp:Bool)(F:Int)(n:Nat):List (Int×Int):=(List.range n).flatMap (mon b k lp F)
theorem iG(b k:Int)(lp:Bool)(F:Int)(j:Nat):upto b k lp F (j+1)=upto b k lp F j++mon b k lp F j:=by
 unfold upto
 rw [List.range_succ,List.flatMap_append]
 simp
theorem Zv(b k:Int)(lp:Bool)(F:Int)(j:Nat):mon b k lp F j=(mon b k lp 0 j).map (Ev.sh F):=by
 unfold mon Ev.sh
 rw [List.map_append]
 congr 1
 ·split <;> simp
 ·split
  ·simp;omega
  ·simp
theorem UW(b k:Int)(lp:Bool)(F:Int)(n:Nat):upto b k lp F n=(upto b k lp 0 n).map (Ev.sh F):=by
 unfold upto
 rw [List.map_flatMap]
 congr 1
 funext j
 exact Zv b k lp F j
def Ph(i:Nat):Nat:=(cnt (bn i) (dN i) (dF i)).toNat
def chL(i:Nat):List (Int×Int):=upto (bn i) (dN i) (dF i) 0 (Ph i)
theorem aae:((List.range 14).all fun i=>decide (cnt (bn i) (dN i) (dF i)=(Ph i:Int))&&(decide (Ph i<=13)&&(decide (Ev.sort (chL i)=chL i)&&(decide ((chL i).length<=26)&&(List.range 14).all fun m=>decide (0<=bE (bn i) (dN i) (dF i) m)&&decide (bE (bn i) (dN i) (dF i) m<=400)))))=true:=by decide+kernel
theorem ok(i:Nat)(hi:i<14):cnt (bn i) (dN i) (dF i)=(Ph i:Int)/\Ph i<=13/\Ev.sort (chL i)=chL i/\(chL i).length<=26/\∀m:Nat,m<14->0<=bE (bn i) (dN i) (dF i) m/\bE (bn i) (dN i) (dF i) m<=400:=by
 have h:=List.all_eq_true.1 aae i (List.mem_range.2 hi)
 simp only [Bool.and_eq_true,decide_eq_true_eq]at h
 refine⟨h.1,h.2.1,h.2.2.1,h.2.2.2.1,fun m hm=> ?_⟩
 have h2:=List.all_eq_true.1 h.2.2.2.2 m (List.mem_range.2 hm)
 simpa only [Bool.and_eq_true,decide_eq_true_eq]using h2
end Ch
theorem Ti(y F b k:Int)(lp:Bool)(C:Nat)(w:World)(hf1: -2000000<=F)(hf2:F<=3000000)(hT:Tab w 7 kevCells)(hL:Tab w 5 lenCells)(hC13:C<=13)
  (HA:Hid (∀m:Nat,m<14->0<=bE b k lp m/\bE b k lp m<=400))
  (HK:Hid (∀w:World,Calls Tryo.prog 105 #[.int .i64 y] w fun e w'=>e= .returned (.tuple #[.agg #[.int .i64 b,.int .i64 k,.bool lp],.int .i64 0])/\Below w.heap.size w w'))
  (HF:Hid (∀w:World,Calls Tryo.prog 106 #[.int .i64 y] w fun e w'=>e= .returned (.tuple #[.int .i64 F,.int .i64 0])/\Below w.heap.size w w'))
  (HCo:Hid (∀w:World,Tab w 7 kevCells->Tab w 5 lenCells->Calls Tryo.prog 107 #[.agg #[.int .i64 b,.int .i64 k,.bool lp]] w fun e w'=>e= .returned (.int .i64 (C:Int))/\Below w.heap.size w w'))
  (HAh:Hid (∀ (m:Int) (w:World),Tab w 7 kevCells->Tab w 5 lenCells->Calls Tryo.prog 108 #[.agg #[.int .i64 b,.int .i64 k,.bool lp],.int .i64 m] w fun e w'=>e= .returned (.int .i64 (bE b k lp m))/\Below w.heap.size w w'))
  (HDy:Hid (∀ (m:Int) (w:World),Tab w 7 kevCells->Tab w 5 lenCells->Calls Tryo.prog 109 #[.agg #[.int .i64 b,.int .i64 k,.bool lp],.int .i64 m] w fun e w'=>e= .returned (.int .i64 (jo b k lp m))/\Below w.heap.size w w')):
  Calls Tryo.prog 40 #[.int .i64 y] w fun e w'=>∃v,e= .returned (.tuple #[v,.int .i64 0])/\Ev.Own w' w.heap.size v (Ev.sort (Ch.upto b k lp F C))/\Below w.heap.size w w':=by
 obtain⟨i0,ih,iz0,iz1,iz2⟩:=info_parts bD
 go_enter Tryo.func40,Tryz.ntmps40
 go_wp2_with fail
 refine(HK.out _).mono ?_
 rintro e w1 ⟨rfl,hb1⟩
 obtain⟨hc1,hf1⟩:=aA hb1
 have hz1:=hb1.size
 try simp at hz1
 go_wp2_with fail
 refine(HF.out _).mono ?_
 rintro e w2 ⟨rfl,hb2⟩
 obtain⟨hc2,hf2⟩:=aA hb2
 have hz2:=hb2.size
 try simp at hz2
 have hl2w1:w1.heap.size<w2.heap.size:=by omega
 have hm2w1:w1.heap.size<=w2.heap.size:=by omega
 have g2x0:w2.cell? ⟨w1.heap.size,0,none⟩=some (.int .i64 b):=cel hc2
 have g2x1:w2.cell? ⟨w1.heap.size,1,none⟩=some (.int .i64 k):=cel hc2
 have g2x2:w2.cell? ⟨w1.heap.size,2,none⟩=some (.bool lp):=cel hc2
 go_wp2_with fail
 have hB2:Below w.heap.size w w2:=bel
 have hz2':=hB2.size
 go_loopw [7,8] (fun v m wr=>∃ (j:Nat) (S:List (Int×Int)),j<=C/\m= .int .i64 ((j:Int)+1)/\Hid (S=Ch.upto b k lp F j)/\S.length<=2*j/\Ev.Own wr w.heap.size v S/\Hid (v.ownBlock≠some w1.heap.size)/\wr.cell? ⟨w1.heap.size,0,none⟩=some (.int .i64 b)/\wr.cell? ⟨w1.heap.size,1,none⟩=some (.int .i64 k)/\wr.cell? ⟨w1.heap.size,2,none⟩=some (.bool lp)/\w1.heap.size<wr.heap.size/\Below w.heap.size w wr) (fun _ m _=>C+1-(intOf m).toNat)
 case atStart=>exact⟨0,[],Nat.zero_le _,rfl,Lib.hid rfl,by simp,Ev.Own.nil _ _,Lib.hid (by simp [Value.ownBlock]),g2x0,g2x1,g2x2,by omega,hB2⟩
 case round=>
  obtain⟨j,S,hj,rfl,HS,hlen,HO,HN,q0,q1,q2,hz9,hB9⟩:=hrel
  obtain⟨w9,rfl⟩:∃x,x=wr:=⟨_,rfl⟩
  have hs9:=hB9.size
  by_cases hlt:j<C
  ·have j0:(0:Int)<=(j:Int):=by omega
   have j1:(j:Int)+1<=(C:Int):=by omega
   have j2:(j:Int)+1<=13:=by omega
   have hab:=HA.out (j+1) (by omega)
   have HE:=Lib.hid (Ch.iG b k lp F j)
   have HAj:=Lib.hid (fun w=>HAh.out ((j:Int)+1) w)
   have HDj:=Lib.hid (fun w=>HDy.out ((j:Int)+1) w)
   rw [show((j+1:Nat):Int)=(j:Int)+1 by omega]at hab
   unfold Ch.mon at HE
   generalize bE b k lp ((j:Int)+1)=A at*
   generalize jo b k lp ((j:Int)+1)=D at*
   obtain⟨ha1,ha2⟩:=hab
   obtain⟨G,hG⟩:∃G,F+A=G:=⟨_,rfl⟩
   rw [hG]at HE
   have hG1: -2000000<=G:=by omega
   have hG2:G<=3000400:=by omega
   by_cases hj0:j=0
   ·have HJ:=Lib.hid hj0
    subst hj0
    by_cases hd:D=30
    ·have HT:=Lib.hid hd
     subst hd
     go_wp2_with fail
     refine(HCo.out _ (Tab.below hT bel) (Tab.below hL bel)).mono ?_
     rintro e w3 ⟨rfl,hb3⟩
     obtain⟨hc3,hf3⟩:=aA hb3
     have hz3:=hb3.size
     try simp at hz3
     have hl3w1:w1.heap.size<w3.heap.size:=by omega
     have hm3w1:w1.heap.size<=w3.heap.size:=by omega
     have g3x0:w3.cell? ⟨w1.heap.size,0,none⟩=some (.int .i64 b):=cel hc3
     have g3x1:w3.cell? ⟨w1.heap.size,1,none⟩=some (.int .i64 k):=cel hc3
     have g3x2:w3.cell? ⟨w1.heap.size,2,none⟩=some (.bool lp):=cel hc3
     go_wp2_with fail
     refine(HAj.out _ (Tab.below hT bel) (Tab.below hL bel)).mono ?_
     rintro e w4 ⟨rfl,hb4⟩
     obtain⟨hc4,hf4⟩:=aA hb4
     have hz4:=hb4.size
     try simp at hz4
     have hl4w1:w1.heap.size<w4.heap.size:=by omega
     have hm4w1:w1.heap.size<=w4.heap.size:=by omega
     have g4x0:w4.cell? ⟨w1.heap.size,0,none⟩=some (.int .i64 b):=cel hc4
     have g4x1:w4.cell? ⟨w1.heap.size,1,none⟩=some (.int .i64 k):=cel hc4
     have g4x2:w4.cell? ⟨w1.heap.size,2,none⟩=some (.bool lp):=cel hc4
     go_wp2_with fail
     refine(HDj.out _ (Tab.below hT bel) (Tab.below hL bel)).mono ?_
     rintro e w5 ⟨rfl,hb5⟩
     obtain⟨hc5,hf5⟩:=aA hb5
     have hz5:=hb5.size
     try simp at hz5
     have hl5w1:w1.heap.size<w5.heap.size:=by omega
     have hm5w1:w1.heap.size<=w5.heap.size:=by omega
     have g5x0:w5.cell? ⟨w1.heap.size,0,none⟩=some (.int .i64 b):=cel hc5
     have g5x1:w5.cell? ⟨w1.heap.size,1,none⟩=some (.int .i64 k):=cel hc5
     have g5x2:w5.cell? ⟨w1.heap.size,2,none⟩=some (.bool lp):=cel hc5
     go_wp2_with (have HX7:w5.ownsRow w.heap.size 72 2 u7 S.length (Ev.flat S):=Ev.Own.below HO bel;at_builtin;refine wpList_append_own_at _ rfl (.tmp 48) (.tmp 53) 38 rfl w.heap.size 72 i0 (.agg #[.int .i64 0,.int .i64 0]) 2 16 (aI Tryz.underlying38) ih iz0 iz1 iz2 rfl (by decide) _ S.length (Ev.flat S) rfl (HX7.alloc _) ⟨w5.heap.size,0,none⟩ 1 1 [.int .i64 _,.int .i64 _] rfl rfl (bK _ _ _) (dD _ _) (by simp only [maxLen];omega) (by omega) (by first|assumption|(simp;omega)|omega) ?_;intro v7 w7 hown7 hgrow7 _ hblk7;have y7x0:w7.cell? ⟨w1.heap.size,0,none⟩=some (.int .i64 b):=hgrow7.cell (by simp [go_sem, *]) (fun e=>HN.out e.symm);have y7x1:w7.cell? ⟨w1.heap.size,1,none⟩=some (.int .i64 k):=hgrow7.cell (by simp [go_sem, *]) (fun e=>HN.out e.symm);have y7x2:w7.cell? ⟨w1.heap.size,2,none⟩=some (.bool lp):=hgrow7.cell (by simp [go_sem, *]) (fun e=>HN.out e.symm);have ys7:w1.heap.size<w7.heap.size:=(by have:=hgrow7.size;simp at this;omega);have yz7:w.heap.size<=w7.heap.size:=(by have:=hgrow7.size;simp at this;omega);have yB7:Below w.heap.size w w7:=aB bel hgrow7 (fun k e=>(World.ownsRow.lt HX7 k e).1);have HN7:Hid (v7.ownBlock≠some w1.heap.size):=Lib.hid (hblk7.elim (fun e=>by rw [e];exact HN.out) (fun e=>by rw [e];intro e2;have:=Option.some.inj e2;simp at this;omega));have HO7:Ev.Own w7 w.heap.size v7 (S++ [(29,G+30-1)]):=Ch.aM rfl hown7;obtain⟨S7,hS7⟩:∃x,x=S++ [(29,G+30-1)]:=⟨_,rfl⟩;rw [←hS7]at HO7;have HS7:=Lib.hid hS7;have hL7:S7.length=S.length+1:=(by rw [hS7];simp);clear hS7 hown7 hblk7)
     go_roundw
     case rel=>exact⟨0+1,S7,by omega,by go_num,Lib.hid (by rw [HE.out,←HS.out,if_pos HJ.out,if_pos HT.out,HS7.out];simp;try omega),by omega,HO7,HN7,y7x0,y7x1,y7x2,ys7,yB7⟩
     case measure=>simp [intOf];omega
    ·have HT:=Lib.hid hd
     have hd2:(D==30)=false:=by simpa using hd
     clear hd
     go_wp2_with fail
     refine(HCo.out _ (Tab.below hT bel) (Tab.below hL bel)).mono ?_
     rintro e w3 ⟨rfl,hb3⟩
     obtain⟨hc3,hf3⟩:=aA hb3
     have hz3:=hb3.size
     try simp at hz3
     have hl3w1:w1.heap.size<w3.heap.size:=by omega
     have hm3w1:w1.heap.size<=w3.heap.size:=by omega
     have g3x0:w3.cell? ⟨w1.heap.size,0,none⟩=some (.int .i64 b):=cel hc3
     have g3x1:w3.cell? ⟨w1.heap.size,1,none⟩=some (.int .i64 k):=cel hc3
     have g3x2:w3.cell? ⟨w1.heap.size,2,none⟩=some (.bool lp):=cel hc3
     go_wp2_with fail
     refine(HAj.out _ (Tab.below hT bel) (Tab.below hL bel)).mono ?_
     rintro e w4 ⟨rfl,hb4⟩
     obtain⟨hc4,hf4⟩:=aA hb4
     have hz4:=hb4.size
     try simp at hz4
     have hl4w1:w1.heap.size<w4.heap.size:=by omega
     have hm4w1:w1.heap.size<=w4.heap.size:=by omega
     have g4x0:w4.cell? ⟨w1.heap.size,0,none⟩=some (.int .i64 b):=cel hc4
     have g4x1:w4.cell? ⟨w1.heap.size,1,none⟩=some (.int .i64 k):=cel hc4
     have g4x2:w4.cell? ⟨w1.heap.size,2,none⟩=some (.bool lp):=cel hc4
     go_wp2_with fail
     refine(HDj.out _ (Tab.below hT bel) (Tab.below hL bel)).mono ?_
     rintro e w5 ⟨rfl,hb5⟩
     obtain⟨hc5,hf5⟩:=aA hb5
     have hz5:=hb5.size
     try simp at hz5
     have hl5w1:w1.heap.size<w5.heap.size:=by omega
     have hm5w1:w1.heap.size<=w5.heap.size:=by omega
     have g5x0:w5.cell? ⟨w1.heap.size,0,none⟩=some (.int .i64 b):=cel hc5
     have g5x1:w5.cell? ⟨w1.heap.size,1,none⟩=some (.int .i64 k):=cel hc5
     have g5x2:w5.cell? ⟨w1.heap.size,2,none⟩=some (.bool lp):=cel hc5
     go_wp2_with fail
     go_roundw
     case rel=>exact⟨0+1,S,by omega,by go_num,Lib.hid (by rw [HE.out,←HS.out,if_pos HJ.out,if_neg HT.out];simp),by omega,(Ev.Own.below HO bel),HN,g5x0,g5x1,g5x2,(by omega),bel⟩
     case measure=>simp [intOf];omega
   ·have HJ:=Lib.hid hj0
    have p1:1<(j:Int)+1:=by omega
    have p2:0<(j:Int):=by omega
    have p3:0<j:=by omega
    clear hj0
    by_cases hd:D=30
    ·have HT:=Lib.hid hd
     subst hd
     go_wp2_with fail
     refine(HCo.out _ (Tab.below hT bel) (Tab.below hL bel)).mono ?_
     rintro e w3 ⟨rfl,hb3⟩
     obtain⟨hc3,hf3⟩:=aA hb3
     have hz3:=hb3.size
     try simp at hz3
     have hl3w1:w1.heap.size<w3.heap.size:=by omega
     have hm3w1:w1.heap.size<=w3.heap.size:=by omega
     have g3x0:w3.cell? ⟨w1.heap.size,0,none⟩=some (.int .i64 b):=cel hc3
     have g3x1:w3.cell? ⟨w1.heap.size,1,none⟩=some (.int .i64 k):=cel hc3
     have g3x2:w3.cell? ⟨w1.heap.size,2,none⟩=some (.bool lp):=cel hc3
     go_wp2_with fail
     refine(HAj.out _ (Tab.below hT bel) (Tab.below hL bel)).mono ?_
     rintro e w4 ⟨rfl,hb4⟩
     obtain⟨hc4,hf4⟩:=aA hb4
     have hz4:=hb4.size
     try simp at hz4
     have hl4w1:w1.heap.size<w4.heap.size:=by omega
     have hm4w1:w1.heap.size<=w4.heap.size:=by omega
     have g4x0:w4.cell? ⟨w1.heap.size,0,none⟩=some (.int .i64 b):=cel hc4
     have g4x1:w4.cell? ⟨w1.heap.size,1,none⟩=some (.int .i64 k):=cel hc4
     have g4x2:w4.cell? ⟨w1.heap.size,2,none⟩=some (.bool lp):=cel hc4
     go_wp2_with (have HX6:w4.ownsRow w.heap.size 72 2 u7 S.length (Ev.flat S):=Ev.Own.below HO bel;at_builtin;refine wpList_append_own_at _ rfl (.tmp 39) (.tmp 42) 38 rfl w.heap.size 72 i0 (.agg #[.int .i64 0,.int .i64 0]) 2 16 (aI Tryz.underlying38) ih iz0 iz1 iz2 rfl (by decide) _ S.length (Ev.flat S) rfl (HX6.alloc _) ⟨w4.heap.size,0,none⟩ 1 1 [.int .i64 _,.int .i64 _] rfl rfl (bK _ _ _) (dD _ _) (by simp only [maxLen];omega) (by omega) (by first|assumption|(simp;omega)|omega) ?_;intro v6 w6 hown6 hgrow6 _ hblk6;have y6x0:w6.cell? ⟨w1.heap.size,0,none⟩=some (.int .i64 b):=hgrow6.cell (by simp [go_sem, *]) (fun e=>HN.out e.symm);have y6x1:w6.cell? ⟨w1.heap.size,1,none⟩=some (.int .i64 k):=hgrow6.cell (by simp [go_sem, *]) (fun e=>HN.out e.symm);have y6x2:w6.cell? ⟨w1.heap.size,2,none⟩=some (.bool lp):=hgrow6.cell (by simp [go_sem, *]) (fun e=>HN.out e.symm);have ys6:w1.heap.size<w6.heap.size:=(by have:=hgrow6.size;simp at this;omega);have yz6:w.heap.size<=w6.heap.size:=(by have:=hgrow6.size;simp at this;omega);have yB6:Below w.heap.size w w6:=aB bel hgrow6 (fun k e=>(World.ownsRow.lt HX6 k e).1);have HN6:Hid (v6.ownBlock≠some w1.heap.size):=Lib.hid (hblk6.elim (fun e=>by rw [e];exact HN.out) (fun e=>by rw [e];intro e2;have:=Option.some.inj e2;simp at this;omega));have HO6:Ev.Own w6 w.heap.size v6 (S++ [(29,G)]):=Ch.aM rfl hown6;obtain⟨S6,hS6⟩:∃x,x=S++ [(29,G)]:=⟨_,rfl⟩;rw [←hS6]at HO6;have HS6:=Lib.hid hS6;have hL6:S6.length=S.length+1:=(by rw [hS6];simp);clear hS6 hown6 hblk6)
     refine(HDj.out _ (Tab.below hT bel) (Tab.below hL bel)).mono ?_
     rintro e w5 ⟨rfl,hb5⟩
     obtain⟨hc5,hf5⟩:=aA hb5
     have hz5:=hb5.size
     try simp at hz5
     have hl5w1:w1.heap.size<w5.heap.size:=by omega
     have hm5w1:w1.heap.size<=w5.heap.size:=by omega
     have g5x0:w5.cell? ⟨w1.heap.size,0,none⟩=some (.int .i64 b):=cel hc5
     have g5x1:w5.cell? ⟨w1.heap.size,1,none⟩=some (.int .i64 k):=cel hc5
     have g5x2:w5.cell? ⟨w1.heap.size,2,none⟩=some (.bool lp):=cel hc5
     go_wp2_with (have HX7:w5.ownsRow w.heap.size 72 2 v6 S6.length (Ev.flat S6):=Ev.Own.below HO6 bel;at_builtin;refine wpList_append_own_at _ rfl (.tmp 48) (.tmp 53) 38 rfl w.heap.size 72 i0 (.agg #[.int .i64 0,.int .i64 0]) 2 16 (aI Tryz.underlying38) ih iz0 iz1 iz2 rfl (by decide) _ S6.length (Ev.flat S6) rfl (HX7.alloc _) ⟨w5.heap.size,0,none⟩ 1 1 [.int .i64 _,.int .i64 _] rfl rfl (bK _ _ _) (dD _ _) (by simp only [maxLen];omega) (by omega) (by first|assumption|(simp;omega)|omega) ?_;intro v7 w7 hown7 hgrow7 _ hblk7;have y7x0:w7.cell? ⟨w1.heap.size,0,none⟩=some (.int .i64 b):=hgrow7.cell (by simp [go_sem, *]) (fun e=>HN6.out e.symm);have y7x1:w7.cell? ⟨w1.heap.size,1,none⟩=some (.int .i64 k):=hgrow7.cell (by simp [go_sem, *]) (fun e=>HN6.out e.symm);have y7x2:w7.cell? ⟨w1.heap.size,2,none⟩=some (.bool lp):=hgrow7.cell (by simp [go_sem, *]) (fun e=>HN6.out e.symm);have ys7:w1.heap.size<w7.heap.size:=(by have:=hgrow7.size;simp at this;omega);have yz7:w.heap.size<=w7.heap.size:=(by have:=hgrow7.size;simp at this;omega);have yB7:Below w.heap.size w w7:=aB bel hgrow7 (fun k e=>(World.ownsRow.lt HX7 k e).1);have HN7:Hid (v7.ownBlock≠some w1.heap.size):=Lib.hid (hblk7.elim (fun e=>by rw [e];exact HN6.out) (fun e=>by rw [e];intro e2;have:=Option.some.inj e2;simp at this;omega));have HO7:Ev.Own w7 w.heap.size v7 (S6++ [(29,G+30-1)]):=Ch.aM rfl hown7;obtain⟨S7,hS7⟩:∃x,x=S6++ [(29,G+30-1)]:=⟨_,rfl⟩;rw [←hS7]at HO7;have HS7:=Lib.hid hS7;have hL7:S7.length=S6.length+1:=(by rw [hS7];simp);clear hS7 hown7 hblk7)
     go_roundw
     case rel=>exact⟨j+1,S7,by omega,by go_num,Lib.hid (by rw [HE.out,←HS.out,if_neg HJ.out,if_pos HT.out,HS7.out,HS6.out];simp;try omega),by omega,HO7,HN7,y7x0,y7x1,y7x2,ys7,yB7⟩
     case measure=>simp [intOf];omega
    ·have HT:=Lib.hid hd
     have hd2:(D==30)=false:=by simpa using hd
     clear hd
     go_wp2_with fail
     refine(HCo.out _ (Tab.below hT bel) (Tab.below hL bel)).mono ?_
     rintro e w3 ⟨rfl,hb3⟩
     obtain⟨hc3,hf3⟩:=aA hb3
     have hz3:=hb3.size
     try simp at hz3
     have hl3w1:w1.heap.size<w3.heap.size:=by omega
     have hm3w1:w1.heap.size<=w3.heap.size:=by omega
     have g3x0:w3.cell? ⟨w1.heap.size,0,none⟩=some (.int .i64 b):=cel hc3
     have g3x1:w3.cell? ⟨w1.heap.size,1,none⟩=some (.int .i64 k):=cel hc3
     have g3x2:w3.cell? ⟨w1.heap.size,2,none⟩=some (.bool lp):=cel hc3
     go_wp2_with fail
     refine(HAj.out _ (Tab.below hT bel) (Tab.below hL bel)).mono ?_
     rintro e w4 ⟨rfl,hb4⟩
     obtain⟨hc4,hf4⟩:=aA hb4
     have hz4:=hb4.size
     try simp at hz4
     have hl4w1:w1.heap.size<w4.heap.size:=by omega
     have hm4w1:w1.heap.size<=w4.heap.size:=by omega
     have g4x0:w4.cell? ⟨w1.heap.size,0,none⟩=some (.int .i64 b):=cel hc4
     have g4x1:w4.cell? ⟨w1.heap.size,1,none⟩=some (.int .i64 k):=cel hc4
     have g4x2:w4.cell? ⟨w1.heap.size,2,none⟩=some (.bool lp):=cel hc4
     go_wp2_with (have HX6:w4.ownsRow w.heap.size 72 2 u7 S.length (Ev.flat S):=Ev.Own.below HO bel;at_builtin;refine wpList_append_own_at _ rfl (.tmp 39) (.tmp 42) 38 rfl w.heap.size 72 i0 (.agg #[.int .i64 0,.int .i64 0]) 2 16 (aI Tryz.underlying38) ih iz0 iz1 iz2 rfl (by decide) _ S.length (Ev.flat S) rfl (HX6.alloc _) ⟨w4.heap.size,0,none⟩ 1 1 [.int .i64 _,.int .i64 _] rfl rfl (bK _ _ _) (dD _ _) (by simp only [maxLen];omega) (by omega) (by first|assumption|(simp;omega)|omega) ?_;intro v6 w6 hown6 hgrow6 _ hblk6;have y6x0:w6.cell? ⟨w1.heap.size,0,none⟩=some (.int .i64 b):=hgrow6.cell (by simp [go_sem, *]) (fun e=>HN.out e.symm);have y6x1:w6.cell? ⟨w1.heap.size,1,none⟩=some (.int .i64 k):=hgrow6.cell (by simp [go_sem, *]) (fun e=>HN.out e.symm);have y6x2:w6.cell? ⟨w1.heap.size,2,none⟩=some (.bool lp):=hgrow6.cell (by simp [go_sem, *]) (fun e=>HN.out e.symm);have ys6:w1.heap.size<w6.heap.size:=(by have:=hgrow6.size;simp at this;omega);have yz6:w.heap.size<=w6.heap.size:=(by have:=hgrow6.size;simp at this;omega);have yB6:Below w.heap.size w w6:=aB bel hgrow6 (fun k e=>(World.ownsRow.lt HX6 k e).1);have HN6:Hid (v6.ownBlock≠some w1.heap.size):=Lib.hid (hblk6.elim (fun e=>by rw [e];exact HN.out) (fun e=>by rw [e];intro e2;have:=Option.some.inj e2;simp at this;omega));have HO6:Ev.Own w6 w.heap.size v6 (S++ [(29,G)]):=Ch.aM rfl hown6;obtain⟨S6,hS6⟩:∃x,x=S++ [(29,G)]:=⟨_,rfl⟩;rw [←hS6]at HO6;have HS6:=Lib.hid hS6;have hL6:S6.length=S.length+1:=(by rw [hS6];simp);clear hS6 hown6 hblk6)
     refine(HDj.out _ (Tab.below hT bel) (Tab.below hL bel)).mono ?_
     rintro e w5 ⟨rfl,hb5⟩
     obtain⟨hc5,hf5⟩:=aA hb5
     have hz5:=hb5.size
     try simp at hz5
     have hl5w1:w1.heap.size<w5.heap.size:=by omega
     have hm5w1:w1.heap.size<=w5.heap.size:=by omega
     have g5x0:w5.cell? ⟨w1.heap.size,0,none⟩=some (.int .i64 b):=cel hc5
     have g5x1:w5.cell? ⟨w1.heap.size,1,none⟩=some (.int .i64 k):=cel hc5
     have g5x2:w5.cell? ⟨w1.heap.size,2,none⟩=some (.bool lp):=cel hc5
     go_wp2_with fail
     go_roundw
     case rel=>exact⟨j+1,S6,by omega,by go_num,Lib.hid (by rw [HE.out,←HS.out,if_neg HJ.out,if_neg HT.out,HS6.out];simp),by omega,(Ev.Own.below HO6 bel),HN6,g5x0,g5x1,g5x2,(by omega),bel⟩
     case measure=>simp [intOf];omega
  ·obtain rfl:j=C:=by omega
   clear hlt
   have hnl:¬ ((j:Int)+1<=(j:Int)):=by omega
   go_wp2_with fail
   refine(HCo.out _ (Tab.below hT bel) (Tab.below hL bel)).mono ?_
   rintro e w3 ⟨rfl,hb3⟩
   obtain⟨hc3,hf3⟩:=aA hb3
   have hz3:=hb3.size
   try simp at hz3
   have hl3w1:w1.heap.size<w3.heap.size:=by omega
   have hm3w1:w1.heap.size<=w3.heap.size:=by omega
   have g3x0:w3.cell? ⟨w1.heap.size,0,none⟩=some (.int .i64 b):=cel hc3
   have g3x1:w3.cell? ⟨w1.heap.size,1,none⟩=some (.int .i64 k):=cel hc3
   have g3x2:w3.cell? ⟨w1.heap.size,2,none⟩=some (.bool lp):=cel hc3
   go_wp2_with fail
   refine(jR _ S _ (Ev.Own.below HO bel).row (by omega)).mono ?_
   rintro e w8 ⟨v8,rfl,ho8,hb8⟩
   have hB3:Below w.heap.size w w3:=bel
   go_wp2_with fail
   go_ret2
   exact⟨_,rfl,by rw [←HS.out];exact ho8.base hB3.size,bt hB3 hb8⟩
end
section
open Go.ChangeShapes Go.WideShapes Go.ChangeAt Go.RowKit Go.Lib Go.Sort Go.Shelf
theorem XP(y F b k:Int)(lp:Bool)(C:Nat)(w:World)(hf1: -2000000<=F)(hf2:F<=3000000)(hC13:C<=13)
  (HA:Hid (∀m:Nat,m<14->0<=bE b k lp m/\bE b k lp m<=400))
  (HK:Hid (∀w:World,Calls Tryo.prog 90 #[.int .i64 y] w fun e w'=>e= .returned (.tuple #[.agg #[.int .i64 b,.int .i64 k,.bool lp],.int .i64 0])/\Below w.heap.size w w'))
  (HF:Hid (∀w:World,Calls Tryo.prog 91 #[.int .i64 y] w fun e w'=>e= .returned (.tuple #[.int .i64 F,.int .i64 0])/\Below w.heap.size w w'))
  (HCo:Hid (∀w:World,Calls Tryo.prog 119 #[.agg #[.int .i64 b,.int .i64 k,.bool lp]] w fun e w'=>e= .returned (.int .i64 (C:Int))/\Below w.heap.size w w'))
  (HAh:Hid (∀ (m:Int) (w:World),Calls Tryo.prog 120 #[.agg #[.int .i64 b,.int .i64 k,.bool lp],.int .i64 m] w fun e w'=>e= .returned (.int .i64 (bE b k lp m))/\Below w.heap.size w w'))
  (HDy:Hid (∀ (m:Int) (w:World),Calls Tryo.prog 121 #[.agg #[.int .i64 b,.int .i64 k,.bool lp],.int .i64 m] w fun e w'=>e= .returned (.int .i64 (jo b k lp m))/\Below w.heap.size w w')):
  Calls Tryo.prog 46 #[.int .i64 y] w fun e w'=>∃v,e= .returned (.tuple #[v,.int .i64 0])/\Ev.Own w' w.heap.size v (Ch.upto b k lp F C)/\Below w.heap.size w w':=by
 obtain⟨i0,ih,iz0,iz1,iz2⟩:=info_parts bD
 go_enter Tryo.func46,Tryz.ntmps46
 go_wp2_with fail
 refine(HK.out _).mono ?_
 rintro e w1 ⟨rfl,hb1⟩
 obtain⟨hc1,hf1⟩:=aA hb1
 have hz1:=hb1.size
 try simp at hz1
 go_wp2_with fail
 refine(HF.out _).mono ?_
 rintro e w2 ⟨rfl,hb2⟩
 obtain⟨hc2,hf2⟩:=aA hb2
 have hz2:=hb2.size
 try simp at hz2
 have hl2w1:w1.heap.size<w2.heap.size:=by omega
 have hm2w1:w1.heap.size<=w2.heap.size:=by omega
 have g2x0:w2.cell? ⟨w1.heap.size,0,none⟩=some (.int .i64 b):=cel hc2
 have g2x1:w2.cell? ⟨w1.heap.size,1,none⟩=some (.int .i64 k):=cel hc2
 have g2x2:w2.cell? ⟨w1.heap.size,2,none⟩=some (.bool lp):=cel hc2
 go_wp2_with fail
 have hB2:Below w.heap.size w w2:=bel
 have hz2':=hB2.size
 go_loopw [8,9] (fun v m wr=>∃ (j:Nat) (S:List (Int×Int)),j<=C/\m= .int .i64 ((j:Int)+1)/\Hid (S=Ch.upto b k lp F j)/\S.length<=2*j/\Ev.Own wr w.heap.size v S/\Hid (v.ownBlock≠some w1.heap.size)/\wr.cell? ⟨w1.heap.size,0,none⟩=some (.int .i64 b)/\wr.cell? ⟨w1.heap.size,1,none⟩=some (.int .i64 k)/\wr.cell? ⟨w1.heap.size,2,none⟩=some (.bool lp)/\w1.heap.size<wr.heap.size/\Below w.heap.size w wr) (fun _ m _=>C+1-(intOf m).toNat)
 case atStart=>exact⟨0,[],Nat.zero_le _,rfl,Lib.hid rfl,by simp,Ev.Own.nil _ _,Lib.hid (by simp [Value.ownBlock]),g2x0,g2x1,g2x2,by omega,hB2⟩
 case round=>
  obtain⟨j,S,hj,rfl,HS,hlen,HO,HN,q0,q1,q2,hz9,hB9⟩:=hrel
  obtain⟨w9,rfl⟩:∃x,x=wr:=⟨_,rfl⟩
  have hs9:=hB9.size
  by_cases hlt:j<C
  ·have j0:(0:Int)<=(j:Int):=by omega
   have j1:(j:Int)+1<=(C:Int):=by omega
   have j2:(j:Int)+1<=13:=by omega
   have hab:=HA.out (j+1) (by omega)
   have HE:=Lib.hid (Ch.iG b k lp F j)
   have HAj:=Lib.hid (fun w=>HAh.out ((j:Int)+1) w)
   have HDj:=Lib.hid (fun w=>HDy.out ((j:Int)+1) w)
   rw [show((j+1:Nat):Int)=(j:Int)+1 by omega]at hab
   unfold Ch.mon at HE
   generalize bE b k lp ((j:Int)+1)=A at*
   generalize jo b k lp ((j:Int)+1)=D at*
   obtain⟨ha1,ha2⟩:=hab
   obtain⟨G,hG⟩:∃G,F+A=G:=⟨_,rfl⟩
   rw [hG]at HE
   have hG1: -2000000<=G:=by omega
   have hG2:G<=3000400:=by omega
   by_cases hj0:j=0
   ·have HJ:=Lib.hid hj0
    subst hj0
    by_cases hd:D=30
    ·have HT:=Lib.hid hd
     subst hd
     go_wp2_with fail
     refine(HCo.out _).mono ?_
     rintro e w3 ⟨rfl,hb3⟩
     obtain⟨hc3,hf3⟩:=aA hb3
     have hz3:=hb3.size
     try simp at hz3
     have hl3w1:w1.heap.size<w3.heap.size:=by omega
     have hm3w1:w1.heap.size<=w3.heap.size:=by omega
     have g3x0:w3.cell? ⟨w1.heap.size,0,none⟩=some (.int .i64 b):=cel hc3
     have g3x1:w3.cell? ⟨w1.heap.size,1,none⟩=some (.int .i64 k):=cel hc3
     have g3x2:w3.cell? ⟨w1.heap.size,2,none⟩=some (.bool lp):=cel hc3
     go_wp2_with fail
     refine(HAj.out _).mono ?_
     rintro e w4 ⟨rfl,hb4⟩
     obtain⟨hc4,hf4⟩:=aA hb4
     have hz4:=hb4.size
     try simp at hz4
     have hl4w1:w1.heap.size<w4.heap.size:=by omega
     have hm4w1:w1.heap.size<=w4.heap.size:=by omega
     have g4x0:w4.cell? ⟨w1.heap.size,0,none⟩=some (.int .i64 b):=cel hc4
     have g4x1:w4.cell? ⟨w1.heap.size,1,none⟩=some (.int .i64 k):=cel hc4
     have g4x2:w4.cell? ⟨w1.heap.size,2,none⟩=some (.bool lp):=cel hc4
     go_wp2_with fail
     refine(HDj.out _).mono ?_
     rintro e w5 ⟨rfl,hb5⟩
     obtain⟨hc5,hf5⟩:=aA hb5
     have hz5:=hb5.size
     try simp at hz5
     have hl5w1:w1.heap.size<w5.heap.size:=by omega
     have hm5w1:w1.heap.size<=w5.heap.size:=by omega
     have g5x0:w5.cell? ⟨w1.heap.size,0,none⟩=some (.int .i64 b):=cel hc5
     have g5x1:w5.cell? ⟨w1.heap.size,1,none⟩=some (.int .i64 k):=cel hc5
     have g5x2:w5.cell? ⟨w1.heap.size,2,none⟩=some (.bool lp):=cel hc5
     go_wp2_with (have HX7:w5.ownsRow w.heap.size 72 2 u8 S.length (Ev.flat S):=Ev.Own.below HO bel;at_builtin;refine wpList_append_own_at _ rfl (.tmp 46) (.tmp 50) 38 rfl w.heap.size 72 i0 (.agg #[.int .i64 0,.int .i64 0]) 2 16 (aI Tryz.underlying38) ih iz0 iz1 iz2 rfl (by decide) _ S.length (Ev.flat S) rfl (HX7.alloc _) ⟨w5.heap.size,0,none⟩ 1 1 [.int .i64 _,.int .i64 _] rfl rfl (bK _ _ _) (dD _ _) (by simp only [maxLen];omega) (by omega) (by first|assumption|(simp;omega)|omega) ?_;intro v7 w7 hown7 hgrow7 _ hblk7;have y7x0:w7.cell? ⟨w1.heap.size,0,none⟩=some (.int .i64 b):=hgrow7.cell (by simp [go_sem, *]) (fun e=>HN.out e.symm);have y7x1:w7.cell? ⟨w1.heap.size,1,none⟩=some (.int .i64 k):=hgrow7.cell (by simp [go_sem, *]) (fun e=>HN.out e.symm);have y7x2:w7.cell? ⟨w1.heap.size,2,none⟩=some (.bool lp):=hgrow7.cell (by simp [go_sem, *]) (fun e=>HN.out e.symm);have ys7:w1.heap.size<w7.heap.size:=(by have:=hgrow7.size;simp at this;omega);have yz7:w.heap.size<=w7.heap.size:=(by have:=hgrow7.size;simp at this;omega);have yB7:Below w.heap.size w w7:=aB bel hgrow7 (fun k e=>(World.ownsRow.lt HX7 k e).1);have HN7:Hid (v7.ownBlock≠some w1.heap.size):=Lib.hid (hblk7.elim (fun e=>by rw [e];exact HN.out) (fun e=>by rw [e];intro e2;have:=Option.some.inj e2;simp at this;omega));have HO7:Ev.Own w7 w.heap.size v7 (S++ [(29,G+29)]):=Ch.aM rfl hown7;obtain⟨S7,hS7⟩:∃x,x=S++ [(29,G+29)]:=⟨_,rfl⟩;rw [←hS7]at HO7;have HS7:=Lib.hid hS7;have hL7:S7.length=S.length+1:=(by rw [hS7];simp);clear hS7 hown7 hblk7)
     go_roundw
     case rel=>exact⟨0+1,S7,by omega,by go_num,Lib.hid (by rw [HE.out,←HS.out,if_pos HJ.out,if_pos HT.out,HS7.out];simp;try omega),by omega,HO7,HN7,y7x0,y7x1,y7x2,ys7,yB7⟩
     case measure=>simp [intOf];omega
    ·have HT:=Lib.hid hd
     have hd2:(D==30)=false:=by simpa using hd
     clear hd
     go_wp2_with fail
     refine(HCo.out _).mono ?_
     rintro e w3 ⟨rfl,hb3⟩
     obtain⟨hc3,hf3⟩:=aA hb3
     have hz3:=hb3.size
     try simp at hz3
     have hl3w1:w1.heap.size<w3.heap.size:=by omega
     have hm3w1:w1.heap.size<=w3.heap.size:=by omega
     have g3x0:w3.cell? ⟨w1.heap.size,0,none⟩=some (.int .i64 b):=cel hc3
     have g3x1:w3.cell? ⟨w1.heap.size,1,none⟩=some (.int .i64 k):=cel hc3
     have g3x2:w3.cell? ⟨w1.heap.size,2,none⟩=some (.bool lp):=cel hc3
     go_wp2_with fail
     refine(HAj.out _).mono ?_
     rintro e w4 ⟨rfl,hb4⟩
     obtain⟨hc4,hf4⟩:=aA hb4
     have hz4:=hb4.size
     try simp at hz4
     have hl4w1:w1.heap.size<w4.heap.size:=by omega
     have hm4w1:w1.heap.size<=w4.heap.size:=by omega
     have g4x0:w4.cell? ⟨w1.heap.size,0,none⟩=some (.int .i64 b):=cel hc4
     have g4x1:w4.cell? ⟨w1.heap.size,1,none⟩=some (.int .i64 k):=cel hc4
     have g4x2:w4.cell? ⟨w1.heap.size,2,none⟩=some (.bool lp):=cel hc4
     go_wp2_with fail
     refine(HDj.out _).mono ?_
     rintro e w5 ⟨rfl,hb5⟩
     obtain⟨hc5,hf5⟩:=aA hb5
     have hz5:=hb5.size
     try simp at hz5
     have hl5w1:w1.heap.size<w5.heap.size:=by omega
     have hm5w1:w1.heap.size<=w5.heap.size:=by omega
     have g5x0:w5.cell? ⟨w1.heap.size,0,none⟩=some (.int .i64 b):=cel hc5
     have g5x1:w5.cell? ⟨w1.heap.size,1,none⟩=some (.int .i64 k):=cel hc5
     have g5x2:w5.cell? ⟨w1.heap.size,2,none⟩=some (.bool lp):=cel hc5
     go_wp2_with fail
     go_roundw
     case rel=>exact⟨0+1,S,by omega,by go_num,Lib.hid (by rw [HE.out,←HS.out,if_pos HJ.out,if_neg HT.out];simp),by omega,(Ev.Own.below HO bel),HN,g5x0,g5x1,g5x2,(by omega),bel⟩
     case measure=>simp [intOf];omega
   ·have HJ:=Lib.hid hj0
    have p1:1<(j:Int)+1:=by omega
    have p2:0<(j:Int):=by omega
    have p3:0<j:=by omega
    clear hj0
    by_cases hd:D=30
    ·have HT:=Lib.hid hd
     subst hd
     go_wp2_with fail
     refine(HCo.out _).mono ?_
     rintro e w3 ⟨rfl,hb3⟩
     obtain⟨hc3,hf3⟩:=aA hb3
     have hz3:=hb3.size
     try simp at hz3
     have hl3w1:w1.heap.size<w3.heap.size:=by omega
     have hm3w1:w1.heap.size<=w3.heap.size:=by omega
     have g3x0:w3.cell? ⟨w1.heap.size,0,none⟩=some (.int .i64 b):=cel hc3
     have g3x1:w3.cell? ⟨w1.heap.size,1,none⟩=some (.int .i64 k):=cel hc3
     have g3x2:w3.cell? ⟨w1.heap.size,2,none⟩=some (.bool lp):=cel hc3
     go_wp2_with fail
     refine(HAj.out _).mono ?_
     rintro e w4 ⟨rfl,hb4⟩
     obtain⟨hc4,hf4⟩:=aA hb4
     have hz4:=hb4.size
     try simp at hz4
     have hl4w1:w1.heap.size<w4.heap.size:=by omega
     have hm4w1:w1.heap.size<=w4.heap.size:=by omega
     have g4x0:w4.cell? ⟨w1.heap.size,0,none⟩=some (.int .i64 b):=cel hc4
     have g4x1:w4.cell? ⟨w1.heap.size,1,none⟩=some (.int .i64 k):=cel hc4
     have g4x2:w4.cell? ⟨w1.heap.size,2,none⟩=some (.bool lp):=cel hc4
     go_wp2_with (have HX6:w4.ownsRow w.heap.size 72 2 u8 S.length (Ev.flat S):=Ev.Own.below HO bel;at_builtin;refine wpList_append_own_at _ rfl (.tmp 37) (.tmp 40) 38 rfl w.heap.size 72 i0 (.agg #[.int .i64 0,.int .i64 0]) 2 16 (aI Tryz.underlying38) ih iz0 iz1 iz2 rfl (by decide) _ S.length (Ev.flat S) rfl (HX6.alloc _) ⟨w4.heap.size,0,none⟩ 1 1 [.int .i64 _,.int .i64 _] rfl rfl (bK _ _ _) (dD _ _) (by simp only [maxLen];omega) (by omega) (by first|assumption|(simp;omega)|omega) ?_;intro v6 w6 hown6 hgrow6 _ hblk6;have y6x0:w6.cell? ⟨w1.heap.size,0,none⟩=some (.int .i64 b):=hgrow6.cell (by simp [go_sem, *]) (fun e=>HN.out e.symm);have y6x1:w6.cell? ⟨w1.heap.size,1,none⟩=some (.int .i64 k):=hgrow6.cell (by simp [go_sem, *]) (fun e=>HN.out e.symm);have y6x2:w6.cell? ⟨w1.heap.size,2,none⟩=some (.bool lp):=hgrow6.cell (by simp [go_sem, *]) (fun e=>HN.out e.symm);have ys6:w1.heap.size<w6.heap.size:=(by have:=hgrow6.size;simp at this;omega);have yz6:w.heap.size<=w6.heap.size:=(by have:=hgrow6.size;simp at this;omega);have yB6:Below w.heap.size w w6:=aB bel hgrow6 (fun k e=>(World.ownsRow.lt HX6 k e).1);have HN6:Hid (v6.ownBlock≠some w1.heap.size):=Lib.hid (hblk6.elim (fun e=>by rw [e];exact HN.out) (fun e=>by rw [e];intro e2;have:=Option.some.inj e2;simp at this;omega));have HO6:Ev.Own w6 w.heap.size v6 (S++ [(29,G)]):=Ch.aM rfl hown6;obtain⟨S6,hS6⟩:∃x,x=S++ [(29,G)]:=⟨_,rfl⟩;rw [←hS6]at HO6;have HS6:=Lib.hid hS6;have hL6:S6.length=S.length+1:=(by rw [hS6];simp);clear hS6 hown6 hblk6)
     refine(HDj.out _).mono ?_
     rintro e w5 ⟨rfl,hb5⟩
     obtain⟨hc5,hf5⟩:=aA hb5
     have hz5:=hb5.size
     try simp at hz5
     have hl5w1:w1.heap.size<w5.heap.size:=by omega
     have hm5w1:w1.heap.size<=w5.heap.size:=by omega
     have g5x0:w5.cell? ⟨w1.heap.size,0,none⟩=some (.int .i64 b):=cel hc5
     have g5x1:w5.cell? ⟨w1.heap.size,1,none⟩=some (.int .i64 k):=cel hc5
     have g5x2:w5.cell? ⟨w1.heap.size,2,none⟩=some (.bool lp):=cel hc5
     go_wp2_with (have HX7:w5.ownsRow w.heap.size 72 2 v6 S6.length (Ev.flat S6):=Ev.Own.below HO6 bel;at_builtin;refine wpList_append_own_at _ rfl (.tmp 46) (.tmp 50) 38 rfl w.heap.size 72 i0 (.agg #[.int .i64 0,.int .i64 0]) 2 16 (aI Tryz.underlying38) ih iz0 iz1 iz2 rfl (by decide) _ S6.length (Ev.flat S6) rfl (HX7.alloc _) ⟨w5.heap.size,0,none⟩ 1 1 [.int .i64 _,.int .i64 _] rfl rfl (bK _ _ _) (dD _ _) (by simp only [maxLen];omega) (by omega) (by first|assumption|(simp;omega)|omega) ?_;intro v7 w7 hown7 hgrow7 _ hblk7;have y7x0:w7.cell? ⟨w1.heap.size,0,none⟩=some (.int .i64 b):=hgrow7.cell (by simp [go_sem, *]) (fun e=>HN6.out e.symm);have y7x1:w7.cell? ⟨w1.heap.size,1,none⟩=some (.int .i64 k):=hgrow7.cell (by simp [go_sem, *]) (fun e=>HN6.out e.symm);have y7x2:w7.cell? ⟨w1.heap.size,2,none⟩=some (.bool lp):=hgrow7.cell (by simp [go_sem, *]) (fun e=>HN6.out e.symm);have ys7:w1.heap.size<w7.heap.size:=(by have:=hgrow7.size;simp at this;omega);have yz7:w.heap.size<=w7.heap.size:=(by have:=hgrow7.size;simp at this;omega);have yB7:Below w.heap.size w w7:=aB bel hgrow7 (fun k e=>(World.ownsRow.lt HX7 k e).1);have HN7:Hid (v7.ownBlock≠some w1.heap.size):=Lib.hid (hblk7.elim (fun e=>by rw [e];exact HN6.out) (fun e=>by rw [e];intro e2;have:=Option.some.inj e2;simp at this;omega));have HO7:Ev.Own w7 w.heap.size v7 (S6++ [(29,G+29)]):=Ch.aM rfl hown7;obtain⟨S7,hS7⟩:∃x,x=S6++ [(29,G+29)]:=⟨_,rfl⟩;rw [←hS7]at HO7;have HS7:=Lib.hid hS7;have hL7:S7.length=S6.length+1:=(by rw [hS7];simp);clear hS7 hown7 hblk7)
     go_roundw
     case rel=>exact⟨j+1,S7,by omega,by go_num,Lib.hid (by rw [HE.out,←HS.out,if_neg HJ.out,if_pos HT.out,HS7.out,HS6.out];simp;try omega),by omega,HO7,HN7,y7x0,y7x1,y7x2,ys7,yB7⟩
     case measure=>simp [intOf];omega
    ·have HT:=Lib.hid hd
     have hd2:(D==30)=false:=by simpa using hd
     clear hd
     go_wp2_with fail
     refine(HCo.out _).mono ?_
     rintro e w3 ⟨rfl,hb3⟩
     obtain⟨hc3,hf3⟩:=aA hb3
     have hz3:=hb3.size
     try simp at hz3
     have hl3w1:w1.heap.size<w3.heap.size:=by omega
     have hm3w1:w1.heap.size<=w3.heap.size:=by omega
     have g3x0:w3.cell? ⟨w1.heap.size,0,none⟩=some (.int .i64 b):=cel hc3
     have g3x1:w3.cell? ⟨w1.heap.size,1,none⟩=some (.int .i64 k):=cel hc3
     have g3x2:w3.cell? ⟨w1.heap.size,2,none⟩=some (.bool lp):=cel hc3
     go_wp2_with fail
     refine(HAj.out _).mono ?_
     rintro e w4 ⟨rfl,hb4⟩
     obtain⟨hc4,hf4⟩:=aA hb4
     have hz4:=hb4.size
     try simp at hz4
     have hl4w1:w1.heap.size<w4.heap.size:=by omega
     have hm4w1:w1.heap.size<=w4.heap.size:=by omega
     have g4x0:w4.cell? ⟨w1.heap.size,0,none⟩=some (.int .i64 b):=cel hc4
     have g4x1:w4.cell? ⟨w1.heap.size,1,none⟩=some (.int .i64 k):=cel hc4
     have g4x2:w4.cell? ⟨w1.heap.size,2,none⟩=some (.bool lp):=cel hc4
     go_wp2_with (have HX6:w4.ownsRow w.heap.size 72 2 u8 S.length (Ev.flat S):=Ev.Own.below HO bel;at_builtin;refine wpList_append_own_at _ rfl (.tmp 37) (.tmp 40) 38 rfl w.heap.size 72 i0 (.agg #[.int .i64 0,.int .i64 0]) 2 16 (aI Tryz.underlying38) ih iz0 iz1 iz2 rfl (by decide) _ S.length (Ev.flat S) rfl (HX6.alloc _) ⟨w4.heap.size,0,none⟩ 1 1 [.int .i64 _,.int .i64 _] rfl rfl (bK _ _ _) (dD _ _) (by simp only [maxLen];omega) (by omega) (by first|assumption|(simp;omega)|omega) ?_;intro v6 w6 hown6 hgrow6 _ hblk6;have y6x0:w6.cell? ⟨w1.heap.size,0,none⟩=some (.int .i64 b):=hgrow6.cell (by simp [go_sem, *]) (fun e=>HN.out e.symm);have y6x1:w6.cell? ⟨w1.heap.size,1,none⟩=some (.int .i64 k):=hgrow6.cell (by simp [go_sem, *]) (fun e=>HN.out e.symm);have y6x2:w6.cell? ⟨w1.heap.size,2,none⟩=some (.bool lp):=hgrow6.cell (by simp [go_sem, *]) (fun e=>HN.out e.symm);have ys6:w1.heap.size<w6.heap.size:=(by have:=hgrow6.size;simp at this;omega);have yz6:w.heap.size<=w6.heap.size:=(by have:=hgrow6.size;simp at this;omega);have yB6:Below w.heap.size w w6:=aB bel hgrow6 (fun k e=>(World.ownsRow.lt HX6 k e).1);have HN6:Hid (v6.ownBlock≠some w1.heap.size):=Lib.hid (hblk6.elim (fun e=>by rw [e];exact HN.out) (fun e=>by rw [e];intro e2;have:=Option.some.inj e2;simp at this;omega));have HO6:Ev.Own w6 w.heap.size v6 (S++ [(29,G)]):=Ch.aM rfl hown6;obtain⟨S6,hS6⟩:∃x,x=S++ [(29,G)]:=⟨_,rfl⟩;rw [←hS6]at HO6;have HS6:=Lib.hid hS6;have hL6:S6.length=S.length+1:=(by rw [hS6];simp);clear hS6 hown6 hblk6)
     refine(HDj.out _).mono ?_
     rintro e w5 ⟨rfl,hb5⟩
     obtain⟨hc5,hf5⟩:=aA hb5
     have hz5:=hb5.size
     try simp at hz5
     have hl5w1:w1.heap.size<w5.heap.size:=by omega
     have hm5w1:w1.heap.size<=w5.heap.size:=by omega
     have g5x0:w5.cell? ⟨w1.heap.size,0,none⟩=some (.int .i64 b):=cel hc5
     have g5x1:w5.cell? ⟨w1.heap.size,1,none⟩=some (.int .i64 k):=cel hc5
     have g5x2:w5.cell? ⟨w1.heap.size,2,none⟩=some (.bool lp):=cel hc5
     go_wp2_with fail
     go_roundw
     case rel=>exact⟨j+1,S6,by omega,by go_num,Lib.hid (by rw [HE.out,←HS.out,if_neg HJ.out,if_neg HT.out,HS6.out];simp),by omega,(Ev.Own.below HO6 bel),HN6,g5x0,g5x1,g5x2,(by omega),bel⟩
     case measure=>simp [intOf];omega
  ·obtain rfl:j=C:=by omega
   clear hlt
   have hnl:¬ ((j:Int)+1<=(j:Int)):=by omega
   go_wp2_with fail
   refine(HCo.out _).mono ?_
   rintro e w3 ⟨rfl,hb3⟩
   obtain⟨hc3,hf3⟩:=aA hb3
   have hz3:=hb3.size
   try simp at hz3
   have hl3w1:w1.heap.size<w3.heap.size:=by omega
   have hm3w1:w1.heap.size<=w3.heap.size:=by omega
   have g3x0:w3.cell? ⟨w1.heap.size,0,none⟩=some (.int .i64 b):=cel hc3
   have g3x1:w3.cell? ⟨w1.heap.size,1,none⟩=some (.int .i64 k):=cel hc3
   have g3x2:w3.cell? ⟨w1.heap.size,2,none⟩=some (.bool lp):=cel hc3
   go_wp2_with fail
   go_ret2
   exact⟨_,rfl,by rw [←HS.out];exact Ev.Own.below HO bel,bel⟩
end
section
open Go.ChangeShapes Go.WideShapes Go.ChangeAt Go.RowKit Go.Lib Go.Sort Go.Shelf
theorem Ja(y:Int)(i:Nat)(w:World)(h:Yr.Is y i)(hT:Tab w 7 kevCells)(hL:Tab w 5 lenCells):
  Calls Tryo.prog 40 #[.int .i64 y] w fun e w'=>∃v,e= .returned (.tuple #[v,.int .i64 0])/\Ev.Own w' w.heap.size v ((Ch.chL i).map (Ev.sh (Cal.first y)))/\Below w.heap.size w w':=by
 obtain⟨o1,o2,o3,o4,o5⟩:=Ch.ok i h.2.2.1
 have hf:=Yr.bF h
 have hy1:=h.1
 have hy2:=h.2.1
 have HK:=Lib.hid (fun w=>zR y w h.1 h.2.1)
 have HF:=Lib.hid (fun w=>iK y w (by omega) (by omega))
 have HCo:=Lib.hid (fun w hT (hL:Tab w 5 lenCells)=>jl (bn i) (dN i) (dF i) w hT)
 rw [h.2.2.2.1,h.2.2.2.2.1,h.2.2.2.2.2]at HK
 rw [o1]at HCo
 have e:Ev.sort (Ch.upto (bn i) (dN i) (dF i) (Cal.first y) (Ch.Ph i))=(Ch.chL i).map (Ev.sh (Cal.first y)):=by
  rw [Ch.UW]
  rw [Ev.zN,show Ch.upto (bn i) (dN i) (dF i) 0 (Ch.Ph i)=Ch.chL i from rfl,o3]
 rw [←e]
 exact Ti y _ _ _ _ _ w (by omega) (by omega) hT hL o2 (Lib.hid o5) HK HF HCo (Lib.hid (fun m w hT hL=>BL _ _ _ m w hT hL)) (Lib.hid (fun m w hT hL=>EX _ _ _ m w hT hL))
theorem QF(y:Int)(i:Nat)(w:World)(h:Yr.Is y i):
  Calls Tryo.prog 46 #[.int .i64 y] w fun e w'=>∃v,e= .returned (.tuple #[v,.int .i64 0])/\Ev.Own w' w.heap.size v ((Ch.chL i).map (Ev.sh (Cal.first y)))/\Below w.heap.size w w':=by
 obtain⟨o1,o2,o3,o4,o5⟩:=Ch.ok i h.2.2.1
 have hf:=Yr.bF h
 have hy1:=h.1
 have hy2:=h.2.1
 have HK:=Lib.hid (fun w=>mH y w h.1 h.2.1)
 have HF:=Lib.hid (fun w=>dn y w (by omega) (by omega))
 have HCo:=Lib.hid (fun w=>GQ (bn i) (dN i) (dF i) w)
 rw [h.2.2.2.1,h.2.2.2.2.1,h.2.2.2.2.2]at HK
 rw [o1]at HCo
 have e:Ch.upto (bn i) (dN i) (dF i) (Cal.first y) (Ch.Ph i)=(Ch.chL i).map (Ev.sh (Cal.first y)):=by
  rw [Ch.UW]
  rfl
 rw [←e]
 exact XP y _ _ _ _ _ w (by omega) (by omega) o2 (Lib.hid o5) HK HF HCo (Lib.hid (fun m w=>Gm _ _ _ m w)) (Lib.hid (fun m w=>JQ _ _ _ m w))
end
end Go.Proofs.YthnjjcoahdhmnaaGreatDoor
