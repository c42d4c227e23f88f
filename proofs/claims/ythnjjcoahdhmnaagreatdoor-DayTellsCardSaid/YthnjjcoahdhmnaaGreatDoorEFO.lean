import Derived.Test.YthnjjcoahdhmnaaGreatDoorEFE
import Derived.Test.YthnjjcoahdhmnaaGreatDoorEYM
import Derived.Test.YthnjjcoahdhmnaaGreatDoorESW
set_option maxHeartbeats 8000000
set_option maxRecDepth 100000
set_option linter.unusedVariables false
namespace Go.Proofs.YthnjjcoahdhmnaaGreatDoor
section
open Go.ChangeShapes Go.WideShapes Go.ChangeAt Go.RowKit Go.Lib Go.Sort Go.Shelf
theorem RD(y:Int)(w:World)(hy1:1<=y)(hy2:y<=9999)(HI:Hid (∀w:World,Calls Tryo.prog 117 #[.int .i64 y] w fun e w'=>e= .returned (.bool false)/\w=w'))
  (HD3:Hid (-2000000<=D10.aC y 3 false 25/\D10.aC y 3 false 25<=3000000)) (HD5:Hid (-2000000<=D10.aC y 5 false 30/\D10.aC y 5 false 30<=3000000)):
  Calls Tryo.prog 44 #[.int .i64 y,.int .i64 0] w fun e w'=>∃v,e= .returned (.tuple #[v,.int .i64 0])/\Ev.Own w' w.heap.size v (Ev.sort ((((((((((((((((((([]:List Fe.Key)++Fe.dk 1 1 [1,2])++Fe.dk 3 1 [10])++Fe.dk 5 1 [17,18,19,20])++Fe.dk 6 1 [21])++Fe.dk 7 1 [22])++(List.range 8).map (fun i:Nat=>((9,3,false,25,(i:Int)):Fe.Key)))++Fe.dk 11 5 [15])++Fe.dk 14 6 [14])++Fe.dk 15 6 [15])++Fe.dk 18 7 [17,18,19,20])++Fe.dk 22 8 [14])++Fe.dk 23 8 [18])++Fe.dk 28 11 [15])++Fe.dk 4 1 [15,16])++Fe.dk 8 1 [23])++Fe.dk 17 7 [15,16,21,22])++Fe.dk 25 9 [6,7]).map (Fe.evk (D10.aC y))))/\Below w.heap.size w w':=by
 have hy:I64 y:=⟨by omega,by omega⟩
 have HRi:=Lib.hid (fun w=>dQ y w hy)
 rw [show Cal.bG y=true by simp [Cal.bG];omega]at HRi
 have H3:=Lib.hid (fun w=>bJ y 3 25 w hy)
 have H5:=Lib.hid (fun w=>bJ y 5 30 w hy)
 obtain⟨D3,e3⟩:∃D,D10.aC y 3 false 25=D:=⟨_,rfl⟩
 obtain⟨D5,e5⟩:∃D,D10.aC y 5 false 30=D:=⟨_,rfl⟩
 rw [e3]at H3 HD3
 rw [e5]at H5 HD5
 have E3:=Lib.hid e3
 have E5:=Lib.hid e5
 have hd3:=HD3.out
 have hd5:=HD5.out
 clear e3 e5 HD3 HD5
 obtain⟨i0,ih,iz0,iz1,iz2⟩:=info_parts bD
 have HO0:Ev.Own w w.heap.size (.slice none 0 0) (([]:List Fe.Key).map (Fe.evk (D10.aC y))):=Ev.Own.nil _ _
 have hB0:Below w.heap.size w w:=Below.refl _ _
 have hs0:=hB0.size
 go_enter Tryo.func44,Tryz.ntmps44
 go_wp2_with fail
 refine(jW _).mono ?_
 rintro e w' ⟨rfl,rfl⟩
 go_wp2_with fail
 refine(HRi.out _).mono ?_
 rintro e w' ⟨rfl,rfl⟩
 go_wp2_with fail
 refine(ay y 1 1 [1,2] 2 w.heap.size w.heap.size _ (.slice none 0 0) _ hy rfl (by decide) (by first|(simp;done)|(simp;omega)) (Ev.Own.below HO0 (ba _ _)) (Lib.hid (ints_at w [1,2] _)) (by simp) (fun e=>by have:=(World.ownsRow.lt HO0 _ e).2;omega)).mono ?_
 rintro e w1 ⟨v1,rfl,HO1,hg1⟩
 have hB1:Below w.heap.size w w1:=aB (baa hB0 _) hg1 (fun q e=>(World.ownsRow.lt HO0 q e).1)
 have hs1:=hB1.size
 clear hg1 HO0 hB0 hs0
 go_wp2_with fail
 refine(ay y 3 1 [10] 1 w1.heap.size w.heap.size _ v1 _ hy rfl (by decide) (by first|(simp;done)|(simp;omega)) (Ev.Own.below HO1 (ba _ _)) (Lib.hid (ints_at w1 [10] _)) (by simp) (fun e=>by have:=(World.ownsRow.lt HO1 _ e).2;omega)).mono ?_
 rintro e w2 ⟨v2,rfl,HO2,hg2⟩
 have hB2:Below w.heap.size w w2:=aB (baa hB1 _) hg2 (fun q e=>(World.ownsRow.lt HO1 q e).1)
 have hs2:=hB2.size
 clear hg2 HO1 hB1 hs1
 go_wp2_with fail
 refine(ay y 5 1 [17,18,19,20] 4 w2.heap.size w.heap.size _ v2 _ hy rfl (by decide) (by first|(simp;done)|(simp;omega)) (Ev.Own.below HO2 (ba _ _)) (Lib.hid (ints_at w2 [17,18,19,20] _)) (by simp) (fun e=>by have:=(World.ownsRow.lt HO2 _ e).2;omega)).mono ?_
 rintro e w3 ⟨v3,rfl,HO3,hg3⟩
 have hB3:Below w.heap.size w w3:=aB (baa hB2 _) hg3 (fun q e=>(World.ownsRow.lt HO2 q e).1)
 have hs3:=hB3.size
 clear hg3 HO2 hB2 hs2
 go_wp2_with fail
 refine(ay y 6 1 [21] 1 w3.heap.size w.heap.size _ v3 _ hy rfl (by decide) (by first|(simp;done)|(simp;omega)) (Ev.Own.below HO3 (ba _ _)) (Lib.hid (ints_at w3 [21] _)) (by simp) (fun e=>by have:=(World.ownsRow.lt HO3 _ e).2;omega)).mono ?_
 rintro e w4 ⟨v4,rfl,HO4,hg4⟩
 have hB4:Below w.heap.size w w4:=aB (baa hB3 _) hg4 (fun q e=>(World.ownsRow.lt HO3 q e).1)
 have hs4:=hB4.size
 clear hg4 HO3 hB3 hs3
 go_wp2_with fail
 refine(ay y 7 1 [22] 1 w4.heap.size w.heap.size _ v4 _ hy rfl (by decide) (by first|(simp;done)|(simp;omega)) (Ev.Own.below HO4 (ba _ _)) (Lib.hid (ints_at w4 [22] _)) (by simp) (fun e=>by have:=(World.ownsRow.lt HO4 _ e).2;omega)).mono ?_
 rintro e w5 ⟨v5,rfl,HO5,hg5⟩
 have hB5:Below w.heap.size w w5:=aB (baa hB4 _) hg5 (fun q e=>(World.ownsRow.lt HO4 q e).1)
 have hs5:=hB5.size
 clear hg5 HO4 hB4 hs4
 go_wp2_with fail
 go_loopw [6,7] (fun v i wr=>∃ (j:Nat) (L:List (Int×Int)),j<=8/\i= .int .i64 (j:Int)/\Hid (L=((((((([]:List Fe.Key)++Fe.dk 1 1 [1,2])++Fe.dk 3 1 [10])++Fe.dk 5 1 [17,18,19,20])++Fe.dk 6 1 [21])++Fe.dk 7 1 [22])++(List.range j).map (fun i:Nat=>((9,3,false,25,(i:Int)):Fe.Key))).map (Fe.evk (D10.aC y)))/\L.length<=20+j/\Ev.Own wr w.heap.size v L/\Below w.heap.size w wr) (fun _ i _=>8-(intOf i).toNat)
 case atStart=>exact⟨0,_,by omega,rfl,Lib.hid (by rw [List.range_zero,List.map_nil,List.append_nil]),by rw [List.length_map];decide,HO5,hB5⟩
 case round=>
  clear HO5 hB5 hs5
  obtain⟨j,L,hj,rfl,HL,hl1,HO1,hB1⟩:=hrel
  obtain⟨w1,rfl⟩:∃x,x=wr:=⟨_,rfl⟩
  have hs1:=hB1.size
  by_cases hlt:j<8
  ·have HE:Hid (((((((([]:List Fe.Key)++Fe.dk 1 1 [1,2])++Fe.dk 3 1 [10])++Fe.dk 5 1 [17,18,19,20])++Fe.dk 6 1 [21])++Fe.dk 7 1 [22])++(List.range (j+1)).map (fun i:Nat=>((9,3,false,25,(i:Int)):Fe.Key))).map (Fe.evk (D10.aC y))=L++ [(9,D3+(j:Int))]):=Lib.hid (by
    rw [HL.out,List.range_succ]
    simp only [List.map_append,List.map_cons,List.map_nil,List.append_assoc,Fe.evk,E3.out])
   have j0:(0:Int)<=(j:Int):=by omega
   have j1:(j:Int)<8:=by omega
   go_wp2_with fail
   refine(H3.out _).mono ?_
   rintro e w2 ⟨rfl,hb2⟩
   have HO2:=HO1.below hb2
   have hs2:=hb2.size
   go_wp2_with (at_builtin;refine wpList_append_own_at _ rfl (.tmp 38) (.tmp 44) 38 rfl w.heap.size 72 i0 (.agg #[.int .i64 0,.int .i64 0]) 2 16 (aI Tryz.underlying38) ih iz0 iz1 iz2 rfl (by decide) _ L.length (Ev.flat L) rfl (World.ownsRow.alloc HO2 _) ⟨w2.heap.size,0,none⟩ 1 1 [.int .i64 _,.int .i64 _] rfl rfl (bK _ _ _) (dD _ _) (by simp only [maxLen];omega) (by omega) (by first|assumption|(simp;omega)|omega) ?_;intro v3 w3 hown3 hgrow3 _ hblk3)
   go_roundw
   case rel=>exact⟨j+1,_,by omega,by go_num,Lib.hid HE.out.symm,by simp;omega,Ev.aM rfl hown3,aB (baa (bt hB1 hb2) _) hgrow3 (fun q e=>(World.ownsRow.lt HO2 q e).1)⟩
   case measure=>simp [intOf];omega
  ·obtain rfl:j=8:=by omega
   have HO5:Ev.Own w1 w.heap.size _ (((((((([]:List Fe.Key)++Fe.dk 1 1 [1,2])++Fe.dk 3 1 [10])++Fe.dk 5 1 [17,18,19,20])++Fe.dk 6 1 [21])++Fe.dk 7 1 [22])++(List.range 8).map (fun i:Nat=>((9,3,false,25,(i:Int)):Fe.Key))).map (Fe.evk (D10.aC y))):=HL.out▸HO1
   have hB5:=hB1
   have hs5:=hs1
   obtain⟨v5,hv5⟩:∃x,x=u6:=⟨_,rfl⟩
   obtain⟨w5,hw5⟩:∃x,x=w1:=⟨_,rfl⟩
   clear HL hl1 HO1 hB1 hs1 hlt hj
   subst hv5
   subst hw5
   go_wp2_with fail
   refine(ay y 11 5 [15] 1 w5.heap.size w.heap.size _ v5 _ hy rfl (by decide) (by first|(simp;done)|(simp;omega)) (Ev.Own.below HO5 (ba _ _)) (Lib.hid (ints_at w5 [15] _)) (by simp) (fun e=>by have:=(World.ownsRow.lt HO5 _ e).2;omega)).mono ?_
   rintro e w6 ⟨v6,rfl,HO6,hg6⟩
   have hB6:Below w.heap.size w w6:=aB (baa hB5 _) hg6 (fun q e=>(World.ownsRow.lt HO5 q e).1)
   have hs6:=hB6.size
   clear hg6 HO5 hB5 hs5
   go_wp2_with fail
   refine(HI.out _).mono ?_
   rintro e w' ⟨rfl,rfl⟩
   go_wp2_with fail
   refine(ay y 14 6 [14] 1 w6.heap.size w.heap.size _ v6 _ hy rfl (by decide) (by first|(simp;done)|(simp;omega)) (Ev.Own.below HO6 (ba _ _)) (Lib.hid (ints_at w6 [14] _)) (by simp) (fun e=>by have:=(World.ownsRow.lt HO6 _ e).2;omega)).mono ?_
   rintro e w7 ⟨v7,rfl,HO7,hg7⟩
   have hB7:Below w.heap.size w w7:=aB (baa hB6 _) hg7 (fun q e=>(World.ownsRow.lt HO6 q e).1)
   have hs7:=hB7.size
   clear hg7 HO6 hB6 hs6
   go_wp2_with fail
   refine(ay y 15 6 [15] 1 w7.heap.size w.heap.size _ v7 _ hy rfl (by decide) (by first|(simp;done)|(simp;omega)) (Ev.Own.below HO7 (ba _ _)) (Lib.hid (ints_at w7 [15] _)) (by simp) (fun e=>by have:=(World.ownsRow.lt HO7 _ e).2;omega)).mono ?_
   rintro e w8 ⟨v8,rfl,HO8,hg8⟩
   have hB8:Below w.heap.size w w8:=aB (baa hB7 _) hg8 (fun q e=>(World.ownsRow.lt HO7 q e).1)
   have hs8:=hB8.size
   clear hg8 HO7 hB7 hs7
   go_wp2_with fail
   refine(ay y 18 7 [17,18,19,20] 4 w8.heap.size w.heap.size _ v8 _ hy rfl (by decide) (by first|(simp;done)|(simp;omega)) (Ev.Own.below HO8 (ba _ _)) (Lib.hid (ints_at w8 [17,18,19,20] _)) (by simp) (fun e=>by have:=(World.ownsRow.lt HO8 _ e).2;omega)).mono ?_
   rintro e w9 ⟨v9,rfl,HO9,hg9⟩
   have hB9:Below w.heap.size w w9:=aB (baa hB8 _) hg9 (fun q e=>(World.ownsRow.lt HO8 q e).1)
   have hs9:=hB9.size
   clear hg9 HO8 hB8 hs8
   go_wp2_with fail
   refine(ay y 22 8 [14] 1 w9.heap.size w.heap.size _ v9 _ hy rfl (by decide) (by first|(simp;done)|(simp;omega)) (Ev.Own.below HO9 (ba _ _)) (Lib.hid (ints_at w9 [14] _)) (by simp) (fun e=>by have:=(World.ownsRow.lt HO9 _ e).2;omega)).mono ?_
   rintro e w10 ⟨v10,rfl,HO10,hg10⟩
   have hB10:Below w.heap.size w w10:=aB (baa hB9 _) hg10 (fun q e=>(World.ownsRow.lt HO9 q e).1)
   have hs10:=hB10.size
   clear hg10 HO9 hB9 hs9
   go_wp2_with fail
   refine(ay y 23 8 [18] 1 w10.heap.size w.heap.size _ v10 _ hy rfl (by decide) (by first|(simp;done)|(simp;omega)) (Ev.Own.below HO10 (ba _ _)) (Lib.hid (ints_at w10 [18] _)) (by simp) (fun e=>by have:=(World.ownsRow.lt HO10 _ e).2;omega)).mono ?_
   rintro e w11 ⟨v11,rfl,HO11,hg11⟩
   have hB11:Below w.heap.size w w11:=aB (baa hB10 _) hg11 (fun q e=>(World.ownsRow.lt HO10 q e).1)
   have hs11:=hB11.size
   clear hg11 HO10 hB10 hs10
   go_wp2_with fail
   refine(ay y 28 11 [15] 1 w11.heap.size w.heap.size _ v11 _ hy rfl (by decide) (by first|(simp;done)|(simp;omega)) (Ev.Own.below HO11 (ba _ _)) (Lib.hid (ints_at w11 [15] _)) (by simp) (fun e=>by have:=(World.ownsRow.lt HO11 _ e).2;omega)).mono ?_
   rintro e w12 ⟨v12,rfl,HO12,hg12⟩
   have hB12:Below w.heap.size w w12:=aB (baa hB11 _) hg12 (fun q e=>(World.ownsRow.lt HO11 q e).1)
   have hs12:=hB12.size
   clear hg12 HO11 hB11 hs11
   go_wp2_with fail
   refine(ay y 4 1 [15,16] 2 w12.heap.size w.heap.size _ v12 _ hy rfl (by decide) (by first|(simp;done)|(simp;omega)) (Ev.Own.below HO12 (ba _ _)) (Lib.hid (ints_at w12 [15,16] _)) (by simp) (fun e=>by have:=(World.ownsRow.lt HO12 _ e).2;omega)).mono ?_
   rintro e w13 ⟨v13,rfl,HO13,hg13⟩
   have hB13:Below w.heap.size w w13:=aB (baa hB12 _) hg13 (fun q e=>(World.ownsRow.lt HO12 q e).1)
   have hs13:=hB13.size
   clear hg13 HO12 hB12 hs12
   go_wp2_with fail
   refine(ay y 8 1 [23] 1 w13.heap.size w.heap.size _ v13 _ hy rfl (by decide) (by first|(simp;done)|(simp;omega)) (Ev.Own.below HO13 (ba _ _)) (Lib.hid (ints_at w13 [23] _)) (by simp) (fun e=>by have:=(World.ownsRow.lt HO13 _ e).2;omega)).mono ?_
   rintro e w14 ⟨v14,rfl,HO14,hg14⟩
   have hB14:Below w.heap.size w w14:=aB (baa hB13 _) hg14 (fun q e=>(World.ownsRow.lt HO13 q e).1)
   have hs14:=hB14.size
   clear hg14 HO13 hB13 hs13
   go_wp2_with fail
   refine(ay y 17 7 [15,16,21,22] 4 w14.heap.size w.heap.size _ v14 _ hy rfl (by decide) (by first|(simp;done)|(simp;omega)) (Ev.Own.below HO14 (ba _ _)) (Lib.hid (ints_at w14 [15,16,21,22] _)) (by simp) (fun e=>by have:=(World.ownsRow.lt HO14 _ e).2;omega)).mono ?_
   rintro e w15 ⟨v15,rfl,HO15,hg15⟩
   have hB15:Below w.heap.size w w15:=aB (baa hB14 _) hg15 (fun q e=>(World.ownsRow.lt HO14 q e).1)
   have hs15:=hB15.size
   clear hg15 HO14 hB14 hs14
   go_wp2_with fail
   refine(ay y 25 9 [6,7] 2 w15.heap.size w.heap.size _ v15 _ hy rfl (by decide) (by first|(simp;done)|(simp;omega)) (Ev.Own.below HO15 (ba _ _)) (Lib.hid (ints_at w15 [6,7] _)) (by simp) (fun e=>by have:=(World.ownsRow.lt HO15 _ e).2;omega)).mono ?_
   rintro e w16 ⟨v16,rfl,HO16,hg16⟩
   have hB16:Below w.heap.size w w16:=aB (baa hB15 _) hg16 (fun q e=>(World.ownsRow.lt HO15 q e).1)
   have hs16:=hB16.size
   clear hg16 HO15 hB15 hs15
   go_wp2_with fail
   refine(jf _ _ _ HO16.row (by rw [List.length_map];decide)).mono ?_
   rintro e w99 ⟨v99,rfl,ho9,hb9⟩
   go_wp2_with fail
   go_ret2
   exact⟨_,rfl,ho9.base hs16,bt hB16 hb9⟩
theorem QA(y:Int)(w:World)(hy1:1<=y)(hy2:y<=9999)(HI:Hid (∀w:World,Calls Tryo.prog 117 #[.int .i64 y] w fun e w'=>e= .returned (.bool true)/\w=w'))
  (HD3:Hid (-2000000<=D10.aC y 3 false 25/\D10.aC y 3 false 25<=3000000)) (HD5:Hid (-2000000<=D10.aC y 5 false 30/\D10.aC y 5 false 30<=3000000)):
  Calls Tryo.prog 44 #[.int .i64 y,.int .i64 0] w fun e w'=>∃v,e= .returned (.tuple #[v,.int .i64 0])/\Ev.Own w' w.heap.size v (Ev.sort (((((((((((((((((((([]:List Fe.Key)++Fe.dk 1 1 [1,2])++Fe.dk 3 1 [10])++Fe.dk 5 1 [17,18,19,20])++Fe.dk 6 1 [21])++Fe.dk 7 1 [22])++(List.range 8).map (fun i:Nat=>((9,3,false,25,(i:Int)):Fe.Key)))++Fe.dk 11 5 [15])++ [((12,5,false,30,14):Fe.Key)])++Fe.dk 14 6 [14])++Fe.dk 15 6 [15])++Fe.dk 18 7 [17,18,19,20])++Fe.dk 22 8 [14])++Fe.dk 23 8 [18])++Fe.dk 28 11 [15])++Fe.dk 4 1 [15,16])++Fe.dk 8 1 [23])++Fe.dk 17 7 [15,16,21,22])++Fe.dk 25 9 [6,7]).map (Fe.evk (D10.aC y))))/\Below w.heap.size w w':=by
 have hy:I64 y:=⟨by omega,by omega⟩
 have HRi:=Lib.hid (fun w=>dQ y w hy)
 rw [show Cal.bG y=true by simp [Cal.bG];omega]at HRi
 have H3:=Lib.hid (fun w=>bJ y 3 25 w hy)
 have H5:=Lib.hid (fun w=>bJ y 5 30 w hy)
 obtain⟨D3,e3⟩:∃D,D10.aC y 3 false 25=D:=⟨_,rfl⟩
 obtain⟨D5,e5⟩:∃D,D10.aC y 5 false 30=D:=⟨_,rfl⟩
 rw [e3]at H3 HD3
 rw [e5]at H5 HD5
 have E3:=Lib.hid e3
 have E5:=Lib.hid e5
 have hd3:=HD3.out
 have hd5:=HD5.out
 clear e3 e5 HD3 HD5
 obtain⟨i0,ih,iz0,iz1,iz2⟩:=info_parts bD
 have HO0:Ev.Own w w.heap.size (.slice none 0 0) (([]:List Fe.Key).map (Fe.evk (D10.aC y))):=Ev.Own.nil _ _
 have hB0:Below w.heap.size w w:=Below.refl _ _
 have hs0:=hB0.size
 go_enter Tryo.func44,Tryz.ntmps44
 go_wp2_with fail
 refine(jW _).mono ?_
 rintro e w' ⟨rfl,rfl⟩
 go_wp2_with fail
 refine(HRi.out _).mono ?_
 rintro e w' ⟨rfl,rfl⟩
 go_wp2_with fail
 refine(ay y 1 1 [1,2] 2 w.heap.size w.heap.size _ (.slice none 0 0) _ hy rfl (by decide) (by first|(simp;done)|(simp;omega)) (Ev.Own.below HO0 (ba _ _)) (Lib.hid (ints_at w [1,2] _)) (by simp) (fun e=>by have:=(World.ownsRow.lt HO0 _ e).2;omega)).mono ?_
 rintro e w1 ⟨v1,rfl,HO1,hg1⟩
 have hB1:Below w.heap.size w w1:=aB (baa hB0 _) hg1 (fun q e=>(World.ownsRow.lt HO0 q e).1)
 have hs1:=hB1.size
 clear hg1 HO0 hB0 hs0
 go_wp2_with fail
 refine(ay y 3 1 [10] 1 w1.heap.size w.heap.size _ v1 _ hy rfl (by decide) (by first|(simp;done)|(simp;omega)) (Ev.Own.below HO1 (ba _ _)) (Lib.hid (ints_at w1 [10] _)) (by simp) (fun e=>by have:=(World.ownsRow.lt HO1 _ e).2;omega)).mono ?_
 rintro e w2 ⟨v2,rfl,HO2,hg2⟩
 have hB2:Below w.heap.size w w2:=aB (baa hB1 _) hg2 (fun q e=>(World.ownsRow.lt HO1 q e).1)
 have hs2:=hB2.size
 clear hg2 HO1 hB1 hs1
 go_wp2_with fail
 refine(ay y 5 1 [17,18,19,20] 4 w2.heap.size w.heap.size _ v2 _ hy rfl (by decide) (by first|(simp;done)|(simp;omega)) (Ev.Own.below HO2 (ba _ _)) (Lib.hid (ints_at w2 [17,18,19,20] _)) (by simp) (fun e=>by have:=(World.ownsRow.lt HO2 _ e).2;omega)).mono ?_
 rintro e w3 ⟨v3,rfl,HO3,hg3⟩
 have hB3:Below w.heap.size w w3:=aB (baa hB2 _) hg3 (fun q e=>(World.ownsRow.lt HO2 q e).1)
 have hs3:=hB3.size
 clear hg3 HO2 hB2 hs2
 go_wp2_with fail
 refine(ay y 6 1 [21] 1 w3.heap.size w.heap.size _ v3 _ hy rfl (by decide) (by first|(simp;done)|(simp;omega)) (Ev.Own.below HO3 (ba _ _)) (Lib.hid (ints_at w3 [21] _)) (by simp) (fun e=>by have:=(World.ownsRow.lt HO3 _ e).2;omega)).mono ?_
 rintro e w4 ⟨v4,rfl,HO4,hg4⟩
 have hB4:Below w.heap.size w w4:=aB (baa hB3 _) hg4 (fun q e=>(World.ownsRow.lt HO3 q e).1)
 have hs4:=hB4.size
 clear hg4 HO3 hB3 hs3
 go_wp2_with fail
 refine(ay y 7 1 [22] 1 w4.heap.size w.heap.size _ v4 _ hy rfl (by decide) (by first|(simp;done)|(simp;omega)) (Ev.Own.below HO4 (ba _ _)) (Lib.hid (ints_at w4 [22] _)) (by simp) (fun e=>by have:=(World.ownsRow.lt HO4 _ e).2;omega)).mono ?_
 rintro e w5 ⟨v5,rfl,HO5,hg5⟩
 have hB5:Below w.heap.size w w5:=aB (baa hB4 _) hg5 (fun q e=>(World.ownsRow.lt HO4 q e).1)
 have hs5:=hB5.size
 clear hg5 HO4 hB4 hs4
 go_wp2_with fail
 go_loopw [6,7] (fun v i wr=>∃ (j:Nat) (L:List (Int×Int)),j<=8/\i= .int .i64 (j:Int)/\Hid (L=((((((([]:List Fe.Key)++Fe.dk 1 1 [1,2])++Fe.dk 3 1 [10])++Fe.dk 5 1 [17,18,19,20])++Fe.dk 6 1 [21])++Fe.dk 7 1 [22])++(List.range j).map (fun i:Nat=>((9,3,false,25,(i:Int)):Fe.Key))).map (Fe.evk (D10.aC y)))/\L.length<=20+j/\Ev.Own wr w.heap.size v L/\Below w.heap.size w wr) (fun _ i _=>8-(intOf i).toNat)
 case atStart=>exact⟨0,_,by omega,rfl,Lib.hid (by rw [List.range_zero,List.map_nil,List.append_nil]),by rw [List.length_map];decide,HO5,hB5⟩
 case round=>
  clear HO5 hB5 hs5
  obtain⟨j,L,hj,rfl,HL,hl1,HO1,hB1⟩:=hrel
  obtain⟨w1,rfl⟩:∃x,x=wr:=⟨_,rfl⟩
  have hs1:=hB1.size
  by_cases hlt:j<8
  ·have HE:Hid (((((((([]:List Fe.Key)++Fe.dk 1 1 [1,2])++Fe.dk 3 1 [10])++Fe.dk 5 1 [17,18,19,20])++Fe.dk 6 1 [21])++Fe.dk 7 1 [22])++(List.range (j+1)).map (fun i:Nat=>((9,3,false,25,(i:Int)):Fe.Key))).map (Fe.evk (D10.aC y))=L++ [(9,D3+(j:Int))]):=Lib.hid (by
    rw [HL.out,List.range_succ]
    simp only [List.map_append,List.map_cons,List.map_nil,List.append_assoc,Fe.evk,E3.out])
   have j0:(0:Int)<=(j:Int):=by omega
   have j1:(j:Int)<8:=by omega
   go_wp2_with fail
   refine(H3.out _).mono ?_
   rintro e w2 ⟨rfl,hb2⟩
   have HO2:=HO1.below hb2
   have hs2:=hb2.size
   go_wp2_with (at_builtin;refine wpList_append_own_at _ rfl (.tmp 38) (.tmp 44) 38 rfl w.heap.size 72 i0 (.agg #[.int .i64 0,.int .i64 0]) 2 16 (aI Tryz.underlying38) ih iz0 iz1 iz2 rfl (by decide) _ L.length (Ev.flat L) rfl (World.ownsRow.alloc HO2 _) ⟨w2.heap.size,0,none⟩ 1 1 [.int .i64 _,.int .i64 _] rfl rfl (bK _ _ _) (dD _ _) (by simp only [maxLen];omega) (by omega) (by first|assumption|(simp;omega)|omega) ?_;intro v3 w3 hown3 hgrow3 _ hblk3)
   go_roundw
   case rel=>exact⟨j+1,_,by omega,by go_num,Lib.hid HE.out.symm,by simp;omega,Ev.aM rfl hown3,aB (baa (bt hB1 hb2) _) hgrow3 (fun q e=>(World.ownsRow.lt HO2 q e).1)⟩
   case measure=>simp [intOf];omega
  ·obtain rfl:j=8:=by omega
   have HO5:Ev.Own w1 w.heap.size _ (((((((([]:List Fe.Key)++Fe.dk 1 1 [1,2])++Fe.dk 3 1 [10])++Fe.dk 5 1 [17,18,19,20])++Fe.dk 6 1 [21])++Fe.dk 7 1 [22])++(List.range 8).map (fun i:Nat=>((9,3,false,25,(i:Int)):Fe.Key))).map (Fe.evk (D10.aC y))):=HL.out▸HO1
   have hB5:=hB1
   have hs5:=hs1
   obtain⟨v5,hv5⟩:∃x,x=u6:=⟨_,rfl⟩
   obtain⟨w5,hw5⟩:∃x,x=w1:=⟨_,rfl⟩
   clear HL hl1 HO1 hB1 hs1 hlt hj
   subst hv5
   subst hw5
   go_wp2_with fail
   refine(ay y 11 5 [15] 1 w5.heap.size w.heap.size _ v5 _ hy rfl (by decide) (by first|(simp;done)|(simp;omega)) (Ev.Own.below HO5 (ba _ _)) (Lib.hid (ints_at w5 [15] _)) (by simp) (fun e=>by have:=(World.ownsRow.lt HO5 _ e).2;omega)).mono ?_
   rintro e w6 ⟨v6,rfl,HO6,hg6⟩
   have hB6:Below w.heap.size w w6:=aB (baa hB5 _) hg6 (fun q e=>(World.ownsRow.lt HO5 q e).1)
   have hs6:=hB6.size
   clear hg6 HO5 hB5 hs5
   go_wp2_with fail
   refine(HI.out _).mono ?_
   rintro e w' ⟨rfl,rfl⟩
   go_wp2_with fail
   refine(H5.out _).mono ?_
   rintro e wq ⟨rfl,hbq⟩
   have HOq:=HO6.below hbq
   have hsq:=hbq.size
   go_wp2_with (at_builtin;refine wpList_append_own_at _ rfl (.tmp 52) (.tmp 57) 38 rfl w.heap.size 72 i0 (.agg #[.int .i64 0,.int .i64 0]) 2 16 (aI Tryz.underlying38) ih iz0 iz1 iz2 rfl (by decide) _ (((((((((([]:List Fe.Key)++Fe.dk 1 1 [1,2])++Fe.dk 3 1 [10])++Fe.dk 5 1 [17,18,19,20])++Fe.dk 6 1 [21])++Fe.dk 7 1 [22])++(List.range 8).map (fun i:Nat=>((9,3,false,25,(i:Int)):Fe.Key)))++Fe.dk 11 5 [15])).map (Fe.evk (D10.aC y))).length (Ev.flat (((((((((([]:List Fe.Key)++Fe.dk 1 1 [1,2])++Fe.dk 3 1 [10])++Fe.dk 5 1 [17,18,19,20])++Fe.dk 6 1 [21])++Fe.dk 7 1 [22])++(List.range 8).map (fun i:Nat=>((9,3,false,25,(i:Int)):Fe.Key)))++Fe.dk 11 5 [15])).map (Fe.evk (D10.aC y)))) rfl (World.ownsRow.alloc HOq _) ⟨wq.heap.size,0,none⟩ 1 1 [.int .i64 _,.int .i64 _] rfl rfl (bK _ _ _) (dD _ _) (by rw [List.length_map];decide) (by rw [List.length_map];decide) (by first|assumption|(simp;omega)|omega) ?_;intro v7 w7 hown7 hgrow7 _ hblk7)
   have HO7:Ev.Own w7 w.heap.size v7 ((((((((((([]:List Fe.Key)++Fe.dk 1 1 [1,2])++Fe.dk 3 1 [10])++Fe.dk 5 1 [17,18,19,20])++Fe.dk 6 1 [21])++Fe.dk 7 1 [22])++(List.range 8).map (fun i:Nat=>((9,3,false,25,(i:Int)):Fe.Key)))++Fe.dk 11 5 [15])++ [((12,5,false,30,14):Fe.Key)])).map (Fe.evk (D10.aC y))):=by
    have:=Ev.aM rfl hown7
    rw [List.map_append]
    have e1: [((12,5,false,30,14):Fe.Key)].map (Fe.evk (D10.aC y))= [(12,D5+14)]:=by simp only [List.map_cons,List.map_nil,Fe.evk,E5.out]
    rw [e1]
    exact this
   have hB7:Below w.heap.size w w7:=aB (baa (bt hB6 hbq) _) hgrow7 (fun q e=>(World.ownsRow.lt HOq q e).1)
   have hs7:=hB7.size
   clear HOq HO6 hB6 hs6 hown7 hgrow7 hblk7 hbq hsq
   refine(ay y 14 6 [14] 1 w7.heap.size w.heap.size _ v7 _ hy rfl (by decide) (by first|(simp;done)|(simp;omega)) (Ev.Own.below HO7 (ba _ _)) (Lib.hid (ints_at w7 [14] _)) (by simp) (fun e=>by have:=(World.ownsRow.lt HO7 _ e).2;omega)).mono ?_
   rintro e w8 ⟨v8,rfl,HO8,hg8⟩
   have hB8:Below w.heap.size w w8:=aB (baa hB7 _) hg8 (fun q e=>(World.ownsRow.lt HO7 q e).1)
   have hs8:=hB8.size
   clear hg8 HO7 hB7 hs7
   go_wp2_with fail
   refine(ay y 15 6 [15] 1 w8.heap.size w.heap.size _ v8 _ hy rfl (by decide) (by first|(simp;done)|(simp;omega)) (Ev.Own.below HO8 (ba _ _)) (Lib.hid (ints_at w8 [15] _)) (by simp) (fun e=>by have:=(World.ownsRow.lt HO8 _ e).2;omega)).mono ?_
   rintro e w9 ⟨v9,rfl,HO9,hg9⟩
   have hB9:Below w.heap.size w w9:=aB (baa hB8 _) hg9 (fun q e=>(World.ownsRow.lt HO8 q e).1)
   have hs9:=hB9.size
   clear hg9 HO8 hB8 hs8
   go_wp2_with fail
   refine(ay y 18 7 [17,18,19,20] 4 w9.heap.size w.heap.size _ v9 _ hy rfl (by decide) (by first|(simp;done)|(simp;omega)) (Ev.Own.below HO9 (ba _ _)) (Lib.hid (ints_at w9 [17,18,19,20] _)) (by simp) (fun e=>by have:=(World.ownsRow.lt HO9 _ e).2;omega)).mono ?_
   rintro e w10 ⟨v10,rfl,HO10,hg10⟩
   have hB10:Below w.heap.size w w10:=aB (baa hB9 _) hg10 (fun q e=>(World.ownsRow.lt HO9 q e).1)
   have hs10:=hB10.size
   clear hg10 HO9 hB9 hs9
   go_wp2_with fail
   refine(ay y 22 8 [14] 1 w10.heap.size w.heap.size _ v10 _ hy rfl (by decide) (by first|(simp;done)|(simp;omega)) (Ev.Own.below HO10 (ba _ _)) (Lib.hid (ints_at w10 [14] _)) (by simp) (fun e=>by have:=(World.ownsRow.lt HO10 _ e).2;omega)).mono ?_
   rintro e w11 ⟨v11,rfl,HO11,hg11⟩
   have hB11:Below w.heap.size w w11:=aB (baa hB10 _) hg11 (fun q e=>(World.ownsRow.lt HO10 q e).1)
   have hs11:=hB11.size
   clear hg11 HO10 hB10 hs10
   go_wp2_with fail
   refine(ay y 23 8 [18] 1 w11.heap.size w.heap.size _ v11 _ hy rfl (by decide) (by first|(simp;done)|(simp;omega)) (Ev.Own.below HO11 (ba _ _)) (Lib.hid (ints_at w11 [18] _)) (by simp) (fun e=>by have:=(World.ownsRow.lt HO11 _ e).2;omega)).mono ?_
   rintro e w12 ⟨v12,rfl,HO12,hg12⟩
   have hB12:Below w.heap.size w w12:=aB (baa hB11 _) hg12 (fun q e=>(World.ownsRow.lt HO11 q e).1)
   have hs12:=hB12.size
   clear hg12 HO11 hB11 hs11
   go_wp2_with fail
   refine(ay y 28 11 [15] 1 w12.heap.size w.heap.size _ v12 _ hy rfl (by decide) (by first|(simp;done)|(simp;omega)) (Ev.Own.below HO12 (ba _ _)) (Lib.hid (ints_at w12 [15] _)) (by simp) (fun e=>by have:=(World.ownsRow.lt HO12 _ e).2;omega)).mono ?_
   rintro e w13 ⟨v13,rfl,HO13,hg13⟩
   have hB13:Below w.heap.size w w13:=aB (baa hB12 _) hg13 (fun q e=>(World.ownsRow.lt HO12 q e).1)
   have hs13:=hB13.size
   clear hg13 HO12 hB12 hs12
   go_wp2_with fail
   refine(ay y 4 1 [15,16] 2 w13.heap.size w.heap.size _ v13 _ hy rfl (by decide) (by first|(simp;done)|(simp;omega)) (Ev.Own.below HO13 (ba _ _)) (Lib.hid (ints_at w13 [15,16] _)) (by simp) (fun e=>by have:=(World.ownsRow.lt HO13 _ e).2;omega)).mono ?_
   rintro e w14 ⟨v14,rfl,HO14,hg14⟩
   have hB14:Below w.heap.size w w14:=aB (baa hB13 _) hg14 (fun q e=>(World.ownsRow.lt HO13 q e).1)
   have hs14:=hB14.size
   clear hg14 HO13 hB13 hs13
   go_wp2_with fail
   refine(ay y 8 1 [23] 1 w14.heap.size w.heap.size _ v14 _ hy rfl (by decide) (by first|(simp;done)|(simp;omega)) (Ev.Own.below HO14 (ba _ _)) (Lib.hid (ints_at w14 [23] _)) (by simp) (fun e=>by have:=(World.ownsRow.lt HO14 _ e).2;omega)).mono ?_
   rintro e w15 ⟨v15,rfl,HO15,hg15⟩
   have hB15:Below w.heap.size w w15:=aB (baa hB14 _) hg15 (fun q e=>(World.ownsRow.lt HO14 q e).1)
   have hs15:=hB15.size
   clear hg15 HO14 hB14 hs14
   go_wp2_with fail
   refine(ay y 17 7 [15,16,21,22] 4 w15.heap.size w.heap.size _ v15 _ hy rfl (by decide) (by first|(simp;done)|(simp;omega)) (Ev.Own.below HO15 (ba _ _)) (Lib.hid (ints_at w15 [15,16,21,22] _)) (by simp) (fun e=>by have:=(World.ownsRow.lt HO15 _ e).2;omega)).mono ?_
   rintro e w16 ⟨v16,rfl,HO16,hg16⟩
   have hB16:Below w.heap.size w w16:=aB (baa hB15 _) hg16 (fun q e=>(World.ownsRow.lt HO15 q e).1)
   have hs16:=hB16.size
   clear hg16 HO15 hB15 hs15
   go_wp2_with fail
   refine(ay y 25 9 [6,7] 2 w16.heap.size w.heap.size _ v16 _ hy rfl (by decide) (by first|(simp;done)|(simp;omega)) (Ev.Own.below HO16 (ba _ _)) (Lib.hid (ints_at w16 [6,7] _)) (by simp) (fun e=>by have:=(World.ownsRow.lt HO16 _ e).2;omega)).mono ?_
   rintro e w17 ⟨v17,rfl,HO17,hg17⟩
   have hB17:Below w.heap.size w w17:=aB (baa hB16 _) hg17 (fun q e=>(World.ownsRow.lt HO16 q e).1)
   have hs17:=hB17.size
   clear hg17 HO16 hB16 hs16
   go_wp2_with fail
   refine(jf _ _ _ HO17.row (by rw [List.length_map];decide)).mono ?_
   rintro e w99 ⟨v99,rfl,ho9,hb9⟩
   go_wp2_with fail
   go_ret2
   exact⟨_,rfl,ho9.base hs17,bt hB17 hb9⟩
end
section
open Go.ChangeShapes Go.WideShapes Go.ChangeAt Go.RowKit Go.Lib Go.Sort Go.Shelf
theorem Rt(y:Int)(w:World)(hy1:1<=y)(hy2:y<=9999)(HI:Hid (∀w:World,Calls Tryo.prog 117 #[.int .i64 y] w fun e w'=>e= .returned (.bool false)/\w=w'))
  (HD3:Hid (-2000000<=D10.aC y 3 false 25/\D10.aC y 3 false 25<=3000000)) (HD5:Hid (-2000000<=D10.aC y 5 false 30/\D10.aC y 5 false 30<=3000000)):
  Calls Tryo.prog 44 #[.int .i64 y,.int .i64 1] w fun e w'=>∃v,e= .returned (.tuple #[v,.int .i64 0])/\Ev.Own w' w.heap.size v (Ev.sort ((((((((((((((((((((([]:List Fe.Key)++Fe.dk 1 1 [1,2])++Fe.dk 3 1 [10])++Fe.dk 5 1 [17,18,19,20])++Fe.dk 6 1 [21])++Fe.dk 7 1 [22])++(List.range 8).map (fun i:Nat=>((9,3,false,25,(i:Int)):Fe.Key)))++Fe.dk 11 5 [15])++Fe.dk 14 6 [14])++Fe.dk 15 6 [15])++Fe.dk 18 7 [17,18,19,20])++Fe.dk 22 8 [14])++Fe.dk 23 8 [18])++Fe.dk 28 11 [15])++Fe.dk 4 1 [15])++Fe.dk 5 1 [16])++Fe.dk 8 1 [22])++Fe.dk 17 7 [15,21])++Fe.dk 18 7 [16])++Fe.dk 25 9 [6]).map (Fe.evk (D10.aC y))))/\Below w.heap.size w w':=by
 have hy:I64 y:=⟨by omega,by omega⟩
 have HRi:=Lib.hid (fun w=>dQ y w hy)
 rw [show Cal.bG y=true by simp [Cal.bG];omega]at HRi
 have H3:=Lib.hid (fun w=>bJ y 3 25 w hy)
 have H5:=Lib.hid (fun w=>bJ y 5 30 w hy)
 obtain⟨D3,e3⟩:∃D,D10.aC y 3 false 25=D:=⟨_,rfl⟩
 obtain⟨D5,e5⟩:∃D,D10.aC y 5 false 30=D:=⟨_,rfl⟩
 rw [e3]at H3 HD3
 rw [e5]at H5 HD5
 have E3:=Lib.hid e3
 have E5:=Lib.hid e5
 have hd3:=HD3.out
 have hd5:=HD5.out
 clear e3 e5 HD3 HD5
 obtain⟨i0,ih,iz0,iz1,iz2⟩:=info_parts bD
 have HO0:Ev.Own w w.heap.size (.slice none 0 0) (([]:List Fe.Key).map (Fe.evk (D10.aC y))):=Ev.Own.nil _ _
 have hB0:Below w.heap.size w w:=Below.refl _ _
 have hs0:=hB0.size
 go_enter Tryo.func44,Tryz.ntmps44
 go_wp2_with fail
 refine(jY _).mono ?_
 rintro e w' ⟨rfl,rfl⟩
 go_wp2_with fail
 refine(HRi.out _).mono ?_
 rintro e w' ⟨rfl,rfl⟩
 go_wp2_with fail
 refine(ay y 1 1 [1,2] 2 w.heap.size w.heap.size _ (.slice none 0 0) _ hy rfl (by decide) (by first|(simp;done)|(simp;omega)) (Ev.Own.below HO0 (ba _ _)) (Lib.hid (ints_at w [1,2] _)) (by simp) (fun e=>by have:=(World.ownsRow.lt HO0 _ e).2;omega)).mono ?_
 rintro e w1 ⟨v1,rfl,HO1,hg1⟩
 have hB1:Below w.heap.size w w1:=aB (baa hB0 _) hg1 (fun q e=>(World.ownsRow.lt HO0 q e).1)
 have hs1:=hB1.size
 clear hg1 HO0 hB0 hs0
 go_wp2_with fail
 refine(ay y 3 1 [10] 1 w1.heap.size w.heap.size _ v1 _ hy rfl (by decide) (by first|(simp;done)|(simp;omega)) (Ev.Own.below HO1 (ba _ _)) (Lib.hid (ints_at w1 [10] _)) (by simp) (fun e=>by have:=(World.ownsRow.lt HO1 _ e).2;omega)).mono ?_
 rintro e w2 ⟨v2,rfl,HO2,hg2⟩
 have hB2:Below w.heap.size w w2:=aB (baa hB1 _) hg2 (fun q e=>(World.ownsRow.lt HO1 q e).1)
 have hs2:=hB2.size
 clear hg2 HO1 hB1 hs1
 go_wp2_with fail
 refine(ay y 5 1 [17,18,19,20] 4 w2.heap.size w.heap.size _ v2 _ hy rfl (by decide) (by first|(simp;done)|(simp;omega)) (Ev.Own.below HO2 (ba _ _)) (Lib.hid (ints_at w2 [17,18,19,20] _)) (by simp) (fun e=>by have:=(World.ownsRow.lt HO2 _ e).2;omega)).mono ?_
 rintro e w3 ⟨v3,rfl,HO3,hg3⟩
 have hB3:Below w.heap.size w w3:=aB (baa hB2 _) hg3 (fun q e=>(World.ownsRow.lt HO2 q e).1)
 have hs3:=hB3.size
 clear hg3 HO2 hB2 hs2
 go_wp2_with fail
 refine(ay y 6 1 [21] 1 w3.heap.size w.heap.size _ v3 _ hy rfl (by decide) (by first|(simp;done)|(simp;omega)) (Ev.Own.below HO3 (ba _ _)) (Lib.hid (ints_at w3 [21] _)) (by simp) (fun e=>by have:=(World.ownsRow.lt HO3 _ e).2;omega)).mono ?_
 rintro e w4 ⟨v4,rfl,HO4,hg4⟩
 have hB4:Below w.heap.size w w4:=aB (baa hB3 _) hg4 (fun q e=>(World.ownsRow.lt HO3 q e).1)
 have hs4:=hB4.size
 clear hg4 HO3 hB3 hs3
 go_wp2_with fail
 refine(ay y 7 1 [22] 1 w4.heap.size w.heap.size _ v4 _ hy rfl (by decide) (by first|(simp;done)|(simp;omega)) (Ev.Own.below HO4 (ba _ _)) (Lib.hid (ints_at w4 [22] _)) (by simp) (fun e=>by have:=(World.ownsRow.lt HO4 _ e).2;omega)).mono ?_
 rintro e w5 ⟨v5,rfl,HO5,hg5⟩
 have hB5:Below w.heap.size w w5:=aB (baa hB4 _) hg5 (fun q e=>(World.ownsRow.lt HO4 q e).1)
 have hs5:=hB5.size
 clear hg5 HO4 hB4 hs4
 go_wp2_with fail
 go_loopw [6,7] (fun v i wr=>∃ (j:Nat) (L:List (Int×Int)),j<=8/\i= .int .i64 (j:Int)/\Hid (L=((((((([]:List Fe.Key)++Fe.dk 1 1 [1,2])++Fe.dk 3 1 [10])++Fe.dk 5 1 [17,18,19,20])++Fe.dk 6 1 [21])++Fe.dk 7 1 [22])++(List.range j).map (fun i:Nat=>((9,3,false,25,(i:Int)):Fe.Key))).map (Fe.evk (D10.aC y)))/\L.length<=20+j/\Ev.Own wr w.heap.size v L/\Below w.heap.size w wr) (fun _ i _=>8-(intOf i).toNat)
 case atStart=>exact⟨0,_,by omega,rfl,Lib.hid (by rw [List.range_zero,List.map_nil,List.append_nil]),by rw [List.length_map];decide,HO5,hB5⟩
 case round=>
  clear HO5 hB5 hs5
  obtain⟨j,L,hj,rfl,HL,hl1,HO1,hB1⟩:=hrel
  obtain⟨w1,rfl⟩:∃x,x=wr:=⟨_,rfl⟩
  have hs1:=hB1.size
  by_cases hlt:j<8
  ·have HE:Hid (((((((([]:List Fe.Key)++Fe.dk 1 1 [1,2])++Fe.dk 3 1 [10])++Fe.dk 5 1 [17,18,19,20])++Fe.dk 6 1 [21])++Fe.dk 7 1 [22])++(List.range (j+1)).map (fun i:Nat=>((9,3,false,25,(i:Int)):Fe.Key))).map (Fe.evk (D10.aC y))=L++ [(9,D3+(j:Int))]):=Lib.hid (by
    rw [HL.out,List.range_succ]
    simp only [List.map_append,List.map_cons,List.map_nil,List.append_assoc,Fe.evk,E3.out])
   have j0:(0:Int)<=(j:Int):=by omega
   have j1:(j:Int)<8:=by omega
   go_wp2_with fail
   refine(H3.out _).mono ?_
   rintro e w2 ⟨rfl,hb2⟩
   have HO2:=HO1.below hb2
   have hs2:=hb2.size
   go_wp2_with (at_builtin;refine wpList_append_own_at _ rfl (.tmp 38) (.tmp 44) 38 rfl w.heap.size 72 i0 (.agg #[.int .i64 0,.int .i64 0]) 2 16 (aI Tryz.underlying38) ih iz0 iz1 iz2 rfl (by decide) _ L.length (Ev.flat L) rfl (World.ownsRow.alloc HO2 _) ⟨w2.heap.size,0,none⟩ 1 1 [.int .i64 _,.int .i64 _] rfl rfl (bK _ _ _) (dD _ _) (by simp only [maxLen];omega) (by omega) (by first|assumption|(simp;omega)|omega) ?_;intro v3 w3 hown3 hgrow3 _ hblk3)
   go_roundw
   case rel=>exact⟨j+1,_,by omega,by go_num,Lib.hid HE.out.symm,by simp;omega,Ev.aM rfl hown3,aB (baa (bt hB1 hb2) _) hgrow3 (fun q e=>(World.ownsRow.lt HO2 q e).1)⟩
   case measure=>simp [intOf];omega
  ·obtain rfl:j=8:=by omega
   have HO5:Ev.Own w1 w.heap.size _ (((((((([]:List Fe.Key)++Fe.dk 1 1 [1,2])++Fe.dk 3 1 [10])++Fe.dk 5 1 [17,18,19,20])++Fe.dk 6 1 [21])++Fe.dk 7 1 [22])++(List.range 8).map (fun i:Nat=>((9,3,false,25,(i:Int)):Fe.Key))).map (Fe.evk (D10.aC y))):=HL.out▸HO1
   have hB5:=hB1
   have hs5:=hs1
   obtain⟨v5,hv5⟩:∃x,x=u6:=⟨_,rfl⟩
   obtain⟨w5,hw5⟩:∃x,x=w1:=⟨_,rfl⟩
   clear HL hl1 HO1 hB1 hs1 hlt hj
   subst hv5
   subst hw5
   go_wp2_with fail
   refine(ay y 11 5 [15] 1 w5.heap.size w.heap.size _ v5 _ hy rfl (by decide) (by first|(simp;done)|(simp;omega)) (Ev.Own.below HO5 (ba _ _)) (Lib.hid (ints_at w5 [15] _)) (by simp) (fun e=>by have:=(World.ownsRow.lt HO5 _ e).2;omega)).mono ?_
   rintro e w6 ⟨v6,rfl,HO6,hg6⟩
   have hB6:Below w.heap.size w w6:=aB (baa hB5 _) hg6 (fun q e=>(World.ownsRow.lt HO5 q e).1)
   have hs6:=hB6.size
   clear hg6 HO5 hB5 hs5
   go_wp2_with fail
   refine(HI.out _).mono ?_
   rintro e w' ⟨rfl,rfl⟩
   go_wp2_with fail
   refine(ay y 14 6 [14] 1 w6.heap.size w.heap.size _ v6 _ hy rfl (by decide) (by first|(simp;done)|(simp;omega)) (Ev.Own.below HO6 (ba _ _)) (Lib.hid (ints_at w6 [14] _)) (by simp) (fun e=>by have:=(World.ownsRow.lt HO6 _ e).2;omega)).mono ?_
   rintro e w7 ⟨v7,rfl,HO7,hg7⟩
   have hB7:Below w.heap.size w w7:=aB (baa hB6 _) hg7 (fun q e=>(World.ownsRow.lt HO6 q e).1)
   have hs7:=hB7.size
   clear hg7 HO6 hB6 hs6
   go_wp2_with fail
   refine(ay y 15 6 [15] 1 w7.heap.size w.heap.size _ v7 _ hy rfl (by decide) (by first|(simp;done)|(simp;omega)) (Ev.Own.below HO7 (ba _ _)) (Lib.hid (ints_at w7 [15] _)) (by simp) (fun e=>by have:=(World.ownsRow.lt HO7 _ e).2;omega)).mono ?_
   rintro e w8 ⟨v8,rfl,HO8,hg8⟩
   have hB8:Below w.heap.size w w8:=aB (baa hB7 _) hg8 (fun q e=>(World.ownsRow.lt HO7 q e).1)
   have hs8:=hB8.size
   clear hg8 HO7 hB7 hs7
   go_wp2_with fail
   refine(ay y 18 7 [17,18,19,20] 4 w8.heap.size w.heap.size _ v8 _ hy rfl (by decide) (by first|(simp;done)|(simp;omega)) (Ev.Own.below HO8 (ba _ _)) (Lib.hid (ints_at w8 [17,18,19,20] _)) (by simp) (fun e=>by have:=(World.ownsRow.lt HO8 _ e).2;omega)).mono ?_
   rintro e w9 ⟨v9,rfl,HO9,hg9⟩
   have hB9:Below w.heap.size w w9:=aB (baa hB8 _) hg9 (fun q e=>(World.ownsRow.lt HO8 q e).1)
   have hs9:=hB9.size
   clear hg9 HO8 hB8 hs8
   go_wp2_with fail
   refine(ay y 22 8 [14] 1 w9.heap.size w.heap.size _ v9 _ hy rfl (by decide) (by first|(simp;done)|(simp;omega)) (Ev.Own.below HO9 (ba _ _)) (Lib.hid (ints_at w9 [14] _)) (by simp) (fun e=>by have:=(World.ownsRow.lt HO9 _ e).2;omega)).mono ?_
   rintro e w10 ⟨v10,rfl,HO10,hg10⟩
   have hB10:Below w.heap.size w w10:=aB (baa hB9 _) hg10 (fun q e=>(World.ownsRow.lt HO9 q e).1)
   have hs10:=hB10.size
   clear hg10 HO9 hB9 hs9
   go_wp2_with fail
   refine(ay y 23 8 [18] 1 w10.heap.size w.heap.size _ v10 _ hy rfl (by decide) (by first|(simp;done)|(simp;omega)) (Ev.Own.below HO10 (ba _ _)) (Lib.hid (ints_at w10 [18] _)) (by simp) (fun e=>by have:=(World.ownsRow.lt HO10 _ e).2;omega)).mono ?_
   rintro e w11 ⟨v11,rfl,HO11,hg11⟩
   have hB11:Below w.heap.size w w11:=aB (baa hB10 _) hg11 (fun q e=>(World.ownsRow.lt HO10 q e).1)
   have hs11:=hB11.size
   clear hg11 HO10 hB10 hs10
   go_wp2_with fail
   refine(ay y 28 11 [15] 1 w11.heap.size w.heap.size _ v11 _ hy rfl (by decide) (by first|(simp;done)|(simp;omega)) (Ev.Own.below HO11 (ba _ _)) (Lib.hid (ints_at w11 [15] _)) (by simp) (fun e=>by have:=(World.ownsRow.lt HO11 _ e).2;omega)).mono ?_
   rintro e w12 ⟨v12,rfl,HO12,hg12⟩
   have hB12:Below w.heap.size w w12:=aB (baa hB11 _) hg12 (fun q e=>(World.ownsRow.lt HO11 q e).1)
   have hs12:=hB12.size
   clear hg12 HO11 hB11 hs11
   go_wp2_with fail
   refine(ay y 4 1 [15] 1 w12.heap.size w.heap.size _ v12 _ hy rfl (by decide) (by first|(simp;done)|(simp;omega)) (Ev.Own.below HO12 (ba _ _)) (Lib.hid (ints_at w12 [15] _)) (by simp) (fun e=>by have:=(World.ownsRow.lt HO12 _ e).2;omega)).mono ?_
   rintro e w13 ⟨v13,rfl,HO13,hg13⟩
   have hB13:Below w.heap.size w w13:=aB (baa hB12 _) hg13 (fun q e=>(World.ownsRow.lt HO12 q e).1)
   have hs13:=hB13.size
   clear hg13 HO12 hB12 hs12
   go_wp2_with fail
   refine(ay y 5 1 [16] 1 w13.heap.size w.heap.size _ v13 _ hy rfl (by decide) (by first|(simp;done)|(simp;omega)) (Ev.Own.below HO13 (ba _ _)) (Lib.hid (ints_at w13 [16] _)) (by simp) (fun e=>by have:=(World.ownsRow.lt HO13 _ e).2;omega)).mono ?_
   rintro e w14 ⟨v14,rfl,HO14,hg14⟩
   have hB14:Below w.heap.size w w14:=aB (baa hB13 _) hg14 (fun q e=>(World.ownsRow.lt HO13 q e).1)
   have hs14:=hB14.size
   clear hg14 HO13 hB13 hs13
   go_wp2_with fail
   refine(ay y 8 1 [22] 1 w14.heap.size w.heap.size _ v14 _ hy rfl (by decide) (by first|(simp;done)|(simp;omega)) (Ev.Own.below HO14 (ba _ _)) (Lib.hid (ints_at w14 [22] _)) (by simp) (fun e=>by have:=(World.ownsRow.lt HO14 _ e).2;omega)).mono ?_
   rintro e w15 ⟨v15,rfl,HO15,hg15⟩
   have hB15:Below w.heap.size w w15:=aB (baa hB14 _) hg15 (fun q e=>(World.ownsRow.lt HO14 q e).1)
   have hs15:=hB15.size
   clear hg15 HO14 hB14 hs14
   go_wp2_with fail
   refine(ay y 17 7 [15,21] 2 w15.heap.size w.heap.size _ v15 _ hy rfl (by decide) (by first|(simp;done)|(simp;omega)) (Ev.Own.below HO15 (ba _ _)) (Lib.hid (ints_at w15 [15,21] _)) (by simp) (fun e=>by have:=(World.ownsRow.lt HO15 _ e).2;omega)).mono ?_
   rintro e w16 ⟨v16,rfl,HO16,hg16⟩
   have hB16:Below w.heap.size w w16:=aB (baa hB15 _) hg16 (fun q e=>(World.ownsRow.lt HO15 q e).1)
   have hs16:=hB16.size
   clear hg16 HO15 hB15 hs15
   go_wp2_with fail
   refine(ay y 18 7 [16] 1 w16.heap.size w.heap.size _ v16 _ hy rfl (by decide) (by first|(simp;done)|(simp;omega)) (Ev.Own.below HO16 (ba _ _)) (Lib.hid (ints_at w16 [16] _)) (by simp) (fun e=>by have:=(World.ownsRow.lt HO16 _ e).2;omega)).mono ?_
   rintro e w17 ⟨v17,rfl,HO17,hg17⟩
   have hB17:Below w.heap.size w w17:=aB (baa hB16 _) hg17 (fun q e=>(World.ownsRow.lt HO16 q e).1)
   have hs17:=hB17.size
   clear hg17 HO16 hB16 hs16
   go_wp2_with fail
   refine(ay y 25 9 [6] 1 w17.heap.size w.heap.size _ v17 _ hy rfl (by decide) (by first|(simp;done)|(simp;omega)) (Ev.Own.below HO17 (ba _ _)) (Lib.hid (ints_at w17 [6] _)) (by simp) (fun e=>by have:=(World.ownsRow.lt HO17 _ e).2;omega)).mono ?_
   rintro e w18 ⟨v18,rfl,HO18,hg18⟩
   have hB18:Below w.heap.size w w18:=aB (baa hB17 _) hg18 (fun q e=>(World.ownsRow.lt HO17 q e).1)
   have hs18:=hB18.size
   clear hg18 HO17 hB17 hs17
   go_wp2_with fail
   refine(jf _ _ _ HO18.row (by rw [List.length_map];decide)).mono ?_
   rintro e w99 ⟨v99,rfl,ho9,hb9⟩
   go_wp2_with fail
   go_ret2
   exact⟨_,rfl,ho9.base hs18,bt hB18 hb9⟩
theorem Rb(y:Int)(w:World)(hy1:1<=y)(hy2:y<=9999)(HI:Hid (∀w:World,Calls Tryo.prog 117 #[.int .i64 y] w fun e w'=>e= .returned (.bool true)/\w=w'))
  (HD3:Hid (-2000000<=D10.aC y 3 false 25/\D10.aC y 3 false 25<=3000000)) (HD5:Hid (-2000000<=D10.aC y 5 false 30/\D10.aC y 5 false 30<=3000000)):
  Calls Tryo.prog 44 #[.int .i64 y,.int .i64 1] w fun e w'=>∃v,e= .returned (.tuple #[v,.int .i64 0])/\Ev.Own w' w.heap.size v (Ev.sort (((((((((((((((((((((([]:List Fe.Key)++Fe.dk 1 1 [1,2])++Fe.dk 3 1 [10])++Fe.dk 5 1 [17,18,19,20])++Fe.dk 6 1 [21])++Fe.dk 7 1 [22])++(List.range 8).map (fun i:Nat=>((9,3,false,25,(i:Int)):Fe.Key)))++Fe.dk 11 5 [15])++ [((12,5,false,30,14):Fe.Key)])++Fe.dk 14 6 [14])++Fe.dk 15 6 [15])++Fe.dk 18 7 [17,18,19,20])++Fe.dk 22 8 [14])++Fe.dk 23 8 [18])++Fe.dk 28 11 [15])++Fe.dk 4 1 [15])++Fe.dk 5 1 [16])++Fe.dk 8 1 [22])++Fe.dk 17 7 [15,21])++Fe.dk 18 7 [16])++Fe.dk 25 9 [6]).map (Fe.evk (D10.aC y))))/\Below w.heap.size w w':=by
 have hy:I64 y:=⟨by omega,by omega⟩
 have HRi:=Lib.hid (fun w=>dQ y w hy)
 rw [show Cal.bG y=true by simp [Cal.bG];omega]at HRi
 have H3:=Lib.hid (fun w=>bJ y 3 25 w hy)
 have H5:=Lib.hid (fun w=>bJ y 5 30 w hy)
 obtain⟨D3,e3⟩:∃D,D10.aC y 3 false 25=D:=⟨_,rfl⟩
 obtain⟨D5,e5⟩:∃D,D10.aC y 5 false 30=D:=⟨_,rfl⟩
 rw [e3]at H3 HD3
 rw [e5]at H5 HD5
 have E3:=Lib.hid e3
 have E5:=Lib.hid e5
 have hd3:=HD3.out
 have hd5:=HD5.out
 clear e3 e5 HD3 HD5
 obtain⟨i0,ih,iz0,iz1,iz2⟩:=info_parts bD
 have HO0:Ev.Own w w.heap.size (.slice none 0 0) (([]:List Fe.Key).map (Fe.evk (D10.aC y))):=Ev.Own.nil _ _
 have hB0:Below w.heap.size w w:=Below.refl _ _
 have hs0:=hB0.size
 go_enter Tryo.func44,Tryz.ntmps44
 go_wp2_with fail
 refine(jY _).mono ?_
 rintro e w' ⟨rfl,rfl⟩
 go_wp2_with fail
 refine(HRi.out _).mono ?_
 rintro e w' ⟨rfl,rfl⟩
 go_wp2_with fail
 refine(ay y 1 1 [1,2] 2 w.heap.size w.heap.size _ (.slice none 0 0) _ hy rfl (by decide) (by first|(simp;done)|(simp;omega)) (Ev.Own.below HO0 (ba _ _)) (Lib.hid (ints_at w [1,2] _)) (by simp) (fun e=>by have:=(World.ownsRow.lt HO0 _ e).2;omega)).mono ?_
 rintro e w1 ⟨v1,rfl,HO1,hg1⟩
 have hB1:Below w.heap.size w w1:=aB (baa hB0 _) hg1 (fun q e=>(World.ownsRow.lt HO0 q e).1)
 have hs1:=hB1.size
 clear hg1 HO0 hB0 hs0
 go_wp2_with fail
 refine(ay y 3 1 [10] 1 w1.heap.size w.heap.size _ v1 _ hy rfl (by decide) (by first|(simp;done)|(simp;omega)) (Ev.Own.below HO1 (ba _ _)) (Lib.hid (ints_at w1 [10] _)) (by simp) (fun e=>by have:=(World.ownsRow.lt HO1 _ e).2;omega)).mono ?_
 rintro e w2 ⟨v2,rfl,HO2,hg2⟩
 have hB2:Below w.heap.size w w2:=aB (baa hB1 _) hg2 (fun q e=>(World.ownsRow.lt HO1 q e).1)
 have hs2:=hB2.size
 clear hg2 HO1 hB1 hs1
 go_wp2_with fail
 refine(ay y 5 1 [17,18,19,20] 4 w2.heap.size w.heap.size _ v2 _ hy rfl (by decide) (by first|(simp;done)|(simp;omega)) (Ev.Own.below HO2 (ba _ _)) (Lib.hid (ints_at w2 [17,18,19,20] _)) (by simp) (fun e=>by have:=(World.ownsRow.lt HO2 _ e).2;omega)).mono ?_
 rintro e w3 ⟨v3,rfl,HO3,hg3⟩
 have hB3:Below w.heap.size w w3:=aB (baa hB2 _) hg3 (fun q e=>(World.ownsRow.lt HO2 q e).1)
 have hs3:=hB3.size
 clear hg3 HO2 hB2 hs2
 go_wp2_with fail
 refine(ay y 6 1 [21] 1 w3.heap.size w.heap.size _ v3 _ hy rfl (by decide) (by first|(simp;done)|(simp;omega)) (Ev.Own.below HO3 (ba _ _)) (Lib.hid (ints_at w3 [21] _)) (by simp) (fun e=>by have:=(World.ownsRow.lt HO3 _ e).2;omega)).mono ?_
 rintro e w4 ⟨v4,rfl,HO4,hg4⟩
 have hB4:Below w.heap.size w w4:=aB (baa hB3 _) hg4 (fun q e=>(World.ownsRow.lt HO3 q e).1)
 have hs4:=hB4.size
 clear hg4 HO3 hB3 hs3
 go_wp2_with fail
 refine(ay y 7 1 [22] 1 w4.heap.size w.heap.size _ v4 _ hy rfl (by decide) (by first|(simp;done)|(simp;omega)) (Ev.Own.below HO4 (ba _ _)) (Lib.hid (ints_at w4 [22] _)) (by simp) (fun e=>by have:=(World.ownsRow.lt HO4 _ e).2;omega)).mono ?_
 rintro e w5 ⟨v5,rfl,HO5,hg5⟩
 have hB5:Below w.heap.size w w5:=aB (baa hB4 _) hg5 (fun q e=>(World.ownsRow.lt HO4 q e).1)
 have hs5:=hB5.size
 clear hg5 HO4 hB4 hs4
 go_wp2_with fail
 go_loopw [6,7] (fun v i wr=>∃ (j:Nat) (L:List (Int×Int)),j<=8/\i= .int .i64 (j:Int)/\Hid (L=((((((([]:List Fe.Key)++Fe.dk 1 1 [1,2])++Fe.dk 3 1 [10])++Fe.dk 5 1 [17,18,19,20])++Fe.dk 6 1 [21])++Fe.dk 7 1 [22])++(List.range j).map (fun i:Nat=>((9,3,false,25,(i:Int)):Fe.Key))).map (Fe.evk (D10.aC y)))/\L.length<=20+j/\Ev.Own wr w.heap.size v L/\Below w.heap.size w wr) (fun _ i _=>8-(intOf i).toNat)
 case atStart=>exact⟨0,_,by omega,rfl,Lib.hid (by rw [List.range_zero,List.map_nil,List.append_nil]),by rw [List.length_map];decide,HO5,hB5⟩
 case round=>
  clear HO5 hB5 hs5
  obtain⟨j,L,hj,rfl,HL,hl1,HO1,hB1⟩:=hrel
  obtain⟨w1,rfl⟩:∃x,x=wr:=⟨_,rfl⟩
  have hs1:=hB1.size
  by_cases hlt:j<8
  ·have HE:Hid (((((((([]:List Fe.Key)++Fe.dk 1 1 [1,2])++Fe.dk 3 1 [10])++Fe.dk 5 1 [17,18,19,20])++Fe.dk 6 1 [21])++Fe.dk 7 1 [22])++(List.range (j+1)).map (fun i:Nat=>((9,3,false,25,(i:Int)):Fe.Key))).map (Fe.evk (D10.aC y))=L++ [(9,D3+(j:Int))]):=Lib.hid (by
    rw [HL.out,List.range_succ]
    simp only [List.map_append,List.map_cons,List.map_nil,List.append_assoc,Fe.evk,E3.out])
   have j0:(0:Int)<=(j:Int):=by omega
   have j1:(j:Int)<8:=by omega
   go_wp2_with fail
   refine(H3.out _).mono ?_
   rintro e w2 ⟨rfl,hb2⟩
   have HO2:=HO1.below hb2
   have hs2:=hb2.size
   go_wp2_with (at_builtin;refine wpList_append_own_at _ rfl (.tmp 38) (.tmp 44) 38 rfl w.heap.size 72 i0 (.agg #[.int .i64 0,.int .i64 0]) 2 16 (aI Tryz.underlying38) ih iz0 iz1 iz2 rfl (by decide) _ L.length (Ev.flat L) rfl (World.ownsRow.alloc HO2 _) ⟨w2.heap.size,0,none⟩ 1 1 [.int .i64 _,.int .i64 _] rfl rfl (bK _ _ _) (dD _ _) (by simp only [maxLen];omega) (by omega) (by first|assumption|(simp;omega)|omega) ?_;intro v3 w3 hown3 hgrow3 _ hblk3)
   go_roundw
   case rel=>exact⟨j+1,_,by omega,by go_num,Lib.hid HE.out.symm,by simp;omega,Ev.aM rfl hown3,aB (baa (bt hB1 hb2) _) hgrow3 (fun q e=>(World.ownsRow.lt HO2 q e).1)⟩
   case measure=>simp [intOf];omega
  ·obtain rfl:j=8:=by omega
   have HO5:Ev.Own w1 w.heap.size _ (((((((([]:List Fe.Key)++Fe.dk 1 1 [1,2])++Fe.dk 3 1 [10])++Fe.dk 5 1 [17,18,19,20])++Fe.dk 6 1 [21])++Fe.dk 7 1 [22])++(List.range 8).map (fun i:Nat=>((9,3,false,25,(i:Int)):Fe.Key))).map (Fe.evk (D10.aC y))):=HL.out▸HO1
   have hB5:=hB1
   have hs5:=hs1
   obtain⟨v5,hv5⟩:∃x,x=u6:=⟨_,rfl⟩
   obtain⟨w5,hw5⟩:∃x,x=w1:=⟨_,rfl⟩
   clear HL hl1 HO1 hB1 hs1 hlt hj
   subst hv5
   subst hw5
   go_wp2_with fail
   refine(ay y 11 5 [15] 1 w5.heap.size w.heap.size _ v5 _ hy rfl (by decide) (by first|(simp;done)|(simp;omega)) (Ev.Own.below HO5 (ba _ _)) (Lib.hid (ints_at w5 [15] _)) (by simp) (fun e=>by have:=(World.ownsRow.lt HO5 _ e).2;omega)).mono ?_
   rintro e w6 ⟨v6,rfl,HO6,hg6⟩
   have hB6:Below w.heap.size w w6:=aB (baa hB5 _) hg6 (fun q e=>(World.ownsRow.lt HO5 q e).1)
   have hs6:=hB6.size
   clear hg6 HO5 hB5 hs5
   go_wp2_with fail
   refine(HI.out _).mono ?_
   rintro e w' ⟨rfl,rfl⟩
   go_wp2_with fail
   refine(H5.out _).mono ?_
   rintro e wq ⟨rfl,hbq⟩
   have HOq:=HO6.below hbq
   have hsq:=hbq.size
   go_wp2_with (at_builtin;refine wpList_append_own_at _ rfl (.tmp 52) (.tmp 57) 38 rfl w.heap.size 72 i0 (.agg #[.int .i64 0,.int .i64 0]) 2 16 (aI Tryz.underlying38) ih iz0 iz1 iz2 rfl (by decide) _ (((((((((([]:List Fe.Key)++Fe.dk 1 1 [1,2])++Fe.dk 3 1 [10])++Fe.dk 5 1 [17,18,19,20])++Fe.dk 6 1 [21])++Fe.dk 7 1 [22])++(List.range 8).map (fun i:Nat=>((9,3,false,25,(i:Int)):Fe.Key)))++Fe.dk 11 5 [15])).map (Fe.evk (D10.aC y))).length (Ev.flat (((((((((([]:List Fe.Key)++Fe.dk 1 1 [1,2])++Fe.dk 3 1 [10])++Fe.dk 5 1 [17,18,19,20])++Fe.dk 6 1 [21])++Fe.dk 7 1 [22])++(List.range 8).map (fun i:Nat=>((9,3,false,25,(i:Int)):Fe.Key)))++Fe.dk 11 5 [15])).map (Fe.evk (D10.aC y)))) rfl (World.ownsRow.alloc HOq _) ⟨wq.heap.size,0,none⟩ 1 1 [.int .i64 _,.int .i64 _] rfl rfl (bK _ _ _) (dD _ _) (by rw [List.length_map];decide) (by rw [List.length_map];decide) (by first|assumption|(simp;omega)|omega) ?_;intro v7 w7 hown7 hgrow7 _ hblk7)
   have HO7:Ev.Own w7 w.heap.size v7 ((((((((((([]:List Fe.Key)++Fe.dk 1 1 [1,2])++Fe.dk 3 1 [10])++Fe.dk 5 1 [17,18,19,20])++Fe.dk 6 1 [21])++Fe.dk 7 1 [22])++(List.range 8).map (fun i:Nat=>((9,3,false,25,(i:Int)):Fe.Key)))++Fe.dk 11 5 [15])++ [((12,5,false,30,14):Fe.Key)])).map (Fe.evk (D10.aC y))):=by
    have:=Ev.aM rfl hown7
    rw [List.map_append]
    have e1: [((12,5,false,30,14):Fe.Key)].map (Fe.evk (D10.aC y))= [(12,D5+14)]:=by simp only [List.map_cons,List.map_nil,Fe.evk,E5.out]
    rw [e1]
    exact this
   have hB7:Below w.heap.size w w7:=aB (baa (bt hB6 hbq) _) hgrow7 (fun q e=>(World.ownsRow.lt HOq q e).1)
   have hs7:=hB7.size
   clear HOq HO6 hB6 hs6 hown7 hgrow7 hblk7 hbq hsq
   refine(ay y 14 6 [14] 1 w7.heap.size w.heap.size _ v7 _ hy rfl (by decide) (by first|(simp;done)|(simp;omega)) (Ev.Own.below HO7 (ba _ _)) (Lib.hid (ints_at w7 [14] _)) (by simp) (fun e=>by have:=(World.ownsRow.lt HO7 _ e).2;omega)).mono ?_
   rintro e w8 ⟨v8,rfl,HO8,hg8⟩
   have hB8:Below w.heap.size w w8:=aB (baa hB7 _) hg8 (fun q e=>(World.ownsRow.lt HO7 q e).1)
   have hs8:=hB8.size
   clear hg8 HO7 hB7 hs7
   go_wp2_with fail
   refine(ay y 15 6 [15] 1 w8.heap.size w.heap.size _ v8 _ hy rfl (by decide) (by first|(simp;done)|(simp;omega)) (Ev.Own.below HO8 (ba _ _)) (Lib.hid (ints_at w8 [15] _)) (by simp) (fun e=>by have:=(World.ownsRow.lt HO8 _ e).2;omega)).mono ?_
   rintro e w9 ⟨v9,rfl,HO9,hg9⟩
   have hB9:Below w.heap.size w w9:=aB (baa hB8 _) hg9 (fun q e=>(World.ownsRow.lt HO8 q e).1)
   have hs9:=hB9.size
   clear hg9 HO8 hB8 hs8
   go_wp2_with fail
   refine(ay y 18 7 [17,18,19,20] 4 w9.heap.size w.heap.size _ v9 _ hy rfl (by decide) (by first|(simp;done)|(simp;omega)) (Ev.Own.below HO9 (ba _ _)) (Lib.hid (ints_at w9 [17,18,19,20] _)) (by simp) (fun e=>by have:=(World.ownsRow.lt HO9 _ e).2;omega)).mono ?_
   rintro e w10 ⟨v10,rfl,HO10,hg10⟩
   have hB10:Below w.heap.size w w10:=aB (baa hB9 _) hg10 (fun q e=>(World.ownsRow.lt HO9 q e).1)
   have hs10:=hB10.size
   clear hg10 HO9 hB9 hs9
   go_wp2_with fail
   refine(ay y 22 8 [14] 1 w10.heap.size w.heap.size _ v10 _ hy rfl (by decide) (by first|(simp;done)|(simp;omega)) (Ev.Own.below HO10 (ba _ _)) (Lib.hid (ints_at w10 [14] _)) (by simp) (fun e=>by have:=(World.ownsRow.lt HO10 _ e).2;omega)).mono ?_
   rintro e w11 ⟨v11,rfl,HO11,hg11⟩
   have hB11:Below w.heap.size w w11:=aB (baa hB10 _) hg11 (fun q e=>(World.ownsRow.lt HO10 q e).1)
   have hs11:=hB11.size
   clear hg11 HO10 hB10 hs10
   go_wp2_with fail
   refine(ay y 23 8 [18] 1 w11.heap.size w.heap.size _ v11 _ hy rfl (by decide) (by first|(simp;done)|(simp;omega)) (Ev.Own.below HO11 (ba _ _)) (Lib.hid (ints_at w11 [18] _)) (by simp) (fun e=>by have:=(World.ownsRow.lt HO11 _ e).2;omega)).mono ?_
   rintro e w12 ⟨v12,rfl,HO12,hg12⟩
   have hB12:Below w.heap.size w w12:=aB (baa hB11 _) hg12 (fun q e=>(World.ownsRow.lt HO11 q e).1)
   have hs12:=hB12.size
   clear hg12 HO11 hB11 hs11
   go_wp2_with fail
   refine(ay y 28 11 [15] 1 w12.heap.size w.heap.size _ v12 _ hy rfl (by decide) (by first|(simp;done)|(simp;omega)) (Ev.Own.below HO12 (ba _ _)) (Lib.hid (ints_at w12 [15] _)) (by simp) (fun e=>by have:=(World.ownsRow.lt HO12 _ e).2;omega)).mono ?_
   rintro e w13 ⟨v13,rfl,HO13,hg13⟩
   have hB13:Below w.heap.size w w13:=aB (baa hB12 _) hg13 (fun q e=>(World.ownsRow.lt HO12 q e).1)
   have hs13:=hB13.size
   clear hg13 HO12 hB12 hs12
   go_wp2_with fail
   refine(ay y 4 1 [15] 1 w13.heap.size w.heap.size _ v13 _ hy rfl (by decide) (by first|(simp;done)|(simp;omega)) (Ev.Own.below HO13 (ba _ _)) (Lib.hid (ints_at w13 [15] _)) (by simp) (fun e=>by have:=(World.ownsRow.lt HO13 _ e).2;omega)).mono ?_
   rintro e w14 ⟨v14,rfl,HO14,hg14⟩
   have hB14:Below w.heap.size w w14:=aB (baa hB13 _) hg14 (fun q e=>(World.ownsRow.lt HO13 q e).1)
   have hs14:=hB14.size
   clear hg14 HO13 hB13 hs13
   go_wp2_with fail
   refine(ay y 5 1 [16] 1 w14.heap.size w.heap.size _ v14 _ hy rfl (by decide) (by first|(simp;done)|(simp;omega)) (Ev.Own.below HO14 (ba _ _)) (Lib.hid (ints_at w14 [16] _)) (by simp) (fun e=>by have:=(World.ownsRow.lt HO14 _ e).2;omega)).mono ?_
   rintro e w15 ⟨v15,rfl,HO15,hg15⟩
   have hB15:Below w.heap.size w w15:=aB (baa hB14 _) hg15 (fun q e=>(World.ownsRow.lt HO14 q e).1)
   have hs15:=hB15.size
   clear hg15 HO14 hB14 hs14
   go_wp2_with fail
   refine(ay y 8 1 [22] 1 w15.heap.size w.heap.size _ v15 _ hy rfl (by decide) (by first|(simp;done)|(simp;omega)) (Ev.Own.below HO15 (ba _ _)) (Lib.hid (ints_at w15 [22] _)) (by simp) (fun e=>by have:=(World.ownsRow.lt HO15 _ e).2;omega)).mono ?_
   rintro e w16 ⟨v16,rfl,HO16,hg16⟩
   have hB16:Below w.heap.size w w16:=aB (baa hB15 _) hg16 (fun q e=>(World.ownsRow.lt HO15 q e).1)
   have hs16:=hB16.size
   clear hg16 HO15 hB15 hs15
   go_wp2_with fail
   refine(ay y 17 7 [15,21] 2 w16.heap.size w.heap.size _ v16 _ hy rfl (by decide) (by first|(simp;done)|(simp;omega)) (Ev.Own.below HO16 (ba _ _)) (Lib.hid (ints_at w16 [15,21] _)) (by simp) (fun e=>by have:=(World.ownsRow.lt HO16 _ e).2;omega)).mono ?_
   rintro e w17 ⟨v17,rfl,HO17,hg17⟩
   have hB17:Below w.heap.size w w17:=aB (baa hB16 _) hg17 (fun q e=>(World.ownsRow.lt HO16 q e).1)
   have hs17:=hB17.size
   clear hg17 HO16 hB16 hs16
   go_wp2_with fail
   refine(ay y 18 7 [16] 1 w17.heap.size w.heap.size _ v17 _ hy rfl (by decide) (by first|(simp;done)|(simp;omega)) (Ev.Own.below HO17 (ba _ _)) (Lib.hid (ints_at w17 [16] _)) (by simp) (fun e=>by have:=(World.ownsRow.lt HO17 _ e).2;omega)).mono ?_
   rintro e w18 ⟨v18,rfl,HO18,hg18⟩
   have hB18:Below w.heap.size w w18:=aB (baa hB17 _) hg18 (fun q e=>(World.ownsRow.lt HO17 q e).1)
   have hs18:=hB18.size
   clear hg18 HO17 hB17 hs17
   go_wp2_with fail
   refine(ay y 25 9 [6] 1 w18.heap.size w.heap.size _ v18 _ hy rfl (by decide) (by first|(simp;done)|(simp;omega)) (Ev.Own.below HO18 (ba _ _)) (Lib.hid (ints_at w18 [6] _)) (by simp) (fun e=>by have:=(World.ownsRow.lt HO18 _ e).2;omega)).mono ?_
   rintro e w19 ⟨v19,rfl,HO19,hg19⟩
   have hB19:Below w.heap.size w w19:=aB (baa hB18 _) hg19 (fun q e=>(World.ownsRow.lt HO18 q e).1)
   have hs19:=hB19.size
   clear hg19 HO18 hB18 hs18
   go_wp2_with fail
   refine(jf _ _ _ HO19.row (by rw [List.length_map];decide)).mono ?_
   rintro e w99 ⟨v99,rfl,ho9,hb9⟩
   go_wp2_with fail
   go_ret2
   exact⟨_,rfl,ho9.base hs19,bt hB19 hb9⟩
end
section
open Go.ChangeShapes Go.WideShapes Go.ChangeAt Go.RowKit Go.Lib Go.Sort Go.Shelf
namespace Fe
def OO(lp p:Bool):List Key:=match lp,p with
 |false,false=>(((((((((((((((((([]:List Fe.Key)++Fe.dk 1 1 [1,2])++Fe.dk 3 1 [10])++Fe.dk 5 1 [17,18,19,20])++Fe.dk 6 1 [21])++Fe.dk 7 1 [22])++(List.range 8).map (fun i:Nat=>((9,3,false,25,(i:Int)):Fe.Key)))++Fe.dk 11 5 [15])++Fe.dk 14 6 [14])++Fe.dk 15 6 [15])++Fe.dk 18 7 [17,18,19,20])++Fe.dk 22 8 [14])++Fe.dk 23 8 [18])++Fe.dk 28 11 [15])++Fe.dk 4 1 [15,16])++Fe.dk 8 1 [23])++Fe.dk 17 7 [15,16,21,22])++Fe.dk 25 9 [6,7])
 |true,false=>((((((((((((((((((([]:List Fe.Key)++Fe.dk 1 1 [1,2])++Fe.dk 3 1 [10])++Fe.dk 5 1 [17,18,19,20])++Fe.dk 6 1 [21])++Fe.dk 7 1 [22])++(List.range 8).map (fun i:Nat=>((9,3,false,25,(i:Int)):Fe.Key)))++Fe.dk 11 5 [15])++ [((12,5,false,30,14):Fe.Key)])++Fe.dk 14 6 [14])++Fe.dk 15 6 [15])++Fe.dk 18 7 [17,18,19,20])++Fe.dk 22 8 [14])++Fe.dk 23 8 [18])++Fe.dk 28 11 [15])++Fe.dk 4 1 [15,16])++Fe.dk 8 1 [23])++Fe.dk 17 7 [15,16,21,22])++Fe.dk 25 9 [6,7])
 |false,true=>(((((((((((((((((((([]:List Fe.Key)++Fe.dk 1 1 [1,2])++Fe.dk 3 1 [10])++Fe.dk 5 1 [17,18,19,20])++Fe.dk 6 1 [21])++Fe.dk 7 1 [22])++(List.range 8).map (fun i:Nat=>((9,3,false,25,(i:Int)):Fe.Key)))++Fe.dk 11 5 [15])++Fe.dk 14 6 [14])++Fe.dk 15 6 [15])++Fe.dk 18 7 [17,18,19,20])++Fe.dk 22 8 [14])++Fe.dk 23 8 [18])++Fe.dk 28 11 [15])++Fe.dk 4 1 [15])++Fe.dk 5 1 [16])++Fe.dk 8 1 [22])++Fe.dk 17 7 [15,21])++Fe.dk 18 7 [16])++Fe.dk 25 9 [6])
 |true,true=>((((((((((((((((((((([]:List Fe.Key)++Fe.dk 1 1 [1,2])++Fe.dk 3 1 [10])++Fe.dk 5 1 [17,18,19,20])++Fe.dk 6 1 [21])++Fe.dk 7 1 [22])++(List.range 8).map (fun i:Nat=>((9,3,false,25,(i:Int)):Fe.Key)))++Fe.dk 11 5 [15])++ [((12,5,false,30,14):Fe.Key)])++Fe.dk 14 6 [14])++Fe.dk 15 6 [15])++Fe.dk 18 7 [17,18,19,20])++Fe.dk 22 8 [14])++Fe.dk 23 8 [18])++Fe.dk 28 11 [15])++Fe.dk 4 1 [15])++Fe.dk 5 1 [16])++Fe.dk 8 1 [22])++Fe.dk 17 7 [15,21])++Fe.dk 18 7 [16])++Fe.dk 25 9 [6])
theorem ZX:((List.range 14).all fun i=> [false,true].all fun p=>Gn i (OO (dF i) p)&&(decide (Ev.sort ((OO (dF i) p).map (evk (Yr.dJ i)))=dM i p)&&(Yr.okV i 3 false 25&&(Yr.okV i 5 false 30&&(decide (0<=Yr.dJ i 3 false 25)&&(decide (Yr.dJ i 3 false 25<=400)&&(decide (0<=Yr.dJ i 5 false 30)&&decide (Yr.dJ i 5 false 30<=400))))))))=true:=by decide+kernel
end Fe
theorem ql(y:Int)(i:Nat)(p:Bool)(w:World)(h:Yr.Is y i):
  Calls Tryo.prog 44 #[.int .i64 y,.int .i64 (if p then 1 else 0)] w fun e w'=>∃v,e= .returned (.tuple #[v,.int .i64 0])/\Ev.Own w' w.heap.size v ((Fe.dM i p).map (Ev.sh (Cal.first y)))/\Below w.heap.size w w':=by
 have hy1:=h.1
 have hy2:=h.2.1
 have hb:=Yr.bF h
 have hc:=List.all_eq_true.1 (List.all_eq_true.1 Fe.ZX i (List.mem_range.2 h.2.2.1)) p (by cases p <;> simp)
 simp only [Bool.and_eq_true,decide_eq_true_eq]at hc
 obtain⟨c1,c2,c3,c4,c5,c6,c7,c8⟩:=hc
 have e3:=(Yr.dP h c3).2
 have e5:=(Yr.dP h c4).2
 have H3:Hid (-2000000<=D10.aC y 3 false 25/\D10.aC y 3 false 25<=3000000):=Lib.hid (by rw [e3];omega)
 have H5:Hid (-2000000<=D10.aC y 5 false 30/\D10.aC y 5 false 30<=3000000):=Lib.hid (by rw [e5];omega)
 have HI:=Lib.hid (fun w=>oG y w (by omega) (by omega))
 have e:Ev.sort ((Fe.OO (dF i) p).map (Fe.evk (D10.aC y)))=(Fe.dM i p).map (Ev.sh (Cal.first y)):=by
  rw [Fe.qg h c1,c2]
 rw [←e]
 rw [h.2.2.2.2.2]at HI
 generalize dF i=lp at*
 cases p <;> cases lp
 ·exact RD y w hy1 hy2 HI H3 H5
 ·exact QA y w hy1 hy2 HI H3 H5
 ·exact Rt y w hy1 hy2 HI H3 H5
 ·exact Rb y w hy1 hy2 HI H3 H5
end
section
open Go.ChangeShapes Go.WideShapes Go.ChangeAt Go.RowKit Go.Lib Go.Sort Go.Shelf
theorem M4(w:World):Calls Tryo.prog 269 #[.int .i64 1] w fun e w'=>e= .returned (.bool true)/\w=w':=by
 go_enter Tryo.func269,Tryz.ntmps269
 go_wp2_with fail
 go_ret
 exact⟨rfl,rfl⟩
theorem Ol(w:World):Calls Tryo.prog 269 #[.int .i64 3] w fun e w'=>e= .returned (.bool true)/\w=w':=by
 go_enter Tryo.func269,Tryz.ntmps269
 go_wp2_with fail
 go_ret
 exact⟨rfl,rfl⟩
theorem M6(w:World):Calls Tryo.prog 269 #[.int .i64 4] w fun e w'=>e= .returned (.bool true)/\w=w':=by
 go_enter Tryo.func269,Tryz.ntmps269
 go_wp2_with fail
 go_ret
 exact⟨rfl,rfl⟩
theorem Mh(w:World):Calls Tryo.prog 269 #[.int .i64 5] w fun e w'=>e= .returned (.bool true)/\w=w':=by
 go_enter Tryo.func269,Tryz.ntmps269
 go_wp2_with fail
 go_ret
 exact⟨rfl,rfl⟩
theorem Na(w:World):Calls Tryo.prog 269 #[.int .i64 6] w fun e w'=>e= .returned (.bool true)/\w=w':=by
 go_enter Tryo.func269,Tryz.ntmps269
 go_wp2_with fail
 go_ret
 exact⟨rfl,rfl⟩
theorem NA(w:World):Calls Tryo.prog 269 #[.int .i64 7] w fun e w'=>e= .returned (.bool true)/\w=w':=by
 go_enter Tryo.func269,Tryz.ntmps269
 go_wp2_with fail
 go_ret
 exact⟨rfl,rfl⟩
theorem Od(w:World):Calls Tryo.prog 269 #[.int .i64 8] w fun e w'=>e= .returned (.bool true)/\w=w':=by
 go_enter Tryo.func269,Tryz.ntmps269
 go_wp2_with fail
 go_ret
 exact⟨rfl,rfl⟩
theorem I9(w:World):Calls Tryo.prog 269 #[.int .i64 17] w fun e w'=>e= .returned (.bool true)/\w=w':=by
 go_enter Tryo.func269,Tryz.ntmps269
 go_wp2_with fail
 go_ret
 exact⟨rfl,rfl⟩
theorem Jc(w:World):Calls Tryo.prog 269 #[.int .i64 18] w fun e w'=>e= .returned (.bool true)/\w=w':=by
 go_enter Tryo.func269,Tryz.ntmps269
 go_wp2_with fail
 go_ret
 exact⟨rfl,rfl⟩
theorem Hr(w:World):Calls Tryo.prog 269 #[.int .i64 25] w fun e w'=>e= .returned (.bool true)/\w=w':=by
 go_enter Tryo.func269,Tryz.ntmps269
 go_wp2_with fail
 go_ret
 exact⟨rfl,rfl⟩
theorem IC(x:Int)(w:World)(h1:(x==1)=false)(h3:(x==3)=false)(h4:(x==4)=false)(h5:(x==5)=false)(h6:(x==6)=false)(h7:(x==7)=false)(h8:(x==8)=false)(h17:(x==17)=false)(h18:(x==18)=false)(h25:(x==25)=false):Calls Tryo.prog 269 #[.int .i64 x] w fun e w'=>e= .returned (.bool false)/\w=w':=by
 go_enter Tryo.func269,Tryz.ntmps269
 go_wp2_with fail
 go_ret
 exact⟨rfl,rfl⟩
theorem Sn(x:Int)(w:World):Calls Tryo.prog 269 #[.int .i64 x] w fun e w'=>e= .returned (.bool (Fe.pz x))/\w=w':=by
 by_cases e1:x=1
 ·subst e1;exact M4 w
 by_cases e3:x=3
 ·subst e3;exact Ol w
 by_cases e4:x=4
 ·subst e4;exact M6 w
 by_cases e5:x=5
 ·subst e5;exact Mh w
 by_cases e6:x=6
 ·subst e6;exact Na w
 by_cases e7:x=7
 ·subst e7;exact NA w
 by_cases e8:x=8
 ·subst e8;exact Od w
 by_cases e17:x=17
 ·subst e17;exact I9 w
 by_cases e18:x=18
 ·subst e18;exact Jc w
 by_cases e25:x=25
 ·subst e25;exact Hr w
 rw [show Fe.pz x=false by simp [Fe.pz,e1,e3,e4,e5,e6,e7,e8,e17,e18,e25]]
 exact IC x w (by simpa using e1) (by simpa using e3) (by simpa using e4) (by simpa using e5) (by simpa using e6) (by simpa using e7) (by simpa using e8) (by simpa using e17) (by simpa using e18) (by simpa using e25)
theorem Bu(y:Int)(w:World)(h:y<1):Calls Tryo.prog 38 #[.int .i64 y,.int .i64 0] w fun e w'=>e= .returned (.tuple #[.slice none 0 0,.int .i64 2])/\w=w':=by
 go_enter Tryo.func38,Tryz.ntmps38
 go_wp2_with fail
 go_ret2
 exact⟨rfl,rfl⟩
theorem AU(y:Int)(w:World)(h0:¬ y<1)(h:9999<y):Calls Tryo.prog 38 #[.int .i64 y,.int .i64 0] w fun e w'=>e= .returned (.tuple #[.slice none 0 0,.int .i64 2])/\w=w':=by
 have h1:decide (y<1)=false:=by simpa using h0
 go_enter Tryo.func38,Tryz.ntmps38
 go_wp2_with fail
 go_ret2
 exact⟨rfl,rfl⟩
theorem IE(y:Int)(w:World)(hy:I64 y)(h:y<1∨9999<y):Calls Tryo.prog 44 #[.int .i64 y,.int .i64 0] w fun e w'=>e= .returned (.tuple #[.slice none 0 0,.int .i64 2])/\w=w':=by
 have HP:=Lib.hid (fun w=>jW w)
 have HRi:=Lib.hid (fun w=>dQ y w hy)
 rw [Cal.kW y h]at HRi
 clear h
 go_enter Tryo.func44,Tryz.ntmps44
 go_wp2_with fail
 refine(HP.out _).mono ?_
 rintro e w' ⟨rfl,rfl⟩
 go_wp2_with fail
 refine(HRi.out _).mono ?_
 rintro e w' ⟨rfl,rfl⟩
 go_wp2_with fail
 go_ret2
 exact⟨rfl,rfl⟩
theorem Au(y:Int)(w:World)(h:y<1):Calls Tryo.prog 38 #[.int .i64 y,.int .i64 1] w fun e w'=>e= .returned (.tuple #[.slice none 0 0,.int .i64 2])/\w=w':=by
 go_enter Tryo.func38,Tryz.ntmps38
 go_wp2_with fail
 go_ret2
 exact⟨rfl,rfl⟩
theorem Bd(y:Int)(w:World)(h0:¬ y<1)(h:9999<y):Calls Tryo.prog 38 #[.int .i64 y,.int .i64 1] w fun e w'=>e= .returned (.tuple #[.slice none 0 0,.int .i64 2])/\w=w':=by
 have h1:decide (y<1)=false:=by simpa using h0
 go_enter Tryo.func38,Tryz.ntmps38
 go_wp2_with fail
 go_ret2
 exact⟨rfl,rfl⟩
theorem I5(y:Int)(w:World)(hy:I64 y)(h:y<1∨9999<y):Calls Tryo.prog 44 #[.int .i64 y,.int .i64 1] w fun e w'=>e= .returned (.tuple #[.slice none 0 0,.int .i64 2])/\w=w':=by
 have HP:=Lib.hid (fun w=>jY w)
 have HRi:=Lib.hid (fun w=>dQ y w hy)
 rw [Cal.kW y h]at HRi
 clear h
 go_enter Tryo.func44,Tryz.ntmps44
 go_wp2_with fail
 refine(HP.out _).mono ?_
 rintro e w' ⟨rfl,rfl⟩
 go_wp2_with fail
 refine(HRi.out _).mono ?_
 rintro e w' ⟨rfl,rfl⟩
 go_wp2_with fail
 go_ret2
 exact⟨rfl,rfl⟩
theorem KC(y p:Int)(w:World)(h0:(p==0)=false)(h1:(p==1)=false):Calls Tryo.prog 44 #[.int .i64 y,.int .i64 p] w fun e w'=>e= .returned (.tuple #[.slice none 0 0,.int .i64 1])/\w=w':=by
 have HP:=Lib.hid (fun w=>qE p w h0 h1)
 clear h0 h1
 go_enter Tryo.func44,Tryz.ntmps44
 go_wp2_with fail
 refine(HP.out _).mono ?_
 rintro e w' ⟨rfl,rfl⟩
 go_wp2_with fail
 go_ret2
 exact⟨rfl,rfl⟩
end
end Go.Proofs.YthnjjcoahdhmnaaGreatDoor
