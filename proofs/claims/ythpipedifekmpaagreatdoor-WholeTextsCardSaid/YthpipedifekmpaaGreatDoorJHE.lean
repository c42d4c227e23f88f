import Derived.Test.YthpipedifekmpaaGreatDoorJPath
import Derived.Test.YthpipedifekmpaaGreatDoorJDates
set_option maxHeartbeats 8000000
set_option maxRecDepth 100000
set_option linter.unusedVariables false
section
namespace Go.Proofs.YthpipedifekmpaaGreatDoor
open Go.ChangeShapes Go.WideShapes Go.ChangeAt Go.RowKit
namespace D10
def toF(y:Int):Int:=if Cal.yearIn y then Cal.first y else 0
def toM(y n:Int)(l:Bool):Int:=if Cal.yearIn y&&Cal.plOk (Cal.leap y) n l then Cal.plV (Cal.leap y) n l else 0
def toO(y n:Int)(l:Bool)(d:Int):Int:=if dateE y n l d=0 then dAhead y (Cal.plV (Cal.leap y) n l)+d-1 else 0
end D10
def ToSt(w W:World)(y n:Int)(l:Bool)(d:Int):Prop:=
 W.cell? ⟨w.heap.size,0,none⟩=some (.int .i64 y)/\W.cell? ⟨w.heap.size,1,none⟩=some (.int .i64 n)/\W.cell? ⟨w.heap.size,2,none⟩=some (.bool l)/\W.cell? ⟨w.heap.size,3,none⟩=some (.int .i64 d)/\w.heap.size<W.heap.size/\PathAt W (w.heap.size+1) 0 0 0 false 0 0 0/\Below w.heap.size w W/\Tab W 5 kevCells/\Tab W 4 lenCells
theorem ToSt.but{w W W':World}{y n:Int}{l:Bool}{d:Int}(hw1:5<w.heap.size)(hw2:4<w.heap.size)(h:ToSt w W y n l d)(hb:But (w.heap.size+1+1) W W'):ToSt w W' y n l d:=by
 obtain⟨h0,h1,h2,h3,hs,hp,hB,hT,hL⟩:=h
 have c:=fun i=>hb.cell (k:=w.heap.size) (o:=i) hs (by omega)
 exact⟨(c 0).trans h0,(c 1).trans h1,(c 2).trans h2,(c 3).trans h3,Nat.lt_of_lt_of_le hs hb.size,path_but hp hb (by omega),hb.below hB (by omega),But.tab hT hb (by omega),But.tab hL hb (by omega)⟩
theorem heb_to_ok(y n:Int)(l:Bool)(d:Int)(w:World)(hy:I64 y)(hT:Tab w 5 kevCells)(hL:Tab w 4 lenCells)(h1:1<=y)(h2:y<=9999)(hp:Cal.plOk (Cal.leap y) n l=true)(hd1:1<=d)(hd2:d<=D10.dLen y (Cal.plV (Cal.leap y) n l)):
  Calls Tryo.prog 25 #[.agg #[.int .i64 y,.int .i64 n,.bool l,.int .i64 d]] w fun e w'=>e= .returned (.agg #[.int .i64 (Cal.first y),.int .i64 (Cal.first y % 7),.int .i64 (Cal.kind y),.bool (Cal.leap y),.int .i64 (Cal.plV (Cal.leap y) n l),.int .i64 (aheadV (Cal.first y % 7) (Cal.kind y) (Cal.leap y) (Cal.plV (Cal.leap y) n l)+d-1),.int .i64 (0)])/\Below w.heap.size w w':=by
 have hw1:=hT.lt
 have hw2:=hL.lt
 go_enter Tryo.func25,Tryz.ntmps25
 go_wp2_with fail
 refine settleC (fun W=>ToSt w W y n l d/\PathAt W (w.heap.size+1+1) 0 0 0 false 0 0 0) ⟨⟨by simp [go_sem],by simp [go_sem],by simp [go_sem],by simp [go_sem],by(simp;omega),⟨by simp [go_sem],by simp [go_sem],by simp [go_sem],by simp [go_sem],by simp [go_sem],by simp [go_sem],by simp [go_sem],fun i=>by simp [go_sem],by simp⟩,baa (baa (ba _ _) _) _,Tab.below hT (baa (baa (ba _ _) _) _),Tab.below hL (baa (baa (ba _ _) _) _)⟩,⟨by simp [go_sem],by simp [go_sem],by simp [go_sem],by simp [go_sem],by simp [go_sem],by simp [go_sem],by simp [go_sem],fun i=>by simp [go_sem],by simp⟩⟩ ?_
 rintro W0 ⟨hS0,hP0⟩
 refine(path_year_ok y h1 h2 (w.heap.size+1+1) _ hP0).mono ?_
 rintro e w1 ⟨rfl,hP1,hB1⟩
 have hS1:=ToSt.but hw1 hw2 hS0 hB1
 have hs1:=hS1
 have hq1:=hP1
 obtain⟨s1b0,s1b1,s1b2,s1b3,s1bs,s1p,s1B,s1T,s1L⟩:=hs1
 obtain⟨q10,q11,q12,q13,q14,q15,q16,q1f,q1s⟩:=hq1
 have hr1:=s1p
 obtain⟨r10,r11,r12,r13,r14,r15,r16,r1f,r1s⟩:=hr1
 go_wp2_with fail
 clear s1b0 s1b1 s1b2 s1b3 s1bs s1p q10 q11 q12 q13 q14 q15 q16 q1f q1s r10 r11 r12 r13 r14 r15 r16 r1f r1s
 refine(path_month_ok n l _ _ _ _ hp (w.heap.size+1+1) _ hP1).mono ?_
 rintro e w2 ⟨rfl,hP2,hB2⟩
 have hS2:=ToSt.but hw1 hw2 hS1 hB2
 have hs2:=hS2
 have hq2:=hP2
 obtain⟨s2b0,s2b1,s2b2,s2b3,s2bs,s2p,s2B,s2T,s2L⟩:=hs2
 obtain⟨q20,q21,q22,q23,q24,q25,q26,q2f,q2s⟩:=hq2
 have hr2:=s2p
 obtain⟨r20,r21,r22,r23,r24,r25,r26,r2f,r2s⟩:=hr2
 go_wp2_with fail
 clear s2b0 s2b1 s2b2 s2b3 s2bs s2p q20 q21 q22 q23 q24 q25 q26 q2f q2s r20 r21 r22 r23 r24 r25 r26 r2f r2s
 refine(path_day_ok d _ _ _ _ _ hd1 hd2 (w.heap.size+1+1) _ s2T s2L hP2).mono ?_
 rintro e w3 ⟨rfl,hP3,hB3⟩
 have hS3:=ToSt.but hw1 hw2 hS2 hB3
 have hs3:=hS3
 have hq3:=hP3
 obtain⟨s3b0,s3b1,s3b2,s3b3,s3bs,s3p,s3B,s3T,s3L⟩:=hs3
 obtain⟨q30,q31,q32,q33,q34,q35,q36,q3f,q3s⟩:=hq3
 have hr3:=s3p
 obtain⟨r30,r31,r32,r33,r34,r35,r36,r3f,r3s⟩:=hr3
 go_wp2_with fail
 refine bodyPost_ret (v:= .agg #[.int .i64 (Cal.first y),.int .i64 (Cal.first y % 7),.int .i64 (Cal.kind y),.bool (Cal.leap y),.int .i64 (Cal.plV (Cal.leap y) n l),.int .i64 (aheadV (Cal.first y % 7) (Cal.kind y) (Cal.leap y) (Cal.plV (Cal.leap y) n l)+d-1),.int .i64 (0)]) (by simp [results,Tryz.results25,go_sem, *]) rfl ⟨rfl, ?_⟩
 iterate 7 refine Below.setCell ?_ (show w.heap.size<=w.heap.size+1 from Nat.le_succ _) _
 exact s3B
theorem heb_to_low(y n:Int)(l:Bool)(d:Int)(w:World)(hy:I64 y)(hT:Tab w 5 kevCells)(hL:Tab w 4 lenCells)(h1:1<=y)(h2:y<=9999)(hp:Cal.plOk (Cal.leap y) n l=true)(hd1:d<1):
  Calls Tryo.prog 25 #[.agg #[.int .i64 y,.int .i64 n,.bool l,.int .i64 d]] w fun e w'=>e= .returned (.agg #[.int .i64 (Cal.first y),.int .i64 (Cal.first y % 7),.int .i64 (Cal.kind y),.bool (Cal.leap y),.int .i64 (Cal.plV (Cal.leap y) n l),.int .i64 (0),.int .i64 (4)])/\Below w.heap.size w w':=by
 have hw1:=hT.lt
 have hw2:=hL.lt
 go_enter Tryo.func25,Tryz.ntmps25
 go_wp2_with fail
 refine settleC (fun W=>ToSt w W y n l d/\PathAt W (w.heap.size+1+1) 0 0 0 false 0 0 0) ⟨⟨by simp [go_sem],by simp [go_sem],by simp [go_sem],by simp [go_sem],by(simp;omega),⟨by simp [go_sem],by simp [go_sem],by simp [go_sem],by simp [go_sem],by simp [go_sem],by simp [go_sem],by simp [go_sem],fun i=>by simp [go_sem],by simp⟩,baa (baa (ba _ _) _) _,Tab.below hT (baa (baa (ba _ _) _) _),Tab.below hL (baa (baa (ba _ _) _) _)⟩,⟨by simp [go_sem],by simp [go_sem],by simp [go_sem],by simp [go_sem],by simp [go_sem],by simp [go_sem],by simp [go_sem],fun i=>by simp [go_sem],by simp⟩⟩ ?_
 rintro W0 ⟨hS0,hP0⟩
 refine(path_year_ok y h1 h2 (w.heap.size+1+1) _ hP0).mono ?_
 rintro e w1 ⟨rfl,hP1,hB1⟩
 have hS1:=ToSt.but hw1 hw2 hS0 hB1
 have hs1:=hS1
 have hq1:=hP1
 obtain⟨s1b0,s1b1,s1b2,s1b3,s1bs,s1p,s1B,s1T,s1L⟩:=hs1
 obtain⟨q10,q11,q12,q13,q14,q15,q16,q1f,q1s⟩:=hq1
 have hr1:=s1p
 obtain⟨r10,r11,r12,r13,r14,r15,r16,r1f,r1s⟩:=hr1
 go_wp2_with fail
 clear s1b0 s1b1 s1b2 s1b3 s1bs s1p q10 q11 q12 q13 q14 q15 q16 q1f q1s r10 r11 r12 r13 r14 r15 r16 r1f r1s
 refine(path_month_ok n l _ _ _ _ hp (w.heap.size+1+1) _ hP1).mono ?_
 rintro e w2 ⟨rfl,hP2,hB2⟩
 have hS2:=ToSt.but hw1 hw2 hS1 hB2
 have hs2:=hS2
 have hq2:=hP2
 obtain⟨s2b0,s2b1,s2b2,s2b3,s2bs,s2p,s2B,s2T,s2L⟩:=hs2
 obtain⟨q20,q21,q22,q23,q24,q25,q26,q2f,q2s⟩:=hq2
 have hr2:=s2p
 obtain⟨r20,r21,r22,r23,r24,r25,r26,r2f,r2s⟩:=hr2
 go_wp2_with fail
 clear s2b0 s2b1 s2b2 s2b3 s2bs s2p q20 q21 q22 q23 q24 q25 q26 q2f q2s r20 r21 r22 r23 r24 r25 r26 r2f r2s
 refine(path_day_low d _ _ _ _ _ hd1 (w.heap.size+1+1) _ s2T s2L hP2).mono ?_
 rintro e w3 ⟨rfl,hP3,hB3⟩
 have hS3:=ToSt.but hw1 hw2 hS2 hB3
 have hs3:=hS3
 have hq3:=hP3
 obtain⟨s3b0,s3b1,s3b2,s3b3,s3bs,s3p,s3B,s3T,s3L⟩:=hs3
 obtain⟨q30,q31,q32,q33,q34,q35,q36,q3f,q3s⟩:=hq3
 have hr3:=s3p
 obtain⟨r30,r31,r32,r33,r34,r35,r36,r3f,r3s⟩:=hr3
 go_wp2_with fail
 refine bodyPost_ret (v:= .agg #[.int .i64 (Cal.first y),.int .i64 (Cal.first y % 7),.int .i64 (Cal.kind y),.bool (Cal.leap y),.int .i64 (Cal.plV (Cal.leap y) n l),.int .i64 (0),.int .i64 (4)]) (by simp [results,Tryz.results25,go_sem, *]) rfl ⟨rfl, ?_⟩
 iterate 7 refine Below.setCell ?_ (show w.heap.size<=w.heap.size+1 from Nat.le_succ _) _
 exact s3B
theorem heb_to_high(y n:Int)(l:Bool)(d:Int)(w:World)(hy:I64 y)(hT:Tab w 5 kevCells)(hL:Tab w 4 lenCells)(h1:1<=y)(h2:y<=9999)(hp:Cal.plOk (Cal.leap y) n l=true)(hd1:1<=d)(hd2:D10.dLen y (Cal.plV (Cal.leap y) n l)<d):
  Calls Tryo.prog 25 #[.agg #[.int .i64 y,.int .i64 n,.bool l,.int .i64 d]] w fun e w'=>e= .returned (.agg #[.int .i64 (Cal.first y),.int .i64 (Cal.first y % 7),.int .i64 (Cal.kind y),.bool (Cal.leap y),.int .i64 (Cal.plV (Cal.leap y) n l),.int .i64 (0),.int .i64 (4)])/\Below w.heap.size w w':=by
 have hw1:=hT.lt
 have hw2:=hL.lt
 go_enter Tryo.func25,Tryz.ntmps25
 go_wp2_with fail
 refine settleC (fun W=>ToSt w W y n l d/\PathAt W (w.heap.size+1+1) 0 0 0 false 0 0 0) ⟨⟨by simp [go_sem],by simp [go_sem],by simp [go_sem],by simp [go_sem],by(simp;omega),⟨by simp [go_sem],by simp [go_sem],by simp [go_sem],by simp [go_sem],by simp [go_sem],by simp [go_sem],by simp [go_sem],fun i=>by simp [go_sem],by simp⟩,baa (baa (ba _ _) _) _,Tab.below hT (baa (baa (ba _ _) _) _),Tab.below hL (baa (baa (ba _ _) _) _)⟩,⟨by simp [go_sem],by simp [go_sem],by simp [go_sem],by simp [go_sem],by simp [go_sem],by simp [go_sem],by simp [go_sem],fun i=>by simp [go_sem],by simp⟩⟩ ?_
 rintro W0 ⟨hS0,hP0⟩
 refine(path_year_ok y h1 h2 (w.heap.size+1+1) _ hP0).mono ?_
 rintro e w1 ⟨rfl,hP1,hB1⟩
 have hS1:=ToSt.but hw1 hw2 hS0 hB1
 have hs1:=hS1
 have hq1:=hP1
 obtain⟨s1b0,s1b1,s1b2,s1b3,s1bs,s1p,s1B,s1T,s1L⟩:=hs1
 obtain⟨q10,q11,q12,q13,q14,q15,q16,q1f,q1s⟩:=hq1
 have hr1:=s1p
 obtain⟨r10,r11,r12,r13,r14,r15,r16,r1f,r1s⟩:=hr1
 go_wp2_with fail
 clear s1b0 s1b1 s1b2 s1b3 s1bs s1p q10 q11 q12 q13 q14 q15 q16 q1f q1s r10 r11 r12 r13 r14 r15 r16 r1f r1s
 refine(path_month_ok n l _ _ _ _ hp (w.heap.size+1+1) _ hP1).mono ?_
 rintro e w2 ⟨rfl,hP2,hB2⟩
 have hS2:=ToSt.but hw1 hw2 hS1 hB2
 have hs2:=hS2
 have hq2:=hP2
 obtain⟨s2b0,s2b1,s2b2,s2b3,s2bs,s2p,s2B,s2T,s2L⟩:=hs2
 obtain⟨q20,q21,q22,q23,q24,q25,q26,q2f,q2s⟩:=hq2
 have hr2:=s2p
 obtain⟨r20,r21,r22,r23,r24,r25,r26,r2f,r2s⟩:=hr2
 go_wp2_with fail
 clear s2b0 s2b1 s2b2 s2b3 s2bs s2p q20 q21 q22 q23 q24 q25 q26 q2f q2s r20 r21 r22 r23 r24 r25 r26 r2f r2s
 refine(path_day_high d _ _ _ _ _ hd1 hd2 (w.heap.size+1+1) _ s2T s2L hP2).mono ?_
 rintro e w3 ⟨rfl,hP3,hB3⟩
 have hS3:=ToSt.but hw1 hw2 hS2 hB3
 have hs3:=hS3
 have hq3:=hP3
 obtain⟨s3b0,s3b1,s3b2,s3b3,s3bs,s3p,s3B,s3T,s3L⟩:=hs3
 obtain⟨q30,q31,q32,q33,q34,q35,q36,q3f,q3s⟩:=hq3
 have hr3:=s3p
 obtain⟨r30,r31,r32,r33,r34,r35,r36,r3f,r3s⟩:=hr3
 go_wp2_with fail
 refine bodyPost_ret (v:= .agg #[.int .i64 (Cal.first y),.int .i64 (Cal.first y % 7),.int .i64 (Cal.kind y),.bool (Cal.leap y),.int .i64 (Cal.plV (Cal.leap y) n l),.int .i64 (0),.int .i64 (4)]) (by simp [results,Tryz.results25,go_sem, *]) rfl ⟨rfl, ?_⟩
 iterate 7 refine Below.setCell ?_ (show w.heap.size<=w.heap.size+1 from Nat.le_succ _) _
 exact s3B
theorem heb_to_month(y n:Int)(l:Bool)(d:Int)(w:World)(hy:I64 y)(hT:Tab w 5 kevCells)(hL:Tab w 4 lenCells)(h1:1<=y)(h2:y<=9999)(hp:Cal.plOk (Cal.leap y) n l=false):
  Calls Tryo.prog 25 #[.agg #[.int .i64 y,.int .i64 n,.bool l,.int .i64 d]] w fun e w'=>e= .returned (.agg #[.int .i64 (Cal.first y),.int .i64 (Cal.first y % 7),.int .i64 (Cal.kind y),.bool (Cal.leap y),.int .i64 (0),.int .i64 (0),.int .i64 (3)])/\Below w.heap.size w w':=by
 have hw1:=hT.lt
 have hw2:=hL.lt
 go_enter Tryo.func25,Tryz.ntmps25
 go_wp2_with fail
 refine settleC (fun W=>ToSt w W y n l d/\PathAt W (w.heap.size+1+1) 0 0 0 false 0 0 0) ⟨⟨by simp [go_sem],by simp [go_sem],by simp [go_sem],by simp [go_sem],by(simp;omega),⟨by simp [go_sem],by simp [go_sem],by simp [go_sem],by simp [go_sem],by simp [go_sem],by simp [go_sem],by simp [go_sem],fun i=>by simp [go_sem],by simp⟩,baa (baa (ba _ _) _) _,Tab.below hT (baa (baa (ba _ _) _) _),Tab.below hL (baa (baa (ba _ _) _) _)⟩,⟨by simp [go_sem],by simp [go_sem],by simp [go_sem],by simp [go_sem],by simp [go_sem],by simp [go_sem],by simp [go_sem],fun i=>by simp [go_sem],by simp⟩⟩ ?_
 rintro W0 ⟨hS0,hP0⟩
 refine(path_year_ok y h1 h2 (w.heap.size+1+1) _ hP0).mono ?_
 rintro e w1 ⟨rfl,hP1,hB1⟩
 have hS1:=ToSt.but hw1 hw2 hS0 hB1
 have hs1:=hS1
 have hq1:=hP1
 obtain⟨s1b0,s1b1,s1b2,s1b3,s1bs,s1p,s1B,s1T,s1L⟩:=hs1
 obtain⟨q10,q11,q12,q13,q14,q15,q16,q1f,q1s⟩:=hq1
 have hr1:=s1p
 obtain⟨r10,r11,r12,r13,r14,r15,r16,r1f,r1s⟩:=hr1
 go_wp2_with fail
 clear s1b0 s1b1 s1b2 s1b3 s1bs s1p q10 q11 q12 q13 q14 q15 q16 q1f q1s r10 r11 r12 r13 r14 r15 r16 r1f r1s
 refine(path_month_no n l _ _ _ _ hp (w.heap.size+1+1) _ hP1).mono ?_
 rintro e w2 ⟨rfl,hP2,hB2⟩
 have hS2:=ToSt.but hw1 hw2 hS1 hB2
 have hs2:=hS2
 have hq2:=hP2
 obtain⟨s2b0,s2b1,s2b2,s2b3,s2bs,s2p,s2B,s2T,s2L⟩:=hs2
 obtain⟨q20,q21,q22,q23,q24,q25,q26,q2f,q2s⟩:=hq2
 have hr2:=s2p
 obtain⟨r20,r21,r22,r23,r24,r25,r26,r2f,r2s⟩:=hr2
 go_wp2_with fail
 clear s2b0 s2b1 s2b2 s2b3 s2bs s2p q20 q21 q22 q23 q24 q25 q26 q2f q2s r20 r21 r22 r23 r24 r25 r26 r2f r2s
 refine(path_day_err d _ _ _ _ _ _ _ (by decide) (w.heap.size+1+1) _ hP2).mono ?_
 rintro e w3 ⟨rfl,hP3,hB3⟩
 have hS3:=ToSt.but hw1 hw2 hS2 hB3
 have hs3:=hS3
 have hq3:=hP3
 obtain⟨s3b0,s3b1,s3b2,s3b3,s3bs,s3p,s3B,s3T,s3L⟩:=hs3
 obtain⟨q30,q31,q32,q33,q34,q35,q36,q3f,q3s⟩:=hq3
 have hr3:=s3p
 obtain⟨r30,r31,r32,r33,r34,r35,r36,r3f,r3s⟩:=hr3
 go_wp2_with fail
 refine bodyPost_ret (v:= .agg #[.int .i64 (Cal.first y),.int .i64 (Cal.first y % 7),.int .i64 (Cal.kind y),.bool (Cal.leap y),.int .i64 (0),.int .i64 (0),.int .i64 (3)]) (by simp [results,Tryz.results25,go_sem, *]) rfl ⟨rfl, ?_⟩
 iterate 7 refine Below.setCell ?_ (show w.heap.size<=w.heap.size+1 from Nat.le_succ _) _
 exact s3B
theorem heb_to_year(y n:Int)(l:Bool)(d:Int)(w:World)(hy:I64 y)(hT:Tab w 5 kevCells)(hL:Tab w 4 lenCells)(h:y<1∨9999<y):
  Calls Tryo.prog 25 #[.agg #[.int .i64 y,.int .i64 n,.bool l,.int .i64 d]] w fun e w'=>e= .returned (.agg #[.int .i64 (0),.int .i64 (0),.int .i64 (0),.bool false,.int .i64 (0),.int .i64 (0),.int .i64 (2)])/\Below w.heap.size w w':=by
 have hw1:=hT.lt
 have hw2:=hL.lt
 go_enter Tryo.func25,Tryz.ntmps25
 go_wp2_with fail
 refine settleC (fun W=>ToSt w W y n l d/\PathAt W (w.heap.size+1+1) 0 0 0 false 0 0 0) ⟨⟨by simp [go_sem],by simp [go_sem],by simp [go_sem],by simp [go_sem],by(simp;omega),⟨by simp [go_sem],by simp [go_sem],by simp [go_sem],by simp [go_sem],by simp [go_sem],by simp [go_sem],by simp [go_sem],fun i=>by simp [go_sem],by simp⟩,baa (baa (ba _ _) _) _,Tab.below hT (baa (baa (ba _ _) _) _),Tab.below hL (baa (baa (ba _ _) _) _)⟩,⟨by simp [go_sem],by simp [go_sem],by simp [go_sem],by simp [go_sem],by simp [go_sem],by simp [go_sem],by simp [go_sem],fun i=>by simp [go_sem],by simp⟩⟩ ?_
 rintro W0 ⟨hS0,hP0⟩
 refine(path_year_no y hy h (w.heap.size+1+1) _ hP0).mono ?_
 rintro e w1 ⟨rfl,hP1,hB1⟩
 have hS1:=ToSt.but hw1 hw2 hS0 hB1
 have hs1:=hS1
 have hq1:=hP1
 obtain⟨s1b0,s1b1,s1b2,s1b3,s1bs,s1p,s1B,s1T,s1L⟩:=hs1
 obtain⟨q10,q11,q12,q13,q14,q15,q16,q1f,q1s⟩:=hq1
 have hr1:=s1p
 obtain⟨r10,r11,r12,r13,r14,r15,r16,r1f,r1s⟩:=hr1
 go_wp2_with fail
 clear s1b0 s1b1 s1b2 s1b3 s1bs s1p q10 q11 q12 q13 q14 q15 q16 q1f q1s r10 r11 r12 r13 r14 r15 r16 r1f r1s
 refine(path_month_err n l _ _ _ _ _ _ _ (by decide) (w.heap.size+1+1) _ hP1).mono ?_
 rintro e w2 ⟨rfl,hP2,hB2⟩
 have hS2:=ToSt.but hw1 hw2 hS1 hB2
 have hs2:=hS2
 have hq2:=hP2
 obtain⟨s2b0,s2b1,s2b2,s2b3,s2bs,s2p,s2B,s2T,s2L⟩:=hs2
 obtain⟨q20,q21,q22,q23,q24,q25,q26,q2f,q2s⟩:=hq2
 have hr2:=s2p
 obtain⟨r20,r21,r22,r23,r24,r25,r26,r2f,r2s⟩:=hr2
 go_wp2_with fail
 clear s2b0 s2b1 s2b2 s2b3 s2bs s2p q20 q21 q22 q23 q24 q25 q26 q2f q2s r20 r21 r22 r23 r24 r25 r26 r2f r2s
 refine(path_day_err d _ _ _ _ _ _ _ (by decide) (w.heap.size+1+1) _ hP2).mono ?_
 rintro e w3 ⟨rfl,hP3,hB3⟩
 have hS3:=ToSt.but hw1 hw2 hS2 hB3
 have hs3:=hS3
 have hq3:=hP3
 obtain⟨s3b0,s3b1,s3b2,s3b3,s3bs,s3p,s3B,s3T,s3L⟩:=hs3
 obtain⟨q30,q31,q32,q33,q34,q35,q36,q3f,q3s⟩:=hq3
 have hr3:=s3p
 obtain⟨r30,r31,r32,r33,r34,r35,r36,r3f,r3s⟩:=hr3
 go_wp2_with fail
 refine bodyPost_ret (v:= .agg #[.int .i64 (0),.int .i64 (0),.int .i64 (0),.bool false,.int .i64 (0),.int .i64 (0),.int .i64 (2)]) (by simp [results,Tryz.results25,go_sem, *]) rfl ⟨rfl, ?_⟩
 iterate 7 refine Below.setCell ?_ (show w.heap.size<=w.heap.size+1 from Nat.le_succ _) _
 exact s3B
namespace D10
theorem dateE_cases(y n:Int)(l:Bool)(d:Int):(Cal.yearIn y=false/\dateE y n l d=2)∨(Cal.yearIn y=true/\Cal.plOk (Cal.leap y) n l=false/\dateE y n l d=3)∨
  (Cal.yearIn y=true/\Cal.plOk (Cal.leap y) n l=true/\d<1/\dateE y n l d=4)∨(Cal.yearIn y=true/\Cal.plOk (Cal.leap y) n l=true/\1<=d/\dLen y (Cal.plV (Cal.leap y) n l)<d/\dateE y n l d=4)∨
  (Cal.yearIn y=true/\Cal.plOk (Cal.leap y) n l=true/\1<=d/\d<=dLen y (Cal.plV (Cal.leap y) n l)/\dateE y n l d=0):=by
 unfold dateE
 cases Cal.yearIn y <;> cases Cal.plOk (Cal.leap y) n l <;> simp
 by_cases c:d<1
 ·left
  refine⟨c,fun h=> ?_⟩
  omega
 ·right
  by_cases c2:dLen y (Cal.plV (Cal.leap y) n l)<d
  ·left
   refine⟨by omega,c2,fun h=> ?_⟩
   omega
  ·right
   exact⟨by omega,by omega,by omega,by omega⟩
end D10
theorem heb_to(y n:Int)(l:Bool)(d:Int)(w:World)(hy:I64 y)(hT:Tab w 5 kevCells)(hL:Tab w 4 lenCells):
  Calls Tryo.prog 25 #[.agg #[.int .i64 y,.int .i64 n,.bool l,.int .i64 d]] w fun e w'=>e= .returned (.agg #[.int .i64 (D10.toF y),.int .i64 (Cal.tyB y),.int .i64 (Cal.tyK y),.bool (Cal.tyL y),.int .i64 (D10.toM y n l),.int .i64 (D10.toO y n l d),.int .i64 (D10.dateE y n l d)])/\Below w.heap.size w w':=by
 rcases D10.dateE_cases y n l d with ⟨c,e⟩|⟨c,p,e⟩|⟨c,p,h3,e⟩|⟨c,p,h3,h4,e⟩|⟨c,p,h3,h4,e⟩
 ·have h:=D10.year_out y c
  obtain⟨_,_,e1,e2,e3⟩:=Cal.year_no y h
  rw [e,e1,e2,e3,show D10.toF y=0 by simp [D10.toF,c],show D10.toM y n l=0 by simp [D10.toM,c],show D10.toO y n l d=0 by simp [D10.toO,e]]
  exact heb_to_year y n l d w hy hT hL h
 all_goals obtain⟨h1,h2⟩:=D10.year_in y c
 all_goals obtain⟨_,_,e1,e2,e3⟩:=Cal.year_ok y h1 h2
 ·rw [e,e1,e2,e3,show D10.toF y=Cal.first y by simp [D10.toF,c],show D10.toM y n l=0 by simp [D10.toM,c,p],show D10.toO y n l d=0 by simp [D10.toO,e]]
  exact heb_to_month y n l d w hy hT hL h1 h2 p
 ·rw [e,e1,e2,e3,show D10.toF y=Cal.first y by simp [D10.toF,c],show D10.toM y n l=Cal.plV (Cal.leap y) n l by simp [D10.toM,c,p],show D10.toO y n l d=0 by simp [D10.toO,e]]
  exact heb_to_low y n l d w hy hT hL h1 h2 p h3
 ·rw [e,e1,e2,e3,show D10.toF y=Cal.first y by simp [D10.toF,c],show D10.toM y n l=Cal.plV (Cal.leap y) n l by simp [D10.toM,c,p],show D10.toO y n l d=0 by simp [D10.toO,e]]
  exact heb_to_high y n l d w hy hT hL h1 h2 p h3 h4
 ·rw [e,e1,e2,e3,show D10.toF y=Cal.first y by simp [D10.toF,c],show D10.toM y n l=Cal.plV (Cal.leap y) n l by simp [D10.toM,c,p],show D10.toO y n l d=D10.dAhead y (Cal.plV (Cal.leap y) n l)+d-1 by simp [D10.toO,e]]
  exact heb_to_ok y n l d w hy hT hL h1 h2 p h3 h4
end Go.Proofs.YthpipedifekmpaaGreatDoor
end
section
namespace Go.Proofs.YthpipedifekmpaaGreatDoor
open Go.ChangeShapes Go.WideShapes Go.ChangeAt Go.RowKit
theorem heb_Check(y n:Int)(l:Bool)(d:Int)(w:World)(hy:I64 y)(hT:Tab w 5 kevCells)(hL:Tab w 4 lenCells):
  Calls Tryo.prog 9 #[.agg #[.int .i64 y,.int .i64 n,.bool l,.int .i64 d]] w fun e w'=>e= .returned (.int .i64 (D10.dateE y n l d))/\Below w.heap.size w w':=by
 go_enter Tryo.func9,Tryz.ntmps9
 go_wp2_with fail
 refine(heb_to y n l d _ hy (Tab.below hT (ba _ _)) (Tab.below hL (ba _ _))).mono ?_
 rintro e w1 ⟨rfl,hb1⟩
 have hb:Below w.heap.size w w1:=bt (ba _ _) hb1
 go_wp2_with fail
 go_ret
 exact⟨rfl,baa hb _⟩
theorem D10.dayV_ok(y n:Int)(l:Bool)(d:Int)(h:D10.dateE y n l d=0):D10.toF y+D10.toO y n l d=D10.dayV y n l d/\ -1373427<=D10.dayV y n l d/\D10.dayV y n l d<=2278650:=by
 have hv:=D10.date_valid h
 have hb:=D10.day_bd hv.1
 have e:D10.dayV y n l d=D10.dayOf y (Cal.plV (Cal.leap y) n l) d:=by simp [D10.dayV,h]
 rw [e]
 refine⟨?_,hb⟩
 have hy:=Cal.yearIn_yes y hv.1.1 hv.1.2.1
 simp only [D10.toF,D10.toO,D10.dayOf,hy,h,if_true]
 omega
theorem D10.dayV_no(y n:Int)(l:Bool)(d:Int)(h:¬ D10.dateE y n l d=0):D10.dayV y n l d=0:=by simp [D10.dayV,h]
theorem heb_ToDay(y n:Int)(l:Bool)(d:Int)(w:World)(hy:I64 y)(hT:Tab w 5 kevCells)(hL:Tab w 4 lenCells):
  Calls Tryo.prog 109 #[.agg #[.int .i64 y,.int .i64 n,.bool l,.int .i64 d]] w fun e w'=>e= .returned (.tuple #[.int .i64 (D10.dayV y n l d),.int .i64 (D10.dateE y n l d)])/\Below w.heap.size w w':=by
 have hto:=Lib.hid (fun w hT hL=>heb_to y n l d w hy hT hL)
 by_cases c:D10.dateE y n l d=0
 ·obtain⟨e1,e2,e3⟩:=D10.dayV_ok y n l d c
  have HE:=Lib.hid e1
  rw [←e1]at e2 e3
  clear e1
  rw [←HE.out]
  generalize D10.toF y=tf at*
  generalize D10.toO y n l d=to at*
  generalize D10.dateE y n l d=de at*
  subst c
  go_enter Tryo.func109,Tryz.ntmps109
  go_wp2_with fail
  refine(hto.out _ (Tab.below hT (ba _ _)) (Tab.below hL (ba _ _))).mono ?_
  rintro e w1 ⟨rfl,hb1⟩
  have hb:Below w.heap.size w w1:=bt (ba _ _) hb1
  go_wp2_with fail
  go_ret2
  exact⟨rfl,baa hb _⟩
 ·rw [D10.dayV_no y n l d c]
  generalize D10.dateE y n l d=de at*
  go_enter Tryo.func109,Tryz.ntmps109
  go_wp2_with fail
  refine(hto.out _ (Tab.below hT (ba _ _)) (Tab.below hL (ba _ _))).mono ?_
  rintro e w1 ⟨rfl,hb1⟩
  have hb:Below w.heap.size w w1:=bt (ba _ _) hb1
  go_wp2_with fail
  go_region
  all_goals go_wp2_with fail
  all_goals go_ret2
  all_goals exact⟨rfl,bdrew (baa hb _)⟩
def LastSt(w W:World)(n:Int)(l:Bool):Prop:=
 W.cell? ⟨w.heap.size,0,none⟩=some (.int .i64 n)/\W.cell? ⟨w.heap.size,1,none⟩=some (.bool l)/\w.heap.size<W.heap.size/\Below w.heap.size w W/\Tab W 5 kevCells/\Tab W 4 lenCells
theorem LastSt.but{w W W':World}{n:Int}{l:Bool}(hw1:5<w.heap.size)(hw2:4<w.heap.size)(h:LastSt w W n l)(hb:But (w.heap.size+1) W W'):LastSt w W' n l:=by
 obtain⟨h0,h1,hs,hB,hT,hL⟩:=h
 have c:=fun i=>hb.cell (k:=w.heap.size) (o:=i) hs (by omega)
 exact⟨(c 0).trans h0,(c 1).trans h1,Nat.lt_of_lt_of_le hs hb.size,hb.below hB (by omega),But.tab hT hb (by omega),But.tab hL hb (by omega)⟩
theorem heb_Last_ok(y n:Int)(l:Bool)(w:World)(hy:I64 y)(hT:Tab w 5 kevCells)(hL:Tab w 4 lenCells)(h1:1<=y)(h2:y<=9999)(hp:Cal.plOk (Cal.leap y) n l=true):
  Calls Tryo.prog 37 #[.int .i64 y,.agg #[.int .i64 n,.bool l]] w fun e w'=>e= .returned (.tuple #[.int .i64 (daysV (Cal.first y % 7) (Cal.kind y) (Cal.leap y) (Cal.plV (Cal.leap y) n l)),.int .i64 0])/\Below w.heap.size w w':=by
 have hw1:=hT.lt
 have hw2:=hL.lt
 go_enter Tryo.func37,Tryz.ntmps37
 go_wp2_with fail
 refine settleC (fun W=>LastSt w W n l/\PathAt W (w.heap.size+1) 0 0 0 false 0 0 0) ⟨⟨by simp [go_sem],by simp [go_sem],by(simp;omega),baa (ba _ _) _,Tab.below hT (baa (ba _ _) _),Tab.below hL (baa (ba _ _) _)⟩,⟨by simp [go_sem],by simp [go_sem],by simp [go_sem],by simp [go_sem],by simp [go_sem],by simp [go_sem],by simp [go_sem],fun i=>by simp [go_sem],by simp⟩⟩ ?_
 rintro W0 ⟨hS0,hP0⟩
 refine(path_year_ok y h1 h2 (w.heap.size+1) _ hP0).mono ?_
 rintro e w1 ⟨rfl,hP1,hB1⟩
 have hS1:=LastSt.but hw1 hw2 hS0 hB1
 have hs1:=hS1
 have hq1:=hP1
 obtain⟨s1b0,s1b1,s1bs,s1B,s1T,s1L⟩:=hs1
 obtain⟨q10,q11,q12,q13,q14,q15,q16,q1f,q1s⟩:=hq1
 go_wp2_with fail
 clear s1b0 s1b1 s1bs q10 q11 q12 q13 q14 q15 q16 q1f q1s
 refine(path_month_ok n l _ _ _ _ hp (w.heap.size+1) _ hP1).mono ?_
 rintro e w2 ⟨rfl,hP2,hB2⟩
 have hS2:=LastSt.but hw1 hw2 hS1 hB2
 have hs2:=hS2
 have hq2:=hP2
 obtain⟨s2b0,s2b1,s2bs,s2B,s2T,s2L⟩:=hs2
 obtain⟨q20,q21,q22,q23,q24,q25,q26,q2f,q2s⟩:=hq2
 go_wp2_with fail
 refine(path_long _ _ _ _ _ _ _ (w.heap.size+1) _ s2T s2L hP2).mono ?_
 rintro e w3 ⟨rfl,hb3⟩
 go_wp2_with fail
 go_ret2
 exact⟨rfl,bt s2B hb3⟩
theorem heb_Last_month(y n:Int)(l:Bool)(w:World)(hy:I64 y)(hT:Tab w 5 kevCells)(hL:Tab w 4 lenCells)(h1:1<=y)(h2:y<=9999)(hp:Cal.plOk (Cal.leap y) n l=false):
  Calls Tryo.prog 37 #[.int .i64 y,.agg #[.int .i64 n,.bool l]] w fun e w'=>e= .returned (.tuple #[.int .i64 (0),.int .i64 3])/\Below w.heap.size w w':=by
 have hw1:=hT.lt
 have hw2:=hL.lt
 go_enter Tryo.func37,Tryz.ntmps37
 go_wp2_with fail
 refine settleC (fun W=>LastSt w W n l/\PathAt W (w.heap.size+1) 0 0 0 false 0 0 0) ⟨⟨by simp [go_sem],by simp [go_sem],by(simp;omega),baa (ba _ _) _,Tab.below hT (baa (ba _ _) _),Tab.below hL (baa (ba _ _) _)⟩,⟨by simp [go_sem],by simp [go_sem],by simp [go_sem],by simp [go_sem],by simp [go_sem],by simp [go_sem],by simp [go_sem],fun i=>by simp [go_sem],by simp⟩⟩ ?_
 rintro W0 ⟨hS0,hP0⟩
 refine(path_year_ok y h1 h2 (w.heap.size+1) _ hP0).mono ?_
 rintro e w1 ⟨rfl,hP1,hB1⟩
 have hS1:=LastSt.but hw1 hw2 hS0 hB1
 have hs1:=hS1
 have hq1:=hP1
 obtain⟨s1b0,s1b1,s1bs,s1B,s1T,s1L⟩:=hs1
 obtain⟨q10,q11,q12,q13,q14,q15,q16,q1f,q1s⟩:=hq1
 go_wp2_with fail
 clear s1b0 s1b1 s1bs q10 q11 q12 q13 q14 q15 q16 q1f q1s
 refine(path_month_no n l _ _ _ _ hp (w.heap.size+1) _ hP1).mono ?_
 rintro e w2 ⟨rfl,hP2,hB2⟩
 have hS2:=LastSt.but hw1 hw2 hS1 hB2
 have hs2:=hS2
 have hq2:=hP2
 obtain⟨s2b0,s2b1,s2bs,s2B,s2T,s2L⟩:=hs2
 obtain⟨q20,q21,q22,q23,q24,q25,q26,q2f,q2s⟩:=hq2
 go_wp2_with fail
 go_region
 all_goals go_wp2_with fail
 all_goals go_ret2
 all_goals exact⟨rfl,bdrew s2B⟩
theorem heb_Last_year(y n:Int)(l:Bool)(w:World)(hy:I64 y)(hT:Tab w 5 kevCells)(hL:Tab w 4 lenCells)(h:y<1∨9999<y):
  Calls Tryo.prog 37 #[.int .i64 y,.agg #[.int .i64 n,.bool l]] w fun e w'=>e= .returned (.tuple #[.int .i64 (0),.int .i64 2])/\Below w.heap.size w w':=by
 have hw1:=hT.lt
 have hw2:=hL.lt
 go_enter Tryo.func37,Tryz.ntmps37
 go_wp2_with fail
 refine settleC (fun W=>LastSt w W n l/\PathAt W (w.heap.size+1) 0 0 0 false 0 0 0) ⟨⟨by simp [go_sem],by simp [go_sem],by(simp;omega),baa (ba _ _) _,Tab.below hT (baa (ba _ _) _),Tab.below hL (baa (ba _ _) _)⟩,⟨by simp [go_sem],by simp [go_sem],by simp [go_sem],by simp [go_sem],by simp [go_sem],by simp [go_sem],by simp [go_sem],fun i=>by simp [go_sem],by simp⟩⟩ ?_
 rintro W0 ⟨hS0,hP0⟩
 refine(path_year_no y hy h (w.heap.size+1) _ hP0).mono ?_
 rintro e w1 ⟨rfl,hP1,hB1⟩
 have hS1:=LastSt.but hw1 hw2 hS0 hB1
 have hs1:=hS1
 have hq1:=hP1
 obtain⟨s1b0,s1b1,s1bs,s1B,s1T,s1L⟩:=hs1
 obtain⟨q10,q11,q12,q13,q14,q15,q16,q1f,q1s⟩:=hq1
 go_wp2_with fail
 clear s1b0 s1b1 s1bs q10 q11 q12 q13 q14 q15 q16 q1f q1s
 refine(path_month_err n l _ _ _ _ _ _ _ (by decide) (w.heap.size+1) _ hP1).mono ?_
 rintro e w2 ⟨rfl,hP2,hB2⟩
 have hS2:=LastSt.but hw1 hw2 hS1 hB2
 have hs2:=hS2
 have hq2:=hP2
 obtain⟨s2b0,s2b1,s2bs,s2B,s2T,s2L⟩:=hs2
 obtain⟨q20,q21,q22,q23,q24,q25,q26,q2f,q2s⟩:=hq2
 go_wp2_with fail
 go_region
 all_goals go_wp2_with fail
 all_goals go_ret2
 all_goals exact⟨rfl,bdrew s2B⟩
theorem heb_Last(y n:Int)(l:Bool)(w:World)(hy:I64 y)(hT:Tab w 5 kevCells)(hL:Tab w 4 lenCells):
  Calls Tryo.prog 37 #[.int .i64 y,.agg #[.int .i64 n,.bool l]] w fun e w'=>e= .returned (.tuple #[.int .i64 (D10.lastV y n l),.int .i64 (D10.lastE y n l)])/\Below w.heap.size w w':=by
 cases c:Cal.yearIn y
 ·rw [show D10.lastV y n l=0 by simp [D10.lastV,c],show D10.lastE y n l=2 by simp [D10.lastE,c]]
  exact heb_Last_year y n l w hy hT hL (D10.year_out y c)
 ·obtain⟨h1,h2⟩:=D10.year_in y c
  cases p:Cal.plOk (Cal.leap y) n l
  ·rw [show D10.lastV y n l=0 by simp [D10.lastV,p],show D10.lastE y n l=3 by simp [D10.lastE,c,p]]
   exact heb_Last_month y n l w hy hT hL h1 h2 p
  ·rw [show D10.lastV y n l=D10.dLen y (Cal.plV (Cal.leap y) n l) by simp [D10.lastV,c,p],show D10.lastE y n l=0 by simp [D10.lastE,c,p]]
   exact heb_Last_ok y n l w hy hT hL h1 h2 p
def D10.lessD(y n:Int)(l:Bool)(d z k:Int)(h:Bool)(f:Int):Bool:=if y=z then(if n=k/\l=h then decide (d<f)else Cal.lessV n l k h)else decide (y<z)
end Go.Proofs.YthpipedifekmpaaGreatDoor
end
section
namespace Go.Proofs.YthpipedifekmpaaGreatDoor
open Go.ChangeShapes Go.WideShapes Go.ChangeAt Go.RowKit
def ResAt(w:World)(g:Nat):Prop:=w.cell? ⟨g,0,none⟩=some (.int .i64 0)/\w.cell? ⟨g,1,none⟩=some (.int .i64 0)/\w.cell? ⟨g,2,none⟩=some (.bool false)/\w.cell? ⟨g,3,none⟩=some (.int .i64 0)/\(∀i,w.frozen? ⟨g,i,none⟩=false)/\g<w.heap.size
theorem ResAt.below{w w':World}{g:Nat}(h:ResAt w g)(hb:Below w.heap.size w w'):ResAt w' g:=by
 obtain⟨h0,h1,h2,h3,hf,hs⟩:=h
 have c:=fun i=>hb.cell (p:=⟨g,i,none⟩) hs
 exact⟨(c 0).trans h0,(c 1).trans h1,(c 2).trans h2,(c 3).trans h3,fun i=>(hb.frozen (p:=⟨g,i,none⟩) hs).trans (hf i),Nat.lt_of_lt_of_le hs hb.size⟩
theorem ResAt.but{w w':World}{g g':Nat}(h:ResAt w g)(hb:But g' w w')(hg:g≠g'):ResAt w' g:=by
 obtain⟨h0,h1,h2,h3,hf,hs⟩:=h
 have c:=fun i=>hb.cell (k:=g) (o:=i) hs hg
 exact⟨(c 0).trans h0,(c 1).trans h1,(c 2).trans h2,(c 3).trans h3,fun i=>(hb.frozen (k:=g) (o:=i) hs hg).trans (hf i),Nat.lt_of_lt_of_le hs hb.size⟩
theorem res_alloc(w:World)(t:TypeId):ResAt (w.alloc (.cells #[.int .i64 0,.int .i64 0,.bool false,.int .i64 0] t)) w.heap.size:=⟨by simp [go_sem],by simp [go_sem],by simp [go_sem],by simp [go_sem],fun i=>by simp [go_sem],by simp⟩
theorem heb_FromDay_at(y m d:Int)(w:World)(hT:Tab w 5 kevCells)(hL:Tab w 4 lenCells)(hv:D10.Valid y m d):
  Calls Tryo.prog 10 #[.int .i64 (D10.dayOf y m d)] w fun e w'=>e= .returned (.tuple #[.agg #[.int .i64 y,.int .i64 (Cal.ofN (Cal.leap y) m),.bool (Cal.ofL (Cal.leap y) m),.int .i64 d],.int .i64 0])/\Below w.heap.size w w':=by
 have hin:=D10.day_in hv
 have hbd:=D10.day_bd hv
 have hfb:=first_bd y (by have:=hv.1;omega) (by have:=hv.2.1;omega)
 have HY:=Lib.hid (fun w=>closed_Year_at (D10.dayOf y m d) y w hv.1 hv.2.1 hin.1 hin.2 hbd.1 hbd.2)
 have HP:=Lib.hid (fun g w h=>path_year_ok y hv.1 hv.2.1 g w h)
 have HO:=Lib.hid (fun w=>code_Of_any (Cal.leap y) m w (by have:=hv.2.2.2.1;unfold Cal.most at this;split at this <;> omega))
 have hF:=D10.day_find hv
 have HF:∀w,Tab w 5 kevCells->Tab w 4 lenCells->Calls Tryo.prog 28 #[.agg #[.int .i64 (Cal.first y % 7),.int .i64 (Cal.kind y),.bool (Cal.leap y)],.int .i64 (D10.dayOf y m d-Cal.first y+1)] w fun e w'=>e= .returned (.tuple #[.int .i64 m,.int .i64 d,.bool true])/\Below w.heap.size w w':=fun w hT hL=>by
  have:=month_Find (Cal.first y % 7) (Cal.kind y) (Cal.leap y) (D10.dayOf y m d-Cal.first y+1) w hT hL (by omega)
  rwa [hF]at this
 have HF:=Lib.hid HF
 clear hF
 rename_i HF0
 clear HF0
 generalize D10.dayOf y m d=D at*
 generalize Cal.ofN (Cal.leap y) m=cn at*
 generalize Cal.ofL (Cal.leap y) m=cl at*
 generalize Cal.ofOk (Cal.leap y) m=co at*
 generalize Cal.first y % 7=kb at*
 generalize Cal.first y=fy at*
 generalize Cal.kind y=kk at*
 generalize Cal.leap y=lp at*
 clear hv hin
 have hw1:=hT.lt
 have hw2:=hL.lt
 go_enter Tryo.func10,Tryz.ntmps10
 go_wp2_with fail
 refine(HY.out _).mono ?_
 rintro e w1 ⟨rfl,hb1⟩
 have hR1:=ResAt.below (res_alloc w _) hb1
 have hB1:=bt (ba _ _) hb1
 have hz1:=hR1.2.2.2.2.2
 clear hb1
 go_wp2_with fail
 refine settleC (fun W=>ResAt W w.heap.size/\PathAt W w1.heap.size 0 0 0 false 0 0 0/\Below w.heap.size w W) ⟨ResAt.below hR1 (ba _ _),⟨by simp [go_sem],by simp [go_sem],by simp [go_sem],by simp [go_sem],by simp [go_sem],by simp [go_sem],by simp [go_sem],fun i=>by simp [go_sem],by simp⟩,baa hB1 _⟩ ?_
 rintro W2 ⟨hR2,hP2,hB2⟩
 refine(HP.out w1.heap.size W2 hP2).mono ?_
 rintro e w3 ⟨rfl,hP3,hb3⟩
 have hR3:=ResAt.but hR2 hb3 (by omega)
 have hB3:Below w.heap.size w w3:=But.below hb3 hB2 (by omega)
 have hq:=hP3
 obtain⟨q0,q1,q2,q3,q4,q5,q6,qf,qs⟩:=hq
 go_wp2_with fail
 refine(HF.out _ (Tab.below hT hB3) (Tab.below hL hB3)).mono ?_
 rintro e w4 ⟨rfl,hb4⟩
 have hP4:=path_below hP3 hb4
 have hR4:=ResAt.below hR3 hb4
 have hB4:=bt hB3 hb4
 clear q0 q1 q2 q3 q4 q5 q6 qf qs
 have hq:=hP4
 obtain⟨q0,q1,q2,q3,q4,q5,q6,qf,qs⟩:=hq
 go_wp2_with fail
 refine(HO.out _).mono ?_
 rintro e w5 ⟨rfl,hb5⟩
 have hR5:=ResAt.below hR4 hb5
 have hB5:=bt hB4 hb5
 clear q0 q1 q2 q3 q4 q5 q6 qf qs
 obtain⟨r0,r1,r2,r3,rf,rs⟩:=hR5
 go_wp2_with fail
 refine bodyPost_ret (v:= .tuple #[.agg #[.int .i64 y,.int .i64 cn,.bool cl,.int .i64 d],.int .i64 0]) (by simp [results,Tryz.results10,go_sem, *]) rfl ⟨rfl, ?_⟩
 refine baa ?_ _
 iterate 4 refine Below.setCell ?_ (Nat.le_refl w.heap.size) _
 exact hB5
end Go.Proofs.YthpipedifekmpaaGreatDoor
end
