import Derived.Test.YtljbnicolhhicaaGreatDoorZPath
import Derived.Test.YtljbnicolhhicaaGreatDoorZDates
set_option linter.defProp false
set_option maxHeartbeats 8000000
set_option maxRecDepth 100000
set_option linter.unusedVariables false
namespace Go.Proofs.YtljbnicolhhicaaGreatDoor
section
open Go.ChangeShapes Go.WideShapes Go.ChangeAt Go.RowKit
namespace D10
def toF(y:Int):Int:=if Cal.dA y then Cal.first y else 0
def toM(y n:Int)(l:Bool):Int:=if Cal.dA y&&Cal.dH (Cal.leap y) n l then Cal.plV (Cal.leap y) n l else 0
def toO(y n:Int)(l:Bool)(d:Int):Int:=if aK y n l d=0 then jr y (Cal.plV (Cal.leap y) n l)+d-1 else 0
end D10
def Bb(w W:World)(y n:Int)(l:Bool)(d:Int):Prop:=
 W.cell? ⟨w.1.size,0,none⟩=some (y:vV)/\W.cell? ⟨w.1.size,1,none⟩=some (n:vV)/\W.cell? ⟨w.1.size,2,none⟩=some (.bool l)/\W.cell? ⟨w.1.size,3,none⟩=some (d:vV)/\w.1.size<W.1.size/\bn W (w.1.size+1) 0 0 0 false 0 0 0/\Below w.1.size w W/\Tab W 6 kevCells/\Tab W 4 lenCells
theorem Bb.but{w W W':World}{y n:Int}{l:Bool}{d:Int}(hw1:6<w.1.size)(hw2:4<w.1.size)(h:Bb w W y n l d)(hb:But (w.1.size+1+1) W W'):Bb w W' y n l d:=by
 obtain⟨h0,h1,h2,h3,hs,hp,hB,hT,hL⟩:=h
 have c:=fun i=>hb.cell (k:=w.1.size) (o:=i) hs vO
 exact⟨(c 0).trans h0,(c 1).trans h1,(c 2).trans h2,(c 3).trans h3,Nat.lt_of_lt_of_le hs hb.size,Xk hp hb vO,hb.below hB vO,But.tab hT hb vO,But.tab hL hb vO⟩
theorem WR(y n:Int)(l:Bool)(d:Int)(w:World)(hy:I64 y)(hT:Tab w 6 kevCells)(hL:Tab w 4 lenCells)(h1:1<=y)(h2:y<=9999)(hp:Cal.dH (Cal.leap y) n l=true)(hd1:1<=d)(hd2:d<=D10.dLen y (Cal.plV (Cal.leap y) n l)):
  vB 57 #[.agg #[y,n,l,d]] w (.agg #[Cal.first y,.int .i64 (Cal.first y % 7),Cal.kind y,Cal.leap y,Cal.plV (Cal.leap y) n l,.int .i64 (jM (Cal.first y % 7) (Cal.kind y) (Cal.leap y) (Cal.plV (Cal.leap y) n l)+d-1),(0:Int)]):=by
 have hw1:=hT.lt
 have hw2:=hL.lt
 go_enter (vF Tryz.func57),Tryz.ntmps57
 go_wp2_with fail
 refine bH (fun W=>Bb w W y n l d/\bn W (w.1.size+1+1) 0 0 0 false 0 0 0) ⟨⟨vG,vG,vG,vG,vQ,⟨vG,vG,vG,vG,vG,vG,vG,fun i=>by simp [go_sem],vS⟩,baa (baa (ba _ _) _) _,Tab.below hT (baa (baa (ba _ _) _) _),Tab.below hL (baa (baa (ba _ _) _) _)⟩,⟨vG,vG,vG,vG,vG,vG,vG,fun i=>by simp [go_sem],vS⟩⟩ ?_
 rintro W0 ⟨hS0,hP0⟩
 refine(jE y h1 h2 (w.1.size+1+1) _ hP0).mono ?_
 rintro e w1 ⟨rfl,hP1,hB1⟩
 have hS1:=Bb.but hw1 hw2 hS0 hB1
 have hs1:=hS1
 have hq1:=hP1
 obtain⟨s1b0,s1b1,s1b2,s1b3,s1bs,s1p,s1B,s1T,s1L⟩:=hs1
 obtain⟨q10,q11,q12,q13,q14,q15,q16,q1f,q1s⟩:=hq1
 have hr1:=s1p
 obtain⟨r10,r11,r12,r13,r14,r15,r16,r1f,r1s⟩:=hr1
 go_wp2_with fail
 clear s1b0 s1b1 s1b2 s1b3 s1bs s1p q10 q11 q12 q13 q14 q15 q16 q1f q1s r10 r11 r12 r13 r14 r15 r16 r1f r1s
 refine(qA n l _ _ _ _ hp (w.1.size+1+1) _ hP1).mono ?_
 rintro e w2 ⟨rfl,hP2,hB2⟩
 have hS2:=Bb.but hw1 hw2 hS1 hB2
 have hs2:=hS2
 have hq2:=hP2
 obtain⟨s2b0,s2b1,s2b2,s2b3,s2bs,s2p,s2B,s2T,s2L⟩:=hs2
 obtain⟨q20,q21,q22,q23,q24,q25,q26,q2f,q2s⟩:=hq2
 have hr2:=s2p
 obtain⟨r20,r21,r22,r23,r24,r25,r26,r2f,r2s⟩:=hr2
 go_wp2_with fail
 clear s2b0 s2b1 s2b2 s2b3 s2bs s2p q20 q21 q22 q23 q24 q25 q26 q2f q2s r20 r21 r22 r23 r24 r25 r26 r2f r2s
 refine(Qr d _ _ _ _ _ hd1 hd2 (w.1.size+1+1) _ s2T s2L hP2).mono ?_
 rintro e w3 ⟨rfl,hP3,hB3⟩
 have hS3:=Bb.but hw1 hw2 hS2 hB3
 have hs3:=hS3
 have hq3:=hP3
 obtain⟨s3b0,s3b1,s3b2,s3b3,s3bs,s3p,s3B,s3T,s3L⟩:=hs3
 obtain⟨q30,q31,q32,q33,q34,q35,q36,q3f,q3s⟩:=hq3
 have hr3:=s3p
 obtain⟨r30,r31,r32,r33,r34,r35,r36,r3f,r3s⟩:=hr3
 go_wp2_with fail
 refine bodyPost_ret (v:= .agg #[Cal.first y,.int .i64 (Cal.first y % 7),Cal.kind y,Cal.leap y,Cal.plV (Cal.leap y) n l,.int .i64 (jM (Cal.first y % 7) (Cal.kind y) (Cal.leap y) (Cal.plV (Cal.leap y) n l)+d-1),(0:Int)]) (by simp [results,Tryz.results57,go_sem, *]) rfl ⟨rfl, ?_⟩
 iterate 7 refine Below.setCell ?_ (show w.1.size<=w.1.size+1 from Nat.le_succ _) _
 exact s3B
theorem BK:(∀(y n:Int)(l:Bool)(d:Int)(w:World)(hy:I64 y)(hT:Tab w 6 kevCells)(hL:Tab w 4 lenCells)(h1:1<=y)(h2:y<=9999)(hp:Cal.dH (Cal.leap y) n l=true)(hd1:d<1),vB 57 #[.agg #[y,n,l,d]] w (.agg #[Cal.first y,.int .i64 (Cal.first y % 7),Cal.kind y,Cal.leap y,Cal.plV (Cal.leap y) n l,(0:Int),(4:Int)]))/\(∀(y n:Int)(l:Bool)(d:Int)(w:World)(hy:I64 y)(hT:Tab w 6 kevCells)(hL:Tab w 4 lenCells)(h1:1<=y)(h2:y<=9999)(hp:Cal.dH (Cal.leap y) n l=true)(hd1:1<=d)(hd2:D10.dLen y (Cal.plV (Cal.leap y) n l)<d),vB 57 #[.agg #[y,n,l,d]] w (.agg #[Cal.first y,.int .i64 (Cal.first y % 7),Cal.kind y,Cal.leap y,Cal.plV (Cal.leap y) n l,(0:Int),(4:Int)])):=by
 refine⟨@fun y n l d w hy hT hL h1 h2 hp hd1=>(fun(k90:Nat)=> ?_) 0,@fun y n l d w hy hT hL h1 h2 hp hd1 hd2=> ?_⟩
 all_goals(
 have hw1:=hT.lt
 have hw2:=hL.lt
 go_enter (vF Tryz.func57),Tryz.ntmps57
 go_wp2_with fail
 refine bH (fun W=>Bb w W y n l d/\bn W (w.1.size+1+1) 0 0 0 false 0 0 0) ⟨⟨vG,vG,vG,vG,vQ,⟨vG,vG,vG,vG,vG,vG,vG,fun i=>by simp [go_sem],vS⟩,baa (baa (ba _ _) _) _,Tab.below hT (baa (baa (ba _ _) _) _),Tab.below hL (baa (baa (ba _ _) _) _)⟩,⟨vG,vG,vG,vG,vG,vG,vG,fun i=>by simp [go_sem],vS⟩⟩ ?_
 rintro W0 ⟨hS0,hP0⟩
 refine(jE y h1 h2 (w.1.size+1+1) _ hP0).mono ?_
 rintro e w1 ⟨rfl,hP1,hB1⟩
 have hS1:=Bb.but hw1 hw2 hS0 hB1
 have hs1:=hS1
 have hq1:=hP1
 obtain⟨s1b0,s1b1,s1b2,s1b3,s1bs,s1p,s1B,s1T,s1L⟩:=hs1
 obtain⟨q10,q11,q12,q13,q14,q15,q16,q1f,q1s⟩:=hq1
 have hr1:=s1p
 obtain⟨r10,r11,r12,r13,r14,r15,r16,r1f,r1s⟩:=hr1
 go_wp2_with fail
 clear s1b0 s1b1 s1b2 s1b3 s1bs s1p q10 q11 q12 q13 q14 q15 q16 q1f q1s r10 r11 r12 r13 r14 r15 r16 r1f r1s
 refine(qA n l _ _ _ _ hp (w.1.size+1+1) _ hP1).mono ?_
 rintro e w2 ⟨rfl,hP2,hB2⟩
 have hS2:=Bb.but hw1 hw2 hS1 hB2
 have hs2:=hS2
 have hq2:=hP2
 obtain⟨s2b0,s2b1,s2b2,s2b3,s2bs,s2p,s2B,s2T,s2L⟩:=hs2
 obtain⟨q20,q21,q22,q23,q24,q25,q26,q2f,q2s⟩:=hq2
 have hr2:=s2p
 obtain⟨r20,r21,r22,r23,r24,r25,r26,r2f,r2s⟩:=hr2
 go_wp2_with fail
 clear s2b0 s2b1 s2b2 s2b3 s2bs s2p q20 q21 q22 q23 q24 q25 q26 q2f q2s r20 r21 r22 r23 r24 r25 r26 r2f r2s
 first|(have _:=k90;refine(Nk d _ _ _ _ _ hd1 (w.1.size+1+1) _ s2T s2L hP2).mono ?_)|(refine(KJ d _ _ _ _ _ hd1 hd2 (w.1.size+1+1) _ s2T s2L hP2).mono ?_)
 rintro e w3 ⟨rfl,hP3,hB3⟩
 have hS3:=Bb.but hw1 hw2 hS2 hB3
 have hs3:=hS3
 have hq3:=hP3
 obtain⟨s3b0,s3b1,s3b2,s3b3,s3bs,s3p,s3B,s3T,s3L⟩:=hs3
 obtain⟨q30,q31,q32,q33,q34,q35,q36,q3f,q3s⟩:=hq3
 have hr3:=s3p
 obtain⟨r30,r31,r32,r33,r34,r35,r36,r3f,r3s⟩:=hr3
 go_wp2_with fail
 refine bodyPost_ret (v:= .agg #[Cal.first y,.int .i64 (Cal.first y % 7),Cal.kind y,Cal.leap y,Cal.plV (Cal.leap y) n l,(0:Int),(4:Int)]) (by simp [results,Tryz.results57,go_sem, *]) rfl ⟨rfl, ?_⟩
 iterate 7 refine Below.setCell ?_ (show w.1.size<=w.1.size+1 from Nat.le_succ _) _
 exact s3B
 )
def Uq:=BK.1
def PE:=BK.2
theorem zI:(∀(y n:Int)(l:Bool)(d:Int)(w:World)(hy:I64 y)(hT:Tab w 6 kevCells)(hL:Tab w 4 lenCells)(h1:1<=y)(h2:y<=9999)(hp:Cal.dH (Cal.leap y) n l=false),vB 57 #[.agg #[y,n,l,d]] w (.agg #[Cal.first y,.int .i64 (Cal.first y % 7),Cal.kind y,Cal.leap y,(0:Int),(0:Int),(3:Int)]))/\(∀(y n:Int)(l:Bool)(d:Int)(w:World)(hy:I64 y)(hT:Tab w 6 kevCells)(hL:Tab w 4 lenCells)(h:y<1∨9999<y),vB 57 #[.agg #[y,n,l,d]] w (.agg #[(0:Int),(0:Int),(0:Int),false,(0:Int),(0:Int),(2:Int)])):=by
 refine⟨@fun y n l d w hy hT hL h1 h2 hp=>(fun(k90:Nat)=> ?_) 0,@fun y n l d w hy hT hL h=> ?_⟩
 all_goals(
 have hw1:=hT.lt
 have hw2:=hL.lt
 go_enter (vF Tryz.func57),Tryz.ntmps57
 go_wp2_with fail
 refine bH (fun W=>Bb w W y n l d/\bn W (w.1.size+1+1) 0 0 0 false 0 0 0) ⟨⟨vG,vG,vG,vG,vQ,⟨vG,vG,vG,vG,vG,vG,vG,fun i=>by simp [go_sem],vS⟩,baa (baa (ba _ _) _) _,Tab.below hT (baa (baa (ba _ _) _) _),Tab.below hL (baa (baa (ba _ _) _) _)⟩,⟨vG,vG,vG,vG,vG,vG,vG,fun i=>by simp [go_sem],vS⟩⟩ ?_
 rintro W0 ⟨hS0,hP0⟩
 first|(have _:=k90;refine(jE y h1 h2 (w.1.size+1+1) _ hP0).mono ?_)|(refine(BU y hy h (w.1.size+1+1) _ hP0).mono ?_)
 rintro e w1 ⟨rfl,hP1,hB1⟩
 have hS1:=Bb.but hw1 hw2 hS0 hB1
 have hs1:=hS1
 have hq1:=hP1
 obtain⟨s1b0,s1b1,s1b2,s1b3,s1bs,s1p,s1B,s1T,s1L⟩:=hs1
 obtain⟨q10,q11,q12,q13,q14,q15,q16,q1f,q1s⟩:=hq1
 have hr1:=s1p
 obtain⟨r10,r11,r12,r13,r14,r15,r16,r1f,r1s⟩:=hr1
 go_wp2_with fail
 clear s1b0 s1b1 s1b2 s1b3 s1bs s1p q10 q11 q12 q13 q14 q15 q16 q1f q1s r10 r11 r12 r13 r14 r15 r16 r1f r1s
 first|(have _:=k90;refine(AR n l _ _ _ _ hp (w.1.size+1+1) _ hP1).mono ?_)|(refine(zk n l _ _ _ _ _ _ _ vD (w.1.size+1+1) _ hP1).mono ?_)
 rintro e w2 ⟨rfl,hP2,hB2⟩
 have hS2:=Bb.but hw1 hw2 hS1 hB2
 have hs2:=hS2
 have hq2:=hP2
 obtain⟨s2b0,s2b1,s2b2,s2b3,s2bs,s2p,s2B,s2T,s2L⟩:=hs2
 obtain⟨q20,q21,q22,q23,q24,q25,q26,q2f,q2s⟩:=hq2
 have hr2:=s2p
 obtain⟨r20,r21,r22,r23,r24,r25,r26,r2f,r2s⟩:=hr2
 go_wp2_with fail
 clear s2b0 s2b1 s2b2 s2b3 s2bs s2p q20 q21 q22 q23 q24 q25 q26 q2f q2s r20 r21 r22 r23 r24 r25 r26 r2f r2s
 refine(NV d _ _ _ _ _ _ _ vD (w.1.size+1+1) _ hP2).mono ?_
 rintro e w3 ⟨rfl,hP3,hB3⟩
 have hS3:=Bb.but hw1 hw2 hS2 hB3
 have hs3:=hS3
 have hq3:=hP3
 obtain⟨s3b0,s3b1,s3b2,s3b3,s3bs,s3p,s3B,s3T,s3L⟩:=hs3
 obtain⟨q30,q31,q32,q33,q34,q35,q36,q3f,q3s⟩:=hq3
 have hr3:=s3p
 obtain⟨r30,r31,r32,r33,r34,r35,r36,r3f,r3s⟩:=hr3
 go_wp2_with fail
 first|(have _:=k90;refine bodyPost_ret (v:= .agg #[Cal.first y,.int .i64 (Cal.first y % 7),Cal.kind y,Cal.leap y,(0:Int),(0:Int),(3:Int)]) (by simp [results,Tryz.results57,go_sem, *]) rfl ⟨rfl, ?_⟩)|(refine bodyPost_ret (v:= .agg #[(0:Int),(0:Int),(0:Int),false,(0:Int),(0:Int),(2:Int)]) (by simp [results,Tryz.results57,go_sem, *]) rfl ⟨rfl, ?_⟩)
 iterate 7 refine Below.setCell ?_ (show w.1.size<=w.1.size+1 from Nat.le_succ _) _
 exact s3B
 )
def Nq:=zI.1
def RX:=zI.2
namespace D10
theorem QI(y n:Int)(l:Bool)(d:Int):(Cal.dA y=false/\aK y n l d=2)∨(Cal.dA y=true/\Cal.dH (Cal.leap y) n l=false/\aK y n l d=3)∨
  (Cal.dA y=true/\Cal.dH (Cal.leap y) n l=true/\d<1/\aK y n l d=4)∨(Cal.dA y=true/\Cal.dH (Cal.leap y) n l=true/\1<=d/\dLen y (Cal.plV (Cal.leap y) n l)<d/\aK y n l d=4)∨
  (Cal.dA y=true/\Cal.dH (Cal.leap y) n l=true/\1<=d/\d<=dLen y (Cal.plV (Cal.leap y) n l)/\aK y n l d=0):=by
 unfold aK
 cases Cal.dA y <;> cases Cal.dH (Cal.leap y) n l <;> simp
 by_cases c:d<1
 ·left
  refine⟨c,fun h=> ?_⟩
  omega
 ·right
  by_cases c2:dLen y (Cal.plV (Cal.leap y) n l)<d
  ·left
   refine⟨vO,c2,fun h=> ?_⟩
   omega
  ·right
   exact⟨vO,vO,vO,vO⟩
end D10
theorem YV(y n:Int)(l:Bool)(d:Int)(w:World)(hy:I64 y)(hT:Tab w 6 kevCells)(hL:Tab w 4 lenCells):
  vB 57 #[.agg #[y,n,l,d]] w (.agg #[D10.toF y,Cal.tyB y,Cal.tyK y,Cal.tyL y,D10.toM y n l,D10.toO y n l d,D10.aK y n l d]):=by
 rcases D10.QI y n l d with ⟨c,e⟩|⟨c,p,e⟩|⟨c,p,h3,e⟩|⟨c,p,h3,h4,e⟩|⟨c,p,h3,h4,e⟩
 ·have h:=D10.Jm y c
  obtain⟨_,_,e1,e2,e3⟩:=Cal.Y9 y h
  rw [e,e1,e2,e3,show D10.toF y=0 by simp [D10.toF,c],show D10.toM y n l=0 by simp [D10.toM,c],show D10.toO y n l d=0 by simp [D10.toO,e]]
  exact RX y n l d w hy hT hL h
 all_goals obtain⟨h1,h2⟩:=D10.uj y c
 all_goals obtain⟨_,_,e1,e2,e3⟩:=Cal.Z7 y h1 h2
 ·rw [e,e1,e2,e3,show D10.toF y=Cal.first y by simp [D10.toF,c],show D10.toM y n l=0 by simp [D10.toM,c,p],show D10.toO y n l d=0 by simp [D10.toO,e]]
  exact Nq y n l d w hy hT hL h1 h2 p
 ·rw [e,e1,e2,e3,show D10.toF y=Cal.first y by simp [D10.toF,c],show D10.toM y n l=Cal.plV (Cal.leap y) n l by simp [D10.toM,c,p],show D10.toO y n l d=0 by simp [D10.toO,e]]
  exact Uq y n l d w hy hT hL h1 h2 p h3
 ·rw [e,e1,e2,e3,show D10.toF y=Cal.first y by simp [D10.toF,c],show D10.toM y n l=Cal.plV (Cal.leap y) n l by simp [D10.toM,c,p],show D10.toO y n l d=0 by simp [D10.toO,e]]
  exact PE y n l d w hy hT hL h1 h2 p h3 h4
 ·rw [e,e1,e2,e3,show D10.toF y=Cal.first y by simp [D10.toF,c],show D10.toM y n l=Cal.plV (Cal.leap y) n l by simp [D10.toM,c,p],show D10.toO y n l d=D10.jr y (Cal.plV (Cal.leap y) n l)+d-1 by simp [D10.toO,e]]
  exact WR y n l d w hy hT hL h1 h2 p h3 h4
end
section
open Go.ChangeShapes Go.WideShapes Go.ChangeAt Go.RowKit
theorem je(y n:Int)(l:Bool)(d:Int)(w:World)(hy:I64 y)(hT:Tab w 6 kevCells)(hL:Tab w 4 lenCells):
  vB 56 #[.agg #[y,n,l,d]] w (.int .i64 (D10.aK y n l d)):=by
 go_enter (vF Tryz.func56),Tryz.ntmps56
 go_wp2_with fail
 refine(YV y n l d _ hy (Tab.below hT (ba _ _)) (Tab.below hL (ba _ _))).mono ?_
 rintro e w1 ⟨rfl,hb1⟩
 have hb:Below w.1.size w w1:=bt (ba _ _) hb1
 go_wp2_with fail
 go_ret
 exact⟨rfl,baa hb _⟩
theorem D10.qg(y n:Int)(l:Bool)(d:Int)(h:D10.aK y n l d=0):D10.toF y+D10.toO y n l d=D10.aM y n l d/\ -1373427<=D10.aM y n l d/\D10.aM y n l d<=2278650:=by
 have hv:=D10.bq h
 have hb:=D10.Im hv.1
 have e:D10.aM y n l d=D10.bA y (Cal.plV (Cal.leap y) n l) d:=by simp [D10.aM,h]
 rw [e]
 refine⟨?_,hb⟩
 have hy:=Cal.dN y hv.1.1 hv.1.2.1
 simp only [D10.toF,D10.toO,D10.bA,hy,h,if_true]
 omega
theorem D10.aax(y n:Int)(l:Bool)(d:Int)(h:¬ D10.aK y n l d=0):D10.aM y n l d=0:=by simp [D10.aM,h]
theorem lW(y n:Int)(l:Bool)(d:Int)(w:World)(hy:I64 y)(hT:Tab w 6 kevCells)(hL:Tab w 4 lenCells):
  vB 29 #[.agg #[y,n,l,d]] w (.tuple #[D10.aM y n l d,D10.aK y n l d]):=by
 have hto:=Lib.hid (fun w hT hL=>YV y n l d w hy hT hL)
 by_cases c:D10.aK y n l d=0
 ·obtain⟨e1,e2,e3⟩:=D10.qg y n l d c
  have HE:=Lib.hid e1
  rw [←e1]at e2 e3
  clear e1
  rw [←HE.out]
  generalize D10.toF y=tf at*
  generalize D10.toO y n l d=to at*
  generalize D10.aK y n l d=de at*
  subst c
  go_enter (vF Tryz.func29),Tryz.ntmps29
  go_wp2_with fail
  refine(hto.out _ (Tab.below hT (ba _ _)) (Tab.below hL (ba _ _))).mono ?_
  rintro e w1 ⟨rfl,hb1⟩
  have hb:Below w.1.size w w1:=bt (ba _ _) hb1
  go_wp2_with fail
  go_ret2
  exact⟨rfl,baa hb _⟩
 ·rw [D10.aax y n l d c]
  generalize D10.aK y n l d=de at*
  go_enter (vF Tryz.func29),Tryz.ntmps29
  go_wp2_with fail
  refine(hto.out _ (Tab.below hT (ba _ _)) (Tab.below hL (ba _ _))).mono ?_
  rintro e w1 ⟨rfl,hb1⟩
  have hb:Below w.1.size w w1:=bt (ba _ _) hb1
  go_wp2_with fail
  go_region
  all_goals go_wp2_with fail
  all_goals go_ret2
  all_goals exact⟨rfl,aT (baa hb _)⟩
def uh(w W:World)(n:Int)(l:Bool):Prop:=
 W.cell? ⟨w.1.size,0,none⟩=some (n:vV)/\W.cell? ⟨w.1.size,1,none⟩=some (.bool l)/\w.1.size<W.1.size/\Below w.1.size w W/\Tab W 6 kevCells/\Tab W 4 lenCells
theorem uh.but{w W W':World}{n:Int}{l:Bool}(hw1:6<w.1.size)(hw2:4<w.1.size)(h:uh w W n l)(hb:But (w.1.size+1) W W'):uh w W' n l:=by
 obtain⟨h0,h1,hs,hB,hT,hL⟩:=h
 have c:=fun i=>hb.cell (k:=w.1.size) (o:=i) hs vO
 exact⟨(c 0).trans h0,(c 1).trans h1,Nat.lt_of_lt_of_le hs hb.size,hb.below hB vO,But.tab hT hb vO,But.tab hL hb vO⟩
theorem SH(y n:Int)(l:Bool)(w:World)(hy:I64 y)(hT:Tab w 6 kevCells)(hL:Tab w 4 lenCells)(h1:1<=y)(h2:y<=9999)(hp:Cal.dH (Cal.leap y) n l=true):
  vB 87 #[y,.agg #[n,l]] w (.tuple #[uI (Cal.first y % 7) (Cal.kind y) (Cal.leap y) (Cal.plV (Cal.leap y) n l),(0:Int)]):=by
 have hw1:=hT.lt
 have hw2:=hL.lt
 go_enter (vF Tryz.func87),Tryz.ntmps87
 go_wp2_with fail
 refine bH (fun W=>uh w W n l/\bn W (w.1.size+1) 0 0 0 false 0 0 0) ⟨⟨vG,vG,vQ,baa (ba _ _) _,Tab.below hT (baa (ba _ _) _),Tab.below hL (baa (ba _ _) _)⟩,⟨vG,vG,vG,vG,vG,vG,vG,fun i=>by simp [go_sem],vS⟩⟩ ?_
 rintro W0 ⟨hS0,hP0⟩
 refine(jE y h1 h2 (w.1.size+1) _ hP0).mono ?_
 rintro e w1 ⟨rfl,hP1,hB1⟩
 have hS1:=uh.but hw1 hw2 hS0 hB1
 have hs1:=hS1
 have hq1:=hP1
 obtain⟨s1b0,s1b1,s1bs,s1B,s1T,s1L⟩:=hs1
 obtain⟨q10,q11,q12,q13,q14,q15,q16,q1f,q1s⟩:=hq1
 go_wp2_with fail
 clear s1b0 s1b1 s1bs q10 q11 q12 q13 q14 q15 q16 q1f q1s
 refine(qA n l _ _ _ _ hp (w.1.size+1) _ hP1).mono ?_
 rintro e w2 ⟨rfl,hP2,hB2⟩
 have hS2:=uh.but hw1 hw2 hS1 hB2
 have hs2:=hS2
 have hq2:=hP2
 obtain⟨s2b0,s2b1,s2bs,s2B,s2T,s2L⟩:=hs2
 obtain⟨q20,q21,q22,q23,q24,q25,q26,q2f,q2s⟩:=hq2
 go_wp2_with fail
 refine(DX _ _ _ _ _ _ _ (w.1.size+1) _ s2T s2L hP2).mono ?_
 rintro e w3 ⟨rfl,hb3⟩
 go_wp2_with fail
 go_ret2
 exact⟨rfl,bt s2B hb3⟩
theorem q9:(∀(y n:Int)(l:Bool)(w:World)(hy:I64 y)(hT:Tab w 6 kevCells)(hL:Tab w 4 lenCells)(h1:1<=y)(h2:y<=9999)(hp:Cal.dH (Cal.leap y) n l=false),vB 87 #[y,.agg #[n,l]] w (.tuple #[(0:Int),(3:Int)]))/\(∀(y n:Int)(l:Bool)(w:World)(hy:I64 y)(hT:Tab w 6 kevCells)(hL:Tab w 4 lenCells)(h:y<1∨9999<y),vB 87 #[y,.agg #[n,l]] w (.tuple #[(0:Int),(2:Int)])):=by
 refine⟨@fun y n l w hy hT hL h1 h2 hp=>(fun(k90:Nat)=> ?_) 0,@fun y n l w hy hT hL h=> ?_⟩
 all_goals(
 have hw1:=hT.lt
 have hw2:=hL.lt
 go_enter (vF Tryz.func87),Tryz.ntmps87
 go_wp2_with fail
 refine bH (fun W=>uh w W n l/\bn W (w.1.size+1) 0 0 0 false 0 0 0) ⟨⟨vG,vG,vQ,baa (ba _ _) _,Tab.below hT (baa (ba _ _) _),Tab.below hL (baa (ba _ _) _)⟩,⟨vG,vG,vG,vG,vG,vG,vG,fun i=>by simp [go_sem],vS⟩⟩ ?_
 rintro W0 ⟨hS0,hP0⟩
 first|(have _:=k90;refine(jE y h1 h2 (w.1.size+1) _ hP0).mono ?_)|(refine(BU y hy h (w.1.size+1) _ hP0).mono ?_)
 rintro e w1 ⟨rfl,hP1,hB1⟩
 have hS1:=uh.but hw1 hw2 hS0 hB1
 have hs1:=hS1
 have hq1:=hP1
 obtain⟨s1b0,s1b1,s1bs,s1B,s1T,s1L⟩:=hs1
 obtain⟨q10,q11,q12,q13,q14,q15,q16,q1f,q1s⟩:=hq1
 go_wp2_with fail
 clear s1b0 s1b1 s1bs q10 q11 q12 q13 q14 q15 q16 q1f q1s
 first|(have _:=k90;refine(AR n l _ _ _ _ hp (w.1.size+1) _ hP1).mono ?_)|(refine(zk n l _ _ _ _ _ _ _ vD (w.1.size+1) _ hP1).mono ?_)
 rintro e w2 ⟨rfl,hP2,hB2⟩
 have hS2:=uh.but hw1 hw2 hS1 hB2
 have hs2:=hS2
 have hq2:=hP2
 obtain⟨s2b0,s2b1,s2bs,s2B,s2T,s2L⟩:=hs2
 obtain⟨q20,q21,q22,q23,q24,q25,q26,q2f,q2s⟩:=hq2
 go_wp2_with fail
 go_region
 all_goals go_wp2_with fail
 all_goals go_ret2
 all_goals exact⟨rfl,aT s2B⟩
 )
def H9:=q9.1
def KD:=q9.2
theorem kF(y n:Int)(l:Bool)(w:World)(hy:I64 y)(hT:Tab w 6 kevCells)(hL:Tab w 4 lenCells):
  vB 87 #[y,.agg #[n,l]] w (.tuple #[D10.aY y n l,D10.bO y n l]):=by
 cases c:Cal.dA y
 ·rw [show D10.aY y n l=0 by simp [D10.aY,c],show D10.bO y n l=2 by simp [D10.bO,c]]
  exact KD y n l w hy hT hL (D10.Jm y c)
 ·obtain⟨h1,h2⟩:=D10.uj y c
  cases p:Cal.dH (Cal.leap y) n l
  ·rw [show D10.aY y n l=0 by simp [D10.aY,p],show D10.bO y n l=3 by simp [D10.bO,c,p]]
   exact H9 y n l w hy hT hL h1 h2 p
  ·rw [show D10.aY y n l=D10.dLen y (Cal.plV (Cal.leap y) n l) by simp [D10.aY,c,p],show D10.bO y n l=0 by simp [D10.bO,c,p]]
   exact SH y n l w hy hT hL h1 h2 p
def D10.kN(y n:Int)(l:Bool)(d z k:Int)(h:Bool)(f:Int):Bool:=if y=z then(if n=k/\l=h then decide (d<f)else Cal.pQ n l k h)else decide (y<z)
theorem P7(y n:Int)(l:Bool)(d z k:Int)(h:Bool)(f:Int)(w:World)(c:¬ y=z):
  vB 121 #[.agg #[y,n,l,d],.agg #[z,k,h,f]] w (.bool (decide (y<z))):=by
 go_enter (vF Tryz.func121),Tryz.ntmps121
 go_wp2_with fail
 go_ret
 exact⟨rfl,baa (ba _ _) _⟩
theorem Nt(y n:Int)(l:Bool)(d k:Int)(h:Bool)(f:Int)(w:World)(c:¬ n=k):
  vB 121 #[.agg #[y,n,l,d],.agg #[y,k,h,f]] w (.bool (Cal.pQ n l k h)):=by
 go_enter (vF Tryz.func121),Tryz.ntmps121
 go_wp2_with fail
 refine(qx _ _ _ _ _).mono ?_
 rintro e w1 ⟨rfl,hb1⟩
 go_wp2_with fail
 go_ret
 exact⟨rfl,bt (baa (ba _ _) _) hb1⟩
theorem La(y n d f:Int)(w:World):
  vB 121 #[.agg #[y,n,true,d],.agg #[y,n,false,f]] w (.bool (Cal.pQ n true n false)):=by
 go_enter (vF Tryz.func121),Tryz.ntmps121
 go_wp2_with fail
 refine(qx _ _ _ _ _).mono ?_
 rintro e w1 ⟨rfl,hb1⟩
 go_wp2_with fail
 go_ret
 exact⟨rfl,bt (baa (ba _ _) _) hb1⟩
theorem J5(y n d f:Int)(w:World):
  vB 121 #[.agg #[y,n,false,d],.agg #[y,n,true,f]] w (.bool (Cal.pQ n false n true)):=by
 go_enter (vF Tryz.func121),Tryz.ntmps121
 go_wp2_with fail
 refine(qx _ _ _ _ _).mono ?_
 rintro e w1 ⟨rfl,hb1⟩
 go_wp2_with fail
 go_ret
 exact⟨rfl,bt (baa (ba _ _) _) hb1⟩
theorem AO(y n:Int)(l:Bool)(d f:Int)(w:World):
  vB 121 #[.agg #[y,n,l,d],.agg #[y,n,l,f]] w (.bool (decide (d<f))):=by
 go_enter (vF Tryz.func121),Tryz.ntmps121
 go_wp2_with fail
 go_ret
 exact⟨rfl,baa (ba _ _) _⟩
theorem Jy(y n:Int)(l:Bool)(d z k:Int)(h:Bool)(f:Int)(w:World):
  vB 121 #[.agg #[y,n,l,d],.agg #[z,k,h,f]] w (.bool (D10.kN y n l d z k h f)):=by
 by_cases c:y=z
 ·subst c
  by_cases c2:n=k
  ·subst c2
   cases l <;> cases h
   ·rw [show D10.kN y n false d y n false f=decide (d<f) by simp [D10.kN]]
    exact AO y n false d f w
   ·rw [show D10.kN y n false d y n true f=Cal.pQ n false n true by simp [D10.kN]]
    exact J5 y n d f w
   ·rw [show D10.kN y n true d y n false f=Cal.pQ n true n false by simp [D10.kN]]
    exact La y n d f w
   ·rw [show D10.kN y n true d y n true f=decide (d<f) by simp [D10.kN]]
    exact AO y n true d f w
  ·rw [show D10.kN y n l d y k h f=Cal.pQ n l k h by simp [D10.kN,c2]]
   exact Nt y n l d k h f w c2
 ·rw [show D10.kN y n l d z k h f=decide (y<z) by simp [D10.kN,c]]
  exact P7 y n l d z k h f w c
end
section
open Go.ChangeShapes Go.WideShapes Go.ChangeAt Go.RowKit
def jL(w:World)(g:Nat):Prop:=w.cell? ⟨g,0,none⟩=some (.int .i64 0)/\w.cell? ⟨g,1,none⟩=some (.int .i64 0)/\w.cell? ⟨g,2,none⟩=some (.bool false)/\w.cell? ⟨g,3,none⟩=some (.int .i64 0)/\(∀i,w.frozen? ⟨g,i,none⟩=false)/\g<w.1.size
theorem jL.below{w w':World}{g:Nat}(h:jL w g)(hb:Below w.1.size w w'):jL w' g:=by
 obtain⟨h0,h1,h2,h3,hf,hs⟩:=h
 have c:=fun i=>hb.cell (p:=⟨g,i,none⟩) hs
 exact⟨(c 0).trans h0,(c 1).trans h1,(c 2).trans h2,(c 3).trans h3,fun i=>(hb.frozen (p:=⟨g,i,none⟩) hs).trans (hf i),Nat.lt_of_lt_of_le hs hb.size⟩
theorem jL.but{w w':World}{g g':Nat}(h:jL w g)(hb:But g' w w')(hg:g≠g'):jL w' g:=by
 obtain⟨h0,h1,h2,h3,hf,hs⟩:=h
 have c:=fun i=>hb.cell (k:=g) (o:=i) hs hg
 exact⟨(c 0).trans h0,(c 1).trans h1,(c 2).trans h2,(c 3).trans h3,fun i=>(hb.frozen (k:=g) (o:=i) hs hg).trans (hf i),Nat.lt_of_lt_of_le hs hb.size⟩
theorem LH(w:World)(t:TypeId):jL (w.alloc (.cells #[(0:Int),(0:Int),false,(0:Int)] t)) w.1.size:=⟨vG,vG,vG,vG,fun i=>by simp [go_sem],vS⟩
theorem kR(D:Int)(w:World)(h:D< -1373427∨2278650<D):
  vB 31 #[D] w (.tuple #[.agg #[(0:Int),(0:Int),false,(0:Int)],(2:Int)]):=by
 go_enter (vF Tryz.func31),Tryz.ntmps31
 go_wp2_with fail
 refine(zD D _ h).mono ?_
 rintro e w1 ⟨rfl,hb1⟩
 have hR:=jL.below (LH w _) hb1
 have hB:=bt (ba _ _) hb1
 clear hb1
 obtain⟨r0,r1,r2,r3,rf,rs⟩:=hR
 go_wp2_with fail
 refine bodyPost_ret (v:= .tuple #[.agg #[(0:Int),(0:Int),false,(0:Int)],(2:Int)]) (by simp [results,Tryz.results31,go_sem, *]) rfl ⟨rfl, ?_⟩
 iterate 4 refine Below.setCell ?_ (Nat.le_refl w.1.size) _
 exact hB
theorem iE(y m d:Int)(w:World)(hT:Tab w 6 kevCells)(hL:Tab w 4 lenCells)(hv:D10.Valid y m d):
  vB 31 #[D10.bA y m d] w (.tuple #[.agg #[y,Cal.ofN (Cal.leap y) m,Cal.ofL (Cal.leap y) m,d],(0:Int)]):=by
 have hin:=D10.Ep hv
 have hbd:=D10.Im hv
 have hfb:=iY y (by have:=hv.1;omega) (by have:=hv.2.1;omega)
 have HY:=Lib.hid (fun w=>yT (D10.bA y m d) y w hv.1 hv.2.1 hin.1 hin.2 hbd.1 hbd.2)
 have HP:=Lib.hid (fun g w h=>jE y hv.1 hv.2.1 g w h)
 have HO:=Lib.hid (fun w=>ES (Cal.leap y) m w (by have:=hv.2.2.2.1;unfold Cal.most at this;split at this <;> omega))
 have hF:=D10.X9 hv
 have HF:∀w,Tab w 6 kevCells->Tab w 4 lenCells->vB 61 #[.agg #[.int .i64 (Cal.first y % 7),Cal.kind y,Cal.leap y],.int .i64 (D10.bA y m d-Cal.first y+1)] w (.tuple #[m,d,true]):=fun w hT hL=>by
  have:=Te (Cal.first y % 7) (Cal.kind y) (Cal.leap y) (D10.bA y m d-Cal.first y+1) w hT hL vO
  rwa [hF]at this
 have HF:=Lib.hid HF
 clear hF
 rename_i HF0
 clear HF0
 generalize D10.bA y m d=D at*
 generalize Cal.ofN (Cal.leap y) m=cn at*
 generalize Cal.ofL (Cal.leap y) m=cl at*
 generalize Cal.qo (Cal.leap y) m=co at*
 generalize Cal.first y % 7=kb at*
 generalize Cal.first y=fy at*
 generalize Cal.kind y=kk at*
 generalize Cal.leap y=lp at*
 clear hv hin
 have hw1:=hT.lt
 have hw2:=hL.lt
 go_enter (vF Tryz.func31),Tryz.ntmps31
 go_wp2_with fail
 refine(HY.out _).mono ?_
 rintro e w1 ⟨rfl,hb1⟩
 have hR1:=jL.below (LH w _) hb1
 have hB1:=bt (ba _ _) hb1
 have hz1:=hR1.2.2.2.2.2
 clear hb1
 go_wp2_with fail
 refine bH (fun W=>jL W w.1.size/\bn W w1.1.size 0 0 0 false 0 0 0/\Below w.1.size w W) ⟨jL.below hR1 (ba _ _),⟨vG,vG,vG,vG,vG,vG,vG,fun i=>by simp [go_sem],vS⟩,baa hB1 _⟩ ?_
 rintro W2 ⟨hR2,hP2,hB2⟩
 refine(HP.out w1.1.size W2 hP2).mono ?_
 rintro e w3 ⟨rfl,hP3,hb3⟩
 have hR3:=jL.but hR2 hb3 vO
 have hB3:Below w.1.size w w3:=But.below hb3 hB2 vO
 have hq:=hP3
 obtain⟨q0,q1,q2,q3,q4,q5,q6,qf,qs⟩:=hq
 go_wp2_with fail
 refine(HF.out _ (Tab.below hT hB3) (Tab.below hL hB3)).mono ?_
 rintro e w4 ⟨rfl,hb4⟩
 have hP4:=fD hP3 hb4
 have hR4:=jL.below hR3 hb4
 have hB4:=bt hB3 hb4
 clear q0 q1 q2 q3 q4 q5 q6 qf qs
 have hq:=hP4
 obtain⟨q0,q1,q2,q3,q4,q5,q6,qf,qs⟩:=hq
 go_wp2_with fail
 refine(HO.out _).mono ?_
 rintro e w5 ⟨rfl,hb5⟩
 have hR5:=jL.below hR4 hb5
 have hB5:=bt hB4 hb5
 clear q0 q1 q2 q3 q4 q5 q6 qf qs
 obtain⟨r0,r1,r2,r3,rf,rs⟩:=hR5
 go_wp2_with fail
 refine bodyPost_ret (v:= .tuple #[.agg #[y,cn,cl,d],(0:Int)]) (by simp [results,Tryz.results31,go_sem, *]) rfl ⟨rfl, ?_⟩
 refine baa ?_ _
 iterate 4 refine Below.setCell ?_ (Nat.le_refl w.1.size) _
 exact hB5
end
end Go.Proofs.YtljbnicolhhicaaGreatDoor
