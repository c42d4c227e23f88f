import Derived.Test.YthnjjcoahdhmnaaGreatDoorEHE
import Derived.Test.YthnjjcoahdhmnaaGreatDoorEBB
set_option maxHeartbeats 8000000
set_option maxRecDepth 100000
set_option linter.unusedVariables false
namespace Go.Proofs.YthnjjcoahdhmnaaGreatDoor
section
open Go.ChangeShapes Go.WideShapes Go.ChangeAt Go.RowKit
theorem Di(y n:Int)(l:Bool)(w:World)(hy:I64 y)(h:y<1∨9999<y):
  Calls Tryo.prog 268 #[.int .i64 y,.agg #[.int .i64 n,.bool l]] w fun e w'=>e= .returned (.tuple #[.int .i64 (0),.int .i64 2])/\Below w.heap.size w w':=by
 go_enter Tryo.func268,Tryz.ntmps268
 go_wp2_with fail
 refine(Sk y _ hy h).mono ?_
 rintro e w1 ⟨rfl,hb1⟩
 obtain⟨hc1,hf1⟩:=aA hb1
 have hz1:=hb1.size
 try simp at hz1
 have hs1x0:w.heap.size<w1.heap.size:=by omega
 have g1x0:w1.cell? ⟨w.heap.size,0,none⟩=some (.int .i64 n):=aH hc1
 have g1x1:w1.cell? ⟨w.heap.size,1,none⟩=some (.bool l):=aH hc1
 go_wp2_with fail
 go_ret2
 exact⟨rfl,baa (bt (ba _ _) hb1) _⟩
theorem Bo(y n:Int)(l:Bool)(w:World)(hy:I64 y)(h1:1<=y)(h2:y<=9999)(hp:Cal.fV (Cal.leap y) n l=false):
  Calls Tryo.prog 268 #[.int .i64 y,.agg #[.int .i64 n,.bool l]] w fun e w'=>e= .returned (.tuple #[.int .i64 (0),.int .i64 3])/\Below w.heap.size w w':=by
 have hv:Cal.plV (Cal.leap y) n l=0:=by simp [Cal.plV,hp]
 have HP:=Lib.hid (fun w=>(show Calls Tryo.prog 218 #[.bool (Cal.leap y),.agg #[.int .i64 n,.bool l]] w (fun e w'=>e= .returned (.tuple #[.int .i64 (Cal.plV (Cal.leap y) n l),.bool false])/\Below w.heap.size w w')from hp▸lX (Cal.leap y) n l w))
 clear hp
 rw [hv]at HP
 clear hv
 go_enter Tryo.func268,Tryz.ntmps268
 go_wp2_with fail
 refine(mH y _ h1 h2).mono ?_
 rintro e w1 ⟨rfl,hb1⟩
 obtain⟨hc1,hf1⟩:=aA hb1
 have hz1:=hb1.size
 try simp at hz1
 have hs1x0:w.heap.size<w1.heap.size:=by omega
 have g1x0:w1.cell? ⟨w.heap.size,0,none⟩=some (.int .i64 n):=aH hc1
 have g1x1:w1.cell? ⟨w.heap.size,1,none⟩=some (.bool l):=aH hc1
 go_wp2_with fail
 refine(HP.out _).mono ?_
 rintro e w2 ⟨rfl,hb2⟩
 obtain⟨hc2,hf2⟩:=aA hb2
 have hz2:=hb2.size
 try simp at hz2
 have hl2w1:w1.heap.size<w2.heap.size:=by omega
 have hm2w1:w1.heap.size<=w2.heap.size:=by omega
 have hs2x0:w.heap.size<w2.heap.size:=by omega
 have g2x0:w2.cell? ⟨w.heap.size,0,none⟩=some (.int .i64 n):=aH hc2
 have g2x1:w2.cell? ⟨w.heap.size,1,none⟩=some (.bool l):=aH hc2
 have g2x2:w2.cell? ⟨w1.heap.size,0,none⟩=some (.int .i64 (Cal.first y % 7)):=aH hc2
 have g2x3:w2.cell? ⟨w1.heap.size,1,none⟩=some (.int .i64 (Cal.kind y)):=aH hc2
 have g2x4:w2.cell? ⟨w1.heap.size,2,none⟩=some (.bool (Cal.leap y)):=aH hc2
 go_wp2_with fail
 go_ret2
 exact⟨rfl,bt (baa (bt (ba _ _) hb1) _) hb2⟩
theorem JF(y n:Int)(l:Bool)(w:World)(hy:I64 y)(h1:1<=y)(h2:y<=9999)(hp:Cal.fV (Cal.leap y) n l=true):
  Calls Tryo.prog 268 #[.int .i64 y,.agg #[.int .i64 n,.bool l]] w fun e w'=>e= .returned (.tuple #[.int .i64 (jo (Cal.first y % 7) (Cal.kind y) (Cal.leap y) (Cal.plV (Cal.leap y) n l)),.int .i64 0])/\Below w.heap.size w w':=by
 have HP:=Lib.hid (fun w=>(show Calls Tryo.prog 218 #[.bool (Cal.leap y),.agg #[.int .i64 n,.bool l]] w (fun e w'=>e= .returned (.tuple #[.int .i64 (Cal.plV (Cal.leap y) n l),.bool true])/\Below w.heap.size w w')from hp▸lX (Cal.leap y) n l w))
 clear hp
 go_enter Tryo.func268,Tryz.ntmps268
 go_wp2_with fail
 refine(mH y _ h1 h2).mono ?_
 rintro e w1 ⟨rfl,hb1⟩
 obtain⟨hc1,hf1⟩:=aA hb1
 have hz1:=hb1.size
 try simp at hz1
 have hs1x0:w.heap.size<w1.heap.size:=by omega
 have g1x0:w1.cell? ⟨w.heap.size,0,none⟩=some (.int .i64 n):=aH hc1
 have g1x1:w1.cell? ⟨w.heap.size,1,none⟩=some (.bool l):=aH hc1
 go_wp2_with fail
 refine(HP.out _).mono ?_
 rintro e w2 ⟨rfl,hb2⟩
 obtain⟨hc2,hf2⟩:=aA hb2
 have hz2:=hb2.size
 try simp at hz2
 have hl2w1:w1.heap.size<w2.heap.size:=by omega
 have hm2w1:w1.heap.size<=w2.heap.size:=by omega
 have hs2x0:w.heap.size<w2.heap.size:=by omega
 have g2x0:w2.cell? ⟨w.heap.size,0,none⟩=some (.int .i64 n):=aH hc2
 have g2x1:w2.cell? ⟨w.heap.size,1,none⟩=some (.bool l):=aH hc2
 have g2x2:w2.cell? ⟨w1.heap.size,0,none⟩=some (.int .i64 (Cal.first y % 7)):=aH hc2
 have g2x3:w2.cell? ⟨w1.heap.size,1,none⟩=some (.int .i64 (Cal.kind y)):=aH hc2
 have g2x4:w2.cell? ⟨w1.heap.size,2,none⟩=some (.bool (Cal.leap y)):=aH hc2
 go_wp2_with fail
 refine(JQ _ _ _ _ _).mono ?_
 rintro e w3 ⟨rfl,hb3⟩
 go_wp2_with fail
 go_ret2
 exact⟨rfl,bt (bt (baa (bt (ba _ _) hb1) _) hb2) hb3⟩
theorem oC(y n:Int)(l:Bool)(w:World)(hy:I64 y):
  Calls Tryo.prog 268 #[.int .i64 y,.agg #[.int .i64 n,.bool l]] w fun e w'=>e= .returned (.tuple #[.int .i64 (D10.lI y n l),.int .i64 (D10.fI y n l)])/\Below w.heap.size w w':=by
 cases c:Cal.bG y
 ·rw [show D10.lI y n l=0 by simp [D10.lI,c],show D10.fI y n l=2 by simp [D10.fI,c]]
  exact Di y n l w hy (D10.RJ y c)
 ·obtain⟨h1,h2⟩:=D10.DZ y c
  cases p:Cal.fV (Cal.leap y) n l
  ·rw [show D10.lI y n l=0 by simp [D10.lI,p],show D10.fI y n l=3 by simp [D10.fI,c,p]]
   exact Bo y n l w hy h1 h2 p
  ·rw [show D10.lI y n l=D10.dLen y (Cal.plV (Cal.leap y) n l) by simp [D10.lI,c,p],show D10.fI y n l=0 by simp [D10.fI,c,p]]
   exact JF y n l w hy h1 h2 p
theorem pI(y n:Int)(l:Bool)(d:Int)(w:World)(hy:I64 y)(he:¬ D10.fI y n l=0):
  Calls Tryo.prog 217 #[.agg #[.int .i64 y,.int .i64 n,.bool l,.int .i64 d]] w fun e w'=>e= .returned (.int .i64 (D10.fI y n l))/\Below w.heap.size w w':=by
 have hLt:=Lib.hid (fun w=>oC y n l w hy)
 generalize D10.lI y n l=lv at*
 generalize D10.fI y n l=le at*
 go_enter Tryo.func217,Tryz.ntmps217
 go_wp2_with fail
 refine(hLt.out _).mono ?_
 rintro e w1 ⟨rfl,hb1⟩
 obtain⟨hc1,hf1⟩:=aA hb1
 have hz1:=hb1.size
 try simp at hz1
 have hs1x0:w.heap.size<w1.heap.size:=by omega
 have g1x0:w1.cell? ⟨w.heap.size,0,none⟩=some (.int .i64 y):=aH hc1
 have g1x1:w1.cell? ⟨w.heap.size,1,none⟩=some (.int .i64 n):=aH hc1
 have g1x2:w1.cell? ⟨w.heap.size,2,none⟩=some (.bool l):=aH hc1
 have g1x3:w1.cell? ⟨w.heap.size,3,none⟩=some (.int .i64 d):=aH hc1
 go_wp2_with fail
 go_ret
 exact⟨rfl,bt (ba _ _) hb1⟩
theorem Df(y n:Int)(l:Bool)(d:Int)(w:World)(hy:I64 y)(he:D10.fI y n l=0)(hd:d<1):
  Calls Tryo.prog 217 #[.agg #[.int .i64 y,.int .i64 n,.bool l,.int .i64 d]] w fun e w'=>e= .returned (.int .i64 4)/\Below w.heap.size w w':=by
 have hLt:=Lib.hid (fun w=>oC y n l w hy)
 generalize D10.lI y n l=lv at*
 generalize D10.fI y n l=le at*
 go_enter Tryo.func217,Tryz.ntmps217
 go_wp2_with fail
 refine(hLt.out _).mono ?_
 rintro e w1 ⟨rfl,hb1⟩
 obtain⟨hc1,hf1⟩:=aA hb1
 have hz1:=hb1.size
 try simp at hz1
 have hs1x0:w.heap.size<w1.heap.size:=by omega
 have g1x0:w1.cell? ⟨w.heap.size,0,none⟩=some (.int .i64 y):=aH hc1
 have g1x1:w1.cell? ⟨w.heap.size,1,none⟩=some (.int .i64 n):=aH hc1
 have g1x2:w1.cell? ⟨w.heap.size,2,none⟩=some (.bool l):=aH hc1
 have g1x3:w1.cell? ⟨w.heap.size,3,none⟩=some (.int .i64 d):=aH hc1
 go_wp2_with fail
 go_ret
 exact⟨rfl,bt (ba _ _) hb1⟩
theorem Bn(y n:Int)(l:Bool)(d:Int)(w:World)(hy:I64 y)(he:D10.fI y n l=0)(hd:1<=d)(hh:D10.lI y n l<d):
  Calls Tryo.prog 217 #[.agg #[.int .i64 y,.int .i64 n,.bool l,.int .i64 d]] w fun e w'=>e= .returned (.int .i64 4)/\Below w.heap.size w w':=by
 have hLt:=Lib.hid (fun w=>oC y n l w hy)
 generalize D10.lI y n l=lv at*
 generalize D10.fI y n l=le at*
 go_enter Tryo.func217,Tryz.ntmps217
 go_wp2_with fail
 refine(hLt.out _).mono ?_
 rintro e w1 ⟨rfl,hb1⟩
 obtain⟨hc1,hf1⟩:=aA hb1
 have hz1:=hb1.size
 try simp at hz1
 have hs1x0:w.heap.size<w1.heap.size:=by omega
 have g1x0:w1.cell? ⟨w.heap.size,0,none⟩=some (.int .i64 y):=aH hc1
 have g1x1:w1.cell? ⟨w.heap.size,1,none⟩=some (.int .i64 n):=aH hc1
 have g1x2:w1.cell? ⟨w.heap.size,2,none⟩=some (.bool l):=aH hc1
 have g1x3:w1.cell? ⟨w.heap.size,3,none⟩=some (.int .i64 d):=aH hc1
 go_wp2_with fail
 go_ret
 exact⟨rfl,bt (ba _ _) hb1⟩
theorem FW(y n:Int)(l:Bool)(d:Int)(w:World)(hy:I64 y)(he:D10.fI y n l=0)(hd:1<=d)(hh:d<=D10.lI y n l):
  Calls Tryo.prog 217 #[.agg #[.int .i64 y,.int .i64 n,.bool l,.int .i64 d]] w fun e w'=>e= .returned (.int .i64 0)/\Below w.heap.size w w':=by
 have hLt:=Lib.hid (fun w=>oC y n l w hy)
 generalize D10.lI y n l=lv at*
 generalize D10.fI y n l=le at*
 go_enter Tryo.func217,Tryz.ntmps217
 go_wp2_with fail
 refine(hLt.out _).mono ?_
 rintro e w1 ⟨rfl,hb1⟩
 obtain⟨hc1,hf1⟩:=aA hb1
 have hz1:=hb1.size
 try simp at hz1
 have hs1x0:w.heap.size<w1.heap.size:=by omega
 have g1x0:w1.cell? ⟨w.heap.size,0,none⟩=some (.int .i64 y):=aH hc1
 have g1x1:w1.cell? ⟨w.heap.size,1,none⟩=some (.int .i64 n):=aH hc1
 have g1x2:w1.cell? ⟨w.heap.size,2,none⟩=some (.bool l):=aH hc1
 have g1x3:w1.cell? ⟨w.heap.size,3,none⟩=some (.int .i64 d):=aH hc1
 go_wp2_with fail
 go_ret
 exact⟨rfl,bt (ba _ _) hb1⟩
theorem BZ(y n:Int)(l:Bool)(d:Int)(w:World)(hy:I64 y):
  Calls Tryo.prog 217 #[.agg #[.int .i64 y,.int .i64 n,.bool l,.int .i64 d]] w fun e w'=>e= .returned (.int .i64 (D10.bO y n l d))/\Below w.heap.size w w':=by
 rcases D10.Ci y n l d with ⟨c,e⟩|⟨c,p,e⟩|⟨c,p,h3,e⟩|⟨c,p,h3,h4,e⟩|⟨c,p,h3,h4,e⟩ <;> rw [e]
 ·have h:=pI y n l d w hy (by simp [D10.fI,c])
  rwa [show D10.fI y n l=2 by simp [D10.fI,c]]at h
 ·have h:=pI y n l d w hy (by simp [D10.fI,c,p])
  rwa [show D10.fI y n l=3 by simp [D10.fI,c,p]]at h
 ·exact Df y n l d w hy (by simp [D10.fI,c,p]) h3
 ·exact Bn y n l d w hy (by simp [D10.fI,c,p]) h3 (by simpa [D10.lI,c,p]using h4)
 ·exact FW y n l d w hy (by simp [D10.fI,c,p]) h3 (by simpa [D10.lI,c,p]using h4)
end
section
open Go.ChangeShapes Go.WideShapes Go.ChangeAt Go.RowKit
theorem EO(y n:Int)(l:Bool)(d:Int)(w:World)(hy:I64 y)(he:¬ D10.bO y n l d=0):
  Calls Tryo.prog 165 #[.agg #[.int .i64 y,.int .i64 n,.bool l,.int .i64 d]] w fun e w'=>e= .returned (.tuple #[.int .i64 0,.int .i64 (D10.bO y n l d)])/\Below w.heap.size w w':=by
 have hC:=Lib.hid (fun w=>BZ y n l d w hy)
 generalize D10.bO y n l d=de at*
 go_enter Tryo.func165,Tryz.ntmps165
 go_wp2_with fail
 refine(hC.out _).mono ?_
 rintro e w1 ⟨rfl,hb1⟩
 obtain⟨hc1,hf1⟩:=aA hb1
 have hz1:=hb1.size
 try simp at hz1
 have hs1x0:w.heap.size<w1.heap.size:=by omega
 have g1x0:w1.cell? ⟨w.heap.size,0,none⟩=some (.int .i64 y):=aH hc1
 have g1x1:w1.cell? ⟨w.heap.size,1,none⟩=some (.int .i64 n):=aH hc1
 have g1x2:w1.cell? ⟨w.heap.size,2,none⟩=some (.bool l):=aH hc1
 have g1x3:w1.cell? ⟨w.heap.size,3,none⟩=some (.int .i64 d):=aH hc1
 go_wp2_with fail
 go_ret2
 exact⟨rfl,bt (ba _ _) hb1⟩
theorem Gt(y n:Int)(l:Bool)(d:Int)(w:World)(hy:I64 y)(he:D10.bO y n l d=0):
  Calls Tryo.prog 165 #[.agg #[.int .i64 y,.int .i64 n,.bool l,.int .i64 d]] w fun e w'=>e= .returned (.tuple #[.int .i64 (D10.aC y n l d),.int .i64 0])/\Below w.heap.size w w':=by
 obtain⟨hv,hp⟩:=D10.jV he
 obtain⟨h1,h2,m1,m2,d1,d2⟩:=hv
 have hlb:=D10.Nu y _ h1 h2 m1 m2
 have hab:=D10.Ri y _ h1 h2 m1 m2
 have hob:=sj y h1 h2
 have hfb:=bF y (by omega) (by omega)
 have hC:∀w,Calls Tryo.prog 217 #[.agg #[.int .i64 y,.int .i64 n,.bool l,.int .i64 d]] w fun e w'=>e= .returned (.int .i64 0)/\Below w.heap.size w w':=fun w=>by
  have:=BZ y n l d w hy
  rwa [he]at this
 have hP:∀w,Calls Tryo.prog 218 #[.bool (Cal.leap y),.agg #[.int .i64 n,.bool l]] w (fun e w'=>e= .returned (.tuple #[.int .i64 (Cal.plV (Cal.leap y) n l),.bool true])/\Below w.heap.size w w'):=fun w=>hp▸lX (Cal.leap y) n l w
 have hA:=fun w=>Gm (Cal.first y % 7) (Cal.kind y) (Cal.leap y) (Cal.plV (Cal.leap y) n l) w
 have hO:=fun w=>mH y w h1 h2
 have hF:=fun w=>dn y w (by omega) (by omega)
 rw [show D10.aC y n l d=Cal.first y+D10.ig y (Cal.plV (Cal.leap y) n l)+d-1 by simp [D10.aC,he,D10.aS]]
 rw [show D10.ig y (Cal.plV (Cal.leap y) n l)=bE (Cal.first y % 7) (Cal.kind y) (Cal.leap y) (Cal.plV (Cal.leap y) n l)from rfl]at*
 generalize bE (Cal.first y % 7) (Cal.kind y) (Cal.leap y) (Cal.plV (Cal.leap y) n l)=A at*
 generalize D10.dLen y (Cal.plV (Cal.leap y) n l)=L at*
 generalize Cal.plV (Cal.leap y) n l=m at*
 generalize Cal.first y % 7=kb at*
 generalize Cal.first y=fy at*
 generalize Cal.kind y=kk at*
 generalize Cal.leap y=lp at*
 generalize Cal.long y=lg at*
 have HC:=Lib.hid hC
 have HP:=Lib.hid hP
 have HA:=Lib.hid hA
 have HO:=Lib.hid hO
 have HF:=Lib.hid hF
 clear hC hP hA hO hF he hp
 have b1: -7300000<=fy+A:=by omega
 have b2:fy+A<=4601000:=by omega
 go_enter Tryo.func165,Tryz.ntmps165
 go_wp2_with fail
 refine(HC.out _).mono ?_
 rintro e w1 ⟨rfl,hb1⟩
 obtain⟨hc1,hf1⟩:=aA hb1
 have hz1:=hb1.size
 try simp at hz1
 have hs1x0:w.heap.size<w1.heap.size:=by omega
 have g1x0:w1.cell? ⟨w.heap.size,0,none⟩=some (.int .i64 y):=aH hc1
 have g1x1:w1.cell? ⟨w.heap.size,1,none⟩=some (.int .i64 n):=aH hc1
 have g1x2:w1.cell? ⟨w.heap.size,2,none⟩=some (.bool l):=aH hc1
 have g1x3:w1.cell? ⟨w.heap.size,3,none⟩=some (.int .i64 d):=aH hc1
 go_wp2_with fail
 refine(HO.out _).mono ?_
 rintro e w2 ⟨rfl,hb2⟩
 obtain⟨hc2,hf2⟩:=aA hb2
 have hz2:=hb2.size
 try simp at hz2
 have hs2x0:w.heap.size<w2.heap.size:=by omega
 have g2x0:w2.cell? ⟨w.heap.size,0,none⟩=some (.int .i64 y):=aH hc2
 have g2x1:w2.cell? ⟨w.heap.size,1,none⟩=some (.int .i64 n):=aH hc2
 have g2x2:w2.cell? ⟨w.heap.size,2,none⟩=some (.bool l):=aH hc2
 have g2x3:w2.cell? ⟨w.heap.size,3,none⟩=some (.int .i64 d):=aH hc2
 go_wp2_with fail
 refine(HP.out _).mono ?_
 rintro e w3 ⟨rfl,hb3⟩
 obtain⟨hc3,hf3⟩:=aA hb3
 have hz3:=hb3.size
 try simp at hz3
 have hl3w2:w2.heap.size<w3.heap.size:=by omega
 have hm3w2:w2.heap.size<=w3.heap.size:=by omega
 have hs3x0:w.heap.size<w3.heap.size:=by omega
 have g3x0:w3.cell? ⟨w.heap.size,0,none⟩=some (.int .i64 y):=aH hc3
 have g3x1:w3.cell? ⟨w.heap.size,1,none⟩=some (.int .i64 n):=aH hc3
 have g3x2:w3.cell? ⟨w.heap.size,2,none⟩=some (.bool l):=aH hc3
 have g3x3:w3.cell? ⟨w.heap.size,3,none⟩=some (.int .i64 d):=aH hc3
 have g3x4:w3.cell? ⟨w2.heap.size,0,none⟩=some (.int .i64 kb):=aH hc3
 have g3x5:w3.cell? ⟨w2.heap.size,1,none⟩=some (.int .i64 kk):=aH hc3
 have g3x6:w3.cell? ⟨w2.heap.size,2,none⟩=some (.bool lp):=aH hc3
 go_wp2_with fail
 refine(HF.out _).mono ?_
 rintro e w4 ⟨rfl,hb4⟩
 obtain⟨hc4,hf4⟩:=aA hb4
 have hz4:=hb4.size
 try simp at hz4
 have hl4w2:w2.heap.size<w4.heap.size:=by omega
 have hm4w2:w2.heap.size<=w4.heap.size:=by omega
 have hs4x0:w.heap.size<w4.heap.size:=by omega
 have g4x0:w4.cell? ⟨w.heap.size,0,none⟩=some (.int .i64 y):=aH hc4
 have g4x1:w4.cell? ⟨w.heap.size,1,none⟩=some (.int .i64 n):=aH hc4
 have g4x2:w4.cell? ⟨w.heap.size,2,none⟩=some (.bool l):=aH hc4
 have g4x3:w4.cell? ⟨w.heap.size,3,none⟩=some (.int .i64 d):=aH hc4
 have g4x4:w4.cell? ⟨w2.heap.size,0,none⟩=some (.int .i64 kb):=aH hc4
 have g4x5:w4.cell? ⟨w2.heap.size,1,none⟩=some (.int .i64 kk):=aH hc4
 have g4x6:w4.cell? ⟨w2.heap.size,2,none⟩=some (.bool lp):=aH hc4
 go_wp2_with fail
 refine aJ (by kernel_rfl) (by kernel_rfl) (fun hall=> ?_)
 repeat(first|go_big_quiet_skip|(go_big_quiet_want;first|(refine ql1 _ _ _ rfl rfl ?_;apply Exists.intro;refine⟨?_, ?_⟩;assumption;go_simp;go_big_quiet_on)|(refine ql2 _ _ _ _ rfl rfl ?_;apply Exists.intro;apply Exists.intro;refine⟨?_, ?_, ?_⟩;assumption;assumption;go_simp;go_big_quiet_on)|(refine ql3 _ _ _ _ rfl rfl ?_;apply Exists.intro;apply Exists.intro;apply Exists.intro;refine⟨?_, ?_, ?_, ?_⟩;assumption;assumption;assumption;go_simp;go_big_quiet_on)|(refine ql4 _ _ _ _ rfl rfl ?_;apply Exists.intro;apply Exists.intro;apply Exists.intro;apply Exists.intro;refine⟨?_, ?_, ?_, ?_, ?_⟩;assumption;assumption;assumption;assumption;go_simp;go_big_quiet_on)|(go_big_quiet_op;first|go_big_quiet_on|(apply Exists.intro;refine⟨fun x hx=> ?_, ?_⟩;(first|exact aK hx (HA.out x));go_big_quiet_on))))
 refine wpQuiet_nil ?_
 clear hall
 intro x5 hx5
 go_wp2_with fail
 go_ret2
 exact⟨rfl,bt (bt (bt (baa (bt (bt (ba _ _) hb1) hb2) _) hb3) hb4) hx5⟩
theorem Pv(y n:Int)(l:Bool)(d:Int)(w:World)(hy:I64 y):
  Calls Tryo.prog 165 #[.agg #[.int .i64 y,.int .i64 n,.bool l,.int .i64 d]] w fun e w'=>e= .returned (.tuple #[.int .i64 (D10.aC y n l d),.int .i64 (D10.bO y n l d)])/\Below w.heap.size w w':=by
 by_cases c:D10.bO y n l d=0
 ·rw [c]
  exact Gt y n l d w hy c
 ·rw [D10.Ud y n l d c]
  exact EO y n l d w hy c
def Kt(w:World)(g:Nat)(b k:Int)(lp:Bool):Prop:=w.cell? ⟨g,0,none⟩=some (.int .i64 b)/\w.cell? ⟨g,1,none⟩=some (.int .i64 k)/\w.cell? ⟨g,2,none⟩=some (.bool lp)/\g<w.heap.size
theorem Kt.below{w w':World}{g:Nat}{b k:Int}{lp:Bool}(h:Kt w g b k lp)(hb:Below w.heap.size w w'):Kt w' g b k lp:=by
 obtain⟨h0,h1,h2,hs⟩:=h
 have c:=fun i=>hb.cell (p:=⟨g,i,none⟩) hs
 exact⟨(c 0).trans h0,(c 1).trans h1,(c 2).trans h2,Nat.lt_of_lt_of_le hs hb.size⟩
theorem jQ(y m d:Int)(w:World)(hv:D10.Valid y m d):
  Calls Tryo.prog 33 #[.int .i64 (D10.aS y m d)] w fun e w'=>e= .returned (.tuple #[.agg #[.int .i64 y,.int .i64 (Cal.ofN (Cal.leap y) m),.bool (Cal.ofL (Cal.leap y) m),.int .i64 d],.int .i64 0])/\Below w.heap.size w w':=by
 have hin:=D10.Af hv
 have hbd:=D10.mG hv
 have h1:=hv.1
 have h2:=hv.2.1
 have hfb:=bF y (by omega) (by omega)
 have HY:=Lib.hid (fun w=>NI (D10.aS y m d) y w hv.1 hv.2.1 hin.1 hin.2 hbd.1 hbd.2)
 have HK:=Lib.hid (fun w=>mH y w h1 h2)
 have HF:=Lib.hid (fun w=>dn y w (by omega) (by omega))
 have HO:=Lib.hid (fun w=>Rf (Cal.leap y) m w (by have:=hv.2.2.2.1;unfold Cal.most at this;split at this <;> omega))
 have hF:=D10.Ra hv
 have hD:∀w,Calls Tryo.prog 92 #[.agg #[.int .i64 (Cal.first y % 7),.int .i64 (Cal.kind y),.bool (Cal.leap y)],.int .i64 (D10.aS y m d-Cal.first y+1)] w fun e w'=>e= .returned (.tuple #[.int .i64 m,.int .i64 d,.bool true])/\Below w.heap.size w w':=fun w=>by
  have:=VH (Cal.first y % 7) (Cal.kind y) (Cal.leap y) (D10.aS y m d-Cal.first y+1) w (by omega)
  rwa [hF]at this
 have HD:=Lib.hid hD
 clear hF hD
 generalize D10.aS y m d=D at*
 generalize Cal.ofN (Cal.leap y) m=cn at*
 generalize Cal.ofL (Cal.leap y) m=cl at*
 generalize Cal.iO (Cal.leap y) m=co at*
 generalize Cal.first y % 7=kb at*
 generalize Cal.first y=fy at*
 generalize Cal.kind y=kk at*
 generalize Cal.leap y=lp at*
 clear hv hin
 go_enter Tryo.func33,Tryz.ntmps33
 go_wp2_with fail
 refine(HY.out _).mono ?_
 rintro e w1 ⟨rfl,hb1⟩
 have hR1:=iM.below (sN w _) hb1
 have hB1:=bt (ba _ _) hb1
 clear hb1
 go_wp2_with fail
 refine(HK.out _).mono ?_
 rintro e w2 ⟨rfl,hb2⟩
 have hR2:=iM.below hR1 hb2
 have hB2:=bt hB1 hb2
 clear hb2
 go_wp2_with fail
 refine mY (fun W=>iM W w.heap.size/\Kt W w2.heap.size kb kk lp/\Below w.heap.size w W) ⟨iM.below hR2 (ba _ _),⟨by simp [go_sem],by simp [go_sem],by simp [go_sem],by simp⟩,baa hB2 _⟩ ?_
 rintro W3 ⟨hR3,hK3,hB3⟩
 refine(HF.out _).mono ?_
 rintro e w4 ⟨rfl,hb4⟩
 have hR4:=iM.below hR3 hb4
 have hK4:=Kt.below hK3 hb4
 have hB4:=bt hB3 hb4
 clear hb4
 have hq:=hK4
 obtain⟨q0,q1,q2,qs⟩:=hq
 go_wp2_with fail
 refine(HD.out _).mono ?_
 rintro e w5 ⟨rfl,hb5⟩
 have hR5:=iM.below hR4 hb5
 have hK5:=Kt.below hK4 hb5
 have hB5:=bt hB4 hb5
 clear hb5 q0 q1 q2 qs
 have hq:=hK5
 obtain⟨q0,q1,q2,qs⟩:=hq
 go_wp2_with fail
 refine(HO.out _).mono ?_
 rintro e w6 ⟨rfl,hb6⟩
 have hR6:=iM.below hR5 hb6
 have hB6:=bt hB5 hb6
 clear hb6 q0 q1 q2 qs
 obtain⟨r0,r1,r2,r3,rf,rs⟩:=hR6
 go_wp2_with fail
 refine bodyPost_ret (v:= .tuple #[.agg #[.int .i64 y,.int .i64 cn,.bool cl,.int .i64 d],.int .i64 0]) (by simp [results,Tryz.results33,go_sem, *]) rfl ⟨rfl, ?_⟩
 refine baa ?_ _
 iterate 4 refine Below.setCell ?_ (Nat.le_refl w.heap.size) _
 exact hB6
end
section
open Go.ChangeShapes Go.WideShapes Go.ChangeAt Go.RowKit Go.Joins
section
variable {H:Type} {enc:TypeId×Value->H} {W:World} {base b0:Nat} {spare:Nat->Bool} {held:Bool} {r:Reach} {v:Value} {d:DataW H} {p:List MemPlace}
end
end
section
open Go.ChangeShapes Go.WideShapes Go.ChangeAt Go.RowKit
namespace D10
theorem PL(y:Int):1<=Cal.most (Cal.leap y):=by unfold Cal.most;split <;> omega
end D10
end
end Go.Proofs.YthnjjcoahdhmnaaGreatDoor
