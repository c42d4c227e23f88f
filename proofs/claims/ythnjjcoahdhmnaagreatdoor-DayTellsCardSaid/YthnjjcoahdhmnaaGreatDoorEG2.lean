import Derived.Test.YthnjjcoahdhmnaaGreatDoorEG1
set_option maxHeartbeats 8000000
set_option maxRecDepth 100000
set_option linter.unusedVariables false
namespace Go.Proofs.YthnjjcoahdhmnaaGreatDoor
section
open Go.ChangeShapes Go.WideShapes Go.ChangeAt Go.RowKit
theorem Co(y:Int)(w:World)(h1: -9000<=y)(h2:y<=9000):Calls Tryo.prog 97 #[.int .i64 y] w fun e w'=>e= .returned (.int .i64 (Gr.ahead y))/\w=w':=by
 have d1:=Lib.hid (fun w=>iE (y-1) 4 w ⟨by omega,by omega⟩ (by omega))
 have d2:=Lib.hid (fun w=>iE (y-1) 100 w ⟨by omega,by omega⟩ (by omega))
 have d3:=Lib.hid (fun w=>iE (y-1) 400 w ⟨by omega,by omega⟩ (by omega))
 have b1: -3000<=(y-1) / 4/\(y-1) / 4<=3000:=by omega
 have b2: -3000<=(y-1) / 100/\(y-1) / 100<=3000:=by omega
 have b3: -3000<=(y-1) / 400/\(y-1) / 400<=3000:=by omega
 unfold Gr.ahead
 generalize (y-1) / 4=q1 at*
 generalize (y-1) / 100=q2 at*
 generalize (y-1) / 400=q3 at*
 go_enter Tryo.func97,Tryz.ntmps97
 go_wp2_with fail
 refine(d1.out _).mono ?_
 rintro e w' ⟨rfl,rfl⟩
 go_wp2_with fail
 refine(d2.out _).mono ?_
 rintro e w' ⟨rfl,rfl⟩
 go_wp2_with fail
 refine(d3.out _).mono ?_
 rintro e w' ⟨rfl,rfl⟩
 go_wp2_with fail
 go_ret
 exact⟨rfl,rfl⟩
theorem WJ(D:Int)(w:World):Calls Tryo.prog 95 #[.int .i64 D] w fun e w'=>e= .returned (.bool (decide (-1373427<=D)&&decide (D<=2278650)))/\Below w.heap.size w w':=by
 have hl:=Lib.hid (fun w=>Aw w)
 by_cases c: -1373427<=D
 ·have c2:decide (-1373427<=D)=true:=by simpa using c
  go_enter Tryo.func95,Tryz.ntmps95
  go_wp2_with fail
  refine(hl.out _).mono ?_
  rintro e w1 ⟨rfl,hb1⟩
  go_wp2_with fail
  go_ret
  exact⟨by simp [c],hb1⟩
 ·have c2:decide (-1373427<=D)=false:=by simpa using c
  go_enter Tryo.func95,Tryz.ntmps95
  go_wp2_with fail
  go_ret
  exact⟨by rfl,Below.refl _ _⟩
end
section
open Go.ChangeShapes Go.WideShapes Go.ChangeAt Go.RowKit
namespace Gr
def before(y m:Int):Int:=((ml y).take (m-1).toNat).sum
def aS(y m d:Int):Int:=ahead y+d+before y m
theorem YQ(y:Int)(j:Nat)(hj:j<=12):0<=((ml y).take j).sum/\((ml y).take j).sum<=366:=by
 have a:=D10.su (ml y) (fun x hx=>by have:=Za y x hx;omega) 0 j
 have b:=D10.su (ml y) (fun x hx=>by have:=Za y x hx;omega) j (12-j)
 rw [show j+(12-j)=12 by omega,List.take_of_length_le (show(ml y).length<=12 from Nat.le_refl _),Gs]at b
 simp at a
 have:long y<=366:=by unfold long;split <;> omega
 omega
theorem RH(y:Int)(h1: -4000<=y)(h2:y<=7000): -2000000<=ahead y/\ahead y<=3000000:=by unfold ahead;omega
end Gr
end
section
open Go.ChangeShapes Go.WideShapes Go.ChangeAt Go.RowKit
end
section
open Go.ChangeShapes Go.WideShapes Go.ChangeAt Go.RowKit
namespace Gr
end Gr
end
section
open Go.ChangeShapes Go.WideShapes Go.ChangeAt Go.RowKit
namespace Gr
theorem nL(y:Int):ahead (y+1)=ahead y+long y:=by
 unfold ahead long leap
 by_cases a:y % 4=0 <;> by_cases b:y % 100=0 <;> by_cases c:y % 400=0 <;> simp [a,b,c] <;> omega
theorem sj(y:Int):365<=long y/\long y<=366:=by unfold long;split <;> omega
theorem ET(y:Int):∀n:Nat,ahead y+365*n<=ahead (y+n)
 |0=>by simp
 |n+1=>by
  have ih:=ET y n
  have:=nL (y+n)
  have:=sj (y+n)
  rw [show y+((n+1:Nat):Int)=y+n+1 by omega]
  omega
theorem FJ(y z:Int)(h:y<=z):ahead y+365*(z-y)<=ahead z:=by
 have:=ET y (z-y).toNat
 rw [show y+((z-y).toNat:Int)=z by omega]at this
 omega
theorem yY(D:Int):ahead (gY D)<D/\D<=ahead (gY D+1)/\D=ahead (gY D)+leftV (D-1)+1:=by
 obtain⟨a,b,c⟩:=qP (D-1)
 have:=nL (jL (D-1))
 unfold gY
 omega
theorem YJ(D:Int)(h1: -1373427<=D)(h2:D<=2278650):D / 366-20<=gY D:=by
 obtain⟨_,a,_⟩:=yY D
 unfold ahead at a
 omega
theorem YK(D y:Int)(h:y<=gY D):decide (ahead (y+1)+1<=D)=decide (y<gY D):=by
 obtain⟨a,b,_⟩:=yY D
 by_cases c:y<gY D
 ·have:=FJ (y+1) (gY D) (by omega)
  rw [decide_eq_true c,decide_eq_true (by omega)]
 ·obtain rfl:y=gY D:=by omega
  rw [decide_eq_false c,decide_eq_false (by omega)]
end Gr
theorem BA(D:Int)(w:World)(b1: -1373427<=D)(b2:D<=2278650):
  Calls Tryo.prog 35 #[.int .i64 D] w fun e w'=>e= .returned (.tuple #[.agg #[.int .i64 (Gr.gY D),.int .i64 (Gr.gF D).1,.int .i64 (Gr.gF D).2.1],.int .i64 0])/\Below w.heap.size w w':=by
 have HC0:=fun w=>WJ D w
 rw [show(decide (-1373427<=D)&&decide (D<=2278650))=true by simp [b1,b2]]at HC0
 have HC:=Lib.hid HC0
 clear HC0
 have HDn:=Lib.hid (fun w=>iE D 366 w ⟨by omega,by omega⟩ (by omega))
 have hY:Gr.gY D=Gr.jL (D-1):=rfl
 have hF:dS (Gr.ml (Gr.gY D)) 1 (Gr.leftV (D-1)+1)=Gr.gF D:=rfl
 obtain⟨s1,s2,s3⟩:=Gr.yY D
 have near:=Gr.YJ D b1 b2
 have far:Gr.gY D-60<=D / 366-20:=by unfold Gr.ahead at s1;omega
 have yb: -3800<=Gr.gY D/\Gr.gY D<=6300:=by unfold Gr.ahead at s1 s2;omega
 obtain⟨_,l0,l1⟩:=Gr.qP (D-1)
 rw [←hY]at l1
 have hs:=Gr.Gs (Gr.gY D)
 rw [←hs]at l1
 clear hs hY
 have lb:Gr.leftV (D-1)<=400:=by have:=Gr.sj (Gr.gY D);rw [Gr.Gs]at l1;omega
 have stp:=Lib.hid (fun y=>Gr.YK D y)
 have hA:=fun y a b=>Gr.RH y a b
 have hA:=Lib.hid hA
 have HA:=Lib.hid (fun y w a b=>Co y w a b)
 have HD:=Lib.hid (fun m w=>Tz (Gr.gY D) m w ⟨by omega,by omega⟩)
 have hat:=Lib.hid (Gr.UZ (Gr.gY D))
 have hlen:=Gr.WW (Gr.gY D)
 have hAY:=Gr.RH (Gr.gY D) (by omega) (by omega)
 have qb: -5000<=D / 366/\D / 366<=7000:=by omega
 have HAY:=Lib.hid (fun w=>Co (Gr.gY D) w (by omega) (by omega))
 generalize Gr.gF D=R at*
 obtain⟨R1,R2,R3⟩:=R
 generalize hYY:Gr.gY D=Y at*
 generalize hAA:Gr.ahead Y=A at*
 generalize Gr.leftV (D-1)=L at*
 generalize D / 366=Q at*
 have hS:=Lib.hid l1
 have hF1:=Lib.hid hF
 have s4:=Lib.hid s3
 clear l1 s3 s1 s2 hYY hAA hF
 go_enter Tryo.func35,Tryz.ntmps35
 go_wp2_with fail
 refine(HC.out _).mono ?_
 rintro e w1 ⟨rfl,hb1⟩
 have hR1:=yM.below (GY w _) hb1
 have hB1:=bt (ba _ _) hb1
 clear hb1
 go_wp2_with fail
 refine(HDn.out _).mono ?_
 rintro e w2 ⟨rfl,rfl⟩
 go_wp2_with fail
 go_loop [4] (fun v=>∃k:Int,k<=Y/\Y-60<=k/\v= .int .i64 k) (fun v=>(Y-intOf v).toNat)
 case atStart=>exact⟨Q-20,by omega,by omega,rfl⟩
 case round=>
  obtain⟨k,k1,k2,rfl⟩:=hrel
  have st:=stp.out k (by omega)
  have ab:=hA.out (k+1) (by omega) (by omega)
  have HAk:=Lib.hid (fun w=>HA.out (k+1) w (by omega) (by omega))
  by_cases c:k<Y
  ·rw [decide_eq_true c]at st
   generalize Gr.ahead (k+1)=B at*
   go_wp2_with fail
   refine(HAk.out _).mono ?_
   rintro e w3 ⟨rfl,rfl⟩
   go_wp2_with fail
   go_round
   case rel=>exact⟨k+1,by omega,by omega,rfl⟩
   case measure=>simp [intOf];omega
  ·rw [decide_eq_false c]at st
   obtain rfl:k=Y:=by omega
   generalize Gr.ahead (k+1)=B at*
   go_wp2_with fail
   refine(HAk.out _).mono ?_
   rintro e w3 ⟨rfl,rfl⟩
   go_wp2_with fail
   refine(HAY.out _).mono ?_
   rintro e w4 ⟨rfl,rfl⟩
   go_wp2_with fail
   clear st ab HAk c k1 k2 near far stp
   go_loopw [5,6] (fun v m wr=>∃ (j:Nat) (z:Int),j<12/\m= .int .i64 ((j:Int)+1)/\v= .int .i64 (z+1)/\0<=z/\z<=400/\Hid (dS ((Gr.ml k).drop j) ((j:Int)+1) (z+1)=(R1,R2,R3))/\Hid (z<((Gr.ml k).drop j).sum)/\yM wr w.heap.size/\Below w.heap.size w wr) (fun _ m _=>13-(intOf m).toNat)
   case atStart=>exact⟨0,L,by omega,rfl,by rw [show D-A=L+1 by have:=s4.out;omega],by omega,by omega,hF1,hS,hR1,hB1⟩
   case round=>
    obtain⟨j,z,hj,rfl,rfl,zz0,zz1,hf,hsum,hR,hB⟩:=hrel
    obtain⟨x,x1,x2,x3,x4⟩:=hat.out j hj
    have HDj:=Lib.hid (fun w=>(x2▸HD.out ((j:Int)+1) w:Calls Tryo.prog 98 #[.int .i64 k,.int .i64 ((j:Int)+1)] w fun e w'=>e= .returned (.int .i64 x)/\Below w.heap.size w w'))
    clear x2
    by_cases c:z<x
    ·have hfin:=hf.out
     rw [sG _ j x _ _ x1 (by omega)]at hfin
     simp only [Prod.mk.injEq]at hfin
     obtain⟨rfl,rfl,rfl⟩:=hfin
     clear hf hF1 x1 hlen hS hat HD HC HAY HA hA HDn hsum hR1 hB1 l0 lb s4 hAY qb
     have c2:decide (x<z+1)=false:=by simp;omega
     go_wp2_with fail
     refine(HDj.out _).mono ?_
     rintro e w5 ⟨rfl,hb5⟩
     have hR5:=yM.below hR hb5
     have hB5:=bt hB hb5
     obtain⟨r0,r1,r2,rf,rs⟩:=hR5
     go_wp2_with fail
     refine bodyPost_ret (v:= .tuple #[.agg #[.int .i64 k,.int .i64 ((j:Int)+1),.int .i64 (z+1)],.int .i64 0]) (by simp [results,Tryz.results35,go_sem, *]) rfl ⟨rfl, ?_⟩
     iterate 3 refine Below.setCell ?_ (Nat.le_refl w.heap.size) _
     exact hB5
    ·have hj2:j+1<12:=by
      have h0:=hsum.out
      rw [Gr.y5 _ j x x1]at h0
      rcases Nat.lt_or_ge (j+1) 12 with h|h
      ·exact h
      ·rw [List.drop_eq_nil_of_le (by omega)]at h0
       simp at h0
       omega
     have hsum2:=Lib.hid (show z-x<((Gr.ml k).drop (j+1)).sum by have h0:=hsum.out;rw [Gr.y5 _ j x x1]at h0;omega)
     have hf2:=Lib.hid (show dS ((Gr.ml k).drop (j+1)) (((j+1:Nat):Int)+1) (z-x+1)=(R1,R2,R3) by
      have h0:=hf.out
      rw [oW _ j x _ _ x1 (by omega),show z+1-x=z-x+1 by omega]at h0
      simpa using h0)
     clear hsum hf x1 hlen hS hF1 hat HD HC HAY HA hA HDn hR1 hB1 l0 lb s4 hAY qb
     have c2:decide (x<z+1)=true:=by simp;omega
     go_wp2_with fail
     refine(HDj.out _).mono ?_
     rintro e w5 ⟨rfl,hb5⟩
     have hR5:=yM.below hR hb5
     have hB5:=bt hB hb5
     go_wp2_with fail
     refine(HDj.out _).mono ?_
     rintro e w6 ⟨rfl,hb6⟩
     have hR6:=yM.below hR5 hb6
     have hB6:=bt hB5 hb6
     go_wp2_with fail
     go_roundw
     case rel=>exact⟨j+1,z-x,hj2,by simp,by rw [show z+1-x=z-x+1 by omega],by omega,by omega,hf2,hsum2,hR6,hB6⟩
     case measure=>simp [intOf];omega
end
section
open Go.ChangeShapes Go.WideShapes Go.ChangeAt Go.RowKit
namespace Gr
def Valid(y m d:Int):Prop:=1<=m/\m<=12/\1<=d/\d<=days y m
theorem O3(y D:Int)(h1:ahead y<D)(h2:D<=ahead (y+1)):gY D=y:=by
 obtain⟨a,b,_⟩:=yY D
 by_cases c:gY D<y
 ·have:=FJ (gY D+1) y (by omega);omega
 ·by_cases c':y<gY D
  ·have:=FJ (y+1) (gY D) (by omega);omega
  ·omega
theorem nX(D:Int):∃y m d,Valid y m d/\D=aS y m d:=by
 obtain⟨a,b,c⟩:=yY D
 have hu:=nL (gY D)
 have hs:=Gs (gY D)
 obtain⟨j,x,q,e1,e2,e3,e4⟩:=D10.BI (ml (gY D)) (D-ahead (gY D)) (by omega) (by omega)
 have hj:j<12:=(List.getElem?_eq_some_iff.1 e1).1
 obtain⟨x',f1,f2,_⟩:=UZ (gY D) j hj
 rw [e1]at f1
 cases f1
 refine⟨gY D,(j:Int)+1,q,⟨by omega,by omega,e2,by omega⟩, ?_⟩
 unfold aS before
 rw [show((j:Int)+1-1).toNat=j by omega]
 omega
theorem DZ{y m d:Int}(h:Valid y m d)(b1: -1373427<=aS y m d)(b2:aS y m d<=2278650): -4000<=y/\y<=6500:=by
 obtain⟨h1,h2,h3,h4⟩:=h
 have t1:=YQ y (m-1).toNat (by omega)
 have hd:aS y m d=ahead y+d+((ml y).take (m-1).toNat).sum:=rfl
 have hdd:d<=31:=by
  obtain⟨x,e1,e2,e3,e4⟩:=UZ y (m-1).toNat (by omega)
  rw [show(((m-1).toNat:Nat):Int)+1=m by omega]at e2
  omega
 unfold ahead at hd
 omega
end Gr
end
end Go.Proofs.YthnjjcoahdhmnaaGreatDoor
