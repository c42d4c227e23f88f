import Derived.Test.YthnjjcoahdhmnaaGreatDoorOG1
set_option maxHeartbeats 8000000
set_option maxRecDepth 100000
set_option linter.unusedVariables false
namespace Go.Proofs.YthnjjcoahdhmnaaGreatDoor
section
open Go.ChangeShapes Go.WideShapes Go.ChangeAt Go.RowKit
end
section
open Go.ChangeShapes Go.WideShapes Go.ChangeAt Go.RowKit
namespace Gr
def before(y m:Int):Int:=((ml y).take (m-1).toNat).sum
def bn(y m d:Int):Int:=ahead y+d+before y m
theorem Uq(y:Int)(j:Nat)(hj:j<=12):0<=((ml y).take j).sum/\((ml y).take j).sum<=366:=by
 have a:=D10.q9 (ml y) (fun x hx=>by have:=Vw y x hx;omega) 0 j
 have b:=D10.q9 (ml y) (fun x hx=>by have:=Vw y x hx;omega) j (12-j)
 rw [show j+(12-j)=12 by omega,List.take_of_length_le (show(ml y).length<=12 from Nat.le_refl _),Ou]at b
 simp at a
 have:long y<=366:=by unfold long;split <;> omega
 omega
end Gr
end
section
open Go.ChangeShapes Go.WideShapes Go.ChangeAt Go.RowKit
end
section
open Go.ChangeShapes Go.WideShapes Go.ChangeAt Go.RowKit
namespace Gr
end Gr
end
section
open Go.ChangeShapes Go.WideShapes Go.ChangeAt Go.RowKit
namespace Gr
theorem om(y:Int):ahead (y+1)=ahead y+long y:=by
 unfold ahead long leap
 by_cases a:y % 4=0 <;> by_cases b:y % 100=0 <;> by_cases c:y % 400=0 <;> simp [a,b,c] <;> omega
theorem O6(y:Int):365<=long y/\long y<=366:=by unfold long;split <;> omega
theorem UD(D:Int):ahead (gY D)<D/\D<=ahead (gY D+1)/\D=ahead (gY D)+leftV (D-1)+1:=by
 obtain⟨a,b,c⟩:=Ak (D-1)
 have:=om (kQ (D-1))
 unfold gY
 omega
end Gr
end
section
open Go.ChangeShapes Go.WideShapes Go.ChangeAt Go.RowKit
namespace Gr
def Valid(y m d:Int):Prop:=1<=m/\m<=12/\1<=d/\d<=days y m
theorem sN(D:Int):∃y m d,Valid y m d/\D=bn y m d:=by
 obtain⟨a,b,c⟩:=UD D
 have hu:=om (gY D)
 have hs:=Ou (gY D)
 obtain⟨j,x,q,e1,e2,e3,e4⟩:=D10.zJ (ml (gY D)) (D-ahead (gY D)) (by omega) (by omega)
 have hj:j<12:=(List.getElem?_eq_some_iff.1 e1).1
 obtain⟨x',f1,f2,_⟩:=Tm (gY D) j hj
 rw [e1]at f1
 cases f1
 refine⟨gY D,(j:Int)+1,q,⟨by omega,by omega,e2,by omega⟩, ?_⟩
 unfold bn before
 rw [show((j:Int)+1-1).toNat=j by omega]
 omega
theorem mZ{y m d:Int}(h:Valid y m d)(b1: -1373427<=bn y m d)(b2:bn y m d<=2278650): -4000<=y/\y<=6500:=by
 obtain⟨h1,h2,h3,h4⟩:=h
 have t1:=Uq y (m-1).toNat (by omega)
 have hd:bn y m d=ahead y+d+((ml y).take (m-1).toNat).sum:=rfl
 have hdd:d<=31:=by
  obtain⟨x,e1,e2,e3,e4⟩:=Tm y (m-1).toNat (by omega)
  rw [show(((m-1).toNat:Nat):Int)+1=m by omega]at e2
  omega
 unfold ahead at hd
 omega
end Gr
end
end Go.Proofs.YthnjjcoahdhmnaaGreatDoor
