import Derived.Test.YthnjjcoahdhmnaaGreatDoorOHE
import Derived.Test.YthnjjcoahdhmnaaGreatDoorOBB
set_option maxHeartbeats 8000000
set_option maxRecDepth 100000
set_option linter.unusedVariables false
namespace Go.Proofs.YthnjjcoahdhmnaaGreatDoor
section
open Go.ChangeShapes Go.WideShapes Go.ChangeAt Go.RowKit
end
section
open Go.ChangeShapes Go.WideShapes Go.ChangeAt Go.RowKit
def TN(w:World)(g:Nat)(b k:Int)(lp:Bool):Prop:=w.cell? ⟨g,0,none⟩=some (.int .i64 b)/\w.cell? ⟨g,1,none⟩=some (.int .i64 k)/\w.cell? ⟨g,2,none⟩=some (.bool lp)/\g<w.heap.size
theorem TN.below{w w':World}{g:Nat}{b k:Int}{lp:Bool}(h:TN w g b k lp)(hb:Below w.heap.size w w'):TN w' g b k lp:=by
 obtain⟨h0,h1,h2,hs⟩:=h
 have c:=fun i=>hb.cell (p:=⟨g,i,none⟩) hs
 exact⟨(c 0).trans h0,(c 1).trans h1,(c 2).trans h2,Nat.lt_of_lt_of_le hs hb.size⟩
end
section
open Go.ChangeShapes Go.WideShapes Go.ChangeAt Go.RowKit Go.Joins
section
variable {H:Type} {enc:TypeId×Value->H} {W:World} {base b0:Nat} {spare:Nat->Bool} {held:Bool} {r:Reach} {v:Value} {d:DataW H} {p:List MemPlace}
end
end
section
open Go.ChangeShapes Go.WideShapes Go.ChangeAt Go.RowKit
namespace D10
theorem j4{y n d:Int}{l:Bool}(h:aB y n l d=0):Valid y (Cal.plV (Cal.leap y) n l) d/\aF y n l d=bn y (Cal.plV (Cal.leap y) n l) d/\Cal.ofN (Cal.leap y) (Cal.plV (Cal.leap y) n l)=n/\Cal.ofL (Cal.leap y) (Cal.plV (Cal.leap y) n l)=l:=by
 obtain⟨hv,hp⟩:=bG h
 obtain⟨_,_,e1,e2⟩:=jM _ _ _ hp
 exact⟨hv,by simp [aF,h],e1,e2⟩
theorem pR{y n d z k f:Int}{l h:Bool}(h1:aB y n l d=0)(h2:aB z k h f=0):jG y n l d z k h f=decide (aF y n l d<aF z k h f):=by
 obtain⟨v1,e1,a1,a2⟩:=j4 h1
 obtain⟨v2,e2,b1,b2⟩:=j4 h2
 have p1:=(bG h1).2
 have p2:=(bG h2).2
 have hi:=UM v1 v2
 rw [e1,e2]
 unfold jG
 by_cases c:y=z
 ·subst c
  rw [if_pos rfl,NC _ _ _ _ _ p1 p2]
  by_cases c2:n=k/\l=h
  ·obtain⟨rfl,rfl⟩:=c2
   rw [if_pos ⟨rfl,rfl⟩]
   exact decide_eq_decide.2 (by omega)
  ·rw [if_neg c2]
   have:Cal.plV (Cal.leap y) n l≠Cal.plV (Cal.leap y) k h:=fun e=>c2 ⟨by rw [←a1,←b1,e],by rw [←a2,←b2,e]⟩
   exact decide_eq_decide.2 (by omega)
 ·rw [if_neg c]
  exact decide_eq_decide.2 (by omega)
theorem D9{y n d z k f:Int}{l h:Bool}(h1:aB y n l d=0)(h2:aB z k h f=0)(e:aF y n l d=aF z k h f):y=z/\n=k/\l=h/\d=f:=by
 obtain⟨v1,e1,a1,a2⟩:=j4 h1
 obtain⟨v2,e2,b1,b2⟩:=j4 h2
 rw [e1,e2]at e
 obtain⟨rfl,em,ed⟩:=VP v1 v2 e
 exact⟨rfl,by rw [←a1,←b1,em],by rw [←a2,←b2,em],ed⟩
theorem sI{y n:Int}{l:Bool}(h:bq y n l=0):1<=y/\y<=9999/\Cal.dJ (Cal.leap y) n l=true/\aZ y n l=dLen y (Cal.plV (Cal.leap y) n l)/\Valid y (Cal.plV (Cal.leap y) n l) (aZ y n l)/\aB y n l (aZ y n l)=0/\aB y n l (aZ y n l+1)=4:=by
 unfold bq at h
 split at h
 ·rename_i c
  split at h
  ·rename_i p
   obtain⟨h1,h2⟩:=mZ y c
   obtain⟨a1,a2,_,_⟩:=jM _ _ _ p
   have hl:=jQ y _ h1 h2 a1 a2
   have e:aZ y n l=dLen y (Cal.plV (Cal.leap y) n l):=by simp [aZ,c,p]
   refine⟨h1,h2,p,e,⟨h1,h2,a1,a2,by omega,by omega⟩, ?_, ?_⟩
   ·unfold aB;rw [c,p,e];simp;omega
   ·unfold aB;rw [c,p,e];simp;omega
  ·omega
 ·omega
theorem mO(y:Int):1<=Cal.most (Cal.leap y):=by unfold Cal.most;split <;> omega
end D10
end
end Go.Proofs.YthnjjcoahdhmnaaGreatDoor
