import Derived.Test.YtljbnicolhhicaaGreatDoorZHE
set_option maxHeartbeats 8000000
set_option maxRecDepth 100000
set_option linter.unusedVariables false
namespace Go.Proofs.YtljbnicolhhicaaGreatDoor
section
open Go.ChangeShapes Go.WideShapes Go.ChangeAt Go.RowKit
end
section
open Go.ChangeShapes Go.WideShapes Go.ChangeAt Go.RowKit
def YN(w:World)(g:Nat)(b k:Int)(lp:Bool):Prop:=w.cell? ⟨g,0,none⟩=some (b:vV)/\w.cell? ⟨g,1,none⟩=some (k:vV)/\w.cell? ⟨g,2,none⟩=some (.bool lp)/\g<w.1.size
theorem YN.below{w w':World}{g:Nat}{b k:Int}{lp:Bool}(h:YN w g b k lp)(hb:Below w.1.size w w'):YN w' g b k lp:=by
 obtain⟨h0,h1,h2,hs⟩:=h
 have c:=fun i=>hb.cell (p:=⟨g,i,none⟩) hs
 exact⟨(c 0).trans h0,(c 1).trans h1,(c 2).trans h2,Nat.lt_of_lt_of_le hs hb.size⟩
end
section
open Go.ChangeShapes Go.WideShapes Go.ChangeAt Go.RowKit Go.Joins
section
variable {H:Type} {enc:TypeId×Value->H} {W:World} {base b0:Nat} {spare:Nat->Bool} {held:Bool} {r:Reach} {v:Value} {d:DataW H} {p:List MemPlace}
end
end
section
open Go.ChangeShapes Go.WideShapes Go.ChangeAt Go.RowKit
namespace D10
theorem Me{y n d:Int}{l:Bool}(h:aK y n l d=0):Valid y (Cal.plV (Cal.leap y) n l) d/\aM y n l d=bA y (Cal.plV (Cal.leap y) n l) d/\Cal.ofN (Cal.leap y) (Cal.plV (Cal.leap y) n l)=n/\Cal.ofL (Cal.leap y) (Cal.plV (Cal.leap y) n l)=l:=by
 obtain⟨hv,hp⟩:=bq h
 obtain⟨_,_,e1,e2⟩:=iF _ _ _ hp
 exact⟨hv,by simp [aM,h],e1,e2⟩
theorem JR{y n d z k f:Int}{l h:Bool}(h1:aK y n l d=0)(h2:aK z k h f=0):kN y n l d z k h f=decide (aM y n l d<aM z k h f):=by
 obtain⟨v1,e1,a1,a2⟩:=Me h1
 obtain⟨v2,e2,b1,b2⟩:=Me h2
 have p1:=(bq h1).2
 have p2:=(bq h2).2
 have hi:=aac v1 v2
 rw [e1,e2]
 unfold kN
 by_cases c:y=z
 ·subst c
  rw [if_pos rfl,TL _ _ _ _ _ p1 p2]
  by_cases c2:n=k/\l=h
  ·obtain⟨rfl,rfl⟩:=c2
   rw [if_pos ⟨rfl,rfl⟩]
   exact decide_eq_decide.2 vO
  ·rw [if_neg c2]
   have:Cal.plV (Cal.leap y) n l≠Cal.plV (Cal.leap y) k h:=fun e=>c2 ⟨by rw [←a1,←b1,e],by rw [←a2,←b2,e]⟩
   exact decide_eq_decide.2 vO
 ·rw [if_neg c]
  exact decide_eq_decide.2 vO
theorem LV{y n:Int}{l:Bool}(h:bO y n l=0):1<=y/\y<=9999/\Cal.dH (Cal.leap y) n l=true/\aY y n l=dLen y (Cal.plV (Cal.leap y) n l)/\Valid y (Cal.plV (Cal.leap y) n l) (aY y n l)/\aK y n l (aY y n l)=0/\aK y n l (aY y n l+1)=4:=by
 unfold bO at h
 split at h
 ·rename_i c
  split at h
  ·rename_i p
   obtain⟨h1,h2⟩:=uj y c
   obtain⟨a1,a2,_,_⟩:=iF _ _ _ p
   have hl:=j5 y _ h1 h2 a1 a2
   have e:aY y n l=dLen y (Cal.plV (Cal.leap y) n l):=by simp [aY,c,p]
   refine⟨h1,h2,p,e,⟨h1,h2,a1,a2,vO,vO⟩, ?_, ?_⟩
   ·unfold aK;rw [c,p,e];simp;omega
   ·unfold aK;rw [c,p,e];simp;omega
  ·omega
 ·omega
theorem QE(y:Int):1<=Cal.most (Cal.leap y):=by unfold Cal.most;split <;> omega
end D10
end
end Go.Proofs.YtljbnicolhhicaaGreatDoor
