import Derived.Test.YthpipedifekmpaaGreatDoorJHE
import Derived.Test.YthpipedifekmpaaGreatDoorJBB
set_option maxHeartbeats 8000000
set_option maxRecDepth 100000
set_option linter.unusedVariables false
section
namespace Go.Proofs.YthpipedifekmpaaGreatDoor
open Go.ChangeShapes Go.WideShapes Go.ChangeAt Go.RowKit
end Go.Proofs.YthpipedifekmpaaGreatDoor
end
section
namespace Go.Proofs.YthpipedifekmpaaGreatDoor
open Go.ChangeShapes Go.WideShapes Go.ChangeAt Go.RowKit
def KevAt(w:World)(g:Nat)(b k:Int)(lp:Bool):Prop:=w.cell? ⟨g,0,none⟩=some (.int .i64 b)/\w.cell? ⟨g,1,none⟩=some (.int .i64 k)/\w.cell? ⟨g,2,none⟩=some (.bool lp)/\g<w.heap.size
theorem KevAt.below{w w':World}{g:Nat}{b k:Int}{lp:Bool}(h:KevAt w g b k lp)(hb:Below w.heap.size w w'):KevAt w' g b k lp:=by
 obtain⟨h0,h1,h2,hs⟩:=h
 have c:=fun i=>hb.cell (p:=⟨g,i,none⟩) hs
 exact⟨(c 0).trans h0,(c 1).trans h1,(c 2).trans h2,Nat.lt_of_lt_of_le hs hb.size⟩
end Go.Proofs.YthpipedifekmpaaGreatDoor
end
section
namespace Go.Proofs.YthpipedifekmpaaGreatDoor
open Go.ChangeShapes Go.WideShapes Go.ChangeAt Go.RowKit Go.Joins
section
variable {H:Type} {enc:TypeId×Value->H} {W:World} {base b0:Nat} {spare:Nat->Bool} {held:Bool} {r:Reach} {v:Value} {d:DataW H} {p:List MemPlace}
end
end Go.Proofs.YthpipedifekmpaaGreatDoor
end
section
namespace Go.Proofs.YthpipedifekmpaaGreatDoor
open Go.ChangeShapes Go.WideShapes Go.ChangeAt Go.RowKit
namespace D10
theorem date_back{y n d:Int}{l:Bool}(h:dateE y n l d=0):Valid y (Cal.plV (Cal.leap y) n l) d/\dayV y n l d=dayOf y (Cal.plV (Cal.leap y) n l) d/\Cal.ofN (Cal.leap y) (Cal.plV (Cal.leap y) n l)=n/\Cal.ofL (Cal.leap y) (Cal.plV (Cal.leap y) n l)=l:=by
 obtain⟨hv,hp⟩:=date_valid h
 obtain⟨_,_,e1,e2⟩:=place_in _ _ _ hp
 exact⟨hv,by simp [dayV,h],e1,e2⟩
theorem less_day{y n d z k f:Int}{l h:Bool}(h1:dateE y n l d=0)(h2:dateE z k h f=0):lessD y n l d z k h f=decide (dayV y n l d<dayV z k h f):=by
 obtain⟨v1,e1,a1,a2⟩:=date_back h1
 obtain⟨v2,e2,b1,b2⟩:=date_back h2
 have p1:=(date_valid h1).2
 have p2:=(date_valid h2).2
 have hi:=day_iff v1 v2
 rw [e1,e2]
 unfold lessD
 by_cases c:y=z
 ·subst c
  rw [if_pos rfl,less_place _ _ _ _ _ p1 p2]
  by_cases c2:n=k/\l=h
  ·obtain⟨rfl,rfl⟩:=c2
   rw [if_pos ⟨rfl,rfl⟩]
   exact decide_eq_decide.2 (by omega)
  ·rw [if_neg c2]
   have:Cal.plV (Cal.leap y) n l≠Cal.plV (Cal.leap y) k h:=fun e=>c2 ⟨by rw [←a1,←b1,e],by rw [←a2,←b2,e]⟩
   exact decide_eq_decide.2 (by omega)
 ·rw [if_neg c]
  exact decide_eq_decide.2 (by omega)
theorem same_day{y n d z k f:Int}{l h:Bool}(h1:dateE y n l d=0)(h2:dateE z k h f=0)(e:dayV y n l d=dayV z k h f):y=z/\n=k/\l=h/\d=f:=by
 obtain⟨v1,e1,a1,a2⟩:=date_back h1
 obtain⟨v2,e2,b1,b2⟩:=date_back h2
 rw [e1,e2]at e
 obtain⟨rfl,em,ed⟩:=day_eq v1 v2 e
 exact⟨rfl,by rw [←a1,←b1,em],by rw [←a2,←b2,em],ed⟩
theorem last_date{y n:Int}{l:Bool}(h:lastE y n l=0):1<=y/\y<=9999/\Cal.plOk (Cal.leap y) n l=true/\lastV y n l=dLen y (Cal.plV (Cal.leap y) n l)/\Valid y (Cal.plV (Cal.leap y) n l) (lastV y n l)/\dateE y n l (lastV y n l)=0/\dateE y n l (lastV y n l+1)=4:=by
 unfold lastE at h
 split at h
 ·rename_i c
  split at h
  ·rename_i p
   obtain⟨h1,h2⟩:=year_in y c
   obtain⟨a1,a2,_,_⟩:=place_in _ _ _ p
   have hl:=len_bd y _ h1 h2 a1 a2
   have e:lastV y n l=dLen y (Cal.plV (Cal.leap y) n l):=by simp [lastV,c,p]
   refine⟨h1,h2,p,e,⟨h1,h2,a1,a2,by omega,by omega⟩, ?_, ?_⟩
   ·unfold dateE;rw [c,p,e];simp;omega
   ·unfold dateE;rw [c,p,e];simp;omega
  ·omega
 ·omega
theorem most_one(y:Int):1<=Cal.most (Cal.leap y):=by unfold Cal.most;split <;> omega
end D10
end Go.Proofs.YthpipedifekmpaaGreatDoor
end
