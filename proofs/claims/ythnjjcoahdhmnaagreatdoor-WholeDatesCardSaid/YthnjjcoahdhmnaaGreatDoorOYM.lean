import Derived.Test.YthnjjcoahdhmnaaGreatDoorODates
import Derived.Test.YthnjjcoahdhmnaaGreatDoorOHR
import Derived.Test.YthnjjcoahdhmnaaGreatDoorOEV
import Derived.Test.YthnjjcoahdhmnaaGreatDoorOFE
set_option maxHeartbeats 8000000
set_option maxRecDepth 100000
set_option linter.unusedVariables false
namespace Go.Proofs.YthnjjcoahdhmnaaGreatDoor
section
open Go.ChangeShapes Go.WideShapes Go.ChangeAt Go.RowKit
namespace Yr
def Is(y:Int)(i:Nat):Prop:=1<=y/\y<=9999/\i<14/\Cal.first y % 7=bS i/\Cal.kind y=jF i/\Cal.leap y=jE i
theorem Pb(y:Int)(h1:1<=y)(h2:y<=9999):∃i,Is y i:=by
 obtain⟨i,hi,a,b,c⟩:=MG y h1 h2
 exact⟨i,h1,h2,hi,a,b,c⟩
def pF(i:Nat)(n:Int)(l:Bool)(d:Int):Int:=jc (bS i) (jF i) (jE i) (Cal.plV (jE i) n l)+d-1
def okV(i:Nat)(n:Int)(l:Bool)(d:Int):Bool:=Cal.dJ (jE i) n l&&(decide (1<=d)&&decide (d<=pq (bS i) (jF i) (jE i) (Cal.plV (jE i) n l)))
def DU(i:Nat):Int:=353+jF i+if jE i then 30 else 0
theorem sH{y n d:Int}{i:Nat}{l:Bool}(h:Is y i)(hv:okV i n l d=true):D10.aB y n l d=0/\D10.aF y n l d=Cal.first y+pF i n l d:=by
 obtain⟨h1,h2,hi,hb,hk,hl⟩:=h
 have hv2:=hv
 unfold okV at hv
 simp only [Bool.and_eq_true,decide_eq_true_eq]at hv
 obtain⟨p,d1,d2⟩:=hv
 have he:D10.aB y n l d=0:=by
  unfold D10.aB D10.dLen
  rw [Cal.dD y h1 h2,hl,p,hb,hk]
  simp only [if_true]
  rw [decide_eq_true d1,decide_eq_true d2]
  rfl
 refine⟨he, ?_⟩
 unfold D10.aF
 rw [if_pos he]
 unfold D10.bn D10.iU pF
 rw [hl,hb,hk]
 omega
theorem iT{y:Int}{i:Nat}(h:Is y i): -1373427<=Cal.first y/\Cal.first y<=2278650:=by
 obtain⟨h1,h2,_⟩:=h
 have a:=dM 1 y (by omega) h1 (by omega)
 have b:=dM y 9999 (by omega) h2 (by omega)
 have c:=dM 9999 10000 (by omega) (by omega) (by omega)
 rw [sj]at a
 have d:=D10.Jf (y:=y) (m:=1) (d:=1) ⟨h1,h2,by omega,D10.mO y,by omega,by have:=(D10.jQ y 1 h1 h2 (by omega) (D10.mO y)).1;omega⟩
 unfold D10.bn at d
 rw [D10.sU y h1 h2]at d
 omega
theorem ku{y:Int}{i:Nat}(h:Is y i):Cal.first (y+1)=Cal.first y+DU i:=by
 obtain⟨h1,h2,hi,hb,hk,hl⟩:=h
 unfold DU
 rw [←hk,←hl]
 unfold Cal.kind Cal.long
 split <;> omega
end Yr
end
section
open Go.ChangeShapes Go.WideShapes Go.ChangeAt Go.RowKit Go.Lib Go.Sort Go.Shelf
namespace Fe
def Pk(lp p:Bool)(r:Int×Int×Bool×Int×Nat×Int×Nat):List Key:=
 if FC lp r.2.1 r.2.2.1 then(List.range (Ag p r)).map (fun i:Nat=>(r.1,r.2.1,r.2.2.1,kY p r,(i:Int)))else []
def qB(lp p:Bool):List Key:=rows.flatMap (Pk lp p)
theorem QX(dv:Int->Bool->Int->Int)(lp p:Bool):upto dv lp p 19=(qB lp p).map (evk dv):=by
 unfold upto qB
 rw [show rows.take 19=rows from rfl,List.map_flatMap]
 congr 1
 funext r
 unfold DR Pk evs
 split
 ·rw [List.map_map];rfl
 ·rfl
def jO(i:Nat)(p:Bool):List (Int×Int):=Ev.sort ((qB (jE i) p).map (evk (Yr.pF i)))
def JB(i:Nat)(L:List Key):Bool:=L.all fun k=>Yr.okV i k.2.1 k.2.2.1 k.2.2.2.1
theorem U3{y:Int}{i:Nat}(h:Yr.Is y i){L:List Key}(hL:JB i L=true):L.map (evk (D10.aF y))=(L.map (evk (Yr.pF i))).map (Ev.sh (Cal.first y)):=by
 rw [List.map_map]
 apply List.map_congr_left
 intro k hk
 have:=(Yr.sH h (List.all_eq_true.1 hL k hk)).2
 unfold evk Ev.sh
 dsimp only [Function.comp]
 rw [this]
 simp only [Prod.mk.injEq,true_and]
 omega
theorem Rv{y:Int}{i:Nat}(h:Yr.Is y i){L:List Key}(hL:JB i L=true):Ev.sort (L.map (evk (D10.aF y)))=(Ev.sort (L.map (evk (Yr.pF i)))).map (Ev.sh (Cal.first y)):=by
 rw [U3 h hL,Ev.UA]
theorem Ug:((List.range 14).all fun i=> [false,true].all fun p=>JB i (qB (jE i) p))=true:=by decide+kernel
theorem Rj(i:Nat)(hi:i<14)(p:Bool):JB i (qB (jE i) p)=true:=by
 have:=List.all_eq_true.1 (List.all_eq_true.1 Ug i (List.mem_range.2 hi)) p (by cases p <;> simp)
 exact this
theorem TB{y:Int}{i:Nat}(h:Yr.Is y i)(p:Bool):∀k,k<19->FC (Cal.leap y) (row k).2.1 (row k).2.2.1=true->D10.aB y (row k).2.1 (row k).2.2.1 (kY p (row k))=0/\ -2000000<=D10.aF y (row k).2.1 (row k).2.2.1 (kY p (row k))/\D10.aF y (row k).2.1 (row k).2.2.1 (kY p (row k))<=3000000:=by
 intro k hk hv
 have hb:=Yr.iT h
 have hc:((List.range 14).all fun i=> [false,true].all fun p=>(List.range 19).all fun k=> !(FC (jE i) (row k).2.1 (row k).2.2.1)||(Yr.okV i (row k).2.1 (row k).2.2.1 (kY p (row k))&&(decide (0<=Yr.pF i (row k).2.1 (row k).2.2.1 (kY p (row k)))&&decide (Yr.pF i (row k).2.1 (row k).2.2.1 (kY p (row k))<=400))))=true:=by decide+kernel
 have:=List.all_eq_true.1 (List.all_eq_true.1 (List.all_eq_true.1 hc i (List.mem_range.2 h.2.2.1)) p (by cases p <;> simp)) k (List.mem_range.2 hk)
 rw [h.2.2.2.2.2]at hv
 rw [hv]at this
 simp only [Bool.not_true,Bool.false_or,Bool.and_eq_true,decide_eq_true_eq]at this
 obtain⟨o1,o2,o3⟩:=this
 obtain⟨e1,e2⟩:=Yr.sH h o1
 rw [e2]
 exact⟨e1,by omega,by omega⟩
end Fe
theorem qH(y:Int)(i:Nat)(p:Bool)(w:World)(h:Yr.Is y i)(hT:Tab w 7 kevCells)(hL:Tab w 5 lenCells)(hF:Tab w 0 Fe.cells):
  Calls Tryo.prog 38 #[.int .i64 y,.int .i64 (if p then 1 else 0)] w fun e w'=>∃v,e= .returned (.tuple #[v,.int .i64 0])/\Ev.Own w' w.heap.size v ((Fe.jO i p).map (Ev.sh (Cal.first y)))/\Below w.heap.size w w':=by
 have hy1:=h.1
 have hy2:=h.2.1
 have HLp:=Lib.hid (fun w=>aT y w (by omega) (by omega))
 have e:Ev.sort (Fe.upto (D10.aF y) (Cal.leap y) p 19)=(Fe.jO i p).map (Ev.sh (Cal.first y)):=by
  rw [Fe.QX,h.2.2.2.2.2,Fe.Rv h (Fe.Rj i h.2.2.1 p)]
  rfl
 rw [←e]
 cases p
 ·exact Nw y _ w hy1 hy2 hT hL hF HLp (Lib.hid (Fe.TB h false))
 ·exact OC y _ w hy1 hy2 hT hL hF HLp (Lib.hid (Fe.TB h true))
end
end Go.Proofs.YthnjjcoahdhmnaaGreatDoor
