import Derived.Test.YthpipedifekmpaaGreatDoorJDates
import Derived.Test.YthpipedifekmpaaGreatDoorJHR
import Derived.Test.YthpipedifekmpaaGreatDoorJEV
import Derived.Test.YthpipedifekmpaaGreatDoorJFE
set_option maxHeartbeats 8000000
set_option maxRecDepth 100000
set_option linter.unusedVariables false
section
namespace Go.Proofs.YthpipedifekmpaaGreatDoor
open Go.ChangeShapes Go.WideShapes Go.ChangeAt Go.RowKit
namespace Yr
def Is(y:Int)(i:Nat):Prop:=1<=y/\y<=9999/\i<14/\Cal.first y % 7=kevB i/\Cal.kind y=kevK i/\Cal.leap y=kevL i
theorem is_some(y:Int)(h1:1<=y)(h2:y<=9999):∃i,Is y i:=by
 obtain⟨i,hi,a,b,c⟩:=year_row y h1 h2
 exact⟨i,h1,h2,hi,a,b,c⟩
def offV(i:Nat)(n:Int)(l:Bool)(d:Int):Int:=aheadV (kevB i) (kevK i) (kevL i) (Cal.plV (kevL i) n l)+d-1
def okV(i:Nat)(n:Int)(l:Bool)(d:Int):Bool:=Cal.plOk (kevL i) n l&&(decide (1<=d)&&decide (d<=daysV (kevB i) (kevK i) (kevL i) (Cal.plV (kevL i) n l)))
def lenV(i:Nat):Int:=353+kevK i+if kevL i then 30 else 0
theorem day_off{y n d:Int}{i:Nat}{l:Bool}(h:Is y i)(hv:okV i n l d=true):D10.dateE y n l d=0/\D10.dayV y n l d=Cal.first y+offV i n l d:=by
 obtain⟨h1,h2,hi,hb,hk,hl⟩:=h
 have hv2:=hv
 unfold okV at hv
 simp only [Bool.and_eq_true,decide_eq_true_eq]at hv
 obtain⟨p,d1,d2⟩:=hv
 have he:D10.dateE y n l d=0:=by
  unfold D10.dateE D10.dLen
  rw [Cal.yearIn_yes y h1 h2,hl,p,hb,hk]
  simp only [if_true]
  rw [decide_eq_true d1,decide_eq_true d2]
  rfl
 refine⟨he, ?_⟩
 unfold D10.dayV
 rw [if_pos he]
 unfold D10.dayOf D10.dAhead offV
 rw [hl,hb,hk]
 omega
theorem first_bd{y:Int}{i:Nat}(h:Is y i): -1373427<=Cal.first y/\Cal.first y<=2278650:=by
 obtain⟨h1,h2,_⟩:=h
 have a:=first_mono 1 y (by omega) h1 (by omega)
 have b:=first_mono y 9999 (by omega) h2 (by omega)
 have c:=first_mono 9999 10000 (by omega) (by omega) (by omega)
 rw [first_one]at a
 have d:=D10.day_bd (y:=y) (m:=1) (d:=1) ⟨h1,h2,by omega,D10.most_one y,by omega,by have:=(D10.len_bd y 1 h1 h2 (by omega) (D10.most_one y)).1;omega⟩
 unfold D10.dayOf at d
 rw [D10.ahead_one y h1 h2]at d
 omega
theorem next_first{y:Int}{i:Nat}(h:Is y i):Cal.first (y+1)=Cal.first y+lenV i:=by
 obtain⟨h1,h2,hi,hb,hk,hl⟩:=h
 unfold lenV
 rw [←hk,←hl]
 unfold Cal.kind Cal.long
 split <;> omega
end Yr
end Go.Proofs.YthpipedifekmpaaGreatDoor
end
section
namespace Go.Proofs.YthpipedifekmpaaGreatDoor
open Go.ChangeShapes Go.WideShapes Go.ChangeAt Go.RowKit Go.Lib Go.Sort Go.Shelf
namespace Fe
def rowKeys(lp p:Bool)(r:Int×Int×Bool×Int×Nat×Int×Nat):List Key:=
 if hasV lp r.2.1 r.2.2.1 then(List.range (manyAt p r)).map (fun i:Nat=>(r.1,r.2.1,r.2.2.1,dayAt p r,(i:Int)))else []
def progKeys(lp p:Bool):List Key:=rows.flatMap (rowKeys lp p)
theorem upto_keys(dv:Int->Bool->Int->Int)(lp p:Bool):upto dv lp p 19=(progKeys lp p).map (evk dv):=by
 unfold upto progKeys
 rw [show rows.take 19=rows from rfl,List.map_flatMap]
 congr 1
 funext r
 unfold rowEv rowKeys evs
 split
 ·rw [List.map_map];rfl
 ·rfl
def feastL(i:Nat)(p:Bool):List (Int×Int):=Ev.sort ((progKeys (kevL i) p).map (evk (Yr.offV i)))
def keysOk(i:Nat)(L:List Key):Bool:=L.all fun k=>Yr.okV i k.2.1 k.2.2.1 k.2.2.2.1
theorem map_off{y:Int}{i:Nat}(h:Yr.Is y i){L:List Key}(hL:keysOk i L=true):L.map (evk (D10.dayV y))=(L.map (evk (Yr.offV i))).map (Ev.sh (Cal.first y)):=by
 rw [List.map_map]
 apply List.map_congr_left
 intro k hk
 have:=(Yr.day_off h (List.all_eq_true.1 hL k hk)).2
 unfold evk Ev.sh
 dsimp only [Function.comp]
 rw [this]
 simp only [Prod.mk.injEq,true_and]
 omega
theorem sort_off{y:Int}{i:Nat}(h:Yr.Is y i){L:List Key}(hL:keysOk i L=true):Ev.sort (L.map (evk (D10.dayV y)))=(Ev.sort (L.map (evk (Yr.offV i)))).map (Ev.sh (Cal.first y)):=by
 rw [map_off h hL,Ev.sort_sh]
theorem prog_ok:((List.range 14).all fun i=> [false,true].all fun p=>keysOk i (progKeys (kevL i) p))=true:=by decide+kernel
theorem prog_keys(i:Nat)(hi:i<14)(p:Bool):keysOk i (progKeys (kevL i) p)=true:=by
 have:=List.all_eq_true.1 (List.all_eq_true.1 prog_ok i (List.mem_range.2 hi)) p (by cases p <;> simp)
 exact this
theorem row_ok{y:Int}{i:Nat}(h:Yr.Is y i)(p:Bool):∀k,k<19->hasV (Cal.leap y) (row k).2.1 (row k).2.2.1=true->D10.dateE y (row k).2.1 (row k).2.2.1 (dayAt p (row k))=0/\ -2000000<=D10.dayV y (row k).2.1 (row k).2.2.1 (dayAt p (row k))/\D10.dayV y (row k).2.1 (row k).2.2.1 (dayAt p (row k))<=3000000:=by
 intro k hk hv
 have hb:=Yr.first_bd h
 have hc:((List.range 14).all fun i=> [false,true].all fun p=>(List.range 19).all fun k=> !(hasV (kevL i) (row k).2.1 (row k).2.2.1)||(Yr.okV i (row k).2.1 (row k).2.2.1 (dayAt p (row k))&&(decide (0<=Yr.offV i (row k).2.1 (row k).2.2.1 (dayAt p (row k)))&&decide (Yr.offV i (row k).2.1 (row k).2.2.1 (dayAt p (row k))<=400))))=true:=by decide+kernel
 have:=List.all_eq_true.1 (List.all_eq_true.1 (List.all_eq_true.1 hc i (List.mem_range.2 h.2.2.1)) p (by cases p <;> simp)) k (List.mem_range.2 hk)
 rw [h.2.2.2.2.2]at hv
 rw [hv]at this
 simp only [Bool.not_true,Bool.false_or,Bool.and_eq_true,decide_eq_true_eq]at this
 obtain⟨o1,o2,o3⟩:=this
 obtain⟨e1,e2⟩:=Yr.day_off h o1
 rw [e2]
 exact⟨e1,by omega,by omega⟩
end Fe
theorem feast_Of_at(y:Int)(i:Nat)(p:Bool)(w:World)(h:Yr.Is y i)(hT:Tab w 5 kevCells)(hL:Tab w 4 lenCells)(hF:Tab w 6 Fe.cells):
  Calls Tryo.prog 83 #[.int .i64 y,.int .i64 (if p then 1 else 0)] w fun e w'=>∃v,e= .returned (.tuple #[v,.int .i64 0])/\Ev.Own w' w.heap.size v ((Fe.feastL i p).map (Ev.sh (Cal.first y)))/\Below w.heap.size w w':=by
 have hy1:=h.1
 have hy2:=h.2.1
 have HLp:=Lib.hid (fun w=>cycle_Leap_ok y w (by omega) (by omega))
 have e:Ev.sort (Fe.upto (D10.dayV y) (Cal.leap y) p 19)=(Fe.feastL i p).map (Ev.sh (Cal.first y)):=by
  rw [Fe.upto_keys,h.2.2.2.2.2,Fe.sort_off h (Fe.prog_keys i h.2.2.1 p)]
  rfl
 rw [←e]
 cases p
 ·exact feast_Of_0 y _ w hy1 hy2 hT hL hF HLp (Lib.hid (Fe.row_ok h false))
 ·exact feast_Of_1 y _ w hy1 hy2 hT hL hF HLp (Lib.hid (Fe.row_ok h true))
end Go.Proofs.YthpipedifekmpaaGreatDoor
end
