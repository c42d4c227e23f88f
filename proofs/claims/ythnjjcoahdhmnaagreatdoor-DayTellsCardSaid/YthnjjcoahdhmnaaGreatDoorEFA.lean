import Derived.Test.YthnjjcoahdhmnaaGreatDoorEFE
import Derived.Test.YthnjjcoahdhmnaaGreatDoorETL
import Derived.Test.YthnjjcoahdhmnaaGreatDoorEBB
import Derived.Test.YthnjjcoahdhmnaaGreatDoorEYM
import Derived.LoopTactic
set_option maxHeartbeats 8000000
set_option maxRecDepth 100000
set_option linter.unusedVariables false
namespace Go.Proofs.YthnjjcoahdhmnaaGreatDoor
section
open Go.ChangeShapes Go.WideShapes Go.ChangeAt Go.RowKit Go.Lib Go.Sort Go.Shelf
namespace Fa
def mvd(k w:Int):Int:=
 if k=2 then if w=6 then 1 else 0 else
 if k=26 then if w=6 then 1 else 0 else
 if k=27 then if w=6 then 1 else 0 else
 if k=13 then if w=6 then(-2)else 0 else
 if k=16 then if w=6 then(-2)else 0 else
 if k=19 then if w=5 then(-1)else if w=0 then 1 else 0 else
 if k=21 then if w=5 then(-1)else if w=6 then(-2)else if w=1 then 1 else 0 else
 0
theorem Tf(k w:Int): -2<=mvd k w/\mvd k w<=1:=by
 unfold mvd
 repeat' split
 all_goals omega
end Fa
theorem Gd(x:World):Calls Tryo.prog 104 #[.int .i64 2,.int .i64 6] x fun e x'=>e= .returned (.int .i64 1)/\x=x':=by
 go_enter Tryo.func104,Tryz.ntmps104
 go_wp2_with fail
 go_ret
 exact⟨rfl,rfl⟩
theorem Db(w:Int)(h6:(w==6)=false)(x:World):Calls Tryo.prog 104 #[.int .i64 2,.int .i64 w] x fun e x'=>e= .returned (.int .i64 0)/\x=x':=by
 go_enter Tryo.func104,Tryz.ntmps104
 go_wp2_with fail
 go_ret
 exact⟨rfl,rfl⟩
theorem Dm(x:World):Calls Tryo.prog 104 #[.int .i64 26,.int .i64 6] x fun e x'=>e= .returned (.int .i64 1)/\x=x':=by
 go_enter Tryo.func104,Tryz.ntmps104
 go_wp2_with fail
 go_ret
 exact⟨rfl,rfl⟩
theorem Ae(w:Int)(h6:(w==6)=false)(x:World):Calls Tryo.prog 104 #[.int .i64 26,.int .i64 w] x fun e x'=>e= .returned (.int .i64 0)/\x=x':=by
 go_enter Tryo.func104,Tryz.ntmps104
 go_wp2_with fail
 go_ret
 exact⟨rfl,rfl⟩
theorem Dk(x:World):Calls Tryo.prog 104 #[.int .i64 27,.int .i64 6] x fun e x'=>e= .returned (.int .i64 1)/\x=x':=by
 go_enter Tryo.func104,Tryz.ntmps104
 go_wp2_with fail
 go_ret
 exact⟨rfl,rfl⟩
theorem AP(w:Int)(h6:(w==6)=false)(x:World):Calls Tryo.prog 104 #[.int .i64 27,.int .i64 w] x fun e x'=>e= .returned (.int .i64 0)/\x=x':=by
 go_enter Tryo.func104,Tryz.ntmps104
 go_wp2_with fail
 go_ret
 exact⟨rfl,rfl⟩
theorem Dn(x:World):Calls Tryo.prog 104 #[.int .i64 13,.int .i64 6] x fun e x'=>e= .returned (.int .i64 (-2))/\x=x':=by
 go_enter Tryo.func104,Tryz.ntmps104
 go_wp2_with fail
 go_ret
 exact⟨rfl,rfl⟩
theorem Bq(w:Int)(h6:(w==6)=false)(x:World):Calls Tryo.prog 104 #[.int .i64 13,.int .i64 w] x fun e x'=>e= .returned (.int .i64 0)/\x=x':=by
 go_enter Tryo.func104,Tryz.ntmps104
 go_wp2_with fail
 go_ret
 exact⟨rfl,rfl⟩
theorem Dj(x:World):Calls Tryo.prog 104 #[.int .i64 16,.int .i64 6] x fun e x'=>e= .returned (.int .i64 (-2))/\x=x':=by
 go_enter Tryo.func104,Tryz.ntmps104
 go_wp2_with fail
 go_ret
 exact⟨rfl,rfl⟩
theorem Ak(w:Int)(h6:(w==6)=false)(x:World):Calls Tryo.prog 104 #[.int .i64 16,.int .i64 w] x fun e x'=>e= .returned (.int .i64 0)/\x=x':=by
 go_enter Tryo.func104,Tryz.ntmps104
 go_wp2_with fail
 go_ret
 exact⟨rfl,rfl⟩
theorem Da(x:World):Calls Tryo.prog 104 #[.int .i64 19,.int .i64 5] x fun e x'=>e= .returned (.int .i64 (-1))/\x=x':=by
 go_enter Tryo.func104,Tryz.ntmps104
 go_wp2_with fail
 go_ret
 exact⟨rfl,rfl⟩
theorem Dl(x:World):Calls Tryo.prog 104 #[.int .i64 19,.int .i64 0] x fun e x'=>e= .returned (.int .i64 1)/\x=x':=by
 go_enter Tryo.func104,Tryz.ntmps104
 go_wp2_with fail
 go_ret
 exact⟨rfl,rfl⟩
theorem Br(w:Int)(h5:(w==5)=false)(h0:(w==0)=false)(x:World):Calls Tryo.prog 104 #[.int .i64 19,.int .i64 w] x fun e x'=>e= .returned (.int .i64 0)/\x=x':=by
 go_enter Tryo.func104,Tryz.ntmps104
 go_wp2_with fail
 go_ret
 exact⟨rfl,rfl⟩
theorem Du(x:World):Calls Tryo.prog 104 #[.int .i64 21,.int .i64 5] x fun e x'=>e= .returned (.int .i64 (-1))/\x=x':=by
 go_enter Tryo.func104,Tryz.ntmps104
 go_wp2_with fail
 go_ret
 exact⟨rfl,rfl⟩
theorem Dw(x:World):Calls Tryo.prog 104 #[.int .i64 21,.int .i64 6] x fun e x'=>e= .returned (.int .i64 (-2))/\x=x':=by
 go_enter Tryo.func104,Tryz.ntmps104
 go_wp2_with fail
 go_ret
 exact⟨rfl,rfl⟩
theorem DN(x:World):Calls Tryo.prog 104 #[.int .i64 21,.int .i64 1] x fun e x'=>e= .returned (.int .i64 1)/\x=x':=by
 go_enter Tryo.func104,Tryz.ntmps104
 go_wp2_with fail
 go_ret
 exact⟨rfl,rfl⟩
theorem Bl(w:Int)(h5:(w==5)=false)(h6:(w==6)=false)(h1:(w==1)=false)(x:World):Calls Tryo.prog 104 #[.int .i64 21,.int .i64 w] x fun e x'=>e= .returned (.int .i64 0)/\x=x':=by
 go_enter Tryo.func104,Tryz.ntmps104
 go_wp2_with fail
 go_ret
 exact⟨rfl,rfl⟩
theorem Io(k w:Int)(h2:(k==2)=false)(h26:(k==26)=false)(h27:(k==27)=false)(h13:(k==13)=false)(h16:(k==16)=false)(h19:(k==19)=false)(h21:(k==21)=false)(x:World):Calls Tryo.prog 104 #[.int .i64 k,.int .i64 w] x fun e x'=>e= .returned (.int .i64 0)/\x=x':=by
 go_enter Tryo.func104,Tryz.ntmps104
 go_wp2_with fail
 go_ret
 exact⟨rfl,rfl⟩
theorem TN(k w:Int)(x:World):Calls Tryo.prog 104 #[.int .i64 k,.int .i64 w] x fun e x'=>e= .returned (.int .i64 (Fa.mvd k w))/\x=x':=by
 by_cases e2:k=2
 ·subst e2
  by_cases d6:w=6
  ·subst d6;exact Gd x
  rw [show Fa.mvd 2 w=0 by simp [Fa.mvd,d6]]
  exact Db w (by simpa using d6) x
 by_cases e26:k=26
 ·subst e26
  by_cases d6:w=6
  ·subst d6;exact Dm x
  rw [show Fa.mvd 26 w=0 by simp [Fa.mvd,d6]]
  exact Ae w (by simpa using d6) x
 by_cases e27:k=27
 ·subst e27
  by_cases d6:w=6
  ·subst d6;exact Dk x
  rw [show Fa.mvd 27 w=0 by simp [Fa.mvd,d6]]
  exact AP w (by simpa using d6) x
 by_cases e13:k=13
 ·subst e13
  by_cases d6:w=6
  ·subst d6;exact Dn x
  rw [show Fa.mvd 13 w=0 by simp [Fa.mvd,d6]]
  exact Bq w (by simpa using d6) x
 by_cases e16:k=16
 ·subst e16
  by_cases d6:w=6
  ·subst d6;exact Dj x
  rw [show Fa.mvd 16 w=0 by simp [Fa.mvd,d6]]
  exact Ak w (by simpa using d6) x
 by_cases e19:k=19
 ·subst e19
  by_cases d5:w=5
  ·subst d5;exact Da x
  by_cases d0:w=0
  ·subst d0;exact Dl x
  rw [show Fa.mvd 19 w=0 by simp [Fa.mvd,d5,d0]]
  exact Br w (by simpa using d5) (by simpa using d0) x
 by_cases e21:k=21
 ·subst e21
  by_cases d5:w=5
  ·subst d5;exact Du x
  by_cases d6:w=6
  ·subst d6;exact Dw x
  by_cases d1:w=1
  ·subst d1;exact DN x
  rw [show Fa.mvd 21 w=0 by simp [Fa.mvd,d5,d6,d1]]
  exact Bl w (by simpa using d5) (by simpa using d6) (by simpa using d1) x
 rw [show Fa.mvd k w=0 by simp [Fa.mvd,e2,e26,e27,e13,e16,e19,e21]]
 exact Io k w (by simpa using e2) (by simpa using e26) (by simpa using e27) (by simpa using e13) (by simpa using e16) (by simpa using e19) (by simpa using e21) x
theorem C9(x:World):Calls Tryo.prog 185 #[.int .i64 2,.int .i64 6] x fun e x'=>e= .returned (.int .i64 1)/\x=x':=by
 go_enter Tryo.func185,Tryz.ntmps185
 go_wp2_with fail
 go_ret
 exact⟨rfl,rfl⟩
theorem AZ(w:Int)(h6:(w==6)=false)(x:World):Calls Tryo.prog 185 #[.int .i64 2,.int .i64 w] x fun e x'=>e= .returned (.int .i64 0)/\x=x':=by
 go_enter Tryo.func185,Tryz.ntmps185
 go_wp2_with fail
 go_ret
 exact⟨rfl,rfl⟩
theorem Aq(x:World):Calls Tryo.prog 185 #[.int .i64 26,.int .i64 6] x fun e x'=>e= .returned (.int .i64 1)/\x=x':=by
 go_enter Tryo.func185,Tryz.ntmps185
 go_wp2_with fail
 go_ret
 exact⟨rfl,rfl⟩
theorem yG(w:Int)(h6:(w==6)=false)(x:World):Calls Tryo.prog 185 #[.int .i64 26,.int .i64 w] x fun e x'=>e= .returned (.int .i64 0)/\x=x':=by
 go_enter Tryo.func185,Tryz.ntmps185
 go_wp2_with fail
 go_ret
 exact⟨rfl,rfl⟩
theorem AB(x:World):Calls Tryo.prog 185 #[.int .i64 27,.int .i64 6] x fun e x'=>e= .returned (.int .i64 1)/\x=x':=by
 go_enter Tryo.func185,Tryz.ntmps185
 go_wp2_with fail
 go_ret
 exact⟨rfl,rfl⟩
theorem zP(w:Int)(h6:(w==6)=false)(x:World):Calls Tryo.prog 185 #[.int .i64 27,.int .i64 w] x fun e x'=>e= .returned (.int .i64 0)/\x=x':=by
 go_enter Tryo.func185,Tryz.ntmps185
 go_wp2_with fail
 go_ret
 exact⟨rfl,rfl⟩
theorem A8(x:World):Calls Tryo.prog 185 #[.int .i64 13,.int .i64 6] x fun e x'=>e= .returned (.int .i64 (-2))/\x=x':=by
 go_enter Tryo.func185,Tryz.ntmps185
 go_wp2_with fail
 go_ret
 exact⟨rfl,rfl⟩
theorem yV(w:Int)(h6:(w==6)=false)(x:World):Calls Tryo.prog 185 #[.int .i64 13,.int .i64 w] x fun e x'=>e= .returned (.int .i64 0)/\x=x':=by
 go_enter Tryo.func185,Tryz.ntmps185
 go_wp2_with fail
 go_ret
 exact⟨rfl,rfl⟩
theorem Bv(x:World):Calls Tryo.prog 185 #[.int .i64 16,.int .i64 6] x fun e x'=>e= .returned (.int .i64 (-2))/\x=x':=by
 go_enter Tryo.func185,Tryz.ntmps185
 go_wp2_with fail
 go_ret
 exact⟨rfl,rfl⟩
theorem zV(w:Int)(h6:(w==6)=false)(x:World):Calls Tryo.prog 185 #[.int .i64 16,.int .i64 w] x fun e x'=>e= .returned (.int .i64 0)/\x=x':=by
 go_enter Tryo.func185,Tryz.ntmps185
 go_wp2_with fail
 go_ret
 exact⟨rfl,rfl⟩
theorem AV(x:World):Calls Tryo.prog 185 #[.int .i64 19,.int .i64 5] x fun e x'=>e= .returned (.int .i64 (-1))/\x=x':=by
 go_enter Tryo.func185,Tryz.ntmps185
 go_wp2_with fail
 go_ret
 exact⟨rfl,rfl⟩
theorem Ao(x:World):Calls Tryo.prog 185 #[.int .i64 19,.int .i64 0] x fun e x'=>e= .returned (.int .i64 1)/\x=x':=by
 go_enter Tryo.func185,Tryz.ntmps185
 go_wp2_with fail
 go_ret
 exact⟨rfl,rfl⟩
theorem yR(w:Int)(h5:(w==5)=false)(h0:(w==0)=false)(x:World):Calls Tryo.prog 185 #[.int .i64 19,.int .i64 w] x fun e x'=>e= .returned (.int .i64 0)/\x=x':=by
 go_enter Tryo.func185,Tryz.ntmps185
 go_wp2_with fail
 go_ret
 exact⟨rfl,rfl⟩
theorem Al(x:World):Calls Tryo.prog 185 #[.int .i64 21,.int .i64 5] x fun e x'=>e= .returned (.int .i64 (-1))/\x=x':=by
 go_enter Tryo.func185,Tryz.ntmps185
 go_wp2_with fail
 go_ret
 exact⟨rfl,rfl⟩
theorem AR(x:World):Calls Tryo.prog 185 #[.int .i64 21,.int .i64 6] x fun e x'=>e= .returned (.int .i64 (-2))/\x=x':=by
 go_enter Tryo.func185,Tryz.ntmps185
 go_wp2_with fail
 go_ret
 exact⟨rfl,rfl⟩
theorem Bh(x:World):Calls Tryo.prog 185 #[.int .i64 21,.int .i64 1] x fun e x'=>e= .returned (.int .i64 1)/\x=x':=by
 go_enter Tryo.func185,Tryz.ntmps185
 go_wp2_with fail
 go_ret
 exact⟨rfl,rfl⟩
theorem zu(w:Int)(h5:(w==5)=false)(h6:(w==6)=false)(h1:(w==1)=false)(x:World):Calls Tryo.prog 185 #[.int .i64 21,.int .i64 w] x fun e x'=>e= .returned (.int .i64 0)/\x=x':=by
 go_enter Tryo.func185,Tryz.ntmps185
 go_wp2_with fail
 go_ret
 exact⟨rfl,rfl⟩
theorem Gu(k w:Int)(h2:(k==2)=false)(h26:(k==26)=false)(h27:(k==27)=false)(h13:(k==13)=false)(h16:(k==16)=false)(h19:(k==19)=false)(h21:(k==21)=false)(x:World):Calls Tryo.prog 185 #[.int .i64 k,.int .i64 w] x fun e x'=>e= .returned (.int .i64 0)/\x=x':=by
 go_enter Tryo.func185,Tryz.ntmps185
 go_wp2_with fail
 go_ret
 exact⟨rfl,rfl⟩
theorem RQ(k w:Int)(x:World):Calls Tryo.prog 185 #[.int .i64 k,.int .i64 w] x fun e x'=>e= .returned (.int .i64 (Fa.mvd k w))/\x=x':=by
 by_cases e2:k=2
 ·subst e2
  by_cases d6:w=6
  ·subst d6;exact C9 x
  rw [show Fa.mvd 2 w=0 by simp [Fa.mvd,d6]]
  exact AZ w (by simpa using d6) x
 by_cases e26:k=26
 ·subst e26
  by_cases d6:w=6
  ·subst d6;exact Aq x
  rw [show Fa.mvd 26 w=0 by simp [Fa.mvd,d6]]
  exact yG w (by simpa using d6) x
 by_cases e27:k=27
 ·subst e27
  by_cases d6:w=6
  ·subst d6;exact AB x
  rw [show Fa.mvd 27 w=0 by simp [Fa.mvd,d6]]
  exact zP w (by simpa using d6) x
 by_cases e13:k=13
 ·subst e13
  by_cases d6:w=6
  ·subst d6;exact A8 x
  rw [show Fa.mvd 13 w=0 by simp [Fa.mvd,d6]]
  exact yV w (by simpa using d6) x
 by_cases e16:k=16
 ·subst e16
  by_cases d6:w=6
  ·subst d6;exact Bv x
  rw [show Fa.mvd 16 w=0 by simp [Fa.mvd,d6]]
  exact zV w (by simpa using d6) x
 by_cases e19:k=19
 ·subst e19
  by_cases d5:w=5
  ·subst d5;exact AV x
  by_cases d0:w=0
  ·subst d0;exact Ao x
  rw [show Fa.mvd 19 w=0 by simp [Fa.mvd,d5,d0]]
  exact yR w (by simpa using d5) (by simpa using d0) x
 by_cases e21:k=21
 ·subst e21
  by_cases d5:w=5
  ·subst d5;exact Al x
  by_cases d6:w=6
  ·subst d6;exact AR x
  by_cases d1:w=1
  ·subst d1;exact Bh x
  rw [show Fa.mvd 21 w=0 by simp [Fa.mvd,d5,d6,d1]]
  exact zu w (by simpa using d5) (by simpa using d6) (by simpa using d1) x
 rw [show Fa.mvd k w=0 by simp [Fa.mvd,e2,e26,e27,e13,e16,e19,e21]]
 exact Gu k w (by simpa using e2) (by simpa using e26) (by simpa using e27) (by simpa using e13) (by simpa using e16) (by simpa using e19) (by simpa using e21) x
end
section
open Go.ChangeShapes Go.WideShapes Go.ChangeAt Go.RowKit Go.Lib Go.Sort Go.Shelf
namespace Fa
def rows:List (Int×Int×Int):= [(2,1,3),(10,4,10),(13,6,13),(16,7,14),(19,7,27),(21,8,5),(24,8,28),(26,10,17),(27,11,9)]
def row(k:Nat):Int×Int×Int:=rows.getD k (0,0,0)
def pQ(r:Int×Int×Int):List Value:= [.int .i64 r.1,.int .i64 r.2.1,.int .i64 r.2.2]
def cells:List Value:=rows.flatMap pQ
def arr:Array Value:=cells.toArray
theorem yJ:arr.size=27:=by kernel_rfl
theorem index(k:Nat)(hk:k<9):∀w:World,(Instr.index 134 (.agg arr) (.int .i64 (k:Int))).run Tryo.prog w= .ok (.agg (pQ (row k)).toArray) w:=by
 rcases(show k=0∨k=1∨k=2∨k=3∨k=4∨k=5∨k=6∨k=7∨k=8 by omega)with rfl|rfl|rfl|rfl|rfl|rfl|rfl|rfl|rfl
 all_goals exact fun _=>by kernel_rfl
attribute [irreducible] arr
def evs(sw:Bool)(kd e:Int):List (Int×Int):=if kd=21 then(if sw then [(20,e-1),(21,e)]else [(21,e),(20,e-1)])else [(kd,e)]
def pG(sw:Bool)(dv:Int->Int->Int)(r:Int×Int×Int):List (Int×Int):=evs sw r.1 (dv r.2.1 r.2.2+mvd r.1 (dv r.2.1 r.2.2 % 7))
def all(sw:Bool)(dv:Int->Int->Int):List (Int×Int):=rows.flatMap (pG sw dv)
def upto(dv:Int->Int->Int)(k:Nat):List (Int×Int):=(rows.take k).flatMap (pG false dv)
theorem yF(k:Nat)(hk:k<9):rows[k]? =some (row k):=by
 have:k<rows.length:=hk
 rw [List.getElem?_eq_getElem this]
 unfold row
 rw [List.getD_eq_getElem?_getD,List.getElem?_eq_getElem this]
 rfl
theorem iG(dv:Int->Int->Int)(k:Nat)(hk:k<9):upto dv (k+1)=upto dv k++pG false dv (row k):=by
 unfold upto
 rw [List.take_add_one,yF k hk,List.flatMap_append]
 simp
end Fa
theorem TT(y:Int)(w:World)(hy1:1<=y)(hy2:y<=9999)(hT:Tab w 7 kevCells)(hL:Tab w 5 lenCells)(hF:Tab w 1 Fa.cells)
  (HD:Hid (∀k,k<9->D10.bO y (Fa.row k).2.1 false (Fa.row k).2.2=0/\ -2000000<=D10.aC y (Fa.row k).2.1 false (Fa.row k).2.2/\D10.aC y (Fa.row k).2.1 false (Fa.row k).2.2<=3000000)):
  Calls Tryo.prog 39 #[.int .i64 y] w fun e w'=>∃v,e= .returned (.tuple #[v,.int .i64 0])/\Ev.Own w' w.heap.size v (Ev.sort (Fa.upto (fun n d=>D10.aC y n false d) 9))/\Below w.heap.size w w':=by
 obtain⟨i0,ih,iz0,iz1,iz2⟩:=info_parts bD
 obtain⟨t,hF⟩:=hF
 have hF2:w.heap[1]? =some (.cells Fa.arr t (0,0)):=by unfold Fa.arr;exact hF
 have HT:=Lib.hid hF2
 have HZ:=Lib.hid (show(Tryo.prog.info? 134).map (·.size)=some Fa.arr.size by rw [Fa.yJ];kernel_rfl)
 have HC:=Lib.hid (fun(n d:Int) (w:World) hT hL=>lq y n false d w ⟨by omega,by omega⟩ hT hL)
 clear hF hF2
 go_enter Tryo.func39,Tryz.ntmps39
 go_wp2_with (refine wpList_load_row rfl 134 _ rfl 1 rfl t Fa.arr (0,0) _ HT.out (aI Tryz.underlying134) rfl HZ.out ?_)
 go_loopw [4,16] (fun v i wr=>∃ (k:Nat) (S:List (Int×Int)),k<=9/\i= .int .i64 (k:Int)/\Hid (S=Fa.upto (fun n d=>D10.aC y n false d) k)/\S.length<=2*k/\Ev.Own wr w.heap.size v S/\Below w.heap.size w wr) (fun _ i _=>9-(intOf i).toNat)
 case atStart=>exact⟨0,[],by omega,rfl,Lib.hid rfl,by simp,Ev.Own.nil _ _,Below.refl _ _⟩
 case round=>
  obtain⟨k,S,hk,rfl,HS,hlen,HO,hB⟩:=hrel
  obtain⟨w1,rfl⟩:∃x,x=wr:=⟨_,rfl⟩
  by_cases hlt:k<9
  ·have hix:=Fa.index k hlt
   have hde2:=HD.out k hlt
   have HNx:=Lib.hid (Fa.iG (fun n d=>D10.aC y n false d) k hlt)
   obtain⟨r,hr⟩:∃r,Fa.row k=r:=⟨_,rfl⟩
   rw [hr]at hix hde2 HNx
   obtain⟨kd,n,d⟩:=r
   have hix2:∀w:World,(Instr.index 134 (.agg Fa.arr) (.int .i64 (k:Int))).run Tryo.prog w= .ok (.agg #[.int .i64 kd,.int .i64 n,.int .i64 d]) w:=hix
   have k1:(k:Int)<9:=by omega
   clear hix hr
   have hde3:D10.bO y n false d=0/\ -2000000<=D10.aC y n false d/\D10.aC y n false d<=3000000:=hde2
   obtain⟨he0,hd1,hd2⟩:=hde3
   have HE:Hid (Fa.upto (fun n d=>D10.aC y n false d) (k+1)=S++Fa.evs false kd (D10.aC y n false d+Fa.mvd kd (D10.aC y n false d % 7))):=Lib.hid (by rw [HNx.out,←HS.out];rfl)
   have HC2:=Lib.hid (fun(w:World) hT hL=>HC.out n d w hT hL)
   rw [he0]at HC2
   clear hde2 he0
   generalize D10.aC y n false d=D at*
   have HWd:=Lib.hid (fun x=>aT D x ⟨by omega,by omega⟩)
   have HMv:=Lib.hid (fun x=>TN kd (D % 7) x)
   have hm:=Fa.Tf kd (D % 7)
   obtain⟨M,hM⟩:∃M,Fa.mvd kd (D % 7)=M:=⟨_,rfl⟩
   rw [hM]at HMv hm HE
   clear hM
   obtain⟨hm1,hm2⟩:=hm
   go_wp2_with fail
   refine(HC2.out _ (Tab.below hT bel) (Tab.below hL bel)).mono ?_
   rintro e w2 ⟨rfl,hb2⟩
   obtain⟨hc2,hf2⟩:=aA hb2
   have hz2:=hb2.size
   try simp at hz2
   have hl2w1:w1.heap.size<w2.heap.size:=by omega
   have hm2w1:w1.heap.size<=w2.heap.size:=by omega
   have g2x0:w2.cell? ⟨w1.heap.size,0,none⟩=some (.int .i64 kd):=cel hc2
   go_wp2_with fail
   refine aJ (by kernel_rfl) (by kernel_rfl) (fun hall=> ?_)
   repeat(first|go_big_quiet_skip|(go_big_quiet_want;first|(refine ql1 _ _ _ rfl rfl ?_;apply Exists.intro;refine⟨?_, ?_⟩;assumption;go_simp;go_big_quiet_on)|(refine ql2 _ _ _ _ rfl rfl ?_;apply Exists.intro;apply Exists.intro;refine⟨?_, ?_, ?_⟩;assumption;assumption;go_simp;go_big_quiet_on)|(refine ql3 _ _ _ _ rfl rfl ?_;apply Exists.intro;apply Exists.intro;apply Exists.intro;refine⟨?_, ?_, ?_, ?_⟩;assumption;assumption;assumption;go_simp;go_big_quiet_on)|(refine ql4 _ _ _ _ rfl rfl ?_;apply Exists.intro;apply Exists.intro;apply Exists.intro;apply Exists.intro;refine⟨?_, ?_, ?_, ?_, ?_⟩;assumption;assumption;assumption;assumption;go_simp;go_big_quiet_on)|(go_big_quiet_op;first|go_big_quiet_on|(apply Exists.intro;refine⟨fun x hx=> ?_, ?_⟩;(first|(with_reducible exact sK hx (HWd.out x))|(with_reducible exact sK hx (HMv.out x))|exact sK hx (HWd.out x)|exact sK hx (HMv.out x));go_big_quiet_on))))
   refine wpQuiet_nil ?_
   clear hall
   intro x10 hx10
   have x10c:x10.cell? ⟨w1.heap.size,0,none⟩=some (.int .i64 kd):=(hx10.cell (by first|assumption|omega)).trans g2x0
   have x10s:w1.heap.size<x10.heap.size:=World.block_lt_of_cell? _ _ x10c
   have hBx1:Below w1.heap.size w1 x10:=bel
   have hB10:Below w.heap.size w x10:=bt hB hBx1
   have HO5:x10.ownsRow w.heap.size 72 2 u4 S.length (Ev.flat S):=HO.below hBx1
   have HN4:Hid (u4.ownBlock≠some w1.heap.size):=Lib.hid (fun e=>by have:=(HO.lt _ e).2;omega)
   have hsz4:=hB10.size
   obtain⟨E,hE⟩:∃E,D+M=E:=⟨_,rfl⟩
   rw [hE]at HE
   have hE1: -2000002<=E:=by omega
   have hE2:E<=3000001:=by omega
   have HEe:=Lib.hid hE
   clear HO
   by_cases hk21:kd=21
   ·subst hk21
    go_wp2_with (first|(at_builtin;refine wpList_append_own_at _ rfl (.tmp 40) (.tmp 45) 38 rfl w.heap.size 72 i0 (.agg #[.int .i64 0,.int .i64 0]) 2 16 (aI Tryz.underlying38) ih iz0 iz1 iz2 rfl (by decide) _ S.length (Ev.flat S) rfl (HO5.alloc _) ⟨x10.heap.size,0,none⟩ 1 1 [.int .i64 _,.int .i64 _] rfl rfl (bK _ _ _) (dD _ _) (by simp only [maxLen];omega) (by omega) (by first|assumption|(simp;omega)|omega) ?_;intro v6 w6 hown6 hgrow6 _ hblk6;have c6:w6.cell? ⟨w1.heap.size,0,none⟩=some (.int .i64 21):=hgrow6.cell (by simp [go_sem, *]) (fun e=>HN4.out e.symm);have l6:w1.heap.size<w6.heap.size:=(by have:=hgrow6.size;simp at this;omega);have z6:w.heap.size<=w6.heap.size:=(by have:=hgrow6.size;simp at this;omega))|(at_builtin;refine wpList_append_own_at _ rfl (.tmp 50) (.tmp 54) 38 rfl w.heap.size 72 i0 (.agg #[.int .i64 0,.int .i64 0]) 2 16 (aI Tryz.underlying38) ih iz0 iz1 iz2 rfl (by decide) _ (S.length+1) (Ev.flat S++ [.int .i64 21,.int .i64 E]) rfl (hown6.alloc _) ⟨w6.heap.size,0,none⟩ 1 1 [.int .i64 _,.int .i64 _] rfl rfl (bK _ _ _) (dD _ _) (by simp only [maxLen];omega) (by omega) (by first|assumption|(simp;omega)|omega) ?_;intro v7 w7 hown7 hgrow7 _ hblk7))
    go_roundw
    case rel=>
     have hb6:Below w.heap.size w w6:=aB (baa hB10 _) hgrow6 (fun k e=>(World.ownsRow.lt HO5 k e).1)
     refine⟨k+1,S++ [(21,E)]++ [(20,E-1)],by omega,by go_num,Lib.hid ?_,by simp;omega,Ev.aM (n:=S.length+1) (by simp) (by rw [Ev.iq];exact hown7),aB (baa hb6 _) hgrow7 (fun k e=>(World.ownsRow.lt hown6 k e).1)⟩
     rw [HE.out];unfold Fa.evs;rw [if_pos rfl,if_neg Bool.false_ne_true,List.append_assoc];rfl
    case measure=>simp [intOf];omega
   ·have hk2:(kd==21)=false:=by simpa using hk21
    have HK:=Lib.hid hk21
    clear hk21
    go_wp2_with (at_builtin;refine wpList_append_own_at _ rfl (.tmp 40) (.tmp 45) 38 rfl w.heap.size 72 i0 (.agg #[.int .i64 0,.int .i64 0]) 2 16 (aI Tryz.underlying38) ih iz0 iz1 iz2 rfl (by decide) _ S.length (Ev.flat S) rfl (HO5.alloc _) ⟨x10.heap.size,0,none⟩ 1 1 [.int .i64 _,.int .i64 _] rfl rfl (bK _ _ _) (dD _ _) (by simp only [maxLen];omega) (by omega) (by first|assumption|(simp;omega)|omega) ?_;intro v6 w6 hown6 hgrow6 _ hblk6;have c6:w6.cell? ⟨w1.heap.size,0,none⟩=some (.int .i64 kd):=hgrow6.cell (by simp [go_sem, *]) (fun e=>HN4.out e.symm);have l6:w1.heap.size<w6.heap.size:=(by have:=hgrow6.size;simp at this;omega);have z6:w.heap.size<=w6.heap.size:=(by have:=hgrow6.size;simp at this;omega))
    go_roundw
    case rel=>
     refine⟨k+1,S++ [(kd,E)],by omega,by go_num,Lib.hid ?_,by simp;omega,Ev.aM rfl hown6,aB (baa hB10 _) hgrow6 (fun k e=>(World.ownsRow.lt HO5 k e).1)⟩
     rw [HE.out];unfold Fa.evs;rw [if_neg HK.out]
    case measure=>simp [intOf];omega
  ·obtain rfl:k=9:=by omega
   clear hlt
   go_wp2_with fail
   refine(jR _ S _ HO.row (by omega)).mono ?_
   rintro e w9 ⟨v9,rfl,ho9,hb9⟩
   go_wp2_with fail
   go_ret2
   exact⟨_,rfl,by rw [←HS.out];exact ho9.base hB.size,bt hB hb9⟩
end
section
open Go.ChangeShapes Go.WideShapes Go.ChangeAt Go.RowKit Go.Lib Go.Sort Go.Shelf
theorem Zy(W:World)(l:List (Int×Int))(t:TypeId):∀j u,(Ev.flat l)[j]? =some u->(W.alloc (.cells (Ev.flat l).toArray t)).cell? ⟨W.heap.size,0+j,none⟩=some u:=fun j u h=>by
 rw [Nat.zero_add]
 refine(World.cell?_alloc_mark W _ _ _ j).trans ?_
 simpa using h
theorem jG(kd y n d:Int)(w:World)(hy:I64 y)(hb: -2000000<=D10.aC y n false d/\D10.aC y n false d<=3000000):
  Calls Tryo.prog 118 #[.int .i64 kd,.int .i64 y,.int .i64 n,.int .i64 d] w fun e w'=>e= .returned (.agg #[.int .i64 kd,.int .i64 (D10.aC y n false d+Fa.mvd kd (D10.aC y n false d % 7))])/\Below w.heap.size w w':=by
 have HDy:=Lib.hid (fun w=>bJ y n d w hy)
 generalize D10.aC y n false d=D at*
 have HWd:=Lib.hid (fun x=>bS D x)
 have HMv:=Lib.hid (fun x=>RQ kd (D % 7) x)
 have hm:=Fa.Tf kd (D % 7)
 generalize Fa.mvd kd (D % 7)=M at*
 obtain⟨hm1,hm2⟩:=hm
 obtain⟨hd1,hd2⟩:=hb
 go_enter Tryo.func118,Tryz.ntmps118
 go_wp2_with fail
 refine(HDy.out _).mono ?_
 rintro e w2 ⟨rfl,hb2⟩
 obtain⟨hc2,hf2⟩:=aA hb2
 have hz2:=hb2.size
 try simp at hz2
 have hl2w:w.heap.size<w2.heap.size:=by omega
 have hm2w:w.heap.size<=w2.heap.size:=by omega
 have g2x0:w2.cell? ⟨w.heap.size,0,none⟩=some (.int .i64 0):=cel hc2
 have g2x1:w2.cell? ⟨w.heap.size,1,none⟩=some (.int .i64 0):=cel hc2
 go_wp2_with fail
 refine(HWd.out _).mono ?_
 rintro e w' ⟨rfl,rfl⟩
 go_wp2_with fail
 refine(HMv.out _).mono ?_
 rintro e w' ⟨rfl,rfl⟩
 go_wp2_with fail
 refine bodyPost_ret (v:= .agg #[.int .i64 kd,.int .i64 (D+M)]) (by simp [results,Tryz.results118,go_sem,g2x0,g2x1]) rfl ⟨rfl, ?_⟩
 repeat(first|exact Below.refl _ _|assumption|(with_reducible refine bU ?_)|(with_reducible refine baa ?_ _)|(with_reducible refine bs ?_ (by first|exact Nat.le_refl _|omega|(simp;done)|(simp;omega)) _)|(with_reducible refine bt ?_ (by assumption)))
theorem Qr(y E2 E10 E13 E16 E19 E21 E24 E26 E27:Int)(w:World)(hy1:1<=y)(hy2:y<=9999)(hE: -2000002<=E21/\E21<=3000001)
  (HA2:Hid (∀x:World,Calls Tryo.prog 118 #[.int .i64 2,.int .i64 y,.int .i64 1,.int .i64 3] x fun e w'=>e= .returned (.agg #[.int .i64 2,.int .i64 E2])/\Below x.heap.size x w'))
  (HA10:Hid (∀x:World,Calls Tryo.prog 118 #[.int .i64 10,.int .i64 y,.int .i64 4,.int .i64 10] x fun e w'=>e= .returned (.agg #[.int .i64 10,.int .i64 E10])/\Below x.heap.size x w'))
  (HA13:Hid (∀x:World,Calls Tryo.prog 118 #[.int .i64 13,.int .i64 y,.int .i64 6,.int .i64 13] x fun e w'=>e= .returned (.agg #[.int .i64 13,.int .i64 E13])/\Below x.heap.size x w'))
  (HA16:Hid (∀x:World,Calls Tryo.prog 118 #[.int .i64 16,.int .i64 y,.int .i64 7,.int .i64 14] x fun e w'=>e= .returned (.agg #[.int .i64 16,.int .i64 E16])/\Below x.heap.size x w'))
  (HA19:Hid (∀x:World,Calls Tryo.prog 118 #[.int .i64 19,.int .i64 y,.int .i64 7,.int .i64 27] x fun e w'=>e= .returned (.agg #[.int .i64 19,.int .i64 E19])/\Below x.heap.size x w'))
  (HA21:Hid (∀x:World,Calls Tryo.prog 118 #[.int .i64 21,.int .i64 y,.int .i64 8,.int .i64 5] x fun e w'=>e= .returned (.agg #[.int .i64 21,.int .i64 E21])/\Below x.heap.size x w'))
  (HA24:Hid (∀x:World,Calls Tryo.prog 118 #[.int .i64 24,.int .i64 y,.int .i64 8,.int .i64 28] x fun e w'=>e= .returned (.agg #[.int .i64 24,.int .i64 E24])/\Below x.heap.size x w'))
  (HA26:Hid (∀x:World,Calls Tryo.prog 118 #[.int .i64 26,.int .i64 y,.int .i64 10,.int .i64 17] x fun e w'=>e= .returned (.agg #[.int .i64 26,.int .i64 E26])/\Below x.heap.size x w'))
  (HA27:Hid (∀x:World,Calls Tryo.prog 118 #[.int .i64 27,.int .i64 y,.int .i64 11,.int .i64 9] x fun e w'=>e= .returned (.agg #[.int .i64 27,.int .i64 E27])/\Below x.heap.size x w')):
  Calls Tryo.prog 45 #[.int .i64 y] w fun e w'=>∃v,e= .returned (.tuple #[v,.int .i64 0])/\Ev.Own w' w.heap.size v (Ev.sort [(2,E2),(10,E10),(13,E13),(16,E16),(19,E19),(20,E21-1),(21,E21),(24,E24),(26,E26),(27,E27)])/\Below w.heap.size w w':=by
 have HRi:=Lib.hid (fun w=>dQ y w ⟨by omega,by omega⟩)
 rw [Cal.jd y hy1 hy2]at HRi
 go_enter Tryo.func45,Tryz.ntmps45
 go_wp2_with fail
 refine(HRi.out _).mono ?_
 rintro e w' ⟨rfl,rfl⟩
 go_wp2_with fail
 refine(HA21.out _).mono ?_
 rintro e w1 ⟨rfl,hb1⟩
 go_wp2_with fail
 refine settle (fun W=>W.cell? ⟨w1.heap.size,0,none⟩=some (.int .i64 21)/\W.cell? ⟨w1.heap.size,1,none⟩=some (.int .i64 E21)/\w1.heap.size<W.heap.size/\Below w.heap.size w W) ⟨?_, ?_, ?_, ?_⟩ ?_
 ·(first|(with_reducible assumption)|(simp [go_sem, *];done)|assumption)
 ·(first|(with_reducible assumption)|(simp [go_sem, *];done)|assumption)
 ·(first|assumption|(simp;done)|(simp;omega)|omega)
 ·(repeat(first|exact Below.refl _ _|assumption|(with_reducible refine bU ?_)|(with_reducible refine baa ?_ _)|(with_reducible refine bs ?_ (by first|exact Nat.le_refl _|omega|(simp;done)|(simp;omega)) _)|(with_reducible refine bt ?_ (by assumption))))
 rintro W3 ⟨r3x0,r3x1,rs3x0,hB3⟩
 refine ER 21 (by kernel_rfl) (by kernel_rfl) (fun hall=> ?_)
 simp only [List.take_succ_cons,List.take_zero,List.drop_succ_cons,List.drop_zero]
 repeat(first|go_big_quiet_skip|(go_big_quiet_want;first|(refine ql1 _ _ _ rfl rfl ?_;apply Exists.intro;refine⟨?_, ?_⟩;assumption;go_simp;go_big_quiet_on)|(refine ql2 _ _ _ _ rfl rfl ?_;apply Exists.intro;apply Exists.intro;refine⟨?_, ?_, ?_⟩;assumption;assumption;go_simp;go_big_quiet_on)|(refine ql3 _ _ _ _ rfl rfl ?_;apply Exists.intro;apply Exists.intro;apply Exists.intro;refine⟨?_, ?_, ?_, ?_⟩;assumption;assumption;assumption;go_simp;go_big_quiet_on)|(refine ql4 _ _ _ _ rfl rfl ?_;apply Exists.intro;apply Exists.intro;apply Exists.intro;apply Exists.intro;refine⟨?_, ?_, ?_, ?_, ?_⟩;assumption;assumption;assumption;assumption;go_simp;go_big_quiet_on)|(go_big_quiet_op;first|go_big_quiet_on|(apply Exists.intro;refine⟨fun x hx=> ?_, ?_⟩;(first|(with_reducible exact aK hx (HA2.out x))|(with_reducible exact aK hx (HA10.out x))|(with_reducible exact aK hx (HA13.out x))|(with_reducible exact aK hx (HA16.out x))|(with_reducible exact aK hx (HA19.out x))|(with_reducible exact aK hx (HA21.out x))|(with_reducible exact aK hx (HA24.out x))|(with_reducible exact aK hx (HA26.out x))|(with_reducible exact aK hx (HA27.out x))|exact aK hx (HA2.out x)|exact aK hx (HA10.out x)|exact aK hx (HA13.out x)|exact aK hx (HA16.out x)|exact aK hx (HA19.out x)|exact aK hx (HA21.out x)|exact aK hx (HA24.out x)|exact aK hx (HA26.out x)|exact aK hx (HA27.out x));go_big_quiet_on))))
 refine wpQuiet_nil ?_
 clear hall
 intro x4 hx4
 go_wp2_with fail
 refine(jf _ [(2,E2),(10,E10),(13,E13),(16,E16),(19,E19),(20,E21-1),(21,E21),(24,E24),(26,E26),(27,E27)] _ (.inr ⟨x4.heap.size,0,10,rfl,Zy x4 [(2,E2),(10,E10),(13,E13),(16,E16),(19,E19),(20,E21-1),(21,E21),(24,E24),(26,E26),(27,E27)] _⟩) (by simp)).mono ?_
 rintro e w9 ⟨v9,rfl,ho9,hb9⟩
 go_wp2_with fail
 have hB4:Below w.heap.size w x4:=bel
 have hs4:=hB4.size
 go_ret2
 exact⟨_,rfl,ho9.base (by simp;omega),bt (baa hB4 _) hb9⟩
end
section
open Go.ChangeShapes Go.WideShapes Go.ChangeAt Go.RowKit Go.Lib Go.Sort Go.Shelf
namespace Fa
theorem O1{f g:Int×Int×Int->List (Int×Int)}:∀{l:List (Int×Int×Int)},(∀x∈l,f x=g x)->l.flatMap f=l.flatMap g
 | [],_=>rfl
 |a :: l,h=>by rw [List.flatMap_cons,List.flatMap_cons,h a (List.mem_cons_self ..),O1 fun x hx=>h x (List.mem_cons_of_mem _ hx)]
def rowO(sw:Bool)(i:Nat)(r:Int×Int×Int):List (Int×Int):=evs sw r.1 (Yr.dJ i r.2.1 false r.2.2+mvd r.1 ((bn i+Yr.dJ i r.2.1 false r.2.2) % 7))
def Xa(sw:Bool)(i:Nat):List (Int×Int):=rows.flatMap (rowO sw i)
def qB(i:Nat):List (Int×Int):=Ev.sort (Xa false i)
theorem ZT(sw:Bool)(kd F e:Int):evs sw kd (F+e)=(evs sw kd e).map (Ev.sh F):=by
 unfold evs Ev.sh
 split
 ·split
  ·simp;omega
  ·simp;omega
 ·simp
theorem N8:((List.range 14).all fun i=>(rows.all fun r=>Yr.okV i r.2.1 false r.2.2&&(decide (0<=Yr.dJ i r.2.1 false r.2.2)&&decide (Yr.dJ i r.2.1 false r.2.2<=400)))&&decide (Ev.sort (Xa true i)=qB i))=true:=by decide+kernel
theorem Aj{y:Int}{i:Nat}(h:Yr.Is y i)(r:Int×Int×Int)(hr:r∈rows):D10.bO y r.2.1 false r.2.2=0/\D10.aC y r.2.1 false r.2.2=Cal.first y+Yr.dJ i r.2.1 false r.2.2/\0<=Yr.dJ i r.2.1 false r.2.2/\Yr.dJ i r.2.1 false r.2.2<=400:=by
 have h1:=List.all_eq_true.1 N8 i (List.mem_range.2 h.2.2.1)
 simp only [Bool.and_eq_true]at h1
 have h2:=List.all_eq_true.1 h1.1 r hr
 simp only [Bool.and_eq_true,decide_eq_true_eq]at h2
 obtain⟨e1,e2⟩:=Yr.dP h h2.1
 exact⟨e1,e2,h2.2.1,h2.2.2⟩
theorem Ua{y:Int}{i:Nat}(h:Yr.Is y i)(sw:Bool):all sw (fun n d=>D10.aC y n false d)=(Xa sw i).map (Ev.sh (Cal.first y)):=by
 unfold all Xa
 rw [List.map_flatMap]
 apply O1
 intro r hr
 obtain⟨_,e,_,_⟩:=Aj h r hr
 unfold pG rowO
 dsimp only
 rw [←ZT,e]
 have hm:(Cal.first y+Yr.dJ i r.2.1 false r.2.2) % 7=(bn i+Yr.dJ i r.2.1 false r.2.2) % 7:=by have:=h.2.2.2.1;omega
 rw [hm,Int.add_assoc]
theorem WT(i:Nat)(hi:i<14):Ev.sort (Xa true i)=qB i:=by
 have h1:=List.all_eq_true.1 N8 i (List.mem_range.2 hi)
 simp only [Bool.and_eq_true,decide_eq_true_eq]at h1
 exact h1.2
theorem bd{y:Int}{i:Nat}(h:Yr.Is y i)(r:Int×Int×Int)(hr:r∈rows): -2000000<=D10.aC y r.2.1 false r.2.2/\D10.aC y r.2.1 false r.2.2<=3000000:=by
 obtain⟨_,e,_,_⟩:=Aj h r hr
 have:=Yr.bF h
 omega
end Fa
theorem Sm(y:Int)(i:Nat)(w:World)(h:Yr.Is y i)(hT:Tab w 7 kevCells)(hL:Tab w 5 lenCells)(hF:Tab w 1 Fa.cells):
  Calls Tryo.prog 39 #[.int .i64 y] w fun e w'=>∃v,e= .returned (.tuple #[v,.int .i64 0])/\Ev.Own w' w.heap.size v ((Fa.qB i).map (Ev.sh (Cal.first y)))/\Below w.heap.size w w':=by
 have e:Ev.sort (Fa.upto (fun n d=>D10.aC y n false d) 9)=(Fa.qB i).map (Ev.sh (Cal.first y)):=by
  unfold Fa.qB
  rw [←Ev.zN,←Fa.Ua h false]
  rfl
 rw [←e]
 exact TT y w h.1 h.2.1 hT hL hF (Lib.hid (fun k hk=>by
  have hr:=List.mem_of_getElem? (Fa.yF k hk)
  exact⟨(Fa.Aj h _ hr).1,Fa.bd h _ hr⟩))
theorem QY(y:Int)(i:Nat)(w:World)(h:Yr.Is y i):
  Calls Tryo.prog 45 #[.int .i64 y] w fun e w'=>∃v,e= .returned (.tuple #[v,.int .i64 0])/\Ev.Own w' w.heap.size v ((Fa.qB i).map (Ev.sh (Cal.first y)))/\Below w.heap.size w w':=by
 have e:Ev.sort (Fa.all true (fun n d=>D10.aC y n false d))=(Fa.qB i).map (Ev.sh (Cal.first y)):=by
  rw [Fa.Ua h true,Ev.zN,Fa.WT i h.2.2.1]
 rw [←e]
 have hy:I64 y:=⟨by have:=h.1;omega,by have:=h.2.1;omega⟩
 have hb:=Fa.bd h (21,8,5) (by simp [Fa.rows])
 have hm:=Fa.Tf 21 (D10.aC y 8 false 5 % 7)
 have hE: -2000002<=D10.aC y 8 false 5+Fa.mvd 21 (D10.aC y 8 false 5 % 7)/\D10.aC y 8 false 5+Fa.mvd 21 (D10.aC y 8 false 5 % 7)<=3000001:=by dsimp only at hb;omega
 exact Qr y _ _ _ _ _ _ _ _ _ w h.1 h.2.1 hE (Lib.hid (fun x=>jG 2 y 1 3 x hy (Fa.bd h (2,1,3) (by simp [Fa.rows])))) (Lib.hid (fun x=>jG 10 y 4 10 x hy (Fa.bd h (10,4,10) (by simp [Fa.rows])))) (Lib.hid (fun x=>jG 13 y 6 13 x hy (Fa.bd h (13,6,13) (by simp [Fa.rows])))) (Lib.hid (fun x=>jG 16 y 7 14 x hy (Fa.bd h (16,7,14) (by simp [Fa.rows])))) (Lib.hid (fun x=>jG 19 y 7 27 x hy (Fa.bd h (19,7,27) (by simp [Fa.rows])))) (Lib.hid (fun x=>jG 21 y 8 5 x hy (Fa.bd h (21,8,5) (by simp [Fa.rows])))) (Lib.hid (fun x=>jG 24 y 8 28 x hy (Fa.bd h (24,8,28) (by simp [Fa.rows])))) (Lib.hid (fun x=>jG 26 y 10 17 x hy (Fa.bd h (26,10,17) (by simp [Fa.rows])))) (Lib.hid (fun x=>jG 27 y 11 9 x hy (Fa.bd h (27,11,9) (by simp [Fa.rows]))))
end
section
open Go.ChangeShapes Go.WideShapes Go.ChangeAt Go.RowKit Go.Lib Go.Sort Go.Shelf
namespace Fa
def has(l:List (Int×Int)):Bool:=l.any fun x=>x.1==21&&x.2==739020
theorem D6:((List.range 14).all fun i=>decide ((qB i).length=10))=true:=by decide+kernel
end Fa
end
end Go.Proofs.YthnjjcoahdhmnaaGreatDoor
