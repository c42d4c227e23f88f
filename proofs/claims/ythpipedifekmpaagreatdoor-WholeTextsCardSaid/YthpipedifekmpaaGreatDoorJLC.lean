import Derived.Test.YthpipedifekmpaaGreatDoorJLA
import Derived.Deep.Light
import Derived.Deep.QuietTactic
import Derived.BigQuiet
import Derived.Shelf.SlSorted.Search
import Derived.Test.YthpipedifekmpaaGreatDoorJPo
import Derived.LoopTactic
set_option maxHeartbeats 8000000
set_option maxRecDepth 100000
set_option linter.unusedVariables false
namespace Go.Proofs.YthpipedifekmpaaGreatDoor
open Go.ChangeShapes Go.WideShapes Go.ChangeAt Go.RowKit
end Go.Proofs.YthpipedifekmpaaGreatDoor
namespace Go.Proofs.YthpipedifekmpaaGreatDoor
open Go.ChangeShapes Go.WideShapes Go.ChangeAt Go.RowKit
theorem near_yes(y:Int)(h0: -1<=y)(h1:y<=10002):Cal.nearV y=Cal.nearly y/\Cal.nearE y=0:=by
 have h:Cal.nearIn y=true:=by simp [Cal.nearIn,h0,h1]
 rw [Cal.nearV,Cal.nearE,h];exact⟨rfl,rfl⟩
theorem near_no(y:Int)(h:y< -1∨10002<y):Cal.nearV y=0/\Cal.nearE y=2:=by
 have h:Cal.nearIn y=false:=by
  rw [Bool.eq_false_iff];intro h';simp only [Cal.nearIn,Bool.and_eq_true,decide_eq_true_eq]at h';omega
 rw [Cal.nearV,Cal.nearE,h];exact⟨rfl,rfl⟩
theorem nearly_up(y:Int)(h:(3*Cal.nearly0 (Cal.before y)+3) % 7<3):Cal.nearly y=Cal.nearly0 (Cal.before y)+1:=by unfold Cal.nearly;rw [if_pos h]
theorem nearly_flat(y:Int)(h:¬(3*Cal.nearly0 (Cal.before y)+3) % 7<3):Cal.nearly y=Cal.nearly0 (Cal.before y):=by unfold Cal.nearly;rw [if_neg h]
theorem near0_bd(y:Int)(h0: -1<=y)(h1:y<=10002): -1000<=Cal.nearly0 (Cal.before y)/\Cal.nearly0 (Cal.before y)<=3700000:=by unfold Cal.nearly0 Cal.before;omega
theorem before_bd2(y:Int)(h0: -1<=y)(h1:y<=10002): -30<=Cal.before y/\Cal.before y<=123720:=by unfold Cal.before;omega
theorem closed_floor(a b:Int)(w:World)(ha:I64 a)(hb:I64 b)(h:0<b):
  Calls Tryo.prog 104 #[.int .i64 a,.int .i64 b] w fun e w'=>e= .returned (.int .i64 (a / b))/\w=w':=by
 have HD:=Lib.hid (fun w=>exact_Div_pos a b w ha hb h)
 go_enter Tryo.func104,Tryz.ntmps104
 go_wp2_with fail
 refine(HD.out _).mono ?_
 rintro e w' ⟨rfl,rfl⟩
 go_wp2_with fail
 go_ret
 exact⟨rfl,rfl⟩
theorem closed_Nearly(y:Int)(w:World):
  Calls Tryo.prog 77 #[.int .i64 y] w fun e w'=>e= .returned (.tuple #[.int .i64 (Cal.nearV y),.int .i64 (Cal.nearE y)])/\w=w':=by
 rcases(show y< -1∨(-1<=y/\y<=10002)∨(-1<=y/\10002<y) by omega)with c|⟨c1,c2⟩|⟨c1,c⟩
 ·have HS:=Lib.hid (near_no y (by omega))
  go_enter Tryo.func77,Tryz.ntmps77
  go_wp2_with fail
  go_ret2
  exact⟨ret_ii HS.out.1.symm HS.out.2.symm,rfl⟩
 ·have hs:=near_yes y c1 c2
  obtain⟨b1,b2⟩:=before_bd2 y c1 c2
  obtain⟨b3,b4⟩:=near0_bd y c1 c2
  have H1:=Lib.hid (fun w=>closed_floor (235*y-234) 19 w ⟨by omega,by omega⟩ ⟨by omega,by omega⟩ (by omega))
  have H2:=Lib.hid (fun w=>closed_floor (12084+13753*Cal.before y) 25920 w ⟨by omega,by omega⟩ ⟨by omega,by omega⟩ (by omega))
  have H3:=Lib.hid (fun w=>exact_Mod_pos (3*Cal.nearly0 (Cal.before y)+3) 7 w ⟨by omega,by omega⟩ ⟨by omega,by omega⟩ (by omega))
  rw [show(235*y-234) / 19=Cal.before y from rfl]at H1
  have up:=nearly_up y
  have fl:=nearly_flat y
  have en:Cal.nearly0 (Cal.before y)=29*Cal.before y+(12084+13753*Cal.before y) / 25920:=rfl
  have k1:0<=(3*Cal.nearly0 (Cal.before y)+3) % 7:=by omega
  generalize Cal.before y=m at*
  have b5: -20<=(12084+13753*m) / 25920:=by omega
  have b6:(12084+13753*m) / 25920<=70000:=by omega
  generalize (12084+13753*m) / 25920=q at*
  by_cases c3:(3*Cal.nearly0 m+3) % 7<3
  ·have HS:=Lib.hid (And.intro (hs.1.trans (up c3)) hs.2)
   rw [en]at b3 b4 HS H3 c3 k1
   clear hs up fl en
   go_enter Tryo.func77,Tryz.ntmps77
   go_wp2_with fail
   refine(H1.out _).mono ?_
   rintro e w' ⟨rfl,rfl⟩
   go_wp2_with fail
   refine(H2.out _).mono ?_
   rintro e w' ⟨rfl,rfl⟩
   go_wp2_with fail
   refine(H3.out _).mono ?_
   rintro e w' ⟨rfl,rfl⟩
   go_wp2_with fail
   go_ret2
   exact⟨ret_ii HS.out.1.symm HS.out.2.symm,rfl⟩
  ·have HS:=Lib.hid (And.intro (hs.1.trans (fl c3)) hs.2)
   rw [en]at b3 b4 HS H3 c3 k1
   clear hs up fl en
   go_enter Tryo.func77,Tryz.ntmps77
   go_wp2_with fail
   refine(H1.out _).mono ?_
   rintro e w' ⟨rfl,rfl⟩
   go_wp2_with fail
   refine(H2.out _).mono ?_
   rintro e w' ⟨rfl,rfl⟩
   go_wp2_with fail
   refine(H3.out _).mono ?_
   rintro e w' ⟨rfl,rfl⟩
   go_wp2_with fail
   go_ret2
   exact⟨ret_ii HS.out.1.symm HS.out.2.symm,rfl⟩
 ·have HS:=Lib.hid (near_no y (by omega))
  go_enter Tryo.func77,Tryz.ntmps77
  go_wp2_with fail
  go_ret2
  exact⟨ret_ii HS.out.1.symm HS.out.2.symm,rfl⟩
end Go.Proofs.YthpipedifekmpaaGreatDoor
namespace Go.Proofs.YthpipedifekmpaaGreatDoor
open Go.ChangeShapes Go.WideShapes Go.ChangeAt Go.RowKit
theorem nearly_bd(y:Int)(h0: -1<=y)(h1:y<=10002): -1000<=Cal.nearly y/\Cal.nearly y<=3700001:=by
 obtain⟨b3,b4⟩:=near0_bd y h0 h1
 by_cases c:(3*Cal.nearly0 (Cal.before y)+3) % 7<3
 ·rw [nearly_up y c];omega
 ·rw [nearly_flat y c];omega
theorem first_V(y:Int)(h0:0<=y)(h1:y<=10001):Cal.firstV y=Cal.first2 y/\Cal.reckE y=0:=by
 rw [Cal.firstV,Cal.reckE,reck_yes y h0 h1,Cal.year_same y h0 h1];exact⟨rfl,rfl⟩
theorem closed_Nearly_ok(y:Int)(w:World)(h0: -1<=y)(h1:y<=10002):
  Calls Tryo.prog 77 #[.int .i64 y] w fun e w'=>e= .returned (.tuple #[.int .i64 (Cal.nearly y),.int .i64 0])/\w=w':=by
 have:=closed_Nearly y w
 rwa [(near_yes y h0 h1).1,(near_yes y h0 h1).2]at this
theorem closed_First(y:Int)(w:World):
  Calls Tryo.prog 49 #[.int .i64 y] w fun e w'=>e= .returned (.tuple #[.int .i64 (Cal.firstV y),.int .i64 (Cal.reckE y)])/\w=w':=by
 by_cases c:0<=y/\y<=10001
 ·obtain⟨c1,c2⟩:=c
  have hs:=first_V y c1 c2
  unfold Cal.first2 at hs
  have H0:=Lib.hid (fun w=>closed_Nearly_ok (y-1) w (by omega) (by omega))
  have H1:=Lib.hid (fun w=>closed_Nearly_ok y w (by omega) (by omega))
  have H2:=Lib.hid (fun w=>closed_Nearly_ok (y+1) w (by omega) (by omega))
  obtain⟨b1,b2⟩:=nearly_bd (y-1) (by omega) (by omega)
  obtain⟨b3,b4⟩:=nearly_bd y (by omega) (by omega)
  obtain⟨b5,b6⟩:=nearly_bd (y+1) (by omega) (by omega)
  generalize Cal.nearly (y-1)=n0 at*
  generalize Cal.nearly (y+1)=n2 at*
  generalize Cal.nearly y=n1 at*
  by_cases d1:n2-n1=356
  ·rw [if_pos d1]at hs
   have HS:=Lib.hid hs
   have d1':(n2-n1==356)=true:=by rw [beq_iff_eq];exact d1
   have D1:=Lib.hid d1
   clear hs d1
   go_enter Tryo.func49,Tryz.ntmps49
   go_wp2_with fail
   refine(cycle_Leap_ok y _ c1 c2).mono ?_
   rintro e w' ⟨rfl,rfl⟩
   go_wp2_with fail
   refine(H0.out _).mono ?_
   rintro e w' ⟨rfl,rfl⟩
   go_wp2_with fail
   refine(H1.out _).mono ?_
   rintro e w' ⟨rfl,rfl⟩
   go_wp2_with fail
   refine(H2.out _).mono ?_
   rintro e w' ⟨rfl,rfl⟩
   go_wp2_with fail
   go_ret2
   exact⟨ret_ii (Eq.trans (by omega) HS.out.1.symm) HS.out.2.symm,rfl⟩
  ·rw [if_neg d1]at hs
   have d1':(n2-n1==356)=false:=by rw [beq_eq_false_iff_ne];exact d1
   by_cases d2:n1-n0=382
   ·rw [if_pos d2]at hs
    have HS:=Lib.hid hs
    have d2':(n1-n0==382)=true:=by rw [beq_iff_eq];exact d2
    have D2:=Lib.hid d2
    have D1:=Lib.hid d1
    clear hs d1 d2
    go_enter Tryo.func49,Tryz.ntmps49
    go_wp2_with fail
    refine(cycle_Leap_ok y _ c1 c2).mono ?_
    rintro e w' ⟨rfl,rfl⟩
    go_wp2_with fail
    refine(H0.out _).mono ?_
    rintro e w' ⟨rfl,rfl⟩
    go_wp2_with fail
    refine(H1.out _).mono ?_
    rintro e w' ⟨rfl,rfl⟩
    go_wp2_with fail
    refine(H2.out _).mono ?_
    rintro e w' ⟨rfl,rfl⟩
    go_wp2_with fail
    go_ret2
    exact⟨ret_ii (Eq.trans (by omega) HS.out.1.symm) HS.out.2.symm,rfl⟩
   ·rw [if_neg d2]at hs
    have HS:=Lib.hid hs
    have d2':(n1-n0==382)=false:=by rw [beq_eq_false_iff_ne];exact d2
    have D2:=Lib.hid d2
    have D1:=Lib.hid d1
    clear hs d1 d2
    go_enter Tryo.func49,Tryz.ntmps49
    go_wp2_with fail
    refine(cycle_Leap_ok y _ c1 c2).mono ?_
    rintro e w' ⟨rfl,rfl⟩
    go_wp2_with fail
    refine(H0.out _).mono ?_
    rintro e w' ⟨rfl,rfl⟩
    go_wp2_with fail
    refine(H1.out _).mono ?_
    rintro e w' ⟨rfl,rfl⟩
    go_wp2_with fail
    refine(H2.out _).mono ?_
    rintro e w' ⟨rfl,rfl⟩
    go_wp2_with fail
    go_ret2
    exact⟨ret_ii (Eq.trans (by omega) HS.out.1.symm) HS.out.2.symm,rfl⟩
 ·have HS:=Lib.hid (first_no y (by omega))
  go_enter Tryo.func49,Tryz.ntmps49
  go_wp2_with fail
  refine(cycle_Leap_no y _ (by omega)).mono ?_
  rintro e w' ⟨rfl,rfl⟩
  go_wp2_with fail
  go_ret2
  exact⟨ret_ii HS.out.1.symm HS.out.2.symm,rfl⟩
theorem closed_First_ok(y:Int)(w:World)(h0:0<=y)(h1:y<=10001):
  Calls Tryo.prog 49 #[.int .i64 y] w fun e w'=>e= .returned (.tuple #[.int .i64 (Cal.first y),.int .i64 0])/\w=w':=by
 have:=closed_First y w
 rwa [Cal.firstV,Cal.reckE,reck_yes y h0 h1,if_pos rfl,if_pos rfl]at this
theorem first_last:Cal.first 10000=2278651:=by decide+kernel
theorem closed_Last(w:World):Calls Tryo.prog 47 #[] w fun e w'=>e= .returned (.int .i64 2278650)/\w=w':=by
 have h:=fun w=>closed_First_ok 10000 w (by omega) (by omega)
 rw [first_last]at h
 have H:=Lib.hid h
 clear h
 go_enter Tryo.func47,Tryz.ntmps47
 go_wp2_with fail
 refine(H.out _).mono ?_
 rintro e w' ⟨rfl,rfl⟩
 go_wp2_with fail
 go_ret
 exact⟨rfl,rfl⟩
end Go.Proofs.YthpipedifekmpaaGreatDoor
namespace Go.Proofs
open Go.Shelf
namespace YthpipedifekmpaaGreatDoor
def search_ren:Go.Shelf.Ren:=⟨fun|16=>50|n=>n,fun|3=>3|35=>93|4=>4|38=>121|n=>n,fun|n=>n⟩
theorem search:Go.Proofs.SlLaysO.n16 Tryo.prog search_ren:={
 mixed:=by kernel_rfl
 f16:=Tryo.func50.trans (congrArg some (by kernel_rfl))
 t3:=(und_o Tryz.underlying3)
 a3:=(run_o (Tryo.isAgg 3) Tryz.isAgg3)
 z3:=(run_o (Tryo.sizeOf 3) Tryz.sizeOf3)
 v3:=(run_o (Tryo.zeroValue 3) Tryz.zeroValue3)
 t4:=(und_o Tryz.underlying4)
 a4:=(run_o (Tryo.isAgg 4) Tryz.isAgg4)
 z4:=(run_o (Tryo.sizeOf 4) Tryz.sizeOf4)
 v4:=(run_o (Tryo.zeroValue 4) Tryz.zeroValue4)
 t35:=(und_o Tryz.underlying93)
 a35:=(run_o (Tryo.isAgg 93) Tryz.isAgg93)
 z35:=(run_o (Tryo.sizeOf 93) Tryz.sizeOf93)
 v35:=(run_o (Tryo.zeroValue 93) Tryz.zeroValue93)
 t38:=(und_o Tryz.underlying121)
 a38:=(run_o (Tryo.isAgg 121) Tryz.isAgg121)
 z38:=(run_o (Tryo.sizeOf 121) Tryz.sizeOf121)
 v38:=(run_o (Tryo.zeroValue 121) Tryz.zeroValue121)}
end YthpipedifekmpaaGreatDoor
end Go.Proofs
namespace Go.Proofs.YthpipedifekmpaaGreatDoor
open Go.ChangeShapes Go.WideShapes Go.ChangeAt Go.RowKit Go.Sort
theorem first_step(y:Int)(h0:0<=y)(h1:y<=10000):Cal.first y<Cal.first (y+1):=by
 have:=Cal.year_long y h0 h1
 split at this <;> omega
theorem first_up(n:Nat):∀y:Int,0<=y->y+n<=10001->Cal.first y<=Cal.first (y+n):=by
 induction n with
 |zero=>intro y _ _;simp
 |succ n ih=>
  intro y h0 h1
  have k1:=ih y h0 (by omega)
  have k2:=first_step (y+n) (by omega) (by omega)
  rw [show y+((n+1:Nat):Int)=y+n+1 by omega]
  omega
theorem first_mono(a b:Int)(h0:0<=a)(h:a<=b)(h1:b<=10001):Cal.first a<=Cal.first b:=by
 have:=first_up (b-a).toNat a h0 (by omega)
 rwa [show a+((b-a).toNat:Int)=b by omega]at this
theorem first_one:Cal.first 1= -1373427:=by decide+kernel
theorem year_there(d:Int)(h0: -1373427<=d):∀n:Nat,n<=9999->d<Cal.first (n+1)->∃y:Int,1<=y/\y<=n/\Cal.first y<=d/\d<Cal.first (y+1):=by
 intro n
 induction n with
 |zero=>intro _ h;rw [show((0:Nat):Int)+1=1 by omega,first_one]at h;omega
 | succ n ih=>
  intro hn h
  by_cases c:d<Cal.first ((n:Int)+1)
  ·obtain⟨y,a1,a2,a3,a4⟩:=ih (by omega) c
   exact⟨y,a1,by omega,a3,a4⟩
  ·exact⟨((n+1:Nat):Int),by omega,by omega,by rw [show((n+1:Nat):Int)=(n:Int)+1 by omega];omega,h⟩
theorem year_of(d:Int)(h0: -1373427<=d)(h1:d<=2278650):∃y:Int,1<=y/\y<=9999/\Cal.first y<=d/\d<Cal.first (y+1):=
 year_there d h0 9999 (by omega) (by rw [show((9999:Nat):Int)+1=10000 by omega,first_last];omega)
theorem year_count(d y:Int)(h1:1<=y)(h2:y<=9999)(h3:Cal.first y<=d)(h4:d<Cal.first (y+1)):
  (((List.range 9998).countP (fun i:Nat=> !decide (d<Cal.first ((i:Int)+2))):Nat):Int)=y-1:=by
 have hr:∀t,t<9998->(List.range 9998)[t]! =t:=fun t ht=>by rw [getElem!_pos _ t (by simpa using ht)];simp
 have:=Lib.countP_boundary (fun i:Nat=> !decide (d<Cal.first ((i:Int)+2))) (List.range 9998) (y-1).toNat (by simp;omega) (fun t ht=> ?_) (fun t h5 h6=> ?_)
 ·rw [this];omega
 ·rw [hr t (by omega)]
  have:=first_mono ((t:Int)+2) y (by omega) (by omega) (by omega)
  simp only [Bool.not_eq_true',decide_eq_false_iff_not]
  omega
 ·rw [hr t (by simpa using h6)]
  have h6':t<9998:=by simpa using h6
  have:=first_mono (y+1) ((t:Int)+2) (by omega) (by omega) (by omega)
  simp only [Bool.not_eq_false',decide_eq_true_eq]
  omega
theorem closed_Last'(w:World):Calls Tryo.prog 47 #[] w fun e w'=>e= .returned (.int .i64 2278650)/\w'=w:=(closed_Last w).mono fun _ _ h=>⟨h.1,h.2.symm⟩
theorem closed_Year1(d i:Int)(B:Nat)(w:World)(hc:w.cell? ⟨B,0,none⟩=some (.int .i64 d))(h0:0<=i)(h1:i<9998):
  Calls Tryo.prog 48 #[.int .i64 i,.pointer (some ⟨B,0,none⟩)] w fun e w'=>e= .returned (.bool (decide (d<Cal.first (i+2))))/\w=w':=by
 have h:=fun w=>closed_First_ok (i+2) w (by omega) (by omega)
 have H:=Lib.hid (fun w=>closed_First_ok (1+i+1) w (by omega) (by omega))
 rw [show 1+i+1=i+2 by omega]at H
 have ei:1+i+1=i+2:=by omega
 clear h
 go_enter Tryo.func48,Tryz.ntmps48
 go_wp2_with fail
 refine(H.out _).mono ?_
 rintro e w' ⟨rfl,rfl⟩
 go_wp2_with fail
 go_ret
 exact⟨rfl,rfl⟩
theorem closed_Year_at(d y:Int)(w:World)(h1:1<=y)(h2:y<=9999)(h3:Cal.first y<=d)(h4:d<Cal.first (y+1))(h5: -1373427<=d)(h6:d<=2278650):
  Calls Tryo.prog 26 #[.int .i64 d] w fun e w'=>e= .returned (.tuple #[.int .i64 y,.int .i64 0])/\Below w.heap.size w w':=by
 have hcount:=year_count d y h1 h2 h3 h4
 have HQ:∀W:World,W.cell? ⟨w.heap.size,0,none⟩=some (.int .i64 d)->w.heap.size<W.heap.size->Calls Tryo.prog 50 #[.int .i64 9998,.func (.func 48) #[] #[.pointer (some ⟨w.heap.size,0,none⟩)]] W fun e w'=>e= .returned (.int .i64 (y-1))/\Below W.heap.size W w':=by
  intro W hW hs
  have hh:=Any.sort_Search search 48 #[.pointer (some ⟨w.heap.size,0,none⟩)] 9998 (fun i=>decide (d<Cal.first ((i:Int)+2))) W (enters_of Tryo.func48 (by kernel_rfl) rfl) (by omega)
   (fun m os i hi=>(closed_Year1 d i w.heap.size _ (cell_grown hs hW m os) (by omega) (by omega)).mono fun e w' h=>⟨h.1,0,#[],by rw [←h.2,grow_empty];rfl⟩)
   (fun a b hab hb hp=>by
    have hp':=of_decide_eq_true hp
    have:=first_mono ((a:Int)+2) ((b:Int)+2) (by omega) (by omega) (by omega)
    exact decide_eq_true (by omega))
  rw [hcount]at hh
  exact hh.mono fun e w' h=>⟨h.1,by obtain⟨q,os,rfl⟩:=h.2;exact below_grown_sl _ W q os (Nat.le_refl _)⟩
 have HR:=Lib.hid HQ
 clear HQ hcount
 go_enter Tryo.func26,Tryz.ntmps26
 go_wp2_with fail
 go_quiet ((go_at_call 47;exact Calls.quiet_of_same (closed_Last' _)))
 go_wp2_with fail
 refine(HR.out _ (by simp [go_sem]) (by simp)).mono ?_
 rintro e w1 ⟨rfl,hb1⟩
 have ey:1+(y-1)=y:=by omega
 go_wp2_with fail
 go_ret2
 exact⟨rfl,bt (bdn (ba _ _) _) hb1⟩
end Go.Proofs.YthpipedifekmpaaGreatDoor
namespace Go.Proofs.YthpipedifekmpaaGreatDoor
open Go.ChangeShapes Go.WideShapes Go.ChangeAt Go.RowKit Go.Sort
end Go.Proofs.YthpipedifekmpaaGreatDoor
