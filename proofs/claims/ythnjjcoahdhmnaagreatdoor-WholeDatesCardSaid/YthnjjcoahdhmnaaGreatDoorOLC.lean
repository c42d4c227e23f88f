import Derived.Test.YthnjjcoahdhmnaaGreatDoorOLA
import Derived.Deep.Light
import Derived.Deep.QuietTactic
import Derived.BigQuiet
import Derived.Shelf.SlSorted.Search
import Derived.Test.YthnjjcoahdhmnaaGreatDoorOPo
import Derived.LoopTactic
set_option maxHeartbeats 8000000
set_option maxRecDepth 100000
set_option linter.unusedVariables false
namespace Go.Proofs.YthnjjcoahdhmnaaGreatDoor
open Go.ChangeShapes Go.WideShapes Go.ChangeAt Go.RowKit
end Go.Proofs.YthnjjcoahdhmnaaGreatDoor
namespace Go.Proofs.YthnjjcoahdhmnaaGreatDoor
open Go.ChangeShapes Go.WideShapes Go.ChangeAt Go.RowKit
theorem CS(y:Int)(h0: -1<=y)(h1:y<=10002):Cal.Li y=Cal.nearly y/\Cal.ME y=0:=by
 have h:Cal.AQ y=true:=by simp [Cal.AQ,h0,h1]
 rw [Cal.Li,Cal.ME,h];exact⟨rfl,rfl⟩
theorem O0(y:Int)(h:y< -1∨10002<y):Cal.Li y=0/\Cal.ME y=2:=by
 have h:Cal.AQ y=false:=by
  rw [Bool.eq_false_iff];intro h';simp only [Cal.AQ,Bool.and_eq_true,decide_eq_true_eq]at h';omega
 rw [Cal.Li,Cal.ME,h];exact⟨rfl,rfl⟩
theorem G7(y:Int)(h:(3*Cal.iM (Cal.before y)+3) % 7<3):Cal.nearly y=Cal.iM (Cal.before y)+1:=by unfold Cal.nearly;rw [if_pos h]
theorem Bw(y:Int)(h:¬(3*Cal.iM (Cal.before y)+3) % 7<3):Cal.nearly y=Cal.iM (Cal.before y):=by unfold Cal.nearly;rw [if_neg h]
theorem MF(y:Int)(h0: -1<=y)(h1:y<=10002): -1000<=Cal.iM (Cal.before y)/\Cal.iM (Cal.before y)<=3700000:=by unfold Cal.iM Cal.before;omega
theorem OO(y:Int)(h0: -1<=y)(h1:y<=10002): -30<=Cal.before y/\Cal.before y<=123720:=by unfold Cal.before;omega
theorem zA(a b:Int)(w:World)(ha:I64 a)(hb:I64 b)(h:0<b):
  Calls Tryo.prog 247 #[.int .i64 a,.int .i64 b] w fun e w'=>e= .returned (.int .i64 (a / b))/\w=w':=by
 have HD:=Lib.hid (fun w=>kJ a b w ha hb h)
 go_enter Tryo.func247,Tryz.ntmps247
 go_wp2_with fail
 refine(HD.out _).mono ?_
 rintro e w' ⟨rfl,rfl⟩
 go_wp2_with fail
 go_ret
 exact⟨rfl,rfl⟩
theorem Fx(y:Int)(w:World):
  Calls Tryo.prog 198 #[.int .i64 y] w fun e w'=>e= .returned (.tuple #[.int .i64 (Cal.Li y),.int .i64 (Cal.ME y)])/\w=w':=by
 rcases(show y< -1∨(-1<=y/\y<=10002)∨(-1<=y/\10002<y) by omega)with c|⟨c1,c2⟩|⟨c1,c⟩
 ·have HS:=Lib.hid (O0 y (by omega))
  go_enter Tryo.func198,Tryz.ntmps198
  go_wp2_with fail
  go_ret2
  exact⟨aS HS.out.1.symm HS.out.2.symm,rfl⟩
 ·have hs:=CS y c1 c2
  obtain⟨b1,b2⟩:=OO y c1 c2
  obtain⟨b3,b4⟩:=MF y c1 c2
  have H1:=Lib.hid (fun w=>zA (235*y-234) 19 w ⟨by omega,by omega⟩ ⟨by omega,by omega⟩ (by omega))
  have H2:=Lib.hid (fun w=>zA (12084+13753*Cal.before y) 25920 w ⟨by omega,by omega⟩ ⟨by omega,by omega⟩ (by omega))
  have H3:=Lib.hid (fun w=>jd (3*Cal.iM (Cal.before y)+3) 7 w ⟨by omega,by omega⟩ ⟨by omega,by omega⟩ (by omega))
  rw [show(235*y-234) / 19=Cal.before y from rfl]at H1
  have up:=G7 y
  have fl:=Bw y
  have en:Cal.iM (Cal.before y)=29*Cal.before y+(12084+13753*Cal.before y) / 25920:=rfl
  have k1:0<=(3*Cal.iM (Cal.before y)+3) % 7:=by omega
  generalize Cal.before y=m at*
  have b5: -20<=(12084+13753*m) / 25920:=by omega
  have b6:(12084+13753*m) / 25920<=70000:=by omega
  generalize (12084+13753*m) / 25920=q at*
  by_cases c3:(3*Cal.iM m+3) % 7<3
  ·have HS:=Lib.hid (And.intro (hs.1.trans (up c3)) hs.2)
   rw [en]at b3 b4 HS H3 c3 k1
   clear hs up fl en
   go_enter Tryo.func198,Tryz.ntmps198
   go_wp2_with fail
   refine(H1.out _).mono ?_
   rintro e w' ⟨rfl,rfl⟩
   go_wp2_with fail
   refine(H2.out _).mono ?_
   rintro e w' ⟨rfl,rfl⟩
   go_wp2_with fail
   refine(H3.out _).mono ?_
   rintro e w' ⟨rfl,rfl⟩
   go_wp2_with fail
   go_ret2
   exact⟨aS HS.out.1.symm HS.out.2.symm,rfl⟩
  ·have HS:=Lib.hid (And.intro (hs.1.trans (fl c3)) hs.2)
   rw [en]at b3 b4 HS H3 c3 k1
   clear hs up fl en
   go_enter Tryo.func198,Tryz.ntmps198
   go_wp2_with fail
   refine(H1.out _).mono ?_
   rintro e w' ⟨rfl,rfl⟩
   go_wp2_with fail
   refine(H2.out _).mono ?_
   rintro e w' ⟨rfl,rfl⟩
   go_wp2_with fail
   refine(H3.out _).mono ?_
   rintro e w' ⟨rfl,rfl⟩
   go_wp2_with fail
   go_ret2
   exact⟨aS HS.out.1.symm HS.out.2.symm,rfl⟩
 ·have HS:=Lib.hid (O0 y (by omega))
  go_enter Tryo.func198,Tryz.ntmps198
  go_wp2_with fail
  go_ret2
  exact⟨aS HS.out.1.symm HS.out.2.symm,rfl⟩
end Go.Proofs.YthnjjcoahdhmnaaGreatDoor
namespace Go.Proofs.YthnjjcoahdhmnaaGreatDoor
open Go.ChangeShapes Go.WideShapes Go.ChangeAt Go.RowKit
theorem Al(y:Int)(h0: -1<=y)(h1:y<=10002): -1000<=Cal.nearly y/\Cal.nearly y<=3700001:=by
 obtain⟨b3,b4⟩:=MF y h0 h1
 by_cases c:(3*Cal.iM (Cal.before y)+3) % 7<3
 ·rw [G7 y c];omega
 ·rw [Bw y c];omega
theorem Ul(y:Int)(h0:0<=y)(h1:y<=10001):Cal.nK y=Cal.Jg y/\Cal.dR y=0:=by
 rw [Cal.nK,Cal.dR,dS y h0 h1,Cal.Qy y h0 h1];exact⟨rfl,rfl⟩
theorem j3(y:Int)(w:World)(h0: -1<=y)(h1:y<=10002):
  Calls Tryo.prog 198 #[.int .i64 y] w fun e w'=>e= .returned (.tuple #[.int .i64 (Cal.nearly y),.int .i64 0])/\w=w':=by
 have:=Fx y w
 rwa [(CS y h0 h1).1,(CS y h0 h1).2]at this
theorem IU(y:Int)(w:World):
  Calls Tryo.prog 144 #[.int .i64 y] w fun e w'=>e= .returned (.tuple #[.int .i64 (Cal.nK y),.int .i64 (Cal.dR y)])/\w=w':=by
 by_cases c:0<=y/\y<=10001
 ·obtain⟨c1,c2⟩:=c
  have hs:=Ul y c1 c2
  unfold Cal.Jg at hs
  have H0:=Lib.hid (fun w=>j3 (y-1) w (by omega) (by omega))
  have H1:=Lib.hid (fun w=>j3 y w (by omega) (by omega))
  have H2:=Lib.hid (fun w=>j3 (y+1) w (by omega) (by omega))
  obtain⟨b1,b2⟩:=Al (y-1) (by omega) (by omega)
  obtain⟨b3,b4⟩:=Al y (by omega) (by omega)
  obtain⟨b5,b6⟩:=Al (y+1) (by omega) (by omega)
  generalize Cal.nearly (y-1)=n0 at*
  generalize Cal.nearly (y+1)=n2 at*
  generalize Cal.nearly y=n1 at*
  by_cases d1:n2-n1=356
  ·rw [if_pos d1]at hs
   have HS:=Lib.hid hs
   have d1':(n2-n1==356)=true:=by rw [beq_iff_eq];exact d1
   have D1:=Lib.hid d1
   clear hs d1
   go_enter Tryo.func144,Tryz.ntmps144
   go_wp2_with fail
   refine(aT y _ c1 c2).mono ?_
   rintro e w' ⟨rfl,rfl⟩
   go_wp2_with fail
   refine(H0.out _).mono ?_
   rintro e w' ⟨rfl,rfl⟩
   go_wp2_with fail
   refine(H1.out _).mono ?_
   rintro e w' ⟨rfl,rfl⟩
   go_wp2_with fail
   refine(H2.out _).mono ?_
   rintro e w' ⟨rfl,rfl⟩
   go_wp2_with fail
   go_ret2
   exact⟨aS (Eq.trans (by omega) HS.out.1.symm) HS.out.2.symm,rfl⟩
  ·rw [if_neg d1]at hs
   have d1':(n2-n1==356)=false:=by rw [beq_eq_false_iff_ne];exact d1
   by_cases d2:n1-n0=382
   ·rw [if_pos d2]at hs
    have HS:=Lib.hid hs
    have d2':(n1-n0==382)=true:=by rw [beq_iff_eq];exact d2
    have D2:=Lib.hid d2
    have D1:=Lib.hid d1
    clear hs d1 d2
    go_enter Tryo.func144,Tryz.ntmps144
    go_wp2_with fail
    refine(aT y _ c1 c2).mono ?_
    rintro e w' ⟨rfl,rfl⟩
    go_wp2_with fail
    refine(H0.out _).mono ?_
    rintro e w' ⟨rfl,rfl⟩
    go_wp2_with fail
    refine(H1.out _).mono ?_
    rintro e w' ⟨rfl,rfl⟩
    go_wp2_with fail
    refine(H2.out _).mono ?_
    rintro e w' ⟨rfl,rfl⟩
    go_wp2_with fail
    go_ret2
    exact⟨aS (Eq.trans (by omega) HS.out.1.symm) HS.out.2.symm,rfl⟩
   ·rw [if_neg d2]at hs
    have HS:=Lib.hid hs
    have d2':(n1-n0==382)=false:=by rw [beq_eq_false_iff_ne];exact d2
    have D2:=Lib.hid d2
    have D1:=Lib.hid d1
    clear hs d1 d2
    go_enter Tryo.func144,Tryz.ntmps144
    go_wp2_with fail
    refine(aT y _ c1 c2).mono ?_
    rintro e w' ⟨rfl,rfl⟩
    go_wp2_with fail
    refine(H0.out _).mono ?_
    rintro e w' ⟨rfl,rfl⟩
    go_wp2_with fail
    refine(H1.out _).mono ?_
    rintro e w' ⟨rfl,rfl⟩
    go_wp2_with fail
    refine(H2.out _).mono ?_
    rintro e w' ⟨rfl,rfl⟩
    go_wp2_with fail
    go_ret2
    exact⟨aS (Eq.trans (by omega) HS.out.1.symm) HS.out.2.symm,rfl⟩
 ·have HS:=Lib.hid (M0 y (by omega))
  go_enter Tryo.func144,Tryz.ntmps144
  go_wp2_with fail
  refine(nD y _ (by omega)).mono ?_
  rintro e w' ⟨rfl,rfl⟩
  go_wp2_with fail
  go_ret2
  exact⟨aS HS.out.1.symm HS.out.2.symm,rfl⟩
theorem kT(y:Int)(w:World)(h0:0<=y)(h1:y<=10001):
  Calls Tryo.prog 144 #[.int .i64 y] w fun e w'=>e= .returned (.tuple #[.int .i64 (Cal.first y),.int .i64 0])/\w=w':=by
 have:=IU y w
 rwa [Cal.nK,Cal.dR,dS y h0 h1,if_pos rfl,if_pos rfl]at this
theorem oz:Cal.first 10000=2278651:=by decide+kernel
theorem Md(w:World):Calls Tryo.prog 142 #[] w fun e w'=>e= .returned (.int .i64 2278650)/\w=w':=by
 have h:=fun w=>kT 10000 w (by omega) (by omega)
 rw [oz]at h
 have H:=Lib.hid h
 clear h
 go_enter Tryo.func142,Tryz.ntmps142
 go_wp2_with fail
 refine(H.out _).mono ?_
 rintro e w' ⟨rfl,rfl⟩
 go_wp2_with fail
 go_ret
 exact⟨rfl,rfl⟩
end Go.Proofs.YthnjjcoahdhmnaaGreatDoor
namespace Go.Proofs
open Go.Shelf
namespace YthnjjcoahdhmnaaGreatDoor
def NM:Go.Shelf.Ren:=⟨fun|16=>145|n=>n,fun|3=>3|35=>70|4=>4|38=>197|n=>n,fun|n=>n⟩
theorem search:Go.Proofs.SlLaysO.n16 Tryo.prog NM:={
 mixed:=by kernel_rfl
 f16:=Tryo.func145.trans (congrArg some (by kernel_rfl))
 t3:=(aU Tryz.underlying3)
 a3:=(aM (Tryo.isAgg 3) Tryz.isAgg3)
 z3:=(aM (Tryo.sizeOf 3) Tryz.sizeOf3)
 v3:=(aM (Tryo.zeroValue 3) Tryz.zeroValue3)
 t4:=(aU Tryz.underlying4)
 a4:=(aM (Tryo.isAgg 4) Tryz.isAgg4)
 z4:=(aM (Tryo.sizeOf 4) Tryz.sizeOf4)
 v4:=(aM (Tryo.zeroValue 4) Tryz.zeroValue4)
 t35:=(aU Tryz.underlying70)
 a35:=(aM (Tryo.isAgg 70) Tryz.isAgg70)
 z35:=(aM (Tryo.sizeOf 70) Tryz.sizeOf70)
 v35:=(aM (Tryo.zeroValue 70) Tryz.zeroValue70)
 t38:=(aU Tryz.underlying197)
 a38:=(aM (Tryo.isAgg 197) Tryz.isAgg197)
 z38:=(aM (Tryo.sizeOf 197) Tryz.sizeOf197)
 v38:=(aM (Tryo.zeroValue 197) Tryz.zeroValue197)}
end YthnjjcoahdhmnaaGreatDoor
end Go.Proofs
namespace Go.Proofs.YthnjjcoahdhmnaaGreatDoor
open Go.ChangeShapes Go.WideShapes Go.ChangeAt Go.RowKit Go.Sort
theorem Nr(y:Int)(h0:0<=y)(h1:y<=10000):Cal.first y<Cal.first (y+1):=by
 have:=Cal.Aj y h0 h1
 split at this <;> omega
theorem TF(n:Nat):∀y:Int,0<=y->y+n<=10001->Cal.first y<=Cal.first (y+n):=by
 induction n with
 |zero=>intro y _ _;simp
 |succ n ih=>
  intro y h0 h1
  have k1:=ih y h0 (by omega)
  have k2:=Nr (y+n) (by omega) (by omega)
  rw [show y+((n+1:Nat):Int)=y+n+1 by omega]
  omega
theorem dM(a b:Int)(h0:0<=a)(h:a<=b)(h1:b<=10001):Cal.first a<=Cal.first b:=by
 have:=TF (b-a).toNat a h0 (by omega)
 rwa [show a+((b-a).toNat:Int)=b by omega]at this
theorem sj:Cal.first 1= -1373427:=by decide+kernel
theorem Ob(d:Int)(h0: -1373427<=d):∀n:Nat,n<=9999->d<Cal.first (n+1)->∃y:Int,1<=y/\y<=n/\Cal.first y<=d/\d<Cal.first (y+1):=by
 intro n
 induction n with
 |zero=>intro _ h;rw [show((0:Nat):Int)+1=1 by omega,sj]at h;omega
 | succ n ih=>
  intro hn h
  by_cases c:d<Cal.first ((n:Int)+1)
  ·obtain⟨y,a1,a2,a3,a4⟩:=ih (by omega) c
   exact⟨y,a1,by omega,a3,a4⟩
  ·exact⟨((n+1:Nat):Int),by omega,by omega,by rw [show((n+1:Nat):Int)=(n:Int)+1 by omega];omega,h⟩
theorem Qa(d:Int)(h0: -1373427<=d)(h1:d<=2278650):∃y:Int,1<=y/\y<=9999/\Cal.first y<=d/\d<Cal.first (y+1):=
 Ob d h0 9999 (by omega) (by rw [show((9999:Nat):Int)+1=10000 by omega,oz];omega)
theorem Oh(d y:Int)(h1:1<=y)(h2:y<=9999)(h3:Cal.first y<=d)(h4:d<Cal.first (y+1)):
  (((List.range 9998).countP (fun i:Nat=> !decide (d<Cal.first ((i:Int)+2))):Nat):Int)=y-1:=by
 have hr:∀t,t<9998->(List.range 9998)[t]! =t:=fun t ht=>by rw [getElem!_pos _ t (by simpa using ht)];simp
 have:=Lib.countP_boundary (fun i:Nat=> !decide (d<Cal.first ((i:Int)+2))) (List.range 9998) (y-1).toNat (by simp;omega) (fun t ht=> ?_) (fun t h5 h6=> ?_)
 ·rw [this];omega
 ·rw [hr t (by omega)]
  have:=dM ((t:Int)+2) y (by omega) (by omega) (by omega)
  simp only [Bool.not_eq_true',decide_eq_false_iff_not]
  omega
 ·rw [hr t (by simpa using h6)]
  have h6':t<9998:=by simpa using h6
  have:=dM (y+1) ((t:Int)+2) (by omega) (by omega) (by omega)
  simp only [Bool.not_eq_false',decide_eq_true_eq]
  omega
theorem oO(w:World):Calls Tryo.prog 142 #[] w fun e w'=>e= .returned (.int .i64 2278650)/\w'=w:=(Md w).mono fun _ _ h=>⟨h.1,h.2.symm⟩
theorem Jv(d i:Int)(B:Nat)(w:World)(hc:w.cell? ⟨B,0,none⟩=some (.int .i64 d))(h0:0<=i)(h1:i<9998):
  Calls Tryo.prog 143 #[.int .i64 i,.pointer (some ⟨B,0,none⟩)] w fun e w'=>e= .returned (.bool (decide (d<Cal.first (i+2))))/\w=w':=by
 have h:=fun w=>kT (i+2) w (by omega) (by omega)
 have H:=Lib.hid (fun w=>kT (1+i+1) w (by omega) (by omega))
 rw [show 1+i+1=i+2 by omega]at H
 have ei:1+i+1=i+2:=by omega
 clear h
 go_enter Tryo.func143,Tryz.ntmps143
 go_wp2_with fail
 refine(H.out _).mono ?_
 rintro e w' ⟨rfl,rfl⟩
 go_wp2_with fail
 go_ret
 exact⟨rfl,rfl⟩
theorem qZ(d y:Int)(w:World)(h1:1<=y)(h2:y<=9999)(h3:Cal.first y<=d)(h4:d<Cal.first (y+1))(h5: -1373427<=d)(h6:d<=2278650):
  Calls Tryo.prog 70 #[.int .i64 d] w fun e w'=>e= .returned (.tuple #[.int .i64 y,.int .i64 0])/\Below w.heap.size w w':=by
 have hcount:=Oh d y h1 h2 h3 h4
 have HQ:∀W:World,W.cell? ⟨w.heap.size,0,none⟩=some (.int .i64 d)->w.heap.size<W.heap.size->Calls Tryo.prog 145 #[.int .i64 9998,.func (.func 143) #[] #[.pointer (some ⟨w.heap.size,0,none⟩)]] W fun e w'=>e= .returned (.int .i64 (y-1))/\Below W.heap.size W w':=by
  intro W hW hs
  have hh:=Any.sort_Search search 143 #[.pointer (some ⟨w.heap.size,0,none⟩)] 9998 (fun i=>decide (d<Cal.first ((i:Int)+2))) W (enters_of Tryo.func143 (by kernel_rfl) rfl) (by omega)
   (fun m os i hi=>(Jv d i w.heap.size _ (cell_grown hs hW m os) (by omega) (by omega)).mono fun e w' h=>⟨h.1,0,#[],by rw [←h.2,grow_empty];rfl⟩)
   (fun a b hab hb hp=>by
    have hp':=of_decide_eq_true hp
    have:=dM ((a:Int)+2) ((b:Int)+2) (by omega) (by omega) (by omega)
    exact decide_eq_true (by omega))
  rw [hcount]at hh
  exact hh.mono fun e w' h=>⟨h.1,by obtain⟨q,os,rfl⟩:=h.2;exact below_grown_sl _ W q os (Nat.le_refl _)⟩
 have HR:=Lib.hid HQ
 clear HQ hcount
 go_enter Tryo.func70,Tryz.ntmps70
 go_wp2_with fail
 go_quiet ((go_at_call 142;exact Calls.quiet_of_same (oO _)))
 go_wp2_with fail
 refine(HR.out _ (by simp [go_sem]) (by simp)).mono ?_
 rintro e w1 ⟨rfl,hb1⟩
 have ey:1+(y-1)=y:=by omega
 go_wp2_with fail
 go_ret2
 exact⟨rfl,bt (bdn (ba _ _) _) hb1⟩
theorem Db(d:Int)(w:World)(h:d< -1373427∨2278650<d):
  Calls Tryo.prog 70 #[.int .i64 d] w fun e w'=>e= .returned (.tuple #[.int .i64 0,.int .i64 2])/\Below w.heap.size w w':=by
 rcases(show d< -1373427∨(-1373427<=d/\2278650<d) by omega)with c|⟨c1,c2⟩
 ·have hd:decide (d< -1373427)=true:=by simp;omega
  go_enter Tryo.func70,Tryz.ntmps70
  go_wp2_with fail
  go_quiet ((go_at_call 142;exact Calls.quiet_of_same (oO _)))
  go_wp2_with fail
  go_ret2
  exact⟨rfl,bdn (ba _ _) _⟩
 ·have hd:decide (d< -1373427)=false:=by simp;omega
  go_enter Tryo.func70,Tryz.ntmps70
  go_wp2_with fail
  go_quiet ((go_at_call 142;exact Calls.quiet_of_same (oO _)))
  go_wp2_with fail
  go_ret2
  exact⟨rfl,bdn (ba _ _) _⟩
end Go.Proofs.YthnjjcoahdhmnaaGreatDoor
namespace Go.Proofs.YthnjjcoahdhmnaaGreatDoor
open Go.ChangeShapes Go.WideShapes Go.ChangeAt Go.RowKit Go.Sort
end Go.Proofs.YthnjjcoahdhmnaaGreatDoor
