import Derived.Test.YtljbnicolhhicaaGreatDoorZLA
import Derived.Shelf.SlSorted.Search
set_option maxHeartbeats 8000000
set_option maxRecDepth 100000
set_option linter.unusedVariables false
namespace Go.Proofs.YtljbnicolhhicaaGreatDoor
open Go.ChangeShapes Go.WideShapes Go.ChangeAt Go.RowKit
end Go.Proofs.YtljbnicolhhicaaGreatDoor
namespace Go.Proofs.YtljbnicolhhicaaGreatDoor
open Go.ChangeShapes Go.WideShapes Go.ChangeAt Go.RowKit
theorem IX(y:Int)(h0: -1<=y)(h1:y<=10002):Cal.Sc y=Cal.nearly y/\Cal.Qs y=0:=by
 have h:Cal.DY y=true:=by simp [Cal.DY,h0,h1]
 rw [Cal.Sc,Cal.Qs,h];exact⟨rfl,rfl⟩
theorem UA(y:Int)(h:y< -1∨10002<y):Cal.Sc y=0/\Cal.Qs y=2:=by
 have h:Cal.DY y=false:=by
  rw [Bool.eq_false_iff];intro h';simp only [Cal.DY,Bool.and_eq_true,decide_eq_true_eq]at h';omega
 rw [Cal.Sc,Cal.Qs,h];exact⟨rfl,rfl⟩
theorem LG(y:Int)(h:(3*Cal.jo (Cal.before y)+3) % 7<3):Cal.nearly y=Cal.jo (Cal.before y)+1:=by unfold Cal.nearly;rw [if_pos h]
theorem EY(y:Int)(h:¬(3*Cal.jo (Cal.before y)+3) % 7<3):Cal.nearly y=Cal.jo (Cal.before y):=by unfold Cal.nearly;rw [if_neg h]
theorem RN(y:Int)(h0: -1<=y)(h1:y<=10002): -1000<=Cal.jo (Cal.before y)/\Cal.jo (Cal.before y)<=3700000:=by unfold Cal.jo Cal.before;omega
theorem SK(y:Int)(h0: -1<=y)(h1:y<=10002): -30<=Cal.before y/\Cal.before y<=123720:=by unfold Cal.before;omega
theorem BH(a b:Int)(w:World)(ha:I64 a)(hb:I64 b)(h:0<b):
  vC 172 #[a,b] w (.int .i64 (a / b)):=by
 have HD:=Lib.hid (fun w=>mD a b w ha hb h)
 go_enter (vF Tryz.func172),Tryz.ntmps172
 go_wp2_with fail
 refine vW (HD.out _) ?_
 go_wp2_with fail
 go_ret
 exact⟨rfl,rfl⟩
theorem Kk(y:Int)(w:World):
  vC 144 #[y] w (.tuple #[Cal.Sc y,Cal.Qs y]):=by
 rcases(show y< -1∨(-1<=y/\y<=10002)∨(-1<=y/\10002<y) by omega)with c|⟨c1,c2⟩|⟨c1,c⟩
 ·have HS:=Lib.hid (UA y vO)
  go_enter (vF Tryz.func144),Tryz.ntmps144
  go_wp2_with fail
  go_ret2
  exact⟨bM HS.out.1.symm HS.out.2.symm,rfl⟩
 ·have hs:=IX y c1 c2
  obtain⟨b1,b2⟩:=SK y c1 c2
  obtain⟨b3,b4⟩:=RN y c1 c2
  have H1:=Lib.hid (fun w=>BH (235*y-234) 19 w ⟨vO,vO⟩ ⟨vO,vO⟩ vO)
  have H2:=Lib.hid (fun w=>BH (12084+13753*Cal.before y) 25920 w ⟨vO,vO⟩ ⟨vO,vO⟩ vO)
  have H3:=Lib.hid (fun w=>jR (3*Cal.jo (Cal.before y)+3) 7 w ⟨vO,vO⟩ ⟨vO,vO⟩ vO)
  rw [show(235*y-234) / 19=Cal.before y from rfl]at H1
  have up:=LG y
  have fl:=EY y
  have en:Cal.jo (Cal.before y)=29*Cal.before y+(12084+13753*Cal.before y) / 25920:=rfl
  have k1:0<=(3*Cal.jo (Cal.before y)+3) % 7:=vO
  generalize Cal.before y=m at*
  have b5: -20<=(12084+13753*m) / 25920:=vO
  have b6:(12084+13753*m) / 25920<=70000:=vO
  generalize (12084+13753*m) / 25920=q at*
  by_cases c3:(3*Cal.jo m+3) % 7<3
  ·have HS:=Lib.hid (And.intro (hs.1.trans (up c3)) hs.2)
   rw [en]at b3 b4 HS H3 c3 k1
   clear hs up fl en
   go_enter (vF Tryz.func144),Tryz.ntmps144
   go_wp2_with fail
   refine vW (H1.out _) ?_
   go_wp2_with fail
   refine vW (H2.out _) ?_
   go_wp2_with fail
   refine vW (H3.out _) ?_
   go_wp2_with fail
   go_ret2
   exact⟨bM HS.out.1.symm HS.out.2.symm,rfl⟩
  ·have HS:=Lib.hid (And.intro (hs.1.trans (fl c3)) hs.2)
   rw [en]at b3 b4 HS H3 c3 k1
   clear hs up fl en
   go_enter (vF Tryz.func144),Tryz.ntmps144
   go_wp2_with fail
   refine vW (H1.out _) ?_
   go_wp2_with fail
   refine vW (H2.out _) ?_
   go_wp2_with fail
   refine vW (H3.out _) ?_
   go_wp2_with fail
   go_ret2
   exact⟨bM HS.out.1.symm HS.out.2.symm,rfl⟩
 ·have HS:=Lib.hid (UA y vO)
  go_enter (vF Tryz.func144),Tryz.ntmps144
  go_wp2_with fail
  go_ret2
  exact⟨bM HS.out.1.symm HS.out.2.symm,rfl⟩
end Go.Proofs.YtljbnicolhhicaaGreatDoor
namespace Go.Proofs.YtljbnicolhhicaaGreatDoor
open Go.ChangeShapes Go.WideShapes Go.ChangeAt Go.RowKit
theorem Dy(y:Int)(h0: -1<=y)(h1:y<=10002): -1000<=Cal.nearly y/\Cal.nearly y<=3700001:=by
 obtain⟨b3,b4⟩:=RN y h0 h1
 by_cases c:(3*Cal.jo (Cal.before y)+3) % 7<3
 ·rw [LG y c];omega
 ·rw [EY y c];omega
theorem ZR(y:Int)(h0:0<=y)(h1:y<=10001):Cal.oW y=Cal.Ot y/\Cal.fF y=0:=by
 rw [Cal.oW,Cal.fF,fO y h0 h1,Cal.Xa y h0 h1];exact⟨rfl,rfl⟩
theorem lJ(y:Int)(w:World)(h0: -1<=y)(h1:y<=10002):
  vC 144 #[y] w (.tuple #[Cal.nearly y,(0:Int)]):=by
 have:=Kk y w
 rwa [(IX y h0 h1).1,(IX y h0 h1).2]at this
theorem MW(y:Int)(w:World):
  vC 106 #[y] w (.tuple #[Cal.oW y,Cal.fF y]):=by
 by_cases c:0<=y/\y<=10001
 ·obtain⟨c1,c2⟩:=c
  have hs:=ZR y c1 c2
  unfold Cal.Ot at hs
  have H0:=Lib.hid (fun w=>lJ (y-1) w vO vO)
  have H1:=Lib.hid (fun w=>lJ y w vO vO)
  have H2:=Lib.hid (fun w=>lJ (y+1) w vO vO)
  obtain⟨b1,b2⟩:=Dy (y-1) vO vO
  obtain⟨b3,b4⟩:=Dy y vO vO
  obtain⟨b5,b6⟩:=Dy (y+1) vO vO
  generalize Cal.nearly (y-1)=n0 at*
  generalize Cal.nearly (y+1)=n2 at*
  generalize Cal.nearly y=n1 at*
  by_cases d1:n2-n1=356
  ·rw [if_pos d1]at hs
   have HS:=Lib.hid hs
   have d1':(n2-n1==356)=true:=by rw [beq_iff_eq];exact d1
   have D1:=Lib.hid d1
   clear hs d1
   go_enter (vF Tryz.func106),Tryz.ntmps106
   go_wp2_with fail
   refine vW (aN y _ c1 c2) ?_
   go_wp2_with fail
   refine vW (H0.out _) ?_
   go_wp2_with fail
   refine vW (H1.out _) ?_
   go_wp2_with fail
   refine vW (H2.out _) ?_
   go_wp2_with fail
   go_ret2
   exact⟨bM (Eq.trans vO HS.out.1.symm) HS.out.2.symm,rfl⟩
  ·rw [if_neg d1]at hs
   have d1':(n2-n1==356)=false:=by rw [beq_eq_false_iff_ne];exact d1
   by_cases d2:n1-n0=382
   ·rw [if_pos d2]at hs
    have HS:=Lib.hid hs
    have d2':(n1-n0==382)=true:=by rw [beq_iff_eq];exact d2
    have D2:=Lib.hid d2
    have D1:=Lib.hid d1
    clear hs d1 d2
    go_enter (vF Tryz.func106),Tryz.ntmps106
    go_wp2_with fail
    refine vW (aN y _ c1 c2) ?_
    go_wp2_with fail
    refine vW (H0.out _) ?_
    go_wp2_with fail
    refine vW (H1.out _) ?_
    go_wp2_with fail
    refine vW (H2.out _) ?_
    go_wp2_with fail
    go_ret2
    exact⟨bM (Eq.trans vO HS.out.1.symm) HS.out.2.symm,rfl⟩
   ·rw [if_neg d2]at hs
    have HS:=Lib.hid hs
    have d2':(n1-n0==382)=false:=by rw [beq_eq_false_iff_ne];exact d2
    have D2:=Lib.hid d2
    have D1:=Lib.hid d1
    clear hs d1 d2
    go_enter (vF Tryz.func106),Tryz.ntmps106
    go_wp2_with fail
    refine vW (aN y _ c1 c2) ?_
    go_wp2_with fail
    refine vW (H0.out _) ?_
    go_wp2_with fail
    refine vW (H1.out _) ?_
    go_wp2_with fail
    refine vW (H2.out _) ?_
    go_wp2_with fail
    go_ret2
    exact⟨bM (Eq.trans vO HS.out.1.symm) HS.out.2.symm,rfl⟩
 ·have HS:=Lib.hid (Qj y vO)
  go_enter (vF Tryz.func106),Tryz.ntmps106
  go_wp2_with fail
  refine vW (qp y _ vO) ?_
  go_wp2_with fail
  go_ret2
  exact⟨bM HS.out.1.symm HS.out.2.symm,rfl⟩
theorem ng(y:Int)(w:World)(h0:0<=y)(h1:y<=10001):
  vC 106 #[y] w (.tuple #[Cal.first y,(0:Int)]):=by
 have:=MW y w
 rwa [Cal.oW,Cal.fF,fO y h0 h1,if_pos rfl,if_pos rfl]at this
theorem Bh:Cal.first 10000=2278651:=by decide+kernel
theorem Qq(w:World):vC 104 #[] w (.int .i64 2278650):=by
 have h:=fun w=>ng 10000 w vO vO
 rw [Bh]at h
 have H:=Lib.hid h
 clear h
 go_enter (vF Tryz.func104),Tryz.ntmps104
 go_wp2_with fail
 refine vW (H.out _) ?_
 go_wp2_with fail
 go_ret
 exact⟨rfl,rfl⟩
end Go.Proofs.YtljbnicolhhicaaGreatDoor
namespace Go.Proofs
open Go.Shelf
namespace YtljbnicolhhicaaGreatDoor
def Ur:Go.Shelf.Ren:=⟨fun|16=>107|n=>n,fun|3=>3|35=>122|4=>4|38=>177|n=>n,fun|n=>n⟩
theorem search:Go.Proofs.SlLaysO.n16 Tryo.prog Ur:={
 mixed:=vK
 f16:=(vF Tryz.func107).trans (congrArg some vK)
 t3:=(aB Tryz.underlying3)
 a3:=(au (Tryo.isAgg 3) Tryz.isAgg3)
 z3:=(au (Tryo.sizeOf 3) Tryz.sizeOf3)
 v3:=(au (Tryo.zeroValue 3) Tryz.zeroValue3)
 t4:=(aB Tryz.underlying4)
 a4:=(au (Tryo.isAgg 4) Tryz.isAgg4)
 z4:=(au (Tryo.sizeOf 4) Tryz.sizeOf4)
 v4:=(au (Tryo.zeroValue 4) Tryz.zeroValue4)
 t35:=(aB Tryz.underlying122)
 a35:=(au (Tryo.isAgg 122) Tryz.isAgg122)
 z35:=(au (Tryo.sizeOf 122) Tryz.sizeOf122)
 v35:=(au (Tryo.zeroValue 122) Tryz.zeroValue122)
 t38:=(aB Tryz.underlying177)
 a38:=(au (Tryo.isAgg 177) Tryz.isAgg177)
 z38:=(au (Tryo.sizeOf 177) Tryz.sizeOf177)
 v38:=(au (Tryo.zeroValue 177) Tryz.zeroValue177)}
end YtljbnicolhhicaaGreatDoor
end Go.Proofs
namespace Go.Proofs.YtljbnicolhhicaaGreatDoor
open Go.ChangeShapes Go.WideShapes Go.ChangeAt Go.RowKit Go.Sort
theorem Uh(y:Int)(h0:0<=y)(h1:y<=10000):Cal.first y<Cal.first (y+1):=by
 have:=Cal.DU y h0 h1
 split at this <;> omega
theorem Xg(n:Nat):∀y:Int,0<=y->y+n<=10001->Cal.first y<=Cal.first (y+n):=by
 induction n with
 |zero=>intro y _ _;simp
 |succ n ih=>
  intro y h0 h1
  have k1:=ih y h0 vO
  have k2:=Uh (y+n) vO vO
  rw [show y+((n+1:Nat):Int)=y+n+1 by omega]
  omega
theorem fC(a b:Int)(h0:0<=a)(h:a<=b)(h1:b<=10001):Cal.first a<=Cal.first b:=by
 have:=Xg (b-a).toNat a h0 vO
 rwa [show a+((b-a).toNat:Int)=b by omega]at this
theorem nL:Cal.first 1= -1373427:=by decide+kernel
theorem TF(d:Int)(h0: -1373427<=d):∀n:Nat,n<=9999->d<Cal.first (n+1)->∃y:Int,1<=y/\y<=n/\Cal.first y<=d/\d<Cal.first (y+1):=by
 intro n
 induction n with
 |zero=>intro _ h;rw [show((0:Nat):Int)+1=1 by omega,nL]at h;omega
 | succ n ih=>
  intro hn h
  by_cases c:d<Cal.first ((n:Int)+1)
  ·obtain⟨y,a1,a2,a3,a4⟩:=ih vO c
   exact⟨y,a1,vO,a3,a4⟩
  ·exact⟨((n+1:Nat):Int),vO,vO,by rw [show((n+1:Nat):Int)=(n:Int)+1 by omega];omega,h⟩
theorem U4(d:Int)(h0: -1373427<=d)(h1:d<=2278650):∃y:Int,1<=y/\y<=9999/\Cal.first y<=d/\d<Cal.first (y+1):=
 TF d h0 9999 vO (by rw [show((9999:Nat):Int)+1=10000 by omega,Bh];omega)
theorem TQ(d y:Int)(h1:1<=y)(h2:y<=9999)(h3:Cal.first y<=d)(h4:d<Cal.first (y+1)):
  (((List.range 9998).countP (fun i:Nat=> !decide (d<Cal.first ((i:Int)+2))):Nat):Int)=y-1:=by
 have hr:∀t,t<9998->(List.range 9998)[t]! =t:=fun t ht=>by rw [getElem!_pos _ t (by simpa using ht)];simp
 have:=Lib.countP_boundary (fun i:Nat=> !decide (d<Cal.first ((i:Int)+2))) (List.range 9998) (y-1).toNat vQ (fun t ht=> ?_) (fun t h5 h6=> ?_)
 ·rw [this];omega
 ·rw [hr t vO]
  have:=fC ((t:Int)+2) y vO vO vO
  simp only [Bool.not_eq_true',decide_eq_false_iff_not]
  omega
 ·rw [hr t (by simpa using h6)]
  have h6':t<9998:=by simpa using h6
  have:=fC (y+1) ((t:Int)+2) vO vO vO
  simp only [Bool.not_eq_false',decide_eq_true_eq]
  omega
theorem sF(w:World):Calls Tryo.prog 104 #[] w fun e w'=>e= .returned (.int .i64 2278650)/\w'=w:=(Qq w).mono fun _ _ h=>⟨h.1,h.2.symm⟩
theorem Nb(d i:Int)(B:Nat)(w:World)(hc:w.cell? ⟨B,0,none⟩=some (d:vV))(h0:0<=i)(h1:i<9998):
  vC 105 #[i,.pointer (some ⟨B,0,none⟩)] w (.bool (decide (d<Cal.first (i+2)))):=by
 have h:=fun w=>ng (i+2) w vO vO
 have H:=Lib.hid (fun w=>ng (1+i+1) w vO vO)
 rw [show 1+i+1=i+2 by omega]at H
 have ei:1+i+1=i+2:=vO
 clear h
 go_enter (vF Tryz.func105),Tryz.ntmps105
 go_wp2_with fail
 refine vW (H.out _) ?_
 go_wp2_with fail
 go_ret
 exact⟨rfl,rfl⟩
theorem yT(d y:Int)(w:World)(h1:1<=y)(h2:y<=9999)(h3:Cal.first y<=d)(h4:d<Cal.first (y+1))(h5: -1373427<=d)(h6:d<=2278650):
  vB 59 #[d] w (.tuple #[y,(0:Int)]):=by
 have hcount:=TQ d y h1 h2 h3 h4
 have HQ:∀W:World,W.cell? ⟨w.1.size,0,none⟩=some (d:vV)->w.1.size<W.1.size->vB 107 #[(9998:Int),.func (.func 105) #[] #[.pointer (some ⟨w.1.size,0,none⟩)]] W (.int .i64 (y-1)):=by
  intro W hW hs
  have hh:=Any.sort_Search search 105 #[.pointer (some ⟨w.1.size,0,none⟩)] 9998 (fun i=>decide (d<Cal.first ((i:Int)+2))) W (enters_of (vF Tryz.func105) vK rfl) vO
   (fun m os i hi=>(Nb d i w.1.size _ (cell_grown hs hW m os) vO vO).mono fun e w' h=>⟨h.1,0,#[],by rw [←h.2,grow_empty];rfl⟩)
   (fun a b hab hb hp=>by
    have hp':=of_decide_eq_true hp
    have:=fC ((a:Int)+2) ((b:Int)+2) vO vO vO
    exact decide_eq_true vO)
  rw [hcount]at hh
  exact hh.mono fun e w' h=>⟨h.1,by obtain⟨q,os,rfl⟩:=h.2;exact below_grown_sl _ W q os (Nat.le_refl _)⟩
 have HR:=Lib.hid HQ
 clear HQ hcount
 go_enter (vF Tryz.func59),Tryz.ntmps59
 go_wp2_with fail
 go_quiet ((go_at_call 104;exact Calls.quiet_of_same (sF _)))
 go_wp2_with fail
 refine(HR.out _ vG vS).mono ?_
 rintro e w1 ⟨rfl,hb1⟩
 have ey:1+(y-1)=y:=vO
 go_wp2_with fail
 go_ret2
 exact⟨rfl,bt (bdn (ba _ _) _) hb1⟩
theorem zD(d:Int)(w:World)(h:d< -1373427∨2278650<d):
  vB 59 #[d] w (.tuple #[(0:Int),(2:Int)]):=by
 rcases(show d< -1373427∨(-1373427<=d/\2278650<d) by omega)with c|⟨c1,c2⟩
 ·have hd:decide (d< -1373427)=true:=vQ
  go_enter (vF Tryz.func59),Tryz.ntmps59
  go_wp2_with fail
  go_quiet ((go_at_call 104;exact Calls.quiet_of_same (sF _)))
  go_wp2_with fail
  go_ret2
  exact⟨rfl,bdn (ba _ _) _⟩
 ·have hd:decide (d< -1373427)=false:=vQ
  go_enter (vF Tryz.func59),Tryz.ntmps59
  go_wp2_with fail
  go_quiet ((go_at_call 104;exact Calls.quiet_of_same (sF _)))
  go_wp2_with fail
  go_ret2
  exact⟨rfl,bdn (ba _ _) _⟩
end Go.Proofs.YtljbnicolhhicaaGreatDoor
namespace Go.Proofs.YtljbnicolhhicaaGreatDoor
open Go.ChangeShapes Go.WideShapes Go.ChangeAt Go.RowKit Go.Sort
end Go.Proofs.YtljbnicolhhicaaGreatDoor
