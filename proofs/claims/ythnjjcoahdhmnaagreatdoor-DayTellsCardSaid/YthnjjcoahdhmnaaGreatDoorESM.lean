import Derived.Test.YthnjjcoahdhmnaaGreatDoorEEV
import Derived.Test.YthnjjcoahdhmnaaGreatDoorETL
import Derived.Test.YthnjjcoahdhmnaaGreatDoorEBB
import Derived.Test.YthnjjcoahdhmnaaGreatDoorEOM
import Derived.Test.YthnjjcoahdhmnaaGreatDoorEHR
import Derived.LoopTactic
set_option maxHeartbeats 8000000
set_option maxRecDepth 100000
set_option linter.unusedVariables false
namespace Go.Proofs.YthnjjcoahdhmnaaGreatDoor
section
open Go.ChangeShapes Go.WideShapes Go.ChangeAt Go.RowKit Go.Lib Go.Sort Go.Shelf
theorem VB(W:World)(l:List (Int×Int))(t:TypeId):∀j u,(Ev.flat l)[j]? =some u->(W.alloc (.cells (Ev.flat l).toArray t)).cell? ⟨W.heap.size,0+j,none⟩=some u:=fun j u h=>by
 rw [Nat.zero_add]
 refine(World.cell?_alloc_mark W _ _ _ j).trans ?_
 simpa using h
theorem SV(y n d D U:Int)(w:World)(H1:Hid (∀w:World,Calls Tryo.prog 99 #[.int .i64 y,.int .i64 n,.int .i64 d] w fun e w'=>e= .returned (.int .i64 D)/\Below w.heap.size w w'))(H2:Hid (∀w:World,Calls Tryo.prog 189 #[.int .i64 D,.int .i64 6] w fun e w'=>e= .returned (.int .i64 U)/\Below w.heap.size w w')):
  Calls Tryo.prog 122 #[.int .i64 y,.int .i64 n,.int .i64 d] w fun e w'=>e= .returned (.int .i64 U)/\Below w.heap.size w w':=by
 go_enter Tryo.func122,Tryz.ntmps122
 go_wp2_with fail
 refine(H1.out _).mono ?_
 rintro e w1 ⟨rfl,hb1⟩
 obtain⟨hc1,hf1⟩:=aA hb1
 have hz1:=hb1.size
 try simp at hz1
 go_wp2_with fail
 refine(H2.out _).mono ?_
 rintro e w2 ⟨rfl,hb2⟩
 obtain⟨hc2,hf2⟩:=aA hb2
 have hz2:=hb2.size
 try simp at hz2
 go_wp2_with fail
 go_ret
 exact⟨rfl,bel⟩
theorem PZ(y A B C M G V D:Int)(w:World)(hy1:1<=y)(hy2:y<=9999)(hM: -2000000<=M/\M<=3000000)(hV: -2000000<=V/\V<=3000000)
  (HM:Hid (∀w:World,Calls Tryo.prog 122 #[.int .i64 y,.int .i64 7,.int .i64 1] w fun e w'=>e= .returned (.int .i64 M)/\Below w.heap.size w w')) (HV:Hid (∀w:World,Calls Tryo.prog 122 #[.int .i64 y,.int .i64 11,.int .i64 9] w fun e w'=>e= .returned (.int .i64 V)/\Below w.heap.size w w')) (HB:Hid (∀w:World,Calls Tryo.prog 122 #[.int .i64 y,.int .i64 6,.int .i64 1] w fun e w'=>e= .returned (.int .i64 B)/\Below w.heap.size w w')) (HC:Hid (∀w:World,Calls Tryo.prog 122 #[.int .i64 y,.int .i64 6,.int .i64 13] w fun e w'=>e= .returned (.int .i64 C)/\Below w.heap.size w w')) (HG:Hid (∀w:World,Calls Tryo.prog 122 #[.int .i64 y,.int .i64 7,.int .i64 14] w fun e w'=>e= .returned (.int .i64 G)/\Below w.heap.size w w'))
  (HD:Hid (∀w:World,Calls Tryo.prog 99 #[.int .i64 y,.int .i64 1,.int .i64 3] w fun e w'=>e= .returned (.int .i64 D)/\Below w.heap.size w w')) (HA:Hid (∀w:World,Calls Tryo.prog 123 #[.int .i64 D,.int .i64 6] w fun e w'=>e= .returned (.int .i64 A)/\Below w.heap.size w w')):
  Calls Tryo.prog 47 #[.int .i64 y] w fun e w'=>∃v,e= .returned (.tuple #[v,.int .i64 0])/\Ev.Own w' w.heap.size v (Ev.sort [(35,A),(30,B),(31,C),(32,M-7),(33,M),(34,G),(36,V),(37,V+7)])/\Below w.heap.size w w':=by
 have HRi:=Lib.hid (fun w=>dQ y w ⟨by omega,by omega⟩)
 rw [Cal.jd y hy1 hy2]at HRi
 obtain⟨m1,m2⟩:=hM
 obtain⟨v1,v2⟩:=hV
 go_enter Tryo.func47,Tryz.ntmps47
 go_wp2_with fail
 refine(HRi.out _).mono ?_
 rintro e w' ⟨rfl,rfl⟩
 go_wp2_with fail
 refine(HM.out _).mono ?_
 rintro e w1 ⟨rfl,hb1⟩
 obtain⟨hc1,hf1⟩:=aA hb1
 have hz1:=hb1.size
 try simp at hz1
 go_wp2_with fail
 refine(HV.out _).mono ?_
 rintro e w2 ⟨rfl,hb2⟩
 obtain⟨hc2,hf2⟩:=aA hb2
 have hz2:=hb2.size
 try simp at hz2
 go_wp2_with fail
 refine(HD.out _).mono ?_
 rintro e w3 ⟨rfl,hb3⟩
 obtain⟨hc3,hf3⟩:=aA hb3
 have hz3:=hb3.size
 try simp at hz3
 go_wp2_with fail
 refine(HA.out _).mono ?_
 rintro e w4 ⟨rfl,hb4⟩
 obtain⟨hc4,hf4⟩:=aA hb4
 have hz4:=hb4.size
 try simp at hz4
 go_wp2_with fail
 refine(HB.out _).mono ?_
 rintro e w5 ⟨rfl,hb5⟩
 obtain⟨hc5,hf5⟩:=aA hb5
 have hz5:=hb5.size
 try simp at hz5
 go_wp2_with fail
 refine(HC.out _).mono ?_
 rintro e w6 ⟨rfl,hb6⟩
 obtain⟨hc6,hf6⟩:=aA hb6
 have hz6:=hb6.size
 try simp at hz6
 go_wp2_with fail
 refine(HG.out _).mono ?_
 rintro e w7 ⟨rfl,hb7⟩
 obtain⟨hc7,hf7⟩:=aA hb7
 have hz7:=hb7.size
 try simp at hz7
 go_wp2_with fail
 refine(jf _ [(35,A),(30,B),(31,C),(32,M-7),(33,M),(34,G),(36,V),(37,V+7)] _ (.inr ⟨w7.heap.size,0,8,rfl,VB w7 [(35,A),(30,B),(31,C),(32,M-7),(33,M),(34,G),(36,V),(37,V+7)] _⟩) (by simp)).mono ?_
 rintro e w9 ⟨v9,rfl,ho9,hb9⟩
 go_wp2_with fail
 have hB4:Below w.heap.size w w7:=bel
 have hs4:=hB4.size
 go_ret2
 exact⟨_,rfl,ho9.base (by simp;omega),bt (baa hB4 _) hb9⟩
end
section
open Go.ChangeShapes Go.WideShapes Go.ChangeAt Go.RowKit Go.Lib Go.Sort Go.Shelf
theorem GV{f:FuncId}{args:Array Value}{w:World}{v:Value}(c:Calls Tryo.prog f args w fun e w'=>e= .returned v/\w=w'):Calls Tryo.prog f args w fun e w'=>e= .returned v/\Below w.heap.size w w':=
 c.mono fun _ _ h=>⟨h.1,h.2▸Below.refl _ _⟩
theorem iQ(y:Int)(i:Nat)(n d:Int)(h:Yr.Is y i)(hv:Yr.okV i n false d=true)(w:World):
  Calls Tryo.prog 122 #[.int .i64 y,.int .i64 n,.int .i64 d] w fun e w'=>e= .returned (.int .i64 (Sp.up y n d))/\Below w.heap.size w w':=by
 have e:=(Yr.dP h hv).1
 obtain⟨v,_⟩:=D10.jV e
 have hd:=D10.mG v
 have hD:kG (D10.aC y n false d):=by unfold D10.aC;rw [if_pos e];exact⟨by omega,by omega⟩
 exact SV y n d _ _ w (Lib.hid (fun w=>bJ y n d w ⟨by have:=h.1;omega,by have:=h.2.1;omega⟩)) (Lib.hid (fun w=>GV (Jh _ 6 _ w hD (by omega) (by omega) rfl)))
theorem RO(y:Int)(i:Nat)(w:World)(h:Yr.Is y i):
  Calls Tryo.prog 47 #[.int .i64 y] w fun e w'=>∃v,e= .returned (.tuple #[v,.int .i64 0])/\Ev.Own w' w.heap.size v ((Sp.spL i).map (Ev.sh (Cal.first y)))/\Below w.heap.size w w':=by
 have hb:=Yr.bF h
 have hc:=List.all_eq_true.1 Sp.Uo i (List.mem_range.2 h.2.2.1)
 simp only [Bool.and_eq_true]at hc
 obtain⟨_,c1,c2,c3,c4,c5,c6,c7⟩:=hc
 have e3:=(Yr.dP h c3).1
 obtain⟨v3,_⟩:=D10.jV e3
 have hd3:=D10.mG v3
 have hD:kG (D10.aC y 1 false 3):=by unfold D10.aC;rw [if_pos e3];exact⟨by omega,by omega⟩
 have b1:0<=Sp.ny i 7 1/\Sp.ny i 7 1<=400:=by
  have:=List.all_eq_true.1 c7 (33,Sp.ny i 7 1) (by simp [Sp.spL])
  simpa using this
 have b2:0<=Sp.ny i 11 9/\Sp.ny i 11 9<=400:=by
  have:=List.all_eq_true.1 c7 (36,Sp.ny i 11 9) (by simp [Sp.spL])
  simpa using this
 have e:Ev.sort [(35,Sp.fr y 1 3),(30,Sp.up y 6 1),(31,Sp.up y 6 13),(32,Sp.up y 7 1-7),(33,Sp.up y 7 1),(34,Sp.up y 7 14),(36,Sp.up y 11 9),(37,Sp.up y 11 9+7)]=(Sp.spL i).map (Ev.sh (Cal.first y)):=by
  rw [←Sp.qg h]
  rfl
 rw [←e]
 refine PZ y (Sp.fr y 1 3) (Sp.up y 6 1) (Sp.up y 6 13) (Sp.up y 7 1) (Sp.up y 7 14) (Sp.up y 11 9) (D10.aC y 1 false 3) w h.1 h.2.1 ?_ ?_ (Lib.hid (iQ y i 7 1 h c1)) (Lib.hid (iQ y i 11 9 h c2)) (Lib.hid (iQ y i 6 1 h c4)) (Lib.hid (iQ y i 6 13 h c5)) (Lib.hid (iQ y i 7 14 h c6)) (Lib.hid (fun w=>bJ y 1 3 w ⟨by have:=h.1;omega,by have:=h.2.1;omega⟩)) (Lib.hid (fun w=>GV (uL _ 6 _ w hD (by omega) (by omega) rfl)))
 ·rw [(Sp.oz h c1).1];omega
 ·rw [(Sp.oz h c2).1];omega
end
end Go.Proofs.YthnjjcoahdhmnaaGreatDoor
