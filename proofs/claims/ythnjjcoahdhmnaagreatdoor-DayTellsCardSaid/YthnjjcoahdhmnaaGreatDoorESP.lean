import Derived.Test.YthnjjcoahdhmnaaGreatDoorEYM
import Derived.Test.YthnjjcoahdhmnaaGreatDoorETL
import Derived.Test.YthnjjcoahdhmnaaGreatDoorEBB
set_option maxHeartbeats 8000000
set_option maxRecDepth 100000
set_option linter.unusedVariables false
namespace Go.Proofs.YthnjjcoahdhmnaaGreatDoor
section
open Go.ChangeShapes Go.WideShapes Go.ChangeAt Go.RowKit Go.Lib Go.Sort Go.Shelf
theorem uE(y n d:Int)(w:World)(hy:I64 y)(hT:Tab w 7 kevCells)(hL:Tab w 5 lenCells):Calls Tryo.prog 227 #[.int .i64 y,.int .i64 n,.int .i64 d] w fun e w'=>e= .returned (.int .i64 (D10.aC y n false d))/\Below w.heap.size w w':=by
 have HC:=Lib.hid (fun w hT hL=>lq y n false d w hy hT hL)
 generalize D10.aC y n false d=D at*
 generalize D10.bO y n false d=E at*
 go_enter Tryo.func227,Tryz.ntmps227
 go_wp2_with fail
 refine(HC.out _ (Tab.below hT bel) (Tab.below hL bel)).mono ?_
 rintro e w1 ⟨rfl,hb1⟩
 obtain⟨hc1,hf1⟩:=aA hb1
 have hz1:=hb1.size
 try simp at hz1
 go_wp2_with fail
 go_ret
 exact⟨rfl,bel⟩
theorem Ht(y n d:Int)(B1 B2:Nat)(w:World)(hy:I64 y)(hD:kG (D10.aC y n false d))(c1:w.cell? ⟨B1,0,none⟩=some (.int .i64 n))(c2:w.cell? ⟨B2,0,none⟩=some (.int .i64 d))(hT:Tab w 7 kevCells)(hL:Tab w 5 lenCells):
  Calls Tryo.prog 228 #[.int .i64 y,.pointer (some ⟨B1,0,none⟩),.pointer (some ⟨B2,0,none⟩)] w fun e w'=>e= .returned (.int .i64 (D10.aC y n false d+(6-D10.aC y n false d) % 7))/\Below w.heap.size w w':=by
 have l1:B1<w.heap.size:=World.block_lt_of_cell? _ _ c1
 have l2:B2<w.heap.size:=World.block_lt_of_cell? _ _ c2
 have HC:=Lib.hid (fun w hT hL=>uE y n d w hy hT hL)
 have HW:=Lib.hid (fun w=>Li (D10.aC y n false d) 6 _ w hD (by omega) (by omega) rfl)
 clear hD
 generalize D10.aC y n false d+(6-D10.aC y n false d) % 7=R at*
 generalize D10.aC y n false d=D at*
 go_enter Tryo.func228,Tryz.ntmps228
 go_wp2_with fail
 refine(HC.out _ (Tab.below hT bel) (Tab.below hL bel)).mono ?_
 rintro e w1 ⟨rfl,hb1⟩
 obtain⟨hc1,hf1⟩:=aA hb1
 have hz1:=hb1.size
 try simp at hz1
 go_wp2_with fail
 refine(HW.out _).mono ?_
 rintro e w' ⟨rfl,rfl⟩
 go_wp2_with fail
 go_ret
 exact⟨rfl,bel⟩
theorem OL(n d:Int)(w:World):
  Calls Tryo.prog 180 #[.int .i64 n,.int .i64 d] w fun e w'=>e= .returned (.func (.func 228) #[] #[.pointer (some ⟨w.heap.size,0,none⟩),.pointer (some ⟨w.heap.size+1,0,none⟩)])/\w'.cell? ⟨w.heap.size,0,none⟩=some (.int .i64 n)/\w'.cell? ⟨w.heap.size+1,0,none⟩=some (.int .i64 d)/\w.heap.size+1<w'.heap.size/\Below w.heap.size w w':=by
 go_enter Tryo.func180,Tryz.ntmps180
 go_wp2_with fail
 go_ret
 exact⟨rfl,by simp [go_sem],by simp [go_sem],by simp,bel⟩
theorem H9(y n d:Int)(B1 B2:Nat)(w:World)(hy:I64 y)(hD:kG (D10.aC y n false d))(c1:w.cell? ⟨B1,0,none⟩=some (.int .i64 n))(c2:w.cell? ⟨B2,0,none⟩=some (.int .i64 d))(hT:Tab w 7 kevCells)(hL:Tab w 5 lenCells):
  Calls Tryo.prog 225 #[.int .i64 y,.pointer (some ⟨B1,0,none⟩),.pointer (some ⟨B2,0,none⟩)] w fun e w'=>e= .returned (.int .i64 (D10.aC y n false d-(D10.aC y n false d-6) % 7))/\Below w.heap.size w w':=by
 have l1:B1<w.heap.size:=World.block_lt_of_cell? _ _ c1
 have l2:B2<w.heap.size:=World.block_lt_of_cell? _ _ c2
 have HC:=Lib.hid (fun w hT hL=>uE y n d w hy hT hL)
 have HW:=Lib.hid (fun w=>Ns (D10.aC y n false d) 6 _ w hD (by omega) (by omega) rfl)
 clear hD
 generalize D10.aC y n false d-(D10.aC y n false d-6) % 7=R at*
 generalize D10.aC y n false d=D at*
 go_enter Tryo.func225,Tryz.ntmps225
 go_wp2_with fail
 refine(HC.out _ (Tab.below hT bel) (Tab.below hL bel)).mono ?_
 rintro e w1 ⟨rfl,hb1⟩
 obtain⟨hc1,hf1⟩:=aA hb1
 have hz1:=hb1.size
 try simp at hz1
 go_wp2_with fail
 refine(HW.out _).mono ?_
 rintro e w' ⟨rfl,rfl⟩
 go_wp2_with fail
 go_ret
 exact⟨rfl,bel⟩
theorem LP(n d:Int)(w:World):
  Calls Tryo.prog 179 #[.int .i64 n,.int .i64 d] w fun e w'=>e= .returned (.func (.func 225) #[] #[.pointer (some ⟨w.heap.size,0,none⟩),.pointer (some ⟨w.heap.size+1,0,none⟩)])/\w'.cell? ⟨w.heap.size,0,none⟩=some (.int .i64 n)/\w'.cell? ⟨w.heap.size+1,0,none⟩=some (.int .i64 d)/\w.heap.size+1<w'.heap.size/\Below w.heap.size w w':=by
 go_enter Tryo.func179,Tryz.ntmps179
 go_wp2_with fail
 go_ret
 exact⟨rfl,by simp [go_sem],by simp [go_sem],by simp,bel⟩
end
section
open Go.ChangeShapes Go.WideShapes Go.ChangeAt Go.RowKit Go.Lib Go.Sort Go.Shelf
theorem Fx(y days R:Int)(gf:FuncId)(b1 b2:Nat)(B1 B2:Nat)(w:World)(eg:(∀args w,(callFunc gf args).run Tryo.prog w= .ok (.enter gf args) w))(hr: -4000000<=R/\R<=4000000)(hd: -7<=days/\days<=7)
  (c1:w.cell? ⟨B1,0,none⟩=some (.func (.func gf) #[] #[.pointer (some ⟨b1,0,none⟩),.pointer (some ⟨b2,0,none⟩)])) (c2:w.cell? ⟨B2,0,none⟩=some (.int .i64 days))
  (HF:Hid (∀W:World,Below w.heap.size w W->Calls Tryo.prog gf #[.int .i64 y,.pointer (some ⟨b1,0,none⟩),.pointer (some ⟨b2,0,none⟩)] W fun e w'=>e= .returned (.int .i64 R)/\Below W.heap.size W w')):
  Calls Tryo.prog 230 #[.int .i64 y,.pointer (some ⟨B1,0,none⟩),.pointer (some ⟨B2,0,none⟩)] w fun e w'=>e= .returned (.int .i64 (R+days))/\Below w.heap.size w w':=by
 have l1:B1<w.heap.size:=World.block_lt_of_cell? _ _ c1
 have l2:B2<w.heap.size:=World.block_lt_of_cell? _ _ c2
 obtain⟨r1,r2⟩:=hr
 obtain⟨d1,d2⟩:=hd
 go_enter Tryo.func230,Tryz.ntmps230
 go_wp2_with fail
 refine aJ (by kernel_rfl) (by kernel_rfl) (fun hall=> ?_)
 repeat(first|go_big_quiet_skip|(go_big_quiet_want;first|(refine ql1 _ _ _ rfl rfl ?_;apply Exists.intro;refine⟨?_, ?_⟩;assumption;go_simp;go_big_quiet_on)|(refine ql2 _ _ _ _ rfl rfl ?_;apply Exists.intro;apply Exists.intro;refine⟨?_, ?_, ?_⟩;assumption;assumption;go_simp;go_big_quiet_on)|(refine ql3 _ _ _ _ rfl rfl ?_;apply Exists.intro;apply Exists.intro;apply Exists.intro;refine⟨?_, ?_, ?_, ?_⟩;assumption;assumption;assumption;go_simp;go_big_quiet_on)|(refine ql4 _ _ _ _ rfl rfl ?_;apply Exists.intro;apply Exists.intro;apply Exists.intro;apply Exists.intro;refine⟨?_, ?_, ?_, ?_, ?_⟩;assumption;assumption;assumption;assumption;go_simp;go_big_quiet_on)|(go_big_quiet_op;first|go_big_quiet_on|(apply Exists.intro;refine⟨fun x hx=> ?_, ?_⟩;(first|(with_reducible exact aK hx (HF.out x hx))|exact aK hx (HF.out x hx));go_big_quiet_on))))
 refine wpQuiet_nil ?_
 clear hall
 intro x1 hx1
 go_wp2_with fail
 go_ret
 exact⟨rfl,hx1⟩
theorem IX(days:Int)(v:Value)(hv:v.oneCell'=true)(gf:FuncId)(cf:Array Value)(hf:v= .func (.func gf) #[] cf)(w:World):
  Calls Tryo.prog 181 #[.int .i64 days,v] w fun e w'=>e= .returned (.func (.func 230) #[] #[.pointer (some ⟨w.heap.size+1,0,none⟩),.pointer (some ⟨w.heap.size,0,none⟩)])/\w'.cell? ⟨w.heap.size+1,0,none⟩=some v/\w'.cell? ⟨w.heap.size,0,none⟩=some (.int .i64 days)/\w.heap.size+1<w'.heap.size/\Below w.heap.size w w':=by
 subst hf
 clear hv
 go_enter Tryo.func181,Tryz.ntmps181
 go_wp2_with fail
 go_ret
 exact⟨rfl,by simp [go_sem],by simp [go_sem],by simp,bel⟩
end
section
open Go.ChangeShapes Go.WideShapes Go.ChangeAt Go.RowKit Go.Lib Go.Sort Go.Shelf
namespace Sp
def Finds(w:World)(v:Value)(y R:Int):Prop:=∃gf b1 b2,v= .func (.func gf) #[] #[.pointer (some ⟨b1,0,none⟩),.pointer (some ⟨b2,0,none⟩)]/\(∀args w,(callFunc gf args).run Tryo.prog w= .ok (.enter gf args) w)/\
 ∀W:World,Below w.heap.size w W->Tab W 7 kevCells->Tab W 5 lenCells->Calls Tryo.prog gf #[.int .i64 y,.pointer (some ⟨b1,0,none⟩),.pointer (some ⟨b2,0,none⟩)] W fun e w'=>e= .returned (.int .i64 R)/\Below W.heap.size W w'
theorem Finds.below{w w':World}{v:Value}{y R:Int}(h:Finds w v y R)(hb:Below w.heap.size w w'):Finds w' v y R:=by
 obtain⟨gf,b1,b2,e,eg,hf⟩:=h
 exact⟨gf,b1,b2,e,eg,fun W hW hT hL=>hf W (bt hb hW) hT hL⟩
def up(y n d:Int):Int:=D10.aC y n false d-(D10.aC y n false d-6) % 7
def fr(y n d:Int):Int:=D10.aC y n false d+(6-D10.aC y n false d) % 7
end Sp
theorem mF(y n d:Int)(w:World)(hy:I64 y)(hD:kG (D10.aC y n false d)):Calls Tryo.prog 179 #[.int .i64 n,.int .i64 d] w fun e w'=>∃v,e= .returned v/\Sp.Finds w' v y (Sp.up y n d)/\v.oneCell'=true/\Below w.heap.size w w':=by
 refine(LP n d w).mono ?_
 rintro e w' ⟨rfl,c1,c2,hs,hb⟩
 refine⟨_,rfl,⟨_,_,_,rfl,enters_of Tryo.func225 (by kernel_rfl) rfl,fun W hW hT hL=> ?_⟩,rfl,hb⟩
 exact H9 y n d _ _ W hy hD ((hW.cell (show w.heap.size<w'.heap.size by omega)).trans c1) ((hW.cell (show w.heap.size+1<w'.heap.size by omega)).trans c2) hT hL
theorem Tv(y n d:Int)(w:World)(hy:I64 y)(hD:kG (D10.aC y n false d)):Calls Tryo.prog 180 #[.int .i64 n,.int .i64 d] w fun e w'=>∃v,e= .returned v/\Sp.Finds w' v y (Sp.fr y n d)/\v.oneCell'=true/\Below w.heap.size w w':=by
 refine(OL n d w).mono ?_
 rintro e w' ⟨rfl,c1,c2,hs,hb⟩
 refine⟨_,rfl,⟨_,_,_,rfl,enters_of Tryo.func228 (by kernel_rfl) rfl,fun W hW hT hL=> ?_⟩,rfl,hb⟩
 exact Ht y n d _ _ W hy hD ((hW.cell (show w.heap.size<w'.heap.size by omega)).trans c1) ((hW.cell (show w.heap.size+1<w'.heap.size by omega)).trans c2) hT hL
theorem BQ(y days R:Int)(v:Value)(w:World)(hr: -4000000<=R/\R<=4000000)(hd: -7<=days/\days<=7)(hv:Sp.Finds w v y R):Calls Tryo.prog 181 #[.int .i64 days,v] w fun e w'=>∃u,e= .returned u/\Sp.Finds w' u y (R+days)/\u.oneCell'=true/\Below w.heap.size w w':=by
 obtain⟨gf,b1,b2,rfl,eg,hf⟩:=hv
 refine(IX days _ rfl gf _ rfl w).mono ?_
 rintro e w' ⟨rfl,c1,c2,hs,hb⟩
 refine⟨_,rfl,⟨_,_,_,rfl,enters_of Tryo.func230 (by kernel_rfl) rfl,fun W hW hT hL=> ?_⟩,rfl,hb⟩
 refine Fx y days R gf b1 b2 _ _ W eg hr hd ((hW.cell (show w.heap.size+1<w'.heap.size by omega)).trans c1) ((hW.cell (show w.heap.size<w'.heap.size by omega)).trans c2) (Lib.hid (fun X hX=> ?_))
 exact hf X (bt hb (bt hW hX)) (Tab.below hT hX) (Tab.below hL hX)
end
section
open Go.ChangeShapes Go.WideShapes Go.ChangeAt Go.RowKit Go.Lib Go.Sort Go.Shelf
namespace Sp
def kind(j:Nat):Int:= [35,30,31,32,33,34,36,37].getD j 0
def day(y:Int)(j:Nat):Int:= [Sp.fr y 1 3,Sp.up y 6 1,Sp.up y 6 13,(Sp.up y 7 1+(-7)),Sp.up y 7 1,Sp.up y 7 14,Sp.up y 11 9,(Sp.up y 11 9+7)].getD j 0
end Sp
theorem IK(y:Int)(w:World)(hy:I64 y)(h0:kG (D10.aC y 7 false 1))(h1:kG (D10.aC y 11 false 9))(h2:kG (D10.aC y 1 false 3))(h3:kG (D10.aC y 6 false 1))(h4:kG (D10.aC y 6 false 13))(h6:kG (D10.aC y 7 false 14))(r1: -4000000<=Sp.up y 7 1/\Sp.up y 7 1<=4000000)(r2: -4000000<=Sp.up y 11 9/\Sp.up y 11 9<=4000000):
  Calls Tryo.prog 110 #[] w fun e w'=>∃ (g:Nat) (u:Nat->Value),e= .returned (.slice (some ⟨g,0,none⟩) 8 8)/\Hid (∀j,j<8->w'.cell? ⟨g,j*2,none⟩=some (.int .i64 (Sp.kind j))/\w'.cell? ⟨g,j*2+1,none⟩=some (u j)/\Sp.Finds w' (u j) y (Sp.day y j))/\g<w'.heap.size/\Below w.heap.size w w':=by
 have K0:=Lib.hid (fun w=>mF y 7 1 w hy h0)
 have K1:=Lib.hid (fun w=>mF y 11 9 w hy h1)
 have K2:=Lib.hid (fun w=>Tv y 1 3 w hy h2)
 have K3:=Lib.hid (fun w=>mF y 6 1 w hy h3)
 have K4:=Lib.hid (fun w=>mF y 6 13 w hy h4)
 have K6:=Lib.hid (fun w=>mF y 7 14 w hy h6)
 have R1:=Lib.hid r1
 have R2:=Lib.hid r2
 clear r1 r2 h0 h1 h2 h3 h4 h6
 go_enter Tryo.func110,Tryz.ntmps110
 go_wp2_with fail
 refine(K0.out _).mono ?_
 rintro e w1 ⟨v1,rfl,hF, -,hb1⟩
 have HF1_1:=Lib.hid hF
 obtain⟨g1,a1,c1,rfl, -, -⟩:=hF
 go_wp2_with fail
 refine(K1.out _).mono ?_
 rintro e w2 ⟨v2,rfl,hF, -,hb2⟩
 have HF2_2:=Lib.hid hF
 obtain⟨g2,a2,c2,rfl, -, -⟩:=hF
 have HF1_2:=Lib.hid (HF1_1.out.below hb2)
 go_wp2_with fail
 refine(K2.out _).mono ?_
 rintro e w3 ⟨v3,rfl,hF, -,hb3⟩
 have HF3_3:=Lib.hid hF
 obtain⟨g3,a3,c3,rfl, -, -⟩:=hF
 have HF1_3:=Lib.hid (HF1_2.out.below hb3)
 have HF2_3:=Lib.hid (HF2_2.out.below hb3)
 go_wp2_with fail
 refine(K3.out _).mono ?_
 rintro e w4 ⟨v4,rfl,hF, -,hb4⟩
 have HF4_4:=Lib.hid hF
 obtain⟨g4,a4,c4,rfl, -, -⟩:=hF
 have HF1_4:=Lib.hid (HF1_3.out.below hb4)
 have HF2_4:=Lib.hid (HF2_3.out.below hb4)
 have HF3_4:=Lib.hid (HF3_3.out.below hb4)
 go_wp2_with fail
 refine(K4.out _).mono ?_
 rintro e w5 ⟨v5,rfl,hF, -,hb5⟩
 have HF5_5:=Lib.hid hF
 obtain⟨g5,a5,c5,rfl, -, -⟩:=hF
 have HF1_5:=Lib.hid (HF1_4.out.below hb5)
 have HF2_5:=Lib.hid (HF2_4.out.below hb5)
 have HF3_5:=Lib.hid (HF3_4.out.below hb5)
 have HF4_5:=Lib.hid (HF4_4.out.below hb5)
 go_wp2_with fail
 refine(BQ y (-7) _ _ _ R1.out (by omega) HF1_5.out).mono ?_
 rintro e w6 ⟨v6,rfl,hF, -,hb6⟩
 have HF6_6:=Lib.hid hF
 obtain⟨g6,a6,c6,rfl, -, -⟩:=hF
 have HF1_6:=Lib.hid (HF1_5.out.below hb6)
 have HF2_6:=Lib.hid (HF2_5.out.below hb6)
 have HF3_6:=Lib.hid (HF3_5.out.below hb6)
 have HF4_6:=Lib.hid (HF4_5.out.below hb6)
 have HF5_6:=Lib.hid (HF5_5.out.below hb6)
 go_wp2_with fail
 refine(K6.out _).mono ?_
 rintro e w7 ⟨v7,rfl,hF, -,hb7⟩
 have HF7_7:=Lib.hid hF
 obtain⟨g7,a7,c7,rfl, -, -⟩:=hF
 have HF1_7:=Lib.hid (HF1_6.out.below hb7)
 have HF2_7:=Lib.hid (HF2_6.out.below hb7)
 have HF3_7:=Lib.hid (HF3_6.out.below hb7)
 have HF4_7:=Lib.hid (HF4_6.out.below hb7)
 have HF5_7:=Lib.hid (HF5_6.out.below hb7)
 have HF6_7:=Lib.hid (HF6_6.out.below hb7)
 go_wp2_with fail
 refine(BQ y 7 _ _ _ R2.out (by omega) HF2_7.out).mono ?_
 rintro e w8 ⟨v8,rfl,hF, -,hb8⟩
 have HF8_8:=Lib.hid hF
 obtain⟨g8,a8,c8,rfl, -, -⟩:=hF
 have HF1_8:=Lib.hid (HF1_7.out.below hb8)
 have HF2_8:=Lib.hid (HF2_7.out.below hb8)
 have HF3_8:=Lib.hid (HF3_7.out.below hb8)
 have HF4_8:=Lib.hid (HF4_7.out.below hb8)
 have HF5_8:=Lib.hid (HF5_7.out.below hb8)
 have HF6_8:=Lib.hid (HF6_7.out.below hb8)
 have HF7_8:=Lib.hid (HF7_7.out.below hb8)
 go_wp2_with fail
 have hB:Below w.heap.size w w8:=bel
 have hBa:=Below.refl w8.heap.size w8
 go_ret
 refine⟨w8.heap.size,fun j=> [.func (.func g3) #[] #[.pointer (some ⟨a3,0,none⟩),.pointer (some ⟨c3,0,none⟩)],.func (.func g4) #[] #[.pointer (some ⟨a4,0,none⟩),.pointer (some ⟨c4,0,none⟩)],.func (.func g5) #[] #[.pointer (some ⟨a5,0,none⟩),.pointer (some ⟨c5,0,none⟩)],.func (.func g6) #[] #[.pointer (some ⟨a6,0,none⟩),.pointer (some ⟨c6,0,none⟩)],.func (.func g1) #[] #[.pointer (some ⟨a1,0,none⟩),.pointer (some ⟨c1,0,none⟩)],.func (.func g7) #[] #[.pointer (some ⟨a7,0,none⟩),.pointer (some ⟨c7,0,none⟩)],.func (.func g2) #[] #[.pointer (some ⟨a2,0,none⟩),.pointer (some ⟨c2,0,none⟩)],.func (.func g8) #[] #[.pointer (some ⟨a8,0,none⟩),.pointer (some ⟨c8,0,none⟩)]].getD j .nilFunc,rfl,Lib.hid (fun j hj=> ?_),by simp,bel⟩
 rcases(show j=0∨j=1∨j=2∨j=3∨j=4∨j=5∨j=6∨j=7 by omega)with rfl|rfl|rfl|rfl|rfl|rfl|rfl|rfl
 ·exact⟨(World.cell?_alloc_mark w8 _ _ _ 0).trans rfl,(World.cell?_alloc_mark w8 _ _ _ 1).trans rfl,HF3_8.out.below (ba _ _)⟩
 ·exact⟨(World.cell?_alloc_mark w8 _ _ _ 2).trans rfl,(World.cell?_alloc_mark w8 _ _ _ 3).trans rfl,HF4_8.out.below (ba _ _)⟩
 ·exact⟨(World.cell?_alloc_mark w8 _ _ _ 4).trans rfl,(World.cell?_alloc_mark w8 _ _ _ 5).trans rfl,HF5_8.out.below (ba _ _)⟩
 ·exact⟨(World.cell?_alloc_mark w8 _ _ _ 6).trans rfl,(World.cell?_alloc_mark w8 _ _ _ 7).trans rfl,HF6_8.out.below (ba _ _)⟩
 ·exact⟨(World.cell?_alloc_mark w8 _ _ _ 8).trans rfl,(World.cell?_alloc_mark w8 _ _ _ 9).trans rfl,HF1_8.out.below (ba _ _)⟩
 ·exact⟨(World.cell?_alloc_mark w8 _ _ _ 10).trans rfl,(World.cell?_alloc_mark w8 _ _ _ 11).trans rfl,HF7_8.out.below (ba _ _)⟩
 ·exact⟨(World.cell?_alloc_mark w8 _ _ _ 12).trans rfl,(World.cell?_alloc_mark w8 _ _ _ 13).trans rfl,HF2_8.out.below (ba _ _)⟩
 ·exact⟨(World.cell?_alloc_mark w8 _ _ _ 14).trans rfl,(World.cell?_alloc_mark w8 _ _ _ 15).trans rfl,HF8_8.out.below (ba _ _)⟩
end
end Go.Proofs.YthnjjcoahdhmnaaGreatDoor
