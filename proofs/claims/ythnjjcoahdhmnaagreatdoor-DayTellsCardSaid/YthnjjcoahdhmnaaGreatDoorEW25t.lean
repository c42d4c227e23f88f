import Derived.Test.YthnjjcoahdhmnaaGreatDoorEDX
import Derived.Test.YthnjjcoahdhmnaaGreatDoorEG2
set_option maxHeartbeats 8000000
set_option maxRecDepth 100000
set_option linter.unusedSimpArgs false
set_option linter.unusedVariables false
namespace Go.Proofs.YthnjjcoahdhmnaaGreatDoor
open Go.ChangeShapes Go.WideShapes Go.ChangeAt Go.RowKit Go.Lib Go.Sort Go.Shelf
theorem Dy.aay{W:World}{o:Oper}{a:Act}{K:Act->Prop}{b:Nat}{c:List Value}(hA:jJ W b c)(t:TypeId)(y:Operand)(ho:o.op= .load t y)(hp:a.eval y= .pointer (some ⟨b,0,none⟩))(hag:∀w:World,(isAgg t).run Tryo.prog w= .ok true w)(hs:∀w:World,(sizeOf t).run Tryo.prog w= .ok c.length w)(hk:K (a.put o.dst (.agg c.toArray))):o.quiet Tryo.prog a (Below W.heap.size W) K:=
 qd t y b 0 c ho hp hag hs (fun j u hu=>by simpa using hA.1 j u hu) hA.2.2 hk
theorem RI(n m y pl er er2 er3:Int)(a1:Int)(a2:Int)(a3:Int)(a5:Int)(a6:Int)(a7:Int)(a8:Int)(a9:Int)(a10:Int)(a11:Int)(a12:Int)(a13:Int)(a4:Bool)(c1:Int)(c2:Int)(c3:Int)(c5:Int)(c6:Int)(c7:Int)(c8:Int)(c9:Int)(c10:Int)(c11:Int)(c12:Int)(c13:Int)(c4:Bool)(X:Bool)(LA LC:List Int)(LE:List (Int×Int))(w:World)(hle:LE.length<=100000)(hT:Tab w 7 kevCells)(hL:Tab w 5 lenCells)(hF:Tab w 0 Fe.cells)(hA:Tab w 1 Fa.cells)(hG:Tab w 4 Gr.gregCells)
  (HA:Hid (∀w:World,Tab w 7 kevCells->Tab w 5 lenCells->Tab w 0 Fe.cells->Tab w 1 Fa.cells->Tab w 4 Gr.gregCells->Calls Tryo.prog 7 #[.int .i64 n,.int .i64 pl] w fun e w'=>∃v,e= .returned (.tuple #[.agg #[.int .i64 a1,.int .i64 a2,.int .i64 a3,.bool a4,.int .i64 a5,.int .i64 a6,.int .i64 a7,.int .i64 a8,.int .i64 a9,.int .i64 a10,v,.int .i64 a11,.int .i64 a12,.int .i64 a13],.int .i64 er])/\Il.Row w' v LA/\Below w.heap.size w w'))
  (HB:Hid (∀w:World,Calls Tryo.prog 8 #[.int .i64 n,.int .i64 pl] w fun e w'=>∃v,e= .returned (.tuple #[.agg #[.int .i64 a1,.int .i64 a2,.int .i64 a3,.bool a4,.int .i64 a5,.int .i64 a6,.int .i64 a7,.int .i64 a8,.int .i64 a9,.int .i64 a10,v,.int .i64 a11,.int .i64 a12,.int .i64 a13],.int .i64 er])/\Il.Row w' v LA/\Below w.heap.size w w'))
  (HC:Hid (∀w:World,Calls Tryo.prog 8 #[.int .i64 m,.int .i64 pl] w fun e w'=>∃v,e= .returned (.tuple #[.agg #[.int .i64 c1,.int .i64 c2,.int .i64 c3,.bool c4,.int .i64 c5,.int .i64 c6,.int .i64 c7,.int .i64 c8,.int .i64 c9,.int .i64 c10,v,.int .i64 c11,.int .i64 c12,.int .i64 c13],.int .i64 er2])/\Il.Row w' v LC/\Below w.heap.size w w'))
  (HE:Hid (∀w:World,Tab w 7 kevCells->Tab w 5 lenCells->Tab w 0 Fe.cells->Tab w 1 Fa.cells->Calls Tryo.prog 9 #[.int .i64 y,.int .i64 pl] w fun e w'=>∃v,e= .returned (.tuple #[v,.int .i64 er3])/\Ev.Row w' v LE/\Below w.heap.size w w'))
  (HR:Hid (∀w:World,Calls Tryo.prog 10 #[.int .i64 y,.int .i64 pl] w fun e w'=>∃v,e= .returned (.tuple #[v,.int .i64 er3])/\Ev.Row w' v LE/\Below w.heap.size w w'))
  (HS:Hid (∀ (v u:Value) (w:World),Il.Row w v LA->Il.Row w u LA->Calls Tryo.prog 12 #[.agg #[.int .i64 a1,.int .i64 a2,.int .i64 a3,.bool a4,.int .i64 a5,.int .i64 a6,.int .i64 a7,.int .i64 a8,.int .i64 a9,.int .i64 a10,v,.int .i64 a11,.int .i64 a12,.int .i64 a13],.agg #[.int .i64 a1,.int .i64 a2,.int .i64 a3,.bool a4,.int .i64 a5,.int .i64 a6,.int .i64 a7,.int .i64 a8,.int .i64 a9,.int .i64 a10,u,.int .i64 a11,.int .i64 a12,.int .i64 a13]] w fun e w'=>e= .returned (.bool true)/\Below w.heap.size w w'))
  (HX:Hid (∀ (v u:Value) (w:World),Il.Row w v LA->Il.Row w u LC->Calls Tryo.prog 14 #[.agg #[.int .i64 a1,.int .i64 a2,.int .i64 a3,.bool a4,.int .i64 a5,.int .i64 a6,.int .i64 a7,.int .i64 a8,.int .i64 a9,.int .i64 a10,v,.int .i64 a11,.int .i64 a12,.int .i64 a13],.agg #[.int .i64 c1,.int .i64 c2,.int .i64 c3,.bool c4,.int .i64 c5,.int .i64 c6,.int .i64 c7,.int .i64 c8,.int .i64 c9,.int .i64 c10,u,.int .i64 c11,.int .i64 c12,.int .i64 c13]] w fun e w'=>e= .returned (.bool X)/\Below w.heap.size w w'))
  (HY:Hid (∀ (v u:Value) (w:World),Il.Row w v LA->Il.Row w u LC->Calls Tryo.prog 12 #[.agg #[.int .i64 a1,.int .i64 a2,.int .i64 a3,.bool a4,.int .i64 a5,.int .i64 a6,.int .i64 a7,.int .i64 a8,.int .i64 a9,.int .i64 a10,v,.int .i64 a11,.int .i64 a12,.int .i64 a13],.agg #[.int .i64 c1,.int .i64 c2,.int .i64 c3,.bool c4,.int .i64 c5,.int .i64 c6,.int .i64 c7,.int .i64 c8,.int .i64 c9,.int .i64 c10,u,.int .i64 c11,.int .i64 c12,.int .i64 c13]] w fun e w'=>e= .returned (.bool X)/\Below w.heap.size w w')):
  Calls Tryo.prog 3 #[.agg #[.int .i64 n,.int .i64 m,.int .i64 y,.int .i64 pl]] w fun e w'=>e= .returned (.bool true)/\Below w.heap.size w w':=by
 have HW:=Lib.hid (fun w hT hL hF hA hG=>X4 w hT hL hF hA hG)
 have HV:Hid (∀ (va vb:Value) (w:World),Ev.Row w va LE->Ev.Row w vb LE->Calls Tryo.prog 13 #[va,vb] w fun e w'=>e= .returned (.bool true)/\Below w.heap.size w w'):=Lib.hid fun va vb w ha hb=>(SH va vb LE LE w ha hb hle).mono (by rintro e w' ⟨rfl,hb⟩;exact⟨by simp,hb⟩)
 clear hle
 go_enter Tryo.func3,Tryz.ntmps3
 go_wp2_with fail
 refine settle (fun W=>W.cell? ⟨w.heap.size,0,none⟩=some (.int .i64 n)/\W.cell? ⟨w.heap.size,1,none⟩=some (.int .i64 m)/\W.cell? ⟨w.heap.size,2,none⟩=some (.int .i64 y)/\W.cell? ⟨w.heap.size,3,none⟩=some (.int .i64 pl)/\w.heap.size<W.heap.size/\Below w.heap.size w W) ⟨?_, ?_, ?_, ?_, ?_, ?_⟩ ?_
 ·(first|(with_reducible assumption)|(simp [go_sem, *];done)|assumption)
 ·(first|(with_reducible assumption)|(simp [go_sem, *];done)|assumption)
 ·(first|(with_reducible assumption)|(simp [go_sem, *];done)|assumption)
 ·(first|(with_reducible assumption)|(simp [go_sem, *];done)|assumption)
 ·(first|assumption|(simp;done)|(simp;omega)|omega)
 ·(repeat(first|exact Below.refl _ _|assumption|(with_reducible refine bU ?_)|(with_reducible refine baa ?_ _)|(with_reducible refine bs ?_ (by first|exact Nat.le_refl _|omega|(simp;done)|(simp;omega)) _)|(with_reducible refine bt ?_ (by assumption))))
 rintro W0 ⟨r0x0,r0x1,r0x2,r0x3,rs0x0,hB0⟩
 refine aJ (by kernel_rfl) (by kernel_rfl) (fun hall=> ?_)
 repeat(first|go_big_quiet_skip|(go_big_quiet_want;first|(refine ql1 _ _ _ rfl rfl ?_;apply Exists.intro;refine⟨?_, ?_⟩;assumption;go_simp;go_big_quiet_on)|(refine ql2 _ _ _ _ rfl rfl ?_;apply Exists.intro;apply Exists.intro;refine⟨?_, ?_, ?_⟩;assumption;assumption;go_simp;go_big_quiet_on)|(refine ql3 _ _ _ _ rfl rfl ?_;apply Exists.intro;apply Exists.intro;apply Exists.intro;refine⟨?_, ?_, ?_, ?_⟩;assumption;assumption;assumption;go_simp;go_big_quiet_on)|(refine ql4 _ _ _ _ rfl rfl ?_;apply Exists.intro;apply Exists.intro;apply Exists.intro;apply Exists.intro;refine⟨?_, ?_, ?_, ?_, ?_⟩;assumption;assumption;assumption;assumption;go_simp;go_big_quiet_on)|(go_big_quiet_op;first|go_big_quiet_on|(apply Exists.intro;refine⟨fun x hx=> ?_, ?_⟩;(first|fail);go_big_quiet_on))))
 refine wpQuiet_nil ?_
 clear hall
 intro x0 hx0
 go_wp2_with fail
 refine(HA.out _ (Tab.below hT bel) (Tab.below hL bel) (Tab.below hF bel) (Tab.below hA bel) (Tab.below hG bel)).mono ?_
 rintro e w1 ⟨v1,rfl,ho1,hb1⟩
 have hB1:Below w.heap.size w w1:=bel
 obtain⟨p1,k1,rfl⟩:=ho1.len
 clear hb1
 go_wp2_with fail
 refine(HB.out _).mono ?_
 rintro e w2 ⟨v2,rfl,ho2,hb2⟩
 have hB12:Below w1.heap.size w1 w2:=bel
 have hB2:Below w.heap.size w w2:=bt hB1 hB12
 obtain⟨p2,k2,rfl⟩:=ho2.len
 have R1:=ho1.below hB12
 have M1:=Lib.hid ((bN w1 _ 34).below hb2)
 clear hb2 ho1
 go_wp2_with fail
 refine(HC.out _).mono ?_
 rintro e w3 ⟨v3,rfl,ho3,hb3⟩
 have hB23:Below w2.heap.size w2 w3:=bel
 have hB3:Below w.heap.size w w3:=bt hB2 hB23
 obtain⟨p3,k3,rfl⟩:=ho3.len
 have R1b:=R1.below hB23
 have R2:=ho2.below hB23
 have M2:=Lib.hid ((bN w2 _ 34).below hb3)
 clear hb3 R1 ho2
 go_wp2_with fail
 refine(HE.out _ (Tab.below hT bel) (Tab.below hL bel) (Tab.below hF bel) (Tab.below hA bel)).mono ?_
 rintro e w4 ⟨v4,rfl,ho4,hb4⟩
 have hB34:Below w3.heap.size w3 w4:=bel
 have hB4:Below w.heap.size w w4:=bt hB3 hB34
 obtain⟨p4,k4,rfl⟩:=ho4.len
 have M3:=Lib.hid ((bN w3 _ 34).below hb4)
 clear hb4
 go_wp2_with fail
 refine(HR.out _).mono ?_
 rintro e w5 ⟨v5,rfl,ho5,hb5⟩
 have hB45:Below w4.heap.size w4 w5:=bel
 have hB5:Below w.heap.size w w5:=bt hB4 hB45
 obtain⟨p5,k5,rfl⟩:=ho5.len
 have hB35:Below w3.heap.size w3 w5:=bt hB34 hB45
 have Q1:=Lib.hid (R1b.below hB35)
 have Q2:=Lib.hid (R2.below hB35)
 have Q3:=Lib.hid (ho3.below hB35)
 have Q4:=Lib.hid (ho4.below hB45)
 have Q5:=Lib.hid ho5
 clear hb5 R1b R2 ho3 ho4 ho5
 have M1b:=Lib.hid (M1.out.below (bt hB23 hB35))
 have M2b:=Lib.hid (M2.out.below hB35)
 have M3b:=Lib.hid (M3.out.below hB45)
 clear M1 M2 M3
 go_wp2_with fail
 go_upto_region 7 with fail
 cases X
 all_goals(
  refine aJ (by kernel_rfl) (by kernel_rfl) (fun hall=> ?_)
  repeat(first|go_big_quiet_skip|(go_big_quiet_want;first|(refine ql1 _ _ _ rfl rfl ?_;apply Exists.intro;refine⟨?_, ?_⟩;assumption;go_simp;go_big_quiet_on)|(refine ql2 _ _ _ _ rfl rfl ?_;apply Exists.intro;apply Exists.intro;refine⟨?_, ?_, ?_⟩;assumption;assumption;go_simp;go_big_quiet_on)|(refine ql3 _ _ _ _ rfl rfl ?_;apply Exists.intro;apply Exists.intro;apply Exists.intro;refine⟨?_, ?_, ?_, ?_⟩;assumption;assumption;assumption;go_simp;go_big_quiet_on)|(refine ql4 _ _ _ _ rfl rfl ?_;apply Exists.intro;apply Exists.intro;apply Exists.intro;apply Exists.intro;refine⟨?_, ?_, ?_, ?_, ?_⟩;assumption;assumption;assumption;assumption;go_simp;go_big_quiet_on)|(refine Dy.aay M1b.out _ _ rfl rfl ?_ ?_ ?_;(focus (intro _;simp;done));(focus (intro _;simp;done));go_simp;go_big_quiet_on)|(refine Dy.aay M2b.out _ _ rfl rfl ?_ ?_ ?_;(focus (intro _;simp;done));(focus (intro _;simp;done));go_simp;go_big_quiet_on)|(refine Dy.aay M3b.out _ _ rfl rfl ?_ ?_ ?_;(focus (intro _;simp;done));(focus (intro _;simp;done));go_simp;go_big_quiet_on)|(go_big_quiet_op;first|go_big_quiet_on|(apply Exists.intro;refine⟨fun x hx=> ?_, ?_⟩;(first|(with_reducible exact aK hx (HW.out x (Tab.below hT (bt hB5 hx)) (Tab.below hL (bt hB5 hx)) (Tab.below hF (bt hB5 hx)) (Tab.below hA (bt hB5 hx)) (Tab.below hG (bt hB5 hx))))|(with_reducible exact aK hx (HS.out _ _ x (Q1.out.below hx) (Q2.out.below hx)))|(with_reducible exact aK hx (HV.out _ _ x (Q4.out.below hx) (Q5.out.below hx)))|(with_reducible exact aK hx (HX.out _ _ x (Q2.out.below hx) (Q3.out.below hx)))|(with_reducible exact aK hx (HY.out _ _ x (Q2.out.below hx) (Q3.out.below hx)))|exact aK hx (HW.out x (Tab.below hT (bt hB5 hx)) (Tab.below hL (bt hB5 hx)) (Tab.below hF (bt hB5 hx)) (Tab.below hA (bt hB5 hx)) (Tab.below hG (bt hB5 hx)))|exact aK hx (HS.out _ _ x (Q1.out.below hx) (Q2.out.below hx))|exact aK hx (HV.out _ _ x (Q4.out.below hx) (Q5.out.below hx))|exact aK hx (HX.out _ _ x (Q2.out.below hx) (Q3.out.below hx))|exact aK hx (HY.out _ _ x (Q2.out.below hx) (Q3.out.below hx)));go_big_quiet_on))))
  refine wpQuiet_nil ?_
  clear hall
  intro x7 hx7
  go_wp2_with fail
  go_ret
  exact⟨rfl,bel⟩)
theorem Ev.XO(w:World):Ev.Row w (.slice none 0 0) []:= .inl ⟨rfl,rfl⟩
theorem Dy.Ye(y pl:Int)(hy:I64 y):∃ (er3:Int) (LE:List (Int×Int)),LE.length<=100000/\Hid (∀w:World,Tab w 7 kevCells->Tab w 5 lenCells->Tab w 0 Fe.cells->Tab w 1 Fa.cells->Calls Tryo.prog 9 #[.int .i64 y,.int .i64 pl] w fun e w'=>∃v,e= .returned (.tuple #[v,.int .i64 er3])/\Ev.Row w' v LE/\Below w.heap.size w w')/\Hid (∀w:World,Calls Tryo.prog 10 #[.int .i64 y,.int .i64 pl] w fun e w'=>∃v,e= .returned (.tuple #[v,.int .i64 er3])/\Ev.Row w' v LE/\Below w.heap.size w w'):=by
 by_cases h:(1<=y/\y<=9999)/\(pl=0∨pl=1)
 ·obtain⟨p,rfl⟩:∃p:Bool,pl=if p then 1 else 0:=by
   rcases h.2 with rfl|rfl
   ·exact⟨false,rfl⟩
   ·exact⟨true,rfl⟩
  obtain⟨i,hi⟩:=Yr.kT y h.1.1 h.1.2
  refine⟨0,Dy.evs i p (Cal.first y),by have:=Dy.sU hi.2.2.1 p (Cal.first y);omega,Lib.hid fun w hT hL hF hA=>(lK y i p w hi hT hL hF hA).mono ?_,Lib.hid fun w=>(yA y i p w hi).mono ?_⟩
  ·rintro e w' ⟨v,rfl,ho,hb⟩
   exact⟨v,rfl,ho.row,hb⟩
  ·rintro e w' ⟨v,rfl,ho,hb⟩
   exact⟨v,rfl,ho.row,hb⟩
 ·obtain⟨er,her,h1,h2⟩:=Dy.ev_no y pl hy h
  refine⟨er,[],by simp,Lib.hid fun w _ _ _ _=>(IW y pl er w her h1).mono ?_,Lib.hid fun w=>(DR y pl er w her h2).mono ?_⟩
  ·rintro e w' ⟨rfl,hb⟩
   exact⟨_,rfl,Ev.XO _,hb⟩
  ·rintro e w' ⟨rfl,hb⟩
   exact⟨_,rfl,Ev.XO _,hb⟩
theorem Dy.UA(n pl:Int)(hn:I64 n):∃ (er:Int) (a1:Int) (a2:Int) (a3:Int) (a5:Int) (a6:Int) (a7:Int) (a8:Int) (a9:Int) (a10:Int) (a11:Int) (a12:Int) (a13:Int) (a4:Bool) (LA:List Int),LA.length<=1000/\Hid (∀w:World,Tab w 7 kevCells->Tab w 5 lenCells->Tab w 0 Fe.cells->Tab w 1 Fa.cells->Tab w 4 Gr.gregCells->Calls Tryo.prog 7 #[.int .i64 n,.int .i64 pl] w fun e w'=>∃v,e= .returned (.tuple #[.agg #[.int .i64 a1,.int .i64 a2,.int .i64 a3,.bool a4,.int .i64 a5,.int .i64 a6,.int .i64 a7,.int .i64 a8,.int .i64 a9,.int .i64 a10,v,.int .i64 a11,.int .i64 a12,.int .i64 a13],.int .i64 er])/\Il.Row w' v LA/\Below w.heap.size w w')/\Hid (∀w:World,Calls Tryo.prog 8 #[.int .i64 n,.int .i64 pl] w fun e w'=>∃v,e= .returned (.tuple #[.agg #[.int .i64 a1,.int .i64 a2,.int .i64 a3,.bool a4,.int .i64 a5,.int .i64 a6,.int .i64 a7,.int .i64 a8,.int .i64 a9,.int .i64 a10,v,.int .i64 a11,.int .i64 a12,.int .i64 a13],.int .i64 er])/\Il.Row w' v LA/\Below w.heap.size w w'):=by
 have nilI:∀w:World,Il.Row w (.slice none 0 0) []:=fun w=> .inl ⟨rfl,rfl⟩
 by_cases hp:pl=0∨pl=1
 ·obtain⟨p,rfl⟩:∃p:Bool,pl=if p then 1 else 0:=by
   rcases hp with rfl|rfl
   ·exact⟨false,rfl⟩
   ·exact⟨true,rfl⟩
  by_cases ho:n< -1373427∨2278650<n
  ·refine⟨2,0,0,0,0,0,0,0,0,0,0,0,0,false,[],by simp, ?_,Lib.hid fun w=>(MC n _ w ho (Lib.hid fun w=>mW p w)).mono ?_⟩
   ·cases p
    ·exact Lib.hid fun w _ _ _ _ _=>(Qt n w ho).mono (by rintro e w' ⟨rfl,hb⟩;exact⟨_,rfl,nilI _,hb⟩)
    ·exact Lib.hid fun w _ _ _ _ _=>(Pb n w ho).mono (by rintro e w' ⟨rfl,hb⟩;exact⟨_,rfl,nilI _,hb⟩)
   ·rintro e w' ⟨rfl,hb⟩
    exact⟨_,rfl,nilI _,hb⟩
  ·obtain⟨yd,mm,d,hv,rfl⟩:=D10.nX n (by omega) (by omega)
   obtain⟨i,h⟩:=Yr.kT yd hv.1 hv.2.1
   have hbd:=D10.mG hv
   obtain⟨r1,r2,r3,er,HR,HQ⟩:=YZ (D10.aS yd mm d) p hn
   have hlen:=Dy.sU h.2.2.1 p (Cal.first yd)
   have hon:=Ev.Tq (D10.aS yd mm d) (Dy.evs i p (Cal.first yd))
   refine⟨0,D10.aS yd mm d,yd,Cal.ofN (Cal.leap yd) mm,d,Gr.gY (D10.aS yd mm d),(Gr.gF (D10.aS yd mm d)).1,(Gr.gF (D10.aS yd mm d)).2.1,D10.aS yd mm d % 7,Om.val (D10.aS yd mm d-Om.om yd),r1,r2,r3,Cal.ofL (Cal.leap yd) mm,Ev.on (D10.aS yd mm d) (Dy.evs i p (Cal.first yd)),by omega, ?_, ?_⟩
   ·cases p
    ·exact Lib.hid fun w hT hL hF hA hG=>FD (D10.aS yd mm d) yd _ d _ _ _ _ _ r1 r2 r3 er _ _ w rfl (by omega) hn hT hL hF hA hG (Lib.hid fun w hT hL=>dz yd mm d w hT hL hv) (Lib.hid fun w hT hL hF hA=>lK yd i false w h hT hL hF hA) (Lib.hid fun w hG=>iW (D10.aS yd mm d) w hG hbd.1 hbd.2) (Lib.hid fun w hT hL=>iY yd mm d w hv hT hL) HR
    ·exact Lib.hid fun w hT hL hF hA hG=>F4 (D10.aS yd mm d) yd _ d _ _ _ _ _ r1 r2 r3 er _ _ w rfl (by omega) hn hT hL hF hA hG (Lib.hid fun w hT hL=>dz yd mm d w hT hL hv) (Lib.hid fun w hT hL hF hA=>lK yd i true w h hT hL hF hA) (Lib.hid fun w hG=>iW (D10.aS yd mm d) w hG hbd.1 hbd.2) (Lib.hid fun w hT hL=>iY yd mm d w hv hT hL) HR
   ·exact Lib.hid fun w=>Qn (D10.aS yd mm d) _ yd _ d _ _ _ _ _ r1 r2 r3 er _ _ w rfl (by omega) (Lib.hid fun w=>mW p w) (Lib.hid fun w=>jQ yd mm d w hv) (Lib.hid fun w=>yA yd i p w h) (Lib.hid fun w=>BA (D10.aS yd mm d) w hbd.1 hbd.2) (Lib.hid fun w=>Jv yd mm d w hv) HQ
 ·have h0:pl≠0:=fun h=>hp (.inl h)
  have h1:pl≠1:=fun h=>hp (.inr h)
  refine⟨1,0,0,0,0,0,0,0,0,0,0,0,0,false,[],by simp,Lib.hid fun w _ _ _ _ _=>(GN n pl w h0 h1).mono ?_,Lib.hid fun w=>(KV n pl w (Lib.hid fun w=>qE pl w (by simpa using h0) (by simpa using h1))).mono ?_⟩
  ·rintro e w' ⟨rfl,hb⟩
   exact⟨_,rfl,nilI _,hb⟩
  ·rintro e w' ⟨rfl,hb⟩
   exact⟨_,rfl,nilI _,hb⟩
theorem DayTells_walk(n m y pl:Int)(hn:I64 n)(hm:I64 m)(hy:I64 y)(hpl:I64 pl)(w:World)(hT:Tab w 7 kevCells)(hL:Tab w 5 lenCells)(hG:Tab w 4 Gr.gregCells)(hF:Tab w 0 Fe.cells)(hA:Tab w 1 Fa.cells):
  Calls Tryo.prog 3 #[.agg #[.int .i64 n,.int .i64 m,.int .i64 y,.int .i64 pl]] w fun e w'=>e= .returned (.bool true)/\Below w.heap.size w w':=by
 obtain⟨er,a1,a2,a3,a5,a6,a7,a8,a9,a10,a11,a12,a13,a4,LA,ha,HA,HB⟩:=Dy.UA n pl hn
 obtain⟨er2,c1,c2,c3,c5,c6,c7,c8,c9,c10,c11,c12,c13,c4,LC,hc,_,HC⟩:=Dy.UA m pl hm
 obtain⟨er3,LE,he,HE,HR⟩:=Dy.Ye y pl hy
 exact RI n m y pl er er2 er3 a1 a2 a3 a5 a6 a7 a8 a9 a10 a11 a12 a13 a4 c1 c2 c3 c5 c6 c7 c8 c9 c10 c11 c12 c13 c4 _ LA LC LE w he hT hL hF hA hG HA HB HC HE HR (Lib.hid fun v u w h1 h2=>(FL a1 a2 a3 a5 a6 a7 a8 a9 a10 a11 a12 a13 a4 a1 a2 a3 a5 a6 a7 a8 a9 a10 a11 a12 a13 a4 LA LA v u w ha h1 h2).mono (by rintro e w' ⟨rfl,hb⟩;exact⟨by rw [Dy.Xu],hb⟩)) (Lib.hid fun v u w h1 h2=>WU a1 a2 a3 a5 a6 a7 a8 a9 a10 a11 a12 a13 a4 c1 c2 c3 c5 c6 c7 c8 c9 c10 c11 c12 c13 c4 LA LC v u w ha h1 h2) (Lib.hid fun v u w h1 h2=>FL a1 a2 a3 a5 a6 a7 a8 a9 a10 a11 a12 a13 a4 c1 c2 c3 c5 c6 c7 c8 c9 c10 c11 c12 c13 c4 LA LC v u w ha h1 h2)
end Go.Proofs.YthnjjcoahdhmnaaGreatDoor
