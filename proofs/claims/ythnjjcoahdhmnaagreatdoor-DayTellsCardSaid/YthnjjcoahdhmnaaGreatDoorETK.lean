import Derived.Test.YthnjjcoahdhmnaaGreatDoorETU
import Derived.Test.YthnjjcoahdhmnaaGreatDoorETV
import Derived.Test.YthnjjcoahdhmnaaGreatDoorERC
import Derived.Test.YthnjjcoahdhmnaaGreatDoorETJ
set_option maxHeartbeats 8000000
set_option maxRecDepth 100000
set_option linter.unusedSimpArgs false
set_option linter.unusedVariables false
namespace Go.Proofs.YthnjjcoahdhmnaaGreatDoor
section
open Go.ChangeShapes Go.WideShapes Go.ChangeAt Go.RowKit Go.Lib Go.Sort Go.Shelf
namespace Rd
theorem Zp(c:Int)(F T:List Int)(n:Int)(S:List Rd)(d:Int):rst (F.map fun d=>c+d) T (n,S.map (sh c)) (c+d)=((rst F T (n,S) d).1,(rst F T (n,S) d).2.map (sh c)):=by
 have e:(c+d∈F.map fun d=>c+d)↔d∈F:=by
  rw [List.mem_map]
  constructor
  ·rintro⟨x,hx,h⟩
   rwa [show d=x by omega]
  ·intro h
   exact⟨d,h,rfl⟩
 unfold rst
 by_cases h:d∈F
 ·rw [if_pos h,if_pos (e.2 h)]
  simp [sh]
 ·rw [if_neg h,if_neg (fun x=>h (e.1 x))]
  simp [sh]
theorem PU(c:Int)(F T:List Int):∀ (ds:List Int) (n:Int) (S:List Rd),(ds.map fun d=>c+d).foldl (rst (F.map fun d=>c+d) T) (n,S.map (sh c))=((ds.foldl (rst F T) (n,S)).1,(ds.foldl (rst F T) (n,S)).2.map (sh c))
 | [],n,S=>rfl
 |d :: r,n,S=>by
  rw [List.map_cons,List.foldl_cons,List.foldl_cons,Zp]
  exact PU c F T r _ _
theorem YH(c:Int)(F T ds:List Int):(Jm (F.map fun d=>c+d) T (ds.map fun d=>c+d)).2=(Jm F T ds).2.map (sh c):=by
 have k:=PU c F T ds 1 []
 unfold Jm
 rw [List.map_nil]at k
 rw [k]
def WZ(i:Nat)(p:Bool):List Int:=two (dF i) (cn (kF i) (Sb.iN i p) 1) (cn (kF i) (Sb.iN i p) 2) (cn (kF i) (Sb.iN i p) 3) (cn (kF i) (Sb.iN i p) 5)
theorem aat:((List.range 14).all fun i=> [false,true].all fun p=>decide ((Jm (Sb.iN i p) (WZ i p) (Sb.uK i p)).2=CU i p/\(WZ i p).length<=100))=true:=by decide+kernel
theorem rc_at(i:Nat)(hi:i<14)(p:Bool):(Jm (Sb.iN i p) (WZ i p) (Sb.uK i p)).2=CU i p/\(WZ i p).length<=100:=by
 have h:=List.all_eq_true.1 aat i (List.mem_range.2 hi)
 exact of_decide_eq_true (List.all_eq_true.1 h p (by cases p <;> simp))
end Rd
end
section
open Go.ChangeShapes Go.WideShapes Go.ChangeAt Go.RowKit Go.Lib Go.Sort Go.Shelf
namespace Rd
theorem TV(part:Int->Nat)(F:List Int)(q:Nat)(n:Nat)(h:F.length<=n):0<=cn part F q/\cn part F q<=(n:Int):=by
 have:=List.length_filter_le (fun d=>decide (part d+1=q)) F
 unfold cn
 omega
end Rd
theorem RA(y:Int)(i i2:Nat)(p:Bool)(w:World)(h:Yr.Is y i)(h2:Yr.Is (y+1) i2):
  Calls Tryo.prog 101 #[.int .i64 y,.int .i64 (if p then 1 else 0)] w fun e w'=>∃v,e= .returned (.tuple #[v,.int .i64 0])/\Rd.Own w' w.heap.size v ((Rd.CU i p).map (Rd.sh (Cal.first y-bn i)))/\Below w.heap.size w w':=by
 have a1:=h.1
 have a2:=h2.2.1
 have hi:=h.2.2.1
 have hf:=Sb.Rs p h h2
 have hs:=Rd.GI p h h2
 have hcn:=Sb.nD hi p
 have hl0:(Sb.iN i p).length<=100:=by split at hcn <;> omega
 have hl:(Sb.free y i i2 p).length<=100:=by rw [hf,List.length_map];exact hl0
 obtain⟨n1,n2,n3,n4⟩:=Sb.mQ p h
 obtain⟨r1,r2⟩:=Rd.rc_at i hi p
 have hcs:∀q,Rd.cn (Rd.kR y) (Sb.free y i i2 p) q=Rd.cn (Rd.kF i) (Sb.iN i p) q:=fun q=>by rw [hf];exact Rd.cn_sh _ _ _ (Rd.OZ h h2) _ _
 have b1:=Rd.TV (Rd.kF i) (Sb.iN i p) 1 100 hl0
 have b2:=Rd.TV (Rd.kF i) (Sb.iN i p) 2 100 hl0
 have b3:=Rd.TV (Rd.kF i) (Sb.iN i p) 3 100 hl0
 have k:=FM y (if p then 1 else 0) (Sb.qJ y p) (Sb.free y i i2 p) (Rd.WZ i p) _ (Sb.uo y p) _ _ w (Sb.y9 _ _) rfl rfl (by omega) hl r2
  (Lib.hid fun w=>JN y i i2 p w h h2) (Lib.hid fun w=>TA y i i2 p w h h2)
  (Lib.hid fun v w hr=>Lc y (Sb.free y i i2 p) (Rd.kR y) v _ w rfl hl hr
   (Lib.hid fun d=>by have:=Rd.Er d (D10.aC y 7 false 15) (D10.aC y 9 false 5) (D10.aC y 11 false 9) (D10.aC (y+1) 1 false 1);unfold Rd.kR;omega)
   (Lib.hid fun d w=>TU y i i2 d w h h2))
  (Lib.hid fun w=>by
   rw [hcs 0,hcs 1,hcs 2,hcs 3,hcs 4,hcs 5]
   exact FC y _ _ _ _ _ _ (dF i) _ _ _ w b1 b2 b3 rfl rfl rfl (Lib.hid fun w=>by have:=oG y w (by omega) (by omega);rwa [h.2.2.2.2.2]at this))
 rw [hs,hf,Rd.YH,r1]at k
 exact k
end
section
open Go.ChangeShapes Go.WideShapes Go.ChangeAt Go.RowKit Go.Lib Go.Sort Go.Shelf
namespace Rd
end Rd
end
section
open Go.ChangeShapes Go.WideShapes Go.ChangeAt Go.RowKit Go.Lib Go.Sort Go.Shelf
theorem zA(D pl yd n d er:Int)(lf:Bool)(w:World)(her:er≠0)(hT:Tab w 7 kevCells)(hL:Tab w 5 lenCells)(hF:Tab w 0 Fe.cells)(HP:Hid (∀w:World,Calls Tryo.prog 154 #[.int .i64 pl] w fun e w'=>e= .returned (.bool true)/\w=w'))(HF:Hid (∀w:World,Tab w 7 kevCells->Tab w 5 lenCells->Calls Tryo.prog 23 #[.int .i64 D] w fun e w'=>e= .returned (.tuple #[.agg #[.int .i64 yd,.int .i64 n,.bool lf,.int .i64 d],.int .i64 er])/\Below w.heap.size w w')):
  Calls Tryo.prog 87 #[.int .i64 D,.int .i64 pl] w fun e w'=>e= .returned (.tuple #[.int .i64 0,.int .i64 er])/\Below w.heap.size w w':=by
 have d0:decide (er=0)=false:=decide_eq_false her
 go_enter Tryo.func87,Tryz.ntmps87
 go_wp2_with fail
 refine(HP.out _).mono ?_
 rintro e w' ⟨rfl,rfl⟩
 go_wp2_with fail
 refine(HF.out _ (Tab.below hT bel) (Tab.below hL bel)).mono ?_
 rintro e w1 ⟨rfl,hb1⟩
 go_wp2_with fail
 go_ret2
 refine⟨rfl, ?_⟩
 exact bel
theorem pV(D pl yd n d S c:Int)(lf:Bool)(w:World)(y1:1<=yd)(y2:yd<=9999)(hc:c=yd-1)(hs:D<=S)(hT:Tab w 7 kevCells)(hL:Tab w 5 lenCells)(hF:Tab w 0 Fe.cells)(HP:Hid (∀w:World,Calls Tryo.prog 154 #[.int .i64 pl] w fun e w'=>e= .returned (.bool true)/\w=w'))(HF:Hid (∀w:World,Tab w 7 kevCells->Tab w 5 lenCells->Calls Tryo.prog 23 #[.int .i64 D] w fun e w'=>e= .returned (.tuple #[.agg #[.int .i64 yd,.int .i64 n,.bool lf,.int .i64 d],.int .i64 0])/\Below w.heap.size w w'))(HR:Hid (∀w:World,Tab w 7 kevCells->Tab w 5 lenCells->Tab w 0 Fe.cells->Calls Tryo.prog 155 #[.int .i64 yd,.int .i64 pl] w fun e w'=>e= .returned (.int .i64 S)/\Below w.heap.size w w'))(HC:Hid (∀w:World,Calls Tryo.prog 156 #[.int .i64 c] w fun e w'=>e= .returned (.bool false)/\w=w')):
  Calls Tryo.prog 87 #[.int .i64 D,.int .i64 pl] w fun e w'=>e= .returned (.tuple #[.int .i64 0,.int .i64 2])/\Below w.heap.size w w':=by
 have e1:decide (D<=S)=true:=decide_eq_true hs
 subst c
 go_enter Tryo.func87,Tryz.ntmps87
 go_wp2_with fail
 refine(HP.out _).mono ?_
 rintro e w' ⟨rfl,rfl⟩
 go_wp2_with fail
 refine(HF.out _ (Tab.below hT bel) (Tab.below hL bel)).mono ?_
 rintro e w1 ⟨rfl,hb1⟩
 go_wp2_with fail
 refine(HR.out _ (Tab.below hT bel) (Tab.below hL bel) (Tab.below hF bel)).mono ?_
 rintro e w2 ⟨rfl,hb2⟩
 obtain⟨hc2,hf2⟩:=aA hb2
 have hz2:=hb2.size
 try simp at hz2
 have hl2w1:w1.heap.size<w2.heap.size:=by omega
 have hm2w1:w1.heap.size<=w2.heap.size:=by omega
 have g2x0:w2.cell? ⟨w1.heap.size,0,none⟩=some (.int .i64 yd):=cel hc2
 go_wp2_with fail
 refine(HC.out _).mono ?_
 rintro e w' ⟨rfl,rfl⟩
 go_wp2_with fail
 go_ret2
 refine⟨rfl, ?_⟩
 exact bel
theorem qM(D pl yd n d S c:Int)(lf:Bool)(w:World)(y1:1<=yd)(y2:yd<=9999)(hc:c=yd)(hs:¬ D<=S)(hT:Tab w 7 kevCells)(hL:Tab w 5 lenCells)(hF:Tab w 0 Fe.cells)(HP:Hid (∀w:World,Calls Tryo.prog 154 #[.int .i64 pl] w fun e w'=>e= .returned (.bool true)/\w=w'))(HF:Hid (∀w:World,Tab w 7 kevCells->Tab w 5 lenCells->Calls Tryo.prog 23 #[.int .i64 D] w fun e w'=>e= .returned (.tuple #[.agg #[.int .i64 yd,.int .i64 n,.bool lf,.int .i64 d],.int .i64 0])/\Below w.heap.size w w'))(HR:Hid (∀w:World,Tab w 7 kevCells->Tab w 5 lenCells->Tab w 0 Fe.cells->Calls Tryo.prog 155 #[.int .i64 yd,.int .i64 pl] w fun e w'=>e= .returned (.int .i64 S)/\Below w.heap.size w w'))(HC:Hid (∀w:World,Calls Tryo.prog 156 #[.int .i64 c] w fun e w'=>e= .returned (.bool false)/\w=w')):
  Calls Tryo.prog 87 #[.int .i64 D,.int .i64 pl] w fun e w'=>e= .returned (.tuple #[.int .i64 0,.int .i64 2])/\Below w.heap.size w w':=by
 have e1:decide (D<=S)=false:=decide_eq_false hs
 subst c
 go_enter Tryo.func87,Tryz.ntmps87
 go_wp2_with fail
 refine(HP.out _).mono ?_
 rintro e w' ⟨rfl,rfl⟩
 go_wp2_with fail
 refine(HF.out _ (Tab.below hT bel) (Tab.below hL bel)).mono ?_
 rintro e w1 ⟨rfl,hb1⟩
 go_wp2_with fail
 refine(HR.out _ (Tab.below hT bel) (Tab.below hL bel) (Tab.below hF bel)).mono ?_
 rintro e w2 ⟨rfl,hb2⟩
 obtain⟨hc2,hf2⟩:=aA hb2
 have hz2:=hb2.size
 try simp at hz2
 have hl2w1:w1.heap.size<w2.heap.size:=by omega
 have hm2w1:w1.heap.size<=w2.heap.size:=by omega
 have g2x0:w2.cell? ⟨w1.heap.size,0,none⟩=some (.int .i64 yd):=cel hc2
 go_wp2_with fail
 refine(HC.out _).mono ?_
 rintro e w' ⟨rfl,rfl⟩
 go_wp2_with fail
 go_ret2
 refine⟨rfl, ?_⟩
 exact bel
theorem EK(D pl yd n d er:Int)(lf:Bool)(w:World)(her:er≠0)(HP:Hid (∀w:World,Calls Tryo.prog 32 #[.int .i64 pl] w fun e w'=>e= .returned (.bool true)/\w=w'))(HF:Hid (∀w:World,Calls Tryo.prog 33 #[.int .i64 D] w fun e w'=>e= .returned (.tuple #[.agg #[.int .i64 yd,.int .i64 n,.bool lf,.int .i64 d],.int .i64 er])/\Below w.heap.size w w')):
  Calls Tryo.prog 100 #[.int .i64 D,.int .i64 pl] w fun e w'=>e= .returned (.tuple #[.int .i64 0,.int .i64 er])/\Below w.heap.size w w':=by
 have d0:decide (er=0)=false:=decide_eq_false her
 go_enter Tryo.func100,Tryz.ntmps100
 go_wp2_with fail
 refine(HP.out _).mono ?_
 rintro e w' ⟨rfl,rfl⟩
 go_wp2_with fail
 refine(HF.out _).mono ?_
 rintro e w1 ⟨rfl,hb1⟩
 go_wp2_with fail
 go_ret2
 refine⟨rfl, ?_⟩
 exact bel
theorem Am(D pl yd n d S c:Int)(lf:Bool)(w:World)(y1:1<=yd)(y2:yd<=9999)(hc:c=yd-1)(hs:D<=S)(HP:Hid (∀w:World,Calls Tryo.prog 32 #[.int .i64 pl] w fun e w'=>e= .returned (.bool true)/\w=w'))(HF:Hid (∀w:World,Calls Tryo.prog 33 #[.int .i64 D] w fun e w'=>e= .returned (.tuple #[.agg #[.int .i64 yd,.int .i64 n,.bool lf,.int .i64 d],.int .i64 0])/\Below w.heap.size w w'))(HR:Hid (∀w:World,Calls Tryo.prog 166 #[.int .i64 yd,.int .i64 pl] w fun e w'=>e= .returned (.int .i64 S)/\Below w.heap.size w w'))(HC:Hid (∀w:World,Calls Tryo.prog 167 #[.int .i64 c] w fun e w'=>e= .returned (.bool true)/\w=w')):
  Calls Tryo.prog 100 #[.int .i64 D,.int .i64 pl] w fun e w'=>e= .returned (.tuple #[.int .i64 c,.int .i64 0])/\Below w.heap.size w w':=by
 have e1:decide (D<=S)=true:=decide_eq_true hs
 subst c
 go_enter Tryo.func100,Tryz.ntmps100
 go_wp2_with fail
 refine(HP.out _).mono ?_
 rintro e w' ⟨rfl,rfl⟩
 go_wp2_with fail
 refine(HF.out _).mono ?_
 rintro e w1 ⟨rfl,hb1⟩
 go_wp2_with fail
 refine(HR.out _).mono ?_
 rintro e w2 ⟨rfl,hb2⟩
 obtain⟨hc2,hf2⟩:=aA hb2
 have hz2:=hb2.size
 try simp at hz2
 have hl2w1:w1.heap.size<w2.heap.size:=by omega
 have hm2w1:w1.heap.size<=w2.heap.size:=by omega
 have g2x0:w2.cell? ⟨w1.heap.size,0,none⟩=some (.int .i64 yd):=cel hc2
 go_wp2_with fail
 refine(HC.out _).mono ?_
 rintro e w' ⟨rfl,rfl⟩
 go_wp2_with fail
 go_ret2
 refine⟨rfl, ?_⟩
 exact bel
theorem BJ(D pl yd n d S c:Int)(lf:Bool)(w:World)(y1:1<=yd)(y2:yd<=9999)(hc:c=yd-1)(hs:D<=S)(HP:Hid (∀w:World,Calls Tryo.prog 32 #[.int .i64 pl] w fun e w'=>e= .returned (.bool true)/\w=w'))(HF:Hid (∀w:World,Calls Tryo.prog 33 #[.int .i64 D] w fun e w'=>e= .returned (.tuple #[.agg #[.int .i64 yd,.int .i64 n,.bool lf,.int .i64 d],.int .i64 0])/\Below w.heap.size w w'))(HR:Hid (∀w:World,Calls Tryo.prog 166 #[.int .i64 yd,.int .i64 pl] w fun e w'=>e= .returned (.int .i64 S)/\Below w.heap.size w w'))(HC:Hid (∀w:World,Calls Tryo.prog 167 #[.int .i64 c] w fun e w'=>e= .returned (.bool false)/\w=w')):
  Calls Tryo.prog 100 #[.int .i64 D,.int .i64 pl] w fun e w'=>e= .returned (.tuple #[.int .i64 0,.int .i64 2])/\Below w.heap.size w w':=by
 have e1:decide (D<=S)=true:=decide_eq_true hs
 subst c
 go_enter Tryo.func100,Tryz.ntmps100
 go_wp2_with fail
 refine(HP.out _).mono ?_
 rintro e w' ⟨rfl,rfl⟩
 go_wp2_with fail
 refine(HF.out _).mono ?_
 rintro e w1 ⟨rfl,hb1⟩
 go_wp2_with fail
 refine(HR.out _).mono ?_
 rintro e w2 ⟨rfl,hb2⟩
 obtain⟨hc2,hf2⟩:=aA hb2
 have hz2:=hb2.size
 try simp at hz2
 have hl2w1:w1.heap.size<w2.heap.size:=by omega
 have hm2w1:w1.heap.size<=w2.heap.size:=by omega
 have g2x0:w2.cell? ⟨w1.heap.size,0,none⟩=some (.int .i64 yd):=cel hc2
 go_wp2_with fail
 refine(HC.out _).mono ?_
 rintro e w' ⟨rfl,rfl⟩
 go_wp2_with fail
 go_ret2
 refine⟨rfl, ?_⟩
 exact bel
theorem Bt(D pl yd n d S c:Int)(lf:Bool)(w:World)(y1:1<=yd)(y2:yd<=9999)(hc:c=yd)(hs:¬ D<=S)(HP:Hid (∀w:World,Calls Tryo.prog 32 #[.int .i64 pl] w fun e w'=>e= .returned (.bool true)/\w=w'))(HF:Hid (∀w:World,Calls Tryo.prog 33 #[.int .i64 D] w fun e w'=>e= .returned (.tuple #[.agg #[.int .i64 yd,.int .i64 n,.bool lf,.int .i64 d],.int .i64 0])/\Below w.heap.size w w'))(HR:Hid (∀w:World,Calls Tryo.prog 166 #[.int .i64 yd,.int .i64 pl] w fun e w'=>e= .returned (.int .i64 S)/\Below w.heap.size w w'))(HC:Hid (∀w:World,Calls Tryo.prog 167 #[.int .i64 c] w fun e w'=>e= .returned (.bool true)/\w=w')):
  Calls Tryo.prog 100 #[.int .i64 D,.int .i64 pl] w fun e w'=>e= .returned (.tuple #[.int .i64 c,.int .i64 0])/\Below w.heap.size w w':=by
 have e1:decide (D<=S)=false:=decide_eq_false hs
 subst c
 go_enter Tryo.func100,Tryz.ntmps100
 go_wp2_with fail
 refine(HP.out _).mono ?_
 rintro e w' ⟨rfl,rfl⟩
 go_wp2_with fail
 refine(HF.out _).mono ?_
 rintro e w1 ⟨rfl,hb1⟩
 go_wp2_with fail
 refine(HR.out _).mono ?_
 rintro e w2 ⟨rfl,hb2⟩
 obtain⟨hc2,hf2⟩:=aA hb2
 have hz2:=hb2.size
 try simp at hz2
 have hl2w1:w1.heap.size<w2.heap.size:=by omega
 have hm2w1:w1.heap.size<=w2.heap.size:=by omega
 have g2x0:w2.cell? ⟨w1.heap.size,0,none⟩=some (.int .i64 yd):=cel hc2
 go_wp2_with fail
 refine(HC.out _).mono ?_
 rintro e w' ⟨rfl,rfl⟩
 go_wp2_with fail
 go_ret2
 refine⟨rfl, ?_⟩
 exact bel
theorem A9(D pl yd n d S c:Int)(lf:Bool)(w:World)(y1:1<=yd)(y2:yd<=9999)(hc:c=yd)(hs:¬ D<=S)(HP:Hid (∀w:World,Calls Tryo.prog 32 #[.int .i64 pl] w fun e w'=>e= .returned (.bool true)/\w=w'))(HF:Hid (∀w:World,Calls Tryo.prog 33 #[.int .i64 D] w fun e w'=>e= .returned (.tuple #[.agg #[.int .i64 yd,.int .i64 n,.bool lf,.int .i64 d],.int .i64 0])/\Below w.heap.size w w'))(HR:Hid (∀w:World,Calls Tryo.prog 166 #[.int .i64 yd,.int .i64 pl] w fun e w'=>e= .returned (.int .i64 S)/\Below w.heap.size w w'))(HC:Hid (∀w:World,Calls Tryo.prog 167 #[.int .i64 c] w fun e w'=>e= .returned (.bool false)/\w=w')):
  Calls Tryo.prog 100 #[.int .i64 D,.int .i64 pl] w fun e w'=>e= .returned (.tuple #[.int .i64 0,.int .i64 2])/\Below w.heap.size w w':=by
 have e1:decide (D<=S)=false:=decide_eq_false hs
 subst c
 go_enter Tryo.func100,Tryz.ntmps100
 go_wp2_with fail
 refine(HP.out _).mono ?_
 rintro e w' ⟨rfl,rfl⟩
 go_wp2_with fail
 refine(HF.out _).mono ?_
 rintro e w1 ⟨rfl,hb1⟩
 go_wp2_with fail
 refine(HR.out _).mono ?_
 rintro e w2 ⟨rfl,hb2⟩
 obtain⟨hc2,hf2⟩:=aA hb2
 have hz2:=hb2.size
 try simp at hz2
 have hl2w1:w1.heap.size<w2.heap.size:=by omega
 have hm2w1:w1.heap.size<=w2.heap.size:=by omega
 have g2x0:w2.cell? ⟨w1.heap.size,0,none⟩=some (.int .i64 yd):=cel hc2
 go_wp2_with fail
 refine(HC.out _).mono ?_
 rintro e w' ⟨rfl,rfl⟩
 go_wp2_with fail
 go_ret2
 refine⟨rfl, ?_⟩
 exact bel
end
section
open Go.ChangeShapes Go.WideShapes Go.ChangeAt Go.RowKit Go.Lib Go.Sort Go.Shelf
theorem J4(D pl y er:Int)(w:World)(her:er≠0)(hT:Tab w 7 kevCells)(hL:Tab w 5 lenCells)(hF:Tab w 0 Fe.cells)
  (HC:Hid (∀w:World,Tab w 7 kevCells->Tab w 5 lenCells->Tab w 0 Fe.cells->Calls Tryo.prog 87 #[.int .i64 D,.int .i64 pl] w fun e w'=>e= .returned (.tuple #[.int .i64 y,.int .i64 er])/\Below w.heap.size w w')):
  Calls Tryo.prog 31 #[.int .i64 D,.int .i64 pl] w fun e w'=>e= .returned (.tuple #[.agg #[.int .i64 0,.int .i64 0,.int .i64 0],.int .i64 er])/\Below w.heap.size w w':=by
 have d0:decide (er=0)=false:=decide_eq_false her
 go_enter Tryo.func31,Tryz.ntmps31
 go_wp2_with fail
 refine(HC.out _ (Tab.below hT bel) (Tab.below hL bel) (Tab.below hF bel)).mono ?_
 rintro e w1 ⟨rfl,hb1⟩
 have hB1:Below w.heap.size w w1:=bel
 obtain⟨hc1,hf1⟩:=aA hb1
 have hz1:=hb1.size
 simp at hz1
 have g1:w1.cell? ⟨w.heap.size,0,none⟩=some (.int .i64 0):=(hc1 _ _ (by simp)).trans (by simp [go_sem])
 have g2:w1.cell? ⟨w.heap.size,1,none⟩=some (.int .i64 0):=(hc1 _ _ (by simp)).trans (by simp [go_sem])
 have g3:w1.cell? ⟨w.heap.size,2,none⟩=some (.int .i64 0):=(hc1 _ _ (by simp)).trans (by simp [go_sem])
 have g4:∀i,w1.frozen? ⟨w.heap.size,i,none⟩=false:=fun i=>(hf1 _ _ (by simp)).trans (by simp [go_sem])
 clear hc1 hf1
 go_wp2_with fail
 refine bodyPost_ret (v:= .tuple #[.agg #[.int .i64 0,.int .i64 0,.int .i64 0],.int .i64 er]) (by simp [results,Tryz.results31,go_sem, *]) rfl ?_
 refine⟨rfl, ?_⟩
 exact bel
theorem jI(y:Int)(w:World)(h:y<1∨9998<y):
  Calls Tryo.prog 156 #[.int .i64 y] w fun e w'=>e= .returned (.bool false)/\w=w':=by
 rcases h with h|h
 ·exact G5 y w h
 ·exact EL y w h
def Rd.In(D:Int)(p:Bool)(y:Int):Prop:=∃i i2,Yr.Is y i/\Yr.Is (y+1) i2/\Sb.rj y p<D/\D<=Sb.rj (y+1) p
theorem Rd.caseP(D:Int)(p:Bool):(∃y,Rd.In D p y)∨Hid (∀w:World,Tab w 7 kevCells->Tab w 5 lenCells->Tab w 0 Fe.cells->Calls Tryo.prog 87 #[.int .i64 D,.int .i64 (if p then 1 else 0)] w fun e w'=>e= .returned (.tuple #[.int .i64 0,.int .i64 2])/\Below w.heap.size w w'):=by
 have HPs:=Lib.hid (fun w=>mZ p w)
 by_cases hr:D< -1373427∨2278650<D
 ·exact .inr (Lib.hid fun w hT hL hF=>zA D _ 0 0 0 2 false w (by decide) hT hL hF HPs (Lib.hid fun w hT hL=>jw D w hr))
 ·obtain⟨yd,m,d,hv,rfl⟩:=D10.nX D (by omega) (by omega)
  obtain⟨g1,g2⟩:=D10.Af hv
  have v1:=hv.1
  have v2:=hv.2.1
  have HFs:=Lib.hid (fun w hT hL=>dz yd m d w hT hL hv)
  obtain⟨i,hi⟩:=Yr.kT yd v1 v2
  have HRs:=Lib.hid (fun w hT hL hF=>jr yd i p w hi hT hL hF)
  have o:=Sb.Hf p
  generalize D10.aS yd m d=D at*
  by_cases hs:D<=Sb.rj yd p
  ·by_cases hc:1<=yd-1
   ·left
    obtain⟨i0,h0⟩:=Yr.kT (yd-1) hc (by omega)
    have hn:=Yr.fu h0
    have hb:=Sb.zh i0 h0.2.2.1
    rw [show yd-1+1=yd by omega]at hn
    refine⟨yd-1,i0,i,h0,by rw [show yd-1+1=yd by omega];exact hi, ?_,by rw [show yd-1+1=yd by omega];exact hs⟩
    unfold Sb.rj
    omega
   ·exact .inr (Lib.hid fun w hT hL hF=>pV D _ yd _ d _ (yd-1) _ w v1 v2 rfl hs hT hL hF HPs HFs HRs (Lib.hid fun w=>jI (yd-1) w (by omega)))
  ·by_cases hc:yd<=9998
   ·left
    obtain⟨i2,h2⟩:=Yr.kT (yd+1) (by omega) (by omega)
    refine⟨yd,i,i2,hi,h2,by omega, ?_⟩
    unfold Sb.rj
    omega
   ·exact .inr (Lib.hid fun w hT hL hF=>qM D _ yd _ d _ yd _ w v1 v2 rfl hs hT hL hF HPs HFs HRs (Lib.hid fun w=>jI yd w (by omega)))
namespace Rd
theorem YT:((List.range 14).all fun i=> [false,true].all fun p=>decide ((CU i p).map (fun x=>x.2.2)=Sb.uK i p))=true:=by decide+kernel
theorem Zu{i:Nat}(hi:i<14)(p:Bool):(CU i p).map (fun x=>x.2.2)=Sb.uK i p:=by
 have h:=List.all_eq_true.1 YT i (List.mem_range.2 hi)
 exact of_decide_eq_true (List.all_eq_true.1 h p (by cases p <;> simp))
theorem there{y:Int}{i i2:Nat}(p:Bool)(D:Int)(h:Yr.Is y i)(h2:Yr.Is (y+1) i2)(h3:Sb.rj y p<D)(h4:D<=Sb.rj (y+1) p)(h6:D % 7=6):
  ∃r1 r2,((CU i p).map (sh (Cal.first y-bn i))).find? (kr D)=some (r1,r2,D):=by
 obtain⟨n1,n2,n3,n4⟩:=Sb.mQ p h
 have hs:=GI p h h2
 have hd:=Zu h.2.2.1 p
 have hmem:D∈Sb.qJ y p:=by
  unfold Sb.qJ sats
  rw [List.mem_map]
  have e0:Sat.ak (Sb.rj y p+1)=Sb.rj y p+1+(6-(Sb.rj y p+1)) % 7:=rfl
  refine⟨((D-Sat.ak (Sb.rj y p+1)) / 7).toNat,List.mem_range.2 ?_, ?_⟩
  ·omega
  ·show Sat.ak (Sb.rj y p+1)+7*(((D-Sat.ak (Sb.rj y p+1)) / 7).toNat:Int)=D
   omega
 rw [hs,←hd,List.map_map,List.mem_map]at hmem
 obtain⟨x,hx,rfl⟩:=hmem
 have hany:(((CU i p).map (sh (Cal.first y-bn i))).find? (kr ((fun d=>Cal.first y-bn i+d) x.2.2))).isSome=true:=by
  rw [List.find?_isSome]
  exact⟨sh (Cal.first y-bn i) x,List.mem_map.2 ⟨x,hx,rfl⟩,by simp [kr,sh]⟩
 obtain⟨⟨r1,r2,r3⟩,hr⟩:=Option.isSome_iff_exists.1 hany
 have h5:=List.find?_some hr
 have h7:r3=Cal.first y-bn i+x.2.2:=by simpa [kr]using h5
 subst h7
 exact⟨r1,r2,hr⟩
end Rd
end
section
open Go.ChangeShapes Go.WideShapes Go.ChangeAt Go.RowKit Go.Lib Go.Sort Go.Shelf
theorem pU(y:Int)(w:World)(h:y<1∨9998<y):
  Calls Tryo.prog 167 #[.int .i64 y] w fun e w'=>e= .returned (.bool false)/\w=w':=by
 by_cases h1:1<=y
 ·have h2:¬ y<=9998:=by omega
  have d1:decide (1<=y)=true:=decide_eq_true h1
  have d2:decide (y<=9998)=false:=decide_eq_false h2
  go_enter Tryo.func167,Tryz.ntmps167
  go_wp2_with fail
  go_ret
  exact⟨rfl,rfl⟩
 ·have d1:decide (1<=y)=false:=decide_eq_false h1
  go_enter Tryo.func167,Tryz.ntmps167
  go_wp2_with fail
  go_ret
  exact⟨rfl,rfl⟩
theorem Rd.case(D:Int)(p:Bool):
  (∃y,Rd.In D p y/\Hid (∀w:World,Calls Tryo.prog 100 #[.int .i64 D,.int .i64 (if p then 1 else 0)] w fun e w'=>e= .returned (.tuple #[.int .i64 y,.int .i64 0])/\Below w.heap.size w w'))∨
  (Hid (∀w:World,Tab w 7 kevCells->Tab w 5 lenCells->Tab w 0 Fe.cells->Calls Tryo.prog 87 #[.int .i64 D,.int .i64 (if p then 1 else 0)] w fun e w'=>e= .returned (.tuple #[.int .i64 0,.int .i64 2])/\Below w.heap.size w w')/\
   Hid (∀w:World,Calls Tryo.prog 100 #[.int .i64 D,.int .i64 (if p then 1 else 0)] w fun e w'=>e= .returned (.tuple #[.int .i64 0,.int .i64 2])/\Below w.heap.size w w')):=by
 have HPs:=Lib.hid (fun w=>mZ p w)
 have HPr:=Lib.hid (fun w=>mW p w)
 by_cases hr:D< -1373427∨2278650<D
 ·exact .inr ⟨Lib.hid fun w hT hL hF=>zA D _ 0 0 0 2 false w (by decide) hT hL hF HPs (Lib.hid fun w hT hL=>jw D w hr),
   Lib.hid fun w=>EK D _ 0 0 0 2 false w (by decide) HPr (Lib.hid fun w=>nU D w hr)⟩
 ·obtain⟨yd,m,d,hv,rfl⟩:=D10.nX D (by omega) (by omega)
  obtain⟨g1,g2⟩:=D10.Af hv
  have v1:=hv.1
  have v2:=hv.2.1
  have HFs:=Lib.hid (fun w hT hL=>dz yd m d w hT hL hv)
  have HFr:=Lib.hid (fun w=>jQ yd m d w hv)
  obtain⟨i,hi⟩:=Yr.kT yd v1 v2
  have HRs:=Lib.hid (fun w hT hL hF=>jr yd i p w hi hT hL hF)
  have HRr:=Lib.hid (fun w=>nA yd i p w hi)
  have o:=Sb.Hf p
  generalize D10.aS yd m d=D at*
  by_cases hs:D<=Sb.rj yd p
  ·by_cases hc:1<=yd-1
   ·left
    refine⟨yd-1, ?_,Lib.hid fun w=>Am D _ yd _ d _ (yd-1) _ w v1 v2 rfl hs HPr HFr HRr (Lib.hid fun w=>mV (yd-1) w hc (by omega))⟩
    obtain⟨i0,h0⟩:=Yr.kT (yd-1) hc (by omega)
    have hn:=Yr.fu h0
    have hb:=Sb.zh i0 h0.2.2.1
    rw [show yd-1+1=yd by omega]at hn
    refine⟨i0,i,h0,by rw [show yd-1+1=yd by omega];exact hi, ?_,by rw [show yd-1+1=yd by omega];exact hs⟩
    unfold Sb.rj
    omega
   ·right
    exact⟨Lib.hid fun w hT hL hF=>pV D _ yd _ d _ (yd-1) _ w v1 v2 rfl hs hT hL hF HPs HFs HRs (Lib.hid fun w=>jI (yd-1) w (by omega)),
     Lib.hid fun w=>BJ D _ yd _ d _ (yd-1) _ w v1 v2 rfl hs HPr HFr HRr (Lib.hid fun w=>pU (yd-1) w (by omega))⟩
  ·by_cases hc:yd<=9998
   ·left
    refine⟨yd, ?_,Lib.hid fun w=>Bt D _ yd _ d _ yd _ w v1 v2 rfl hs HPr HFr HRr (Lib.hid fun w=>mV yd w v1 hc)⟩
    obtain⟨i2,h2⟩:=Yr.kT (yd+1) (by omega) (by omega)
    refine⟨i,i2,hi,h2,by omega, ?_⟩
    unfold Sb.rj
    omega
   ·right
    exact⟨Lib.hid fun w hT hL hF=>qM D _ yd _ d _ yd _ w v1 v2 rfl hs hT hL hF HPs HFs HRs (Lib.hid fun w=>jI yd w (by omega)),
     Lib.hid fun w=>A9 D _ yd _ d _ yd _ w v1 v2 rfl hs HPr HFr HRr (Lib.hid fun w=>pU yd w (by omega))⟩
theorem YZ(D:Int)(p:Bool)(hD:I64 D):∃r1 r2 r3 er:Int,
  Hid (∀w:World,Tab w 7 kevCells->Tab w 5 lenCells->Tab w 0 Fe.cells->Calls Tryo.prog 31 #[.int .i64 D,.int .i64 (if p then 1 else 0)] w fun e w'=>e= .returned (.tuple #[.agg #[.int .i64 r1,.int .i64 r2,.int .i64 r3],.int .i64 er])/\Below w.heap.size w w')/\
  Hid (∀w:World,Calls Tryo.prog 37 #[.int .i64 D,.int .i64 (if p then 1 else 0)] w fun e w'=>e= .returned (.tuple #[.agg #[.int .i64 r1,.int .i64 r2,.int .i64 r3],.int .i64 er])/\Below w.heap.size w w'):=by
 rcases Rd.case D p with ⟨y,⟨i,i2,h,h2,h3,h4⟩,HR⟩|⟨HS,HR⟩
 ·have HWd:=Lib.hid (fun w=>bS D w)
  by_cases h6:D % 7=6
  ·obtain⟨r1,r2,hX⟩:=Rd.there p D h h2 h3 h4 h6
   have hn:=Rd.Ab h.2.2.1 p
   exact⟨r1,r2,D,0,Lib.hid fun w hT hL hF=>Zb y i i2 p D r1 r2 w h h2 h3 h4 h6 hX hn hT hL hF,
    Lib.hid fun w=>OY D _ y r1 r2 _ _ w rfl (by rw [List.length_map];exact hn) h6 (Lib.hid hX) HR HWd (Lib.hid fun w=>RA y i i2 p w h h2)⟩
  ·exact⟨0,0,0,4,Lib.hid fun w hT hL hF=>Rw y i i2 p D w h h2 h3 h4 h6 hT hL hF,
    Lib.hid fun w=>Rz D _ y _ w rfl h6 HR HWd⟩
 ·exact⟨0,0,0,2,Lib.hid fun w hT hL hF=>J4 D _ 0 2 w (by decide) hT hL hF HS,Lib.hid fun w=>N9 D _ 0 2 w (by decide) HR⟩
end
end Go.Proofs.YthnjjcoahdhmnaaGreatDoor
