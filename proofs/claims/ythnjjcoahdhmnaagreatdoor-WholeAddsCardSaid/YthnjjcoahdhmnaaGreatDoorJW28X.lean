import Derived.Test.YthnjjcoahdhmnaaGreatDoorJW28
import Derived.Test.YthnjjcoahdhmnaaGreatDoorJW28x
import Derived.Test.YthnjjcoahdhmnaaGreatDoorJAD
import Derived.Test.YthnjjcoahdhmnaaGreatDoorJCU
set_option maxHeartbeats 8000000
set_option maxRecDepth 100000
set_option linter.unusedSimpArgs false
set_option linter.unusedVariables false
namespace Go.Proofs.YthnjjcoahdhmnaaGreatDoor
open Go.ChangeShapes Go.WideShapes Go.ChangeAt Go.RowKit Go.Lib Go.Sort Go.Shelf
namespace A16
theorem out_no{D:Int}(h1: -1373427<=D)(h2:D<=2278650):¬ out D:=by unfold out;omega
theorem first_ok{y n d a b c f:Int}{l:Bool}(h:toE y n l d a b c f 0=0):toE y n l d a b 0 0 0=0/\right 0 0 c f=true/\day y n l d a b c f 0=day y n l d a b 0 0 0+(7*c+f):=by
 obtain⟨h1,h2,h3,h4,h5,h6,h7⟩:=to_0 h
 obtain⟨r1,r2,r3,r4⟩:=right_in h1
 have hr:right a b 0 0=true:=by simp [right,may,r1,r2]
 have hfd:D10.dateE (y2 y n l a b 0) (n2 y n l a b 0) (l2 y n l a b 0) (d2 y n l d a b 0)=0:=fit_date h6
 obtain⟨_,b1,b2⟩:=D10.dayV_ok _ _ _ _ hfd
 have e:day y n l d a b 0 0 0=D10.dayV (y2 y n l a b 0) (n2 y n l a b 0) (l2 y n l a b 0) (d2 y n l d a b 0):=by unfold day;omega
 refine⟨?_,right_days r3 r4, ?_⟩
 ·unfold toE
  rw [hr,h2,if_pos (by rfl),if_pos h3,if_pos h4,if_pos h5,if_pos h6,if_neg (by rw [e];exact out_no b1 b2)]
 ·unfold day;omega
end A16
theorem WholeAdds_walk(y n:Int)(l:Bool)(d a b c f q:Int)(hy:I64 y)(hn:I64 n)(hd:I64 d)(ha:I64 a)(hb:I64 b)(hc:I64 c)(hf:I64 f)(hq: -32768<=q/\q<=32767)(w:World)(hT:Tab w 7 kevCells)(hL:Tab w 5 lenCells)(hG:Tab w 4 Gr.gregCells)(hF:Tab w 0 Fe.cells)(hP:Tab w 2 powCells):
  Calls Tryo.prog 6 #[.agg #[.int .i64 (y),.int .i64 (n),.bool (l),.int .i64 (d)],.agg #[.int .i64 (a),.int .i64 (b),.int .i64 (c),.int .i64 (f)],.int .i16 q] w fun e w'=>e= .returned (.bool true)/\Below w.heap.size w w':=by
 have HW:=(Lib.hid fun W hW=>awake28 W (Tab.below hT hW) (Tab.below hL hW) (Tab.below hG hW) (Tab.below hF hW) (Tab.below hP hW))
 have t1:=Int.tmod_lt_of_pos q (show(0:Int)<1000 by omega)
 have t2:=Int.lt_tmod_of_pos q (show(0:Int)<1000 by omega)
 generalize hk:q.tmod 1000=k at*
 obtain⟨F,hF⟩:=D27.f_some
 obtain⟨ry,rn,rl,rd,er,h0⟩:=A16.to_some y n l d a b c f 0
 obtain⟨sy,sn,sl,sd,ef,h1⟩:=A16.to_some y n l d a b c f 1
 obtain⟨xy,xn,xl,xd,eg,hx⟩:=A16.to_some y n l d a b 0 0 0
 obtain⟨cy,cn,cl,cd,eh,hc1⟩:=A16.to_some y n l d 0 0 0 k 1
 obtain⟨m1,m2,m3⟩:=A16.to_modes y n l d a b c f
 have e0:=h0.e
 have e1:=h1.e
 have ex:=hx.e
 have ec:=hc1.e
 have HA:=Lib.hid (fun W (hW:Below w.heap.size w W)=>add_To y n l d a b c f 0 W hy (Tab.below hT hW) (Tab.below hL hW) ry rn rl rd er (Lib.hid h0))
 have HB:=Lib.hid (fun W (hW:Below w.heap.size w W)=>add_To y n l d a b c f 1 W hy (Tab.below hT hW) (Tab.below hL hW) sy sn sl sd ef (Lib.hid h1))
 have HC:=Lib.hid (fun W (hW:Below w.heap.size w W)=>add_To y n l d a b 0 0 0 W hy (Tab.below hT hW) (Tab.below hL hW) xy xn xl xd eg (Lib.hid hx))
 have HE:=Lib.hid (fun W (hW:Below w.heap.size w W)=>add_To y n l d 0 0 0 k 1 W hy (Tab.below hT hW) (Tab.below hL hW) cy cn cl cd eh (Lib.hid hc1))
 have HF:=Lib.hid (fun W (hW:Below w.heap.size w W)=>count_Steps_any hF (y,n,l,d) k W hy (Tab.below hT hW) (Tab.below hL hW))
 have hrk:A16.right 0 0 0 k=true:=A16.right_days (by omega) (by omega)
 have hst:D27.stE (y,n,l,d) k=eh/\D27.stV F (y,n,l,d) k=(cy,cn,cl,cd):=by
  by_cases hD:D10.dateE y n l d=0
  ·obtain⟨_,b1,b2⟩:=D10.dayV_ok y n l d hD
   obtain⟨g1,g2⟩:=A16.to_days (m:=1) hD hrk rfl
   have se:D27.stE (y,n,l,d) k=if A16.out (D10.dayV y n l d+(7*0+k))then 2 else 0:=by
    unfold D27.stE
    rw [if_pos (show D27.E (y,n,l,d)=0 from hD),if_neg (by omega)]
    by_cases ho:A16.out (D10.dayV y n l d+(7*0+k))
    ·rw [if_pos ho,if_neg (by unfold A16.out at ho;show ¬ (-1373427<=D10.dayV y n l d+k/\D10.dayV y n l d+k<=2278650);omega)]
    ·rw [if_neg ho,if_pos (by unfold A16.out at ho;show(-1373427<=D10.dayV y n l d+k/\D10.dayV y n l d+k<=2278650);omega)]
   have see:D27.stE (y,n,l,d) k=eh:=by rw [ec,g2,se]
   refine⟨see, ?_⟩
   unfold D27.stV
   rw [see]
   by_cases hz:eh=0
   ·rw [if_pos hz]
    obtain⟨_,v0,d0,_⟩:=hc1.date (ec.symm.trans hz)
    have hnout:¬ A16.out (D10.dayV y n l d+(7*0+k)):=by
     intro ho
     rw [se,if_pos ho]at see
     omega
    unfold A16.out at hnout
    obtain⟨f1,f2⟩:=hF (D10.dayV y n l d+k) (by omega) (by omega)
    obtain⟨q1,q2,q3,q4⟩:=D10.same_day f1 v0 (show D10.dayV _ _ _ _=D10.dayV _ _ _ _ from(f2.trans (by rw [d0,g1];omega)))
    show F (D10.dayV y n l d+k)=_
    have:F (D10.dayV y n l d+k)=((F (D10.dayV y n l d+k)).1,(F (D10.dayV y n l d+k)).2.1,(F (D10.dayV y n l d+k)).2.2.1,(F (D10.dayV y n l d+k)).2.2.2):=rfl
    rw [this,q1,q2,q3,q4]
   ·rw [if_neg hz]
    obtain⟨rfl,rfl,rfl,rfl,_⟩:=hc1.err ec.symm hz
    rfl
  ·have hb:=A16.to_bad (a:=0) (b:=0) (c:=0) (f:=k) (m:=1) hD hrk rfl
   have se:D27.stE (y,n,l,d) k=D10.dateE y n l d:=by unfold D27.stE;rw [if_neg (show ¬ D27.E (y,n,l,d)=0 from hD)];rfl
   have see:D27.stE (y,n,l,d) k=eh:=by rw [ec,hb,se]
   have hz:¬ eh=0:=by rw [←see,se];exact hD
   refine⟨see, ?_⟩
   unfold D27.stV
   rw [see,if_neg hz]
   obtain⟨rfl,rfl,rfl,rfl,_⟩:=hc1.err ec.symm hz
   rfl
 rw [hst.1,hst.2]at HF
 rw [←e0]at m1 m2 m3
 rw [←e1]at m2 m3
 by_cases z0:er=0
 ·obtain⟨_,v0,d0,y1,y2⟩:=h0.date (e0.symm.trans z0)
  obtain⟨g1,g2,g3⟩:=A16.first_ok (e0.symm.trans z0)
  obtain⟨zg,vx,dx,x1,x2⟩:=hx.date g1
  have hI:I64 xy:=⟨by omega,by omega⟩
  obtain⟨_,o1,o2⟩:=D10.dayV_ok _ _ _ _ v0
  obtain⟨p1,p2⟩:=A16.to_days (m:=0) vx g2 rfl
  obtain⟨ty,tn,tl,td,et,ht⟩:=A16.to_some xy xn xl xd 0 0 c f 0
  have hte:A16.toE xy xn xl xd 0 0 c f 0=0:=by rw [p2,if_neg (A16.out_no (by omega) (by omega))]
  obtain⟨zt,vt,dt,_⟩:=ht.date hte
  obtain⟨rfl,rfl,rfl,rfl⟩:=D10.same_day v0 vt (by rw [d0,dt,p1,dx,g3])
  subst zt
  subst zg
  subst z0
  have HD:=Lib.hid (fun W (hW:Below w.heap.size w W)=>add_To xy xn xl xd 0 0 c f 0 W hI (Tab.below hT hW) (Tab.below hL hW) _ _ _ _ 0 (Lib.hid ht))
  have hR:I64 ry:=⟨by omega,by omega⟩
  have HG:=Lib.hid (fun W (hW:Below w.heap.size w W)=>heb_Check ry rn rl rd W hR (Tab.below hT hW) (Tab.below hL hW))
  rw [v0]at HG
  by_cases z1:ef=0
  ·obtain⟨_,cd'⟩:=m2 z1
   obtain⟨_,v1,d1,_⟩:=h1.date (e1.symm.trans z1)
   obtain⟨rfl,rfl,rfl,rfl⟩:=D10.same_day v0 v1 (d0.trans (cd'.trans d1.symm))
   subst z1
   exact WholeAdds_ok y n l d a b c f q k _ _ _ _ _ _ _ _ _ _ _ _ _ hq hk ⟨t2,t1⟩ w HA HB HC HD HE HF HG HW
  ·have z7:ef=7:=by omega
   obtain⟨rfl,rfl,rfl,rfl,_⟩:=h1.err e1.symm z1
   subst z7
   exact WholeAdds_rej y n l d a b c f q k _ _ _ _ _ _ _ _ _ _ _ _ _ hq hk ⟨t2,t1⟩ w HA HB HC HD HE HF HG HW
 ·have z1:¬ ef=0:=fun h=>z0 (m2 h).1
  obtain⟨rfl,rfl,rfl,rfl,_⟩:=h0.err e0.symm z0
  obtain⟨rfl,rfl,rfl,rfl,_⟩:=h1.err e1.symm z1
  have b0:(er !=0)=true:=bne_iff_ne.2 z0
  have b1:(er==0)=false:=beq_eq_false_iff_ne.2 z0
  have b2:(er==7)=false:=beq_eq_false_iff_ne.2 m1
  have b3:(ef==0)=false:=beq_eq_false_iff_ne.2 z1
  by_cases zg:eg=0
  ·subst zg
   exact WholeAdds_err y n l d a b c f q k 0 0 false 0 xy xn xl xd _ _ _ _ _ er ef hq hk ⟨t2,t1⟩ b0 b1 b2 b3 w HA HB HC HE HF HW
  ·obtain⟨rfl,rfl,rfl,rfl,_⟩:=hx.err ex.symm zg
   exact WholeAdds_errg y n l d a b c f q k 0 0 false 0 0 0 false 0 _ _ _ _ _ er ef eg hq hk ⟨t2,t1⟩ b0 b1 b2 b3 (beq_eq_false_iff_ne.2 zg) w HA HB HC HE HF HW
end Go.Proofs.YthnjjcoahdhmnaaGreatDoor
