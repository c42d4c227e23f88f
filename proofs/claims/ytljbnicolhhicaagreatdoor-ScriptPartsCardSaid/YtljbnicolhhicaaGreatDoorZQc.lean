import Derived.Test.YtljbnicolhhicaaGreatDoorZQA
set_option linter.defProp false
set_option maxHeartbeats 8000000
set_option maxRecDepth 100000
set_option linter.unusedSimpArgs false
set_option linter.unusedVariables false
namespace Go.Proofs.YtljbnicolhhicaaGreatDoor
open Go.ChangeShapes Go.WideShapes Go.ChangeAt Go.RowKit Go.Lib
theorem Oa(o:O26)(m:Int)(D f:Int)(X:A26)(h1:1<=o.a)(h2:o.a<=9999)
  (HA:Yes m 26 #[o.a] (.tuple #[D,f]))
  (HN:Yes m 25 #[D,f] X.v):
  Yes m 11 #[o.v] X.v:=by
 intro w hT
 unfold O26.v
 have d1:decide (o.a<1)=false:=decide_eq_false vO
 have d2:decide (9999<o.a)=false:=decide_eq_false vO
 go_enter (vF Tryz.func11),Tryz.ntmps11
 go_wp2_with fail
 refine ca (HA _ (hT.below bel)) fun w1 hb1 hz1 hc1 hf1=> ?_
 have hR1:Row w1 (w.1.size+1) 39 (A26.c {}):=(hb1.block _ vS).trans (al1 _ _ _)
 try simp at hz1
 have hs1:w.1.size<w1.1.size:=vO
 go_wp2_with fail
 refine ca (HN _ (hT.below bel)) fun w2 hb2 hz2 hc2 hf2=> ?_
 have hR2:=(hR1.below (n:=w1.1.size) bel vO).below hb2 (by first|omega|(simp;omega))
 try simp at hz2
 have hs2:w.1.size<w2.1.size:=vO
 try have hs2x1:w1.1.size<w2.1.size:=vO
 go_wp2_with (refine wpList_store_row rfl _ _ _ rfl _ _ rfl rfl _ _ (hR2.below (n:=w2.1.size) bel vO) vK rfl vK ?_)
 refine bodyPost_ret (v:=X.v) (results_cell_row rfl _ _ _ _ _ _ _ rfl (setRow_heap _ _ _ _ _ _ (hR2.below (n:=w2.1.size) bel vO)) (aB (aB Tryz.underlying39)) rfl vK) rfl ⟨by first|rfl|(simp [*];done), ?_⟩
 exact below_setRow bel vO _
theorem RG(o:O26)(m:Int)(h:o.a<1):
  Yes m 11 #[o.v] (A26.v {e:=2}):=by
 intro w hT
 unfold O26.v
 have d1:decide (o.a<1)=true:=decide_eq_true h
 go_enter (vF Tryz.func11),Tryz.ntmps11
 go_wp2_with fail
 refine ca (fu 2 _) fun w1 hb1 hz1 hc1 hf1=> ?_
 have hR1:Row w1 (w.1.size+1) 39 (A26.c {}):=(hb1.block _ vS).trans (al1 _ _ _)
 try simp at hz1
 go_wp2_with (refine wpList_store_row rfl _ _ _ rfl _ _ rfl rfl _ _ (hR1.below (n:=w1.1.size) bel vO) vK rfl vK ?_)
 refine bodyPost_ret (v:=A26.v {e:=2}) (results_cell_row rfl _ _ _ _ _ _ _ rfl (setRow_heap _ _ _ _ _ _ (hR1.below (n:=w1.1.size) bel vO)) (aB (aB Tryz.underlying39)) rfl vK) rfl ⟨by first|rfl|(simp [*];done), ?_⟩
 exact below_setRow bel vO _
theorem PL(o:O26)(m:Int)(h:9999<o.a):
  Yes m 11 #[o.v] (A26.v {e:=2}):=by
 intro w hT
 unfold O26.v
 have d1:decide (o.a<1)=false:=decide_eq_false vO
 have d2:decide (9999<o.a)=true:=decide_eq_true h
 go_enter (vF Tryz.func11),Tryz.ntmps11
 go_wp2_with fail
 refine ca (fu 2 _) fun w1 hb1 hz1 hc1 hf1=> ?_
 have hR1:Row w1 (w.1.size+1) 39 (A26.c {}):=(hb1.block _ vS).trans (al1 _ _ _)
 try simp at hz1
 go_wp2_with (refine wpList_store_row rfl _ _ _ rfl _ _ rfl rfl _ _ (hR1.below (n:=w1.1.size) bel vO) vK rfl vK ?_)
 refine bodyPost_ret (v:=A26.v {e:=2}) (results_cell_row rfl _ _ _ _ _ _ _ rfl (setRow_heap _ _ _ _ _ _ (hR1.below (n:=w1.1.size) bel vO)) (aB (aB Tryz.underlying39)) rfl vK) rfl ⟨by first|rfl|(simp [*];done), ?_⟩
 exact below_setRow bel vO _
theorem Bc:(∀(o:O26)(m:Int)(D f:Int)(X:A26)
  (HA:Yes m 27 #[o.a] (.tuple #[D,f]))
  (HN:Yes m 25 #[D,f] X.v),Yes m 12 #[o.v] X.v)/\(∀(o:O26)(m:Int)(D f:Int)(X:A26)
  (HA:Yes m 45 #[o.a] (.tuple #[D,f]))
  (HN:Yes m 25 #[D,f] X.v),Yes m 22 #[o.v] X.v)/\(∀(o:O26)(m:Int)(y n:Int)(l:Bool)(d e:Int)(X:A26)
  (HA:Yes m 31 #[o.a] (.tuple #[.agg #[y,n,l,d],e]))
  (HD:Yes m 30 #[.agg #[y,n,l,d],e] X.v),Yes m 14 #[o.v] X.v):=by
 refine⟨@fun o m D f X HA HN=>(fun(k90:Nat)=> ?_) 0,@fun o m D f X HA HN=>(fun(k91:Nat)=> ?_) 0,@fun o m y n l d e X HA HD=>(fun(k92:Nat)=> ?_) 0⟩
 all_goals(
 intro w hT
 unfold O26.v
 first|(have _:=k90;go_enter (vF Tryz.func12),Tryz.ntmps12)|(have _:=k91;go_enter (vF Tryz.func22),Tryz.ntmps22)|(go_enter (vF Tryz.func14),Tryz.ntmps14)
 go_wp2_with fail
 refine ca (HA _ (hT.below bel)) fun w1 hb1 hz1 hc1 hf1=> ?_
 have hR1:Row w1 (w.1.size+1) 39 (A26.c {}):=(hb1.block _ vS).trans (al1 _ _ _)
 try simp at hz1
 have hs1:w.1.size<w1.1.size:=vO
 go_wp2_with fail
 first|(have _:=k92;refine ca (HD _ (hT.below bel)) fun w2 hb2 hz2 hc2 hf2=> ?_)|(refine ca (HN _ (hT.below bel)) fun w2 hb2 hz2 hc2 hf2=> ?_)
 have hR2:=(hR1.below (n:=w1.1.size) bel vO).below hb2 (by first|omega|(simp;omega))
 try simp at hz2
 have hs2:w.1.size<w2.1.size:=vO
 try have hs2x1:w1.1.size<w2.1.size:=vO
 go_wp2_with (refine wpList_store_row rfl _ _ _ rfl _ _ rfl rfl _ _ (hR2.below (n:=w2.1.size) bel vO) vK rfl vK ?_)
 refine bodyPost_ret (v:=X.v) (results_cell_row rfl _ _ _ _ _ _ _ rfl (setRow_heap _ _ _ _ _ _ (hR2.below (n:=w2.1.size) bel vO)) (aB (aB Tryz.underlying39)) rfl vK) rfl ⟨by first|rfl|(simp [*];done), ?_⟩
 exact below_setRow bel vO _
 )
def X4:=Bc.1
def XG:=Bc.2.1
def WW:=Bc.2.2
theorem LU:(∀(o:O26)(m:Int)(y n:Int)(l:Bool)(d e:Int)(D f:Int)
  (HA:Yes m 28 #[o.t] (.tuple #[.agg #[y,n,l,d],e]))
  (HB:Yes m 29 #[.agg #[y,n,l,d]] (.tuple #[D,f])),Yes m 13 #[o.v] (A26.v (if e=0 then(if f=0 then {n:=D,y:=y,m:=n,l:=l,d:=d}else {e:=f})else {e:=e})))/\(∀(o:O26)(m:Int)(y n:Int)(l:Bool)(d e:Int)(f:Int)(t:ByteArray)
  (HA:Yes m 34 #[o.t] (.tuple #[.agg #[y,n,l,d],e]))
  (HB:Yes m 35 #[.agg #[y,n,l,d]] (.tuple #[t,f])),Yes m 16 #[o.v] (A26.v (if e=0 then(if f=0 then {y:=y,m:=n,l:=l,d:=d,t:=t}else {e:=f})else {e:=e}))):=by
 refine⟨@fun o m y n l d e D f HA HB=>(fun(k90:Nat)=> ?_) 0,@fun o m y n l d e f t HA HB=> ?_⟩
 all_goals(
 intro w hT
 unfold O26.v
 first|(have _:=k90;go_enter (vF Tryz.func13),Tryz.ntmps13)|(go_enter (vF Tryz.func16),Tryz.ntmps16)
 go_wp2_with fail
 refine ca (HA _ (hT.below bel)) fun w1 hb1 hz1 hc1 hf1=> ?_
 have hR1:Row w1 (w.1.size+1) 39 (A26.c {}):=(hb1.block _ vS).trans (al1 _ _ _)
 try simp at hz1
 have hs1:w.1.size<w1.1.size:=vO
 by_cases h1:e=0
 ·subst h1
  go_wp2_with fail
  refine ca (HB _ (hT.below bel)) fun w2 hb2 hz2 hc2 hf2=> ?_
  have hR2:=(hR1.below (n:=w1.1.size) bel vO).below hb2 (by first|omega|(simp;omega))
  try simp at hz2
  have hs2:w.1.size<w2.1.size:=vO
  try have hs2x1:w1.1.size<w2.1.size:=vO
  have⟨g2w1h0,g2w1h1,g2w1h2,g2w1h3⟩:=ce4 hc2 (w1.1.size) y n l d
  by_cases h2:f=0
  ·subst h2
   go_wp2_with (refine wpList_store_row rfl _ _ _ rfl _ _ rfl rfl _ _ (hR2.below (n:=w2.1.size) bel vO) vK rfl vK ?_)
   first|(have _:=k90;refine bodyPost_ret (v:=A26.v {n:=D,y:=y,m:=n,l:=l,d:=d}) (results_cell_row rfl _ _ _ _ _ _ _ rfl (setRow_heap _ _ _ _ _ _ (hR2.below (n:=w2.1.size) bel vO)) (aB (aB Tryz.underlying39)) rfl vK) rfl ⟨by first|rfl|(simp [*];done), ?_⟩)|(refine bodyPost_ret (v:=A26.v {y:=y,m:=n,l:=l,d:=d,t:=t}) (results_cell_row rfl _ _ _ _ _ _ _ rfl (setRow_heap _ _ _ _ _ _ (hR2.below (n:=w2.1.size) bel vO)) (aB (aB Tryz.underlying39)) rfl vK) rfl ⟨by first|rfl|(simp [*];done), ?_⟩)
   exact below_setRow bel vO _
  ·have n2:(f !=0)=true:=bne_iff_ne.2 h2
   go_wp2_with fail
   refine ca (fu f _) fun w3 hb3 hz3 hc3 hf3=> ?_
   have hR3:=(hR2.below (n:=w2.1.size) bel vO).below hb3 (by first|omega|(simp;omega))
   go_wp2_with (refine wpList_store_row rfl _ _ _ rfl _ _ rfl rfl _ _ hR3 vK rfl vK ?_)
   refine bodyPost_ret (v:=A26.v {e:=f}) (results_cell_row rfl _ _ _ _ _ _ _ rfl (setRow_heap _ _ _ _ _ _ hR3) (aB (aB Tryz.underlying39)) rfl vK) rfl ⟨by first|rfl|(simp [*];done), ?_⟩
   exact below_setRow bel vO _
 ·have n1:(e !=0)=true:=bne_iff_ne.2 h1
  go_wp2_with fail
  refine ca (fu e _) fun w2 hb2 hz2 hc2 hf2=> ?_
  have hR2:=(hR1.below (n:=w1.1.size) bel vO).below hb2 (by first|omega|(simp;omega))
  go_wp2_with (refine wpList_store_row rfl _ _ _ rfl _ _ rfl rfl _ _ hR2 vK rfl vK ?_)
  refine bodyPost_ret (v:=A26.v {e:=e}) (results_cell_row rfl _ _ _ _ _ _ _ rfl (setRow_heap _ _ _ _ _ _ hR2) (aB (aB Tryz.underlying39)) rfl vK) rfl ⟨by first|rfl|(simp [*];done), ?_⟩
  exact below_setRow bel vO _
 )
def Y6:=LU.1
def Zl:=LU.2
theorem U1:(∀(o:O26)(m:Int)(y n:Int)(l:Bool)(d e:Int)(ry rn:Int)(rl:Bool)(rd f:Int)(X:A26)
  (HA:Yes m 28 #[o.t] (.tuple #[.agg #[y,n,l,d],e]))
  (HB:Yes m 36 #[.agg #[y,n,l,d],.agg #[o.p,o.q,o.r,o.s],o.a] (.tuple #[.agg #[ry,rn,rl,rd],f]))
  (HD:Yes m 30 #[.agg #[ry,rn,rl,rd],f] X.v),Yes m 17 #[o.v] (A26.v (if e=0 then X else {e:=e})))/\(∀(o:O26)(m:Int)(y n:Int)(l:Bool)(d e:Int)(ry rn:Int)(rl:Bool)(rd f:Int)(X:A26)(K g:Nat)
  (HA:Yes m 28 #[o.t] (.tuple #[.agg #[y,n,l,d],e]))
  (HB:Yes m K #[.agg #[y,n,l,d],o.a] (.tuple #[.agg #[ry,rn,rl,rd],f]))
  (HD:Yes m 30 #[.agg #[ry,rn,rl,rd],f] X.v) (w:World) (hT:Tbs w m) (hg:w.cell? ⟨g,0,none⟩=some (.func (.func K) #[] #[])) (hgs:g<w.1.size) (hK:∀a (w:World),(callFunc K a).run Tryo.prog w= .ok (.enter K a) w),Calls Tryo.prog 39 #[o.v,.pointer (some ⟨g,0,none⟩)] w fun e' w'=>e'= .returned (A26.v (if e=0 then X else {e:=e}))/\Below w.1.size w w'):=by
 refine⟨@fun o m y n l d e ry rn rl rd f X HA HB HD=>(fun(k90:Nat)=> ?_) 0,@fun o m y n l d e ry rn rl rd f X K g HA HB HD w hT hg hgs hK=> ?_⟩
 all_goals(
 first|(have _:=k90;intro w hT)|(skip)
 unfold O26.v
 first|(have _:=k90;go_enter (vF Tryz.func17),Tryz.ntmps17)|(go_enter (vF Tryz.func39),Tryz.ntmps39)
 go_wp2_with fail
 refine ca (HA _ (hT.below bel)) fun w1 hb1 hz1 hc1 hf1=> ?_
 have hR1:Row w1 (w.1.size+1) 39 (A26.c {}):=(hb1.block _ vS).trans (al1 _ _ _)
 try simp at hz1
 have hs1:w.1.size<w1.1.size:=vO
 by_cases h1:e=0
 ·subst h1
  have g1whe1:w1.cell? ⟨w.1.size,1,none⟩=some (o.a:vV):=cel hc1
  first|(have _:=k90;(have g1whe5:w1.cell? ⟨w.1.size,5,none⟩=some (o.p:vV):=cel hc1);(have g1whe6:w1.cell? ⟨w.1.size,6,none⟩=some (o.q:vV):=cel hc1);(have g1whe7:w1.cell? ⟨w.1.size,7,none⟩=some (o.r:vV):=cel hc1);(have g1whe8:w1.cell? ⟨w.1.size,8,none⟩=some (o.s:vV):=cel hc1))|((have hgs1:g<w1.1.size:=by omega);(have gg:w1.cell? ⟨g,0,none⟩=some (.func (.func K) #[] #[]):=cel hc1))
  go_wp2_with fail
  refine ca (HB _ (hT.below bel)) fun w2 hb2 hz2 hc2 hf2=> ?_
  have hR2:=(hR1.below (n:=w1.1.size) bel vO).below hb2 (by first|omega|(simp;omega))
  try simp at hz2
  have hs2:w.1.size<w2.1.size:=vO
  try have hs2x1:w1.1.size<w2.1.size:=vO
  go_wp2_with fail
  refine ca (HD _ (hT.below bel)) fun w3 hb3 hz3 hc3 hf3=> ?_
  have hR3:=(hR2.below (n:=w2.1.size) bel vO).below hb3 (by first|omega|(simp;omega))
  try simp at hz3
  have hs3:w.1.size<w3.1.size:=vO
  try have hs3x1:w1.1.size<w3.1.size:=vO
  try have hs3x2:w2.1.size<w3.1.size:=vO
  go_wp2_with (refine wpList_store_row rfl _ _ _ rfl _ _ rfl rfl _ _ (hR3.below (n:=w3.1.size) bel vO) vK rfl vK ?_)
  refine bodyPost_ret (v:=A26.v X) (results_cell_row rfl _ _ _ _ _ _ _ rfl (setRow_heap _ _ _ _ _ _ (hR3.below (n:=w3.1.size) bel vO)) (aB (aB Tryz.underlying39)) rfl vK) rfl ⟨by first|rfl|(simp [*];done), ?_⟩
  exact below_setRow bel vO _
 ·have n1:(e !=0)=true:=bne_iff_ne.2 h1
  go_wp2_with fail
  refine ca (fu e _) fun w2 hb2 hz2 hc2 hf2=> ?_
  have hR2:=(hR1.below (n:=w1.1.size) bel vO).below hb2 (by first|omega|(simp;omega))
  go_wp2_with (refine wpList_store_row rfl _ _ _ rfl _ _ rfl rfl _ _ hR2 vK rfl vK ?_)
  refine bodyPost_ret (v:=A26.v {e:=e}) (results_cell_row rfl _ _ _ _ _ _ _ rfl (setRow_heap _ _ _ _ _ _ hR2) (aB (aB Tryz.underlying39)) rfl vK) rfl ⟨by first|rfl|(simp [*];done), ?_⟩
  exact below_setRow bel vO _
 )
def sum26:=U1.1
def UR:=U1.2
theorem Y8(o:O26)(m:Int)(cy cm cd e N f:Int)(y n:Int)(l:Bool)(d h:Int)
  (HA:Yes m 32 #[o.t] (.tuple #[.agg #[cy,cm,cd],e]))
  (HB:Yes m 33 #[.agg #[cy,cm,cd]] (.tuple #[N,f]))
  (HC:Yes m 31 #[N] (.tuple #[.agg #[y,n,l,d],h])):
  Yes m 15 #[o.v] (A26.v (if e=0 then(if f=0 then(if h=0 then {n:=N,y:=y,m:=n,l:=l,d:=d,cy:=cy,cm:=cm,cd:=cd}else {e:=h})else {e:=f})else {e:=e})):=by
 intro w hT
 unfold O26.v
 go_enter (vF Tryz.func15),Tryz.ntmps15
 go_wp2_with fail
 refine ca (HA _ (hT.below bel)) fun w1 hb1 hz1 hc1 hf1=> ?_
 have hR1:Row w1 (w.1.size+1) 39 (A26.c {}):=(hb1.block _ vS).trans (al1 _ _ _)
 try simp at hz1
 have hs1:w.1.size<w1.1.size:=vO
 by_cases h1:e=0
 ·subst h1
  go_wp2_with fail
  refine ca (HB _ (hT.below bel)) fun w2 hb2 hz2 hc2 hf2=> ?_
  have hR2:=(hR1.below (n:=w1.1.size) bel vO).below hb2 (by first|omega|(simp;omega))
  try simp at hz2
  have hs2:w.1.size<w2.1.size:=vO
  try have hs2x1:w1.1.size<w2.1.size:=vO
  have g2w1h0:w2.cell? ⟨w1.1.size,0,none⟩=some (cy:vV):=cel hc2
  have g2w1h1:w2.cell? ⟨w1.1.size,1,none⟩=some (cm:vV):=cel hc2
  have g2w1h2:w2.cell? ⟨w1.1.size,2,none⟩=some (cd:vV):=cel hc2
  by_cases h2:f=0
  ·subst h2
   go_wp2_with fail
   refine ca (HC _ (hT.below bel)) fun w3 hb3 hz3 hc3 hf3=> ?_
   have hR3:=(hR2.below (n:=w2.1.size) bel vO).below hb3 (by first|omega|(simp;omega))
   try simp at hz3
   have hs3:w.1.size<w3.1.size:=vO
   try have hs3x1:w1.1.size<w3.1.size:=vO
   try have hs3x2:w2.1.size<w3.1.size:=vO
   have g3w1h0:w3.cell? ⟨w1.1.size,0,none⟩=some (cy:vV):=cel hc3
   have g3w1h1:w3.cell? ⟨w1.1.size,1,none⟩=some (cm:vV):=cel hc3
   have g3w1h2:w3.cell? ⟨w1.1.size,2,none⟩=some (cd:vV):=cel hc3
   by_cases h3:h=0
   ·subst h3
    go_wp2_with (refine wpList_store_row rfl _ _ _ rfl _ _ rfl rfl _ _ (hR3.below (n:=w3.1.size) bel vO) vK rfl vK ?_)
    refine bodyPost_ret (v:=A26.v {n:=N,y:=y,m:=n,l:=l,d:=d,cy:=cy,cm:=cm,cd:=cd}) (results_cell_row rfl _ _ _ _ _ _ _ rfl (setRow_heap _ _ _ _ _ _ (hR3.below (n:=w3.1.size) bel vO)) (aB (aB Tryz.underlying39)) rfl vK) rfl ⟨by first|rfl|(simp [*];done), ?_⟩
    exact below_setRow bel vO _
   ·have n3:(h !=0)=true:=bne_iff_ne.2 h3
    go_wp2_with fail
    refine ca (fu h _) fun w4 hb4 hz4 hc4 hf4=> ?_
    have hR4:=(hR3.below (n:=w3.1.size) bel vO).below hb4 (by first|omega|(simp;omega))
    go_wp2_with (refine wpList_store_row rfl _ _ _ rfl _ _ rfl rfl _ _ hR4 vK rfl vK ?_)
    refine bodyPost_ret (v:=A26.v {e:=h}) (results_cell_row rfl _ _ _ _ _ _ _ rfl (setRow_heap _ _ _ _ _ _ hR4) (aB (aB Tryz.underlying39)) rfl vK) rfl ⟨by first|rfl|(simp [*];done), ?_⟩
    exact below_setRow bel vO _
  ·have n2:(f !=0)=true:=bne_iff_ne.2 h2
   go_wp2_with fail
   refine ca (fu f _) fun w3 hb3 hz3 hc3 hf3=> ?_
   have hR3:=(hR2.below (n:=w2.1.size) bel vO).below hb3 (by first|omega|(simp;omega))
   go_wp2_with (refine wpList_store_row rfl _ _ _ rfl _ _ rfl rfl _ _ hR3 vK rfl vK ?_)
   refine bodyPost_ret (v:=A26.v {e:=f}) (results_cell_row rfl _ _ _ _ _ _ _ rfl (setRow_heap _ _ _ _ _ _ hR3) (aB (aB Tryz.underlying39)) rfl vK) rfl ⟨by first|rfl|(simp [*];done), ?_⟩
   exact below_setRow bel vO _
 ·have n1:(e !=0)=true:=bne_iff_ne.2 h1
  go_wp2_with fail
  refine ca (fu e _) fun w2 hb2 hz2 hc2 hf2=> ?_
  have hR2:=(hR1.below (n:=w1.1.size) bel vO).below hb2 (by first|omega|(simp;omega))
  go_wp2_with (refine wpList_store_row rfl _ _ _ rfl _ _ rfl rfl _ _ hR2 vK rfl vK ?_)
  refine bodyPost_ret (v:=A26.v {e:=e}) (results_cell_row rfl _ _ _ _ _ _ _ rfl (setRow_heap _ _ _ _ _ _ hR2) (aB (aB Tryz.underlying39)) rfl vK) rfl ⟨by first|rfl|(simp [*];done), ?_⟩
  exact below_setRow bel vO _
theorem WC(o:O26)(m:Int)(s1 s2:ByteArray)(ok:Bool)(y n:Int)(l:Bool)(d e:Int)(y2 n2:Int)(l2:Bool)(d2 f va vb vc vd h:Int)
  (HA:Yes m 37 #[o.t,.string ⟨#[32]⟩] (.tuple #[s1,s2,ok]))
  (HB:Yes m 28 #[s1] (.tuple #[.agg #[y,n,l,d],e]))
  (HC:Yes m 28 #[s2] (.tuple #[.agg #[y2,n2,l2,d2],f]))
  (HU:Yes m 38 #[.agg #[y,n,l,d],.agg #[y2,n2,l2,d2],o.a] (.tuple #[.agg #[va,vb,vc,vd],h])):
  Yes m 18 #[o.v] (A26.v (if ok=true then(if e=0 then(if f=0 then(if h=0 then {p:=va,q:=vb,r:=vc,s:=vd}else {e:=h})else {e:=f})else {e:=e})else {e:=5})):=by
 intro w hT
 unfold O26.v
 go_enter (vF Tryz.func18),Tryz.ntmps18
 go_wp2_with fail
 refine ca (HA _ (hT.below bel)) fun w1 hb1 hz1 hc1 hf1=> ?_
 have hR1:Row w1 (w.1.size+1) 39 (A26.c {}):=(hb1.block _ vS).trans (al1 _ _ _)
 try simp at hz1
 have hs1:w.1.size<w1.1.size:=vO
 have ga1:w1.cell? ⟨w.1.size,1,none⟩=some (o.a:vV):=cel hc1
 cases ok with
 | true=>
  go_wp2_with fail
  refine ca (HB _ (hT.below bel)) fun w2 hb2 hz2 hc2 hf2=> ?_
  have hR2:=(hR1.below (n:=w1.1.size) bel vO).below hb2 (by first|omega|(simp;omega))
  try simp at hz2
  have hs2:w.1.size<w2.1.size:=vO
  try have hs2x1:w1.1.size<w2.1.size:=vO
  have g2whe1:w2.cell? ⟨w.1.size,1,none⟩=some (o.a:vV):=cel hc2
  by_cases h2:e=0
  ·subst h2
   go_wp2_with fail
   refine ca (HC _ (hT.below bel)) fun w3 hb3 hz3 hc3 hf3=> ?_
   have hR3:=(hR2.below (n:=w2.1.size) bel vO).below hb3 (by first|omega|(simp;omega))
   try simp at hz3
   have hs3:w.1.size<w3.1.size:=vO
   try have hs3x1:w1.1.size<w3.1.size:=vO
   try have hs3x2:w2.1.size<w3.1.size:=vO
   have⟨g3w2h0,g3w2h1,g3w2h2,g3w2h3⟩:=ce4 hc3 (w2.1.size) y n l d
   have g3whe1:w3.cell? ⟨w.1.size,1,none⟩=some (o.a:vV):=cel hc3
   by_cases h3:f=0
   ·subst h3
    go_wp2_with fail
    refine ca (HU _ (hT.below bel)) fun w4 hb4 hz4 hc4 hf4=> ?_
    have hR4:=(hR3.below (n:=w3.1.size) bel vO).below hb4 (by first|omega|(simp;omega))
    try simp at hz4
    have hs4:w.1.size<w4.1.size:=vO
    try have hs4x1:w1.1.size<w4.1.size:=vO
    try have hs4x2:w2.1.size<w4.1.size:=vO
    try have hs4x3:w3.1.size<w4.1.size:=vO
    by_cases h4:h=0
    ·subst h4
     go_wp2_with (refine wpList_store_row rfl _ _ _ rfl _ _ rfl rfl _ _ (hR4.below (n:=w4.1.size) bel vO) vK rfl vK ?_)
     refine bodyPost_ret (v:=A26.v {p:=va,q:=vb,r:=vc,s:=vd}) (results_cell_row rfl _ _ _ _ _ _ _ rfl (setRow_heap _ _ _ _ _ _ (hR4.below (n:=w4.1.size) bel vO)) (aB (aB Tryz.underlying39)) rfl vK) rfl ⟨by first|rfl|(simp [*];done), ?_⟩
     exact below_setRow bel vO _
    ·have n4:(h !=0)=true:=bne_iff_ne.2 h4
     go_wp2_with fail
     refine ca (fu h _) fun w5 hb5 hz5 hc5 hf5=> ?_
     have hR5:=(hR4.below (n:=w4.1.size) bel vO).below hb5 (by first|omega|(simp;omega))
     go_wp2_with (refine wpList_store_row rfl _ _ _ rfl _ _ rfl rfl _ _ hR5 vK rfl vK ?_)
     refine bodyPost_ret (v:=A26.v {e:=h}) (results_cell_row rfl _ _ _ _ _ _ _ rfl (setRow_heap _ _ _ _ _ _ hR5) (aB (aB Tryz.underlying39)) rfl vK) rfl ⟨by first|rfl|(simp [*];done), ?_⟩
     exact below_setRow bel vO _
   ·have n3:(f !=0)=true:=bne_iff_ne.2 h3
    go_wp2_with fail
    refine ca (fu f _) fun w4 hb4 hz4 hc4 hf4=> ?_
    have hR4:=(hR3.below (n:=w3.1.size) bel vO).below hb4 (by first|omega|(simp;omega))
    go_wp2_with (refine wpList_store_row rfl _ _ _ rfl _ _ rfl rfl _ _ hR4 vK rfl vK ?_)
    refine bodyPost_ret (v:=A26.v {e:=f}) (results_cell_row rfl _ _ _ _ _ _ _ rfl (setRow_heap _ _ _ _ _ _ hR4) (aB (aB Tryz.underlying39)) rfl vK) rfl ⟨by first|rfl|(simp [*];done), ?_⟩
    exact below_setRow bel vO _
  ·have n2:(e !=0)=true:=bne_iff_ne.2 h2
   go_wp2_with fail
   refine ca (fu e _) fun w3 hb3 hz3 hc3 hf3=> ?_
   have hR3:=(hR2.below (n:=w2.1.size) bel vO).below hb3 (by first|omega|(simp;omega))
   go_wp2_with (refine wpList_store_row rfl _ _ _ rfl _ _ rfl rfl _ _ hR3 vK rfl vK ?_)
   refine bodyPost_ret (v:=A26.v {e:=e}) (results_cell_row rfl _ _ _ _ _ _ _ rfl (setRow_heap _ _ _ _ _ _ hR3) (aB (aB Tryz.underlying39)) rfl vK) rfl ⟨by first|rfl|(simp [*];done), ?_⟩
   exact below_setRow bel vO _
 |false=>
  go_wp2_with fail
  refine ca (fu 5 _) fun w2 hb2 hz2 hc2 hf2=> ?_
  have hR2:=(hR1.below (n:=w1.1.size) bel vO).below hb2 (by first|omega|(simp;omega))
  go_wp2_with (refine wpList_store_row rfl _ _ _ rfl _ _ rfl rfl _ _ hR2 vK rfl vK ?_)
  refine bodyPost_ret (v:=A26.v {e:=5}) (results_cell_row rfl _ _ _ _ _ _ _ rfl (setRow_heap _ _ _ _ _ _ hR2) (aB (aB Tryz.underlying39)) rfl vK) rfl ⟨by first|rfl|(simp [*];done), ?_⟩
  exact below_setRow bel vO _
end Go.Proofs.YtljbnicolhhicaaGreatDoor
