import Derived.Test.YtljbnicolhhicaaGreatDoorZRC
import Derived.Test.YtljbnicolhhicaaGreatDoorZNA
import Derived.Laws.CopyOwn
set_option maxHeartbeats 8000000
set_option maxRecDepth 100000
set_option linter.unusedSimpArgs false
set_option linter.unusedVariables false
namespace Go.Proofs.YtljbnicolhhicaaGreatDoor
open Go.ChangeShapes Go.WideShapes Go.ChangeAt Go.RowKit Go.Lib
structure O26 where
 k:Int
 a:Int
 b:Int
 c:Int
 l:Bool
 p:Int
 q:Int
 r:Int
 s:Int
 t:ByteArray
def O26.v(o:O26):Value:= .agg #[o.k,o.a,o.b,o.c,o.l,o.p,o.q,o.r,o.s,o.t]
structure O26.Ok(o:O26):Prop where
 k:I64 o.k
 a:I64 o.a
 b:I64 o.b
 p:I64 o.p
 q:I64 o.q
 r:I64 o.r
 s:I64 o.s
 t:o.t.size<=1000
structure A26 where
 e:Int:=0
 n:Int:=0
 y:Int:=0
 m:Int:=0
 l:Bool:=false
 d:Int:=0
 cy:Int:=0
 cm:Int:=0
 cd:Int:=0
 p:Int:=0
 q:Int:=0
 r:Int:=0
 s:Int:=0
 t:ByteArray:=⟨#[]⟩
def A26.c(x:A26):Array Value:= #[x.e,x.n,x.y,x.m,x.l,x.d,x.cy,x.cm,x.cd,x.p,x.q,x.r,x.s,x.t]
def A26.v(x:A26):Value:= .agg x.c
structure Tbs(w:World)(m:Int):Prop where
 T:Tab w 6 kevCells
 L:Tab w 4 lenCells
 F:Tab w 7 Fe.cells
 G:Tab w 1 Gr.gregCells
 N:Tab w 2 nameCells
 P:Tab w 3 powCells
 R:Tab w 0 Rd.nmCells
 I:Lib.TabIs Tryo.prog w "internal/strconv.uint64pow10" .u64 Lib.pow10Tab
 M:dG w m
theorem Tbs.below{w W:World}{m:Int}(h:Tbs w m)(hW:Below w.1.size w W):Tbs W m:=
 ⟨h.T.below hW,h.L.below hW,h.F.below hW,h.G.below hW,h.N.below hW,h.P.below hW,h.R.below hW,qH h.I hW,h.M.below hW⟩
def Yes(m:Int)(f:Nat)(args:Array Value)(v:Value):Prop:=∀W,Tbs W m->vB f args W v
theorem ca{P:Program}{f:Nat}{a:Array Value}{W:World}{v:Value}{R:Ending->World->Prop}(h:Calls P f a W fun e w'=>e= .returned v/\Below W.1.size W w')(k:∀w1,Below W.1.size W w1->W.1.size<=w1.1.size->(∀b o,b<W.1.size->w1.cell? ⟨b,o,none⟩=W.cell? ⟨b,o,none⟩)->(∀b o,b<W.1.size->w1.frozen? ⟨b,o,none⟩=W.frozen? ⟨b,o,none⟩)->R (.returned v) w1):Calls P f a W R:=
 h.mono (by rintro e w1 ⟨rfl,hb⟩;exact k w1 hb hb.size (aL hb).1 (aL hb).2)
theorem al0(w:World)(o:Obj):(w.alloc o).1[w.1.size]? =some o:=by
 show(w.1.push o)[w.1.size]? =_
 simp
theorem al1(w:World)(o p:Obj):((w.alloc o).alloc p).1[w.1.size+1]? =some p:=by
 have:=al0 (w.alloc o) p
 simpa using this
def Row(w:World)(b t:Nat)(c:Array Value):Prop:=w.1[b]? =some (.cells c t (0,0))
theorem Row.below{w W:World}{b t n:Nat}{c:Array Value}(h:Row w b t c)(hW:Below n w W)(hb:b<n):Row W b t c:=(hW.block b hb).trans h
theorem fu(e:Int)(w:World):Calls Tryo.prog 24 #[e] w fun e' w'=>e'= .returned (A26.v {e:=e})/\Below w.1.size w w':=by
 go_enter (vF Tryz.func24),Tryz.ntmps24
 go_wp2_with fail
 refine bodyPost_ret (v:=A26.v {e:=e}) (by simp [results,Tryz.results24,go_sem,A26.v,A26.c, *]) rfl ⟨rfl, ?_⟩
 exact ba _ _
theorem Yd(n e:Int)(w:World):Calls Tryo.prog 25 #[n,e] w fun e' w'=>e'= .returned (A26.v (if e=0 then {n:=n}else {e:=e}))/\Below w.1.size w w':=by
 by_cases h:e=0
 ·subst h
  go_enter (vF Tryz.func25),Tryz.ntmps25
  go_wp2_with fail
  refine bodyPost_ret (v:=A26.v {n:=n}) (by simp [results,Tryz.results25,go_sem,A26.v,A26.c, *]) rfl ⟨rfl, ?_⟩
  exact ba _ _
 ·have h1:(e !=0)=true:=bne_iff_ne.2 h
  rw [if_neg h]
  go_enter (vF Tryz.func25),Tryz.ntmps25
  go_wp2_with fail
  refine ca (fu e _) fun w1 hb1 hz1 hc1 hf1=> ?_
  have hR:Row w1 w.1.size 39 (A26.c {}):=(hb1.block _ vS).trans (al0 _ _)
  go_wp2_with (refine wpList_store_row rfl _ _ _ rfl _ _ rfl rfl _ _ hR vK rfl vK ?_)
  refine bodyPost_ret (v:=A26.v {e:=e}) (results_cell_row rfl _ _ _ _ _ _ _ rfl (setRow_heap _ _ _ _ _ _ hR) (aB (aB Tryz.underlying39)) rfl vK) rfl ⟨by first|rfl|(simp [*];done), ?_⟩
  exact below_setRow bel vO _
theorem aaq(y n:Int)(l:Bool)(d e f:Int)(s:ByteArray)(m:Int)(HA:Yes m 58 #[.agg #[y,n,l,d]] (.tuple #[s,f])):
  Yes m 30 #[.agg #[y,n,l,d],e] (A26.v (if e=0 then(if f=0 then {y:=y,m:=n,l:=l,d:=d,t:=s}else {e:=f})else {e:=e})):=by
 intro w hT
 by_cases h:e=0
 ·subst h
  rw [if_pos rfl]
  go_enter (vF Tryz.func30),Tryz.ntmps30
  go_wp2_with fail
  refine ca (HA _ (hT.below bel)) fun w1 hb1 hz1 hc1 hf1=> ?_
  have hR1:Row w1 (w.1.size+1) 39 (A26.c {}):=(hb1.block _ vS).trans (al1 _ _ _)
  simp at hz1
  by_cases h1:f=0
  ·subst h1
   have⟨g0,g1,g2,g3⟩:=ce4 hc1 (w.1.size) y n l d
   go_wp2_with (refine wpList_store_row rfl _ _ _ rfl _ _ rfl rfl _ _ hR1 vK rfl vK ?_)
   refine bodyPost_ret (v:=A26.v {y:=y,m:=n,l:=l,d:=d,t:=s}) (results_cell_row rfl _ _ _ _ _ _ _ rfl (setRow_heap _ _ _ _ _ _ hR1) (aB (aB Tryz.underlying39)) rfl vK) rfl ⟨by first|rfl|(simp [*];done), ?_⟩
   exact below_setRow bel vO _
  ·have h2:(f !=0)=true:=bne_iff_ne.2 h1
   go_wp2_with fail
   refine ca (fu f _) fun w2 hb2 hz2 hc2 hf2=> ?_
   have hR2:=(hR1.below (n:=w1.1.size) bel vO).below hb2 (by first|omega|(simp;omega))
   go_wp2_with (refine wpList_store_row rfl _ _ _ rfl _ _ rfl rfl _ _ hR2 vK rfl vK ?_)
   refine bodyPost_ret (v:=A26.v {e:=f}) (results_cell_row rfl _ _ _ _ _ _ _ rfl (setRow_heap _ _ _ _ _ _ hR2) (aB (aB Tryz.underlying39)) rfl vK) rfl ⟨by first|rfl|(simp [*];done), ?_⟩
   exact below_setRow bel vO _
 ·have h2:(e !=0)=true:=bne_iff_ne.2 h
  go_enter (vF Tryz.func30),Tryz.ntmps30
  go_wp2_with fail
  refine ca (fu e _) fun w1 hb1 hz1 hc1 hf1=> ?_
  have hR1:Row w1 (w.1.size+1) 39 (A26.c {}):=(hb1.block _ vS).trans (al1 _ _ _)
  simp at hz1
  go_wp2_with (refine wpList_store_row rfl _ _ _ rfl _ _ rfl rfl _ _ hR1 vK rfl vK ?_)
  refine bodyPost_ret (v:=A26.v {e:=e}) (results_cell_row rfl _ _ _ _ _ _ _ rfl (setRow_heap _ _ _ _ _ _ hR1) (aB (aB Tryz.underlying39)) rfl vK) rfl ⟨by first|rfl|(simp [*];done), ?_⟩
  exact below_setRow bel vO _
end Go.Proofs.YtljbnicolhhicaaGreatDoor
