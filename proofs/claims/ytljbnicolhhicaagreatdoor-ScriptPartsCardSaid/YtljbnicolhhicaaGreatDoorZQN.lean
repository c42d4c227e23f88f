import Derived.Test.YtljbnicolhhicaaGreatDoorZQw
set_option maxHeartbeats 8000000
set_option maxRecDepth 100000
set_option linter.unusedSimpArgs false
set_option linter.unusedVariables false
namespace Go.Proofs.YtljbnicolhhicaaGreatDoor
open Go.ChangeShapes Go.WideShapes Go.ChangeAt Go.RowKit Go.Lib
def O26.z:O26:=⟨0,0,0,0,false,0,0,0,0,⟨#[]⟩⟩
def O26.n:O26:=⟨99,0,0,0,false,0,0,0,0,⟨#[]⟩⟩
theorem O26.info:(Tryo.prog.info? 42).map (fun i=>(i.zero,i.size,i.bytes))=some (some (O26.v O26.z),10,88):=vK
def nn(j:Nat)(i:Nat):O26:=if i<j then O26.n else O26.z
def Lst(w:World)(g k:Nat)(f:Nat->O26):Prop:=(∀i<k,∀t u,(f i).c2[t]? =some u->w.cell? ⟨g,i*10+t,none⟩=some u)/\∀p,w.frozen? ⟨g,p,none⟩=false
theorem Lst.set{w:World}{g k j:Nat}(h:Lst w g k (nn j))(hj:j<k):Lst (w.setCell ⟨g,j*10,none⟩ (.int .i64 99)) g k (nn (j+1)):=by
 refine⟨fun i hi t u hu=> ?_,fun p=>by simpa using h.2 p⟩
 have ht:t<10:=by have:=(Array.getElem?_eq_some_iff.1 hu).1;simpa [O26.c2]using this
 have h0:w.cell? ⟨g,j*10,none⟩=some (.int .i64 (nn j j).k):=h.1 j hj 0 _ rfl
 by_cases e:i=j
 ·subst e
  by_cases e0:t=0
  ·subst e0
   have:u= .int .i64 99:=by simp [nn,O26.c2,O26.n]at hu;exact hu.symm
   subst this
   have:=World.cell?_setCell_same w ⟨g,i*10,none⟩ (.int .i64 99) h0
   simpa using this
  ·rw [World.cell?_setCell_other w ⟨g,i*10,none⟩ ⟨g,i*10+t,none⟩ _ (by intro h;simp at h;try omega)]
   refine h.1 i hi t u ?_
   rw [←hu]
   have:t=1∨t=2∨t=3∨t=4∨t=5∨t=6∨t=7∨t=8∨t=9:=vO
   rcases this with rfl|rfl|rfl|rfl|rfl|rfl|rfl|rfl|rfl <;> simp [nn,O26.c2,O26.n,O26.z]
 ·rw [World.cell?_setCell_other w ⟨g,j*10,none⟩ ⟨g,i*10+t,none⟩ _ (by intro h;simp at h;try omega)]
  refine h.1 i hi t u ?_
  rw [←hu]
  unfold nn
  by_cases c:i<j
  ·rw [if_pos c,if_pos vO]
  ·rw [if_neg c,if_neg vO]
theorem Lst.made{w:World}{g k c:Nat}(h:w.ownsRow g 42 10 (.slice (some ⟨g,0,none⟩) k c) k (madeCells (O26.v O26.z).cells (k*10)).toList):Lst w g k (nn 0):=by
 refine⟨fun i hi t u hu=> ?_,fun p=> ?_⟩
 ·have ht:t<10:=by have:=(Array.getElem?_eq_some_iff.1 hu).1;simpa [O26.c2]using this
  have h2:=World.ownsRow.cells h rfl (i*10+t) u (by
   rw [←hu]
   have hp:i*10+t<k*10:=vO
   have hm:(i*10+t) % 10=t:=vO
   have hc:(O26.v O26.z).cells.size=10:=rfl
   rw [Array.getElem?_toList]
   unfold madeCells
   rw [Array.getElem?_map,Array.getElem?_range,if_pos hp]
   simp only [Option.map_some,hc,hm]
   have:t=0∨t=1∨t=2∨t=3∨t=4∨t=5∨t=6∨t=7∨t=8∨t=9:=vO
   rcases this with rfl|rfl|rfl|rfl|rfl|rfl|rfl|rfl|rfl|rfl <;> rfl)
  rwa [Addr.add_lit,Nat.zero_add]at h2
 ·rcases h.2 with ⟨h0,_⟩|⟨g',cap,cur,e,hb,hg,_⟩
  ·cases h0
  ·cases e
   simp [World.frozen?,hg]
theorem Lst.head{w:World}{g k:Nat}(o:O26)(h:Lst w g k (nn k))(hk:0<k):Lst (w.setCells g 0 o.c2.toList) g k (fun i=>if i=0 then o else O26.n):=by
 refine⟨fun i hi t u hu=> ?_,fun p=>by rw [World.frozen?_setCells];exact h.2 p⟩
 by_cases e:i=0
 ·subst e
  replace hu:o.c2[t]? =some u:=by simpa using hu
  have ht:t<o.c2.toList.length:=by have:=(Array.getElem?_eq_some_iff.1 hu).1;simpa using this
  have h10:o.c2.toList.length=10:=rfl
  have:=World.cell?_setCells_in g o.c2.toList 0 w (fun j hj=>by
   rw [h10]at hj
   have hj2:j<(nn k 0).c2.size:=by simpa [O26.c2]using hj
   have:=h.1 0 hk j _ (Array.getElem?_eq_getElem hj2)
   simp only [Nat.zero_mul]at this
   rw [this];rfl) t ht
  simp only [Nat.zero_mul]
  rw [this]
  rw [←Array.getElem?_toList]at hu
  rw [List.getElem?_eq_getElem ht]at hu
  exact hu
 ·replace hu:O26.n.c2[t]? =some u:=by simpa [e]using hu
  have h10:o.c2.toList.length=10:=rfl
  rw [World.cell?_setCells_out g o.c2.toList 0 w ⟨g,i*10+t,none⟩ (fun _ _=>Or.inr (by show 0+o.c2.toList.length<=i*10+t;rw [h10];omega))]
  refine h.1 i hi t u ?_
  unfold nn
  rw [if_pos hi]
  exact hu
theorem A26.acy:∀ (l:List A26) (i t:Nat) (x:A26) (u:Value),l[i]? =some x->x.c[t]? =some u->(A26.flat l)[i*14+t]? =some u
 | [],i,t,x,u,h,_=>by simp at h
 | y :: r,i,t,x,u,h,hu=>by
  have ht:t<14:=by have:=(Array.getElem?_eq_some_iff.1 hu).1;simpa [A26.c]using this
  have hy:y.c.toList.length=14:=rfl
  show(y.c.toList++A26.flat r)[i*14+t]? =some u
  cases i with
  |zero=>
   simp at h
   subst h
   rw [List.getElem?_append_left (by rw [hy];omega),Nat.zero_mul,Nat.zero_add,Array.getElem?_toList]
   exact hu
  |succ i=>
   rw [List.getElem?_append_right (by rw [hy];omega),hy,show(i+1)*14+t-14=i*14+t by omega]
   exact A26.acy r i t x u (by simpa using h) hu
theorem acK{W:World}{o:Oper}{a:Act}{K:Act->Prop}(X:A26)(t:TypeId)(y:Operand)(b off:Nat)(ho:o.op= .load t y)(hp:a.eval y= .pointer (some ⟨b,off,none⟩))(hc:∀t u,X.c[t]? =some u->W.cell? ⟨b,off+t,none⟩=some u)(hb:b<W.1.size)
  (hag:∀w:World,(isAgg t).run Tryo.prog w= .ok true w) (hs:∀w:World,(sizeOf t).run Tryo.prog w= .ok 14 w) (hk:K (a.put o.dst (.agg X.c))):o.quiet Tryo.prog a (Below W.1.size W) K:=
 zF t y b off X.c.toList ho hp hag hs (fun j u hu=>hc j u (by simpa using hu)) hb hk
def Anss(w:World)(b:Nat)(xs:List A26):Prop:=∀ (j:Nat) (x:A26) (t:Nat) (u:Value),xs[j]? =some x->x.c[t]? =some u->w.cell? ⟨b,j*14+t,none⟩=some u
def Pan(w:World)(p:Option Addr)(xs:List A26):Prop:=xs= []∨∃b,p=some ⟨b,0,none⟩/\b<w.1.size/\Anss w b xs
theorem Pan.below{w W:World}{p:Option Addr}{xs:List A26}(h:Pan w p xs)(hW:Below w.1.size w W):Pan W p xs:=h.imp id fun⟨b,e,h0,h⟩=>⟨b,e,Nat.lt_of_lt_of_le h0 hW.size,fun j x t u h1 h2=>(hW.cell (p:=⟨b,j*14+t,none⟩) h0).trans (h j x t u h1 h2)⟩
def few(l:List O26):Bool:=decide (l.length<=60)&&l.all fun o=>decide (o.t.size<=200)
theorem adC(l:List O26)(p:Option Addr)(c:Nat)(w:World)(hm:l.length<=maxLen)(hP:Pop w p l):vC 4 #[.slice p l.length c,(60:Int)] w (.bool (few l)):=by
 simp only [maxLen]at hm
 by_cases h60:l.length<=60
 ·obtain⟨r,hr⟩:∃r,r=few l:=⟨_,rfl⟩
  rw [←hr]
  have d1:decide ((60:Int)<(l.length:Int))=false:=decide_eq_false vO
  have d2:¬ (60:Int)<(l.length:Int):=vO
  go_enter (vF Tryz.func4),Tryz.ntmps4
  go_wp2_with fail
  go_loopw [5] (fun i wr=>∃ (j:Nat),j<=l.length/\i= .int .i64 (j:Int)/\wr=w/\∀k o,k<j->l[k]? =some o->o.t.size<=200) (fun i _=>((l.length:Int)-intOf i).toNat)
  case atStart=>exact⟨0,vO,rfl,rfl,fun k o h=>by omega⟩
  case round=>
   obtain⟨j,hj,rfl,rfl,HL⟩:=hrel
   by_cases hlt:j<l.length
   ·obtain⟨o,hj2⟩:∃o,l[j]? =some o:=⟨_,List.getElem?_eq_getElem hlt⟩
    rcases hP with h0|⟨b,off,rfl,hO⟩
    ·subst h0;simp at hlt
    have r9:wr.cell? ⟨b,off+j*10+9,none⟩=some (.string o.t):=hO j o 9 _ hj2 rfl
    have dl:decide ((j:Int)<(l.length:Int))=true:=decide_eq_true vO
    have dl2:(j:Int)<(l.length:Int):=vO
    by_cases ht:o.t.size<=200
    ·have e1:decide ((200:Int)<(o.t.size:Int))=false:=decide_eq_false vO
     have e2:¬ (200:Int)<(o.t.size:Int):=vO
     have HL2:∀k o,k<j+1->l[k]? =some o->o.t.size<=200:=fun k o' hk h=>by
      by_cases e:k=j
      ·subst e;rw [hj2]at h;cases h;exact ht
      ·exact HL k o' vO h
     clear HL hO hj2
     go_wp2_with fail
     go_roundw
     case rel=>exact⟨j+1,vO,by first|rfl|(simp;done),by first|rfl|trivial,HL2⟩
     case measure=>simp [intOf];omega
    ·have e1:decide ((200:Int)<(o.t.size:Int))=true:=decide_eq_true vO
     have e2:(200:Int)<(o.t.size:Int):=vO
     have hr0:r=false:=by
      rw [hr]
      unfold few
      rw [Bool.and_eq_false_iff]
      exact .inr (List.all_eq_false.2 ⟨o,List.mem_of_getElem? hj2,by simpa using ht⟩)
     clear hr
     subst hr0
     clear HL hO hj2
     go_wp2_with fail
     go_ret
     exact⟨rfl,rfl⟩
   ·obtain rfl:j=l.length:=vO
    have dl:decide ((l.length:Int)<(l.length:Int))=false:=decide_eq_false vO
    have hr1:r=true:=by
     rw [hr]
     unfold few
     rw [Bool.and_eq_true]
     refine⟨decide_eq_true h60,List.all_eq_true.2 fun o ho=> ?_⟩
     obtain⟨k,hk,e⟩:=List.mem_iff_getElem.1 ho
     exact decide_eq_true (HL k o hk (by rw [List.getElem?_eq_getElem hk,e]))
    clear hr
    subst hr1
    clear HL hlt hP
    go_wp2_with fail
    go_ret
    exact⟨rfl,rfl⟩
 ·have hf:few l=false:=by unfold few;rw [Bool.and_eq_false_iff];exact .inl (decide_eq_false h60)
  rw [hf]
  have d1:decide ((60:Int)<(l.length:Int))=true:=decide_eq_true vO
  have d2:(60:Int)<(l.length:Int):=vO
  go_enter (vF Tryz.func4),Tryz.ntmps4
  go_wp2_with fail
  go_ret
  exact⟨rfl,rfl⟩
theorem ne26(X:A26)(W:World):(binOp .neq 39 X.v X.v).run Tryo.prog W= .ok (.bool false) W:=by
 unfold A26.v A26.c
 simp [go_sem]
theorem adF(xs:List A26)(p q:Option Addr)(c d:Nat)(w:World)(hm:xs.length<=1000)(hP:Pan w p xs)(hQ:Pan w q xs):vB 7 #[.slice p xs.length c,.slice q xs.length d] w (.bool true):=by
 go_enter (vF Tryz.func7),Tryz.ntmps7
 go_wp2_with fail
 go_loopw [5] (fun i wr=>∃ (j:Nat),j<=xs.length/\i= .int .i64 (j:Int)/\Below w.1.size w wr) (fun i _=>((xs.length:Int)-intOf i).toNat)
 case atStart=>exact⟨0,vO,rfl,Below.refl _ _⟩
 case round=>
  obtain⟨j,hj,rfl,hB⟩:=hrel
  by_cases hlt:j<xs.length
  ·obtain⟨x,hj2⟩:∃x,xs[j]? =some x:=⟨_,List.getElem?_eq_getElem hlt⟩
   have hP2:=hP.below hB
   have hQ2:=hQ.below hB
   clear hP hQ
   rcases hP2 with h0|⟨b,rfl,hb,hA⟩
   ·subst h0;simp at hlt
   rcases hQ2 with h0|⟨g,rfl,hg,hC⟩
   ·subst h0;simp at hlt
   have c0:∀off,off=j*14->∀t u,x.c[t]? =some u->wr.cell? ⟨b,off+t,none⟩=some u:=fun off e t u h=>by rw [e];exact hA j x t u hj2 h
   have c1:∀off,off=j*14->∀t u,x.c[t]? =some u->wr.cell? ⟨g,off+t,none⟩=some u:=fun off e t u h=>by rw [e];exact hC j x t u hj2 h
   have dl:decide ((j:Int)<(xs.length:Int))=true:=decide_eq_true vO
   have dl2:(j:Int)<(xs.length:Int):=vO
   have hE:=fun W=>ne26 x W
   dsimp only [A26.v,A26.c]at hE
   clear hA hC hj2
   go_wp2_with fail
   refine bP vK vK (fun hall=> ?_)
   repeat(first|go_big_quiet_skip|(go_big_quiet_want;first|(refine acK x _ _ _ _ rfl rfl (c0 _ (by first|omega|(simp;omega))) hb ?_ ?_ ?_;(focus (intro _;simp;done));(focus (intro _;simp;done));unfold A26.c;go_simp;go_big_quiet_on)|(refine acK x _ _ _ _ rfl rfl (c1 _ (by first|omega|(simp;omega))) hg ?_ ?_ ?_;(focus (intro _;simp;done));(focus (intro _;simp;done));unfold A26.c;go_simp;go_big_quiet_on)|(go_big_quiet_op;go_big_quiet_on)))
   refine wpQuiet_nil ?_
   clear hall
   intro x0 hx0
   go_wp2_with fail
   go_roundw
   case rel=>exact⟨j+1,vO,by first|rfl|(simp;done),hB.trans (hx0.mono hB.size)⟩
   case measure=>simp [intOf];omega
  ·obtain rfl:j=xs.length:=vO
   have dl:decide ((xs.length:Int)<(xs.length:Int))=false:=decide_eq_false vO
   clear hlt hP hQ
   go_wp2_with fail
   go_ret
   exact⟨rfl,hB⟩
end Go.Proofs.YtljbnicolhhicaaGreatDoor
