import Derived.Test.YthnjjcoahdhmnaaGreatDoorEDA
import Derived.Test.YthnjjcoahdhmnaaGreatDoorESB
import Derived.Test.YthnjjcoahdhmnaaGreatDoorEEV
import Derived.Test.YthnjjcoahdhmnaaGreatDoorEFO
import Derived.Test.YthnjjcoahdhmnaaGreatDoorESM
import Derived.Test.YthnjjcoahdhmnaaGreatDoorETK
set_option maxHeartbeats 8000000
set_option maxRecDepth 100000
set_option linter.unusedSimpArgs false
set_option linter.unusedVariables false
namespace Go.Proofs.YthnjjcoahdhmnaaGreatDoor
section
open Go.ChangeShapes Go.WideShapes Go.ChangeAt Go.RowKit Go.Lib Go.Sort Go.Shelf
theorem Sy(c1 c2 c3 om r1 r2 r3:Int)(w:World)(hT:Tab w 7 kevCells)(hL:Tab w 5 lenCells)(hF:Tab w 0 Fe.cells)(hA:Tab w 1 Fa.cells)(hG:Tab w 4 Gr.gregCells)
  (HA:Hid (∀w:World,Tab w 7 kevCells->Tab w 5 lenCells->Tab w 0 Fe.cells->Tab w 1 Fa.cells->Tab w 4 Gr.gregCells->Calls Tryo.prog 7 #[.int .i64 738999,.int .i64 0] w fun e w'=>∃v,e= .returned (.tuple #[.agg #[.int .i64 738999,.int .i64 5784,.int .i64 7,.bool false,.int .i64 15,.int .i64 c1,.int .i64 c2,.int .i64 c3,.int .i64 2,.int .i64 om,v,.int .i64 r1,.int .i64 r2,.int .i64 r3],.int .i64 0])/\Il.Row w' v [17]/\Below w.heap.size w w'))
  (HB:Hid (∀w:World,Calls Tryo.prog 7 #[.int .i64 738999,.int .i64 2] w fun e w'=>e= .returned (.tuple #[.agg #[.int .i64 0,.int .i64 0,.int .i64 0,.bool false,.int .i64 0,.int .i64 0,.int .i64 0,.int .i64 0,.int .i64 0,.int .i64 0,.slice none 0 0,.int .i64 0,.int .i64 0,.int .i64 0],.int .i64 1])/\Below w.heap.size w w')):
  Calls Tryo.prog 11 #[] w fun e w'=>e= .returned (.bool true)/\Below w.heap.size w w':=by
 go_enter Tryo.func11,Tryz.ntmps11
 go_wp2_with fail
 refine(HA.out _ (Tab.below hT bel) (Tab.below hL bel) (Tab.below hF bel) (Tab.below hA bel) (Tab.below hG bel)).mono ?_
 rintro e w1 ⟨v1,rfl,hr1,hb1⟩
 have hB1:Below w.heap.size w w1:=bel
 obtain⟨b,off,cc,rfl,hc⟩:=hr1.bH (by decide)
 have cx:=hc 0 17 rfl
 rw [Nat.add_zero]at cx
 have lb:=World.block_lt_of_cell? _ _ cx
 dsimp only at lb
 clear hr1 hc
 simp only [List.length_cons,List.length_nil,Nat.zero_add,Nat.reduceAdd]
 go_wp2_with fail
 refine(HB.out _).mono ?_
 rintro e w2 ⟨rfl,hb2⟩
 have hB2:Below w.heap.size w w2:=bel
 obtain⟨hc2,hf2⟩:=aA hb2
 have hz2:=hb2.size
 try simp at hz2
 have hl2_w1:w1.heap.size<w2.heap.size:=by omega
 have g2_w1_1:w2.cell? ⟨w1.heap.size,1,none⟩=some (.int .i64 5784):=cel hc2
 have g2_w1_2:w2.cell? ⟨w1.heap.size,2,none⟩=some (.int .i64 7):=cel hc2
 have g2_w1_3:w2.cell? ⟨w1.heap.size,3,none⟩=some (.bool false):=cel hc2
 have g2_w1_4:w2.cell? ⟨w1.heap.size,4,none⟩=some (.int .i64 15):=cel hc2
 have g2_w1_8:w2.cell? ⟨w1.heap.size,8,none⟩=some (.int .i64 2):=cel hc2
 have g2_w1_10:w2.cell? ⟨w1.heap.size,10,none⟩=some (.slice (some ⟨b,off,none⟩) 1 cc):=cel hc2
 have cx2:w2.cell? ⟨b,off,none⟩=some (.int .i64 17):=(hc2 _ _ (by simp;omega)).trans (by simp [go_sem, *])
 have lb2:b<w2.heap.size:=by omega
 clear hb2 hc2 hf2
 go_wp2_with fail
 go_ret
 exact⟨by first|rfl|(simp [*];done),bel⟩
theorem Dy.ZJ:Ev.on 738999 (Dy.evs 12 false (Cal.first 5784))= [17]/\D10.bO 5784 7 false 15=0/\D10.aC 5784 7 false 15=738999:=of_decide_eq_true (show decide (Ev.on 738999 (Dy.evs 12 false (Cal.first 5784))= [17]/\D10.bO 5784 7 false 15=0/\D10.aC 5784 7 false 15=738999)=true by decide+kernel)
theorem X4(w:World)(hT:Tab w 7 kevCells)(hL:Tab w 5 lenCells)(hF:Tab w 0 Fe.cells)(hA:Tab w 1 Fa.cells)(hG:Tab w 4 Gr.gregCells):
  Calls Tryo.prog 11 #[] w fun e w'=>e= .returned (.bool true)/\Below w.heap.size w w':=by
 obtain⟨e1,e2,e3⟩:=Dy.ZJ
 obtain⟨hv,hp⟩:=D10.jV e2
 have hpl:=D10.P9 _ _ _ hp
 have hday:D10.aS 5784 (Cal.plV (Cal.leap 5784) 7 false) 15=738999:=by
  have:D10.aC 5784 7 false 15=D10.aS 5784 (Cal.plV (Cal.leap 5784) 7 false) 15:=by unfold D10.aC;rw [if_pos e2]
  rw [←this,e3]
 obtain⟨r1,r2,r3,_,HS⟩:=YF false 5784 _ 15 12 Yr.YL hv
 rw [hday,hpl.2.2.1,hpl.2.2.2]at HS
 have HS':=HS.out
 unfold Dy.Y7 at HS'
 rw [e1]at HS'
 exact Sy _ _ _ _ r1 r2 r3 w hT hL hF hA hG (Lib.hid fun w hT hL hF hA hG=>HS' w hT hL hF hA hG) (Lib.hid fun w=>GN 738999 2 w (by decide) (by decide))
end
section
open Go.ChangeShapes Go.WideShapes Go.ChangeAt Go.RowKit Go.Lib Go.Sort Go.Shelf
theorem IG(p q:Option Addr)(n m c d:Nat)(w:World)(h:((n:Int)!=(m:Int))=true):
  Calls Tryo.prog 49 #[.slice p n c,.slice q m d] w fun e w'=>e= .returned (.bool false)/\Below w.heap.size w w':=by
 go_enter Tryo.func49,Tryz.ntmps49
 go_wp2_with fail
 go_ret
 exact⟨rfl,Below.refl _ _⟩
theorem DI(p q:Option Addr)(c d:Nat)(w:World):
  Calls Tryo.prog 49 #[.slice p 0 c,.slice q 0 d] w fun e w'=>e= .returned (.bool true)/\Below w.heap.size w w':=by
 go_enter Tryo.func49,Tryz.ntmps49
 go_wp2_with fail
 go_loopw [5] (fun i wr=>i= .int .i64 0/\wr=w) (fun _ _=>0)
 case atStart=>exact⟨rfl,rfl⟩
 case round=>
  obtain⟨rfl,rfl⟩:=hrel
  go_wp2_with fail
  go_ret
  exact⟨rfl,Below.refl _ _⟩
theorem Iy(b1 o1 c1 b2 o2 c2 n:Nat)(l m:List Int)(w:World)(hn:n<=100000)(hl:l.length=n)(hm:m.length=n)
  (H1:Hid (∀ (j:Nat) u,l[j]? =some u->w.cell? ⟨b1,o1+j,none⟩=some (.int .i64 u))) (H2:Hid (∀ (j:Nat) u,m[j]? =some u->w.cell? ⟨b2,o2+j,none⟩=some (.int .i64 u))) (vv:Bool) (HV:Hid (vv=decide (l=m))):
  Calls Tryo.prog 49 #[.slice (some ⟨b1,o1,none⟩) n c1,.slice (some ⟨b2,o2,none⟩) n c2] w fun e w'=>e= .returned (.bool vv)/\Below w.heap.size w w':=by
 go_enter Tryo.func49,Tryz.ntmps49
 go_wp2_with fail
 go_loopw [5] (fun i wr=>∃k:Nat,k<=n/\i= .int .i64 (k:Int)/\Hid (∀j,j<k->l[j]? =m[j]?)/\Below w.heap.size w wr) (fun i _=>n-(intOf i).toNat)
 case atStart=>exact⟨0,Nat.zero_le _,rfl,Lib.hid (fun j hj=>absurd hj (Nat.not_lt_zero _)),Below.refl _ _⟩
 case round=>
  obtain⟨k,hk,rfl,HE,hB⟩:=hrel
  by_cases hlt:k<n
  ·obtain⟨x,hx⟩:∃x,l[k]? =some x:=⟨_,List.getElem?_eq_getElem (by omega)⟩
   obtain⟨y,hy⟩:∃y,m[k]? =some y:=⟨_,List.getElem?_eq_getElem (by omega)⟩
   have cx1:=(hB.cell (World.block_lt_of_cell? w _ (H1.out k x hx))).trans (H1.out k x hx)
   have cy1:=(hB.cell (World.block_lt_of_cell? w _ (H2.out k y hy))).trans (H2.out k y hy)
   have lx:=World.block_lt_of_cell? wr _ cx1
   have ly:=World.block_lt_of_cell? wr _ cy1
   dsimp only at lx ly
   have k0:(0:Int)<=(k:Int):=by omega
   have k1:(k:Int)<(n:Int):=by omega
   have HXY:=Lib.hid (And.intro hx hy)
   have HL:=Lib.hid (And.intro hl hm)
   clear hx hy hl hm
   by_cases e:x=y
   ·subst e
    have hxx:(x !=x)=false:=by simp
    go_wp2_with fail
    refine aJ (by kernel_rfl) (by kernel_rfl) (fun hall=> ?_)
    repeat(first|go_big_quiet_skip|(go_big_quiet_want;first|(refine ql1 _ _ _ rfl rfl ?_;apply Exists.intro;refine⟨?_, ?_⟩;assumption;go_simp;go_big_quiet_on)|(refine ql2 _ _ _ _ rfl rfl ?_;apply Exists.intro;apply Exists.intro;refine⟨?_, ?_, ?_⟩;assumption;assumption;go_simp;go_big_quiet_on)|(refine ql3 _ _ _ _ rfl rfl ?_;apply Exists.intro;apply Exists.intro;apply Exists.intro;refine⟨?_, ?_, ?_, ?_⟩;assumption;assumption;assumption;go_simp;go_big_quiet_on)|(refine ql4 _ _ _ _ rfl rfl ?_;apply Exists.intro;apply Exists.intro;apply Exists.intro;apply Exists.intro;refine⟨?_, ?_, ?_, ?_, ?_⟩;assumption;assumption;assumption;assumption;go_simp;go_big_quiet_on)|(go_big_quiet_op;first|go_big_quiet_on|(apply Exists.intro;refine⟨fun x hx=> ?_, ?_⟩;(first|fail);go_big_quiet_on))))
    refine wpQuiet_nil ?_
    clear hall
    intro x6 hx6
    go_wp2_with fail
    go_roundw
    case rel=>exact⟨k+1,by omega,by go_num,Lib.hid (fun j hj=>by
      rcases Nat.lt_or_ge j k with c|c
      ·exact HE.out j c
      ·obtain rfl:j=k:=by omega
       rw [HXY.out.1,HXY.out.2]),bt hB hx6⟩
    case measure=>simp [intOf];omega
   ·have ev:vv=false:=by
     rw [HV.out,decide_eq_false]
     rintro rfl
     have:=HXY.out.1.symm.trans HXY.out.2
     simp only [Option.some.injEq]at this
     exact e this
    subst ev
    have hne:(x==y)=false:=by rw [beq_eq_false_iff_ne];exact e
    have hne2:(x !=y)=true:=by rw [bne_iff_ne];exact e
    have hne3:decide (x=y)=false:=decide_eq_false e
    go_wp2_with fail
    refine aJ (by kernel_rfl) (by kernel_rfl) (fun hall=> ?_)
    repeat(first|go_big_quiet_skip|(go_big_quiet_want;first|(refine ql1 _ _ _ rfl rfl ?_;apply Exists.intro;refine⟨?_, ?_⟩;assumption;go_simp;go_big_quiet_on)|(refine ql2 _ _ _ _ rfl rfl ?_;apply Exists.intro;apply Exists.intro;refine⟨?_, ?_, ?_⟩;assumption;assumption;go_simp;go_big_quiet_on)|(refine ql3 _ _ _ _ rfl rfl ?_;apply Exists.intro;apply Exists.intro;apply Exists.intro;refine⟨?_, ?_, ?_, ?_⟩;assumption;assumption;assumption;go_simp;go_big_quiet_on)|(refine ql4 _ _ _ _ rfl rfl ?_;apply Exists.intro;apply Exists.intro;apply Exists.intro;apply Exists.intro;refine⟨?_, ?_, ?_, ?_, ?_⟩;assumption;assumption;assumption;assumption;go_simp;go_big_quiet_on)|(go_big_quiet_op;first|go_big_quiet_on|(apply Exists.intro;refine⟨fun x hx=> ?_, ?_⟩;(first|fail);go_big_quiet_on))))
    refine wpQuiet_nil ?_
    clear hall
    intro x6 hx6
    go_wp2_with fail
    go_ret
    exact⟨rfl,bt hB hx6⟩
  ·obtain rfl:k=n:=by omega
   have ev:vv=true:=by
    rw [HV.out,decide_eq_true]
    apply List.ext_getElem?
    intro j
    rcases Nat.lt_or_ge j k with c|c
    ·exact HE.out j c
    ·rw [List.getElem?_eq_none (by omega),List.getElem?_eq_none (by omega)]
   subst ev
   go_wp2_with fail
   go_ret
   exact⟨rfl,hB⟩
theorem S9(v c:Value)(l m:List Int)(w:World)(h:Il.Row w v l)(h':Il.Row w c m)(hl:l.length<=100000):
  Calls Tryo.prog 49 #[v,c] w fun e w'=>e= .returned (.bool (decide (l=m)))/\Below w.heap.size w w':=by
 by_cases hn:l.length=m.length
 ·by_cases h0:0<l.length
  ·obtain⟨b1,o1,c1,rfl,hc1⟩:=h.bH h0
   obtain⟨b2,o2,c2,rfl,hc2⟩:=h'.bH (by omega)
   rw [←hn]
   exact Iy b1 o1 c1 b2 o2 c2 l.length l m w hl rfl hn.symm (Lib.hid hc1) (Lib.hid hc2) _ (Lib.hid rfl)
  ·have e1:l= []:=List.eq_nil_of_length_eq_zero (by omega)
   have e2:m= []:=List.eq_nil_of_length_eq_zero (by omega)
   subst e1;subst e2
   obtain⟨p,c1,rfl⟩:=h.len
   obtain⟨q,c2,rfl⟩:=h'.len
   exact DI p q c1 c2 w
 ·obtain⟨p,c1,rfl⟩:=h.len
  obtain⟨q,c2,rfl⟩:=h'.len
  rw [decide_eq_false (fun e=>hn (by rw [e]))]
  exact IG p q _ _ c1 c2 w (by rw [bne_iff_ne];omega)
theorem QX(p q:Option Addr)(n m c d:Nat)(w:World)(h:((n:Int)!=(m:Int))=true):
  Calls Tryo.prog 50 #[.slice p n c,.slice q m d] w fun e w'=>e= .returned (.bool false)/\Below w.heap.size w w':=by
 go_enter Tryo.func50,Tryz.ntmps50
 go_wp2_with fail
 go_ret
 exact⟨rfl,Below.refl _ _⟩
theorem Ho(p q:Option Addr)(c d:Nat)(w:World):
  Calls Tryo.prog 50 #[.slice p 0 c,.slice q 0 d] w fun e w'=>e= .returned (.bool true)/\Below w.heap.size w w':=by
 go_enter Tryo.func50,Tryz.ntmps50
 go_wp2_with fail
 go_loopw [13] (fun i wr=>i= .int .i64 0/\wr=w) (fun _ _=>0)
 case atStart=>exact⟨rfl,rfl⟩
 case round=>
  obtain⟨rfl,rfl⟩:=hrel
  go_wp2_with fail
  go_ret
  exact⟨rfl,Below.refl _ _⟩
theorem QL(b1 o1 c1 b2 o2 c2 n:Nat)(l m:List Int)(w:World)(hn:n<=100000)(hl:l.length=n)(hm:m.length=n)
  (H1:Hid (∀ (j:Nat) u,l[j]? =some u->w.cell? ⟨b1,o1+j,none⟩=some (.int .i64 u))) (H2:Hid (∀ (j:Nat) u,m[j]? =some u->w.cell? ⟨b2,o2+j,none⟩=some (.int .i64 u))) (vv:Bool) (HV:Hid (vv=decide (l=m))):
  Calls Tryo.prog 50 #[.slice (some ⟨b1,o1,none⟩) n c1,.slice (some ⟨b2,o2,none⟩) n c2] w fun e w'=>e= .returned (.bool vv)/\Below w.heap.size w w':=by
 go_enter Tryo.func50,Tryz.ntmps50
 go_wp2_with fail
 go_loopw [13] (fun i wr=>∃k:Nat,k<=n/\i= .int .i64 (k:Int)/\Hid (∀j,j<k->l[j]? =m[j]?)/\Below w.heap.size w wr) (fun i _=>n-(intOf i).toNat)
 case atStart=>exact⟨0,Nat.zero_le _,rfl,Lib.hid (fun j hj=>absurd hj (Nat.not_lt_zero _)),Below.refl _ _⟩
 case round=>
  obtain⟨k,hk,rfl,HE,hB⟩:=hrel
  by_cases hlt:k<n
  ·obtain⟨x,hx⟩:∃x,l[k]? =some x:=⟨_,List.getElem?_eq_getElem (by omega)⟩
   obtain⟨y,hy⟩:∃y,m[k]? =some y:=⟨_,List.getElem?_eq_getElem (by omega)⟩
   have cx1:=(hB.cell (World.block_lt_of_cell? w _ (H1.out k x hx))).trans (H1.out k x hx)
   have cy1:=(hB.cell (World.block_lt_of_cell? w _ (H2.out k y hy))).trans (H2.out k y hy)
   have lx:=World.block_lt_of_cell? wr _ cx1
   have ly:=World.block_lt_of_cell? wr _ cy1
   dsimp only at lx ly
   have k0:(0:Int)<=(k:Int):=by omega
   have k1:(k:Int)<(n:Int):=by omega
   have HXY:=Lib.hid (And.intro hx hy)
   have HL:=Lib.hid (And.intro hl hm)
   clear hx hy hl hm
   by_cases e:x=y
   ·subst e
    have hxx:(x !=x)=false:=by simp
    go_wp2_with fail
    refine aJ (by kernel_rfl) (by kernel_rfl) (fun hall=> ?_)
    repeat(first|go_big_quiet_skip|(go_big_quiet_want;first|(refine ql1 _ _ _ rfl rfl ?_;apply Exists.intro;refine⟨?_, ?_⟩;assumption;go_simp;go_big_quiet_on)|(refine ql2 _ _ _ _ rfl rfl ?_;apply Exists.intro;apply Exists.intro;refine⟨?_, ?_, ?_⟩;assumption;assumption;go_simp;go_big_quiet_on)|(refine ql3 _ _ _ _ rfl rfl ?_;apply Exists.intro;apply Exists.intro;apply Exists.intro;refine⟨?_, ?_, ?_, ?_⟩;assumption;assumption;assumption;go_simp;go_big_quiet_on)|(refine ql4 _ _ _ _ rfl rfl ?_;apply Exists.intro;apply Exists.intro;apply Exists.intro;apply Exists.intro;refine⟨?_, ?_, ?_, ?_, ?_⟩;assumption;assumption;assumption;assumption;go_simp;go_big_quiet_on)|(go_big_quiet_op;first|go_big_quiet_on|(apply Exists.intro;refine⟨fun x hx=> ?_, ?_⟩;(first|fail);go_big_quiet_on))))
    refine wpQuiet_nil ?_
    clear hall
    intro x6 hx6
    go_wp2_with fail
    go_roundw
    case rel=>exact⟨k+1,by omega,by go_num,Lib.hid (fun j hj=>by
      rcases Nat.lt_or_ge j k with c|c
      ·exact HE.out j c
      ·obtain rfl:j=k:=by omega
       rw [HXY.out.1,HXY.out.2]),bt hB hx6⟩
    case measure=>simp [intOf];omega
   ·have ev:vv=false:=by
     rw [HV.out,decide_eq_false]
     rintro rfl
     have:=HXY.out.1.symm.trans HXY.out.2
     simp only [Option.some.injEq]at this
     exact e this
    subst ev
    have hne:(x==y)=false:=by rw [beq_eq_false_iff_ne];exact e
    have hne2:(x !=y)=true:=by rw [bne_iff_ne];exact e
    have hne3:decide (x=y)=false:=decide_eq_false e
    go_wp2_with fail
    refine aJ (by kernel_rfl) (by kernel_rfl) (fun hall=> ?_)
    repeat(first|go_big_quiet_skip|(go_big_quiet_want;first|(refine ql1 _ _ _ rfl rfl ?_;apply Exists.intro;refine⟨?_, ?_⟩;assumption;go_simp;go_big_quiet_on)|(refine ql2 _ _ _ _ rfl rfl ?_;apply Exists.intro;apply Exists.intro;refine⟨?_, ?_, ?_⟩;assumption;assumption;go_simp;go_big_quiet_on)|(refine ql3 _ _ _ _ rfl rfl ?_;apply Exists.intro;apply Exists.intro;apply Exists.intro;refine⟨?_, ?_, ?_, ?_⟩;assumption;assumption;assumption;go_simp;go_big_quiet_on)|(refine ql4 _ _ _ _ rfl rfl ?_;apply Exists.intro;apply Exists.intro;apply Exists.intro;apply Exists.intro;refine⟨?_, ?_, ?_, ?_, ?_⟩;assumption;assumption;assumption;assumption;go_simp;go_big_quiet_on)|(go_big_quiet_op;first|go_big_quiet_on|(apply Exists.intro;refine⟨fun x hx=> ?_, ?_⟩;(first|fail);go_big_quiet_on))))
    refine wpQuiet_nil ?_
    clear hall
    intro x6 hx6
    go_wp2_with fail
    go_ret
    exact⟨rfl,bt hB hx6⟩
  ·obtain rfl:k=n:=by omega
   have ev:vv=true:=by
    rw [HV.out,decide_eq_true]
    apply List.ext_getElem?
    intro j
    rcases Nat.lt_or_ge j k with c|c
    ·exact HE.out j c
    ·rw [List.getElem?_eq_none (by omega),List.getElem?_eq_none (by omega)]
   subst ev
   go_wp2_with fail
   go_ret
   exact⟨rfl,hB⟩
theorem XB(v c:Value)(l m:List Int)(w:World)(h:Il.Row w v l)(h':Il.Row w c m)(hl:l.length<=100000):
  Calls Tryo.prog 50 #[v,c] w fun e w'=>e= .returned (.bool (decide (l=m)))/\Below w.heap.size w w':=by
 by_cases hn:l.length=m.length
 ·by_cases h0:0<l.length
  ·obtain⟨b1,o1,c1,rfl,hc1⟩:=h.bH h0
   obtain⟨b2,o2,c2,rfl,hc2⟩:=h'.bH (by omega)
   rw [←hn]
   exact QL b1 o1 c1 b2 o2 c2 l.length l m w hl rfl hn.symm (Lib.hid hc1) (Lib.hid hc2) _ (Lib.hid rfl)
  ·have e1:l= []:=List.eq_nil_of_length_eq_zero (by omega)
   have e2:m= []:=List.eq_nil_of_length_eq_zero (by omega)
   subst e1;subst e2
   obtain⟨p,c1,rfl⟩:=h.len
   obtain⟨q,c2,rfl⟩:=h'.len
   exact Ho p q c1 c2 w
 ·obtain⟨p,c1,rfl⟩:=h.len
  obtain⟨q,c2,rfl⟩:=h'.len
  rw [decide_eq_false (fun e=>hn (by rw [e]))]
  exact QX p q _ _ c1 c2 w (by rw [bne_iff_ne];omega)
end
section
open Go.ChangeShapes Go.WideShapes Go.ChangeAt Go.RowKit Go.Lib Go.Sort Go.Shelf
theorem IW(y p er:Int)(w:World)(her:er≠0)(HO:Hid (∀w:World,Calls Tryo.prog 38 #[.int .i64 y,.int .i64 p] w fun e w'=>e= .returned (.tuple #[.slice none 0 0,.int .i64 er])/\w=w')):
  Calls Tryo.prog 9 #[.int .i64 y,.int .i64 p] w fun e w'=>e= .returned (.tuple #[.slice none 0 0,.int .i64 er])/\Below w.heap.size w w':=by
 have d0:decide (er=0)=false:=decide_eq_false her
 go_enter Tryo.func9,Tryz.ntmps9
 go_wp2_with fail
 refine(HO.out _).mono ?_
 rintro e w' ⟨rfl,rfl⟩
 go_wp2_with fail
 go_ret2
 exact⟨rfl,bel⟩
theorem DR(y p er:Int)(w:World)(her:er≠0)(HO:Hid (∀w:World,Calls Tryo.prog 44 #[.int .i64 y,.int .i64 p] w fun e w'=>e= .returned (.tuple #[.slice none 0 0,.int .i64 er])/\w=w')):
  Calls Tryo.prog 10 #[.int .i64 y,.int .i64 p] w fun e w'=>e= .returned (.tuple #[.slice none 0 0,.int .i64 er])/\Below w.heap.size w w':=by
 have d0:decide (er=0)=false:=decide_eq_false her
 go_enter Tryo.func10,Tryz.ntmps10
 go_wp2_with fail
 refine(HO.out _).mono ?_
 rintro e w' ⟨rfl,rfl⟩
 go_wp2_with fail
 go_ret2
 exact⟨rfl,bel⟩
theorem Dy.ev_no(y p:Int)(hy:I64 y)(h:¬ ((1<=y/\y<=9999)/\(p=0∨p=1))):∃er:Int,er≠0/\Hid (∀w:World,Calls Tryo.prog 38 #[.int .i64 y,.int .i64 p] w fun e w'=>e= .returned (.tuple #[.slice none 0 0,.int .i64 er])/\w=w')/\Hid (∀w:World,Calls Tryo.prog 44 #[.int .i64 y,.int .i64 p] w fun e w'=>e= .returned (.tuple #[.slice none 0 0,.int .i64 er])/\w=w'):=by
 by_cases h0:p=0
 ·subst h0
  refine⟨2,by decide,Lib.hid fun w=> ?_,Lib.hid fun w=>IE y w hy (by omega)⟩
  by_cases c:y<1
  ·exact Bu y w c
  ·exact AU y w c (by omega)
 ·by_cases h1:p=1
  ·subst h1
   refine⟨2,by decide,Lib.hid fun w=> ?_,Lib.hid fun w=>I5 y w hy (by omega)⟩
   by_cases c:y<1
   ·exact Au y w c
   ·exact Bd y w c (by omega)
  ·exact⟨1,by decide,Lib.hid fun w=>OH y p w (by simpa using h0) (by simpa using h1),Lib.hid fun w=>KC y p w (by simpa using h0) (by simpa using h1)⟩
theorem DV(y pl:Int)(A B E G:List (Int×Int))(w:World)(hA':A.length<=60)(hB':B.length<=60)(hE':E.length<=60)(hG':G.length<=60)
  (HO:Hid (∀w:World,Calls Tryo.prog 44 #[.int .i64 y,.int .i64 pl] w fun e w'=>∃v,e= .returned (.tuple #[v,.int .i64 0])/\Ev.Own w' w.heap.size v A/\Below w.heap.size w w'))
  (HFa:Hid (∀w:World,Calls Tryo.prog 45 #[.int .i64 y] w fun e w'=>∃v,e= .returned (.tuple #[v,.int .i64 0])/\Ev.Own w' w.heap.size v B/\Below w.heap.size w w'))
  (HC:Hid (∀w:World,Calls Tryo.prog 46 #[.int .i64 y] w fun e w'=>∃v,e= .returned (.tuple #[v,.int .i64 0])/\Ev.Own w' w.heap.size v E/\Below w.heap.size w w'))
  (HS:Hid (∀w:World,Calls Tryo.prog 47 #[.int .i64 y] w fun e w'=>∃v,e= .returned (.tuple #[v,.int .i64 0])/\Ev.Own w' w.heap.size v G/\Below w.heap.size w w')):
  Calls Tryo.prog 10 #[.int .i64 y,.int .i64 pl] w fun e w'=>∃v,e= .returned (.tuple #[v,.int .i64 0])/\Ev.Own w' w.heap.size v (Ev.sort (A++(B++(E++G))))/\Below w.heap.size w w':=by
 go_enter Tryo.func10,Tryz.ntmps10
 go_wp2_with fail
 refine(HO.out _).mono ?_
 rintro e w1 ⟨v1,rfl,ho1,hb1⟩
 have hB01:Below w.heap.size w w1:=bel
 have hB1:Below w.heap.size w w1:=hB01
 go_wp2_with fail
 refine(HFa.out _).mono ?_
 rintro e w2 ⟨v2,rfl,ho2,hb2⟩
 have hB12:Below w1.heap.size w1 w2:=bel
 have hB2:Below w.heap.size w w2:=bt hB1 hB12
 go_wp2_with fail
 refine(HC.out _).mono ?_
 rintro e w3 ⟨v3,rfl,ho3,hb3⟩
 have hB23:Below w2.heap.size w2 w3:=bel
 have hB3:Below w.heap.size w w3:=bt hB2 hB23
 go_wp2_with fail
 refine(HS.out _).mono ?_
 rintro e w4 ⟨v4,rfl,ho4,hb4⟩
 have hB34:Below w3.heap.size w3 w4:=bel
 have hB4:Below w.heap.size w w4:=bt hB3 hB34
 have R1:=Lib.hid (((ho1.row.below hB12).below hB23).below hB34)
 have R2:=Lib.hid ((ho2.row.below hB23).below hB34)
 have R3:=Lib.hid (ho3.row.below hB34)
 have R4:=Lib.hid ho4.row
 clear ho1 ho2 ho3 ho4
 obtain⟨p1,c1,rfl⟩:=R1.out.len
 obtain⟨p2,c2,rfl⟩:=R2.out.len
 obtain⟨p3,c3,rfl⟩:=R3.out.len
 obtain⟨p4,c4,rfl⟩:=R4.out.len
 have hs4:=hB34.size
 go_wp2_with (at_builtin;first
  |(refine nQ rfl (.tmp 39) (.tmp 40) rfl w4.heap.size _ [] rfl (World.ownsRow_made w4 #[] 0 (Nat.le_refl _) (Nat.zero_le _) (by simp)) _ A rfl (R1.out.below (ba w4 _)) (by simp;omega) (by simp) ?_;intro v5 w5 ho5 hb5)
  |(refine nQ rfl (.tmp 41) (.tmp 42) rfl w4.heap.size _ ([]++A) rfl ho5 _ B rfl (R2.out.below (Below.trans (ba w4 _) hb5)) (by simp;omega) (by have:=hb5.size;simp at this;omega) ?_;intro v6 w6 ho6 hb6)
  |(refine nQ rfl (.tmp 43) (.tmp 44) rfl w4.heap.size _ ([]++A++B) rfl ho6 _ E rfl (R3.out.below (Below.trans (Below.trans (ba w4 _) hb5) hb6)) (by simp;omega) (by have:=hb5.size;have:=hb6.size;simp at*;omega) ?_;intro v7 w7 ho7 hb7)
  |(refine nQ rfl (.tmp 45) (.tmp 46) rfl w4.heap.size _ ([]++A++B++E) rfl ho7 _ G rfl (R4.out.below (Below.trans (Below.trans (Below.trans (ba w4 _) hb5) hb6) hb7)) (by simp;omega) (by have:=hb5.size;have:=hb6.size;have:=hb7.size;simp at*;omega) ?_;intro v8 w8 ho8 hb8))
 have hB48:Below w4.heap.size w4 w8:=Below.trans (Below.trans (Below.trans (Below.trans (ba w4 _) hb5) hb6) hb7) hb8
 have hB8:Below w.heap.size w w8:=bt hB4 hB48
 have R8:=Lib.hid ho8.row
 obtain⟨p8,c8,rfl⟩:=R8.out.len
 have hs8:=hB8.size
 refine(jf _ _ _ R8.out (by simp;omega)).mono ?_
 rintro e w9 ⟨v9,rfl,ho9,hb9⟩
 have hB89:Below w8.heap.size w8 w9:=bel
 go_wp2_with fail
 go_ret2
 refine⟨_,rfl, ?_,bt hB8 hB89⟩
 rw [show A++(B++(E++G))= []++A++B++E++G by simp]
 exact ho9.base hs8
theorem yA(y:Int)(i:Nat)(p:Bool)(w:World)(h:Yr.Is y i):
  Calls Tryo.prog 10 #[.int .i64 y,.int .i64 (if p then 1 else 0)] w fun e w'=>∃v,e= .returned (.tuple #[v,.int .i64 0])/\Ev.Own w' w.heap.size v (Dy.evs i p (Cal.first y))/\Below w.heap.size w w':=by
 obtain⟨a1,a2,a3,a4,a5⟩:=Dy.Xe h.2.2.1 p
 exact DV y _ _ _ _ _ w (by rw [List.length_map];exact a2) (by rw [List.length_map];exact a3) (by rw [List.length_map];exact a4) (by rw [List.length_map];exact a5)
  (Lib.hid fun w=>ql y i p w h) (Lib.hid fun w=>QY y i w h) (Lib.hid fun w=>QF y i w h) (Lib.hid fun w=>RO y i w h)
end
section
open Go.ChangeShapes Go.WideShapes Go.ChangeAt Go.RowKit Go.Lib Go.Sort Go.Shelf
theorem Ev.Own.but{g:Nat}{w w':World}{B:Nat}{v:Value}{l:List (Int×Int)}(h:Ev.Own w B v l)(hb:But g w w')(hg:g<B):Ev.Own w' B v l:=by
 refine World.ownsRow.kept h (row:=some g) ⟨hb.os,hb.tape,hb.output,hb.size,fun k hk hne=>hb.block k hk (fun e=>hne (by rw [e]))⟩ ?_
 rcases hv:v.ownBlock with _|k
 ·exact .inl rfl
 ·refine .inr fun e=> ?_
  have:=(World.ownsRow.lt h k hv).1
  cases e
  omega
theorem jJ.but{W W':World}{g g':Nat}{c:List Value}(h:jJ W g c)(hb:But g' W W')(hg:g≠g'):jJ W' g c:=
 ⟨fun j u hj=>(hb.cell h.2.2 hg).trans (h.1 j u hj),fun i=>(hb.frozen h.2.2 hg).trans (h.2.1 i),Nat.lt_of_lt_of_le h.2.2 hb.size⟩
theorem KV(D pl:Int)(w:World)(HP:Hid (∀w:World,Calls Tryo.prog 32 #[.int .i64 pl] w fun e w'=>e= .returned (.bool false)/\w=w')):
  Calls Tryo.prog 8 #[.int .i64 D,.int .i64 pl] w fun e w'=>e= .returned (.tuple #[.agg #[.int .i64 0,.int .i64 0,.int .i64 0,.bool false,.int .i64 0,.int .i64 0,.int .i64 0,.int .i64 0,.int .i64 0,.int .i64 0,.slice none 0 0,.int .i64 0,.int .i64 0,.int .i64 0],.int .i64 1])/\Below w.heap.size w w':=by
 have HZ:=Lib.hid (bN w [.int .i64 0,.int .i64 0,.int .i64 0,.bool false,.int .i64 0,.int .i64 0,.int .i64 0,.int .i64 0,.int .i64 0,.int .i64 0,.slice none 0 0,.int .i64 0,.int .i64 0,.int .i64 0] 34)
 have z0:=HZ.out.1 0 _ rfl
 have z1:=HZ.out.1 1 _ rfl
 have z2:=HZ.out.1 2 _ rfl
 have z3:=HZ.out.1 3 _ rfl
 have z4:=HZ.out.1 4 _ rfl
 have z5:=HZ.out.1 5 _ rfl
 have z6:=HZ.out.1 6 _ rfl
 have z7:=HZ.out.1 7 _ rfl
 have z8:=HZ.out.1 8 _ rfl
 have z9:=HZ.out.1 9 _ rfl
 have z10:=HZ.out.1 10 _ rfl
 have z11:=HZ.out.1 11 _ rfl
 have z12:=HZ.out.1 12 _ rfl
 have z13:=HZ.out.1 13 _ rfl
 have zf:=HZ.out.2.1
 have zs:=HZ.out.2.2
 clear HZ
 go_enter Tryo.func8,Tryz.ntmps8
 go_wp2_with fail
 refine(HP.out _).mono ?_
 rintro e w' ⟨rfl,rfl⟩
 go_wp2_with fail
 refine bodyPost_ret (v:= .tuple #[.agg #[.int .i64 0,.int .i64 0,.int .i64 0,.bool false,.int .i64 0,.int .i64 0,.int .i64 0,.int .i64 0,.int .i64 0,.int .i64 0,.slice none 0 0,.int .i64 0,.int .i64 0,.int .i64 0],.int .i64 1]) (by simp [results,Tryz.results8,go_sem, *]) rfl ?_
 refine⟨rfl, ?_⟩
 exact bel
theorem MC(D pl:Int)(w:World)(h:D< -1373427∨2278650<D)(HP:Hid (∀w:World,Calls Tryo.prog 32 #[.int .i64 pl] w fun e w'=>e= .returned (.bool true)/\w=w')):
  Calls Tryo.prog 8 #[.int .i64 D,.int .i64 pl] w fun e w'=>e= .returned (.tuple #[.agg #[.int .i64 0,.int .i64 0,.int .i64 0,.bool false,.int .i64 0,.int .i64 0,.int .i64 0,.int .i64 0,.int .i64 0,.int .i64 0,.slice none 0 0,.int .i64 0,.int .i64 0,.int .i64 0],.int .i64 2])/\Below w.heap.size w w':=by
 have HF:=Lib.hid (fun w=>nU D w h)
 clear h
 go_enter Tryo.func8,Tryz.ntmps8
 go_wp2_with fail
 refine(HP.out _).mono ?_
 rintro e w' ⟨rfl,rfl⟩
 go_wp2_with fail
 refine(HF.out _).mono ?_
 rintro e w1 ⟨rfl,hb1⟩
 have hB1:Below w.heap.size w w1:=bel
 have HZ:=Lib.hid ((bN w [.int .i64 0,.int .i64 0,.int .i64 0,.bool false,.int .i64 0,.int .i64 0,.int .i64 0,.int .i64 0,.int .i64 0,.int .i64 0,.slice none 0 0,.int .i64 0,.int .i64 0,.int .i64 0] 34).below hb1)
 have z0:=HZ.out.1 0 _ rfl
 have z1:=HZ.out.1 1 _ rfl
 have z2:=HZ.out.1 2 _ rfl
 have z3:=HZ.out.1 3 _ rfl
 have z4:=HZ.out.1 4 _ rfl
 have z5:=HZ.out.1 5 _ rfl
 have z6:=HZ.out.1 6 _ rfl
 have z7:=HZ.out.1 7 _ rfl
 have z8:=HZ.out.1 8 _ rfl
 have z9:=HZ.out.1 9 _ rfl
 have z10:=HZ.out.1 10 _ rfl
 have z11:=HZ.out.1 11 _ rfl
 have z12:=HZ.out.1 12 _ rfl
 have z13:=HZ.out.1 13 _ rfl
 have zf:=HZ.out.2.1
 have zs:=HZ.out.2.2
 clear HZ
 go_wp2_with fail
 refine bodyPost_ret (v:= .tuple #[.agg #[.int .i64 0,.int .i64 0,.int .i64 0,.bool false,.int .i64 0,.int .i64 0,.int .i64 0,.int .i64 0,.int .i64 0,.int .i64 0,.slice none 0 0,.int .i64 0,.int .i64 0,.int .i64 0],.int .i64 2]) (by simp [results,Tryz.results8,go_sem, *]) rfl ?_
 refine⟨rfl, ?_⟩
 exact bel
theorem Dy.h8{w9 W w8:World}{r:Option Nat}(hgrow:W.grownBy w8 r)(hW:Below w9.heap.size w9 W):But (r.getD W.heap.size) w9 w8:=by
 refine⟨hgrow.os.trans hW.os,hgrow.tape.trans hW.tape,hgrow.output.trans hW.output,Nat.le_trans hW.size hgrow.size,fun k hk hne=> ?_⟩
 refine(hgrow.block k (Nat.lt_of_lt_of_le hk hW.size) ?_).trans (hW.block k hk)
 intro e
 rw [←e]at hne
 exact hne rfl
theorem Dy.ab8{B g:Nat}{v:Value}{l:List Int}{c:List Value}{w7 w9 W w8:World}(hB:w7.heap.size=B)(hgB:g<B)(HO:Hid (Il.Own w9 B v l))(hgrow:W.grownBy w8 v.ownBlock)(hW:Below w9.heap.size w9 W)(HA:Hid (jJ w9 g c))(hbt:But g w7 w9):jJ w8 g c:=by
 have hlt:∀k,v.ownBlock=some k->B<=k:=fun k e=>(World.ownsRow.lt HO.out k e).1
 refine HA.out.but (Dy.h8 hgrow hW) ?_
 have hs:=hW.size
 have h9:=hbt.size
 cases e:v.ownBlock with
 |none=>simp;omega
 |some k=>have:=hlt k e;simp;omega
theorem Dy.put{D y n d c1 c2 c3 om r1 r2 r3 kd:Int}{lf:Bool}{L:List (Int×Int)}{j m g B:Nat}{v v8:Value}{w9 w8:World}{w7 W:World}(hB:w7.heap.size=B)(hgB:g<B)(hj:j<m)(HX:Hid (Ev.on D (L.take (j+1))=Ev.on D (L.take j)++ [kd]))(HO:Hid (Il.Own w9 B v (Ev.on D (L.take j))))
  (hown:w8.ownsRow B 3 1 v8 ((Ev.on D (L.take j)).length+1) (Il.vals (Ev.on D (L.take j))++ [.int .i64 kd])) (hgrow:W.grownBy w8 v.ownBlock) (hW:Below w9.heap.size w9 W) (HA8:Hid (jJ w8 g [.int .i64 D,.int .i64 y,.int .i64 n,.bool lf,.int .i64 d,.int .i64 c1,.int .i64 c2,.int .i64 c3,.int .i64 (D % 7),.int .i64 om,v,.int .i64 r1,.int .i64 r2,.int .i64 r3])) (hbt:But g w7 w9):
  ∃ (j':Nat) (v':Value),j'<=m/\Value.int .i64 ((j:Int)+1)= .int .i64 (j':Int)/\Hid (Il.Own (w8.setCell ⟨g,10,none⟩ v8) B v' (Ev.on D (L.take j')))/\Hid (jJ (w8.setCell ⟨g,10,none⟩ v8) g [.int .i64 D,.int .i64 y,.int .i64 n,.bool lf,.int .i64 d,.int .i64 c1,.int .i64 c2,.int .i64 c3,.int .i64 (D % 7),.int .i64 om,v',.int .i64 r1,.int .i64 r2,.int .i64 r3])/\But g w7 (w8.setCell ⟨g,10,none⟩ v8):=by
 have hown':Il.Own w8 B v8 (Ev.on D (L.take (j+1))):=by rw [HX.out];exact Il.aM rfl hown
 have hlt:∀k,v.ownBlock=some k->B<=k:=fun k e=>(World.ownsRow.lt HO.out k e).1
 have hbw:But g w7 w8:=But.grown (hbt.bt hW) hgrow (fun k e=>by rw [hB];exact hlt k e)
 exact⟨j+1,v8,hj,by simp,Lib.hid (Il.Own.VT hown' hgB),Lib.hid (HA8.out.set 10 v8 (by simp)),hbw.set 10 v8⟩
theorem Qn(D pl y n d:Int)(lf:Bool)(c1 c2 c3 om r1 r2 r3 er:Int)(L:List (Int×Int))(k:Nat)(w:World)(hl:L.length=k)(hk:k<=1000)(HP:Hid (∀w:World,Calls Tryo.prog 32 #[.int .i64 pl] w fun e w'=>e= .returned (.bool true)/\w=w'))
  (HF:Hid (∀w:World,Calls Tryo.prog 33 #[.int .i64 D] w fun e w'=>e= .returned (.tuple #[.agg #[.int .i64 y,.int .i64 n,.bool lf,.int .i64 d],.int .i64 0])/\Below w.heap.size w w'))
  (HE:Hid (∀w:World,Calls Tryo.prog 10 #[.int .i64 y,.int .i64 pl] w fun e w'=>∃v,e= .returned (.tuple #[v,.int .i64 0])/\Ev.Own w' w.heap.size v L/\Below w.heap.size w w'))
  (HGr:Hid (∀w:World,Calls Tryo.prog 35 #[.int .i64 D] w fun e w'=>e= .returned (.tuple #[.agg #[.int .i64 c1,.int .i64 c2,.int .i64 c3],.int .i64 0])/\Below w.heap.size w w'))
  (HO:Hid (∀w:World,Calls Tryo.prog 36 #[.int .i64 D] w fun e w'=>e= .returned (.tuple #[.int .i64 om,.int .i64 0])/\Below w.heap.size w w'))
  (HR:Hid (∀w:World,Calls Tryo.prog 37 #[.int .i64 D,.int .i64 pl] w fun e w'=>e= .returned (.tuple #[.agg #[.int .i64 r1,.int .i64 r2,.int .i64 r3],.int .i64 er])/\Below w.heap.size w w')):
  Calls Tryo.prog 8 #[.int .i64 D,.int .i64 pl] w fun e w'=>∃v,e= .returned (.tuple #[.agg #[.int .i64 D,.int .i64 y,.int .i64 n,.bool lf,.int .i64 d,.int .i64 c1,.int .i64 c2,.int .i64 c3,.int .i64 (D % 7),.int .i64 om,v,.int .i64 r1,.int .i64 r2,.int .i64 r3],.int .i64 0])/\Il.Row w' v (Ev.on D L)/\Below w.heap.size w w':=by
 have HWd:=Lib.hid (fun w=>bS D w)
 have HN:=Lib.hid hl
 obtain⟨i0,hi,iz0,iz1,iz2⟩:=info_parts ku
 clear hl
 go_enter Tryo.func8,Tryz.ntmps8
 go_wp2_with fail
 refine(HP.out _).mono ?_
 rintro e w' ⟨rfl,rfl⟩
 go_wp2_with fail
 refine(HF.out _).mono ?_
 rintro e w1 ⟨rfl,hb1⟩
 have hB1:Below w.heap.size w w1:=bel
 have A1:=Lib.hid ((bN w [.int .i64 0,.int .i64 0,.int .i64 0,.bool false,.int .i64 0,.int .i64 0,.int .i64 0,.int .i64 0,.int .i64 0,.int .i64 0,.slice none 0 0,.int .i64 0,.int .i64 0,.int .i64 0] 34).below hb1)
 have hz1:=hb1.size
 try simp at hz1
 go_upto_region 6 with fail
 refine settle (fun W=>W.cell? ⟨w1.heap.size,0,none⟩=some (.int .i64 y)/\W.cell? ⟨w1.heap.size,1,none⟩=some (.int .i64 n)/\W.cell? ⟨w1.heap.size,2,none⟩=some (.bool lf)/\W.cell? ⟨w1.heap.size,3,none⟩=some (.int .i64 d)/\w1.heap.size<W.heap.size/\Below w1.heap.size w1 W) ⟨?_, ?_, ?_, ?_, ?_, ?_⟩ ?_
 ·(first|(with_reducible assumption)|(simp [go_sem, *];done)|assumption)
 ·(first|(with_reducible assumption)|(simp [go_sem, *];done)|assumption)
 ·(first|(with_reducible assumption)|(simp [go_sem, *];done)|assumption)
 ·(first|(with_reducible assumption)|(simp [go_sem, *];done)|assumption)
 ·(first|assumption|(simp;done)|(simp;omega)|omega)
 ·(repeat(first|exact Below.refl _ _|assumption|(with_reducible refine bU ?_)|(with_reducible refine baa ?_ _)|(with_reducible refine bs ?_ (by first|exact Nat.le_refl _|omega|(simp;done)|(simp;omega)) _)|(with_reducible refine bt ?_ (by assumption))))
 rintro W2 ⟨r2x0,r2x1,r2x2,r2x3,rs2x0,hB2⟩
 have hB2':Below w.heap.size w W2:=bt hB1 hB2
 have A2:=Lib.hid (A1.out.below hB2)
 have hsz2:=hB2.size
 clear A1 HF HP
 go_cut [8]from 25 to 29 (fun A wx=>∃g:Nat,A= .pointer (some ⟨g,0,none⟩)/\Hid (jJ wx g [.int .i64 D,.int .i64 y,.int .i64 n,.bool lf,.int .i64 d,.int .i64 0,.int .i64 0,.int .i64 0,.int .i64 (D % 7),.int .i64 0,.slice none 0 0,.int .i64 0,.int .i64 0,.int .i64 0])/\W2.heap.size<=g/\Below W2.heap.size W2 wx)
 case first=>
  go_region_with (go_at_call 34;refine(HWd.out _).mono ?_;rintro e w' ⟨rfl,rfl⟩)
  all_goals(go_wp2_with fail;go_meet;exact⟨W2.heap.size,rfl,Lib.hid (by repeat(first|exact bN _ _ _|refine jJ.drew ?_)),Nat.le_refl _,bel⟩)
 case rest=>
  obtain⟨g,rfl,HA3,hg,hB23⟩:=hcut
  rename World=>w3
  have hB3:Below w.heap.size w w3:=bt hB2' hB23
  have hz3:=hB23.size
  clear HWd
  go_wp2_with fail
  refine(HGr.out _).mono ?_
  rintro e w4 ⟨rfl,hb4⟩
  have hB24:Below W2.heap.size W2 w4:=bt hB23 bel
  have HA4:=Lib.hid (HA3.out.below hb4)
  have x5:=HA4.out.1 5 _ rfl
  have x6:=HA4.out.1 6 _ rfl
  have x7:=HA4.out.1 7 _ rfl
  have xf:=HA4.out.2.1
  have xs:=HA4.out.2.2
  go_wp2_with fail
  refine(HO.out _).mono ?_
  rintro e w5 ⟨rfl,hb5⟩
  have HA5:=Lib.hid ((((HA4.out.set 5 (.int .i64 c1) (by simp)).set 6 (.int .i64 c2) (by simp)).set 7 (.int .i64 c3) (by simp)).below hb5)
  have hB25:Below W2.heap.size W2 w5:=bel
  clear x5 x6 x7 xf xs HA3 HA4
  have x9:=HA5.out.1 9 _ rfl
  have xf:=HA5.out.2.1
  have xs:=HA5.out.2.2
  go_wp2_with fail
  refine(HR.out _).mono ?_
  rintro e w6 ⟨rfl,hb6⟩
  have hB26:Below W2.heap.size W2 w6:=bel
  have HA6:=Lib.hid ((HA5.out.set 9 (.int .i64 om) (by simp)).below hb6)
  clear x9 xf xs HA5
  have x11:=HA6.out.1 11 _ rfl
  have x12:=HA6.out.1 12 _ rfl
  have x13:=HA6.out.1 13 _ rfl
  have xf:=HA6.out.2.1
  have xs:=HA6.out.2.2
  have q0:=(hB26.cell (p:=⟨w1.heap.size,0,none⟩) rs2x0).trans r2x0
  have hz6:=hB26.size
  have hng:w1.heap.size≠g:=by omega
  go_wp2_with fail
  refine(HE.out _).mono ?_
  rintro e w7 ⟨v7,rfl,ho7,hb7⟩
  have HA7:=Lib.hid ((((HA6.out.set 11 (.int .i64 r1) (by simp)).set 12 (.int .i64 r2) (by simp)).set 13 (.int .i64 r3) (by simp)).below hb7)
  have hB27:Below W2.heap.size W2 w7:=bel
  have hgs:g<w6.heap.size:=xs
  have hz67:=hb7.size
  try simp [World.setCell]at hz67
  have HE7:=Lib.hid (show Ev.Own w7 w6.heap.size v7 L by simpa [World.setCell]using ho7)
  obtain⟨p7,m7,cc7,rfl⟩:∃p m c,v7= .slice p m c:=⟨_,_,_,HE7.out.row.len.choose_spec.choose_spec⟩
  have hm7:m7=k:=by
   obtain⟨p,c,e⟩:=HE7.out.row.len
   simp only [Value.slice.injEq]at e
   rw [e.2.1,HN.out]
  subst hm7
  have A7:=Lib.hid (A2.out.below hB27)
  clear x11 x12 x13 xf xs HA6 ho7 HE HGr HO HR A2 q0
  go_wp2_with fail
  go_loopw [11] (fun i wr=>∃ (j:Nat) (v:Value),j<=m7/\i= .int .i64 (j:Int)/\Hid (Il.Own wr w7.heap.size v (Ev.on D (L.take j)))/\Hid (jJ wr g [.int .i64 D,.int .i64 y,.int .i64 n,.bool lf,.int .i64 d,.int .i64 c1,.int .i64 c2,.int .i64 c3,.int .i64 (D % 7),.int .i64 om,v,.int .i64 r1,.int .i64 r2,.int .i64 r3])/\But g w7 wr) (fun i _=>m7-(intOf i).toNat)
  case atStart=>exact⟨0,_,Nat.zero_le _,rfl,Lib.hid (Il.Own.nil _ _),HA7,But.of (Below.refl _ _)⟩
  case round=>
   obtain⟨j,v,hj,rfl,HO9,HA9,hbt⟩:=hrel
   obtain⟨pv,mv,cv,rfl⟩:∃p m c,v= .slice p m c:=⟨_,_,_,HO9.out.row.len.choose_spec.choose_spec⟩
   obtain⟨w9,rfl⟩:∃x,x=wr:=⟨_,rfl⟩
   have hs9:=hbt.size
   by_cases hlt:j<m7
   ·obtain⟨⟨kd,d'⟩,hx⟩:∃x,L[j]? =some x:=⟨_,List.getElem?_eq_getElem (by rw [HN.out];exact hlt)⟩
    obtain⟨b,off,cc,hp1,hc⟩:=(HE7.out.but hbt hgs).row.bH (by rw [HN.out];omega)
    rw [HN.out]at hp1
    simp only [Value.slice.injEq]at hp1
    obtain⟨rfl,_,rfl⟩:=hp1
    obtain⟨cx1,cx2⟩:=Ev.dW hc j (kd,d') hx
    have lx:=World.block_lt_of_cell? _ _ cx1
    dsimp only at lx cx1 cx2
    have j0:(0:Int)<=(j:Int):=by omega
    have j1:(j:Int)<(m7:Int):=by omega
    have hol:(Ev.on D (L.take j)).length<=1000:=Nat.le_trans (Ev.Tq _ _) (by rw [List.length_take];omega)
    have x10:=HA9.out.1 10 _ rfl
    have xf:=HA9.out.2.1
    have xs:=HA9.out.2.2
    by_cases c:d'=D
    ·have c:=c.symm
     subst c
     have HX:=Lib.hid (Ev.Xi hx)
     have c3:(D==D)=true:=by simp
     have HX7:Hid (w9.ownsRow w7.heap.size 3 1 (.slice pv mv cv) (Ev.on D (L.take j)).length (Il.vals (Ev.on D (L.take j)))):=Lib.hid HO9.out
     clear hc hx
     go_wp2_with fail
     go_region_law (refine bL rfl (.tmp 70) (.tmp 76) 30 rfl w7.heap.size 3 i0 (.int .i64 0) 1 8 (aI Tryz.underlying30) hi iz0 iz1 iz2 rfl (by decide) (.slice pv mv cv) (Ev.on D (L.take j)).length (Il.vals (Ev.on D (L.take j))) rfl (HX7.out.alloc _) ⟨w9.heap.size,0,none⟩ 1 1 [.int .i64 kd] rfl rfl (oP _ kd) (uR kd) (by simp only [maxLen];omega) (by omega) (by first|assumption|(simp;omega)|omega) ?_;intro v8 w8 hown8 hgrow8 hblk8;obtain⟨p8,m8,c8,rfl⟩:∃p m c,v8=Value.slice p m c:=⟨_,_,_,(Il.aM (x:=kd) rfl hown8).row.len.choose_spec.choose_spec⟩;have HA8:=Lib.hid (Dy.ab8 rfl (by omega) HO9 hgrow8 bel HA9 hbt);have q10:=HA8.out.1 10 _ rfl;have qf:=HA8.out.2.1;have qs:=HA8.out.2.2)
     all_goals go_wp2_with fail
     all_goals go_roundw
     all_goals first|exact Dy.put rfl (by omega) hlt HX HO9 hown8 hgrow8 bel HA8 hbt|(simp [intOf];omega)
    ·have HX:=Lib.hid (Ev.Y9 hx c)
     have c3:(d'==D)=false:=by simpa using c
     have c4:decide (d'=D)=false:=decide_eq_false c
     clear hc hx c
     go_wp2_with fail
     go_roundw
     case rel=>exact⟨j+1,_,hlt,by go_num,by rw [HX.out];exact HO9,HA9,hbt⟩
     case measure=>simp [intOf];omega
   ·obtain rfl:j=m7:=by omega
    have e9:L.take j=L:=List.take_of_length_le (by rw [HN.out];exact Nat.le_refl _)
    rw [e9]at HO9
    have HZ:=Lib.hid (A7.out.but hbt (by omega))
    have x0:=HA9.out.1 0 _ rfl
    have x1:=HA9.out.1 1 _ rfl
    have x2:=HA9.out.1 2 _ rfl
    have x3:=HA9.out.1 3 _ rfl
    have x4:=HA9.out.1 4 _ rfl
    have x5:=HA9.out.1 5 _ rfl
    have x6:=HA9.out.1 6 _ rfl
    have x7:=HA9.out.1 7 _ rfl
    have x8:=HA9.out.1 8 _ rfl
    have x9:=HA9.out.1 9 _ rfl
    have x10:=HA9.out.1 10 _ rfl
    have x11:=HA9.out.1 11 _ rfl
    have x12:=HA9.out.1 12 _ rfl
    have x13:=HA9.out.1 13 _ rfl
    have xf:=HA9.out.2.1
    have xs:=HA9.out.2.2
    have z0:=HZ.out.1 0 _ rfl
    have z1:=HZ.out.1 1 _ rfl
    have z2:=HZ.out.1 2 _ rfl
    have z3:=HZ.out.1 3 _ rfl
    have z4:=HZ.out.1 4 _ rfl
    have z5:=HZ.out.1 5 _ rfl
    have z6:=HZ.out.1 6 _ rfl
    have z7:=HZ.out.1 7 _ rfl
    have z8:=HZ.out.1 8 _ rfl
    have z9:=HZ.out.1 9 _ rfl
    have z10:=HZ.out.1 10 _ rfl
    have z11:=HZ.out.1 11 _ rfl
    have z12:=HZ.out.1 12 _ rfl
    have z13:=HZ.out.1 13 _ rfl
    have zf:=HZ.out.2.1
    have zs:=HZ.out.2.2
    have hB9:Below w.heap.size w w9:=hbt.below (bt hB2' hB27) (by omega)
    clear HA9 HZ A7
    go_wp2_with fail
    refine bodyPost_ret (v:= .tuple #[.agg #[.int .i64 D,.int .i64 y,.int .i64 n,.bool lf,.int .i64 d,.int .i64 c1,.int .i64 c2,.int .i64 c3,.int .i64 (D % 7),.int .i64 om,.slice pv mv cv,.int .i64 r1,.int .i64 r2,.int .i64 r3],.int .i64 0]) (by simp [results,Tryz.results8,go_sem, *]) rfl ?_
    refine⟨_,rfl,Il.Own.row (B:=w7.heap.size) ?_, ?_⟩
    ·repeat(with_reducible refine Il.Own.VT ?_ (by omega))
     with_reducible exact HO9.out
    ·exact bel
end
section
open Go.ChangeShapes Go.WideShapes Go.ChangeAt Go.RowKit Go.Lib Go.Sort Go.Shelf
namespace Dy
def eqv(a1:Int)(a2:Int)(a3:Int)(a5:Int)(a6:Int)(a7:Int)(a8:Int)(a9:Int)(a10:Int)(a11:Int)(a12:Int)(a13:Int)(a4:Bool)(c1:Int)(c2:Int)(c3:Int)(c5:Int)(c6:Int)(c7:Int)(c8:Int)(c9:Int)(c10:Int)(c11:Int)(c12:Int)(c13:Int)(c4:Bool)(LA LC:List Int):Bool:=(a1==c1)&&((a2==c2)&&((a3==c3)&&((a4==c4)&&(a5==c5))))&&((a6==c6)&&((a7==c7)&&(a8==c8)))&&(a9==c9)&&(a10==c10)&&decide (LA=LC)&&((a11==c11)&&((a12==c12)&&(a13==c13)))
theorem Xu(a1:Int)(a2:Int)(a3:Int)(a5:Int)(a6:Int)(a7:Int)(a8:Int)(a9:Int)(a10:Int)(a11:Int)(a12:Int)(a13:Int)(a4:Bool)(LA:List Int):eqv a1 a2 a3 a5 a6 a7 a8 a9 a10 a11 a12 a13 a4 a1 a2 a3 a5 a6 a7 a8 a9 a10 a11 a12 a13 a4 LA LA=true:=by simp [eqv]
theorem al2(w:World)(o:Obj)(c:List Value)(t:TypeId):jJ ((w.alloc o).alloc (.cells c.toArray t)) (w.heap.size+1) c:=by
 have:=bN (w.alloc o) c t
 simpa using this
end Dy
theorem Hq(a1:Int)(a2:Int)(a3:Int)(a5:Int)(a6:Int)(a7:Int)(a8:Int)(a9:Int)(a10:Int)(a11:Int)(a12:Int)(a13:Int)(a4:Bool)(c1:Int)(c2:Int)(c3:Int)(c5:Int)(c6:Int)(c7:Int)(c8:Int)(c9:Int)(c10:Int)(c11:Int)(c12:Int)(c13:Int)(c4:Bool)(LA LC:List Int)(v u:Value)(w:World)(tL:Bool)(hL:decide (LA=LC)=tL)
  (HI:Hid (∀ (x:World) (v u:Value),Il.Row x v LA->Il.Row x u LC->Calls Tryo.prog 49 #[v,u] x fun e w'=>e= .returned (.bool tL)/\Below x.heap.size x w')) (R1:Hid (Il.Row w v LA)) (R2:Hid (Il.Row w u LC)):
  Calls Tryo.prog 12 #[.agg #[.int .i64 a1,.int .i64 a2,.int .i64 a3,.bool a4,.int .i64 a5,.int .i64 a6,.int .i64 a7,.int .i64 a8,.int .i64 a9,.int .i64 a10,v,.int .i64 a11,.int .i64 a12,.int .i64 a13],.agg #[.int .i64 c1,.int .i64 c2,.int .i64 c3,.bool c4,.int .i64 c5,.int .i64 c6,.int .i64 c7,.int .i64 c8,.int .i64 c9,.int .i64 c10,u,.int .i64 c11,.int .i64 c12,.int .i64 c13]] w fun e w'=>e= .returned (.bool (Dy.eqv a1 a2 a3 a5 a6 a7 a8 a9 a10 a11 a12 a13 a4 c1 c2 c3 c5 c6 c7 c8 c9 c10 c11 c12 c13 c4 LA LC))/\Below w.heap.size w w':=by
 have HN:=Lib.hid hL
 clear hL
 cases tL
 all_goals(
  go_enter Tryo.func12,Tryz.ntmps12
  go_wp2_with (go_at_call 49;refine(HI.out _ _ _ (R1.out.below bel) (R2.out.below bel)).mono ?_;rintro e w' ⟨rfl,hb⟩;have HA:=Lib.hid ((bN w _ 34).below (bt (ba _ _) hb));have HC:=Lib.hid ((Dy.al2 w _ _ 34).below hb);have x11:=HA.out.1 11 _ rfl;have x12:=HA.out.1 12 _ rfl;have x13:=HA.out.1 13 _ rfl;have z11:=HC.out.1 11 _ rfl;have z12:=HC.out.1 12 _ rfl;have z13:=HC.out.1 13 _ rfl;have xf:=HA.out.2.1;have xs:=HA.out.2.2;have zf:=HC.out.2.1;have zs:=HC.out.2.2))
 all_goals go_ret
 all_goals refine⟨?_,bel⟩
 all_goals simp [Dy.eqv,HN.out, *]
theorem FL(a1:Int)(a2:Int)(a3:Int)(a5:Int)(a6:Int)(a7:Int)(a8:Int)(a9:Int)(a10:Int)(a11:Int)(a12:Int)(a13:Int)(a4:Bool)(c1:Int)(c2:Int)(c3:Int)(c5:Int)(c6:Int)(c7:Int)(c8:Int)(c9:Int)(c10:Int)(c11:Int)(c12:Int)(c13:Int)(c4:Bool)(LA LC:List Int)(v u:Value)(w:World)(ha:LA.length<=1000)(R1:Il.Row w v LA)(R2:Il.Row w u LC):
  Calls Tryo.prog 12 #[.agg #[.int .i64 a1,.int .i64 a2,.int .i64 a3,.bool a4,.int .i64 a5,.int .i64 a6,.int .i64 a7,.int .i64 a8,.int .i64 a9,.int .i64 a10,v,.int .i64 a11,.int .i64 a12,.int .i64 a13],.agg #[.int .i64 c1,.int .i64 c2,.int .i64 c3,.bool c4,.int .i64 c5,.int .i64 c6,.int .i64 c7,.int .i64 c8,.int .i64 c9,.int .i64 c10,u,.int .i64 c11,.int .i64 c12,.int .i64 c13]] w fun e w'=>e= .returned (.bool (Dy.eqv a1 a2 a3 a5 a6 a7 a8 a9 a10 a11 a12 a13 a4 c1 c2 c3 c5 c6 c7 c8 c9 c10 c11 c12 c13 c4 LA LC))/\Below w.heap.size w w':=
 Hq a1 a2 a3 a5 a6 a7 a8 a9 a10 a11 a12 a13 a4 c1 c2 c3 c5 c6 c7 c8 c9 c10 c11 c12 c13 c4 LA LC v u w _ rfl (Lib.hid fun x v u h1 h2=>S9 v u LA LC x h1 h2 (by omega)) (Lib.hid R1) (Lib.hid R2)
theorem Qw(a1:Int)(a2:Int)(a3:Int)(a5:Int)(a6:Int)(a7:Int)(a8:Int)(a9:Int)(a10:Int)(a11:Int)(a12:Int)(a13:Int)(a4:Bool)(c1:Int)(c2:Int)(c3:Int)(c5:Int)(c6:Int)(c7:Int)(c8:Int)(c9:Int)(c10:Int)(c11:Int)(c12:Int)(c13:Int)(c4:Bool)(LA LC:List Int)(v u:Value)(w:World)(tL:Bool)(hL:decide (LA=LC)=tL)
  (HI:Hid (∀ (x:World) (v u:Value),Il.Row x v LA->Il.Row x u LC->Calls Tryo.prog 50 #[v,u] x fun e w'=>e= .returned (.bool tL)/\Below x.heap.size x w')) (R1:Hid (Il.Row w v LA)) (R2:Hid (Il.Row w u LC)):
  Calls Tryo.prog 14 #[.agg #[.int .i64 a1,.int .i64 a2,.int .i64 a3,.bool a4,.int .i64 a5,.int .i64 a6,.int .i64 a7,.int .i64 a8,.int .i64 a9,.int .i64 a10,v,.int .i64 a11,.int .i64 a12,.int .i64 a13],.agg #[.int .i64 c1,.int .i64 c2,.int .i64 c3,.bool c4,.int .i64 c5,.int .i64 c6,.int .i64 c7,.int .i64 c8,.int .i64 c9,.int .i64 c10,u,.int .i64 c11,.int .i64 c12,.int .i64 c13]] w fun e w'=>e= .returned (.bool (Dy.eqv a1 a2 a3 a5 a6 a7 a8 a9 a10 a11 a12 a13 a4 c1 c2 c3 c5 c6 c7 c8 c9 c10 c11 c12 c13 c4 LA LC))/\Below w.heap.size w w':=by
 have HN:=Lib.hid hL
 clear hL
 cases tL
 all_goals(
  go_enter Tryo.func14,Tryz.ntmps14
  go_wp2_with (go_at_call 50;refine(HI.out _ _ _ (R1.out.below bel) (R2.out.below bel)).mono ?_;rintro e w' ⟨rfl,hb⟩;have HA:=Lib.hid ((bN w _ 34).below (bt (ba _ _) hb));have HC:=Lib.hid ((Dy.al2 w _ _ 34).below hb);have x11:=HA.out.1 11 _ rfl;have x12:=HA.out.1 12 _ rfl;have x13:=HA.out.1 13 _ rfl;have z11:=HC.out.1 11 _ rfl;have z12:=HC.out.1 12 _ rfl;have z13:=HC.out.1 13 _ rfl;have xf:=HA.out.2.1;have xs:=HA.out.2.2;have zf:=HC.out.2.1;have zs:=HC.out.2.2))
 all_goals go_ret
 all_goals refine⟨?_,bel⟩
 all_goals simp [Dy.eqv,HN.out, *]
theorem WU(a1:Int)(a2:Int)(a3:Int)(a5:Int)(a6:Int)(a7:Int)(a8:Int)(a9:Int)(a10:Int)(a11:Int)(a12:Int)(a13:Int)(a4:Bool)(c1:Int)(c2:Int)(c3:Int)(c5:Int)(c6:Int)(c7:Int)(c8:Int)(c9:Int)(c10:Int)(c11:Int)(c12:Int)(c13:Int)(c4:Bool)(LA LC:List Int)(v u:Value)(w:World)(ha:LA.length<=1000)(R1:Il.Row w v LA)(R2:Il.Row w u LC):
  Calls Tryo.prog 14 #[.agg #[.int .i64 a1,.int .i64 a2,.int .i64 a3,.bool a4,.int .i64 a5,.int .i64 a6,.int .i64 a7,.int .i64 a8,.int .i64 a9,.int .i64 a10,v,.int .i64 a11,.int .i64 a12,.int .i64 a13],.agg #[.int .i64 c1,.int .i64 c2,.int .i64 c3,.bool c4,.int .i64 c5,.int .i64 c6,.int .i64 c7,.int .i64 c8,.int .i64 c9,.int .i64 c10,u,.int .i64 c11,.int .i64 c12,.int .i64 c13]] w fun e w'=>e= .returned (.bool (Dy.eqv a1 a2 a3 a5 a6 a7 a8 a9 a10 a11 a12 a13 a4 c1 c2 c3 c5 c6 c7 c8 c9 c10 c11 c12 c13 c4 LA LC))/\Below w.heap.size w w':=
 Qw a1 a2 a3 a5 a6 a7 a8 a9 a10 a11 a12 a13 a4 c1 c2 c3 c5 c6 c7 c8 c9 c10 c11 c12 c13 c4 LA LC v u w _ rfl (Lib.hid fun x v u h1 h2=>XB v u LA LC x h1 h2 (by omega)) (Lib.hid R1) (Lib.hid R2)
end
end Go.Proofs.YthnjjcoahdhmnaaGreatDoor
