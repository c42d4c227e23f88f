import Derived.Test.YtljbnicolhhicaaGreatDoorZUA
set_option linter.defProp false
set_option maxHeartbeats 8000000
set_option maxRecDepth 100000
set_option linter.unusedVariables false
namespace Go.Proofs.YtljbnicolhhicaaGreatDoor
open Go.ChangeShapes Go.WideShapes Go.ChangeAt Go.RowKit
theorem yP:(∀(y n:Int)(l:Bool)(d z k:Int)(h:Bool)(f s a b c q e:Int)(i:Nat)(g B:Nat)(w:World)(hT:Tab w 6 kevCells)(hL:Tab w 4 lenCells)(hp:aS w g y n l d z k h f s a b c q e)(hB:w.cell? ⟨B,0,none⟩=some (.pointer (some ⟨g,0,none⟩)))(hBs:B<w.1.size)(hy:I64 y)(ht:D10.aK z k h f=0)(hs:s=1∨s= -1)(hi:i<=500000),vB 123 #[.int .i64 i,.pointer (some ⟨B,0,none⟩)] w (.bool (U17.fit y n l d (s*(i:Int)) 0 s (D10.aM z k h f))))/\(∀(y n:Int)(l:Bool)(d z k:Int)(h:Bool)(f s a b c q e:Int)(i:Nat)(g B B2:Nat)(w:World)(hT:Tab w 6 kevCells)(hL:Tab w 4 lenCells)(hp:aS w g y n l d z k h f s a b c q e)(hB:w.cell? ⟨B,0,none⟩=some (.pointer (some ⟨g,0,none⟩)))(hBs:B<w.1.size)(A:Int)(hB2:w.cell? ⟨B2,0,none⟩=some (.int .i64 A))(hB2s:B2<w.1.size)(hy:I64 y)(ht:D10.aK z k h f=0)(hs:s=1∨s= -1)(hi:i<=500000),vB 125 #[.int .i64 i,.pointer (some ⟨B,0,none⟩),.pointer (some ⟨B2,0,none⟩)] w (.bool (U17.fit y n l d A (s*(i:Int)) s (D10.aM z k h f)))):=by
 refine⟨@fun y n l d z k h f s a b c q e i g B w hT hL hp hB hBs hy ht hs hi=>(fun(k90:Nat)=> ?_) 0,@fun y n l d z k h f s a b c q e i g B B2 w hT hL hp hB hBs A hB2 hB2s hy ht hs hi=> ?_⟩
 all_goals(
 first|(have _:=k90;(have HW:=Lib.hid (fun w hT hL hp=>Cx y n l d z k h f s a b c q e (s*(i:Int)) 0 g w hT hL hp hy ht));(generalize U17.fit y n l d (s*(i:Int)) 0 s (D10.aM z k h f)=v at*))|((have HW:=Lib.hid (fun w hT hL hp=>Cx y n l d z k h f s a b c q e A (s*(i:Int)) g w hT hL hp hy ht));(generalize U17.fit y n l d A (s*(i:Int)) s (D10.aM z k h f)=v at*))
 have hb: -1000000<=s*(i:Int)/\s*(i:Int)<=1000000:=by rcases hs with rfl|rfl <;> omega
 have hm1:IntKind.i64.wrap (s*(i:Int))=s*(i:Int):=IntWalk.i64_in _ vO
 have hi0:(0:Int)<=(i:Int):=vO
 have hi1:(i:Int)<=500000:=vO
 clear hs
 have hq:=hp
 obtain⟨x0,x1,x2,x3,x4,x5,x6,x7,x8,x9,x10,x11,x12,x13,xf,xs⟩:=hq
 first|(have _:=k90;go_enter (vF Tryz.func123),Tryz.ntmps123)|(go_enter (vF Tryz.func125),Tryz.ntmps125)
 go_wp2_with fail
 refine bP vK vK (fun hall=> ?_)
 repeat(first|go_big_quiet_skip|(go_big_quiet_want;first|(refine ql1 _ _ _ rfl rfl ?_;apply Exists.intro;refine⟨?_, ?_⟩;assumption;go_simp;go_big_quiet_on)|(refine ql2 _ _ _ _ rfl rfl ?_;apply Exists.intro;apply Exists.intro;refine⟨?_, ?_, ?_⟩;assumption;assumption;go_simp;go_big_quiet_on)|(refine ql3 _ _ _ _ rfl rfl ?_;apply Exists.intro;apply Exists.intro;apply Exists.intro;refine⟨?_, ?_, ?_, ?_⟩;assumption;assumption;assumption;go_simp;go_big_quiet_on)|(refine ql4 _ _ _ _ rfl rfl ?_;apply Exists.intro;apply Exists.intro;apply Exists.intro;apply Exists.intro;refine⟨?_, ?_, ?_, ?_, ?_⟩;assumption;assumption;assumption;assumption;go_simp;go_big_quiet_on)|(go_big_quiet_op;first|go_big_quiet_on|(apply Exists.intro;refine⟨fun x hx=> ?_, ?_⟩;(first|(with_reducible exact dn hx (HW.out x (Tab.below hT hx) (Tab.below hL hx) (aU hp hx)))|exact dn hx (HW.out x (Tab.below hT hx) (Tab.below hL hx) (aU hp hx)));go_big_quiet_on))))
 refine wpQuiet_nil ?_
 clear hall
 intro x1 hx1
 go_wp2_with fail
 go_ret
 exact⟨rfl,hx1⟩
 )
def NG:=yP.1
def KM:=yP.2
theorem Lj(y n:Int)(l:Bool)(d z k:Int)(h:Bool)(f s a b c q e:Int)(he:¬ e=0)(g:Nat)(w:World)(hp:aS w g y n l d z k h f s a b c q e):
  Calls Tryo.prog 78 #[.pointer (some ⟨g,0,none⟩)] w fun e' w'=>e'= .returned (.tuple #[])/\aS w' g y n l d z k h f s a b c q e/\But g w w':=by
 have he2:(e !=0)=true:=by simpa using he
 clear he
 have hq:=hp
 obtain⟨x0,x1,x2,x3,x4,x5,x6,x7,x8,x9,x10,x11,x12,x13,xf,xs⟩:=hq
 go_enter (vF Tryz.func78),Tryz.ntmps78
 go_wp2_with fail
 refine bodyPost_ret (v:= .tuple #[]) (by simp [results,Tryz.results78,go_sem]) rfl ?_
 exact⟨rfl,aU hp (ba _ _),But.of (ba _ _)⟩
theorem yF(y n:Int)(l:Bool)(d z k:Int)(h:Bool)(f s a b c q e:Int)(he:¬ e=0)(g:Nat)(w:World)(hp:aS w g y n l d z k h f s a b c q e):
  Calls Tryo.prog 79 #[.pointer (some ⟨g,0,none⟩)] w fun e' w'=>e'= .returned (.tuple #[])/\aS w' g y n l d z k h f s a b c q e/\But g w w':=by
 have he2:(e !=0)=true:=by simpa using he
 clear he
 have hq:=hp
 obtain⟨x0,x1,x2,x3,x4,x5,x6,x7,x8,x9,x10,x11,x12,x13,xf,xs⟩:=hq
 go_enter (vF Tryz.func79),Tryz.ntmps79
 go_wp2_with fail
 refine bodyPost_ret (v:= .tuple #[]) (by simp [results,Tryz.results79,go_sem]) rfl ?_
 exact⟨rfl,aU hp (ba _ _),But.of (ba _ _)⟩
theorem nG(y n:Int)(l:Bool)(d z k:Int)(h:Bool)(f s a b c q e:Int)(he:¬ e=0)(g:Nat)(w:World)(hp:aS w g y n l d z k h f s a b c q e):
  Calls Tryo.prog 80 #[.pointer (some ⟨g,0,none⟩)] w fun e' w'=>e'= .returned (.tuple #[])/\aS w' g y n l d z k h f s a b c q e/\But g w w':=by
 have he2:(e !=0)=true:=by simpa using he
 clear he
 have hq:=hp
 obtain⟨x0,x1,x2,x3,x4,x5,x6,x7,x8,x9,x10,x11,x12,x13,xf,xs⟩:=hq
 go_enter (vF Tryz.func80),Tryz.ntmps80
 go_wp2_with fail
 refine bodyPost_ret (v:= .tuple #[]) (by simp [results,Tryz.results80,go_sem]) rfl ?_
 exact⟨rfl,hp,But.of (Below.refl _ _)⟩
theorem Le(y n:Int)(l:Bool)(d z k:Int)(h:Bool)(f s a b c q e:Int)(he:¬ e=0)(g:Nat)(w:World)(hp:aS w g y n l d z k h f s a b c q e):
  Calls Tryo.prog 81 #[.pointer (some ⟨g,0,none⟩)] w fun e' w'=>e'= .returned (.tuple #[])/\aS w' g y n l d z k h f s a b c q e/\But g w w':=by
 have he2:(e !=0)=true:=by simpa using he
 clear he
 have hq:=hp
 obtain⟨x0,x1,x2,x3,x4,x5,x6,x7,x8,x9,x10,x11,x12,x13,xf,xs⟩:=hq
 go_enter (vF Tryz.func81),Tryz.ntmps81
 go_wp2_with fail
 refine bodyPost_ret (v:= .tuple #[]) (by simp [results,Tryz.results81,go_sem]) rfl ?_
 exact⟨rfl,hp,But.of (Below.refl _ _)⟩
theorem EP:(∀(y n:Int)(l:Bool)(d z k:Int)(h:Bool)(f s a b c q e:Int)(K:Nat)(g:Nat)(w:World)(hT:Tab w 6 kevCells)(hL:Tab w 4 lenCells)(hy:I64 y)(ht:D10.aK z k h f=0)(hs:s=1∨s= -1)(hk:K<=200000)(hd:∀i:Nat,i<=K->U17.fit y n l d (s*(i:Int)) 0 s (D10.aM z k h f)=true)(hu:∀i:Nat,K<i->U17.fit y n l d (s*(i:Int)) 0 s (D10.aM z k h f)=false)(hp:aS w g y n l d z k h f s 0 0 0 0 0),Calls Tryo.prog 78 #[.pointer (some ⟨g,0,none⟩)] w fun e' w'=>e'= .returned (.tuple #[])/\aS w' g y n l d z k h f s (s*(K:Int)) 0 0 0 0/\But g w w')/\(∀(y n:Int)(l:Bool)(d z k:Int)(h:Bool)(f s a b c q e:Int)(K:Nat)(g:Nat)(w:World)(hT:Tab w 6 kevCells)(hL:Tab w 4 lenCells)(hy:I64 y)(ht:D10.aK z k h f=0)(hs:s=1∨s= -1)(hk:K<=200000)(hd:∀i:Nat,i<=K->U17.fit y n l d a (s*(i:Int)) s (D10.aM z k h f)=true)(hu:∀i:Nat,K<i->U17.fit y n l d a (s*(i:Int)) s (D10.aM z k h f)=false)(hp:aS w g y n l d z k h f s a 0 0 0 0),Calls Tryo.prog 79 #[.pointer (some ⟨g,0,none⟩)] w fun e' w'=>e'= .returned (.tuple #[])/\aS w' g y n l d z k h f s a (s*(K:Int)) 0 0 0/\But g w w'):=by
 refine⟨@fun y n l d z k h f s a b c q e K g w hT hL hy ht hs hk hd hu hp=>(fun(k90:Nat)=> ?_) 0,@fun y n l d z k h f s a b c q e K g w hT hL hy ht hs hk hd hu hp=> ?_⟩
 all_goals(
 first
 |(
   have _:=k90
   have HG:∀W,aS W g y n l d z k h f s 0 0 0 0 0->W.cell? ⟨w.1.size,0,none⟩=some (.pointer (some ⟨g,0,none⟩))->w.1.size<W.1.size->Tab W 6 kevCells->Tab W 4 lenCells->vB 122 #[.func (.func 123) #[] #[.pointer (some ⟨w.1.size,0,none⟩)]] W (.int .i64 K):=by
    intro W hpW hBW hsW hTW hLW
    exact yM 123 #[.pointer (some ⟨w.1.size,0,none⟩)] (fun i=>U17.fit y n l d (s*(i:Int)) 0 s (D10.aM z k h f)) K W (enters_of (vF Tryz.func123) vK rfl) hk
     (fun W' hb i hi=>NG y n l d z k h f s 0 0 0 0 0 i g w.1.size W' (Tab.below hTW hb) (Tab.below hLW hb) (aU hpW hb) ((hb.cell (p:=⟨w.1.size,0,none⟩) (show w.1.size<W.1.size by omega)).trans hBW) (Nat.lt_of_lt_of_le (show w.1.size<W.1.size by omega) hb.size) hy ht hs vO) hd hu
  )
 |(
   have HG:∀W,aS W g y n l d z k h f s a 0 0 0 0->W.cell? ⟨w.1.size,0,none⟩=some (.pointer (some ⟨g,0,none⟩))->W.cell? ⟨w.1.size+1,0,none⟩=some (.int .i64 a)->w.1.size+1<W.1.size->Tab W 6 kevCells->Tab W 4 lenCells->vB 122 #[.func (.func 125) #[] #[.pointer (some ⟨w.1.size,0,none⟩),.pointer (some ⟨w.1.size+1,0,none⟩)]] W (.int .i64 K):=by
    intro W hpW hBW hCW hsW hTW hLW
    exact yM 125 #[.pointer (some ⟨w.1.size,0,none⟩),.pointer (some ⟨w.1.size+1,0,none⟩)] (fun i=>U17.fit y n l d a (s*(i:Int)) s (D10.aM z k h f)) K W (enters_of (vF Tryz.func125) vK rfl) hk
     (fun W' hb i hi=>KM y n l d z k h f s a 0 0 0 0 i g w.1.size (w.1.size+1) W' (Tab.below hTW hb) (Tab.below hLW hb) (aU hpW hb) ((hb.cell (p:=⟨w.1.size,0,none⟩) (show w.1.size<W.1.size by omega)).trans hBW) (Nat.lt_of_lt_of_le (show w.1.size<W.1.size by omega) hb.size) a ((hb.cell (p:=⟨w.1.size+1,0,none⟩) hsW).trans hCW) (Nat.lt_of_lt_of_le hsW hb.size) hy ht hs vO) hd hu
  )
 have HR:=Lib.hid HG
 have hb: -1000000<=s*(K:Int)/\s*(K:Int)<=1000000:=by rcases hs with rfl|rfl <;> omega
 have hm1:IntKind.i64.wrap (s*(K:Int))=s*(K:Int):=IntWalk.i64_in _ vO
 have hk0:(0:Int)<=(K:Int):=vO
 have hk1:(K:Int)<=200000:=vO
 clear HG hd hu hs
 have hq:=hp
 obtain⟨x0,x1,x2,x3,x4,x5,x6,x7,x8,x9,x10,x11,x12,x13,xf,xs⟩:=hq
 first|(have _:=k90;go_enter (vF Tryz.func78),Tryz.ntmps78)|(go_enter (vF Tryz.func79),Tryz.ntmps79)
 go_wp2_with fail
 first|(have _:=k90;(refine bH (fun W=>aS W g y n l d z k h f s 0 0 0 0 0/\W.cell? ⟨w.1.size,0,none⟩=some (.pointer (some ⟨g,0,none⟩))/\w.1.size<W.1.size/\Below w.1.size w W) ⟨aU hp bel,vG,vS,bel⟩ ?_);(rintro W0 ⟨hP0,c0,hz0,hB0⟩))|((refine bH (fun W=>aS W g y n l d z k h f s a 0 0 0 0/\W.cell? ⟨w.1.size,0,none⟩=some (.pointer (some ⟨g,0,none⟩))/\W.cell? ⟨w.1.size+1,0,none⟩=some (.int .i64 a)/\w.1.size+1<W.1.size/\Below w.1.size w W) ⟨aU hp bel,vG,vG,vS,bel⟩ ?_);(rintro W0 ⟨hP0,c0,c1,hz0,hB0⟩))
 clear x0 x1 x2 x3 x4 x5 x6 x7 x8 x9 x10 x11 x12 x13 xf xs
 first|(have _:=k90;refine(HR.out _ hP0 c0 hz0 (Tab.below hT hB0) (Tab.below hL hB0)).mono ?_)|(refine(HR.out _ hP0 c0 c1 hz0 (Tab.below hT hB0) (Tab.below hL hB0)).mono ?_)
 rintro e w1 ⟨rfl,hb1⟩
 have hP1:=aU hP0 hb1
 have hz1:w.1.size<W0.1.size:=vO
 have c9:=(hb1.cell (p:=⟨w.1.size,0,none⟩) hz1).trans c0
 have hz9:w.1.size<w1.1.size:=Nat.lt_of_lt_of_le hz1 hb1.size
 first|(have _:=k90;clear c0 HR)|(clear c0 c1 HR)
 have hq:=hP1
 obtain⟨x0,x1,x2,x3,x4,x5,x6,x7,x8,x9,x10,x11,x12,x13,xf,xs⟩:=hq
 go_wp2_with fail
 refine yN 10 vK vK (fun hall=> ?_)
 simp only [List.take_succ_cons,List.take_zero,List.drop_succ_cons,List.drop_zero]
 repeat(first|go_big_quiet_skip|(go_big_quiet_want;first|(refine ql1 _ _ _ rfl rfl ?_;apply Exists.intro;refine⟨?_, ?_⟩;assumption;go_simp;go_big_quiet_on)|(refine ql2 _ _ _ _ rfl rfl ?_;apply Exists.intro;apply Exists.intro;refine⟨?_, ?_, ?_⟩;assumption;assumption;go_simp;go_big_quiet_on)|(refine ql3 _ _ _ _ rfl rfl ?_;apply Exists.intro;apply Exists.intro;apply Exists.intro;refine⟨?_, ?_, ?_, ?_⟩;assumption;assumption;assumption;go_simp;go_big_quiet_on)|(refine ql4 _ _ _ _ rfl rfl ?_;apply Exists.intro;apply Exists.intro;apply Exists.intro;apply Exists.intro;refine⟨?_, ?_, ?_, ?_, ?_⟩;assumption;assumption;assumption;assumption;go_simp;go_big_quiet_on)|(go_big_quiet_op;first|go_big_quiet_on|(apply Exists.intro;refine⟨fun x hx=> ?_, ?_⟩;(first|fail);go_big_quiet_on))))
 refine wpQuiet_nil ?_
 clear hall
 intro w2 hw2
 have hP2:=aU hP1 hw2
 clear x0 x1 x2 x3 x4 x5 x6 x7 x8 x9 x10 x11 x12 x13 xf xs
 clear c9
 have hq:=hP2
 obtain⟨x0,x1,x2,x3,x4,x5,x6,x7,x8,x9,x10,x11,x12,x13,xf,xs⟩:=hq
 go_wp2_with fail
 first|(have _:=k90;(refine bodyPost_end (v:= .tuple #[]) (by simp [results,Tryz.results78,go_sem]) rfl ?_);(exact⟨rfl,mH hP2 _,But.set (But.of (bt (bt hB0 hb1) hw2)) _ _⟩))|((refine bodyPost_end (v:= .tuple #[]) (by simp [results,Tryz.results79,go_sem]) rfl ?_);(exact⟨rfl,kC hP2 _,But.set (But.of (bt (bt hB0 hb1) hw2)) _ _⟩))
 )
def VE:=EP.1
def Jf:=EP.2
theorem qd(y n:Int)(l:Bool)(d z k:Int)(h:Bool)(f s a b c q e:Int)(ry rn:Int)(rl:Bool)(rd D1 D2:Int)(g:Nat)(w:World)(hT:Tab w 6 kevCells)(hL:Tab w 4 lenCells)(HA:Hid (∀w:World,Tab w 6 kevCells->Tab w 4 lenCells->vB 36 #[.agg #[.int .i64 (y),.int .i64 (n),.bool (l),.int .i64 (d)],.agg #[.int .i64 (a),.int .i64 (b),.int .i64 (c),.int .i64 (q)],.int .i64 0] w (.tuple #[.agg #[.int .i64 (ry),.int .i64 (rn),.bool (rl),.int .i64 (rd)],.int .i64 (0)])))(HX:Hid (∀w:World,Tab w 6 kevCells->Tab w 4 lenCells->vB 29 #[.agg #[.int .i64 (ry),.int .i64 (rn),.bool (rl),.int .i64 (rd)]] w (.tuple #[.int .i64 (D1),.int .i64 0])))(HY:Hid (∀w:World,Tab w 6 kevCells->Tab w 4 lenCells->vB 29 #[.agg #[.int .i64 (z),.int .i64 (k),.bool (h),.int .i64 (f)]] w (.tuple #[.int .i64 (D2),.int .i64 0])))(h1: -10000000<=D1/\D1<=10000000)(h2: -10000000<=D2/\D2<=10000000)(hp:aS w g y n l d z k h f s a b c q 0):
  Calls Tryo.prog 80 #[.pointer (some ⟨g,0,none⟩)] w fun e' w'=>e'= .returned (.tuple #[])/\aS w' g y n l d z k h f s a b c (D2-D1) 0/\But g w w':=by
 obtain⟨h11,h12⟩:=h1
 obtain⟨h21,h22⟩:=h2
 have hT0:=hT
 have hL0:=hL
 have hB0:=Below.refl w.1.size w
 have hq:=hp
 obtain⟨x0,x1,x2,x3,x4,x5,x6,x7,x8,x9,x10,x11,x12,x13,xf,xs⟩:=hq
 go_enter (vF Tryz.func80),Tryz.ntmps80
 go_wp2_with fail
 have hl0:=xs
 have kc0:=x0
 have kc1:=x1
 have kc2:=x2
 have kc3:=x3
 have kc4:=x9
 have kc5:=x10
 have kc6:=x11
 have kc7:=x12
 go_cut [2,3]from 25 (fun v5 v6 wx=>∃r:Nat,v5= .pointer (some ⟨r,0,none⟩)/\v6= .int .i64 0/\Az wx r ry rn rl rd/\aS wx g y n l d z k h f s a b c q 0/\Below w.1.size w wx)
 case first=>
  have nn0:=World.new_ne w _ kc0
  have nn1:=World.new_ne w _ kc1
  have nn2:=World.new_ne w _ kc2
  have nn3:=World.new_ne w _ kc3
  have nn4:=World.new_ne w _ kc4
  have nn5:=World.new_ne w _ kc5
  have nn6:=World.new_ne w _ kc6
  have nn7:=World.new_ne w _ kc7
  go_region_held3 (fun x=>x.cell? ⟨g,0,none⟩=some (.int .i64 y)/\x.cell? ⟨g,1,none⟩=some (.int .i64 n)/\x.cell? ⟨g,2,none⟩=some (.bool l)/\x.cell? ⟨g,3,none⟩=some (.int .i64 d)/\x.cell? ⟨g,9,none⟩=some (.int .i64 a)/\x.cell? ⟨g,10,none⟩=some (.int .i64 b)/\x.cell? ⟨g,11,none⟩=some (.int .i64 c)/\x.cell? ⟨g,12,none⟩=some (.int .i64 q)) (first|exact⟨by with_reducible assumption,by with_reducible assumption,by with_reducible assumption,by with_reducible assumption,by with_reducible assumption,by with_reducible assumption,by with_reducible assumption,by with_reducible assumption⟩|go_keep) (first|(go_at_call 36;refine(HA.out _ (Tab.below hT0 beq4) (Tab.below hL0 beq4)).mono ?_;rintro e W2 ⟨rfl,hb2⟩;have hW2:=bt (show Below w.1.size w _ by repeat(first|(with_reducible exact Below.refl _ _)|(with_reducible refine aT ?_)|(with_reducible refine baa ?_ _))) hb2;have hz2:=hW2.size;have kk0:=(hW2.cell (p:=⟨g,0,none⟩) hl0).trans kc0;have kk1:=(hW2.cell (p:=⟨g,1,none⟩) hl0).trans kc1;have kk2:=(hW2.cell (p:=⟨g,2,none⟩) hl0).trans kc2;have kk3:=(hW2.cell (p:=⟨g,3,none⟩) hl0).trans kc3;have kk4:=(hW2.cell (p:=⟨g,9,none⟩) hl0).trans kc4;have kk5:=(hW2.cell (p:=⟨g,10,none⟩) hl0).trans kc5;have kk6:=(hW2.cell (p:=⟨g,11,none⟩) hl0).trans kc6;have kk7:=(hW2.cell (p:=⟨g,12,none⟩) hl0).trans kc7;have hm0:=Nat.lt_of_lt_of_le hl0 hz2;obtain⟨hc2,hf2⟩:=aL hb2;have nx0:=World.new_ne W2 _ kk0;have nx1:=World.new_ne W2 _ kk1;have nx2:=World.new_ne W2 _ kk2;have nx3:=World.new_ne W2 _ kk3;have nx4:=World.new_ne W2 _ kk4;have nx5:=World.new_ne W2 _ kk5;have nx6:=World.new_ne W2 _ kk6;have nx7:=World.new_ne W2 _ kk7))
  all_goals simp only [Exit.then]
  all_goals refine ‹∀ (a':Act) (w':World),Met _ a' w'->_› _ _ ?_
  all_goals go_meet
  ·refine⟨W2.1.size,rfl,rfl, ?_, ?_, ?_⟩
   ·first|exact jH _ _ _ _ _ _|exact lZ (jH _ _ _ _ _ _) _ _ _ _
   ·refine aU hp ?_
    exact bel
   ·refine bt hB0 ?_
    exact bel
  ·refine⟨w.1.size,rfl,rfl, ?_, ?_, ?_⟩
   ·exact lZ (zT (GX (jH w 0 0 false 0 33)) hb2) _ _ _ _
   ·refine aU hp ?_
    exact bel
   ·refine bt hB0 ?_
    exact bel
 case rest=>
  obtain⟨r,rfl,rfl,hD1,hP1,hB1⟩:=hcut
  clear x0 x1 x2 x3 x4 x5 x6 x7 x8 x9 x10 x11 x12 x13 xf xs
  clear kc0 kc1 kc2 kc3 kc4 kc5 kc6 kc7 hl0 hB0 hT0 hL0
  have hq:=hP1
  obtain⟨x0,x1,x2,x3,x4,x5,x6,x7,x8,x9,x10,x11,x12,x13,xf,xs⟩:=hq
  have hq:=hD1
  obtain⟨c0,c1,c2,c3,cf,cs⟩:=hq
  go_wp2_with fail
  refine bH (fun W=>aS W g y n l d z k h f s a b c q 0/\Below w.1.size w W) ⟨aU hP1 bel,bel⟩ ?_
  rintro W2 ⟨hP2,hB2⟩
  clear x0 x1 x2 x3 x4 x5 x6 x7 x8 x9 x10 x11 x12 x13 xf xs
  clear c0 c1 c2 c3 cf cs
  refine(HX.out _ (Tab.below hT hB2) (Tab.below hL hB2)).mono ?_
  rintro e w3 ⟨rfl,hb3⟩
  have hP3:=aU hP2 hb3
  have hB3:=bt hB2 hb3
  have hq:=hP3
  obtain⟨x0,x1,x2,x3,x4,x5,x6,x7,x8,x9,x10,x11,x12,x13,xf,xs⟩:=hq
  go_wp2_with fail
  refine(HY.out _ (Tab.below hT hB3) (Tab.below hL hB3)).mono ?_
  rintro e w4 ⟨rfl,hb4⟩
  have hP4:=aU hP3 hb4
  clear x0 x1 x2 x3 x4 x5 x6 x7 x8 x9 x10 x11 x12 x13 xf xs
  have hq:=hP4
  obtain⟨x0,x1,x2,x3,x4,x5,x6,x7,x8,x9,x10,x11,x12,x13,xf,xs⟩:=hq
  go_wp2_with fail
  refine bodyPost_end (v:= .tuple #[]) (by simp [results,Tryz.results80,go_sem]) rfl ?_
  exact⟨rfl,jJ hP4 _,But.set (But.of (bt hB3 hb4)) _ _⟩
theorem yc:(∀(y n:Int)(l:Bool)(d z k:Int)(h:Bool)(f s a b c q e:Int)(g:Nat)(w:World)(h0:0<=q/\q<=10000000)(hp:aS w g y n l d z k h f s a b c q 0),Calls Tryo.prog 81 #[.pointer (some ⟨g,0,none⟩)] w fun e' w'=>e'= .returned (.tuple #[])/\aS w' g y n l d z k h f s a b (q.tdiv 7) (q % 7) 0/\But g w w')/\(∀(y n:Int)(l:Bool)(d z k:Int)(h:Bool)(f s a b c q e:Int)(g:Nat)(w:World)(h0: -10000000<=q/\q<0)(hp:aS w g y n l d z k h f s a b c q 0),Calls Tryo.prog 81 #[.pointer (some ⟨g,0,none⟩)] w fun e' w'=>e'= .returned (.tuple #[])/\aS w' g y n l d z k h f s a b (q.tdiv 7) (q.tmod 7) 0/\But g w w'):=by
 refine⟨@fun y n l d z k h f s a b c q e g w h0 hp=> ?_,@fun y n l d z k h f s a b c q e g w h0 hp=> ?_⟩
 all_goals(
 obtain⟨h1,h2⟩:=h0
 have b1: -10000000<=q.tdiv 7/\q.tdiv 7<=10000000:=by
  by_cases c:0<=q
  ·rw [Int.tdiv_eq_ediv_of_nonneg c];omega
  ·have:q.tdiv 7= -((-q) / 7):=by rw [←Int.tdiv_eq_ediv_of_nonneg vO,Int.neg_tdiv,Int.neg_neg]
   omega
 have hwr:IntKind.i64.wrap (q.tdiv 7)=q.tdiv 7:=IntWalk.i64_in _ vO
 obtain⟨b2,b3⟩:=b1
 have hq:=hp
 obtain⟨x0,x1,x2,x3,x4,x5,x6,x7,x8,x9,x10,x11,x12,x13,xf,xs⟩:=hq
 go_enter (vF Tryz.func81),Tryz.ntmps81
 go_wp2_with fail
 refine bodyPost_end (v:= .tuple #[]) (by simp [results,Tryz.results81,go_sem]) rfl ?_
 exact⟨rfl,jJ (ku hp _) _,But.set (But.set (But.of (Below.refl _ _)) _ _) _ _⟩
 )
def NH:=yc.1
def JU:=yc.2
theorem Wh(y n:Int)(l:Bool)(d z k:Int)(h:Bool)(f s a b c q e:Int)(g:Nat)(w:World)(h1: -10000000<=q)(h2:q<=10000000)(hp:aS w g y n l d z k h f s a b c q 0):
  Calls Tryo.prog 81 #[.pointer (some ⟨g,0,none⟩)] w fun e' w'=>e'= .returned (.tuple #[])/\aS w' g y n l d z k h f s a b (q.tdiv 7) (q.tmod 7) 0/\But g w w':=by
 by_cases c0:0<=q
 ·rw [Int.tmod_eq_emod_of_nonneg c0]
  exact NH y n l d z k h f s a b c q e g w ⟨c0,h2⟩ hp
 ·exact JU y n l d z k h f s a b c q e g w ⟨h1,vO⟩ hp
theorem MU{w w':World}{g g':Nat}{y n:Int}{l:Bool}{d z k:Int}{h:Bool}{f s a b c q e:Int}(hh:aS w g y n l d z k h f s a b c q e)(hb:But g' w w')(hg:g≠g'):aS w' g y n l d z k h f s a b c q e:=by
 obtain⟨x0,x1,x2,x3,x4,x5,x6,x7,x8,x9,x10,x11,x12,x13,hfz,hsz⟩:=hh
 have c:=fun i=>hb.cell (k:=g) (o:=i) hsz hg
 exact⟨(c 0).trans x0,(c 1).trans x1,(c 2).trans x2,(c 3).trans x3,(c 4).trans x4,(c 5).trans x5,(c 6).trans x6,(c 7).trans x7,(c 8).trans x8,(c 9).trans x9,(c 10).trans x10,(c 11).trans x11,(c 12).trans x12,(c 13).trans x13,fun i=>(hb.frozen (k:=g) (o:=i) hsz hg).trans (hfz i),Nat.lt_of_lt_of_le hsz hb.size⟩
theorem kJ:(∀(y n:Int)(l:Bool)(d z k:Int)(h:Bool)(f unit:Int)(e1:Int)(w:World)(hT:Tab w 6 kevCells)(hL:Tab w 4 lenCells)(HC1:Hid (∀w:World,Tab w 6 kevCells->Tab w 4 lenCells->vB 56 #[.agg #[.int .i64 (y),.int .i64 (n),.bool (l),.int .i64 (d)]] w (.int .i64 (e1))))(HL2:Hid (∀w:World,vB 121 #[.agg #[.int .i64 (z),.int .i64 (k),.bool (h),.int .i64 (f)],.agg #[.int .i64 (y),.int .i64 (n),.bool (l),.int .i64 (d)]] w (.bool false)))(h1:(e1==0)=false)(h1b:(e1 !=0)=true)(hu:0<=unit/\unit<=3),vB 77 #[.agg #[.int .i64 (y),.int .i64 (n),.bool (l),.int .i64 (d)],.agg #[.int .i64 (z),.int .i64 (k),.bool (h),.int .i64 (f)],.int .i64 unit] w (.agg #[.int .i64 y,.int .i64 n,.bool l,.int .i64 d,.int .i64 z,.int .i64 k,.bool h,.int .i64 f,.int .i64 (1),.int .i64 (0),.int .i64 (0),.int .i64 (0),.int .i64 (0),.int .i64 (e1)]))/\(∀(y n:Int)(l:Bool)(d z k:Int)(h:Bool)(f unit:Int)(e1:Int)(w:World)(hT:Tab w 6 kevCells)(hL:Tab w 4 lenCells)(HC1:Hid (∀w:World,Tab w 6 kevCells->Tab w 4 lenCells->vB 56 #[.agg #[.int .i64 (y),.int .i64 (n),.bool (l),.int .i64 (d)]] w (.int .i64 (e1))))(HL2:Hid (∀w:World,vB 121 #[.agg #[.int .i64 (z),.int .i64 (k),.bool (h),.int .i64 (f)],.agg #[.int .i64 (y),.int .i64 (n),.bool (l),.int .i64 (d)]] w (.bool true)))(h1:(e1==0)=false)(h1b:(e1 !=0)=true)(hu:0<=unit/\unit<=3),vB 77 #[.agg #[.int .i64 (y),.int .i64 (n),.bool (l),.int .i64 (d)],.agg #[.int .i64 (z),.int .i64 (k),.bool (h),.int .i64 (f)],.int .i64 unit] w (.agg #[.int .i64 y,.int .i64 n,.bool l,.int .i64 d,.int .i64 z,.int .i64 k,.bool h,.int .i64 f,.int .i64 (-1),.int .i64 (0),.int .i64 (0),.int .i64 (0),.int .i64 (0),.int .i64 (e1)])):=by
 refine⟨@fun y n l d z k h f unit e1 w hT hL HC1 HL2 h1 h1b hu=>(fun(k90:Nat)=> ?_) 0,@fun y n l d z k h f unit e1 w hT hL HC1 HL2 h1 h1b hu=> ?_⟩
 all_goals(
 obtain⟨u0,u3⟩:=hu
 have hR0:=dQ ((w.alloc (.cells #[.int .i64 y,.int .i64 n,.bool l,.int .i64 d] 33)).alloc (.cells #[.int .i64 z,.int .i64 k,.bool h,.int .i64 f] 33)) 0 0 false 0 0 0 false 0 0 0 0 0 0 0 120
 simp only [World.size_alloc]at hR0
 have hZ0:=dQ (((w.alloc (.cells #[.int .i64 y,.int .i64 n,.bool l,.int .i64 d] 33)).alloc (.cells #[.int .i64 z,.int .i64 k,.bool h,.int .i64 f] 33)).alloc (.cells #[.int .i64 0,.int .i64 0,.bool false,.int .i64 0,.int .i64 0,.int .i64 0,.bool false,.int .i64 0,.int .i64 0,.int .i64 0,.int .i64 0,.int .i64 0,.int .i64 0,.int .i64 0] 120)) 0 0 false 0 0 0 false 0 0 0 0 0 0 0 120
 simp only [World.size_alloc]at hZ0
 have hV0:=dQ (((w.alloc (.cells #[.int .i64 y,.int .i64 n,.bool l,.int .i64 d] 33)).alloc (.cells #[.int .i64 z,.int .i64 k,.bool h,.int .i64 f] 33)).alloc (.cells #[.int .i64 0,.int .i64 0,.bool false,.int .i64 0,.int .i64 0,.int .i64 0,.bool false,.int .i64 0,.int .i64 0,.int .i64 0,.int .i64 0,.int .i64 0,.int .i64 0,.int .i64 0] 120)) y n l d z k h f 1 0 0 0 0 0 120
 simp only [World.size_alloc]at hV0
 go_enter (vF Tryz.func77),Tryz.ntmps77
 go_wp2_with fail
 refine bH (fun W=>W.cell? ⟨w.1.size,0,none⟩=some (.int .i64 y)/\W.cell? ⟨w.1.size,1,none⟩=some (.int .i64 n)/\W.cell? ⟨w.1.size,2,none⟩=some (.bool l)/\W.cell? ⟨w.1.size,3,none⟩=some (.int .i64 d)/\W.cell? ⟨(w.1.size+1),0,none⟩=some (.int .i64 z)/\W.cell? ⟨(w.1.size+1),1,none⟩=some (.int .i64 k)/\W.cell? ⟨(w.1.size+1),2,none⟩=some (.bool h)/\W.cell? ⟨(w.1.size+1),3,none⟩=some (.int .i64 f)/\aS W (w.1.size+1+1+1) y n l d z k h f (1) 0 0 0 0 (0)/\aS W (w.1.size+1+1) 0 0 false 0 0 0 false 0 0 0 0 0 0 0/\Below w.1.size w W) ⟨vG,vG,vG,vG,vG,vG,vG,vG, ?_,aU hR0 ?_, ?_⟩ ?_
 ·first|exact hV0|exact jg (jJ (ku (kC (mH (oN (oF (nW (nQ (nM (nX (oM (nN (ow (hZ0) _) _) _) _) _) _) _) _) _) _) _) _) _) _
 ·exact bel
 ·exact bel
 rintro W0 ⟨c0,c1,c2,c3,t0,t1,t2,t3,hP0,hR0',hB0⟩
 clear hR0 hZ0 hV0
 have hg0:w.1.size+1<W0.1.size:=by have:=hP0.2.2.2.2.2.2.2.2.2.2.2.2.2.2.2;omega
 refine(HC1.out _ (Tab.below hT hB0) (Tab.below hL hB0)).mono ?_
 rintro e w1 ⟨rfl,hb1⟩
 have hP1a:=aU hP0 hb1
 have hR1a:=aU hR0' hb1
 have hB1a:=bt hB0 hb1
 have hg1a:w.1.size+1<w1.1.size:=Nat.lt_of_lt_of_le hg0 hb1.size
 have d0:=(hb1.cell (p:=⟨w.1.size,0,none⟩) (show w.1.size<W0.1.size by omega)).trans c0
 have s0:=(hb1.cell (p:=⟨w.1.size+1,0,none⟩) hg0).trans t0
 have d1:=(hb1.cell (p:=⟨w.1.size,1,none⟩) (show w.1.size<W0.1.size by omega)).trans c1
 have s1:=(hb1.cell (p:=⟨w.1.size+1,1,none⟩) hg0).trans t1
 have d2:=(hb1.cell (p:=⟨w.1.size,2,none⟩) (show w.1.size<W0.1.size by omega)).trans c2
 have s2:=(hb1.cell (p:=⟨w.1.size+1,2,none⟩) hg0).trans t2
 have d3:=(hb1.cell (p:=⟨w.1.size,3,none⟩) (show w.1.size<W0.1.size by omega)).trans c3
 have s3:=(hb1.cell (p:=⟨w.1.size+1,3,none⟩) hg0).trans t3
 clear c0 c1 c2 c3 t0 t1 t2 t3
 have hq:=hP1a
 obtain⟨x0,x1,x2,x3,x4,x5,x6,x7,x8,x9,x10,x11,x12,x13,xf,xs⟩:=hq
 have hq:=hR1a
 obtain⟨r0,r1,r2,r3,r4,r5,r6,r7,r8,r9,r10,r11,r12,r13,rf,rs⟩:=hq
 go_wp2_with fail
 refine bH (fun W=>W.cell? ⟨w.1.size,0,none⟩=some (.int .i64 y)/\W.cell? ⟨w.1.size,1,none⟩=some (.int .i64 n)/\W.cell? ⟨w.1.size,2,none⟩=some (.bool l)/\W.cell? ⟨w.1.size,3,none⟩=some (.int .i64 d)/\W.cell? ⟨(w.1.size+1),0,none⟩=some (.int .i64 z)/\W.cell? ⟨(w.1.size+1),1,none⟩=some (.int .i64 k)/\W.cell? ⟨(w.1.size+1),2,none⟩=some (.bool h)/\W.cell? ⟨(w.1.size+1),3,none⟩=some (.int .i64 f)/\aS W (w.1.size+1+1+1) y n l d z k h f (1) 0 0 0 0 (e1)/\aS W (w.1.size+1+1) 0 0 false 0 0 0 false 0 0 0 0 0 0 0/\Below w.1.size w W/\w.1.size+1<W.1.size) ⟨by first|(with_reducible assumption)|(simp [go_sem, *];done),by first|(with_reducible assumption)|(simp [go_sem, *];done),by first|(with_reducible assumption)|(simp [go_sem, *];done),by first|(with_reducible assumption)|(simp [go_sem, *];done),by first|(with_reducible assumption)|(simp [go_sem, *];done),by first|(with_reducible assumption)|(simp [go_sem, *];done),by first|(with_reducible assumption)|(simp [go_sem, *];done),by first|(with_reducible assumption)|(simp [go_sem, *];done),jg hP1a _, ?_, ?_, ?_⟩ ?_
 ·exact MU hR1a (But.set (But.of (Below.refl _ _)) _ _) (show w.1.size+1+1≠w.1.size+1+1+1 by omega)
 ·exact bs hB1a (show w.1.size<=w.1.size+1+1+1 by omega) _
 ·simpa [World.setCell]using hg1a
 rintro W1 ⟨c0,c1,c2,c3,t0,t1,t2,t3,hP1,hR1,hB1,hg1⟩
 clear d0 d1 d2 d3 s0 s1 s2 s3
 clear x0 x1 x2 x3 x4 x5 x6 x7 x8 x9 x10 x11 x12 x13 xf xs
 clear r0 r1 r2 r3 r4 r5 r6 r7 r8 r9 r10 r11 r12 r13 rf rs
 refine(HL2.out _).mono ?_
 rintro e w2 ⟨rfl,hb2⟩
 have hP2a:=aU hP1 hb2
 have hR2a:=aU hR1 hb2
 have hB2a:=bt hB1 hb2
 have hg2a:w.1.size+1<w2.1.size:=Nat.lt_of_lt_of_le hg1 hb2.size
 have d0:=(hb2.cell (p:=⟨w.1.size,0,none⟩) (show w.1.size<W1.1.size by omega)).trans c0
 have s0:=(hb2.cell (p:=⟨w.1.size+1,0,none⟩) hg1).trans t0
 have d1:=(hb2.cell (p:=⟨w.1.size,1,none⟩) (show w.1.size<W1.1.size by omega)).trans c1
 have s1:=(hb2.cell (p:=⟨w.1.size+1,1,none⟩) hg1).trans t1
 have d2:=(hb2.cell (p:=⟨w.1.size,2,none⟩) (show w.1.size<W1.1.size by omega)).trans c2
 have s2:=(hb2.cell (p:=⟨w.1.size+1,2,none⟩) hg1).trans t2
 have d3:=(hb2.cell (p:=⟨w.1.size,3,none⟩) (show w.1.size<W1.1.size by omega)).trans c3
 have s3:=(hb2.cell (p:=⟨w.1.size+1,3,none⟩) hg1).trans t3
 clear c0 c1 c2 c3 t0 t1 t2 t3
 have hq:=hP2a
 obtain⟨x0,x1,x2,x3,x4,x5,x6,x7,x8,x9,x10,x11,x12,x13,xf,xs⟩:=hq
 have hq:=hR2a
 obtain⟨r0,r1,r2,r3,r4,r5,r6,r7,r8,r9,r10,r11,r12,r13,rf,rs⟩:=hq
 go_wp2_with fail
 have hne:w.1.size+1+1+1<w2.1.size:=hP2a.2.2.2.2.2.2.2.2.2.2.2.2.2.2.2
 first|(have _:=k90;refine bodyPost_ret (v:= .agg #[.int .i64 y,.int .i64 n,.bool l,.int .i64 d,.int .i64 z,.int .i64 k,.bool h,.int .i64 f,.int .i64 (1),.int .i64 (0),.int .i64 (0),.int .i64 (0),.int .i64 (0),.int .i64 (e1)]) (by simp [results,Tryz.results77,go_sem, *]) rfl ⟨rfl, ?_⟩)|(refine bodyPost_ret (v:= .agg #[.int .i64 y,.int .i64 n,.bool l,.int .i64 d,.int .i64 z,.int .i64 k,.bool h,.int .i64 f,.int .i64 (-1),.int .i64 (0),.int .i64 (0),.int .i64 (0),.int .i64 (0),.int .i64 (e1)]) (by simp [results,Tryz.results77,go_sem, *]) rfl ⟨rfl, ?_⟩)
 exact bel
 )
def zx:=kJ.1
def Af:=kJ.2
theorem kX:(∀(y n:Int)(l:Bool)(d z k:Int)(h:Bool)(f unit:Int)(e2:Int)(w:World)(hT:Tab w 6 kevCells)(hL:Tab w 4 lenCells)(HC1:Hid (∀w:World,Tab w 6 kevCells->Tab w 4 lenCells->vB 56 #[.agg #[.int .i64 (y),.int .i64 (n),.bool (l),.int .i64 (d)]] w (.int .i64 (0))))(HC2:Hid (∀w:World,Tab w 6 kevCells->Tab w 4 lenCells->vB 56 #[.agg #[.int .i64 (z),.int .i64 (k),.bool (h),.int .i64 (f)]] w (.int .i64 (e2))))(HL2:Hid (∀w:World,vB 121 #[.agg #[.int .i64 (z),.int .i64 (k),.bool (h),.int .i64 (f)],.agg #[.int .i64 (y),.int .i64 (n),.bool (l),.int .i64 (d)]] w (.bool false)))(hu:0<=unit/\unit<=3),vB 77 #[.agg #[.int .i64 (y),.int .i64 (n),.bool (l),.int .i64 (d)],.agg #[.int .i64 (z),.int .i64 (k),.bool (h),.int .i64 (f)],.int .i64 unit] w (.agg #[.int .i64 y,.int .i64 n,.bool l,.int .i64 d,.int .i64 z,.int .i64 k,.bool h,.int .i64 f,.int .i64 (1),.int .i64 (0),.int .i64 (0),.int .i64 (0),.int .i64 (0),.int .i64 (e2)]))/\(∀(y n:Int)(l:Bool)(d z k:Int)(h:Bool)(f unit:Int)(e2:Int)(w:World)(hT:Tab w 6 kevCells)(hL:Tab w 4 lenCells)(HC1:Hid (∀w:World,Tab w 6 kevCells->Tab w 4 lenCells->vB 56 #[.agg #[.int .i64 (y),.int .i64 (n),.bool (l),.int .i64 (d)]] w (.int .i64 (0))))(HC2:Hid (∀w:World,Tab w 6 kevCells->Tab w 4 lenCells->vB 56 #[.agg #[.int .i64 (z),.int .i64 (k),.bool (h),.int .i64 (f)]] w (.int .i64 (e2))))(HL2:Hid (∀w:World,vB 121 #[.agg #[.int .i64 (z),.int .i64 (k),.bool (h),.int .i64 (f)],.agg #[.int .i64 (y),.int .i64 (n),.bool (l),.int .i64 (d)]] w (.bool true)))(hu:0<=unit/\unit<=3),vB 77 #[.agg #[.int .i64 (y),.int .i64 (n),.bool (l),.int .i64 (d)],.agg #[.int .i64 (z),.int .i64 (k),.bool (h),.int .i64 (f)],.int .i64 unit] w (.agg #[.int .i64 y,.int .i64 n,.bool l,.int .i64 d,.int .i64 z,.int .i64 k,.bool h,.int .i64 f,.int .i64 (-1),.int .i64 (0),.int .i64 (0),.int .i64 (0),.int .i64 (0),.int .i64 (e2)])):=by
 refine⟨@fun y n l d z k h f unit e2 w hT hL HC1 HC2 HL2 hu=>(fun(k90:Nat)=> ?_) 0,@fun y n l d z k h f unit e2 w hT hL HC1 HC2 HL2 hu=> ?_⟩
 all_goals(
 obtain⟨u0,u3⟩:=hu
 have hR0:=dQ ((w.alloc (.cells #[.int .i64 y,.int .i64 n,.bool l,.int .i64 d] 33)).alloc (.cells #[.int .i64 z,.int .i64 k,.bool h,.int .i64 f] 33)) 0 0 false 0 0 0 false 0 0 0 0 0 0 0 120
 simp only [World.size_alloc]at hR0
 have hZ0:=dQ (((w.alloc (.cells #[.int .i64 y,.int .i64 n,.bool l,.int .i64 d] 33)).alloc (.cells #[.int .i64 z,.int .i64 k,.bool h,.int .i64 f] 33)).alloc (.cells #[.int .i64 0,.int .i64 0,.bool false,.int .i64 0,.int .i64 0,.int .i64 0,.bool false,.int .i64 0,.int .i64 0,.int .i64 0,.int .i64 0,.int .i64 0,.int .i64 0,.int .i64 0] 120)) 0 0 false 0 0 0 false 0 0 0 0 0 0 0 120
 simp only [World.size_alloc]at hZ0
 have hV0:=dQ (((w.alloc (.cells #[.int .i64 y,.int .i64 n,.bool l,.int .i64 d] 33)).alloc (.cells #[.int .i64 z,.int .i64 k,.bool h,.int .i64 f] 33)).alloc (.cells #[.int .i64 0,.int .i64 0,.bool false,.int .i64 0,.int .i64 0,.int .i64 0,.bool false,.int .i64 0,.int .i64 0,.int .i64 0,.int .i64 0,.int .i64 0,.int .i64 0,.int .i64 0] 120)) y n l d z k h f 1 0 0 0 0 0 120
 simp only [World.size_alloc]at hV0
 go_enter (vF Tryz.func77),Tryz.ntmps77
 go_wp2_with fail
 refine bH (fun W=>W.cell? ⟨w.1.size,0,none⟩=some (.int .i64 y)/\W.cell? ⟨w.1.size,1,none⟩=some (.int .i64 n)/\W.cell? ⟨w.1.size,2,none⟩=some (.bool l)/\W.cell? ⟨w.1.size,3,none⟩=some (.int .i64 d)/\W.cell? ⟨(w.1.size+1),0,none⟩=some (.int .i64 z)/\W.cell? ⟨(w.1.size+1),1,none⟩=some (.int .i64 k)/\W.cell? ⟨(w.1.size+1),2,none⟩=some (.bool h)/\W.cell? ⟨(w.1.size+1),3,none⟩=some (.int .i64 f)/\aS W (w.1.size+1+1+1) y n l d z k h f (1) 0 0 0 0 (0)/\aS W (w.1.size+1+1) 0 0 false 0 0 0 false 0 0 0 0 0 0 0/\Below w.1.size w W) ⟨vG,vG,vG,vG,vG,vG,vG,vG, ?_,aU hR0 ?_, ?_⟩ ?_
 ·first|exact hV0|exact jg (jJ (ku (kC (mH (oN (oF (nW (nQ (nM (nX (oM (nN (ow (hZ0) _) _) _) _) _) _) _) _) _) _) _) _) _) _
 ·exact bel
 ·exact bel
 rintro W0 ⟨c0,c1,c2,c3,t0,t1,t2,t3,hP0,hR0',hB0⟩
 clear hR0 hZ0 hV0
 have hg0:w.1.size+1<W0.1.size:=by have:=hP0.2.2.2.2.2.2.2.2.2.2.2.2.2.2.2;omega
 refine(HC1.out _ (Tab.below hT hB0) (Tab.below hL hB0)).mono ?_
 rintro e w1 ⟨rfl,hb1⟩
 have hP1a:=aU hP0 hb1
 have hR1a:=aU hR0' hb1
 have hB1a:=bt hB0 hb1
 have hg1a:w.1.size+1<w1.1.size:=Nat.lt_of_lt_of_le hg0 hb1.size
 have d0:=(hb1.cell (p:=⟨w.1.size,0,none⟩) (show w.1.size<W0.1.size by omega)).trans c0
 have s0:=(hb1.cell (p:=⟨w.1.size+1,0,none⟩) hg0).trans t0
 have d1:=(hb1.cell (p:=⟨w.1.size,1,none⟩) (show w.1.size<W0.1.size by omega)).trans c1
 have s1:=(hb1.cell (p:=⟨w.1.size+1,1,none⟩) hg0).trans t1
 have d2:=(hb1.cell (p:=⟨w.1.size,2,none⟩) (show w.1.size<W0.1.size by omega)).trans c2
 have s2:=(hb1.cell (p:=⟨w.1.size+1,2,none⟩) hg0).trans t2
 have d3:=(hb1.cell (p:=⟨w.1.size,3,none⟩) (show w.1.size<W0.1.size by omega)).trans c3
 have s3:=(hb1.cell (p:=⟨w.1.size+1,3,none⟩) hg0).trans t3
 clear c0 c1 c2 c3 t0 t1 t2 t3
 have hq:=hP1a
 obtain⟨x0,x1,x2,x3,x4,x5,x6,x7,x8,x9,x10,x11,x12,x13,xf,xs⟩:=hq
 have hq:=hR1a
 obtain⟨r0,r1,r2,r3,r4,r5,r6,r7,r8,r9,r10,r11,r12,r13,rf,rs⟩:=hq
 go_wp2_with fail
 refine bH (fun W=>W.cell? ⟨w.1.size,0,none⟩=some (.int .i64 y)/\W.cell? ⟨w.1.size,1,none⟩=some (.int .i64 n)/\W.cell? ⟨w.1.size,2,none⟩=some (.bool l)/\W.cell? ⟨w.1.size,3,none⟩=some (.int .i64 d)/\W.cell? ⟨(w.1.size+1),0,none⟩=some (.int .i64 z)/\W.cell? ⟨(w.1.size+1),1,none⟩=some (.int .i64 k)/\W.cell? ⟨(w.1.size+1),2,none⟩=some (.bool h)/\W.cell? ⟨(w.1.size+1),3,none⟩=some (.int .i64 f)/\aS W (w.1.size+1+1+1) y n l d z k h f (1) 0 0 0 0 (0)/\aS W (w.1.size+1+1) 0 0 false 0 0 0 false 0 0 0 0 0 0 0/\Below w.1.size w W/\w.1.size+1<W.1.size) ⟨by first|(with_reducible assumption)|(simp [go_sem, *];done),by first|(with_reducible assumption)|(simp [go_sem, *];done),by first|(with_reducible assumption)|(simp [go_sem, *];done),by first|(with_reducible assumption)|(simp [go_sem, *];done),by first|(with_reducible assumption)|(simp [go_sem, *];done),by first|(with_reducible assumption)|(simp [go_sem, *];done),by first|(with_reducible assumption)|(simp [go_sem, *];done),by first|(with_reducible assumption)|(simp [go_sem, *];done),jg hP1a _, ?_, ?_, ?_⟩ ?_
 ·exact MU hR1a (But.set (But.of (Below.refl _ _)) _ _) (show w.1.size+1+1≠w.1.size+1+1+1 by omega)
 ·exact bs hB1a (show w.1.size<=w.1.size+1+1+1 by omega) _
 ·simpa [World.setCell]using hg1a
 rintro W1 ⟨c0,c1,c2,c3,t0,t1,t2,t3,hP1,hR1,hB1,hg1⟩
 clear d0 d1 d2 d3 s0 s1 s2 s3
 clear x0 x1 x2 x3 x4 x5 x6 x7 x8 x9 x10 x11 x12 x13 xf xs
 clear r0 r1 r2 r3 r4 r5 r6 r7 r8 r9 r10 r11 r12 r13 rf rs
 refine(HC2.out _ (Tab.below hT hB1) (Tab.below hL hB1)).mono ?_
 rintro e w2 ⟨rfl,hb2⟩
 have hP2a:=aU hP1 hb2
 have hR2a:=aU hR1 hb2
 have hB2a:=bt hB1 hb2
 have hg2a:w.1.size+1<w2.1.size:=Nat.lt_of_lt_of_le hg1 hb2.size
 have d0:=(hb2.cell (p:=⟨w.1.size,0,none⟩) (show w.1.size<W1.1.size by omega)).trans c0
 have s0:=(hb2.cell (p:=⟨w.1.size+1,0,none⟩) hg1).trans t0
 have d1:=(hb2.cell (p:=⟨w.1.size,1,none⟩) (show w.1.size<W1.1.size by omega)).trans c1
 have s1:=(hb2.cell (p:=⟨w.1.size+1,1,none⟩) hg1).trans t1
 have d2:=(hb2.cell (p:=⟨w.1.size,2,none⟩) (show w.1.size<W1.1.size by omega)).trans c2
 have s2:=(hb2.cell (p:=⟨w.1.size+1,2,none⟩) hg1).trans t2
 have d3:=(hb2.cell (p:=⟨w.1.size,3,none⟩) (show w.1.size<W1.1.size by omega)).trans c3
 have s3:=(hb2.cell (p:=⟨w.1.size+1,3,none⟩) hg1).trans t3
 clear c0 c1 c2 c3 t0 t1 t2 t3
 have hq:=hP2a
 obtain⟨x0,x1,x2,x3,x4,x5,x6,x7,x8,x9,x10,x11,x12,x13,xf,xs⟩:=hq
 have hq:=hR2a
 obtain⟨r0,r1,r2,r3,r4,r5,r6,r7,r8,r9,r10,r11,r12,r13,rf,rs⟩:=hq
 go_wp2_with fail
 refine bH (fun W=>W.cell? ⟨w.1.size,0,none⟩=some (.int .i64 y)/\W.cell? ⟨w.1.size,1,none⟩=some (.int .i64 n)/\W.cell? ⟨w.1.size,2,none⟩=some (.bool l)/\W.cell? ⟨w.1.size,3,none⟩=some (.int .i64 d)/\W.cell? ⟨(w.1.size+1),0,none⟩=some (.int .i64 z)/\W.cell? ⟨(w.1.size+1),1,none⟩=some (.int .i64 k)/\W.cell? ⟨(w.1.size+1),2,none⟩=some (.bool h)/\W.cell? ⟨(w.1.size+1),3,none⟩=some (.int .i64 f)/\aS W (w.1.size+1+1+1) y n l d z k h f (1) 0 0 0 0 (e2)/\aS W (w.1.size+1+1) 0 0 false 0 0 0 false 0 0 0 0 0 0 0/\Below w.1.size w W/\w.1.size+1<W.1.size) ⟨by first|(with_reducible assumption)|(simp [go_sem, *];done),by first|(with_reducible assumption)|(simp [go_sem, *];done),by first|(with_reducible assumption)|(simp [go_sem, *];done),by first|(with_reducible assumption)|(simp [go_sem, *];done),by first|(with_reducible assumption)|(simp [go_sem, *];done),by first|(with_reducible assumption)|(simp [go_sem, *];done),by first|(with_reducible assumption)|(simp [go_sem, *];done),by first|(with_reducible assumption)|(simp [go_sem, *];done),jg hP2a _, ?_, ?_, ?_⟩ ?_
 ·exact MU hR2a (But.set (But.of (Below.refl _ _)) _ _) (show w.1.size+1+1≠w.1.size+1+1+1 by omega)
 ·exact bs hB2a (show w.1.size<=w.1.size+1+1+1 by omega) _
 ·simpa [World.setCell]using hg2a
 rintro W2 ⟨c0,c1,c2,c3,t0,t1,t2,t3,hP2,hR2,hB2,hg2⟩
 clear d0 d1 d2 d3 s0 s1 s2 s3
 clear x0 x1 x2 x3 x4 x5 x6 x7 x8 x9 x10 x11 x12 x13 xf xs
 clear r0 r1 r2 r3 r4 r5 r6 r7 r8 r9 r10 r11 r12 r13 rf rs
 refine(HL2.out _).mono ?_
 rintro e w3 ⟨rfl,hb3⟩
 have hP3a:=aU hP2 hb3
 have hR3a:=aU hR2 hb3
 have hB3a:=bt hB2 hb3
 have hg3a:w.1.size+1<w3.1.size:=Nat.lt_of_lt_of_le hg2 hb3.size
 have d0:=(hb3.cell (p:=⟨w.1.size,0,none⟩) (show w.1.size<W2.1.size by omega)).trans c0
 have s0:=(hb3.cell (p:=⟨w.1.size+1,0,none⟩) hg2).trans t0
 have d1:=(hb3.cell (p:=⟨w.1.size,1,none⟩) (show w.1.size<W2.1.size by omega)).trans c1
 have s1:=(hb3.cell (p:=⟨w.1.size+1,1,none⟩) hg2).trans t1
 have d2:=(hb3.cell (p:=⟨w.1.size,2,none⟩) (show w.1.size<W2.1.size by omega)).trans c2
 have s2:=(hb3.cell (p:=⟨w.1.size+1,2,none⟩) hg2).trans t2
 have d3:=(hb3.cell (p:=⟨w.1.size,3,none⟩) (show w.1.size<W2.1.size by omega)).trans c3
 have s3:=(hb3.cell (p:=⟨w.1.size+1,3,none⟩) hg2).trans t3
 clear c0 c1 c2 c3 t0 t1 t2 t3
 have hq:=hP3a
 obtain⟨x0,x1,x2,x3,x4,x5,x6,x7,x8,x9,x10,x11,x12,x13,xf,xs⟩:=hq
 have hq:=hR3a
 obtain⟨r0,r1,r2,r3,r4,r5,r6,r7,r8,r9,r10,r11,r12,r13,rf,rs⟩:=hq
 go_wp2_with fail
 have hne:w.1.size+1+1+1<w3.1.size:=hP3a.2.2.2.2.2.2.2.2.2.2.2.2.2.2.2
 first|(have _:=k90;refine bodyPost_ret (v:= .agg #[.int .i64 y,.int .i64 n,.bool l,.int .i64 d,.int .i64 z,.int .i64 k,.bool h,.int .i64 f,.int .i64 (1),.int .i64 (0),.int .i64 (0),.int .i64 (0),.int .i64 (0),.int .i64 (e2)]) (by simp [results,Tryz.results77,go_sem, *]) rfl ⟨rfl, ?_⟩)|(refine bodyPost_ret (v:= .agg #[.int .i64 y,.int .i64 n,.bool l,.int .i64 d,.int .i64 z,.int .i64 k,.bool h,.int .i64 f,.int .i64 (-1),.int .i64 (0),.int .i64 (0),.int .i64 (0),.int .i64 (0),.int .i64 (e2)]) (by simp [results,Tryz.results77,go_sem, *]) rfl ⟨rfl, ?_⟩)
 exact bel
 )
def u7:=kX.1
def Ai:=kX.2
theorem pR:(∀(y n:Int)(l:Bool)(d z k:Int)(h:Bool)(f unit:Int)(w:World)(hu:unit<0),vB 77 #[.agg #[.int .i64 (y),.int .i64 (n),.bool (l),.int .i64 (d)],.agg #[.int .i64 (z),.int .i64 (k),.bool (h),.int .i64 (f)],.int .i64 unit] w (.agg #[.int .i64 y,.int .i64 n,.bool l,.int .i64 d,.int .i64 z,.int .i64 k,.bool h,.int .i64 f,.int .i64 (1),.int .i64 (0),.int .i64 (0),.int .i64 (0),.int .i64 (0),.int .i64 (1)]))/\(∀(y n:Int)(l:Bool)(d z k:Int)(h:Bool)(f unit:Int)(w:World)(hu0:0<=unit)(hu:3<unit),vB 77 #[.agg #[.int .i64 (y),.int .i64 (n),.bool (l),.int .i64 (d)],.agg #[.int .i64 (z),.int .i64 (k),.bool (h),.int .i64 (f)],.int .i64 unit] w (.agg #[.int .i64 y,.int .i64 n,.bool l,.int .i64 d,.int .i64 z,.int .i64 k,.bool h,.int .i64 f,.int .i64 (1),.int .i64 (0),.int .i64 (0),.int .i64 (0),.int .i64 (0),.int .i64 (1)])):=by
 refine⟨@fun y n l d z k h f unit w hu=> ?_,@fun y n l d z k h f unit w hu0 hu=> ?_⟩
 all_goals(
 go_enter (vF Tryz.func77),Tryz.ntmps77
 go_wp2_with fail
 refine bodyPost_ret (v:= .agg #[.int .i64 y,.int .i64 n,.bool l,.int .i64 d,.int .i64 z,.int .i64 k,.bool h,.int .i64 f,.int .i64 (1),.int .i64 (0),.int .i64 (0),.int .i64 (0),.int .i64 (0),.int .i64 (1)]) (by simp [results,Tryz.results77,go_sem]) rfl ⟨rfl, ?_⟩
 exact bel
 )
def Gi:=pR.1
def D6:=pR.2
end Go.Proofs.YtljbnicolhhicaaGreatDoor
