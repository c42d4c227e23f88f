import Derived.Test.YtljbnicolhhicaaGreatDoorZFE
set_option maxHeartbeats 8000000
set_option maxRecDepth 100000
set_option linter.unusedVariables false
namespace Go.Proofs.YtljbnicolhhicaaGreatDoor
section
open Go.ChangeShapes Go.WideShapes Go.ChangeAt Go.RowKit
namespace Yr
def Is(y:Int)(i:Nat):Prop:=1<=y/\y<=9999/\i<14/\Cal.first y % 7=dz i/\Cal.kind y=kV i/\Cal.leap y=kS i
theorem Ac(y:Int)(h1:1<=y)(h2:y<=9999):∃i,Is y i:=by
 obtain⟨i,hi,a,b,c⟩:=R6 y h1 h2
 exact⟨i,h1,h2,hi,a,b,c⟩
def qY(i:Nat)(n:Int)(l:Bool)(d:Int):Int:=jM (dz i) (kV i) (kS i) (Cal.plV (kS i) n l)+d-1
def okV(i:Nat)(n:Int)(l:Bool)(d:Int):Bool:=Cal.dH (kS i) n l&&(decide (1<=d)&&decide (d<=uI (dz i) (kV i) (kS i) (Cal.plV (kS i) n l)))
def Iq(i:Nat):Int:=353+kV i+if kS i then 30 else 0
theorem sK{y n d:Int}{i:Nat}{l:Bool}(h:Is y i)(hv:okV i n l d=true):D10.aK y n l d=0/\D10.aM y n l d=Cal.first y+qY i n l d:=by
 obtain⟨h1,h2,hi,hb,hk,hl⟩:=h
 have hv2:=hv
 unfold okV at hv
 simp only [Bool.and_eq_true,decide_eq_true_eq]at hv
 obtain⟨p,d1,d2⟩:=hv
 have he:D10.aK y n l d=0:=by
  unfold D10.aK D10.dLen
  rw [Cal.dN y h1 h2,hl,p,hb,hk]
  simp only [if_true]
  rw [decide_eq_true d1,decide_eq_true d2]
  rfl
 refine⟨he, ?_⟩
 unfold D10.aM
 rw [if_pos he]
 unfold D10.bA D10.jr qY
 rw [hl,hb,hk]
 omega
theorem iY{y:Int}{i:Nat}(h:Is y i): -1373427<=Cal.first y/\Cal.first y<=2278650:=by
 obtain⟨h1,h2,_⟩:=h
 have a:=fC 1 y vO h1 vO
 have b:=fC y 9999 vO h2 vO
 have c:=fC 9999 10000 vO vO vO
 rw [nL]at a
 have d:=D10.Im (y:=y) (m:=1) (d:=1) ⟨h1,h2,vO,D10.QE y,vO,by have:=(D10.j5 y 1 h1 h2 vO (D10.QE y)).1;omega⟩
 unfold D10.bA at d
 rw [D10.LD y h1 h2]at d
 omega
theorem j6{y:Int}{i:Nat}(h:Is y i):Cal.first (y+1)=Cal.first y+Iq i:=by
 obtain⟨h1,h2,hi,hb,hk,hl⟩:=h
 unfold Iq
 rw [←hk,←hl]
 unfold Cal.kind Cal.long
 split <;> omega
end Yr
end
section
open Go.ChangeShapes Go.WideShapes Go.ChangeAt Go.RowKit Go.Lib Go.Sort Go.Shelf
namespace Fe
def Vh(lp p:Bool)(r:Int×Int×Bool×Int×Nat×Int×Nat):List Key:=
 if NT lp r.2.1 r.2.2.1 then(List.range (DZ p r)).map (fun i:Nat=>(r.1,r.2.1,r.2.2.1,nC p r,(i:Int)))else []
def zi(lp p:Bool):List Key:=rows.flatMap (Vh lp p)
theorem WQ(dv:Int->Bool->Int->Int)(lp p:Bool):upto dv lp p 19=(zi lp p).map (evk dv):=by
 unfold upto zi
 rw [show rows.take 19=rows from rfl,List.map_flatMap]
 congr 1
 funext r
 unfold Hq Vh evs
 split
 ·rw [List.map_map];rfl
 ·rfl
def kP(i:Nat)(p:Bool):List (Int×Int):=Ev.sort ((zi (kS i) p).map (evk (Yr.qY i)))
def OU(i:Nat)(L:List Key):Bool:=L.all fun k=>Yr.okV i k.2.1 k.2.2.1 k.2.2.2.1
theorem ZX{y:Int}{i:Nat}(h:Yr.Is y i){L:List Key}(hL:OU i L=true):L.map (evk (D10.aM y))=(L.map (evk (Yr.qY i))).map (Ev.sh (Cal.first y)):=by
 rw [List.map_map]
 apply List.map_congr_left
 intro k hk
 have:=(Yr.sK h (List.all_eq_true.1 hL k hk)).2
 unfold evk Ev.sh
 dsimp only [Function.comp]
 rw [this]
 simp only [Prod.mk.injEq,true_and]
 omega
theorem YS{y:Int}{i:Nat}(h:Yr.Is y i){L:List Key}(hL:OU i L=true):Ev.sort (L.map (evk (D10.aM y)))=(Ev.sort (L.map (evk (Yr.qY i)))).map (Ev.sh (Cal.first y)):=by
 rw [ZX h hL,Ev.Y7]
theorem Z5:((List.range 14).all fun i=> [false,true].all fun p=>OU i (zi (kS i) p))=true:=by decide+kernel
theorem Ws(i:Nat)(hi:i<14)(p:Bool):OU i (zi (kS i) p)=true:=by
 have:=List.all_eq_true.1 (List.all_eq_true.1 Z5 i (List.mem_range.2 hi)) p (by cases p <;> simp)
 exact this
theorem YU{y:Int}{i:Nat}(h:Yr.Is y i)(p:Bool):∀k,k<19->NT (Cal.leap y) (row k).2.1 (row k).2.2.1=true->D10.aK y (row k).2.1 (row k).2.2.1 (nC p (row k))=0/\ -2000000<=D10.aM y (row k).2.1 (row k).2.2.1 (nC p (row k))/\D10.aM y (row k).2.1 (row k).2.2.1 (nC p (row k))<=3000000:=by
 intro k hk hv
 have hb:=Yr.iY h
 have hc:((List.range 14).all fun i=> [false,true].all fun p=>(List.range 19).all fun k=> !(NT (kS i) (row k).2.1 (row k).2.2.1)||(Yr.okV i (row k).2.1 (row k).2.2.1 (nC p (row k))&&(decide (0<=Yr.qY i (row k).2.1 (row k).2.2.1 (nC p (row k)))&&decide (Yr.qY i (row k).2.1 (row k).2.2.1 (nC p (row k))<=400))))=true:=by decide+kernel
 have:=List.all_eq_true.1 (List.all_eq_true.1 (List.all_eq_true.1 hc i (List.mem_range.2 h.2.2.1)) p (by cases p <;> simp)) k (List.mem_range.2 hk)
 rw [h.2.2.2.2.2]at hv
 rw [hv]at this
 simp only [Bool.not_true,Bool.false_or,Bool.and_eq_true,decide_eq_true_eq]at this
 obtain⟨o1,o2,o3⟩:=this
 obtain⟨e1,e2⟩:=Yr.sK h o1
 rw [e2]
 exact⟨e1,vO,vO⟩
end Fe
theorem yV(y:Int)(i:Nat)(p:Bool)(w:World)(h:Yr.Is y i)(hT:Tab w 6 kevCells)(hL:Tab w 4 lenCells)(hF:Tab w 7 Fe.cells):
  Calls Tryo.prog 158 #[y,.int .i64 (if p then 1 else 0)] w fun e w'=>∃v,e= .returned (.tuple #[v,(0:Int)])/\Ev.Own w' w.1.size v ((Fe.kP i p).map (Ev.sh (Cal.first y)))/\Below w.1.size w w':=by
 have hy1:=h.1
 have hy2:=h.2.1
 have HLp:=Lib.hid (fun w=>aN y w vO vO)
 have e:Ev.sort (Fe.upto (D10.aM y) (Cal.leap y) p 19)=(Fe.kP i p).map (Ev.sh (Cal.first y)):=by
  rw [Fe.WQ,h.2.2.2.2.2,Fe.YS h (Fe.Ws i h.2.2.1 p)]
  rfl
 rw [←e]
 cases p
 ·exact SS y _ w hy1 hy2 hT hL hF HLp (Lib.hid (Fe.YU h false))
 ·exact Uj y _ w hy1 hy2 hT hL hF HLp (Lib.hid (Fe.YU h true))
end
section
open Go.ChangeShapes Go.WideShapes Go.ChangeAt Go.RowKit Go.Lib Go.Sort Go.Shelf
namespace Om
def om(y:Int):Int:=D10.aM y 7 false 15
theorem om_ok:((List.range 14).all fun i=>Yr.okV i 7 false 15&&(decide (0<=Yr.qY i 7 false 15)&&decide (Yr.qY i 7 false 15<=400)))=true:=by decide+kernel
theorem om_e{y:Int}(h1:1<=y)(h2:y<=9999):D10.aK y 7 false 15=0/\ -2000000<=om y/\om y<=3000000:=by
 obtain⟨i,hi⟩:=Yr.Ac y h1 h2
 have h:=List.all_eq_true.1 om_ok i (List.mem_range.2 hi.2.2.1)
 simp only [Bool.and_eq_true,decide_eq_true_eq]at h
 obtain⟨e1,e2⟩:=Yr.sK hi h.1
 have:=Yr.iY hi
 unfold om
 exact⟨e1,vO,vO⟩
def val(n:Int):Int:=if 1<=n/\n<=49 then n else 0
end Om
theorem Lc(y Z E:Int)(w:World)(hT:Tab w 6 kevCells)(hL:Tab w 4 lenCells)(HC:Hid (∀w:World,Tab w 6 kevCells->Tab w 4 lenCells->vB 29 #[.agg #[y,(7:Int),false,(15:Int)]] w (.tuple #[Z,E]))):
  vB 88 #[y] w (.tuple #[Z,E]):=by
 go_enter (vF Tryz.func88),Tryz.ntmps88
 go_wp2_with fail
 refine vX (HC.out _ (Tab.below hT bel) (Tab.below hL bel)) fun w1 hb1 hz1 hc1 hf1=>?_
 try simp at hz1
 go_wp2_with fail
 go_ret2
 exact⟨rfl,bel⟩
theorem Xm(y:Int)(w:World)(h1:1<=y)(h2:y<=9999)(hT:Tab w 6 kevCells)(hL:Tab w 4 lenCells):vB 88 #[y] w (.tuple #[Om.om y,(0:Int)]):=
 Lc y _ _ w hT hL (Lib.hid (fun w hT hL=>by have:=lW y 7 false 15 w ⟨vO,vO⟩ hT hL;rwa [(Om.om_e h1 h2).1]at this))
theorem Gu(D Z y n d:Int)(l:Bool)(w:World)(h1:1<=D-Z)(h2:D-Z<=49)(HZ: -2000000<=Z/\Z<=3000000)(HD: -2000000<=D/\D<=3000000)(hT:Tab w 6 kevCells)(hL:Tab w 4 lenCells)
  (HFd:Hid (∀w:World,Tab w 6 kevCells->Tab w 4 lenCells->vB 31 #[D] w (.tuple #[.agg #[y,n,l,d],(0:Int)])))
  (HAh:Hid (∀w:World,Tab w 6 kevCells->Tab w 4 lenCells->vB 88 #[y] w (.tuple #[Z,(0:Int)]))):
  vB 45 #[D] w (.tuple #[.int .i64 (D-Z),(0:Int)]):=by
 obtain⟨hz1,hz2⟩:=HZ
 obtain⟨hd1,hd2⟩:=HD
 obtain⟨q,hq⟩:∃q,D-Z=q:=⟨_,rfl⟩
 rw [hq]at h1 h2⊢
 have g1:¬ q<1:=vO
 have g2:¬ 49<q:=vO
 have G1:decide (q<1)=false:=by simpa using g1
 have G2:decide (49<q)=false:=by simpa using g2
 go_enter (vF Tryz.func45),Tryz.ntmps45
 go_wp2_with fail
 refine vX (HFd.out _ (Tab.below hT bel) (Tab.below hL bel)) fun w1 hb1 hz1 hc1 hf1=>?_
 try simp at hz1
 go_wp2_with fail
 refine vX (HAh.out _ (Tab.below hT bel) (Tab.below hL bel)) fun w2 hb2 hz2 hc2 hf2=>?_
 try simp at hz2
 have hl2w1:w1.1.size<w2.1.size:=vO
 have hm2w1:w1.1.size<=w2.1.size:=vO
 have g2x0:w2.cell? ⟨w1.1.size,0,none⟩=some (y:vV):=cel hc2
 go_wp2_with fail
 go_ret2
 exact⟨rfl,bel⟩
theorem Gh(D Z y n d:Int)(l:Bool)(w:World)(h1:D-Z<1)(HZ: -2000000<=Z/\Z<=3000000)(HD: -2000000<=D/\D<=3000000)(hT:Tab w 6 kevCells)(hL:Tab w 4 lenCells)
  (HFd:Hid (∀w:World,Tab w 6 kevCells->Tab w 4 lenCells->vB 31 #[D] w (.tuple #[.agg #[y,n,l,d],(0:Int)])))
  (HAh:Hid (∀w:World,Tab w 6 kevCells->Tab w 4 lenCells->vB 88 #[y] w (.tuple #[Z,(0:Int)]))):
  vB 45 #[D] w (.tuple #[(0:Int),(0:Int)]):=by
 obtain⟨hz1,hz2⟩:=HZ
 obtain⟨hd1,hd2⟩:=HD
 obtain⟨q,hq⟩:∃q,D-Z=q:=⟨_,rfl⟩
 rw [hq]at h1
 have g1:¬ 1<=q:=vO
 have G1:decide (1<=q)=false:=by simpa using g1
 go_enter (vF Tryz.func45),Tryz.ntmps45
 go_wp2_with fail
 refine vX (HFd.out _ (Tab.below hT bel) (Tab.below hL bel)) fun w1 hb1 hz1 hc1 hf1=>?_
 try simp at hz1
 go_wp2_with fail
 refine vX (HAh.out _ (Tab.below hT bel) (Tab.below hL bel)) fun w2 hb2 hz2 hc2 hf2=>?_
 try simp at hz2
 have hl2w1:w1.1.size<w2.1.size:=vO
 have hm2w1:w1.1.size<=w2.1.size:=vO
 have g2x0:w2.cell? ⟨w1.1.size,0,none⟩=some (y:vV):=cel hc2
 go_wp2_with fail
 go_ret2
 exact⟨rfl,bel⟩
theorem FY(D Z y n d:Int)(l:Bool)(w:World)(h1:49<D-Z)(HZ: -2000000<=Z/\Z<=3000000)(HD: -2000000<=D/\D<=3000000)(hT:Tab w 6 kevCells)(hL:Tab w 4 lenCells)
  (HFd:Hid (∀w:World,Tab w 6 kevCells->Tab w 4 lenCells->vB 31 #[D] w (.tuple #[.agg #[y,n,l,d],(0:Int)])))
  (HAh:Hid (∀w:World,Tab w 6 kevCells->Tab w 4 lenCells->vB 88 #[y] w (.tuple #[Z,(0:Int)]))):
  vB 45 #[D] w (.tuple #[(0:Int),(0:Int)]):=by
 obtain⟨hz1,hz2⟩:=HZ
 obtain⟨hd1,hd2⟩:=HD
 obtain⟨q,hq⟩:∃q,D-Z=q:=⟨_,rfl⟩
 rw [hq]at h1
 have g1:1<=q:=vO
 have g2:¬ q<=49:=vO
 have G2:decide (q<=49)=false:=by simpa using g2
 have g3:¬ q<1:=vO
 have G3:decide (q<1)=false:=by simpa using g3
 go_enter (vF Tryz.func45),Tryz.ntmps45
 go_wp2_with fail
 refine vX (HFd.out _ (Tab.below hT bel) (Tab.below hL bel)) fun w1 hb1 hz1 hc1 hf1=>?_
 try simp at hz1
 go_wp2_with fail
 refine vX (HAh.out _ (Tab.below hT bel) (Tab.below hL bel)) fun w2 hb2 hz2 hc2 hf2=>?_
 try simp at hz2
 have hl2w1:w1.1.size<w2.1.size:=vO
 have hm2w1:w1.1.size<=w2.1.size:=vO
 have g2x0:w2.cell? ⟨w1.1.size,0,none⟩=some (y:vV):=cel hc2
 go_wp2_with fail
 go_ret2
 exact⟨rfl,bel⟩
theorem Gp(D:Int)(w:World)(h:D< -1373427∨2278650<D)(hT:Tab w 6 kevCells)(hL:Tab w 4 lenCells):
  vB 45 #[D] w (.tuple #[(0:Int),(2:Int)]):=by
 have HFd:=Lib.hid (fun w=>kR D w h)
 clear h
 go_enter (vF Tryz.func45),Tryz.ntmps45
 go_wp2_with fail
 refine vX (HFd.out _) fun w1 hb1 hz1 hc1 hf1=>?_
 try simp at hz1
 go_wp2_with fail
 go_ret2
 exact⟨rfl,bel⟩
theorem FT(y m d:Int)(w:World)(hv:D10.Valid y m d)(hT:Tab w 6 kevCells)(hL:Tab w 4 lenCells):
  vB 45 #[D10.bA y m d] w (.tuple #[Om.val (D10.bA y m d-Om.om y),(0:Int)]):=by
 obtain⟨_,z1,z2⟩:=Om.om_e hv.1 hv.2.1
 have hb:=D10.Im hv
 have HFd:=Lib.hid (fun w hT hL=>iE y m d w hT hL hv)
 have HAh:=Lib.hid (fun w hT hL=>Xm y w hv.1 hv.2.1 hT hL)
 unfold Om.val
 by_cases c:1<=D10.bA y m d-Om.om y/\D10.bA y m d-Om.om y<=49
 ·rw [if_pos c]
  exact Gu _ _ _ _ _ _ w c.1 c.2 ⟨z1,z2⟩ ⟨vO,vO⟩ hT hL HFd HAh
 ·rw [if_neg c]
  by_cases c2:D10.bA y m d-Om.om y<1
  ·exact Gh _ _ _ _ _ _ w c2 ⟨z1,z2⟩ ⟨vO,vO⟩ hT hL HFd HAh
  ·exact FY _ _ _ _ _ _ w vO ⟨z1,z2⟩ ⟨vO,vO⟩ hT hL HFd HAh
end
end Go.Proofs.YtljbnicolhhicaaGreatDoor
