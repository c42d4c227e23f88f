import Derived.Test.YthnjjcoahdhmnaaGreatDoorEYM
import Derived.Test.YthnjjcoahdhmnaaGreatDoorEEV
import Derived.Test.YthnjjcoahdhmnaaGreatDoorEHR
import Derived.Test.YthnjjcoahdhmnaaGreatDoorEBB
import Derived.Test.YthnjjcoahdhmnaaGreatDoorESP
import Derived.Test.YthnjjcoahdhmnaaGreatDoorETL
import Derived.Laws.EntriesVeiled
set_option maxHeartbeats 8000000
set_option maxRecDepth 100000
set_option linter.unusedVariables false
namespace Go.Proofs.YthnjjcoahdhmnaaGreatDoor
section
open Go.ChangeShapes Go.WideShapes Go.ChangeAt Go.RowKit Go.Lib Go.Sort Go.Shelf
namespace Om
def om(y:Int):Int:=D10.aC y 7 false 15
theorem om_ok:((List.range 14).all fun i=>Yr.okV i 7 false 15&&(decide (0<=Yr.dJ i 7 false 15)&&decide (Yr.dJ i 7 false 15<=400)))=true:=by decide+kernel
theorem om_e{y:Int}(h1:1<=y)(h2:y<=9999):D10.bO y 7 false 15=0/\ -2000000<=om y/\om y<=3000000:=by
 obtain⟨i,hi⟩:=Yr.kT y h1 h2
 have h:=List.all_eq_true.1 om_ok i (List.mem_range.2 hi.2.2.1)
 simp only [Bool.and_eq_true,decide_eq_true_eq]at h
 obtain⟨e1,e2⟩:=Yr.dP hi h.1
 have:=Yr.bF hi
 unfold om
 exact⟨e1,by omega,by omega⟩
def val(n:Int):Int:=if 1<=n/\n<=49 then n else 0
end Om
theorem Jj(y Z E:Int)(w:World)(hT:Tab w 7 kevCells)(hL:Tab w 5 lenCells)(HC:Hid (∀w:World,Tab w 7 kevCells->Tab w 5 lenCells->Calls Tryo.prog 15 #[.agg #[.int .i64 y,.int .i64 7,.bool false,.int .i64 15]] w fun e w'=>e= .returned (.tuple #[.int .i64 Z,.int .i64 E])/\Below w.heap.size w w')):
  Calls Tryo.prog 86 #[.int .i64 y] w fun e w'=>e= .returned (.tuple #[.int .i64 Z,.int .i64 E])/\Below w.heap.size w w':=by
 go_enter Tryo.func86,Tryz.ntmps86
 go_wp2_with fail
 refine(HC.out _ (Tab.below hT bel) (Tab.below hL bel)).mono ?_
 rintro e w1 ⟨rfl,hb1⟩
 obtain⟨hc1,hf1⟩:=aA hb1
 have hz1:=hb1.size
 try simp at hz1
 go_wp2_with fail
 go_ret2
 exact⟨rfl,bel⟩
theorem Xg(y:Int)(w:World)(h1:1<=y)(h2:y<=9999)(hT:Tab w 7 kevCells)(hL:Tab w 5 lenCells):Calls Tryo.prog 86 #[.int .i64 y] w fun e w'=>e= .returned (.tuple #[.int .i64 (Om.om y),.int .i64 0])/\Below w.heap.size w w':=
 Jj y _ _ w hT hL (Lib.hid (fun w hT hL=>by have:=lq y 7 false 15 w ⟨by omega,by omega⟩ hT hL;rwa [(Om.om_e h1 h2).1]at this))
theorem DF(D Z y n d:Int)(l:Bool)(w:World)(h1:1<=D-Z)(h2:D-Z<=49)(HZ: -2000000<=Z/\Z<=3000000)(HD: -2000000<=D/\D<=3000000)(hT:Tab w 7 kevCells)(hL:Tab w 5 lenCells)
  (HFd:Hid (∀w:World,Tab w 7 kevCells->Tab w 5 lenCells->Calls Tryo.prog 23 #[.int .i64 D] w fun e w'=>e= .returned (.tuple #[.agg #[.int .i64 y,.int .i64 n,.bool l,.int .i64 d],.int .i64 0])/\Below w.heap.size w w'))
  (HAh:Hid (∀w:World,Tab w 7 kevCells->Tab w 5 lenCells->Calls Tryo.prog 86 #[.int .i64 y] w fun e w'=>e= .returned (.tuple #[.int .i64 Z,.int .i64 0])/\Below w.heap.size w w')):
  Calls Tryo.prog 29 #[.int .i64 D] w fun e w'=>e= .returned (.tuple #[.int .i64 (D-Z),.int .i64 0])/\Below w.heap.size w w':=by
 obtain⟨hz1,hz2⟩:=HZ
 obtain⟨hd1,hd2⟩:=HD
 obtain⟨q,hq⟩:∃q,D-Z=q:=⟨_,rfl⟩
 rw [hq]at h1 h2⊢
 have g1:¬ q<1:=by omega
 have g2:¬ 49<q:=by omega
 have G1:decide (q<1)=false:=by simpa using g1
 have G2:decide (49<q)=false:=by simpa using g2
 go_enter Tryo.func29,Tryz.ntmps29
 go_wp2_with fail
 refine(HFd.out _ (Tab.below hT bel) (Tab.below hL bel)).mono ?_
 rintro e w1 ⟨rfl,hb1⟩
 obtain⟨hc1,hf1⟩:=aA hb1
 have hz1:=hb1.size
 try simp at hz1
 go_wp2_with fail
 refine(HAh.out _ (Tab.below hT bel) (Tab.below hL bel)).mono ?_
 rintro e w2 ⟨rfl,hb2⟩
 obtain⟨hc2,hf2⟩:=aA hb2
 have hz2:=hb2.size
 try simp at hz2
 have hl2w1:w1.heap.size<w2.heap.size:=by omega
 have hm2w1:w1.heap.size<=w2.heap.size:=by omega
 have g2x0:w2.cell? ⟨w1.heap.size,0,none⟩=some (.int .i64 y):=cel hc2
 go_wp2_with fail
 go_ret2
 exact⟨rfl,bel⟩
theorem CY(D Z y n d:Int)(l:Bool)(w:World)(h1:D-Z<1)(HZ: -2000000<=Z/\Z<=3000000)(HD: -2000000<=D/\D<=3000000)(hT:Tab w 7 kevCells)(hL:Tab w 5 lenCells)
  (HFd:Hid (∀w:World,Tab w 7 kevCells->Tab w 5 lenCells->Calls Tryo.prog 23 #[.int .i64 D] w fun e w'=>e= .returned (.tuple #[.agg #[.int .i64 y,.int .i64 n,.bool l,.int .i64 d],.int .i64 0])/\Below w.heap.size w w'))
  (HAh:Hid (∀w:World,Tab w 7 kevCells->Tab w 5 lenCells->Calls Tryo.prog 86 #[.int .i64 y] w fun e w'=>e= .returned (.tuple #[.int .i64 Z,.int .i64 0])/\Below w.heap.size w w')):
  Calls Tryo.prog 29 #[.int .i64 D] w fun e w'=>e= .returned (.tuple #[.int .i64 (0),.int .i64 0])/\Below w.heap.size w w':=by
 obtain⟨hz1,hz2⟩:=HZ
 obtain⟨hd1,hd2⟩:=HD
 obtain⟨q,hq⟩:∃q,D-Z=q:=⟨_,rfl⟩
 rw [hq]at h1
 have g1:¬ 1<=q:=by omega
 have G1:decide (1<=q)=false:=by simpa using g1
 go_enter Tryo.func29,Tryz.ntmps29
 go_wp2_with fail
 refine(HFd.out _ (Tab.below hT bel) (Tab.below hL bel)).mono ?_
 rintro e w1 ⟨rfl,hb1⟩
 obtain⟨hc1,hf1⟩:=aA hb1
 have hz1:=hb1.size
 try simp at hz1
 go_wp2_with fail
 refine(HAh.out _ (Tab.below hT bel) (Tab.below hL bel)).mono ?_
 rintro e w2 ⟨rfl,hb2⟩
 obtain⟨hc2,hf2⟩:=aA hb2
 have hz2:=hb2.size
 try simp at hz2
 have hl2w1:w1.heap.size<w2.heap.size:=by omega
 have hm2w1:w1.heap.size<=w2.heap.size:=by omega
 have g2x0:w2.cell? ⟨w1.heap.size,0,none⟩=some (.int .i64 y):=cel hc2
 go_wp2_with fail
 go_ret2
 exact⟨rfl,bel⟩
theorem CP(D Z y n d:Int)(l:Bool)(w:World)(h1:49<D-Z)(HZ: -2000000<=Z/\Z<=3000000)(HD: -2000000<=D/\D<=3000000)(hT:Tab w 7 kevCells)(hL:Tab w 5 lenCells)
  (HFd:Hid (∀w:World,Tab w 7 kevCells->Tab w 5 lenCells->Calls Tryo.prog 23 #[.int .i64 D] w fun e w'=>e= .returned (.tuple #[.agg #[.int .i64 y,.int .i64 n,.bool l,.int .i64 d],.int .i64 0])/\Below w.heap.size w w'))
  (HAh:Hid (∀w:World,Tab w 7 kevCells->Tab w 5 lenCells->Calls Tryo.prog 86 #[.int .i64 y] w fun e w'=>e= .returned (.tuple #[.int .i64 Z,.int .i64 0])/\Below w.heap.size w w')):
  Calls Tryo.prog 29 #[.int .i64 D] w fun e w'=>e= .returned (.tuple #[.int .i64 (0),.int .i64 0])/\Below w.heap.size w w':=by
 obtain⟨hz1,hz2⟩:=HZ
 obtain⟨hd1,hd2⟩:=HD
 obtain⟨q,hq⟩:∃q,D-Z=q:=⟨_,rfl⟩
 rw [hq]at h1
 have g1:1<=q:=by omega
 have g2:¬ q<=49:=by omega
 have G2:decide (q<=49)=false:=by simpa using g2
 have g3:¬ q<1:=by omega
 have G3:decide (q<1)=false:=by simpa using g3
 go_enter Tryo.func29,Tryz.ntmps29
 go_wp2_with fail
 refine(HFd.out _ (Tab.below hT bel) (Tab.below hL bel)).mono ?_
 rintro e w1 ⟨rfl,hb1⟩
 obtain⟨hc1,hf1⟩:=aA hb1
 have hz1:=hb1.size
 try simp at hz1
 go_wp2_with fail
 refine(HAh.out _ (Tab.below hT bel) (Tab.below hL bel)).mono ?_
 rintro e w2 ⟨rfl,hb2⟩
 obtain⟨hc2,hf2⟩:=aA hb2
 have hz2:=hb2.size
 try simp at hz2
 have hl2w1:w1.heap.size<w2.heap.size:=by omega
 have hm2w1:w1.heap.size<=w2.heap.size:=by omega
 have g2x0:w2.cell? ⟨w1.heap.size,0,none⟩=some (.int .i64 y):=cel hc2
 go_wp2_with fail
 go_ret2
 exact⟨rfl,bel⟩
theorem iY(y m d:Int)(w:World)(hv:D10.Valid y m d)(hT:Tab w 7 kevCells)(hL:Tab w 5 lenCells):
  Calls Tryo.prog 29 #[.int .i64 (D10.aS y m d)] w fun e w'=>e= .returned (.tuple #[.int .i64 (Om.val (D10.aS y m d-Om.om y)),.int .i64 0])/\Below w.heap.size w w':=by
 obtain⟨_,z1,z2⟩:=Om.om_e hv.1 hv.2.1
 have hb:=D10.mG hv
 have HFd:=Lib.hid (fun w hT hL=>dz y m d w hT hL hv)
 have HAh:=Lib.hid (fun w hT hL=>Xg y w hv.1 hv.2.1 hT hL)
 unfold Om.val
 by_cases c:1<=D10.aS y m d-Om.om y/\D10.aS y m d-Om.om y<=49
 ·rw [if_pos c]
  exact DF _ _ _ _ _ _ w c.1 c.2 ⟨z1,z2⟩ ⟨by omega,by omega⟩ hT hL HFd HAh
 ·rw [if_neg c]
  by_cases c2:D10.aS y m d-Om.om y<1
  ·exact CY _ _ _ _ _ _ w c2 ⟨z1,z2⟩ ⟨by omega,by omega⟩ hT hL HFd HAh
  ·exact CP _ _ _ _ _ _ w (by omega) ⟨z1,z2⟩ ⟨by omega,by omega⟩ hT hL HFd HAh
theorem Ip(D Z y n d:Int)(l:Bool)(w:World)(h1:1<=D-Z)(h2:D-Z<=49)(HZ: -2000000<=Z/\Z<=3000000)(HD: -2000000<=D/\D<=3000000)
  (HFd:Hid (∀w:World,Calls Tryo.prog 33 #[.int .i64 D] w fun e w'=>e= .returned (.tuple #[.agg #[.int .i64 y,.int .i64 n,.bool l,.int .i64 d],.int .i64 0])/\Below w.heap.size w w'))
  (HAh:Hid (∀w:World,Calls Tryo.prog 99 #[.int .i64 y,.int .i64 7,.int .i64 15] w fun e w'=>e= .returned (.int .i64 Z)/\Below w.heap.size w w')):
  Calls Tryo.prog 36 #[.int .i64 D] w fun e w'=>e= .returned (.tuple #[.int .i64 (D-Z),.int .i64 0])/\Below w.heap.size w w':=by
 obtain⟨hz1,hz2⟩:=HZ
 obtain⟨hd1,hd2⟩:=HD
 obtain⟨q,hq⟩:∃q,D-Z=q:=⟨_,rfl⟩
 rw [hq]at h1 h2⊢
 have g1:¬ q<1:=by omega
 have g2:¬ 49<q:=by omega
 have G1:decide (q<1)=false:=by simpa using g1
 have G2:decide (49<q)=false:=by simpa using g2
 go_enter Tryo.func36,Tryz.ntmps36
 go_wp2_with fail
 refine(HFd.out _).mono ?_
 rintro e w1 ⟨rfl,hb1⟩
 obtain⟨hc1,hf1⟩:=aA hb1
 have hz1:=hb1.size
 try simp at hz1
 go_wp2_with fail
 refine(HAh.out _).mono ?_
 rintro e w2 ⟨rfl,hb2⟩
 obtain⟨hc2,hf2⟩:=aA hb2
 have hz2:=hb2.size
 try simp at hz2
 have hl2w1:w1.heap.size<w2.heap.size:=by omega
 have hm2w1:w1.heap.size<=w2.heap.size:=by omega
 have g2x0:w2.cell? ⟨w1.heap.size,0,none⟩=some (.int .i64 y):=cel hc2
 go_wp2_with fail
 go_ret2
 exact⟨rfl,bel⟩
theorem Ia(D Z y n d:Int)(l:Bool)(w:World)(h1:D-Z<1)(HZ: -2000000<=Z/\Z<=3000000)(HD: -2000000<=D/\D<=3000000)
  (HFd:Hid (∀w:World,Calls Tryo.prog 33 #[.int .i64 D] w fun e w'=>e= .returned (.tuple #[.agg #[.int .i64 y,.int .i64 n,.bool l,.int .i64 d],.int .i64 0])/\Below w.heap.size w w'))
  (HAh:Hid (∀w:World,Calls Tryo.prog 99 #[.int .i64 y,.int .i64 7,.int .i64 15] w fun e w'=>e= .returned (.int .i64 Z)/\Below w.heap.size w w')):
  Calls Tryo.prog 36 #[.int .i64 D] w fun e w'=>e= .returned (.tuple #[.int .i64 (0),.int .i64 0])/\Below w.heap.size w w':=by
 obtain⟨hz1,hz2⟩:=HZ
 obtain⟨hd1,hd2⟩:=HD
 obtain⟨q,hq⟩:∃q,D-Z=q:=⟨_,rfl⟩
 rw [hq]at h1
 have g1:¬ 1<=q:=by omega
 have G1:decide (1<=q)=false:=by simpa using g1
 go_enter Tryo.func36,Tryz.ntmps36
 go_wp2_with fail
 refine(HFd.out _).mono ?_
 rintro e w1 ⟨rfl,hb1⟩
 obtain⟨hc1,hf1⟩:=aA hb1
 have hz1:=hb1.size
 try simp at hz1
 go_wp2_with fail
 refine(HAh.out _).mono ?_
 rintro e w2 ⟨rfl,hb2⟩
 obtain⟨hc2,hf2⟩:=aA hb2
 have hz2:=hb2.size
 try simp at hz2
 have hl2w1:w1.heap.size<w2.heap.size:=by omega
 have hm2w1:w1.heap.size<=w2.heap.size:=by omega
 have g2x0:w2.cell? ⟨w1.heap.size,0,none⟩=some (.int .i64 y):=cel hc2
 go_wp2_with fail
 go_ret2
 exact⟨rfl,bel⟩
theorem I6(D Z y n d:Int)(l:Bool)(w:World)(h1:49<D-Z)(HZ: -2000000<=Z/\Z<=3000000)(HD: -2000000<=D/\D<=3000000)
  (HFd:Hid (∀w:World,Calls Tryo.prog 33 #[.int .i64 D] w fun e w'=>e= .returned (.tuple #[.agg #[.int .i64 y,.int .i64 n,.bool l,.int .i64 d],.int .i64 0])/\Below w.heap.size w w'))
  (HAh:Hid (∀w:World,Calls Tryo.prog 99 #[.int .i64 y,.int .i64 7,.int .i64 15] w fun e w'=>e= .returned (.int .i64 Z)/\Below w.heap.size w w')):
  Calls Tryo.prog 36 #[.int .i64 D] w fun e w'=>e= .returned (.tuple #[.int .i64 (0),.int .i64 0])/\Below w.heap.size w w':=by
 obtain⟨hz1,hz2⟩:=HZ
 obtain⟨hd1,hd2⟩:=HD
 obtain⟨q,hq⟩:∃q,D-Z=q:=⟨_,rfl⟩
 rw [hq]at h1
 have g1:1<=q:=by omega
 have g2:¬ q<=49:=by omega
 have G2:decide (q<=49)=false:=by simpa using g2
 have g3:¬ q<1:=by omega
 have G3:decide (q<1)=false:=by simpa using g3
 go_enter Tryo.func36,Tryz.ntmps36
 go_wp2_with fail
 refine(HFd.out _).mono ?_
 rintro e w1 ⟨rfl,hb1⟩
 obtain⟨hc1,hf1⟩:=aA hb1
 have hz1:=hb1.size
 try simp at hz1
 go_wp2_with fail
 refine(HAh.out _).mono ?_
 rintro e w2 ⟨rfl,hb2⟩
 obtain⟨hc2,hf2⟩:=aA hb2
 have hz2:=hb2.size
 try simp at hz2
 have hl2w1:w1.heap.size<w2.heap.size:=by omega
 have hm2w1:w1.heap.size<=w2.heap.size:=by omega
 have g2x0:w2.cell? ⟨w1.heap.size,0,none⟩=some (.int .i64 y):=cel hc2
 go_wp2_with fail
 go_ret2
 exact⟨rfl,bel⟩
theorem Jv(y m d:Int)(w:World)(hv:D10.Valid y m d):
  Calls Tryo.prog 36 #[.int .i64 (D10.aS y m d)] w fun e w'=>e= .returned (.tuple #[.int .i64 (Om.val (D10.aS y m d-Om.om y)),.int .i64 0])/\Below w.heap.size w w':=by
 obtain⟨_,z1,z2⟩:=Om.om_e hv.1 hv.2.1
 have hb:=D10.mG hv
 have HFd:=Lib.hid (fun w=>jQ y m d w hv)
 have HAh:=Lib.hid (fun w=>bJ y 7 15 w ⟨by have:=hv.1;omega,by have:=hv.2.1;omega⟩)
 unfold Om.val
 by_cases c:1<=D10.aS y m d-Om.om y/\D10.aS y m d-Om.om y<=49
 ·rw [if_pos c]
  exact Ip _ _ _ _ _ _ w c.1 c.2 ⟨z1,z2⟩ ⟨by omega,by omega⟩ HFd HAh
 ·rw [if_neg c]
  by_cases c2:D10.aS y m d-Om.om y<1
  ·exact Ia _ _ _ _ _ _ w c2 ⟨z1,z2⟩ ⟨by omega,by omega⟩ HFd HAh
  ·exact I6 _ _ _ _ _ _ w (by omega) ⟨z1,z2⟩ ⟨by omega,by omega⟩ HFd HAh
end
section
section
open Go.ChangeShapes Go.WideShapes Go.ChangeAt Go.RowKit Go.Lib Go.Sort Go.Shelf
namespace Sp
def upto(y:Int)(n:Nat):List (Int×Int):=(List.range n).map fun j=>(kind j,day y j)
theorem iG(y:Int)(j:Nat):upto y (j+1)=upto y j++ [(kind j,day y j)]:=by simp [upto,List.range_succ]
end Sp
theorem Sp.aM{w:World}{B n:Nat}{v:Value}{l:List (Int×Int)}{x1 x2:Int}(hn:n=l.length)(h:w.ownsRow B 72 2 v (n+1) (Ev.flat l++ [.int .i64 x1,.int .i64 x2])):Ev.Own w B v (l++ [(x1,x2)]):=by
 subst hn
 unfold Ev.Own
 rw [List.length_append,Ev.iq]
 exact h
theorem JA(y:Int)(w:World)(hy1:1<=y)(hy2:y<=9999)(hT:Tab w 7 kevCells)(hL:Tab w 5 lenCells)
  (HRu:Hid (∀w:World,Calls Tryo.prog 110 #[] w fun e w'=>∃ (g:Nat) (u:Nat->Value),e= .returned (.slice (some ⟨g,0,none⟩) 8 8)/\Hid (∀j,j<8->w'.cell? ⟨g,j*2,none⟩=some (.int .i64 (Sp.kind j))/\w'.cell? ⟨g,j*2+1,none⟩=some (u j)/\Sp.Finds w' (u j) y (Sp.day y j))/\g<w'.heap.size/\Below w.heap.size w w')):
  Calls Tryo.prog 41 #[.int .i64 y] w fun e w'=>∃v,e= .returned (.tuple #[v,.int .i64 0])/\Ev.Own w' w.heap.size v (Ev.sort (Sp.upto y 8))/\Below w.heap.size w w':=by
 obtain⟨i0,ih,iz0,iz1,iz2⟩:=info_parts bD
 go_enter Tryo.func41,Tryz.ntmps41
 go_wp2_with fail
 refine(HRu.out _).mono ?_
 rintro e w1 ⟨g,u,rfl,HU,hg,hb1⟩
 go_wp2_with fail
 go_loopw [4,15] (fun v i wr=>∃ (j:Nat) (S:List (Int×Int)),j<=8/\i= .int .i64 (j:Int)/\Hid (S=Sp.upto y j)/\S.length<=j/\Ev.Own wr w1.heap.size v S/\Below w1.heap.size w1 wr) (fun _ i _=>8-(intOf i).toNat)
 case atStart=>exact⟨0,[],by omega,rfl,Lib.hid rfl,by simp,Ev.Own.nil _ _,Below.refl _ _⟩
 case round=>
  obtain⟨j,S,hj,rfl,HS,hlen,HO,hB⟩:=hrel
  obtain⟨w5,rfl⟩:∃x,x=wr:=⟨_,rfl⟩
  have hBw:Below w.heap.size w w5:=bt hb1 hB
  have hsz:=hBw.size
  have hsz1:=hB.size
  by_cases hlt:j<8
  ·obtain⟨q1,q2,hF⟩:=HU.out j hlt
   obtain⟨gf,b1,b2,eu,eg,hf⟩:=hF
   rw [eu]at q2
   have HN:=Lib.hid (Sp.iG y j)
   have HC:=Lib.hid hf
   clear eu hf
   generalize Sp.kind j=kd at*
   generalize Sp.day y j=D at*
   have c1:=(hB.cell hg).trans q1
   have c2:=(hB.cell hg).trans q2
   have lg:g<w5.heap.size:=by omega
   clear q1 q2
   have j0:(0:Int)<=(j:Int):=by omega
   have j1:(j:Int)<8:=by omega
   go_wp2_with fail
   refine settle (fun W=>W.cell? ⟨w5.heap.size,0,none⟩=some (.int .i64 kd)/\W.cell? ⟨w5.heap.size,1,none⟩=some (.func (.func gf) #[] #[.pointer (some ⟨b1,0,none⟩),.pointer (some ⟨b2,0,none⟩)])/\w5.heap.size<W.heap.size/\Below w5.heap.size w5 W) ⟨?_, ?_, ?_, ?_⟩ ?_
   ·(first|(with_reducible assumption)|(simp [go_sem, *];done)|assumption)
   ·(first|(with_reducible assumption)|(simp [go_sem, *];done)|assumption)
   ·(first|assumption|(simp;done)|(simp;omega)|omega)
   ·(repeat(first|exact Below.refl _ _|assumption|(with_reducible refine bU ?_)|(with_reducible refine baa ?_ _)|(with_reducible refine bs ?_ (by first|exact Nat.le_refl _|omega|(simp;done)|(simp;omega)) _)|(with_reducible refine bt ?_ (by assumption))))
   rintro W6 ⟨r6x0,r6x1,rs6x0,hB6⟩
   have hW6:Below w.heap.size w W6:=bt hBw hB6
   have hT6:Tab W6 7 kevCells:=Tab.below hT hW6
   have hL6:Tab W6 5 lenCells:=Tab.below hL hW6
   refine Dp 8 _ _ ?_ rfl rfl (fun _ _ _ h=>h) (by kernel_rfl) (by kernel_rfl) (by rfl) ?_ ?_
   rotate_left 1
   ·first|(intro w;go_simp;done)|(intro w;go_simp;with_reducible rfl)
   intro hall
   simp only [List.setIfInBounds_toArray,List.set_cons_succ,List.set_cons_zero]
   simp only [List.take_succ_cons,List.take_zero,List.drop_succ_cons,List.drop_zero]
   repeat(first|go_big_quiet_skip|(go_big_quiet_want;first|(refine ql1 _ _ _ rfl rfl ?_;apply Exists.intro;refine⟨?_, ?_⟩;assumption;go_simp;go_big_quiet_on)|(refine ql2 _ _ _ _ rfl rfl ?_;apply Exists.intro;apply Exists.intro;refine⟨?_, ?_, ?_⟩;assumption;assumption;go_simp;go_big_quiet_on)|(refine ql3 _ _ _ _ rfl rfl ?_;apply Exists.intro;apply Exists.intro;apply Exists.intro;refine⟨?_, ?_, ?_, ?_⟩;assumption;assumption;assumption;go_simp;go_big_quiet_on)|(refine ql4 _ _ _ _ rfl rfl ?_;apply Exists.intro;apply Exists.intro;apply Exists.intro;apply Exists.intro;refine⟨?_, ?_, ?_, ?_, ?_⟩;assumption;assumption;assumption;assumption;go_simp;go_big_quiet_on)|(go_big_quiet_op;first|go_big_quiet_on|(apply Exists.intro;refine⟨fun x hx=> ?_, ?_⟩;(first|(with_reducible exact aK hx (HC.out x (bt hB (bt hB6 hx)) (Tab.below hT6 hx) (Tab.below hL6 hx)))|exact aK hx (HC.out x (bt hB (bt hB6 hx)) (Tab.below hT6 hx) (Tab.below hL6 hx)));go_big_quiet_on))))
   refine wpQuiet_nil ?_
   clear hall
   intro x7 hx7
   have hB7:Below w5.heap.size w5 x7:=bt hB6 hx7
   have HO7:x7.ownsRow w1.heap.size 72 2 u4 S.length (Ev.flat S):=Ev.Own.below HO hB7
   have hz7:=hB7.size
   go_wp2_with (at_builtin;refine wpList_append_own_at _ rfl (.tmp 19) (.tmp 27) 38 rfl w1.heap.size 72 i0 (.agg #[.int .i64 0,.int .i64 0]) 2 16 (aI Tryz.underlying38) ih iz0 iz1 iz2 rfl (by decide) _ S.length (Ev.flat S) rfl (HO7.alloc _) ⟨x7.heap.size,0,none⟩ 1 1 [.int .i64 _,.int .i64 _] rfl rfl (bK _ _ _) (dD _ _) (by simp only [maxLen];omega) (by omega) (by first|assumption|(simp;omega)|omega) ?_;intro v8 w8 hown8 hgrow8 _ hblk8)
   go_roundw
   case rel=>
    have hb8:Below w1.heap.size w1 w8:=by
     have h9:Below w1.heap.size w1 x7:=bt hB hB7
     exact aB (baa h9 _) hgrow8 (fun k e=>(World.ownsRow.lt HO7 k e).1)
    exact⟨j+1,S++ [(kd,D)],by omega,by go_num,Lib.hid (by rw [HN.out,HS.out]),by simp;omega,Sp.aM rfl hown8,hb8⟩
   case measure=>simp [intOf];omega
  ·obtain rfl:j=8:=by omega
   clear hlt
   go_wp2_with fail
   refine(jR _ S _ HO.row (by omega)).mono ?_
   rintro e w9 ⟨v9,rfl,ho9,hb9⟩
   go_wp2_with fail
   go_ret2
   exact⟨_,rfl,by rw [←HS.out];exact ho9.base hBw.size,bt hBw hb9⟩
end
section
open Go.ChangeShapes Go.WideShapes Go.ChangeAt Go.RowKit Go.Lib Go.Sort Go.Shelf
namespace Sp
def ny(i:Nat)(n d:Int):Int:=Yr.dJ i n false d-(bn i+Yr.dJ i n false d-6) % 7
def offF(i:Nat)(n d:Int):Int:=Yr.dJ i n false d+(6-(bn i+Yr.dJ i n false d)) % 7
def spL(i:Nat):List (Int×Int):= [(35,offF i 1 3),(30,ny i 6 1),(31,ny i 6 13),(32,ny i 7 1-7),(33,ny i 7 1),(34,ny i 7 14),(36,ny i 11 9),(37,ny i 11 9+7)]
theorem Uo:((List.range 14).all fun i=>decide (Ev.sort (spL i)=spL i)&&(Yr.okV i 7 false 1&&(Yr.okV i 11 false 9&&(Yr.okV i 1 false 3&&(Yr.okV i 6 false 1&&(Yr.okV i 6 false 13&&(Yr.okV i 7 false 14&&(spL i).all fun x=>decide (0<=x.2)&&decide (x.2<=400))))))))=true:=by decide+kernel
theorem oz{y n d:Int}{i:Nat}(h:Yr.Is y i)(hv:Yr.okV i n false d=true):up y n d=Cal.first y+ny i n d/\D10.aC y n false d=Cal.first y+Yr.dJ i n false d:=by
 have e:=(Yr.dP h hv).2
 have hb:=h.2.2.2.1
 refine⟨?_,e⟩
 unfold up ny
 rw [e,show(Cal.first y+Yr.dJ i n false d-6) % 7=(bn i+Yr.dJ i n false d-6) % 7 by omega]
 omega
theorem ZG{y n d:Int}{i:Nat}(h:Yr.Is y i)(hv:Yr.okV i n false d=true):fr y n d=Cal.first y+offF i n d:=by
 have e:=(Yr.dP h hv).2
 have hb:=h.2.2.2.1
 unfold fr offF
 rw [e,show(6-(Cal.first y+Yr.dJ i n false d)) % 7=(6-(bn i+Yr.dJ i n false d)) % 7 by omega]
 omega
theorem Xk{y:Int}{i:Nat}(h:Yr.Is y i):upto y 8=(spL i).map (Ev.sh (Cal.first y)):=by
 have hc:=List.all_eq_true.1 Uo i (List.mem_range.2 h.2.2.1)
 simp only [Bool.and_eq_true]at hc
 obtain⟨_,c1,c2,c3,c4,c5,c6,_⟩:=hc
 have u1:=(oz h c1).1
 have u2:=(oz h c2).1
 have u3:=ZG h c3
 have u4:=(oz h c4).1
 have u5:=(oz h c5).1
 have u6:=(oz h c6).1
 simp only [upto,List.range_succ,List.range_zero,List.nil_append,List.cons_append,List.map_cons,List.map_nil,kind,day,List.getD_cons_zero,List.getD_cons_succ,spL,Ev.sh,u1,u2,u3,u4,u5,u6]
 simp only [List.cons.injEq,Prod.mk.injEq,true_and,and_true]
 omega
theorem qg{y:Int}{i:Nat}(h:Yr.Is y i):Ev.sort (upto y 8)=(spL i).map (Ev.sh (Cal.first y)):=by
 have hc:=List.all_eq_true.1 Uo i (List.mem_range.2 h.2.2.1)
 simp only [Bool.and_eq_true,decide_eq_true_eq]at hc
 rw [Xk h,Ev.zN,hc.1]
theorem len(i:Nat):(spL i).length=8:=rfl
def find(l:List (Int×Int))(D:Int):Option (Int×Int):=l.find? fun x=>x.2==D
theorem nS(l:List (Int×Int))(j:Nat)(x:Int×Int)(D:Int)(h:l[j]? =some x):find (l.take (j+1)) D=(find (l.take j) D).or (if x.2==D then some x else none):=by
 unfold find
 rw [List.take_add_one,h,List.find?_append]
 simp [List.find?_cons]
 split <;> simp_all
end Sp
theorem IB(y:Int)(i:Nat)(w:World)(h:Yr.Is y i)(hT:Tab w 7 kevCells)(hL:Tab w 5 lenCells):
  Calls Tryo.prog 41 #[.int .i64 y] w fun e w'=>∃v,e= .returned (.tuple #[v,.int .i64 0])/\Ev.Own w' w.heap.size v ((Sp.spL i).map (Ev.sh (Cal.first y)))/\Below w.heap.size w w':=by
 have hb:=Yr.bF h
 have hc:=List.all_eq_true.1 Sp.Uo i (List.mem_range.2 h.2.2.1)
 simp only [Bool.and_eq_true]at hc
 obtain⟨_,c1,c2,c3,c4,c5,c6,c7⟩:=hc
 have bd:∀{n d:Int},Yr.okV i n false d=true->kG (D10.aC y n false d):=fun {n d} hv=>by
  have e:=(Yr.dP h hv).1
  obtain⟨v,_⟩:=D10.jV e
  have:=D10.mG v
  unfold D10.aC
  rw [if_pos e]
  exact⟨by omega,by omega⟩
 have b1:0<=Sp.ny i 7 1/\Sp.ny i 7 1<=400:=by
  have:=List.all_eq_true.1 c7 (33,Sp.ny i 7 1) (by simp [Sp.spL])
  simpa using this
 have b2:0<=Sp.ny i 11 9/\Sp.ny i 11 9<=400:=by
  have:=List.all_eq_true.1 c7 (36,Sp.ny i 11 9) (by simp [Sp.spL])
  simpa using this
 rw [←Sp.qg h]
 refine JA y w h.1 h.2.1 hT hL (Lib.hid (fun w=>IK y w ⟨by have:=h.1;omega,by have:=h.2.1;omega⟩ (bd c1) (bd c2) (bd c3) (bd c4) (bd c5) (bd c6) ?_ ?_))
 ·rw [(Sp.oz h c1).1];omega
 ·rw [(Sp.oz h c2).1];omega
end
end
end Go.Proofs.YthnjjcoahdhmnaaGreatDoor
