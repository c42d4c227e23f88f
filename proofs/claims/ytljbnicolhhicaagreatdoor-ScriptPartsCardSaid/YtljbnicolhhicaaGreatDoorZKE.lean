import Derived.Test.YtljbnicolhhicaaGreatDoorZBB
set_option maxHeartbeats 8000000
set_option maxRecDepth 100000
set_option linter.unusedVariables false
namespace Go.Proofs.YtljbnicolhhicaaGreatDoor
section
open Go.ChangeShapes Go.WideShapes Go.ChangeAt Go.RowKit
def dz:Nat->Int
 |0=>1|1=>1|2=>2|3=>4|4=>4|5=>6|6=>6|7=>1|8=>1|9=>2|10=>4|11=>4|12=>6|_=>6
def kV:Nat->Int
 |0=>0|1=>2|2=>1|3=>1|4=>2|5=>0|6=>2|7=>0|8=>2|9=>1|10=>0|11=>2|12=>0|_=>2
def kS(i:Nat):Bool:=decide (7<=i)
def Kev(w:World):Prop:=(∀i,i<14->w.cell? ⟨6,i*3,none⟩=some (dz i:vV)/\w.cell? ⟨6,i*3+1,none⟩=some (kV i:vV)/\w.cell? ⟨6,i*3+2,none⟩=some (.bool (kS i)))/\6<w.1.size
theorem Kev.below{a b:World}(h:Kev a)(hb:Below a.1.size a b):Kev b:=
 ⟨fun i hi=>⟨(hb.cell (p:=⟨_,_,none⟩) h.2).trans (h.1 i hi).1,(hb.cell (p:=⟨_,_,none⟩) h.2).trans (h.1 i hi).2.1,(hb.cell (p:=⟨_,_,none⟩) h.2).trans (h.1 i hi).2.2⟩,Nat.lt_of_lt_of_le h.2 hb.size⟩
theorem third(w:World)(A B:Obj)(C:Array Value)(t:TypeId)(j:Nat):(((w.alloc A).alloc B).alloc (.cells C t)).cell? ⟨w.1.size+1+1,j,none⟩=C[j]? :=Joins.cell_alloc_mark_at _ _ _ _ _ _ vS
theorem bs0{a b:World}(h:Below a.1.size a b)(o:Nat)(u:Value):Below a.1.size a (b.setCell ⟨a.1.size,o,none⟩ u):=h.setCell (Nat.le_refl _) u
end
section
open Go.ChangeShapes Go.WideShapes Go.ChangeAt Go.RowKit
def rowIs(b k:Int)(l:Bool)(i:Nat):Bool:=(b==dz i)&&((k==kV i)&&(l==kS i))
def qc(b k:Int)(l:Bool):Nat->Nat->Int
 |0,_=>0
 |f+1,i=>if rowIs b k l i then(i:Int)+1 else qc b k l f (i+1)
def number(b k:Int)(l:Bool):Int:=qc b k l 14 0
def kevCells:List Value:=(List.range 14).flatMap fun i=> [.int .i64 (dz i),.int .i64 (kV i),.bool (kS i)]
def A8:Array Value:=kevCells.toArray
theorem Pq:A8.size=42:=vK
theorem VG(i:Nat)(hi:i<14):∀w:World,(Instr.index 203 (.agg A8) (.int .i64 (i:Int))).run Tryo.prog w= .ok (.agg #[dz i,kV i,kS i]) w:=by
 match i,hi with
 |0,_|1,_|2,_|3,_|4,_|5,_|6,_|7,_|8,_|9,_|10,_|11,_|12,_|13,_=>exact fun _=>by kernel_rfl
attribute [irreducible] A8
theorem Sz(b k:Int)(l:Bool)(n:Nat)(hn:n<14)(h:rowIs b k l n=true):qc b k l (14-n) n=(n:Int)+1:=by
 rw [show 14-n=(13-n)+1 by omega,qc,if_pos h]
theorem Bf(b k:Int)(l:Bool)(n:Nat)(hn:n<14)(h:rowIs b k l n=false):qc b k l (14-n) n=qc b k l (14-(n+1)) (n+1):=by
 rw [show 14-n=(13-n)+1 by omega,qc,if_neg (by rw [h];exact Bool.false_ne_true),show 14-(n+1)=13-n by omega]
theorem Ck(b k:Int)(l:Bool)(w:World)(hT:Tab w 6 kevCells):
  vB 145 #[.agg #[b,k,l]] w (.int .i64 (number b k l)):=by
 have hlt0:=hT.lt
 obtain⟨t,hT⟩:=hT
 have hT2:w.1[6]? =some (.cells A8 t (0,0)):=by unfold A8;exact hT
 have hsz:(Tryo.prog.info? 203).map (·.size)=some A8.size:=by rw [Pq];kernel_rfl
 have HT:=Lib.hid hT2
 have HS:=Lib.hid hsz
 clear hT hT2 hsz
 go_enter (vF Tryz.func145),Tryz.ntmps145
 go_wp2_with (refine wpList_load_row rfl 203 _ rfl 6 rfl t A8 (0,0) _ ((Below.heap_alloc _ _ _ hlt0).trans HT.out) (aB Tryz.underlying203) rfl HS.out ?_)
 go_loopw [6] (fun i wr=>∃n:Nat,n<=14/\i= .int .i64 n/\Hid (qc b k l (14-n) n=number b k l)/\wr.cell? ⟨w.1.size,0,none⟩=some (b:vV)/\wr.cell? ⟨w.1.size,1,none⟩=some (k:vV)/\wr.cell? ⟨w.1.size,2,none⟩=some (.bool l)/\w.1.size<wr.1.size/\Below w.1.size w wr) (fun i _=>14-(intOf i).toNat)
 case atStart=>exact⟨0,vO,rfl,rfl,vG,vG,vG,vS,ba _ _⟩
 case round=>
  obtain⟨n,hn,rfl,hN,c0,c1,c2,hsz,hB⟩:=hrel
  by_cases hlt:n<14
  ·have hix:=VG n hlt
   by_cases e1:b=dz n
   ·obtain rfl:=e1
    by_cases e2:k=kV n
    ·obtain rfl:=e2
     by_cases e3:l=kS n
     ·obtain rfl:=e3
      have hN2:=Lib.hid ((Sz _ _ _ n hlt (by unfold rowIs;simp)).symm.trans hN.out)
      clear hN
      go_wp2_with fail
      go_ret
      exact⟨YR hN2.out,baa hB _⟩
     ·skip
      have hN2:=Lib.hid ((Bf _ _ _ n hlt (by unfold rowIs;simp [*])).symm.trans hN.out)
      clear hN
      go_wp2_with fail
      go_roundw
      case rel=>exact⟨n+1,vO,by go_num,hN2,by simp [go_sem,c0,hsz],by simp [go_sem,c1,hsz],by simp [go_sem,c2,hsz],vQ,baa hB _⟩
      case measure=>simp [intOf];omega
    ·skip
     have hN2:=Lib.hid ((Bf _ _ _ n hlt (by unfold rowIs;simp [*])).symm.trans hN.out)
     clear hN
     go_wp2_with fail
     go_roundw
     case rel=>exact⟨n+1,vO,by go_num,hN2,by simp [go_sem,c0,hsz],by simp [go_sem,c1,hsz],by simp [go_sem,c2,hsz],vQ,baa hB _⟩
     case measure=>simp [intOf];omega
   ·skip
    have hN2:=Lib.hid ((Bf _ _ _ n hlt (by unfold rowIs;simp [*])).symm.trans hN.out)
    clear hN
    go_wp2_with fail
    go_roundw
    case rel=>exact⟨n+1,vO,by go_num,hN2,by simp [go_sem,c0,hsz],by simp [go_sem,c1,hsz],by simp [go_sem,c2,hsz],vQ,baa hB _⟩
    case measure=>simp [intOf];omega
  ·go_wp2_with fail
   go_ret
   exact⟨YR (by rw [←hN.out,show n=14 by omega];rfl),hB⟩
end
section
open Go.ChangeShapes Go.WideShapes Go.ChangeAt Go.RowKit
namespace Cal
def dA(y:Int):Bool:=decide (1<=y)&&decide (y<=9999)
def RO(y:Int):Int:=if dA y then 0 else 2
def long(y:Int):Int:=first (y+1)-first y
def Qc(y:Int):Int:=if dA y then long y else 0
def kind(y:Int):Int:=long y-(if leap y then 383 else 353)
def tyB(y:Int):Int:=if dA y then first y % 7 else 0
def tyK(y:Int):Int:=if dA y then kind y else 0
def tyL(y:Int):Bool:=dA y&&leap y
theorem dN(y:Int)(h1:1<=y)(h2:y<=9999):dA y=true:=by simp [dA,h1,h2]
theorem Vu(y:Int)(h:y<1∨9999<y):dA y=false:=by
 rw [Bool.eq_false_iff];intro h';simp only [dA,Bool.and_eq_true,decide_eq_true_eq]at h';omega
theorem Z7(y:Int)(h1:1<=y)(h2:y<=9999):RO y=0/\Qc y=long y/\tyB y=first y % 7/\tyK y=kind y/\tyL y=leap y:=by
 simp only [RO,Qc,tyB,tyK,tyL,dN y h1 h2,if_true,Bool.true_and];exact⟨trivial,trivial,trivial,trivial,trivial⟩
theorem Y9(y:Int)(h:y<1∨9999<y):RO y=2/\Qc y=0/\tyB y=0/\tyK y=0/\tyL y=false:=by
 simp only [RO,Qc,tyB,tyK,tyL,Vu y h,Bool.false_and,Bool.false_eq_true,if_false];exact⟨trivial,trivial,trivial,trivial,trivial⟩
end Cal
theorem Zu(y:Int)(h1:1<=y)(h2:y<=9999):353<=Cal.long y/\Cal.long y<=385:=by
 have:=Cal.DU y vO vO
 unfold Cal.long
 split at this <;> omega
theorem aap(y:Int)(h1:1<=y)(h2:y<=9999):0<=Cal.kind y/\Cal.kind y<=2:=by
 have:=Cal.DU y vO vO
 unfold Cal.kind Cal.long
 split at this <;> rename_i h <;> simp only [h] <;> simp <;> omega
theorem Jl(y:Int)(w:World)(h1:1<=y)(h2:y<=9999):
  vB 51 #[y] w (.tuple #[Cal.first y,Cal.long y,(0:Int)]):=by
 obtain⟨b1,b2⟩:=iY y vO vO
 obtain⟨b3,b4⟩:=iY (y+1) vO vO
 have HA:=Lib.hid (fun w=>lV y w vO vO)
 have HB:=Lib.hid (fun w=>lV (y+1) w vO vO)
 have HL:=Lib.hid (show Cal.long y=Cal.first (y+1)-Cal.first y from rfl)
 generalize Cal.first y=a at*
 generalize Cal.first (y+1)=b at*
 go_enter (vF Tryz.func51),Tryz.ntmps51
 go_wp2_with fail
 refine vX (HA.out _) fun w1 hb1 hz1 hc1 hf1=>?_
 try simp at hz1
 go_wp2_with fail
 refine vX (HB.out _) fun w2 hb2 hz2 hc2 hf2=>?_
 try simp at hz2
 go_wp2_with fail
 go_ret3
 rw [HL.out]
 exact⟨rfl,bt hb1 hb2⟩
theorem IV(y:Int)(w:World)(hy:I64 y)(h:y<1∨9999<y):
  vB 51 #[y] w (.tuple #[(0:Int),(0:Int),(2:Int)]):=by
 rcases(show y<1∨(1<=y/\9999<y) by omega)with c|⟨c1,c2⟩
 all_goals clear h
 all_goals go_enter (vF Tryz.func51),Tryz.ntmps51
 all_goals go_wp2_with fail
 all_goals go_ret3
 all_goals exact⟨rfl,Below.refl _ _⟩
theorem O6(y:Int)(w:World)(h1:1<=y)(h2:y<=9999):
  vB 108 #[y] w (.tuple #[.agg #[.int .i64 (Cal.first y % 7),Cal.kind y,Cal.leap y],(0:Int)]):=by
 obtain⟨b1,b2⟩:=iY y vO vO
 obtain⟨b3,b4⟩:=Zu y h1 h2
 have HA:=Lib.hid (fun w=>Jl y w h1 h2)
 have HI:=Lib.hid (fun w=>aN y w vO vO)
 cases hl:Cal.leap y
 ·have hk:Cal.kind y=Cal.long y-353:=by unfold Cal.kind;rw [hl];rfl
  have HK:=Lib.hid hk
  rw [hl]at HI
  clear hk hl
  generalize Cal.first y=a at*
  generalize Cal.long y=b at*
  go_enter (vF Tryz.func108),Tryz.ntmps108
  go_wp2_with fail
  refine vX (HA.out _) fun w1 hb1 hz1 hc1 hf1=>?_
  try simp at hz1
  have hl1w:w.1.size<w1.1.size:=vO
  have hm1w:w.1.size<=w1.1.size:=vO
  have g1x0:w1.cell? ⟨w.1.size,0,none⟩=some (.int .i64 0):=bg hc1
  have g1x1:w1.cell? ⟨w.1.size,1,none⟩=some (.int .i64 0):=bg hc1
  have g1x2:w1.cell? ⟨w.1.size,2,none⟩=some (.bool false):=bg hc1
  go_wp2_with fail
  refine vW (HI.out _) ?_
  go_wp2_with fail
  refine vW (jd a _ (by unfold I64;omega)) ?_
  go_wp2_with fail
  rw [HK.out]
  refine bodyPost_ret (v:= .tuple #[.agg #[.int .i64 (a % 7),.int .i64 (b-353),false],(0:Int)]) (by simp [results,Tryz.results108,go_sem,g1x0,g1x1,g1x2]) rfl ⟨rfl, ?_⟩
  exact beo
 ·have hk:Cal.kind y=Cal.long y-383:=by unfold Cal.kind;rw [hl];rfl
  have HK:=Lib.hid hk
  rw [hl]at HI
  clear hk hl
  generalize Cal.first y=a at*
  generalize Cal.long y=b at*
  go_enter (vF Tryz.func108),Tryz.ntmps108
  go_wp2_with fail
  refine vX (HA.out _) fun w1 hb1 hz1 hc1 hf1=>?_
  try simp at hz1
  have hl1w:w.1.size<w1.1.size:=vO
  have hm1w:w.1.size<=w1.1.size:=vO
  have g1x0:w1.cell? ⟨w.1.size,0,none⟩=some (.int .i64 0):=bg hc1
  have g1x1:w1.cell? ⟨w.1.size,1,none⟩=some (.int .i64 0):=bg hc1
  have g1x2:w1.cell? ⟨w.1.size,2,none⟩=some (.bool false):=bg hc1
  go_wp2_with fail
  refine vW (HI.out _) ?_
  go_wp2_with fail
  refine vW (jd a _ (by unfold I64;omega)) ?_
  go_wp2_with fail
  rw [HK.out]
  refine bodyPost_ret (v:= .tuple #[.agg #[.int .i64 (a % 7),.int .i64 (b-383),true],(0:Int)]) (by simp [results,Tryz.results108,go_sem,g1x0,g1x1,g1x2]) rfl ⟨rfl, ?_⟩
  exact beo
theorem Ob(y:Int)(w:World)(hy:I64 y)(h:y<1∨9999<y):
  vB 108 #[y] w (.tuple #[.agg #[(0:Int),(0:Int),false],(2:Int)]):=by
 have HA:=Lib.hid (fun w=>IV y w hy h)
 clear h
 go_enter (vF Tryz.func108),Tryz.ntmps108
 go_wp2_with fail
 refine vX (HA.out _) fun w1 hb1 hz1 hc1 hf1=>?_
 try simp at hz1
 have hl1w:w.1.size<w1.1.size:=vO
 have hm1w:w.1.size<=w1.1.size:=vO
 have g1x0:w1.cell? ⟨w.1.size,0,none⟩=some (.int .i64 0):=bg hc1
 have g1x1:w1.cell? ⟨w.1.size,1,none⟩=some (.int .i64 0):=bg hc1
 have g1x2:w1.cell? ⟨w.1.size,2,none⟩=some (.bool false):=bg hc1
 go_wp2_with fail
 refine bodyPost_ret (v:= .tuple #[.agg #[(0:Int),(0:Int),false],(2:Int)]) (by simp [results,Tryz.results108,go_sem,g1x0,g1x1,g1x2]) rfl ⟨rfl, ?_⟩
 exact beo
end
section
open Go.ChangeShapes Go.WideShapes Go.ChangeAt Go.RowKit
end
section
open Go.ChangeShapes Go.WideShapes Go.ChangeAt Go.RowKit
end
section
open Go.ChangeShapes Go.WideShapes Go.ChangeAt Go.RowKit
end
section
open Go.ChangeShapes Go.WideShapes Go.ChangeAt Go.RowKit
end
section
open Go.ChangeShapes Go.WideShapes Go.ChangeAt Go.RowKit
namespace Cal
def Xe(c:Nat)(lp:Bool):Bool:=or (Nat.beq c 3) (or (Nat.beq c 5) (or (Nat.beq c 7) (or (Nat.beq c (cond lp 12 13)) (or (Nat.beq c 14) (or (Nat.beq c 18) (Nat.beq c 20))))))
def tyN(y:Nat):Bool:=
 zK y fun a=>zK (Nat.succ y) fun b=>force (Nat.mod (Nat.add a 1) 7) fun w=>force (Nat.sub (Nat.sub b a) (cond (lpN y) 383 353)) fun k=>force (Nat.add (Nat.mul 3 w) k) fun c=>and (Nat.ble k 2) (Xe c (lpN y))
theorem tyN1:pE tyN 13 2=true:=by decide+kernel
theorem tyN2:pE tyN 11 8194=true:=by decide+kernel
theorem Zp(y:Nat)(h0:2<=y)(h1:y<=10001):tyN y=true:=by
 by_cases h:y<8194
 ·exact nH _ _ _ tyN1 y h0 vO
 ·exact nH _ _ _ tyN2 y vO vO
theorem XE(y:Nat)(h0:2<=y)(h1:y<=10001):
  fT (y+1)-fT y-(if lpN y then 383 else 353)<=2/\Xe (3*((fT y+1) % 7)+(fT (y+1)-fT y-(if lpN y then 383 else 353))) (lpN y)=true:=by
 have h:=Zp y h0 h1
 unfold tyN at h
 simp only [LC,force_eq]at h
 rw [Bool.and_eq_true]at h
 obtain⟨h1,h2⟩:=h
 cases hl:lpN y <;> rw [hl]at h1 h2 <;> exact⟨Nat.le_of_ble_eq_true h1,h2⟩
end Cal
theorem R6(y:Int)(h1:1<=y)(h2:y<=9999):∃i:Nat,i<14/\Cal.first y % 7=dz i/\Cal.kind y=kV i/\Cal.leap y=kS i:=by
 by_cases h:y<2
 ·obtain rfl:y=1:=vO
  exact⟨1,vO,by decide+kernel,by decide+kernel,by decide+kernel⟩
 ·obtain⟨n,rfl⟩:=Int.eq_ofNat_of_zero_le (show 0<=y by omega)
  obtain⟨hk,hr⟩:=Cal.XE n vO vO
  have hb:=aap n h1 h2
  unfold Cal.kind Cal.long at hb⊢
  have e:((n:Int)+1)=((n+1:Nat):Int):=vO
  rw [e,Cal.lY n vO,Cal.lY (n+1) vO,Cal.II n]at hb
  rw [e,Cal.lY n vO,Cal.lY (n+1) vO,Cal.II n]
  generalize Cal.fT n=a at*
  generalize Cal.fT (n+1)=b at*
  unfold Cal.Xe at hr
  cases hl:Cal.lpN n <;> rw [hl]at hk hr hb <;> simp only [Bool.or_eq_true,Nat.beq_eq,cond_true,cond_false,if_true,if_false,Bool.false_eq_true]at hk hr hb⊢
  ·rcases hr with c|c|c|c|c|c|c
   ·exact⟨0,vO,by simp only [dz];omega,by simp only [kV];omega,rfl⟩
   ·exact⟨1,vO,by simp only [dz];omega,by simp only [kV];omega,rfl⟩
   ·exact⟨2,vO,by simp only [dz];omega,by simp only [kV];omega,rfl⟩
   ·exact⟨3,vO,by simp only [dz];omega,by simp only [kV];omega,rfl⟩
   ·exact⟨4,vO,by simp only [dz];omega,by simp only [kV];omega,rfl⟩
   ·exact⟨5,vO,by simp only [dz];omega,by simp only [kV];omega,rfl⟩
   ·exact⟨6,vO,by simp only [dz];omega,by simp only [kV];omega,rfl⟩
  ·rcases hr with c|c|c|c|c|c|c
   ·exact⟨7,vO,by simp only [dz];omega,by simp only [kV];omega,rfl⟩
   ·exact⟨8,vO,by simp only [dz];omega,by simp only [kV];omega,rfl⟩
   ·exact⟨9,vO,by simp only [dz];omega,by simp only [kV];omega,rfl⟩
   ·exact⟨10,vO,by simp only [dz];omega,by simp only [kV];omega,rfl⟩
   ·exact⟨11,vO,by simp only [dz];omega,by simp only [kV];omega,rfl⟩
   ·exact⟨12,vO,by simp only [dz];omega,by simp only [kV];omega,rfl⟩
   ·exact⟨13,vO,by simp only [dz];omega,by simp only [kV];omega,rfl⟩
end
end Go.Proofs.YtljbnicolhhicaaGreatDoor
