import Derived.Test.YtljbnicolhhicaaGreatDoorZEV
set_option linter.defProp false
set_option maxHeartbeats 8000000
set_option maxRecDepth 100000
set_option linter.unusedVariables false
namespace Go.Proofs.YtljbnicolhhicaaGreatDoor
section
open Go.ChangeShapes Go.WideShapes Go.ChangeAt Go.RowKit Go.Lib Go.Sort Go.Shelf
theorem Ev.iJ{w:World}{B n:Nat}{v:Value}{l:List (Int×Int)}{x1 x2:Int}(hn:n=l.length)(h:w.ownsRow B 189 2 v (n+1) (Ev.flat l++ [.int .i64 x1,.int .i64 x2])):Ev.Own w B v (l++ [(x1,x2)]):=by
 subst hn
 unfold Ev.Own
 rw [List.length_append,Ev.qG]
 exact h
namespace Fe
def rows:List (Int×Int×Bool×Int×Nat×Int×Nat):= [(1,1,false,1,2,1,2),(3,1,false,10,1,10,1),(4,1,false,15,2,15,1),(5,1,false,17,4,16,5),(6,1,false,21,1,21,1),(7,1,false,22,1,22,1),(8,1,false,23,1,22,1),(9,3,false,25,8,25,8),(11,5,false,15,1,15,1),(12,5,true,14,1,14,1),(14,6,false,14,1,14,1),(15,6,false,15,1,15,1),(17,7,false,15,2,15,1),(18,7,false,17,4,16,5),(17,7,false,21,2,21,1),(22,8,false,14,1,14,1),(23,8,false,18,1,18,1),(25,9,false,6,2,6,1),(28,11,false,15,1,15,1)]
def row(k:Nat):Int×Int×Bool×Int×Nat×Int×Nat:=rows.getD k (0,0,false,0,0,0,0)
def Sw(r:Int×Int×Bool×Int×Nat×Int×Nat):List Value:= [.int .i64 r.1,.int .i64 r.2.1,.bool r.2.2.1,.int .i64 r.2.2.2.1,.int .i64 (r.2.2.2.2.1:Int),.int .i64 r.2.2.2.2.2.1,.int .i64 (r.2.2.2.2.2.2:Int)]
def cells:List Value:=rows.flatMap Sw
def arr:Array Value:=cells.toArray
theorem YP:arr.size=133:=vK
theorem index(k:Nat)(hk:k<19):∀w:World,(Instr.index 214 (.agg arr) (.int .i64 (k:Int))).run Tryo.prog w= .ok (.agg (Sw (row k)).toArray) w:=by
 rcases(show k=0∨k=1∨k=2∨k=3∨k=4∨k=5∨k=6∨k=7∨k=8∨k=9∨k=10∨k=11∨k=12∨k=13∨k=14∨k=15∨k=16∨k=17∨k=18 by omega)with rfl|rfl|rfl|rfl|rfl|rfl|rfl|rfl|rfl|rfl|rfl|rfl|rfl|rfl|rfl|rfl|rfl|rfl|rfl
 all_goals exact fun _=>by kernel_rfl
attribute [irreducible] arr
def NT(lp:Bool)(n:Int)(l:Bool):Bool:=if n=5/\l=true then lp else true
def nC(p:Bool)(r:Int×Int×Bool×Int×Nat×Int×Nat):Int:=if p then r.2.2.2.2.2.1 else r.2.2.2.1
def DZ(p:Bool)(r:Int×Int×Bool×Int×Nat×Int×Nat):Nat:=if p then r.2.2.2.2.2.2 else r.2.2.2.2.1
def evs(kd D:Int)(j:Nat):List (Int×Int):=(List.range j).map fun i:Nat=>(kd,D+(i:Int))
def Hq(dv:Int->Bool->Int->Int)(lp p:Bool)(r:Int×Int×Bool×Int×Nat×Int×Nat):List (Int×Int):=
 if NT lp r.2.1 r.2.2.1 then evs r.1 (dv r.2.1 r.2.2.1 (nC p r)) (DZ p r)else []
def upto(dv:Int->Bool->Int->Int)(lp p:Bool)(k:Nat):List (Int×Int):=(rows.take k).flatMap (Hq dv lp p)
theorem ZJ(kd D:Int)(j:Nat):(evs kd D j).length=j:=by simp [evs]
theorem YK(kd D:Int)(j:Nat):evs kd D (j+1)=evs kd D j++ [(kd,D+(j:Int))]:=by simp [evs,List.range_succ]
theorem UH(k:Nat)(hk:k<19):rows[k]? =some (row k):=by
 have:k<rows.length:=hk
 rw [List.getElem?_eq_getElem this]
 unfold row
 rw [List.getD_eq_getElem?_getD,List.getElem?_eq_getElem this]
 rfl
theorem MB(dv:Int->Bool->Int->Int)(lp p:Bool)(k:Nat)(hk:k<19):upto dv lp p (k+1)=upto dv lp p k++Hq dv lp p (row k):=by
 unfold upto
 rw [List.take_add_one,UH k hk,List.flatMap_append]
 simp
theorem VZ:(rows.all fun r=>decide (r.2.2.2.2.1<=8)&&decide (r.2.2.2.2.2.2<=8))=true:=vD
theorem UE(p:Bool)(k:Nat)(hk:k<19):DZ p (row k)<=8:=by
 have:=List.all_eq_true.1 VZ _ (List.mem_of_getElem? (UH k hk))
 simp only [Bool.and_eq_true,decide_eq_true_eq]at this
 unfold DZ
 split <;> omega
end Fe
theorem OG(lp:Bool)(n:Int)(w:World)(h:(n==5)=false)(l:Bool):
  vB 179 #[lp,.agg #[n,l]] w (.bool true):=by
 go_enter (vF Tryz.func179),Tryz.ntmps179
 go_wp2_with fail
 go_ret
 exact⟨rfl,ba _ _⟩
theorem NA(lp:Bool)(w:World):
  vB 179 #[lp,.agg #[(5:Int),false]] w (.bool true):=by
 go_enter (vF Tryz.func179),Tryz.ntmps179
 go_wp2_with fail
 go_ret
 exact⟨rfl,ba _ _⟩
theorem Nc(lp:Bool)(w:World):
  vB 179 #[lp,.agg #[(5:Int),true]] w (.bool lp):=by
 go_enter (vF Tryz.func179),Tryz.ntmps179
 go_wp2_with fail
 go_ret
 exact⟨rfl,ba _ _⟩
theorem Ww(lp:Bool)(n:Int)(l:Bool)(w:World):
  vB 179 #[lp,.agg #[n,l]] w (.bool (Fe.NT lp n l)):=by
 unfold Fe.NT
 by_cases h:n=5
 ·subst h
  cases l
  ·rw [if_neg vS];exact NA lp w
  ·rw [if_pos vS];exact Nc lp w
 ·rw [if_neg (fun g=>h g.1)];exact OG lp n w (by simpa using h) l
theorem Cr:(∀(y:Int) (lp:Bool) (w:World) (hy1:1<=y) (hy2:y<=9999) (hT:Tab w 6 kevCells) (hL:Tab w 4 lenCells) (hF:Tab w 7 Fe.cells) (HLp:Hid (∀w:World,vC 43 #[y] w (.tuple #[lp,(0:Int)])))
  (HD:Hid (∀k,k<19->Fe.NT lp (Fe.row k).2.1 (Fe.row k).2.2.1=true->D10.aK y (Fe.row k).2.1 (Fe.row k).2.2.1 (Fe.nC false (Fe.row k))=0/\ -2000000<=D10.aM y (Fe.row k).2.1 (Fe.row k).2.2.1 (Fe.nC false (Fe.row k))/\D10.aM y (Fe.row k).2.1 (Fe.row k).2.2.1 (Fe.nC false (Fe.row k))<=3000000)),Calls Tryo.prog 158 #[y,(0:Int)] w fun e w'=>∃v,e= .returned (.tuple #[v,(0:Int)])/\Ev.Own w' w.1.size v (Ev.sort (Fe.upto (D10.aM y) lp false 19))/\Below w.1.size w w')/\(∀(y:Int) (lp:Bool) (w:World) (hy1:1<=y) (hy2:y<=9999) (hT:Tab w 6 kevCells) (hL:Tab w 4 lenCells) (hF:Tab w 7 Fe.cells) (HLp:Hid (∀w:World,vC 43 #[y] w (.tuple #[lp,(0:Int)])))
  (HD:Hid (∀k,k<19->Fe.NT lp (Fe.row k).2.1 (Fe.row k).2.2.1=true->D10.aK y (Fe.row k).2.1 (Fe.row k).2.2.1 (Fe.nC true (Fe.row k))=0/\ -2000000<=D10.aM y (Fe.row k).2.1 (Fe.row k).2.2.1 (Fe.nC true (Fe.row k))/\D10.aM y (Fe.row k).2.1 (Fe.row k).2.2.1 (Fe.nC true (Fe.row k))<=3000000)),Calls Tryo.prog 158 #[y,(1:Int)] w fun e w'=>∃v,e= .returned (.tuple #[v,(0:Int)])/\Ev.Own w' w.1.size v (Ev.sort (Fe.upto (D10.aM y) lp true 19))/\Below w.1.size w w'):=by
 refine⟨@fun y lp w hy1 hy2 hT hL hF HLp HD=>(fun(k90:Nat)=> ?_) 0,@fun y lp w hy1 hy2 hT hL hF HLp HD=> ?_⟩
 all_goals(
 obtain⟨i0,ih,iz0,iz1,iz2⟩:=info_parts EL
 obtain⟨t,hF⟩:=hF
 have hF2:w.1[7]? =some (.cells Fe.arr t (0,0)):=by unfold Fe.arr;exact hF
 have HT:=Lib.hid hF2
 have HZ:=Lib.hid (show(Tryo.prog.info? 214).map (·.size)=some Fe.arr.size by rw [Fe.YP];kernel_rfl)
 have HC:=Lib.hid (fun(n:Int) (l:Bool) (d:Int) (w:World) hT hL=>lW y n l d w ⟨vO,vO⟩ hT hL)
 clear hF hF2
 go_enter (vF Tryz.func158),Tryz.ntmps158
 go_wp2_with fail
 refine vW (HLp.out _) ?_
 go_wp2_with (refine wpList_load_row rfl 214 _ rfl 7 rfl t Fe.arr (0,0) _ HT.out (aB Tryz.underlying214) rfl HZ.out ?_)
 first|(have _:=k90;go_loopw [8,36] (fun v i wr=>∃ (k:Nat) (S:List (Int×Int)),k<=19/\i= .int .i64 (k:Int)/\Hid (S=Fe.upto (D10.aM y) lp false k)/\S.length<=8*k/\Ev.Own wr w.1.size v S/\Below w.1.size w wr) (fun _ i _=>19-(intOf i).toNat))|(go_loopw [8,36] (fun v i wr=>∃ (k:Nat) (S:List (Int×Int)),k<=19/\i= .int .i64 (k:Int)/\Hid (S=Fe.upto (D10.aM y) lp true k)/\S.length<=8*k/\Ev.Own wr w.1.size v S/\Below w.1.size w wr) (fun _ i _=>19-(intOf i).toNat))
 case atStart=>exact⟨0,[],vO,rfl,Lib.hid rfl,vS,Ev.Own.nil _ _,Below.refl _ _⟩
 case round=>
  obtain⟨k,S,hk,rfl,HS,hlen,HO,hB⟩:=hrel
  obtain⟨w1,rfl⟩:∃x,x=wr:=⟨_,rfl⟩
  by_cases hlt:k<19
  ·have hix:=Fe.index k hlt
   first|(have _:=k90;have hml:=Fe.UE false k hlt)|(have hml:=Fe.UE true k hlt)
   have HDk:=Lib.hid (HD.out k hlt)
   first|(have _:=k90;have HNx:=Lib.hid (Fe.MB (D10.aM y) lp false k hlt))|(have HNx:=Lib.hid (Fe.MB (D10.aM y) lp true k hlt))
   obtain⟨r,hr⟩:∃r,Fe.row k=r:=⟨_,rfl⟩
   rw [hr]at hix hml HDk HNx
   obtain⟨kd,n,l,a1,m1,a2,m2⟩:=r
   have hix2:∀w:World,(Instr.index 214 (.agg Fe.arr) (.int .i64 (k:Int))).run Tryo.prog w= .ok (.agg #[kd,n,l,a1,(m1:Int),a2,(m2:Int)]) w:=hix
   first|(have _:=k90;have hm8:m1<=8:=hml)|(have hm8:m2<=8:=hml)
   have HH:=Lib.hid (fun w=>Ww lp n l w)
   have k1:(k:Int)<19:=vO
   clear hix hml hr
   cases hv:Fe.NT lp n l
   ·rw [hv]at HH
    first|(have _:=k90;have HE:Hid (Fe.upto (D10.aM y) lp false (k+1)=S):=Lib.hid (by rw [HNx.out,←HS.out];simp [Fe.Hq,hv]))|(have HE:Hid (Fe.upto (D10.aM y) lp true (k+1)=S):=Lib.hid (by rw [HNx.out,←HS.out];simp [Fe.Hq,hv]))
    clear hv
    go_wp2_with fail
    refine vX (HH.out _) fun w2 hb2 hz2 hc2 hf2=>?_
    try simp at hz2
    have hl2w1:w1.1.size<w2.1.size:=vO
    have hm2w1:w1.1.size<=w2.1.size:=vO
    go_wp2_with fail
    go_roundw
    case rel=>exact⟨k+1,S,vO,by go_num,Lib.hid HE.out.symm,vO,HO.below (bt (ba _ _) hb2),bt (baa hB _) hb2⟩
    case measure=>simp [intOf];omega
   ·rw [hv]at HH
    have hde:=HDk.out hv
    first|(have _:=k90;have HE:Hid (Fe.upto (D10.aM y) lp false (k+1)=S++Fe.evs kd (D10.aM y n l a1) m1):=Lib.hid (by rw [HNx.out,←HS.out];simp [Fe.Hq,hv,Fe.nC,Fe.DZ]))|(have HE:Hid (Fe.upto (D10.aM y) lp true (k+1)=S++Fe.evs kd (D10.aM y n l a2) m2):=Lib.hid (by rw [HNx.out,←HS.out];simp [Fe.Hq,hv,Fe.nC,Fe.DZ]))
    first|(have _:=k90;have hde2:D10.aK y n l a1=0/\ -2000000<=D10.aM y n l a1/\D10.aM y n l a1<=3000000:=hde)|(have hde2:D10.aK y n l a2=0/\ -2000000<=D10.aM y n l a2/\D10.aM y n l a2<=3000000:=hde)
    obtain⟨he0,hd1,hd2⟩:=hde2
    first|(have _:=k90;have HC2:=Lib.hid (fun(w:World) hT hL=>HC.out n l a1 w hT hL))|(have HC2:=Lib.hid (fun(w:World) hT hL=>HC.out n l a2 w hT hL))
    rw [he0]at HC2
    clear hv hde HDk he0
    first|(have _:=k90;generalize D10.aM y n l a1=D at*)|(generalize D10.aM y n l a2=D at*)
    go_wp2_with fail
    refine vX (HH.out _) fun w2 hb2 hz2 hc2 hf2=>?_
    try simp at hz2
    have hl2w1:w1.1.size<w2.1.size:=vO
    have hm2w1:w1.1.size<=w2.1.size:=vO
    have⟨g2x0,g2x1,g2x2,g2x3⟩:=ce4 hc2 (w1.1.size) kd n l a1
    have g2x4:w2.cell? ⟨w1.1.size,4,none⟩=some (.int .i64 (m1:Int)):=cel hc2
    have g2x5:w2.cell? ⟨w1.1.size,5,none⟩=some (a2:vV):=cel hc2
    have g2x6:w2.cell? ⟨w1.1.size,6,none⟩=some (.int .i64 (m2:Int)):=cel hc2
    go_wp2_with fail
    refine vX (HC2.out _ (Tab.below hT bel) (Tab.below hL bel)) fun w3 hb3 hz3 hc3 hf3=>?_
    try simp at hz3
    have hl3w1:w1.1.size<w3.1.size:=vO
    have hm3w1:w1.1.size<=w3.1.size:=vO
    have hl3w2:w2.1.size<w3.1.size:=vO
    have hm3w2:w2.1.size<=w3.1.size:=vO
    have g3x0:w3.cell? ⟨w1.1.size,0,none⟩=some (kd:vV):=cel hc3
    first|(have _:=k90;have g3x1:w3.cell? ⟨w2.1.size,0,none⟩=some (a1:vV):=cel hc3)|(have g3x1:w3.cell? ⟨w2.1.size,0,none⟩=some (a2:vV):=cel hc3)
    first|(have _:=k90;have g3x2:w3.cell? ⟨w2.1.size,1,none⟩=some (.int .i64 (m1:Int)):=cel hc3)|(have g3x2:w3.cell? ⟨w2.1.size,1,none⟩=some (.int .i64 (m2:Int)):=cel hc3)
    go_wp2_with fail
    have hB13:Below w1.1.size w1 w3:=bel
    have hB3:Below w.1.size w w3:=bt hB hB13
    have HO3:=HO.below hB13
    have hne:u8.ownBlock≠some w1.1.size:=fun e=>by have:=(HO.lt _ e).2;omega
    first|(have _:=k90;go_loopw [8,65] (fun v i ws=>∃j:Nat,j<=m1/\i= .int .i64 (j:Int)/\Ev.Own ws w.1.size v (S++Fe.evs kd D j)/\Hid (v.ownBlock≠some w1.1.size)/\ws.cell? ⟨w1.1.size,0,none⟩=some (kd:vV)/\w1.1.size<ws.1.size/\Below w.1.size w ws) (fun _ i _=>m1-(intOf i).toNat))|(go_loopw [8,65] (fun v i ws=>∃j:Nat,j<=m2/\i= .int .i64 (j:Int)/\Ev.Own ws w.1.size v (S++Fe.evs kd D j)/\Hid (v.ownBlock≠some w1.1.size)/\ws.cell? ⟨w1.1.size,0,none⟩=some (kd:vV)/\w1.1.size<ws.1.size/\Below w.1.size w ws) (fun _ i _=>m2-(intOf i).toNat))
    case atStart=>exact⟨0,vO,rfl,by rw [show Fe.evs kd D 0= []from rfl,List.append_nil];exact HO3,Lib.hid hne,g3x0,vO,hB3⟩
    case round=>
     obtain⟨j,hj,rfl,HO4,HN4,c4,hz4,hB4⟩:=hrel
     have hl4:(S++Fe.evs kd D j).length=S.length+j:=by rw [List.length_append,Fe.ZJ]
     have hsz4:=hB4.size
     have HO5:wr.ownsRow w.1.size 189 2 u8 (S.length+j) (Ev.flat (S++Fe.evs kd D j)):=by have h:=HO4;unfold Ev.Own at h;rwa [hl4]at h
     first|(have _:=k90;by_cases hjl:j<m1)|(by_cases hjl:j<m2)
     ·have j0:(0:Int)<=(j:Int):=vO
      first|(have _:=k90;have j1:(j:Int)<(m1:Int):=by omega)|(have j1:(j:Int)<(m2:Int):=by omega)
      have j8:(j:Int)<=8:=vO
      clear HO4 HO3 HO
      go_wp2_with (at_builtin;refine wpList_append_own_at _ rfl (.tmp 68) (.tmp 75) 185 rfl w.1.size 189 i0 (.agg #[(0:Int),(0:Int)]) 2 16 (aB Tryz.underlying185) ih iz0 iz1 iz2 rfl vD _ (S.length+j) (Ev.flat (S++Fe.evs kd D j)) rfl (HO5.alloc _) ⟨wr.1.size,0,none⟩ 1 1 [.int .i64 _,.int .i64 _] rfl rfl (ZE _ _ _) (abl _ _) (by simp only [maxLen];omega) vO (by first|assumption|(simp;omega)|omega) ?_;intro v6 w6 hown6 hgrow6 _ hblk6)
      have hg6:some w1.1.size≠u8.ownBlock:=fun e=>HN4.out e.symm
      go_roundw
      case rel=>
       refine⟨j+1,vO,by go_num, ?_,Lib.hid ?_, ?_, ?_, ?_⟩
       ·rw [Fe.YK,←List.append_assoc]
        exact Ev.iJ hl4.symm hown6
       ·rcases hblk6 with e|e
        ·rw [e];exact HN4.out
        ·rw [e];intro e2;have:=Option.some.inj e2;simp at this;omega
       ·exact hgrow6.cell (by simp [go_sem, *]) hg6
       ·have:=hgrow6.size;simp at this;omega
       ·exact oG (baa hB4 _) hgrow6 (fun k e=>(World.ownsRow.lt HO5 k e).1)
      case measure=>simp [intOf];omega
     ·first|(have _:=k90;obtain rfl:j=m1:=by omega)|(obtain rfl:j=m2:=by omega)
      clear hjl
      go_wp2_with fail
      go_roundw
      case rel=>exact⟨k+1,_,vO,by go_num,Lib.hid HE.out.symm,by rw [hl4];omega,HO4,hB4⟩
      case measure=>simp [intOf];omega
  ·obtain rfl:k=19:=vO
   clear hlt
   go_wp2_with fail
   refine(Ue _ S _ HO.row vO).mono ?_
   rintro e w9 ⟨v9,rfl,ho9,hb9⟩
   go_wp2_with fail
   go_ret2
   exact⟨_,rfl,by rw [←HS.out];exact ho9.base hB.size,bt hB hb9⟩
 )
def SS:=Cr.1
def Uj:=Cr.2
end
section
open Go.ChangeShapes Go.WideShapes Go.ChangeAt Go.RowKit Go.Lib Go.Sort Go.Shelf
namespace Fe
abbrev Key:=Int×Int×Bool×Int×Int
def evk(dv:Int->Bool->Int->Int)(k:Key):Int×Int:=(k.1,dv k.2.1 k.2.2.1 k.2.2.2.1+k.2.2.2.2)
end Fe
end
end Go.Proofs.YtljbnicolhhicaaGreatDoor
