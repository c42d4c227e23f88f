import Derived.Test.YthpipedifekmpaaGreatDoorJEV
import Derived.Test.YthpipedifekmpaaGreatDoorJBB
set_option maxHeartbeats 8000000
set_option maxRecDepth 100000
set_option linter.unusedVariables false
section
namespace Go.Proofs.YthpipedifekmpaaGreatDoor
open Go.ChangeShapes Go.WideShapes Go.ChangeAt Go.RowKit Go.Lib Go.Sort Go.Shelf
theorem Ev.own_snoc{w:World}{B n:Nat}{v:Value}{l:List (Int×Int)}{x1 x2:Int}(hn:n=l.length)(h:w.ownsRow B 134 2 v (n+1) (Ev.flat l++ [.int .i64 x1,.int .i64 x2])):Ev.Own w B v (l++ [(x1,x2)]):=by
 subst hn
 unfold Ev.Own
 rw [List.length_append,Ev.flat_app]
 exact h
namespace Fe
def rows:List (Int×Int×Bool×Int×Nat×Int×Nat):= [(1,1,false,1,2,1,2),(3,1,false,10,1,10,1),(4,1,false,15,2,15,1),(5,1,false,17,4,16,5),(6,1,false,21,1,21,1),(7,1,false,22,1,22,1),(8,1,false,23,1,22,1),(9,3,false,25,8,25,8),(11,5,false,15,1,15,1),(12,5,true,14,1,14,1),(14,6,false,14,1,14,1),(15,6,false,15,1,15,1),(17,7,false,15,2,15,1),(18,7,false,17,4,16,5),(17,7,false,21,2,21,1),(22,8,false,14,1,14,1),(23,8,false,18,1,18,1),(25,9,false,6,2,6,1),(28,11,false,15,1,15,1)]
def row(k:Nat):Int×Int×Bool×Int×Nat×Int×Nat:=rows.getD k (0,0,false,0,0,0,0)
def rowCells(r:Int×Int×Bool×Int×Nat×Int×Nat):List Value:= [.int .i64 r.1,.int .i64 r.2.1,.bool r.2.2.1,.int .i64 r.2.2.2.1,.int .i64 (r.2.2.2.2.1:Int),.int .i64 r.2.2.2.2.2.1,.int .i64 (r.2.2.2.2.2.2:Int)]
def cells:List Value:=rows.flatMap rowCells
def arr:Array Value:=cells.toArray
theorem arr_size:arr.size=133:=by kernel_rfl
theorem index(k:Nat)(hk:k<19):∀w:World,(Instr.index 158 (.agg arr) (.int .i64 (k:Int))).run Tryo.prog w= .ok (.agg (rowCells (row k)).toArray) w:=by
 rcases(show k=0∨k=1∨k=2∨k=3∨k=4∨k=5∨k=6∨k=7∨k=8∨k=9∨k=10∨k=11∨k=12∨k=13∨k=14∨k=15∨k=16∨k=17∨k=18 by omega)with rfl|rfl|rfl|rfl|rfl|rfl|rfl|rfl|rfl|rfl|rfl|rfl|rfl|rfl|rfl|rfl|rfl|rfl|rfl
 all_goals exact fun _=>by kernel_rfl
attribute [irreducible] arr
def hasV(lp:Bool)(n:Int)(l:Bool):Bool:=if n=5/\l=true then lp else true
def dayAt(p:Bool)(r:Int×Int×Bool×Int×Nat×Int×Nat):Int:=if p then r.2.2.2.2.2.1 else r.2.2.2.1
def manyAt(p:Bool)(r:Int×Int×Bool×Int×Nat×Int×Nat):Nat:=if p then r.2.2.2.2.2.2 else r.2.2.2.2.1
def evs(kd D:Int)(j:Nat):List (Int×Int):=(List.range j).map fun i:Nat=>(kd,D+(i:Int))
def rowEv(dv:Int->Bool->Int->Int)(lp p:Bool)(r:Int×Int×Bool×Int×Nat×Int×Nat):List (Int×Int):=
 if hasV lp r.2.1 r.2.2.1 then evs r.1 (dv r.2.1 r.2.2.1 (dayAt p r)) (manyAt p r)else []
def upto(dv:Int->Bool->Int->Int)(lp p:Bool)(k:Nat):List (Int×Int):=(rows.take k).flatMap (rowEv dv lp p)
theorem evs_len(kd D:Int)(j:Nat):(evs kd D j).length=j:=by simp [evs]
theorem evs_next(kd D:Int)(j:Nat):evs kd D (j+1)=evs kd D j++ [(kd,D+(j:Int))]:=by simp [evs,List.range_succ]
theorem row_get(k:Nat)(hk:k<19):rows[k]? =some (row k):=by
 have:k<rows.length:=hk
 rw [List.getElem?_eq_getElem this]
 unfold row
 rw [List.getD_eq_getElem?_getD,List.getElem?_eq_getElem this]
 rfl
theorem upto_next(dv:Int->Bool->Int->Int)(lp p:Bool)(k:Nat)(hk:k<19):upto dv lp p (k+1)=upto dv lp p k++rowEv dv lp p (row k):=by
 unfold upto
 rw [List.take_add_one,row_get k hk,List.flatMap_append]
 simp
theorem row_small:(rows.all fun r=>decide (r.2.2.2.2.1<=8)&&decide (r.2.2.2.2.2.2<=8))=true:=by decide
theorem many_le(p:Bool)(k:Nat)(hk:k<19):manyAt p (row k)<=8:=by
 have:=List.all_eq_true.1 row_small _ (List.mem_of_getElem? (row_get k hk))
 simp only [Bool.and_eq_true,decide_eq_true_eq]at this
 unfold manyAt
 split <;> omega
end Fe
theorem feast_has_no(lp:Bool)(n:Int)(w:World)(h:(n==5)=false)(l:Bool):
  Calls Tryo.prog 108 #[.bool lp,.agg #[.int .i64 n,.bool l]] w fun e w'=>e= .returned (.bool true)/\Below w.heap.size w w':=by
 go_enter Tryo.func108,Tryz.ntmps108
 go_wp2_with fail
 go_ret
 exact⟨rfl,ba _ _⟩
theorem feast_has_5f(lp:Bool)(w:World):
  Calls Tryo.prog 108 #[.bool lp,.agg #[.int .i64 5,.bool false]] w fun e w'=>e= .returned (.bool true)/\Below w.heap.size w w':=by
 go_enter Tryo.func108,Tryz.ntmps108
 go_wp2_with fail
 go_ret
 exact⟨rfl,ba _ _⟩
theorem feast_has_5t(lp:Bool)(w:World):
  Calls Tryo.prog 108 #[.bool lp,.agg #[.int .i64 5,.bool true]] w fun e w'=>e= .returned (.bool lp)/\Below w.heap.size w w':=by
 go_enter Tryo.func108,Tryz.ntmps108
 go_wp2_with fail
 go_ret
 exact⟨rfl,ba _ _⟩
theorem feast_has(lp:Bool)(n:Int)(l:Bool)(w:World):
  Calls Tryo.prog 108 #[.bool lp,.agg #[.int .i64 n,.bool l]] w fun e w'=>e= .returned (.bool (Fe.hasV lp n l))/\Below w.heap.size w w':=by
 unfold Fe.hasV
 by_cases h:n=5
 ·subst h
  cases l
  ·rw [if_neg (by simp)];exact feast_has_5f lp w
  ·rw [if_pos (by simp)];exact feast_has_5t lp w
 ·rw [if_neg (fun g=>h g.1)];exact feast_has_no lp n w (by simpa using h) l
theorem feast_Of_0 (y:Int) (lp:Bool) (w:World) (hy1:1<=y) (hy2:y<=9999) (hT:Tab w 5 kevCells) (hL:Tab w 4 lenCells) (hF:Tab w 6 Fe.cells) (HLp:Hid (∀w:World,Calls Tryo.prog 38 #[.int .i64 y] w fun e w'=>e= .returned (.tuple #[.bool lp,.int .i64 0])/\w=w'))
  (HD:Hid (∀k,k<19->Fe.hasV lp (Fe.row k).2.1 (Fe.row k).2.2.1=true->D10.dateE y (Fe.row k).2.1 (Fe.row k).2.2.1 (Fe.dayAt false (Fe.row k))=0/\ -2000000<=D10.dayV y (Fe.row k).2.1 (Fe.row k).2.2.1 (Fe.dayAt false (Fe.row k))/\D10.dayV y (Fe.row k).2.1 (Fe.row k).2.2.1 (Fe.dayAt false (Fe.row k))<=3000000)):
  Calls Tryo.prog 83 #[.int .i64 y,.int .i64 0] w fun e w'=>∃v,e= .returned (.tuple #[v,.int .i64 0])/\Ev.Own w' w.heap.size v (Ev.sort (Fe.upto (D10.dayV y) lp false 19))/\Below w.heap.size w w':=by
 obtain⟨i0,ih,iz0,iz1,iz2⟩:=info_parts A_infoEvent
 obtain⟨t,hF⟩:=hF
 have hF2:w.heap[6]? =some (.cells Fe.arr t (0,0)):=by unfold Fe.arr;exact hF
 have HT:=Lib.hid hF2
 have HZ:=Lib.hid (show(Tryo.prog.info? 158).map (·.size)=some Fe.arr.size by rw [Fe.arr_size];kernel_rfl)
 have HC:=Lib.hid (fun(n:Int) (l:Bool) (d:Int) (w:World) hT hL=>heb_ToDay y n l d w ⟨by omega,by omega⟩ hT hL)
 clear hF hF2
 go_enter Tryo.func83,Tryz.ntmps83
 go_wp2_with fail
 refine(HLp.out _).mono ?_
 rintro e w' ⟨rfl,rfl⟩
 go_wp2_with (refine wpList_load_row rfl 158 _ rfl 6 rfl t Fe.arr (0,0) _ HT.out (und_o Tryz.underlying158) rfl HZ.out ?_)
 go_loopw [8,36] (fun v i wr=>∃ (k:Nat) (S:List (Int×Int)),k<=19/\i= .int .i64 (k:Int)/\Hid (S=Fe.upto (D10.dayV y) lp false k)/\S.length<=8*k/\Ev.Own wr w.heap.size v S/\Below w.heap.size w wr) (fun _ i _=>19-(intOf i).toNat)
 case atStart=>exact⟨0,[],by omega,rfl,Lib.hid rfl,by simp,Ev.Own.nil _ _,Below.refl _ _⟩
 case round=>
  obtain⟨k,S,hk,rfl,HS,hlen,HO,hB⟩:=hrel
  obtain⟨w1,rfl⟩:∃x,x=wr:=⟨_,rfl⟩
  by_cases hlt:k<19
  ·have hix:=Fe.index k hlt
   have hml:=Fe.many_le false k hlt
   have HDk:=Lib.hid (HD.out k hlt)
   have HNx:=Lib.hid (Fe.upto_next (D10.dayV y) lp false k hlt)
   obtain⟨r,hr⟩:∃r,Fe.row k=r:=⟨_,rfl⟩
   rw [hr]at hix hml HDk HNx
   obtain⟨kd,n,l,a1,m1,a2,m2⟩:=r
   have hix2:∀w:World,(Instr.index 158 (.agg Fe.arr) (.int .i64 (k:Int))).run Tryo.prog w= .ok (.agg #[.int .i64 kd,.int .i64 n,.bool l,.int .i64 a1,.int .i64 (m1:Int),.int .i64 a2,.int .i64 (m2:Int)]) w:=hix
   have hm8:m1<=8:=hml
   have HH:=Lib.hid (fun w=>feast_has lp n l w)
   have k1:(k:Int)<19:=by omega
   clear hix hml hr
   cases hv:Fe.hasV lp n l
   ·rw [hv]at HH
    have HE:Hid (Fe.upto (D10.dayV y) lp false (k+1)=S):=Lib.hid (by rw [HNx.out,←HS.out];simp [Fe.rowEv,hv])
    clear hv
    go_wp2_with fail
    refine(HH.out _).mono ?_
    rintro e w2 ⟨rfl,hb2⟩
    obtain⟨hc2,hf2⟩:=bcell hb2
    have hz2:=hb2.size
    try simp at hz2
    have hl2w1:w1.heap.size<w2.heap.size:=by omega
    have hm2w1:w1.heap.size<=w2.heap.size:=by omega
    go_wp2_with fail
    go_roundw
    case rel=>exact⟨k+1,S,by omega,by go_num,Lib.hid HE.out.symm,by omega,HO.below (bt (ba _ _) hb2),bt (baa hB _) hb2⟩
    case measure=>simp [intOf];omega
   ·rw [hv]at HH
    have hde:=HDk.out hv
    have HE:Hid (Fe.upto (D10.dayV y) lp false (k+1)=S++Fe.evs kd (D10.dayV y n l a1) m1):=Lib.hid (by rw [HNx.out,←HS.out];simp [Fe.rowEv,hv,Fe.dayAt,Fe.manyAt])
    have hde2:D10.dateE y n l a1=0/\ -2000000<=D10.dayV y n l a1/\D10.dayV y n l a1<=3000000:=hde
    obtain⟨he0,hd1,hd2⟩:=hde2
    have HC2:=Lib.hid (fun(w:World) hT hL=>HC.out n l a1 w hT hL)
    rw [he0]at HC2
    clear hv hde HDk he0
    generalize D10.dayV y n l a1=D at*
    go_wp2_with fail
    refine(HH.out _).mono ?_
    rintro e w2 ⟨rfl,hb2⟩
    obtain⟨hc2,hf2⟩:=bcell hb2
    have hz2:=hb2.size
    try simp at hz2
    have hl2w1:w1.heap.size<w2.heap.size:=by omega
    have hm2w1:w1.heap.size<=w2.heap.size:=by omega
    have g2x0:w2.cell? ⟨w1.heap.size,0,none⟩=some (.int .i64 kd):=cel hc2
    have g2x1:w2.cell? ⟨w1.heap.size,1,none⟩=some (.int .i64 n):=cel hc2
    have g2x2:w2.cell? ⟨w1.heap.size,2,none⟩=some (.bool l):=cel hc2
    have g2x3:w2.cell? ⟨w1.heap.size,3,none⟩=some (.int .i64 a1):=cel hc2
    have g2x4:w2.cell? ⟨w1.heap.size,4,none⟩=some (.int .i64 (m1:Int)):=cel hc2
    have g2x5:w2.cell? ⟨w1.heap.size,5,none⟩=some (.int .i64 a2):=cel hc2
    have g2x6:w2.cell? ⟨w1.heap.size,6,none⟩=some (.int .i64 (m2:Int)):=cel hc2
    go_wp2_with fail
    refine(HC2.out _ (Tab.below hT bel) (Tab.below hL bel)).mono ?_
    rintro e w3 ⟨rfl,hb3⟩
    obtain⟨hc3,hf3⟩:=bcell hb3
    have hz3:=hb3.size
    try simp at hz3
    have hl3w1:w1.heap.size<w3.heap.size:=by omega
    have hm3w1:w1.heap.size<=w3.heap.size:=by omega
    have hl3w2:w2.heap.size<w3.heap.size:=by omega
    have hm3w2:w2.heap.size<=w3.heap.size:=by omega
    have g3x0:w3.cell? ⟨w1.heap.size,0,none⟩=some (.int .i64 kd):=cel hc3
    have g3x1:w3.cell? ⟨w2.heap.size,0,none⟩=some (.int .i64 a1):=cel hc3
    have g3x2:w3.cell? ⟨w2.heap.size,1,none⟩=some (.int .i64 (m1:Int)):=cel hc3
    go_wp2_with fail
    have hB13:Below w1.heap.size w1 w3:=bel
    have hB3:Below w.heap.size w w3:=bt hB hB13
    have HO3:=HO.below hB13
    have hne:u8.ownBlock≠some w1.heap.size:=fun e=>by have:=(HO.lt _ e).2;omega
    go_loopw [8,65] (fun v i ws=>∃j:Nat,j<=m1/\i= .int .i64 (j:Int)/\Ev.Own ws w.heap.size v (S++Fe.evs kd D j)/\Hid (v.ownBlock≠some w1.heap.size)/\ws.cell? ⟨w1.heap.size,0,none⟩=some (.int .i64 kd)/\w1.heap.size<ws.heap.size/\Below w.heap.size w ws) (fun _ i _=>m1-(intOf i).toNat)
    case atStart=>exact⟨0,by omega,rfl,by rw [show Fe.evs kd D 0= []from rfl,List.append_nil];exact HO3,Lib.hid hne,g3x0,by omega,hB3⟩
    case round=>
     obtain⟨j,hj,rfl,HO4,HN4,c4,hz4,hB4⟩:=hrel
     have hl4:(S++Fe.evs kd D j).length=S.length+j:=by rw [List.length_append,Fe.evs_len]
     have hsz4:=hB4.size
     have HO5:wr.ownsRow w.heap.size 134 2 u8 (S.length+j) (Ev.flat (S++Fe.evs kd D j)):=by have h:=HO4;unfold Ev.Own at h;rwa [hl4]at h
     by_cases hjl:j<m1
     ·have j0:(0:Int)<=(j:Int):=by omega
      have j1:(j:Int)<(m1:Int):=by omega
      have j8:(j:Int)<=8:=by omega
      clear HO4 HO3 HO
      go_wp2_with (at_builtin;refine wpList_append_own_at _ rfl (.tmp 68) (.tmp 75) 130 rfl w.heap.size 134 i0 (.agg #[.int .i64 0,.int .i64 0]) 2 16 (und_o Tryz.underlying130) ih iz0 iz1 iz2 rfl (by decide) _ (S.length+j) (Ev.flat (S++Fe.evs kd D j)) rfl (HO5.alloc _) ⟨wr.heap.size,0,none⟩ 1 1 [.int .i64 _,.int .i64 _] rfl rfl (ev_news _ _ _) (ev_one _ _) (by simp only [maxLen];omega) (by omega) (by first|assumption|(simp;omega)|omega) ?_;intro v6 w6 hown6 hgrow6 _ hblk6)
      have hg6:some w1.heap.size≠u8.ownBlock:=fun e=>HN4.out e.symm
      go_roundw
      case rel=>
       refine⟨j+1,by omega,by go_num, ?_,Lib.hid ?_, ?_, ?_, ?_⟩
       ·rw [Fe.evs_next,←List.append_assoc]
        exact Ev.own_snoc hl4.symm hown6
       ·rcases hblk6 with e|e
        ·rw [e];exact HN4.out
        ·rw [e];intro e2;have:=Option.some.inj e2;simp at this;omega
       ·exact hgrow6.cell (by simp [go_sem, *]) hg6
       ·have:=hgrow6.size;simp at this;omega
       ·exact bgrown (baa hB4 _) hgrow6 (fun k e=>(World.ownsRow.lt HO5 k e).1)
      case measure=>simp [intOf];omega
     ·obtain rfl:j=m1:=by omega
      clear hjl
      go_wp2_with fail
      go_roundw
      case rel=>exact⟨k+1,_,by omega,by go_num,Lib.hid HE.out.symm,by rw [hl4];omega,HO4,hB4⟩
      case measure=>simp [intOf];omega
  ·obtain rfl:k=19:=by omega
   clear hlt
   go_wp2_with fail
   refine(feast_Sort _ S _ HO.row (by omega)).mono ?_
   rintro e w9 ⟨v9,rfl,ho9,hb9⟩
   go_wp2_with fail
   go_ret2
   exact⟨_,rfl,by rw [←HS.out];exact ho9.base hB.size,bt hB hb9⟩
theorem feast_Of_1 (y:Int) (lp:Bool) (w:World) (hy1:1<=y) (hy2:y<=9999) (hT:Tab w 5 kevCells) (hL:Tab w 4 lenCells) (hF:Tab w 6 Fe.cells) (HLp:Hid (∀w:World,Calls Tryo.prog 38 #[.int .i64 y] w fun e w'=>e= .returned (.tuple #[.bool lp,.int .i64 0])/\w=w'))
  (HD:Hid (∀k,k<19->Fe.hasV lp (Fe.row k).2.1 (Fe.row k).2.2.1=true->D10.dateE y (Fe.row k).2.1 (Fe.row k).2.2.1 (Fe.dayAt true (Fe.row k))=0/\ -2000000<=D10.dayV y (Fe.row k).2.1 (Fe.row k).2.2.1 (Fe.dayAt true (Fe.row k))/\D10.dayV y (Fe.row k).2.1 (Fe.row k).2.2.1 (Fe.dayAt true (Fe.row k))<=3000000)):
  Calls Tryo.prog 83 #[.int .i64 y,.int .i64 1] w fun e w'=>∃v,e= .returned (.tuple #[v,.int .i64 0])/\Ev.Own w' w.heap.size v (Ev.sort (Fe.upto (D10.dayV y) lp true 19))/\Below w.heap.size w w':=by
 obtain⟨i0,ih,iz0,iz1,iz2⟩:=info_parts A_infoEvent
 obtain⟨t,hF⟩:=hF
 have hF2:w.heap[6]? =some (.cells Fe.arr t (0,0)):=by unfold Fe.arr;exact hF
 have HT:=Lib.hid hF2
 have HZ:=Lib.hid (show(Tryo.prog.info? 158).map (·.size)=some Fe.arr.size by rw [Fe.arr_size];kernel_rfl)
 have HC:=Lib.hid (fun(n:Int) (l:Bool) (d:Int) (w:World) hT hL=>heb_ToDay y n l d w ⟨by omega,by omega⟩ hT hL)
 clear hF hF2
 go_enter Tryo.func83,Tryz.ntmps83
 go_wp2_with fail
 refine(HLp.out _).mono ?_
 rintro e w' ⟨rfl,rfl⟩
 go_wp2_with (refine wpList_load_row rfl 158 _ rfl 6 rfl t Fe.arr (0,0) _ HT.out (und_o Tryz.underlying158) rfl HZ.out ?_)
 go_loopw [8,36] (fun v i wr=>∃ (k:Nat) (S:List (Int×Int)),k<=19/\i= .int .i64 (k:Int)/\Hid (S=Fe.upto (D10.dayV y) lp true k)/\S.length<=8*k/\Ev.Own wr w.heap.size v S/\Below w.heap.size w wr) (fun _ i _=>19-(intOf i).toNat)
 case atStart=>exact⟨0,[],by omega,rfl,Lib.hid rfl,by simp,Ev.Own.nil _ _,Below.refl _ _⟩
 case round=>
  obtain⟨k,S,hk,rfl,HS,hlen,HO,hB⟩:=hrel
  obtain⟨w1,rfl⟩:∃x,x=wr:=⟨_,rfl⟩
  by_cases hlt:k<19
  ·have hix:=Fe.index k hlt
   have hml:=Fe.many_le true k hlt
   have HDk:=Lib.hid (HD.out k hlt)
   have HNx:=Lib.hid (Fe.upto_next (D10.dayV y) lp true k hlt)
   obtain⟨r,hr⟩:∃r,Fe.row k=r:=⟨_,rfl⟩
   rw [hr]at hix hml HDk HNx
   obtain⟨kd,n,l,a1,m1,a2,m2⟩:=r
   have hix2:∀w:World,(Instr.index 158 (.agg Fe.arr) (.int .i64 (k:Int))).run Tryo.prog w= .ok (.agg #[.int .i64 kd,.int .i64 n,.bool l,.int .i64 a1,.int .i64 (m1:Int),.int .i64 a2,.int .i64 (m2:Int)]) w:=hix
   have hm8:m2<=8:=hml
   have HH:=Lib.hid (fun w=>feast_has lp n l w)
   have k1:(k:Int)<19:=by omega
   clear hix hml hr
   cases hv:Fe.hasV lp n l
   ·rw [hv]at HH
    have HE:Hid (Fe.upto (D10.dayV y) lp true (k+1)=S):=Lib.hid (by rw [HNx.out,←HS.out];simp [Fe.rowEv,hv])
    clear hv
    go_wp2_with fail
    refine(HH.out _).mono ?_
    rintro e w2 ⟨rfl,hb2⟩
    obtain⟨hc2,hf2⟩:=bcell hb2
    have hz2:=hb2.size
    try simp at hz2
    have hl2w1:w1.heap.size<w2.heap.size:=by omega
    have hm2w1:w1.heap.size<=w2.heap.size:=by omega
    go_wp2_with fail
    go_roundw
    case rel=>exact⟨k+1,S,by omega,by go_num,Lib.hid HE.out.symm,by omega,HO.below (bt (ba _ _) hb2),bt (baa hB _) hb2⟩
    case measure=>simp [intOf];omega
   ·rw [hv]at HH
    have hde:=HDk.out hv
    have HE:Hid (Fe.upto (D10.dayV y) lp true (k+1)=S++Fe.evs kd (D10.dayV y n l a2) m2):=Lib.hid (by rw [HNx.out,←HS.out];simp [Fe.rowEv,hv,Fe.dayAt,Fe.manyAt])
    have hde2:D10.dateE y n l a2=0/\ -2000000<=D10.dayV y n l a2/\D10.dayV y n l a2<=3000000:=hde
    obtain⟨he0,hd1,hd2⟩:=hde2
    have HC2:=Lib.hid (fun(w:World) hT hL=>HC.out n l a2 w hT hL)
    rw [he0]at HC2
    clear hv hde HDk he0
    generalize D10.dayV y n l a2=D at*
    go_wp2_with fail
    refine(HH.out _).mono ?_
    rintro e w2 ⟨rfl,hb2⟩
    obtain⟨hc2,hf2⟩:=bcell hb2
    have hz2:=hb2.size
    try simp at hz2
    have hl2w1:w1.heap.size<w2.heap.size:=by omega
    have hm2w1:w1.heap.size<=w2.heap.size:=by omega
    have g2x0:w2.cell? ⟨w1.heap.size,0,none⟩=some (.int .i64 kd):=cel hc2
    have g2x1:w2.cell? ⟨w1.heap.size,1,none⟩=some (.int .i64 n):=cel hc2
    have g2x2:w2.cell? ⟨w1.heap.size,2,none⟩=some (.bool l):=cel hc2
    have g2x3:w2.cell? ⟨w1.heap.size,3,none⟩=some (.int .i64 a1):=cel hc2
    have g2x4:w2.cell? ⟨w1.heap.size,4,none⟩=some (.int .i64 (m1:Int)):=cel hc2
    have g2x5:w2.cell? ⟨w1.heap.size,5,none⟩=some (.int .i64 a2):=cel hc2
    have g2x6:w2.cell? ⟨w1.heap.size,6,none⟩=some (.int .i64 (m2:Int)):=cel hc2
    go_wp2_with fail
    refine(HC2.out _ (Tab.below hT bel) (Tab.below hL bel)).mono ?_
    rintro e w3 ⟨rfl,hb3⟩
    obtain⟨hc3,hf3⟩:=bcell hb3
    have hz3:=hb3.size
    try simp at hz3
    have hl3w1:w1.heap.size<w3.heap.size:=by omega
    have hm3w1:w1.heap.size<=w3.heap.size:=by omega
    have hl3w2:w2.heap.size<w3.heap.size:=by omega
    have hm3w2:w2.heap.size<=w3.heap.size:=by omega
    have g3x0:w3.cell? ⟨w1.heap.size,0,none⟩=some (.int .i64 kd):=cel hc3
    have g3x1:w3.cell? ⟨w2.heap.size,0,none⟩=some (.int .i64 a2):=cel hc3
    have g3x2:w3.cell? ⟨w2.heap.size,1,none⟩=some (.int .i64 (m2:Int)):=cel hc3
    go_wp2_with fail
    have hB13:Below w1.heap.size w1 w3:=bel
    have hB3:Below w.heap.size w w3:=bt hB hB13
    have HO3:=HO.below hB13
    have hne:u8.ownBlock≠some w1.heap.size:=fun e=>by have:=(HO.lt _ e).2;omega
    go_loopw [8,65] (fun v i ws=>∃j:Nat,j<=m2/\i= .int .i64 (j:Int)/\Ev.Own ws w.heap.size v (S++Fe.evs kd D j)/\Hid (v.ownBlock≠some w1.heap.size)/\ws.cell? ⟨w1.heap.size,0,none⟩=some (.int .i64 kd)/\w1.heap.size<ws.heap.size/\Below w.heap.size w ws) (fun _ i _=>m2-(intOf i).toNat)
    case atStart=>exact⟨0,by omega,rfl,by rw [show Fe.evs kd D 0= []from rfl,List.append_nil];exact HO3,Lib.hid hne,g3x0,by omega,hB3⟩
    case round=>
     obtain⟨j,hj,rfl,HO4,HN4,c4,hz4,hB4⟩:=hrel
     have hl4:(S++Fe.evs kd D j).length=S.length+j:=by rw [List.length_append,Fe.evs_len]
     have hsz4:=hB4.size
     have HO5:wr.ownsRow w.heap.size 134 2 u8 (S.length+j) (Ev.flat (S++Fe.evs kd D j)):=by have h:=HO4;unfold Ev.Own at h;rwa [hl4]at h
     by_cases hjl:j<m2
     ·have j0:(0:Int)<=(j:Int):=by omega
      have j1:(j:Int)<(m2:Int):=by omega
      have j8:(j:Int)<=8:=by omega
      clear HO4 HO3 HO
      go_wp2_with (at_builtin;refine wpList_append_own_at _ rfl (.tmp 68) (.tmp 75) 130 rfl w.heap.size 134 i0 (.agg #[.int .i64 0,.int .i64 0]) 2 16 (und_o Tryz.underlying130) ih iz0 iz1 iz2 rfl (by decide) _ (S.length+j) (Ev.flat (S++Fe.evs kd D j)) rfl (HO5.alloc _) ⟨wr.heap.size,0,none⟩ 1 1 [.int .i64 _,.int .i64 _] rfl rfl (ev_news _ _ _) (ev_one _ _) (by simp only [maxLen];omega) (by omega) (by first|assumption|(simp;omega)|omega) ?_;intro v6 w6 hown6 hgrow6 _ hblk6)
      have hg6:some w1.heap.size≠u8.ownBlock:=fun e=>HN4.out e.symm
      go_roundw
      case rel=>
       refine⟨j+1,by omega,by go_num, ?_,Lib.hid ?_, ?_, ?_, ?_⟩
       ·rw [Fe.evs_next,←List.append_assoc]
        exact Ev.own_snoc hl4.symm hown6
       ·rcases hblk6 with e|e
        ·rw [e];exact HN4.out
        ·rw [e];intro e2;have:=Option.some.inj e2;simp at this;omega
       ·exact hgrow6.cell (by simp [go_sem, *]) hg6
       ·have:=hgrow6.size;simp at this;omega
       ·exact bgrown (baa hB4 _) hgrow6 (fun k e=>(World.ownsRow.lt HO5 k e).1)
      case measure=>simp [intOf];omega
     ·obtain rfl:j=m2:=by omega
      clear hjl
      go_wp2_with fail
      go_roundw
      case rel=>exact⟨k+1,_,by omega,by go_num,Lib.hid HE.out.symm,by rw [hl4];omega,HO4,hB4⟩
      case measure=>simp [intOf];omega
  ·obtain rfl:k=19:=by omega
   clear hlt
   go_wp2_with fail
   refine(feast_Sort _ S _ HO.row (by omega)).mono ?_
   rintro e w9 ⟨v9,rfl,ho9,hb9⟩
   go_wp2_with fail
   go_ret2
   exact⟨_,rfl,by rw [←HS.out];exact ho9.base hB.size,bt hB hb9⟩
end Go.Proofs.YthpipedifekmpaaGreatDoor
end
section
namespace Go.Proofs.YthpipedifekmpaaGreatDoor
open Go.ChangeShapes Go.WideShapes Go.ChangeAt Go.RowKit Go.Lib Go.Sort Go.Shelf
namespace Fe
abbrev Key:=Int×Int×Bool×Int×Int
def evk(dv:Int->Bool->Int->Int)(k:Key):Int×Int:=(k.1,dv k.2.1 k.2.2.1 k.2.2.2.1+k.2.2.2.2)
end Fe
end Go.Proofs.YthpipedifekmpaaGreatDoor
end
