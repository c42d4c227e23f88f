import Derived.Test.YthnjjcoahdhmnaaGreatDoorOBB
import Derived.Test.YthnjjcoahdhmnaaGreatDoorOCO
import Derived.LoopTactic
import Derived.Outline
import Derived.Test.YthnjjcoahdhmnaaGreatDoorOHE
set_option maxHeartbeats 8000000
set_option maxRecDepth 100000
set_option linter.unusedVariables false
namespace Go.Proofs.YthnjjcoahdhmnaaGreatDoor
section
open Go.ChangeShapes Go.WideShapes Go.ChangeAt Go.RowKit
end
section
open Go.ChangeShapes Go.WideShapes Go.ChangeAt Go.RowKit
def iw(n:Int)(l:Bool):ByteArray:=
 if l then⟨#[77,UInt8.ofNat (48+n.toNat / 10),UInt8.ofNat (48+n.toNat % 10),76]⟩else⟨#[77,UInt8.ofNat (48+n.toNat / 10),UInt8.ofNat (48+n.toNat % 10)]⟩
def Nu(n:Int)(l:Bool):ByteArray:=if Cal.right n l then iw n l else ByteArray.empty
theorem Qz:iw 1 false=⟨#[77,48,49]⟩:=rfl
theorem Qd:iw 2 false=⟨#[77,48,50]⟩:=rfl
theorem Rt:iw 3 false=⟨#[77,48,51]⟩:=rfl
theorem Qc:iw 4 false=⟨#[77,48,52]⟩:=rfl
theorem Ri:iw 5 false=⟨#[77,48,53]⟩:=rfl
theorem QO:iw 6 false=⟨#[77,48,54]⟩:=rfl
theorem Qg:iw 7 false=⟨#[77,48,55]⟩:=rfl
theorem Qq:iw 8 false=⟨#[77,48,56]⟩:=rfl
theorem QM:iw 9 false=⟨#[77,48,57]⟩:=rfl
theorem NK:iw 10 false=⟨#[77,49,48]⟩:=rfl
theorem Om:iw 11 false=⟨#[77,49,49]⟩:=rfl
theorem NG:iw 12 false=⟨#[77,49,50]⟩:=rfl
theorem Ox:iw 5 true=⟨#[77,48,53,76]⟩:=rfl
theorem GA(n:Int)(l:Bool)(w:World):Calls Tryo.prog 52 #[.agg #[.int .i64 n,.bool l]] w fun e w'=>e= .returned (.tuple #[.string (Nu n l),.bool (Cal.right n l)])/\Below w.heap.size w w':=by
 cases h:Cal.right n l
 ·rw [Nu,h,if_neg Bool.false_ne_true]
  exact Kn n l w h
 ·rw [Nu,h,if_pos rfl]
  rcases mU n l h with ⟨h1,h2,rfl⟩|⟨rfl,rfl⟩
  ·rcases(show n=1∨n=2∨n=3∨n=4∨n=5∨n=6∨n=7∨n=8∨n=9∨n=10∨n=11∨n=12 by omega)with rfl|rfl|rfl|rfl|rfl|rfl|rfl|rfl|rfl|rfl|rfl|rfl
   ·rw [Qz];exact LH w
   ·rw [Qd];exact MC w
   ·rw [Rt];exact KS w
   ·rw [Qc];exact MV w
   ·rw [Ri];exact MR w
   ·rw [QO];exact M9 w
   ·rw [Qg];exact Ku w
   ·rw [Qq];exact M7 w
   ·rw [QM];exact Lm w
   ·rw [NK];exact J5 w
   ·rw [Om];exact Jl w
   ·rw [NG];exact I9 w
  ·rw [Ox];exact I5 w
end
section
open Go.ChangeShapes Go.WideShapes Go.ChangeAt Go.RowKit
def powCells:List Value:= [.int .i64 1,.int .i64 10,.int .i64 100,.int .i64 1000]
def RU(n p:Int):Int:=48+n / p % 10
def yR(n:Int)(ps:List Int):ByteArray:=⟨(ps.map fun p=>UInt8.ofNat (RU n p).toNat).toArray⟩
theorem Gy(n:Int)(h0:0<=n)(h1:n<=9999)(w:World)(hP:Tab w 2 powCells):
  Calls Tryo.prog 53 #[.int .i64 n,.int .i64 2] w fun e w'=>e= .returned (.string (yR n [10,1]))/\Below w.heap.size w w':=by
 have hp0:w.cell? ⟨2,0,none⟩=some (.int .i64 1):=hP.cell 0
 have hp1:w.cell? ⟨2,1,none⟩=some (.int .i64 10):=hP.cell 1
 have hp2:w.cell? ⟨2,2,none⟩=some (.int .i64 100):=hP.cell 2
 have hp3:w.cell? ⟨2,3,none⟩=some (.int .i64 1000):=hP.cell 3
 have hps:=hP.lt
 have hmk:∀w:World,(Instr.makeSlice 151 (.int .i64 2) (.int .i64 2)).run Tryo.prog w= .ok (.slice (some ⟨w.heap.size,0,none⟩) 2 2) (w.alloc (.cells #[.int .u8 0,.int .u8 0] 5)):=fun _=>by kernel_rfl
 go_enter Tryo.func53,Tryz.ntmps53
 go_wp2_with fail
 go_loopw [11] (fun i wr=>∃k:Int,(k=0∨k=1∨k=2)/\i= .int .i64 k/\wr.cell? ⟨w.heap.size,0,none⟩=some (.int .u8 (if 0<k then 48+n / 10 % 10 else 0))/\wr.cell? ⟨w.heap.size,1,none⟩=some (.int .u8 (if 1<k then 48+n % 10 else 0))/\wr.frozen? ⟨w.heap.size,0,none⟩=false/\wr.frozen? ⟨w.heap.size,1,none⟩=false/\w.heap.size<wr.heap.size/\Below w.heap.size w wr) (fun i _=>(2-intOf i).toNat)
 case atStart=>exact⟨0,by omega,rfl,by simp [go_sem],by simp [go_sem],by simp [go_sem],by simp [go_sem],by simp,ba _ _⟩
 case round=>
  obtain⟨k,hk,rfl,c0,c1,f0,f1,hs,hB⟩:=hrel
  have q0:=(hB.cell (p:=⟨2,0,none⟩) hps).trans hp0
  have q1:=(hB.cell (p:=⟨2,1,none⟩) hps).trans hp1
  have q2:=(hB.cell (p:=⟨2,2,none⟩) hps).trans hp2
  have q3:=(hB.cell (p:=⟨2,3,none⟩) hps).trans hp3
  clear hp0 hp1 hp2 hp3 hP
  rcases hk with rfl|rfl|rfl
  ·have d0:wr.cell? ⟨w.heap.size,0,none⟩=some (.int .u8 (0)):=by simpa using c0
   have d1:wr.cell? ⟨w.heap.size,1,none⟩=some (.int .u8 (0)):=by simpa using c1
   clear c0 c1
   have b0:0<=n / 10 % 10:=by omega
   have b1:n / 10 % 10<10:=by omega
   go_wp2_with fail
   go_roundw
   case rel=>exact⟨1,by omega,rfl,by simp [go_sem, *],by simp [go_sem, *],by simp [go_sem, *],by simp [go_sem, *],by simpa [World.setCell]using hs,bs hB (Nat.le_refl _) _⟩
   case measure=>simp [intOf]
  ·have d0:wr.cell? ⟨w.heap.size,0,none⟩=some (.int .u8 (48+n / 10 % 10)):=by simpa using c0
   have d1:wr.cell? ⟨w.heap.size,1,none⟩=some (.int .u8 (0)):=by simpa using c1
   clear c0 c1
   have b0:0<=n / 1 % 10:=by omega
   have b1:n / 1 % 10<10:=by omega
   go_wp2_with fail
   go_roundw
   case rel=>exact⟨2,by omega,rfl,by simp [go_sem, *],by simp [go_sem, *],by simp [go_sem, *],by simp [go_sem, *],by simpa [World.setCell]using hs,bs hB (Nat.le_refl _) _⟩
   case measure=>simp [intOf]
  ·have d0:wr.cell? ⟨w.heap.size,0,none⟩=some (.int .u8 (48+n / 10 % 10)):=by simpa using c0
   have d1:wr.cell? ⟨w.heap.size,1,none⟩=some (.int .u8 (48+n % 10)):=by simpa using c1
   clear c0 c1
   have kc:=run_convert_bytes_arg (P:=Tryo.prog) wr 151 5 (aU Tryz.underlying151) (aU Tryz.underlying5) w.heap.size 0 2 2 [48+n / 10 % 10,48+n % 10] rfl (by
    intro i hi
    rcases i with _|_|i
    ·exact d0
    ·exact d1
    ·exact absurd (show i+2<2 from hi) (by omega)) 9 (aU Tryz.underlying9)
   go_wp2_with fail
   go_ret
   refine⟨?_,hB⟩
   first|rfl|(simp [yR,RU];rfl)|(simp [yR,RU,strOfNums];done)
theorem FJ(n:Int)(h0:0<=n)(h1:n<=9999)(w:World)(hP:Tab w 2 powCells):
  Calls Tryo.prog 53 #[.int .i64 n,.int .i64 4] w fun e w'=>e= .returned (.string (yR n [1000,100,10,1]))/\Below w.heap.size w w':=by
 have hp0:w.cell? ⟨2,0,none⟩=some (.int .i64 1):=hP.cell 0
 have hp1:w.cell? ⟨2,1,none⟩=some (.int .i64 10):=hP.cell 1
 have hp2:w.cell? ⟨2,2,none⟩=some (.int .i64 100):=hP.cell 2
 have hp3:w.cell? ⟨2,3,none⟩=some (.int .i64 1000):=hP.cell 3
 have hps:=hP.lt
 have hmk:∀w:World,(Instr.makeSlice 151 (.int .i64 4) (.int .i64 4)).run Tryo.prog w= .ok (.slice (some ⟨w.heap.size,0,none⟩) 4 4) (w.alloc (.cells #[.int .u8 0,.int .u8 0,.int .u8 0,.int .u8 0] 5)):=fun _=>by kernel_rfl
 go_enter Tryo.func53,Tryz.ntmps53
 go_wp2_with fail
 go_loopw [11] (fun i wr=>∃k:Int,(k=0∨k=1∨k=2∨k=3∨k=4)/\i= .int .i64 k/\wr.cell? ⟨w.heap.size,0,none⟩=some (.int .u8 (if 0<k then 48+n / 1000 % 10 else 0))/\wr.cell? ⟨w.heap.size,1,none⟩=some (.int .u8 (if 1<k then 48+n / 100 % 10 else 0))/\wr.cell? ⟨w.heap.size,2,none⟩=some (.int .u8 (if 2<k then 48+n / 10 % 10 else 0))/\wr.cell? ⟨w.heap.size,3,none⟩=some (.int .u8 (if 3<k then 48+n % 10 else 0))/\wr.frozen? ⟨w.heap.size,0,none⟩=false/\wr.frozen? ⟨w.heap.size,1,none⟩=false/\wr.frozen? ⟨w.heap.size,2,none⟩=false/\wr.frozen? ⟨w.heap.size,3,none⟩=false/\w.heap.size<wr.heap.size/\Below w.heap.size w wr) (fun i _=>(4-intOf i).toNat)
 case atStart=>exact⟨0,by omega,rfl,by simp [go_sem],by simp [go_sem],by simp [go_sem],by simp [go_sem],by simp [go_sem],by simp [go_sem],by simp [go_sem],by simp [go_sem],by simp,ba _ _⟩
 case round=>
  obtain⟨k,hk,rfl,c0,c1,c2,c3,f0,f1,f2,f3,hs,hB⟩:=hrel
  have q0:=(hB.cell (p:=⟨2,0,none⟩) hps).trans hp0
  have q1:=(hB.cell (p:=⟨2,1,none⟩) hps).trans hp1
  have q2:=(hB.cell (p:=⟨2,2,none⟩) hps).trans hp2
  have q3:=(hB.cell (p:=⟨2,3,none⟩) hps).trans hp3
  clear hp0 hp1 hp2 hp3 hP
  rcases hk with rfl|rfl|rfl|rfl|rfl
  ·have d0:wr.cell? ⟨w.heap.size,0,none⟩=some (.int .u8 (0)):=by simpa using c0
   have d1:wr.cell? ⟨w.heap.size,1,none⟩=some (.int .u8 (0)):=by simpa using c1
   have d2:wr.cell? ⟨w.heap.size,2,none⟩=some (.int .u8 (0)):=by simpa using c2
   have d3:wr.cell? ⟨w.heap.size,3,none⟩=some (.int .u8 (0)):=by simpa using c3
   clear c0 c1 c2 c3
   have b0:0<=n / 1000 % 10:=by omega
   have b1:n / 1000 % 10<10:=by omega
   go_wp2_with fail
   go_roundw
   case rel=>exact⟨1,by omega,rfl,by simp [go_sem, *],by simp [go_sem, *],by simp [go_sem, *],by simp [go_sem, *],by simp [go_sem, *],by simp [go_sem, *],by simp [go_sem, *],by simp [go_sem, *],by simpa [World.setCell]using hs,bs hB (Nat.le_refl _) _⟩
   case measure=>simp [intOf]
  ·have d0:wr.cell? ⟨w.heap.size,0,none⟩=some (.int .u8 (48+n / 1000 % 10)):=by simpa using c0
   have d1:wr.cell? ⟨w.heap.size,1,none⟩=some (.int .u8 (0)):=by simpa using c1
   have d2:wr.cell? ⟨w.heap.size,2,none⟩=some (.int .u8 (0)):=by simpa using c2
   have d3:wr.cell? ⟨w.heap.size,3,none⟩=some (.int .u8 (0)):=by simpa using c3
   clear c0 c1 c2 c3
   have b0:0<=n / 100 % 10:=by omega
   have b1:n / 100 % 10<10:=by omega
   go_wp2_with fail
   go_roundw
   case rel=>exact⟨2,by omega,rfl,by simp [go_sem, *],by simp [go_sem, *],by simp [go_sem, *],by simp [go_sem, *],by simp [go_sem, *],by simp [go_sem, *],by simp [go_sem, *],by simp [go_sem, *],by simpa [World.setCell]using hs,bs hB (Nat.le_refl _) _⟩
   case measure=>simp [intOf]
  ·have d0:wr.cell? ⟨w.heap.size,0,none⟩=some (.int .u8 (48+n / 1000 % 10)):=by simpa using c0
   have d1:wr.cell? ⟨w.heap.size,1,none⟩=some (.int .u8 (48+n / 100 % 10)):=by simpa using c1
   have d2:wr.cell? ⟨w.heap.size,2,none⟩=some (.int .u8 (0)):=by simpa using c2
   have d3:wr.cell? ⟨w.heap.size,3,none⟩=some (.int .u8 (0)):=by simpa using c3
   clear c0 c1 c2 c3
   have b0:0<=n / 10 % 10:=by omega
   have b1:n / 10 % 10<10:=by omega
   go_wp2_with fail
   go_roundw
   case rel=>exact⟨3,by omega,rfl,by simp [go_sem, *],by simp [go_sem, *],by simp [go_sem, *],by simp [go_sem, *],by simp [go_sem, *],by simp [go_sem, *],by simp [go_sem, *],by simp [go_sem, *],by simpa [World.setCell]using hs,bs hB (Nat.le_refl _) _⟩
   case measure=>simp [intOf]
  ·have d0:wr.cell? ⟨w.heap.size,0,none⟩=some (.int .u8 (48+n / 1000 % 10)):=by simpa using c0
   have d1:wr.cell? ⟨w.heap.size,1,none⟩=some (.int .u8 (48+n / 100 % 10)):=by simpa using c1
   have d2:wr.cell? ⟨w.heap.size,2,none⟩=some (.int .u8 (48+n / 10 % 10)):=by simpa using c2
   have d3:wr.cell? ⟨w.heap.size,3,none⟩=some (.int .u8 (0)):=by simpa using c3
   clear c0 c1 c2 c3
   have b0:0<=n / 1 % 10:=by omega
   have b1:n / 1 % 10<10:=by omega
   go_wp2_with fail
   go_roundw
   case rel=>exact⟨4,by omega,rfl,by simp [go_sem, *],by simp [go_sem, *],by simp [go_sem, *],by simp [go_sem, *],by simp [go_sem, *],by simp [go_sem, *],by simp [go_sem, *],by simp [go_sem, *],by simpa [World.setCell]using hs,bs hB (Nat.le_refl _) _⟩
   case measure=>simp [intOf]
  ·have d0:wr.cell? ⟨w.heap.size,0,none⟩=some (.int .u8 (48+n / 1000 % 10)):=by simpa using c0
   have d1:wr.cell? ⟨w.heap.size,1,none⟩=some (.int .u8 (48+n / 100 % 10)):=by simpa using c1
   have d2:wr.cell? ⟨w.heap.size,2,none⟩=some (.int .u8 (48+n / 10 % 10)):=by simpa using c2
   have d3:wr.cell? ⟨w.heap.size,3,none⟩=some (.int .u8 (48+n % 10)):=by simpa using c3
   clear c0 c1 c2 c3
   have kc:=run_convert_bytes_arg (P:=Tryo.prog) wr 151 5 (aU Tryz.underlying151) (aU Tryz.underlying5) w.heap.size 0 4 4 [48+n / 1000 % 10,48+n / 100 % 10,48+n / 10 % 10,48+n % 10] rfl (by
    intro i hi
    rcases i with _|_|_|_|i
    ·exact d0
    ·exact d1
    ·exact d2
    ·exact d3
    ·exact absurd (show i+4<4 from hi) (by omega)) 9 (aU Tryz.underlying9)
   go_wp2_with fail
   go_ret
   refine⟨?_,hB⟩
   first|rfl|(simp [yR,RU];rfl)|(simp [yR,RU,strOfNums];done)
end
section
open Go.ChangeShapes Go.WideShapes Go.ChangeAt Go.RowKit
theorem IW(y n:Int)(l:Bool)(d:Int)(w:World)(hy:I64 y)(hT:Tab w 7 kevCells)(hL:Tab w 5 lenCells)(hP:Tab w 2 powCells)(h0:¬ D10.aB y n l d=0):
  Calls Tryo.prog 16 #[.agg #[.int .i64 (y),.int .i64 (n),.bool (l),.int .i64 (d)]] w fun e w'=>e= .returned (.tuple #[.string ByteArray.empty,.int .i64 (D10.aB y n l d)])/\Below w.heap.size w w':=by
 have HC:=Lib.hid (fun w hT hL=>iY y n l d w hy hT hL)
 have h1:(D10.aB y n l d !=0)=true:=by simpa using h0
 clear h0
 generalize D10.aB y n l d=de at*
 go_enter Tryo.func16,Tryz.ntmps16
 go_wp2_with fail
 refine(HC.out _ (Tab.below hT bel) (Tab.below hL bel)).mono ?_
 rintro e w1 ⟨rfl,hb1⟩
 obtain⟨hc1,hf1⟩:=aA hb1
 have hz1:=hb1.size
 try simp at hz1
 have hs1x0:w.heap.size<w1.heap.size:=by omega
 have⟨g1x0,g1x1,g1x2,g1x3⟩:=ce4 hc1 (w.heap.size) y n l d
 go_wp2_with fail
 go_ret2
 refine⟨rfl, ?_⟩
 exact bel
def Oc(y n:Int)(l:Bool)(d:Int):ByteArray:=yR y [1000,100,10,1]++⟨#[45]⟩++Nu n l++⟨#[45]⟩++yR d [10,1]
theorem Ml(y n:Int)(l:Bool)(d:Int)(w:World)(hy:I64 y)(hT:Tab w 7 kevCells)(hL:Tab w 5 lenCells)(hP:Tab w 2 powCells)(h0:D10.aB y n l d=0):
  Calls Tryo.prog 16 #[.agg #[.int .i64 (y),.int .i64 (n),.bool (l),.int .i64 (d)]] w fun e w'=>e= .returned (.tuple #[.string (Oc y n l d),.int .i64 0])/\Below w.heap.size w w':=by
 have HC:=Lib.hid (fun w hT hL=>iY y n l d w hy hT hL)
 obtain⟨hv,hp⟩:=D10.bG h0
 obtain⟨y1,y2,m1,m2,d1,d2⟩:=hv
 have db:=D10.jQ y _ y1 y2 m1 m2
 have HM:=Lib.hid (fun w=>GA n l w)
 have HY:=Lib.hid (fun w hP=>FJ y (by omega) (by omega) w hP)
 have HD:=Lib.hid (fun w hP=>Gy d (by omega) (by omega) w hP)
 rw [h0]at HC
 have sz:(Nu n l).size<=4:=by unfold Nu iw;split;split;all_goals(first|decide|exact Nat.le_of_ble_eq_true rfl|simp [ByteArray.size])
 have s4:(yR y [1000,100,10,1]).size<=4:=by simp [yR,ByteArray.size]
 have s2:(yR d [10,1]).size<=2:=by simp [yR,ByteArray.size]
 clear m1 m2 d1 d2 db hp h0
 unfold Oc
 generalize Nu n l=tm at*
 generalize Cal.right n l=rr at*
 generalize yR y [1000,100,10,1]=ty at*
 generalize yR d [10,1]=td at*
 go_enter Tryo.func16,Tryz.ntmps16
 go_wp2_with fail
 refine(HC.out _ (Tab.below hT bel) (Tab.below hL bel)).mono ?_
 rintro e w1 ⟨rfl,hb1⟩
 obtain⟨hc1,hf1⟩:=aA hb1
 have hz1:=hb1.size
 try simp at hz1
 have hs1x0:w.heap.size<w1.heap.size:=by omega
 have⟨g1x0,g1x1,g1x2,g1x3⟩:=ce4 hc1 (w.heap.size) y n l d
 go_wp2_with fail
 refine(HM.out _).mono ?_
 rintro e w2 ⟨rfl,hb2⟩
 obtain⟨hc2,hf2⟩:=aA hb2
 have hz2:=hb2.size
 try simp at hz2
 have hs2x0:w.heap.size<w2.heap.size:=by omega
 have⟨g2x0,g2x1,g2x2,g2x3⟩:=ce4 hc2 (w.heap.size) y n l d
 go_wp2_with fail
 have hW2:Below w.heap.size w w2:=bel
 refine bI (by kernel_rfl) (by kernel_rfl) (fun hall=> ?_)
 repeat(first|go_big_quiet_skip|(go_big_quiet_want;first|(refine ql1 _ _ _ rfl rfl ?_;apply Exists.intro;refine⟨?_, ?_⟩;assumption;go_simp;go_big_quiet_on)|(refine ql2 _ _ _ _ rfl rfl ?_;apply Exists.intro;apply Exists.intro;refine⟨?_, ?_, ?_⟩;assumption;assumption;go_simp;go_big_quiet_on)|(refine ql3 _ _ _ _ rfl rfl ?_;apply Exists.intro;apply Exists.intro;apply Exists.intro;refine⟨?_, ?_, ?_, ?_⟩;assumption;assumption;assumption;go_simp;go_big_quiet_on)|(refine ql4 _ _ _ _ rfl rfl ?_;apply Exists.intro;apply Exists.intro;apply Exists.intro;apply Exists.intro;refine⟨?_, ?_, ?_, ?_, ?_⟩;assumption;assumption;assumption;assumption;go_simp;go_big_quiet_on)|(go_big_quiet_op;first|go_big_quiet_on|(apply Exists.intro;refine⟨fun x hx=> ?_, ?_⟩;(first|(with_reducible exact bQ hx (HY.out x (Tab.below hP (bt hW2 hx))))|(with_reducible exact bQ hx (HD.out x (Tab.below hP (bt hW2 hx))))|exact bQ hx (HY.out x (Tab.below hP (bt hW2 hx)))|exact bQ hx (HD.out x (Tab.below hP (bt hW2 hx))));go_big_quiet_on))))
 refine wpQuiet_nil ?_
 clear hall
 intro x3 hx3
 go_wp2_with fail
 go_ret2
 exact⟨rfl,bt hW2 hx3⟩
def hebV(y n:Int)(l:Bool)(d:Int):ByteArray:=if D10.aB y n l d=0 then Oc y n l d else ByteArray.empty
theorem M5(y n:Int)(l:Bool)(d:Int)(w:World)(hy:I64 y)(hT:Tab w 7 kevCells)(hL:Tab w 5 lenCells)(hP:Tab w 2 powCells):
  Calls Tryo.prog 16 #[.agg #[.int .i64 (y),.int .i64 (n),.bool (l),.int .i64 (d)]] w fun e w'=>e= .returned (.tuple #[.string (hebV y n l d),.int .i64 (D10.aB y n l d)])/\Below w.heap.size w w':=by
 unfold hebV
 by_cases h0:D10.aB y n l d=0
 ·rw [if_pos h0,h0];exact Ml y n l d w hy hT hL hP h0
 ·rw [if_neg h0];exact IW y n l d w hy hT hL hP h0
end
end Go.Proofs.YthnjjcoahdhmnaaGreatDoor
