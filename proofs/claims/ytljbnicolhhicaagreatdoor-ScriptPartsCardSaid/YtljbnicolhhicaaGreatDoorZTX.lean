import Derived.Test.YtljbnicolhhicaaGreatDoorZHE
set_option maxHeartbeats 8000000
set_option maxRecDepth 100000
set_option linter.unusedVariables false
namespace Go.Proofs.YtljbnicolhhicaaGreatDoor
open Go.ChangeShapes Go.WideShapes Go.ChangeAt Go.RowKit
def dG(w:World)(m:Int):Prop:=w.cell? ⟨5,0,none⟩=some (m:vV)/\5<w.1.size
theorem dG.below{a b:World}{m:Int}(h:dG a m)(hb:Below a.1.size a b):dG b m:=⟨(hb.cell (p:=⟨5,0,none⟩) h.2).trans h.1,Nat.lt_of_lt_of_le h.2 hb.size⟩
def fK(b:UInt8):Bool:=decide (48<=b.toNat)&&decide (b.toNat<=57)
def fH(l:List UInt8):Int:=l.foldl (fun a b=>10*a+((b.toNat:Int)-48)) 0
def aZ(l:List UInt8)(M:Nat):Bool:=decide (l.length=M)&&l.all fK
def aH(l:List UInt8)(M:Nat):Int:=if aZ l M then fH l else 0
theorem uw(l:List UInt8)(b:UInt8):fH (l++ [b])=10*fH l+((b.toNat:Int)-48):=by simp [fH]
theorem ER:∀ (n:Nat) (l:List UInt8),l.length=n->l.all fK=true->0<=fH l/\fH l<10 ^ n
 |0,l,hl,_=>by
  have:l= []:=List.length_eq_zero_iff.1 hl
  subst this
  simp [fH]
 |n+1,l,hl,h=>by
  have hne:l≠ []:=by rintro rfl;simp at hl
  obtain⟨L,b,rfl⟩:∃L b,l=L++ [b]:=⟨_,_,(List.dropLast_concat_getLast hne).symm⟩
  rw [List.all_append,Bool.and_eq_true]at h
  obtain⟨h1,h2⟩:=h
  have hb:fK b=true:=by simpa using h2
  unfold fK at hb
  simp only [Bool.and_eq_true,decide_eq_true_eq]at hb
  obtain⟨i1,i2⟩:=ER n L (by simpa using hl) h1
  rw [uw,Int.pow_succ]
  omega
theorem sV(l:List UInt8)(h:l.all fK=true):0<=fH l/\fH l<10 ^ l.length:=ER _ l rfl h
theorem take_snoc'(s:ByteArray)(k:Nat)(h:k<s.size):s.data.toList.take (k+1)=s.data.toList.take k++ [s[k]]:=by
 rw [List.take_succ_eq_append_getElem (by simpa using h)];rfl
theorem Pw(s:ByteArray)(k:Nat)(h:k<s.size)(hb:fK s[k]=false):s.data.toList.all fK=false:=by
 rw [Bool.eq_false_iff]
 intro hA
 have:=List.all_eq_true.1 hA s[k] (by
  have e:s[k]=s.data.toList[k]'(by simpa using h):=rfl
  rw [e];exact List.getElem_mem _)
 rw [hb]at this
 cases this
def fA(n:Int)(l:Bool):ByteArray:=
 if l then⟨#[77,UInt8.ofNat (48+n.toNat / 10),UInt8.ofNat (48+n.toNat % 10),76]⟩else⟨#[77,UInt8.ofNat (48+n.toNat / 10),UInt8.ofNat (48+n.toNat % 10)]⟩
def Ld(n:Int)(l:Bool):ByteArray:=if Cal.right n l then fA n l else ByteArray.empty
theorem WJ:fA 1 false=⟨#[77,48,49]⟩:=rfl
theorem Wd:fA 2 false=⟨#[77,48,50]⟩:=rfl
theorem VR:fA 3 false=⟨#[77,48,51]⟩:=rfl
theorem Vw:fA 4 false=⟨#[77,48,52]⟩:=rfl
theorem Vs:fA 5 false=⟨#[77,48,53]⟩:=rfl
theorem Wj:fA 6 false=⟨#[77,48,54]⟩:=rfl
theorem V7:fA 7 false=⟨#[77,48,55]⟩:=rfl
theorem V4:fA 8 false=⟨#[77,48,56]⟩:=rfl
theorem Wz:fA 9 false=⟨#[77,48,57]⟩:=rfl
theorem Tn:fA 10 false=⟨#[77,49,48]⟩:=rfl
theorem Ut:fA 11 false=⟨#[77,49,49]⟩:=rfl
theorem Tz:fA 12 false=⟨#[77,49,50]⟩:=rfl
theorem Tj:fA 5 true=⟨#[77,48,53,76]⟩:=rfl
theorem AQ(n:Int)(l:Bool)(w:World):vB 100 #[.agg #[n,l]] w (.tuple #[Ld n l,Cal.right n l]):=by
 cases h:Cal.right n l
 ·rw [Ld,h,if_neg Bool.false_ne_true]
  exact MF n l w h
 ·rw [Ld,h,if_pos rfl]
  rcases iM n l h with ⟨h1,h2,rfl⟩|⟨rfl,rfl⟩
  ·rcases(show n=1∨n=2∨n=3∨n=4∨n=5∨n=6∨n=7∨n=8∨n=9∨n=10∨n=11∨n=12 by omega)with rfl|rfl|rfl|rfl|rfl|rfl|rfl|rfl|rfl|rfl|rfl|rfl
   ·rw [WJ];exact Fb w
   ·rw [Wd];exact FH w
   ·rw [VR];exact FD w
   ·rw [Vw];exact EM w
   ·rw [Vs];exact Fa w
   ·rw [Wj];exact ET w
   ·rw [V7];exact E8 w
   ·rw [V4];exact FK w
   ·rw [Wz];exact Fz w
   ·rw [Tn];exact Df w
   ·rw [Ut];exact Bw w
   ·rw [Tz];exact C8 w
  ·rw [Tj];exact Cu w
def powCells:List Value:= [.int .i64 1,.int .i64 10,.int .i64 100,.int .i64 1000]
def XT(n p:Int):Int:=48+n / p % 10
def Ag(n:Int)(ps:List Int):ByteArray:=⟨(ps.map fun p=>UInt8.ofNat (XT n p).toNat).toArray⟩
theorem Ki(n:Int)(h0:0<=n)(h1:n<=9999)(w:World)(hP:Tab w 3 powCells):
  vB 103 #[n,(2:Int)] w (.string (Ag n [10,1])):=by
 have hp0:w.cell? ⟨3,0,none⟩=some (.int .i64 1):=hP.cell 0
 have hp1:w.cell? ⟨3,1,none⟩=some (.int .i64 10):=hP.cell 1
 have hp2:w.cell? ⟨3,2,none⟩=some (.int .i64 100):=hP.cell 2
 have hp3:w.cell? ⟨3,3,none⟩=some (.int .i64 1000):=hP.cell 3
 have hps:=hP.lt
 have hmk:∀w:World,(Instr.makeSlice 134 (.int .i64 2) (.int .i64 2)).run Tryo.prog w= .ok (.slice (some ⟨w.1.size,0,none⟩) 2 2) (w.alloc (.cells #[.int .u8 0,.int .u8 0] 5)):=fun _=>by kernel_rfl
 go_enter (vF Tryz.func103),Tryz.ntmps103
 go_wp2_with fail
 go_loopw [11] (fun i wr=>∃k:Int,(k=0∨k=1∨k=2)/\i= .int .i64 k/\wr.cell? ⟨w.1.size,0,none⟩=some (.int .u8 (if 0<k then 48+n / 10 % 10 else 0))/\wr.cell? ⟨w.1.size,1,none⟩=some (.int .u8 (if 1<k then 48+n % 10 else 0))/\wr.frozen? ⟨w.1.size,0,none⟩=false/\wr.frozen? ⟨w.1.size,1,none⟩=false/\w.1.size<wr.1.size/\Below w.1.size w wr) (fun i _=>(2-intOf i).toNat)
 case atStart=>exact⟨0,vO,rfl,vG,vG,vG,vG,vS,ba _ _⟩
 case round=>
  obtain⟨k,hk,rfl,c0,c1,f0,f1,hs,hB⟩:=hrel
  have q0:=(hB.cell (p:=⟨3,0,none⟩) hps).trans hp0
  have q1:=(hB.cell (p:=⟨3,1,none⟩) hps).trans hp1
  have q2:=(hB.cell (p:=⟨3,2,none⟩) hps).trans hp2
  have q3:=(hB.cell (p:=⟨3,3,none⟩) hps).trans hp3
  clear hp0 hp1 hp2 hp3 hP
  rcases hk with rfl|rfl|rfl
  ·have d0:wr.cell? ⟨w.1.size,0,none⟩=some (.int .u8 (0)):=by simpa using c0
   have d1:wr.cell? ⟨w.1.size,1,none⟩=some (.int .u8 (0)):=by simpa using c1
   clear c0 c1
   have b0:0<=n / 10 % 10:=vO
   have b1:n / 10 % 10<10:=vO
   go_wp2_with fail
   go_roundw
   case rel=>exact⟨1,vO,rfl,by simp [go_sem, *],by simp [go_sem, *],by simp [go_sem, *],by simp [go_sem, *],by simpa [World.setCell]using hs,bs hB (Nat.le_refl _) _⟩
   case measure=>simp [intOf]
  ·have d0:wr.cell? ⟨w.1.size,0,none⟩=some (.int .u8 (48+n / 10 % 10)):=by simpa using c0
   have d1:wr.cell? ⟨w.1.size,1,none⟩=some (.int .u8 (0)):=by simpa using c1
   clear c0 c1
   have b0:0<=n / 1 % 10:=vO
   have b1:n / 1 % 10<10:=vO
   go_wp2_with fail
   go_roundw
   case rel=>exact⟨2,vO,rfl,by simp [go_sem, *],by simp [go_sem, *],by simp [go_sem, *],by simp [go_sem, *],by simpa [World.setCell]using hs,bs hB (Nat.le_refl _) _⟩
   case measure=>simp [intOf]
  ·have d0:wr.cell? ⟨w.1.size,0,none⟩=some (.int .u8 (48+n / 10 % 10)):=by simpa using c0
   have d1:wr.cell? ⟨w.1.size,1,none⟩=some (.int .u8 (48+n % 10)):=by simpa using c1
   clear c0 c1
   have kc:=run_convert_bytes_arg (P:=Tryo.prog) wr 134 5 (aB Tryz.underlying134) (aB Tryz.underlying5) w.1.size 0 2 2 [48+n / 10 % 10,48+n % 10] rfl (by
    intro i hi
    rcases i with _|_|i
    ·exact d0
    ·exact d1
    ·exact absurd (show i+2<2 from hi) vO) 9 (aB Tryz.underlying9)
   go_wp2_with fail
   go_ret
   refine⟨?_,hB⟩
   first|rfl|(simp [Ag,XT];rfl)|(simp [Ag,XT,strOfNums];done)
theorem KV(n:Int)(h0:0<=n)(h1:n<=9999)(w:World)(hP:Tab w 3 powCells):
  vB 103 #[n,(4:Int)] w (.string (Ag n [1000,100,10,1])):=by
 have hp0:w.cell? ⟨3,0,none⟩=some (.int .i64 1):=hP.cell 0
 have hp1:w.cell? ⟨3,1,none⟩=some (.int .i64 10):=hP.cell 1
 have hp2:w.cell? ⟨3,2,none⟩=some (.int .i64 100):=hP.cell 2
 have hp3:w.cell? ⟨3,3,none⟩=some (.int .i64 1000):=hP.cell 3
 have hps:=hP.lt
 have hmk:∀w:World,(Instr.makeSlice 134 (.int .i64 4) (.int .i64 4)).run Tryo.prog w= .ok (.slice (some ⟨w.1.size,0,none⟩) 4 4) (w.alloc (.cells #[.int .u8 0,.int .u8 0,.int .u8 0,.int .u8 0] 5)):=fun _=>by kernel_rfl
 go_enter (vF Tryz.func103),Tryz.ntmps103
 go_wp2_with fail
 go_loopw [11] (fun i wr=>∃k:Int,(k=0∨k=1∨k=2∨k=3∨k=4)/\i= .int .i64 k/\wr.cell? ⟨w.1.size,0,none⟩=some (.int .u8 (if 0<k then 48+n / 1000 % 10 else 0))/\wr.cell? ⟨w.1.size,1,none⟩=some (.int .u8 (if 1<k then 48+n / 100 % 10 else 0))/\wr.cell? ⟨w.1.size,2,none⟩=some (.int .u8 (if 2<k then 48+n / 10 % 10 else 0))/\wr.cell? ⟨w.1.size,3,none⟩=some (.int .u8 (if 3<k then 48+n % 10 else 0))/\wr.frozen? ⟨w.1.size,0,none⟩=false/\wr.frozen? ⟨w.1.size,1,none⟩=false/\wr.frozen? ⟨w.1.size,2,none⟩=false/\wr.frozen? ⟨w.1.size,3,none⟩=false/\w.1.size<wr.1.size/\Below w.1.size w wr) (fun i _=>(4-intOf i).toNat)
 case atStart=>exact⟨0,vO,rfl,vG,vG,vG,vG,vG,vG,vG,vG,vS,ba _ _⟩
 case round=>
  obtain⟨k,hk,rfl,c0,c1,c2,c3,f0,f1,f2,f3,hs,hB⟩:=hrel
  have q0:=(hB.cell (p:=⟨3,0,none⟩) hps).trans hp0
  have q1:=(hB.cell (p:=⟨3,1,none⟩) hps).trans hp1
  have q2:=(hB.cell (p:=⟨3,2,none⟩) hps).trans hp2
  have q3:=(hB.cell (p:=⟨3,3,none⟩) hps).trans hp3
  clear hp0 hp1 hp2 hp3 hP
  rcases hk with rfl|rfl|rfl|rfl|rfl
  ·have d0:wr.cell? ⟨w.1.size,0,none⟩=some (.int .u8 (0)):=by simpa using c0
   have d1:wr.cell? ⟨w.1.size,1,none⟩=some (.int .u8 (0)):=by simpa using c1
   have d2:wr.cell? ⟨w.1.size,2,none⟩=some (.int .u8 (0)):=by simpa using c2
   have d3:wr.cell? ⟨w.1.size,3,none⟩=some (.int .u8 (0)):=by simpa using c3
   clear c0 c1 c2 c3
   have b0:0<=n / 1000 % 10:=vO
   have b1:n / 1000 % 10<10:=vO
   go_wp2_with fail
   go_roundw
   case rel=>exact⟨1,vO,rfl,by simp [go_sem, *],by simp [go_sem, *],by simp [go_sem, *],by simp [go_sem, *],by simp [go_sem, *],by simp [go_sem, *],by simp [go_sem, *],by simp [go_sem, *],by simpa [World.setCell]using hs,bs hB (Nat.le_refl _) _⟩
   case measure=>simp [intOf]
  ·have d0:wr.cell? ⟨w.1.size,0,none⟩=some (.int .u8 (48+n / 1000 % 10)):=by simpa using c0
   have d1:wr.cell? ⟨w.1.size,1,none⟩=some (.int .u8 (0)):=by simpa using c1
   have d2:wr.cell? ⟨w.1.size,2,none⟩=some (.int .u8 (0)):=by simpa using c2
   have d3:wr.cell? ⟨w.1.size,3,none⟩=some (.int .u8 (0)):=by simpa using c3
   clear c0 c1 c2 c3
   have b0:0<=n / 100 % 10:=vO
   have b1:n / 100 % 10<10:=vO
   go_wp2_with fail
   go_roundw
   case rel=>exact⟨2,vO,rfl,by simp [go_sem, *],by simp [go_sem, *],by simp [go_sem, *],by simp [go_sem, *],by simp [go_sem, *],by simp [go_sem, *],by simp [go_sem, *],by simp [go_sem, *],by simpa [World.setCell]using hs,bs hB (Nat.le_refl _) _⟩
   case measure=>simp [intOf]
  ·have d0:wr.cell? ⟨w.1.size,0,none⟩=some (.int .u8 (48+n / 1000 % 10)):=by simpa using c0
   have d1:wr.cell? ⟨w.1.size,1,none⟩=some (.int .u8 (48+n / 100 % 10)):=by simpa using c1
   have d2:wr.cell? ⟨w.1.size,2,none⟩=some (.int .u8 (0)):=by simpa using c2
   have d3:wr.cell? ⟨w.1.size,3,none⟩=some (.int .u8 (0)):=by simpa using c3
   clear c0 c1 c2 c3
   have b0:0<=n / 10 % 10:=vO
   have b1:n / 10 % 10<10:=vO
   go_wp2_with fail
   go_roundw
   case rel=>exact⟨3,vO,rfl,by simp [go_sem, *],by simp [go_sem, *],by simp [go_sem, *],by simp [go_sem, *],by simp [go_sem, *],by simp [go_sem, *],by simp [go_sem, *],by simp [go_sem, *],by simpa [World.setCell]using hs,bs hB (Nat.le_refl _) _⟩
   case measure=>simp [intOf]
  ·have d0:wr.cell? ⟨w.1.size,0,none⟩=some (.int .u8 (48+n / 1000 % 10)):=by simpa using c0
   have d1:wr.cell? ⟨w.1.size,1,none⟩=some (.int .u8 (48+n / 100 % 10)):=by simpa using c1
   have d2:wr.cell? ⟨w.1.size,2,none⟩=some (.int .u8 (48+n / 10 % 10)):=by simpa using c2
   have d3:wr.cell? ⟨w.1.size,3,none⟩=some (.int .u8 (0)):=by simpa using c3
   clear c0 c1 c2 c3
   have b0:0<=n / 1 % 10:=vO
   have b1:n / 1 % 10<10:=vO
   go_wp2_with fail
   go_roundw
   case rel=>exact⟨4,vO,rfl,by simp [go_sem, *],by simp [go_sem, *],by simp [go_sem, *],by simp [go_sem, *],by simp [go_sem, *],by simp [go_sem, *],by simp [go_sem, *],by simp [go_sem, *],by simpa [World.setCell]using hs,bs hB (Nat.le_refl _) _⟩
   case measure=>simp [intOf]
  ·have d0:wr.cell? ⟨w.1.size,0,none⟩=some (.int .u8 (48+n / 1000 % 10)):=by simpa using c0
   have d1:wr.cell? ⟨w.1.size,1,none⟩=some (.int .u8 (48+n / 100 % 10)):=by simpa using c1
   have d2:wr.cell? ⟨w.1.size,2,none⟩=some (.int .u8 (48+n / 10 % 10)):=by simpa using c2
   have d3:wr.cell? ⟨w.1.size,3,none⟩=some (.int .u8 (48+n % 10)):=by simpa using c3
   clear c0 c1 c2 c3
   have kc:=run_convert_bytes_arg (P:=Tryo.prog) wr 134 5 (aB Tryz.underlying134) (aB Tryz.underlying5) w.1.size 0 4 4 [48+n / 1000 % 10,48+n / 100 % 10,48+n / 10 % 10,48+n % 10] rfl (by
    intro i hi
    rcases i with _|_|_|_|i
    ·exact d0
    ·exact d1
    ·exact d2
    ·exact d3
    ·exact absurd (show i+4<4 from hi) vO) 9 (aB Tryz.underlying9)
   go_wp2_with fail
   go_ret
   refine⟨?_,hB⟩
   first|rfl|(simp [Ag,XT];rfl)|(simp [Ag,XT,strOfNums];done)
theorem NW(y n:Int)(l:Bool)(d:Int)(w:World)(hy:I64 y)(hT:Tab w 6 kevCells)(hL:Tab w 4 lenCells)(hP:Tab w 3 powCells)(h0:¬ D10.aK y n l d=0):
  vB 58 #[.agg #[y,n,l,d]] w (.tuple #[ByteArray.empty,D10.aK y n l d]):=by
 have HC:=Lib.hid (fun w hT hL=>je y n l d w hy hT hL)
 have h1:(D10.aK y n l d !=0)=true:=by simpa using h0
 clear h0
 generalize D10.aK y n l d=de at*
 go_enter (vF Tryz.func58),Tryz.ntmps58
 go_wp2_with fail
 refine vX (HC.out _ (Tab.below hT bel) (Tab.below hL bel)) fun w1 hb1 hz1 hc1 hf1=>?_
 try simp at hz1
 have hs1x0:w.1.size<w1.1.size:=vO
 have⟨g1x0,g1x1,g1x2,g1x3⟩:=ce4 hc1 (w.1.size) y n l d
 go_wp2_with fail
 go_ret2
 refine⟨rfl, ?_⟩
 exact bel
def TP(y n:Int)(l:Bool)(d:Int):ByteArray:=Ag y [1000,100,10,1]++⟨#[45]⟩++Ld n l++⟨#[45]⟩++Ag d [10,1]
theorem Rv(y n:Int)(l:Bool)(d:Int)(w:World)(hy:I64 y)(hT:Tab w 6 kevCells)(hL:Tab w 4 lenCells)(hP:Tab w 3 powCells)(h0:D10.aK y n l d=0):
  vB 58 #[.agg #[y,n,l,d]] w (.tuple #[TP y n l d,(0:Int)]):=by
 have HC:=Lib.hid (fun w hT hL=>je y n l d w hy hT hL)
 obtain⟨hv,hp⟩:=D10.bq h0
 obtain⟨y1,y2,m1,m2,d1,d2⟩:=hv
 have db:=D10.j5 y _ y1 y2 m1 m2
 have HM:=Lib.hid (fun w=>AQ n l w)
 have HY:=Lib.hid (fun w hP=>KV y vO vO w hP)
 have HD:=Lib.hid (fun w hP=>Ki d vO vO w hP)
 rw [h0]at HC
 have sz:(Ld n l).size<=4:=by unfold Ld fA;split;split;all_goals(first|decide|exact Nat.le_of_ble_eq_true rfl|simp [ByteArray.size])
 have s4:(Ag y [1000,100,10,1]).size<=4:=by simp [Ag,ByteArray.size]
 have s2:(Ag d [10,1]).size<=2:=by simp [Ag,ByteArray.size]
 clear m1 m2 d1 d2 db hp h0
 unfold TP
 generalize Ld n l=tm at*
 generalize Cal.right n l=rr at*
 generalize Ag y [1000,100,10,1]=ty at*
 generalize Ag d [10,1]=td at*
 go_enter (vF Tryz.func58),Tryz.ntmps58
 go_wp2_with fail
 refine vX (HC.out _ (Tab.below hT bel) (Tab.below hL bel)) fun w1 hb1 hz1 hc1 hf1=>?_
 try simp at hz1
 have hs1x0:w.1.size<w1.1.size:=vO
 have⟨g1x0,g1x1,g1x2,g1x3⟩:=ce4 hc1 (w.1.size) y n l d
 go_wp2_with fail
 refine vX (HM.out _) fun w2 hb2 hz2 hc2 hf2=>?_
 try simp at hz2
 have hs2x0:w.1.size<w2.1.size:=vO
 have⟨g2x0,g2x1,g2x2,g2x3⟩:=ce4 hc2 (w.1.size) y n l d
 go_wp2_with fail
 have hW2:Below w.1.size w w2:=bel
 refine bP vK vK (fun hall=> ?_)
 repeat(first|go_big_quiet_skip|(go_big_quiet_want;first|(refine ql1 _ _ _ rfl rfl ?_;apply Exists.intro;refine⟨?_, ?_⟩;assumption;go_simp;go_big_quiet_on)|(refine ql2 _ _ _ _ rfl rfl ?_;apply Exists.intro;apply Exists.intro;refine⟨?_, ?_, ?_⟩;assumption;assumption;go_simp;go_big_quiet_on)|(refine ql3 _ _ _ _ rfl rfl ?_;apply Exists.intro;apply Exists.intro;apply Exists.intro;refine⟨?_, ?_, ?_, ?_⟩;assumption;assumption;assumption;go_simp;go_big_quiet_on)|(refine ql4 _ _ _ _ rfl rfl ?_;apply Exists.intro;apply Exists.intro;apply Exists.intro;apply Exists.intro;refine⟨?_, ?_, ?_, ?_, ?_⟩;assumption;assumption;assumption;assumption;go_simp;go_big_quiet_on)|(go_big_quiet_op;first|go_big_quiet_on|(apply Exists.intro;refine⟨fun x hx=> ?_, ?_⟩;(first|(with_reducible exact dn hx (HY.out x (Tab.below hP (bt hW2 hx))))|(with_reducible exact dn hx (HD.out x (Tab.below hP (bt hW2 hx))))|exact dn hx (HY.out x (Tab.below hP (bt hW2 hx)))|exact dn hx (HD.out x (Tab.below hP (bt hW2 hx))));go_big_quiet_on))))
 refine wpQuiet_nil ?_
 clear hall
 intro x3 hx3
 go_wp2_with fail
 go_ret2
 exact⟨rfl,bt hW2 hx3⟩
def hebV(y n:Int)(l:Bool)(d:Int):ByteArray:=if D10.aK y n l d=0 then TP y n l d else ByteArray.empty
theorem Ym(y n:Int)(l:Bool)(d:Int)(w:World)(hy:I64 y)(hT:Tab w 6 kevCells)(hL:Tab w 4 lenCells)(hP:Tab w 3 powCells):
  vB 58 #[.agg #[y,n,l,d]] w (.tuple #[hebV y n l d,D10.aK y n l d]):=by
 unfold hebV
 by_cases h0:D10.aK y n l d=0
 ·rw [if_pos h0,h0];exact Rv y n l d w hy hT hL hP h0
 ·rw [if_neg h0];exact NW y n l d w hy hT hL hP h0
end Go.Proofs.YtljbnicolhhicaaGreatDoor
