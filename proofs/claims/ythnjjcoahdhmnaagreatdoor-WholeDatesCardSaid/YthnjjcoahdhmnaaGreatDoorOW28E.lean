import Derived.Test.YthnjjcoahdhmnaaGreatDoorOW28
import Derived.Test.YthnjjcoahdhmnaaGreatDoorOW28e
import Derived.Test.YthnjjcoahdhmnaaGreatDoorOAD
import Derived.Test.YthnjjcoahdhmnaaGreatDoorOCU
import Derived.Test.YthnjjcoahdhmnaaGreatDoorOW28D
import Derived.Test.YthnjjcoahdhmnaaGreatDoorOUC
import Derived.Test.YthnjjcoahdhmnaaGreatDoorONA
set_option maxHeartbeats 8000000
set_option maxRecDepth 100000
set_option linter.unusedSimpArgs false
set_option linter.unusedVariables false
namespace Go.Proofs.YthnjjcoahdhmnaaGreatDoor
open Go.ChangeShapes Go.WideShapes Go.ChangeAt Go.RowKit Go.Lib Go.Sort Go.Shelf
theorem WholeDates_walk(y n:Int)(l:Bool)(d z k:Int)(h:Bool)(f:Int)(hy:I64 y)(hn:I64 n)(hd:I64 d)(hz:I64 z)(hk:I64 k)(hf:I64 f)(w:World)(hT:Tab w 7 kevCells)(hL:Tab w 5 lenCells)(hI:Lib.TabIs Tryo.prog w "internal/strconv.uint64pow10" .u64 Lib.pow10Tab)(hG:Tab w 4 Gr.gregCells)(hF:Tab w 0 Fe.cells)(hN:Tab w 3 nameCells)(hP:Tab w 2 powCells):
  Calls Tryo.prog 4 #[.agg #[.int .i64 (y),.int .i64 (n),.bool (l),.int .i64 (d)],.agg #[.int .i64 (z),.int .i64 (k),.bool (h),.int .i64 (f)]] w fun e w'=>e= .returned (.bool true)/\Below w.heap.size w w':=by
 have HW:=(Lib.hid fun W hW=>UJ W (Tab.below hT hW) (Tab.below hL hW) (Tab.below hG hW) (Tab.below hF hW) (Tab.below hP hW))
 obtain⟨F,hF0⟩:=D27.VY
 have HA:=Lib.hid (fun W (hW:Below w.heap.size w W)=>jB y n l d W hy (Tab.below hT hW) (Tab.below hL hW))
 have HB:=Lib.hid (fun W (hW:Below w.heap.size w W)=>jB z k h f W hz (Tab.below hT hW) (Tab.below hL hW))
 have HC:=Lib.hid (fun W (hW:Below w.heap.size w W)=>M5 y n l d W hy (Tab.below hT hW) (Tab.below hL hW) (Tab.below hP hW))
 have HD:=Lib.hid (fun W (hW:Below w.heap.size w W)=>NV y n l d W hy hd (Tab.below hT hW) (Tab.below hL hW) (Tab.below hN hW) (nN hI hW))
 have HK:=Lib.hid (fun W (hW:Below w.heap.size w W)=>iY y n l d W hy (Tab.below hT hW) (Tab.below hL hW))
 have HG:=Lib.hid (fun W (hW:Below w.heap.size w W)=>Co hF0 (y,n,l,d) 0 W hy (Tab.below hT hW) (Tab.below hL hW))
 obtain⟨ry,rn,rl,rd,er,hto⟩:=A16.JF y n l d 0 0 0 0 0
 have hte:er=D10.aB y n l d:=by
  rw [hto.e]
  by_cases c:D10.aB y n l d=0
  ·obtain⟨_,b1,b2⟩:=D10.iy y n l d c
   rw [(A16.Cz (m:=0) c (by rfl) rfl).2,if_neg (by unfold A16.out;omega),c]
  ·exact A16.Ws c (by rfl) rfl
 subst hte
 have HE:=Lib.hid (fun W (hW:Below w.heap.size w W)=>NZ y n l d 0 0 0 0 0 W hy (Tab.below hT hW) (Tab.below hL hW) ry rn rl rd _ (Lib.hid hto))
 have hun:U17.DIs y n l d y n l d 0 0 0 0 0 (D10.aB y n l d):=by
  by_cases c:D10.aB y n l d=0
  ·exact .inr (.inr ⟨⟨by omega,by omega⟩,c,c,c,.inl ⟨rfl,rfl,rfl,rfl,by omega⟩⟩)
  ·exact .inr (.inl ⟨⟨by omega,by omega⟩,by rw [if_neg c],c,rfl,rfl,rfl,rfl⟩)
 have HF:=Lib.hid (fun W (hW:Below w.heap.size w W)=>OI y n l d y n l d 0 W hy hy (Tab.below hT hW) (Tab.below hL hW) 0 0 0 0 _ (Lib.hid hun))
 have hse:D27.stE (y,n,l,d) 0=D10.aB y n l d:=by
  unfold D27.stE
  by_cases c:D10.aB y n l d=0
  ·obtain⟨_,b1,b2⟩:=D10.iy y n l d c
   rw [if_pos (show D27.E (y,n,l,d)=0 from c),if_neg (by omega),if_pos (by show(-1373427<=D10.aF y n l d+0/\D10.aF y n l d+0<=2278650);omega),c]
  ·rw [if_neg (show ¬ D27.E (y,n,l,d)=0 from c)];rfl
 rw [hse]at HG
 by_cases c:D10.aB y n l d=0
 ·rw [c]at HA HC HD HE HF HG HK
  by_cases c2:D10.aB z k h f=0
  ·rw [c2]at HB
   have hless:=D10.pR c c2
   have hless2:=D10.pR c2 c
   have HI:=Lib.hid (fun W (hW:Below w.heap.size w W)=>FH y n l d W (Tab.below hT hW) (Tab.below hL hW) c)
   have HL:=Lib.hid (fun W (hW:Below w.heap.size w W)=>pI y n l d z k h f W)
   have HM:=Lib.hid (fun W (hW:Below w.heap.size w W)=>pI z k h f y n l d W)
   rw [hless]at HL
   rw [hless2]at HM
   rcases Int.lt_trichotomy (D10.aF y n l d) (D10.aF z k h f)with g|g|g
   ·have g1:=decide_eq_true g
    have g2:decide (D10.aF z k h f<D10.aF y n l d)=false:=decide_eq_false (by omega)
    rw [g1]at HL
    rw [g2]at HM
    exact FX y n l d z k h f _ _ _ _ _ _ _ _ _ _ _ _ g g1 g2 w HA HB HC HD HE HF HG HK HW HI HL HM
   ·have g1:decide (D10.aF y n l d<D10.aF z k h f)=false:=decide_eq_false (by omega)
    have g2:decide (D10.aF z k h f<D10.aF y n l d)=false:=decide_eq_false (by omega)
    rw [g1]at HL
    rw [g2]at HM
    exact Fy y n l d z k h f _ _ _ _ _ _ _ _ _ _ _ _ g g1 g2 w HA HB HC HD HE HF HG HK HW HI HL HM
   ·have g1:decide (D10.aF y n l d<D10.aF z k h f)=false:=decide_eq_false (by omega)
    have g2:=decide_eq_true g
    rw [g1]at HL
    rw [g2]at HM
    exact FQ y n l d z k h f _ _ _ _ _ _ _ _ _ _ _ _ g g1 g2 w HA HB HC HD HE HF HG HK HW HI HL HM
  ·exact FZ y n l d z k h f _ _ _ _ _ _ _ _ _ _ _ _ _ (bne_iff_ne.2 c2) (beq_eq_false_iff_ne.2 c2) w HA HB HC HD HE HF HG HK HW
 ·exact Fw y n l d z k h f _ _ _ _ _ _ _ _ _ _ _ _ _ _ (bne_iff_ne.2 c) (beq_eq_false_iff_ne.2 c) w HA HB HC HD HE HF HG HK HW
end Go.Proofs.YthnjjcoahdhmnaaGreatDoor
