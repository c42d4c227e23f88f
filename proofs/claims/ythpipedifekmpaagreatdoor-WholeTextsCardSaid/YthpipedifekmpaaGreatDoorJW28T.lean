import Derived.Test.YthpipedifekmpaaGreatDoorJW28
import Derived.Test.YthpipedifekmpaaGreatDoorJW28t
import Derived.Test.YthpipedifekmpaaGreatDoorJTY
import Derived.Test.YthpipedifekmpaaGreatDoorJNA
import Derived.Test.YthpipedifekmpaaGreatDoorJNA
set_option maxHeartbeats 8000000
set_option maxRecDepth 100000
set_option linter.unusedSimpArgs false
set_option linter.unusedVariables false
namespace Go.Proofs.YthpipedifekmpaaGreatDoor
open Go.ChangeShapes Go.WideShapes Go.ChangeAt Go.RowKit Go.Lib Go.Sort Go.Shelf
theorem WholeTexts_walk(y n:Int)(l:Bool)(d:Int)(s:ByteArray)(hy:I64 y)(hn:I64 n)(hd:I64 d)(hsz:s.size<=maxLen)(m:Int)(w:World)(hm:MaxAt w m)(hT:Tab w 5 kevCells)(hL:Tab w 4 lenCells)(hI:Lib.TabIs Tryo.prog w "internal/strconv.uint64pow10" .u64 Lib.pow10Tab)(hG:Tab w 2 Gr.gregCells)(hF:Tab w 6 Fe.cells)(hN:Tab w 1 nameCells)(hP:Tab w 0 powCells):
  Calls Tryo.prog 3 #[.agg #[.int .i64 (y),.int .i64 (n),.bool (l),.int .i64 (d)],.string s] w fun e w'=>e= .returned (.bool true)/\Below w.heap.size w w':=by
 have HW:=(Lib.hid fun W hW=>awake28 W (Tab.below hT hW) (Tab.below hL hW) (Tab.below hG hW) (Tab.below hF hW) (Tab.below hP hW))
 by_cases h100:(100:Int)<(s.size:Int)
 ·exact WholeTexts_long y n l d s h100 w HW
 have hle:(s.size:Int)<=100:=by omega
 have hs:s.size<=1000000:=by omega
 obtain⟨cn,cl,ok,hI2⟩:=isCode_some (cutB (cutA (great s)))
 have HA:=Lib.hid (fun W (hW:Below w.heap.size w W)=>text_Heb y n l d W hy (Tab.below hT hW) (Tab.below hL hW) (Tab.below hP hW))
 have HB:=Lib.hid (fun W (hW:Below w.heap.size w W)=>name_Print y n l d W hy hd (Tab.below hT hW) (Tab.below hL hW) (Tab.below hN hW) (pow_stays hI hW))
 have HE:=Lib.hid (fun W (hW:Below w.heap.size w W)=>text_ReadHeb s cn cl ok m hs W (Tab.below hT hW) (Tab.below hL hW) (MaxAt.below hm hW) hI2)
 -- what the text tells
 have hcase:(rhE s cn cl ok=5/\rhY s cn cl ok=0/\rhN s cn cl ok=0/\rhL s cn cl ok=false/\rhD s cn cl ok=0)∨(rhE s cn cl ok=2/\rhY s cn cl ok=0/\rhN s cn cl ok=0/\rhL s cn cl ok=false/\rhD s cn cl ok=0)∨rhE s cn cl ok=0:=by
  have bad:∀E:Int,rhE s cn cl ok=E->¬ E=0->rhE s cn cl ok=E/\rhY s cn cl ok=0/\rhN s cn cl ok=0/\rhL s cn cl ok=false/\rhD s cn cl ok=0:=by
   intro E e h
   have h':¬ rhE s cn cl ok=0:=by rw [e];exact h
   refine⟨e, ?_⟩
   unfold rhY rhN rhL rhD
   rw [if_neg h',if_neg h',if_neg h',if_neg h']
   exact⟨rfl,rfl,rfl,rfl⟩
  rcases D13.rhE_cases s cn cl ok with h|h|h
  ·exact .inr (.inr h)
  ·exact .inl (bad 5 h (by omega))
  ·exact .inr (.inl (bad 2 h (by omega)))
 have at0:rhE s cn cl ok=0->D10.dateE (rhY s cn cl ok) (rhN s cn cl ok) (rhL s cn cl ok) (rhD s cn cl ok)=0/\(hebV (rhY s cn cl ok) (rhN s cn cl ok) (rhL s cn cl ok) (rhD s cn cl ok)).size=s.size/\I64 (rhY s cn cl ok)/\(∀W:World,Below w.heap.size w W->Calls Tryo.prog 7 #[.string (hebV (rhY s cn cl ok) (rhN s cn cl ok) (rhL s cn cl ok) (rhD s cn cl ok))] W fun e w'=>e= .returned (.tuple #[.agg #[.int .i64 (rhY s cn cl ok),.int .i64 (rhN s cn cl ok),.bool (rhL s cn cl ok),.int .i64 (rhD s cn cl ok)],.int .i64 0])/\Below W.heap.size W w'):=by
  intro h
  obtain⟨b1,b2⟩:=D13.heb_back hI2 h
  have hr:=(D13.heb_date b1).1
  have ht:hebV (rhY s cn cl ok) (rhN s cn cl ok) (rhL s cn cl ok) (rhD s cn cl ok)=great s:=(if_pos b1).trans b2
  obtain⟨c1,c2,c3,c4⟩:=D13.heb_ends hr b2 ht
  obtain⟨a0,a1,a2,a3,a4,a5⟩:=D13.read_heb b1
  refine⟨b1,by omega,D13.rhY_bd s cn cl ok,fun W hW=> ?_⟩
  have:=text_ReadHeb (hebTxt (rhY s cn cl ok) (rhN s cn cl ok) (rhL s cn cl ok) (rhD s cn cl ok)) (rhN s cn cl ok) (rhL s cn cl ok) true m (Nat.le_trans (D13.heb_size hr) (by omega)) W (Tab.below hT hW) (Tab.below hL hW) (MaxAt.below hm hW) a0
  rw [a1,a2,a3,a4,a5]at this
  rw [show hebV (rhY s cn cl ok) (rhN s cn cl ok) (rhL s cn cl ok) (rhD s cn cl ok)=hebTxt (rhY s cn cl ok) (rhN s cn cl ok) (rhL s cn cl ok) (rhD s cn cl ok)from if_pos b1]
  exact this
 generalize rhY s cn cl ok=xy at*
 generalize rhN s cn cl ok=xn at*
 generalize rhL s cn cl ok=xl at*
 generalize rhD s cn cl ok=xd at*
 generalize rhE s cn cl ok=xe at*
 by_cases h0:D10.dateE y n l d=0
 ·rw [h0]at HA
  rw [h0,if_pos rfl]at HB
  obtain⟨⟨y1,y2,m1,m2,d1,d2⟩,hp⟩:=D10.date_valid h0
  have HC:Hid (∀W:World,Below w.heap.size w W->Calls Tryo.prog 7 #[.string (hebV y n l d)] W fun e w'=>e= .returned (.tuple #[.agg #[.int .i64 (y),.int .i64 (n),.bool (l),.int .i64 (d)],.int .i64 0])/\Below W.heap.size W w'):=by
   obtain⟨a0,a1,a2,a3,a4,a5⟩:=D13.read_heb h0
   have hr:=(D13.heb_date h0).1
   refine Lib.hid fun W hW=> ?_
   have:=text_ReadHeb (hebTxt y n l d) n l true m (Nat.le_trans (D13.heb_size hr) (by omega)) W (Tab.below hT hW) (Tab.below hL hW) (MaxAt.below hm hW) a0
   rw [a1,a2,a3,a4,a5]at this
   rw [show hebV y n l d=hebTxt y n l d from if_pos h0]
   exact this
  have hwz:(wordsV y n l d).size<=100000:=by
   have g1:=(D14.words_parts h0).1.1
   obtain⟨_,q1,q2,q3,_⟩:=D14.words_parts h0
   have g2:=(D14.row_in q3).1
   have e1:(wordsV y n l d).data.toList.length=(wordsV y n l d).size:=by simp
   have e2:(D14.num d).data.toList.length=(D14.num d).size:=by simp
   have e3:(D14.num y).data.toList.length=(D14.num y).size:=by simp
   have e4:(nameV y n l).data.toList.length=(nameV y n l).size:=by simp
   unfold nOk at q1 q2
   simp only [Bool.and_eq_true,decide_eq_true_eq]at q1 q2
   rw [←e1,g1]
   simp only [List.length_append,List.length_cons,e2,e3,e4]
   omega
  obtain⟨a1,a2,a3,a4,ae,hRw,hcw⟩:=name_Read (wordsV y n l d) hwz m
  obtain⟨rfl,rfl,rfl,rfl,rfl⟩:=D14.read_words h0 hRw
  have HD:=Lib.hid (fun W (hW:Below w.heap.size w W)=>hcw W (Tab.below hT hW) (Tab.below hL hW) (Tab.below hN hW) (MaxAt.below hm hW))
  rcases hcase with ⟨rfl,rfl,rfl,rfl,rfl⟩|⟨rfl,rfl,rfl,rfl,rfl⟩|rfl
  ·exact WholeTexts_ok_syn _ _ _ _ s _ _ hle w HA HB HC HD HE HW
  ·exact WholeTexts_ok_rng _ _ _ _ s _ _ hle w HA HB HC HD HE HW
  ·obtain⟨p1,p2,p3,p4⟩:=at0 rfl
   have HF:=Lib.hid (fun W (hW:Below w.heap.size w W)=>text_Heb xy xn xl xd W p3 (Tab.below hT hW) (Tab.below hL hW) (Tab.below hP hW))
   have HH:=Lib.hid (fun W (hW:Below w.heap.size w W)=>heb_Check xy xn xl xd W p3 (Tab.below hT hW) (Tab.below hL hW))
   rw [p1]at HF HH
   exact WholeTexts_ok_at _ _ _ _ s _ _ _ _ _ _ _ p2 hle w HA HB HC HD HE HF (Lib.hid p4) HH HW
 ·rw [if_neg h0]at HB
  have n1:=bne_iff_ne.2 h0
  have n2:=beq_eq_false_iff_ne.2 h0
  rcases hcase with ⟨rfl,rfl,rfl,rfl,rfl⟩|⟨rfl,rfl,rfl,rfl,rfl⟩|rfl
  ·exact WholeTexts_no_syn _ _ _ _ s _ _ _ n1 n2 hle w HA HB HE HW
  ·exact WholeTexts_no_rng _ _ _ _ s _ _ _ n1 n2 hle w HA HB HE HW
  ·obtain⟨p1,p2,p3,p4⟩:=at0 rfl
   have HF:=Lib.hid (fun W (hW:Below w.heap.size w W)=>text_Heb xy xn xl xd W p3 (Tab.below hT hW) (Tab.below hL hW) (Tab.below hP hW))
   have HH:=Lib.hid (fun W (hW:Below w.heap.size w W)=>heb_Check xy xn xl xd W p3 (Tab.below hT hW) (Tab.below hL hW))
   rw [p1]at HF HH
   exact WholeTexts_no_at _ _ _ _ s _ _ _ n1 n2 _ _ _ _ _ p2 hle w HA HB HE HF (Lib.hid p4) HH HW
end Go.Proofs.YthpipedifekmpaaGreatDoor
