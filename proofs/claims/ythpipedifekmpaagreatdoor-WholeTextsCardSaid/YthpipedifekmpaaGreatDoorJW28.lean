import Derived.Test.YthpipedifekmpaaGreatDoorJRC
import Derived.Test.YthpipedifekmpaaGreatDoorJTX
import Derived.Test.YthpipedifekmpaaGreatDoorJG1
set_option maxHeartbeats 8000000
set_option maxRecDepth 100000
set_option linter.unusedSimpArgs false
set_option linter.unusedVariables false
namespace Go.Proofs.YthpipedifekmpaaGreatDoor
open Go.ChangeShapes Go.WideShapes Go.ChangeAt Go.RowKit Go.Lib Go.Sort Go.Shelf
theorem heb_28(w:World)(hT:Tab w 5 kevCells)(hL:Tab w 4 lenCells):
  Calls Tryo.prog 10 #[.int .i64 738999] w fun e w'=>e= .returned (.tuple #[.agg #[.int .i64 (5784),.int .i64 (7),.bool (false),.int .i64 (15)],.int .i64 0])/\Below w.heap.size w w':=by
 have h:=heb_FromDay_at 5784 8 15 w hT hL ⟨by omega,by omega,by omega,by decide+kernel,by omega,by decide+kernel⟩
 rwa [show D10.dayOf 5784 8 15=738999 by decide+kernel,show Cal.ofN (Cal.leap 5784) 8=7 by decide+kernel,show Cal.ofL (Cal.leap 5784) 8=false by decide+kernel]at h
theorem text_28(w:World)(hT:Tab w 5 kevCells)(hL:Tab w 4 lenCells)(hP:Tab w 0 powCells):
  Calls Tryo.prog 5 #[.agg #[.int .i64 (5784),.int .i64 (7),.bool (false),.int .i64 (15)]] w fun e w'=>e= .returned (.tuple #[.string ⟨#[53,55,56,52,45,77,48,55,45,49,53]⟩,.int .i64 0])/\Below w.heap.size w w':=by
 have h:=text_Heb 5784 7 false 15 w ⟨by omega,by omega⟩ hT hL hP
 rwa [show D10.dateE 5784 7 false 15=0 by decide+kernel,show hebV 5784 7 false 15=⟨#[53,55,56,52,45,77,48,55,45,49,53]⟩ by decide+kernel]at h
theorem greg_28(w:World)(hG:Tab w 2 Gr.gregCells):
  Calls Tryo.prog 11 #[.int .i64 738999] w fun e w'=>e= .returned (.tuple #[.agg #[.int .i64 (2024),.int .i64 (4),.int .i64 (23)],.int .i64 0])/\Below w.heap.size w w':=by
 have h:=greg_FromDay_at 738999 w hG (by omega) (by omega)
 rwa [show Gr.gY 738999=2024 by decide+kernel,show(Gr.gF 738999).1=4 by decide+kernel,show(Gr.gF 738999).2.1=23 by decide+kernel]at h
theorem len_28:(Rd.cyc0 12 false).length<=100:=of_decide_eq_true (show decide ((Rd.cyc0 12 false).length<=100)=true by decide+kernel)
theorem torah_28(w:World)(hT:Tab w 5 kevCells)(hL:Tab w 4 lenCells)(hF:Tab w 6 Fe.cells):
  Calls Tryo.prog 12 #[.int .i64 738989,.int .i64 0] w fun e w'=>e= .returned (.tuple #[.agg #[.int .i64 (27),.int .i64 (1),.int .i64 (738989)],.int .i64 0])/\Below w.heap.size w w':=by
 obtain⟨i2,h2⟩:=Yr.is_some (5784+1) (by omega) (by omega)
 have h:=Yr.is_5784
 have e2:Sb.rj 5784 false<738989:=of_decide_eq_true (show decide (Sb.rj 5784 false<738989)=true by decide+kernel)
 have e4:(738989:Int)<=Sb.rj (5784+1) false:=of_decide_eq_true (show decide ((738989:Int)<=Sb.rj (5784+1) false)=true by decide+kernel)
 have hX:((Rd.cyc0 12 false).map (Rd.sh (Cal.first 5784-kevB 12))).find? (Rd.onDay 738989)=some (27,1,738989):=of_decide_eq_true (show decide (((Rd.cyc0 12 false).map (Rd.sh (Cal.first 5784-kevB 12))).find? (Rd.onDay 738989)=some (27,1,738989))=true by decide+kernel)
 exact rd_Of 5784 12 i2 false 738989 27 1 w h h2 e2 e4 (by decide) hX len_28 hT hL hF
theorem awake28(w:World)(hT:Tab w 5 kevCells)(hL:Tab w 4 lenCells)(hG:Tab w 2 Gr.gregCells)(hF:Tab w 6 Fe.cells)(hP:Tab w 0 powCells):
  Calls Tryo.prog 4 #[] w fun e w'=>e= .returned (.bool true)/\Below w.heap.size w w':=by
 go_enter Tryo.func4,Tryz.ntmps4
 go_wp2_with fail
 refine(heb_28 _ (Tab.below hT bel) (Tab.below hL bel)).mono ?_
 rintro e w1 ⟨rfl,hb1⟩
 have hB1:Below w.heap.size w w1:=bel
 have hZ1:=hB1.size
 obtain⟨hc1,hf1⟩:=bcell hb1
 have hz1:=hb1.size
 try simp at hz1
 go_wp2_with fail
 refine(text_28 _ (Tab.below hT bel) (Tab.below hL bel) (Tab.below hP bel)).mono ?_
 rintro e w2 ⟨rfl,hb2⟩
 have hB2:Below w.heap.size w w2:=bel
 have hZ2:=hB2.size
 obtain⟨hc2,hf2⟩:=bcell hb2
 have hz2:=hb2.size
 try simp at hz2
 have hl2w1:w1.heap.size<w2.heap.size:=by omega
 have hm2w1:w1.heap.size<=w2.heap.size:=by omega
 have g2x0:w2.cell? ⟨w1.heap.size,0,none⟩=some (.int .i64 (5784)):=cel hc2
 have g2x1:w2.cell? ⟨w1.heap.size,1,none⟩=some (.int .i64 (7)):=cel hc2
 have g2x2:w2.cell? ⟨w1.heap.size,2,none⟩=some (.bool (false)):=cel hc2
 have g2x3:w2.cell? ⟨w1.heap.size,3,none⟩=some (.int .i64 (15)):=cel hc2
 go_wp2_with fail
 refine(greg_28 _ (Tab.below hG bel)).mono ?_
 rintro e w3 ⟨rfl,hb3⟩
 have hB3:Below w.heap.size w w3:=bel
 have hZ3:=hB3.size
 obtain⟨hc3,hf3⟩:=bcell hb3
 have hz3:=hb3.size
 try simp at hz3
 have hl3w1:w1.heap.size<w3.heap.size:=by omega
 have hm3w1:w1.heap.size<=w3.heap.size:=by omega
 go_wp2_with fail
 refine(torah_28 _ (Tab.below hT bel) (Tab.below hL bel) (Tab.below hF bel)).mono ?_
 rintro e w4 ⟨rfl,hb4⟩
 have hB4:Below w.heap.size w w4:=bel
 have hZ4:=hB4.size
 obtain⟨hc4,hf4⟩:=bcell hb4
 have hz4:=hb4.size
 try simp at hz4
 have hl4w3:w3.heap.size<w4.heap.size:=by omega
 have hm4w3:w3.heap.size<=w4.heap.size:=by omega
 have g4x0:w4.cell? ⟨w3.heap.size,0,none⟩=some (.int .i64 (2024)):=cel hc4
 have g4x1:w4.cell? ⟨w3.heap.size,1,none⟩=some (.int .i64 (4)):=cel hc4
 have g4x2:w4.cell? ⟨w3.heap.size,2,none⟩=some (.int .i64 (23)):=cel hc4
 go_wp2_with fail
 go_ret
 refine⟨by first|rfl|(simp [*];done), ?_⟩
 exact bel
end Go.Proofs.YthpipedifekmpaaGreatDoor
