import Derived.Test.YthpipedifekmpaaGreatDoorJHR
set_option maxHeartbeats 8000000
set_option maxRecDepth 100000
set_option linter.unusedSimpArgs false
set_option linter.unusedVariables false
namespace Go.Proofs.YthpipedifekmpaaGreatDoor
open Go.ChangeShapes Go.WideShapes Go.ChangeAt Go.RowKit Go.Lib
theorem WholeTexts_long(y n:Int)(l:Bool)(d:Int)(s:ByteArray)(h100:(100:Int)<(s.size:Int))(w:World)
  (HW:Hid (∀W:World,Below w.heap.size w W->Calls Tryo.prog 4 #[] W fun e w'=>e= .returned (.bool true)/\Below W.heap.size W w')):
  Calls Tryo.prog 3 #[.agg #[.int .i64 (y),.int .i64 (n),.bool (l),.int .i64 (d)],.string s] w fun e w'=>e= .returned (.bool true)/\Below w.heap.size w w':=by
 go_enter Tryo.func3,Tryz.ntmps3
 go_wp2_with fail
 refine(HW.out _ bel).mono ?_
 rintro e w1 ⟨rfl,hb1⟩
 have hB1:Below w.heap.size w w1:=bel
 have hZ1:=hB1.size
 obtain⟨hc1,hf1⟩:=bcell hb1
 have hz1:=hb1.size
 try simp at hz1
 have hl1w:w.heap.size<w1.heap.size:=by omega
 have hm1w:w.heap.size<=w1.heap.size:=by omega
 go_wp2_with fail
 go_ret
 refine⟨by first|rfl|(simp [*];done), ?_⟩
 exact bel
theorem WholeTexts_ok_syn(y n:Int)(l:Bool)(d:Int)(s:ByteArray)(tx nx:ByteArray)(h100:(s.size:Int)<=100)(w:World)
  (HA:Hid (∀W:World,Below w.heap.size w W->Calls Tryo.prog 5 #[.agg #[.int .i64 (y),.int .i64 (n),.bool (l),.int .i64 (d)]] W fun e w'=>e= .returned (.tuple #[.string tx,.int .i64 0])/\Below W.heap.size W w'))
  (HB:Hid (∀W:World,Below w.heap.size w W->Calls Tryo.prog 6 #[.agg #[.int .i64 (y),.int .i64 (n),.bool (l),.int .i64 (d)]] W fun e w'=>e= .returned (.tuple #[.string nx,.int .i64 0])/\Below W.heap.size W w'))
  (HC:Hid (∀W:World,Below w.heap.size w W->Calls Tryo.prog 7 #[.string tx] W fun e w'=>e= .returned (.tuple #[.agg #[.int .i64 (y),.int .i64 (n),.bool (l),.int .i64 (d)],.int .i64 0])/\Below W.heap.size W w'))
  (HD:Hid (∀W:World,Below w.heap.size w W->Calls Tryo.prog 8 #[.string nx] W fun e w'=>e= .returned (.tuple #[.agg #[.int .i64 (y),.int .i64 (n),.bool (l),.int .i64 (d)],.int .i64 0])/\Below W.heap.size W w'))
  (HE:Hid (∀W:World,Below w.heap.size w W->Calls Tryo.prog 7 #[.string s] W fun e w'=>e= .returned (.tuple #[.agg #[.int .i64 (0),.int .i64 (0),.bool (false),.int .i64 (0)],.int .i64 5])/\Below W.heap.size W w'))
  (HW:Hid (∀W:World,Below w.heap.size w W->Calls Tryo.prog 4 #[] W fun e w'=>e= .returned (.bool true)/\Below W.heap.size W w')):
  Calls Tryo.prog 3 #[.agg #[.int .i64 (y),.int .i64 (n),.bool (l),.int .i64 (d)],.string s] w fun e w'=>e= .returned (.bool true)/\Below w.heap.size w w':=by
 have hsz:(s.size:Int)<=100:=h100
 go_enter Tryo.func3,Tryz.ntmps3
 go_wp2_with fail
 refine(HA.out _ bel).mono ?_
 rintro e w1 ⟨rfl,hb1⟩
 have hB1:Below w.heap.size w w1:=bel
 have hZ1:=hB1.size
 obtain⟨hc1,hf1⟩:=bcell hb1
 have hz1:=hb1.size
 try simp at hz1
 have hl1w:w.heap.size<w1.heap.size:=by omega
 have hm1w:w.heap.size<=w1.heap.size:=by omega
 have g1x0:w1.cell? ⟨w.heap.size,0,none⟩=some (.int .i64 (y)):=cel hc1
 have g1x1:w1.cell? ⟨w.heap.size,1,none⟩=some (.int .i64 (n)):=cel hc1
 have g1x2:w1.cell? ⟨w.heap.size,2,none⟩=some (.bool (l)):=cel hc1
 have g1x3:w1.cell? ⟨w.heap.size,3,none⟩=some (.int .i64 (d)):=cel hc1
 go_wp2_with fail
 refine(HB.out _ bel).mono ?_
 rintro e w2 ⟨rfl,hb2⟩
 have hB2:Below w.heap.size w w2:=bel
 have hZ2:=hB2.size
 obtain⟨hc2,hf2⟩:=bcell hb2
 have hz2:=hb2.size
 try simp at hz2
 have hl2w:w.heap.size<w2.heap.size:=by omega
 have hm2w:w.heap.size<=w2.heap.size:=by omega
 have g2x0:w2.cell? ⟨w.heap.size,0,none⟩=some (.int .i64 (y)):=cel hc2
 have g2x1:w2.cell? ⟨w.heap.size,1,none⟩=some (.int .i64 (n)):=cel hc2
 have g2x2:w2.cell? ⟨w.heap.size,2,none⟩=some (.bool (l)):=cel hc2
 have g2x3:w2.cell? ⟨w.heap.size,3,none⟩=some (.int .i64 (d)):=cel hc2
 go_wp2_with fail
 refine(HC.out _ bel).mono ?_
 rintro e w3 ⟨rfl,hb3⟩
 have hB3:Below w.heap.size w w3:=bel
 have hZ3:=hB3.size
 obtain⟨hc3,hf3⟩:=bcell hb3
 have hz3:=hb3.size
 try simp at hz3
 have hl3w:w.heap.size<w3.heap.size:=by omega
 have hm3w:w.heap.size<=w3.heap.size:=by omega
 have g3x0:w3.cell? ⟨w.heap.size,0,none⟩=some (.int .i64 (y)):=cel hc3
 have g3x1:w3.cell? ⟨w.heap.size,1,none⟩=some (.int .i64 (n)):=cel hc3
 have g3x2:w3.cell? ⟨w.heap.size,2,none⟩=some (.bool (l)):=cel hc3
 have g3x3:w3.cell? ⟨w.heap.size,3,none⟩=some (.int .i64 (d)):=cel hc3
 go_wp2_with fail
 refine(HD.out _ bel).mono ?_
 rintro e w4 ⟨rfl,hb4⟩
 have hB4:Below w.heap.size w w4:=bel
 have hZ4:=hB4.size
 obtain⟨hc4,hf4⟩:=bcell hb4
 have hz4:=hb4.size
 try simp at hz4
 have hl4w:w.heap.size<w4.heap.size:=by omega
 have hm4w:w.heap.size<=w4.heap.size:=by omega
 have hl4w3:w3.heap.size<w4.heap.size:=by omega
 have hm4w3:w3.heap.size<=w4.heap.size:=by omega
 have g4x0:w4.cell? ⟨w.heap.size,0,none⟩=some (.int .i64 (y)):=cel hc4
 have g4x1:w4.cell? ⟨w.heap.size,1,none⟩=some (.int .i64 (n)):=cel hc4
 have g4x2:w4.cell? ⟨w.heap.size,2,none⟩=some (.bool (l)):=cel hc4
 have g4x3:w4.cell? ⟨w.heap.size,3,none⟩=some (.int .i64 (d)):=cel hc4
 have g4x4:w4.cell? ⟨w3.heap.size,0,none⟩=some (.int .i64 (y)):=cel hc4
 have g4x5:w4.cell? ⟨w3.heap.size,1,none⟩=some (.int .i64 (n)):=cel hc4
 have g4x6:w4.cell? ⟨w3.heap.size,2,none⟩=some (.bool (l)):=cel hc4
 have g4x7:w4.cell? ⟨w3.heap.size,3,none⟩=some (.int .i64 (d)):=cel hc4
 go_wp2_with fail
 refine(HE.out _ bel).mono ?_
 rintro e w5 ⟨rfl,hb5⟩
 have hB5:Below w.heap.size w w5:=bel
 have hZ5:=hB5.size
 obtain⟨hc5,hf5⟩:=bcell hb5
 have hz5:=hb5.size
 try simp at hz5
 have hl5w:w.heap.size<w5.heap.size:=by omega
 have hm5w:w.heap.size<=w5.heap.size:=by omega
 go_wp2_with fail
 refine(HW.out _ bel).mono ?_
 rintro e w6 ⟨rfl,hb6⟩
 have hB6:Below w.heap.size w w6:=bel
 have hZ6:=hB6.size
 obtain⟨hc6,hf6⟩:=bcell hb6
 have hz6:=hb6.size
 try simp at hz6
 have hl6w:w.heap.size<w6.heap.size:=by omega
 have hm6w:w.heap.size<=w6.heap.size:=by omega
 have hl6w5:w5.heap.size<w6.heap.size:=by omega
 have hm6w5:w5.heap.size<=w6.heap.size:=by omega
 have g6x0:w6.cell? ⟨w5.heap.size,0,none⟩=some (.int .i64 (0)):=cel hc6
 have g6x1:w6.cell? ⟨w5.heap.size,1,none⟩=some (.int .i64 (0)):=cel hc6
 have g6x2:w6.cell? ⟨w5.heap.size,2,none⟩=some (.bool (false)):=cel hc6
 have g6x3:w6.cell? ⟨w5.heap.size,3,none⟩=some (.int .i64 (0)):=cel hc6
 go_wp2_with fail
 go_ret
 refine⟨by first|rfl|(simp [*];done), ?_⟩
 exact bel
theorem WholeTexts_ok_rng(y n:Int)(l:Bool)(d:Int)(s:ByteArray)(tx nx:ByteArray)(h100:(s.size:Int)<=100)(w:World)
  (HA:Hid (∀W:World,Below w.heap.size w W->Calls Tryo.prog 5 #[.agg #[.int .i64 (y),.int .i64 (n),.bool (l),.int .i64 (d)]] W fun e w'=>e= .returned (.tuple #[.string tx,.int .i64 0])/\Below W.heap.size W w'))
  (HB:Hid (∀W:World,Below w.heap.size w W->Calls Tryo.prog 6 #[.agg #[.int .i64 (y),.int .i64 (n),.bool (l),.int .i64 (d)]] W fun e w'=>e= .returned (.tuple #[.string nx,.int .i64 0])/\Below W.heap.size W w'))
  (HC:Hid (∀W:World,Below w.heap.size w W->Calls Tryo.prog 7 #[.string tx] W fun e w'=>e= .returned (.tuple #[.agg #[.int .i64 (y),.int .i64 (n),.bool (l),.int .i64 (d)],.int .i64 0])/\Below W.heap.size W w'))
  (HD:Hid (∀W:World,Below w.heap.size w W->Calls Tryo.prog 8 #[.string nx] W fun e w'=>e= .returned (.tuple #[.agg #[.int .i64 (y),.int .i64 (n),.bool (l),.int .i64 (d)],.int .i64 0])/\Below W.heap.size W w'))
  (HE:Hid (∀W:World,Below w.heap.size w W->Calls Tryo.prog 7 #[.string s] W fun e w'=>e= .returned (.tuple #[.agg #[.int .i64 (0),.int .i64 (0),.bool (false),.int .i64 (0)],.int .i64 2])/\Below W.heap.size W w'))
  (HW:Hid (∀W:World,Below w.heap.size w W->Calls Tryo.prog 4 #[] W fun e w'=>e= .returned (.bool true)/\Below W.heap.size W w')):
  Calls Tryo.prog 3 #[.agg #[.int .i64 (y),.int .i64 (n),.bool (l),.int .i64 (d)],.string s] w fun e w'=>e= .returned (.bool true)/\Below w.heap.size w w':=by
 have hsz:(s.size:Int)<=100:=h100
 go_enter Tryo.func3,Tryz.ntmps3
 go_wp2_with fail
 refine(HA.out _ bel).mono ?_
 rintro e w1 ⟨rfl,hb1⟩
 have hB1:Below w.heap.size w w1:=bel
 have hZ1:=hB1.size
 obtain⟨hc1,hf1⟩:=bcell hb1
 have hz1:=hb1.size
 try simp at hz1
 have hl1w:w.heap.size<w1.heap.size:=by omega
 have hm1w:w.heap.size<=w1.heap.size:=by omega
 have g1x0:w1.cell? ⟨w.heap.size,0,none⟩=some (.int .i64 (y)):=cel hc1
 have g1x1:w1.cell? ⟨w.heap.size,1,none⟩=some (.int .i64 (n)):=cel hc1
 have g1x2:w1.cell? ⟨w.heap.size,2,none⟩=some (.bool (l)):=cel hc1
 have g1x3:w1.cell? ⟨w.heap.size,3,none⟩=some (.int .i64 (d)):=cel hc1
 go_wp2_with fail
 refine(HB.out _ bel).mono ?_
 rintro e w2 ⟨rfl,hb2⟩
 have hB2:Below w.heap.size w w2:=bel
 have hZ2:=hB2.size
 obtain⟨hc2,hf2⟩:=bcell hb2
 have hz2:=hb2.size
 try simp at hz2
 have hl2w:w.heap.size<w2.heap.size:=by omega
 have hm2w:w.heap.size<=w2.heap.size:=by omega
 have g2x0:w2.cell? ⟨w.heap.size,0,none⟩=some (.int .i64 (y)):=cel hc2
 have g2x1:w2.cell? ⟨w.heap.size,1,none⟩=some (.int .i64 (n)):=cel hc2
 have g2x2:w2.cell? ⟨w.heap.size,2,none⟩=some (.bool (l)):=cel hc2
 have g2x3:w2.cell? ⟨w.heap.size,3,none⟩=some (.int .i64 (d)):=cel hc2
 go_wp2_with fail
 refine(HC.out _ bel).mono ?_
 rintro e w3 ⟨rfl,hb3⟩
 have hB3:Below w.heap.size w w3:=bel
 have hZ3:=hB3.size
 obtain⟨hc3,hf3⟩:=bcell hb3
 have hz3:=hb3.size
 try simp at hz3
 have hl3w:w.heap.size<w3.heap.size:=by omega
 have hm3w:w.heap.size<=w3.heap.size:=by omega
 have g3x0:w3.cell? ⟨w.heap.size,0,none⟩=some (.int .i64 (y)):=cel hc3
 have g3x1:w3.cell? ⟨w.heap.size,1,none⟩=some (.int .i64 (n)):=cel hc3
 have g3x2:w3.cell? ⟨w.heap.size,2,none⟩=some (.bool (l)):=cel hc3
 have g3x3:w3.cell? ⟨w.heap.size,3,none⟩=some (.int .i64 (d)):=cel hc3
 go_wp2_with fail
 refine(HD.out _ bel).mono ?_
 rintro e w4 ⟨rfl,hb4⟩
 have hB4:Below w.heap.size w w4:=bel
 have hZ4:=hB4.size
 obtain⟨hc4,hf4⟩:=bcell hb4
 have hz4:=hb4.size
 try simp at hz4
 have hl4w:w.heap.size<w4.heap.size:=by omega
 have hm4w:w.heap.size<=w4.heap.size:=by omega
 have hl4w3:w3.heap.size<w4.heap.size:=by omega
 have hm4w3:w3.heap.size<=w4.heap.size:=by omega
 have g4x0:w4.cell? ⟨w.heap.size,0,none⟩=some (.int .i64 (y)):=cel hc4
 have g4x1:w4.cell? ⟨w.heap.size,1,none⟩=some (.int .i64 (n)):=cel hc4
 have g4x2:w4.cell? ⟨w.heap.size,2,none⟩=some (.bool (l)):=cel hc4
 have g4x3:w4.cell? ⟨w.heap.size,3,none⟩=some (.int .i64 (d)):=cel hc4
 have g4x4:w4.cell? ⟨w3.heap.size,0,none⟩=some (.int .i64 (y)):=cel hc4
 have g4x5:w4.cell? ⟨w3.heap.size,1,none⟩=some (.int .i64 (n)):=cel hc4
 have g4x6:w4.cell? ⟨w3.heap.size,2,none⟩=some (.bool (l)):=cel hc4
 have g4x7:w4.cell? ⟨w3.heap.size,3,none⟩=some (.int .i64 (d)):=cel hc4
 go_wp2_with fail
 refine(HE.out _ bel).mono ?_
 rintro e w5 ⟨rfl,hb5⟩
 have hB5:Below w.heap.size w w5:=bel
 have hZ5:=hB5.size
 obtain⟨hc5,hf5⟩:=bcell hb5
 have hz5:=hb5.size
 try simp at hz5
 have hl5w:w.heap.size<w5.heap.size:=by omega
 have hm5w:w.heap.size<=w5.heap.size:=by omega
 go_wp2_with fail
 refine(HW.out _ bel).mono ?_
 rintro e w6 ⟨rfl,hb6⟩
 have hB6:Below w.heap.size w w6:=bel
 have hZ6:=hB6.size
 obtain⟨hc6,hf6⟩:=bcell hb6
 have hz6:=hb6.size
 try simp at hz6
 have hl6w:w.heap.size<w6.heap.size:=by omega
 have hm6w:w.heap.size<=w6.heap.size:=by omega
 have hl6w5:w5.heap.size<w6.heap.size:=by omega
 have hm6w5:w5.heap.size<=w6.heap.size:=by omega
 have g6x0:w6.cell? ⟨w5.heap.size,0,none⟩=some (.int .i64 (0)):=cel hc6
 have g6x1:w6.cell? ⟨w5.heap.size,1,none⟩=some (.int .i64 (0)):=cel hc6
 have g6x2:w6.cell? ⟨w5.heap.size,2,none⟩=some (.bool (false)):=cel hc6
 have g6x3:w6.cell? ⟨w5.heap.size,3,none⟩=some (.int .i64 (0)):=cel hc6
 go_wp2_with fail
 go_ret
 refine⟨by first|rfl|(simp [*];done), ?_⟩
 exact bel
theorem WholeTexts_ok_at(y n:Int)(l:Bool)(d:Int)(s:ByteArray)(tx nx:ByteArray)(xy xn:Int)(xl:Bool)(xd:Int)(tt:ByteArray)(hlen:tt.size=s.size)(h100:(s.size:Int)<=100)(w:World)
  (HA:Hid (∀W:World,Below w.heap.size w W->Calls Tryo.prog 5 #[.agg #[.int .i64 (y),.int .i64 (n),.bool (l),.int .i64 (d)]] W fun e w'=>e= .returned (.tuple #[.string tx,.int .i64 0])/\Below W.heap.size W w'))
  (HB:Hid (∀W:World,Below w.heap.size w W->Calls Tryo.prog 6 #[.agg #[.int .i64 (y),.int .i64 (n),.bool (l),.int .i64 (d)]] W fun e w'=>e= .returned (.tuple #[.string nx,.int .i64 0])/\Below W.heap.size W w'))
  (HC:Hid (∀W:World,Below w.heap.size w W->Calls Tryo.prog 7 #[.string tx] W fun e w'=>e= .returned (.tuple #[.agg #[.int .i64 (y),.int .i64 (n),.bool (l),.int .i64 (d)],.int .i64 0])/\Below W.heap.size W w'))
  (HD:Hid (∀W:World,Below w.heap.size w W->Calls Tryo.prog 8 #[.string nx] W fun e w'=>e= .returned (.tuple #[.agg #[.int .i64 (y),.int .i64 (n),.bool (l),.int .i64 (d)],.int .i64 0])/\Below W.heap.size W w'))
  (HE:Hid (∀W:World,Below w.heap.size w W->Calls Tryo.prog 7 #[.string s] W fun e w'=>e= .returned (.tuple #[.agg #[.int .i64 (xy),.int .i64 (xn),.bool (xl),.int .i64 (xd)],.int .i64 0])/\Below W.heap.size W w'))
  (HF:Hid (∀W:World,Below w.heap.size w W->Calls Tryo.prog 5 #[.agg #[.int .i64 (xy),.int .i64 (xn),.bool (xl),.int .i64 (xd)]] W fun e w'=>e= .returned (.tuple #[.string tt,.int .i64 0])/\Below W.heap.size W w'))
  (HG:Hid (∀W:World,Below w.heap.size w W->Calls Tryo.prog 7 #[.string tt] W fun e w'=>e= .returned (.tuple #[.agg #[.int .i64 (xy),.int .i64 (xn),.bool (xl),.int .i64 (xd)],.int .i64 0])/\Below W.heap.size W w'))
  (HH:Hid (∀W:World,Below w.heap.size w W->Calls Tryo.prog 9 #[.agg #[.int .i64 (xy),.int .i64 (xn),.bool (xl),.int .i64 (xd)]] W fun e w'=>e= .returned (.int .i64 0)/\Below W.heap.size W w'))
  (HW:Hid (∀W:World,Below w.heap.size w W->Calls Tryo.prog 4 #[] W fun e w'=>e= .returned (.bool true)/\Below W.heap.size W w')):
  Calls Tryo.prog 3 #[.agg #[.int .i64 (y),.int .i64 (n),.bool (l),.int .i64 (d)],.string s] w fun e w'=>e= .returned (.bool true)/\Below w.heap.size w w':=by
 have hsz:(s.size:Int)<=100:=h100
 go_enter Tryo.func3,Tryz.ntmps3
 go_wp2_with fail
 refine(HA.out _ bel).mono ?_
 rintro e w1 ⟨rfl,hb1⟩
 have hB1:Below w.heap.size w w1:=bel
 have hZ1:=hB1.size
 obtain⟨hc1,hf1⟩:=bcell hb1
 have hz1:=hb1.size
 try simp at hz1
 have hl1w:w.heap.size<w1.heap.size:=by omega
 have hm1w:w.heap.size<=w1.heap.size:=by omega
 have g1x0:w1.cell? ⟨w.heap.size,0,none⟩=some (.int .i64 (y)):=cel hc1
 have g1x1:w1.cell? ⟨w.heap.size,1,none⟩=some (.int .i64 (n)):=cel hc1
 have g1x2:w1.cell? ⟨w.heap.size,2,none⟩=some (.bool (l)):=cel hc1
 have g1x3:w1.cell? ⟨w.heap.size,3,none⟩=some (.int .i64 (d)):=cel hc1
 go_wp2_with fail
 refine(HB.out _ bel).mono ?_
 rintro e w2 ⟨rfl,hb2⟩
 have hB2:Below w.heap.size w w2:=bel
 have hZ2:=hB2.size
 obtain⟨hc2,hf2⟩:=bcell hb2
 have hz2:=hb2.size
 try simp at hz2
 have hl2w:w.heap.size<w2.heap.size:=by omega
 have hm2w:w.heap.size<=w2.heap.size:=by omega
 have g2x0:w2.cell? ⟨w.heap.size,0,none⟩=some (.int .i64 (y)):=cel hc2
 have g2x1:w2.cell? ⟨w.heap.size,1,none⟩=some (.int .i64 (n)):=cel hc2
 have g2x2:w2.cell? ⟨w.heap.size,2,none⟩=some (.bool (l)):=cel hc2
 have g2x3:w2.cell? ⟨w.heap.size,3,none⟩=some (.int .i64 (d)):=cel hc2
 go_wp2_with fail
 refine(HC.out _ bel).mono ?_
 rintro e w3 ⟨rfl,hb3⟩
 have hB3:Below w.heap.size w w3:=bel
 have hZ3:=hB3.size
 obtain⟨hc3,hf3⟩:=bcell hb3
 have hz3:=hb3.size
 try simp at hz3
 have hl3w:w.heap.size<w3.heap.size:=by omega
 have hm3w:w.heap.size<=w3.heap.size:=by omega
 have g3x0:w3.cell? ⟨w.heap.size,0,none⟩=some (.int .i64 (y)):=cel hc3
 have g3x1:w3.cell? ⟨w.heap.size,1,none⟩=some (.int .i64 (n)):=cel hc3
 have g3x2:w3.cell? ⟨w.heap.size,2,none⟩=some (.bool (l)):=cel hc3
 have g3x3:w3.cell? ⟨w.heap.size,3,none⟩=some (.int .i64 (d)):=cel hc3
 go_wp2_with fail
 refine(HD.out _ bel).mono ?_
 rintro e w4 ⟨rfl,hb4⟩
 have hB4:Below w.heap.size w w4:=bel
 have hZ4:=hB4.size
 obtain⟨hc4,hf4⟩:=bcell hb4
 have hz4:=hb4.size
 try simp at hz4
 have hl4w:w.heap.size<w4.heap.size:=by omega
 have hm4w:w.heap.size<=w4.heap.size:=by omega
 have hl4w3:w3.heap.size<w4.heap.size:=by omega
 have hm4w3:w3.heap.size<=w4.heap.size:=by omega
 have g4x0:w4.cell? ⟨w.heap.size,0,none⟩=some (.int .i64 (y)):=cel hc4
 have g4x1:w4.cell? ⟨w.heap.size,1,none⟩=some (.int .i64 (n)):=cel hc4
 have g4x2:w4.cell? ⟨w.heap.size,2,none⟩=some (.bool (l)):=cel hc4
 have g4x3:w4.cell? ⟨w.heap.size,3,none⟩=some (.int .i64 (d)):=cel hc4
 have g4x4:w4.cell? ⟨w3.heap.size,0,none⟩=some (.int .i64 (y)):=cel hc4
 have g4x5:w4.cell? ⟨w3.heap.size,1,none⟩=some (.int .i64 (n)):=cel hc4
 have g4x6:w4.cell? ⟨w3.heap.size,2,none⟩=some (.bool (l)):=cel hc4
 have g4x7:w4.cell? ⟨w3.heap.size,3,none⟩=some (.int .i64 (d)):=cel hc4
 go_wp2_with fail
 refine(HE.out _ bel).mono ?_
 rintro e w5 ⟨rfl,hb5⟩
 have hB5:Below w.heap.size w w5:=bel
 have hZ5:=hB5.size
 obtain⟨hc5,hf5⟩:=bcell hb5
 have hz5:=hb5.size
 try simp at hz5
 have hl5w:w.heap.size<w5.heap.size:=by omega
 have hm5w:w.heap.size<=w5.heap.size:=by omega
 go_wp2_with fail
 refine(HF.out _ bel).mono ?_
 rintro e w6 ⟨rfl,hb6⟩
 have hB6:Below w.heap.size w w6:=bel
 have hZ6:=hB6.size
 obtain⟨hc6,hf6⟩:=bcell hb6
 have hz6:=hb6.size
 try simp at hz6
 have hl6w:w.heap.size<w6.heap.size:=by omega
 have hm6w:w.heap.size<=w6.heap.size:=by omega
 have hl6w5:w5.heap.size<w6.heap.size:=by omega
 have hm6w5:w5.heap.size<=w6.heap.size:=by omega
 have g6x0:w6.cell? ⟨w5.heap.size,0,none⟩=some (.int .i64 (xy)):=cel hc6
 have g6x1:w6.cell? ⟨w5.heap.size,1,none⟩=some (.int .i64 (xn)):=cel hc6
 have g6x2:w6.cell? ⟨w5.heap.size,2,none⟩=some (.bool (xl)):=cel hc6
 have g6x3:w6.cell? ⟨w5.heap.size,3,none⟩=some (.int .i64 (xd)):=cel hc6
 go_wp2_with fail
 refine(HG.out _ bel).mono ?_
 rintro e w7 ⟨rfl,hb7⟩
 have hB7:Below w.heap.size w w7:=bel
 have hZ7:=hB7.size
 obtain⟨hc7,hf7⟩:=bcell hb7
 have hz7:=hb7.size
 try simp at hz7
 have hl7w:w.heap.size<w7.heap.size:=by omega
 have hm7w:w.heap.size<=w7.heap.size:=by omega
 have hl7w5:w5.heap.size<w7.heap.size:=by omega
 have hm7w5:w5.heap.size<=w7.heap.size:=by omega
 have g7x0:w7.cell? ⟨w5.heap.size,0,none⟩=some (.int .i64 (xy)):=cel hc7
 have g7x1:w7.cell? ⟨w5.heap.size,1,none⟩=some (.int .i64 (xn)):=cel hc7
 have g7x2:w7.cell? ⟨w5.heap.size,2,none⟩=some (.bool (xl)):=cel hc7
 have g7x3:w7.cell? ⟨w5.heap.size,3,none⟩=some (.int .i64 (xd)):=cel hc7
 go_wp2_with fail
 refine(HW.out _ bel).mono ?_
 rintro e w8 ⟨rfl,hb8⟩
 have hB8:Below w.heap.size w w8:=bel
 have hZ8:=hB8.size
 obtain⟨hc8,hf8⟩:=bcell hb8
 have hz8:=hb8.size
 try simp at hz8
 have hl8w:w.heap.size<w8.heap.size:=by omega
 have hm8w:w.heap.size<=w8.heap.size:=by omega
 have hl8w5:w5.heap.size<w8.heap.size:=by omega
 have hm8w5:w5.heap.size<=w8.heap.size:=by omega
 have hl8w7:w7.heap.size<w8.heap.size:=by omega
 have hm8w7:w7.heap.size<=w8.heap.size:=by omega
 have g8x0:w8.cell? ⟨w5.heap.size,0,none⟩=some (.int .i64 (xy)):=cel hc8
 have g8x1:w8.cell? ⟨w5.heap.size,1,none⟩=some (.int .i64 (xn)):=cel hc8
 have g8x2:w8.cell? ⟨w5.heap.size,2,none⟩=some (.bool (xl)):=cel hc8
 have g8x3:w8.cell? ⟨w5.heap.size,3,none⟩=some (.int .i64 (xd)):=cel hc8
 have g8x4:w8.cell? ⟨w7.heap.size,0,none⟩=some (.int .i64 (xy)):=cel hc8
 have g8x5:w8.cell? ⟨w7.heap.size,1,none⟩=some (.int .i64 (xn)):=cel hc8
 have g8x6:w8.cell? ⟨w7.heap.size,2,none⟩=some (.bool (xl)):=cel hc8
 have g8x7:w8.cell? ⟨w7.heap.size,3,none⟩=some (.int .i64 (xd)):=cel hc8
 go_wp2_with fail
 refine(HH.out _ bel).mono ?_
 rintro e w9 ⟨rfl,hb9⟩
 have hB9:Below w.heap.size w w9:=bel
 have hZ9:=hB9.size
 obtain⟨hc9,hf9⟩:=bcell hb9
 have hz9:=hb9.size
 try simp at hz9
 have hl9w:w.heap.size<w9.heap.size:=by omega
 have hm9w:w.heap.size<=w9.heap.size:=by omega
 have hl9w5:w5.heap.size<w9.heap.size:=by omega
 have hm9w5:w5.heap.size<=w9.heap.size:=by omega
 have hl9w7:w7.heap.size<w9.heap.size:=by omega
 have hm9w7:w7.heap.size<=w9.heap.size:=by omega
 have g9x0:w9.cell? ⟨w5.heap.size,0,none⟩=some (.int .i64 (xy)):=cel hc9
 have g9x1:w9.cell? ⟨w5.heap.size,1,none⟩=some (.int .i64 (xn)):=cel hc9
 have g9x2:w9.cell? ⟨w5.heap.size,2,none⟩=some (.bool (xl)):=cel hc9
 have g9x3:w9.cell? ⟨w5.heap.size,3,none⟩=some (.int .i64 (xd)):=cel hc9
 have g9x4:w9.cell? ⟨w7.heap.size,0,none⟩=some (.int .i64 (xy)):=cel hc9
 have g9x5:w9.cell? ⟨w7.heap.size,1,none⟩=some (.int .i64 (xn)):=cel hc9
 have g9x6:w9.cell? ⟨w7.heap.size,2,none⟩=some (.bool (xl)):=cel hc9
 have g9x7:w9.cell? ⟨w7.heap.size,3,none⟩=some (.int .i64 (xd)):=cel hc9
 go_wp2_with fail
 go_ret
 refine⟨by first|rfl|(simp [*];done), ?_⟩
 exact bel
theorem WholeTexts_no_syn(y n:Int)(l:Bool)(d:Int)(s:ByteArray)(tx nx:ByteArray)(er:Int)(he:(er !=0)=true)(he2:(er==0)=false)(h100:(s.size:Int)<=100)(w:World)
  (HA:Hid (∀W:World,Below w.heap.size w W->Calls Tryo.prog 5 #[.agg #[.int .i64 (y),.int .i64 (n),.bool (l),.int .i64 (d)]] W fun e w'=>e= .returned (.tuple #[.string tx,.int .i64 er])/\Below W.heap.size W w'))
  (HB:Hid (∀W:World,Below w.heap.size w W->Calls Tryo.prog 6 #[.agg #[.int .i64 (y),.int .i64 (n),.bool (l),.int .i64 (d)]] W fun e w'=>e= .returned (.tuple #[.string nx,.int .i64 er])/\Below W.heap.size W w'))
  (HE:Hid (∀W:World,Below w.heap.size w W->Calls Tryo.prog 7 #[.string s] W fun e w'=>e= .returned (.tuple #[.agg #[.int .i64 (0),.int .i64 (0),.bool (false),.int .i64 (0)],.int .i64 5])/\Below W.heap.size W w'))
  (HW:Hid (∀W:World,Below w.heap.size w W->Calls Tryo.prog 4 #[] W fun e w'=>e= .returned (.bool true)/\Below W.heap.size W w')):
  Calls Tryo.prog 3 #[.agg #[.int .i64 (y),.int .i64 (n),.bool (l),.int .i64 (d)],.string s] w fun e w'=>e= .returned (.bool true)/\Below w.heap.size w w':=by
 have hsz:(s.size:Int)<=100:=h100
 go_enter Tryo.func3,Tryz.ntmps3
 go_wp2_with fail
 refine(HA.out _ bel).mono ?_
 rintro e w1 ⟨rfl,hb1⟩
 have hB1:Below w.heap.size w w1:=bel
 have hZ1:=hB1.size
 obtain⟨hc1,hf1⟩:=bcell hb1
 have hz1:=hb1.size
 try simp at hz1
 have hl1w:w.heap.size<w1.heap.size:=by omega
 have hm1w:w.heap.size<=w1.heap.size:=by omega
 have g1x0:w1.cell? ⟨w.heap.size,0,none⟩=some (.int .i64 (y)):=cel hc1
 have g1x1:w1.cell? ⟨w.heap.size,1,none⟩=some (.int .i64 (n)):=cel hc1
 have g1x2:w1.cell? ⟨w.heap.size,2,none⟩=some (.bool (l)):=cel hc1
 have g1x3:w1.cell? ⟨w.heap.size,3,none⟩=some (.int .i64 (d)):=cel hc1
 go_wp2_with fail
 refine(HB.out _ bel).mono ?_
 rintro e w2 ⟨rfl,hb2⟩
 have hB2:Below w.heap.size w w2:=bel
 have hZ2:=hB2.size
 obtain⟨hc2,hf2⟩:=bcell hb2
 have hz2:=hb2.size
 try simp at hz2
 have hl2w:w.heap.size<w2.heap.size:=by omega
 have hm2w:w.heap.size<=w2.heap.size:=by omega
 have g2x0:w2.cell? ⟨w.heap.size,0,none⟩=some (.int .i64 (y)):=cel hc2
 have g2x1:w2.cell? ⟨w.heap.size,1,none⟩=some (.int .i64 (n)):=cel hc2
 have g2x2:w2.cell? ⟨w.heap.size,2,none⟩=some (.bool (l)):=cel hc2
 have g2x3:w2.cell? ⟨w.heap.size,3,none⟩=some (.int .i64 (d)):=cel hc2
 go_wp2_with fail
 refine(HE.out _ bel).mono ?_
 rintro e w5 ⟨rfl,hb5⟩
 have hB5:Below w.heap.size w w5:=bel
 have hZ5:=hB5.size
 obtain⟨hc5,hf5⟩:=bcell hb5
 have hz5:=hb5.size
 try simp at hz5
 have hl5w:w.heap.size<w5.heap.size:=by omega
 have hm5w:w.heap.size<=w5.heap.size:=by omega
 go_wp2_with fail
 refine(HW.out _ bel).mono ?_
 rintro e w6 ⟨rfl,hb6⟩
 have hB6:Below w.heap.size w w6:=bel
 have hZ6:=hB6.size
 obtain⟨hc6,hf6⟩:=bcell hb6
 have hz6:=hb6.size
 try simp at hz6
 have hl6w:w.heap.size<w6.heap.size:=by omega
 have hm6w:w.heap.size<=w6.heap.size:=by omega
 have hl6w5:w5.heap.size<w6.heap.size:=by omega
 have hm6w5:w5.heap.size<=w6.heap.size:=by omega
 have g6x0:w6.cell? ⟨w5.heap.size,0,none⟩=some (.int .i64 (0)):=cel hc6
 have g6x1:w6.cell? ⟨w5.heap.size,1,none⟩=some (.int .i64 (0)):=cel hc6
 have g6x2:w6.cell? ⟨w5.heap.size,2,none⟩=some (.bool (false)):=cel hc6
 have g6x3:w6.cell? ⟨w5.heap.size,3,none⟩=some (.int .i64 (0)):=cel hc6
 go_wp2_with fail
 go_ret
 refine⟨by first|rfl|(simp [*];done), ?_⟩
 exact bel
theorem WholeTexts_no_rng(y n:Int)(l:Bool)(d:Int)(s:ByteArray)(tx nx:ByteArray)(er:Int)(he:(er !=0)=true)(he2:(er==0)=false)(h100:(s.size:Int)<=100)(w:World)
  (HA:Hid (∀W:World,Below w.heap.size w W->Calls Tryo.prog 5 #[.agg #[.int .i64 (y),.int .i64 (n),.bool (l),.int .i64 (d)]] W fun e w'=>e= .returned (.tuple #[.string tx,.int .i64 er])/\Below W.heap.size W w'))
  (HB:Hid (∀W:World,Below w.heap.size w W->Calls Tryo.prog 6 #[.agg #[.int .i64 (y),.int .i64 (n),.bool (l),.int .i64 (d)]] W fun e w'=>e= .returned (.tuple #[.string nx,.int .i64 er])/\Below W.heap.size W w'))
  (HE:Hid (∀W:World,Below w.heap.size w W->Calls Tryo.prog 7 #[.string s] W fun e w'=>e= .returned (.tuple #[.agg #[.int .i64 (0),.int .i64 (0),.bool (false),.int .i64 (0)],.int .i64 2])/\Below W.heap.size W w'))
  (HW:Hid (∀W:World,Below w.heap.size w W->Calls Tryo.prog 4 #[] W fun e w'=>e= .returned (.bool true)/\Below W.heap.size W w')):
  Calls Tryo.prog 3 #[.agg #[.int .i64 (y),.int .i64 (n),.bool (l),.int .i64 (d)],.string s] w fun e w'=>e= .returned (.bool true)/\Below w.heap.size w w':=by
 have hsz:(s.size:Int)<=100:=h100
 go_enter Tryo.func3,Tryz.ntmps3
 go_wp2_with fail
 refine(HA.out _ bel).mono ?_
 rintro e w1 ⟨rfl,hb1⟩
 have hB1:Below w.heap.size w w1:=bel
 have hZ1:=hB1.size
 obtain⟨hc1,hf1⟩:=bcell hb1
 have hz1:=hb1.size
 try simp at hz1
 have hl1w:w.heap.size<w1.heap.size:=by omega
 have hm1w:w.heap.size<=w1.heap.size:=by omega
 have g1x0:w1.cell? ⟨w.heap.size,0,none⟩=some (.int .i64 (y)):=cel hc1
 have g1x1:w1.cell? ⟨w.heap.size,1,none⟩=some (.int .i64 (n)):=cel hc1
 have g1x2:w1.cell? ⟨w.heap.size,2,none⟩=some (.bool (l)):=cel hc1
 have g1x3:w1.cell? ⟨w.heap.size,3,none⟩=some (.int .i64 (d)):=cel hc1
 go_wp2_with fail
 refine(HB.out _ bel).mono ?_
 rintro e w2 ⟨rfl,hb2⟩
 have hB2:Below w.heap.size w w2:=bel
 have hZ2:=hB2.size
 obtain⟨hc2,hf2⟩:=bcell hb2
 have hz2:=hb2.size
 try simp at hz2
 have hl2w:w.heap.size<w2.heap.size:=by omega
 have hm2w:w.heap.size<=w2.heap.size:=by omega
 have g2x0:w2.cell? ⟨w.heap.size,0,none⟩=some (.int .i64 (y)):=cel hc2
 have g2x1:w2.cell? ⟨w.heap.size,1,none⟩=some (.int .i64 (n)):=cel hc2
 have g2x2:w2.cell? ⟨w.heap.size,2,none⟩=some (.bool (l)):=cel hc2
 have g2x3:w2.cell? ⟨w.heap.size,3,none⟩=some (.int .i64 (d)):=cel hc2
 go_wp2_with fail
 refine(HE.out _ bel).mono ?_
 rintro e w5 ⟨rfl,hb5⟩
 have hB5:Below w.heap.size w w5:=bel
 have hZ5:=hB5.size
 obtain⟨hc5,hf5⟩:=bcell hb5
 have hz5:=hb5.size
 try simp at hz5
 have hl5w:w.heap.size<w5.heap.size:=by omega
 have hm5w:w.heap.size<=w5.heap.size:=by omega
 go_wp2_with fail
 refine(HW.out _ bel).mono ?_
 rintro e w6 ⟨rfl,hb6⟩
 have hB6:Below w.heap.size w w6:=bel
 have hZ6:=hB6.size
 obtain⟨hc6,hf6⟩:=bcell hb6
 have hz6:=hb6.size
 try simp at hz6
 have hl6w:w.heap.size<w6.heap.size:=by omega
 have hm6w:w.heap.size<=w6.heap.size:=by omega
 have hl6w5:w5.heap.size<w6.heap.size:=by omega
 have hm6w5:w5.heap.size<=w6.heap.size:=by omega
 have g6x0:w6.cell? ⟨w5.heap.size,0,none⟩=some (.int .i64 (0)):=cel hc6
 have g6x1:w6.cell? ⟨w5.heap.size,1,none⟩=some (.int .i64 (0)):=cel hc6
 have g6x2:w6.cell? ⟨w5.heap.size,2,none⟩=some (.bool (false)):=cel hc6
 have g6x3:w6.cell? ⟨w5.heap.size,3,none⟩=some (.int .i64 (0)):=cel hc6
 go_wp2_with fail
 go_ret
 refine⟨by first|rfl|(simp [*];done), ?_⟩
 exact bel
theorem WholeTexts_no_at(y n:Int)(l:Bool)(d:Int)(s:ByteArray)(tx nx:ByteArray)(er:Int)(he:(er !=0)=true)(he2:(er==0)=false)(xy xn:Int)(xl:Bool)(xd:Int)(tt:ByteArray)(hlen:tt.size=s.size)(h100:(s.size:Int)<=100)(w:World)
  (HA:Hid (∀W:World,Below w.heap.size w W->Calls Tryo.prog 5 #[.agg #[.int .i64 (y),.int .i64 (n),.bool (l),.int .i64 (d)]] W fun e w'=>e= .returned (.tuple #[.string tx,.int .i64 er])/\Below W.heap.size W w'))
  (HB:Hid (∀W:World,Below w.heap.size w W->Calls Tryo.prog 6 #[.agg #[.int .i64 (y),.int .i64 (n),.bool (l),.int .i64 (d)]] W fun e w'=>e= .returned (.tuple #[.string nx,.int .i64 er])/\Below W.heap.size W w'))
  (HE:Hid (∀W:World,Below w.heap.size w W->Calls Tryo.prog 7 #[.string s] W fun e w'=>e= .returned (.tuple #[.agg #[.int .i64 (xy),.int .i64 (xn),.bool (xl),.int .i64 (xd)],.int .i64 0])/\Below W.heap.size W w'))
  (HF:Hid (∀W:World,Below w.heap.size w W->Calls Tryo.prog 5 #[.agg #[.int .i64 (xy),.int .i64 (xn),.bool (xl),.int .i64 (xd)]] W fun e w'=>e= .returned (.tuple #[.string tt,.int .i64 0])/\Below W.heap.size W w'))
  (HG:Hid (∀W:World,Below w.heap.size w W->Calls Tryo.prog 7 #[.string tt] W fun e w'=>e= .returned (.tuple #[.agg #[.int .i64 (xy),.int .i64 (xn),.bool (xl),.int .i64 (xd)],.int .i64 0])/\Below W.heap.size W w'))
  (HH:Hid (∀W:World,Below w.heap.size w W->Calls Tryo.prog 9 #[.agg #[.int .i64 (xy),.int .i64 (xn),.bool (xl),.int .i64 (xd)]] W fun e w'=>e= .returned (.int .i64 0)/\Below W.heap.size W w'))
  (HW:Hid (∀W:World,Below w.heap.size w W->Calls Tryo.prog 4 #[] W fun e w'=>e= .returned (.bool true)/\Below W.heap.size W w')):
  Calls Tryo.prog 3 #[.agg #[.int .i64 (y),.int .i64 (n),.bool (l),.int .i64 (d)],.string s] w fun e w'=>e= .returned (.bool true)/\Below w.heap.size w w':=by
 have hsz:(s.size:Int)<=100:=h100
 go_enter Tryo.func3,Tryz.ntmps3
 go_wp2_with fail
 refine(HA.out _ bel).mono ?_
 rintro e w1 ⟨rfl,hb1⟩
 have hB1:Below w.heap.size w w1:=bel
 have hZ1:=hB1.size
 obtain⟨hc1,hf1⟩:=bcell hb1
 have hz1:=hb1.size
 try simp at hz1
 have hl1w:w.heap.size<w1.heap.size:=by omega
 have hm1w:w.heap.size<=w1.heap.size:=by omega
 have g1x0:w1.cell? ⟨w.heap.size,0,none⟩=some (.int .i64 (y)):=cel hc1
 have g1x1:w1.cell? ⟨w.heap.size,1,none⟩=some (.int .i64 (n)):=cel hc1
 have g1x2:w1.cell? ⟨w.heap.size,2,none⟩=some (.bool (l)):=cel hc1
 have g1x3:w1.cell? ⟨w.heap.size,3,none⟩=some (.int .i64 (d)):=cel hc1
 go_wp2_with fail
 refine(HB.out _ bel).mono ?_
 rintro e w2 ⟨rfl,hb2⟩
 have hB2:Below w.heap.size w w2:=bel
 have hZ2:=hB2.size
 obtain⟨hc2,hf2⟩:=bcell hb2
 have hz2:=hb2.size
 try simp at hz2
 have hl2w:w.heap.size<w2.heap.size:=by omega
 have hm2w:w.heap.size<=w2.heap.size:=by omega
 have g2x0:w2.cell? ⟨w.heap.size,0,none⟩=some (.int .i64 (y)):=cel hc2
 have g2x1:w2.cell? ⟨w.heap.size,1,none⟩=some (.int .i64 (n)):=cel hc2
 have g2x2:w2.cell? ⟨w.heap.size,2,none⟩=some (.bool (l)):=cel hc2
 have g2x3:w2.cell? ⟨w.heap.size,3,none⟩=some (.int .i64 (d)):=cel hc2
 go_wp2_with fail
 refine(HE.out _ bel).mono ?_
 rintro e w5 ⟨rfl,hb5⟩
 have hB5:Below w.heap.size w w5:=bel
 have hZ5:=hB5.size
 obtain⟨hc5,hf5⟩:=bcell hb5
 have hz5:=hb5.size
 try simp at hz5
 have hl5w:w.heap.size<w5.heap.size:=by omega
 have hm5w:w.heap.size<=w5.heap.size:=by omega
 go_wp2_with fail
 refine(HF.out _ bel).mono ?_
 rintro e w6 ⟨rfl,hb6⟩
 have hB6:Below w.heap.size w w6:=bel
 have hZ6:=hB6.size
 obtain⟨hc6,hf6⟩:=bcell hb6
 have hz6:=hb6.size
 try simp at hz6
 have hl6w:w.heap.size<w6.heap.size:=by omega
 have hm6w:w.heap.size<=w6.heap.size:=by omega
 have hl6w5:w5.heap.size<w6.heap.size:=by omega
 have hm6w5:w5.heap.size<=w6.heap.size:=by omega
 have g6x0:w6.cell? ⟨w5.heap.size,0,none⟩=some (.int .i64 (xy)):=cel hc6
 have g6x1:w6.cell? ⟨w5.heap.size,1,none⟩=some (.int .i64 (xn)):=cel hc6
 have g6x2:w6.cell? ⟨w5.heap.size,2,none⟩=some (.bool (xl)):=cel hc6
 have g6x3:w6.cell? ⟨w5.heap.size,3,none⟩=some (.int .i64 (xd)):=cel hc6
 go_wp2_with fail
 refine(HG.out _ bel).mono ?_
 rintro e w7 ⟨rfl,hb7⟩
 have hB7:Below w.heap.size w w7:=bel
 have hZ7:=hB7.size
 obtain⟨hc7,hf7⟩:=bcell hb7
 have hz7:=hb7.size
 try simp at hz7
 have hl7w:w.heap.size<w7.heap.size:=by omega
 have hm7w:w.heap.size<=w7.heap.size:=by omega
 have hl7w5:w5.heap.size<w7.heap.size:=by omega
 have hm7w5:w5.heap.size<=w7.heap.size:=by omega
 have g7x0:w7.cell? ⟨w5.heap.size,0,none⟩=some (.int .i64 (xy)):=cel hc7
 have g7x1:w7.cell? ⟨w5.heap.size,1,none⟩=some (.int .i64 (xn)):=cel hc7
 have g7x2:w7.cell? ⟨w5.heap.size,2,none⟩=some (.bool (xl)):=cel hc7
 have g7x3:w7.cell? ⟨w5.heap.size,3,none⟩=some (.int .i64 (xd)):=cel hc7
 go_wp2_with fail
 refine(HW.out _ bel).mono ?_
 rintro e w8 ⟨rfl,hb8⟩
 have hB8:Below w.heap.size w w8:=bel
 have hZ8:=hB8.size
 obtain⟨hc8,hf8⟩:=bcell hb8
 have hz8:=hb8.size
 try simp at hz8
 have hl8w:w.heap.size<w8.heap.size:=by omega
 have hm8w:w.heap.size<=w8.heap.size:=by omega
 have hl8w5:w5.heap.size<w8.heap.size:=by omega
 have hm8w5:w5.heap.size<=w8.heap.size:=by omega
 have hl8w7:w7.heap.size<w8.heap.size:=by omega
 have hm8w7:w7.heap.size<=w8.heap.size:=by omega
 have g8x0:w8.cell? ⟨w5.heap.size,0,none⟩=some (.int .i64 (xy)):=cel hc8
 have g8x1:w8.cell? ⟨w5.heap.size,1,none⟩=some (.int .i64 (xn)):=cel hc8
 have g8x2:w8.cell? ⟨w5.heap.size,2,none⟩=some (.bool (xl)):=cel hc8
 have g8x3:w8.cell? ⟨w5.heap.size,3,none⟩=some (.int .i64 (xd)):=cel hc8
 have g8x4:w8.cell? ⟨w7.heap.size,0,none⟩=some (.int .i64 (xy)):=cel hc8
 have g8x5:w8.cell? ⟨w7.heap.size,1,none⟩=some (.int .i64 (xn)):=cel hc8
 have g8x6:w8.cell? ⟨w7.heap.size,2,none⟩=some (.bool (xl)):=cel hc8
 have g8x7:w8.cell? ⟨w7.heap.size,3,none⟩=some (.int .i64 (xd)):=cel hc8
 go_wp2_with fail
 refine(HH.out _ bel).mono ?_
 rintro e w9 ⟨rfl,hb9⟩
 have hB9:Below w.heap.size w w9:=bel
 have hZ9:=hB9.size
 obtain⟨hc9,hf9⟩:=bcell hb9
 have hz9:=hb9.size
 try simp at hz9
 have hl9w:w.heap.size<w9.heap.size:=by omega
 have hm9w:w.heap.size<=w9.heap.size:=by omega
 have hl9w5:w5.heap.size<w9.heap.size:=by omega
 have hm9w5:w5.heap.size<=w9.heap.size:=by omega
 have hl9w7:w7.heap.size<w9.heap.size:=by omega
 have hm9w7:w7.heap.size<=w9.heap.size:=by omega
 have g9x0:w9.cell? ⟨w5.heap.size,0,none⟩=some (.int .i64 (xy)):=cel hc9
 have g9x1:w9.cell? ⟨w5.heap.size,1,none⟩=some (.int .i64 (xn)):=cel hc9
 have g9x2:w9.cell? ⟨w5.heap.size,2,none⟩=some (.bool (xl)):=cel hc9
 have g9x3:w9.cell? ⟨w5.heap.size,3,none⟩=some (.int .i64 (xd)):=cel hc9
 have g9x4:w9.cell? ⟨w7.heap.size,0,none⟩=some (.int .i64 (xy)):=cel hc9
 have g9x5:w9.cell? ⟨w7.heap.size,1,none⟩=some (.int .i64 (xn)):=cel hc9
 have g9x6:w9.cell? ⟨w7.heap.size,2,none⟩=some (.bool (xl)):=cel hc9
 have g9x7:w9.cell? ⟨w7.heap.size,3,none⟩=some (.int .i64 (xd)):=cel hc9
 go_wp2_with fail
 go_ret
 refine⟨by first|rfl|(simp [*];done), ?_⟩
 exact bel
end Go.Proofs.YthpipedifekmpaaGreatDoor
