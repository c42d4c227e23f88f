import Derived.Test.YthnjjcoahdhmnaaGreatDoorJHR
set_option maxHeartbeats 8000000
set_option maxRecDepth 100000
set_option linter.unusedSimpArgs false
set_option linter.unusedVariables false
namespace Go.Proofs.YthnjjcoahdhmnaaGreatDoor
open Go.ChangeShapes Go.WideShapes Go.ChangeAt Go.RowKit Go.Lib
theorem WholeAdds_ok(y n:Int)(l:Bool)(d a b c f q k:Int)(ry rn:Int)(rl:Bool)(rd xy xn:Int)(xl:Bool)(xd cy cn:Int)(cl:Bool)(cd eh:Int)(hq: -32768<=q/\q<=32767)(hk:q.tmod 1000=k)(hk2: -1000<k/\k<1000)(w:World)
  (HA:Hid (∀W:World,Below w.heap.size w W->Calls Tryo.prog 18 #[.agg #[.int .i64 (y),.int .i64 (n),.bool (l),.int .i64 (d)],.agg #[.int .i64 (a),.int .i64 (b),.int .i64 (c),.int .i64 (f)],.int .i64 0] W fun e w'=>e= .returned (.tuple #[.agg #[.int .i64 (ry),.int .i64 (rn),.bool (rl),.int .i64 (rd)],.int .i64 0])/\Below W.heap.size W w'))
  (HB:Hid (∀W:World,Below w.heap.size w W->Calls Tryo.prog 18 #[.agg #[.int .i64 (y),.int .i64 (n),.bool (l),.int .i64 (d)],.agg #[.int .i64 (a),.int .i64 (b),.int .i64 (c),.int .i64 (f)],.int .i64 1] W fun e w'=>e= .returned (.tuple #[.agg #[.int .i64 (ry),.int .i64 (rn),.bool (rl),.int .i64 (rd)],.int .i64 0])/\Below W.heap.size W w'))
  (HC:Hid (∀W:World,Below w.heap.size w W->Calls Tryo.prog 18 #[.agg #[.int .i64 (y),.int .i64 (n),.bool (l),.int .i64 (d)],.agg #[.int .i64 (a),.int .i64 (b),.int .i64 (0),.int .i64 (0)],.int .i64 0] W fun e w'=>e= .returned (.tuple #[.agg #[.int .i64 (xy),.int .i64 (xn),.bool (xl),.int .i64 (xd)],.int .i64 0])/\Below W.heap.size W w'))
  (HD:Hid (∀W:World,Below w.heap.size w W->Calls Tryo.prog 18 #[.agg #[.int .i64 (xy),.int .i64 (xn),.bool (xl),.int .i64 (xd)],.agg #[.int .i64 (0),.int .i64 (0),.int .i64 (c),.int .i64 (f)],.int .i64 0] W fun e w'=>e= .returned (.tuple #[.agg #[.int .i64 (ry),.int .i64 (rn),.bool (rl),.int .i64 (rd)],.int .i64 0])/\Below W.heap.size W w'))
  (HE:Hid (∀W:World,Below w.heap.size w W->Calls Tryo.prog 18 #[.agg #[.int .i64 (y),.int .i64 (n),.bool (l),.int .i64 (d)],.agg #[.int .i64 (0),.int .i64 (0),.int .i64 (0),.int .i64 (k)],.int .i64 1] W fun e w'=>e= .returned (.tuple #[.agg #[.int .i64 (cy),.int .i64 (cn),.bool (cl),.int .i64 (cd)],.int .i64 eh])/\Below W.heap.size W w'))
  (HF:Hid (∀W:World,Below w.heap.size w W->Calls Tryo.prog 20 #[.agg #[.int .i64 (y),.int .i64 (n),.bool (l),.int .i64 (d)],.int .i64 k] W fun e w'=>e= .returned (.tuple #[.agg #[.int .i64 (cy),.int .i64 (cn),.bool (cl),.int .i64 (cd)],.int .i64 eh])/\Below W.heap.size W w'))
  (HG:Hid (∀W:World,Below w.heap.size w W->Calls Tryo.prog 21 #[.agg #[.int .i64 (ry),.int .i64 (rn),.bool (rl),.int .i64 (rd)]] W fun e w'=>e= .returned (.int .i64 0)/\Below W.heap.size W w'))
  (HW:Hid (∀W:World,Below w.heap.size w W->Calls Tryo.prog 22 #[] W fun e w'=>e= .returned (.bool true)/\Below W.heap.size W w')):
  Calls Tryo.prog 6 #[.agg #[.int .i64 (y),.int .i64 (n),.bool (l),.int .i64 (d)],.agg #[.int .i64 (a),.int .i64 (b),.int .i64 (c),.int .i64 (f)],.int .i16 q] w fun e w'=>e= .returned (.bool true)/\Below w.heap.size w w':=by
 obtain⟨q1,q2⟩:=hq
 obtain⟨t1,t2⟩:=hk2
 go_enter Tryo.func6,Tryz.ntmps6
 go_wp2_with fail
 refine(HA.out _ bel).mono ?_
 rintro e w1 ⟨rfl,hb1⟩
 have hB1:Below w.heap.size w w1:=bel
 have hZ1:=hB1.size
 obtain⟨hc1,hf1⟩:=bcell hb1
 have hz1:=hb1.size
 try simp at hz1
 have hl1w:w.heap.size<w1.heap.size:=by omega
 have hm1w:w.heap.size<=w1.heap.size:=by omega
 have hs1x1:(w.heap.size+1)<w1.heap.size:=by omega
 have g1x0:w1.cell? ⟨w.heap.size,0,none⟩=some (.int .i64 (y)):=cel hc1
 have g1x1:w1.cell? ⟨w.heap.size,1,none⟩=some (.int .i64 (n)):=cel hc1
 have g1x2:w1.cell? ⟨w.heap.size,2,none⟩=some (.bool (l)):=cel hc1
 have g1x3:w1.cell? ⟨w.heap.size,3,none⟩=some (.int .i64 (d)):=cel hc1
 have g1x4:w1.cell? ⟨(w.heap.size+1),0,none⟩=some (.int .i64 (a)):=cel hc1
 have g1x5:w1.cell? ⟨(w.heap.size+1),1,none⟩=some (.int .i64 (b)):=cel hc1
 have g1x6:w1.cell? ⟨(w.heap.size+1),2,none⟩=some (.int .i64 (c)):=cel hc1
 have g1x7:w1.cell? ⟨(w.heap.size+1),3,none⟩=some (.int .i64 (f)):=cel hc1
 go_wp2_with fail
 refine(HB.out _ bel).mono ?_
 rintro e w2 ⟨rfl,hb2⟩
 have hB2:Below w.heap.size w w2:=bel
 have hZ2:=hB2.size
 obtain⟨hc2,hf2⟩:=bcell hb2
 have hz2:=hb2.size
 try simp at hz2
 have hl2w:w.heap.size<w2.heap.size:=by omega
 have hm2w:w.heap.size<=w2.heap.size:=by omega
 have hl2w1:w1.heap.size<w2.heap.size:=by omega
 have hm2w1:w1.heap.size<=w2.heap.size:=by omega
 have hs2x1:(w.heap.size+1)<w2.heap.size:=by omega
 have g2x0:w2.cell? ⟨w.heap.size,0,none⟩=some (.int .i64 (y)):=cel hc2
 have g2x1:w2.cell? ⟨w.heap.size,1,none⟩=some (.int .i64 (n)):=cel hc2
 have g2x2:w2.cell? ⟨w.heap.size,2,none⟩=some (.bool (l)):=cel hc2
 have g2x3:w2.cell? ⟨w.heap.size,3,none⟩=some (.int .i64 (d)):=cel hc2
 have g2x4:w2.cell? ⟨(w.heap.size+1),0,none⟩=some (.int .i64 (a)):=cel hc2
 have g2x5:w2.cell? ⟨(w.heap.size+1),1,none⟩=some (.int .i64 (b)):=cel hc2
 have g2x6:w2.cell? ⟨(w.heap.size+1),2,none⟩=some (.int .i64 (c)):=cel hc2
 have g2x7:w2.cell? ⟨(w.heap.size+1),3,none⟩=some (.int .i64 (f)):=cel hc2
 have g2x8:w2.cell? ⟨w1.heap.size,0,none⟩=some (.int .i64 (ry)):=cel hc2
 have g2x9:w2.cell? ⟨w1.heap.size,1,none⟩=some (.int .i64 (rn)):=cel hc2
 have g2x10:w2.cell? ⟨w1.heap.size,2,none⟩=some (.bool (rl)):=cel hc2
 have g2x11:w2.cell? ⟨w1.heap.size,3,none⟩=some (.int .i64 (rd)):=cel hc2
 go_wp2_with fail
 refine(HC.out _ bel).mono ?_
 rintro e w3 ⟨rfl,hb3⟩
 have hB3:Below w.heap.size w w3:=bel
 have hZ3:=hB3.size
 obtain⟨hc3,hf3⟩:=bcell hb3
 have hz3:=hb3.size
 try simp at hz3
 have hl3w:w.heap.size<w3.heap.size:=by omega
 have hm3w:w.heap.size<=w3.heap.size:=by omega
 have hl3w1:w1.heap.size<w3.heap.size:=by omega
 have hm3w1:w1.heap.size<=w3.heap.size:=by omega
 have hl3w2:w2.heap.size<w3.heap.size:=by omega
 have hm3w2:w2.heap.size<=w3.heap.size:=by omega
 have hs3x1:(w.heap.size+1)<w3.heap.size:=by omega
 have g3x0:w3.cell? ⟨w.heap.size,0,none⟩=some (.int .i64 (y)):=cel hc3
 have g3x1:w3.cell? ⟨w.heap.size,1,none⟩=some (.int .i64 (n)):=cel hc3
 have g3x2:w3.cell? ⟨w.heap.size,2,none⟩=some (.bool (l)):=cel hc3
 have g3x3:w3.cell? ⟨w.heap.size,3,none⟩=some (.int .i64 (d)):=cel hc3
 have g3x4:w3.cell? ⟨(w.heap.size+1),0,none⟩=some (.int .i64 (a)):=cel hc3
 have g3x5:w3.cell? ⟨(w.heap.size+1),1,none⟩=some (.int .i64 (b)):=cel hc3
 have g3x6:w3.cell? ⟨(w.heap.size+1),2,none⟩=some (.int .i64 (c)):=cel hc3
 have g3x7:w3.cell? ⟨(w.heap.size+1),3,none⟩=some (.int .i64 (f)):=cel hc3
 have g3x8:w3.cell? ⟨w1.heap.size,0,none⟩=some (.int .i64 (ry)):=cel hc3
 have g3x9:w3.cell? ⟨w1.heap.size,1,none⟩=some (.int .i64 (rn)):=cel hc3
 have g3x10:w3.cell? ⟨w1.heap.size,2,none⟩=some (.bool (rl)):=cel hc3
 have g3x11:w3.cell? ⟨w1.heap.size,3,none⟩=some (.int .i64 (rd)):=cel hc3
 have g3x12:w3.cell? ⟨w2.heap.size,0,none⟩=some (.int .i64 (ry)):=cel hc3
 have g3x13:w3.cell? ⟨w2.heap.size,1,none⟩=some (.int .i64 (rn)):=cel hc3
 have g3x14:w3.cell? ⟨w2.heap.size,2,none⟩=some (.bool (rl)):=cel hc3
 have g3x15:w3.cell? ⟨w2.heap.size,3,none⟩=some (.int .i64 (rd)):=cel hc3
 go_wp2_with fail
 refine(HD.out _ bel).mono ?_
 rintro e w4 ⟨rfl,hb4⟩
 have hB4:Below w.heap.size w w4:=bel
 have hZ4:=hB4.size
 obtain⟨hc4,hf4⟩:=bcell hb4
 have hz4:=hb4.size
 try simp at hz4
 have hl4w:w.heap.size<w4.heap.size:=by omega
 have hm4w:w.heap.size<=w4.heap.size:=by omega
 have hl4w1:w1.heap.size<w4.heap.size:=by omega
 have hm4w1:w1.heap.size<=w4.heap.size:=by omega
 have hl4w3:w3.heap.size<w4.heap.size:=by omega
 have hm4w3:w3.heap.size<=w4.heap.size:=by omega
 have hs4x1:(w.heap.size+1)<w4.heap.size:=by omega
 have g4x0:w4.cell? ⟨w.heap.size,0,none⟩=some (.int .i64 (y)):=cel hc4
 have g4x1:w4.cell? ⟨w.heap.size,1,none⟩=some (.int .i64 (n)):=cel hc4
 have g4x2:w4.cell? ⟨w.heap.size,2,none⟩=some (.bool (l)):=cel hc4
 have g4x3:w4.cell? ⟨w.heap.size,3,none⟩=some (.int .i64 (d)):=cel hc4
 have g4x4:w4.cell? ⟨(w.heap.size+1),0,none⟩=some (.int .i64 (a)):=cel hc4
 have g4x5:w4.cell? ⟨(w.heap.size+1),1,none⟩=some (.int .i64 (b)):=cel hc4
 have g4x6:w4.cell? ⟨(w.heap.size+1),2,none⟩=some (.int .i64 (c)):=cel hc4
 have g4x7:w4.cell? ⟨(w.heap.size+1),3,none⟩=some (.int .i64 (f)):=cel hc4
 have g4x8:w4.cell? ⟨w1.heap.size,0,none⟩=some (.int .i64 (ry)):=cel hc4
 have g4x9:w4.cell? ⟨w1.heap.size,1,none⟩=some (.int .i64 (rn)):=cel hc4
 have g4x10:w4.cell? ⟨w1.heap.size,2,none⟩=some (.bool (rl)):=cel hc4
 have g4x11:w4.cell? ⟨w1.heap.size,3,none⟩=some (.int .i64 (rd)):=cel hc4
 have g4x12:w4.cell? ⟨w3.heap.size,0,none⟩=some (.int .i64 (xy)):=cel hc4
 have g4x13:w4.cell? ⟨w3.heap.size,1,none⟩=some (.int .i64 (xn)):=cel hc4
 have g4x14:w4.cell? ⟨w3.heap.size,2,none⟩=some (.bool (xl)):=cel hc4
 have g4x15:w4.cell? ⟨w3.heap.size,3,none⟩=some (.int .i64 (xd)):=cel hc4
 go_wp2_with fail
 refine(HE.out _ bel).mono ?_
 rintro e w5 ⟨rfl,hb5⟩
 have hB5:Below w.heap.size w w5:=bel
 have hZ5:=hB5.size
 obtain⟨hc5,hf5⟩:=bcell hb5
 have hz5:=hb5.size
 try simp at hz5
 have hl5w:w.heap.size<w5.heap.size:=by omega
 have hm5w:w.heap.size<=w5.heap.size:=by omega
 have hl5w1:w1.heap.size<w5.heap.size:=by omega
 have hm5w1:w1.heap.size<=w5.heap.size:=by omega
 have hs5x1:(w.heap.size+1)<w5.heap.size:=by omega
 have g5x0:w5.cell? ⟨w.heap.size,0,none⟩=some (.int .i64 (y)):=cel hc5
 have g5x1:w5.cell? ⟨w.heap.size,1,none⟩=some (.int .i64 (n)):=cel hc5
 have g5x2:w5.cell? ⟨w.heap.size,2,none⟩=some (.bool (l)):=cel hc5
 have g5x3:w5.cell? ⟨w.heap.size,3,none⟩=some (.int .i64 (d)):=cel hc5
 have g5x4:w5.cell? ⟨(w.heap.size+1),0,none⟩=some (.int .i64 (a)):=cel hc5
 have g5x5:w5.cell? ⟨(w.heap.size+1),1,none⟩=some (.int .i64 (b)):=cel hc5
 have g5x6:w5.cell? ⟨(w.heap.size+1),2,none⟩=some (.int .i64 (c)):=cel hc5
 have g5x7:w5.cell? ⟨(w.heap.size+1),3,none⟩=some (.int .i64 (f)):=cel hc5
 have g5x8:w5.cell? ⟨w1.heap.size,0,none⟩=some (.int .i64 (ry)):=cel hc5
 have g5x9:w5.cell? ⟨w1.heap.size,1,none⟩=some (.int .i64 (rn)):=cel hc5
 have g5x10:w5.cell? ⟨w1.heap.size,2,none⟩=some (.bool (rl)):=cel hc5
 have g5x11:w5.cell? ⟨w1.heap.size,3,none⟩=some (.int .i64 (rd)):=cel hc5
 go_wp2_with fail
 refine(HF.out _ bel).mono ?_
 rintro e w6 ⟨rfl,hb6⟩
 have hB6:Below w.heap.size w w6:=bel
 have hZ6:=hB6.size
 obtain⟨hc6,hf6⟩:=bcell hb6
 have hz6:=hb6.size
 try simp at hz6
 have hl6w:w.heap.size<w6.heap.size:=by omega
 have hm6w:w.heap.size<=w6.heap.size:=by omega
 have hl6w1:w1.heap.size<w6.heap.size:=by omega
 have hm6w1:w1.heap.size<=w6.heap.size:=by omega
 have hl6w5:w5.heap.size<w6.heap.size:=by omega
 have hm6w5:w5.heap.size<=w6.heap.size:=by omega
 have hs6x1:(w.heap.size+1)<w6.heap.size:=by omega
 have g6x0:w6.cell? ⟨w.heap.size,0,none⟩=some (.int .i64 (y)):=cel hc6
 have g6x1:w6.cell? ⟨w.heap.size,1,none⟩=some (.int .i64 (n)):=cel hc6
 have g6x2:w6.cell? ⟨w.heap.size,2,none⟩=some (.bool (l)):=cel hc6
 have g6x3:w6.cell? ⟨w.heap.size,3,none⟩=some (.int .i64 (d)):=cel hc6
 have g6x4:w6.cell? ⟨(w.heap.size+1),0,none⟩=some (.int .i64 (a)):=cel hc6
 have g6x5:w6.cell? ⟨(w.heap.size+1),1,none⟩=some (.int .i64 (b)):=cel hc6
 have g6x6:w6.cell? ⟨(w.heap.size+1),2,none⟩=some (.int .i64 (c)):=cel hc6
 have g6x7:w6.cell? ⟨(w.heap.size+1),3,none⟩=some (.int .i64 (f)):=cel hc6
 have g6x8:w6.cell? ⟨w1.heap.size,0,none⟩=some (.int .i64 (ry)):=cel hc6
 have g6x9:w6.cell? ⟨w1.heap.size,1,none⟩=some (.int .i64 (rn)):=cel hc6
 have g6x10:w6.cell? ⟨w1.heap.size,2,none⟩=some (.bool (rl)):=cel hc6
 have g6x11:w6.cell? ⟨w1.heap.size,3,none⟩=some (.int .i64 (rd)):=cel hc6
 have g6x12:w6.cell? ⟨w5.heap.size,0,none⟩=some (.int .i64 (cy)):=cel hc6
 have g6x13:w6.cell? ⟨w5.heap.size,1,none⟩=some (.int .i64 (cn)):=cel hc6
 have g6x14:w6.cell? ⟨w5.heap.size,2,none⟩=some (.bool (cl)):=cel hc6
 have g6x15:w6.cell? ⟨w5.heap.size,3,none⟩=some (.int .i64 (cd)):=cel hc6
 go_wp2_with fail
 refine(HW.out _ bel).mono ?_
 rintro e w7 ⟨rfl,hb7⟩
 have hB7:Below w.heap.size w w7:=bel
 have hZ7:=hB7.size
 obtain⟨hc7,hf7⟩:=bcell hb7
 have hz7:=hb7.size
 try simp at hz7
 have hl7w:w.heap.size<w7.heap.size:=by omega
 have hm7w:w.heap.size<=w7.heap.size:=by omega
 have hl7w1:w1.heap.size<w7.heap.size:=by omega
 have hm7w1:w1.heap.size<=w7.heap.size:=by omega
 have hl7w5:w5.heap.size<w7.heap.size:=by omega
 have hm7w5:w5.heap.size<=w7.heap.size:=by omega
 have hl7w6:w6.heap.size<w7.heap.size:=by omega
 have hm7w6:w6.heap.size<=w7.heap.size:=by omega
 have g7x0:w7.cell? ⟨w1.heap.size,0,none⟩=some (.int .i64 (ry)):=cel hc7
 have g7x1:w7.cell? ⟨w1.heap.size,1,none⟩=some (.int .i64 (rn)):=cel hc7
 have g7x2:w7.cell? ⟨w1.heap.size,2,none⟩=some (.bool (rl)):=cel hc7
 have g7x3:w7.cell? ⟨w1.heap.size,3,none⟩=some (.int .i64 (rd)):=cel hc7
 have g7x4:w7.cell? ⟨w5.heap.size,0,none⟩=some (.int .i64 (cy)):=cel hc7
 have g7x5:w7.cell? ⟨w5.heap.size,1,none⟩=some (.int .i64 (cn)):=cel hc7
 have g7x6:w7.cell? ⟨w5.heap.size,2,none⟩=some (.bool (cl)):=cel hc7
 have g7x7:w7.cell? ⟨w5.heap.size,3,none⟩=some (.int .i64 (cd)):=cel hc7
 have g7x8:w7.cell? ⟨w6.heap.size,0,none⟩=some (.int .i64 (cy)):=cel hc7
 have g7x9:w7.cell? ⟨w6.heap.size,1,none⟩=some (.int .i64 (cn)):=cel hc7
 have g7x10:w7.cell? ⟨w6.heap.size,2,none⟩=some (.bool (cl)):=cel hc7
 have g7x11:w7.cell? ⟨w6.heap.size,3,none⟩=some (.int .i64 (cd)):=cel hc7
 go_wp2_with fail
 refine(HG.out _ bel).mono ?_
 rintro e w8 ⟨rfl,hb8⟩
 have hB8:Below w.heap.size w w8:=bel
 have hZ8:=hB8.size
 obtain⟨hc8,hf8⟩:=bcell hb8
 have hz8:=hb8.size
 try simp at hz8
 have hl8w:w.heap.size<w8.heap.size:=by omega
 have hm8w:w.heap.size<=w8.heap.size:=by omega
 have hl8w1:w1.heap.size<w8.heap.size:=by omega
 have hm8w1:w1.heap.size<=w8.heap.size:=by omega
 have hl8w5:w5.heap.size<w8.heap.size:=by omega
 have hm8w5:w5.heap.size<=w8.heap.size:=by omega
 have hl8w6:w6.heap.size<w8.heap.size:=by omega
 have hm8w6:w6.heap.size<=w8.heap.size:=by omega
 have g8x0:w8.cell? ⟨w1.heap.size,0,none⟩=some (.int .i64 (ry)):=cel hc8
 have g8x1:w8.cell? ⟨w1.heap.size,1,none⟩=some (.int .i64 (rn)):=cel hc8
 have g8x2:w8.cell? ⟨w1.heap.size,2,none⟩=some (.bool (rl)):=cel hc8
 have g8x3:w8.cell? ⟨w1.heap.size,3,none⟩=some (.int .i64 (rd)):=cel hc8
 have g8x4:w8.cell? ⟨w5.heap.size,0,none⟩=some (.int .i64 (cy)):=cel hc8
 have g8x5:w8.cell? ⟨w5.heap.size,1,none⟩=some (.int .i64 (cn)):=cel hc8
 have g8x6:w8.cell? ⟨w5.heap.size,2,none⟩=some (.bool (cl)):=cel hc8
 have g8x7:w8.cell? ⟨w5.heap.size,3,none⟩=some (.int .i64 (cd)):=cel hc8
 have g8x8:w8.cell? ⟨w6.heap.size,0,none⟩=some (.int .i64 (cy)):=cel hc8
 have g8x9:w8.cell? ⟨w6.heap.size,1,none⟩=some (.int .i64 (cn)):=cel hc8
 have g8x10:w8.cell? ⟨w6.heap.size,2,none⟩=some (.bool (cl)):=cel hc8
 have g8x11:w8.cell? ⟨w6.heap.size,3,none⟩=some (.int .i64 (cd)):=cel hc8
 go_wp2_with fail
 go_ret
 refine⟨by first|rfl|(simp [*];done), ?_⟩
 exact bel
theorem WholeAdds_rej(y n:Int)(l:Bool)(d a b c f q k:Int)(ry rn:Int)(rl:Bool)(rd xy xn:Int)(xl:Bool)(xd cy cn:Int)(cl:Bool)(cd eh:Int)(hq: -32768<=q/\q<=32767)(hk:q.tmod 1000=k)(hk2: -1000<k/\k<1000)(w:World)
  (HA:Hid (∀W:World,Below w.heap.size w W->Calls Tryo.prog 18 #[.agg #[.int .i64 (y),.int .i64 (n),.bool (l),.int .i64 (d)],.agg #[.int .i64 (a),.int .i64 (b),.int .i64 (c),.int .i64 (f)],.int .i64 0] W fun e w'=>e= .returned (.tuple #[.agg #[.int .i64 (ry),.int .i64 (rn),.bool (rl),.int .i64 (rd)],.int .i64 0])/\Below W.heap.size W w'))
  (HB:Hid (∀W:World,Below w.heap.size w W->Calls Tryo.prog 18 #[.agg #[.int .i64 (y),.int .i64 (n),.bool (l),.int .i64 (d)],.agg #[.int .i64 (a),.int .i64 (b),.int .i64 (c),.int .i64 (f)],.int .i64 1] W fun e w'=>e= .returned (.tuple #[.agg #[.int .i64 (0),.int .i64 (0),.bool (false),.int .i64 (0)],.int .i64 7])/\Below W.heap.size W w'))
  (HC:Hid (∀W:World,Below w.heap.size w W->Calls Tryo.prog 18 #[.agg #[.int .i64 (y),.int .i64 (n),.bool (l),.int .i64 (d)],.agg #[.int .i64 (a),.int .i64 (b),.int .i64 (0),.int .i64 (0)],.int .i64 0] W fun e w'=>e= .returned (.tuple #[.agg #[.int .i64 (xy),.int .i64 (xn),.bool (xl),.int .i64 (xd)],.int .i64 0])/\Below W.heap.size W w'))
  (HD:Hid (∀W:World,Below w.heap.size w W->Calls Tryo.prog 18 #[.agg #[.int .i64 (xy),.int .i64 (xn),.bool (xl),.int .i64 (xd)],.agg #[.int .i64 (0),.int .i64 (0),.int .i64 (c),.int .i64 (f)],.int .i64 0] W fun e w'=>e= .returned (.tuple #[.agg #[.int .i64 (ry),.int .i64 (rn),.bool (rl),.int .i64 (rd)],.int .i64 0])/\Below W.heap.size W w'))
  (HE:Hid (∀W:World,Below w.heap.size w W->Calls Tryo.prog 18 #[.agg #[.int .i64 (y),.int .i64 (n),.bool (l),.int .i64 (d)],.agg #[.int .i64 (0),.int .i64 (0),.int .i64 (0),.int .i64 (k)],.int .i64 1] W fun e w'=>e= .returned (.tuple #[.agg #[.int .i64 (cy),.int .i64 (cn),.bool (cl),.int .i64 (cd)],.int .i64 eh])/\Below W.heap.size W w'))
  (HF:Hid (∀W:World,Below w.heap.size w W->Calls Tryo.prog 20 #[.agg #[.int .i64 (y),.int .i64 (n),.bool (l),.int .i64 (d)],.int .i64 k] W fun e w'=>e= .returned (.tuple #[.agg #[.int .i64 (cy),.int .i64 (cn),.bool (cl),.int .i64 (cd)],.int .i64 eh])/\Below W.heap.size W w'))
  (HG:Hid (∀W:World,Below w.heap.size w W->Calls Tryo.prog 21 #[.agg #[.int .i64 (ry),.int .i64 (rn),.bool (rl),.int .i64 (rd)]] W fun e w'=>e= .returned (.int .i64 0)/\Below W.heap.size W w'))
  (HW:Hid (∀W:World,Below w.heap.size w W->Calls Tryo.prog 22 #[] W fun e w'=>e= .returned (.bool true)/\Below W.heap.size W w')):
  Calls Tryo.prog 6 #[.agg #[.int .i64 (y),.int .i64 (n),.bool (l),.int .i64 (d)],.agg #[.int .i64 (a),.int .i64 (b),.int .i64 (c),.int .i64 (f)],.int .i16 q] w fun e w'=>e= .returned (.bool true)/\Below w.heap.size w w':=by
 obtain⟨q1,q2⟩:=hq
 obtain⟨t1,t2⟩:=hk2
 go_enter Tryo.func6,Tryz.ntmps6
 go_wp2_with fail
 refine(HA.out _ bel).mono ?_
 rintro e w1 ⟨rfl,hb1⟩
 have hB1:Below w.heap.size w w1:=bel
 have hZ1:=hB1.size
 obtain⟨hc1,hf1⟩:=bcell hb1
 have hz1:=hb1.size
 try simp at hz1
 have hl1w:w.heap.size<w1.heap.size:=by omega
 have hm1w:w.heap.size<=w1.heap.size:=by omega
 have hs1x1:(w.heap.size+1)<w1.heap.size:=by omega
 have g1x0:w1.cell? ⟨w.heap.size,0,none⟩=some (.int .i64 (y)):=cel hc1
 have g1x1:w1.cell? ⟨w.heap.size,1,none⟩=some (.int .i64 (n)):=cel hc1
 have g1x2:w1.cell? ⟨w.heap.size,2,none⟩=some (.bool (l)):=cel hc1
 have g1x3:w1.cell? ⟨w.heap.size,3,none⟩=some (.int .i64 (d)):=cel hc1
 have g1x4:w1.cell? ⟨(w.heap.size+1),0,none⟩=some (.int .i64 (a)):=cel hc1
 have g1x5:w1.cell? ⟨(w.heap.size+1),1,none⟩=some (.int .i64 (b)):=cel hc1
 have g1x6:w1.cell? ⟨(w.heap.size+1),2,none⟩=some (.int .i64 (c)):=cel hc1
 have g1x7:w1.cell? ⟨(w.heap.size+1),3,none⟩=some (.int .i64 (f)):=cel hc1
 go_wp2_with fail
 refine(HB.out _ bel).mono ?_
 rintro e w2 ⟨rfl,hb2⟩
 have hB2:Below w.heap.size w w2:=bel
 have hZ2:=hB2.size
 obtain⟨hc2,hf2⟩:=bcell hb2
 have hz2:=hb2.size
 try simp at hz2
 have hl2w:w.heap.size<w2.heap.size:=by omega
 have hm2w:w.heap.size<=w2.heap.size:=by omega
 have hl2w1:w1.heap.size<w2.heap.size:=by omega
 have hm2w1:w1.heap.size<=w2.heap.size:=by omega
 have hs2x1:(w.heap.size+1)<w2.heap.size:=by omega
 have g2x0:w2.cell? ⟨w.heap.size,0,none⟩=some (.int .i64 (y)):=cel hc2
 have g2x1:w2.cell? ⟨w.heap.size,1,none⟩=some (.int .i64 (n)):=cel hc2
 have g2x2:w2.cell? ⟨w.heap.size,2,none⟩=some (.bool (l)):=cel hc2
 have g2x3:w2.cell? ⟨w.heap.size,3,none⟩=some (.int .i64 (d)):=cel hc2
 have g2x4:w2.cell? ⟨(w.heap.size+1),0,none⟩=some (.int .i64 (a)):=cel hc2
 have g2x5:w2.cell? ⟨(w.heap.size+1),1,none⟩=some (.int .i64 (b)):=cel hc2
 have g2x6:w2.cell? ⟨(w.heap.size+1),2,none⟩=some (.int .i64 (c)):=cel hc2
 have g2x7:w2.cell? ⟨(w.heap.size+1),3,none⟩=some (.int .i64 (f)):=cel hc2
 have g2x8:w2.cell? ⟨w1.heap.size,0,none⟩=some (.int .i64 (ry)):=cel hc2
 have g2x9:w2.cell? ⟨w1.heap.size,1,none⟩=some (.int .i64 (rn)):=cel hc2
 have g2x10:w2.cell? ⟨w1.heap.size,2,none⟩=some (.bool (rl)):=cel hc2
 have g2x11:w2.cell? ⟨w1.heap.size,3,none⟩=some (.int .i64 (rd)):=cel hc2
 go_wp2_with fail
 refine(HC.out _ bel).mono ?_
 rintro e w3 ⟨rfl,hb3⟩
 have hB3:Below w.heap.size w w3:=bel
 have hZ3:=hB3.size
 obtain⟨hc3,hf3⟩:=bcell hb3
 have hz3:=hb3.size
 try simp at hz3
 have hl3w:w.heap.size<w3.heap.size:=by omega
 have hm3w:w.heap.size<=w3.heap.size:=by omega
 have hl3w1:w1.heap.size<w3.heap.size:=by omega
 have hm3w1:w1.heap.size<=w3.heap.size:=by omega
 have hl3w2:w2.heap.size<w3.heap.size:=by omega
 have hm3w2:w2.heap.size<=w3.heap.size:=by omega
 have hs3x1:(w.heap.size+1)<w3.heap.size:=by omega
 have g3x0:w3.cell? ⟨w.heap.size,0,none⟩=some (.int .i64 (y)):=cel hc3
 have g3x1:w3.cell? ⟨w.heap.size,1,none⟩=some (.int .i64 (n)):=cel hc3
 have g3x2:w3.cell? ⟨w.heap.size,2,none⟩=some (.bool (l)):=cel hc3
 have g3x3:w3.cell? ⟨w.heap.size,3,none⟩=some (.int .i64 (d)):=cel hc3
 have g3x4:w3.cell? ⟨(w.heap.size+1),0,none⟩=some (.int .i64 (a)):=cel hc3
 have g3x5:w3.cell? ⟨(w.heap.size+1),1,none⟩=some (.int .i64 (b)):=cel hc3
 have g3x6:w3.cell? ⟨(w.heap.size+1),2,none⟩=some (.int .i64 (c)):=cel hc3
 have g3x7:w3.cell? ⟨(w.heap.size+1),3,none⟩=some (.int .i64 (f)):=cel hc3
 have g3x8:w3.cell? ⟨w1.heap.size,0,none⟩=some (.int .i64 (ry)):=cel hc3
 have g3x9:w3.cell? ⟨w1.heap.size,1,none⟩=some (.int .i64 (rn)):=cel hc3
 have g3x10:w3.cell? ⟨w1.heap.size,2,none⟩=some (.bool (rl)):=cel hc3
 have g3x11:w3.cell? ⟨w1.heap.size,3,none⟩=some (.int .i64 (rd)):=cel hc3
 have g3x12:w3.cell? ⟨w2.heap.size,0,none⟩=some (.int .i64 (0)):=cel hc3
 have g3x13:w3.cell? ⟨w2.heap.size,1,none⟩=some (.int .i64 (0)):=cel hc3
 have g3x14:w3.cell? ⟨w2.heap.size,2,none⟩=some (.bool (false)):=cel hc3
 have g3x15:w3.cell? ⟨w2.heap.size,3,none⟩=some (.int .i64 (0)):=cel hc3
 go_wp2_with fail
 refine(HD.out _ bel).mono ?_
 rintro e w4 ⟨rfl,hb4⟩
 have hB4:Below w.heap.size w w4:=bel
 have hZ4:=hB4.size
 obtain⟨hc4,hf4⟩:=bcell hb4
 have hz4:=hb4.size
 try simp at hz4
 have hl4w:w.heap.size<w4.heap.size:=by omega
 have hm4w:w.heap.size<=w4.heap.size:=by omega
 have hl4w1:w1.heap.size<w4.heap.size:=by omega
 have hm4w1:w1.heap.size<=w4.heap.size:=by omega
 have hl4w3:w3.heap.size<w4.heap.size:=by omega
 have hm4w3:w3.heap.size<=w4.heap.size:=by omega
 have hs4x1:(w.heap.size+1)<w4.heap.size:=by omega
 have g4x0:w4.cell? ⟨w.heap.size,0,none⟩=some (.int .i64 (y)):=cel hc4
 have g4x1:w4.cell? ⟨w.heap.size,1,none⟩=some (.int .i64 (n)):=cel hc4
 have g4x2:w4.cell? ⟨w.heap.size,2,none⟩=some (.bool (l)):=cel hc4
 have g4x3:w4.cell? ⟨w.heap.size,3,none⟩=some (.int .i64 (d)):=cel hc4
 have g4x4:w4.cell? ⟨(w.heap.size+1),0,none⟩=some (.int .i64 (a)):=cel hc4
 have g4x5:w4.cell? ⟨(w.heap.size+1),1,none⟩=some (.int .i64 (b)):=cel hc4
 have g4x6:w4.cell? ⟨(w.heap.size+1),2,none⟩=some (.int .i64 (c)):=cel hc4
 have g4x7:w4.cell? ⟨(w.heap.size+1),3,none⟩=some (.int .i64 (f)):=cel hc4
 have g4x8:w4.cell? ⟨w1.heap.size,0,none⟩=some (.int .i64 (ry)):=cel hc4
 have g4x9:w4.cell? ⟨w1.heap.size,1,none⟩=some (.int .i64 (rn)):=cel hc4
 have g4x10:w4.cell? ⟨w1.heap.size,2,none⟩=some (.bool (rl)):=cel hc4
 have g4x11:w4.cell? ⟨w1.heap.size,3,none⟩=some (.int .i64 (rd)):=cel hc4
 have g4x12:w4.cell? ⟨w3.heap.size,0,none⟩=some (.int .i64 (xy)):=cel hc4
 have g4x13:w4.cell? ⟨w3.heap.size,1,none⟩=some (.int .i64 (xn)):=cel hc4
 have g4x14:w4.cell? ⟨w3.heap.size,2,none⟩=some (.bool (xl)):=cel hc4
 have g4x15:w4.cell? ⟨w3.heap.size,3,none⟩=some (.int .i64 (xd)):=cel hc4
 go_wp2_with fail
 refine(HE.out _ bel).mono ?_
 rintro e w5 ⟨rfl,hb5⟩
 have hB5:Below w.heap.size w w5:=bel
 have hZ5:=hB5.size
 obtain⟨hc5,hf5⟩:=bcell hb5
 have hz5:=hb5.size
 try simp at hz5
 have hl5w:w.heap.size<w5.heap.size:=by omega
 have hm5w:w.heap.size<=w5.heap.size:=by omega
 have hl5w1:w1.heap.size<w5.heap.size:=by omega
 have hm5w1:w1.heap.size<=w5.heap.size:=by omega
 have hs5x1:(w.heap.size+1)<w5.heap.size:=by omega
 have g5x0:w5.cell? ⟨w.heap.size,0,none⟩=some (.int .i64 (y)):=cel hc5
 have g5x1:w5.cell? ⟨w.heap.size,1,none⟩=some (.int .i64 (n)):=cel hc5
 have g5x2:w5.cell? ⟨w.heap.size,2,none⟩=some (.bool (l)):=cel hc5
 have g5x3:w5.cell? ⟨w.heap.size,3,none⟩=some (.int .i64 (d)):=cel hc5
 have g5x4:w5.cell? ⟨(w.heap.size+1),0,none⟩=some (.int .i64 (a)):=cel hc5
 have g5x5:w5.cell? ⟨(w.heap.size+1),1,none⟩=some (.int .i64 (b)):=cel hc5
 have g5x6:w5.cell? ⟨(w.heap.size+1),2,none⟩=some (.int .i64 (c)):=cel hc5
 have g5x7:w5.cell? ⟨(w.heap.size+1),3,none⟩=some (.int .i64 (f)):=cel hc5
 have g5x8:w5.cell? ⟨w1.heap.size,0,none⟩=some (.int .i64 (ry)):=cel hc5
 have g5x9:w5.cell? ⟨w1.heap.size,1,none⟩=some (.int .i64 (rn)):=cel hc5
 have g5x10:w5.cell? ⟨w1.heap.size,2,none⟩=some (.bool (rl)):=cel hc5
 have g5x11:w5.cell? ⟨w1.heap.size,3,none⟩=some (.int .i64 (rd)):=cel hc5
 go_wp2_with fail
 refine(HF.out _ bel).mono ?_
 rintro e w6 ⟨rfl,hb6⟩
 have hB6:Below w.heap.size w w6:=bel
 have hZ6:=hB6.size
 obtain⟨hc6,hf6⟩:=bcell hb6
 have hz6:=hb6.size
 try simp at hz6
 have hl6w:w.heap.size<w6.heap.size:=by omega
 have hm6w:w.heap.size<=w6.heap.size:=by omega
 have hl6w1:w1.heap.size<w6.heap.size:=by omega
 have hm6w1:w1.heap.size<=w6.heap.size:=by omega
 have hl6w5:w5.heap.size<w6.heap.size:=by omega
 have hm6w5:w5.heap.size<=w6.heap.size:=by omega
 have hs6x1:(w.heap.size+1)<w6.heap.size:=by omega
 have g6x0:w6.cell? ⟨w.heap.size,0,none⟩=some (.int .i64 (y)):=cel hc6
 have g6x1:w6.cell? ⟨w.heap.size,1,none⟩=some (.int .i64 (n)):=cel hc6
 have g6x2:w6.cell? ⟨w.heap.size,2,none⟩=some (.bool (l)):=cel hc6
 have g6x3:w6.cell? ⟨w.heap.size,3,none⟩=some (.int .i64 (d)):=cel hc6
 have g6x4:w6.cell? ⟨(w.heap.size+1),0,none⟩=some (.int .i64 (a)):=cel hc6
 have g6x5:w6.cell? ⟨(w.heap.size+1),1,none⟩=some (.int .i64 (b)):=cel hc6
 have g6x6:w6.cell? ⟨(w.heap.size+1),2,none⟩=some (.int .i64 (c)):=cel hc6
 have g6x7:w6.cell? ⟨(w.heap.size+1),3,none⟩=some (.int .i64 (f)):=cel hc6
 have g6x8:w6.cell? ⟨w1.heap.size,0,none⟩=some (.int .i64 (ry)):=cel hc6
 have g6x9:w6.cell? ⟨w1.heap.size,1,none⟩=some (.int .i64 (rn)):=cel hc6
 have g6x10:w6.cell? ⟨w1.heap.size,2,none⟩=some (.bool (rl)):=cel hc6
 have g6x11:w6.cell? ⟨w1.heap.size,3,none⟩=some (.int .i64 (rd)):=cel hc6
 have g6x12:w6.cell? ⟨w5.heap.size,0,none⟩=some (.int .i64 (cy)):=cel hc6
 have g6x13:w6.cell? ⟨w5.heap.size,1,none⟩=some (.int .i64 (cn)):=cel hc6
 have g6x14:w6.cell? ⟨w5.heap.size,2,none⟩=some (.bool (cl)):=cel hc6
 have g6x15:w6.cell? ⟨w5.heap.size,3,none⟩=some (.int .i64 (cd)):=cel hc6
 go_wp2_with fail
 refine(HW.out _ bel).mono ?_
 rintro e w7 ⟨rfl,hb7⟩
 have hB7:Below w.heap.size w w7:=bel
 have hZ7:=hB7.size
 obtain⟨hc7,hf7⟩:=bcell hb7
 have hz7:=hb7.size
 try simp at hz7
 have hl7w:w.heap.size<w7.heap.size:=by omega
 have hm7w:w.heap.size<=w7.heap.size:=by omega
 have hl7w1:w1.heap.size<w7.heap.size:=by omega
 have hm7w1:w1.heap.size<=w7.heap.size:=by omega
 have hl7w5:w5.heap.size<w7.heap.size:=by omega
 have hm7w5:w5.heap.size<=w7.heap.size:=by omega
 have hl7w6:w6.heap.size<w7.heap.size:=by omega
 have hm7w6:w6.heap.size<=w7.heap.size:=by omega
 have g7x0:w7.cell? ⟨w1.heap.size,0,none⟩=some (.int .i64 (ry)):=cel hc7
 have g7x1:w7.cell? ⟨w1.heap.size,1,none⟩=some (.int .i64 (rn)):=cel hc7
 have g7x2:w7.cell? ⟨w1.heap.size,2,none⟩=some (.bool (rl)):=cel hc7
 have g7x3:w7.cell? ⟨w1.heap.size,3,none⟩=some (.int .i64 (rd)):=cel hc7
 have g7x4:w7.cell? ⟨w5.heap.size,0,none⟩=some (.int .i64 (cy)):=cel hc7
 have g7x5:w7.cell? ⟨w5.heap.size,1,none⟩=some (.int .i64 (cn)):=cel hc7
 have g7x6:w7.cell? ⟨w5.heap.size,2,none⟩=some (.bool (cl)):=cel hc7
 have g7x7:w7.cell? ⟨w5.heap.size,3,none⟩=some (.int .i64 (cd)):=cel hc7
 have g7x8:w7.cell? ⟨w6.heap.size,0,none⟩=some (.int .i64 (cy)):=cel hc7
 have g7x9:w7.cell? ⟨w6.heap.size,1,none⟩=some (.int .i64 (cn)):=cel hc7
 have g7x10:w7.cell? ⟨w6.heap.size,2,none⟩=some (.bool (cl)):=cel hc7
 have g7x11:w7.cell? ⟨w6.heap.size,3,none⟩=some (.int .i64 (cd)):=cel hc7
 go_wp2_with fail
 refine(HG.out _ bel).mono ?_
 rintro e w8 ⟨rfl,hb8⟩
 have hB8:Below w.heap.size w w8:=bel
 have hZ8:=hB8.size
 obtain⟨hc8,hf8⟩:=bcell hb8
 have hz8:=hb8.size
 try simp at hz8
 have hl8w:w.heap.size<w8.heap.size:=by omega
 have hm8w:w.heap.size<=w8.heap.size:=by omega
 have hl8w1:w1.heap.size<w8.heap.size:=by omega
 have hm8w1:w1.heap.size<=w8.heap.size:=by omega
 have hl8w5:w5.heap.size<w8.heap.size:=by omega
 have hm8w5:w5.heap.size<=w8.heap.size:=by omega
 have hl8w6:w6.heap.size<w8.heap.size:=by omega
 have hm8w6:w6.heap.size<=w8.heap.size:=by omega
 have g8x0:w8.cell? ⟨w1.heap.size,0,none⟩=some (.int .i64 (ry)):=cel hc8
 have g8x1:w8.cell? ⟨w1.heap.size,1,none⟩=some (.int .i64 (rn)):=cel hc8
 have g8x2:w8.cell? ⟨w1.heap.size,2,none⟩=some (.bool (rl)):=cel hc8
 have g8x3:w8.cell? ⟨w1.heap.size,3,none⟩=some (.int .i64 (rd)):=cel hc8
 have g8x4:w8.cell? ⟨w5.heap.size,0,none⟩=some (.int .i64 (cy)):=cel hc8
 have g8x5:w8.cell? ⟨w5.heap.size,1,none⟩=some (.int .i64 (cn)):=cel hc8
 have g8x6:w8.cell? ⟨w5.heap.size,2,none⟩=some (.bool (cl)):=cel hc8
 have g8x7:w8.cell? ⟨w5.heap.size,3,none⟩=some (.int .i64 (cd)):=cel hc8
 have g8x8:w8.cell? ⟨w6.heap.size,0,none⟩=some (.int .i64 (cy)):=cel hc8
 have g8x9:w8.cell? ⟨w6.heap.size,1,none⟩=some (.int .i64 (cn)):=cel hc8
 have g8x10:w8.cell? ⟨w6.heap.size,2,none⟩=some (.bool (cl)):=cel hc8
 have g8x11:w8.cell? ⟨w6.heap.size,3,none⟩=some (.int .i64 (cd)):=cel hc8
 go_wp2_with fail
 go_ret
 refine⟨by first|rfl|(simp [*];done), ?_⟩
 exact bel
theorem WholeAdds_err(y n:Int)(l:Bool)(d a b c f q k:Int)(ry rn:Int)(rl:Bool)(rd xy xn:Int)(xl:Bool)(xd cy cn:Int)(cl:Bool)(cd eh:Int)(er ef:Int)(hq: -32768<=q/\q<=32767)(hk:q.tmod 1000=k)(hk2: -1000<k/\k<1000)(he:(er !=0)=true)(he0:(er==0)=false)(he7:(er==7)=false)(hf0:(ef==0)=false)(w:World)
  (HA:Hid (∀W:World,Below w.heap.size w W->Calls Tryo.prog 18 #[.agg #[.int .i64 (y),.int .i64 (n),.bool (l),.int .i64 (d)],.agg #[.int .i64 (a),.int .i64 (b),.int .i64 (c),.int .i64 (f)],.int .i64 0] W fun e w'=>e= .returned (.tuple #[.agg #[.int .i64 (0),.int .i64 (0),.bool (false),.int .i64 (0)],.int .i64 er])/\Below W.heap.size W w'))
  (HB:Hid (∀W:World,Below w.heap.size w W->Calls Tryo.prog 18 #[.agg #[.int .i64 (y),.int .i64 (n),.bool (l),.int .i64 (d)],.agg #[.int .i64 (a),.int .i64 (b),.int .i64 (c),.int .i64 (f)],.int .i64 1] W fun e w'=>e= .returned (.tuple #[.agg #[.int .i64 (0),.int .i64 (0),.bool (false),.int .i64 (0)],.int .i64 ef])/\Below W.heap.size W w'))
  (HC:Hid (∀W:World,Below w.heap.size w W->Calls Tryo.prog 18 #[.agg #[.int .i64 (y),.int .i64 (n),.bool (l),.int .i64 (d)],.agg #[.int .i64 (a),.int .i64 (b),.int .i64 (0),.int .i64 (0)],.int .i64 0] W fun e w'=>e= .returned (.tuple #[.agg #[.int .i64 (xy),.int .i64 (xn),.bool (xl),.int .i64 (xd)],.int .i64 0])/\Below W.heap.size W w'))
  (HE:Hid (∀W:World,Below w.heap.size w W->Calls Tryo.prog 18 #[.agg #[.int .i64 (y),.int .i64 (n),.bool (l),.int .i64 (d)],.agg #[.int .i64 (0),.int .i64 (0),.int .i64 (0),.int .i64 (k)],.int .i64 1] W fun e w'=>e= .returned (.tuple #[.agg #[.int .i64 (cy),.int .i64 (cn),.bool (cl),.int .i64 (cd)],.int .i64 eh])/\Below W.heap.size W w'))
  (HF:Hid (∀W:World,Below w.heap.size w W->Calls Tryo.prog 20 #[.agg #[.int .i64 (y),.int .i64 (n),.bool (l),.int .i64 (d)],.int .i64 k] W fun e w'=>e= .returned (.tuple #[.agg #[.int .i64 (cy),.int .i64 (cn),.bool (cl),.int .i64 (cd)],.int .i64 eh])/\Below W.heap.size W w'))
  (HW:Hid (∀W:World,Below w.heap.size w W->Calls Tryo.prog 22 #[] W fun e w'=>e= .returned (.bool true)/\Below W.heap.size W w')):
  Calls Tryo.prog 6 #[.agg #[.int .i64 (y),.int .i64 (n),.bool (l),.int .i64 (d)],.agg #[.int .i64 (a),.int .i64 (b),.int .i64 (c),.int .i64 (f)],.int .i16 q] w fun e w'=>e= .returned (.bool true)/\Below w.heap.size w w':=by
 obtain⟨q1,q2⟩:=hq
 obtain⟨t1,t2⟩:=hk2
 go_enter Tryo.func6,Tryz.ntmps6
 go_wp2_with fail
 refine(HA.out _ bel).mono ?_
 rintro e w1 ⟨rfl,hb1⟩
 have hB1:Below w.heap.size w w1:=bel
 have hZ1:=hB1.size
 obtain⟨hc1,hf1⟩:=bcell hb1
 have hz1:=hb1.size
 try simp at hz1
 have hl1w:w.heap.size<w1.heap.size:=by omega
 have hm1w:w.heap.size<=w1.heap.size:=by omega
 have hs1x1:(w.heap.size+1)<w1.heap.size:=by omega
 have g1x0:w1.cell? ⟨w.heap.size,0,none⟩=some (.int .i64 (y)):=cel hc1
 have g1x1:w1.cell? ⟨w.heap.size,1,none⟩=some (.int .i64 (n)):=cel hc1
 have g1x2:w1.cell? ⟨w.heap.size,2,none⟩=some (.bool (l)):=cel hc1
 have g1x3:w1.cell? ⟨w.heap.size,3,none⟩=some (.int .i64 (d)):=cel hc1
 have g1x4:w1.cell? ⟨(w.heap.size+1),0,none⟩=some (.int .i64 (a)):=cel hc1
 have g1x5:w1.cell? ⟨(w.heap.size+1),1,none⟩=some (.int .i64 (b)):=cel hc1
 have g1x6:w1.cell? ⟨(w.heap.size+1),2,none⟩=some (.int .i64 (c)):=cel hc1
 have g1x7:w1.cell? ⟨(w.heap.size+1),3,none⟩=some (.int .i64 (f)):=cel hc1
 go_wp2_with fail
 refine(HB.out _ bel).mono ?_
 rintro e w2 ⟨rfl,hb2⟩
 have hB2:Below w.heap.size w w2:=bel
 have hZ2:=hB2.size
 obtain⟨hc2,hf2⟩:=bcell hb2
 have hz2:=hb2.size
 try simp at hz2
 have hl2w:w.heap.size<w2.heap.size:=by omega
 have hm2w:w.heap.size<=w2.heap.size:=by omega
 have hl2w1:w1.heap.size<w2.heap.size:=by omega
 have hm2w1:w1.heap.size<=w2.heap.size:=by omega
 have hs2x1:(w.heap.size+1)<w2.heap.size:=by omega
 have g2x0:w2.cell? ⟨w.heap.size,0,none⟩=some (.int .i64 (y)):=cel hc2
 have g2x1:w2.cell? ⟨w.heap.size,1,none⟩=some (.int .i64 (n)):=cel hc2
 have g2x2:w2.cell? ⟨w.heap.size,2,none⟩=some (.bool (l)):=cel hc2
 have g2x3:w2.cell? ⟨w.heap.size,3,none⟩=some (.int .i64 (d)):=cel hc2
 have g2x4:w2.cell? ⟨(w.heap.size+1),0,none⟩=some (.int .i64 (a)):=cel hc2
 have g2x5:w2.cell? ⟨(w.heap.size+1),1,none⟩=some (.int .i64 (b)):=cel hc2
 have g2x6:w2.cell? ⟨(w.heap.size+1),2,none⟩=some (.int .i64 (c)):=cel hc2
 have g2x7:w2.cell? ⟨(w.heap.size+1),3,none⟩=some (.int .i64 (f)):=cel hc2
 have g2x8:w2.cell? ⟨w1.heap.size,0,none⟩=some (.int .i64 (0)):=cel hc2
 have g2x9:w2.cell? ⟨w1.heap.size,1,none⟩=some (.int .i64 (0)):=cel hc2
 have g2x10:w2.cell? ⟨w1.heap.size,2,none⟩=some (.bool (false)):=cel hc2
 have g2x11:w2.cell? ⟨w1.heap.size,3,none⟩=some (.int .i64 (0)):=cel hc2
 go_wp2_with fail
 refine(HC.out _ bel).mono ?_
 rintro e w3 ⟨rfl,hb3⟩
 have hB3:Below w.heap.size w w3:=bel
 have hZ3:=hB3.size
 obtain⟨hc3,hf3⟩:=bcell hb3
 have hz3:=hb3.size
 try simp at hz3
 have hl3w:w.heap.size<w3.heap.size:=by omega
 have hm3w:w.heap.size<=w3.heap.size:=by omega
 have hl3w1:w1.heap.size<w3.heap.size:=by omega
 have hm3w1:w1.heap.size<=w3.heap.size:=by omega
 have hl3w2:w2.heap.size<w3.heap.size:=by omega
 have hm3w2:w2.heap.size<=w3.heap.size:=by omega
 have hs3x1:(w.heap.size+1)<w3.heap.size:=by omega
 have g3x0:w3.cell? ⟨w.heap.size,0,none⟩=some (.int .i64 (y)):=cel hc3
 have g3x1:w3.cell? ⟨w.heap.size,1,none⟩=some (.int .i64 (n)):=cel hc3
 have g3x2:w3.cell? ⟨w.heap.size,2,none⟩=some (.bool (l)):=cel hc3
 have g3x3:w3.cell? ⟨w.heap.size,3,none⟩=some (.int .i64 (d)):=cel hc3
 have g3x4:w3.cell? ⟨(w.heap.size+1),0,none⟩=some (.int .i64 (a)):=cel hc3
 have g3x5:w3.cell? ⟨(w.heap.size+1),1,none⟩=some (.int .i64 (b)):=cel hc3
 have g3x6:w3.cell? ⟨(w.heap.size+1),2,none⟩=some (.int .i64 (c)):=cel hc3
 have g3x7:w3.cell? ⟨(w.heap.size+1),3,none⟩=some (.int .i64 (f)):=cel hc3
 have g3x8:w3.cell? ⟨w1.heap.size,0,none⟩=some (.int .i64 (0)):=cel hc3
 have g3x9:w3.cell? ⟨w1.heap.size,1,none⟩=some (.int .i64 (0)):=cel hc3
 have g3x10:w3.cell? ⟨w1.heap.size,2,none⟩=some (.bool (false)):=cel hc3
 have g3x11:w3.cell? ⟨w1.heap.size,3,none⟩=some (.int .i64 (0)):=cel hc3
 have g3x12:w3.cell? ⟨w2.heap.size,0,none⟩=some (.int .i64 (0)):=cel hc3
 have g3x13:w3.cell? ⟨w2.heap.size,1,none⟩=some (.int .i64 (0)):=cel hc3
 have g3x14:w3.cell? ⟨w2.heap.size,2,none⟩=some (.bool (false)):=cel hc3
 have g3x15:w3.cell? ⟨w2.heap.size,3,none⟩=some (.int .i64 (0)):=cel hc3
 go_wp2_with fail
 refine(HE.out _ bel).mono ?_
 rintro e w5 ⟨rfl,hb5⟩
 have hB5:Below w.heap.size w w5:=bel
 have hZ5:=hB5.size
 obtain⟨hc5,hf5⟩:=bcell hb5
 have hz5:=hb5.size
 try simp at hz5
 have hl5w:w.heap.size<w5.heap.size:=by omega
 have hm5w:w.heap.size<=w5.heap.size:=by omega
 have hl5w1:w1.heap.size<w5.heap.size:=by omega
 have hm5w1:w1.heap.size<=w5.heap.size:=by omega
 have hs5x1:(w.heap.size+1)<w5.heap.size:=by omega
 have g5x0:w5.cell? ⟨w.heap.size,0,none⟩=some (.int .i64 (y)):=cel hc5
 have g5x1:w5.cell? ⟨w.heap.size,1,none⟩=some (.int .i64 (n)):=cel hc5
 have g5x2:w5.cell? ⟨w.heap.size,2,none⟩=some (.bool (l)):=cel hc5
 have g5x3:w5.cell? ⟨w.heap.size,3,none⟩=some (.int .i64 (d)):=cel hc5
 have g5x4:w5.cell? ⟨(w.heap.size+1),0,none⟩=some (.int .i64 (a)):=cel hc5
 have g5x5:w5.cell? ⟨(w.heap.size+1),1,none⟩=some (.int .i64 (b)):=cel hc5
 have g5x6:w5.cell? ⟨(w.heap.size+1),2,none⟩=some (.int .i64 (c)):=cel hc5
 have g5x7:w5.cell? ⟨(w.heap.size+1),3,none⟩=some (.int .i64 (f)):=cel hc5
 have g5x8:w5.cell? ⟨w1.heap.size,0,none⟩=some (.int .i64 (0)):=cel hc5
 have g5x9:w5.cell? ⟨w1.heap.size,1,none⟩=some (.int .i64 (0)):=cel hc5
 have g5x10:w5.cell? ⟨w1.heap.size,2,none⟩=some (.bool (false)):=cel hc5
 have g5x11:w5.cell? ⟨w1.heap.size,3,none⟩=some (.int .i64 (0)):=cel hc5
 go_wp2_with fail
 refine(HF.out _ bel).mono ?_
 rintro e w6 ⟨rfl,hb6⟩
 have hB6:Below w.heap.size w w6:=bel
 have hZ6:=hB6.size
 obtain⟨hc6,hf6⟩:=bcell hb6
 have hz6:=hb6.size
 try simp at hz6
 have hl6w:w.heap.size<w6.heap.size:=by omega
 have hm6w:w.heap.size<=w6.heap.size:=by omega
 have hl6w1:w1.heap.size<w6.heap.size:=by omega
 have hm6w1:w1.heap.size<=w6.heap.size:=by omega
 have hl6w5:w5.heap.size<w6.heap.size:=by omega
 have hm6w5:w5.heap.size<=w6.heap.size:=by omega
 have hs6x1:(w.heap.size+1)<w6.heap.size:=by omega
 have g6x0:w6.cell? ⟨w.heap.size,0,none⟩=some (.int .i64 (y)):=cel hc6
 have g6x1:w6.cell? ⟨w.heap.size,1,none⟩=some (.int .i64 (n)):=cel hc6
 have g6x2:w6.cell? ⟨w.heap.size,2,none⟩=some (.bool (l)):=cel hc6
 have g6x3:w6.cell? ⟨w.heap.size,3,none⟩=some (.int .i64 (d)):=cel hc6
 have g6x4:w6.cell? ⟨(w.heap.size+1),0,none⟩=some (.int .i64 (a)):=cel hc6
 have g6x5:w6.cell? ⟨(w.heap.size+1),1,none⟩=some (.int .i64 (b)):=cel hc6
 have g6x6:w6.cell? ⟨(w.heap.size+1),2,none⟩=some (.int .i64 (c)):=cel hc6
 have g6x7:w6.cell? ⟨(w.heap.size+1),3,none⟩=some (.int .i64 (f)):=cel hc6
 have g6x8:w6.cell? ⟨w1.heap.size,0,none⟩=some (.int .i64 (0)):=cel hc6
 have g6x9:w6.cell? ⟨w1.heap.size,1,none⟩=some (.int .i64 (0)):=cel hc6
 have g6x10:w6.cell? ⟨w1.heap.size,2,none⟩=some (.bool (false)):=cel hc6
 have g6x11:w6.cell? ⟨w1.heap.size,3,none⟩=some (.int .i64 (0)):=cel hc6
 have g6x12:w6.cell? ⟨w5.heap.size,0,none⟩=some (.int .i64 (cy)):=cel hc6
 have g6x13:w6.cell? ⟨w5.heap.size,1,none⟩=some (.int .i64 (cn)):=cel hc6
 have g6x14:w6.cell? ⟨w5.heap.size,2,none⟩=some (.bool (cl)):=cel hc6
 have g6x15:w6.cell? ⟨w5.heap.size,3,none⟩=some (.int .i64 (cd)):=cel hc6
 go_wp2_with fail
 refine(HW.out _ bel).mono ?_
 rintro e w7 ⟨rfl,hb7⟩
 have hB7:Below w.heap.size w w7:=bel
 have hZ7:=hB7.size
 obtain⟨hc7,hf7⟩:=bcell hb7
 have hz7:=hb7.size
 try simp at hz7
 have hl7w:w.heap.size<w7.heap.size:=by omega
 have hm7w:w.heap.size<=w7.heap.size:=by omega
 have hl7w1:w1.heap.size<w7.heap.size:=by omega
 have hm7w1:w1.heap.size<=w7.heap.size:=by omega
 have hl7w5:w5.heap.size<w7.heap.size:=by omega
 have hm7w5:w5.heap.size<=w7.heap.size:=by omega
 have hl7w6:w6.heap.size<w7.heap.size:=by omega
 have hm7w6:w6.heap.size<=w7.heap.size:=by omega
 have g7x0:w7.cell? ⟨w1.heap.size,0,none⟩=some (.int .i64 (0)):=cel hc7
 have g7x1:w7.cell? ⟨w1.heap.size,1,none⟩=some (.int .i64 (0)):=cel hc7
 have g7x2:w7.cell? ⟨w1.heap.size,2,none⟩=some (.bool (false)):=cel hc7
 have g7x3:w7.cell? ⟨w1.heap.size,3,none⟩=some (.int .i64 (0)):=cel hc7
 have g7x4:w7.cell? ⟨w5.heap.size,0,none⟩=some (.int .i64 (cy)):=cel hc7
 have g7x5:w7.cell? ⟨w5.heap.size,1,none⟩=some (.int .i64 (cn)):=cel hc7
 have g7x6:w7.cell? ⟨w5.heap.size,2,none⟩=some (.bool (cl)):=cel hc7
 have g7x7:w7.cell? ⟨w5.heap.size,3,none⟩=some (.int .i64 (cd)):=cel hc7
 have g7x8:w7.cell? ⟨w6.heap.size,0,none⟩=some (.int .i64 (cy)):=cel hc7
 have g7x9:w7.cell? ⟨w6.heap.size,1,none⟩=some (.int .i64 (cn)):=cel hc7
 have g7x10:w7.cell? ⟨w6.heap.size,2,none⟩=some (.bool (cl)):=cel hc7
 have g7x11:w7.cell? ⟨w6.heap.size,3,none⟩=some (.int .i64 (cd)):=cel hc7
 go_wp2_with fail
 go_ret
 refine⟨by first|rfl|(simp [*];done), ?_⟩
 exact bel
theorem WholeAdds_errg(y n:Int)(l:Bool)(d a b c f q k:Int)(ry rn:Int)(rl:Bool)(rd xy xn:Int)(xl:Bool)(xd cy cn:Int)(cl:Bool)(cd eh:Int)(er ef eg:Int)(hq: -32768<=q/\q<=32767)(hk:q.tmod 1000=k)(hk2: -1000<k/\k<1000)(he:(er !=0)=true)(he0:(er==0)=false)(he7:(er==7)=false)(hf0:(ef==0)=false)(hg0:(eg==0)=false)(w:World)
  (HA:Hid (∀W:World,Below w.heap.size w W->Calls Tryo.prog 18 #[.agg #[.int .i64 (y),.int .i64 (n),.bool (l),.int .i64 (d)],.agg #[.int .i64 (a),.int .i64 (b),.int .i64 (c),.int .i64 (f)],.int .i64 0] W fun e w'=>e= .returned (.tuple #[.agg #[.int .i64 (0),.int .i64 (0),.bool (false),.int .i64 (0)],.int .i64 er])/\Below W.heap.size W w'))
  (HB:Hid (∀W:World,Below w.heap.size w W->Calls Tryo.prog 18 #[.agg #[.int .i64 (y),.int .i64 (n),.bool (l),.int .i64 (d)],.agg #[.int .i64 (a),.int .i64 (b),.int .i64 (c),.int .i64 (f)],.int .i64 1] W fun e w'=>e= .returned (.tuple #[.agg #[.int .i64 (0),.int .i64 (0),.bool (false),.int .i64 (0)],.int .i64 ef])/\Below W.heap.size W w'))
  (HC:Hid (∀W:World,Below w.heap.size w W->Calls Tryo.prog 18 #[.agg #[.int .i64 (y),.int .i64 (n),.bool (l),.int .i64 (d)],.agg #[.int .i64 (a),.int .i64 (b),.int .i64 (0),.int .i64 (0)],.int .i64 0] W fun e w'=>e= .returned (.tuple #[.agg #[.int .i64 (0),.int .i64 (0),.bool (false),.int .i64 (0)],.int .i64 eg])/\Below W.heap.size W w'))
  (HE:Hid (∀W:World,Below w.heap.size w W->Calls Tryo.prog 18 #[.agg #[.int .i64 (y),.int .i64 (n),.bool (l),.int .i64 (d)],.agg #[.int .i64 (0),.int .i64 (0),.int .i64 (0),.int .i64 (k)],.int .i64 1] W fun e w'=>e= .returned (.tuple #[.agg #[.int .i64 (cy),.int .i64 (cn),.bool (cl),.int .i64 (cd)],.int .i64 eh])/\Below W.heap.size W w'))
  (HF:Hid (∀W:World,Below w.heap.size w W->Calls Tryo.prog 20 #[.agg #[.int .i64 (y),.int .i64 (n),.bool (l),.int .i64 (d)],.int .i64 k] W fun e w'=>e= .returned (.tuple #[.agg #[.int .i64 (cy),.int .i64 (cn),.bool (cl),.int .i64 (cd)],.int .i64 eh])/\Below W.heap.size W w'))
  (HW:Hid (∀W:World,Below w.heap.size w W->Calls Tryo.prog 22 #[] W fun e w'=>e= .returned (.bool true)/\Below W.heap.size W w')):
  Calls Tryo.prog 6 #[.agg #[.int .i64 (y),.int .i64 (n),.bool (l),.int .i64 (d)],.agg #[.int .i64 (a),.int .i64 (b),.int .i64 (c),.int .i64 (f)],.int .i16 q] w fun e w'=>e= .returned (.bool true)/\Below w.heap.size w w':=by
 obtain⟨q1,q2⟩:=hq
 obtain⟨t1,t2⟩:=hk2
 go_enter Tryo.func6,Tryz.ntmps6
 go_wp2_with fail
 refine(HA.out _ bel).mono ?_
 rintro e w1 ⟨rfl,hb1⟩
 have hB1:Below w.heap.size w w1:=bel
 have hZ1:=hB1.size
 obtain⟨hc1,hf1⟩:=bcell hb1
 have hz1:=hb1.size
 try simp at hz1
 have hl1w:w.heap.size<w1.heap.size:=by omega
 have hm1w:w.heap.size<=w1.heap.size:=by omega
 have hs1x1:(w.heap.size+1)<w1.heap.size:=by omega
 have g1x0:w1.cell? ⟨w.heap.size,0,none⟩=some (.int .i64 (y)):=cel hc1
 have g1x1:w1.cell? ⟨w.heap.size,1,none⟩=some (.int .i64 (n)):=cel hc1
 have g1x2:w1.cell? ⟨w.heap.size,2,none⟩=some (.bool (l)):=cel hc1
 have g1x3:w1.cell? ⟨w.heap.size,3,none⟩=some (.int .i64 (d)):=cel hc1
 have g1x4:w1.cell? ⟨(w.heap.size+1),0,none⟩=some (.int .i64 (a)):=cel hc1
 have g1x5:w1.cell? ⟨(w.heap.size+1),1,none⟩=some (.int .i64 (b)):=cel hc1
 have g1x6:w1.cell? ⟨(w.heap.size+1),2,none⟩=some (.int .i64 (c)):=cel hc1
 have g1x7:w1.cell? ⟨(w.heap.size+1),3,none⟩=some (.int .i64 (f)):=cel hc1
 go_wp2_with fail
 refine(HB.out _ bel).mono ?_
 rintro e w2 ⟨rfl,hb2⟩
 have hB2:Below w.heap.size w w2:=bel
 have hZ2:=hB2.size
 obtain⟨hc2,hf2⟩:=bcell hb2
 have hz2:=hb2.size
 try simp at hz2
 have hl2w:w.heap.size<w2.heap.size:=by omega
 have hm2w:w.heap.size<=w2.heap.size:=by omega
 have hl2w1:w1.heap.size<w2.heap.size:=by omega
 have hm2w1:w1.heap.size<=w2.heap.size:=by omega
 have hs2x1:(w.heap.size+1)<w2.heap.size:=by omega
 have g2x0:w2.cell? ⟨w.heap.size,0,none⟩=some (.int .i64 (y)):=cel hc2
 have g2x1:w2.cell? ⟨w.heap.size,1,none⟩=some (.int .i64 (n)):=cel hc2
 have g2x2:w2.cell? ⟨w.heap.size,2,none⟩=some (.bool (l)):=cel hc2
 have g2x3:w2.cell? ⟨w.heap.size,3,none⟩=some (.int .i64 (d)):=cel hc2
 have g2x4:w2.cell? ⟨(w.heap.size+1),0,none⟩=some (.int .i64 (a)):=cel hc2
 have g2x5:w2.cell? ⟨(w.heap.size+1),1,none⟩=some (.int .i64 (b)):=cel hc2
 have g2x6:w2.cell? ⟨(w.heap.size+1),2,none⟩=some (.int .i64 (c)):=cel hc2
 have g2x7:w2.cell? ⟨(w.heap.size+1),3,none⟩=some (.int .i64 (f)):=cel hc2
 have g2x8:w2.cell? ⟨w1.heap.size,0,none⟩=some (.int .i64 (0)):=cel hc2
 have g2x9:w2.cell? ⟨w1.heap.size,1,none⟩=some (.int .i64 (0)):=cel hc2
 have g2x10:w2.cell? ⟨w1.heap.size,2,none⟩=some (.bool (false)):=cel hc2
 have g2x11:w2.cell? ⟨w1.heap.size,3,none⟩=some (.int .i64 (0)):=cel hc2
 go_wp2_with fail
 refine(HC.out _ bel).mono ?_
 rintro e w3 ⟨rfl,hb3⟩
 have hB3:Below w.heap.size w w3:=bel
 have hZ3:=hB3.size
 obtain⟨hc3,hf3⟩:=bcell hb3
 have hz3:=hb3.size
 try simp at hz3
 have hl3w:w.heap.size<w3.heap.size:=by omega
 have hm3w:w.heap.size<=w3.heap.size:=by omega
 have hl3w1:w1.heap.size<w3.heap.size:=by omega
 have hm3w1:w1.heap.size<=w3.heap.size:=by omega
 have hl3w2:w2.heap.size<w3.heap.size:=by omega
 have hm3w2:w2.heap.size<=w3.heap.size:=by omega
 have hs3x1:(w.heap.size+1)<w3.heap.size:=by omega
 have g3x0:w3.cell? ⟨w.heap.size,0,none⟩=some (.int .i64 (y)):=cel hc3
 have g3x1:w3.cell? ⟨w.heap.size,1,none⟩=some (.int .i64 (n)):=cel hc3
 have g3x2:w3.cell? ⟨w.heap.size,2,none⟩=some (.bool (l)):=cel hc3
 have g3x3:w3.cell? ⟨w.heap.size,3,none⟩=some (.int .i64 (d)):=cel hc3
 have g3x4:w3.cell? ⟨(w.heap.size+1),0,none⟩=some (.int .i64 (a)):=cel hc3
 have g3x5:w3.cell? ⟨(w.heap.size+1),1,none⟩=some (.int .i64 (b)):=cel hc3
 have g3x6:w3.cell? ⟨(w.heap.size+1),2,none⟩=some (.int .i64 (c)):=cel hc3
 have g3x7:w3.cell? ⟨(w.heap.size+1),3,none⟩=some (.int .i64 (f)):=cel hc3
 have g3x8:w3.cell? ⟨w1.heap.size,0,none⟩=some (.int .i64 (0)):=cel hc3
 have g3x9:w3.cell? ⟨w1.heap.size,1,none⟩=some (.int .i64 (0)):=cel hc3
 have g3x10:w3.cell? ⟨w1.heap.size,2,none⟩=some (.bool (false)):=cel hc3
 have g3x11:w3.cell? ⟨w1.heap.size,3,none⟩=some (.int .i64 (0)):=cel hc3
 have g3x12:w3.cell? ⟨w2.heap.size,0,none⟩=some (.int .i64 (0)):=cel hc3
 have g3x13:w3.cell? ⟨w2.heap.size,1,none⟩=some (.int .i64 (0)):=cel hc3
 have g3x14:w3.cell? ⟨w2.heap.size,2,none⟩=some (.bool (false)):=cel hc3
 have g3x15:w3.cell? ⟨w2.heap.size,3,none⟩=some (.int .i64 (0)):=cel hc3
 go_wp2_with fail
 refine(HE.out _ bel).mono ?_
 rintro e w5 ⟨rfl,hb5⟩
 have hB5:Below w.heap.size w w5:=bel
 have hZ5:=hB5.size
 obtain⟨hc5,hf5⟩:=bcell hb5
 have hz5:=hb5.size
 try simp at hz5
 have hl5w:w.heap.size<w5.heap.size:=by omega
 have hm5w:w.heap.size<=w5.heap.size:=by omega
 have hl5w1:w1.heap.size<w5.heap.size:=by omega
 have hm5w1:w1.heap.size<=w5.heap.size:=by omega
 have hs5x1:(w.heap.size+1)<w5.heap.size:=by omega
 have g5x0:w5.cell? ⟨w.heap.size,0,none⟩=some (.int .i64 (y)):=cel hc5
 have g5x1:w5.cell? ⟨w.heap.size,1,none⟩=some (.int .i64 (n)):=cel hc5
 have g5x2:w5.cell? ⟨w.heap.size,2,none⟩=some (.bool (l)):=cel hc5
 have g5x3:w5.cell? ⟨w.heap.size,3,none⟩=some (.int .i64 (d)):=cel hc5
 have g5x4:w5.cell? ⟨(w.heap.size+1),0,none⟩=some (.int .i64 (a)):=cel hc5
 have g5x5:w5.cell? ⟨(w.heap.size+1),1,none⟩=some (.int .i64 (b)):=cel hc5
 have g5x6:w5.cell? ⟨(w.heap.size+1),2,none⟩=some (.int .i64 (c)):=cel hc5
 have g5x7:w5.cell? ⟨(w.heap.size+1),3,none⟩=some (.int .i64 (f)):=cel hc5
 have g5x8:w5.cell? ⟨w1.heap.size,0,none⟩=some (.int .i64 (0)):=cel hc5
 have g5x9:w5.cell? ⟨w1.heap.size,1,none⟩=some (.int .i64 (0)):=cel hc5
 have g5x10:w5.cell? ⟨w1.heap.size,2,none⟩=some (.bool (false)):=cel hc5
 have g5x11:w5.cell? ⟨w1.heap.size,3,none⟩=some (.int .i64 (0)):=cel hc5
 go_wp2_with fail
 refine(HF.out _ bel).mono ?_
 rintro e w6 ⟨rfl,hb6⟩
 have hB6:Below w.heap.size w w6:=bel
 have hZ6:=hB6.size
 obtain⟨hc6,hf6⟩:=bcell hb6
 have hz6:=hb6.size
 try simp at hz6
 have hl6w:w.heap.size<w6.heap.size:=by omega
 have hm6w:w.heap.size<=w6.heap.size:=by omega
 have hl6w1:w1.heap.size<w6.heap.size:=by omega
 have hm6w1:w1.heap.size<=w6.heap.size:=by omega
 have hl6w5:w5.heap.size<w6.heap.size:=by omega
 have hm6w5:w5.heap.size<=w6.heap.size:=by omega
 have hs6x1:(w.heap.size+1)<w6.heap.size:=by omega
 have g6x0:w6.cell? ⟨w.heap.size,0,none⟩=some (.int .i64 (y)):=cel hc6
 have g6x1:w6.cell? ⟨w.heap.size,1,none⟩=some (.int .i64 (n)):=cel hc6
 have g6x2:w6.cell? ⟨w.heap.size,2,none⟩=some (.bool (l)):=cel hc6
 have g6x3:w6.cell? ⟨w.heap.size,3,none⟩=some (.int .i64 (d)):=cel hc6
 have g6x4:w6.cell? ⟨(w.heap.size+1),0,none⟩=some (.int .i64 (a)):=cel hc6
 have g6x5:w6.cell? ⟨(w.heap.size+1),1,none⟩=some (.int .i64 (b)):=cel hc6
 have g6x6:w6.cell? ⟨(w.heap.size+1),2,none⟩=some (.int .i64 (c)):=cel hc6
 have g6x7:w6.cell? ⟨(w.heap.size+1),3,none⟩=some (.int .i64 (f)):=cel hc6
 have g6x8:w6.cell? ⟨w1.heap.size,0,none⟩=some (.int .i64 (0)):=cel hc6
 have g6x9:w6.cell? ⟨w1.heap.size,1,none⟩=some (.int .i64 (0)):=cel hc6
 have g6x10:w6.cell? ⟨w1.heap.size,2,none⟩=some (.bool (false)):=cel hc6
 have g6x11:w6.cell? ⟨w1.heap.size,3,none⟩=some (.int .i64 (0)):=cel hc6
 have g6x12:w6.cell? ⟨w5.heap.size,0,none⟩=some (.int .i64 (cy)):=cel hc6
 have g6x13:w6.cell? ⟨w5.heap.size,1,none⟩=some (.int .i64 (cn)):=cel hc6
 have g6x14:w6.cell? ⟨w5.heap.size,2,none⟩=some (.bool (cl)):=cel hc6
 have g6x15:w6.cell? ⟨w5.heap.size,3,none⟩=some (.int .i64 (cd)):=cel hc6
 go_wp2_with fail
 refine(HW.out _ bel).mono ?_
 rintro e w7 ⟨rfl,hb7⟩
 have hB7:Below w.heap.size w w7:=bel
 have hZ7:=hB7.size
 obtain⟨hc7,hf7⟩:=bcell hb7
 have hz7:=hb7.size
 try simp at hz7
 have hl7w:w.heap.size<w7.heap.size:=by omega
 have hm7w:w.heap.size<=w7.heap.size:=by omega
 have hl7w1:w1.heap.size<w7.heap.size:=by omega
 have hm7w1:w1.heap.size<=w7.heap.size:=by omega
 have hl7w5:w5.heap.size<w7.heap.size:=by omega
 have hm7w5:w5.heap.size<=w7.heap.size:=by omega
 have hl7w6:w6.heap.size<w7.heap.size:=by omega
 have hm7w6:w6.heap.size<=w7.heap.size:=by omega
 have g7x0:w7.cell? ⟨w1.heap.size,0,none⟩=some (.int .i64 (0)):=cel hc7
 have g7x1:w7.cell? ⟨w1.heap.size,1,none⟩=some (.int .i64 (0)):=cel hc7
 have g7x2:w7.cell? ⟨w1.heap.size,2,none⟩=some (.bool (false)):=cel hc7
 have g7x3:w7.cell? ⟨w1.heap.size,3,none⟩=some (.int .i64 (0)):=cel hc7
 have g7x4:w7.cell? ⟨w5.heap.size,0,none⟩=some (.int .i64 (cy)):=cel hc7
 have g7x5:w7.cell? ⟨w5.heap.size,1,none⟩=some (.int .i64 (cn)):=cel hc7
 have g7x6:w7.cell? ⟨w5.heap.size,2,none⟩=some (.bool (cl)):=cel hc7
 have g7x7:w7.cell? ⟨w5.heap.size,3,none⟩=some (.int .i64 (cd)):=cel hc7
 have g7x8:w7.cell? ⟨w6.heap.size,0,none⟩=some (.int .i64 (cy)):=cel hc7
 have g7x9:w7.cell? ⟨w6.heap.size,1,none⟩=some (.int .i64 (cn)):=cel hc7
 have g7x10:w7.cell? ⟨w6.heap.size,2,none⟩=some (.bool (cl)):=cel hc7
 have g7x11:w7.cell? ⟨w6.heap.size,3,none⟩=some (.int .i64 (cd)):=cel hc7
 go_wp2_with fail
 go_ret
 refine⟨by first|rfl|(simp [*];done), ?_⟩
 exact bel
end Go.Proofs.YthnjjcoahdhmnaaGreatDoor
