import Derived.Test.YthnjjcoahdhmnaaGreatDoorOHR
set_option maxHeartbeats 8000000
set_option maxRecDepth 100000
set_option linter.unusedSimpArgs false
set_option linter.unusedVariables false
namespace Go.Proofs.YthnjjcoahdhmnaaGreatDoor
open Go.ChangeShapes Go.WideShapes Go.ChangeAt Go.RowKit Go.Lib
abbrev QqCc(w:World)(f:Nat)(a:Array Value)(v:Value):Prop:=Hid (∀W:World,Below w.heap.size w W->Calls Tryo.prog f a W fun e w'=>e= .returned v/\Below W.heap.size W w')
theorem Fw(y n:Int)(l:Bool)(d z k:Int)(h:Bool)(f:Int)(D1 D2 ry rn:Int)(rl:Bool)(rd sy sn:Int)(sl:Bool)(sd:Int)(tx nx:ByteArray)(er eb:Int)(he:(er !=0)=true)(he2:(er==0)=false)(w:World)
  (HA:QqCc w 15 #[.agg #[.int .i64 y,.int .i64 n,.bool l,.int .i64 d]] (.tuple #[.int .i64 D1,.int .i64 er]))
  (HB:QqCc w 15 #[.agg #[.int .i64 z,.int .i64 k,.bool h,.int .i64 f]] (.tuple #[.int .i64 D2,.int .i64 eb]))
  (HC:QqCc w 16 #[.agg #[.int .i64 y,.int .i64 n,.bool l,.int .i64 d]] (.tuple #[.string tx,.int .i64 er]))
  (HD:QqCc w 17 #[.agg #[.int .i64 y,.int .i64 n,.bool l,.int .i64 d]] (.tuple #[.string nx,.int .i64 er]))
  (HE:QqCc w 18 #[.agg #[.int .i64 y,.int .i64 n,.bool l,.int .i64 d],.agg #[.int .i64 0,.int .i64 0,.int .i64 0,.int .i64 0],.int .i64 0] (.tuple #[.agg #[.int .i64 ry,.int .i64 rn,.bool rl,.int .i64 rd],.int .i64 er]))
  (HF:QqCc w 19 #[.agg #[.int .i64 y,.int .i64 n,.bool l,.int .i64 d],.agg #[.int .i64 y,.int .i64 n,.bool l,.int .i64 d],.int .i64 0] (.tuple #[.agg #[.int .i64 0,.int .i64 0,.int .i64 0,.int .i64 0],.int .i64 er]))
  (HG:QqCc w 20 #[.agg #[.int .i64 y,.int .i64 n,.bool l,.int .i64 d],.int .i64 0] (.tuple #[.agg #[.int .i64 sy,.int .i64 sn,.bool sl,.int .i64 sd],.int .i64 er]))
  (HK:QqCc w 21 #[.agg #[.int .i64 y,.int .i64 n,.bool l,.int .i64 d]] (.int .i64 er))
  (HW:QqCc w 22 #[] (.bool true)):
  Calls Tryo.prog 4 #[.agg #[.int .i64 y,.int .i64 n,.bool l,.int .i64 d],.agg #[.int .i64 z,.int .i64 k,.bool h,.int .i64 f]] w fun e w'=>e= .returned (.bool true)/\Below w.heap.size w w':=by
 go_enter Tryo.func4,Tryz.ntmps4
 go_wp2_with fail
 refine(HA.out _ bel).mono ?_
 rintro e w1 ⟨rfl,hb1⟩
 have hB1:Below w.heap.size w w1:=bel
 have hZ1:=hB1.size
 obtain⟨hc1,hf1⟩:=aA hb1
 have hz1:=hb1.size
 try simp at hz1
 have hs1x0:w.heap.size<w1.heap.size:=by omega
 have hs1x1:(w.heap.size+1)<w1.heap.size:=by omega
 have⟨g1x0,g1x1,g1x2,g1x3⟩:=ce4 hc1 (w.heap.size) (y) (n) (l) (d)
 have⟨g1x4,g1x5,g1x6,g1x7⟩:=ce4 hc1 (w.heap.size+1) (z) (k) (h) (f)
 go_wp2_with fail
 refine(HB.out _ bel).mono ?_
 rintro e w2 ⟨rfl,hb2⟩
 have hB2:Below w.heap.size w w2:=bel
 have hZ2:=hB2.size
 obtain⟨hc2,hf2⟩:=aA hb2
 have hz2:=hb2.size
 try simp at hz2
 have hs2x0:w.heap.size<w2.heap.size:=by omega
 have hs2x1:(w.heap.size+1)<w2.heap.size:=by omega
 have⟨g2x0,g2x1,g2x2,g2x3⟩:=ce4 hc2 (w.heap.size) (y) (n) (l) (d)
 have⟨g2x4,g2x5,g2x6,g2x7⟩:=ce4 hc2 (w.heap.size+1) (z) (k) (h) (f)
 go_wp2_with fail
 refine(HC.out _ bel).mono ?_
 rintro e w3 ⟨rfl,hb3⟩
 have hB3:Below w.heap.size w w3:=bel
 have hZ3:=hB3.size
 obtain⟨hc3,hf3⟩:=aA hb3
 have hz3:=hb3.size
 try simp at hz3
 have hs3x0:w.heap.size<w3.heap.size:=by omega
 have hs3x1:(w.heap.size+1)<w3.heap.size:=by omega
 have⟨g3x0,g3x1,g3x2,g3x3⟩:=ce4 hc3 (w.heap.size) (y) (n) (l) (d)
 have⟨g3x4,g3x5,g3x6,g3x7⟩:=ce4 hc3 (w.heap.size+1) (z) (k) (h) (f)
 go_wp2_with fail
 refine(HD.out _ bel).mono ?_
 rintro e w4 ⟨rfl,hb4⟩
 have hB4:Below w.heap.size w w4:=bel
 have hZ4:=hB4.size
 obtain⟨hc4,hf4⟩:=aA hb4
 have hz4:=hb4.size
 try simp at hz4
 have hs4x0:w.heap.size<w4.heap.size:=by omega
 have hs4x1:(w.heap.size+1)<w4.heap.size:=by omega
 have⟨g4x0,g4x1,g4x2,g4x3⟩:=ce4 hc4 (w.heap.size) (y) (n) (l) (d)
 have⟨g4x4,g4x5,g4x6,g4x7⟩:=ce4 hc4 (w.heap.size+1) (z) (k) (h) (f)
 go_wp2_with fail
 refine(HE.out _ bel).mono ?_
 rintro e w5 ⟨rfl,hb5⟩
 have hB5:Below w.heap.size w w5:=bel
 have hZ5:=hB5.size
 obtain⟨hc5,hf5⟩:=aA hb5
 have hz5:=hb5.size
 try simp at hz5
 have hs5x0:w.heap.size<w5.heap.size:=by omega
 have hs5x1:(w.heap.size+1)<w5.heap.size:=by omega
 have⟨g5x0,g5x1,g5x2,g5x3⟩:=ce4 hc5 (w.heap.size) (y) (n) (l) (d)
 have⟨g5x4,g5x5,g5x6,g5x7⟩:=ce4 hc5 (w.heap.size+1) (z) (k) (h) (f)
 go_wp2_with fail
 refine(HF.out _ bel).mono ?_
 rintro e w6 ⟨rfl,hb6⟩
 have hB6:Below w.heap.size w w6:=bel
 have hZ6:=hB6.size
 obtain⟨hc6,hf6⟩:=aA hb6
 have hz6:=hb6.size
 try simp at hz6
 have hs6x0:w.heap.size<w6.heap.size:=by omega
 have hs6x1:(w.heap.size+1)<w6.heap.size:=by omega
 have⟨g6x0,g6x1,g6x2,g6x3⟩:=ce4 hc6 (w.heap.size) (y) (n) (l) (d)
 have⟨g6x4,g6x5,g6x6,g6x7⟩:=ce4 hc6 (w.heap.size+1) (z) (k) (h) (f)
 go_wp2_with fail
 refine(HG.out _ bel).mono ?_
 rintro e w7 ⟨rfl,hb7⟩
 have hB7:Below w.heap.size w w7:=bel
 have hZ7:=hB7.size
 obtain⟨hc7,hf7⟩:=aA hb7
 have hz7:=hb7.size
 try simp at hz7
 have hs7x0:w.heap.size<w7.heap.size:=by omega
 have hs7x1:(w.heap.size+1)<w7.heap.size:=by omega
 have⟨g7x0,g7x1,g7x2,g7x3⟩:=ce4 hc7 (w.heap.size) (y) (n) (l) (d)
 have⟨g7x4,g7x5,g7x6,g7x7⟩:=ce4 hc7 (w.heap.size+1) (z) (k) (h) (f)
 go_wp2_with fail
 refine(HK.out _ bel).mono ?_
 rintro e w8 ⟨rfl,hb8⟩
 have hB8:Below w.heap.size w w8:=bel
 have hZ8:=hB8.size
 obtain⟨hc8,hf8⟩:=aA hb8
 have hz8:=hb8.size
 try simp at hz8
 have hs8x0:w.heap.size<w8.heap.size:=by omega
 have hs8x1:(w.heap.size+1)<w8.heap.size:=by omega
 have⟨g8x0,g8x1,g8x2,g8x3⟩:=ce4 hc8 (w.heap.size) (y) (n) (l) (d)
 have⟨g8x4,g8x5,g8x6,g8x7⟩:=ce4 hc8 (w.heap.size+1) (z) (k) (h) (f)
 go_wp2_with fail
 refine(HW.out _ bel).mono ?_
 rintro e w9 ⟨rfl,hb9⟩
 have hB9:Below w.heap.size w w9:=bel
 have hZ9:=hB9.size
 obtain⟨hc9,hf9⟩:=aA hb9
 have hz9:=hb9.size
 try simp at hz9
 go_wp2_with fail
 go_ret
 refine⟨by first|rfl|(simp [*];done), ?_⟩
 exact bel
theorem FZ(y n:Int)(l:Bool)(d z k:Int)(h:Bool)(f:Int)(D1 D2 ry rn:Int)(rl:Bool)(rd sy sn:Int)(sl:Bool)(sd:Int)(tx nx:ByteArray)(eb:Int)(he:(eb !=0)=true)(he2:(eb==0)=false)(w:World)
  (HA:QqCc w 15 #[.agg #[.int .i64 y,.int .i64 n,.bool l,.int .i64 d]] (.tuple #[.int .i64 D1,.int .i64 0]))
  (HB:QqCc w 15 #[.agg #[.int .i64 z,.int .i64 k,.bool h,.int .i64 f]] (.tuple #[.int .i64 D2,.int .i64 eb]))
  (HC:QqCc w 16 #[.agg #[.int .i64 y,.int .i64 n,.bool l,.int .i64 d]] (.tuple #[.string tx,.int .i64 0]))
  (HD:QqCc w 17 #[.agg #[.int .i64 y,.int .i64 n,.bool l,.int .i64 d]] (.tuple #[.string nx,.int .i64 0]))
  (HE:QqCc w 18 #[.agg #[.int .i64 y,.int .i64 n,.bool l,.int .i64 d],.agg #[.int .i64 0,.int .i64 0,.int .i64 0,.int .i64 0],.int .i64 0] (.tuple #[.agg #[.int .i64 ry,.int .i64 rn,.bool rl,.int .i64 rd],.int .i64 0]))
  (HF:QqCc w 19 #[.agg #[.int .i64 y,.int .i64 n,.bool l,.int .i64 d],.agg #[.int .i64 y,.int .i64 n,.bool l,.int .i64 d],.int .i64 0] (.tuple #[.agg #[.int .i64 0,.int .i64 0,.int .i64 0,.int .i64 0],.int .i64 0]))
  (HG:QqCc w 20 #[.agg #[.int .i64 y,.int .i64 n,.bool l,.int .i64 d],.int .i64 0] (.tuple #[.agg #[.int .i64 sy,.int .i64 sn,.bool sl,.int .i64 sd],.int .i64 0]))
  (HK:QqCc w 21 #[.agg #[.int .i64 y,.int .i64 n,.bool l,.int .i64 d]] (.int .i64 0))
  (HW:QqCc w 22 #[] (.bool true)):
  Calls Tryo.prog 4 #[.agg #[.int .i64 y,.int .i64 n,.bool l,.int .i64 d],.agg #[.int .i64 z,.int .i64 k,.bool h,.int .i64 f]] w fun e w'=>e= .returned (.bool true)/\Below w.heap.size w w':=by
 go_enter Tryo.func4,Tryz.ntmps4
 go_wp2_with fail
 refine(HA.out _ bel).mono ?_
 rintro e w1 ⟨rfl,hb1⟩
 have hB1:Below w.heap.size w w1:=bel
 have hZ1:=hB1.size
 obtain⟨hc1,hf1⟩:=aA hb1
 have hz1:=hb1.size
 try simp at hz1
 have hs1x0:w.heap.size<w1.heap.size:=by omega
 have hs1x1:(w.heap.size+1)<w1.heap.size:=by omega
 have⟨g1x0,g1x1,g1x2,g1x3⟩:=ce4 hc1 (w.heap.size) (y) (n) (l) (d)
 have⟨g1x4,g1x5,g1x6,g1x7⟩:=ce4 hc1 (w.heap.size+1) (z) (k) (h) (f)
 go_wp2_with fail
 refine(HB.out _ bel).mono ?_
 rintro e w2 ⟨rfl,hb2⟩
 have hB2:Below w.heap.size w w2:=bel
 have hZ2:=hB2.size
 obtain⟨hc2,hf2⟩:=aA hb2
 have hz2:=hb2.size
 try simp at hz2
 have hs2x0:w.heap.size<w2.heap.size:=by omega
 have hs2x1:(w.heap.size+1)<w2.heap.size:=by omega
 have⟨g2x0,g2x1,g2x2,g2x3⟩:=ce4 hc2 (w.heap.size) (y) (n) (l) (d)
 have⟨g2x4,g2x5,g2x6,g2x7⟩:=ce4 hc2 (w.heap.size+1) (z) (k) (h) (f)
 go_wp2_with fail
 refine(HC.out _ bel).mono ?_
 rintro e w3 ⟨rfl,hb3⟩
 have hB3:Below w.heap.size w w3:=bel
 have hZ3:=hB3.size
 obtain⟨hc3,hf3⟩:=aA hb3
 have hz3:=hb3.size
 try simp at hz3
 have hs3x0:w.heap.size<w3.heap.size:=by omega
 have hs3x1:(w.heap.size+1)<w3.heap.size:=by omega
 have⟨g3x0,g3x1,g3x2,g3x3⟩:=ce4 hc3 (w.heap.size) (y) (n) (l) (d)
 have⟨g3x4,g3x5,g3x6,g3x7⟩:=ce4 hc3 (w.heap.size+1) (z) (k) (h) (f)
 go_wp2_with fail
 refine(HD.out _ bel).mono ?_
 rintro e w4 ⟨rfl,hb4⟩
 have hB4:Below w.heap.size w w4:=bel
 have hZ4:=hB4.size
 obtain⟨hc4,hf4⟩:=aA hb4
 have hz4:=hb4.size
 try simp at hz4
 have hs4x0:w.heap.size<w4.heap.size:=by omega
 have hs4x1:(w.heap.size+1)<w4.heap.size:=by omega
 have⟨g4x0,g4x1,g4x2,g4x3⟩:=ce4 hc4 (w.heap.size) (y) (n) (l) (d)
 have⟨g4x4,g4x5,g4x6,g4x7⟩:=ce4 hc4 (w.heap.size+1) (z) (k) (h) (f)
 go_wp2_with fail
 refine(HE.out _ bel).mono ?_
 rintro e w5 ⟨rfl,hb5⟩
 have hB5:Below w.heap.size w w5:=bel
 have hZ5:=hB5.size
 obtain⟨hc5,hf5⟩:=aA hb5
 have hz5:=hb5.size
 try simp at hz5
 have hs5x0:w.heap.size<w5.heap.size:=by omega
 have hs5x1:(w.heap.size+1)<w5.heap.size:=by omega
 have⟨g5x0,g5x1,g5x2,g5x3⟩:=ce4 hc5 (w.heap.size) (y) (n) (l) (d)
 have⟨g5x4,g5x5,g5x6,g5x7⟩:=ce4 hc5 (w.heap.size+1) (z) (k) (h) (f)
 go_wp2_with fail
 refine(HF.out _ bel).mono ?_
 rintro e w6 ⟨rfl,hb6⟩
 have hB6:Below w.heap.size w w6:=bel
 have hZ6:=hB6.size
 obtain⟨hc6,hf6⟩:=aA hb6
 have hz6:=hb6.size
 try simp at hz6
 have hs6x0:w.heap.size<w6.heap.size:=by omega
 have hs6x1:(w.heap.size+1)<w6.heap.size:=by omega
 have⟨g6x0,g6x1,g6x2,g6x3⟩:=ce4 hc6 (w.heap.size) (y) (n) (l) (d)
 have⟨g6x4,g6x5,g6x6,g6x7⟩:=ce4 hc6 (w.heap.size+1) (z) (k) (h) (f)
 go_wp2_with fail
 refine(HG.out _ bel).mono ?_
 rintro e w7 ⟨rfl,hb7⟩
 have hB7:Below w.heap.size w w7:=bel
 have hZ7:=hB7.size
 obtain⟨hc7,hf7⟩:=aA hb7
 have hz7:=hb7.size
 try simp at hz7
 have hs7x0:w.heap.size<w7.heap.size:=by omega
 have hs7x1:(w.heap.size+1)<w7.heap.size:=by omega
 have⟨g7x0,g7x1,g7x2,g7x3⟩:=ce4 hc7 (w.heap.size) (y) (n) (l) (d)
 have⟨g7x4,g7x5,g7x6,g7x7⟩:=ce4 hc7 (w.heap.size+1) (z) (k) (h) (f)
 go_wp2_with fail
 refine(HK.out _ bel).mono ?_
 rintro e w8 ⟨rfl,hb8⟩
 have hB8:Below w.heap.size w w8:=bel
 have hZ8:=hB8.size
 obtain⟨hc8,hf8⟩:=aA hb8
 have hz8:=hb8.size
 try simp at hz8
 have hs8x0:w.heap.size<w8.heap.size:=by omega
 have hs8x1:(w.heap.size+1)<w8.heap.size:=by omega
 have⟨g8x0,g8x1,g8x2,g8x3⟩:=ce4 hc8 (w.heap.size) (y) (n) (l) (d)
 have⟨g8x4,g8x5,g8x6,g8x7⟩:=ce4 hc8 (w.heap.size+1) (z) (k) (h) (f)
 go_wp2_with fail
 refine(HW.out _ bel).mono ?_
 rintro e w9 ⟨rfl,hb9⟩
 have hB9:Below w.heap.size w w9:=bel
 have hZ9:=hB9.size
 obtain⟨hc9,hf9⟩:=aA hb9
 have hz9:=hb9.size
 try simp at hz9
 go_wp2_with fail
 go_ret
 refine⟨by first|rfl|(simp [*];done), ?_⟩
 exact bel
theorem FX(y n:Int)(l:Bool)(d z k:Int)(h:Bool)(f:Int)(D1 D2 ry rn:Int)(rl:Bool)(rd sy sn:Int)(sl:Bool)(sd:Int)(tx nx:ByteArray)(hc:D1<D2)(hc1:decide (D1<D2)=true)(hc2:decide (D2<D1)=false)(w:World)
  (HA:QqCc w 15 #[.agg #[.int .i64 y,.int .i64 n,.bool l,.int .i64 d]] (.tuple #[.int .i64 D1,.int .i64 0]))
  (HB:QqCc w 15 #[.agg #[.int .i64 z,.int .i64 k,.bool h,.int .i64 f]] (.tuple #[.int .i64 D2,.int .i64 0]))
  (HC:QqCc w 16 #[.agg #[.int .i64 y,.int .i64 n,.bool l,.int .i64 d]] (.tuple #[.string tx,.int .i64 0]))
  (HD:QqCc w 17 #[.agg #[.int .i64 y,.int .i64 n,.bool l,.int .i64 d]] (.tuple #[.string nx,.int .i64 0]))
  (HE:QqCc w 18 #[.agg #[.int .i64 y,.int .i64 n,.bool l,.int .i64 d],.agg #[.int .i64 0,.int .i64 0,.int .i64 0,.int .i64 0],.int .i64 0] (.tuple #[.agg #[.int .i64 ry,.int .i64 rn,.bool rl,.int .i64 rd],.int .i64 0]))
  (HF:QqCc w 19 #[.agg #[.int .i64 y,.int .i64 n,.bool l,.int .i64 d],.agg #[.int .i64 y,.int .i64 n,.bool l,.int .i64 d],.int .i64 0] (.tuple #[.agg #[.int .i64 0,.int .i64 0,.int .i64 0,.int .i64 0],.int .i64 0]))
  (HG:QqCc w 20 #[.agg #[.int .i64 y,.int .i64 n,.bool l,.int .i64 d],.int .i64 0] (.tuple #[.agg #[.int .i64 sy,.int .i64 sn,.bool sl,.int .i64 sd],.int .i64 0]))
  (HK:QqCc w 21 #[.agg #[.int .i64 y,.int .i64 n,.bool l,.int .i64 d]] (.int .i64 0))
  (HW:QqCc w 22 #[] (.bool true))
  (HI:QqCc w 23 #[.int .i64 D1] (.tuple #[.agg #[.int .i64 y,.int .i64 n,.bool l,.int .i64 d],.int .i64 0]))
  (HL:QqCc w 24 #[.agg #[.int .i64 y,.int .i64 n,.bool l,.int .i64 d],.agg #[.int .i64 z,.int .i64 k,.bool h,.int .i64 f]] (.bool true))
  (HM:QqCc w 24 #[.agg #[.int .i64 z,.int .i64 k,.bool h,.int .i64 f],.agg #[.int .i64 y,.int .i64 n,.bool l,.int .i64 d]] (.bool false)):
  Calls Tryo.prog 4 #[.agg #[.int .i64 y,.int .i64 n,.bool l,.int .i64 d],.agg #[.int .i64 z,.int .i64 k,.bool h,.int .i64 f]] w fun e w'=>e= .returned (.bool true)/\Below w.heap.size w w':=by
 go_enter Tryo.func4,Tryz.ntmps4
 go_wp2_with fail
 refine(HA.out _ bel).mono ?_
 rintro e w1 ⟨rfl,hb1⟩
 have hB1:Below w.heap.size w w1:=bel
 have hZ1:=hB1.size
 obtain⟨hc1,hf1⟩:=aA hb1
 have hz1:=hb1.size
 try simp at hz1
 have hs1x0:w.heap.size<w1.heap.size:=by omega
 have hs1x1:(w.heap.size+1)<w1.heap.size:=by omega
 have⟨g1x0,g1x1,g1x2,g1x3⟩:=ce4 hc1 (w.heap.size) (y) (n) (l) (d)
 have⟨g1x4,g1x5,g1x6,g1x7⟩:=ce4 hc1 (w.heap.size+1) (z) (k) (h) (f)
 go_wp2_with fail
 refine(HB.out _ bel).mono ?_
 rintro e w2 ⟨rfl,hb2⟩
 have hB2:Below w.heap.size w w2:=bel
 have hZ2:=hB2.size
 obtain⟨hc2,hf2⟩:=aA hb2
 have hz2:=hb2.size
 try simp at hz2
 have hs2x0:w.heap.size<w2.heap.size:=by omega
 have hs2x1:(w.heap.size+1)<w2.heap.size:=by omega
 have⟨g2x0,g2x1,g2x2,g2x3⟩:=ce4 hc2 (w.heap.size) (y) (n) (l) (d)
 have⟨g2x4,g2x5,g2x6,g2x7⟩:=ce4 hc2 (w.heap.size+1) (z) (k) (h) (f)
 go_wp2_with fail
 refine(HC.out _ bel).mono ?_
 rintro e w3 ⟨rfl,hb3⟩
 have hB3:Below w.heap.size w w3:=bel
 have hZ3:=hB3.size
 obtain⟨hc3,hf3⟩:=aA hb3
 have hz3:=hb3.size
 try simp at hz3
 have hs3x0:w.heap.size<w3.heap.size:=by omega
 have hs3x1:(w.heap.size+1)<w3.heap.size:=by omega
 have⟨g3x0,g3x1,g3x2,g3x3⟩:=ce4 hc3 (w.heap.size) (y) (n) (l) (d)
 have⟨g3x4,g3x5,g3x6,g3x7⟩:=ce4 hc3 (w.heap.size+1) (z) (k) (h) (f)
 go_wp2_with fail
 refine(HD.out _ bel).mono ?_
 rintro e w4 ⟨rfl,hb4⟩
 have hB4:Below w.heap.size w w4:=bel
 have hZ4:=hB4.size
 obtain⟨hc4,hf4⟩:=aA hb4
 have hz4:=hb4.size
 try simp at hz4
 have hs4x0:w.heap.size<w4.heap.size:=by omega
 have hs4x1:(w.heap.size+1)<w4.heap.size:=by omega
 have⟨g4x0,g4x1,g4x2,g4x3⟩:=ce4 hc4 (w.heap.size) (y) (n) (l) (d)
 have⟨g4x4,g4x5,g4x6,g4x7⟩:=ce4 hc4 (w.heap.size+1) (z) (k) (h) (f)
 go_wp2_with fail
 refine(HE.out _ bel).mono ?_
 rintro e w5 ⟨rfl,hb5⟩
 have hB5:Below w.heap.size w w5:=bel
 have hZ5:=hB5.size
 obtain⟨hc5,hf5⟩:=aA hb5
 have hz5:=hb5.size
 try simp at hz5
 have hs5x0:w.heap.size<w5.heap.size:=by omega
 have hs5x1:(w.heap.size+1)<w5.heap.size:=by omega
 have⟨g5x0,g5x1,g5x2,g5x3⟩:=ce4 hc5 (w.heap.size) (y) (n) (l) (d)
 have⟨g5x4,g5x5,g5x6,g5x7⟩:=ce4 hc5 (w.heap.size+1) (z) (k) (h) (f)
 go_wp2_with fail
 refine(HF.out _ bel).mono ?_
 rintro e w6 ⟨rfl,hb6⟩
 have hB6:Below w.heap.size w w6:=bel
 have hZ6:=hB6.size
 obtain⟨hc6,hf6⟩:=aA hb6
 have hz6:=hb6.size
 try simp at hz6
 have hs6x0:w.heap.size<w6.heap.size:=by omega
 have hs6x1:(w.heap.size+1)<w6.heap.size:=by omega
 have⟨g6x0,g6x1,g6x2,g6x3⟩:=ce4 hc6 (w.heap.size) (y) (n) (l) (d)
 have⟨g6x4,g6x5,g6x6,g6x7⟩:=ce4 hc6 (w.heap.size+1) (z) (k) (h) (f)
 go_wp2_with fail
 refine(HG.out _ bel).mono ?_
 rintro e w7 ⟨rfl,hb7⟩
 have hB7:Below w.heap.size w w7:=bel
 have hZ7:=hB7.size
 obtain⟨hc7,hf7⟩:=aA hb7
 have hz7:=hb7.size
 try simp at hz7
 have hs7x0:w.heap.size<w7.heap.size:=by omega
 have hs7x1:(w.heap.size+1)<w7.heap.size:=by omega
 have⟨g7x0,g7x1,g7x2,g7x3⟩:=ce4 hc7 (w.heap.size) (y) (n) (l) (d)
 have⟨g7x4,g7x5,g7x6,g7x7⟩:=ce4 hc7 (w.heap.size+1) (z) (k) (h) (f)
 go_wp2_with fail
 refine(HK.out _ bel).mono ?_
 rintro e w8 ⟨rfl,hb8⟩
 have hB8:Below w.heap.size w w8:=bel
 have hZ8:=hB8.size
 obtain⟨hc8,hf8⟩:=aA hb8
 have hz8:=hb8.size
 try simp at hz8
 have hs8x0:w.heap.size<w8.heap.size:=by omega
 have hs8x1:(w.heap.size+1)<w8.heap.size:=by omega
 have⟨g8x0,g8x1,g8x2,g8x3⟩:=ce4 hc8 (w.heap.size) (y) (n) (l) (d)
 have⟨g8x4,g8x5,g8x6,g8x7⟩:=ce4 hc8 (w.heap.size+1) (z) (k) (h) (f)
 go_wp2_with fail
 refine(HI.out _ bel).mono ?_
 rintro e w9 ⟨rfl,hb9⟩
 have hB9:Below w.heap.size w w9:=bel
 have hZ9:=hB9.size
 obtain⟨hc9,hf9⟩:=aA hb9
 have hz9:=hb9.size
 try simp at hz9
 have hs9x0:w.heap.size<w9.heap.size:=by omega
 have hs9x1:(w.heap.size+1)<w9.heap.size:=by omega
 have⟨g9x0,g9x1,g9x2,g9x3⟩:=ce4 hc9 (w.heap.size) (y) (n) (l) (d)
 have⟨g9x4,g9x5,g9x6,g9x7⟩:=ce4 hc9 (w.heap.size+1) (z) (k) (h) (f)
 go_wp2_with fail
 refine(HW.out _ bel).mono ?_
 rintro e w10 ⟨rfl,hb10⟩
 have hB10:Below w.heap.size w w10:=bel
 have hZ10:=hB10.size
 obtain⟨hc10,hf10⟩:=aA hb10
 have hz10:=hb10.size
 try simp at hz10
 have hl10w9:w9.heap.size<w10.heap.size:=by omega
 have hm10w9:w9.heap.size<=w10.heap.size:=by omega
 have hs10x0:w.heap.size<w10.heap.size:=by omega
 have hs10x1:(w.heap.size+1)<w10.heap.size:=by omega
 have⟨g10x0,g10x1,g10x2,g10x3⟩:=ce4 hc10 (w.heap.size) (y) (n) (l) (d)
 have⟨g10x4,g10x5,g10x6,g10x7⟩:=ce4 hc10 (w.heap.size+1) (z) (k) (h) (f)
 have⟨g10x8,g10x9,g10x10,g10x11⟩:=ce4 hc10 (w9.heap.size) (y) (n) (l) (d)
 go_wp2_with fail
 refine(HL.out _ bel).mono ?_
 rintro e w11 ⟨rfl,hb11⟩
 have hB11:Below w.heap.size w w11:=bel
 have hZ11:=hB11.size
 obtain⟨hc11,hf11⟩:=aA hb11
 have hz11:=hb11.size
 try simp at hz11
 have hl11w9:w9.heap.size<w11.heap.size:=by omega
 have hm11w9:w9.heap.size<=w11.heap.size:=by omega
 have hs11x0:w.heap.size<w11.heap.size:=by omega
 have hs11x1:(w.heap.size+1)<w11.heap.size:=by omega
 have⟨g11x0,g11x1,g11x2,g11x3⟩:=ce4 hc11 (w.heap.size) (y) (n) (l) (d)
 have⟨g11x4,g11x5,g11x6,g11x7⟩:=ce4 hc11 (w.heap.size+1) (z) (k) (h) (f)
 have⟨g11x8,g11x9,g11x10,g11x11⟩:=ce4 hc11 (w9.heap.size) (y) (n) (l) (d)
 go_wp2_with fail
 refine(HM.out _ bel).mono ?_
 rintro e w12 ⟨rfl,hb12⟩
 have hB12:Below w.heap.size w w12:=bel
 have hZ12:=hB12.size
 obtain⟨hc12,hf12⟩:=aA hb12
 have hz12:=hb12.size
 try simp at hz12
 have hl12w9:w9.heap.size<w12.heap.size:=by omega
 have hm12w9:w9.heap.size<=w12.heap.size:=by omega
 have hs12x0:w.heap.size<w12.heap.size:=by omega
 have hs12x1:(w.heap.size+1)<w12.heap.size:=by omega
 have⟨g12x0,g12x1,g12x2,g12x3⟩:=ce4 hc12 (w.heap.size) (y) (n) (l) (d)
 have⟨g12x4,g12x5,g12x6,g12x7⟩:=ce4 hc12 (w.heap.size+1) (z) (k) (h) (f)
 have⟨g12x8,g12x9,g12x10,g12x11⟩:=ce4 hc12 (w9.heap.size) (y) (n) (l) (d)
 go_wp2_with fail
 go_ret
 refine⟨by first|rfl|(simp [*];done), ?_⟩
 exact bel
theorem Fy(y n:Int)(l:Bool)(d z k:Int)(h:Bool)(f:Int)(D1 D2 ry rn:Int)(rl:Bool)(rd sy sn:Int)(sl:Bool)(sd:Int)(tx nx:ByteArray)(hc:D1=D2)(hc1:decide (D1<D2)=false)(hc2:decide (D2<D1)=false)(w:World)
  (HA:QqCc w 15 #[.agg #[.int .i64 y,.int .i64 n,.bool l,.int .i64 d]] (.tuple #[.int .i64 D1,.int .i64 0]))
  (HB:QqCc w 15 #[.agg #[.int .i64 z,.int .i64 k,.bool h,.int .i64 f]] (.tuple #[.int .i64 D2,.int .i64 0]))
  (HC:QqCc w 16 #[.agg #[.int .i64 y,.int .i64 n,.bool l,.int .i64 d]] (.tuple #[.string tx,.int .i64 0]))
  (HD:QqCc w 17 #[.agg #[.int .i64 y,.int .i64 n,.bool l,.int .i64 d]] (.tuple #[.string nx,.int .i64 0]))
  (HE:QqCc w 18 #[.agg #[.int .i64 y,.int .i64 n,.bool l,.int .i64 d],.agg #[.int .i64 0,.int .i64 0,.int .i64 0,.int .i64 0],.int .i64 0] (.tuple #[.agg #[.int .i64 ry,.int .i64 rn,.bool rl,.int .i64 rd],.int .i64 0]))
  (HF:QqCc w 19 #[.agg #[.int .i64 y,.int .i64 n,.bool l,.int .i64 d],.agg #[.int .i64 y,.int .i64 n,.bool l,.int .i64 d],.int .i64 0] (.tuple #[.agg #[.int .i64 0,.int .i64 0,.int .i64 0,.int .i64 0],.int .i64 0]))
  (HG:QqCc w 20 #[.agg #[.int .i64 y,.int .i64 n,.bool l,.int .i64 d],.int .i64 0] (.tuple #[.agg #[.int .i64 sy,.int .i64 sn,.bool sl,.int .i64 sd],.int .i64 0]))
  (HK:QqCc w 21 #[.agg #[.int .i64 y,.int .i64 n,.bool l,.int .i64 d]] (.int .i64 0))
  (HW:QqCc w 22 #[] (.bool true))
  (HI:QqCc w 23 #[.int .i64 D1] (.tuple #[.agg #[.int .i64 y,.int .i64 n,.bool l,.int .i64 d],.int .i64 0]))
  (HL:QqCc w 24 #[.agg #[.int .i64 y,.int .i64 n,.bool l,.int .i64 d],.agg #[.int .i64 z,.int .i64 k,.bool h,.int .i64 f]] (.bool false))
  (HM:QqCc w 24 #[.agg #[.int .i64 z,.int .i64 k,.bool h,.int .i64 f],.agg #[.int .i64 y,.int .i64 n,.bool l,.int .i64 d]] (.bool false)):
  Calls Tryo.prog 4 #[.agg #[.int .i64 y,.int .i64 n,.bool l,.int .i64 d],.agg #[.int .i64 z,.int .i64 k,.bool h,.int .i64 f]] w fun e w'=>e= .returned (.bool true)/\Below w.heap.size w w':=by
 clear hc
 go_enter Tryo.func4,Tryz.ntmps4
 go_wp2_with fail
 refine(HA.out _ bel).mono ?_
 rintro e w1 ⟨rfl,hb1⟩
 have hB1:Below w.heap.size w w1:=bel
 have hZ1:=hB1.size
 obtain⟨hc1,hf1⟩:=aA hb1
 have hz1:=hb1.size
 try simp at hz1
 have hs1x0:w.heap.size<w1.heap.size:=by omega
 have hs1x1:(w.heap.size+1)<w1.heap.size:=by omega
 have⟨g1x0,g1x1,g1x2,g1x3⟩:=ce4 hc1 (w.heap.size) (y) (n) (l) (d)
 have⟨g1x4,g1x5,g1x6,g1x7⟩:=ce4 hc1 (w.heap.size+1) (z) (k) (h) (f)
 go_wp2_with fail
 refine(HB.out _ bel).mono ?_
 rintro e w2 ⟨rfl,hb2⟩
 have hB2:Below w.heap.size w w2:=bel
 have hZ2:=hB2.size
 obtain⟨hc2,hf2⟩:=aA hb2
 have hz2:=hb2.size
 try simp at hz2
 have hs2x0:w.heap.size<w2.heap.size:=by omega
 have hs2x1:(w.heap.size+1)<w2.heap.size:=by omega
 have⟨g2x0,g2x1,g2x2,g2x3⟩:=ce4 hc2 (w.heap.size) (y) (n) (l) (d)
 have⟨g2x4,g2x5,g2x6,g2x7⟩:=ce4 hc2 (w.heap.size+1) (z) (k) (h) (f)
 go_wp2_with fail
 refine(HC.out _ bel).mono ?_
 rintro e w3 ⟨rfl,hb3⟩
 have hB3:Below w.heap.size w w3:=bel
 have hZ3:=hB3.size
 obtain⟨hc3,hf3⟩:=aA hb3
 have hz3:=hb3.size
 try simp at hz3
 have hs3x0:w.heap.size<w3.heap.size:=by omega
 have hs3x1:(w.heap.size+1)<w3.heap.size:=by omega
 have⟨g3x0,g3x1,g3x2,g3x3⟩:=ce4 hc3 (w.heap.size) (y) (n) (l) (d)
 have⟨g3x4,g3x5,g3x6,g3x7⟩:=ce4 hc3 (w.heap.size+1) (z) (k) (h) (f)
 go_wp2_with fail
 refine(HD.out _ bel).mono ?_
 rintro e w4 ⟨rfl,hb4⟩
 have hB4:Below w.heap.size w w4:=bel
 have hZ4:=hB4.size
 obtain⟨hc4,hf4⟩:=aA hb4
 have hz4:=hb4.size
 try simp at hz4
 have hs4x0:w.heap.size<w4.heap.size:=by omega
 have hs4x1:(w.heap.size+1)<w4.heap.size:=by omega
 have⟨g4x0,g4x1,g4x2,g4x3⟩:=ce4 hc4 (w.heap.size) (y) (n) (l) (d)
 have⟨g4x4,g4x5,g4x6,g4x7⟩:=ce4 hc4 (w.heap.size+1) (z) (k) (h) (f)
 go_wp2_with fail
 refine(HE.out _ bel).mono ?_
 rintro e w5 ⟨rfl,hb5⟩
 have hB5:Below w.heap.size w w5:=bel
 have hZ5:=hB5.size
 obtain⟨hc5,hf5⟩:=aA hb5
 have hz5:=hb5.size
 try simp at hz5
 have hs5x0:w.heap.size<w5.heap.size:=by omega
 have hs5x1:(w.heap.size+1)<w5.heap.size:=by omega
 have⟨g5x0,g5x1,g5x2,g5x3⟩:=ce4 hc5 (w.heap.size) (y) (n) (l) (d)
 have⟨g5x4,g5x5,g5x6,g5x7⟩:=ce4 hc5 (w.heap.size+1) (z) (k) (h) (f)
 go_wp2_with fail
 refine(HF.out _ bel).mono ?_
 rintro e w6 ⟨rfl,hb6⟩
 have hB6:Below w.heap.size w w6:=bel
 have hZ6:=hB6.size
 obtain⟨hc6,hf6⟩:=aA hb6
 have hz6:=hb6.size
 try simp at hz6
 have hs6x0:w.heap.size<w6.heap.size:=by omega
 have hs6x1:(w.heap.size+1)<w6.heap.size:=by omega
 have⟨g6x0,g6x1,g6x2,g6x3⟩:=ce4 hc6 (w.heap.size) (y) (n) (l) (d)
 have⟨g6x4,g6x5,g6x6,g6x7⟩:=ce4 hc6 (w.heap.size+1) (z) (k) (h) (f)
 go_wp2_with fail
 refine(HG.out _ bel).mono ?_
 rintro e w7 ⟨rfl,hb7⟩
 have hB7:Below w.heap.size w w7:=bel
 have hZ7:=hB7.size
 obtain⟨hc7,hf7⟩:=aA hb7
 have hz7:=hb7.size
 try simp at hz7
 have hs7x0:w.heap.size<w7.heap.size:=by omega
 have hs7x1:(w.heap.size+1)<w7.heap.size:=by omega
 have⟨g7x0,g7x1,g7x2,g7x3⟩:=ce4 hc7 (w.heap.size) (y) (n) (l) (d)
 have⟨g7x4,g7x5,g7x6,g7x7⟩:=ce4 hc7 (w.heap.size+1) (z) (k) (h) (f)
 go_wp2_with fail
 refine(HK.out _ bel).mono ?_
 rintro e w8 ⟨rfl,hb8⟩
 have hB8:Below w.heap.size w w8:=bel
 have hZ8:=hB8.size
 obtain⟨hc8,hf8⟩:=aA hb8
 have hz8:=hb8.size
 try simp at hz8
 have hs8x0:w.heap.size<w8.heap.size:=by omega
 have hs8x1:(w.heap.size+1)<w8.heap.size:=by omega
 have⟨g8x0,g8x1,g8x2,g8x3⟩:=ce4 hc8 (w.heap.size) (y) (n) (l) (d)
 have⟨g8x4,g8x5,g8x6,g8x7⟩:=ce4 hc8 (w.heap.size+1) (z) (k) (h) (f)
 go_wp2_with fail
 refine(HI.out _ bel).mono ?_
 rintro e w9 ⟨rfl,hb9⟩
 have hB9:Below w.heap.size w w9:=bel
 have hZ9:=hB9.size
 obtain⟨hc9,hf9⟩:=aA hb9
 have hz9:=hb9.size
 try simp at hz9
 have hs9x0:w.heap.size<w9.heap.size:=by omega
 have hs9x1:(w.heap.size+1)<w9.heap.size:=by omega
 have⟨g9x0,g9x1,g9x2,g9x3⟩:=ce4 hc9 (w.heap.size) (y) (n) (l) (d)
 have⟨g9x4,g9x5,g9x6,g9x7⟩:=ce4 hc9 (w.heap.size+1) (z) (k) (h) (f)
 go_wp2_with fail
 refine(HW.out _ bel).mono ?_
 rintro e w10 ⟨rfl,hb10⟩
 have hB10:Below w.heap.size w w10:=bel
 have hZ10:=hB10.size
 obtain⟨hc10,hf10⟩:=aA hb10
 have hz10:=hb10.size
 try simp at hz10
 have hl10w9:w9.heap.size<w10.heap.size:=by omega
 have hm10w9:w9.heap.size<=w10.heap.size:=by omega
 have hs10x0:w.heap.size<w10.heap.size:=by omega
 have hs10x1:(w.heap.size+1)<w10.heap.size:=by omega
 have⟨g10x0,g10x1,g10x2,g10x3⟩:=ce4 hc10 (w.heap.size) (y) (n) (l) (d)
 have⟨g10x4,g10x5,g10x6,g10x7⟩:=ce4 hc10 (w.heap.size+1) (z) (k) (h) (f)
 have⟨g10x8,g10x9,g10x10,g10x11⟩:=ce4 hc10 (w9.heap.size) (y) (n) (l) (d)
 go_wp2_with fail
 refine(HL.out _ bel).mono ?_
 rintro e w11 ⟨rfl,hb11⟩
 have hB11:Below w.heap.size w w11:=bel
 have hZ11:=hB11.size
 obtain⟨hc11,hf11⟩:=aA hb11
 have hz11:=hb11.size
 try simp at hz11
 have hl11w9:w9.heap.size<w11.heap.size:=by omega
 have hm11w9:w9.heap.size<=w11.heap.size:=by omega
 have hs11x0:w.heap.size<w11.heap.size:=by omega
 have hs11x1:(w.heap.size+1)<w11.heap.size:=by omega
 have⟨g11x0,g11x1,g11x2,g11x3⟩:=ce4 hc11 (w.heap.size) (y) (n) (l) (d)
 have⟨g11x4,g11x5,g11x6,g11x7⟩:=ce4 hc11 (w.heap.size+1) (z) (k) (h) (f)
 have⟨g11x8,g11x9,g11x10,g11x11⟩:=ce4 hc11 (w9.heap.size) (y) (n) (l) (d)
 go_wp2_with fail
 refine(HM.out _ bel).mono ?_
 rintro e w12 ⟨rfl,hb12⟩
 have hB12:Below w.heap.size w w12:=bel
 have hZ12:=hB12.size
 obtain⟨hc12,hf12⟩:=aA hb12
 have hz12:=hb12.size
 try simp at hz12
 have hl12w9:w9.heap.size<w12.heap.size:=by omega
 have hm12w9:w9.heap.size<=w12.heap.size:=by omega
 have hs12x0:w.heap.size<w12.heap.size:=by omega
 have hs12x1:(w.heap.size+1)<w12.heap.size:=by omega
 have⟨g12x0,g12x1,g12x2,g12x3⟩:=ce4 hc12 (w.heap.size) (y) (n) (l) (d)
 have⟨g12x4,g12x5,g12x6,g12x7⟩:=ce4 hc12 (w.heap.size+1) (z) (k) (h) (f)
 have⟨g12x8,g12x9,g12x10,g12x11⟩:=ce4 hc12 (w9.heap.size) (y) (n) (l) (d)
 go_wp2_with fail
 go_ret
 refine⟨by first|rfl|(simp [*];done), ?_⟩
 exact bel
theorem FQ(y n:Int)(l:Bool)(d z k:Int)(h:Bool)(f:Int)(D1 D2 ry rn:Int)(rl:Bool)(rd sy sn:Int)(sl:Bool)(sd:Int)(tx nx:ByteArray)(hc:D2<D1)(hc1:decide (D1<D2)=false)(hc2:decide (D2<D1)=true)(w:World)
  (HA:QqCc w 15 #[.agg #[.int .i64 y,.int .i64 n,.bool l,.int .i64 d]] (.tuple #[.int .i64 D1,.int .i64 0]))
  (HB:QqCc w 15 #[.agg #[.int .i64 z,.int .i64 k,.bool h,.int .i64 f]] (.tuple #[.int .i64 D2,.int .i64 0]))
  (HC:QqCc w 16 #[.agg #[.int .i64 y,.int .i64 n,.bool l,.int .i64 d]] (.tuple #[.string tx,.int .i64 0]))
  (HD:QqCc w 17 #[.agg #[.int .i64 y,.int .i64 n,.bool l,.int .i64 d]] (.tuple #[.string nx,.int .i64 0]))
  (HE:QqCc w 18 #[.agg #[.int .i64 y,.int .i64 n,.bool l,.int .i64 d],.agg #[.int .i64 0,.int .i64 0,.int .i64 0,.int .i64 0],.int .i64 0] (.tuple #[.agg #[.int .i64 ry,.int .i64 rn,.bool rl,.int .i64 rd],.int .i64 0]))
  (HF:QqCc w 19 #[.agg #[.int .i64 y,.int .i64 n,.bool l,.int .i64 d],.agg #[.int .i64 y,.int .i64 n,.bool l,.int .i64 d],.int .i64 0] (.tuple #[.agg #[.int .i64 0,.int .i64 0,.int .i64 0,.int .i64 0],.int .i64 0]))
  (HG:QqCc w 20 #[.agg #[.int .i64 y,.int .i64 n,.bool l,.int .i64 d],.int .i64 0] (.tuple #[.agg #[.int .i64 sy,.int .i64 sn,.bool sl,.int .i64 sd],.int .i64 0]))
  (HK:QqCc w 21 #[.agg #[.int .i64 y,.int .i64 n,.bool l,.int .i64 d]] (.int .i64 0))
  (HW:QqCc w 22 #[] (.bool true))
  (HI:QqCc w 23 #[.int .i64 D1] (.tuple #[.agg #[.int .i64 y,.int .i64 n,.bool l,.int .i64 d],.int .i64 0]))
  (HL:QqCc w 24 #[.agg #[.int .i64 y,.int .i64 n,.bool l,.int .i64 d],.agg #[.int .i64 z,.int .i64 k,.bool h,.int .i64 f]] (.bool false))
  (HM:QqCc w 24 #[.agg #[.int .i64 z,.int .i64 k,.bool h,.int .i64 f],.agg #[.int .i64 y,.int .i64 n,.bool l,.int .i64 d]] (.bool true)):
  Calls Tryo.prog 4 #[.agg #[.int .i64 y,.int .i64 n,.bool l,.int .i64 d],.agg #[.int .i64 z,.int .i64 k,.bool h,.int .i64 f]] w fun e w'=>e= .returned (.bool true)/\Below w.heap.size w w':=by
 go_enter Tryo.func4,Tryz.ntmps4
 go_wp2_with fail
 refine(HA.out _ bel).mono ?_
 rintro e w1 ⟨rfl,hb1⟩
 have hB1:Below w.heap.size w w1:=bel
 have hZ1:=hB1.size
 obtain⟨hc1,hf1⟩:=aA hb1
 have hz1:=hb1.size
 try simp at hz1
 have hs1x0:w.heap.size<w1.heap.size:=by omega
 have hs1x1:(w.heap.size+1)<w1.heap.size:=by omega
 have⟨g1x0,g1x1,g1x2,g1x3⟩:=ce4 hc1 (w.heap.size) (y) (n) (l) (d)
 have⟨g1x4,g1x5,g1x6,g1x7⟩:=ce4 hc1 (w.heap.size+1) (z) (k) (h) (f)
 go_wp2_with fail
 refine(HB.out _ bel).mono ?_
 rintro e w2 ⟨rfl,hb2⟩
 have hB2:Below w.heap.size w w2:=bel
 have hZ2:=hB2.size
 obtain⟨hc2,hf2⟩:=aA hb2
 have hz2:=hb2.size
 try simp at hz2
 have hs2x0:w.heap.size<w2.heap.size:=by omega
 have hs2x1:(w.heap.size+1)<w2.heap.size:=by omega
 have⟨g2x0,g2x1,g2x2,g2x3⟩:=ce4 hc2 (w.heap.size) (y) (n) (l) (d)
 have⟨g2x4,g2x5,g2x6,g2x7⟩:=ce4 hc2 (w.heap.size+1) (z) (k) (h) (f)
 go_wp2_with fail
 refine(HC.out _ bel).mono ?_
 rintro e w3 ⟨rfl,hb3⟩
 have hB3:Below w.heap.size w w3:=bel
 have hZ3:=hB3.size
 obtain⟨hc3,hf3⟩:=aA hb3
 have hz3:=hb3.size
 try simp at hz3
 have hs3x0:w.heap.size<w3.heap.size:=by omega
 have hs3x1:(w.heap.size+1)<w3.heap.size:=by omega
 have⟨g3x0,g3x1,g3x2,g3x3⟩:=ce4 hc3 (w.heap.size) (y) (n) (l) (d)
 have⟨g3x4,g3x5,g3x6,g3x7⟩:=ce4 hc3 (w.heap.size+1) (z) (k) (h) (f)
 go_wp2_with fail
 refine(HD.out _ bel).mono ?_
 rintro e w4 ⟨rfl,hb4⟩
 have hB4:Below w.heap.size w w4:=bel
 have hZ4:=hB4.size
 obtain⟨hc4,hf4⟩:=aA hb4
 have hz4:=hb4.size
 try simp at hz4
 have hs4x0:w.heap.size<w4.heap.size:=by omega
 have hs4x1:(w.heap.size+1)<w4.heap.size:=by omega
 have⟨g4x0,g4x1,g4x2,g4x3⟩:=ce4 hc4 (w.heap.size) (y) (n) (l) (d)
 have⟨g4x4,g4x5,g4x6,g4x7⟩:=ce4 hc4 (w.heap.size+1) (z) (k) (h) (f)
 go_wp2_with fail
 refine(HE.out _ bel).mono ?_
 rintro e w5 ⟨rfl,hb5⟩
 have hB5:Below w.heap.size w w5:=bel
 have hZ5:=hB5.size
 obtain⟨hc5,hf5⟩:=aA hb5
 have hz5:=hb5.size
 try simp at hz5
 have hs5x0:w.heap.size<w5.heap.size:=by omega
 have hs5x1:(w.heap.size+1)<w5.heap.size:=by omega
 have⟨g5x0,g5x1,g5x2,g5x3⟩:=ce4 hc5 (w.heap.size) (y) (n) (l) (d)
 have⟨g5x4,g5x5,g5x6,g5x7⟩:=ce4 hc5 (w.heap.size+1) (z) (k) (h) (f)
 go_wp2_with fail
 refine(HF.out _ bel).mono ?_
 rintro e w6 ⟨rfl,hb6⟩
 have hB6:Below w.heap.size w w6:=bel
 have hZ6:=hB6.size
 obtain⟨hc6,hf6⟩:=aA hb6
 have hz6:=hb6.size
 try simp at hz6
 have hs6x0:w.heap.size<w6.heap.size:=by omega
 have hs6x1:(w.heap.size+1)<w6.heap.size:=by omega
 have⟨g6x0,g6x1,g6x2,g6x3⟩:=ce4 hc6 (w.heap.size) (y) (n) (l) (d)
 have⟨g6x4,g6x5,g6x6,g6x7⟩:=ce4 hc6 (w.heap.size+1) (z) (k) (h) (f)
 go_wp2_with fail
 refine(HG.out _ bel).mono ?_
 rintro e w7 ⟨rfl,hb7⟩
 have hB7:Below w.heap.size w w7:=bel
 have hZ7:=hB7.size
 obtain⟨hc7,hf7⟩:=aA hb7
 have hz7:=hb7.size
 try simp at hz7
 have hs7x0:w.heap.size<w7.heap.size:=by omega
 have hs7x1:(w.heap.size+1)<w7.heap.size:=by omega
 have⟨g7x0,g7x1,g7x2,g7x3⟩:=ce4 hc7 (w.heap.size) (y) (n) (l) (d)
 have⟨g7x4,g7x5,g7x6,g7x7⟩:=ce4 hc7 (w.heap.size+1) (z) (k) (h) (f)
 go_wp2_with fail
 refine(HK.out _ bel).mono ?_
 rintro e w8 ⟨rfl,hb8⟩
 have hB8:Below w.heap.size w w8:=bel
 have hZ8:=hB8.size
 obtain⟨hc8,hf8⟩:=aA hb8
 have hz8:=hb8.size
 try simp at hz8
 have hs8x0:w.heap.size<w8.heap.size:=by omega
 have hs8x1:(w.heap.size+1)<w8.heap.size:=by omega
 have⟨g8x0,g8x1,g8x2,g8x3⟩:=ce4 hc8 (w.heap.size) (y) (n) (l) (d)
 have⟨g8x4,g8x5,g8x6,g8x7⟩:=ce4 hc8 (w.heap.size+1) (z) (k) (h) (f)
 go_wp2_with fail
 refine(HI.out _ bel).mono ?_
 rintro e w9 ⟨rfl,hb9⟩
 have hB9:Below w.heap.size w w9:=bel
 have hZ9:=hB9.size
 obtain⟨hc9,hf9⟩:=aA hb9
 have hz9:=hb9.size
 try simp at hz9
 have hs9x0:w.heap.size<w9.heap.size:=by omega
 have hs9x1:(w.heap.size+1)<w9.heap.size:=by omega
 have⟨g9x0,g9x1,g9x2,g9x3⟩:=ce4 hc9 (w.heap.size) (y) (n) (l) (d)
 have⟨g9x4,g9x5,g9x6,g9x7⟩:=ce4 hc9 (w.heap.size+1) (z) (k) (h) (f)
 go_wp2_with fail
 refine(HW.out _ bel).mono ?_
 rintro e w10 ⟨rfl,hb10⟩
 have hB10:Below w.heap.size w w10:=bel
 have hZ10:=hB10.size
 obtain⟨hc10,hf10⟩:=aA hb10
 have hz10:=hb10.size
 try simp at hz10
 have hl10w9:w9.heap.size<w10.heap.size:=by omega
 have hm10w9:w9.heap.size<=w10.heap.size:=by omega
 have hs10x0:w.heap.size<w10.heap.size:=by omega
 have hs10x1:(w.heap.size+1)<w10.heap.size:=by omega
 have⟨g10x0,g10x1,g10x2,g10x3⟩:=ce4 hc10 (w.heap.size) (y) (n) (l) (d)
 have⟨g10x4,g10x5,g10x6,g10x7⟩:=ce4 hc10 (w.heap.size+1) (z) (k) (h) (f)
 have⟨g10x8,g10x9,g10x10,g10x11⟩:=ce4 hc10 (w9.heap.size) (y) (n) (l) (d)
 go_wp2_with fail
 refine(HL.out _ bel).mono ?_
 rintro e w11 ⟨rfl,hb11⟩
 have hB11:Below w.heap.size w w11:=bel
 have hZ11:=hB11.size
 obtain⟨hc11,hf11⟩:=aA hb11
 have hz11:=hb11.size
 try simp at hz11
 have hl11w9:w9.heap.size<w11.heap.size:=by omega
 have hm11w9:w9.heap.size<=w11.heap.size:=by omega
 have hs11x0:w.heap.size<w11.heap.size:=by omega
 have hs11x1:(w.heap.size+1)<w11.heap.size:=by omega
 have⟨g11x0,g11x1,g11x2,g11x3⟩:=ce4 hc11 (w.heap.size) (y) (n) (l) (d)
 have⟨g11x4,g11x5,g11x6,g11x7⟩:=ce4 hc11 (w.heap.size+1) (z) (k) (h) (f)
 have⟨g11x8,g11x9,g11x10,g11x11⟩:=ce4 hc11 (w9.heap.size) (y) (n) (l) (d)
 go_wp2_with fail
 refine(HM.out _ bel).mono ?_
 rintro e w12 ⟨rfl,hb12⟩
 have hB12:Below w.heap.size w w12:=bel
 have hZ12:=hB12.size
 obtain⟨hc12,hf12⟩:=aA hb12
 have hz12:=hb12.size
 try simp at hz12
 have hl12w9:w9.heap.size<w12.heap.size:=by omega
 have hm12w9:w9.heap.size<=w12.heap.size:=by omega
 have hs12x0:w.heap.size<w12.heap.size:=by omega
 have hs12x1:(w.heap.size+1)<w12.heap.size:=by omega
 have⟨g12x0,g12x1,g12x2,g12x3⟩:=ce4 hc12 (w.heap.size) (y) (n) (l) (d)
 have⟨g12x4,g12x5,g12x6,g12x7⟩:=ce4 hc12 (w.heap.size+1) (z) (k) (h) (f)
 have⟨g12x8,g12x9,g12x10,g12x11⟩:=ce4 hc12 (w9.heap.size) (y) (n) (l) (d)
 go_wp2_with fail
 go_ret
 refine⟨by first|rfl|(simp [*];done), ?_⟩
 exact bel
end Go.Proofs.YthnjjcoahdhmnaaGreatDoor
