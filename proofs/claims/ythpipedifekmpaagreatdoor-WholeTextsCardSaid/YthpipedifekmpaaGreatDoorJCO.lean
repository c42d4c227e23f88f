import Derived.Test.YthpipedifekmpaaGreatDoorJLA
import Derived.LoopTactic
import Derived.Deep.RegionHeld
import Derived.Test.YthpipedifekmpaaGreatDoorJBB
set_option maxHeartbeats 8000000
set_option maxRecDepth 100000
set_option linter.unusedVariables false
namespace Go.Proofs.YthpipedifekmpaaGreatDoor
section
open Go.ChangeShapes Go.WideShapes Go.ChangeAt Go.RowKit
def Cal.right(n:Int)(l:Bool):Bool:=decide (1<=n/\n<=12/\(l=false∨n=5))
theorem code_Right_ok(n:Int)(w:World)(h1:1<=n)(h2:n<=12):Calls Tryo.prog 35 #[.agg #[.int .i64 n,.bool false]] w fun e w'=>e= .returned (.bool true)/\Below w.heap.size w w':=by
 go_enter Tryo.func35,Tryz.ntmps35
 go_wp2_with fail
 go_ret
 exact⟨rfl,ba _ _⟩
theorem code_Right_leap(w:World):Calls Tryo.prog 35 #[.agg #[.int .i64 5,.bool true]] w fun e w'=>e= .returned (.bool true)/\Below w.heap.size w w':=by
 go_enter Tryo.func35,Tryz.ntmps35
 go_wp2_with fail
 go_ret
 exact⟨rfl,ba _ _⟩
theorem code_Right_no(n:Int)(l:Bool)(w:World)(h:Cal.right n l=false):Calls Tryo.prog 35 #[.agg #[.int .i64 n,.bool l]] w fun e w'=>e= .returned (.bool false)/\Below w.heap.size w w':=by
 rw [Cal.right,decide_eq_false_iff_not]at h
 rcases(show n<1∨(1<=n/\12<n)∨(1<=n/\n<=12/\¬ n=5/\l=true) by cases l <;> simp at h⊢ <;> omega)with c|⟨c1,c2⟩|⟨c1,c2,c3,rfl⟩
 ·skip
  go_enter Tryo.func35,Tryz.ntmps35
  go_wp2_with fail
  go_ret
  exact⟨rfl,ba _ _⟩
 ·skip
  go_enter Tryo.func35,Tryz.ntmps35
  go_wp2_with fail
  go_ret
  exact⟨rfl,ba _ _⟩
 ·have c4:(n==5)=false:=by rw [beq_eq_false_iff_ne];exact c3
  go_enter Tryo.func35,Tryz.ntmps35
  go_wp2_with fail
  go_ret
  exact⟨rfl,ba _ _⟩
end
section
open Go.ChangeShapes Go.WideShapes Go.ChangeAt Go.RowKit
theorem code_digit(n:Int)(w:World)(h0:0<=n)(h1:n<=9):Calls Tryo.prog 36 #[.int .i64 n] w fun e w'=>e= .returned (.int .u8 (48+n))/\w=w':=by
 go_enter Tryo.func36,Tryz.ntmps36
 go_wp2_with fail
 go_ret
 exact⟨rfl,rfl⟩
theorem code_Text_no(n:Int)(l:Bool)(w:World)(h:Cal.right n l=false):Calls Tryo.prog 13 #[.agg #[.int .i64 n,.bool l]] w fun e w'=>e= .returned (.tuple #[.string ByteArray.empty,.bool false])/\Below w.heap.size w w':=by
 go_enter Tryo.func13,Tryz.ntmps13
 go_wp2_with fail
 refine(code_Right_no n l _ h).mono ?_
 rintro e w1 ⟨rfl,hb1⟩
 obtain⟨hc1,hf1⟩:=bcell hb1
 have hz1:=hb1.size
 try simp at hz1
 go_wp2_with fail
 refine bodyPost_ret (v:= .tuple #[.string ByteArray.empty,.bool false]) (by simp [results,Tryz.results13,go_sem];try rfl) rfl ⟨rfl,bt (ba _ _) hb1⟩
theorem conv_bytes(w:World)(x y:Nat)(hx:x<256)(hy:y<256):
  (convert 81 9 (.slice (some ⟨w.heap.size,0,none⟩) 2 2)).run Tryo.prog (w.alloc (.cells #[.int .u8 (x:Int),.int .u8 (y:Int)] 5)).drew= .ok (.string ⟨#[UInt8.ofNat x,UInt8.ofNat y]⟩) (w.alloc (.cells #[.int .u8 (x:Int),.int .u8 (y:Int)] 5)).drew:=by
 have h:=run_convert_bytes_arg (P:=Tryo.prog) (w.alloc (.cells #[.int .u8 (x:Int),.int .u8 (y:Int)] 5)).drew 81 5 (und_o Tryz.underlying81) (und_o Tryz.underlying5) w.heap.size 0 2 2 [(x:Int),(y:Int)] rfl (by
  intro i hi
  rcases i with _|_|i
  ·exact World.cell?_alloc_mark w _ 5 _ 0
  ·exact World.cell?_alloc_mark w _ 5 _ 1
  ·omega) 9 (und_o Tryz.underlying9)
 exact h
theorem code_Text_1(w:World):Calls Tryo.prog 13 #[.agg #[.int .i64 1,.bool false]] w fun e w'=>e= .returned (.tuple #[.string ⟨#[77,48,49]⟩,.bool true])/\Below w.heap.size w w':=by
 go_enter Tryo.func13,Tryz.ntmps13
 go_wp2_with fail
 refine(code_Right_ok 1 _ (by omega) (by omega)).mono ?_
 rintro e w1 ⟨rfl,hb1⟩
 obtain⟨hc1,hf1⟩:=bcell hb1
 have hz1:=hb1.size
 try simp at hz1
 have hs1x0:w.heap.size<w1.heap.size:=by omega
 have g1x0:w1.cell? ⟨w.heap.size,0,none⟩=some (.int .i64 1):=celB hc1
 have g1x1:w1.cell? ⟨w.heap.size,1,none⟩=some (.bool false):=celB hc1
 go_wp2_with fail
 have hs1:w.heap.size<w1.heap.size:=by omega
 clear hc1 hf1
 have kc:(convert 81 9 (.slice (some ⟨w1.heap.size,0,none⟩) 2 2)).run Tryo.prog (w1.alloc (.cells #[.int .u8 48,.int .u8 49] 5)).drew= .ok (.string ⟨#[48,49]⟩) (w1.alloc (.cells #[.int .u8 48,.int .u8 49] 5)).drew:=conv_bytes w1 48 49 (by omega) (by omega)
 go_region_held (fun x=>x.cell? ⟨w.heap.size,0,none⟩=some (.int .i64 1)/\x.cell? ⟨w.heap.size,1,none⟩=some (.bool false)) (first|assumption|go_keep)
   (first|(go_at_call 36;first|(refine(code_digit 0 _ (by omega) (by omega)).mono ?_;rintro e w3 ⟨rfl,rfl⟩)|(refine(code_digit 1 _ (by omega) (by omega)).mono ?_;rintro e w3 ⟨rfl,rfl⟩)))
 all_goals(have hh:=And.intro hs1 (by assumption:_/\_))
 all_goals obtain⟨_,hh1,hh2⟩:=hh
 all_goals go_wp2_with fail
 all_goals refine bodyPost_ret (v:= .tuple #[.string ⟨#[77,48,49]⟩,.bool true]) (by simp [results,Tryz.results13,go_sem];try rfl) rfl ⟨rfl,(baa (bt (ba _ _) hb1) _).drew⟩
theorem code_Text_2(w:World):Calls Tryo.prog 13 #[.agg #[.int .i64 2,.bool false]] w fun e w'=>e= .returned (.tuple #[.string ⟨#[77,48,50]⟩,.bool true])/\Below w.heap.size w w':=by
 go_enter Tryo.func13,Tryz.ntmps13
 go_wp2_with fail
 refine(code_Right_ok 2 _ (by omega) (by omega)).mono ?_
 rintro e w1 ⟨rfl,hb1⟩
 obtain⟨hc1,hf1⟩:=bcell hb1
 have hz1:=hb1.size
 try simp at hz1
 have hs1x0:w.heap.size<w1.heap.size:=by omega
 have g1x0:w1.cell? ⟨w.heap.size,0,none⟩=some (.int .i64 2):=celB hc1
 have g1x1:w1.cell? ⟨w.heap.size,1,none⟩=some (.bool false):=celB hc1
 go_wp2_with fail
 have hs1:w.heap.size<w1.heap.size:=by omega
 clear hc1 hf1
 have kc:(convert 81 9 (.slice (some ⟨w1.heap.size,0,none⟩) 2 2)).run Tryo.prog (w1.alloc (.cells #[.int .u8 48,.int .u8 50] 5)).drew= .ok (.string ⟨#[48,50]⟩) (w1.alloc (.cells #[.int .u8 48,.int .u8 50] 5)).drew:=conv_bytes w1 48 50 (by omega) (by omega)
 go_region_held (fun x=>x.cell? ⟨w.heap.size,0,none⟩=some (.int .i64 2)/\x.cell? ⟨w.heap.size,1,none⟩=some (.bool false)) (first|assumption|go_keep)
   (first|(go_at_call 36;first|(refine(code_digit 0 _ (by omega) (by omega)).mono ?_;rintro e w3 ⟨rfl,rfl⟩)|(refine(code_digit 2 _ (by omega) (by omega)).mono ?_;rintro e w3 ⟨rfl,rfl⟩)))
 all_goals(have hh:=And.intro hs1 (by assumption:_/\_))
 all_goals obtain⟨_,hh1,hh2⟩:=hh
 all_goals go_wp2_with fail
 all_goals refine bodyPost_ret (v:= .tuple #[.string ⟨#[77,48,50]⟩,.bool true]) (by simp [results,Tryz.results13,go_sem];try rfl) rfl ⟨rfl,(baa (bt (ba _ _) hb1) _).drew⟩
theorem code_Text_3(w:World):Calls Tryo.prog 13 #[.agg #[.int .i64 3,.bool false]] w fun e w'=>e= .returned (.tuple #[.string ⟨#[77,48,51]⟩,.bool true])/\Below w.heap.size w w':=by
 go_enter Tryo.func13,Tryz.ntmps13
 go_wp2_with fail
 refine(code_Right_ok 3 _ (by omega) (by omega)).mono ?_
 rintro e w1 ⟨rfl,hb1⟩
 obtain⟨hc1,hf1⟩:=bcell hb1
 have hz1:=hb1.size
 try simp at hz1
 have hs1x0:w.heap.size<w1.heap.size:=by omega
 have g1x0:w1.cell? ⟨w.heap.size,0,none⟩=some (.int .i64 3):=celB hc1
 have g1x1:w1.cell? ⟨w.heap.size,1,none⟩=some (.bool false):=celB hc1
 go_wp2_with fail
 have hs1:w.heap.size<w1.heap.size:=by omega
 clear hc1 hf1
 have kc:(convert 81 9 (.slice (some ⟨w1.heap.size,0,none⟩) 2 2)).run Tryo.prog (w1.alloc (.cells #[.int .u8 48,.int .u8 51] 5)).drew= .ok (.string ⟨#[48,51]⟩) (w1.alloc (.cells #[.int .u8 48,.int .u8 51] 5)).drew:=conv_bytes w1 48 51 (by omega) (by omega)
 go_region_held (fun x=>x.cell? ⟨w.heap.size,0,none⟩=some (.int .i64 3)/\x.cell? ⟨w.heap.size,1,none⟩=some (.bool false)) (first|assumption|go_keep)
   (first|(go_at_call 36;first|(refine(code_digit 0 _ (by omega) (by omega)).mono ?_;rintro e w3 ⟨rfl,rfl⟩)|(refine(code_digit 3 _ (by omega) (by omega)).mono ?_;rintro e w3 ⟨rfl,rfl⟩)))
 all_goals(have hh:=And.intro hs1 (by assumption:_/\_))
 all_goals obtain⟨_,hh1,hh2⟩:=hh
 all_goals go_wp2_with fail
 all_goals refine bodyPost_ret (v:= .tuple #[.string ⟨#[77,48,51]⟩,.bool true]) (by simp [results,Tryz.results13,go_sem];try rfl) rfl ⟨rfl,(baa (bt (ba _ _) hb1) _).drew⟩
theorem code_Text_4(w:World):Calls Tryo.prog 13 #[.agg #[.int .i64 4,.bool false]] w fun e w'=>e= .returned (.tuple #[.string ⟨#[77,48,52]⟩,.bool true])/\Below w.heap.size w w':=by
 go_enter Tryo.func13,Tryz.ntmps13
 go_wp2_with fail
 refine(code_Right_ok 4 _ (by omega) (by omega)).mono ?_
 rintro e w1 ⟨rfl,hb1⟩
 obtain⟨hc1,hf1⟩:=bcell hb1
 have hz1:=hb1.size
 try simp at hz1
 have hs1x0:w.heap.size<w1.heap.size:=by omega
 have g1x0:w1.cell? ⟨w.heap.size,0,none⟩=some (.int .i64 4):=celB hc1
 have g1x1:w1.cell? ⟨w.heap.size,1,none⟩=some (.bool false):=celB hc1
 go_wp2_with fail
 have hs1:w.heap.size<w1.heap.size:=by omega
 clear hc1 hf1
 have kc:(convert 81 9 (.slice (some ⟨w1.heap.size,0,none⟩) 2 2)).run Tryo.prog (w1.alloc (.cells #[.int .u8 48,.int .u8 52] 5)).drew= .ok (.string ⟨#[48,52]⟩) (w1.alloc (.cells #[.int .u8 48,.int .u8 52] 5)).drew:=conv_bytes w1 48 52 (by omega) (by omega)
 go_region_held (fun x=>x.cell? ⟨w.heap.size,0,none⟩=some (.int .i64 4)/\x.cell? ⟨w.heap.size,1,none⟩=some (.bool false)) (first|assumption|go_keep)
   (first|(go_at_call 36;first|(refine(code_digit 0 _ (by omega) (by omega)).mono ?_;rintro e w3 ⟨rfl,rfl⟩)|(refine(code_digit 4 _ (by omega) (by omega)).mono ?_;rintro e w3 ⟨rfl,rfl⟩)))
 all_goals(have hh:=And.intro hs1 (by assumption:_/\_))
 all_goals obtain⟨_,hh1,hh2⟩:=hh
 all_goals go_wp2_with fail
 all_goals refine bodyPost_ret (v:= .tuple #[.string ⟨#[77,48,52]⟩,.bool true]) (by simp [results,Tryz.results13,go_sem];try rfl) rfl ⟨rfl,(baa (bt (ba _ _) hb1) _).drew⟩
theorem code_Text_5(w:World):Calls Tryo.prog 13 #[.agg #[.int .i64 5,.bool false]] w fun e w'=>e= .returned (.tuple #[.string ⟨#[77,48,53]⟩,.bool true])/\Below w.heap.size w w':=by
 go_enter Tryo.func13,Tryz.ntmps13
 go_wp2_with fail
 refine(code_Right_ok 5 _ (by omega) (by omega)).mono ?_
 rintro e w1 ⟨rfl,hb1⟩
 obtain⟨hc1,hf1⟩:=bcell hb1
 have hz1:=hb1.size
 try simp at hz1
 have hs1x0:w.heap.size<w1.heap.size:=by omega
 have g1x0:w1.cell? ⟨w.heap.size,0,none⟩=some (.int .i64 5):=celB hc1
 have g1x1:w1.cell? ⟨w.heap.size,1,none⟩=some (.bool false):=celB hc1
 go_wp2_with fail
 have hs1:w.heap.size<w1.heap.size:=by omega
 clear hc1 hf1
 have kc:(convert 81 9 (.slice (some ⟨w1.heap.size,0,none⟩) 2 2)).run Tryo.prog (w1.alloc (.cells #[.int .u8 48,.int .u8 53] 5)).drew= .ok (.string ⟨#[48,53]⟩) (w1.alloc (.cells #[.int .u8 48,.int .u8 53] 5)).drew:=conv_bytes w1 48 53 (by omega) (by omega)
 go_region_held (fun x=>x.cell? ⟨w.heap.size,0,none⟩=some (.int .i64 5)/\x.cell? ⟨w.heap.size,1,none⟩=some (.bool false)) (first|assumption|go_keep)
   (first|(go_at_call 36;first|(refine(code_digit 0 _ (by omega) (by omega)).mono ?_;rintro e w3 ⟨rfl,rfl⟩)|(refine(code_digit 5 _ (by omega) (by omega)).mono ?_;rintro e w3 ⟨rfl,rfl⟩)))
 all_goals(have hh:=And.intro hs1 (by assumption:_/\_))
 all_goals obtain⟨_,hh1,hh2⟩:=hh
 all_goals go_wp2_with fail
 all_goals refine bodyPost_ret (v:= .tuple #[.string ⟨#[77,48,53]⟩,.bool true]) (by simp [results,Tryz.results13,go_sem];try rfl) rfl ⟨rfl,(baa (bt (ba _ _) hb1) _).drew⟩
theorem code_Text_6(w:World):Calls Tryo.prog 13 #[.agg #[.int .i64 6,.bool false]] w fun e w'=>e= .returned (.tuple #[.string ⟨#[77,48,54]⟩,.bool true])/\Below w.heap.size w w':=by
 go_enter Tryo.func13,Tryz.ntmps13
 go_wp2_with fail
 refine(code_Right_ok 6 _ (by omega) (by omega)).mono ?_
 rintro e w1 ⟨rfl,hb1⟩
 obtain⟨hc1,hf1⟩:=bcell hb1
 have hz1:=hb1.size
 try simp at hz1
 have hs1x0:w.heap.size<w1.heap.size:=by omega
 have g1x0:w1.cell? ⟨w.heap.size,0,none⟩=some (.int .i64 6):=celB hc1
 have g1x1:w1.cell? ⟨w.heap.size,1,none⟩=some (.bool false):=celB hc1
 go_wp2_with fail
 have hs1:w.heap.size<w1.heap.size:=by omega
 clear hc1 hf1
 have kc:(convert 81 9 (.slice (some ⟨w1.heap.size,0,none⟩) 2 2)).run Tryo.prog (w1.alloc (.cells #[.int .u8 48,.int .u8 54] 5)).drew= .ok (.string ⟨#[48,54]⟩) (w1.alloc (.cells #[.int .u8 48,.int .u8 54] 5)).drew:=conv_bytes w1 48 54 (by omega) (by omega)
 go_region_held (fun x=>x.cell? ⟨w.heap.size,0,none⟩=some (.int .i64 6)/\x.cell? ⟨w.heap.size,1,none⟩=some (.bool false)) (first|assumption|go_keep)
   (first|(go_at_call 36;first|(refine(code_digit 0 _ (by omega) (by omega)).mono ?_;rintro e w3 ⟨rfl,rfl⟩)|(refine(code_digit 6 _ (by omega) (by omega)).mono ?_;rintro e w3 ⟨rfl,rfl⟩)))
 all_goals(have hh:=And.intro hs1 (by assumption:_/\_))
 all_goals obtain⟨_,hh1,hh2⟩:=hh
 all_goals go_wp2_with fail
 all_goals refine bodyPost_ret (v:= .tuple #[.string ⟨#[77,48,54]⟩,.bool true]) (by simp [results,Tryz.results13,go_sem];try rfl) rfl ⟨rfl,(baa (bt (ba _ _) hb1) _).drew⟩
theorem code_Text_7(w:World):Calls Tryo.prog 13 #[.agg #[.int .i64 7,.bool false]] w fun e w'=>e= .returned (.tuple #[.string ⟨#[77,48,55]⟩,.bool true])/\Below w.heap.size w w':=by
 go_enter Tryo.func13,Tryz.ntmps13
 go_wp2_with fail
 refine(code_Right_ok 7 _ (by omega) (by omega)).mono ?_
 rintro e w1 ⟨rfl,hb1⟩
 obtain⟨hc1,hf1⟩:=bcell hb1
 have hz1:=hb1.size
 try simp at hz1
 have hs1x0:w.heap.size<w1.heap.size:=by omega
 have g1x0:w1.cell? ⟨w.heap.size,0,none⟩=some (.int .i64 7):=celB hc1
 have g1x1:w1.cell? ⟨w.heap.size,1,none⟩=some (.bool false):=celB hc1
 go_wp2_with fail
 have hs1:w.heap.size<w1.heap.size:=by omega
 clear hc1 hf1
 have kc:(convert 81 9 (.slice (some ⟨w1.heap.size,0,none⟩) 2 2)).run Tryo.prog (w1.alloc (.cells #[.int .u8 48,.int .u8 55] 5)).drew= .ok (.string ⟨#[48,55]⟩) (w1.alloc (.cells #[.int .u8 48,.int .u8 55] 5)).drew:=conv_bytes w1 48 55 (by omega) (by omega)
 go_region_held (fun x=>x.cell? ⟨w.heap.size,0,none⟩=some (.int .i64 7)/\x.cell? ⟨w.heap.size,1,none⟩=some (.bool false)) (first|assumption|go_keep)
   (first|(go_at_call 36;first|(refine(code_digit 0 _ (by omega) (by omega)).mono ?_;rintro e w3 ⟨rfl,rfl⟩)|(refine(code_digit 7 _ (by omega) (by omega)).mono ?_;rintro e w3 ⟨rfl,rfl⟩)))
 all_goals(have hh:=And.intro hs1 (by assumption:_/\_))
 all_goals obtain⟨_,hh1,hh2⟩:=hh
 all_goals go_wp2_with fail
 all_goals refine bodyPost_ret (v:= .tuple #[.string ⟨#[77,48,55]⟩,.bool true]) (by simp [results,Tryz.results13,go_sem];try rfl) rfl ⟨rfl,(baa (bt (ba _ _) hb1) _).drew⟩
theorem code_Text_8(w:World):Calls Tryo.prog 13 #[.agg #[.int .i64 8,.bool false]] w fun e w'=>e= .returned (.tuple #[.string ⟨#[77,48,56]⟩,.bool true])/\Below w.heap.size w w':=by
 go_enter Tryo.func13,Tryz.ntmps13
 go_wp2_with fail
 refine(code_Right_ok 8 _ (by omega) (by omega)).mono ?_
 rintro e w1 ⟨rfl,hb1⟩
 obtain⟨hc1,hf1⟩:=bcell hb1
 have hz1:=hb1.size
 try simp at hz1
 have hs1x0:w.heap.size<w1.heap.size:=by omega
 have g1x0:w1.cell? ⟨w.heap.size,0,none⟩=some (.int .i64 8):=celB hc1
 have g1x1:w1.cell? ⟨w.heap.size,1,none⟩=some (.bool false):=celB hc1
 go_wp2_with fail
 have hs1:w.heap.size<w1.heap.size:=by omega
 clear hc1 hf1
 have kc:(convert 81 9 (.slice (some ⟨w1.heap.size,0,none⟩) 2 2)).run Tryo.prog (w1.alloc (.cells #[.int .u8 48,.int .u8 56] 5)).drew= .ok (.string ⟨#[48,56]⟩) (w1.alloc (.cells #[.int .u8 48,.int .u8 56] 5)).drew:=conv_bytes w1 48 56 (by omega) (by omega)
 go_region_held (fun x=>x.cell? ⟨w.heap.size,0,none⟩=some (.int .i64 8)/\x.cell? ⟨w.heap.size,1,none⟩=some (.bool false)) (first|assumption|go_keep)
   (first|(go_at_call 36;first|(refine(code_digit 0 _ (by omega) (by omega)).mono ?_;rintro e w3 ⟨rfl,rfl⟩)|(refine(code_digit 8 _ (by omega) (by omega)).mono ?_;rintro e w3 ⟨rfl,rfl⟩)))
 all_goals(have hh:=And.intro hs1 (by assumption:_/\_))
 all_goals obtain⟨_,hh1,hh2⟩:=hh
 all_goals go_wp2_with fail
 all_goals refine bodyPost_ret (v:= .tuple #[.string ⟨#[77,48,56]⟩,.bool true]) (by simp [results,Tryz.results13,go_sem];try rfl) rfl ⟨rfl,(baa (bt (ba _ _) hb1) _).drew⟩
theorem code_Text_9(w:World):Calls Tryo.prog 13 #[.agg #[.int .i64 9,.bool false]] w fun e w'=>e= .returned (.tuple #[.string ⟨#[77,48,57]⟩,.bool true])/\Below w.heap.size w w':=by
 go_enter Tryo.func13,Tryz.ntmps13
 go_wp2_with fail
 refine(code_Right_ok 9 _ (by omega) (by omega)).mono ?_
 rintro e w1 ⟨rfl,hb1⟩
 obtain⟨hc1,hf1⟩:=bcell hb1
 have hz1:=hb1.size
 try simp at hz1
 have hs1x0:w.heap.size<w1.heap.size:=by omega
 have g1x0:w1.cell? ⟨w.heap.size,0,none⟩=some (.int .i64 9):=celB hc1
 have g1x1:w1.cell? ⟨w.heap.size,1,none⟩=some (.bool false):=celB hc1
 go_wp2_with fail
 have hs1:w.heap.size<w1.heap.size:=by omega
 clear hc1 hf1
 have kc:(convert 81 9 (.slice (some ⟨w1.heap.size,0,none⟩) 2 2)).run Tryo.prog (w1.alloc (.cells #[.int .u8 48,.int .u8 57] 5)).drew= .ok (.string ⟨#[48,57]⟩) (w1.alloc (.cells #[.int .u8 48,.int .u8 57] 5)).drew:=conv_bytes w1 48 57 (by omega) (by omega)
 go_region_held (fun x=>x.cell? ⟨w.heap.size,0,none⟩=some (.int .i64 9)/\x.cell? ⟨w.heap.size,1,none⟩=some (.bool false)) (first|assumption|go_keep)
   (first|(go_at_call 36;first|(refine(code_digit 0 _ (by omega) (by omega)).mono ?_;rintro e w3 ⟨rfl,rfl⟩)|(refine(code_digit 9 _ (by omega) (by omega)).mono ?_;rintro e w3 ⟨rfl,rfl⟩)))
 all_goals(have hh:=And.intro hs1 (by assumption:_/\_))
 all_goals obtain⟨_,hh1,hh2⟩:=hh
 all_goals go_wp2_with fail
 all_goals refine bodyPost_ret (v:= .tuple #[.string ⟨#[77,48,57]⟩,.bool true]) (by simp [results,Tryz.results13,go_sem];try rfl) rfl ⟨rfl,(baa (bt (ba _ _) hb1) _).drew⟩
theorem code_Text_10(w:World):Calls Tryo.prog 13 #[.agg #[.int .i64 10,.bool false]] w fun e w'=>e= .returned (.tuple #[.string ⟨#[77,49,48]⟩,.bool true])/\Below w.heap.size w w':=by
 go_enter Tryo.func13,Tryz.ntmps13
 go_wp2_with fail
 refine(code_Right_ok 10 _ (by omega) (by omega)).mono ?_
 rintro e w1 ⟨rfl,hb1⟩
 obtain⟨hc1,hf1⟩:=bcell hb1
 have hz1:=hb1.size
 try simp at hz1
 have hs1x0:w.heap.size<w1.heap.size:=by omega
 have g1x0:w1.cell? ⟨w.heap.size,0,none⟩=some (.int .i64 10):=celB hc1
 have g1x1:w1.cell? ⟨w.heap.size,1,none⟩=some (.bool false):=celB hc1
 go_wp2_with fail
 have hs1:w.heap.size<w1.heap.size:=by omega
 clear hc1 hf1
 have kc:(convert 81 9 (.slice (some ⟨w1.heap.size,0,none⟩) 2 2)).run Tryo.prog (w1.alloc (.cells #[.int .u8 49,.int .u8 48] 5)).drew= .ok (.string ⟨#[49,48]⟩) (w1.alloc (.cells #[.int .u8 49,.int .u8 48] 5)).drew:=conv_bytes w1 49 48 (by omega) (by omega)
 go_region_held (fun x=>x.cell? ⟨w.heap.size,0,none⟩=some (.int .i64 10)/\x.cell? ⟨w.heap.size,1,none⟩=some (.bool false)) (first|assumption|go_keep)
   (first|(go_at_call 36;first|(refine(code_digit 1 _ (by omega) (by omega)).mono ?_;rintro e w3 ⟨rfl,rfl⟩)|(refine(code_digit 0 _ (by omega) (by omega)).mono ?_;rintro e w3 ⟨rfl,rfl⟩)))
 all_goals(have hh:=And.intro hs1 (by assumption:_/\_))
 all_goals obtain⟨_,hh1,hh2⟩:=hh
 all_goals go_wp2_with fail
 all_goals refine bodyPost_ret (v:= .tuple #[.string ⟨#[77,49,48]⟩,.bool true]) (by simp [results,Tryz.results13,go_sem];try rfl) rfl ⟨rfl,(baa (bt (ba _ _) hb1) _).drew⟩
theorem code_Text_11(w:World):Calls Tryo.prog 13 #[.agg #[.int .i64 11,.bool false]] w fun e w'=>e= .returned (.tuple #[.string ⟨#[77,49,49]⟩,.bool true])/\Below w.heap.size w w':=by
 go_enter Tryo.func13,Tryz.ntmps13
 go_wp2_with fail
 refine(code_Right_ok 11 _ (by omega) (by omega)).mono ?_
 rintro e w1 ⟨rfl,hb1⟩
 obtain⟨hc1,hf1⟩:=bcell hb1
 have hz1:=hb1.size
 try simp at hz1
 have hs1x0:w.heap.size<w1.heap.size:=by omega
 have g1x0:w1.cell? ⟨w.heap.size,0,none⟩=some (.int .i64 11):=celB hc1
 have g1x1:w1.cell? ⟨w.heap.size,1,none⟩=some (.bool false):=celB hc1
 go_wp2_with fail
 have hs1:w.heap.size<w1.heap.size:=by omega
 clear hc1 hf1
 have kc:(convert 81 9 (.slice (some ⟨w1.heap.size,0,none⟩) 2 2)).run Tryo.prog (w1.alloc (.cells #[.int .u8 49,.int .u8 49] 5)).drew= .ok (.string ⟨#[49,49]⟩) (w1.alloc (.cells #[.int .u8 49,.int .u8 49] 5)).drew:=conv_bytes w1 49 49 (by omega) (by omega)
 go_region_held (fun x=>x.cell? ⟨w.heap.size,0,none⟩=some (.int .i64 11)/\x.cell? ⟨w.heap.size,1,none⟩=some (.bool false)) (first|assumption|go_keep)
   (first|(go_at_call 36;first|(refine(code_digit 1 _ (by omega) (by omega)).mono ?_;rintro e w3 ⟨rfl,rfl⟩)|(refine(code_digit 1 _ (by omega) (by omega)).mono ?_;rintro e w3 ⟨rfl,rfl⟩)))
 all_goals(have hh:=And.intro hs1 (by assumption:_/\_))
 all_goals obtain⟨_,hh1,hh2⟩:=hh
 all_goals go_wp2_with fail
 all_goals refine bodyPost_ret (v:= .tuple #[.string ⟨#[77,49,49]⟩,.bool true]) (by simp [results,Tryz.results13,go_sem];try rfl) rfl ⟨rfl,(baa (bt (ba _ _) hb1) _).drew⟩
theorem code_Text_12(w:World):Calls Tryo.prog 13 #[.agg #[.int .i64 12,.bool false]] w fun e w'=>e= .returned (.tuple #[.string ⟨#[77,49,50]⟩,.bool true])/\Below w.heap.size w w':=by
 go_enter Tryo.func13,Tryz.ntmps13
 go_wp2_with fail
 refine(code_Right_ok 12 _ (by omega) (by omega)).mono ?_
 rintro e w1 ⟨rfl,hb1⟩
 obtain⟨hc1,hf1⟩:=bcell hb1
 have hz1:=hb1.size
 try simp at hz1
 have hs1x0:w.heap.size<w1.heap.size:=by omega
 have g1x0:w1.cell? ⟨w.heap.size,0,none⟩=some (.int .i64 12):=celB hc1
 have g1x1:w1.cell? ⟨w.heap.size,1,none⟩=some (.bool false):=celB hc1
 go_wp2_with fail
 have hs1:w.heap.size<w1.heap.size:=by omega
 clear hc1 hf1
 have kc:(convert 81 9 (.slice (some ⟨w1.heap.size,0,none⟩) 2 2)).run Tryo.prog (w1.alloc (.cells #[.int .u8 49,.int .u8 50] 5)).drew= .ok (.string ⟨#[49,50]⟩) (w1.alloc (.cells #[.int .u8 49,.int .u8 50] 5)).drew:=conv_bytes w1 49 50 (by omega) (by omega)
 go_region_held (fun x=>x.cell? ⟨w.heap.size,0,none⟩=some (.int .i64 12)/\x.cell? ⟨w.heap.size,1,none⟩=some (.bool false)) (first|assumption|go_keep)
   (first|(go_at_call 36;first|(refine(code_digit 1 _ (by omega) (by omega)).mono ?_;rintro e w3 ⟨rfl,rfl⟩)|(refine(code_digit 2 _ (by omega) (by omega)).mono ?_;rintro e w3 ⟨rfl,rfl⟩)))
 all_goals(have hh:=And.intro hs1 (by assumption:_/\_))
 all_goals obtain⟨_,hh1,hh2⟩:=hh
 all_goals go_wp2_with fail
 all_goals refine bodyPost_ret (v:= .tuple #[.string ⟨#[77,49,50]⟩,.bool true]) (by simp [results,Tryz.results13,go_sem];try rfl) rfl ⟨rfl,(baa (bt (ba _ _) hb1) _).drew⟩
theorem code_Text_5L(w:World):Calls Tryo.prog 13 #[.agg #[.int .i64 5,.bool true]] w fun e w'=>e= .returned (.tuple #[.string ⟨#[77,48,53,76]⟩,.bool true])/\Below w.heap.size w w':=by
 go_enter Tryo.func13,Tryz.ntmps13
 go_wp2_with fail
 refine(code_Right_leap _).mono ?_
 rintro e w1 ⟨rfl,hb1⟩
 obtain⟨hc1,hf1⟩:=bcell hb1
 have hz1:=hb1.size
 try simp at hz1
 have hs1x0:w.heap.size<w1.heap.size:=by omega
 have g1x0:w1.cell? ⟨w.heap.size,0,none⟩=some (.int .i64 5):=celB hc1
 have g1x1:w1.cell? ⟨w.heap.size,1,none⟩=some (.bool true):=celB hc1
 go_wp2_with fail
 have hs1:w.heap.size<w1.heap.size:=by omega
 clear hc1 hf1
 have kc:(convert 81 9 (.slice (some ⟨w1.heap.size,0,none⟩) 2 2)).run Tryo.prog (w1.alloc (.cells #[.int .u8 48,.int .u8 53] 5)).drew= .ok (.string ⟨#[48,53]⟩) (w1.alloc (.cells #[.int .u8 48,.int .u8 53] 5)).drew:=conv_bytes w1 48 53 (by omega) (by omega)
 go_region_held (fun x=>x.cell? ⟨w.heap.size,0,none⟩=some (.int .i64 5)/\x.cell? ⟨w.heap.size,1,none⟩=some (.bool true)) (first|assumption|go_keep)
   (first|(go_at_call 36;first|(refine(code_digit 0 _ (by omega) (by omega)).mono ?_;rintro e w3 ⟨rfl,rfl⟩)|(refine(code_digit 5 _ (by omega) (by omega)).mono ?_;rintro e w3 ⟨rfl,rfl⟩)))
 all_goals(have hh:=And.intro hs1 (by assumption:_/\_))
 all_goals obtain⟨_,hh1,hh2⟩:=hh
 all_goals go_wp2_with fail
 all_goals refine bodyPost_ret (v:= .tuple #[.string ⟨#[77,48,53,76]⟩,.bool true]) (by simp [results,Tryz.results13,go_sem];try rfl) rfl ⟨rfl,(baa (bt (ba _ _) hb1) _).drew⟩
end
section
open Go.ChangeShapes Go.WideShapes Go.ChangeAt Go.RowKit
theorem code_Of_low(m:Int)(w:World)(h:m<1):Calls Tryo.prog 29 #[.bool false,.int .i64 m] w fun e w'=>e= .returned (.tuple #[.agg #[.int .i64 0,.bool false],.bool false])/\Below w.heap.size w w':=by
 have HR:=Lib.hid (show Cal.right (m) false=false by rw [Cal.right,decide_eq_false_iff_not];omega)
 go_enter Tryo.func29,Tryz.ntmps29
 go_wp2_with fail
 refine(code_Right_no (m) false _ HR.out).mono ?_
 rintro e w1 ⟨rfl,hb1⟩
 obtain⟨hc1,hf1⟩:=bcell hb1
 have hz1:=hb1.size
 try simp at hz1
 have g1x0:w1.cell? ⟨w.heap.size,0,none⟩=some (.int .i64 0):=celB hc1
 have g1x1:w1.cell? ⟨w.heap.size,1,none⟩=some (.bool false):=celB hc1
 have g1x2:w1.cell? ⟨w.heap.size+1,0,none⟩=some (.int .i64 (m)):=celB hc1
 have g1x3:w1.cell? ⟨w.heap.size+1,1,none⟩=some (.bool false):=celB hc1
 go_wp2_with fail
 refine bodyPost_ret (v:= .tuple #[.agg #[.int .i64 0,.bool false],.bool false]) (by simp [results,Tryz.results29,go_sem,g1x0,g1x1]) rfl ⟨rfl, ?_⟩
 first
  |exact bt (baa (ba _ _) _) hb1
  |exact bs (bs (bt (baa (ba _ _) _) hb1) (Nat.le_refl _) _) (Nat.le_refl _) _
theorem code_Of_high(m:Int)(w:World)(h:12<m):Calls Tryo.prog 29 #[.bool false,.int .i64 m] w fun e w'=>e= .returned (.tuple #[.agg #[.int .i64 0,.bool false],.bool false])/\Below w.heap.size w w':=by
 have HR:=Lib.hid (show Cal.right (m) false=false by rw [Cal.right,decide_eq_false_iff_not];omega)
 go_enter Tryo.func29,Tryz.ntmps29
 go_wp2_with fail
 refine(code_Right_no (m) false _ HR.out).mono ?_
 rintro e w1 ⟨rfl,hb1⟩
 obtain⟨hc1,hf1⟩:=bcell hb1
 have hz1:=hb1.size
 try simp at hz1
 have g1x0:w1.cell? ⟨w.heap.size,0,none⟩=some (.int .i64 0):=celB hc1
 have g1x1:w1.cell? ⟨w.heap.size,1,none⟩=some (.bool false):=celB hc1
 have g1x2:w1.cell? ⟨w.heap.size+1,0,none⟩=some (.int .i64 (m)):=celB hc1
 have g1x3:w1.cell? ⟨w.heap.size+1,1,none⟩=some (.bool false):=celB hc1
 go_wp2_with fail
 refine bodyPost_ret (v:= .tuple #[.agg #[.int .i64 0,.bool false],.bool false]) (by simp [results,Tryz.results29,go_sem,g1x0,g1x1]) rfl ⟨rfl, ?_⟩
 first
  |exact bt (baa (ba _ _) _) hb1
  |exact bs (bs (bt (baa (ba _ _) _) hb1) (Nat.le_refl _) _) (Nat.le_refl _) _
theorem code_Of_in(m:Int)(w:World)(h:1<=m)(h2:m<=12):Calls Tryo.prog 29 #[.bool false,.int .i64 m] w fun e w'=>e= .returned (.tuple #[.agg #[.int .i64 (m),.bool false],.bool true])/\Below w.heap.size w w':=by
 go_enter Tryo.func29,Tryz.ntmps29
 go_wp2_with fail
 refine(code_Right_ok (m) _ (by omega) (by omega)).mono ?_
 rintro e w1 ⟨rfl,hb1⟩
 obtain⟨hc1,hf1⟩:=bcell hb1
 have hz1:=hb1.size
 try simp at hz1
 have g1x0:w1.cell? ⟨w.heap.size,0,none⟩=some (.int .i64 0):=celB hc1
 have g1x1:w1.cell? ⟨w.heap.size,1,none⟩=some (.bool false):=celB hc1
 have g1x2:w1.cell? ⟨w.heap.size+1,0,none⟩=some (.int .i64 (m)):=celB hc1
 have g1x3:w1.cell? ⟨w.heap.size+1,1,none⟩=some (.bool false):=celB hc1
 go_wp2_with fail
 refine bodyPost_ret (v:= .tuple #[.agg #[.int .i64 (m),.bool false],.bool true]) (by simp [results,Tryz.results29,go_sem,g1x0,g1x1]) rfl ⟨rfl, ?_⟩
 first
  |exact bt (baa (ba _ _) _) hb1
  |exact bs (bs (bt (baa (ba _ _) _) hb1) (Nat.le_refl _) _) (Nat.le_refl _) _
theorem code_Of_llow(m:Int)(w:World)(h:m<1):Calls Tryo.prog 29 #[.bool true,.int .i64 m] w fun e w'=>e= .returned (.tuple #[.agg #[.int .i64 0,.bool false],.bool false])/\Below w.heap.size w w':=by
 have HR:=Lib.hid (show Cal.right (m) false=false by rw [Cal.right,decide_eq_false_iff_not];omega)
 go_enter Tryo.func29,Tryz.ntmps29
 go_wp2_with fail
 refine(code_Right_no (m) false _ HR.out).mono ?_
 rintro e w1 ⟨rfl,hb1⟩
 obtain⟨hc1,hf1⟩:=bcell hb1
 have hz1:=hb1.size
 try simp at hz1
 have g1x0:w1.cell? ⟨w.heap.size,0,none⟩=some (.int .i64 0):=celB hc1
 have g1x1:w1.cell? ⟨w.heap.size,1,none⟩=some (.bool false):=celB hc1
 have g1x2:w1.cell? ⟨w.heap.size+1,0,none⟩=some (.int .i64 (m)):=celB hc1
 have g1x3:w1.cell? ⟨w.heap.size+1,1,none⟩=some (.bool false):=celB hc1
 go_wp2_with fail
 refine bodyPost_ret (v:= .tuple #[.agg #[.int .i64 0,.bool false],.bool false]) (by simp [results,Tryz.results29,go_sem,g1x0,g1x1]) rfl ⟨rfl, ?_⟩
 first
  |exact bt (baa (ba _ _) _) hb1
  |exact bs (bs (bt (baa (ba _ _) _) hb1) (Nat.le_refl _) _) (Nat.le_refl _) _
theorem code_Of_lin(m:Int)(w:World)(h:1<=m)(h2:m<=5):Calls Tryo.prog 29 #[.bool true,.int .i64 m] w fun e w'=>e= .returned (.tuple #[.agg #[.int .i64 (m),.bool false],.bool true])/\Below w.heap.size w w':=by
 go_enter Tryo.func29,Tryz.ntmps29
 go_wp2_with fail
 refine(code_Right_ok (m) _ (by omega) (by omega)).mono ?_
 rintro e w1 ⟨rfl,hb1⟩
 obtain⟨hc1,hf1⟩:=bcell hb1
 have hz1:=hb1.size
 try simp at hz1
 have g1x0:w1.cell? ⟨w.heap.size,0,none⟩=some (.int .i64 0):=celB hc1
 have g1x1:w1.cell? ⟨w.heap.size,1,none⟩=some (.bool false):=celB hc1
 have g1x2:w1.cell? ⟨w.heap.size+1,0,none⟩=some (.int .i64 (m)):=celB hc1
 have g1x3:w1.cell? ⟨w.heap.size+1,1,none⟩=some (.bool false):=celB hc1
 go_wp2_with fail
 refine bodyPost_ret (v:= .tuple #[.agg #[.int .i64 (m),.bool false],.bool true]) (by simp [results,Tryz.results29,go_sem,g1x0,g1x1]) rfl ⟨rfl, ?_⟩
 first
  |exact bt (baa (ba _ _) _) hb1
  |exact bs (bs (bt (baa (ba _ _) _) hb1) (Nat.le_refl _) _) (Nat.le_refl _) _
theorem code_Of_lup(m:Int)(w:World)(h:6<m)(h2:m<=13):Calls Tryo.prog 29 #[.bool true,.int .i64 m] w fun e w'=>e= .returned (.tuple #[.agg #[.int .i64 (m-1),.bool false],.bool true])/\Below w.heap.size w w':=by
 have e6:(m==6)=false:=by rw [beq_eq_false_iff_ne];omega
 go_enter Tryo.func29,Tryz.ntmps29
 go_wp2_with fail
 refine(code_Right_ok (m-1) _ (by omega) (by omega)).mono ?_
 rintro e w1 ⟨rfl,hb1⟩
 obtain⟨hc1,hf1⟩:=bcell hb1
 have hz1:=hb1.size
 try simp at hz1
 have g1x0:w1.cell? ⟨w.heap.size,0,none⟩=some (.int .i64 0):=celB hc1
 have g1x1:w1.cell? ⟨w.heap.size,1,none⟩=some (.bool false):=celB hc1
 have g1x2:w1.cell? ⟨w.heap.size+1,0,none⟩=some (.int .i64 (m-1)):=celB hc1
 have g1x3:w1.cell? ⟨w.heap.size+1,1,none⟩=some (.bool false):=celB hc1
 go_wp2_with fail
 refine bodyPost_ret (v:= .tuple #[.agg #[.int .i64 (m-1),.bool false],.bool true]) (by simp [results,Tryz.results29,go_sem,g1x0,g1x1]) rfl ⟨rfl, ?_⟩
 first
  |exact bt (baa (ba _ _) _) hb1
  |exact bs (bs (bt (baa (ba _ _) _) hb1) (Nat.le_refl _) _) (Nat.le_refl _) _
theorem code_Of_lhigh(m:Int)(w:World)(h:13<m)(h2:m<=9223372036854775807):Calls Tryo.prog 29 #[.bool true,.int .i64 m] w fun e w'=>e= .returned (.tuple #[.agg #[.int .i64 0,.bool false],.bool false])/\Below w.heap.size w w':=by
 have e6:(m==6)=false:=by rw [beq_eq_false_iff_ne];omega
 have HR:=Lib.hid (show Cal.right (m-1) false=false by rw [Cal.right,decide_eq_false_iff_not];omega)
 go_enter Tryo.func29,Tryz.ntmps29
 go_wp2_with fail
 refine(code_Right_no (m-1) false _ HR.out).mono ?_
 rintro e w1 ⟨rfl,hb1⟩
 obtain⟨hc1,hf1⟩:=bcell hb1
 have hz1:=hb1.size
 try simp at hz1
 have g1x0:w1.cell? ⟨w.heap.size,0,none⟩=some (.int .i64 0):=celB hc1
 have g1x1:w1.cell? ⟨w.heap.size,1,none⟩=some (.bool false):=celB hc1
 have g1x2:w1.cell? ⟨w.heap.size+1,0,none⟩=some (.int .i64 (m-1)):=celB hc1
 have g1x3:w1.cell? ⟨w.heap.size+1,1,none⟩=some (.bool false):=celB hc1
 go_wp2_with fail
 refine bodyPost_ret (v:= .tuple #[.agg #[.int .i64 0,.bool false],.bool false]) (by simp [results,Tryz.results29,go_sem,g1x0,g1x1]) rfl ⟨rfl, ?_⟩
 first
  |exact bt (baa (ba _ _) _) hb1
  |exact bs (bs (bt (baa (ba _ _) _) hb1) (Nat.le_refl _) _) (Nat.le_refl _) _
theorem code_Of_leap(w:World):Calls Tryo.prog 29 #[.bool true,.int .i64 6] w fun e w'=>e= .returned (.tuple #[.agg #[.int .i64 5,.bool true],.bool true])/\Below w.heap.size w w':=by
 go_enter Tryo.func29,Tryz.ntmps29
 go_wp2_with fail
 refine(code_Right_leap _).mono ?_
 rintro e w1 ⟨rfl,hb1⟩
 obtain⟨hc1,hf1⟩:=bcell hb1
 have hz1:=hb1.size
 try simp at hz1
 have g1x0:w1.cell? ⟨w.heap.size,0,none⟩=some (.int .i64 0):=celB hc1
 have g1x1:w1.cell? ⟨w.heap.size,1,none⟩=some (.bool false):=celB hc1
 have g1x2:w1.cell? ⟨w.heap.size+1,0,none⟩=some (.int .i64 5):=celB hc1
 have g1x3:w1.cell? ⟨w.heap.size+1,1,none⟩=some (.bool true):=celB hc1
 go_wp2_with fail
 refine bodyPost_ret (v:= .tuple #[.agg #[.int .i64 5,.bool true],.bool true]) (by simp [results,Tryz.results29,go_sem,g1x0,g1x1]) rfl ⟨rfl, ?_⟩
 first
  |exact bt (baa (ba _ _) _) hb1
  |exact bs (bs (bt (baa (ba _ _) _) hb1) (Nat.le_refl _) _) (Nat.le_refl _) _
end
section
open Go.ChangeShapes Go.WideShapes Go.ChangeAt Go.RowKit
theorem code_Place_no_false(n:Int)(l:Bool)(w:World)(h:Cal.right n l=false):Calls Tryo.prog 75 #[.bool false,.agg #[.int .i64 n,.bool l]] w fun e w'=>e= .returned (.tuple #[.int .i64 0,.bool false])/\Below w.heap.size w w':=by
 go_enter Tryo.func75,Tryz.ntmps75
 go_wp2_with fail
 refine(code_Right_no n l _ h).mono ?_
 rintro e w1 ⟨rfl,hb1⟩
 obtain⟨hc1,hf1⟩:=bcell hb1
 have hz1:=hb1.size
 try simp at hz1
 have g1x0:w1.cell? ⟨w.heap.size,0,none⟩=some (.int .i64 n):=celB hc1
 have g1x1:w1.cell? ⟨w.heap.size,1,none⟩=some (.bool l):=celB hc1
 go_wp2_with fail
 go_ret2
 exact⟨rfl,bt (ba _ _) hb1⟩
theorem code_Place_no_true(n:Int)(l:Bool)(w:World)(h:Cal.right n l=false):Calls Tryo.prog 75 #[.bool true,.agg #[.int .i64 n,.bool l]] w fun e w'=>e= .returned (.tuple #[.int .i64 0,.bool false])/\Below w.heap.size w w':=by
 go_enter Tryo.func75,Tryz.ntmps75
 go_wp2_with fail
 refine(code_Right_no n l _ h).mono ?_
 rintro e w1 ⟨rfl,hb1⟩
 obtain⟨hc1,hf1⟩:=bcell hb1
 have hz1:=hb1.size
 try simp at hz1
 have g1x0:w1.cell? ⟨w.heap.size,0,none⟩=some (.int .i64 n):=celB hc1
 have g1x1:w1.cell? ⟨w.heap.size,1,none⟩=some (.bool l):=celB hc1
 go_wp2_with fail
 go_ret2
 exact⟨rfl,bt (ba _ _) hb1⟩
theorem code_Place_plain(n:Int)(w:World)(h1:1<=n)(h2:n<=12):Calls Tryo.prog 75 #[.bool false,.agg #[.int .i64 n,.bool false]] w fun e w'=>e= .returned (.tuple #[.int .i64 n,.bool true])/\Below w.heap.size w w':=by
 go_enter Tryo.func75,Tryz.ntmps75
 go_wp2_with fail
 refine(code_Right_ok n _ h1 h2).mono ?_
 rintro e w1 ⟨rfl,hb1⟩
 obtain⟨hc1,hf1⟩:=bcell hb1
 have hz1:=hb1.size
 try simp at hz1
 have g1x0:w1.cell? ⟨w.heap.size,0,none⟩=some (.int .i64 n):=celB hc1
 have g1x1:w1.cell? ⟨w.heap.size,1,none⟩=some (.bool false):=celB hc1
 go_wp2_with fail
 go_ret2
 exact⟨rfl,bt (ba _ _) hb1⟩
theorem code_Place_low(n:Int)(w:World)(h1:1<=n)(h2:n<=5):Calls Tryo.prog 75 #[.bool true,.agg #[.int .i64 n,.bool false]] w fun e w'=>e= .returned (.tuple #[.int .i64 n,.bool true])/\Below w.heap.size w w':=by
 go_enter Tryo.func75,Tryz.ntmps75
 go_wp2_with fail
 refine(code_Right_ok n _ h1 (by omega)).mono ?_
 rintro e w1 ⟨rfl,hb1⟩
 obtain⟨hc1,hf1⟩:=bcell hb1
 have hz1:=hb1.size
 try simp at hz1
 have g1x0:w1.cell? ⟨w.heap.size,0,none⟩=some (.int .i64 n):=celB hc1
 have g1x1:w1.cell? ⟨w.heap.size,1,none⟩=some (.bool false):=celB hc1
 go_wp2_with fail
 go_ret2
 exact⟨rfl,bt (ba _ _) hb1⟩
theorem code_Place_up(n:Int)(w:World)(h1:5<n)(h2:n<=12):Calls Tryo.prog 75 #[.bool true,.agg #[.int .i64 n,.bool false]] w fun e w'=>e= .returned (.tuple #[.int .i64 (n+1),.bool true])/\Below w.heap.size w w':=by
 go_enter Tryo.func75,Tryz.ntmps75
 go_wp2_with fail
 refine(code_Right_ok n _ (by omega) h2).mono ?_
 rintro e w1 ⟨rfl,hb1⟩
 obtain⟨hc1,hf1⟩:=bcell hb1
 have hz1:=hb1.size
 try simp at hz1
 have g1x0:w1.cell? ⟨w.heap.size,0,none⟩=some (.int .i64 n):=celB hc1
 have g1x1:w1.cell? ⟨w.heap.size,1,none⟩=some (.bool false):=celB hc1
 go_wp2_with fail
 go_ret2
 exact⟨rfl,bt (ba _ _) hb1⟩
theorem code_Place_leap(w:World):Calls Tryo.prog 75 #[.bool true,.agg #[.int .i64 5,.bool true]] w fun e w'=>e= .returned (.tuple #[.int .i64 6,.bool true])/\Below w.heap.size w w':=by
 go_enter Tryo.func75,Tryz.ntmps75
 go_wp2_with fail
 refine(code_Right_leap _).mono ?_
 rintro e w1 ⟨rfl,hb1⟩
 obtain⟨hc1,hf1⟩:=bcell hb1
 have hz1:=hb1.size
 try simp at hz1
 have g1x0:w1.cell? ⟨w.heap.size,0,none⟩=some (.int .i64 5):=celB hc1
 have g1x1:w1.cell? ⟨w.heap.size,1,none⟩=some (.bool true):=celB hc1
 go_wp2_with fail
 go_ret2
 exact⟨rfl,bt (ba _ _) hb1⟩
theorem code_Place_lone(w:World):Calls Tryo.prog 75 #[.bool false,.agg #[.int .i64 5,.bool true]] w fun e w'=>e= .returned (.tuple #[.int .i64 0,.bool false])/\Below w.heap.size w w':=by
 go_enter Tryo.func75,Tryz.ntmps75
 go_wp2_with fail
 refine(code_Right_leap _).mono ?_
 rintro e w1 ⟨rfl,hb1⟩
 obtain⟨hc1,hf1⟩:=bcell hb1
 have hz1:=hb1.size
 try simp at hz1
 have g1x0:w1.cell? ⟨w.heap.size,0,none⟩=some (.int .i64 5):=celB hc1
 have g1x1:w1.cell? ⟨w.heap.size,1,none⟩=some (.bool true):=celB hc1
 go_wp2_with fail
 go_ret2
 exact⟨rfl,bt (ba _ _) hb1⟩
end
section
open Go.ChangeShapes Go.WideShapes Go.ChangeAt Go.RowKit
def Cal.most(lp:Bool):Int:=if lp then 13 else 12
def Cal.lessV(n:Int)(l:Bool)(k:Int)(h:Bool):Bool:=decide (n<k)||(n==k&&(!l&&h))
def Cal.ofOk(lp:Bool)(m:Int):Bool:=decide (1<=m)&&decide (m<=Cal.most lp)
def Cal.ofN(lp:Bool)(m:Int):Int:=if Cal.ofOk lp m then(if lp&&decide (6<=m)then m-1 else m)else 0
def Cal.ofL(lp:Bool)(m:Int):Bool:=Cal.ofOk lp m&&(lp&&m==6)
def Cal.plOk(lp:Bool)(n:Int)(l:Bool):Bool:=Cal.right n l&& !(l&& !lp)
def Cal.plV(lp:Bool)(n:Int)(l:Bool):Int:=if Cal.plOk lp n l then(if lp&&(l||decide (5<n))then n+1 else n)else 0
theorem right_cases(n:Int)(l:Bool)(h:Cal.right n l=true):(1<=n/\n<=12/\l=false)∨(n=5/\l=true):=by
 rw [Cal.right,decide_eq_true_iff]at h
 cases l
 ·exact .inl ⟨h.1,h.2.1,rfl⟩
 ·rcases h.2.2 with h3|h3
  ·cases h3
  ·exact .inr ⟨h3,rfl⟩
theorem code_Of_any(lp:Bool)(m:Int)(w:World)(hm:m<=9223372036854775807):Calls Tryo.prog 29 #[.bool lp,.int .i64 m] w fun e w'=>e= .returned (.tuple #[.agg #[.int .i64 (Cal.ofN lp m),.bool (Cal.ofL lp m)],.bool (Cal.ofOk lp m)])/\Below w.heap.size w w':=by
 cases lp
 ·rcases(show m<1∨12<m∨(1<=m/\m<=12) by omega)with c|c|⟨c1,c2⟩
  ·have e:Cal.ofOk false m=false:=by simp [Cal.ofOk,Cal.most];omega
   simp only [Cal.ofN,Cal.ofL,e,Bool.false_and,Bool.false_eq_true,if_false]
   exact code_Of_low m w c
  ·have e:Cal.ofOk false m=false:=by simp [Cal.ofOk,Cal.most];omega
   simp only [Cal.ofN,Cal.ofL,e,Bool.false_and,Bool.false_eq_true,if_false]
   exact code_Of_high m w c
  ·have e:Cal.ofOk false m=true:=by simp [Cal.ofOk,Cal.most,c1,c2]
   simp only [Cal.ofN,Cal.ofL,e,Bool.false_and,Bool.and_false,Bool.false_eq_true,if_false,if_true]
   exact code_Of_in m w c1 c2
 ·rcases(show m<1∨13<m∨(1<=m/\m<=5)∨m=6∨(6<m/\m<=13) by omega)with c|c|⟨c1,c2⟩|rfl|⟨c1,c2⟩
  ·have e:Cal.ofOk true m=false:=by simp [Cal.ofOk,Cal.most];omega
   simp only [Cal.ofN,Cal.ofL,e,Bool.false_and,Bool.false_eq_true,if_false]
   exact code_Of_llow m w c
  ·have e:Cal.ofOk true m=false:=by simp [Cal.ofOk,Cal.most];omega
   simp only [Cal.ofN,Cal.ofL,e,Bool.false_and,Bool.false_eq_true,if_false]
   exact code_Of_lhigh m w c hm
  ·have e:Cal.ofOk true m=true:=by simp [Cal.ofOk,Cal.most,c1];omega
   have e2:decide (6<=m)=false:=by simp;omega
   have e3:(m==6)=false:=by rw [beq_eq_false_iff_ne];omega
   simp only [Cal.ofN,Cal.ofL,e,e2,e3,Bool.and_false,Bool.false_eq_true,if_false,if_true]
   exact code_Of_lin m w c1 c2
  ·exact code_Of_leap w
  ·have e:Cal.ofOk true m=true:=by simp [Cal.ofOk,Cal.most,c2];omega
   have e2:decide (6<=m)=true:=by simp;omega
   have e3:(m==6)=false:=by rw [beq_eq_false_iff_ne];omega
   simp only [Cal.ofN,Cal.ofL,e,e2,e3,Bool.and_false,Bool.and_true,if_true]
   exact code_Of_lup m w c1 c2
theorem plOk_no(lp:Bool)(n:Int)(l:Bool)(h:Cal.right n l=false):Cal.plOk lp n l=false/\Cal.plV lp n l=0:=by simp [Cal.plV,Cal.plOk,h]
theorem code_Place_any(lp:Bool)(n:Int)(l:Bool)(w:World):Calls Tryo.prog 75 #[.bool lp,.agg #[.int .i64 n,.bool l]] w fun e w'=>e= .returned (.tuple #[.int .i64 (Cal.plV lp n l),.bool (Cal.plOk lp n l)])/\Below w.heap.size w w':=by
 cases h:Cal.right n l
 ·rw [(plOk_no lp n l h).1,(plOk_no lp n l h).2]
  cases lp
  ·exact code_Place_no_false n l w h
  ·exact code_Place_no_true n l w h
 ·rcases right_cases n l h with ⟨h1,h2,rfl⟩|⟨rfl,rfl⟩
  ·have e:∀lp,Cal.plOk lp n false=true:=fun lp=>by simp [Cal.plOk,h]
   cases lp
   ·simp only [Cal.plV,e,Bool.false_and,Bool.false_eq_true,if_false,if_true]
    exact code_Place_plain n w h1 h2
   ·by_cases c:5<n
    ·simp only [Cal.plV,e,Bool.false_or,c,decide_true,Bool.and_true,if_true]
     exact code_Place_up n w c h2
    ·simp only [Cal.plV,e,Bool.false_or,c,decide_false,Bool.and_false,Bool.false_eq_true,if_false,if_true]
     exact code_Place_low n w h1 (by omega)
  ·cases lp
   ·exact code_Place_lone w
   ·exact code_Place_leap w
open Go.ChangeShapes Go.WideShapes Go.ChangeAt Go.RowKit
def codesTo(lp:Bool):Nat->List (Int×Bool)
 |0=> []
 |k+1=>codesTo lp k++(((k:Int)+1,false) :: if k=4/\lp=true then [(5,true)]else [])
def Codes(w:World)(B:Nat)(v:Value)(xs:List (Int×Bool)):Prop:=∃g cap,v= .slice (some ⟨g,0,none⟩) xs.length cap/\xs.length<=cap/\B<=g/\g<w.heap.size/\∀ (j:Nat) c,xs[j]? =some c->w.cell? ⟨g,j*2,none⟩=some (.int .i64 c.1)/\w.cell? ⟨g,j*2+1,none⟩=some (.bool c.2)
open Go.ChangeShapes Go.WideShapes Go.ChangeAt Go.RowKit
theorem codes_len(lp:Bool):(codesTo lp 12).length=if lp then 13 else 12:=by cases lp <;> decide
def codesOk(lp:Bool):Bool:=(List.range (codesTo lp 12).length).all fun j=>(codesTo lp 12)[j]? ==some (Cal.ofN lp ((j:Int)+1),Cal.ofL lp ((j:Int)+1))&&(Cal.plOk lp (Cal.ofN lp ((j:Int)+1)) (Cal.ofL lp ((j:Int)+1))&&Cal.plV lp (Cal.ofN lp ((j:Int)+1)) (Cal.ofL lp ((j:Int)+1))==(j:Int)+1)
theorem codesOk_ok(lp:Bool):codesOk lp=true:=by cases lp <;> decide+kernel
theorem codes_at(lp:Bool)(j:Nat)(hj:j<(codesTo lp 12).length):(codesTo lp 12)[j]? =some (Cal.ofN lp ((j:Int)+1),Cal.ofL lp ((j:Int)+1))/\Cal.plOk lp (Cal.ofN lp ((j:Int)+1)) (Cal.ofL lp ((j:Int)+1))=true/\Cal.plV lp (Cal.ofN lp ((j:Int)+1)) (Cal.ofL lp ((j:Int)+1))=(j:Int)+1:=by
 have:=List.all_eq_true.1 (codesOk_ok lp) j (List.mem_range.2 hj)
 simp only [Bool.and_eq_true,beq_iff_eq]at this
 exact this
theorem codes_place(lp:Bool)(j:Nat)(n:Int)(l:Bool)(h:(codesTo lp 12)[j]? =some (n,l)):Cal.plOk lp n l=true/\Cal.plV lp n l=(j:Int)+1:=by
 have h2:=codes_at lp j (List.getElem?_eq_some_iff.1 h).1
 rw [h2.1]at h
 simp only [Option.some.injEq,Prod.mk.injEq]at h
 rw [h.1,h.2]at h2
 exact h2.2
theorem codes_there(lp:Bool)(n:Int)(l:Bool)(h:Cal.plOk lp n l=true):∃j,j<(codesTo lp 12).length/\(codesTo lp 12)[j]? =some (n,l):=by
 have hr:Cal.right n l=true:=by
  cases c:Cal.right n l
  ·rw [(plOk_no lp n l c).1]at h;exact h
  ·rfl
 rcases right_cases n l hr with ⟨h1,h2,rfl⟩|⟨rfl,rfl⟩
 ·obtain⟨k,hk,rfl⟩:∃k:Nat,k<12/\n=(k:Int)+1:=⟨(n-1).toNat,by omega,by omega⟩
  cases lp
  ·match k,hk with
   |0,_=>exact⟨0,by decide,by decide⟩
   |1,_=>exact⟨1,by decide,by decide⟩
   |2,_=>exact⟨2,by decide,by decide⟩
   |3,_=>exact⟨3,by decide,by decide⟩
   |4,_=>exact⟨4,by decide,by decide⟩
   |5,_=>exact⟨5,by decide,by decide⟩
   |6,_=>exact⟨6,by decide,by decide⟩
   |7,_=>exact⟨7,by decide,by decide⟩
   |8,_=>exact⟨8,by decide,by decide⟩
   |9,_=>exact⟨9,by decide,by decide⟩
   |10,_=>exact⟨10,by decide,by decide⟩
   |11,_=>exact⟨11,by decide,by decide⟩
  ·match k,hk with
   |0,_=>exact⟨0,by decide,by decide⟩
   |1,_=>exact⟨1,by decide,by decide⟩
   |2,_=>exact⟨2,by decide,by decide⟩
   |3,_=>exact⟨3,by decide,by decide⟩
   |4,_=>exact⟨4,by decide,by decide⟩
   |5,_=>exact⟨6,by decide,by decide⟩
   |6,_=>exact⟨7,by decide,by decide⟩
   |7,_=>exact⟨8,by decide,by decide⟩
   |8,_=>exact⟨9,by decide,by decide⟩
   |9,_=>exact⟨10,by decide,by decide⟩
   |10,_=>exact⟨11,by decide,by decide⟩
   |11,_=>exact⟨12,by decide,by decide⟩
 ·cases lp
  ·simp [Cal.plOk]at h
  ·exact⟨5,by decide,by decide⟩
end
section
open Go.ChangeShapes Go.WideShapes Go.ChangeAt Go.RowKit
theorem code_Read_1(w:World):Calls Tryo.prog 20 #[.string ⟨#[77,48,49]⟩] w fun e w'=>e= .returned (.tuple #[.agg #[.int .i64 1,.bool false],.bool true])/\Below w.heap.size w w':=by
 have x1:∀h,(({data:= #[77,48,49]}:ByteArray)[1]'h).toNat=48:=fun _=>rfl
 have x2:∀h,(({data:= #[77,48,49]}:ByteArray)[2]'h).toNat=49:=fun _=>rfl
 go_enter Tryo.func20,Tryz.ntmps20
 go_wp2_with fail
 go_region_held (fun x=>x.cell? ⟨w.heap.size,0,none⟩=some (.int .i64 0)/\x.cell? ⟨w.heap.size,1,none⟩=some (.bool false)) (first|assumption|go_keep) (first|fail)
 all_goals go_wp2_with fail
 all_goals
  refine(code_Text_1 _).mono ?_
  rintro e w1 ⟨rfl,hb1⟩
  obtain⟨hc1,hf1⟩:=bcell hb1
  have hz1:=hb1.size
  try simp at hz1
  have g1x0:w1.cell? ⟨w.heap.size,0,none⟩=some (.int .i64 0):=celB hc1
  have g1x1:w1.cell? ⟨w.heap.size,1,none⟩=some (.bool false):=celB hc1
  have g1x2:w1.cell? ⟨w.heap.size+1,0,none⟩=some (.int .i64 1):=celB hc1
  have g1x3:w1.cell? ⟨w.heap.size+1,1,none⟩=some (.bool false):=celB hc1
  go_wp2_with fail
  refine bodyPost_ret (v:= .tuple #[.agg #[.int .i64 1,.bool false],.bool true]) (by simp [results,Tryz.results20,go_sem,g1x0,g1x1]) rfl ⟨rfl, ?_⟩
  first
   |exact bt (baa (ba _ _) _).drew hb1
   |exact bs (bs (bt (baa (ba _ _) _).drew hb1) (Nat.le_refl _) _) (Nat.le_refl _) _
theorem code_Read_2(w:World):Calls Tryo.prog 20 #[.string ⟨#[77,48,50]⟩] w fun e w'=>e= .returned (.tuple #[.agg #[.int .i64 2,.bool false],.bool true])/\Below w.heap.size w w':=by
 have x1:∀h,(({data:= #[77,48,50]}:ByteArray)[1]'h).toNat=48:=fun _=>rfl
 have x2:∀h,(({data:= #[77,48,50]}:ByteArray)[2]'h).toNat=50:=fun _=>rfl
 go_enter Tryo.func20,Tryz.ntmps20
 go_wp2_with fail
 go_region_held (fun x=>x.cell? ⟨w.heap.size,0,none⟩=some (.int .i64 0)/\x.cell? ⟨w.heap.size,1,none⟩=some (.bool false)) (first|assumption|go_keep) (first|fail)
 all_goals go_wp2_with fail
 all_goals
  refine(code_Text_2 _).mono ?_
  rintro e w1 ⟨rfl,hb1⟩
  obtain⟨hc1,hf1⟩:=bcell hb1
  have hz1:=hb1.size
  try simp at hz1
  have g1x0:w1.cell? ⟨w.heap.size,0,none⟩=some (.int .i64 0):=celB hc1
  have g1x1:w1.cell? ⟨w.heap.size,1,none⟩=some (.bool false):=celB hc1
  have g1x2:w1.cell? ⟨w.heap.size+1,0,none⟩=some (.int .i64 2):=celB hc1
  have g1x3:w1.cell? ⟨w.heap.size+1,1,none⟩=some (.bool false):=celB hc1
  go_wp2_with fail
  refine bodyPost_ret (v:= .tuple #[.agg #[.int .i64 2,.bool false],.bool true]) (by simp [results,Tryz.results20,go_sem,g1x0,g1x1]) rfl ⟨rfl, ?_⟩
  first
   |exact bt (baa (ba _ _) _).drew hb1
   |exact bs (bs (bt (baa (ba _ _) _).drew hb1) (Nat.le_refl _) _) (Nat.le_refl _) _
theorem code_Read_3(w:World):Calls Tryo.prog 20 #[.string ⟨#[77,48,51]⟩] w fun e w'=>e= .returned (.tuple #[.agg #[.int .i64 3,.bool false],.bool true])/\Below w.heap.size w w':=by
 have x1:∀h,(({data:= #[77,48,51]}:ByteArray)[1]'h).toNat=48:=fun _=>rfl
 have x2:∀h,(({data:= #[77,48,51]}:ByteArray)[2]'h).toNat=51:=fun _=>rfl
 go_enter Tryo.func20,Tryz.ntmps20
 go_wp2_with fail
 go_region_held (fun x=>x.cell? ⟨w.heap.size,0,none⟩=some (.int .i64 0)/\x.cell? ⟨w.heap.size,1,none⟩=some (.bool false)) (first|assumption|go_keep) (first|fail)
 all_goals go_wp2_with fail
 all_goals
  refine(code_Text_3 _).mono ?_
  rintro e w1 ⟨rfl,hb1⟩
  obtain⟨hc1,hf1⟩:=bcell hb1
  have hz1:=hb1.size
  try simp at hz1
  have g1x0:w1.cell? ⟨w.heap.size,0,none⟩=some (.int .i64 0):=celB hc1
  have g1x1:w1.cell? ⟨w.heap.size,1,none⟩=some (.bool false):=celB hc1
  have g1x2:w1.cell? ⟨w.heap.size+1,0,none⟩=some (.int .i64 3):=celB hc1
  have g1x3:w1.cell? ⟨w.heap.size+1,1,none⟩=some (.bool false):=celB hc1
  go_wp2_with fail
  refine bodyPost_ret (v:= .tuple #[.agg #[.int .i64 3,.bool false],.bool true]) (by simp [results,Tryz.results20,go_sem,g1x0,g1x1]) rfl ⟨rfl, ?_⟩
  first
   |exact bt (baa (ba _ _) _).drew hb1
   |exact bs (bs (bt (baa (ba _ _) _).drew hb1) (Nat.le_refl _) _) (Nat.le_refl _) _
theorem code_Read_4(w:World):Calls Tryo.prog 20 #[.string ⟨#[77,48,52]⟩] w fun e w'=>e= .returned (.tuple #[.agg #[.int .i64 4,.bool false],.bool true])/\Below w.heap.size w w':=by
 have x1:∀h,(({data:= #[77,48,52]}:ByteArray)[1]'h).toNat=48:=fun _=>rfl
 have x2:∀h,(({data:= #[77,48,52]}:ByteArray)[2]'h).toNat=52:=fun _=>rfl
 go_enter Tryo.func20,Tryz.ntmps20
 go_wp2_with fail
 go_region_held (fun x=>x.cell? ⟨w.heap.size,0,none⟩=some (.int .i64 0)/\x.cell? ⟨w.heap.size,1,none⟩=some (.bool false)) (first|assumption|go_keep) (first|fail)
 all_goals go_wp2_with fail
 all_goals
  refine(code_Text_4 _).mono ?_
  rintro e w1 ⟨rfl,hb1⟩
  obtain⟨hc1,hf1⟩:=bcell hb1
  have hz1:=hb1.size
  try simp at hz1
  have g1x0:w1.cell? ⟨w.heap.size,0,none⟩=some (.int .i64 0):=celB hc1
  have g1x1:w1.cell? ⟨w.heap.size,1,none⟩=some (.bool false):=celB hc1
  have g1x2:w1.cell? ⟨w.heap.size+1,0,none⟩=some (.int .i64 4):=celB hc1
  have g1x3:w1.cell? ⟨w.heap.size+1,1,none⟩=some (.bool false):=celB hc1
  go_wp2_with fail
  refine bodyPost_ret (v:= .tuple #[.agg #[.int .i64 4,.bool false],.bool true]) (by simp [results,Tryz.results20,go_sem,g1x0,g1x1]) rfl ⟨rfl, ?_⟩
  first
   |exact bt (baa (ba _ _) _).drew hb1
   |exact bs (bs (bt (baa (ba _ _) _).drew hb1) (Nat.le_refl _) _) (Nat.le_refl _) _
theorem code_Read_5(w:World):Calls Tryo.prog 20 #[.string ⟨#[77,48,53]⟩] w fun e w'=>e= .returned (.tuple #[.agg #[.int .i64 5,.bool false],.bool true])/\Below w.heap.size w w':=by
 have x1:∀h,(({data:= #[77,48,53]}:ByteArray)[1]'h).toNat=48:=fun _=>rfl
 have x2:∀h,(({data:= #[77,48,53]}:ByteArray)[2]'h).toNat=53:=fun _=>rfl
 go_enter Tryo.func20,Tryz.ntmps20
 go_wp2_with fail
 go_region_held (fun x=>x.cell? ⟨w.heap.size,0,none⟩=some (.int .i64 0)/\x.cell? ⟨w.heap.size,1,none⟩=some (.bool false)) (first|assumption|go_keep) (first|fail)
 all_goals go_wp2_with fail
 all_goals
  refine(code_Text_5 _).mono ?_
  rintro e w1 ⟨rfl,hb1⟩
  obtain⟨hc1,hf1⟩:=bcell hb1
  have hz1:=hb1.size
  try simp at hz1
  have g1x0:w1.cell? ⟨w.heap.size,0,none⟩=some (.int .i64 0):=celB hc1
  have g1x1:w1.cell? ⟨w.heap.size,1,none⟩=some (.bool false):=celB hc1
  have g1x2:w1.cell? ⟨w.heap.size+1,0,none⟩=some (.int .i64 5):=celB hc1
  have g1x3:w1.cell? ⟨w.heap.size+1,1,none⟩=some (.bool false):=celB hc1
  go_wp2_with fail
  refine bodyPost_ret (v:= .tuple #[.agg #[.int .i64 5,.bool false],.bool true]) (by simp [results,Tryz.results20,go_sem,g1x0,g1x1]) rfl ⟨rfl, ?_⟩
  first
   |exact bt (baa (ba _ _) _).drew hb1
   |exact bs (bs (bt (baa (ba _ _) _).drew hb1) (Nat.le_refl _) _) (Nat.le_refl _) _
theorem code_Read_6(w:World):Calls Tryo.prog 20 #[.string ⟨#[77,48,54]⟩] w fun e w'=>e= .returned (.tuple #[.agg #[.int .i64 6,.bool false],.bool true])/\Below w.heap.size w w':=by
 have x1:∀h,(({data:= #[77,48,54]}:ByteArray)[1]'h).toNat=48:=fun _=>rfl
 have x2:∀h,(({data:= #[77,48,54]}:ByteArray)[2]'h).toNat=54:=fun _=>rfl
 go_enter Tryo.func20,Tryz.ntmps20
 go_wp2_with fail
 go_region_held (fun x=>x.cell? ⟨w.heap.size,0,none⟩=some (.int .i64 0)/\x.cell? ⟨w.heap.size,1,none⟩=some (.bool false)) (first|assumption|go_keep) (first|fail)
 all_goals go_wp2_with fail
 all_goals
  refine(code_Text_6 _).mono ?_
  rintro e w1 ⟨rfl,hb1⟩
  obtain⟨hc1,hf1⟩:=bcell hb1
  have hz1:=hb1.size
  try simp at hz1
  have g1x0:w1.cell? ⟨w.heap.size,0,none⟩=some (.int .i64 0):=celB hc1
  have g1x1:w1.cell? ⟨w.heap.size,1,none⟩=some (.bool false):=celB hc1
  have g1x2:w1.cell? ⟨w.heap.size+1,0,none⟩=some (.int .i64 6):=celB hc1
  have g1x3:w1.cell? ⟨w.heap.size+1,1,none⟩=some (.bool false):=celB hc1
  go_wp2_with fail
  refine bodyPost_ret (v:= .tuple #[.agg #[.int .i64 6,.bool false],.bool true]) (by simp [results,Tryz.results20,go_sem,g1x0,g1x1]) rfl ⟨rfl, ?_⟩
  first
   |exact bt (baa (ba _ _) _).drew hb1
   |exact bs (bs (bt (baa (ba _ _) _).drew hb1) (Nat.le_refl _) _) (Nat.le_refl _) _
theorem code_Read_7(w:World):Calls Tryo.prog 20 #[.string ⟨#[77,48,55]⟩] w fun e w'=>e= .returned (.tuple #[.agg #[.int .i64 7,.bool false],.bool true])/\Below w.heap.size w w':=by
 have x1:∀h,(({data:= #[77,48,55]}:ByteArray)[1]'h).toNat=48:=fun _=>rfl
 have x2:∀h,(({data:= #[77,48,55]}:ByteArray)[2]'h).toNat=55:=fun _=>rfl
 go_enter Tryo.func20,Tryz.ntmps20
 go_wp2_with fail
 go_region_held (fun x=>x.cell? ⟨w.heap.size,0,none⟩=some (.int .i64 0)/\x.cell? ⟨w.heap.size,1,none⟩=some (.bool false)) (first|assumption|go_keep) (first|fail)
 all_goals go_wp2_with fail
 all_goals
  refine(code_Text_7 _).mono ?_
  rintro e w1 ⟨rfl,hb1⟩
  obtain⟨hc1,hf1⟩:=bcell hb1
  have hz1:=hb1.size
  try simp at hz1
  have g1x0:w1.cell? ⟨w.heap.size,0,none⟩=some (.int .i64 0):=celB hc1
  have g1x1:w1.cell? ⟨w.heap.size,1,none⟩=some (.bool false):=celB hc1
  have g1x2:w1.cell? ⟨w.heap.size+1,0,none⟩=some (.int .i64 7):=celB hc1
  have g1x3:w1.cell? ⟨w.heap.size+1,1,none⟩=some (.bool false):=celB hc1
  go_wp2_with fail
  refine bodyPost_ret (v:= .tuple #[.agg #[.int .i64 7,.bool false],.bool true]) (by simp [results,Tryz.results20,go_sem,g1x0,g1x1]) rfl ⟨rfl, ?_⟩
  first
   |exact bt (baa (ba _ _) _).drew hb1
   |exact bs (bs (bt (baa (ba _ _) _).drew hb1) (Nat.le_refl _) _) (Nat.le_refl _) _
theorem code_Read_8(w:World):Calls Tryo.prog 20 #[.string ⟨#[77,48,56]⟩] w fun e w'=>e= .returned (.tuple #[.agg #[.int .i64 8,.bool false],.bool true])/\Below w.heap.size w w':=by
 have x1:∀h,(({data:= #[77,48,56]}:ByteArray)[1]'h).toNat=48:=fun _=>rfl
 have x2:∀h,(({data:= #[77,48,56]}:ByteArray)[2]'h).toNat=56:=fun _=>rfl
 go_enter Tryo.func20,Tryz.ntmps20
 go_wp2_with fail
 go_region_held (fun x=>x.cell? ⟨w.heap.size,0,none⟩=some (.int .i64 0)/\x.cell? ⟨w.heap.size,1,none⟩=some (.bool false)) (first|assumption|go_keep) (first|fail)
 all_goals go_wp2_with fail
 all_goals
  refine(code_Text_8 _).mono ?_
  rintro e w1 ⟨rfl,hb1⟩
  obtain⟨hc1,hf1⟩:=bcell hb1
  have hz1:=hb1.size
  try simp at hz1
  have g1x0:w1.cell? ⟨w.heap.size,0,none⟩=some (.int .i64 0):=celB hc1
  have g1x1:w1.cell? ⟨w.heap.size,1,none⟩=some (.bool false):=celB hc1
  have g1x2:w1.cell? ⟨w.heap.size+1,0,none⟩=some (.int .i64 8):=celB hc1
  have g1x3:w1.cell? ⟨w.heap.size+1,1,none⟩=some (.bool false):=celB hc1
  go_wp2_with fail
  refine bodyPost_ret (v:= .tuple #[.agg #[.int .i64 8,.bool false],.bool true]) (by simp [results,Tryz.results20,go_sem,g1x0,g1x1]) rfl ⟨rfl, ?_⟩
  first
   |exact bt (baa (ba _ _) _).drew hb1
   |exact bs (bs (bt (baa (ba _ _) _).drew hb1) (Nat.le_refl _) _) (Nat.le_refl _) _
theorem code_Read_9(w:World):Calls Tryo.prog 20 #[.string ⟨#[77,48,57]⟩] w fun e w'=>e= .returned (.tuple #[.agg #[.int .i64 9,.bool false],.bool true])/\Below w.heap.size w w':=by
 have x1:∀h,(({data:= #[77,48,57]}:ByteArray)[1]'h).toNat=48:=fun _=>rfl
 have x2:∀h,(({data:= #[77,48,57]}:ByteArray)[2]'h).toNat=57:=fun _=>rfl
 go_enter Tryo.func20,Tryz.ntmps20
 go_wp2_with fail
 go_region_held (fun x=>x.cell? ⟨w.heap.size,0,none⟩=some (.int .i64 0)/\x.cell? ⟨w.heap.size,1,none⟩=some (.bool false)) (first|assumption|go_keep) (first|fail)
 all_goals go_wp2_with fail
 all_goals
  refine(code_Text_9 _).mono ?_
  rintro e w1 ⟨rfl,hb1⟩
  obtain⟨hc1,hf1⟩:=bcell hb1
  have hz1:=hb1.size
  try simp at hz1
  have g1x0:w1.cell? ⟨w.heap.size,0,none⟩=some (.int .i64 0):=celB hc1
  have g1x1:w1.cell? ⟨w.heap.size,1,none⟩=some (.bool false):=celB hc1
  have g1x2:w1.cell? ⟨w.heap.size+1,0,none⟩=some (.int .i64 9):=celB hc1
  have g1x3:w1.cell? ⟨w.heap.size+1,1,none⟩=some (.bool false):=celB hc1
  go_wp2_with fail
  refine bodyPost_ret (v:= .tuple #[.agg #[.int .i64 9,.bool false],.bool true]) (by simp [results,Tryz.results20,go_sem,g1x0,g1x1]) rfl ⟨rfl, ?_⟩
  first
   |exact bt (baa (ba _ _) _).drew hb1
   |exact bs (bs (bt (baa (ba _ _) _).drew hb1) (Nat.le_refl _) _) (Nat.le_refl _) _
theorem code_Read_10(w:World):Calls Tryo.prog 20 #[.string ⟨#[77,49,48]⟩] w fun e w'=>e= .returned (.tuple #[.agg #[.int .i64 10,.bool false],.bool true])/\Below w.heap.size w w':=by
 have x1:∀h,(({data:= #[77,49,48]}:ByteArray)[1]'h).toNat=49:=fun _=>rfl
 have x2:∀h,(({data:= #[77,49,48]}:ByteArray)[2]'h).toNat=48:=fun _=>rfl
 go_enter Tryo.func20,Tryz.ntmps20
 go_wp2_with fail
 go_region_held (fun x=>x.cell? ⟨w.heap.size,0,none⟩=some (.int .i64 0)/\x.cell? ⟨w.heap.size,1,none⟩=some (.bool false)) (first|assumption|go_keep) (first|fail)
 all_goals go_wp2_with fail
 all_goals
  refine(code_Text_10 _).mono ?_
  rintro e w1 ⟨rfl,hb1⟩
  obtain⟨hc1,hf1⟩:=bcell hb1
  have hz1:=hb1.size
  try simp at hz1
  have g1x0:w1.cell? ⟨w.heap.size,0,none⟩=some (.int .i64 0):=celB hc1
  have g1x1:w1.cell? ⟨w.heap.size,1,none⟩=some (.bool false):=celB hc1
  have g1x2:w1.cell? ⟨w.heap.size+1,0,none⟩=some (.int .i64 10):=celB hc1
  have g1x3:w1.cell? ⟨w.heap.size+1,1,none⟩=some (.bool false):=celB hc1
  go_wp2_with fail
  refine bodyPost_ret (v:= .tuple #[.agg #[.int .i64 10,.bool false],.bool true]) (by simp [results,Tryz.results20,go_sem,g1x0,g1x1]) rfl ⟨rfl, ?_⟩
  first
   |exact bt (baa (ba _ _) _).drew hb1
   |exact bs (bs (bt (baa (ba _ _) _).drew hb1) (Nat.le_refl _) _) (Nat.le_refl _) _
theorem code_Read_11(w:World):Calls Tryo.prog 20 #[.string ⟨#[77,49,49]⟩] w fun e w'=>e= .returned (.tuple #[.agg #[.int .i64 11,.bool false],.bool true])/\Below w.heap.size w w':=by
 have x1:∀h,(({data:= #[77,49,49]}:ByteArray)[1]'h).toNat=49:=fun _=>rfl
 have x2:∀h,(({data:= #[77,49,49]}:ByteArray)[2]'h).toNat=49:=fun _=>rfl
 go_enter Tryo.func20,Tryz.ntmps20
 go_wp2_with fail
 go_region_held (fun x=>x.cell? ⟨w.heap.size,0,none⟩=some (.int .i64 0)/\x.cell? ⟨w.heap.size,1,none⟩=some (.bool false)) (first|assumption|go_keep) (first|fail)
 all_goals go_wp2_with fail
 all_goals
  refine(code_Text_11 _).mono ?_
  rintro e w1 ⟨rfl,hb1⟩
  obtain⟨hc1,hf1⟩:=bcell hb1
  have hz1:=hb1.size
  try simp at hz1
  have g1x0:w1.cell? ⟨w.heap.size,0,none⟩=some (.int .i64 0):=celB hc1
  have g1x1:w1.cell? ⟨w.heap.size,1,none⟩=some (.bool false):=celB hc1
  have g1x2:w1.cell? ⟨w.heap.size+1,0,none⟩=some (.int .i64 11):=celB hc1
  have g1x3:w1.cell? ⟨w.heap.size+1,1,none⟩=some (.bool false):=celB hc1
  go_wp2_with fail
  refine bodyPost_ret (v:= .tuple #[.agg #[.int .i64 11,.bool false],.bool true]) (by simp [results,Tryz.results20,go_sem,g1x0,g1x1]) rfl ⟨rfl, ?_⟩
  first
   |exact bt (baa (ba _ _) _).drew hb1
   |exact bs (bs (bt (baa (ba _ _) _).drew hb1) (Nat.le_refl _) _) (Nat.le_refl _) _
theorem code_Read_12(w:World):Calls Tryo.prog 20 #[.string ⟨#[77,49,50]⟩] w fun e w'=>e= .returned (.tuple #[.agg #[.int .i64 12,.bool false],.bool true])/\Below w.heap.size w w':=by
 have x1:∀h,(({data:= #[77,49,50]}:ByteArray)[1]'h).toNat=49:=fun _=>rfl
 have x2:∀h,(({data:= #[77,49,50]}:ByteArray)[2]'h).toNat=50:=fun _=>rfl
 go_enter Tryo.func20,Tryz.ntmps20
 go_wp2_with fail
 go_region_held (fun x=>x.cell? ⟨w.heap.size,0,none⟩=some (.int .i64 0)/\x.cell? ⟨w.heap.size,1,none⟩=some (.bool false)) (first|assumption|go_keep) (first|fail)
 all_goals go_wp2_with fail
 all_goals
  refine(code_Text_12 _).mono ?_
  rintro e w1 ⟨rfl,hb1⟩
  obtain⟨hc1,hf1⟩:=bcell hb1
  have hz1:=hb1.size
  try simp at hz1
  have g1x0:w1.cell? ⟨w.heap.size,0,none⟩=some (.int .i64 0):=celB hc1
  have g1x1:w1.cell? ⟨w.heap.size,1,none⟩=some (.bool false):=celB hc1
  have g1x2:w1.cell? ⟨w.heap.size+1,0,none⟩=some (.int .i64 12):=celB hc1
  have g1x3:w1.cell? ⟨w.heap.size+1,1,none⟩=some (.bool false):=celB hc1
  go_wp2_with fail
  refine bodyPost_ret (v:= .tuple #[.agg #[.int .i64 12,.bool false],.bool true]) (by simp [results,Tryz.results20,go_sem,g1x0,g1x1]) rfl ⟨rfl, ?_⟩
  first
   |exact bt (baa (ba _ _) _).drew hb1
   |exact bs (bs (bt (baa (ba _ _) _).drew hb1) (Nat.le_refl _) _) (Nat.le_refl _) _
theorem code_Read_5L(w:World):Calls Tryo.prog 20 #[.string ⟨#[77,48,53,76]⟩] w fun e w'=>e= .returned (.tuple #[.agg #[.int .i64 5,.bool true],.bool true])/\Below w.heap.size w w':=by
 have x1:∀h,(({data:= #[77,48,53,76]}:ByteArray)[1]'h).toNat=48:=fun _=>rfl
 have x2:∀h,(({data:= #[77,48,53,76]}:ByteArray)[2]'h).toNat=53:=fun _=>rfl
 go_enter Tryo.func20,Tryz.ntmps20
 go_wp2_with fail
 go_region_held (fun x=>x.cell? ⟨w.heap.size,0,none⟩=some (.int .i64 0)/\x.cell? ⟨w.heap.size,1,none⟩=some (.bool false)) (first|assumption|go_keep) (first|fail)
 all_goals go_wp2_with fail
 all_goals
  refine(code_Text_5L _).mono ?_
  rintro e w1 ⟨rfl,hb1⟩
  obtain⟨hc1,hf1⟩:=bcell hb1
  have hz1:=hb1.size
  try simp at hz1
  have g1x0:w1.cell? ⟨w.heap.size,0,none⟩=some (.int .i64 0):=celB hc1
  have g1x1:w1.cell? ⟨w.heap.size,1,none⟩=some (.bool false):=celB hc1
  have g1x2:w1.cell? ⟨w.heap.size+1,0,none⟩=some (.int .i64 5):=celB hc1
  have g1x3:w1.cell? ⟨w.heap.size+1,1,none⟩=some (.bool true):=celB hc1
  go_wp2_with fail
  refine bodyPost_ret (v:= .tuple #[.agg #[.int .i64 5,.bool true],.bool true]) (by simp [results,Tryz.results20,go_sem,g1x0,g1x1]) rfl ⟨rfl, ?_⟩
  first
   |exact bt (baa (ba _ _) _).drew hb1
   |exact bs (bs (bt (baa (ba _ _) _).drew hb1) (Nat.le_refl _) _) (Nat.le_refl _) _
end
end Go.Proofs.YthpipedifekmpaaGreatDoor
