import Derived.Test.YthnjjcoahdhmnaaGreatDoorOLA
import Derived.LoopTactic
import Derived.Deep.RegionHeld
import Derived.Test.YthnjjcoahdhmnaaGreatDoorOBB
set_option maxHeartbeats 8000000
set_option maxRecDepth 100000
set_option linter.unusedVariables false
namespace Go.Proofs.YthnjjcoahdhmnaaGreatDoor
section
open Go.ChangeShapes Go.WideShapes Go.ChangeAt Go.RowKit
def Cal.right(n:Int)(l:Bool):Bool:=decide (1<=n/\n<=12/\(l=false∨n=5))
theorem aN(n:Int)(w:World)(h1:1<=n)(h2:n<=12):Calls Tryo.prog 127 #[.agg #[.int .i64 n,.bool false]] w fun e w'=>e= .returned (.bool true)/\Below w.heap.size w w':=by
 go_enter Tryo.func127,Tryz.ntmps127
 go_wp2_with fail
 go_ret
 exact⟨rfl,ba _ _⟩
theorem iI(w:World):Calls Tryo.prog 127 #[.agg #[.int .i64 5,.bool true]] w fun e w'=>e= .returned (.bool true)/\Below w.heap.size w w':=by
 go_enter Tryo.func127,Tryz.ntmps127
 go_wp2_with fail
 go_ret
 exact⟨rfl,ba _ _⟩
theorem dP(n:Int)(l:Bool)(w:World)(h:Cal.right n l=false):Calls Tryo.prog 127 #[.agg #[.int .i64 n,.bool l]] w fun e w'=>e= .returned (.bool false)/\Below w.heap.size w w':=by
 rw [Cal.right,decide_eq_false_iff_not]at h
 rcases(show n<1∨(1<=n/\12<n)∨(1<=n/\n<=12/\¬ n=5/\l=true) by cases l <;> simp at h⊢ <;> omega)with c|⟨c1,c2⟩|⟨c1,c2,c3,rfl⟩
 ·skip
  go_enter Tryo.func127,Tryz.ntmps127
  go_wp2_with fail
  go_ret
  exact⟨rfl,ba _ _⟩
 ·skip
  go_enter Tryo.func127,Tryz.ntmps127
  go_wp2_with fail
  go_ret
  exact⟨rfl,ba _ _⟩
 ·have c4:(n==5)=false:=by rw [beq_eq_false_iff_ne];exact c3
  go_enter Tryo.func127,Tryz.ntmps127
  go_wp2_with fail
  go_ret
  exact⟨rfl,ba _ _⟩
end
section
open Go.ChangeShapes Go.WideShapes Go.ChangeAt Go.RowKit
theorem aQ(n:Int)(w:World)(h0:0<=n)(h1:n<=9):Calls Tryo.prog 128 #[.int .i64 n] w fun e w'=>e= .returned (.int .u8 (48+n))/\w=w':=by
 go_enter Tryo.func128,Tryz.ntmps128
 go_wp2_with fail
 go_ret
 exact⟨rfl,rfl⟩
theorem Kn(n:Int)(l:Bool)(w:World)(h:Cal.right n l=false):Calls Tryo.prog 52 #[.agg #[.int .i64 n,.bool l]] w fun e w'=>e= .returned (.tuple #[.string ByteArray.empty,.bool false])/\Below w.heap.size w w':=by
 go_enter Tryo.func52,Tryz.ntmps52
 go_wp2_with fail
 refine(dP n l _ h).mono ?_
 rintro e w1 ⟨rfl,hb1⟩
 obtain⟨hc1,hf1⟩:=aA hb1
 have hz1:=hb1.size
 try simp at hz1
 go_wp2_with fail
 refine bodyPost_ret (v:= .tuple #[.string ByteArray.empty,.bool false]) (by simp [results,Tryz.results52,go_sem];try rfl) rfl ⟨rfl,bt (ba _ _) hb1⟩
theorem dB(w:World)(x y:Nat)(hx:x<256)(hy:y<256):
  (convert 151 9 (.slice (some ⟨w.heap.size,0,none⟩) 2 2)).run Tryo.prog (w.alloc (.cells #[.int .u8 (x:Int),.int .u8 (y:Int)] 5)).drew= .ok (.string ⟨#[UInt8.ofNat x,UInt8.ofNat y]⟩) (w.alloc (.cells #[.int .u8 (x:Int),.int .u8 (y:Int)] 5)).drew:=by
 have h:=run_convert_bytes_arg (P:=Tryo.prog) (w.alloc (.cells #[.int .u8 (x:Int),.int .u8 (y:Int)] 5)).drew 151 5 (aU Tryz.underlying151) (aU Tryz.underlying5) w.heap.size 0 2 2 [(x:Int),(y:Int)] rfl (by
  intro i hi
  rcases i with _|_|i
  ·exact World.cell?_alloc_mark w _ 5 _ 0
  ·exact World.cell?_alloc_mark w _ 5 _ 1
  ·omega) 9 (aU Tryz.underlying9)
 exact h
theorem LH(w:World):Calls Tryo.prog 52 #[.agg #[.int .i64 1,.bool false]] w fun e w'=>e= .returned (.tuple #[.string ⟨#[77,48,49]⟩,.bool true])/\Below w.heap.size w w':=by
 go_enter Tryo.func52,Tryz.ntmps52
 go_wp2_with fail
 refine(aN 1 _ (by omega) (by omega)).mono ?_
 rintro e w1 ⟨rfl,hb1⟩
 obtain⟨hc1,hf1⟩:=aA hb1
 have hz1:=hb1.size
 try simp at hz1
 have hs1x0:w.heap.size<w1.heap.size:=by omega
 have g1x0:w1.cell? ⟨w.heap.size,0,none⟩=some (.int .i64 1):=aR hc1
 have g1x1:w1.cell? ⟨w.heap.size,1,none⟩=some (.bool false):=aR hc1
 go_wp2_with fail
 have hs1:w.heap.size<w1.heap.size:=by omega
 clear hc1 hf1
 have kc:(convert 151 9 (.slice (some ⟨w1.heap.size,0,none⟩) 2 2)).run Tryo.prog (w1.alloc (.cells #[.int .u8 48,.int .u8 49] 5)).drew= .ok (.string ⟨#[48,49]⟩) (w1.alloc (.cells #[.int .u8 48,.int .u8 49] 5)).drew:=dB w1 48 49 (by omega) (by omega)
 go_region_held (fun x=>x.cell? ⟨w.heap.size,0,none⟩=some (.int .i64 1)/\x.cell? ⟨w.heap.size,1,none⟩=some (.bool false)) (first|assumption|go_keep)
   (first|(go_at_call 128;first|(refine(aQ 0 _ (by omega) (by omega)).mono ?_;rintro e w3 ⟨rfl,rfl⟩)|(refine(aQ 1 _ (by omega) (by omega)).mono ?_;rintro e w3 ⟨rfl,rfl⟩)))
 all_goals(have hh:=And.intro hs1 (by assumption:_/\_))
 all_goals obtain⟨_,hh1,hh2⟩:=hh
 all_goals go_wp2_with fail
 all_goals refine bodyPost_ret (v:= .tuple #[.string ⟨#[77,48,49]⟩,.bool true]) (by simp [results,Tryz.results52,go_sem];try rfl) rfl ⟨rfl,(baa (bt (ba _ _) hb1) _).drew⟩
theorem MC(w:World):Calls Tryo.prog 52 #[.agg #[.int .i64 2,.bool false]] w fun e w'=>e= .returned (.tuple #[.string ⟨#[77,48,50]⟩,.bool true])/\Below w.heap.size w w':=by
 go_enter Tryo.func52,Tryz.ntmps52
 go_wp2_with fail
 refine(aN 2 _ (by omega) (by omega)).mono ?_
 rintro e w1 ⟨rfl,hb1⟩
 obtain⟨hc1,hf1⟩:=aA hb1
 have hz1:=hb1.size
 try simp at hz1
 have hs1x0:w.heap.size<w1.heap.size:=by omega
 have g1x0:w1.cell? ⟨w.heap.size,0,none⟩=some (.int .i64 2):=aR hc1
 have g1x1:w1.cell? ⟨w.heap.size,1,none⟩=some (.bool false):=aR hc1
 go_wp2_with fail
 have hs1:w.heap.size<w1.heap.size:=by omega
 clear hc1 hf1
 have kc:(convert 151 9 (.slice (some ⟨w1.heap.size,0,none⟩) 2 2)).run Tryo.prog (w1.alloc (.cells #[.int .u8 48,.int .u8 50] 5)).drew= .ok (.string ⟨#[48,50]⟩) (w1.alloc (.cells #[.int .u8 48,.int .u8 50] 5)).drew:=dB w1 48 50 (by omega) (by omega)
 go_region_held (fun x=>x.cell? ⟨w.heap.size,0,none⟩=some (.int .i64 2)/\x.cell? ⟨w.heap.size,1,none⟩=some (.bool false)) (first|assumption|go_keep)
   (first|(go_at_call 128;first|(refine(aQ 0 _ (by omega) (by omega)).mono ?_;rintro e w3 ⟨rfl,rfl⟩)|(refine(aQ 2 _ (by omega) (by omega)).mono ?_;rintro e w3 ⟨rfl,rfl⟩)))
 all_goals(have hh:=And.intro hs1 (by assumption:_/\_))
 all_goals obtain⟨_,hh1,hh2⟩:=hh
 all_goals go_wp2_with fail
 all_goals refine bodyPost_ret (v:= .tuple #[.string ⟨#[77,48,50]⟩,.bool true]) (by simp [results,Tryz.results52,go_sem];try rfl) rfl ⟨rfl,(baa (bt (ba _ _) hb1) _).drew⟩
theorem KS(w:World):Calls Tryo.prog 52 #[.agg #[.int .i64 3,.bool false]] w fun e w'=>e= .returned (.tuple #[.string ⟨#[77,48,51]⟩,.bool true])/\Below w.heap.size w w':=by
 go_enter Tryo.func52,Tryz.ntmps52
 go_wp2_with fail
 refine(aN 3 _ (by omega) (by omega)).mono ?_
 rintro e w1 ⟨rfl,hb1⟩
 obtain⟨hc1,hf1⟩:=aA hb1
 have hz1:=hb1.size
 try simp at hz1
 have hs1x0:w.heap.size<w1.heap.size:=by omega
 have g1x0:w1.cell? ⟨w.heap.size,0,none⟩=some (.int .i64 3):=aR hc1
 have g1x1:w1.cell? ⟨w.heap.size,1,none⟩=some (.bool false):=aR hc1
 go_wp2_with fail
 have hs1:w.heap.size<w1.heap.size:=by omega
 clear hc1 hf1
 have kc:(convert 151 9 (.slice (some ⟨w1.heap.size,0,none⟩) 2 2)).run Tryo.prog (w1.alloc (.cells #[.int .u8 48,.int .u8 51] 5)).drew= .ok (.string ⟨#[48,51]⟩) (w1.alloc (.cells #[.int .u8 48,.int .u8 51] 5)).drew:=dB w1 48 51 (by omega) (by omega)
 go_region_held (fun x=>x.cell? ⟨w.heap.size,0,none⟩=some (.int .i64 3)/\x.cell? ⟨w.heap.size,1,none⟩=some (.bool false)) (first|assumption|go_keep)
   (first|(go_at_call 128;first|(refine(aQ 0 _ (by omega) (by omega)).mono ?_;rintro e w3 ⟨rfl,rfl⟩)|(refine(aQ 3 _ (by omega) (by omega)).mono ?_;rintro e w3 ⟨rfl,rfl⟩)))
 all_goals(have hh:=And.intro hs1 (by assumption:_/\_))
 all_goals obtain⟨_,hh1,hh2⟩:=hh
 all_goals go_wp2_with fail
 all_goals refine bodyPost_ret (v:= .tuple #[.string ⟨#[77,48,51]⟩,.bool true]) (by simp [results,Tryz.results52,go_sem];try rfl) rfl ⟨rfl,(baa (bt (ba _ _) hb1) _).drew⟩
theorem MV(w:World):Calls Tryo.prog 52 #[.agg #[.int .i64 4,.bool false]] w fun e w'=>e= .returned (.tuple #[.string ⟨#[77,48,52]⟩,.bool true])/\Below w.heap.size w w':=by
 go_enter Tryo.func52,Tryz.ntmps52
 go_wp2_with fail
 refine(aN 4 _ (by omega) (by omega)).mono ?_
 rintro e w1 ⟨rfl,hb1⟩
 obtain⟨hc1,hf1⟩:=aA hb1
 have hz1:=hb1.size
 try simp at hz1
 have hs1x0:w.heap.size<w1.heap.size:=by omega
 have g1x0:w1.cell? ⟨w.heap.size,0,none⟩=some (.int .i64 4):=aR hc1
 have g1x1:w1.cell? ⟨w.heap.size,1,none⟩=some (.bool false):=aR hc1
 go_wp2_with fail
 have hs1:w.heap.size<w1.heap.size:=by omega
 clear hc1 hf1
 have kc:(convert 151 9 (.slice (some ⟨w1.heap.size,0,none⟩) 2 2)).run Tryo.prog (w1.alloc (.cells #[.int .u8 48,.int .u8 52] 5)).drew= .ok (.string ⟨#[48,52]⟩) (w1.alloc (.cells #[.int .u8 48,.int .u8 52] 5)).drew:=dB w1 48 52 (by omega) (by omega)
 go_region_held (fun x=>x.cell? ⟨w.heap.size,0,none⟩=some (.int .i64 4)/\x.cell? ⟨w.heap.size,1,none⟩=some (.bool false)) (first|assumption|go_keep)
   (first|(go_at_call 128;first|(refine(aQ 0 _ (by omega) (by omega)).mono ?_;rintro e w3 ⟨rfl,rfl⟩)|(refine(aQ 4 _ (by omega) (by omega)).mono ?_;rintro e w3 ⟨rfl,rfl⟩)))
 all_goals(have hh:=And.intro hs1 (by assumption:_/\_))
 all_goals obtain⟨_,hh1,hh2⟩:=hh
 all_goals go_wp2_with fail
 all_goals refine bodyPost_ret (v:= .tuple #[.string ⟨#[77,48,52]⟩,.bool true]) (by simp [results,Tryz.results52,go_sem];try rfl) rfl ⟨rfl,(baa (bt (ba _ _) hb1) _).drew⟩
theorem MR(w:World):Calls Tryo.prog 52 #[.agg #[.int .i64 5,.bool false]] w fun e w'=>e= .returned (.tuple #[.string ⟨#[77,48,53]⟩,.bool true])/\Below w.heap.size w w':=by
 go_enter Tryo.func52,Tryz.ntmps52
 go_wp2_with fail
 refine(aN 5 _ (by omega) (by omega)).mono ?_
 rintro e w1 ⟨rfl,hb1⟩
 obtain⟨hc1,hf1⟩:=aA hb1
 have hz1:=hb1.size
 try simp at hz1
 have hs1x0:w.heap.size<w1.heap.size:=by omega
 have g1x0:w1.cell? ⟨w.heap.size,0,none⟩=some (.int .i64 5):=aR hc1
 have g1x1:w1.cell? ⟨w.heap.size,1,none⟩=some (.bool false):=aR hc1
 go_wp2_with fail
 have hs1:w.heap.size<w1.heap.size:=by omega
 clear hc1 hf1
 have kc:(convert 151 9 (.slice (some ⟨w1.heap.size,0,none⟩) 2 2)).run Tryo.prog (w1.alloc (.cells #[.int .u8 48,.int .u8 53] 5)).drew= .ok (.string ⟨#[48,53]⟩) (w1.alloc (.cells #[.int .u8 48,.int .u8 53] 5)).drew:=dB w1 48 53 (by omega) (by omega)
 go_region_held (fun x=>x.cell? ⟨w.heap.size,0,none⟩=some (.int .i64 5)/\x.cell? ⟨w.heap.size,1,none⟩=some (.bool false)) (first|assumption|go_keep)
   (first|(go_at_call 128;first|(refine(aQ 0 _ (by omega) (by omega)).mono ?_;rintro e w3 ⟨rfl,rfl⟩)|(refine(aQ 5 _ (by omega) (by omega)).mono ?_;rintro e w3 ⟨rfl,rfl⟩)))
 all_goals(have hh:=And.intro hs1 (by assumption:_/\_))
 all_goals obtain⟨_,hh1,hh2⟩:=hh
 all_goals go_wp2_with fail
 all_goals refine bodyPost_ret (v:= .tuple #[.string ⟨#[77,48,53]⟩,.bool true]) (by simp [results,Tryz.results52,go_sem];try rfl) rfl ⟨rfl,(baa (bt (ba _ _) hb1) _).drew⟩
theorem M9(w:World):Calls Tryo.prog 52 #[.agg #[.int .i64 6,.bool false]] w fun e w'=>e= .returned (.tuple #[.string ⟨#[77,48,54]⟩,.bool true])/\Below w.heap.size w w':=by
 go_enter Tryo.func52,Tryz.ntmps52
 go_wp2_with fail
 refine(aN 6 _ (by omega) (by omega)).mono ?_
 rintro e w1 ⟨rfl,hb1⟩
 obtain⟨hc1,hf1⟩:=aA hb1
 have hz1:=hb1.size
 try simp at hz1
 have hs1x0:w.heap.size<w1.heap.size:=by omega
 have g1x0:w1.cell? ⟨w.heap.size,0,none⟩=some (.int .i64 6):=aR hc1
 have g1x1:w1.cell? ⟨w.heap.size,1,none⟩=some (.bool false):=aR hc1
 go_wp2_with fail
 have hs1:w.heap.size<w1.heap.size:=by omega
 clear hc1 hf1
 have kc:(convert 151 9 (.slice (some ⟨w1.heap.size,0,none⟩) 2 2)).run Tryo.prog (w1.alloc (.cells #[.int .u8 48,.int .u8 54] 5)).drew= .ok (.string ⟨#[48,54]⟩) (w1.alloc (.cells #[.int .u8 48,.int .u8 54] 5)).drew:=dB w1 48 54 (by omega) (by omega)
 go_region_held (fun x=>x.cell? ⟨w.heap.size,0,none⟩=some (.int .i64 6)/\x.cell? ⟨w.heap.size,1,none⟩=some (.bool false)) (first|assumption|go_keep)
   (first|(go_at_call 128;first|(refine(aQ 0 _ (by omega) (by omega)).mono ?_;rintro e w3 ⟨rfl,rfl⟩)|(refine(aQ 6 _ (by omega) (by omega)).mono ?_;rintro e w3 ⟨rfl,rfl⟩)))
 all_goals(have hh:=And.intro hs1 (by assumption:_/\_))
 all_goals obtain⟨_,hh1,hh2⟩:=hh
 all_goals go_wp2_with fail
 all_goals refine bodyPost_ret (v:= .tuple #[.string ⟨#[77,48,54]⟩,.bool true]) (by simp [results,Tryz.results52,go_sem];try rfl) rfl ⟨rfl,(baa (bt (ba _ _) hb1) _).drew⟩
theorem Ku(w:World):Calls Tryo.prog 52 #[.agg #[.int .i64 7,.bool false]] w fun e w'=>e= .returned (.tuple #[.string ⟨#[77,48,55]⟩,.bool true])/\Below w.heap.size w w':=by
 go_enter Tryo.func52,Tryz.ntmps52
 go_wp2_with fail
 refine(aN 7 _ (by omega) (by omega)).mono ?_
 rintro e w1 ⟨rfl,hb1⟩
 obtain⟨hc1,hf1⟩:=aA hb1
 have hz1:=hb1.size
 try simp at hz1
 have hs1x0:w.heap.size<w1.heap.size:=by omega
 have g1x0:w1.cell? ⟨w.heap.size,0,none⟩=some (.int .i64 7):=aR hc1
 have g1x1:w1.cell? ⟨w.heap.size,1,none⟩=some (.bool false):=aR hc1
 go_wp2_with fail
 have hs1:w.heap.size<w1.heap.size:=by omega
 clear hc1 hf1
 have kc:(convert 151 9 (.slice (some ⟨w1.heap.size,0,none⟩) 2 2)).run Tryo.prog (w1.alloc (.cells #[.int .u8 48,.int .u8 55] 5)).drew= .ok (.string ⟨#[48,55]⟩) (w1.alloc (.cells #[.int .u8 48,.int .u8 55] 5)).drew:=dB w1 48 55 (by omega) (by omega)
 go_region_held (fun x=>x.cell? ⟨w.heap.size,0,none⟩=some (.int .i64 7)/\x.cell? ⟨w.heap.size,1,none⟩=some (.bool false)) (first|assumption|go_keep)
   (first|(go_at_call 128;first|(refine(aQ 0 _ (by omega) (by omega)).mono ?_;rintro e w3 ⟨rfl,rfl⟩)|(refine(aQ 7 _ (by omega) (by omega)).mono ?_;rintro e w3 ⟨rfl,rfl⟩)))
 all_goals(have hh:=And.intro hs1 (by assumption:_/\_))
 all_goals obtain⟨_,hh1,hh2⟩:=hh
 all_goals go_wp2_with fail
 all_goals refine bodyPost_ret (v:= .tuple #[.string ⟨#[77,48,55]⟩,.bool true]) (by simp [results,Tryz.results52,go_sem];try rfl) rfl ⟨rfl,(baa (bt (ba _ _) hb1) _).drew⟩
theorem M7(w:World):Calls Tryo.prog 52 #[.agg #[.int .i64 8,.bool false]] w fun e w'=>e= .returned (.tuple #[.string ⟨#[77,48,56]⟩,.bool true])/\Below w.heap.size w w':=by
 go_enter Tryo.func52,Tryz.ntmps52
 go_wp2_with fail
 refine(aN 8 _ (by omega) (by omega)).mono ?_
 rintro e w1 ⟨rfl,hb1⟩
 obtain⟨hc1,hf1⟩:=aA hb1
 have hz1:=hb1.size
 try simp at hz1
 have hs1x0:w.heap.size<w1.heap.size:=by omega
 have g1x0:w1.cell? ⟨w.heap.size,0,none⟩=some (.int .i64 8):=aR hc1
 have g1x1:w1.cell? ⟨w.heap.size,1,none⟩=some (.bool false):=aR hc1
 go_wp2_with fail
 have hs1:w.heap.size<w1.heap.size:=by omega
 clear hc1 hf1
 have kc:(convert 151 9 (.slice (some ⟨w1.heap.size,0,none⟩) 2 2)).run Tryo.prog (w1.alloc (.cells #[.int .u8 48,.int .u8 56] 5)).drew= .ok (.string ⟨#[48,56]⟩) (w1.alloc (.cells #[.int .u8 48,.int .u8 56] 5)).drew:=dB w1 48 56 (by omega) (by omega)
 go_region_held (fun x=>x.cell? ⟨w.heap.size,0,none⟩=some (.int .i64 8)/\x.cell? ⟨w.heap.size,1,none⟩=some (.bool false)) (first|assumption|go_keep)
   (first|(go_at_call 128;first|(refine(aQ 0 _ (by omega) (by omega)).mono ?_;rintro e w3 ⟨rfl,rfl⟩)|(refine(aQ 8 _ (by omega) (by omega)).mono ?_;rintro e w3 ⟨rfl,rfl⟩)))
 all_goals(have hh:=And.intro hs1 (by assumption:_/\_))
 all_goals obtain⟨_,hh1,hh2⟩:=hh
 all_goals go_wp2_with fail
 all_goals refine bodyPost_ret (v:= .tuple #[.string ⟨#[77,48,56]⟩,.bool true]) (by simp [results,Tryz.results52,go_sem];try rfl) rfl ⟨rfl,(baa (bt (ba _ _) hb1) _).drew⟩
theorem Lm(w:World):Calls Tryo.prog 52 #[.agg #[.int .i64 9,.bool false]] w fun e w'=>e= .returned (.tuple #[.string ⟨#[77,48,57]⟩,.bool true])/\Below w.heap.size w w':=by
 go_enter Tryo.func52,Tryz.ntmps52
 go_wp2_with fail
 refine(aN 9 _ (by omega) (by omega)).mono ?_
 rintro e w1 ⟨rfl,hb1⟩
 obtain⟨hc1,hf1⟩:=aA hb1
 have hz1:=hb1.size
 try simp at hz1
 have hs1x0:w.heap.size<w1.heap.size:=by omega
 have g1x0:w1.cell? ⟨w.heap.size,0,none⟩=some (.int .i64 9):=aR hc1
 have g1x1:w1.cell? ⟨w.heap.size,1,none⟩=some (.bool false):=aR hc1
 go_wp2_with fail
 have hs1:w.heap.size<w1.heap.size:=by omega
 clear hc1 hf1
 have kc:(convert 151 9 (.slice (some ⟨w1.heap.size,0,none⟩) 2 2)).run Tryo.prog (w1.alloc (.cells #[.int .u8 48,.int .u8 57] 5)).drew= .ok (.string ⟨#[48,57]⟩) (w1.alloc (.cells #[.int .u8 48,.int .u8 57] 5)).drew:=dB w1 48 57 (by omega) (by omega)
 go_region_held (fun x=>x.cell? ⟨w.heap.size,0,none⟩=some (.int .i64 9)/\x.cell? ⟨w.heap.size,1,none⟩=some (.bool false)) (first|assumption|go_keep)
   (first|(go_at_call 128;first|(refine(aQ 0 _ (by omega) (by omega)).mono ?_;rintro e w3 ⟨rfl,rfl⟩)|(refine(aQ 9 _ (by omega) (by omega)).mono ?_;rintro e w3 ⟨rfl,rfl⟩)))
 all_goals(have hh:=And.intro hs1 (by assumption:_/\_))
 all_goals obtain⟨_,hh1,hh2⟩:=hh
 all_goals go_wp2_with fail
 all_goals refine bodyPost_ret (v:= .tuple #[.string ⟨#[77,48,57]⟩,.bool true]) (by simp [results,Tryz.results52,go_sem];try rfl) rfl ⟨rfl,(baa (bt (ba _ _) hb1) _).drew⟩
theorem J5(w:World):Calls Tryo.prog 52 #[.agg #[.int .i64 10,.bool false]] w fun e w'=>e= .returned (.tuple #[.string ⟨#[77,49,48]⟩,.bool true])/\Below w.heap.size w w':=by
 go_enter Tryo.func52,Tryz.ntmps52
 go_wp2_with fail
 refine(aN 10 _ (by omega) (by omega)).mono ?_
 rintro e w1 ⟨rfl,hb1⟩
 obtain⟨hc1,hf1⟩:=aA hb1
 have hz1:=hb1.size
 try simp at hz1
 have hs1x0:w.heap.size<w1.heap.size:=by omega
 have g1x0:w1.cell? ⟨w.heap.size,0,none⟩=some (.int .i64 10):=aR hc1
 have g1x1:w1.cell? ⟨w.heap.size,1,none⟩=some (.bool false):=aR hc1
 go_wp2_with fail
 have hs1:w.heap.size<w1.heap.size:=by omega
 clear hc1 hf1
 have kc:(convert 151 9 (.slice (some ⟨w1.heap.size,0,none⟩) 2 2)).run Tryo.prog (w1.alloc (.cells #[.int .u8 49,.int .u8 48] 5)).drew= .ok (.string ⟨#[49,48]⟩) (w1.alloc (.cells #[.int .u8 49,.int .u8 48] 5)).drew:=dB w1 49 48 (by omega) (by omega)
 go_region_held (fun x=>x.cell? ⟨w.heap.size,0,none⟩=some (.int .i64 10)/\x.cell? ⟨w.heap.size,1,none⟩=some (.bool false)) (first|assumption|go_keep)
   (first|(go_at_call 128;first|(refine(aQ 1 _ (by omega) (by omega)).mono ?_;rintro e w3 ⟨rfl,rfl⟩)|(refine(aQ 0 _ (by omega) (by omega)).mono ?_;rintro e w3 ⟨rfl,rfl⟩)))
 all_goals(have hh:=And.intro hs1 (by assumption:_/\_))
 all_goals obtain⟨_,hh1,hh2⟩:=hh
 all_goals go_wp2_with fail
 all_goals refine bodyPost_ret (v:= .tuple #[.string ⟨#[77,49,48]⟩,.bool true]) (by simp [results,Tryz.results52,go_sem];try rfl) rfl ⟨rfl,(baa (bt (ba _ _) hb1) _).drew⟩
theorem Jl(w:World):Calls Tryo.prog 52 #[.agg #[.int .i64 11,.bool false]] w fun e w'=>e= .returned (.tuple #[.string ⟨#[77,49,49]⟩,.bool true])/\Below w.heap.size w w':=by
 go_enter Tryo.func52,Tryz.ntmps52
 go_wp2_with fail
 refine(aN 11 _ (by omega) (by omega)).mono ?_
 rintro e w1 ⟨rfl,hb1⟩
 obtain⟨hc1,hf1⟩:=aA hb1
 have hz1:=hb1.size
 try simp at hz1
 have hs1x0:w.heap.size<w1.heap.size:=by omega
 have g1x0:w1.cell? ⟨w.heap.size,0,none⟩=some (.int .i64 11):=aR hc1
 have g1x1:w1.cell? ⟨w.heap.size,1,none⟩=some (.bool false):=aR hc1
 go_wp2_with fail
 have hs1:w.heap.size<w1.heap.size:=by omega
 clear hc1 hf1
 have kc:(convert 151 9 (.slice (some ⟨w1.heap.size,0,none⟩) 2 2)).run Tryo.prog (w1.alloc (.cells #[.int .u8 49,.int .u8 49] 5)).drew= .ok (.string ⟨#[49,49]⟩) (w1.alloc (.cells #[.int .u8 49,.int .u8 49] 5)).drew:=dB w1 49 49 (by omega) (by omega)
 go_region_held (fun x=>x.cell? ⟨w.heap.size,0,none⟩=some (.int .i64 11)/\x.cell? ⟨w.heap.size,1,none⟩=some (.bool false)) (first|assumption|go_keep)
   (first|(go_at_call 128;first|(refine(aQ 1 _ (by omega) (by omega)).mono ?_;rintro e w3 ⟨rfl,rfl⟩)|(refine(aQ 1 _ (by omega) (by omega)).mono ?_;rintro e w3 ⟨rfl,rfl⟩)))
 all_goals(have hh:=And.intro hs1 (by assumption:_/\_))
 all_goals obtain⟨_,hh1,hh2⟩:=hh
 all_goals go_wp2_with fail
 all_goals refine bodyPost_ret (v:= .tuple #[.string ⟨#[77,49,49]⟩,.bool true]) (by simp [results,Tryz.results52,go_sem];try rfl) rfl ⟨rfl,(baa (bt (ba _ _) hb1) _).drew⟩
theorem I9(w:World):Calls Tryo.prog 52 #[.agg #[.int .i64 12,.bool false]] w fun e w'=>e= .returned (.tuple #[.string ⟨#[77,49,50]⟩,.bool true])/\Below w.heap.size w w':=by
 go_enter Tryo.func52,Tryz.ntmps52
 go_wp2_with fail
 refine(aN 12 _ (by omega) (by omega)).mono ?_
 rintro e w1 ⟨rfl,hb1⟩
 obtain⟨hc1,hf1⟩:=aA hb1
 have hz1:=hb1.size
 try simp at hz1
 have hs1x0:w.heap.size<w1.heap.size:=by omega
 have g1x0:w1.cell? ⟨w.heap.size,0,none⟩=some (.int .i64 12):=aR hc1
 have g1x1:w1.cell? ⟨w.heap.size,1,none⟩=some (.bool false):=aR hc1
 go_wp2_with fail
 have hs1:w.heap.size<w1.heap.size:=by omega
 clear hc1 hf1
 have kc:(convert 151 9 (.slice (some ⟨w1.heap.size,0,none⟩) 2 2)).run Tryo.prog (w1.alloc (.cells #[.int .u8 49,.int .u8 50] 5)).drew= .ok (.string ⟨#[49,50]⟩) (w1.alloc (.cells #[.int .u8 49,.int .u8 50] 5)).drew:=dB w1 49 50 (by omega) (by omega)
 go_region_held (fun x=>x.cell? ⟨w.heap.size,0,none⟩=some (.int .i64 12)/\x.cell? ⟨w.heap.size,1,none⟩=some (.bool false)) (first|assumption|go_keep)
   (first|(go_at_call 128;first|(refine(aQ 1 _ (by omega) (by omega)).mono ?_;rintro e w3 ⟨rfl,rfl⟩)|(refine(aQ 2 _ (by omega) (by omega)).mono ?_;rintro e w3 ⟨rfl,rfl⟩)))
 all_goals(have hh:=And.intro hs1 (by assumption:_/\_))
 all_goals obtain⟨_,hh1,hh2⟩:=hh
 all_goals go_wp2_with fail
 all_goals refine bodyPost_ret (v:= .tuple #[.string ⟨#[77,49,50]⟩,.bool true]) (by simp [results,Tryz.results52,go_sem];try rfl) rfl ⟨rfl,(baa (bt (ba _ _) hb1) _).drew⟩
theorem I5(w:World):Calls Tryo.prog 52 #[.agg #[.int .i64 5,.bool true]] w fun e w'=>e= .returned (.tuple #[.string ⟨#[77,48,53,76]⟩,.bool true])/\Below w.heap.size w w':=by
 go_enter Tryo.func52,Tryz.ntmps52
 go_wp2_with fail
 refine(iI _).mono ?_
 rintro e w1 ⟨rfl,hb1⟩
 obtain⟨hc1,hf1⟩:=aA hb1
 have hz1:=hb1.size
 try simp at hz1
 have hs1x0:w.heap.size<w1.heap.size:=by omega
 have g1x0:w1.cell? ⟨w.heap.size,0,none⟩=some (.int .i64 5):=aR hc1
 have g1x1:w1.cell? ⟨w.heap.size,1,none⟩=some (.bool true):=aR hc1
 go_wp2_with fail
 have hs1:w.heap.size<w1.heap.size:=by omega
 clear hc1 hf1
 have kc:(convert 151 9 (.slice (some ⟨w1.heap.size,0,none⟩) 2 2)).run Tryo.prog (w1.alloc (.cells #[.int .u8 48,.int .u8 53] 5)).drew= .ok (.string ⟨#[48,53]⟩) (w1.alloc (.cells #[.int .u8 48,.int .u8 53] 5)).drew:=dB w1 48 53 (by omega) (by omega)
 go_region_held (fun x=>x.cell? ⟨w.heap.size,0,none⟩=some (.int .i64 5)/\x.cell? ⟨w.heap.size,1,none⟩=some (.bool true)) (first|assumption|go_keep)
   (first|(go_at_call 128;first|(refine(aQ 0 _ (by omega) (by omega)).mono ?_;rintro e w3 ⟨rfl,rfl⟩)|(refine(aQ 5 _ (by omega) (by omega)).mono ?_;rintro e w3 ⟨rfl,rfl⟩)))
 all_goals(have hh:=And.intro hs1 (by assumption:_/\_))
 all_goals obtain⟨_,hh1,hh2⟩:=hh
 all_goals go_wp2_with fail
 all_goals refine bodyPost_ret (v:= .tuple #[.string ⟨#[77,48,53,76]⟩,.bool true]) (by simp [results,Tryz.results52,go_sem];try rfl) rfl ⟨rfl,(baa (bt (ba _ _) hb1) _).drew⟩
end
section
open Go.ChangeShapes Go.WideShapes Go.ChangeAt Go.RowKit
theorem MH(m:Int)(w:World)(h:m<1):Calls Tryo.prog 73 #[.bool false,.int .i64 m] w fun e w'=>e= .returned (.tuple #[.agg #[.int .i64 0,.bool false],.bool false])/\Below w.heap.size w w':=by
 have HR:=Lib.hid (show Cal.right (m) false=false by rw [Cal.right,decide_eq_false_iff_not];omega)
 go_enter Tryo.func73,Tryz.ntmps73
 go_wp2_with fail
 refine(dP (m) false _ HR.out).mono ?_
 rintro e w1 ⟨rfl,hb1⟩
 obtain⟨hc1,hf1⟩:=aA hb1
 have hz1:=hb1.size
 try simp at hz1
 have g1x0:w1.cell? ⟨w.heap.size,0,none⟩=some (.int .i64 0):=aR hc1
 have g1x1:w1.cell? ⟨w.heap.size,1,none⟩=some (.bool false):=aR hc1
 have g1x2:w1.cell? ⟨w.heap.size+1,0,none⟩=some (.int .i64 (m)):=aR hc1
 have g1x3:w1.cell? ⟨w.heap.size+1,1,none⟩=some (.bool false):=aR hc1
 go_wp2_with fail
 refine bodyPost_ret (v:= .tuple #[.agg #[.int .i64 0,.bool false],.bool false]) (by simp [results,Tryz.results73,go_sem,g1x0,g1x1]) rfl ⟨rfl, ?_⟩
 first
  |exact bt (baa (ba _ _) _) hb1
  |exact bs (bs (bt (baa (ba _ _) _) hb1) (Nat.le_refl _) _) (Nat.le_refl _) _
theorem JX(m:Int)(w:World)(h:12<m):Calls Tryo.prog 73 #[.bool false,.int .i64 m] w fun e w'=>e= .returned (.tuple #[.agg #[.int .i64 0,.bool false],.bool false])/\Below w.heap.size w w':=by
 have HR:=Lib.hid (show Cal.right (m) false=false by rw [Cal.right,decide_eq_false_iff_not];omega)
 go_enter Tryo.func73,Tryz.ntmps73
 go_wp2_with fail
 refine(dP (m) false _ HR.out).mono ?_
 rintro e w1 ⟨rfl,hb1⟩
 obtain⟨hc1,hf1⟩:=aA hb1
 have hz1:=hb1.size
 try simp at hz1
 have g1x0:w1.cell? ⟨w.heap.size,0,none⟩=some (.int .i64 0):=aR hc1
 have g1x1:w1.cell? ⟨w.heap.size,1,none⟩=some (.bool false):=aR hc1
 have g1x2:w1.cell? ⟨w.heap.size+1,0,none⟩=some (.int .i64 (m)):=aR hc1
 have g1x3:w1.cell? ⟨w.heap.size+1,1,none⟩=some (.bool false):=aR hc1
 go_wp2_with fail
 refine bodyPost_ret (v:= .tuple #[.agg #[.int .i64 0,.bool false],.bool false]) (by simp [results,Tryz.results73,go_sem,g1x0,g1x1]) rfl ⟨rfl, ?_⟩
 first
  |exact bt (baa (ba _ _) _) hb1
  |exact bs (bs (bt (baa (ba _ _) _) hb1) (Nat.le_refl _) _) (Nat.le_refl _) _
theorem OU(m:Int)(w:World)(h:1<=m)(h2:m<=12):Calls Tryo.prog 73 #[.bool false,.int .i64 m] w fun e w'=>e= .returned (.tuple #[.agg #[.int .i64 (m),.bool false],.bool true])/\Below w.heap.size w w':=by
 go_enter Tryo.func73,Tryz.ntmps73
 go_wp2_with fail
 refine(aN (m) _ (by omega) (by omega)).mono ?_
 rintro e w1 ⟨rfl,hb1⟩
 obtain⟨hc1,hf1⟩:=aA hb1
 have hz1:=hb1.size
 try simp at hz1
 have g1x0:w1.cell? ⟨w.heap.size,0,none⟩=some (.int .i64 0):=aR hc1
 have g1x1:w1.cell? ⟨w.heap.size,1,none⟩=some (.bool false):=aR hc1
 have g1x2:w1.cell? ⟨w.heap.size+1,0,none⟩=some (.int .i64 (m)):=aR hc1
 have g1x3:w1.cell? ⟨w.heap.size+1,1,none⟩=some (.bool false):=aR hc1
 go_wp2_with fail
 refine bodyPost_ret (v:= .tuple #[.agg #[.int .i64 (m),.bool false],.bool true]) (by simp [results,Tryz.results73,go_sem,g1x0,g1x1]) rfl ⟨rfl, ?_⟩
 first
  |exact bt (baa (ba _ _) _) hb1
  |exact bs (bs (bt (baa (ba _ _) _) hb1) (Nat.le_refl _) _) (Nat.le_refl _) _
theorem Jj(m:Int)(w:World)(h:m<1):Calls Tryo.prog 73 #[.bool true,.int .i64 m] w fun e w'=>e= .returned (.tuple #[.agg #[.int .i64 0,.bool false],.bool false])/\Below w.heap.size w w':=by
 have HR:=Lib.hid (show Cal.right (m) false=false by rw [Cal.right,decide_eq_false_iff_not];omega)
 go_enter Tryo.func73,Tryz.ntmps73
 go_wp2_with fail
 refine(dP (m) false _ HR.out).mono ?_
 rintro e w1 ⟨rfl,hb1⟩
 obtain⟨hc1,hf1⟩:=aA hb1
 have hz1:=hb1.size
 try simp at hz1
 have g1x0:w1.cell? ⟨w.heap.size,0,none⟩=some (.int .i64 0):=aR hc1
 have g1x1:w1.cell? ⟨w.heap.size,1,none⟩=some (.bool false):=aR hc1
 have g1x2:w1.cell? ⟨w.heap.size+1,0,none⟩=some (.int .i64 (m)):=aR hc1
 have g1x3:w1.cell? ⟨w.heap.size+1,1,none⟩=some (.bool false):=aR hc1
 go_wp2_with fail
 refine bodyPost_ret (v:= .tuple #[.agg #[.int .i64 0,.bool false],.bool false]) (by simp [results,Tryz.results73,go_sem,g1x0,g1x1]) rfl ⟨rfl, ?_⟩
 first
  |exact bt (baa (ba _ _) _) hb1
  |exact bs (bs (bt (baa (ba _ _) _) hb1) (Nat.le_refl _) _) (Nat.le_refl _) _
theorem LD(m:Int)(w:World)(h:1<=m)(h2:m<=5):Calls Tryo.prog 73 #[.bool true,.int .i64 m] w fun e w'=>e= .returned (.tuple #[.agg #[.int .i64 (m),.bool false],.bool true])/\Below w.heap.size w w':=by
 go_enter Tryo.func73,Tryz.ntmps73
 go_wp2_with fail
 refine(aN (m) _ (by omega) (by omega)).mono ?_
 rintro e w1 ⟨rfl,hb1⟩
 obtain⟨hc1,hf1⟩:=aA hb1
 have hz1:=hb1.size
 try simp at hz1
 have g1x0:w1.cell? ⟨w.heap.size,0,none⟩=some (.int .i64 0):=aR hc1
 have g1x1:w1.cell? ⟨w.heap.size,1,none⟩=some (.bool false):=aR hc1
 have g1x2:w1.cell? ⟨w.heap.size+1,0,none⟩=some (.int .i64 (m)):=aR hc1
 have g1x3:w1.cell? ⟨w.heap.size+1,1,none⟩=some (.bool false):=aR hc1
 go_wp2_with fail
 refine bodyPost_ret (v:= .tuple #[.agg #[.int .i64 (m),.bool false],.bool true]) (by simp [results,Tryz.results73,go_sem,g1x0,g1x1]) rfl ⟨rfl, ?_⟩
 first
  |exact bt (baa (ba _ _) _) hb1
  |exact bs (bs (bt (baa (ba _ _) _) hb1) (Nat.le_refl _) _) (Nat.le_refl _) _
theorem Mc(m:Int)(w:World)(h:6<m)(h2:m<=13):Calls Tryo.prog 73 #[.bool true,.int .i64 m] w fun e w'=>e= .returned (.tuple #[.agg #[.int .i64 (m-1),.bool false],.bool true])/\Below w.heap.size w w':=by
 have e6:(m==6)=false:=by rw [beq_eq_false_iff_ne];omega
 go_enter Tryo.func73,Tryz.ntmps73
 go_wp2_with fail
 refine(aN (m-1) _ (by omega) (by omega)).mono ?_
 rintro e w1 ⟨rfl,hb1⟩
 obtain⟨hc1,hf1⟩:=aA hb1
 have hz1:=hb1.size
 try simp at hz1
 have g1x0:w1.cell? ⟨w.heap.size,0,none⟩=some (.int .i64 0):=aR hc1
 have g1x1:w1.cell? ⟨w.heap.size,1,none⟩=some (.bool false):=aR hc1
 have g1x2:w1.cell? ⟨w.heap.size+1,0,none⟩=some (.int .i64 (m-1)):=aR hc1
 have g1x3:w1.cell? ⟨w.heap.size+1,1,none⟩=some (.bool false):=aR hc1
 go_wp2_with fail
 refine bodyPost_ret (v:= .tuple #[.agg #[.int .i64 (m-1),.bool false],.bool true]) (by simp [results,Tryz.results73,go_sem,g1x0,g1x1]) rfl ⟨rfl, ?_⟩
 first
  |exact bt (baa (ba _ _) _) hb1
  |exact bs (bs (bt (baa (ba _ _) _) hb1) (Nat.le_refl _) _) (Nat.le_refl _) _
theorem Gq(m:Int)(w:World)(h:13<m)(h2:m<=9223372036854775807):Calls Tryo.prog 73 #[.bool true,.int .i64 m] w fun e w'=>e= .returned (.tuple #[.agg #[.int .i64 0,.bool false],.bool false])/\Below w.heap.size w w':=by
 have e6:(m==6)=false:=by rw [beq_eq_false_iff_ne];omega
 have HR:=Lib.hid (show Cal.right (m-1) false=false by rw [Cal.right,decide_eq_false_iff_not];omega)
 go_enter Tryo.func73,Tryz.ntmps73
 go_wp2_with fail
 refine(dP (m-1) false _ HR.out).mono ?_
 rintro e w1 ⟨rfl,hb1⟩
 obtain⟨hc1,hf1⟩:=aA hb1
 have hz1:=hb1.size
 try simp at hz1
 have g1x0:w1.cell? ⟨w.heap.size,0,none⟩=some (.int .i64 0):=aR hc1
 have g1x1:w1.cell? ⟨w.heap.size,1,none⟩=some (.bool false):=aR hc1
 have g1x2:w1.cell? ⟨w.heap.size+1,0,none⟩=some (.int .i64 (m-1)):=aR hc1
 have g1x3:w1.cell? ⟨w.heap.size+1,1,none⟩=some (.bool false):=aR hc1
 go_wp2_with fail
 refine bodyPost_ret (v:= .tuple #[.agg #[.int .i64 0,.bool false],.bool false]) (by simp [results,Tryz.results73,go_sem,g1x0,g1x1]) rfl ⟨rfl, ?_⟩
 first
  |exact bt (baa (ba _ _) _) hb1
  |exact bs (bs (bt (baa (ba _ _) _) hb1) (Nat.le_refl _) _) (Nat.le_refl _) _
theorem Ij(w:World):Calls Tryo.prog 73 #[.bool true,.int .i64 6] w fun e w'=>e= .returned (.tuple #[.agg #[.int .i64 5,.bool true],.bool true])/\Below w.heap.size w w':=by
 go_enter Tryo.func73,Tryz.ntmps73
 go_wp2_with fail
 refine(iI _).mono ?_
 rintro e w1 ⟨rfl,hb1⟩
 obtain⟨hc1,hf1⟩:=aA hb1
 have hz1:=hb1.size
 try simp at hz1
 have g1x0:w1.cell? ⟨w.heap.size,0,none⟩=some (.int .i64 0):=aR hc1
 have g1x1:w1.cell? ⟨w.heap.size,1,none⟩=some (.bool false):=aR hc1
 have g1x2:w1.cell? ⟨w.heap.size+1,0,none⟩=some (.int .i64 5):=aR hc1
 have g1x3:w1.cell? ⟨w.heap.size+1,1,none⟩=some (.bool true):=aR hc1
 go_wp2_with fail
 refine bodyPost_ret (v:= .tuple #[.agg #[.int .i64 5,.bool true],.bool true]) (by simp [results,Tryz.results73,go_sem,g1x0,g1x1]) rfl ⟨rfl, ?_⟩
 first
  |exact bt (baa (ba _ _) _) hb1
  |exact bs (bs (bt (baa (ba _ _) _) hb1) (Nat.le_refl _) _) (Nat.le_refl _) _
end
section
open Go.ChangeShapes Go.WideShapes Go.ChangeAt Go.RowKit
theorem uo(n:Int)(l:Bool)(w:World)(h:Cal.right n l=false):Calls Tryo.prog 191 #[.bool false,.agg #[.int .i64 n,.bool l]] w fun e w'=>e= .returned (.tuple #[.int .i64 0,.bool false])/\Below w.heap.size w w':=by
 go_enter Tryo.func191,Tryz.ntmps191
 go_wp2_with fail
 refine(dP n l _ h).mono ?_
 rintro e w1 ⟨rfl,hb1⟩
 obtain⟨hc1,hf1⟩:=aA hb1
 have hz1:=hb1.size
 try simp at hz1
 have g1x0:w1.cell? ⟨w.heap.size,0,none⟩=some (.int .i64 n):=aR hc1
 have g1x1:w1.cell? ⟨w.heap.size,1,none⟩=some (.bool l):=aR hc1
 go_wp2_with fail
 go_ret2
 exact⟨rfl,bt (ba _ _) hb1⟩
theorem u7(n:Int)(l:Bool)(w:World)(h:Cal.right n l=false):Calls Tryo.prog 191 #[.bool true,.agg #[.int .i64 n,.bool l]] w fun e w'=>e= .returned (.tuple #[.int .i64 0,.bool false])/\Below w.heap.size w w':=by
 go_enter Tryo.func191,Tryz.ntmps191
 go_wp2_with fail
 refine(dP n l _ h).mono ?_
 rintro e w1 ⟨rfl,hb1⟩
 obtain⟨hc1,hf1⟩:=aA hb1
 have hz1:=hb1.size
 try simp at hz1
 have g1x0:w1.cell? ⟨w.heap.size,0,none⟩=some (.int .i64 n):=aR hc1
 have g1x1:w1.cell? ⟨w.heap.size,1,none⟩=some (.bool l):=aR hc1
 go_wp2_with fail
 go_ret2
 exact⟨rfl,bt (ba _ _) hb1⟩
theorem Aq(n:Int)(w:World)(h1:1<=n)(h2:n<=12):Calls Tryo.prog 191 #[.bool false,.agg #[.int .i64 n,.bool false]] w fun e w'=>e= .returned (.tuple #[.int .i64 n,.bool true])/\Below w.heap.size w w':=by
 go_enter Tryo.func191,Tryz.ntmps191
 go_wp2_with fail
 refine(aN n _ h1 h2).mono ?_
 rintro e w1 ⟨rfl,hb1⟩
 obtain⟨hc1,hf1⟩:=aA hb1
 have hz1:=hb1.size
 try simp at hz1
 have g1x0:w1.cell? ⟨w.heap.size,0,none⟩=some (.int .i64 n):=aR hc1
 have g1x1:w1.cell? ⟨w.heap.size,1,none⟩=some (.bool false):=aR hc1
 go_wp2_with fail
 go_ret2
 exact⟨rfl,bt (ba _ _) hb1⟩
theorem DF(n:Int)(w:World)(h1:1<=n)(h2:n<=5):Calls Tryo.prog 191 #[.bool true,.agg #[.int .i64 n,.bool false]] w fun e w'=>e= .returned (.tuple #[.int .i64 n,.bool true])/\Below w.heap.size w w':=by
 go_enter Tryo.func191,Tryz.ntmps191
 go_wp2_with fail
 refine(aN n _ h1 (by omega)).mono ?_
 rintro e w1 ⟨rfl,hb1⟩
 obtain⟨hc1,hf1⟩:=aA hb1
 have hz1:=hb1.size
 try simp at hz1
 have g1x0:w1.cell? ⟨w.heap.size,0,none⟩=some (.int .i64 n):=aR hc1
 have g1x1:w1.cell? ⟨w.heap.size,1,none⟩=some (.bool false):=aR hc1
 go_wp2_with fail
 go_ret2
 exact⟨rfl,bt (ba _ _) hb1⟩
theorem F7(n:Int)(w:World)(h1:5<n)(h2:n<=12):Calls Tryo.prog 191 #[.bool true,.agg #[.int .i64 n,.bool false]] w fun e w'=>e= .returned (.tuple #[.int .i64 (n+1),.bool true])/\Below w.heap.size w w':=by
 go_enter Tryo.func191,Tryz.ntmps191
 go_wp2_with fail
 refine(aN n _ (by omega) h2).mono ?_
 rintro e w1 ⟨rfl,hb1⟩
 obtain⟨hc1,hf1⟩:=aA hb1
 have hz1:=hb1.size
 try simp at hz1
 have g1x0:w1.cell? ⟨w.heap.size,0,none⟩=some (.int .i64 n):=aR hc1
 have g1x1:w1.cell? ⟨w.heap.size,1,none⟩=some (.bool false):=aR hc1
 go_wp2_with fail
 go_ret2
 exact⟨rfl,bt (ba _ _) hb1⟩
theorem Ci(w:World):Calls Tryo.prog 191 #[.bool true,.agg #[.int .i64 5,.bool true]] w fun e w'=>e= .returned (.tuple #[.int .i64 6,.bool true])/\Below w.heap.size w w':=by
 go_enter Tryo.func191,Tryz.ntmps191
 go_wp2_with fail
 refine(iI _).mono ?_
 rintro e w1 ⟨rfl,hb1⟩
 obtain⟨hc1,hf1⟩:=aA hb1
 have hz1:=hb1.size
 try simp at hz1
 have g1x0:w1.cell? ⟨w.heap.size,0,none⟩=some (.int .i64 5):=aR hc1
 have g1x1:w1.cell? ⟨w.heap.size,1,none⟩=some (.bool true):=aR hc1
 go_wp2_with fail
 go_ret2
 exact⟨rfl,bt (ba _ _) hb1⟩
theorem BR(w:World):Calls Tryo.prog 191 #[.bool false,.agg #[.int .i64 5,.bool true]] w fun e w'=>e= .returned (.tuple #[.int .i64 0,.bool false])/\Below w.heap.size w w':=by
 go_enter Tryo.func191,Tryz.ntmps191
 go_wp2_with fail
 refine(iI _).mono ?_
 rintro e w1 ⟨rfl,hb1⟩
 obtain⟨hc1,hf1⟩:=aA hb1
 have hz1:=hb1.size
 try simp at hz1
 have g1x0:w1.cell? ⟨w.heap.size,0,none⟩=some (.int .i64 5):=aR hc1
 have g1x1:w1.cell? ⟨w.heap.size,1,none⟩=some (.bool true):=aR hc1
 go_wp2_with fail
 go_ret2
 exact⟨rfl,bt (ba _ _) hb1⟩
theorem J2(n k:Int)(l h:Bool)(w:World)(c:¬ n=k):Calls Tryo.prog 74 #[.agg #[.int .i64 n,.bool l],.agg #[.int .i64 k,.bool h]] w fun e w'=>e= .returned (.bool (decide (n<k)))/\Below w.heap.size w w':=by
 go_enter Tryo.func74,Tryz.ntmps74
 go_wp2_with fail
 go_ret
 exact⟨rfl,baa (ba _ _) _⟩
theorem Iz(n:Int)(l h:Bool)(w:World):Calls Tryo.prog 74 #[.agg #[.int .i64 n,.bool l],.agg #[.int .i64 n,.bool h]] w fun e w'=>e= .returned (.bool (!l&&h))/\Below w.heap.size w w':=by
 cases l <;> cases h
 all_goals
  go_enter Tryo.func74,Tryz.ntmps74
  go_wp2_with fail
  go_ret
  exact⟨rfl,baa (ba _ _) _⟩
end
section
open Go.ChangeShapes Go.WideShapes Go.ChangeAt Go.RowKit
def Cal.most(lp:Bool):Int:=if lp then 13 else 12
def Cal.nC(n:Int)(l:Bool)(k:Int)(h:Bool):Bool:=decide (n<k)||(n==k&&(!l&&h))
def Cal.jZ(lp:Bool)(m:Int):Bool:=decide (1<=m)&&decide (m<=Cal.most lp)
def Cal.ofN(lp:Bool)(m:Int):Int:=if Cal.jZ lp m then(if lp&&decide (6<=m)then m-1 else m)else 0
def Cal.ofL(lp:Bool)(m:Int):Bool:=Cal.jZ lp m&&(lp&&m==6)
def Cal.dJ(lp:Bool)(n:Int)(l:Bool):Bool:=Cal.right n l&& !(l&& !lp)
def Cal.plV(lp:Bool)(n:Int)(l:Bool):Int:=if Cal.dJ lp n l then(if lp&&(l||decide (5<n))then n+1 else n)else 0
theorem mU(n:Int)(l:Bool)(h:Cal.right n l=true):(1<=n/\n<=12/\l=false)∨(n=5/\l=true):=by
 rw [Cal.right,decide_eq_true_iff]at h
 cases l
 ·exact .inl ⟨h.1,h.2.1,rfl⟩
 ·rcases h.2.2 with h3|h3
  ·cases h3
  ·exact .inr ⟨h3,rfl⟩
theorem jD(n:Int)(l:Bool)(w:World):Calls Tryo.prog 127 #[.agg #[.int .i64 n,.bool l]] w fun e w'=>e= .returned (.bool (Cal.right n l))/\Below w.heap.size w w':=by
 cases h:Cal.right n l
 ·exact dP n l w h
 ·rcases mU n l h with ⟨h1,h2,rfl⟩|⟨rfl,rfl⟩
  ·exact aN n w h1 h2
  ·exact iI w
theorem nJ(n k:Int)(l h:Bool)(w:World):Calls Tryo.prog 74 #[.agg #[.int .i64 n,.bool l],.agg #[.int .i64 k,.bool h]] w fun e w'=>e= .returned (.bool (Cal.nC n l k h))/\Below w.heap.size w w':=by
 by_cases c:n=k
 ·subst c
  have:=Iz n l h w
  rwa [show(!l&&h)=Cal.nC n l n h by simp [Cal.nC]]at this
 ·have:=J2 n k l h w c
  rwa [show decide (n<k)=Cal.nC n l k h by simp [Cal.nC,c]]at this
theorem qJ(lp:Bool)(m:Int)(w:World)(hm:m<=9223372036854775807):Calls Tryo.prog 73 #[.bool lp,.int .i64 m] w fun e w'=>e= .returned (.tuple #[.agg #[.int .i64 (Cal.ofN lp m),.bool (Cal.ofL lp m)],.bool (Cal.jZ lp m)])/\Below w.heap.size w w':=by
 cases lp
 ·rcases(show m<1∨12<m∨(1<=m/\m<=12) by omega)with c|c|⟨c1,c2⟩
  ·have e:Cal.jZ false m=false:=by simp [Cal.jZ,Cal.most];omega
   simp only [Cal.ofN,Cal.ofL,e,Bool.false_and,Bool.false_eq_true,if_false]
   exact MH m w c
  ·have e:Cal.jZ false m=false:=by simp [Cal.jZ,Cal.most];omega
   simp only [Cal.ofN,Cal.ofL,e,Bool.false_and,Bool.false_eq_true,if_false]
   exact JX m w c
  ·have e:Cal.jZ false m=true:=by simp [Cal.jZ,Cal.most,c1,c2]
   simp only [Cal.ofN,Cal.ofL,e,Bool.false_and,Bool.and_false,Bool.false_eq_true,if_false,if_true]
   exact OU m w c1 c2
 ·rcases(show m<1∨13<m∨(1<=m/\m<=5)∨m=6∨(6<m/\m<=13) by omega)with c|c|⟨c1,c2⟩|rfl|⟨c1,c2⟩
  ·have e:Cal.jZ true m=false:=by simp [Cal.jZ,Cal.most];omega
   simp only [Cal.ofN,Cal.ofL,e,Bool.false_and,Bool.false_eq_true,if_false]
   exact Jj m w c
  ·have e:Cal.jZ true m=false:=by simp [Cal.jZ,Cal.most];omega
   simp only [Cal.ofN,Cal.ofL,e,Bool.false_and,Bool.false_eq_true,if_false]
   exact Gq m w c hm
  ·have e:Cal.jZ true m=true:=by simp [Cal.jZ,Cal.most,c1];omega
   have e2:decide (6<=m)=false:=by simp;omega
   have e3:(m==6)=false:=by rw [beq_eq_false_iff_ne];omega
   simp only [Cal.ofN,Cal.ofL,e,e2,e3,Bool.and_false,Bool.false_eq_true,if_false,if_true]
   exact LD m w c1 c2
  ·exact Ij w
  ·have e:Cal.jZ true m=true:=by simp [Cal.jZ,Cal.most,c2];omega
   have e2:decide (6<=m)=true:=by simp;omega
   have e3:(m==6)=false:=by rw [beq_eq_false_iff_ne];omega
   simp only [Cal.ofN,Cal.ofL,e,e2,e3,Bool.and_false,Bool.and_true,if_true]
   exact Mc m w c1 c2
theorem JY(lp:Bool)(n:Int)(l:Bool)(h:Cal.right n l=false):Cal.dJ lp n l=false/\Cal.plV lp n l=0:=by simp [Cal.plV,Cal.dJ,h]
theorem bU(lp:Bool)(n:Int)(l:Bool)(w:World):Calls Tryo.prog 191 #[.bool lp,.agg #[.int .i64 n,.bool l]] w fun e w'=>e= .returned (.tuple #[.int .i64 (Cal.plV lp n l),.bool (Cal.dJ lp n l)])/\Below w.heap.size w w':=by
 cases h:Cal.right n l
 ·rw [(JY lp n l h).1,(JY lp n l h).2]
  cases lp
  ·exact uo n l w h
  ·exact u7 n l w h
 ·rcases mU n l h with ⟨h1,h2,rfl⟩|⟨rfl,rfl⟩
  ·have e:∀lp,Cal.dJ lp n false=true:=fun lp=>by simp [Cal.dJ,h]
   cases lp
   ·simp only [Cal.plV,e,Bool.false_and,Bool.false_eq_true,if_false,if_true]
    exact Aq n w h1 h2
   ·by_cases c:5<n
    ·simp only [Cal.plV,e,Bool.false_or,c,decide_true,Bool.and_true,if_true]
     exact F7 n w c h2
    ·simp only [Cal.plV,e,Bool.false_or,c,decide_false,Bool.and_false,Bool.false_eq_true,if_false,if_true]
     exact DF n w h1 (by omega)
  ·cases lp
   ·exact BR w
   ·exact Ci w
open Go.ChangeShapes Go.WideShapes Go.ChangeAt Go.RowKit
def jk(lp:Bool):Nat->List (Int×Bool)
 |0=> []
 |k+1=>jk lp k++(((k:Int)+1,false) :: if k=4/\lp=true then [(5,true)]else [])
def Codes(w:World)(B:Nat)(v:Value)(xs:List (Int×Bool)):Prop:=∃g cap,v= .slice (some ⟨g,0,none⟩) xs.length cap/\xs.length<=cap/\B<=g/\g<w.heap.size/\∀ (j:Nat) c,xs[j]? =some c->w.cell? ⟨g,j*2,none⟩=some (.int .i64 c.1)/\w.cell? ⟨g,j*2+1,none⟩=some (.bool c.2)
open Go.ChangeShapes Go.WideShapes Go.ChangeAt Go.RowKit
theorem zY(lp:Bool):(jk lp 12).length=if lp then 13 else 12:=by cases lp <;> decide
def Ut(lp:Bool):Bool:=(List.range (jk lp 12).length).all fun j=>(jk lp 12)[j]? ==some (Cal.ofN lp ((j:Int)+1),Cal.ofL lp ((j:Int)+1))&&(Cal.dJ lp (Cal.ofN lp ((j:Int)+1)) (Cal.ofL lp ((j:Int)+1))&&Cal.plV lp (Cal.ofN lp ((j:Int)+1)) (Cal.ofL lp ((j:Int)+1))==(j:Int)+1)
theorem Oj(lp:Bool):Ut lp=true:=by cases lp <;> decide+kernel
theorem Di(lp:Bool)(j:Nat)(hj:j<(jk lp 12).length):(jk lp 12)[j]? =some (Cal.ofN lp ((j:Int)+1),Cal.ofL lp ((j:Int)+1))/\Cal.dJ lp (Cal.ofN lp ((j:Int)+1)) (Cal.ofL lp ((j:Int)+1))=true/\Cal.plV lp (Cal.ofN lp ((j:Int)+1)) (Cal.ofL lp ((j:Int)+1))=(j:Int)+1:=by
 have:=List.all_eq_true.1 (Oj lp) j (List.mem_range.2 hj)
 simp only [Bool.and_eq_true,beq_iff_eq]at this
 exact this
theorem Mj(lp:Bool)(j:Nat)(n:Int)(l:Bool)(h:(jk lp 12)[j]? =some (n,l)):Cal.dJ lp n l=true/\Cal.plV lp n l=(j:Int)+1:=by
 have h2:=Di lp j (List.getElem?_eq_some_iff.1 h).1
 rw [h2.1]at h
 simp only [Option.some.injEq,Prod.mk.injEq]at h
 rw [h.1,h.2]at h2
 exact h2.2
theorem MP(lp:Bool)(n:Int)(l:Bool)(h:Cal.dJ lp n l=true):∃j,j<(jk lp 12).length/\(jk lp 12)[j]? =some (n,l):=by
 have hr:Cal.right n l=true:=by
  cases c:Cal.right n l
  ·rw [(JY lp n l c).1]at h;exact h
  ·rfl
 rcases mU n l hr with ⟨h1,h2,rfl⟩|⟨rfl,rfl⟩
 ·obtain⟨k,hk,rfl⟩:∃k:Nat,k<12/\n=(k:Int)+1:=⟨(n-1).toNat,by omega,by omega⟩
  cases lp
  ·match k,hk with
   |0,_=>exact⟨0,by decide,by decide⟩
   |1,_=>exact⟨1,by decide,by decide⟩
   |2,_=>exact⟨2,by decide,by decide⟩
   |3,_=>exact⟨3,by decide,by decide⟩
   |4,_=>exact⟨4,by decide,by decide⟩
   |5,_=>exact⟨5,by decide,by decide⟩
   |6,_=>exact⟨6,by decide,by decide⟩
   |7,_=>exact⟨7,by decide,by decide⟩
   |8,_=>exact⟨8,by decide,by decide⟩
   |9,_=>exact⟨9,by decide,by decide⟩
   |10,_=>exact⟨10,by decide,by decide⟩
   |11,_=>exact⟨11,by decide,by decide⟩
  ·match k,hk with
   |0,_=>exact⟨0,by decide,by decide⟩
   |1,_=>exact⟨1,by decide,by decide⟩
   |2,_=>exact⟨2,by decide,by decide⟩
   |3,_=>exact⟨3,by decide,by decide⟩
   |4,_=>exact⟨4,by decide,by decide⟩
   |5,_=>exact⟨6,by decide,by decide⟩
   |6,_=>exact⟨7,by decide,by decide⟩
   |7,_=>exact⟨8,by decide,by decide⟩
   |8,_=>exact⟨9,by decide,by decide⟩
   |9,_=>exact⟨10,by decide,by decide⟩
   |10,_=>exact⟨11,by decide,by decide⟩
   |11,_=>exact⟨12,by decide,by decide⟩
 ·cases lp
  ·simp [Cal.dJ]at h
  ·exact⟨5,by decide,by decide⟩
end
section
open Go.ChangeShapes Go.WideShapes Go.ChangeAt Go.RowKit
end
end Go.Proofs.YthnjjcoahdhmnaaGreatDoor
