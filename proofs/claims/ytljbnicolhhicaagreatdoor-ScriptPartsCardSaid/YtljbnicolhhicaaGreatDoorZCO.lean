import Derived.Test.YtljbnicolhhicaaGreatDoorZBB
set_option linter.defProp false
set_option maxHeartbeats 8000000
set_option maxRecDepth 100000
set_option linter.unusedVariables false
namespace Go.Proofs.YtljbnicolhhicaaGreatDoor
open Go.ChangeShapes Go.WideShapes Go.ChangeAt Go.RowKit
def Cal.right(n:Int)(l:Bool):Bool:=decide (1<=n/\n<=12/\(l=false∨n=5))
theorem aX(n:Int)(w:World)(h1:1<=n)(h2:n<=12):vB 83 #[.agg #[n,false]] w (.bool true):=by
 go_enter (vF Tryz.func83),Tryz.ntmps83
 go_wp2_with fail
 go_ret
 exact⟨rfl,ba _ _⟩
theorem jV(w:World):vB 83 #[.agg #[(5:Int),true]] w (.bool true):=by
 go_enter (vF Tryz.func83),Tryz.ntmps83
 go_wp2_with fail
 go_ret
 exact⟨rfl,ba _ _⟩
theorem jP(n:Int)(l:Bool)(w:World)(h:Cal.right n l=false):vB 83 #[.agg #[n,l]] w (.bool false):=by
 rw [Cal.right,decide_eq_false_iff_not]at h
 rcases(show n<1∨(1<=n/\12<n)∨(1<=n/\n<=12/\¬ n=5/\l=true) by cases l <;> simp at h⊢ <;> omega)with c|⟨c1,c2⟩|⟨c1,c2,c3,rfl⟩
 ·skip
  go_enter (vF Tryz.func83),Tryz.ntmps83
  go_wp2_with fail
  go_ret
  exact⟨rfl,ba _ _⟩
 ·skip
  go_enter (vF Tryz.func83),Tryz.ntmps83
  go_wp2_with fail
  go_ret
  exact⟨rfl,ba _ _⟩
 ·have c4:(n==5)=false:=by rw [beq_eq_false_iff_ne];exact c3
  go_enter (vF Tryz.func83),Tryz.ntmps83
  go_wp2_with fail
  go_ret
  exact⟨rfl,ba _ _⟩
theorem aW(n:Int)(w:World)(h0:0<=n)(h1:n<=9):vC 142 #[n] w (.int .u8 (48+n)):=by
 go_enter (vF Tryz.func142),Tryz.ntmps142
 go_wp2_with fail
 go_ret
 exact⟨rfl,rfl⟩
theorem MF(n:Int)(l:Bool)(w:World)(h:Cal.right n l=false):vB 100 #[.agg #[n,l]] w (.tuple #[ByteArray.empty,false]):=by
 go_enter (vF Tryz.func100),Tryz.ntmps100
 go_wp2_with fail
 refine vX (jP n l _ h) fun w1 hb1 hz1 hc1 hf1=>?_
 try simp at hz1
 go_wp2_with fail
 refine bodyPost_ret (v:= .tuple #[ByteArray.empty,false]) (by simp [results,Tryz.results100,go_sem];try rfl) rfl ⟨rfl,bt (ba _ _) hb1⟩
theorem dV(w:World)(x y:Nat)(hx:x<256)(hy:y<256):
  (convert 134 9 (.slice (some ⟨w.1.size,0,none⟩) 2 2)).run Tryo.prog (w.alloc (.cells #[.int .u8 (x:Int),.int .u8 (y:Int)] 5)).drew= .ok (.string ⟨#[UInt8.ofNat x,UInt8.ofNat y]⟩) (w.alloc (.cells #[.int .u8 (x:Int),.int .u8 (y:Int)] 5)).drew:=by
 have h:=run_convert_bytes_arg (P:=Tryo.prog) (w.alloc (.cells #[.int .u8 (x:Int),.int .u8 (y:Int)] 5)).drew 134 5 (aB Tryz.underlying134) (aB Tryz.underlying5) w.1.size 0 2 2 [(x:Int),(y:Int)] rfl (by
  intro i hi
  rcases i with _|_|i
  ·exact World.cell?_alloc_mark w _ 5 _ 0
  ·exact World.cell?_alloc_mark w _ 5 _ 1
  ·omega) 9 (aB Tryz.underlying9)
 exact h
theorem bX:(∀(w:World),vB 100 #[.agg #[(1:Int),false]] w (.tuple #[.string ⟨#[77,48,49]⟩,true]))/\(∀(w:World),vB 100 #[.agg #[(2:Int),false]] w (.tuple #[.string ⟨#[77,48,50]⟩,true]))/\(∀(w:World),vB 100 #[.agg #[(3:Int),false]] w (.tuple #[.string ⟨#[77,48,51]⟩,true]))/\(∀(w:World),vB 100 #[.agg #[(4:Int),false]] w (.tuple #[.string ⟨#[77,48,52]⟩,true]))/\(∀(w:World),vB 100 #[.agg #[(5:Int),false]] w (.tuple #[.string ⟨#[77,48,53]⟩,true]))/\(∀(w:World),vB 100 #[.agg #[(6:Int),false]] w (.tuple #[.string ⟨#[77,48,54]⟩,true]))/\(∀(w:World),vB 100 #[.agg #[(7:Int),false]] w (.tuple #[.string ⟨#[77,48,55]⟩,true]))/\(∀(w:World),vB 100 #[.agg #[(8:Int),false]] w (.tuple #[.string ⟨#[77,48,56]⟩,true]))/\(∀(w:World),vB 100 #[.agg #[(9:Int),false]] w (.tuple #[.string ⟨#[77,48,57]⟩,true]))/\(∀(w:World),vB 100 #[.agg #[(10:Int),false]] w (.tuple #[.string ⟨#[77,49,48]⟩,true]))/\(∀(w:World),vB 100 #[.agg #[(11:Int),false]] w (.tuple #[.string ⟨#[77,49,49]⟩,true]))/\(∀(w:World),vB 100 #[.agg #[(12:Int),false]] w (.tuple #[.string ⟨#[77,49,50]⟩,true])):=by
 refine⟨@fun w=>(fun(k90:Nat)=> ?_) 0,@fun w=>(fun(k91:Nat)=> ?_) 0,@fun w=>(fun(k92:Nat)=> ?_) 0,@fun w=>(fun(k93:Nat)=> ?_) 0,@fun w=>(fun(k94:Nat)=> ?_) 0,@fun w=>(fun(k95:Nat)=> ?_) 0,@fun w=>(fun(k96:Nat)=> ?_) 0,@fun w=>(fun(k97:Nat)=> ?_) 0,@fun w=>(fun(k98:Nat)=> ?_) 0,@fun w=>(fun(k99:Nat)=> ?_) 0,@fun w=>(fun(k910:Nat)=> ?_) 0,@fun w=> ?_⟩
 all_goals(
 go_enter (vF Tryz.func100),Tryz.ntmps100
 go_wp2_with fail
 first|(have _:=k90;refine(aX 1 _ vO vO).mono ?_)|(have _:=k91;refine(aX 2 _ vO vO).mono ?_)|(have _:=k92;refine(aX 3 _ vO vO).mono ?_)|(have _:=k93;refine(aX 4 _ vO vO).mono ?_)|(have _:=k94;refine(aX 5 _ vO vO).mono ?_)|(have _:=k95;refine(aX 6 _ vO vO).mono ?_)|(have _:=k96;refine(aX 7 _ vO vO).mono ?_)|(have _:=k97;refine(aX 8 _ vO vO).mono ?_)|(have _:=k98;refine(aX 9 _ vO vO).mono ?_)|(have _:=k99;refine(aX 10 _ vO vO).mono ?_)|(have _:=k910;refine(aX 11 _ vO vO).mono ?_)|(refine(aX 12 _ vO vO).mono ?_)
 rintro e w1 ⟨rfl,hb1⟩
 obtain⟨hc1,hf1⟩:=aL hb1
 have hz1:=hb1.size
 try simp at hz1
 have hs1x0:w.1.size<w1.1.size:=vO
 first|(have _:=k90;have g1x0:w1.cell? ⟨w.1.size,0,none⟩=some (.int .i64 1):=bg hc1)|(have _:=k91;have g1x0:w1.cell? ⟨w.1.size,0,none⟩=some (.int .i64 2):=bg hc1)|(have _:=k92;have g1x0:w1.cell? ⟨w.1.size,0,none⟩=some (.int .i64 3):=bg hc1)|(have _:=k93;have g1x0:w1.cell? ⟨w.1.size,0,none⟩=some (.int .i64 4):=bg hc1)|(have _:=k94;have g1x0:w1.cell? ⟨w.1.size,0,none⟩=some (.int .i64 5):=bg hc1)|(have _:=k95;have g1x0:w1.cell? ⟨w.1.size,0,none⟩=some (.int .i64 6):=bg hc1)|(have _:=k96;have g1x0:w1.cell? ⟨w.1.size,0,none⟩=some (.int .i64 7):=bg hc1)|(have _:=k97;have g1x0:w1.cell? ⟨w.1.size,0,none⟩=some (.int .i64 8):=bg hc1)|(have _:=k98;have g1x0:w1.cell? ⟨w.1.size,0,none⟩=some (.int .i64 9):=bg hc1)|(have _:=k99;have g1x0:w1.cell? ⟨w.1.size,0,none⟩=some (.int .i64 10):=bg hc1)|(have _:=k910;have g1x0:w1.cell? ⟨w.1.size,0,none⟩=some (.int .i64 11):=bg hc1)|(have g1x0:w1.cell? ⟨w.1.size,0,none⟩=some (.int .i64 12):=bg hc1)
 have g1x1:w1.cell? ⟨w.1.size,1,none⟩=some (.bool false):=bg hc1
 go_wp2_with fail
 have hs1:w.1.size<w1.1.size:=vO
 clear hc1 hf1
 first|(have _:=k90;have kc:(convert 134 9 (.slice (some ⟨w1.1.size,0,none⟩) 2 2)).run Tryo.prog (w1.alloc (.cells #[.int .u8 48,.int .u8 49] 5)).drew= .ok (.string ⟨#[48,49]⟩) (w1.alloc (.cells #[.int .u8 48,.int .u8 49] 5)).drew:=dV w1 48 49 vO vO)|(have _:=k91;have kc:(convert 134 9 (.slice (some ⟨w1.1.size,0,none⟩) 2 2)).run Tryo.prog (w1.alloc (.cells #[.int .u8 48,.int .u8 50] 5)).drew= .ok (.string ⟨#[48,50]⟩) (w1.alloc (.cells #[.int .u8 48,.int .u8 50] 5)).drew:=dV w1 48 50 vO vO)|(have _:=k92;have kc:(convert 134 9 (.slice (some ⟨w1.1.size,0,none⟩) 2 2)).run Tryo.prog (w1.alloc (.cells #[.int .u8 48,.int .u8 51] 5)).drew= .ok (.string ⟨#[48,51]⟩) (w1.alloc (.cells #[.int .u8 48,.int .u8 51] 5)).drew:=dV w1 48 51 vO vO)|(have _:=k93;have kc:(convert 134 9 (.slice (some ⟨w1.1.size,0,none⟩) 2 2)).run Tryo.prog (w1.alloc (.cells #[.int .u8 48,.int .u8 52] 5)).drew= .ok (.string ⟨#[48,52]⟩) (w1.alloc (.cells #[.int .u8 48,.int .u8 52] 5)).drew:=dV w1 48 52 vO vO)|(have _:=k94;have kc:(convert 134 9 (.slice (some ⟨w1.1.size,0,none⟩) 2 2)).run Tryo.prog (w1.alloc (.cells #[.int .u8 48,.int .u8 53] 5)).drew= .ok (.string ⟨#[48,53]⟩) (w1.alloc (.cells #[.int .u8 48,.int .u8 53] 5)).drew:=dV w1 48 53 vO vO)|(have _:=k95;have kc:(convert 134 9 (.slice (some ⟨w1.1.size,0,none⟩) 2 2)).run Tryo.prog (w1.alloc (.cells #[.int .u8 48,.int .u8 54] 5)).drew= .ok (.string ⟨#[48,54]⟩) (w1.alloc (.cells #[.int .u8 48,.int .u8 54] 5)).drew:=dV w1 48 54 vO vO)|(have _:=k96;have kc:(convert 134 9 (.slice (some ⟨w1.1.size,0,none⟩) 2 2)).run Tryo.prog (w1.alloc (.cells #[.int .u8 48,.int .u8 55] 5)).drew= .ok (.string ⟨#[48,55]⟩) (w1.alloc (.cells #[.int .u8 48,.int .u8 55] 5)).drew:=dV w1 48 55 vO vO)|(have _:=k97;have kc:(convert 134 9 (.slice (some ⟨w1.1.size,0,none⟩) 2 2)).run Tryo.prog (w1.alloc (.cells #[.int .u8 48,.int .u8 56] 5)).drew= .ok (.string ⟨#[48,56]⟩) (w1.alloc (.cells #[.int .u8 48,.int .u8 56] 5)).drew:=dV w1 48 56 vO vO)|(have _:=k98;have kc:(convert 134 9 (.slice (some ⟨w1.1.size,0,none⟩) 2 2)).run Tryo.prog (w1.alloc (.cells #[.int .u8 48,.int .u8 57] 5)).drew= .ok (.string ⟨#[48,57]⟩) (w1.alloc (.cells #[.int .u8 48,.int .u8 57] 5)).drew:=dV w1 48 57 vO vO)|(have _:=k99;have kc:(convert 134 9 (.slice (some ⟨w1.1.size,0,none⟩) 2 2)).run Tryo.prog (w1.alloc (.cells #[.int .u8 49,.int .u8 48] 5)).drew= .ok (.string ⟨#[49,48]⟩) (w1.alloc (.cells #[.int .u8 49,.int .u8 48] 5)).drew:=dV w1 49 48 vO vO)|(have _:=k910;have kc:(convert 134 9 (.slice (some ⟨w1.1.size,0,none⟩) 2 2)).run Tryo.prog (w1.alloc (.cells #[.int .u8 49,.int .u8 49] 5)).drew= .ok (.string ⟨#[49,49]⟩) (w1.alloc (.cells #[.int .u8 49,.int .u8 49] 5)).drew:=dV w1 49 49 vO vO)|(have kc:(convert 134 9 (.slice (some ⟨w1.1.size,0,none⟩) 2 2)).run Tryo.prog (w1.alloc (.cells #[.int .u8 49,.int .u8 50] 5)).drew= .ok (.string ⟨#[49,50]⟩) (w1.alloc (.cells #[.int .u8 49,.int .u8 50] 5)).drew:=dV w1 49 50 vO vO)
 first
 |(
   have _:=k90
   go_region_held (fun x=>x.cell? ⟨w.1.size,0,none⟩=some (.int .i64 1)/\x.cell? ⟨w.1.size,1,none⟩=some (.bool false)) (first|assumption|go_keep)
     (first|(go_at_call 142;first|(refine(aW 0 _ vO vO).mono ?_;rintro e w3 ⟨rfl,rfl⟩)|(refine(aW 1 _ vO vO).mono ?_;rintro e w3 ⟨rfl,rfl⟩)))
  )
 |(
   have _:=k91
   go_region_held (fun x=>x.cell? ⟨w.1.size,0,none⟩=some (.int .i64 2)/\x.cell? ⟨w.1.size,1,none⟩=some (.bool false)) (first|assumption|go_keep)
     (first|(go_at_call 142;first|(refine(aW 0 _ vO vO).mono ?_;rintro e w3 ⟨rfl,rfl⟩)|(refine(aW 2 _ vO vO).mono ?_;rintro e w3 ⟨rfl,rfl⟩)))
  )
 |(
   have _:=k92
   go_region_held (fun x=>x.cell? ⟨w.1.size,0,none⟩=some (.int .i64 3)/\x.cell? ⟨w.1.size,1,none⟩=some (.bool false)) (first|assumption|go_keep)
     (first|(go_at_call 142;first|(refine(aW 0 _ vO vO).mono ?_;rintro e w3 ⟨rfl,rfl⟩)|(refine(aW 3 _ vO vO).mono ?_;rintro e w3 ⟨rfl,rfl⟩)))
  )
 |(
   have _:=k93
   go_region_held (fun x=>x.cell? ⟨w.1.size,0,none⟩=some (.int .i64 4)/\x.cell? ⟨w.1.size,1,none⟩=some (.bool false)) (first|assumption|go_keep)
     (first|(go_at_call 142;first|(refine(aW 0 _ vO vO).mono ?_;rintro e w3 ⟨rfl,rfl⟩)|(refine(aW 4 _ vO vO).mono ?_;rintro e w3 ⟨rfl,rfl⟩)))
  )
 |(
   have _:=k94
   go_region_held (fun x=>x.cell? ⟨w.1.size,0,none⟩=some (.int .i64 5)/\x.cell? ⟨w.1.size,1,none⟩=some (.bool false)) (first|assumption|go_keep)
     (first|(go_at_call 142;first|(refine(aW 0 _ vO vO).mono ?_;rintro e w3 ⟨rfl,rfl⟩)|(refine(aW 5 _ vO vO).mono ?_;rintro e w3 ⟨rfl,rfl⟩)))
  )
 |(
   have _:=k95
   go_region_held (fun x=>x.cell? ⟨w.1.size,0,none⟩=some (.int .i64 6)/\x.cell? ⟨w.1.size,1,none⟩=some (.bool false)) (first|assumption|go_keep)
     (first|(go_at_call 142;first|(refine(aW 0 _ vO vO).mono ?_;rintro e w3 ⟨rfl,rfl⟩)|(refine(aW 6 _ vO vO).mono ?_;rintro e w3 ⟨rfl,rfl⟩)))
  )
 |(
   have _:=k96
   go_region_held (fun x=>x.cell? ⟨w.1.size,0,none⟩=some (.int .i64 7)/\x.cell? ⟨w.1.size,1,none⟩=some (.bool false)) (first|assumption|go_keep)
     (first|(go_at_call 142;first|(refine(aW 0 _ vO vO).mono ?_;rintro e w3 ⟨rfl,rfl⟩)|(refine(aW 7 _ vO vO).mono ?_;rintro e w3 ⟨rfl,rfl⟩)))
  )
 |(
   have _:=k97
   go_region_held (fun x=>x.cell? ⟨w.1.size,0,none⟩=some (.int .i64 8)/\x.cell? ⟨w.1.size,1,none⟩=some (.bool false)) (first|assumption|go_keep)
     (first|(go_at_call 142;first|(refine(aW 0 _ vO vO).mono ?_;rintro e w3 ⟨rfl,rfl⟩)|(refine(aW 8 _ vO vO).mono ?_;rintro e w3 ⟨rfl,rfl⟩)))
  )
 |(
   have _:=k98
   go_region_held (fun x=>x.cell? ⟨w.1.size,0,none⟩=some (.int .i64 9)/\x.cell? ⟨w.1.size,1,none⟩=some (.bool false)) (first|assumption|go_keep)
     (first|(go_at_call 142;first|(refine(aW 0 _ vO vO).mono ?_;rintro e w3 ⟨rfl,rfl⟩)|(refine(aW 9 _ vO vO).mono ?_;rintro e w3 ⟨rfl,rfl⟩)))
  )
 |(
   have _:=k99
   go_region_held (fun x=>x.cell? ⟨w.1.size,0,none⟩=some (.int .i64 10)/\x.cell? ⟨w.1.size,1,none⟩=some (.bool false)) (first|assumption|go_keep)
     (first|(go_at_call 142;first|(refine(aW 1 _ vO vO).mono ?_;rintro e w3 ⟨rfl,rfl⟩)|(refine(aW 0 _ vO vO).mono ?_;rintro e w3 ⟨rfl,rfl⟩)))
  )
 |(
   have _:=k910
   go_region_held (fun x=>x.cell? ⟨w.1.size,0,none⟩=some (.int .i64 11)/\x.cell? ⟨w.1.size,1,none⟩=some (.bool false)) (first|assumption|go_keep)
     (first|(go_at_call 142;first|(refine(aW 1 _ vO vO).mono ?_;rintro e w3 ⟨rfl,rfl⟩)|(refine(aW 1 _ vO vO).mono ?_;rintro e w3 ⟨rfl,rfl⟩)))
  )
 |(
   go_region_held (fun x=>x.cell? ⟨w.1.size,0,none⟩=some (.int .i64 12)/\x.cell? ⟨w.1.size,1,none⟩=some (.bool false)) (first|assumption|go_keep)
     (first|(go_at_call 142;first|(refine(aW 1 _ vO vO).mono ?_;rintro e w3 ⟨rfl,rfl⟩)|(refine(aW 2 _ vO vO).mono ?_;rintro e w3 ⟨rfl,rfl⟩)))
  )
 all_goals(have hh:=And.intro hs1 (by assumption:_/\_))
 all_goals obtain⟨_,hh1,hh2⟩:=hh
 all_goals go_wp2_with fail
 first|(have _:=k90;all_goals refine bodyPost_ret (v:= .tuple #[.string ⟨#[77,48,49]⟩,true]) (by simp [results,Tryz.results100,go_sem];try rfl) rfl ⟨rfl,(baa (bt (ba _ _) hb1) _).drew⟩)|(have _:=k91;all_goals refine bodyPost_ret (v:= .tuple #[.string ⟨#[77,48,50]⟩,true]) (by simp [results,Tryz.results100,go_sem];try rfl) rfl ⟨rfl,(baa (bt (ba _ _) hb1) _).drew⟩)|(have _:=k92;all_goals refine bodyPost_ret (v:= .tuple #[.string ⟨#[77,48,51]⟩,true]) (by simp [results,Tryz.results100,go_sem];try rfl) rfl ⟨rfl,(baa (bt (ba _ _) hb1) _).drew⟩)|(have _:=k93;all_goals refine bodyPost_ret (v:= .tuple #[.string ⟨#[77,48,52]⟩,true]) (by simp [results,Tryz.results100,go_sem];try rfl) rfl ⟨rfl,(baa (bt (ba _ _) hb1) _).drew⟩)|(have _:=k94;all_goals refine bodyPost_ret (v:= .tuple #[.string ⟨#[77,48,53]⟩,true]) (by simp [results,Tryz.results100,go_sem];try rfl) rfl ⟨rfl,(baa (bt (ba _ _) hb1) _).drew⟩)|(have _:=k95;all_goals refine bodyPost_ret (v:= .tuple #[.string ⟨#[77,48,54]⟩,true]) (by simp [results,Tryz.results100,go_sem];try rfl) rfl ⟨rfl,(baa (bt (ba _ _) hb1) _).drew⟩)|(have _:=k96;all_goals refine bodyPost_ret (v:= .tuple #[.string ⟨#[77,48,55]⟩,true]) (by simp [results,Tryz.results100,go_sem];try rfl) rfl ⟨rfl,(baa (bt (ba _ _) hb1) _).drew⟩)|(have _:=k97;all_goals refine bodyPost_ret (v:= .tuple #[.string ⟨#[77,48,56]⟩,true]) (by simp [results,Tryz.results100,go_sem];try rfl) rfl ⟨rfl,(baa (bt (ba _ _) hb1) _).drew⟩)|(have _:=k98;all_goals refine bodyPost_ret (v:= .tuple #[.string ⟨#[77,48,57]⟩,true]) (by simp [results,Tryz.results100,go_sem];try rfl) rfl ⟨rfl,(baa (bt (ba _ _) hb1) _).drew⟩)|(have _:=k99;all_goals refine bodyPost_ret (v:= .tuple #[.string ⟨#[77,49,48]⟩,true]) (by simp [results,Tryz.results100,go_sem];try rfl) rfl ⟨rfl,(baa (bt (ba _ _) hb1) _).drew⟩)|(have _:=k910;all_goals refine bodyPost_ret (v:= .tuple #[.string ⟨#[77,49,49]⟩,true]) (by simp [results,Tryz.results100,go_sem];try rfl) rfl ⟨rfl,(baa (bt (ba _ _) hb1) _).drew⟩)|(all_goals refine bodyPost_ret (v:= .tuple #[.string ⟨#[77,49,50]⟩,true]) (by simp [results,Tryz.results100,go_sem];try rfl) rfl ⟨rfl,(baa (bt (ba _ _) hb1) _).drew⟩)
 )
def Fb:=bX.1
def FH:=bX.2.1
def FD:=bX.2.2.1
def EM:=bX.2.2.2.1
def Fa:=bX.2.2.2.2.1
def ET:=bX.2.2.2.2.2.1
def E8:=bX.2.2.2.2.2.2.1
def FK:=bX.2.2.2.2.2.2.2.1
def Fz:=bX.2.2.2.2.2.2.2.2.1
def Df:=bX.2.2.2.2.2.2.2.2.2.1
def Bw:=bX.2.2.2.2.2.2.2.2.2.2.1
def C8:=bX.2.2.2.2.2.2.2.2.2.2.2
theorem Cu(w:World):vB 100 #[.agg #[(5:Int),true]] w (.tuple #[.string ⟨#[77,48,53,76]⟩,true]):=by
 go_enter (vF Tryz.func100),Tryz.ntmps100
 go_wp2_with fail
 refine vX (jV _) fun w1 hb1 hz1 hc1 hf1=>?_
 try simp at hz1
 have hs1x0:w.1.size<w1.1.size:=vO
 have g1x0:w1.cell? ⟨w.1.size,0,none⟩=some (.int .i64 5):=bg hc1
 have g1x1:w1.cell? ⟨w.1.size,1,none⟩=some (.bool true):=bg hc1
 go_wp2_with fail
 have hs1:w.1.size<w1.1.size:=vO
 clear hc1 hf1
 have kc:(convert 134 9 (.slice (some ⟨w1.1.size,0,none⟩) 2 2)).run Tryo.prog (w1.alloc (.cells #[.int .u8 48,.int .u8 53] 5)).drew= .ok (.string ⟨#[48,53]⟩) (w1.alloc (.cells #[.int .u8 48,.int .u8 53] 5)).drew:=dV w1 48 53 vO vO
 go_region_held (fun x=>x.cell? ⟨w.1.size,0,none⟩=some (.int .i64 5)/\x.cell? ⟨w.1.size,1,none⟩=some (.bool true)) (first|assumption|go_keep)
   (first|(go_at_call 142;first|(refine(aW 0 _ vO vO).mono ?_;rintro e w3 ⟨rfl,rfl⟩)|(refine(aW 5 _ vO vO).mono ?_;rintro e w3 ⟨rfl,rfl⟩)))
 all_goals(have hh:=And.intro hs1 (by assumption:_/\_))
 all_goals obtain⟨_,hh1,hh2⟩:=hh
 all_goals go_wp2_with fail
 all_goals refine bodyPost_ret (v:= .tuple #[.string ⟨#[77,48,53,76]⟩,true]) (by simp [results,Tryz.results100,go_sem];try rfl) rfl ⟨rfl,(baa (bt (ba _ _) hb1) _).drew⟩
theorem qm:(∀(m:Int)(w:World)(h:m<1),vB 62 #[false,m] w (.tuple #[.agg #[(0:Int),false],false]))/\(∀(m:Int)(w:World)(h:12<m),vB 62 #[false,m] w (.tuple #[.agg #[(0:Int),false],false]))/\(∀(m:Int)(w:World)(h:m<1),vB 62 #[true,m] w (.tuple #[.agg #[(0:Int),false],false])):=by
 refine⟨@fun m w h=> ?_,@fun m w h=> ?_,@fun m w h=> ?_⟩
 all_goals(
 have HR:=Lib.hid (show Cal.right (m) false=false by rw [Cal.right,decide_eq_false_iff_not];omega)
 go_enter (vF Tryz.func62),Tryz.ntmps62
 go_wp2_with fail
 refine vX (jP (m) false _ HR.out) fun w1 hb1 hz1 hc1 hf1=>?_
 try simp at hz1
 have g1x0:w1.cell? ⟨w.1.size,0,none⟩=some (.int .i64 0):=bg hc1
 have g1x1:w1.cell? ⟨w.1.size,1,none⟩=some (.bool false):=bg hc1
 have g1x2:w1.cell? ⟨w.1.size+1,0,none⟩=some (m:vV):=bg hc1
 have g1x3:w1.cell? ⟨w.1.size+1,1,none⟩=some (.bool false):=bg hc1
 go_wp2_with fail
 refine bodyPost_ret (v:= .tuple #[.agg #[(0:Int),false],false]) (by simp [results,Tryz.results62,go_sem,g1x0,g1x1]) rfl ⟨rfl, ?_⟩
 first
  |exact bt (baa (ba _ _) _) hb1
  |exact bs (bs (bt (baa (ba _ _) _) hb1) (Nat.le_refl _) _) (Nat.le_refl _) _
 )
def RF:=qm.1
def NR:=qm.2.1
def Od:=qm.2.2
theorem Cg:(∀(m:Int)(w:World)(h:1<=m)(h2:m<=12),vB 62 #[false,m] w (.tuple #[.agg #[m,false],true]))/\(∀(m:Int)(w:World)(h:1<=m)(h2:m<=5),vB 62 #[true,m] w (.tuple #[.agg #[m,false],true])):=by
 refine⟨@fun m w h h2=> ?_,@fun m w h h2=> ?_⟩
 all_goals(
 go_enter (vF Tryz.func62),Tryz.ntmps62
 go_wp2_with fail
 refine vX (aX (m) _ vO vO) fun w1 hb1 hz1 hc1 hf1=>?_
 try simp at hz1
 have g1x0:w1.cell? ⟨w.1.size,0,none⟩=some (.int .i64 0):=bg hc1
 have g1x1:w1.cell? ⟨w.1.size,1,none⟩=some (.bool false):=bg hc1
 have g1x2:w1.cell? ⟨w.1.size+1,0,none⟩=some (m:vV):=bg hc1
 have g1x3:w1.cell? ⟨w.1.size+1,1,none⟩=some (.bool false):=bg hc1
 go_wp2_with fail
 refine bodyPost_ret (v:= .tuple #[.agg #[m,false],true]) (by simp [results,Tryz.results62,go_sem,g1x0,g1x1]) rfl ⟨rfl, ?_⟩
 first
  |exact bt (baa (ba _ _) _) hb1
  |exact bs (bs (bt (baa (ba _ _) _) hb1) (Nat.le_refl _) _) (Nat.le_refl _) _
 )
def SN:=Cg.1
def RZ:=Cg.2
theorem RI(m:Int)(w:World)(h:6<m)(h2:m<=13):vB 62 #[true,m] w (.tuple #[.agg #[.int .i64 (m-1),false],true]):=by
 have e6:(m==6)=false:=by rw [beq_eq_false_iff_ne];omega
 go_enter (vF Tryz.func62),Tryz.ntmps62
 go_wp2_with fail
 refine vX (aX (m-1) _ vO vO) fun w1 hb1 hz1 hc1 hf1=>?_
 try simp at hz1
 have g1x0:w1.cell? ⟨w.1.size,0,none⟩=some (.int .i64 0):=bg hc1
 have g1x1:w1.cell? ⟨w.1.size,1,none⟩=some (.bool false):=bg hc1
 have g1x2:w1.cell? ⟨w.1.size+1,0,none⟩=some (.int .i64 (m-1)):=bg hc1
 have g1x3:w1.cell? ⟨w.1.size+1,1,none⟩=some (.bool false):=bg hc1
 go_wp2_with fail
 refine bodyPost_ret (v:= .tuple #[.agg #[.int .i64 (m-1),false],true]) (by simp [results,Tryz.results62,go_sem,g1x0,g1x1]) rfl ⟨rfl, ?_⟩
 first
  |exact bt (baa (ba _ _) _) hb1
  |exact bs (bs (bt (baa (ba _ _) _) hb1) (Nat.le_refl _) _) (Nat.le_refl _) _
theorem Km(m:Int)(w:World)(h:13<m)(h2:m<=9223372036854775807):vB 62 #[true,m] w (.tuple #[.agg #[(0:Int),false],false]):=by
 have e6:(m==6)=false:=by rw [beq_eq_false_iff_ne];omega
 have HR:=Lib.hid (show Cal.right (m-1) false=false by rw [Cal.right,decide_eq_false_iff_not];omega)
 go_enter (vF Tryz.func62),Tryz.ntmps62
 go_wp2_with fail
 refine vX (jP (m-1) false _ HR.out) fun w1 hb1 hz1 hc1 hf1=>?_
 try simp at hz1
 have g1x0:w1.cell? ⟨w.1.size,0,none⟩=some (.int .i64 0):=bg hc1
 have g1x1:w1.cell? ⟨w.1.size,1,none⟩=some (.bool false):=bg hc1
 have g1x2:w1.cell? ⟨w.1.size+1,0,none⟩=some (.int .i64 (m-1)):=bg hc1
 have g1x3:w1.cell? ⟨w.1.size+1,1,none⟩=some (.bool false):=bg hc1
 go_wp2_with fail
 refine bodyPost_ret (v:= .tuple #[.agg #[(0:Int),false],false]) (by simp [results,Tryz.results62,go_sem,g1x0,g1x1]) rfl ⟨rfl, ?_⟩
 first
  |exact bt (baa (ba _ _) _) hb1
  |exact bs (bs (bt (baa (ba _ _) _) hb1) (Nat.le_refl _) _) (Nat.le_refl _) _
theorem Oe(w:World):vB 62 #[true,(6:Int)] w (.tuple #[.agg #[(5:Int),true],true]):=by
 go_enter (vF Tryz.func62),Tryz.ntmps62
 go_wp2_with fail
 refine vX (jV _) fun w1 hb1 hz1 hc1 hf1=>?_
 try simp at hz1
 have g1x0:w1.cell? ⟨w.1.size,0,none⟩=some (.int .i64 0):=bg hc1
 have g1x1:w1.cell? ⟨w.1.size,1,none⟩=some (.bool false):=bg hc1
 have g1x2:w1.cell? ⟨w.1.size+1,0,none⟩=some (.int .i64 5):=bg hc1
 have g1x3:w1.cell? ⟨w.1.size+1,1,none⟩=some (.bool true):=bg hc1
 go_wp2_with fail
 refine bodyPost_ret (v:= .tuple #[.agg #[(5:Int),true],true]) (by simp [results,Tryz.results62,go_sem,g1x0,g1x1]) rfl ⟨rfl, ?_⟩
 first
  |exact bt (baa (ba _ _) _) hb1
  |exact bs (bs (bt (baa (ba _ _) _) hb1) (Nat.le_refl _) _) (Nat.le_refl _) _
theorem jl:(∀(n:Int)(l:Bool)(w:World)(h:Cal.right n l=false),vB 84 #[false,.agg #[n,l]] w (.tuple #[(0:Int),false]))/\(∀(n:Int)(l:Bool)(w:World)(h:Cal.right n l=false),vB 84 #[true,.agg #[n,l]] w (.tuple #[(0:Int),false]))/\(∀(n:Int)(w:World)(h1:1<=n)(h2:n<=12),vB 84 #[false,.agg #[n,false]] w (.tuple #[n,true])):=by
 refine⟨@fun n l w h=> ?_,@fun n l w h=> ?_,@fun n w h1 h2=>(fun(k92:Nat)=> ?_) 0⟩
 all_goals(
 go_enter (vF Tryz.func84),Tryz.ntmps84
 go_wp2_with fail
 first|(have _:=k92;refine(aX n _ h1 h2).mono ?_)|(refine(jP n l _ h).mono ?_)
 rintro e w1 ⟨rfl,hb1⟩
 obtain⟨hc1,hf1⟩:=aL hb1
 have hz1:=hb1.size
 try simp at hz1
 have g1x0:w1.cell? ⟨w.1.size,0,none⟩=some (n:vV):=bg hc1
 first|(have _:=k92;have g1x1:w1.cell? ⟨w.1.size,1,none⟩=some (.bool false):=bg hc1)|(have g1x1:w1.cell? ⟨w.1.size,1,none⟩=some (.bool l):=bg hc1)
 go_wp2_with fail
 go_ret2
 exact⟨rfl,bt (ba _ _) hb1⟩
 )
def Aj:=jl.1
def Bd:=jl.2.1
def EG:=jl.2.2
theorem Je(n:Int)(w:World)(h1:1<=n)(h2:n<=5):vB 84 #[true,.agg #[n,false]] w (.tuple #[n,true]):=by
 go_enter (vF Tryz.func84),Tryz.ntmps84
 go_wp2_with fail
 refine vX (aX n _ h1 vO) fun w1 hb1 hz1 hc1 hf1=>?_
 try simp at hz1
 have g1x0:w1.cell? ⟨w.1.size,0,none⟩=some (n:vV):=bg hc1
 have g1x1:w1.cell? ⟨w.1.size,1,none⟩=some (.bool false):=bg hc1
 go_wp2_with fail
 go_ret2
 exact⟨rfl,bt (ba _ _) hb1⟩
theorem J6(n:Int)(w:World)(h1:5<n)(h2:n<=12):vB 84 #[true,.agg #[n,false]] w (.tuple #[.int .i64 (n+1),true]):=by
 go_enter (vF Tryz.func84),Tryz.ntmps84
 go_wp2_with fail
 refine vX (aX n _ vO h2) fun w1 hb1 hz1 hc1 hf1=>?_
 try simp at hz1
 have g1x0:w1.cell? ⟨w.1.size,0,none⟩=some (n:vV):=bg hc1
 have g1x1:w1.cell? ⟨w.1.size,1,none⟩=some (.bool false):=bg hc1
 go_wp2_with fail
 go_ret2
 exact⟨rfl,bt (ba _ _) hb1⟩
theorem pO:(∀(w:World),vB 84 #[true,.agg #[(5:Int),true]] w (.tuple #[(6:Int),true]))/\(∀(w:World),vB 84 #[false,.agg #[(5:Int),true]] w (.tuple #[(0:Int),false])):=by
 refine⟨@fun w=> ?_,@fun w=> ?_⟩
 all_goals(
 go_enter (vF Tryz.func84),Tryz.ntmps84
 go_wp2_with fail
 refine vX (jV _) fun w1 hb1 hz1 hc1 hf1=>?_
 try simp at hz1
 have g1x0:w1.cell? ⟨w.1.size,0,none⟩=some (.int .i64 5):=bg hc1
 have g1x1:w1.cell? ⟨w.1.size,1,none⟩=some (.bool true):=bg hc1
 go_wp2_with fail
 go_ret2
 exact⟨rfl,bt (ba _ _) hb1⟩
 )
def F8:=pO.1
def FW:=pO.2
theorem NQ(n k:Int)(l h:Bool)(w:World)(c:¬ n=k):vB 155 #[.agg #[n,l],.agg #[k,h]] w (.bool (decide (n<k))):=by
 go_enter (vF Tryz.func155),Tryz.ntmps155
 go_wp2_with fail
 go_ret
 exact⟨rfl,baa (ba _ _) _⟩
theorem Oi(n:Int)(l h:Bool)(w:World):vB 155 #[.agg #[n,l],.agg #[n,h]] w (.bool (!l&&h)):=by
 cases l <;> cases h
 all_goals
  go_enter (vF Tryz.func155),Tryz.ntmps155
  go_wp2_with fail
  go_ret
  exact⟨rfl,baa (ba _ _) _⟩
def Cal.most(lp:Bool):Int:=if lp then 13 else 12
def Cal.pQ(n:Int)(l:Bool)(k:Int)(h:Bool):Bool:=decide (n<k)||(n==k&&(!l&&h))
def Cal.qo(lp:Bool)(m:Int):Bool:=decide (1<=m)&&decide (m<=Cal.most lp)
def Cal.ofN(lp:Bool)(m:Int):Int:=if Cal.qo lp m then(if lp&&decide (6<=m)then m-1 else m)else 0
def Cal.ofL(lp:Bool)(m:Int):Bool:=Cal.qo lp m&&(lp&&m==6)
def Cal.dH(lp:Bool)(n:Int)(l:Bool):Bool:=Cal.right n l&& !(l&& !lp)
def Cal.plV(lp:Bool)(n:Int)(l:Bool):Int:=if Cal.dH lp n l then(if lp&&(l||decide (5<n))then n+1 else n)else 0
theorem iM(n:Int)(l:Bool)(h:Cal.right n l=true):(1<=n/\n<=12/\l=false)∨(n=5/\l=true):=by
 rw [Cal.right,decide_eq_true_iff]at h
 cases l
 ·exact .inl ⟨h.1,h.2.1,rfl⟩
 ·rcases h.2.2 with h3|h3
  ·cases h3
  ·exact .inr ⟨h3,rfl⟩
theorem oK(n:Int)(l:Bool)(w:World):vB 83 #[.agg #[n,l]] w (.bool (Cal.right n l)):=by
 cases h:Cal.right n l
 ·exact jP n l w h
 ·rcases iM n l h with ⟨h1,h2,rfl⟩|⟨rfl,rfl⟩
  ·exact aX n w h1 h2
  ·exact jV w
theorem qx(n k:Int)(l h:Bool)(w:World):vB 155 #[.agg #[n,l],.agg #[k,h]] w (.bool (Cal.pQ n l k h)):=by
 by_cases c:n=k
 ·subst c
  have:=Oi n l h w
  rwa [show(!l&&h)=Cal.pQ n l n h by simp [Cal.pQ]]at this
 ·have:=NQ n k l h w c
  rwa [show decide (n<k)=Cal.pQ n l k h by simp [Cal.pQ,c]]at this
theorem ES(lp:Bool)(m:Int)(w:World)(hm:m<=9223372036854775807):vB 62 #[lp,m] w (.tuple #[.agg #[Cal.ofN lp m,Cal.ofL lp m],Cal.qo lp m]):=by
 cases lp
 ·rcases(show m<1∨12<m∨(1<=m/\m<=12) by omega)with c|c|⟨c1,c2⟩
  ·have e:Cal.qo false m=false:=by simp [Cal.qo,Cal.most];omega
   simp only [Cal.ofN,Cal.ofL,e,Bool.false_and,Bool.false_eq_true,if_false]
   exact RF m w c
  ·have e:Cal.qo false m=false:=by simp [Cal.qo,Cal.most];omega
   simp only [Cal.ofN,Cal.ofL,e,Bool.false_and,Bool.false_eq_true,if_false]
   exact NR m w c
  ·have e:Cal.qo false m=true:=by simp [Cal.qo,Cal.most,c1,c2]
   simp only [Cal.ofN,Cal.ofL,e,Bool.false_and,Bool.and_false,Bool.false_eq_true,if_false,if_true]
   exact SN m w c1 c2
 ·rcases(show m<1∨13<m∨(1<=m/\m<=5)∨m=6∨(6<m/\m<=13) by omega)with c|c|⟨c1,c2⟩|rfl|⟨c1,c2⟩
  ·have e:Cal.qo true m=false:=by simp [Cal.qo,Cal.most];omega
   simp only [Cal.ofN,Cal.ofL,e,Bool.false_and,Bool.false_eq_true,if_false]
   exact Od m w c
  ·have e:Cal.qo true m=false:=by simp [Cal.qo,Cal.most];omega
   simp only [Cal.ofN,Cal.ofL,e,Bool.false_and,Bool.false_eq_true,if_false]
   exact Km m w c hm
  ·have e:Cal.qo true m=true:=by simp [Cal.qo,Cal.most,c1];omega
   have e2:decide (6<=m)=false:=vQ
   have e3:(m==6)=false:=by rw [beq_eq_false_iff_ne];omega
   simp only [Cal.ofN,Cal.ofL,e,e2,e3,Bool.and_false,Bool.false_eq_true,if_false,if_true]
   exact RZ m w c1 c2
  ·exact Oe w
  ·have e:Cal.qo true m=true:=by simp [Cal.qo,Cal.most,c2];omega
   have e2:decide (6<=m)=true:=vQ
   have e3:(m==6)=false:=by rw [beq_eq_false_iff_ne];omega
   simp only [Cal.ofN,Cal.ofL,e,e2,e3,Bool.and_false,Bool.and_true,if_true]
   exact RI m w c1 c2
theorem OL(lp:Bool)(n:Int)(l:Bool)(h:Cal.right n l=false):Cal.dH lp n l=false/\Cal.plV lp n l=0:=by simp [Cal.plV,Cal.dH,h]
theorem iD(lp:Bool)(n:Int)(l:Bool)(w:World):vB 84 #[lp,.agg #[n,l]] w (.tuple #[Cal.plV lp n l,Cal.dH lp n l]):=by
 cases h:Cal.right n l
 ·rw [(OL lp n l h).1,(OL lp n l h).2]
  cases lp
  ·exact Aj n l w h
  ·exact Bd n l w h
 ·rcases iM n l h with ⟨h1,h2,rfl⟩|⟨rfl,rfl⟩
  ·have e:∀lp,Cal.dH lp n false=true:=fun lp=>by simp [Cal.dH,h]
   cases lp
   ·simp only [Cal.plV,e,Bool.false_and,Bool.false_eq_true,if_false,if_true]
    exact EG n w h1 h2
   ·by_cases c:5<n
    ·simp only [Cal.plV,e,Bool.false_or,c,decide_true,Bool.and_true,if_true]
     exact J6 n w c h2
    ·simp only [Cal.plV,e,Bool.false_or,c,decide_false,Bool.and_false,Bool.false_eq_true,if_false,if_true]
     exact Je n w h1 vO
  ·cases lp
   ·exact FW w
   ·exact F8 w
def jY(lp:Bool):Nat->List (Int×Bool)
 |0=> []
 |k+1=>jY lp k++(((k:Int)+1,false) :: if k=4/\lp=true then [(5,true)]else [])
def Codes(w:World)(B:Nat)(v:Value)(xs:List (Int×Bool)):Prop:=∃g cap,v= .slice (some ⟨g,0,none⟩) xs.length cap/\xs.length<=cap/\B<=g/\g<w.1.size/\∀ (j:Nat) c,xs[j]? =some c->w.cell? ⟨g,j*2,none⟩=some (c.1:vV)/\w.cell? ⟨g,j*2+1,none⟩=some (.bool c.2)
theorem DT(lp:Bool):(jY lp 12).length=if lp then 13 else 12:=by cases lp <;> decide
def aad(lp:Bool):Bool:=(List.range (jY lp 12).length).all fun j=>(jY lp 12)[j]? ==some (Cal.ofN lp ((j:Int)+1),Cal.ofL lp ((j:Int)+1))&&(Cal.dH lp (Cal.ofN lp ((j:Int)+1)) (Cal.ofL lp ((j:Int)+1))&&Cal.plV lp (Cal.ofN lp ((j:Int)+1)) (Cal.ofL lp ((j:Int)+1))==(j:Int)+1)
theorem TH(lp:Bool):aad lp=true:=by cases lp <;> decide+kernel
theorem JZ(lp:Bool)(j:Nat)(hj:j<(jY lp 12).length):(jY lp 12)[j]? =some (Cal.ofN lp ((j:Int)+1),Cal.ofL lp ((j:Int)+1))/\Cal.dH lp (Cal.ofN lp ((j:Int)+1)) (Cal.ofL lp ((j:Int)+1))=true/\Cal.plV lp (Cal.ofN lp ((j:Int)+1)) (Cal.ofL lp ((j:Int)+1))=(j:Int)+1:=by
 have:=List.all_eq_true.1 (TH lp) j (List.mem_range.2 hj)
 simp only [Bool.and_eq_true,beq_iff_eq]at this
 exact this
theorem PY(lp:Bool)(j:Nat)(n:Int)(l:Bool)(h:(jY lp 12)[j]? =some (n,l)):Cal.dH lp n l=true/\Cal.plV lp n l=(j:Int)+1:=by
 have h2:=JZ lp j (List.getElem?_eq_some_iff.1 h).1
 rw [h2.1]at h
 simp only [Option.some.injEq,Prod.mk.injEq]at h
 rw [h.1,h.2]at h2
 exact h2.2
theorem PD(lp:Bool)(n:Int)(l:Bool)(h:Cal.dH lp n l=true):∃j,j<(jY lp 12).length/\(jY lp 12)[j]? =some (n,l):=by
 have hr:Cal.right n l=true:=by
  cases c:Cal.right n l
  ·rw [(OL lp n l c).1]at h;exact h
  ·rfl
 rcases iM n l hr with ⟨h1,h2,rfl⟩|⟨rfl,rfl⟩
 ·obtain⟨k,hk,rfl⟩:∃k:Nat,k<12/\n=(k:Int)+1:=⟨(n-1).toNat,vO,vO⟩
  cases lp
  ·match k,hk with
   |0,_=>exact⟨0,vD,vD⟩
   |1,_=>exact⟨1,vD,vD⟩
   |2,_=>exact⟨2,vD,vD⟩
   |3,_=>exact⟨3,vD,vD⟩
   |4,_=>exact⟨4,vD,vD⟩
   |5,_=>exact⟨5,vD,vD⟩
   |6,_=>exact⟨6,vD,vD⟩
   |7,_=>exact⟨7,vD,vD⟩
   |8,_=>exact⟨8,vD,vD⟩
   |9,_=>exact⟨9,vD,vD⟩
   |10,_=>exact⟨10,vD,vD⟩
   |11,_=>exact⟨11,vD,vD⟩
  ·match k,hk with
   |0,_=>exact⟨0,vD,vD⟩
   |1,_=>exact⟨1,vD,vD⟩
   |2,_=>exact⟨2,vD,vD⟩
   |3,_=>exact⟨3,vD,vD⟩
   |4,_=>exact⟨4,vD,vD⟩
   |5,_=>exact⟨6,vD,vD⟩
   |6,_=>exact⟨7,vD,vD⟩
   |7,_=>exact⟨8,vD,vD⟩
   |8,_=>exact⟨9,vD,vD⟩
   |9,_=>exact⟨10,vD,vD⟩
   |10,_=>exact⟨11,vD,vD⟩
   |11,_=>exact⟨12,vD,vD⟩
 ·cases lp
  ·simp [Cal.dH]at h
  ·exact⟨5,vD,vD⟩
theorem bZ:(∀(w:World),vB 55 #[.string ⟨#[77,48,49]⟩] w (.tuple #[.agg #[(1:Int),false],true]))/\(∀(w:World),vB 55 #[.string ⟨#[77,48,50]⟩] w (.tuple #[.agg #[(2:Int),false],true]))/\(∀(w:World),vB 55 #[.string ⟨#[77,48,51]⟩] w (.tuple #[.agg #[(3:Int),false],true]))/\(∀(w:World),vB 55 #[.string ⟨#[77,48,52]⟩] w (.tuple #[.agg #[(4:Int),false],true]))/\(∀(w:World),vB 55 #[.string ⟨#[77,48,53]⟩] w (.tuple #[.agg #[(5:Int),false],true]))/\(∀(w:World),vB 55 #[.string ⟨#[77,48,54]⟩] w (.tuple #[.agg #[(6:Int),false],true]))/\(∀(w:World),vB 55 #[.string ⟨#[77,48,55]⟩] w (.tuple #[.agg #[(7:Int),false],true]))/\(∀(w:World),vB 55 #[.string ⟨#[77,48,56]⟩] w (.tuple #[.agg #[(8:Int),false],true]))/\(∀(w:World),vB 55 #[.string ⟨#[77,48,57]⟩] w (.tuple #[.agg #[(9:Int),false],true]))/\(∀(w:World),vB 55 #[.string ⟨#[77,49,48]⟩] w (.tuple #[.agg #[(10:Int),false],true]))/\(∀(w:World),vB 55 #[.string ⟨#[77,49,49]⟩] w (.tuple #[.agg #[(11:Int),false],true]))/\(∀(w:World),vB 55 #[.string ⟨#[77,49,50]⟩] w (.tuple #[.agg #[(12:Int),false],true])):=by
 refine⟨@fun w=>(fun(k90:Nat)=> ?_) 0,@fun w=>(fun(k91:Nat)=> ?_) 0,@fun w=>(fun(k92:Nat)=> ?_) 0,@fun w=>(fun(k93:Nat)=> ?_) 0,@fun w=>(fun(k94:Nat)=> ?_) 0,@fun w=>(fun(k95:Nat)=> ?_) 0,@fun w=>(fun(k96:Nat)=> ?_) 0,@fun w=>(fun(k97:Nat)=> ?_) 0,@fun w=>(fun(k98:Nat)=> ?_) 0,@fun w=>(fun(k99:Nat)=> ?_) 0,@fun w=>(fun(k910:Nat)=> ?_) 0,@fun w=> ?_⟩
 all_goals(
 first|(have _:=k90;have x1:∀h,(({data:= #[77,48,49]}:ByteArray)[1]'h).toNat=48:=fun _=>rfl)|(have _:=k91;have x1:∀h,(({data:= #[77,48,50]}:ByteArray)[1]'h).toNat=48:=fun _=>rfl)|(have _:=k92;have x1:∀h,(({data:= #[77,48,51]}:ByteArray)[1]'h).toNat=48:=fun _=>rfl)|(have _:=k93;have x1:∀h,(({data:= #[77,48,52]}:ByteArray)[1]'h).toNat=48:=fun _=>rfl)|(have _:=k94;have x1:∀h,(({data:= #[77,48,53]}:ByteArray)[1]'h).toNat=48:=fun _=>rfl)|(have _:=k95;have x1:∀h,(({data:= #[77,48,54]}:ByteArray)[1]'h).toNat=48:=fun _=>rfl)|(have _:=k96;have x1:∀h,(({data:= #[77,48,55]}:ByteArray)[1]'h).toNat=48:=fun _=>rfl)|(have _:=k97;have x1:∀h,(({data:= #[77,48,56]}:ByteArray)[1]'h).toNat=48:=fun _=>rfl)|(have _:=k98;have x1:∀h,(({data:= #[77,48,57]}:ByteArray)[1]'h).toNat=48:=fun _=>rfl)|(have _:=k99;have x1:∀h,(({data:= #[77,49,48]}:ByteArray)[1]'h).toNat=49:=fun _=>rfl)|(have _:=k910;have x1:∀h,(({data:= #[77,49,49]}:ByteArray)[1]'h).toNat=49:=fun _=>rfl)|(have x1:∀h,(({data:= #[77,49,50]}:ByteArray)[1]'h).toNat=49:=fun _=>rfl)
 first|(have _:=k90;have x2:∀h,(({data:= #[77,48,49]}:ByteArray)[2]'h).toNat=49:=fun _=>rfl)|(have _:=k91;have x2:∀h,(({data:= #[77,48,50]}:ByteArray)[2]'h).toNat=50:=fun _=>rfl)|(have _:=k92;have x2:∀h,(({data:= #[77,48,51]}:ByteArray)[2]'h).toNat=51:=fun _=>rfl)|(have _:=k93;have x2:∀h,(({data:= #[77,48,52]}:ByteArray)[2]'h).toNat=52:=fun _=>rfl)|(have _:=k94;have x2:∀h,(({data:= #[77,48,53]}:ByteArray)[2]'h).toNat=53:=fun _=>rfl)|(have _:=k95;have x2:∀h,(({data:= #[77,48,54]}:ByteArray)[2]'h).toNat=54:=fun _=>rfl)|(have _:=k96;have x2:∀h,(({data:= #[77,48,55]}:ByteArray)[2]'h).toNat=55:=fun _=>rfl)|(have _:=k97;have x2:∀h,(({data:= #[77,48,56]}:ByteArray)[2]'h).toNat=56:=fun _=>rfl)|(have _:=k98;have x2:∀h,(({data:= #[77,48,57]}:ByteArray)[2]'h).toNat=57:=fun _=>rfl)|(have _:=k99;have x2:∀h,(({data:= #[77,49,48]}:ByteArray)[2]'h).toNat=48:=fun _=>rfl)|(have _:=k910;have x2:∀h,(({data:= #[77,49,49]}:ByteArray)[2]'h).toNat=49:=fun _=>rfl)|(have x2:∀h,(({data:= #[77,49,50]}:ByteArray)[2]'h).toNat=50:=fun _=>rfl)
 go_enter (vF Tryz.func55),Tryz.ntmps55
 go_wp2_with fail
 go_region_held (fun x=>x.cell? ⟨w.1.size,0,none⟩=some (.int .i64 0)/\x.cell? ⟨w.1.size,1,none⟩=some (.bool false)) (first|assumption|go_keep) (first|fail)
 all_goals go_wp2_with fail
 all_goals
  first|(have _:=k90;refine(Fb _).mono ?_)|(have _:=k91;refine(FH _).mono ?_)|(have _:=k92;refine(FD _).mono ?_)|(have _:=k93;refine(EM _).mono ?_)|(have _:=k94;refine(Fa _).mono ?_)|(have _:=k95;refine(ET _).mono ?_)|(have _:=k96;refine(E8 _).mono ?_)|(have _:=k97;refine(FK _).mono ?_)|(have _:=k98;refine(Fz _).mono ?_)|(have _:=k99;refine(Df _).mono ?_)|(have _:=k910;refine(Bw _).mono ?_)|(refine(C8 _).mono ?_)
  rintro e w1 ⟨rfl,hb1⟩
  obtain⟨hc1,hf1⟩:=aL hb1
  have hz1:=hb1.size
  try simp at hz1
  have g1x0:w1.cell? ⟨w.1.size,0,none⟩=some (.int .i64 0):=bg hc1
  have g1x1:w1.cell? ⟨w.1.size,1,none⟩=some (.bool false):=bg hc1
  first|(have _:=k90;have g1x2:w1.cell? ⟨w.1.size+1,0,none⟩=some (.int .i64 1):=bg hc1)|(have _:=k91;have g1x2:w1.cell? ⟨w.1.size+1,0,none⟩=some (.int .i64 2):=bg hc1)|(have _:=k92;have g1x2:w1.cell? ⟨w.1.size+1,0,none⟩=some (.int .i64 3):=bg hc1)|(have _:=k93;have g1x2:w1.cell? ⟨w.1.size+1,0,none⟩=some (.int .i64 4):=bg hc1)|(have _:=k94;have g1x2:w1.cell? ⟨w.1.size+1,0,none⟩=some (.int .i64 5):=bg hc1)|(have _:=k95;have g1x2:w1.cell? ⟨w.1.size+1,0,none⟩=some (.int .i64 6):=bg hc1)|(have _:=k96;have g1x2:w1.cell? ⟨w.1.size+1,0,none⟩=some (.int .i64 7):=bg hc1)|(have _:=k97;have g1x2:w1.cell? ⟨w.1.size+1,0,none⟩=some (.int .i64 8):=bg hc1)|(have _:=k98;have g1x2:w1.cell? ⟨w.1.size+1,0,none⟩=some (.int .i64 9):=bg hc1)|(have _:=k99;have g1x2:w1.cell? ⟨w.1.size+1,0,none⟩=some (.int .i64 10):=bg hc1)|(have _:=k910;have g1x2:w1.cell? ⟨w.1.size+1,0,none⟩=some (.int .i64 11):=bg hc1)|(have g1x2:w1.cell? ⟨w.1.size+1,0,none⟩=some (.int .i64 12):=bg hc1)
  have g1x3:w1.cell? ⟨w.1.size+1,1,none⟩=some (.bool false):=bg hc1
  go_wp2_with fail
  first|(have _:=k90;refine bodyPost_ret (v:= .tuple #[.agg #[(1:Int),false],true]) (by simp [results,Tryz.results55,go_sem,g1x0,g1x1]) rfl ⟨rfl, ?_⟩)|(have _:=k91;refine bodyPost_ret (v:= .tuple #[.agg #[(2:Int),false],true]) (by simp [results,Tryz.results55,go_sem,g1x0,g1x1]) rfl ⟨rfl, ?_⟩)|(have _:=k92;refine bodyPost_ret (v:= .tuple #[.agg #[(3:Int),false],true]) (by simp [results,Tryz.results55,go_sem,g1x0,g1x1]) rfl ⟨rfl, ?_⟩)|(have _:=k93;refine bodyPost_ret (v:= .tuple #[.agg #[(4:Int),false],true]) (by simp [results,Tryz.results55,go_sem,g1x0,g1x1]) rfl ⟨rfl, ?_⟩)|(have _:=k94;refine bodyPost_ret (v:= .tuple #[.agg #[(5:Int),false],true]) (by simp [results,Tryz.results55,go_sem,g1x0,g1x1]) rfl ⟨rfl, ?_⟩)|(have _:=k95;refine bodyPost_ret (v:= .tuple #[.agg #[(6:Int),false],true]) (by simp [results,Tryz.results55,go_sem,g1x0,g1x1]) rfl ⟨rfl, ?_⟩)|(have _:=k96;refine bodyPost_ret (v:= .tuple #[.agg #[(7:Int),false],true]) (by simp [results,Tryz.results55,go_sem,g1x0,g1x1]) rfl ⟨rfl, ?_⟩)|(have _:=k97;refine bodyPost_ret (v:= .tuple #[.agg #[(8:Int),false],true]) (by simp [results,Tryz.results55,go_sem,g1x0,g1x1]) rfl ⟨rfl, ?_⟩)|(have _:=k98;refine bodyPost_ret (v:= .tuple #[.agg #[(9:Int),false],true]) (by simp [results,Tryz.results55,go_sem,g1x0,g1x1]) rfl ⟨rfl, ?_⟩)|(have _:=k99;refine bodyPost_ret (v:= .tuple #[.agg #[(10:Int),false],true]) (by simp [results,Tryz.results55,go_sem,g1x0,g1x1]) rfl ⟨rfl, ?_⟩)|(have _:=k910;refine bodyPost_ret (v:= .tuple #[.agg #[(11:Int),false],true]) (by simp [results,Tryz.results55,go_sem,g1x0,g1x1]) rfl ⟨rfl, ?_⟩)|(refine bodyPost_ret (v:= .tuple #[.agg #[(12:Int),false],true]) (by simp [results,Tryz.results55,go_sem,g1x0,g1x1]) rfl ⟨rfl, ?_⟩)
  first
   |exact bt (baa (ba _ _) _).drew hb1
   |exact bs (bs (bt (baa (ba _ _) _).drew hb1) (Nat.le_refl _) _) (Nat.le_refl _) _
 )
def Qp:=bZ.1
def Sv:=bZ.2.1
def RJ:=bZ.2.2.1
def RH:=bZ.2.2.2.1
def Pt:=bZ.2.2.2.2.1
def Q8:=bZ.2.2.2.2.2.1
def Qh:=bZ.2.2.2.2.2.2.1
def QO:=bZ.2.2.2.2.2.2.2.1
def Rz:=bZ.2.2.2.2.2.2.2.2.1
def Nr:=bZ.2.2.2.2.2.2.2.2.2.1
def NY:=bZ.2.2.2.2.2.2.2.2.2.2.1
def OI:=bZ.2.2.2.2.2.2.2.2.2.2.2
theorem OW(w:World):vB 55 #[.string ⟨#[77,48,53,76]⟩] w (.tuple #[.agg #[(5:Int),true],true]):=by
 have x1:∀h,(({data:= #[77,48,53,76]}:ByteArray)[1]'h).toNat=48:=fun _=>rfl
 have x2:∀h,(({data:= #[77,48,53,76]}:ByteArray)[2]'h).toNat=53:=fun _=>rfl
 go_enter (vF Tryz.func55),Tryz.ntmps55
 go_wp2_with fail
 go_region_held (fun x=>x.cell? ⟨w.1.size,0,none⟩=some (.int .i64 0)/\x.cell? ⟨w.1.size,1,none⟩=some (.bool false)) (first|assumption|go_keep) (first|fail)
 all_goals go_wp2_with fail
 all_goals
  refine vX (Cu _) fun w1 hb1 hz1 hc1 hf1=>?_
  try simp at hz1
  have g1x0:w1.cell? ⟨w.1.size,0,none⟩=some (.int .i64 0):=bg hc1
  have g1x1:w1.cell? ⟨w.1.size,1,none⟩=some (.bool false):=bg hc1
  have g1x2:w1.cell? ⟨w.1.size+1,0,none⟩=some (.int .i64 5):=bg hc1
  have g1x3:w1.cell? ⟨w.1.size+1,1,none⟩=some (.bool true):=bg hc1
  go_wp2_with fail
  refine bodyPost_ret (v:= .tuple #[.agg #[(5:Int),true],true]) (by simp [results,Tryz.results55,go_sem,g1x0,g1x1]) rfl ⟨rfl, ?_⟩
  first
   |exact bt (baa (ba _ _) _).drew hb1
   |exact bs (bs (bt (baa (ba _ _) _).drew hb1) (Nat.le_refl _) _) (Nat.le_refl _) _
end Go.Proofs.YtljbnicolhhicaaGreatDoor
