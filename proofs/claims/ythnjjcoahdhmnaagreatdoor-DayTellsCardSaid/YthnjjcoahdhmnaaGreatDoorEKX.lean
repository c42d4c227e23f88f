import Derived.Test.YthnjjcoahdhmnaaGreatDoorEKev
import Derived.Deep.RegionHeld3
import Derived.LoopTactic
import Derived.Deep.QuietTactic
import Derived.BigQuiet
import Derived.Lib.SmallJoins
set_option maxHeartbeats 8000000
set_option maxRecDepth 100000
set_option linter.unusedVariables false
namespace Go.Proofs.YthnjjcoahdhmnaaGreatDoor
section
open Go.ChangeShapes Go.WideShapes Go.ChangeAt Go.RowKit
theorem Pk(w:World):
  Calls Tryo.prog 242 #[.int .i64 1] w fun e w'=>e= .returned (.tuple #[.agg #[.int .i64 1,.int .i64 0,.bool false],.bool true])/\Below w.heap.size w w':=by
 go_enter Tryo.func242,Tryz.ntmps242
 go_wp2_with fail
 have h3:=third w
 have hw0:IntKind.i64.wrap (1-1)=0:=by decide
 have hw1:IntKind.i64.wrap 0=0:=by decide
 go_region_held3 (fun x=>x.cell? ⟨w.heap.size+1,0,none⟩=some (.int .i64 1)/\x.cell? ⟨w.heap.size+1+1,0,none⟩=some (.int .i64 0)) (go_keep) (first|fail)
 all_goals go_wp2_with fail
 all_goals refine bodyPost_ret (v:= .tuple #[.agg #[.int .i64 1,.int .i64 0,.bool false],.bool true]) (by simp [results,Tryz.results242,go_sem]) rfl ⟨rfl, ?_⟩
 all_goals first|exact bs0 (bs0 (bs0 (bdx (baa (baa (ba _ _) _) _)) _ _) _ _) _ _|exact bdx (bs0 (bs0 (bs0 (baa (baa (ba _ _) _) _) _ _) _ _) _ _)|exact bdx (baa (baa (ba _ _) _) _)|trace_state
theorem Pt(w:World):
  Calls Tryo.prog 242 #[.int .i64 2] w fun e w'=>e= .returned (.tuple #[.agg #[.int .i64 1,.int .i64 2,.bool false],.bool true])/\Below w.heap.size w w':=by
 go_enter Tryo.func242,Tryz.ntmps242
 go_wp2_with fail
 have h3:=third w
 have hw0:IntKind.i64.wrap (2-1)=1:=by decide
 have hw1:IntKind.i64.wrap 1=1:=by decide
 go_region_held3 (fun x=>x.cell? ⟨w.heap.size+1,1,none⟩=some (.int .i64 1)/\x.cell? ⟨w.heap.size+1+1,1,none⟩=some (.int .i64 2)) (go_keep) (first|fail)
 all_goals go_wp2_with fail
 all_goals refine bodyPost_ret (v:= .tuple #[.agg #[.int .i64 1,.int .i64 2,.bool false],.bool true]) (by simp [results,Tryz.results242,go_sem]) rfl ⟨rfl, ?_⟩
 all_goals first|exact bs0 (bs0 (bs0 (bdx (baa (baa (ba _ _) _) _)) _ _) _ _) _ _|exact bdx (bs0 (bs0 (bs0 (baa (baa (ba _ _) _) _) _ _) _ _) _ _)|exact bdx (baa (baa (ba _ _) _) _)|trace_state
theorem Pm(w:World):
  Calls Tryo.prog 242 #[.int .i64 3] w fun e w'=>e= .returned (.tuple #[.agg #[.int .i64 2,.int .i64 1,.bool false],.bool true])/\Below w.heap.size w w':=by
 go_enter Tryo.func242,Tryz.ntmps242
 go_wp2_with fail
 have h3:=third w
 have hw0:IntKind.i64.wrap (3-1)=2:=by decide
 have hw1:IntKind.i64.wrap 2=2:=by decide
 go_region_held3 (fun x=>x.cell? ⟨w.heap.size+1,2,none⟩=some (.int .i64 2)/\x.cell? ⟨w.heap.size+1+1,2,none⟩=some (.int .i64 1)) (go_keep) (first|fail)
 all_goals go_wp2_with fail
 all_goals refine bodyPost_ret (v:= .tuple #[.agg #[.int .i64 2,.int .i64 1,.bool false],.bool true]) (by simp [results,Tryz.results242,go_sem]) rfl ⟨rfl, ?_⟩
 all_goals first|exact bs0 (bs0 (bs0 (bdx (baa (baa (ba _ _) _) _)) _ _) _ _) _ _|exact bdx (bs0 (bs0 (bs0 (baa (baa (ba _ _) _) _) _ _) _ _) _ _)|exact bdx (baa (baa (ba _ _) _) _)|trace_state
theorem Pw(w:World):
  Calls Tryo.prog 242 #[.int .i64 4] w fun e w'=>e= .returned (.tuple #[.agg #[.int .i64 4,.int .i64 1,.bool false],.bool true])/\Below w.heap.size w w':=by
 go_enter Tryo.func242,Tryz.ntmps242
 go_wp2_with fail
 have h3:=third w
 have hw0:IntKind.i64.wrap (4-1)=3:=by decide
 have hw1:IntKind.i64.wrap 3=3:=by decide
 go_region_held3 (fun x=>x.cell? ⟨w.heap.size+1,3,none⟩=some (.int .i64 4)/\x.cell? ⟨w.heap.size+1+1,3,none⟩=some (.int .i64 1)) (go_keep) (first|fail)
 all_goals go_wp2_with fail
 all_goals refine bodyPost_ret (v:= .tuple #[.agg #[.int .i64 4,.int .i64 1,.bool false],.bool true]) (by simp [results,Tryz.results242,go_sem]) rfl ⟨rfl, ?_⟩
 all_goals first|exact bs0 (bs0 (bs0 (bdx (baa (baa (ba _ _) _) _)) _ _) _ _) _ _|exact bdx (bs0 (bs0 (bs0 (baa (baa (ba _ _) _) _) _ _) _ _) _ _)|exact bdx (baa (baa (ba _ _) _) _)|trace_state
end
section
open Go.ChangeShapes Go.WideShapes Go.ChangeAt Go.RowKit
theorem Q7(w:World):
  Calls Tryo.prog 242 #[.int .i64 5] w fun e w'=>e= .returned (.tuple #[.agg #[.int .i64 4,.int .i64 2,.bool false],.bool true])/\Below w.heap.size w w':=by
 go_enter Tryo.func242,Tryz.ntmps242
 go_wp2_with fail
 have h3:=third w
 have hw0:IntKind.i64.wrap (5-1)=4:=by decide
 have hw1:IntKind.i64.wrap 4=4:=by decide
 go_region_held3 (fun x=>x.cell? ⟨w.heap.size+1,4,none⟩=some (.int .i64 4)/\x.cell? ⟨w.heap.size+1+1,4,none⟩=some (.int .i64 2)) (go_keep) (first|fail)
 all_goals go_wp2_with fail
 all_goals refine bodyPost_ret (v:= .tuple #[.agg #[.int .i64 4,.int .i64 2,.bool false],.bool true]) (by simp [results,Tryz.results242,go_sem]) rfl ⟨rfl, ?_⟩
 all_goals first|exact bs0 (bs0 (bs0 (bdx (baa (baa (ba _ _) _) _)) _ _) _ _) _ _|exact bdx (bs0 (bs0 (bs0 (baa (baa (ba _ _) _) _) _ _) _ _) _ _)|exact bdx (baa (baa (ba _ _) _) _)|trace_state
theorem P6(w:World):
  Calls Tryo.prog 242 #[.int .i64 6] w fun e w'=>e= .returned (.tuple #[.agg #[.int .i64 6,.int .i64 0,.bool false],.bool true])/\Below w.heap.size w w':=by
 go_enter Tryo.func242,Tryz.ntmps242
 go_wp2_with fail
 have h3:=third w
 have hw0:IntKind.i64.wrap (6-1)=5:=by decide
 have hw1:IntKind.i64.wrap 5=5:=by decide
 go_region_held3 (fun x=>x.cell? ⟨w.heap.size+1,5,none⟩=some (.int .i64 6)/\x.cell? ⟨w.heap.size+1+1,5,none⟩=some (.int .i64 0)) (go_keep) (first|fail)
 all_goals go_wp2_with fail
 all_goals refine bodyPost_ret (v:= .tuple #[.agg #[.int .i64 6,.int .i64 0,.bool false],.bool true]) (by simp [results,Tryz.results242,go_sem]) rfl ⟨rfl, ?_⟩
 all_goals first|exact bs0 (bs0 (bs0 (bdx (baa (baa (ba _ _) _) _)) _ _) _ _) _ _|exact bdx (bs0 (bs0 (bs0 (baa (baa (ba _ _) _) _) _ _) _ _) _ _)|exact bdx (baa (baa (ba _ _) _) _)|trace_state
theorem Qu(w:World):
  Calls Tryo.prog 242 #[.int .i64 7] w fun e w'=>e= .returned (.tuple #[.agg #[.int .i64 6,.int .i64 2,.bool false],.bool true])/\Below w.heap.size w w':=by
 go_enter Tryo.func242,Tryz.ntmps242
 go_wp2_with fail
 have h3:=third w
 have hw0:IntKind.i64.wrap (7-1)=6:=by decide
 have hw1:IntKind.i64.wrap 6=6:=by decide
 go_region_held3 (fun x=>x.cell? ⟨w.heap.size+1,6,none⟩=some (.int .i64 6)/\x.cell? ⟨w.heap.size+1+1,6,none⟩=some (.int .i64 2)) (go_keep) (first|fail)
 all_goals go_wp2_with fail
 all_goals refine bodyPost_ret (v:= .tuple #[.agg #[.int .i64 6,.int .i64 2,.bool false],.bool true]) (by simp [results,Tryz.results242,go_sem]) rfl ⟨rfl, ?_⟩
 all_goals first|exact bs0 (bs0 (bs0 (bdx (baa (baa (ba _ _) _) _)) _ _) _ _) _ _|exact bdx (bs0 (bs0 (bs0 (baa (baa (ba _ _) _) _) _ _) _ _) _ _)|exact bdx (baa (baa (ba _ _) _) _)|trace_state
theorem O5(w:World):
  Calls Tryo.prog 242 #[.int .i64 8] w fun e w'=>e= .returned (.tuple #[.agg #[.int .i64 1,.int .i64 0,.bool true],.bool true])/\Below w.heap.size w w':=by
 go_enter Tryo.func242,Tryz.ntmps242
 go_wp2_with fail
 have h3:=third w
 have hw0:IntKind.i64.wrap (8-1)=7:=by decide
 have hw1:IntKind.i64.wrap 7=7:=by decide
 go_region_held3 (fun x=>x.cell? ⟨w.heap.size+1,7,none⟩=some (.int .i64 1)/\x.cell? ⟨w.heap.size+1+1,7,none⟩=some (.int .i64 0)) (go_keep) (first|fail)
 all_goals go_wp2_with fail
 all_goals refine bodyPost_ret (v:= .tuple #[.agg #[.int .i64 1,.int .i64 0,.bool true],.bool true]) (by simp [results,Tryz.results242,go_sem]) rfl ⟨rfl, ?_⟩
 all_goals first|exact bs0 (bs0 (bs0 (bdx (baa (baa (ba _ _) _) _)) _ _) _ _) _ _|exact bdx (bs0 (bs0 (bs0 (baa (baa (ba _ _) _) _) _ _) _ _) _ _)|exact bdx (baa (baa (ba _ _) _) _)|trace_state
end
section
open Go.ChangeShapes Go.WideShapes Go.ChangeAt Go.RowKit
theorem RN(w:World):
  Calls Tryo.prog 242 #[.int .i64 9] w fun e w'=>e= .returned (.tuple #[.agg #[.int .i64 1,.int .i64 2,.bool true],.bool true])/\Below w.heap.size w w':=by
 go_enter Tryo.func242,Tryz.ntmps242
 go_wp2_with fail
 have h3:=third w
 have hw0:IntKind.i64.wrap (9-1)=8:=by decide
 have hw1:IntKind.i64.wrap 8=8:=by decide
 go_region_held3 (fun x=>x.cell? ⟨w.heap.size+1,8,none⟩=some (.int .i64 1)/\x.cell? ⟨w.heap.size+1+1,8,none⟩=some (.int .i64 2)) (go_keep) (first|fail)
 all_goals go_wp2_with fail
 all_goals refine bodyPost_ret (v:= .tuple #[.agg #[.int .i64 1,.int .i64 2,.bool true],.bool true]) (by simp [results,Tryz.results242,go_sem]) rfl ⟨rfl, ?_⟩
 all_goals first|exact bs0 (bs0 (bs0 (bdx (baa (baa (ba _ _) _) _)) _ _) _ _) _ _|exact bdx (bs0 (bs0 (bs0 (baa (baa (ba _ _) _) _) _ _) _ _) _ _)|exact bdx (baa (baa (ba _ _) _) _)|trace_state
theorem Qs(w:World):
  Calls Tryo.prog 242 #[.int .i64 10] w fun e w'=>e= .returned (.tuple #[.agg #[.int .i64 2,.int .i64 1,.bool true],.bool true])/\Below w.heap.size w w':=by
 go_enter Tryo.func242,Tryz.ntmps242
 go_wp2_with fail
 have h3:=third w
 have hw0:IntKind.i64.wrap (10-1)=9:=by decide
 have hw1:IntKind.i64.wrap 9=9:=by decide
 go_region_held3 (fun x=>x.cell? ⟨w.heap.size+1,9,none⟩=some (.int .i64 2)/\x.cell? ⟨w.heap.size+1+1,9,none⟩=some (.int .i64 1)) (go_keep) (first|fail)
 all_goals go_wp2_with fail
 all_goals refine bodyPost_ret (v:= .tuple #[.agg #[.int .i64 2,.int .i64 1,.bool true],.bool true]) (by simp [results,Tryz.results242,go_sem]) rfl ⟨rfl, ?_⟩
 all_goals first|exact bs0 (bs0 (bs0 (bdx (baa (baa (ba _ _) _) _)) _ _) _ _) _ _|exact bdx (bs0 (bs0 (bs0 (baa (baa (ba _ _) _) _) _ _) _ _) _ _)|exact bdx (baa (baa (ba _ _) _) _)|trace_state
theorem NY(w:World):
  Calls Tryo.prog 242 #[.int .i64 11] w fun e w'=>e= .returned (.tuple #[.agg #[.int .i64 4,.int .i64 0,.bool true],.bool true])/\Below w.heap.size w w':=by
 go_enter Tryo.func242,Tryz.ntmps242
 go_wp2_with fail
 have h3:=third w
 have hw0:IntKind.i64.wrap (11-1)=10:=by decide
 have hw1:IntKind.i64.wrap 10=10:=by decide
 go_region_held3 (fun x=>x.cell? ⟨w.heap.size+1,10,none⟩=some (.int .i64 4)/\x.cell? ⟨w.heap.size+1+1,10,none⟩=some (.int .i64 0)) (go_keep) (first|fail)
 all_goals go_wp2_with fail
 all_goals refine bodyPost_ret (v:= .tuple #[.agg #[.int .i64 4,.int .i64 0,.bool true],.bool true]) (by simp [results,Tryz.results242,go_sem]) rfl ⟨rfl, ?_⟩
 all_goals first|exact bs0 (bs0 (bs0 (bdx (baa (baa (ba _ _) _) _)) _ _) _ _) _ _|exact bdx (bs0 (bs0 (bs0 (baa (baa (ba _ _) _) _) _ _) _ _) _ _)|exact bdx (baa (baa (ba _ _) _) _)|trace_state
end
section
open Go.ChangeShapes Go.WideShapes Go.ChangeAt Go.RowKit
theorem Mj(w:World):
  Calls Tryo.prog 242 #[.int .i64 12] w fun e w'=>e= .returned (.tuple #[.agg #[.int .i64 4,.int .i64 2,.bool true],.bool true])/\Below w.heap.size w w':=by
 go_enter Tryo.func242,Tryz.ntmps242
 go_wp2_with fail
 have h3:=third w
 have hw0:IntKind.i64.wrap (12-1)=11:=by decide
 have hw1:IntKind.i64.wrap 11=11:=by decide
 go_region_held3 (fun x=>x.cell? ⟨w.heap.size+1,11,none⟩=some (.int .i64 4)/\x.cell? ⟨w.heap.size+1+1,11,none⟩=some (.int .i64 2)) (go_keep) (first|fail)
 all_goals go_wp2_with fail
 all_goals refine bodyPost_ret (v:= .tuple #[.agg #[.int .i64 4,.int .i64 2,.bool true],.bool true]) (by simp [results,Tryz.results242,go_sem]) rfl ⟨rfl, ?_⟩
 all_goals first|exact bs0 (bs0 (bs0 (bdx (baa (baa (ba _ _) _) _)) _ _) _ _) _ _|exact bdx (bs0 (bs0 (bs0 (baa (baa (ba _ _) _) _) _ _) _ _) _ _)|exact bdx (baa (baa (ba _ _) _) _)|trace_state
theorem LZ(w:World):
  Calls Tryo.prog 242 #[.int .i64 13] w fun e w'=>e= .returned (.tuple #[.agg #[.int .i64 6,.int .i64 0,.bool true],.bool true])/\Below w.heap.size w w':=by
 go_enter Tryo.func242,Tryz.ntmps242
 go_wp2_with fail
 have h3:=third w
 have hw0:IntKind.i64.wrap (13-1)=12:=by decide
 have hw1:IntKind.i64.wrap 12=12:=by decide
 go_region_held3 (fun x=>x.cell? ⟨w.heap.size+1,12,none⟩=some (.int .i64 6)/\x.cell? ⟨w.heap.size+1+1,12,none⟩=some (.int .i64 0)) (go_keep) (first|fail)
 all_goals go_wp2_with fail
 all_goals refine bodyPost_ret (v:= .tuple #[.agg #[.int .i64 6,.int .i64 0,.bool true],.bool true]) (by simp [results,Tryz.results242,go_sem]) rfl ⟨rfl, ?_⟩
 all_goals first|exact bs0 (bs0 (bs0 (bdx (baa (baa (ba _ _) _) _)) _ _) _ _) _ _|exact bdx (bs0 (bs0 (bs0 (baa (baa (ba _ _) _) _) _ _) _ _) _ _)|exact bdx (baa (baa (ba _ _) _) _)|trace_state
theorem OX(w:World):
  Calls Tryo.prog 242 #[.int .i64 14] w fun e w'=>e= .returned (.tuple #[.agg #[.int .i64 6,.int .i64 2,.bool true],.bool true])/\Below w.heap.size w w':=by
 go_enter Tryo.func242,Tryz.ntmps242
 go_wp2_with fail
 have h3:=third w
 have hw0:IntKind.i64.wrap (14-1)=13:=by decide
 have hw1:IntKind.i64.wrap 13=13:=by decide
 go_region_held3 (fun x=>x.cell? ⟨w.heap.size+1,13,none⟩=some (.int .i64 6)/\x.cell? ⟨w.heap.size+1+1,13,none⟩=some (.int .i64 2)) (go_keep) (first|fail)
 all_goals go_wp2_with fail
 all_goals refine bodyPost_ret (v:= .tuple #[.agg #[.int .i64 6,.int .i64 2,.bool true],.bool true]) (by simp [results,Tryz.results242,go_sem]) rfl ⟨rfl, ?_⟩
 all_goals first|exact bs0 (bs0 (bs0 (bdx (baa (baa (ba _ _) _) _)) _ _) _ _) _ _|exact bdx (bs0 (bs0 (bs0 (baa (baa (ba _ _) _) _) _ _) _ _) _ _)|exact bdx (baa (baa (ba _ _) _) _)|trace_state
end
end Go.Proofs.YthnjjcoahdhmnaaGreatDoor
