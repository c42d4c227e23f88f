import Derived.Test.YtljbnicolhhicaaGreatDoorZKE
set_option maxHeartbeats 8000000
set_option maxRecDepth 100000
set_option linter.unusedVariables false
namespace Go.Proofs.YtljbnicolhhicaaGreatDoor
open Go.ChangeShapes Go.WideShapes Go.ChangeAt Go.RowKit
theorem acr(y:Int)(w:World)(h1:1<=y)(h2:y<=9999):
  vB 27 #[y] w (.tuple #[Cal.long y,(0:Int)]):=by
 have HA:=Lib.hid (fun w=>Jl y w h1 h2)
 clear h1 h2
 go_enter (vF Tryz.func27),Tryz.ntmps27
 go_wp2_with fail
 refine vX (HA.out _) fun w1 hb1 hz1 hc1 hf1=>?_
 try simp at hz1
 go_wp2_with fail
 go_ret2
 exact⟨rfl,hb1⟩
theorem aco(y:Int)(w:World)(hy:I64 y)(h:y<1∨9999<y):
  vB 27 #[y] w (.tuple #[(0:Int),(2:Int)]):=by
 have HA:=Lib.hid (fun w=>IV y w hy h)
 clear h
 go_enter (vF Tryz.func27),Tryz.ntmps27
 go_wp2_with fail
 refine vX (HA.out _) fun w1 hb1 hz1 hc1 hf1=>?_
 try simp at hz1
 go_wp2_with fail
 go_ret2
 exact⟨rfl,hb1⟩
theorem acu(y:Int)(w:World)(hy:I64 y):
  vB 27 #[y] w (.tuple #[Cal.Qc y,Cal.RO y]):=by
 by_cases h:1<=y/\y<=9999
 ·obtain⟨e1,e2,e3,e4,e5⟩:=Cal.Z7 y h.1 h.2
  rw [e1,e2]
  exact acr y w h.1 h.2
 ·obtain⟨e1,e2,e3,e4,e5⟩:=Cal.Y9 y vO
  rw [e1,e2]
  exact aco y w hy vO
end Go.Proofs.YtljbnicolhhicaaGreatDoor
