import Derived.Test.YthpipedifekmpaaGreatDoorJBB
set_option maxHeartbeats 8000000
set_option maxRecDepth 100000
set_option linter.unusedVariables false
namespace Go.Proofs.YthpipedifekmpaaGreatDoor
open Go.ChangeShapes Go.WideShapes Go.ChangeAt Go.RowKit Go.Joins
section
variable {H:Type} {enc:TypeId×Value->H} {W:World} {base b0:Nat} {spare:Nat->Bool} {held:Bool} {r:Reach} {v:Value} {d:DataW H} {p:List MemPlace}
theorem open_Date(hv:Value.okWide Tryz.prog W r base 25 v)(h:DataW.Trod enc Tryz.prog W b0 spare held 25 v d p):
  ∃ (a0:Int) (a1:Int) (a2:Bool) (a3:Int),v= .agg #[.int .i64 a0,.int .i64 a1,.bool a2,.int .i64 a3]/\I64 a0/\I64 a1/\I64 a3/\True:=by
 obtain⟨cs,rfl,hsz⟩:=okWide_struct Tryz.underlying25 hv
 obtain⟨l⟩:=cs
 match l,hsz.trans (show Tryz.prog.cellsOf 25=4 by kernel_rfl)with
 | [c0,c1,c2,c3],_=>
  obtain⟨fuel,hf⟩:=h
  obtain⟨m0,y0,h0⟩:=struct_field Tryz.underlying25 hf 0 _ rfl
  obtain⟨m1,y1,h1⟩:=struct_field Tryz.underlying25 hf 1 _ rfl
  obtain⟨m2,y2,h2⟩:=struct_field Tryz.underlying23 h1 0 _ rfl
  obtain⟨m3,y3,h3⟩:=struct_field Tryz.underlying23 h1 1 _ rfl
  obtain⟨m4,y4,h4⟩:=struct_field Tryz.underlying25 hf 2 _ rfl
  obtain⟨a0,e0,_,w0⟩:=DataW.trod_int Tryz.underlying3 h0
  obtain⟨a1,e1,_,w1⟩:=DataW.trod_int Tryz.underlying3 h2
  obtain⟨a2,e2,_⟩:=DataW.trod_bool Tryz.underlying4 h3
  obtain⟨a3,e3,_,w3⟩:=DataW.trod_int Tryz.underlying3 h4
  have k0:Tryz.prog.cellsOf 3=1:=by kernel_rfl
  have k1:Tryz.prog.cellsOf 4=1:=by kernel_rfl
  have q0:Tryz.prog.cellsOf 23=2:=by kernel_rfl
  simp [Value.cells,k0,k1,q0]at e0 e1 e2 e3
  subst e0 e1 e2 e3
  exact⟨a0,a1,a2,a3,rfl,bounds_i64 w0,bounds_i64 w1,bounds_i64 w3,trivial⟩
end
end Go.Proofs.YthpipedifekmpaaGreatDoor
