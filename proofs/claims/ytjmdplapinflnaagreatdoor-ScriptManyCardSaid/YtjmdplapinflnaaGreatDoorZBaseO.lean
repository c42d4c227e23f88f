import Derived.Test.YtjmdplapinflnaaGreatDoorZBB
set_option maxHeartbeats 8000000
set_option maxRecDepth 100000
set_option linter.unusedVariables false
namespace Go.Proofs.YtjmdplapinflnaaGreatDoor
open Go.ChangeShapes Go.WideShapes Go.ChangeAt Go.RowKit Go.Joins
section
variable {H:Type} {enc:TypeId×Value->H} {W:World} {base b0:Nat} {spare:Nat->Bool} {held:Bool} {r:Reach} {v:Value} {d:DataW H} {p:List MemPlace}
theorem open_Op(hv:Value.okWide Tryz.prog W r base 42 v)(h:DataW.Trod enc Tryz.prog W b0 spare held 42 v d p):
  ∃ (a0:Int) (a1:Int) (a2:Int) (a3:Int) (a4:Bool) (a5:Int) (a6:Int) (a7:Int) (a8:Int) (a9:ByteArray),v= .agg #[a0,a1,a2,a3,a4,a5,a6,a7,a8,a9]/\I64 a0/\I64 a1/\I64 a2/\I64 a3/\I64 a5/\I64 a6/\I64 a7/\I64 a8/\a9.size<=maxLen/\True:=by
 obtain⟨cs,rfl,hsz⟩:=okWide_struct Tryz.underlying42 hv
 obtain⟨l⟩:=cs
 match l,hsz.trans (show Tryz.prog.cellsOf 42=10 by kernel_rfl)with
 | [c0,c1,c2,c3,c4,c5,c6,c7,c8,c9],_=>
  obtain⟨fuel,hf⟩:=h
  obtain⟨m0,y0,h0⟩:=ace Tryz.underlying42 hf 0 _ rfl
  obtain⟨m1,y1,h1⟩:=ace Tryz.underlying42 hf 1 _ rfl
  obtain⟨m2,y2,h2⟩:=ace Tryz.underlying42 hf 2 _ rfl
  obtain⟨m3,y3,h3⟩:=ace Tryz.underlying42 hf 3 _ rfl
  obtain⟨m4,y4,h4⟩:=ace Tryz.underlying42 hf 4 _ rfl
  obtain⟨m5,y5,h5⟩:=ace Tryz.underlying42 hf 5 _ rfl
  obtain⟨m6,y6,h6⟩:=ace Tryz.underlying37 h5 0 _ rfl
  obtain⟨m7,y7,h7⟩:=ace Tryz.underlying37 h5 1 _ rfl
  obtain⟨m8,y8,h8⟩:=ace Tryz.underlying37 h5 2 _ rfl
  obtain⟨m9,y9,h9⟩:=ace Tryz.underlying37 h5 3 _ rfl
  obtain⟨m10,y10,h10⟩:=ace Tryz.underlying42 hf 6 _ rfl
  obtain⟨a0,e0,_,w0⟩:=DataW.trod_int Tryz.underlying3 h0
  obtain⟨a1,e1,_,w1⟩:=DataW.trod_int Tryz.underlying3 h1
  obtain⟨a2,e2,_,w2⟩:=DataW.trod_int Tryz.underlying3 h2
  obtain⟨a3,e3,_,w3⟩:=DataW.trod_int Tryz.underlying3 h3
  obtain⟨a4,e4,_⟩:=DataW.trod_bool Tryz.underlying4 h4
  obtain⟨a5,e5,_,w5⟩:=DataW.trod_int Tryz.underlying3 h6
  obtain⟨a6,e6,_,w6⟩:=DataW.trod_int Tryz.underlying3 h7
  obtain⟨a7,e7,_,w7⟩:=DataW.trod_int Tryz.underlying3 h8
  obtain⟨a8,e8,_,w8⟩:=DataW.trod_int Tryz.underlying3 h9
  obtain⟨a9,e9,_,w9⟩:=DataW.trod_string Tryz.underlying9 h10
  have k0:Tryz.prog.cellsOf 3=1:=vK
  have k1:Tryz.prog.cellsOf 4=1:=vK
  have k2:Tryz.prog.cellsOf 9=1:=vK
  have q0:Tryz.prog.cellsOf 37=4:=vK
  simp [Value.cells,k0,k1,k2,q0]at e0 e1 e2 e3 e4 e5 e6 e7 e8 e9
  subst e0 e1 e2 e3 e4 e5 e6 e7 e8 e9
  exact⟨a0,a1,a2,a3,a4,a5,a6,a7,a8,a9,rfl,bounds_i64 w0,bounds_i64 w1,bounds_i64 w2,bounds_i64 w3,bounds_i64 w5,bounds_i64 w6,bounds_i64 w7,bounds_i64 w8,w9,trivial⟩
end
end Go.Proofs.YtjmdplapinflnaaGreatDoor
