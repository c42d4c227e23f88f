import Derived.Test.YtljbnicolhhicaaGreatDoorZQe
set_option maxHeartbeats 8000000
set_option maxRecDepth 100000
set_option linter.unusedVariables false
namespace Go.Proofs.YtljbnicolhhicaaGreatDoor
open Go.ChangeShapes Go.WideShapes Go.ChangeAt Go.RowKit Go.Joins
def O26.In(o:O26):Prop:=I64 o.k/\I64 o.a/\I64 o.b/\I64 o.p/\I64 o.q/\I64 o.r/\I64 o.s
section
variable {H:Type} {enc:TypeId×Value->H} {W:World} {base b0:Nat} {held:Bool} {r:Reach}
theorem ac3{fuel:Nat}{a:Addr}{x:DataW H×List MemPlace}(h:(W.cells? b0 a 10).bind (DataW.trod enc Tryz.prog W b0 (fun _=>true) held fuel 42)=some x):
  ∃o:O26,o.In/\∀t u,o.c2[t]? =some u->W.cell? (a.add t)=some u:=by
 obtain⟨cs,hcs,hf⟩:=Option.bind_eq_some_iff.1 h
 obtain⟨_,hl,hcell⟩:=World.cells?_some hcs
 match cs,hl with
 | [c0,c1,c2,c3,c4,c5,c6,c7,c8,c9],_=>
  obtain⟨m0,y0,h0⟩:=ace Tryz.underlying42 hf 0 _ rfl
  obtain⟨m1,y1,h1⟩:=ace Tryz.underlying42 hf 1 _ rfl
  obtain⟨m2,y2,h2⟩:=ace Tryz.underlying42 hf 2 _ rfl
  obtain⟨m3,y3,h3⟩:=ace Tryz.underlying42 hf 3 _ rfl
  obtain⟨m4,y4,h4⟩:=ace Tryz.underlying42 hf 4 _ rfl
  obtain⟨m5,y5,h5⟩:=ace Tryz.underlying42 hf 5 _ rfl
  obtain⟨m6,y6,h6⟩:=ace Tryz.underlying37 h5 0 _ rfl
  obtain⟨m7,y7,h7⟩:=ace Tryz.underlying37 h5 1 _ rfl
  obtain⟨m8,y8,h8⟩:=ace Tryz.underlying37 h5 2 _ rfl
  obtain⟨m9,y9,h9⟩:=ace Tryz.underlying37 h5 3 _ rfl
  obtain⟨m10,y10,h10⟩:=ace Tryz.underlying42 hf 6 _ rfl
  obtain⟨a0,e0,_,w0⟩:=DataW.trod_int Tryz.underlying3 h0
  obtain⟨a1,e1,_,w1⟩:=DataW.trod_int Tryz.underlying3 h1
  obtain⟨a2,e2,_,w2⟩:=DataW.trod_int Tryz.underlying3 h2
  obtain⟨a3,e3,_,w3⟩:=DataW.trod_int Tryz.underlying3 h3
  obtain⟨a4,e4,_⟩:=DataW.trod_bool Tryz.underlying4 h4
  obtain⟨a5,e5,_,w5⟩:=DataW.trod_int Tryz.underlying3 h6
  obtain⟨a6,e6,_,w6⟩:=DataW.trod_int Tryz.underlying3 h7
  obtain⟨a7,e7,_,w7⟩:=DataW.trod_int Tryz.underlying3 h8
  obtain⟨a8,e8,_,w8⟩:=DataW.trod_int Tryz.underlying3 h9
  obtain⟨a9,e9,_⟩:=DataW.trod_string Tryz.underlying9 h10
  have k0:Tryz.prog.cellsOf 3=1:=vK
  have k1:Tryz.prog.cellsOf 4=1:=vK
  have k2:Tryz.prog.cellsOf 9=1:=vK
  have q0:Tryz.prog.cellsOf 37=4:=vK
  simp [k0,k1,k2,q0]at e0 e1 e2 e3 e4 e5 e6 e7 e8 e9
  subst e0 e1 e2 e3 e4 e5 e6 e7 e8 e9
  refine⟨⟨a0,a1,a2,a3,a4,a5,a6,a7,a8,a9⟩,⟨bounds_i64 w0,bounds_i64 w1,bounds_i64 w2,bounds_i64 w5,bounds_i64 w6,bounds_i64 w7,bounds_i64 w8⟩,fun t u ht=> ?_⟩
  have hlt:t<10:=(Array.getElem?_eq_some_iff.1 ht).1
  rw [hcell t hlt,←ht]
  simp [O26.c2]
theorem op_row{fuel:Nat}{c:Value}{x:DataW H×List MemPlace}(hw:Cell.okWide Tryz.prog W r base 22 c)(h:DataW.trod enc Tryz.prog W b0 (fun _=>true) held fuel 22 [c]=some x):
  c= .slice none 0 0∨∃ (b off len cap:Nat) (l:List O26) (o:Obj),c= .slice (some ⟨b,off,none⟩) len cap/\len<=cap/\cap<=maxLen/\l.length=cap/\Ops W b off l/\(∀o∈l,o.In)/\W.1[b]? =some o:=by
 have kE:Tryz.prog.cellsOf 42=10:=vK
 rcases DataW.trod_slice Tryz.underlying22 h with ⟨hc,_⟩|⟨a,len,cap,elems,rest,n,_,hc,_,_,hlc,hmax,hlen,hel,hsp,_⟩
 ·simp at hc
  exact .inl hc
 ·simp at hc
  subst hc
  right
  have hh:a.spot=none/\∃row cells,W.shape? a.block=some (row,cells):=by
   simp only [Cell.okWide,Cell.ok,Tryz.underlying22]at hw
   obtain⟨_,_,_,h1,row,cells,h2,_⟩:=hw
   exact⟨h1,row,cells,h2⟩
  obtain⟨b,off,sp⟩:=a
  obtain⟨h1,row,cells,h2⟩:=hh
  simp only at h1 h2
  subst h1
  rw [kE]at hel hsp
  obtain⟨hrl,hrest⟩:=hsp rfl
  have key:∀i,∃o:O26,i<cap->o.In/\∀t u,o.c2[t]? =some u->W.cell? ⟨b,off+i*10+t,none⟩=some u:=fun i=>by
   by_cases hi:i<len
   ·have h1:=hel i hi
    rw [List.getElem?_eq_getElem vO]at h1
    obtain⟨o,q1,q2⟩:=ac3 h1
    refine⟨o,fun _=>⟨q1,fun t u ht=> ?_⟩⟩
    have:=q2 t u ht
    rwa [Addr.add_lit,Addr.add_lit]at this
   ·by_cases hc:i<cap
    ·have h1:=hrest (i-len) vO
     rw [List.getElem?_eq_getElem vO,show len+(i-len)=i by omega]at h1
     obtain⟨o,q1,q2⟩:=ac3 h1
     refine⟨o,fun _=>⟨q1,fun t u ht=> ?_⟩⟩
     have:=q2 t u ht
     rwa [Addr.add_lit,Addr.add_lit]at this
    ·exact⟨⟨0,0,0,0,false,0,0,0,0,⟨#[]⟩⟩,fun g=>absurd g hc⟩
  let f:Nat->O26:=fun i=>(key i).choose
  have hf:∀i,i<cap->(f i).In/\∀t u,(f i).c2[t]? =some u->W.cell? ⟨b,off+i*10+t,none⟩=some u:=fun i=>(key i).choose_spec
  have ho:∃o,W.1[b]? =some o:=by
   unfold World.shape? at h2
   cases e:W.1[b]? with
   |none=>rw [e]at h2;cases h2
   |some o=>exact⟨o,rfl⟩
  obtain⟨o,ho⟩:=ho
  refine⟨b,off,len,cap,(List.range cap).map f,o,rfl,hlc,hmax,vS,fun j o t u hj ht=> ?_,fun o hm=> ?_,ho⟩
  ·rw [List.getElem?_map]at hj
   by_cases hi:j<cap
   ·rw [List.getElem?_range hi]at hj
    simp only [Option.map_some,Option.some.injEq]at hj
    subst hj
    exact(hf j hi).2 t u ht
   ·rw [List.getElem?_eq_none vQ]at hj
    simp at hj
  ·obtain⟨i,hi,rfl⟩:=List.mem_map.1 hm
   exact(hf i (List.mem_range.1 hi)).1
end
end Go.Proofs.YtljbnicolhhicaaGreatDoor
