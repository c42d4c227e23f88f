import Derived.Test.YtljbnicolhhicaaGreatDoorZGS
set_option maxHeartbeats 8000000
set_option maxRecDepth 100000
set_option linter.unusedSimpArgs false
set_option linter.unusedVariables false
namespace Go.Proofs
open Go Go.Sq Go.Proofs.YtljbnicolhhicaaGreatDoor.Sat
noncomputable def Tryo.prog:Program:=sw Tryz.prog FO
@[simp] theorem Tryo.toTables:Tryo.prog.toTables=Tryz.prog.toTables:=Mx _ _
@[simp] theorem Tryo.typeInfo(t:TypeId)(w:World):(Go.typeInfo t).run Tryo.prog w=(Go.typeInfo t).run Tryz.prog w:=sI _ _ t w
@[simp] theorem Tryo.sizeOf(t:TypeId)(w:World):(Go.sizeOf t).run Tryo.prog w=(Go.sizeOf t).run Tryz.prog w:=Rh _ _ t w
@[simp] theorem Tryo.runUnderlying(t:TypeId)(w:World):(Go.underlying t).run Tryo.prog w=(Go.underlying t).run Tryz.prog w:=sN _ _ t w
@[simp] theorem Tryo.isAgg(t:TypeId)(w:World):(Go.isAgg t).run Tryo.prog w=(Go.isAgg t).run Tryz.prog w:=Vb _ _ t w
@[simp] theorem Tryo.zeroValue(t:TypeId)(w:World):(Go.zeroValue t).run Tryo.prog w=(Go.zeroValue t).run Tryz.prog w:=Fy _ _ t w
@[simp] theorem Tryo.underlying(t:TypeId):Tryo.prog.underlying t=Tryz.prog.underlying t:=Ea _ _ t
@[simp] theorem Tryo.depth:Tryo.prog.depth=Tryz.prog.depth:=iZ
@[simp] theorem Tryo.eqGuardType(n:Nat)(t:TypeId):Tryo.prog.eqGuardType n t=Tryz.prog.eqGuardType n t:=nS n t
@[simp] theorem Tryo.stoodInHeld(t:TypeId):Tryo.prog.stoodInHeld t=Tryz.prog.stoodInHeld t:=jw t
theorem aB{t:TypeId}{d:Option TypeDesc}(h:Tryz.prog.underlying t=d):Tryo.prog.underlying t=d:=(Tryo.underlying t).trans h
theorem au{α:Type}{s:Sem α}{r:World->Result α}(e:∀w,s.run Tryo.prog w=s.run Tryz.prog w)(h:∀w,s.run Tryz.prog w=r w)(w:World):s.run Tryo.prog w=r w:=(e w).trans (h w)
theorem eqg_o{t:TypeId}{b:Bool}(h:Tryz.prog.eqGuardType Tryz.prog.depth t=b):Tryo.prog.eqGuardType Tryo.prog.depth t=b:=by
 rw [Tryo.depth,Tryo.eqGuardType];exact h
theorem sih_o{t:TypeId}{b:Bool}(h:Tryz.prog.stoodInHeld t=b):Tryo.prog.stoodInHeld t=b:=by
 rw [Tryo.stoodInHeld];exact h
theorem aJ{i:Nat}{f:Func}(h:Tryz.prog.funcs[i]? =some f)(hi:i≠160):Tryo.prog.funcs[i]? =some f:=((PK Tryz.prog FO i).trans (CZ hi)).trans h
theorem aA{n:Nat}{fn:Func}{c:Code}(hf:Tryo.prog.funcs[n]? =some fn)(hb:fn.body=some c)(hn:(fn.name== "runtime.NumGoroutine")=false)(args:Array Value)(w:World):(callFunc n args).run Tryo.prog w= .ok (.enter n args) w:=abP _ hf hb hn args w
abbrev ay(n:Nat):Prop:=∀ (args:Array Value) (w:World),(callFunc n args).run Tryo.prog w= .ok (.enter n args) w
abbrev aI(n:Nat)(f:Func):Prop:=Tryo.prog.funcs[n]? =some f
theorem vF{i:Nat}{f:Func}(h:Tryz.prog.funcs[i]? =some f)(hi:i≠160:=by decide):Tryo.prog.funcs[i]? =some f:=aJ h hi
@[simp] theorem Tryo.funcs(i:Nat)(hi:i≠160):Tryo.prog.funcs[i]? =Tryz.prog.funcs[i]? :=(PK Tryz.prog FO i).trans (CZ hi)
theorem Tryo.cs:((List.range 202).all fun n=>n==0||n==1||n==152||n==165||n==166||n==170||n==177||n==193||n==160||match Tryz.prog.funcs[n]? with|some f=>f.body.isSome&&(f.name== "runtime.NumGoroutine")==false|none=>false)=true:=by kernel_rfl
@[simp] theorem Tryo.calls(n:Nat)(hn:n<202)(h0:n≠0)(h1:n≠1)(h152:n≠152)(h165:n≠165)(h166:n≠166)(h170:n≠170)(h177:n≠177)(h193:n≠193)(h160:n≠160)(args:Array Value)(w:World):(callFunc n args).run Tryo.prog w= .ok (.enter n args) w:=by
 have h:=List.all_eq_true.1 Tryo.cs n (List.mem_range.2 hn)
 cases e:Tryz.prog.funcs[n]? with
 |none=>simp [e, *]at h
 |some f=>
  simp [e, *]at h
  obtain⟨h1,h2⟩:=h
  obtain⟨c,hc⟩:=Option.isSome_iff_exists.1 h1
  exact aA (vF e (by assumption)) hc (by simpa using h2) args w
@[simp] theorem Tryo.func160:aI 160 Ow:=(PK Tryz.prog FO 160).trans JH
@[simp] theorem Tryo.call160:ay 160:=aA Tryo.func160 rfl (by rfl)
@[simp] theorem Tryo.call221:ay 221:=aA (vF Tryz.func221) rfl (by rfl)
@[simp] theorem Tryo.call222:ay 222:=aA (vF Tryz.func222) rfl (by rfl)
@[simp] theorem Tryo.call223:ay 223:=aA (vF Tryz.func223) rfl (by rfl)
@[simp] theorem Tryo.call224:ay 224:=aA (vF Tryz.func224) rfl (by rfl)
@[simp] theorem Tryo.call225:ay 225:=aA (vF Tryz.func225) rfl (by rfl)
@[simp] theorem Tryo.call226:ay 226:=aA (vF Tryz.func226) rfl (by rfl)
@[simp] theorem Tryo.call232:ay 232:=aA (vF Tryz.func232) rfl (by rfl)
@[simp] theorem Tryo.call233:ay 233:=aA (vF Tryz.func233) rfl (by rfl)
@[simp] theorem Tryo.call234:ay 234:=aA (vF Tryz.func234) rfl (by rfl)
@[simp] theorem Tryo.call235:ay 235:=aA (vF Tryz.func235) rfl (by rfl)
@[simp] theorem Tryo.call236:ay 236:=aA (vF Tryz.func236) rfl (by rfl)
@[simp] theorem Tryo.call237:ay 237:=aA (vF Tryz.func237) rfl (by rfl)
@[simp] theorem Tryo.call238:ay 238:=aA (vF Tryz.func238) rfl (by rfl)
@[simp] theorem Tryo.call239:ay 239:=aA (vF Tryz.func239) rfl (by rfl)
@[simp] theorem Tryo.call240:ay 240:=aA (vF Tryz.func240) rfl (by rfl)
@[simp] theorem Tryo.call241:ay 241:=aA (vF Tryz.func241) rfl (by rfl)
@[simp] theorem Tryo.call242:ay 242:=aA (vF Tryz.func242) rfl (by rfl)
@[simp] theorem Tryo.call243:ay 243:=aA (vF Tryz.func243) rfl (by rfl)
@[simp] theorem Tryo.call244:ay 244:=aA (vF Tryz.func244) rfl (by rfl)
@[simp] theorem Tryo.call245:ay 245:=aA (vF Tryz.func245) rfl (by rfl)
@[simp] theorem Tryo.call246:ay 246:=aA (vF Tryz.func246) rfl (by rfl)
@[simp] theorem Tryo.call247:ay 247:=aA (vF Tryz.func247) rfl (by rfl)
abbrev vB(f:Nat)(a:Array Value)(w:World)(v:Value):Prop:=Calls Tryo.prog f a w fun e w'=>e= .returned v/\Go.RowKit.Below w.1.size w w'
abbrev vC(f:Nat)(a:Array Value)(w:World)(v:Value):Prop:=Calls Tryo.prog f a w fun e w'=>e= .returned v/\w=w'
theorem vW{P:Program}{f:Nat}{a:Array Value}{W:World}{v:Value}{R:Ending->World->Prop}(h:Calls P f a W fun e w'=>e= .returned v/\W=w')(k:R (.returned v) W):Calls P f a W R:=h.mono (by rintro e w1 ⟨rfl,rfl⟩;exact k)
end Go.Proofs
