/- The program with saturdays told in one goroutine, under its own alias: the facts that walks ask of it. -/
import Derived.Test.YtaaaalbgjpjgoaaGreatDoorVGS
import Derived.Test.YtaaaalbgjpjgoaaGreatDoorVGB
set_option linter.unusedVariables false
set_option linter.unusedSimpArgs false
set_option maxRecDepth 100000
namespace Go.Proofs
open Go Go.Sq Go.Proofs.YtaaaalbgjpjgoaaGreatDoor.Sat
noncomputable def Tryo.prog : Program := sw Tryz.prog FO
@[simp] theorem Tryo.toTables : Tryo.prog.toTables = Tryz.prog.toTables := tables_sw _ _
@[simp] theorem Tryo.typeInfo (t : TypeId) (w : World) : (Go.typeInfo t).run Tryo.prog w = (Go.typeInfo t).run Tryz.prog w := o_typeInfo _ _ t w
@[simp] theorem Tryo.sizeOf (t : TypeId) (w : World) : (Go.sizeOf t).run Tryo.prog w = (Go.sizeOf t).run Tryz.prog w := o_sizeOf _ _ t w
@[simp] theorem Tryo.runUnderlying (t : TypeId) (w : World) : (Go.underlying t).run Tryo.prog w = (Go.underlying t).run Tryz.prog w := o_underlying _ _ t w
@[simp] theorem Tryo.isAgg (t : TypeId) (w : World) : (Go.isAgg t).run Tryo.prog w = (Go.isAgg t).run Tryz.prog w := o_isAgg _ _ t w
@[simp] theorem Tryo.zeroValue (t : TypeId) (w : World) : (Go.zeroValue t).run Tryo.prog w = (Go.zeroValue t).run Tryz.prog w := o_zeroValue _ _ t w
@[simp] theorem Tryo.underlying (t : TypeId) : Tryo.prog.underlying t = Tryz.prog.underlying t := under_sw' _ _ t
@[simp] theorem Tryo.depth : Tryo.prog.depth = Tryz.prog.depth := depth_sw
@[simp] theorem Tryo.eqGuardType (n : Nat) (t : TypeId) : Tryo.prog.eqGuardType n t = Tryz.prog.eqGuardType n t := eqGuardType_sw n t
@[simp] theorem Tryo.stoodInHeld (t : TypeId) : Tryo.prog.stoodInHeld t = Tryz.prog.stoodInHeld t := stoodInHeld_sw t
theorem und_o {t : TypeId} {d : Option TypeDesc} (h : Tryz.prog.underlying t = d) : Tryo.prog.underlying t = d := (Tryo.underlying t).trans h
theorem run_o {α : Type} {s : Sem α} {r : World → Result α} (e : ∀ w, s.run Tryo.prog w = s.run Tryz.prog w) (h : ∀ w, s.run Tryz.prog w = r w) (w : World) : s.run Tryo.prog w = r w := (e w).trans (h w)
theorem eqg_o {t : TypeId} {b : Bool} (h : Tryz.prog.eqGuardType Tryz.prog.depth t = b) : Tryo.prog.eqGuardType Tryo.prog.depth t = b := by
  rw [Tryo.depth, Tryo.eqGuardType]; exact h
theorem sih_o {t : TypeId} {b : Bool} (h : Tryz.prog.stoodInHeld t = b) : Tryo.prog.stoodInHeld t = b := by
  rw [Tryo.stoodInHeld]; exact h
theorem fn_o {i : Nat} {f : Func} (h : Tryz.prog.funcs[i]? = some f) (hi : i ≠ 119) : Tryo.prog.funcs[i]? = some f := ((funcs_sw Tryz.prog FO i).trans (FO_ne hi)).trans h
theorem call_o {n : Nat} {fn : Func} {c : Code} (hf : Tryo.prog.funcs[n]? = some fn) (hb : fn.body = some c) (hn : (fn.name == "runtime.NumGoroutine") = false) (args : Array Value) (w : World) : (callFunc n args).run Tryo.prog w = .ok (.enter n args) w := o_call _ hf hb hn args w
@[simp] theorem Tryo.func4 : Tryo.prog.funcs[4]? = some Tryz.f4 := fn_o Tryz.func4 (by decide)
@[simp] theorem Tryo.func14 : Tryo.prog.funcs[14]? = some Tryz.f14 := fn_o Tryz.func14 (by decide)
@[simp] theorem Tryo.func16 : Tryo.prog.funcs[16]? = some Tryz.f16 := fn_o Tryz.func16 (by decide)
@[simp] theorem Tryo.func18 : Tryo.prog.funcs[18]? = some Tryz.f18 := fn_o Tryz.func18 (by decide)
@[simp] theorem Tryo.func20 : Tryo.prog.funcs[20]? = some Tryz.f20 := fn_o Tryz.func20 (by decide)
@[simp] theorem Tryo.func22 : Tryo.prog.funcs[22]? = some Tryz.f22 := fn_o Tryz.func22 (by decide)
@[simp] theorem Tryo.func24 : Tryo.prog.funcs[24]? = some Tryz.f24 := fn_o Tryz.func24 (by decide)
@[simp] theorem Tryo.func25 : Tryo.prog.funcs[25]? = some Tryz.f25 := fn_o Tryz.func25 (by decide)
@[simp] theorem Tryo.func27 : Tryo.prog.funcs[27]? = some Tryz.f27 := fn_o Tryz.func27 (by decide)
@[simp] theorem Tryo.func28 : Tryo.prog.funcs[28]? = some Tryz.f28 := fn_o Tryz.func28 (by decide)
@[simp] theorem Tryo.func30 : Tryo.prog.funcs[30]? = some Tryz.f30 := fn_o Tryz.func30 (by decide)
@[simp] theorem Tryo.func31 : Tryo.prog.funcs[31]? = some Tryz.f31 := fn_o Tryz.func31 (by decide)
@[simp] theorem Tryo.func32 : Tryo.prog.funcs[32]? = some Tryz.f32 := fn_o Tryz.func32 (by decide)
@[simp] theorem Tryo.func33 : Tryo.prog.funcs[33]? = some Tryz.f33 := fn_o Tryz.func33 (by decide)
@[simp] theorem Tryo.func35 : Tryo.prog.funcs[35]? = some Tryz.f35 := fn_o Tryz.func35 (by decide)
@[simp] theorem Tryo.func36 : Tryo.prog.funcs[36]? = some Tryz.f36 := fn_o Tryz.func36 (by decide)
@[simp] theorem Tryo.func38 : Tryo.prog.funcs[38]? = some Tryz.f38 := fn_o Tryz.func38 (by decide)
@[simp] theorem Tryo.func40 : Tryo.prog.funcs[40]? = some Tryz.f40 := fn_o Tryz.func40 (by decide)
@[simp] theorem Tryo.func54 : Tryo.prog.funcs[54]? = some Tryz.f54 := fn_o Tryz.func54 (by decide)
@[simp] theorem Tryo.func55 : Tryo.prog.funcs[55]? = some Tryz.f55 := fn_o Tryz.func55 (by decide)
@[simp] theorem Tryo.func59 : Tryo.prog.funcs[59]? = some Tryz.f59 := fn_o Tryz.func59 (by decide)
@[simp] theorem Tryo.func61 : Tryo.prog.funcs[61]? = some Tryz.f61 := fn_o Tryz.func61 (by decide)
@[simp] theorem Tryo.func62 : Tryo.prog.funcs[62]? = some Tryz.f62 := fn_o Tryz.func62 (by decide)
@[simp] theorem Tryo.func63 : Tryo.prog.funcs[63]? = some Tryz.f63 := fn_o Tryz.func63 (by decide)
@[simp] theorem Tryo.func64 : Tryo.prog.funcs[64]? = some Tryz.f64 := fn_o Tryz.func64 (by decide)
@[simp] theorem Tryo.func65 : Tryo.prog.funcs[65]? = some Tryz.f65 := fn_o Tryz.func65 (by decide)
@[simp] theorem Tryo.func66 : Tryo.prog.funcs[66]? = some Tryz.f66 := fn_o Tryz.func66 (by decide)
@[simp] theorem Tryo.func67 : Tryo.prog.funcs[67]? = some Tryz.f67 := fn_o Tryz.func67 (by decide)
@[simp] theorem Tryo.func68 : Tryo.prog.funcs[68]? = some Tryz.f68 := fn_o Tryz.func68 (by decide)
@[simp] theorem Tryo.func69 : Tryo.prog.funcs[69]? = some Tryz.f69 := fn_o Tryz.func69 (by decide)
@[simp] theorem Tryo.func70 : Tryo.prog.funcs[70]? = some Tryz.f70 := fn_o Tryz.func70 (by decide)
@[simp] theorem Tryo.func71 : Tryo.prog.funcs[71]? = some Tryz.f71 := fn_o Tryz.func71 (by decide)
@[simp] theorem Tryo.func72 : Tryo.prog.funcs[72]? = some Tryz.f72 := fn_o Tryz.func72 (by decide)
@[simp] theorem Tryo.func73 : Tryo.prog.funcs[73]? = some Tryz.f73 := fn_o Tryz.func73 (by decide)
@[simp] theorem Tryo.func74 : Tryo.prog.funcs[74]? = some Tryz.f74 := fn_o Tryz.func74 (by decide)
@[simp] theorem Tryo.func75 : Tryo.prog.funcs[75]? = some Tryz.f75 := fn_o Tryz.func75 (by decide)
@[simp] theorem Tryo.func76 : Tryo.prog.funcs[76]? = some Tryz.f76 := fn_o Tryz.func76 (by decide)
@[simp] theorem Tryo.func77 : Tryo.prog.funcs[77]? = some Tryz.f77 := fn_o Tryz.func77 (by decide)
@[simp] theorem Tryo.func78 : Tryo.prog.funcs[78]? = some Tryz.f78 := fn_o Tryz.func78 (by decide)
@[simp] theorem Tryo.func79 : Tryo.prog.funcs[79]? = some Tryz.f79 := fn_o Tryz.func79 (by decide)
@[simp] theorem Tryo.func80 : Tryo.prog.funcs[80]? = some Tryz.f80 := fn_o Tryz.func80 (by decide)
@[simp] theorem Tryo.func81 : Tryo.prog.funcs[81]? = some Tryz.f81 := fn_o Tryz.func81 (by decide)
@[simp] theorem Tryo.func82 : Tryo.prog.funcs[82]? = some Tryz.f82 := fn_o Tryz.func82 (by decide)
@[simp] theorem Tryo.func85 : Tryo.prog.funcs[85]? = some Tryz.f85 := fn_o Tryz.func85 (by decide)
@[simp] theorem Tryo.func118 : Tryo.prog.funcs[118]? = some Tryz.f118 := fn_o Tryz.func118 (by decide)
@[simp] theorem Tryo.func119 : Tryo.prog.funcs[119]? = some satO := (funcs_sw Tryz.prog FO 119).trans FO_sat
@[simp] theorem Tryo.func120 : Tryo.prog.funcs[120]? = some Tryz.f120 := fn_o Tryz.func120 (by decide)
@[simp] theorem Tryo.func121 : Tryo.prog.funcs[121]? = some Tryz.f121 := fn_o Tryz.func121 (by decide)
@[simp] theorem Tryo.func122 : Tryo.prog.funcs[122]? = some Tryz.f122 := fn_o Tryz.func122 (by decide)
@[simp] theorem Tryo.func123 : Tryo.prog.funcs[123]? = some Tryz.f123 := fn_o Tryz.func123 (by decide)
@[simp] theorem Tryo.func124 : Tryo.prog.funcs[124]? = some Tryz.f124 := fn_o Tryz.func124 (by decide)
@[simp] theorem Tryo.func125 : Tryo.prog.funcs[125]? = some Tryz.f125 := fn_o Tryz.func125 (by decide)
@[simp] theorem Tryo.func128 : Tryo.prog.funcs[128]? = some Tryz.f128 := fn_o Tryz.func128 (by decide)
@[simp] theorem Tryo.func129 : Tryo.prog.funcs[129]? = some Tryz.f129 := fn_o Tryz.func129 (by decide)
@[simp] theorem Tryo.func131 : Tryo.prog.funcs[131]? = some Tryz.f131 := fn_o Tryz.func131 (by decide)
@[simp] theorem Tryo.func132 : Tryo.prog.funcs[132]? = some Tryz.f132 := fn_o Tryz.func132 (by decide)
@[simp] theorem Tryo.func133 : Tryo.prog.funcs[133]? = some Tryz.f133 := fn_o Tryz.func133 (by decide)
@[simp] theorem Tryo.func134 : Tryo.prog.funcs[134]? = some Tryz.f134 := fn_o Tryz.func134 (by decide)
@[simp] theorem Tryo.func135 : Tryo.prog.funcs[135]? = some Tryz.f135 := fn_o Tryz.func135 (by decide)
@[simp] theorem Tryo.func136 : Tryo.prog.funcs[136]? = some Tryz.f136 := fn_o Tryz.func136 (by decide)
@[simp] theorem Tryo.func137 : Tryo.prog.funcs[137]? = some Tryz.f137 := fn_o Tryz.func137 (by decide)
@[simp] theorem Tryo.func138 : Tryo.prog.funcs[138]? = some Tryz.f138 := fn_o Tryz.func138 (by decide)
@[simp] theorem Tryo.func139 : Tryo.prog.funcs[139]? = some Tryz.f139 := fn_o Tryz.func139 (by decide)
@[simp] theorem Tryo.func140 : Tryo.prog.funcs[140]? = some Tryz.f140 := fn_o Tryz.func140 (by decide)
@[simp] theorem Tryo.func141 : Tryo.prog.funcs[141]? = some Tryz.f141 := fn_o Tryz.func141 (by decide)
@[simp] theorem Tryo.func142 : Tryo.prog.funcs[142]? = some Tryz.f142 := fn_o Tryz.func142 (by decide)
@[simp] theorem Tryo.func143 : Tryo.prog.funcs[143]? = some Tryz.f143 := fn_o Tryz.func143 (by decide)
@[simp] theorem Tryo.func144 : Tryo.prog.funcs[144]? = some Tryz.f144 := fn_o Tryz.func144 (by decide)
@[simp] theorem Tryo.func145 : Tryo.prog.funcs[145]? = some Tryz.f145 := fn_o Tryz.func145 (by decide)
@[simp] theorem Tryo.func146 : Tryo.prog.funcs[146]? = some Tryz.f146 := fn_o Tryz.func146 (by decide)
@[simp] theorem Tryo.func149 : Tryo.prog.funcs[149]? = some Tryz.f149 := fn_o Tryz.func149 (by decide)
@[simp] theorem Tryo.func150 : Tryo.prog.funcs[150]? = some Tryz.f150 := fn_o Tryz.func150 (by decide)
@[simp] theorem Tryo.func152 : Tryo.prog.funcs[152]? = some Tryz.f152 := fn_o Tryz.func152 (by decide)
@[simp] theorem Tryo.func176 : Tryo.prog.funcs[176]? = some Tryz.f176 := fn_o Tryz.func176 (by decide)
@[simp] theorem Tryo.func177 : Tryo.prog.funcs[177]? = some Tryz.f177 := fn_o Tryz.func177 (by decide)
@[simp] theorem Tryo.func178 : Tryo.prog.funcs[178]? = some Tryz.f178 := fn_o Tryz.func178 (by decide)
@[simp] theorem Tryo.func179 : Tryo.prog.funcs[179]? = some Tryz.f179 := fn_o Tryz.func179 (by decide)
@[simp] theorem Tryo.func180 : Tryo.prog.funcs[180]? = some Tryz.f180 := fn_o Tryz.func180 (by decide)
@[simp] theorem Tryo.func181 : Tryo.prog.funcs[181]? = some Tryz.f181 := fn_o Tryz.func181 (by decide)
@[simp] theorem Tryo.func183 : Tryo.prog.funcs[183]? = some Tryz.f183 := fn_o Tryz.func183 (by decide)
@[simp] theorem Tryo.func186 : Tryo.prog.funcs[186]? = some Tryz.f186 := fn_o Tryz.func186 (by decide)
@[simp] theorem Tryo.func187 : Tryo.prog.funcs[187]? = some Tryz.f187 := fn_o Tryz.func187 (by decide)
@[simp] theorem Tryo.func188 : Tryo.prog.funcs[188]? = some Tryz.f188 := fn_o Tryz.func188 (by decide)
@[simp] theorem Tryo.func189 : Tryo.prog.funcs[189]? = some Tryz.f189 := fn_o Tryz.func189 (by decide)
@[simp] theorem Tryo.func190 : Tryo.prog.funcs[190]? = some Tryz.f190 := fn_o Tryz.func190 (by decide)
@[simp] theorem Tryo.func191 : Tryo.prog.funcs[191]? = some Tryz.f191 := fn_o Tryz.func191 (by decide)
@[simp] theorem Tryo.func223 : Tryo.prog.funcs[223]? = some Tryz.f223 := fn_o Tryz.func223 (by decide)
@[simp] theorem Tryo.func224 : Tryo.prog.funcs[224]? = some Tryz.f224 := fn_o Tryz.func224 (by decide)
@[simp] theorem Tryo.func225 : Tryo.prog.funcs[225]? = some Tryz.f225 := fn_o Tryz.func225 (by decide)
@[simp] theorem Tryo.func226 : Tryo.prog.funcs[226]? = some Tryz.f226 := fn_o Tryz.func226 (by decide)
@[simp] theorem Tryo.func227 : Tryo.prog.funcs[227]? = some Tryz.f227 := fn_o Tryz.func227 (by decide)
@[simp] theorem Tryo.func229 : Tryo.prog.funcs[229]? = some Tryz.f229 := fn_o Tryz.func229 (by decide)
@[simp] theorem Tryo.func231 : Tryo.prog.funcs[231]? = some Tryz.f231 := fn_o Tryz.func231 (by decide)
@[simp] theorem Tryo.func232 : Tryo.prog.funcs[232]? = some Tryz.f232 := fn_o Tryz.func232 (by decide)
@[simp] theorem Tryo.func233 : Tryo.prog.funcs[233]? = some Tryz.f233 := fn_o Tryz.func233 (by decide)
@[simp] theorem Tryo.func234 : Tryo.prog.funcs[234]? = some Tryz.f234 := fn_o Tryz.func234 (by decide)
@[simp] theorem Tryo.func235 : Tryo.prog.funcs[235]? = some Tryz.f235 := fn_o Tryz.func235 (by decide)
@[simp] theorem Tryo.func236 : Tryo.prog.funcs[236]? = some Tryz.f236 := fn_o Tryz.func236 (by decide)
@[simp] theorem Tryo.func237 : Tryo.prog.funcs[237]? = some Tryz.f237 := fn_o Tryz.func237 (by decide)
@[simp] theorem Tryo.func238 : Tryo.prog.funcs[238]? = some Tryz.f238 := fn_o Tryz.func238 (by decide)
@[simp] theorem Tryo.func257 : Tryo.prog.funcs[257]? = some Tryz.f257 := fn_o Tryz.func257 (by decide)
@[simp] theorem Tryo.func258 : Tryo.prog.funcs[258]? = some Tryz.f258 := fn_o Tryz.func258 (by decide)
@[simp] theorem Tryo.func259 : Tryo.prog.funcs[259]? = some Tryz.f259 := fn_o Tryz.func259 (by decide)
@[simp] theorem Tryo.func260 : Tryo.prog.funcs[260]? = some Tryz.f260 := fn_o Tryz.func260 (by decide)
@[simp] theorem Tryo.func261 : Tryo.prog.funcs[261]? = some Tryz.f261 := fn_o Tryz.func261 (by decide)
@[simp] theorem Tryo.func262 : Tryo.prog.funcs[262]? = some Tryz.f262 := fn_o Tryz.func262 (by decide)
@[simp] theorem Tryo.func263 : Tryo.prog.funcs[263]? = some Tryz.f263 := fn_o Tryz.func263 (by decide)
@[simp] theorem Tryo.func264 : Tryo.prog.funcs[264]? = some Tryz.f264 := fn_o Tryz.func264 (by decide)
@[simp] theorem Tryo.func265 : Tryo.prog.funcs[265]? = some Tryz.f265 := fn_o Tryz.func265 (by decide)
@[simp] theorem Tryo.func266 : Tryo.prog.funcs[266]? = some Tryz.f266 := fn_o Tryz.func266 (by decide)
@[simp] theorem Tryo.func268 : Tryo.prog.funcs[268]? = some Tryz.f268 := fn_o Tryz.func268 (by decide)
@[simp] theorem Tryo.func276 : Tryo.prog.funcs[276]? = some Tryz.f276 := fn_o Tryz.func276 (by decide)
@[simp] theorem Tryo.func277 : Tryo.prog.funcs[277]? = some Tryz.f277 := fn_o Tryz.func277 (by decide)
@[simp] theorem Tryo.func278 : Tryo.prog.funcs[278]? = some Tryz.f278 := fn_o Tryz.func278 (by decide)
@[simp] theorem Tryo.func279 : Tryo.prog.funcs[279]? = some Tryz.f279 := fn_o Tryz.func279 (by decide)
@[simp] theorem Tryo.func280 : Tryo.prog.funcs[280]? = some Tryz.f280 := fn_o Tryz.func280 (by decide)
@[simp] theorem Tryo.func281 : Tryo.prog.funcs[281]? = some Tryz.f281 := fn_o Tryz.func281 (by decide)
@[simp] theorem Tryo.func282 : Tryo.prog.funcs[282]? = some Tryz.f282 := fn_o Tryz.func282 (by decide)
@[simp] theorem Tryo.func285 : Tryo.prog.funcs[285]? = some Tryz.f285 := fn_o Tryz.func285 (by decide)
@[simp] theorem Tryo.func286 : Tryo.prog.funcs[286]? = some Tryz.f286 := fn_o Tryz.func286 (by decide)
@[simp] theorem Tryo.func287 : Tryo.prog.funcs[287]? = some Tryz.f287 := fn_o Tryz.func287 (by decide)
@[simp] theorem Tryo.func288 : Tryo.prog.funcs[288]? = some Tryz.f288 := fn_o Tryz.func288 (by decide)
@[simp] theorem Tryo.func289 : Tryo.prog.funcs[289]? = some Tryz.f289 := fn_o Tryz.func289 (by decide)
@[simp] theorem Tryo.func290 : Tryo.prog.funcs[290]? = some Tryz.f290 := fn_o Tryz.func290 (by decide)
@[simp] theorem Tryo.func291 : Tryo.prog.funcs[291]? = some Tryz.f291 := fn_o Tryz.func291 (by decide)
@[simp] theorem Tryo.func292 : Tryo.prog.funcs[292]? = some Tryz.f292 := fn_o Tryz.func292 (by decide)
@[simp] theorem Tryo.func293 : Tryo.prog.funcs[293]? = some Tryz.f293 := fn_o Tryz.func293 (by decide)
@[simp] theorem Tryo.func294 : Tryo.prog.funcs[294]? = some Tryz.f294 := fn_o Tryz.func294 (by decide)
@[simp] theorem Tryo.func295 : Tryo.prog.funcs[295]? = some Tryz.f295 := fn_o Tryz.func295 (by decide)
@[simp] theorem Tryo.func296 : Tryo.prog.funcs[296]? = some Tryz.f296 := fn_o Tryz.func296 (by decide)
@[simp] theorem Tryo.func297 : Tryo.prog.funcs[297]? = some Tryz.f297 := fn_o Tryz.func297 (by decide)
@[simp] theorem Tryo.func298 : Tryo.prog.funcs[298]? = some Tryz.f298 := fn_o Tryz.func298 (by decide)
@[simp] theorem Tryo.func299 : Tryo.prog.funcs[299]? = some Tryz.f299 := fn_o Tryz.func299 (by decide)
@[simp] theorem Tryo.func300 : Tryo.prog.funcs[300]? = some Tryz.f300 := fn_o Tryz.func300 (by decide)
@[simp] theorem Tryo.call4 (args : Array Value) (w : World) : (callFunc 4 args).run Tryo.prog w = .ok (.enter 4 args) w := call_o Tryo.func4 rfl (by rfl) args w
@[simp] theorem Tryo.call14 (args : Array Value) (w : World) : (callFunc 14 args).run Tryo.prog w = .ok (.enter 14 args) w := call_o Tryo.func14 rfl (by rfl) args w
@[simp] theorem Tryo.call16 (args : Array Value) (w : World) : (callFunc 16 args).run Tryo.prog w = .ok (.enter 16 args) w := call_o Tryo.func16 rfl (by rfl) args w
@[simp] theorem Tryo.call18 (args : Array Value) (w : World) : (callFunc 18 args).run Tryo.prog w = .ok (.enter 18 args) w := call_o Tryo.func18 rfl (by rfl) args w
@[simp] theorem Tryo.call20 (args : Array Value) (w : World) : (callFunc 20 args).run Tryo.prog w = .ok (.enter 20 args) w := call_o Tryo.func20 rfl (by rfl) args w
@[simp] theorem Tryo.call22 (args : Array Value) (w : World) : (callFunc 22 args).run Tryo.prog w = .ok (.enter 22 args) w := call_o Tryo.func22 rfl (by rfl) args w
@[simp] theorem Tryo.call24 (args : Array Value) (w : World) : (callFunc 24 args).run Tryo.prog w = .ok (.enter 24 args) w := call_o Tryo.func24 rfl (by rfl) args w
@[simp] theorem Tryo.call25 (args : Array Value) (w : World) : (callFunc 25 args).run Tryo.prog w = .ok (.enter 25 args) w := call_o Tryo.func25 rfl (by rfl) args w
@[simp] theorem Tryo.call27 (args : Array Value) (w : World) : (callFunc 27 args).run Tryo.prog w = .ok (.enter 27 args) w := call_o Tryo.func27 rfl (by rfl) args w
@[simp] theorem Tryo.call28 (args : Array Value) (w : World) : (callFunc 28 args).run Tryo.prog w = .ok (.enter 28 args) w := call_o Tryo.func28 rfl (by rfl) args w
@[simp] theorem Tryo.call30 (args : Array Value) (w : World) : (callFunc 30 args).run Tryo.prog w = .ok (.enter 30 args) w := call_o Tryo.func30 rfl (by rfl) args w
@[simp] theorem Tryo.call31 (args : Array Value) (w : World) : (callFunc 31 args).run Tryo.prog w = .ok (.enter 31 args) w := call_o Tryo.func31 rfl (by rfl) args w
@[simp] theorem Tryo.call32 (args : Array Value) (w : World) : (callFunc 32 args).run Tryo.prog w = .ok (.enter 32 args) w := call_o Tryo.func32 rfl (by rfl) args w
@[simp] theorem Tryo.call33 (args : Array Value) (w : World) : (callFunc 33 args).run Tryo.prog w = .ok (.enter 33 args) w := call_o Tryo.func33 rfl (by rfl) args w
@[simp] theorem Tryo.call35 (args : Array Value) (w : World) : (callFunc 35 args).run Tryo.prog w = .ok (.enter 35 args) w := call_o Tryo.func35 rfl (by rfl) args w
@[simp] theorem Tryo.call36 (args : Array Value) (w : World) : (callFunc 36 args).run Tryo.prog w = .ok (.enter 36 args) w := call_o Tryo.func36 rfl (by rfl) args w
@[simp] theorem Tryo.call38 (args : Array Value) (w : World) : (callFunc 38 args).run Tryo.prog w = .ok (.enter 38 args) w := call_o Tryo.func38 rfl (by rfl) args w
@[simp] theorem Tryo.call40 (args : Array Value) (w : World) : (callFunc 40 args).run Tryo.prog w = .ok (.enter 40 args) w := call_o Tryo.func40 rfl (by rfl) args w
@[simp] theorem Tryo.call54 (args : Array Value) (w : World) : (callFunc 54 args).run Tryo.prog w = .ok (.enter 54 args) w := call_o Tryo.func54 rfl (by rfl) args w
@[simp] theorem Tryo.call55 (args : Array Value) (w : World) : (callFunc 55 args).run Tryo.prog w = .ok (.enter 55 args) w := call_o Tryo.func55 rfl (by rfl) args w
@[simp] theorem Tryo.call59 (args : Array Value) (w : World) : (callFunc 59 args).run Tryo.prog w = .ok (.enter 59 args) w := call_o Tryo.func59 rfl (by rfl) args w
@[simp] theorem Tryo.call61 (args : Array Value) (w : World) : (callFunc 61 args).run Tryo.prog w = .ok (.enter 61 args) w := call_o Tryo.func61 rfl (by rfl) args w
@[simp] theorem Tryo.call62 (args : Array Value) (w : World) : (callFunc 62 args).run Tryo.prog w = .ok (.enter 62 args) w := call_o Tryo.func62 rfl (by rfl) args w
@[simp] theorem Tryo.call63 (args : Array Value) (w : World) : (callFunc 63 args).run Tryo.prog w = .ok (.enter 63 args) w := call_o Tryo.func63 rfl (by rfl) args w
@[simp] theorem Tryo.call64 (args : Array Value) (w : World) : (callFunc 64 args).run Tryo.prog w = .ok (.enter 64 args) w := call_o Tryo.func64 rfl (by rfl) args w
@[simp] theorem Tryo.call65 (args : Array Value) (w : World) : (callFunc 65 args).run Tryo.prog w = .ok (.enter 65 args) w := call_o Tryo.func65 rfl (by rfl) args w
@[simp] theorem Tryo.call66 (args : Array Value) (w : World) : (callFunc 66 args).run Tryo.prog w = .ok (.enter 66 args) w := call_o Tryo.func66 rfl (by rfl) args w
@[simp] theorem Tryo.call67 (args : Array Value) (w : World) : (callFunc 67 args).run Tryo.prog w = .ok (.enter 67 args) w := call_o Tryo.func67 rfl (by rfl) args w
@[simp] theorem Tryo.call68 (args : Array Value) (w : World) : (callFunc 68 args).run Tryo.prog w = .ok (.enter 68 args) w := call_o Tryo.func68 rfl (by rfl) args w
@[simp] theorem Tryo.call69 (args : Array Value) (w : World) : (callFunc 69 args).run Tryo.prog w = .ok (.enter 69 args) w := call_o Tryo.func69 rfl (by rfl) args w
@[simp] theorem Tryo.call70 (args : Array Value) (w : World) : (callFunc 70 args).run Tryo.prog w = .ok (.enter 70 args) w := call_o Tryo.func70 rfl (by rfl) args w
@[simp] theorem Tryo.call71 (args : Array Value) (w : World) : (callFunc 71 args).run Tryo.prog w = .ok (.enter 71 args) w := call_o Tryo.func71 rfl (by rfl) args w
@[simp] theorem Tryo.call72 (args : Array Value) (w : World) : (callFunc 72 args).run Tryo.prog w = .ok (.enter 72 args) w := call_o Tryo.func72 rfl (by rfl) args w
@[simp] theorem Tryo.call73 (args : Array Value) (w : World) : (callFunc 73 args).run Tryo.prog w = .ok (.enter 73 args) w := call_o Tryo.func73 rfl (by rfl) args w
@[simp] theorem Tryo.call74 (args : Array Value) (w : World) : (callFunc 74 args).run Tryo.prog w = .ok (.enter 74 args) w := call_o Tryo.func74 rfl (by rfl) args w
@[simp] theorem Tryo.call75 (args : Array Value) (w : World) : (callFunc 75 args).run Tryo.prog w = .ok (.enter 75 args) w := call_o Tryo.func75 rfl (by rfl) args w
@[simp] theorem Tryo.call76 (args : Array Value) (w : World) : (callFunc 76 args).run Tryo.prog w = .ok (.enter 76 args) w := call_o Tryo.func76 rfl (by rfl) args w
@[simp] theorem Tryo.call77 (args : Array Value) (w : World) : (callFunc 77 args).run Tryo.prog w = .ok (.enter 77 args) w := call_o Tryo.func77 rfl (by rfl) args w
@[simp] theorem Tryo.call78 (args : Array Value) (w : World) : (callFunc 78 args).run Tryo.prog w = .ok (.enter 78 args) w := call_o Tryo.func78 rfl (by rfl) args w
@[simp] theorem Tryo.call79 (args : Array Value) (w : World) : (callFunc 79 args).run Tryo.prog w = .ok (.enter 79 args) w := call_o Tryo.func79 rfl (by rfl) args w
@[simp] theorem Tryo.call80 (args : Array Value) (w : World) : (callFunc 80 args).run Tryo.prog w = .ok (.enter 80 args) w := call_o Tryo.func80 rfl (by rfl) args w
@[simp] theorem Tryo.call81 (args : Array Value) (w : World) : (callFunc 81 args).run Tryo.prog w = .ok (.enter 81 args) w := call_o Tryo.func81 rfl (by rfl) args w
@[simp] theorem Tryo.call82 (args : Array Value) (w : World) : (callFunc 82 args).run Tryo.prog w = .ok (.enter 82 args) w := call_o Tryo.func82 rfl (by rfl) args w
@[simp] theorem Tryo.call85 (args : Array Value) (w : World) : (callFunc 85 args).run Tryo.prog w = .ok (.enter 85 args) w := call_o Tryo.func85 rfl (by rfl) args w
@[simp] theorem Tryo.call118 (args : Array Value) (w : World) : (callFunc 118 args).run Tryo.prog w = .ok (.enter 118 args) w := call_o Tryo.func118 rfl (by rfl) args w
@[simp] theorem Tryo.call119 (args : Array Value) (w : World) : (callFunc 119 args).run Tryo.prog w = .ok (.enter 119 args) w := call_o Tryo.func119 rfl (by rfl) args w
@[simp] theorem Tryo.call120 (args : Array Value) (w : World) : (callFunc 120 args).run Tryo.prog w = .ok (.enter 120 args) w := call_o Tryo.func120 rfl (by rfl) args w
@[simp] theorem Tryo.call121 (args : Array Value) (w : World) : (callFunc 121 args).run Tryo.prog w = .ok (.enter 121 args) w := call_o Tryo.func121 rfl (by rfl) args w
@[simp] theorem Tryo.call122 (args : Array Value) (w : World) : (callFunc 122 args).run Tryo.prog w = .ok (.enter 122 args) w := call_o Tryo.func122 rfl (by rfl) args w
@[simp] theorem Tryo.call123 (args : Array Value) (w : World) : (callFunc 123 args).run Tryo.prog w = .ok (.enter 123 args) w := call_o Tryo.func123 rfl (by rfl) args w
@[simp] theorem Tryo.call124 (args : Array Value) (w : World) : (callFunc 124 args).run Tryo.prog w = .ok (.enter 124 args) w := call_o Tryo.func124 rfl (by rfl) args w
@[simp] theorem Tryo.call125 (args : Array Value) (w : World) : (callFunc 125 args).run Tryo.prog w = .ok (.enter 125 args) w := call_o Tryo.func125 rfl (by rfl) args w
@[simp] theorem Tryo.call128 (args : Array Value) (w : World) : (callFunc 128 args).run Tryo.prog w = .ok (.enter 128 args) w := call_o Tryo.func128 rfl (by rfl) args w
@[simp] theorem Tryo.call129 (args : Array Value) (w : World) : (callFunc 129 args).run Tryo.prog w = .ok (.enter 129 args) w := call_o Tryo.func129 rfl (by rfl) args w
@[simp] theorem Tryo.call131 (args : Array Value) (w : World) : (callFunc 131 args).run Tryo.prog w = .ok (.enter 131 args) w := call_o Tryo.func131 rfl (by rfl) args w
@[simp] theorem Tryo.call132 (args : Array Value) (w : World) : (callFunc 132 args).run Tryo.prog w = .ok (.enter 132 args) w := call_o Tryo.func132 rfl (by rfl) args w
@[simp] theorem Tryo.call133 (args : Array Value) (w : World) : (callFunc 133 args).run Tryo.prog w = .ok (.enter 133 args) w := call_o Tryo.func133 rfl (by rfl) args w
@[simp] theorem Tryo.call134 (args : Array Value) (w : World) : (callFunc 134 args).run Tryo.prog w = .ok (.enter 134 args) w := call_o Tryo.func134 rfl (by rfl) args w
@[simp] theorem Tryo.call135 (args : Array Value) (w : World) : (callFunc 135 args).run Tryo.prog w = .ok (.enter 135 args) w := call_o Tryo.func135 rfl (by rfl) args w
@[simp] theorem Tryo.call136 (args : Array Value) (w : World) : (callFunc 136 args).run Tryo.prog w = .ok (.enter 136 args) w := call_o Tryo.func136 rfl (by rfl) args w
@[simp] theorem Tryo.call137 (args : Array Value) (w : World) : (callFunc 137 args).run Tryo.prog w = .ok (.enter 137 args) w := call_o Tryo.func137 rfl (by rfl) args w
@[simp] theorem Tryo.call138 (args : Array Value) (w : World) : (callFunc 138 args).run Tryo.prog w = .ok (.enter 138 args) w := call_o Tryo.func138 rfl (by rfl) args w
@[simp] theorem Tryo.call139 (args : Array Value) (w : World) : (callFunc 139 args).run Tryo.prog w = .ok (.enter 139 args) w := call_o Tryo.func139 rfl (by rfl) args w
@[simp] theorem Tryo.call140 (args : Array Value) (w : World) : (callFunc 140 args).run Tryo.prog w = .ok (.enter 140 args) w := call_o Tryo.func140 rfl (by rfl) args w
@[simp] theorem Tryo.call141 (args : Array Value) (w : World) : (callFunc 141 args).run Tryo.prog w = .ok (.enter 141 args) w := call_o Tryo.func141 rfl (by rfl) args w
@[simp] theorem Tryo.call142 (args : Array Value) (w : World) : (callFunc 142 args).run Tryo.prog w = .ok (.enter 142 args) w := call_o Tryo.func142 rfl (by rfl) args w
@[simp] theorem Tryo.call143 (args : Array Value) (w : World) : (callFunc 143 args).run Tryo.prog w = .ok (.enter 143 args) w := call_o Tryo.func143 rfl (by rfl) args w
@[simp] theorem Tryo.call144 (args : Array Value) (w : World) : (callFunc 144 args).run Tryo.prog w = .ok (.enter 144 args) w := call_o Tryo.func144 rfl (by rfl) args w
@[simp] theorem Tryo.call145 (args : Array Value) (w : World) : (callFunc 145 args).run Tryo.prog w = .ok (.enter 145 args) w := call_o Tryo.func145 rfl (by rfl) args w
@[simp] theorem Tryo.call146 (args : Array Value) (w : World) : (callFunc 146 args).run Tryo.prog w = .ok (.enter 146 args) w := call_o Tryo.func146 rfl (by rfl) args w
@[simp] theorem Tryo.call149 (args : Array Value) (w : World) : (callFunc 149 args).run Tryo.prog w = .ok (.enter 149 args) w := call_o Tryo.func149 rfl (by rfl) args w
@[simp] theorem Tryo.call150 (args : Array Value) (w : World) : (callFunc 150 args).run Tryo.prog w = .ok (.enter 150 args) w := call_o Tryo.func150 rfl (by rfl) args w
@[simp] theorem Tryo.call152 (args : Array Value) (w : World) : (callFunc 152 args).run Tryo.prog w = .ok (.enter 152 args) w := call_o Tryo.func152 rfl (by rfl) args w
@[simp] theorem Tryo.call176 (args : Array Value) (w : World) : (callFunc 176 args).run Tryo.prog w = .ok (.enter 176 args) w := call_o Tryo.func176 rfl (by rfl) args w
@[simp] theorem Tryo.call177 (args : Array Value) (w : World) : (callFunc 177 args).run Tryo.prog w = .ok (.enter 177 args) w := call_o Tryo.func177 rfl (by rfl) args w
@[simp] theorem Tryo.call178 (args : Array Value) (w : World) : (callFunc 178 args).run Tryo.prog w = .ok (.enter 178 args) w := call_o Tryo.func178 rfl (by rfl) args w
@[simp] theorem Tryo.call179 (args : Array Value) (w : World) : (callFunc 179 args).run Tryo.prog w = .ok (.enter 179 args) w := call_o Tryo.func179 rfl (by rfl) args w
@[simp] theorem Tryo.call180 (args : Array Value) (w : World) : (callFunc 180 args).run Tryo.prog w = .ok (.enter 180 args) w := call_o Tryo.func180 rfl (by rfl) args w
@[simp] theorem Tryo.call181 (args : Array Value) (w : World) : (callFunc 181 args).run Tryo.prog w = .ok (.enter 181 args) w := call_o Tryo.func181 rfl (by rfl) args w
@[simp] theorem Tryo.call183 (args : Array Value) (w : World) : (callFunc 183 args).run Tryo.prog w = .ok (.enter 183 args) w := call_o Tryo.func183 rfl (by rfl) args w
@[simp] theorem Tryo.call186 (args : Array Value) (w : World) : (callFunc 186 args).run Tryo.prog w = .ok (.enter 186 args) w := call_o Tryo.func186 rfl (by rfl) args w
@[simp] theorem Tryo.call187 (args : Array Value) (w : World) : (callFunc 187 args).run Tryo.prog w = .ok (.enter 187 args) w := call_o Tryo.func187 rfl (by rfl) args w
@[simp] theorem Tryo.call188 (args : Array Value) (w : World) : (callFunc 188 args).run Tryo.prog w = .ok (.enter 188 args) w := call_o Tryo.func188 rfl (by rfl) args w
@[simp] theorem Tryo.call189 (args : Array Value) (w : World) : (callFunc 189 args).run Tryo.prog w = .ok (.enter 189 args) w := call_o Tryo.func189 rfl (by rfl) args w
@[simp] theorem Tryo.call190 (args : Array Value) (w : World) : (callFunc 190 args).run Tryo.prog w = .ok (.enter 190 args) w := call_o Tryo.func190 rfl (by rfl) args w
@[simp] theorem Tryo.call191 (args : Array Value) (w : World) : (callFunc 191 args).run Tryo.prog w = .ok (.enter 191 args) w := call_o Tryo.func191 rfl (by rfl) args w
@[simp] theorem Tryo.call223 (args : Array Value) (w : World) : (callFunc 223 args).run Tryo.prog w = .ok (.enter 223 args) w := call_o Tryo.func223 rfl (by rfl) args w
@[simp] theorem Tryo.call224 (args : Array Value) (w : World) : (callFunc 224 args).run Tryo.prog w = .ok (.enter 224 args) w := call_o Tryo.func224 rfl (by rfl) args w
@[simp] theorem Tryo.call225 (args : Array Value) (w : World) : (callFunc 225 args).run Tryo.prog w = .ok (.enter 225 args) w := call_o Tryo.func225 rfl (by rfl) args w
@[simp] theorem Tryo.call226 (args : Array Value) (w : World) : (callFunc 226 args).run Tryo.prog w = .ok (.enter 226 args) w := call_o Tryo.func226 rfl (by rfl) args w
@[simp] theorem Tryo.call227 (args : Array Value) (w : World) : (callFunc 227 args).run Tryo.prog w = .ok (.enter 227 args) w := call_o Tryo.func227 rfl (by rfl) args w
@[simp] theorem Tryo.call229 (args : Array Value) (w : World) : (callFunc 229 args).run Tryo.prog w = .ok (.enter 229 args) w := call_o Tryo.func229 rfl (by rfl) args w
@[simp] theorem Tryo.call231 (args : Array Value) (w : World) : (callFunc 231 args).run Tryo.prog w = .ok (.enter 231 args) w := call_o Tryo.func231 rfl (by rfl) args w
@[simp] theorem Tryo.call232 (args : Array Value) (w : World) : (callFunc 232 args).run Tryo.prog w = .ok (.enter 232 args) w := call_o Tryo.func232 rfl (by rfl) args w
@[simp] theorem Tryo.call233 (args : Array Value) (w : World) : (callFunc 233 args).run Tryo.prog w = .ok (.enter 233 args) w := call_o Tryo.func233 rfl (by rfl) args w
@[simp] theorem Tryo.call234 (args : Array Value) (w : World) : (callFunc 234 args).run Tryo.prog w = .ok (.enter 234 args) w := call_o Tryo.func234 rfl (by rfl) args w
@[simp] theorem Tryo.call235 (args : Array Value) (w : World) : (callFunc 235 args).run Tryo.prog w = .ok (.enter 235 args) w := call_o Tryo.func235 rfl (by rfl) args w
@[simp] theorem Tryo.call236 (args : Array Value) (w : World) : (callFunc 236 args).run Tryo.prog w = .ok (.enter 236 args) w := call_o Tryo.func236 rfl (by rfl) args w
@[simp] theorem Tryo.call237 (args : Array Value) (w : World) : (callFunc 237 args).run Tryo.prog w = .ok (.enter 237 args) w := call_o Tryo.func237 rfl (by rfl) args w
@[simp] theorem Tryo.call257 (args : Array Value) (w : World) : (callFunc 257 args).run Tryo.prog w = .ok (.enter 257 args) w := call_o Tryo.func257 rfl (by rfl) args w
@[simp] theorem Tryo.call258 (args : Array Value) (w : World) : (callFunc 258 args).run Tryo.prog w = .ok (.enter 258 args) w := call_o Tryo.func258 rfl (by rfl) args w
@[simp] theorem Tryo.call259 (args : Array Value) (w : World) : (callFunc 259 args).run Tryo.prog w = .ok (.enter 259 args) w := call_o Tryo.func259 rfl (by rfl) args w
@[simp] theorem Tryo.call260 (args : Array Value) (w : World) : (callFunc 260 args).run Tryo.prog w = .ok (.enter 260 args) w := call_o Tryo.func260 rfl (by rfl) args w
@[simp] theorem Tryo.call261 (args : Array Value) (w : World) : (callFunc 261 args).run Tryo.prog w = .ok (.enter 261 args) w := call_o Tryo.func261 rfl (by rfl) args w
@[simp] theorem Tryo.call262 (args : Array Value) (w : World) : (callFunc 262 args).run Tryo.prog w = .ok (.enter 262 args) w := call_o Tryo.func262 rfl (by rfl) args w
@[simp] theorem Tryo.call263 (args : Array Value) (w : World) : (callFunc 263 args).run Tryo.prog w = .ok (.enter 263 args) w := call_o Tryo.func263 rfl (by rfl) args w
@[simp] theorem Tryo.call264 (args : Array Value) (w : World) : (callFunc 264 args).run Tryo.prog w = .ok (.enter 264 args) w := call_o Tryo.func264 rfl (by rfl) args w
@[simp] theorem Tryo.call265 (args : Array Value) (w : World) : (callFunc 265 args).run Tryo.prog w = .ok (.enter 265 args) w := call_o Tryo.func265 rfl (by rfl) args w
@[simp] theorem Tryo.call266 (args : Array Value) (w : World) : (callFunc 266 args).run Tryo.prog w = .ok (.enter 266 args) w := call_o Tryo.func266 rfl (by rfl) args w
@[simp] theorem Tryo.call268 (args : Array Value) (w : World) : (callFunc 268 args).run Tryo.prog w = .ok (.enter 268 args) w := call_o Tryo.func268 rfl (by rfl) args w
@[simp] theorem Tryo.call276 (args : Array Value) (w : World) : (callFunc 276 args).run Tryo.prog w = .ok (.enter 276 args) w := call_o Tryo.func276 rfl (by rfl) args w
@[simp] theorem Tryo.call277 (args : Array Value) (w : World) : (callFunc 277 args).run Tryo.prog w = .ok (.enter 277 args) w := call_o Tryo.func277 rfl (by rfl) args w
@[simp] theorem Tryo.call278 (args : Array Value) (w : World) : (callFunc 278 args).run Tryo.prog w = .ok (.enter 278 args) w := call_o Tryo.func278 rfl (by rfl) args w
@[simp] theorem Tryo.call279 (args : Array Value) (w : World) : (callFunc 279 args).run Tryo.prog w = .ok (.enter 279 args) w := call_o Tryo.func279 rfl (by rfl) args w
@[simp] theorem Tryo.call280 (args : Array Value) (w : World) : (callFunc 280 args).run Tryo.prog w = .ok (.enter 280 args) w := call_o Tryo.func280 rfl (by rfl) args w
@[simp] theorem Tryo.call281 (args : Array Value) (w : World) : (callFunc 281 args).run Tryo.prog w = .ok (.enter 281 args) w := call_o Tryo.func281 rfl (by rfl) args w
@[simp] theorem Tryo.call282 (args : Array Value) (w : World) : (callFunc 282 args).run Tryo.prog w = .ok (.enter 282 args) w := call_o Tryo.func282 rfl (by rfl) args w
@[simp] theorem Tryo.call285 (args : Array Value) (w : World) : (callFunc 285 args).run Tryo.prog w = .ok (.enter 285 args) w := call_o Tryo.func285 rfl (by rfl) args w
@[simp] theorem Tryo.call286 (args : Array Value) (w : World) : (callFunc 286 args).run Tryo.prog w = .ok (.enter 286 args) w := call_o Tryo.func286 rfl (by rfl) args w
@[simp] theorem Tryo.call287 (args : Array Value) (w : World) : (callFunc 287 args).run Tryo.prog w = .ok (.enter 287 args) w := call_o Tryo.func287 rfl (by rfl) args w
@[simp] theorem Tryo.call288 (args : Array Value) (w : World) : (callFunc 288 args).run Tryo.prog w = .ok (.enter 288 args) w := call_o Tryo.func288 rfl (by rfl) args w
@[simp] theorem Tryo.call289 (args : Array Value) (w : World) : (callFunc 289 args).run Tryo.prog w = .ok (.enter 289 args) w := call_o Tryo.func289 rfl (by rfl) args w
@[simp] theorem Tryo.call290 (args : Array Value) (w : World) : (callFunc 290 args).run Tryo.prog w = .ok (.enter 290 args) w := call_o Tryo.func290 rfl (by rfl) args w
@[simp] theorem Tryo.call291 (args : Array Value) (w : World) : (callFunc 291 args).run Tryo.prog w = .ok (.enter 291 args) w := call_o Tryo.func291 rfl (by rfl) args w
@[simp] theorem Tryo.call292 (args : Array Value) (w : World) : (callFunc 292 args).run Tryo.prog w = .ok (.enter 292 args) w := call_o Tryo.func292 rfl (by rfl) args w
@[simp] theorem Tryo.call293 (args : Array Value) (w : World) : (callFunc 293 args).run Tryo.prog w = .ok (.enter 293 args) w := call_o Tryo.func293 rfl (by rfl) args w
@[simp] theorem Tryo.call294 (args : Array Value) (w : World) : (callFunc 294 args).run Tryo.prog w = .ok (.enter 294 args) w := call_o Tryo.func294 rfl (by rfl) args w
@[simp] theorem Tryo.call295 (args : Array Value) (w : World) : (callFunc 295 args).run Tryo.prog w = .ok (.enter 295 args) w := call_o Tryo.func295 rfl (by rfl) args w
@[simp] theorem Tryo.call296 (args : Array Value) (w : World) : (callFunc 296 args).run Tryo.prog w = .ok (.enter 296 args) w := call_o Tryo.func296 rfl (by rfl) args w
@[simp] theorem Tryo.call297 (args : Array Value) (w : World) : (callFunc 297 args).run Tryo.prog w = .ok (.enter 297 args) w := call_o Tryo.func297 rfl (by rfl) args w
@[simp] theorem Tryo.call298 (args : Array Value) (w : World) : (callFunc 298 args).run Tryo.prog w = .ok (.enter 298 args) w := call_o Tryo.func298 rfl (by rfl) args w
@[simp] theorem Tryo.call299 (args : Array Value) (w : World) : (callFunc 299 args).run Tryo.prog w = .ok (.enter 299 args) w := call_o Tryo.func299 rfl (by rfl) args w
@[simp] theorem Tryo.call300 (args : Array Value) (w : World) : (callFunc 300 args).run Tryo.prog w = .ok (.enter 300 args) w := call_o Tryo.func300 rfl (by rfl) args w
end Go.Proofs
