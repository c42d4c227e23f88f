/- The program with saturdays told in one goroutine, under its own alias: the facts that walks ask of it. -/
import Derived.Test.YtaaaalbgjpjgoaaGreatDoorVGS
import Derived.Test.YtaaaalbgjpjgoaaGreatDoorVGB
set_option linter.unusedVariables false
set_option linter.unusedSimpArgs false
set_option maxRecDepth 100000
namespace Go.Proofs
open Go Go.Sq Go.Proofs.YtaaaalbgjpjgoaaGreatDoor.Sat
noncomputable def Tryo.prog : Program := sw Tryz.prog FO
@[simp] theorem Tryo.toTables : Tryo.prog.toTables = Tryz.prog.toTables := tables_sw _ _
@[simp] theorem Tryo.typeInfo (t : TypeId) (w : World) : (Go.typeInfo t).run Tryo.prog w = (Go.typeInfo t).run Tryz.prog w := o_typeInfo _ _ t w
@[simp] theorem Tryo.sizeOf (t : TypeId) (w : World) : (Go.sizeOf t).run Tryo.prog w = (Go.sizeOf t).run Tryz.prog w := o_sizeOf _ _ t w
@[simp] theorem Tryo.runUnderlying (t : TypeId) (w : World) : (Go.underlying t).run Tryo.prog w = (Go.underlying t).run Tryz.prog w := o_underlying _ _ t w
@[simp] theorem Tryo.isAgg (t : TypeId) (w : World) : (Go.isAgg t).run Tryo.prog w = (Go.isAgg t).run Tryz.prog w := o_isAgg _ _ t w
@[simp] theorem Tryo.zeroValue (t : TypeId) (w : World) : (Go.zeroValue t).run Tryo.prog w = (Go.zeroValue t).run Tryz.prog w := o_zeroValue _ _ t w
@[simp] theorem Tryo.underlying (t : TypeId) : Tryo.prog.underlying t = Tryz.prog.underlying t := under_sw' _ _ t
@[simp] theorem Tryo.depth : Tryo.prog.depth = Tryz.prog.depth := depth_sw
@[simp] theorem Tryo.eqGuardType (n : Nat) (t : TypeId) : Tryo.prog.eqGuardType n t = Tryz.prog.eqGuardType n t := eqGuardType_sw n t
@[simp] theorem Tryo.stoodInHeld (t : TypeId) : Tryo.prog.stoodInHeld t = Tryz.prog.stoodInHeld t := stoodInHeld_sw t
theorem und_o {t : TypeId} {d : Option TypeDesc} (h : Tryz.prog.underlying t = d) : Tryo.prog.underlying t = d := (Tryo.underlying t).trans h
theorem run_o {α : Type} {s : Sem α} {r : World → Result α} (e : ∀ w, s.run Tryo.prog w = s.run Tryz.prog w) (h : ∀ w, s.run Tryz.prog w = r w) (w : World) : s.run Tryo.prog w = r w := (e w).trans (h w)
theorem eqg_o {t : TypeId} {b : Bool} (h : Tryz.prog.eqGuardType Tryz.prog.depth t = b) : Tryo.prog.eqGuardType Tryo.prog.depth t = b := by
  rw [Tryo.depth, Tryo.eqGuardType]; exact h
theorem sih_o {t : TypeId} {b : Bool} (h : Tryz.prog.stoodInHeld t = b) : Tryo.prog.stoodInHeld t = b := by
  rw [Tryo.stoodInHeld]; exact h
theorem fn_o {i : Nat} {f : Func} (h : Tryz.prog.funcs[i]? = some f) (hi : i ≠ 119) : Tryo.prog.funcs[i]? = some f := ((funcs_sw Tryz.prog FO i).trans (FO_ne hi)).trans h
theorem call_o {n : Nat} {fn : Func} {c : Code} (hf : Tryo.prog.funcs[n]? = some fn) (hb : fn.body = some c) (hn : (fn.name == "runtime.NumGoroutine") = false) (args : Array Value) (w : World) : (callFunc n args).run Tryo.prog w = .ok (.enter n args) w := o_call _ hf hb hn args w
@[simp] theorem Tryo.func5 : Tryo.prog.funcs[5]? = some Tryz.f5 := fn_o Tryz.func5 (by decide)
@[simp] theorem Tryo.func6 : Tryo.prog.funcs[6]? = some Tryz.f6 := fn_o Tryz.func6 (by decide)
@[simp] theorem Tryo.func7 : Tryo.prog.funcs[7]? = some Tryz.f7 := fn_o Tryz.func7 (by decide)
@[simp] theorem Tryo.func11 : Tryo.prog.funcs[11]? = some Tryz.f11 := fn_o Tryz.func11 (by decide)
@[simp] theorem Tryo.func12 : Tryo.prog.funcs[12]? = some Tryz.f12 := fn_o Tryz.func12 (by decide)
@[simp] theorem Tryo.func13 : Tryo.prog.funcs[13]? = some Tryz.f13 := fn_o Tryz.func13 (by decide)
@[simp] theorem Tryo.func14 : Tryo.prog.funcs[14]? = some Tryz.f14 := fn_o Tryz.func14 (by decide)
@[simp] theorem Tryo.func16 : Tryo.prog.funcs[16]? = some Tryz.f16 := fn_o Tryz.func16 (by decide)
@[simp] theorem Tryo.func26 : Tryo.prog.funcs[26]? = some Tryz.f26 := fn_o Tryz.func26 (by decide)
@[simp] theorem Tryo.func27 : Tryo.prog.funcs[27]? = some Tryz.f27 := fn_o Tryz.func27 (by decide)
@[simp] theorem Tryo.func28 : Tryo.prog.funcs[28]? = some Tryz.f28 := fn_o Tryz.func28 (by decide)
@[simp] theorem Tryo.func29 : Tryo.prog.funcs[29]? = some Tryz.f29 := fn_o Tryz.func29 (by decide)
@[simp] theorem Tryo.func30 : Tryo.prog.funcs[30]? = some Tryz.f30 := fn_o Tryz.func30 (by decide)
@[simp] theorem Tryo.func31 : Tryo.prog.funcs[31]? = some Tryz.f31 := fn_o Tryz.func31 (by decide)
@[simp] theorem Tryo.func32 : Tryo.prog.funcs[32]? = some Tryz.f32 := fn_o Tryz.func32 (by decide)
@[simp] theorem Tryo.func33 : Tryo.prog.funcs[33]? = some Tryz.f33 := fn_o Tryz.func33 (by decide)
@[simp] theorem Tryo.func34 : Tryo.prog.funcs[34]? = some Tryz.f34 := fn_o Tryz.func34 (by decide)
@[simp] theorem Tryo.func35 : Tryo.prog.funcs[35]? = some Tryz.f35 := fn_o Tryz.func35 (by decide)
@[simp] theorem Tryo.func36 : Tryo.prog.funcs[36]? = some Tryz.f36 := fn_o Tryz.func36 (by decide)
@[simp] theorem Tryo.func37 : Tryo.prog.funcs[37]? = some Tryz.f37 := fn_o Tryz.func37 (by decide)
@[simp] theorem Tryo.func38 : Tryo.prog.funcs[38]? = some Tryz.f38 := fn_o Tryz.func38 (by decide)
@[simp] theorem Tryo.func39 : Tryo.prog.funcs[39]? = some Tryz.f39 := fn_o Tryz.func39 (by decide)
@[simp] theorem Tryo.func40 : Tryo.prog.funcs[40]? = some Tryz.f40 := fn_o Tryz.func40 (by decide)
@[simp] theorem Tryo.func41 : Tryo.prog.funcs[41]? = some Tryz.f41 := fn_o Tryz.func41 (by decide)
@[simp] theorem Tryo.func42 : Tryo.prog.funcs[42]? = some Tryz.f42 := fn_o Tryz.func42 (by decide)
@[simp] theorem Tryo.func43 : Tryo.prog.funcs[43]? = some Tryz.f43 := fn_o Tryz.func43 (by decide)
@[simp] theorem Tryo.func44 : Tryo.prog.funcs[44]? = some Tryz.f44 := fn_o Tryz.func44 (by decide)
@[simp] theorem Tryo.func46 : Tryo.prog.funcs[46]? = some Tryz.f46 := fn_o Tryz.func46 (by decide)
@[simp] theorem Tryo.func47 : Tryo.prog.funcs[47]? = some Tryz.f47 := fn_o Tryz.func47 (by decide)
@[simp] theorem Tryo.func49 : Tryo.prog.funcs[49]? = some Tryz.f49 := fn_o Tryz.func49 (by decide)
@[simp] theorem Tryo.func52 : Tryo.prog.funcs[52]? = some Tryz.f52 := fn_o Tryz.func52 (by decide)
@[simp] theorem Tryo.func53 : Tryo.prog.funcs[53]? = some Tryz.f53 := fn_o Tryz.func53 (by decide)
@[simp] theorem Tryo.func54 : Tryo.prog.funcs[54]? = some Tryz.f54 := fn_o Tryz.func54 (by decide)
@[simp] theorem Tryo.func55 : Tryo.prog.funcs[55]? = some Tryz.f55 := fn_o Tryz.func55 (by decide)
@[simp] theorem Tryo.func59 : Tryo.prog.funcs[59]? = some Tryz.f59 := fn_o Tryz.func59 (by decide)
@[simp] theorem Tryo.func68 : Tryo.prog.funcs[68]? = some Tryz.f68 := fn_o Tryz.func68 (by decide)
@[simp] theorem Tryo.func69 : Tryo.prog.funcs[69]? = some Tryz.f69 := fn_o Tryz.func69 (by decide)
@[simp] theorem Tryo.func70 : Tryo.prog.funcs[70]? = some Tryz.f70 := fn_o Tryz.func70 (by decide)
@[simp] theorem Tryo.func71 : Tryo.prog.funcs[71]? = some Tryz.f71 := fn_o Tryz.func71 (by decide)
@[simp] theorem Tryo.func72 : Tryo.prog.funcs[72]? = some Tryz.f72 := fn_o Tryz.func72 (by decide)
@[simp] theorem Tryo.func73 : Tryo.prog.funcs[73]? = some Tryz.f73 := fn_o Tryz.func73 (by decide)
@[simp] theorem Tryo.func74 : Tryo.prog.funcs[74]? = some Tryz.f74 := fn_o Tryz.func74 (by decide)
@[simp] theorem Tryo.func75 : Tryo.prog.funcs[75]? = some Tryz.f75 := fn_o Tryz.func75 (by decide)
@[simp] theorem Tryo.func76 : Tryo.prog.funcs[76]? = some Tryz.f76 := fn_o Tryz.func76 (by decide)
@[simp] theorem Tryo.func77 : Tryo.prog.funcs[77]? = some Tryz.f77 := fn_o Tryz.func77 (by decide)
@[simp] theorem Tryo.func78 : Tryo.prog.funcs[78]? = some Tryz.f78 := fn_o Tryz.func78 (by decide)
@[simp] theorem Tryo.func79 : Tryo.prog.funcs[79]? = some Tryz.f79 := fn_o Tryz.func79 (by decide)
@[simp] theorem Tryo.func80 : Tryo.prog.funcs[80]? = some Tryz.f80 := fn_o Tryz.func80 (by decide)
@[simp] theorem Tryo.func81 : Tryo.prog.funcs[81]? = some Tryz.f81 := fn_o Tryz.func81 (by decide)
@[simp] theorem Tryo.func82 : Tryo.prog.funcs[82]? = some Tryz.f82 := fn_o Tryz.func82 (by decide)
@[simp] theorem Tryo.func83 : Tryo.prog.funcs[83]? = some Tryz.f83 := fn_o Tryz.func83 (by decide)
@[simp] theorem Tryo.func84 : Tryo.prog.funcs[84]? = some Tryz.f84 := fn_o Tryz.func84 (by decide)
@[simp] theorem Tryo.func85 : Tryo.prog.funcs[85]? = some Tryz.f85 := fn_o Tryz.func85 (by decide)
@[simp] theorem Tryo.func86 : Tryo.prog.funcs[86]? = some Tryz.f86 := fn_o Tryz.func86 (by decide)
@[simp] theorem Tryo.func87 : Tryo.prog.funcs[87]? = some Tryz.f87 := fn_o Tryz.func87 (by decide)
@[simp] theorem Tryo.func88 : Tryo.prog.funcs[88]? = some Tryz.f88 := fn_o Tryz.func88 (by decide)
@[simp] theorem Tryo.func89 : Tryo.prog.funcs[89]? = some Tryz.f89 := fn_o Tryz.func89 (by decide)
@[simp] theorem Tryo.func90 : Tryo.prog.funcs[90]? = some Tryz.f90 := fn_o Tryz.func90 (by decide)
@[simp] theorem Tryo.func93 : Tryo.prog.funcs[93]? = some Tryz.f93 := fn_o Tryz.func93 (by decide)
@[simp] theorem Tryo.func94 : Tryo.prog.funcs[94]? = some Tryz.f94 := fn_o Tryz.func94 (by decide)
@[simp] theorem Tryo.func95 : Tryo.prog.funcs[95]? = some Tryz.f95 := fn_o Tryz.func95 (by decide)
@[simp] theorem Tryo.func96 : Tryo.prog.funcs[96]? = some Tryz.f96 := fn_o Tryz.func96 (by decide)
@[simp] theorem Tryo.func97 : Tryo.prog.funcs[97]? = some Tryz.f97 := fn_o Tryz.func97 (by decide)
@[simp] theorem Tryo.func98 : Tryo.prog.funcs[98]? = some Tryz.f98 := fn_o Tryz.func98 (by decide)
@[simp] theorem Tryo.func99 : Tryo.prog.funcs[99]? = some Tryz.f99 := fn_o Tryz.func99 (by decide)
@[simp] theorem Tryo.func100 : Tryo.prog.funcs[100]? = some Tryz.f100 := fn_o Tryz.func100 (by decide)
@[simp] theorem Tryo.func101 : Tryo.prog.funcs[101]? = some Tryz.f101 := fn_o Tryz.func101 (by decide)
@[simp] theorem Tryo.func102 : Tryo.prog.funcs[102]? = some Tryz.f102 := fn_o Tryz.func102 (by decide)
@[simp] theorem Tryo.func105 : Tryo.prog.funcs[105]? = some Tryz.f105 := fn_o Tryz.func105 (by decide)
@[simp] theorem Tryo.func114 : Tryo.prog.funcs[114]? = some Tryz.f114 := fn_o Tryz.func114 (by decide)
@[simp] theorem Tryo.func115 : Tryo.prog.funcs[115]? = some Tryz.f115 := fn_o Tryz.func115 (by decide)
@[simp] theorem Tryo.func116 : Tryo.prog.funcs[116]? = some Tryz.f116 := fn_o Tryz.func116 (by decide)
@[simp] theorem Tryo.func117 : Tryo.prog.funcs[117]? = some Tryz.f117 := fn_o Tryz.func117 (by decide)
@[simp] theorem Tryo.func118 : Tryo.prog.funcs[118]? = some Tryz.f118 := fn_o Tryz.func118 (by decide)
@[simp] theorem Tryo.func119 : Tryo.prog.funcs[119]? = some satO := (funcs_sw Tryz.prog FO 119).trans FO_sat
@[simp] theorem Tryo.func120 : Tryo.prog.funcs[120]? = some Tryz.f120 := fn_o Tryz.func120 (by decide)
@[simp] theorem Tryo.func121 : Tryo.prog.funcs[121]? = some Tryz.f121 := fn_o Tryz.func121 (by decide)
@[simp] theorem Tryo.func122 : Tryo.prog.funcs[122]? = some Tryz.f122 := fn_o Tryz.func122 (by decide)
@[simp] theorem Tryo.func123 : Tryo.prog.funcs[123]? = some Tryz.f123 := fn_o Tryz.func123 (by decide)
@[simp] theorem Tryo.func124 : Tryo.prog.funcs[124]? = some Tryz.f124 := fn_o Tryz.func124 (by decide)
@[simp] theorem Tryo.func128 : Tryo.prog.funcs[128]? = some Tryz.f128 := fn_o Tryz.func128 (by decide)
@[simp] theorem Tryo.func129 : Tryo.prog.funcs[129]? = some Tryz.f129 := fn_o Tryz.func129 (by decide)
@[simp] theorem Tryo.func138 : Tryo.prog.funcs[138]? = some Tryz.f138 := fn_o Tryz.func138 (by decide)
@[simp] theorem Tryo.func139 : Tryo.prog.funcs[139]? = some Tryz.f139 := fn_o Tryz.func139 (by decide)
@[simp] theorem Tryo.func140 : Tryo.prog.funcs[140]? = some Tryz.f140 := fn_o Tryz.func140 (by decide)
@[simp] theorem Tryo.func141 : Tryo.prog.funcs[141]? = some Tryz.f141 := fn_o Tryz.func141 (by decide)
@[simp] theorem Tryo.func142 : Tryo.prog.funcs[142]? = some Tryz.f142 := fn_o Tryz.func142 (by decide)
@[simp] theorem Tryo.func143 : Tryo.prog.funcs[143]? = some Tryz.f143 := fn_o Tryz.func143 (by decide)
@[simp] theorem Tryo.func144 : Tryo.prog.funcs[144]? = some Tryz.f144 := fn_o Tryz.func144 (by decide)
@[simp] theorem Tryo.func145 : Tryo.prog.funcs[145]? = some Tryz.f145 := fn_o Tryz.func145 (by decide)
@[simp] theorem Tryo.func146 : Tryo.prog.funcs[146]? = some Tryz.f146 := fn_o Tryz.func146 (by decide)
@[simp] theorem Tryo.func147 : Tryo.prog.funcs[147]? = some Tryz.f147 := fn_o Tryz.func147 (by decide)
@[simp] theorem Tryo.func148 : Tryo.prog.funcs[148]? = some Tryz.f148 := fn_o Tryz.func148 (by decide)
@[simp] theorem Tryo.func149 : Tryo.prog.funcs[149]? = some Tryz.f149 := fn_o Tryz.func149 (by decide)
@[simp] theorem Tryo.func150 : Tryo.prog.funcs[150]? = some Tryz.f150 := fn_o Tryz.func150 (by decide)
@[simp] theorem Tryo.func151 : Tryo.prog.funcs[151]? = some Tryz.f151 := fn_o Tryz.func151 (by decide)
@[simp] theorem Tryo.func152 : Tryo.prog.funcs[152]? = some Tryz.f152 := fn_o Tryz.func152 (by decide)
@[simp] theorem Tryo.func153 : Tryo.prog.funcs[153]? = some Tryz.f153 := fn_o Tryz.func153 (by decide)
@[simp] theorem Tryo.func155 : Tryo.prog.funcs[155]? = some Tryz.f155 := fn_o Tryz.func155 (by decide)
@[simp] theorem Tryo.func156 : Tryo.prog.funcs[156]? = some Tryz.f156 := fn_o Tryz.func156 (by decide)
@[simp] theorem Tryo.func157 : Tryo.prog.funcs[157]? = some Tryz.f157 := fn_o Tryz.func157 (by decide)
@[simp] theorem Tryo.func158 : Tryo.prog.funcs[158]? = some Tryz.f158 := fn_o Tryz.func158 (by decide)
@[simp] theorem Tryo.func159 : Tryo.prog.funcs[159]? = some Tryz.f159 := fn_o Tryz.func159 (by decide)
@[simp] theorem Tryo.func160 : Tryo.prog.funcs[160]? = some Tryz.f160 := fn_o Tryz.func160 (by decide)
@[simp] theorem Tryo.func161 : Tryo.prog.funcs[161]? = some Tryz.f161 := fn_o Tryz.func161 (by decide)
@[simp] theorem Tryo.func169 : Tryo.prog.funcs[169]? = some Tryz.f169 := fn_o Tryz.func169 (by decide)
@[simp] theorem Tryo.func176 : Tryo.prog.funcs[176]? = some Tryz.f176 := fn_o Tryz.func176 (by decide)
@[simp] theorem Tryo.func177 : Tryo.prog.funcs[177]? = some Tryz.f177 := fn_o Tryz.func177 (by decide)
@[simp] theorem Tryo.func178 : Tryo.prog.funcs[178]? = some Tryz.f178 := fn_o Tryz.func178 (by decide)
@[simp] theorem Tryo.func179 : Tryo.prog.funcs[179]? = some Tryz.f179 := fn_o Tryz.func179 (by decide)
@[simp] theorem Tryo.func180 : Tryo.prog.funcs[180]? = some Tryz.f180 := fn_o Tryz.func180 (by decide)
@[simp] theorem Tryo.func188 : Tryo.prog.funcs[188]? = some Tryz.f188 := fn_o Tryz.func188 (by decide)
@[simp] theorem Tryo.func189 : Tryo.prog.funcs[189]? = some Tryz.f189 := fn_o Tryz.func189 (by decide)
@[simp] theorem Tryo.func190 : Tryo.prog.funcs[190]? = some Tryz.f190 := fn_o Tryz.func190 (by decide)
@[simp] theorem Tryo.func191 : Tryo.prog.funcs[191]? = some Tryz.f191 := fn_o Tryz.func191 (by decide)
@[simp] theorem Tryo.func193 : Tryo.prog.funcs[193]? = some Tryz.f193 := fn_o Tryz.func193 (by decide)
@[simp] theorem Tryo.func194 : Tryo.prog.funcs[194]? = some Tryz.f194 := fn_o Tryz.func194 (by decide)
@[simp] theorem Tryo.func195 : Tryo.prog.funcs[195]? = some Tryz.f195 := fn_o Tryz.func195 (by decide)
@[simp] theorem Tryo.func223 : Tryo.prog.funcs[223]? = some Tryz.f223 := fn_o Tryz.func223 (by decide)
@[simp] theorem Tryo.func224 : Tryo.prog.funcs[224]? = some Tryz.f224 := fn_o Tryz.func224 (by decide)
@[simp] theorem Tryo.func225 : Tryo.prog.funcs[225]? = some Tryz.f225 := fn_o Tryz.func225 (by decide)
@[simp] theorem Tryo.func236 : Tryo.prog.funcs[236]? = some Tryz.f236 := fn_o Tryz.func236 (by decide)
@[simp] theorem Tryo.func237 : Tryo.prog.funcs[237]? = some Tryz.f237 := fn_o Tryz.func237 (by decide)
@[simp] theorem Tryo.func238 : Tryo.prog.funcs[238]? = some Tryz.f238 := fn_o Tryz.func238 (by decide)
@[simp] theorem Tryo.func257 : Tryo.prog.funcs[257]? = some Tryz.f257 := fn_o Tryz.func257 (by decide)
@[simp] theorem Tryo.func258 : Tryo.prog.funcs[258]? = some Tryz.f258 := fn_o Tryz.func258 (by decide)
@[simp] theorem Tryo.func259 : Tryo.prog.funcs[259]? = some Tryz.f259 := fn_o Tryz.func259 (by decide)
@[simp] theorem Tryo.func268 : Tryo.prog.funcs[268]? = some Tryz.f268 := fn_o Tryz.func268 (by decide)
@[simp] theorem Tryo.func276 : Tryo.prog.funcs[276]? = some Tryz.f276 := fn_o Tryz.func276 (by decide)
@[simp] theorem Tryo.func277 : Tryo.prog.funcs[277]? = some Tryz.f277 := fn_o Tryz.func277 (by decide)
@[simp] theorem Tryo.func278 : Tryo.prog.funcs[278]? = some Tryz.f278 := fn_o Tryz.func278 (by decide)
@[simp] theorem Tryo.func285 : Tryo.prog.funcs[285]? = some Tryz.f285 := fn_o Tryz.func285 (by decide)
@[simp] theorem Tryo.func286 : Tryo.prog.funcs[286]? = some Tryz.f286 := fn_o Tryz.func286 (by decide)
@[simp] theorem Tryo.func287 : Tryo.prog.funcs[287]? = some Tryz.f287 := fn_o Tryz.func287 (by decide)
@[simp] theorem Tryo.func288 : Tryo.prog.funcs[288]? = some Tryz.f288 := fn_o Tryz.func288 (by decide)
@[simp] theorem Tryo.func289 : Tryo.prog.funcs[289]? = some Tryz.f289 := fn_o Tryz.func289 (by decide)
@[simp] theorem Tryo.func290 : Tryo.prog.funcs[290]? = some Tryz.f290 := fn_o Tryz.func290 (by decide)
@[simp] theorem Tryo.func291 : Tryo.prog.funcs[291]? = some Tryz.f291 := fn_o Tryz.func291 (by decide)
@[simp] theorem Tryo.func292 : Tryo.prog.funcs[292]? = some Tryz.f292 := fn_o Tryz.func292 (by decide)
@[simp] theorem Tryo.func293 : Tryo.prog.funcs[293]? = some Tryz.f293 := fn_o Tryz.func293 (by decide)
@[simp] theorem Tryo.func294 : Tryo.prog.funcs[294]? = some Tryz.f294 := fn_o Tryz.func294 (by decide)
@[simp] theorem Tryo.func295 : Tryo.prog.funcs[295]? = some Tryz.f295 := fn_o Tryz.func295 (by decide)
@[simp] theorem Tryo.func296 : Tryo.prog.funcs[296]? = some Tryz.f296 := fn_o Tryz.func296 (by decide)
@[simp] theorem Tryo.func297 : Tryo.prog.funcs[297]? = some Tryz.f297 := fn_o Tryz.func297 (by decide)
@[simp] theorem Tryo.func298 : Tryo.prog.funcs[298]? = some Tryz.f298 := fn_o Tryz.func298 (by decide)
@[simp] theorem Tryo.func299 : Tryo.prog.funcs[299]? = some Tryz.f299 := fn_o Tryz.func299 (by decide)
@[simp] theorem Tryo.func300 : Tryo.prog.funcs[300]? = some Tryz.f300 := fn_o Tryz.func300 (by decide)
@[simp] theorem Tryo.call5 (args : Array Value) (w : World) : (callFunc 5 args).run Tryo.prog w = .ok (.enter 5 args) w := call_o Tryo.func5 rfl (by rfl) args w
@[simp] theorem Tryo.call6 (args : Array Value) (w : World) : (callFunc 6 args).run Tryo.prog w = .ok (.enter 6 args) w := call_o Tryo.func6 rfl (by rfl) args w
@[simp] theorem Tryo.call7 (args : Array Value) (w : World) : (callFunc 7 args).run Tryo.prog w = .ok (.enter 7 args) w := call_o Tryo.func7 rfl (by rfl) args w
@[simp] theorem Tryo.call11 (args : Array Value) (w : World) : (callFunc 11 args).run Tryo.prog w = .ok (.enter 11 args) w := call_o Tryo.func11 rfl (by rfl) args w
@[simp] theorem Tryo.call12 (args : Array Value) (w : World) : (callFunc 12 args).run Tryo.prog w = .ok (.enter 12 args) w := call_o Tryo.func12 rfl (by rfl) args w
@[simp] theorem Tryo.call13 (args : Array Value) (w : World) : (callFunc 13 args).run Tryo.prog w = .ok (.enter 13 args) w := call_o Tryo.func13 rfl (by rfl) args w
@[simp] theorem Tryo.call14 (args : Array Value) (w : World) : (callFunc 14 args).run Tryo.prog w = .ok (.enter 14 args) w := call_o Tryo.func14 rfl (by rfl) args w
@[simp] theorem Tryo.call16 (args : Array Value) (w : World) : (callFunc 16 args).run Tryo.prog w = .ok (.enter 16 args) w := call_o Tryo.func16 rfl (by rfl) args w
@[simp] theorem Tryo.call26 (args : Array Value) (w : World) : (callFunc 26 args).run Tryo.prog w = .ok (.enter 26 args) w := call_o Tryo.func26 rfl (by rfl) args w
@[simp] theorem Tryo.call27 (args : Array Value) (w : World) : (callFunc 27 args).run Tryo.prog w = .ok (.enter 27 args) w := call_o Tryo.func27 rfl (by rfl) args w
@[simp] theorem Tryo.call28 (args : Array Value) (w : World) : (callFunc 28 args).run Tryo.prog w = .ok (.enter 28 args) w := call_o Tryo.func28 rfl (by rfl) args w
@[simp] theorem Tryo.call29 (args : Array Value) (w : World) : (callFunc 29 args).run Tryo.prog w = .ok (.enter 29 args) w := call_o Tryo.func29 rfl (by rfl) args w
@[simp] theorem Tryo.call30 (args : Array Value) (w : World) : (callFunc 30 args).run Tryo.prog w = .ok (.enter 30 args) w := call_o Tryo.func30 rfl (by rfl) args w
@[simp] theorem Tryo.call31 (args : Array Value) (w : World) : (callFunc 31 args).run Tryo.prog w = .ok (.enter 31 args) w := call_o Tryo.func31 rfl (by rfl) args w
@[simp] theorem Tryo.call32 (args : Array Value) (w : World) : (callFunc 32 args).run Tryo.prog w = .ok (.enter 32 args) w := call_o Tryo.func32 rfl (by rfl) args w
@[simp] theorem Tryo.call33 (args : Array Value) (w : World) : (callFunc 33 args).run Tryo.prog w = .ok (.enter 33 args) w := call_o Tryo.func33 rfl (by rfl) args w
@[simp] theorem Tryo.call34 (args : Array Value) (w : World) : (callFunc 34 args).run Tryo.prog w = .ok (.enter 34 args) w := call_o Tryo.func34 rfl (by rfl) args w
@[simp] theorem Tryo.call35 (args : Array Value) (w : World) : (callFunc 35 args).run Tryo.prog w = .ok (.enter 35 args) w := call_o Tryo.func35 rfl (by rfl) args w
@[simp] theorem Tryo.call36 (args : Array Value) (w : World) : (callFunc 36 args).run Tryo.prog w = .ok (.enter 36 args) w := call_o Tryo.func36 rfl (by rfl) args w
@[simp] theorem Tryo.call37 (args : Array Value) (w : World) : (callFunc 37 args).run Tryo.prog w = .ok (.enter 37 args) w := call_o Tryo.func37 rfl (by rfl) args w
@[simp] theorem Tryo.call38 (args : Array Value) (w : World) : (callFunc 38 args).run Tryo.prog w = .ok (.enter 38 args) w := call_o Tryo.func38 rfl (by rfl) args w
@[simp] theorem Tryo.call39 (args : Array Value) (w : World) : (callFunc 39 args).run Tryo.prog w = .ok (.enter 39 args) w := call_o Tryo.func39 rfl (by rfl) args w
@[simp] theorem Tryo.call40 (args : Array Value) (w : World) : (callFunc 40 args).run Tryo.prog w = .ok (.enter 40 args) w := call_o Tryo.func40 rfl (by rfl) args w
@[simp] theorem Tryo.call41 (args : Array Value) (w : World) : (callFunc 41 args).run Tryo.prog w = .ok (.enter 41 args) w := call_o Tryo.func41 rfl (by rfl) args w
@[simp] theorem Tryo.call42 (args : Array Value) (w : World) : (callFunc 42 args).run Tryo.prog w = .ok (.enter 42 args) w := call_o Tryo.func42 rfl (by rfl) args w
@[simp] theorem Tryo.call43 (args : Array Value) (w : World) : (callFunc 43 args).run Tryo.prog w = .ok (.enter 43 args) w := call_o Tryo.func43 rfl (by rfl) args w
@[simp] theorem Tryo.call44 (args : Array Value) (w : World) : (callFunc 44 args).run Tryo.prog w = .ok (.enter 44 args) w := call_o Tryo.func44 rfl (by rfl) args w
@[simp] theorem Tryo.call46 (args : Array Value) (w : World) : (callFunc 46 args).run Tryo.prog w = .ok (.enter 46 args) w := call_o Tryo.func46 rfl (by rfl) args w
@[simp] theorem Tryo.call47 (args : Array Value) (w : World) : (callFunc 47 args).run Tryo.prog w = .ok (.enter 47 args) w := call_o Tryo.func47 rfl (by rfl) args w
@[simp] theorem Tryo.call49 (args : Array Value) (w : World) : (callFunc 49 args).run Tryo.prog w = .ok (.enter 49 args) w := call_o Tryo.func49 rfl (by rfl) args w
@[simp] theorem Tryo.call52 (args : Array Value) (w : World) : (callFunc 52 args).run Tryo.prog w = .ok (.enter 52 args) w := call_o Tryo.func52 rfl (by rfl) args w
@[simp] theorem Tryo.call53 (args : Array Value) (w : World) : (callFunc 53 args).run Tryo.prog w = .ok (.enter 53 args) w := call_o Tryo.func53 rfl (by rfl) args w
@[simp] theorem Tryo.call54 (args : Array Value) (w : World) : (callFunc 54 args).run Tryo.prog w = .ok (.enter 54 args) w := call_o Tryo.func54 rfl (by rfl) args w
@[simp] theorem Tryo.call55 (args : Array Value) (w : World) : (callFunc 55 args).run Tryo.prog w = .ok (.enter 55 args) w := call_o Tryo.func55 rfl (by rfl) args w
@[simp] theorem Tryo.call59 (args : Array Value) (w : World) : (callFunc 59 args).run Tryo.prog w = .ok (.enter 59 args) w := call_o Tryo.func59 rfl (by rfl) args w
@[simp] theorem Tryo.call68 (args : Array Value) (w : World) : (callFunc 68 args).run Tryo.prog w = .ok (.enter 68 args) w := call_o Tryo.func68 rfl (by rfl) args w
@[simp] theorem Tryo.call69 (args : Array Value) (w : World) : (callFunc 69 args).run Tryo.prog w = .ok (.enter 69 args) w := call_o Tryo.func69 rfl (by rfl) args w
@[simp] theorem Tryo.call70 (args : Array Value) (w : World) : (callFunc 70 args).run Tryo.prog w = .ok (.enter 70 args) w := call_o Tryo.func70 rfl (by rfl) args w
@[simp] theorem Tryo.call71 (args : Array Value) (w : World) : (callFunc 71 args).run Tryo.prog w = .ok (.enter 71 args) w := call_o Tryo.func71 rfl (by rfl) args w
@[simp] theorem Tryo.call72 (args : Array Value) (w : World) : (callFunc 72 args).run Tryo.prog w = .ok (.enter 72 args) w := call_o Tryo.func72 rfl (by rfl) args w
@[simp] theorem Tryo.call73 (args : Array Value) (w : World) : (callFunc 73 args).run Tryo.prog w = .ok (.enter 73 args) w := call_o Tryo.func73 rfl (by rfl) args w
@[simp] theorem Tryo.call74 (args : Array Value) (w : World) : (callFunc 74 args).run Tryo.prog w = .ok (.enter 74 args) w := call_o Tryo.func74 rfl (by rfl) args w
@[simp] theorem Tryo.call75 (args : Array Value) (w : World) : (callFunc 75 args).run Tryo.prog w = .ok (.enter 75 args) w := call_o Tryo.func75 rfl (by rfl) args w
@[simp] theorem Tryo.call76 (args : Array Value) (w : World) : (callFunc 76 args).run Tryo.prog w = .ok (.enter 76 args) w := call_o Tryo.func76 rfl (by rfl) args w
@[simp] theorem Tryo.call77 (args : Array Value) (w : World) : (callFunc 77 args).run Tryo.prog w = .ok (.enter 77 args) w := call_o Tryo.func77 rfl (by rfl) args w
@[simp] theorem Tryo.call78 (args : Array Value) (w : World) : (callFunc 78 args).run Tryo.prog w = .ok (.enter 78 args) w := call_o Tryo.func78 rfl (by rfl) args w
@[simp] theorem Tryo.call79 (args : Array Value) (w : World) : (callFunc 79 args).run Tryo.prog w = .ok (.enter 79 args) w := call_o Tryo.func79 rfl (by rfl) args w
@[simp] theorem Tryo.call80 (args : Array Value) (w : World) : (callFunc 80 args).run Tryo.prog w = .ok (.enter 80 args) w := call_o Tryo.func80 rfl (by rfl) args w
@[simp] theorem Tryo.call81 (args : Array Value) (w : World) : (callFunc 81 args).run Tryo.prog w = .ok (.enter 81 args) w := call_o Tryo.func81 rfl (by rfl) args w
@[simp] theorem Tryo.call82 (args : Array Value) (w : World) : (callFunc 82 args).run Tryo.prog w = .ok (.enter 82 args) w := call_o Tryo.func82 rfl (by rfl) args w
@[simp] theorem Tryo.call83 (args : Array Value) (w : World) : (callFunc 83 args).run Tryo.prog w = .ok (.enter 83 args) w := call_o Tryo.func83 rfl (by rfl) args w
@[simp] theorem Tryo.call84 (args : Array Value) (w : World) : (callFunc 84 args).run Tryo.prog w = .ok (.enter 84 args) w := call_o Tryo.func84 rfl (by rfl) args w
@[simp] theorem Tryo.call85 (args : Array Value) (w : World) : (callFunc 85 args).run Tryo.prog w = .ok (.enter 85 args) w := call_o Tryo.func85 rfl (by rfl) args w
@[simp] theorem Tryo.call86 (args : Array Value) (w : World) : (callFunc 86 args).run Tryo.prog w = .ok (.enter 86 args) w := call_o Tryo.func86 rfl (by rfl) args w
@[simp] theorem Tryo.call87 (args : Array Value) (w : World) : (callFunc 87 args).run Tryo.prog w = .ok (.enter 87 args) w := call_o Tryo.func87 rfl (by rfl) args w
@[simp] theorem Tryo.call88 (args : Array Value) (w : World) : (callFunc 88 args).run Tryo.prog w = .ok (.enter 88 args) w := call_o Tryo.func88 rfl (by rfl) args w
@[simp] theorem Tryo.call89 (args : Array Value) (w : World) : (callFunc 89 args).run Tryo.prog w = .ok (.enter 89 args) w := call_o Tryo.func89 rfl (by rfl) args w
@[simp] theorem Tryo.call90 (args : Array Value) (w : World) : (callFunc 90 args).run Tryo.prog w = .ok (.enter 90 args) w := call_o Tryo.func90 rfl (by rfl) args w
@[simp] theorem Tryo.call93 (args : Array Value) (w : World) : (callFunc 93 args).run Tryo.prog w = .ok (.enter 93 args) w := call_o Tryo.func93 rfl (by rfl) args w
@[simp] theorem Tryo.call94 (args : Array Value) (w : World) : (callFunc 94 args).run Tryo.prog w = .ok (.enter 94 args) w := call_o Tryo.func94 rfl (by rfl) args w
@[simp] theorem Tryo.call95 (args : Array Value) (w : World) : (callFunc 95 args).run Tryo.prog w = .ok (.enter 95 args) w := call_o Tryo.func95 rfl (by rfl) args w
@[simp] theorem Tryo.call96 (args : Array Value) (w : World) : (callFunc 96 args).run Tryo.prog w = .ok (.enter 96 args) w := call_o Tryo.func96 rfl (by rfl) args w
@[simp] theorem Tryo.call97 (args : Array Value) (w : World) : (callFunc 97 args).run Tryo.prog w = .ok (.enter 97 args) w := call_o Tryo.func97 rfl (by rfl) args w
@[simp] theorem Tryo.call98 (args : Array Value) (w : World) : (callFunc 98 args).run Tryo.prog w = .ok (.enter 98 args) w := call_o Tryo.func98 rfl (by rfl) args w
@[simp] theorem Tryo.call99 (args : Array Value) (w : World) : (callFunc 99 args).run Tryo.prog w = .ok (.enter 99 args) w := call_o Tryo.func99 rfl (by rfl) args w
@[simp] theorem Tryo.call100 (args : Array Value) (w : World) : (callFunc 100 args).run Tryo.prog w = .ok (.enter 100 args) w := call_o Tryo.func100 rfl (by rfl) args w
@[simp] theorem Tryo.call101 (args : Array Value) (w : World) : (callFunc 101 args).run Tryo.prog w = .ok (.enter 101 args) w := call_o Tryo.func101 rfl (by rfl) args w
@[simp] theorem Tryo.call102 (args : Array Value) (w : World) : (callFunc 102 args).run Tryo.prog w = .ok (.enter 102 args) w := call_o Tryo.func102 rfl (by rfl) args w
@[simp] theorem Tryo.call105 (args : Array Value) (w : World) : (callFunc 105 args).run Tryo.prog w = .ok (.enter 105 args) w := call_o Tryo.func105 rfl (by rfl) args w
@[simp] theorem Tryo.call114 (args : Array Value) (w : World) : (callFunc 114 args).run Tryo.prog w = .ok (.enter 114 args) w := call_o Tryo.func114 rfl (by rfl) args w
@[simp] theorem Tryo.call115 (args : Array Value) (w : World) : (callFunc 115 args).run Tryo.prog w = .ok (.enter 115 args) w := call_o Tryo.func115 rfl (by rfl) args w
@[simp] theorem Tryo.call116 (args : Array Value) (w : World) : (callFunc 116 args).run Tryo.prog w = .ok (.enter 116 args) w := call_o Tryo.func116 rfl (by rfl) args w
@[simp] theorem Tryo.call117 (args : Array Value) (w : World) : (callFunc 117 args).run Tryo.prog w = .ok (.enter 117 args) w := call_o Tryo.func117 rfl (by rfl) args w
@[simp] theorem Tryo.call118 (args : Array Value) (w : World) : (callFunc 118 args).run Tryo.prog w = .ok (.enter 118 args) w := call_o Tryo.func118 rfl (by rfl) args w
@[simp] theorem Tryo.call119 (args : Array Value) (w : World) : (callFunc 119 args).run Tryo.prog w = .ok (.enter 119 args) w := call_o Tryo.func119 rfl (by rfl) args w
@[simp] theorem Tryo.call120 (args : Array Value) (w : World) : (callFunc 120 args).run Tryo.prog w = .ok (.enter 120 args) w := call_o Tryo.func120 rfl (by rfl) args w
@[simp] theorem Tryo.call121 (args : Array Value) (w : World) : (callFunc 121 args).run Tryo.prog w = .ok (.enter 121 args) w := call_o Tryo.func121 rfl (by rfl) args w
@[simp] theorem Tryo.call122 (args : Array Value) (w : World) : (callFunc 122 args).run Tryo.prog w = .ok (.enter 122 args) w := call_o Tryo.func122 rfl (by rfl) args w
@[simp] theorem Tryo.call123 (args : Array Value) (w : World) : (callFunc 123 args).run Tryo.prog w = .ok (.enter 123 args) w := call_o Tryo.func123 rfl (by rfl) args w
@[simp] theorem Tryo.call124 (args : Array Value) (w : World) : (callFunc 124 args).run Tryo.prog w = .ok (.enter 124 args) w := call_o Tryo.func124 rfl (by rfl) args w
@[simp] theorem Tryo.call128 (args : Array Value) (w : World) : (callFunc 128 args).run Tryo.prog w = .ok (.enter 128 args) w := call_o Tryo.func128 rfl (by rfl) args w
@[simp] theorem Tryo.call129 (args : Array Value) (w : World) : (callFunc 129 args).run Tryo.prog w = .ok (.enter 129 args) w := call_o Tryo.func129 rfl (by rfl) args w
@[simp] theorem Tryo.call138 (args : Array Value) (w : World) : (callFunc 138 args).run Tryo.prog w = .ok (.enter 138 args) w := call_o Tryo.func138 rfl (by rfl) args w
@[simp] theorem Tryo.call139 (args : Array Value) (w : World) : (callFunc 139 args).run Tryo.prog w = .ok (.enter 139 args) w := call_o Tryo.func139 rfl (by rfl) args w
@[simp] theorem Tryo.call140 (args : Array Value) (w : World) : (callFunc 140 args).run Tryo.prog w = .ok (.enter 140 args) w := call_o Tryo.func140 rfl (by rfl) args w
@[simp] theorem Tryo.call141 (args : Array Value) (w : World) : (callFunc 141 args).run Tryo.prog w = .ok (.enter 141 args) w := call_o Tryo.func141 rfl (by rfl) args w
@[simp] theorem Tryo.call142 (args : Array Value) (w : World) : (callFunc 142 args).run Tryo.prog w = .ok (.enter 142 args) w := call_o Tryo.func142 rfl (by rfl) args w
@[simp] theorem Tryo.call143 (args : Array Value) (w : World) : (callFunc 143 args).run Tryo.prog w = .ok (.enter 143 args) w := call_o Tryo.func143 rfl (by rfl) args w
@[simp] theorem Tryo.call144 (args : Array Value) (w : World) : (callFunc 144 args).run Tryo.prog w = .ok (.enter 144 args) w := call_o Tryo.func144 rfl (by rfl) args w
@[simp] theorem Tryo.call145 (args : Array Value) (w : World) : (callFunc 145 args).run Tryo.prog w = .ok (.enter 145 args) w := call_o Tryo.func145 rfl (by rfl) args w
@[simp] theorem Tryo.call146 (args : Array Value) (w : World) : (callFunc 146 args).run Tryo.prog w = .ok (.enter 146 args) w := call_o Tryo.func146 rfl (by rfl) args w
@[simp] theorem Tryo.call147 (args : Array Value) (w : World) : (callFunc 147 args).run Tryo.prog w = .ok (.enter 147 args) w := call_o Tryo.func147 rfl (by rfl) args w
@[simp] theorem Tryo.call148 (args : Array Value) (w : World) : (callFunc 148 args).run Tryo.prog w = .ok (.enter 148 args) w := call_o Tryo.func148 rfl (by rfl) args w
@[simp] theorem Tryo.call149 (args : Array Value) (w : World) : (callFunc 149 args).run Tryo.prog w = .ok (.enter 149 args) w := call_o Tryo.func149 rfl (by rfl) args w
@[simp] theorem Tryo.call150 (args : Array Value) (w : World) : (callFunc 150 args).run Tryo.prog w = .ok (.enter 150 args) w := call_o Tryo.func150 rfl (by rfl) args w
@[simp] theorem Tryo.call151 (args : Array Value) (w : World) : (callFunc 151 args).run Tryo.prog w = .ok (.enter 151 args) w := call_o Tryo.func151 rfl (by rfl) args w
@[simp] theorem Tryo.call152 (args : Array Value) (w : World) : (callFunc 152 args).run Tryo.prog w = .ok (.enter 152 args) w := call_o Tryo.func152 rfl (by rfl) args w
@[simp] theorem Tryo.call153 (args : Array Value) (w : World) : (callFunc 153 args).run Tryo.prog w = .ok (.enter 153 args) w := call_o Tryo.func153 rfl (by rfl) args w
@[simp] theorem Tryo.call155 (args : Array Value) (w : World) : (callFunc 155 args).run Tryo.prog w = .ok (.enter 155 args) w := call_o Tryo.func155 rfl (by rfl) args w
@[simp] theorem Tryo.call156 (args : Array Value) (w : World) : (callFunc 156 args).run Tryo.prog w = .ok (.enter 156 args) w := call_o Tryo.func156 rfl (by rfl) args w
@[simp] theorem Tryo.call157 (args : Array Value) (w : World) : (callFunc 157 args).run Tryo.prog w = .ok (.enter 157 args) w := call_o Tryo.func157 rfl (by rfl) args w
@[simp] theorem Tryo.call158 (args : Array Value) (w : World) : (callFunc 158 args).run Tryo.prog w = .ok (.enter 158 args) w := call_o Tryo.func158 rfl (by rfl) args w
@[simp] theorem Tryo.call159 (args : Array Value) (w : World) : (callFunc 159 args).run Tryo.prog w = .ok (.enter 159 args) w := call_o Tryo.func159 rfl (by rfl) args w
@[simp] theorem Tryo.call160 (args : Array Value) (w : World) : (callFunc 160 args).run Tryo.prog w = .ok (.enter 160 args) w := call_o Tryo.func160 rfl (by rfl) args w
@[simp] theorem Tryo.call161 (args : Array Value) (w : World) : (callFunc 161 args).run Tryo.prog w = .ok (.enter 161 args) w := call_o Tryo.func161 rfl (by rfl) args w
@[simp] theorem Tryo.call169 (args : Array Value) (w : World) : (callFunc 169 args).run Tryo.prog w = .ok (.enter 169 args) w := call_o Tryo.func169 rfl (by rfl) args w
@[simp] theorem Tryo.call176 (args : Array Value) (w : World) : (callFunc 176 args).run Tryo.prog w = .ok (.enter 176 args) w := call_o Tryo.func176 rfl (by rfl) args w
@[simp] theorem Tryo.call177 (args : Array Value) (w : World) : (callFunc 177 args).run Tryo.prog w = .ok (.enter 177 args) w := call_o Tryo.func177 rfl (by rfl) args w
@[simp] theorem Tryo.call178 (args : Array Value) (w : World) : (callFunc 178 args).run Tryo.prog w = .ok (.enter 178 args) w := call_o Tryo.func178 rfl (by rfl) args w
@[simp] theorem Tryo.call179 (args : Array Value) (w : World) : (callFunc 179 args).run Tryo.prog w = .ok (.enter 179 args) w := call_o Tryo.func179 rfl (by rfl) args w
@[simp] theorem Tryo.call180 (args : Array Value) (w : World) : (callFunc 180 args).run Tryo.prog w = .ok (.enter 180 args) w := call_o Tryo.func180 rfl (by rfl) args w
@[simp] theorem Tryo.call188 (args : Array Value) (w : World) : (callFunc 188 args).run Tryo.prog w = .ok (.enter 188 args) w := call_o Tryo.func188 rfl (by rfl) args w
@[simp] theorem Tryo.call189 (args : Array Value) (w : World) : (callFunc 189 args).run Tryo.prog w = .ok (.enter 189 args) w := call_o Tryo.func189 rfl (by rfl) args w
@[simp] theorem Tryo.call190 (args : Array Value) (w : World) : (callFunc 190 args).run Tryo.prog w = .ok (.enter 190 args) w := call_o Tryo.func190 rfl (by rfl) args w
@[simp] theorem Tryo.call191 (args : Array Value) (w : World) : (callFunc 191 args).run Tryo.prog w = .ok (.enter 191 args) w := call_o Tryo.func191 rfl (by rfl) args w
@[simp] theorem Tryo.call193 (args : Array Value) (w : World) : (callFunc 193 args).run Tryo.prog w = .ok (.enter 193 args) w := call_o Tryo.func193 rfl (by rfl) args w
@[simp] theorem Tryo.call194 (args : Array Value) (w : World) : (callFunc 194 args).run Tryo.prog w = .ok (.enter 194 args) w := call_o Tryo.func194 rfl (by rfl) args w
@[simp] theorem Tryo.call195 (args : Array Value) (w : World) : (callFunc 195 args).run Tryo.prog w = .ok (.enter 195 args) w := call_o Tryo.func195 rfl (by rfl) args w
@[simp] theorem Tryo.call223 (args : Array Value) (w : World) : (callFunc 223 args).run Tryo.prog w = .ok (.enter 223 args) w := call_o Tryo.func223 rfl (by rfl) args w
@[simp] theorem Tryo.call224 (args : Array Value) (w : World) : (callFunc 224 args).run Tryo.prog w = .ok (.enter 224 args) w := call_o Tryo.func224 rfl (by rfl) args w
@[simp] theorem Tryo.call225 (args : Array Value) (w : World) : (callFunc 225 args).run Tryo.prog w = .ok (.enter 225 args) w := call_o Tryo.func225 rfl (by rfl) args w
@[simp] theorem Tryo.call236 (args : Array Value) (w : World) : (callFunc 236 args).run Tryo.prog w = .ok (.enter 236 args) w := call_o Tryo.func236 rfl (by rfl) args w
@[simp] theorem Tryo.call237 (args : Array Value) (w : World) : (callFunc 237 args).run Tryo.prog w = .ok (.enter 237 args) w := call_o Tryo.func237 rfl (by rfl) args w
@[simp] theorem Tryo.call257 (args : Array Value) (w : World) : (callFunc 257 args).run Tryo.prog w = .ok (.enter 257 args) w := call_o Tryo.func257 rfl (by rfl) args w
@[simp] theorem Tryo.call258 (args : Array Value) (w : World) : (callFunc 258 args).run Tryo.prog w = .ok (.enter 258 args) w := call_o Tryo.func258 rfl (by rfl) args w
@[simp] theorem Tryo.call259 (args : Array Value) (w : World) : (callFunc 259 args).run Tryo.prog w = .ok (.enter 259 args) w := call_o Tryo.func259 rfl (by rfl) args w
@[simp] theorem Tryo.call268 (args : Array Value) (w : World) : (callFunc 268 args).run Tryo.prog w = .ok (.enter 268 args) w := call_o Tryo.func268 rfl (by rfl) args w
@[simp] theorem Tryo.call276 (args : Array Value) (w : World) : (callFunc 276 args).run Tryo.prog w = .ok (.enter 276 args) w := call_o Tryo.func276 rfl (by rfl) args w
@[simp] theorem Tryo.call277 (args : Array Value) (w : World) : (callFunc 277 args).run Tryo.prog w = .ok (.enter 277 args) w := call_o Tryo.func277 rfl (by rfl) args w
@[simp] theorem Tryo.call278 (args : Array Value) (w : World) : (callFunc 278 args).run Tryo.prog w = .ok (.enter 278 args) w := call_o Tryo.func278 rfl (by rfl) args w
@[simp] theorem Tryo.call285 (args : Array Value) (w : World) : (callFunc 285 args).run Tryo.prog w = .ok (.enter 285 args) w := call_o Tryo.func285 rfl (by rfl) args w
@[simp] theorem Tryo.call286 (args : Array Value) (w : World) : (callFunc 286 args).run Tryo.prog w = .ok (.enter 286 args) w := call_o Tryo.func286 rfl (by rfl) args w
@[simp] theorem Tryo.call287 (args : Array Value) (w : World) : (callFunc 287 args).run Tryo.prog w = .ok (.enter 287 args) w := call_o Tryo.func287 rfl (by rfl) args w
@[simp] theorem Tryo.call288 (args : Array Value) (w : World) : (callFunc 288 args).run Tryo.prog w = .ok (.enter 288 args) w := call_o Tryo.func288 rfl (by rfl) args w
@[simp] theorem Tryo.call289 (args : Array Value) (w : World) : (callFunc 289 args).run Tryo.prog w = .ok (.enter 289 args) w := call_o Tryo.func289 rfl (by rfl) args w
@[simp] theorem Tryo.call290 (args : Array Value) (w : World) : (callFunc 290 args).run Tryo.prog w = .ok (.enter 290 args) w := call_o Tryo.func290 rfl (by rfl) args w
@[simp] theorem Tryo.call291 (args : Array Value) (w : World) : (callFunc 291 args).run Tryo.prog w = .ok (.enter 291 args) w := call_o Tryo.func291 rfl (by rfl) args w
@[simp] theorem Tryo.call292 (args : Array Value) (w : World) : (callFunc 292 args).run Tryo.prog w = .ok (.enter 292 args) w := call_o Tryo.func292 rfl (by rfl) args w
@[simp] theorem Tryo.call293 (args : Array Value) (w : World) : (callFunc 293 args).run Tryo.prog w = .ok (.enter 293 args) w := call_o Tryo.func293 rfl (by rfl) args w
@[simp] theorem Tryo.call294 (args : Array Value) (w : World) : (callFunc 294 args).run Tryo.prog w = .ok (.enter 294 args) w := call_o Tryo.func294 rfl (by rfl) args w
@[simp] theorem Tryo.call295 (args : Array Value) (w : World) : (callFunc 295 args).run Tryo.prog w = .ok (.enter 295 args) w := call_o Tryo.func295 rfl (by rfl) args w
@[simp] theorem Tryo.call296 (args : Array Value) (w : World) : (callFunc 296 args).run Tryo.prog w = .ok (.enter 296 args) w := call_o Tryo.func296 rfl (by rfl) args w
@[simp] theorem Tryo.call297 (args : Array Value) (w : World) : (callFunc 297 args).run Tryo.prog w = .ok (.enter 297 args) w := call_o Tryo.func297 rfl (by rfl) args w
@[simp] theorem Tryo.call298 (args : Array Value) (w : World) : (callFunc 298 args).run Tryo.prog w = .ok (.enter 298 args) w := call_o Tryo.func298 rfl (by rfl) args w
@[simp] theorem Tryo.call299 (args : Array Value) (w : World) : (callFunc 299 args).run Tryo.prog w = .ok (.enter 299 args) w := call_o Tryo.func299 rfl (by rfl) args w
@[simp] theorem Tryo.call300 (args : Array Value) (w : World) : (callFunc 300 args).run Tryo.prog w = .ok (.enter 300 args) w := call_o Tryo.func300 rfl (by rfl) args w
end Go.Proofs
