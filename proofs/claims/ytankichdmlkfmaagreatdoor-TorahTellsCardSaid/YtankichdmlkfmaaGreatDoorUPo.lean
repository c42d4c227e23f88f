/- The program with saturdays told in one goroutine, under its own alias: the facts that walks ask of it. -/
import Derived.Test.YtankichdmlkfmaaGreatDoorVGS
import Derived.Test.YtankichdmlkfmaaGreatDoorVGB
set_option linter.unusedSimpArgs false
set_option linter.unusedVariables false
set_option maxRecDepth 100000
namespace Go.Proofs
open Go Go.Sq Go.Proofs.YtankichdmlkfmaaGreatDoor.Sat
noncomputable def Tryo.prog : Program := sw Tryz.prog FO
@[simp] theorem Tryo.toTables : Tryo.prog.toTables = Tryz.prog.toTables := tables_sw _ _
@[simp] theorem Tryo.typeInfo (t : TypeId) (w : World) : (Go.typeInfo t).run Tryo.prog w = (Go.typeInfo t).run Tryz.prog w := o_typeInfo _ _ t w
@[simp] theorem Tryo.sizeOf (t : TypeId) (w : World) : (Go.sizeOf t).run Tryo.prog w = (Go.sizeOf t).run Tryz.prog w := o_sizeOf _ _ t w
@[simp] theorem Tryo.runUnderlying (t : TypeId) (w : World) : (Go.underlying t).run Tryo.prog w = (Go.underlying t).run Tryz.prog w := o_underlying _ _ t w
@[simp] theorem Tryo.isAgg (t : TypeId) (w : World) : (Go.isAgg t).run Tryo.prog w = (Go.isAgg t).run Tryz.prog w := o_isAgg _ _ t w
@[simp] theorem Tryo.zeroValue (t : TypeId) (w : World) : (Go.zeroValue t).run Tryo.prog w = (Go.zeroValue t).run Tryz.prog w := o_zeroValue _ _ t w
@[simp] theorem Tryo.underlying (t : TypeId) : Tryo.prog.underlying t = Tryz.prog.underlying t := under_sw' _ _ t
@[simp] theorem Tryo.depth : Tryo.prog.depth = Tryz.prog.depth := depth_sw
@[simp] theorem Tryo.eqGuardType (n : Nat) (t : TypeId) : Tryo.prog.eqGuardType n t = Tryz.prog.eqGuardType n t := eqGuardType_sw n t
@[simp] theorem Tryo.stoodInHeld (t : TypeId) : Tryo.prog.stoodInHeld t = Tryz.prog.stoodInHeld t := stoodInHeld_sw t
theorem und_o {t : TypeId} {d : Option TypeDesc} (h : Tryz.prog.underlying t = d) : Tryo.prog.underlying t = d := (Tryo.underlying t).trans h
theorem run_o {α : Type} {s : Sem α} {r : World → Result α} (e : ∀ w, s.run Tryo.prog w = s.run Tryz.prog w) (h : ∀ w, s.run Tryz.prog w = r w) (w : World) : s.run Tryo.prog w = r w := (e w).trans (h w)
theorem eqg_o {t : TypeId} {b : Bool} (h : Tryz.prog.eqGuardType Tryz.prog.depth t = b) : Tryo.prog.eqGuardType Tryo.prog.depth t = b := by
 rw [Tryo.depth, Tryo.eqGuardType]; exact h
theorem sih_o {t : TypeId} {b : Bool} (h : Tryz.prog.stoodInHeld t = b) : Tryo.prog.stoodInHeld t = b := by
 rw [Tryo.stoodInHeld]; exact h
theorem fn_o {i : Nat} {f : Func} (h : Tryz.prog.funcs[i]? = some f) (hi : i ≠ 76) : Tryo.prog.funcs[i]? = some f := ((funcs_sw Tryz.prog FO i).trans (FO_ne hi)).trans h
theorem call_o {n : Nat} {fn : Func} {c : Code} (hf : Tryo.prog.funcs[n]? = some fn) (hb : fn.body = some c) (hn : (fn.name == "runtime.NumGoroutine") = false) (args : Array Value) (w : World) : (callFunc n args).run Tryo.prog w = .ok (.enter n args) w := o_call _ hf hb hn args w
@[simp] theorem Tryo.func3 : Tryo.prog.funcs[3]? = some Tryz.f3 := fn_o Tryz.func3 (by decide)
@[simp] theorem Tryo.func7 : Tryo.prog.funcs[7]? = some Tryz.f7 := fn_o Tryz.func7 (by decide)
@[simp] theorem Tryo.func8 : Tryo.prog.funcs[8]? = some Tryz.f8 := fn_o Tryz.func8 (by decide)
@[simp] theorem Tryo.func9 : Tryo.prog.funcs[9]? = some Tryz.f9 := fn_o Tryz.func9 (by decide)
@[simp] theorem Tryo.func10 : Tryo.prog.funcs[10]? = some Tryz.f10 := fn_o Tryz.func10 (by decide)
@[simp] theorem Tryo.func11 : Tryo.prog.funcs[11]? = some Tryz.f11 := fn_o Tryz.func11 (by decide)
@[simp] theorem Tryo.func12 : Tryo.prog.funcs[12]? = some Tryz.f12 := fn_o Tryz.func12 (by decide)
@[simp] theorem Tryo.func13 : Tryo.prog.funcs[13]? = some Tryz.f13 := fn_o Tryz.func13 (by decide)
@[simp] theorem Tryo.func14 : Tryo.prog.funcs[14]? = some Tryz.f14 := fn_o Tryz.func14 (by decide)
@[simp] theorem Tryo.func15 : Tryo.prog.funcs[15]? = some Tryz.f15 := fn_o Tryz.func15 (by decide)
@[simp] theorem Tryo.func16 : Tryo.prog.funcs[16]? = some Tryz.f16 := fn_o Tryz.func16 (by decide)
@[simp] theorem Tryo.func18 : Tryo.prog.funcs[18]? = some Tryz.f18 := fn_o Tryz.func18 (by decide)
@[simp] theorem Tryo.func21 : Tryo.prog.funcs[21]? = some Tryz.f21 := fn_o Tryz.func21 (by decide)
@[simp] theorem Tryo.func23 : Tryo.prog.funcs[23]? = some Tryz.f23 := fn_o Tryz.func23 (by decide)
@[simp] theorem Tryo.func24 : Tryo.prog.funcs[24]? = some Tryz.f24 := fn_o Tryz.func24 (by decide)
@[simp] theorem Tryo.func27 : Tryo.prog.funcs[27]? = some Tryz.f27 := fn_o Tryz.func27 (by decide)
@[simp] theorem Tryo.func28 : Tryo.prog.funcs[28]? = some Tryz.f28 := fn_o Tryz.func28 (by decide)
@[simp] theorem Tryo.func32 : Tryo.prog.funcs[32]? = some Tryz.f32 := fn_o Tryz.func32 (by decide)
@[simp] theorem Tryo.func34 : Tryo.prog.funcs[34]? = some Tryz.f34 := fn_o Tryz.func34 (by decide)
@[simp] theorem Tryo.func35 : Tryo.prog.funcs[35]? = some Tryz.f35 := fn_o Tryz.func35 (by decide)
@[simp] theorem Tryo.func36 : Tryo.prog.funcs[36]? = some Tryz.f36 := fn_o Tryz.func36 (by decide)
@[simp] theorem Tryo.func37 : Tryo.prog.funcs[37]? = some Tryz.f37 := fn_o Tryz.func37 (by decide)
@[simp] theorem Tryo.func38 : Tryo.prog.funcs[38]? = some Tryz.f38 := fn_o Tryz.func38 (by decide)
@[simp] theorem Tryo.func39 : Tryo.prog.funcs[39]? = some Tryz.f39 := fn_o Tryz.func39 (by decide)
@[simp] theorem Tryo.func40 : Tryo.prog.funcs[40]? = some Tryz.f40 := fn_o Tryz.func40 (by decide)
@[simp] theorem Tryo.func41 : Tryo.prog.funcs[41]? = some Tryz.f41 := fn_o Tryz.func41 (by decide)
@[simp] theorem Tryo.func42 : Tryo.prog.funcs[42]? = some Tryz.f42 := fn_o Tryz.func42 (by decide)
@[simp] theorem Tryo.func43 : Tryo.prog.funcs[43]? = some Tryz.f43 := fn_o Tryz.func43 (by decide)
@[simp] theorem Tryo.func44 : Tryo.prog.funcs[44]? = some Tryz.f44 := fn_o Tryz.func44 (by decide)
@[simp] theorem Tryo.func50 : Tryo.prog.funcs[50]? = some Tryz.f50 := fn_o Tryz.func50 (by decide)
@[simp] theorem Tryo.func58 : Tryo.prog.funcs[58]? = some Tryz.f58 := fn_o Tryz.func58 (by decide)
@[simp] theorem Tryo.func59 : Tryo.prog.funcs[59]? = some Tryz.f59 := fn_o Tryz.func59 (by decide)
@[simp] theorem Tryo.func60 : Tryo.prog.funcs[60]? = some Tryz.f60 := fn_o Tryz.func60 (by decide)
@[simp] theorem Tryo.func61 : Tryo.prog.funcs[61]? = some Tryz.f61 := fn_o Tryz.func61 (by decide)
@[simp] theorem Tryo.func64 : Tryo.prog.funcs[64]? = some Tryz.f64 := fn_o Tryz.func64 (by decide)
@[simp] theorem Tryo.func65 : Tryo.prog.funcs[65]? = some Tryz.f65 := fn_o Tryz.func65 (by decide)
@[simp] theorem Tryo.func66 : Tryo.prog.funcs[66]? = some Tryz.f66 := fn_o Tryz.func66 (by decide)
@[simp] theorem Tryo.func67 : Tryo.prog.funcs[67]? = some Tryz.f67 := fn_o Tryz.func67 (by decide)
@[simp] theorem Tryo.func68 : Tryo.prog.funcs[68]? = some Tryz.f68 := fn_o Tryz.func68 (by decide)
@[simp] theorem Tryo.func69 : Tryo.prog.funcs[69]? = some Tryz.f69 := fn_o Tryz.func69 (by decide)
@[simp] theorem Tryo.func75 : Tryo.prog.funcs[75]? = some Tryz.f75 := fn_o Tryz.func75 (by decide)
@[simp] theorem Tryo.func76 : Tryo.prog.funcs[76]? = some satO := (funcs_sw Tryz.prog FO 76).trans FO_sat
@[simp] theorem Tryo.func77 : Tryo.prog.funcs[77]? = some Tryz.f77 := fn_o Tryz.func77 (by decide)
@[simp] theorem Tryo.func78 : Tryo.prog.funcs[78]? = some Tryz.f78 := fn_o Tryz.func78 (by decide)
@[simp] theorem Tryo.func79 : Tryo.prog.funcs[79]? = some Tryz.f79 := fn_o Tryz.func79 (by decide)
@[simp] theorem Tryo.func80 : Tryo.prog.funcs[80]? = some Tryz.f80 := fn_o Tryz.func80 (by decide)
@[simp] theorem Tryo.func81 : Tryo.prog.funcs[81]? = some Tryz.f81 := fn_o Tryz.func81 (by decide)
@[simp] theorem Tryo.func82 : Tryo.prog.funcs[82]? = some Tryz.f82 := fn_o Tryz.func82 (by decide)
@[simp] theorem Tryo.func83 : Tryo.prog.funcs[83]? = some Tryz.f83 := fn_o Tryz.func83 (by decide)
@[simp] theorem Tryo.func84 : Tryo.prog.funcs[84]? = some Tryz.f84 := fn_o Tryz.func84 (by decide)
@[simp] theorem Tryo.func85 : Tryo.prog.funcs[85]? = some Tryz.f85 := fn_o Tryz.func85 (by decide)
@[simp] theorem Tryo.func86 : Tryo.prog.funcs[86]? = some Tryz.f86 := fn_o Tryz.func86 (by decide)
@[simp] theorem Tryo.func87 : Tryo.prog.funcs[87]? = some Tryz.f87 := fn_o Tryz.func87 (by decide)
@[simp] theorem Tryo.func88 : Tryo.prog.funcs[88]? = some Tryz.f88 := fn_o Tryz.func88 (by decide)
@[simp] theorem Tryo.func89 : Tryo.prog.funcs[89]? = some Tryz.f89 := fn_o Tryz.func89 (by decide)
@[simp] theorem Tryo.func90 : Tryo.prog.funcs[90]? = some Tryz.f90 := fn_o Tryz.func90 (by decide)
@[simp] theorem Tryo.func91 : Tryo.prog.funcs[91]? = some Tryz.f91 := fn_o Tryz.func91 (by decide)
@[simp] theorem Tryo.func92 : Tryo.prog.funcs[92]? = some Tryz.f92 := fn_o Tryz.func92 (by decide)
@[simp] theorem Tryo.func93 : Tryo.prog.funcs[93]? = some Tryz.f93 := fn_o Tryz.func93 (by decide)
@[simp] theorem Tryo.func94 : Tryo.prog.funcs[94]? = some Tryz.f94 := fn_o Tryz.func94 (by decide)
@[simp] theorem Tryo.func95 : Tryo.prog.funcs[95]? = some Tryz.f95 := fn_o Tryz.func95 (by decide)
@[simp] theorem Tryo.func101 : Tryo.prog.funcs[101]? = some Tryz.f101 := fn_o Tryz.func101 (by decide)
@[simp] theorem Tryo.func102 : Tryo.prog.funcs[102]? = some Tryz.f102 := fn_o Tryz.func102 (by decide)
@[simp] theorem Tryo.func109 : Tryo.prog.funcs[109]? = some Tryz.f109 := fn_o Tryz.func109 (by decide)
@[simp] theorem Tryo.func110 : Tryo.prog.funcs[110]? = some Tryz.f110 := fn_o Tryz.func110 (by decide)
@[simp] theorem Tryo.func111 : Tryo.prog.funcs[111]? = some Tryz.f111 := fn_o Tryz.func111 (by decide)
@[simp] theorem Tryo.func112 : Tryo.prog.funcs[112]? = some Tryz.f112 := fn_o Tryz.func112 (by decide)
@[simp] theorem Tryo.func113 : Tryo.prog.funcs[113]? = some Tryz.f113 := fn_o Tryz.func113 (by decide)
@[simp] theorem Tryo.func114 : Tryo.prog.funcs[114]? = some Tryz.f114 := fn_o Tryz.func114 (by decide)
@[simp] theorem Tryo.func118 : Tryo.prog.funcs[118]? = some Tryz.f118 := fn_o Tryz.func118 (by decide)
@[simp] theorem Tryo.func119 : Tryo.prog.funcs[119]? = some Tryz.f119 := fn_o Tryz.func119 (by decide)
@[simp] theorem Tryo.func120 : Tryo.prog.funcs[120]? = some Tryz.f120 := fn_o Tryz.func120 (by decide)
@[simp] theorem Tryo.func121 : Tryo.prog.funcs[121]? = some Tryz.f121 := fn_o Tryz.func121 (by decide)
@[simp] theorem Tryo.func133 : Tryo.prog.funcs[133]? = some Tryz.f133 := fn_o Tryz.func133 (by decide)
@[simp] theorem Tryo.func134 : Tryo.prog.funcs[134]? = some Tryz.f134 := fn_o Tryz.func134 (by decide)
@[simp] theorem Tryo.func135 : Tryo.prog.funcs[135]? = some Tryz.f135 := fn_o Tryz.func135 (by decide)
@[simp] theorem Tryo.func136 : Tryo.prog.funcs[136]? = some Tryz.f136 := fn_o Tryz.func136 (by decide)
@[simp] theorem Tryo.func137 : Tryo.prog.funcs[137]? = some Tryz.f137 := fn_o Tryz.func137 (by decide)
@[simp] theorem Tryo.func138 : Tryo.prog.funcs[138]? = some Tryz.f138 := fn_o Tryz.func138 (by decide)
@[simp] theorem Tryo.func139 : Tryo.prog.funcs[139]? = some Tryz.f139 := fn_o Tryz.func139 (by decide)
@[simp] theorem Tryo.func140 : Tryo.prog.funcs[140]? = some Tryz.f140 := fn_o Tryz.func140 (by decide)
@[simp] theorem Tryo.func141 : Tryo.prog.funcs[141]? = some Tryz.f141 := fn_o Tryz.func141 (by decide)
@[simp] theorem Tryo.func142 : Tryo.prog.funcs[142]? = some Tryz.f142 := fn_o Tryz.func142 (by decide)
@[simp] theorem Tryo.func143 : Tryo.prog.funcs[143]? = some Tryz.f143 := fn_o Tryz.func143 (by decide)
@[simp] theorem Tryo.func144 : Tryo.prog.funcs[144]? = some Tryz.f144 := fn_o Tryz.func144 (by decide)
@[simp] theorem Tryo.func145 : Tryo.prog.funcs[145]? = some Tryz.f145 := fn_o Tryz.func145 (by decide)
@[simp] theorem Tryo.func146 : Tryo.prog.funcs[146]? = some Tryz.f146 := fn_o Tryz.func146 (by decide)
@[simp] theorem Tryo.func149 : Tryo.prog.funcs[149]? = some Tryz.f149 := fn_o Tryz.func149 (by decide)
@[simp] theorem Tryo.func150 : Tryo.prog.funcs[150]? = some Tryz.f150 := fn_o Tryz.func150 (by decide)
@[simp] theorem Tryo.func151 : Tryo.prog.funcs[151]? = some Tryz.f151 := fn_o Tryz.func151 (by decide)
@[simp] theorem Tryo.func157 : Tryo.prog.funcs[157]? = some Tryz.f157 := fn_o Tryz.func157 (by decide)
@[simp] theorem Tryo.func158 : Tryo.prog.funcs[158]? = some Tryz.f158 := fn_o Tryz.func158 (by decide)
@[simp] theorem Tryo.func159 : Tryo.prog.funcs[159]? = some Tryz.f159 := fn_o Tryz.func159 (by decide)
@[simp] theorem Tryo.func160 : Tryo.prog.funcs[160]? = some Tryz.f160 := fn_o Tryz.func160 (by decide)
@[simp] theorem Tryo.func161 : Tryo.prog.funcs[161]? = some Tryz.f161 := fn_o Tryz.func161 (by decide)
@[simp] theorem Tryo.func162 : Tryo.prog.funcs[162]? = some Tryz.f162 := fn_o Tryz.func162 (by decide)
@[simp] theorem Tryo.func168 : Tryo.prog.funcs[168]? = some Tryz.f168 := fn_o Tryz.func168 (by decide)
@[simp] theorem Tryo.func169 : Tryo.prog.funcs[169]? = some Tryz.f169 := fn_o Tryz.func169 (by decide)
@[simp] theorem Tryo.func170 : Tryo.prog.funcs[170]? = some Tryz.f170 := fn_o Tryz.func170 (by decide)
@[simp] theorem Tryo.func191 : Tryo.prog.funcs[191]? = some Tryz.f191 := fn_o Tryz.func191 (by decide)
@[simp] theorem Tryo.func192 : Tryo.prog.funcs[192]? = some Tryz.f192 := fn_o Tryz.func192 (by decide)
@[simp] theorem Tryo.func193 : Tryo.prog.funcs[193]? = some Tryz.f193 := fn_o Tryz.func193 (by decide)
@[simp] theorem Tryo.func194 : Tryo.prog.funcs[194]? = some Tryz.f194 := fn_o Tryz.func194 (by decide)
@[simp] theorem Tryo.func195 : Tryo.prog.funcs[195]? = some Tryz.f195 := fn_o Tryz.func195 (by decide)
@[simp] theorem Tryo.func196 : Tryo.prog.funcs[196]? = some Tryz.f196 := fn_o Tryz.func196 (by decide)
@[simp] theorem Tryo.func197 : Tryo.prog.funcs[197]? = some Tryz.f197 := fn_o Tryz.func197 (by decide)
@[simp] theorem Tryo.func198 : Tryo.prog.funcs[198]? = some Tryz.f198 := fn_o Tryz.func198 (by decide)
@[simp] theorem Tryo.func199 : Tryo.prog.funcs[199]? = some Tryz.f199 := fn_o Tryz.func199 (by decide)
@[simp] theorem Tryo.func200 : Tryo.prog.funcs[200]? = some Tryz.f200 := fn_o Tryz.func200 (by decide)
@[simp] theorem Tryo.func201 : Tryo.prog.funcs[201]? = some Tryz.f201 := fn_o Tryz.func201 (by decide)
@[simp] theorem Tryo.func202 : Tryo.prog.funcs[202]? = some Tryz.f202 := fn_o Tryz.func202 (by decide)
@[simp] theorem Tryo.func203 : Tryo.prog.funcs[203]? = some Tryz.f203 := fn_o Tryz.func203 (by decide)
@[simp] theorem Tryo.func204 : Tryo.prog.funcs[204]? = some Tryz.f204 := fn_o Tryz.func204 (by decide)
@[simp] theorem Tryo.func205 : Tryo.prog.funcs[205]? = some Tryz.f205 := fn_o Tryz.func205 (by decide)
@[simp] theorem Tryo.func206 : Tryo.prog.funcs[206]? = some Tryz.f206 := fn_o Tryz.func206 (by decide)
@[simp] theorem Tryo.func207 : Tryo.prog.funcs[207]? = some Tryz.f207 := fn_o Tryz.func207 (by decide)
@[simp] theorem Tryo.func208 : Tryo.prog.funcs[208]? = some Tryz.f208 := fn_o Tryz.func208 (by decide)
@[simp] theorem Tryo.func209 : Tryo.prog.funcs[209]? = some Tryz.f209 := fn_o Tryz.func209 (by decide)
@[simp] theorem Tryo.func210 : Tryo.prog.funcs[210]? = some Tryz.f210 := fn_o Tryz.func210 (by decide)
@[simp] theorem Tryo.func211 : Tryo.prog.funcs[211]? = some Tryz.f211 := fn_o Tryz.func211 (by decide)
@[simp] theorem Tryo.func212 : Tryo.prog.funcs[212]? = some Tryz.f212 := fn_o Tryz.func212 (by decide)
@[simp] theorem Tryo.func213 : Tryo.prog.funcs[213]? = some Tryz.f213 := fn_o Tryz.func213 (by decide)
@[simp] theorem Tryo.func214 : Tryo.prog.funcs[214]? = some Tryz.f214 := fn_o Tryz.func214 (by decide)
@[simp] theorem Tryo.func220 : Tryo.prog.funcs[220]? = some Tryz.f220 := fn_o Tryz.func220 (by decide)
@[simp] theorem Tryo.func221 : Tryo.prog.funcs[221]? = some Tryz.f221 := fn_o Tryz.func221 (by decide)
@[simp] theorem Tryo.func222 : Tryo.prog.funcs[222]? = some Tryz.f222 := fn_o Tryz.func222 (by decide)
@[simp] theorem Tryo.func223 : Tryo.prog.funcs[223]? = some Tryz.f223 := fn_o Tryz.func223 (by decide)
@[simp] theorem Tryo.func224 : Tryo.prog.funcs[224]? = some Tryz.f224 := fn_o Tryz.func224 (by decide)
@[simp] theorem Tryo.func225 : Tryo.prog.funcs[225]? = some Tryz.f225 := fn_o Tryz.func225 (by decide)
@[simp] theorem Tryo.func226 : Tryo.prog.funcs[226]? = some Tryz.f226 := fn_o Tryz.func226 (by decide)
@[simp] theorem Tryo.func227 : Tryo.prog.funcs[227]? = some Tryz.f227 := fn_o Tryz.func227 (by decide)
@[simp] theorem Tryo.func228 : Tryo.prog.funcs[228]? = some Tryz.f228 := fn_o Tryz.func228 (by decide)
@[simp] theorem Tryo.func229 : Tryo.prog.funcs[229]? = some Tryz.f229 := fn_o Tryz.func229 (by decide)
@[simp] theorem Tryo.func230 : Tryo.prog.funcs[230]? = some Tryz.f230 := fn_o Tryz.func230 (by decide)
@[simp] theorem Tryo.func231 : Tryo.prog.funcs[231]? = some Tryz.f231 := fn_o Tryz.func231 (by decide)
@[simp] theorem Tryo.func232 : Tryo.prog.funcs[232]? = some Tryz.f232 := fn_o Tryz.func232 (by decide)
@[simp] theorem Tryo.func233 : Tryo.prog.funcs[233]? = some Tryz.f233 := fn_o Tryz.func233 (by decide)
@[simp] theorem Tryo.func234 : Tryo.prog.funcs[234]? = some Tryz.f234 := fn_o Tryz.func234 (by decide)
@[simp] theorem Tryo.func235 : Tryo.prog.funcs[235]? = some Tryz.f235 := fn_o Tryz.func235 (by decide)
@[simp] theorem Tryo.func236 : Tryo.prog.funcs[236]? = some Tryz.f236 := fn_o Tryz.func236 (by decide)
@[simp] theorem Tryo.func237 : Tryo.prog.funcs[237]? = some Tryz.f237 := fn_o Tryz.func237 (by decide)
@[simp] theorem Tryo.func238 : Tryo.prog.funcs[238]? = some Tryz.f238 := fn_o Tryz.func238 (by decide)
@[simp] theorem Tryo.func239 : Tryo.prog.funcs[239]? = some Tryz.f239 := fn_o Tryz.func239 (by decide)
@[simp] theorem Tryo.func240 : Tryo.prog.funcs[240]? = some Tryz.f240 := fn_o Tryz.func240 (by decide)
@[simp] theorem Tryo.func241 : Tryo.prog.funcs[241]? = some Tryz.f241 := fn_o Tryz.func241 (by decide)
@[simp] theorem Tryo.func242 : Tryo.prog.funcs[242]? = some Tryz.f242 := fn_o Tryz.func242 (by decide)
@[simp] theorem Tryo.func243 : Tryo.prog.funcs[243]? = some Tryz.f243 := fn_o Tryz.func243 (by decide)
@[simp] theorem Tryo.func244 : Tryo.prog.funcs[244]? = some Tryz.f244 := fn_o Tryz.func244 (by decide)
@[simp] theorem Tryo.func245 : Tryo.prog.funcs[245]? = some Tryz.f245 := fn_o Tryz.func245 (by decide)
@[simp] theorem Tryo.func246 : Tryo.prog.funcs[246]? = some Tryz.f246 := fn_o Tryz.func246 (by decide)
@[simp] theorem Tryo.func247 : Tryo.prog.funcs[247]? = some Tryz.f247 := fn_o Tryz.func247 (by decide)
@[simp] theorem Tryo.call3 (args : Array Value) (w : World) : (callFunc 3 args).run Tryo.prog w = .ok (.enter 3 args) w := call_o Tryo.func3 rfl (by rfl) args w
@[simp] theorem Tryo.call7 (args : Array Value) (w : World) : (callFunc 7 args).run Tryo.prog w = .ok (.enter 7 args) w := call_o Tryo.func7 rfl (by rfl) args w
@[simp] theorem Tryo.call8 (args : Array Value) (w : World) : (callFunc 8 args).run Tryo.prog w = .ok (.enter 8 args) w := call_o Tryo.func8 rfl (by rfl) args w
@[simp] theorem Tryo.call9 (args : Array Value) (w : World) : (callFunc 9 args).run Tryo.prog w = .ok (.enter 9 args) w := call_o Tryo.func9 rfl (by rfl) args w
@[simp] theorem Tryo.call10 (args : Array Value) (w : World) : (callFunc 10 args).run Tryo.prog w = .ok (.enter 10 args) w := call_o Tryo.func10 rfl (by rfl) args w
@[simp] theorem Tryo.call11 (args : Array Value) (w : World) : (callFunc 11 args).run Tryo.prog w = .ok (.enter 11 args) w := call_o Tryo.func11 rfl (by rfl) args w
@[simp] theorem Tryo.call12 (args : Array Value) (w : World) : (callFunc 12 args).run Tryo.prog w = .ok (.enter 12 args) w := call_o Tryo.func12 rfl (by rfl) args w
@[simp] theorem Tryo.call13 (args : Array Value) (w : World) : (callFunc 13 args).run Tryo.prog w = .ok (.enter 13 args) w := call_o Tryo.func13 rfl (by rfl) args w
@[simp] theorem Tryo.call14 (args : Array Value) (w : World) : (callFunc 14 args).run Tryo.prog w = .ok (.enter 14 args) w := call_o Tryo.func14 rfl (by rfl) args w
@[simp] theorem Tryo.call15 (args : Array Value) (w : World) : (callFunc 15 args).run Tryo.prog w = .ok (.enter 15 args) w := call_o Tryo.func15 rfl (by rfl) args w
@[simp] theorem Tryo.call16 (args : Array Value) (w : World) : (callFunc 16 args).run Tryo.prog w = .ok (.enter 16 args) w := call_o Tryo.func16 rfl (by rfl) args w
@[simp] theorem Tryo.call18 (args : Array Value) (w : World) : (callFunc 18 args).run Tryo.prog w = .ok (.enter 18 args) w := call_o Tryo.func18 rfl (by rfl) args w
@[simp] theorem Tryo.call21 (args : Array Value) (w : World) : (callFunc 21 args).run Tryo.prog w = .ok (.enter 21 args) w := call_o Tryo.func21 rfl (by rfl) args w
@[simp] theorem Tryo.call23 (args : Array Value) (w : World) : (callFunc 23 args).run Tryo.prog w = .ok (.enter 23 args) w := call_o Tryo.func23 rfl (by rfl) args w
@[simp] theorem Tryo.call24 (args : Array Value) (w : World) : (callFunc 24 args).run Tryo.prog w = .ok (.enter 24 args) w := call_o Tryo.func24 rfl (by rfl) args w
@[simp] theorem Tryo.call27 (args : Array Value) (w : World) : (callFunc 27 args).run Tryo.prog w = .ok (.enter 27 args) w := call_o Tryo.func27 rfl (by rfl) args w
@[simp] theorem Tryo.call28 (args : Array Value) (w : World) : (callFunc 28 args).run Tryo.prog w = .ok (.enter 28 args) w := call_o Tryo.func28 rfl (by rfl) args w
@[simp] theorem Tryo.call32 (args : Array Value) (w : World) : (callFunc 32 args).run Tryo.prog w = .ok (.enter 32 args) w := call_o Tryo.func32 rfl (by rfl) args w
@[simp] theorem Tryo.call34 (args : Array Value) (w : World) : (callFunc 34 args).run Tryo.prog w = .ok (.enter 34 args) w := call_o Tryo.func34 rfl (by rfl) args w
@[simp] theorem Tryo.call35 (args : Array Value) (w : World) : (callFunc 35 args).run Tryo.prog w = .ok (.enter 35 args) w := call_o Tryo.func35 rfl (by rfl) args w
@[simp] theorem Tryo.call36 (args : Array Value) (w : World) : (callFunc 36 args).run Tryo.prog w = .ok (.enter 36 args) w := call_o Tryo.func36 rfl (by rfl) args w
@[simp] theorem Tryo.call37 (args : Array Value) (w : World) : (callFunc 37 args).run Tryo.prog w = .ok (.enter 37 args) w := call_o Tryo.func37 rfl (by rfl) args w
@[simp] theorem Tryo.call38 (args : Array Value) (w : World) : (callFunc 38 args).run Tryo.prog w = .ok (.enter 38 args) w := call_o Tryo.func38 rfl (by rfl) args w
@[simp] theorem Tryo.call39 (args : Array Value) (w : World) : (callFunc 39 args).run Tryo.prog w = .ok (.enter 39 args) w := call_o Tryo.func39 rfl (by rfl) args w
@[simp] theorem Tryo.call40 (args : Array Value) (w : World) : (callFunc 40 args).run Tryo.prog w = .ok (.enter 40 args) w := call_o Tryo.func40 rfl (by rfl) args w
@[simp] theorem Tryo.call41 (args : Array Value) (w : World) : (callFunc 41 args).run Tryo.prog w = .ok (.enter 41 args) w := call_o Tryo.func41 rfl (by rfl) args w
@[simp] theorem Tryo.call42 (args : Array Value) (w : World) : (callFunc 42 args).run Tryo.prog w = .ok (.enter 42 args) w := call_o Tryo.func42 rfl (by rfl) args w
@[simp] theorem Tryo.call43 (args : Array Value) (w : World) : (callFunc 43 args).run Tryo.prog w = .ok (.enter 43 args) w := call_o Tryo.func43 rfl (by rfl) args w
@[simp] theorem Tryo.call44 (args : Array Value) (w : World) : (callFunc 44 args).run Tryo.prog w = .ok (.enter 44 args) w := call_o Tryo.func44 rfl (by rfl) args w
@[simp] theorem Tryo.call50 (args : Array Value) (w : World) : (callFunc 50 args).run Tryo.prog w = .ok (.enter 50 args) w := call_o Tryo.func50 rfl (by rfl) args w
@[simp] theorem Tryo.call58 (args : Array Value) (w : World) : (callFunc 58 args).run Tryo.prog w = .ok (.enter 58 args) w := call_o Tryo.func58 rfl (by rfl) args w
@[simp] theorem Tryo.call59 (args : Array Value) (w : World) : (callFunc 59 args).run Tryo.prog w = .ok (.enter 59 args) w := call_o Tryo.func59 rfl (by rfl) args w
@[simp] theorem Tryo.call60 (args : Array Value) (w : World) : (callFunc 60 args).run Tryo.prog w = .ok (.enter 60 args) w := call_o Tryo.func60 rfl (by rfl) args w
@[simp] theorem Tryo.call61 (args : Array Value) (w : World) : (callFunc 61 args).run Tryo.prog w = .ok (.enter 61 args) w := call_o Tryo.func61 rfl (by rfl) args w
@[simp] theorem Tryo.call64 (args : Array Value) (w : World) : (callFunc 64 args).run Tryo.prog w = .ok (.enter 64 args) w := call_o Tryo.func64 rfl (by rfl) args w
@[simp] theorem Tryo.call65 (args : Array Value) (w : World) : (callFunc 65 args).run Tryo.prog w = .ok (.enter 65 args) w := call_o Tryo.func65 rfl (by rfl) args w
@[simp] theorem Tryo.call66 (args : Array Value) (w : World) : (callFunc 66 args).run Tryo.prog w = .ok (.enter 66 args) w := call_o Tryo.func66 rfl (by rfl) args w
@[simp] theorem Tryo.call67 (args : Array Value) (w : World) : (callFunc 67 args).run Tryo.prog w = .ok (.enter 67 args) w := call_o Tryo.func67 rfl (by rfl) args w
@[simp] theorem Tryo.call68 (args : Array Value) (w : World) : (callFunc 68 args).run Tryo.prog w = .ok (.enter 68 args) w := call_o Tryo.func68 rfl (by rfl) args w
@[simp] theorem Tryo.call69 (args : Array Value) (w : World) : (callFunc 69 args).run Tryo.prog w = .ok (.enter 69 args) w := call_o Tryo.func69 rfl (by rfl) args w
@[simp] theorem Tryo.call75 (args : Array Value) (w : World) : (callFunc 75 args).run Tryo.prog w = .ok (.enter 75 args) w := call_o Tryo.func75 rfl (by rfl) args w
@[simp] theorem Tryo.call76 (args : Array Value) (w : World) : (callFunc 76 args).run Tryo.prog w = .ok (.enter 76 args) w := call_o Tryo.func76 rfl (by rfl) args w
@[simp] theorem Tryo.call77 (args : Array Value) (w : World) : (callFunc 77 args).run Tryo.prog w = .ok (.enter 77 args) w := call_o Tryo.func77 rfl (by rfl) args w
@[simp] theorem Tryo.call78 (args : Array Value) (w : World) : (callFunc 78 args).run Tryo.prog w = .ok (.enter 78 args) w := call_o Tryo.func78 rfl (by rfl) args w
@[simp] theorem Tryo.call79 (args : Array Value) (w : World) : (callFunc 79 args).run Tryo.prog w = .ok (.enter 79 args) w := call_o Tryo.func79 rfl (by rfl) args w
@[simp] theorem Tryo.call80 (args : Array Value) (w : World) : (callFunc 80 args).run Tryo.prog w = .ok (.enter 80 args) w := call_o Tryo.func80 rfl (by rfl) args w
@[simp] theorem Tryo.call81 (args : Array Value) (w : World) : (callFunc 81 args).run Tryo.prog w = .ok (.enter 81 args) w := call_o Tryo.func81 rfl (by rfl) args w
@[simp] theorem Tryo.call82 (args : Array Value) (w : World) : (callFunc 82 args).run Tryo.prog w = .ok (.enter 82 args) w := call_o Tryo.func82 rfl (by rfl) args w
@[simp] theorem Tryo.call83 (args : Array Value) (w : World) : (callFunc 83 args).run Tryo.prog w = .ok (.enter 83 args) w := call_o Tryo.func83 rfl (by rfl) args w
@[simp] theorem Tryo.call84 (args : Array Value) (w : World) : (callFunc 84 args).run Tryo.prog w = .ok (.enter 84 args) w := call_o Tryo.func84 rfl (by rfl) args w
@[simp] theorem Tryo.call85 (args : Array Value) (w : World) : (callFunc 85 args).run Tryo.prog w = .ok (.enter 85 args) w := call_o Tryo.func85 rfl (by rfl) args w
@[simp] theorem Tryo.call86 (args : Array Value) (w : World) : (callFunc 86 args).run Tryo.prog w = .ok (.enter 86 args) w := call_o Tryo.func86 rfl (by rfl) args w
@[simp] theorem Tryo.call87 (args : Array Value) (w : World) : (callFunc 87 args).run Tryo.prog w = .ok (.enter 87 args) w := call_o Tryo.func87 rfl (by rfl) args w
@[simp] theorem Tryo.call88 (args : Array Value) (w : World) : (callFunc 88 args).run Tryo.prog w = .ok (.enter 88 args) w := call_o Tryo.func88 rfl (by rfl) args w
@[simp] theorem Tryo.call89 (args : Array Value) (w : World) : (callFunc 89 args).run Tryo.prog w = .ok (.enter 89 args) w := call_o Tryo.func89 rfl (by rfl) args w
@[simp] theorem Tryo.call90 (args : Array Value) (w : World) : (callFunc 90 args).run Tryo.prog w = .ok (.enter 90 args) w := call_o Tryo.func90 rfl (by rfl) args w
@[simp] theorem Tryo.call91 (args : Array Value) (w : World) : (callFunc 91 args).run Tryo.prog w = .ok (.enter 91 args) w := call_o Tryo.func91 rfl (by rfl) args w
@[simp] theorem Tryo.call92 (args : Array Value) (w : World) : (callFunc 92 args).run Tryo.prog w = .ok (.enter 92 args) w := call_o Tryo.func92 rfl (by rfl) args w
@[simp] theorem Tryo.call93 (args : Array Value) (w : World) : (callFunc 93 args).run Tryo.prog w = .ok (.enter 93 args) w := call_o Tryo.func93 rfl (by rfl) args w
@[simp] theorem Tryo.call94 (args : Array Value) (w : World) : (callFunc 94 args).run Tryo.prog w = .ok (.enter 94 args) w := call_o Tryo.func94 rfl (by rfl) args w
@[simp] theorem Tryo.call95 (args : Array Value) (w : World) : (callFunc 95 args).run Tryo.prog w = .ok (.enter 95 args) w := call_o Tryo.func95 rfl (by rfl) args w
@[simp] theorem Tryo.call101 (args : Array Value) (w : World) : (callFunc 101 args).run Tryo.prog w = .ok (.enter 101 args) w := call_o Tryo.func101 rfl (by rfl) args w
@[simp] theorem Tryo.call102 (args : Array Value) (w : World) : (callFunc 102 args).run Tryo.prog w = .ok (.enter 102 args) w := call_o Tryo.func102 rfl (by rfl) args w
@[simp] theorem Tryo.call109 (args : Array Value) (w : World) : (callFunc 109 args).run Tryo.prog w = .ok (.enter 109 args) w := call_o Tryo.func109 rfl (by rfl) args w
@[simp] theorem Tryo.call110 (args : Array Value) (w : World) : (callFunc 110 args).run Tryo.prog w = .ok (.enter 110 args) w := call_o Tryo.func110 rfl (by rfl) args w
@[simp] theorem Tryo.call111 (args : Array Value) (w : World) : (callFunc 111 args).run Tryo.prog w = .ok (.enter 111 args) w := call_o Tryo.func111 rfl (by rfl) args w
@[simp] theorem Tryo.call112 (args : Array Value) (w : World) : (callFunc 112 args).run Tryo.prog w = .ok (.enter 112 args) w := call_o Tryo.func112 rfl (by rfl) args w
@[simp] theorem Tryo.call113 (args : Array Value) (w : World) : (callFunc 113 args).run Tryo.prog w = .ok (.enter 113 args) w := call_o Tryo.func113 rfl (by rfl) args w
@[simp] theorem Tryo.call114 (args : Array Value) (w : World) : (callFunc 114 args).run Tryo.prog w = .ok (.enter 114 args) w := call_o Tryo.func114 rfl (by rfl) args w
@[simp] theorem Tryo.call118 (args : Array Value) (w : World) : (callFunc 118 args).run Tryo.prog w = .ok (.enter 118 args) w := call_o Tryo.func118 rfl (by rfl) args w
@[simp] theorem Tryo.call119 (args : Array Value) (w : World) : (callFunc 119 args).run Tryo.prog w = .ok (.enter 119 args) w := call_o Tryo.func119 rfl (by rfl) args w
@[simp] theorem Tryo.call120 (args : Array Value) (w : World) : (callFunc 120 args).run Tryo.prog w = .ok (.enter 120 args) w := call_o Tryo.func120 rfl (by rfl) args w
@[simp] theorem Tryo.call121 (args : Array Value) (w : World) : (callFunc 121 args).run Tryo.prog w = .ok (.enter 121 args) w := call_o Tryo.func121 rfl (by rfl) args w
@[simp] theorem Tryo.call133 (args : Array Value) (w : World) : (callFunc 133 args).run Tryo.prog w = .ok (.enter 133 args) w := call_o Tryo.func133 rfl (by rfl) args w
@[simp] theorem Tryo.call134 (args : Array Value) (w : World) : (callFunc 134 args).run Tryo.prog w = .ok (.enter 134 args) w := call_o Tryo.func134 rfl (by rfl) args w
@[simp] theorem Tryo.call135 (args : Array Value) (w : World) : (callFunc 135 args).run Tryo.prog w = .ok (.enter 135 args) w := call_o Tryo.func135 rfl (by rfl) args w
@[simp] theorem Tryo.call136 (args : Array Value) (w : World) : (callFunc 136 args).run Tryo.prog w = .ok (.enter 136 args) w := call_o Tryo.func136 rfl (by rfl) args w
@[simp] theorem Tryo.call137 (args : Array Value) (w : World) : (callFunc 137 args).run Tryo.prog w = .ok (.enter 137 args) w := call_o Tryo.func137 rfl (by rfl) args w
@[simp] theorem Tryo.call138 (args : Array Value) (w : World) : (callFunc 138 args).run Tryo.prog w = .ok (.enter 138 args) w := call_o Tryo.func138 rfl (by rfl) args w
@[simp] theorem Tryo.call139 (args : Array Value) (w : World) : (callFunc 139 args).run Tryo.prog w = .ok (.enter 139 args) w := call_o Tryo.func139 rfl (by rfl) args w
@[simp] theorem Tryo.call140 (args : Array Value) (w : World) : (callFunc 140 args).run Tryo.prog w = .ok (.enter 140 args) w := call_o Tryo.func140 rfl (by rfl) args w
@[simp] theorem Tryo.call141 (args : Array Value) (w : World) : (callFunc 141 args).run Tryo.prog w = .ok (.enter 141 args) w := call_o Tryo.func141 rfl (by rfl) args w
@[simp] theorem Tryo.call142 (args : Array Value) (w : World) : (callFunc 142 args).run Tryo.prog w = .ok (.enter 142 args) w := call_o Tryo.func142 rfl (by rfl) args w
@[simp] theorem Tryo.call143 (args : Array Value) (w : World) : (callFunc 143 args).run Tryo.prog w = .ok (.enter 143 args) w := call_o Tryo.func143 rfl (by rfl) args w
@[simp] theorem Tryo.call144 (args : Array Value) (w : World) : (callFunc 144 args).run Tryo.prog w = .ok (.enter 144 args) w := call_o Tryo.func144 rfl (by rfl) args w
@[simp] theorem Tryo.call145 (args : Array Value) (w : World) : (callFunc 145 args).run Tryo.prog w = .ok (.enter 145 args) w := call_o Tryo.func145 rfl (by rfl) args w
@[simp] theorem Tryo.call146 (args : Array Value) (w : World) : (callFunc 146 args).run Tryo.prog w = .ok (.enter 146 args) w := call_o Tryo.func146 rfl (by rfl) args w
@[simp] theorem Tryo.call149 (args : Array Value) (w : World) : (callFunc 149 args).run Tryo.prog w = .ok (.enter 149 args) w := call_o Tryo.func149 rfl (by rfl) args w
@[simp] theorem Tryo.call150 (args : Array Value) (w : World) : (callFunc 150 args).run Tryo.prog w = .ok (.enter 150 args) w := call_o Tryo.func150 rfl (by rfl) args w
@[simp] theorem Tryo.call151 (args : Array Value) (w : World) : (callFunc 151 args).run Tryo.prog w = .ok (.enter 151 args) w := call_o Tryo.func151 rfl (by rfl) args w
@[simp] theorem Tryo.call157 (args : Array Value) (w : World) : (callFunc 157 args).run Tryo.prog w = .ok (.enter 157 args) w := call_o Tryo.func157 rfl (by rfl) args w
@[simp] theorem Tryo.call158 (args : Array Value) (w : World) : (callFunc 158 args).run Tryo.prog w = .ok (.enter 158 args) w := call_o Tryo.func158 rfl (by rfl) args w
@[simp] theorem Tryo.call159 (args : Array Value) (w : World) : (callFunc 159 args).run Tryo.prog w = .ok (.enter 159 args) w := call_o Tryo.func159 rfl (by rfl) args w
@[simp] theorem Tryo.call160 (args : Array Value) (w : World) : (callFunc 160 args).run Tryo.prog w = .ok (.enter 160 args) w := call_o Tryo.func160 rfl (by rfl) args w
@[simp] theorem Tryo.call161 (args : Array Value) (w : World) : (callFunc 161 args).run Tryo.prog w = .ok (.enter 161 args) w := call_o Tryo.func161 rfl (by rfl) args w
@[simp] theorem Tryo.call162 (args : Array Value) (w : World) : (callFunc 162 args).run Tryo.prog w = .ok (.enter 162 args) w := call_o Tryo.func162 rfl (by rfl) args w
@[simp] theorem Tryo.call168 (args : Array Value) (w : World) : (callFunc 168 args).run Tryo.prog w = .ok (.enter 168 args) w := call_o Tryo.func168 rfl (by rfl) args w
@[simp] theorem Tryo.call169 (args : Array Value) (w : World) : (callFunc 169 args).run Tryo.prog w = .ok (.enter 169 args) w := call_o Tryo.func169 rfl (by rfl) args w
@[simp] theorem Tryo.call170 (args : Array Value) (w : World) : (callFunc 170 args).run Tryo.prog w = .ok (.enter 170 args) w := call_o Tryo.func170 rfl (by rfl) args w
@[simp] theorem Tryo.call191 (args : Array Value) (w : World) : (callFunc 191 args).run Tryo.prog w = .ok (.enter 191 args) w := call_o Tryo.func191 rfl (by rfl) args w
@[simp] theorem Tryo.call192 (args : Array Value) (w : World) : (callFunc 192 args).run Tryo.prog w = .ok (.enter 192 args) w := call_o Tryo.func192 rfl (by rfl) args w
@[simp] theorem Tryo.call193 (args : Array Value) (w : World) : (callFunc 193 args).run Tryo.prog w = .ok (.enter 193 args) w := call_o Tryo.func193 rfl (by rfl) args w
@[simp] theorem Tryo.call194 (args : Array Value) (w : World) : (callFunc 194 args).run Tryo.prog w = .ok (.enter 194 args) w := call_o Tryo.func194 rfl (by rfl) args w
@[simp] theorem Tryo.call195 (args : Array Value) (w : World) : (callFunc 195 args).run Tryo.prog w = .ok (.enter 195 args) w := call_o Tryo.func195 rfl (by rfl) args w
@[simp] theorem Tryo.call196 (args : Array Value) (w : World) : (callFunc 196 args).run Tryo.prog w = .ok (.enter 196 args) w := call_o Tryo.func196 rfl (by rfl) args w
@[simp] theorem Tryo.call197 (args : Array Value) (w : World) : (callFunc 197 args).run Tryo.prog w = .ok (.enter 197 args) w := call_o Tryo.func197 rfl (by rfl) args w
@[simp] theorem Tryo.call198 (args : Array Value) (w : World) : (callFunc 198 args).run Tryo.prog w = .ok (.enter 198 args) w := call_o Tryo.func198 rfl (by rfl) args w
@[simp] theorem Tryo.call199 (args : Array Value) (w : World) : (callFunc 199 args).run Tryo.prog w = .ok (.enter 199 args) w := call_o Tryo.func199 rfl (by rfl) args w
@[simp] theorem Tryo.call200 (args : Array Value) (w : World) : (callFunc 200 args).run Tryo.prog w = .ok (.enter 200 args) w := call_o Tryo.func200 rfl (by rfl) args w
@[simp] theorem Tryo.call201 (args : Array Value) (w : World) : (callFunc 201 args).run Tryo.prog w = .ok (.enter 201 args) w := call_o Tryo.func201 rfl (by rfl) args w
@[simp] theorem Tryo.call202 (args : Array Value) (w : World) : (callFunc 202 args).run Tryo.prog w = .ok (.enter 202 args) w := call_o Tryo.func202 rfl (by rfl) args w
@[simp] theorem Tryo.call203 (args : Array Value) (w : World) : (callFunc 203 args).run Tryo.prog w = .ok (.enter 203 args) w := call_o Tryo.func203 rfl (by rfl) args w
@[simp] theorem Tryo.call204 (args : Array Value) (w : World) : (callFunc 204 args).run Tryo.prog w = .ok (.enter 204 args) w := call_o Tryo.func204 rfl (by rfl) args w
@[simp] theorem Tryo.call205 (args : Array Value) (w : World) : (callFunc 205 args).run Tryo.prog w = .ok (.enter 205 args) w := call_o Tryo.func205 rfl (by rfl) args w
@[simp] theorem Tryo.call206 (args : Array Value) (w : World) : (callFunc 206 args).run Tryo.prog w = .ok (.enter 206 args) w := call_o Tryo.func206 rfl (by rfl) args w
@[simp] theorem Tryo.call207 (args : Array Value) (w : World) : (callFunc 207 args).run Tryo.prog w = .ok (.enter 207 args) w := call_o Tryo.func207 rfl (by rfl) args w
@[simp] theorem Tryo.call208 (args : Array Value) (w : World) : (callFunc 208 args).run Tryo.prog w = .ok (.enter 208 args) w := call_o Tryo.func208 rfl (by rfl) args w
@[simp] theorem Tryo.call209 (args : Array Value) (w : World) : (callFunc 209 args).run Tryo.prog w = .ok (.enter 209 args) w := call_o Tryo.func209 rfl (by rfl) args w
@[simp] theorem Tryo.call210 (args : Array Value) (w : World) : (callFunc 210 args).run Tryo.prog w = .ok (.enter 210 args) w := call_o Tryo.func210 rfl (by rfl) args w
@[simp] theorem Tryo.call211 (args : Array Value) (w : World) : (callFunc 211 args).run Tryo.prog w = .ok (.enter 211 args) w := call_o Tryo.func211 rfl (by rfl) args w
@[simp] theorem Tryo.call212 (args : Array Value) (w : World) : (callFunc 212 args).run Tryo.prog w = .ok (.enter 212 args) w := call_o Tryo.func212 rfl (by rfl) args w
@[simp] theorem Tryo.call213 (args : Array Value) (w : World) : (callFunc 213 args).run Tryo.prog w = .ok (.enter 213 args) w := call_o Tryo.func213 rfl (by rfl) args w
@[simp] theorem Tryo.call214 (args : Array Value) (w : World) : (callFunc 214 args).run Tryo.prog w = .ok (.enter 214 args) w := call_o Tryo.func214 rfl (by rfl) args w
@[simp] theorem Tryo.call220 (args : Array Value) (w : World) : (callFunc 220 args).run Tryo.prog w = .ok (.enter 220 args) w := call_o Tryo.func220 rfl (by rfl) args w
@[simp] theorem Tryo.call221 (args : Array Value) (w : World) : (callFunc 221 args).run Tryo.prog w = .ok (.enter 221 args) w := call_o Tryo.func221 rfl (by rfl) args w
@[simp] theorem Tryo.call222 (args : Array Value) (w : World) : (callFunc 222 args).run Tryo.prog w = .ok (.enter 222 args) w := call_o Tryo.func222 rfl (by rfl) args w
@[simp] theorem Tryo.call223 (args : Array Value) (w : World) : (callFunc 223 args).run Tryo.prog w = .ok (.enter 223 args) w := call_o Tryo.func223 rfl (by rfl) args w
@[simp] theorem Tryo.call224 (args : Array Value) (w : World) : (callFunc 224 args).run Tryo.prog w = .ok (.enter 224 args) w := call_o Tryo.func224 rfl (by rfl) args w
@[simp] theorem Tryo.call225 (args : Array Value) (w : World) : (callFunc 225 args).run Tryo.prog w = .ok (.enter 225 args) w := call_o Tryo.func225 rfl (by rfl) args w
@[simp] theorem Tryo.call226 (args : Array Value) (w : World) : (callFunc 226 args).run Tryo.prog w = .ok (.enter 226 args) w := call_o Tryo.func226 rfl (by rfl) args w
@[simp] theorem Tryo.call227 (args : Array Value) (w : World) : (callFunc 227 args).run Tryo.prog w = .ok (.enter 227 args) w := call_o Tryo.func227 rfl (by rfl) args w
@[simp] theorem Tryo.call228 (args : Array Value) (w : World) : (callFunc 228 args).run Tryo.prog w = .ok (.enter 228 args) w := call_o Tryo.func228 rfl (by rfl) args w
@[simp] theorem Tryo.call229 (args : Array Value) (w : World) : (callFunc 229 args).run Tryo.prog w = .ok (.enter 229 args) w := call_o Tryo.func229 rfl (by rfl) args w
@[simp] theorem Tryo.call230 (args : Array Value) (w : World) : (callFunc 230 args).run Tryo.prog w = .ok (.enter 230 args) w := call_o Tryo.func230 rfl (by rfl) args w
@[simp] theorem Tryo.call231 (args : Array Value) (w : World) : (callFunc 231 args).run Tryo.prog w = .ok (.enter 231 args) w := call_o Tryo.func231 rfl (by rfl) args w
@[simp] theorem Tryo.call232 (args : Array Value) (w : World) : (callFunc 232 args).run Tryo.prog w = .ok (.enter 232 args) w := call_o Tryo.func232 rfl (by rfl) args w
@[simp] theorem Tryo.call233 (args : Array Value) (w : World) : (callFunc 233 args).run Tryo.prog w = .ok (.enter 233 args) w := call_o Tryo.func233 rfl (by rfl) args w
@[simp] theorem Tryo.call234 (args : Array Value) (w : World) : (callFunc 234 args).run Tryo.prog w = .ok (.enter 234 args) w := call_o Tryo.func234 rfl (by rfl) args w
@[simp] theorem Tryo.call235 (args : Array Value) (w : World) : (callFunc 235 args).run Tryo.prog w = .ok (.enter 235 args) w := call_o Tryo.func235 rfl (by rfl) args w
@[simp] theorem Tryo.call236 (args : Array Value) (w : World) : (callFunc 236 args).run Tryo.prog w = .ok (.enter 236 args) w := call_o Tryo.func236 rfl (by rfl) args w
@[simp] theorem Tryo.call237 (args : Array Value) (w : World) : (callFunc 237 args).run Tryo.prog w = .ok (.enter 237 args) w := call_o Tryo.func237 rfl (by rfl) args w
@[simp] theorem Tryo.call238 (args : Array Value) (w : World) : (callFunc 238 args).run Tryo.prog w = .ok (.enter 238 args) w := call_o Tryo.func238 rfl (by rfl) args w
@[simp] theorem Tryo.call239 (args : Array Value) (w : World) : (callFunc 239 args).run Tryo.prog w = .ok (.enter 239 args) w := call_o Tryo.func239 rfl (by rfl) args w
@[simp] theorem Tryo.call240 (args : Array Value) (w : World) : (callFunc 240 args).run Tryo.prog w = .ok (.enter 240 args) w := call_o Tryo.func240 rfl (by rfl) args w
@[simp] theorem Tryo.call241 (args : Array Value) (w : World) : (callFunc 241 args).run Tryo.prog w = .ok (.enter 241 args) w := call_o Tryo.func241 rfl (by rfl) args w
@[simp] theorem Tryo.call242 (args : Array Value) (w : World) : (callFunc 242 args).run Tryo.prog w = .ok (.enter 242 args) w := call_o Tryo.func242 rfl (by rfl) args w
@[simp] theorem Tryo.call243 (args : Array Value) (w : World) : (callFunc 243 args).run Tryo.prog w = .ok (.enter 243 args) w := call_o Tryo.func243 rfl (by rfl) args w
@[simp] theorem Tryo.call244 (args : Array Value) (w : World) : (callFunc 244 args).run Tryo.prog w = .ok (.enter 244 args) w := call_o Tryo.func244 rfl (by rfl) args w
@[simp] theorem Tryo.call245 (args : Array Value) (w : World) : (callFunc 245 args).run Tryo.prog w = .ok (.enter 245 args) w := call_o Tryo.func245 rfl (by rfl) args w
@[simp] theorem Tryo.call246 (args : Array Value) (w : World) : (callFunc 246 args).run Tryo.prog w = .ok (.enter 246 args) w := call_o Tryo.func246 rfl (by rfl) args w
end Go.Proofs
