/- The program with saturdays told in one goroutine, under its own alias: the facts that walks ask of it. -/
import Derived.Test.YtoofgalkchnpnaaGreatDoorZGS
import Derived.Test.YtoofgalkchnpnaaGreatDoorZGB
set_option linter.unusedVariables false
set_option linter.unusedSimpArgs false
set_option maxRecDepth 100000
namespace Go.Proofs
open Go Go.Sq Go.Proofs.YtoofgalkchnpnaaGreatDoor.Sat
noncomputable def Tryo.prog : Program := sw Tryz.prog FO
@[simp] theorem Tryo.toTables : Tryo.prog.toTables = Tryz.prog.toTables := tables_sw _ _
@[simp] theorem Tryo.typeInfo (t : TypeId) (w : World) : (Go.typeInfo t).run Tryo.prog w = (Go.typeInfo t).run Tryz.prog w := o_typeInfo _ _ t w
@[simp] theorem Tryo.sizeOf (t : TypeId) (w : World) : (Go.sizeOf t).run Tryo.prog w = (Go.sizeOf t).run Tryz.prog w := o_sizeOf _ _ t w
@[simp] theorem Tryo.runUnderlying (t : TypeId) (w : World) : (Go.underlying t).run Tryo.prog w = (Go.underlying t).run Tryz.prog w := o_underlying _ _ t w
@[simp] theorem Tryo.isAgg (t : TypeId) (w : World) : (Go.isAgg t).run Tryo.prog w = (Go.isAgg t).run Tryz.prog w := o_isAgg _ _ t w
@[simp] theorem Tryo.zeroValue (t : TypeId) (w : World) : (Go.zeroValue t).run Tryo.prog w = (Go.zeroValue t).run Tryz.prog w := o_zeroValue _ _ t w
@[simp] theorem Tryo.underlying (t : TypeId) : Tryo.prog.underlying t = Tryz.prog.underlying t := under_sw' _ _ t
@[simp] theorem Tryo.depth : Tryo.prog.depth = Tryz.prog.depth := depth_sw
@[simp] theorem Tryo.eqGuardType (n : Nat) (t : TypeId) : Tryo.prog.eqGuardType n t = Tryz.prog.eqGuardType n t := eqGuardType_sw n t
@[simp] theorem Tryo.stoodInHeld (t : TypeId) : Tryo.prog.stoodInHeld t = Tryz.prog.stoodInHeld t := stoodInHeld_sw t
theorem und_o {t : TypeId} {d : Option TypeDesc} (h : Tryz.prog.underlying t = d) : Tryo.prog.underlying t = d := (Tryo.underlying t).trans h
theorem run_o {α : Type} {s : Sem α} {r : World → Result α} (e : ∀ w, s.run Tryo.prog w = s.run Tryz.prog w) (h : ∀ w, s.run Tryz.prog w = r w) (w : World) : s.run Tryo.prog w = r w := (e w).trans (h w)
theorem eqg_o {t : TypeId} {b : Bool} (h : Tryz.prog.eqGuardType Tryz.prog.depth t = b) : Tryo.prog.eqGuardType Tryo.prog.depth t = b := by
  rw [Tryo.depth, Tryo.eqGuardType]; exact h
theorem sih_o {t : TypeId} {b : Bool} (h : Tryz.prog.stoodInHeld t = b) : Tryo.prog.stoodInHeld t = b := by
  rw [Tryo.stoodInHeld]; exact h
theorem fn_o {i : Nat} {f : Func} (h : Tryz.prog.funcs[i]? = some f) (hi : i ≠ 33) : Tryo.prog.funcs[i]? = some f := ((funcs_sw Tryz.prog FO i).trans (FO_ne hi)).trans h
theorem call_o {n : Nat} {fn : Func} {c : Code} (hf : Tryo.prog.funcs[n]? = some fn) (hb : fn.body = some c) (hn : (fn.name == "runtime.NumGoroutine") = false) (args : Array Value) (w : World) : (callFunc n args).run Tryo.prog w = .ok (.enter n args) w := o_call _ hf hb hn args w
@[simp] theorem Tryo.func0 : Tryo.prog.funcs[0]? = some Tryz.f0 := fn_o Tryz.func0 (by decide)
@[simp] theorem Tryo.func1 : Tryo.prog.funcs[1]? = some Tryz.f1 := fn_o Tryz.func1 (by decide)
@[simp] theorem Tryo.func2 : Tryo.prog.funcs[2]? = some Tryz.f2 := fn_o Tryz.func2 (by decide)
@[simp] theorem Tryo.func3 : Tryo.prog.funcs[3]? = some Tryz.f3 := fn_o Tryz.func3 (by decide)
@[simp] theorem Tryo.func4 : Tryo.prog.funcs[4]? = some Tryz.f4 := fn_o Tryz.func4 (by decide)
@[simp] theorem Tryo.func5 : Tryo.prog.funcs[5]? = some Tryz.f5 := fn_o Tryz.func5 (by decide)
@[simp] theorem Tryo.func6 : Tryo.prog.funcs[6]? = some Tryz.f6 := fn_o Tryz.func6 (by decide)
@[simp] theorem Tryo.func7 : Tryo.prog.funcs[7]? = some Tryz.f7 := fn_o Tryz.func7 (by decide)
@[simp] theorem Tryo.func8 : Tryo.prog.funcs[8]? = some Tryz.f8 := fn_o Tryz.func8 (by decide)
@[simp] theorem Tryo.func9 : Tryo.prog.funcs[9]? = some Tryz.f9 := fn_o Tryz.func9 (by decide)
@[simp] theorem Tryo.func10 : Tryo.prog.funcs[10]? = some Tryz.f10 := fn_o Tryz.func10 (by decide)
@[simp] theorem Tryo.func11 : Tryo.prog.funcs[11]? = some Tryz.f11 := fn_o Tryz.func11 (by decide)
@[simp] theorem Tryo.func12 : Tryo.prog.funcs[12]? = some Tryz.f12 := fn_o Tryz.func12 (by decide)
@[simp] theorem Tryo.func13 : Tryo.prog.funcs[13]? = some Tryz.f13 := fn_o Tryz.func13 (by decide)
@[simp] theorem Tryo.func14 : Tryo.prog.funcs[14]? = some Tryz.f14 := fn_o Tryz.func14 (by decide)
@[simp] theorem Tryo.func15 : Tryo.prog.funcs[15]? = some Tryz.f15 := fn_o Tryz.func15 (by decide)
@[simp] theorem Tryo.func16 : Tryo.prog.funcs[16]? = some Tryz.f16 := fn_o Tryz.func16 (by decide)
@[simp] theorem Tryo.func17 : Tryo.prog.funcs[17]? = some Tryz.f17 := fn_o Tryz.func17 (by decide)
@[simp] theorem Tryo.func18 : Tryo.prog.funcs[18]? = some Tryz.f18 := fn_o Tryz.func18 (by decide)
@[simp] theorem Tryo.func19 : Tryo.prog.funcs[19]? = some Tryz.f19 := fn_o Tryz.func19 (by decide)
@[simp] theorem Tryo.func20 : Tryo.prog.funcs[20]? = some Tryz.f20 := fn_o Tryz.func20 (by decide)
@[simp] theorem Tryo.func21 : Tryo.prog.funcs[21]? = some Tryz.f21 := fn_o Tryz.func21 (by decide)
@[simp] theorem Tryo.func22 : Tryo.prog.funcs[22]? = some Tryz.f22 := fn_o Tryz.func22 (by decide)
@[simp] theorem Tryo.func23 : Tryo.prog.funcs[23]? = some Tryz.f23 := fn_o Tryz.func23 (by decide)
@[simp] theorem Tryo.func24 : Tryo.prog.funcs[24]? = some Tryz.f24 := fn_o Tryz.func24 (by decide)
@[simp] theorem Tryo.func25 : Tryo.prog.funcs[25]? = some Tryz.f25 := fn_o Tryz.func25 (by decide)
@[simp] theorem Tryo.func26 : Tryo.prog.funcs[26]? = some Tryz.f26 := fn_o Tryz.func26 (by decide)
@[simp] theorem Tryo.func27 : Tryo.prog.funcs[27]? = some Tryz.f27 := fn_o Tryz.func27 (by decide)
@[simp] theorem Tryo.func28 : Tryo.prog.funcs[28]? = some Tryz.f28 := fn_o Tryz.func28 (by decide)
@[simp] theorem Tryo.func29 : Tryo.prog.funcs[29]? = some Tryz.f29 := fn_o Tryz.func29 (by decide)
@[simp] theorem Tryo.func30 : Tryo.prog.funcs[30]? = some Tryz.f30 := fn_o Tryz.func30 (by decide)
@[simp] theorem Tryo.func31 : Tryo.prog.funcs[31]? = some Tryz.f31 := fn_o Tryz.func31 (by decide)
@[simp] theorem Tryo.func32 : Tryo.prog.funcs[32]? = some Tryz.f32 := fn_o Tryz.func32 (by decide)
@[simp] theorem Tryo.func33 : Tryo.prog.funcs[33]? = some satO := (funcs_sw Tryz.prog FO 33).trans FO_sat
@[simp] theorem Tryo.func34 : Tryo.prog.funcs[34]? = some Tryz.f34 := fn_o Tryz.func34 (by decide)
@[simp] theorem Tryo.func35 : Tryo.prog.funcs[35]? = some Tryz.f35 := fn_o Tryz.func35 (by decide)
@[simp] theorem Tryo.func36 : Tryo.prog.funcs[36]? = some Tryz.f36 := fn_o Tryz.func36 (by decide)
@[simp] theorem Tryo.func37 : Tryo.prog.funcs[37]? = some Tryz.f37 := fn_o Tryz.func37 (by decide)
@[simp] theorem Tryo.func38 : Tryo.prog.funcs[38]? = some Tryz.f38 := fn_o Tryz.func38 (by decide)
@[simp] theorem Tryo.func39 : Tryo.prog.funcs[39]? = some Tryz.f39 := fn_o Tryz.func39 (by decide)
@[simp] theorem Tryo.func40 : Tryo.prog.funcs[40]? = some Tryz.f40 := fn_o Tryz.func40 (by decide)
@[simp] theorem Tryo.func41 : Tryo.prog.funcs[41]? = some Tryz.f41 := fn_o Tryz.func41 (by decide)
@[simp] theorem Tryo.func42 : Tryo.prog.funcs[42]? = some Tryz.f42 := fn_o Tryz.func42 (by decide)
@[simp] theorem Tryo.func43 : Tryo.prog.funcs[43]? = some Tryz.f43 := fn_o Tryz.func43 (by decide)
@[simp] theorem Tryo.func44 : Tryo.prog.funcs[44]? = some Tryz.f44 := fn_o Tryz.func44 (by decide)
@[simp] theorem Tryo.func45 : Tryo.prog.funcs[45]? = some Tryz.f45 := fn_o Tryz.func45 (by decide)
@[simp] theorem Tryo.func46 : Tryo.prog.funcs[46]? = some Tryz.f46 := fn_o Tryz.func46 (by decide)
@[simp] theorem Tryo.func47 : Tryo.prog.funcs[47]? = some Tryz.f47 := fn_o Tryz.func47 (by decide)
@[simp] theorem Tryo.func48 : Tryo.prog.funcs[48]? = some Tryz.f48 := fn_o Tryz.func48 (by decide)
@[simp] theorem Tryo.func49 : Tryo.prog.funcs[49]? = some Tryz.f49 := fn_o Tryz.func49 (by decide)
@[simp] theorem Tryo.func50 : Tryo.prog.funcs[50]? = some Tryz.f50 := fn_o Tryz.func50 (by decide)
@[simp] theorem Tryo.func51 : Tryo.prog.funcs[51]? = some Tryz.f51 := fn_o Tryz.func51 (by decide)
@[simp] theorem Tryo.func52 : Tryo.prog.funcs[52]? = some Tryz.f52 := fn_o Tryz.func52 (by decide)
@[simp] theorem Tryo.func53 : Tryo.prog.funcs[53]? = some Tryz.f53 := fn_o Tryz.func53 (by decide)
@[simp] theorem Tryo.func54 : Tryo.prog.funcs[54]? = some Tryz.f54 := fn_o Tryz.func54 (by decide)
@[simp] theorem Tryo.func55 : Tryo.prog.funcs[55]? = some Tryz.f55 := fn_o Tryz.func55 (by decide)
@[simp] theorem Tryo.func56 : Tryo.prog.funcs[56]? = some Tryz.f56 := fn_o Tryz.func56 (by decide)
@[simp] theorem Tryo.func57 : Tryo.prog.funcs[57]? = some Tryz.f57 := fn_o Tryz.func57 (by decide)
@[simp] theorem Tryo.func58 : Tryo.prog.funcs[58]? = some Tryz.f58 := fn_o Tryz.func58 (by decide)
@[simp] theorem Tryo.func59 : Tryo.prog.funcs[59]? = some Tryz.f59 := fn_o Tryz.func59 (by decide)
@[simp] theorem Tryo.func60 : Tryo.prog.funcs[60]? = some Tryz.f60 := fn_o Tryz.func60 (by decide)
@[simp] theorem Tryo.func61 : Tryo.prog.funcs[61]? = some Tryz.f61 := fn_o Tryz.func61 (by decide)
@[simp] theorem Tryo.func62 : Tryo.prog.funcs[62]? = some Tryz.f62 := fn_o Tryz.func62 (by decide)
@[simp] theorem Tryo.func63 : Tryo.prog.funcs[63]? = some Tryz.f63 := fn_o Tryz.func63 (by decide)
@[simp] theorem Tryo.func64 : Tryo.prog.funcs[64]? = some Tryz.f64 := fn_o Tryz.func64 (by decide)
@[simp] theorem Tryo.func65 : Tryo.prog.funcs[65]? = some Tryz.f65 := fn_o Tryz.func65 (by decide)
@[simp] theorem Tryo.func66 : Tryo.prog.funcs[66]? = some Tryz.f66 := fn_o Tryz.func66 (by decide)
@[simp] theorem Tryo.func67 : Tryo.prog.funcs[67]? = some Tryz.f67 := fn_o Tryz.func67 (by decide)
@[simp] theorem Tryo.func68 : Tryo.prog.funcs[68]? = some Tryz.f68 := fn_o Tryz.func68 (by decide)
@[simp] theorem Tryo.func69 : Tryo.prog.funcs[69]? = some Tryz.f69 := fn_o Tryz.func69 (by decide)
@[simp] theorem Tryo.func70 : Tryo.prog.funcs[70]? = some Tryz.f70 := fn_o Tryz.func70 (by decide)
@[simp] theorem Tryo.func71 : Tryo.prog.funcs[71]? = some Tryz.f71 := fn_o Tryz.func71 (by decide)
@[simp] theorem Tryo.func72 : Tryo.prog.funcs[72]? = some Tryz.f72 := fn_o Tryz.func72 (by decide)
@[simp] theorem Tryo.func73 : Tryo.prog.funcs[73]? = some Tryz.f73 := fn_o Tryz.func73 (by decide)
@[simp] theorem Tryo.func74 : Tryo.prog.funcs[74]? = some Tryz.f74 := fn_o Tryz.func74 (by decide)
@[simp] theorem Tryo.func75 : Tryo.prog.funcs[75]? = some Tryz.f75 := fn_o Tryz.func75 (by decide)
@[simp] theorem Tryo.func76 : Tryo.prog.funcs[76]? = some Tryz.f76 := fn_o Tryz.func76 (by decide)
@[simp] theorem Tryo.func77 : Tryo.prog.funcs[77]? = some Tryz.f77 := fn_o Tryz.func77 (by decide)
@[simp] theorem Tryo.func78 : Tryo.prog.funcs[78]? = some Tryz.f78 := fn_o Tryz.func78 (by decide)
@[simp] theorem Tryo.func79 : Tryo.prog.funcs[79]? = some Tryz.f79 := fn_o Tryz.func79 (by decide)
@[simp] theorem Tryo.func80 : Tryo.prog.funcs[80]? = some Tryz.f80 := fn_o Tryz.func80 (by decide)
@[simp] theorem Tryo.func81 : Tryo.prog.funcs[81]? = some Tryz.f81 := fn_o Tryz.func81 (by decide)
@[simp] theorem Tryo.func82 : Tryo.prog.funcs[82]? = some Tryz.f82 := fn_o Tryz.func82 (by decide)
@[simp] theorem Tryo.func83 : Tryo.prog.funcs[83]? = some Tryz.f83 := fn_o Tryz.func83 (by decide)
@[simp] theorem Tryo.func84 : Tryo.prog.funcs[84]? = some Tryz.f84 := fn_o Tryz.func84 (by decide)
@[simp] theorem Tryo.func85 : Tryo.prog.funcs[85]? = some Tryz.f85 := fn_o Tryz.func85 (by decide)
@[simp] theorem Tryo.func86 : Tryo.prog.funcs[86]? = some Tryz.f86 := fn_o Tryz.func86 (by decide)
@[simp] theorem Tryo.func87 : Tryo.prog.funcs[87]? = some Tryz.f87 := fn_o Tryz.func87 (by decide)
@[simp] theorem Tryo.func88 : Tryo.prog.funcs[88]? = some Tryz.f88 := fn_o Tryz.func88 (by decide)
@[simp] theorem Tryo.func89 : Tryo.prog.funcs[89]? = some Tryz.f89 := fn_o Tryz.func89 (by decide)
@[simp] theorem Tryo.func90 : Tryo.prog.funcs[90]? = some Tryz.f90 := fn_o Tryz.func90 (by decide)
@[simp] theorem Tryo.func91 : Tryo.prog.funcs[91]? = some Tryz.f91 := fn_o Tryz.func91 (by decide)
@[simp] theorem Tryo.func92 : Tryo.prog.funcs[92]? = some Tryz.f92 := fn_o Tryz.func92 (by decide)
@[simp] theorem Tryo.func93 : Tryo.prog.funcs[93]? = some Tryz.f93 := fn_o Tryz.func93 (by decide)
@[simp] theorem Tryo.func94 : Tryo.prog.funcs[94]? = some Tryz.f94 := fn_o Tryz.func94 (by decide)
@[simp] theorem Tryo.func95 : Tryo.prog.funcs[95]? = some Tryz.f95 := fn_o Tryz.func95 (by decide)
@[simp] theorem Tryo.func96 : Tryo.prog.funcs[96]? = some Tryz.f96 := fn_o Tryz.func96 (by decide)
@[simp] theorem Tryo.func97 : Tryo.prog.funcs[97]? = some Tryz.f97 := fn_o Tryz.func97 (by decide)
@[simp] theorem Tryo.func98 : Tryo.prog.funcs[98]? = some Tryz.f98 := fn_o Tryz.func98 (by decide)
@[simp] theorem Tryo.func99 : Tryo.prog.funcs[99]? = some Tryz.f99 := fn_o Tryz.func99 (by decide)
@[simp] theorem Tryo.func100 : Tryo.prog.funcs[100]? = some Tryz.f100 := fn_o Tryz.func100 (by decide)
@[simp] theorem Tryo.func101 : Tryo.prog.funcs[101]? = some Tryz.f101 := fn_o Tryz.func101 (by decide)
@[simp] theorem Tryo.func102 : Tryo.prog.funcs[102]? = some Tryz.f102 := fn_o Tryz.func102 (by decide)
@[simp] theorem Tryo.func103 : Tryo.prog.funcs[103]? = some Tryz.f103 := fn_o Tryz.func103 (by decide)
@[simp] theorem Tryo.func104 : Tryo.prog.funcs[104]? = some Tryz.f104 := fn_o Tryz.func104 (by decide)
@[simp] theorem Tryo.func105 : Tryo.prog.funcs[105]? = some Tryz.f105 := fn_o Tryz.func105 (by decide)
@[simp] theorem Tryo.func106 : Tryo.prog.funcs[106]? = some Tryz.f106 := fn_o Tryz.func106 (by decide)
@[simp] theorem Tryo.func107 : Tryo.prog.funcs[107]? = some Tryz.f107 := fn_o Tryz.func107 (by decide)
@[simp] theorem Tryo.func108 : Tryo.prog.funcs[108]? = some Tryz.f108 := fn_o Tryz.func108 (by decide)
@[simp] theorem Tryo.func109 : Tryo.prog.funcs[109]? = some Tryz.f109 := fn_o Tryz.func109 (by decide)
@[simp] theorem Tryo.func110 : Tryo.prog.funcs[110]? = some Tryz.f110 := fn_o Tryz.func110 (by decide)
@[simp] theorem Tryo.func111 : Tryo.prog.funcs[111]? = some Tryz.f111 := fn_o Tryz.func111 (by decide)
@[simp] theorem Tryo.func112 : Tryo.prog.funcs[112]? = some Tryz.f112 := fn_o Tryz.func112 (by decide)
@[simp] theorem Tryo.func113 : Tryo.prog.funcs[113]? = some Tryz.f113 := fn_o Tryz.func113 (by decide)
@[simp] theorem Tryo.func114 : Tryo.prog.funcs[114]? = some Tryz.f114 := fn_o Tryz.func114 (by decide)
@[simp] theorem Tryo.func115 : Tryo.prog.funcs[115]? = some Tryz.f115 := fn_o Tryz.func115 (by decide)
@[simp] theorem Tryo.func116 : Tryo.prog.funcs[116]? = some Tryz.f116 := fn_o Tryz.func116 (by decide)
@[simp] theorem Tryo.func117 : Tryo.prog.funcs[117]? = some Tryz.f117 := fn_o Tryz.func117 (by decide)
@[simp] theorem Tryo.func118 : Tryo.prog.funcs[118]? = some Tryz.f118 := fn_o Tryz.func118 (by decide)
@[simp] theorem Tryo.func119 : Tryo.prog.funcs[119]? = some Tryz.f119 := fn_o Tryz.func119 (by decide)
@[simp] theorem Tryo.func120 : Tryo.prog.funcs[120]? = some Tryz.f120 := fn_o Tryz.func120 (by decide)
@[simp] theorem Tryo.func121 : Tryo.prog.funcs[121]? = some Tryz.f121 := fn_o Tryz.func121 (by decide)
@[simp] theorem Tryo.func122 : Tryo.prog.funcs[122]? = some Tryz.f122 := fn_o Tryz.func122 (by decide)
@[simp] theorem Tryo.func123 : Tryo.prog.funcs[123]? = some Tryz.f123 := fn_o Tryz.func123 (by decide)
@[simp] theorem Tryo.func124 : Tryo.prog.funcs[124]? = some Tryz.f124 := fn_o Tryz.func124 (by decide)
@[simp] theorem Tryo.func125 : Tryo.prog.funcs[125]? = some Tryz.f125 := fn_o Tryz.func125 (by decide)
@[simp] theorem Tryo.func126 : Tryo.prog.funcs[126]? = some Tryz.f126 := fn_o Tryz.func126 (by decide)
@[simp] theorem Tryo.func127 : Tryo.prog.funcs[127]? = some Tryz.f127 := fn_o Tryz.func127 (by decide)
@[simp] theorem Tryo.func128 : Tryo.prog.funcs[128]? = some Tryz.f128 := fn_o Tryz.func128 (by decide)
@[simp] theorem Tryo.func129 : Tryo.prog.funcs[129]? = some Tryz.f129 := fn_o Tryz.func129 (by decide)
@[simp] theorem Tryo.func130 : Tryo.prog.funcs[130]? = some Tryz.f130 := fn_o Tryz.func130 (by decide)
@[simp] theorem Tryo.func131 : Tryo.prog.funcs[131]? = some Tryz.f131 := fn_o Tryz.func131 (by decide)
@[simp] theorem Tryo.func132 : Tryo.prog.funcs[132]? = some Tryz.f132 := fn_o Tryz.func132 (by decide)
@[simp] theorem Tryo.func133 : Tryo.prog.funcs[133]? = some Tryz.f133 := fn_o Tryz.func133 (by decide)
@[simp] theorem Tryo.func134 : Tryo.prog.funcs[134]? = some Tryz.f134 := fn_o Tryz.func134 (by decide)
@[simp] theorem Tryo.func135 : Tryo.prog.funcs[135]? = some Tryz.f135 := fn_o Tryz.func135 (by decide)
@[simp] theorem Tryo.func136 : Tryo.prog.funcs[136]? = some Tryz.f136 := fn_o Tryz.func136 (by decide)
@[simp] theorem Tryo.func137 : Tryo.prog.funcs[137]? = some Tryz.f137 := fn_o Tryz.func137 (by decide)
@[simp] theorem Tryo.func138 : Tryo.prog.funcs[138]? = some Tryz.f138 := fn_o Tryz.func138 (by decide)
@[simp] theorem Tryo.func139 : Tryo.prog.funcs[139]? = some Tryz.f139 := fn_o Tryz.func139 (by decide)
@[simp] theorem Tryo.func140 : Tryo.prog.funcs[140]? = some Tryz.f140 := fn_o Tryz.func140 (by decide)
@[simp] theorem Tryo.func141 : Tryo.prog.funcs[141]? = some Tryz.f141 := fn_o Tryz.func141 (by decide)
@[simp] theorem Tryo.func142 : Tryo.prog.funcs[142]? = some Tryz.f142 := fn_o Tryz.func142 (by decide)
@[simp] theorem Tryo.func143 : Tryo.prog.funcs[143]? = some Tryz.f143 := fn_o Tryz.func143 (by decide)
@[simp] theorem Tryo.func144 : Tryo.prog.funcs[144]? = some Tryz.f144 := fn_o Tryz.func144 (by decide)
@[simp] theorem Tryo.func145 : Tryo.prog.funcs[145]? = some Tryz.f145 := fn_o Tryz.func145 (by decide)
@[simp] theorem Tryo.func146 : Tryo.prog.funcs[146]? = some Tryz.f146 := fn_o Tryz.func146 (by decide)
@[simp] theorem Tryo.func147 : Tryo.prog.funcs[147]? = some Tryz.f147 := fn_o Tryz.func147 (by decide)
@[simp] theorem Tryo.func148 : Tryo.prog.funcs[148]? = some Tryz.f148 := fn_o Tryz.func148 (by decide)
@[simp] theorem Tryo.func149 : Tryo.prog.funcs[149]? = some Tryz.f149 := fn_o Tryz.func149 (by decide)
@[simp] theorem Tryo.func150 : Tryo.prog.funcs[150]? = some Tryz.f150 := fn_o Tryz.func150 (by decide)
@[simp] theorem Tryo.func151 : Tryo.prog.funcs[151]? = some Tryz.f151 := fn_o Tryz.func151 (by decide)
@[simp] theorem Tryo.func152 : Tryo.prog.funcs[152]? = some Tryz.f152 := fn_o Tryz.func152 (by decide)
@[simp] theorem Tryo.func153 : Tryo.prog.funcs[153]? = some Tryz.f153 := fn_o Tryz.func153 (by decide)
@[simp] theorem Tryo.func154 : Tryo.prog.funcs[154]? = some Tryz.f154 := fn_o Tryz.func154 (by decide)
@[simp] theorem Tryo.func155 : Tryo.prog.funcs[155]? = some Tryz.f155 := fn_o Tryz.func155 (by decide)
@[simp] theorem Tryo.func156 : Tryo.prog.funcs[156]? = some Tryz.f156 := fn_o Tryz.func156 (by decide)
@[simp] theorem Tryo.func157 : Tryo.prog.funcs[157]? = some Tryz.f157 := fn_o Tryz.func157 (by decide)
@[simp] theorem Tryo.func158 : Tryo.prog.funcs[158]? = some Tryz.f158 := fn_o Tryz.func158 (by decide)
@[simp] theorem Tryo.func159 : Tryo.prog.funcs[159]? = some Tryz.f159 := fn_o Tryz.func159 (by decide)
@[simp] theorem Tryo.func160 : Tryo.prog.funcs[160]? = some Tryz.f160 := fn_o Tryz.func160 (by decide)
@[simp] theorem Tryo.func161 : Tryo.prog.funcs[161]? = some Tryz.f161 := fn_o Tryz.func161 (by decide)
@[simp] theorem Tryo.func162 : Tryo.prog.funcs[162]? = some Tryz.f162 := fn_o Tryz.func162 (by decide)
@[simp] theorem Tryo.func163 : Tryo.prog.funcs[163]? = some Tryz.f163 := fn_o Tryz.func163 (by decide)
@[simp] theorem Tryo.func164 : Tryo.prog.funcs[164]? = some Tryz.f164 := fn_o Tryz.func164 (by decide)
@[simp] theorem Tryo.func165 : Tryo.prog.funcs[165]? = some Tryz.f165 := fn_o Tryz.func165 (by decide)
@[simp] theorem Tryo.func166 : Tryo.prog.funcs[166]? = some Tryz.f166 := fn_o Tryz.func166 (by decide)
@[simp] theorem Tryo.func167 : Tryo.prog.funcs[167]? = some Tryz.f167 := fn_o Tryz.func167 (by decide)
@[simp] theorem Tryo.func168 : Tryo.prog.funcs[168]? = some Tryz.f168 := fn_o Tryz.func168 (by decide)
@[simp] theorem Tryo.func169 : Tryo.prog.funcs[169]? = some Tryz.f169 := fn_o Tryz.func169 (by decide)
@[simp] theorem Tryo.func170 : Tryo.prog.funcs[170]? = some Tryz.f170 := fn_o Tryz.func170 (by decide)
@[simp] theorem Tryo.func171 : Tryo.prog.funcs[171]? = some Tryz.f171 := fn_o Tryz.func171 (by decide)
@[simp] theorem Tryo.func172 : Tryo.prog.funcs[172]? = some Tryz.f172 := fn_o Tryz.func172 (by decide)
@[simp] theorem Tryo.func173 : Tryo.prog.funcs[173]? = some Tryz.f173 := fn_o Tryz.func173 (by decide)
@[simp] theorem Tryo.func174 : Tryo.prog.funcs[174]? = some Tryz.f174 := fn_o Tryz.func174 (by decide)
@[simp] theorem Tryo.func175 : Tryo.prog.funcs[175]? = some Tryz.f175 := fn_o Tryz.func175 (by decide)
@[simp] theorem Tryo.func176 : Tryo.prog.funcs[176]? = some Tryz.f176 := fn_o Tryz.func176 (by decide)
@[simp] theorem Tryo.func177 : Tryo.prog.funcs[177]? = some Tryz.f177 := fn_o Tryz.func177 (by decide)
@[simp] theorem Tryo.func178 : Tryo.prog.funcs[178]? = some Tryz.f178 := fn_o Tryz.func178 (by decide)
@[simp] theorem Tryo.func179 : Tryo.prog.funcs[179]? = some Tryz.f179 := fn_o Tryz.func179 (by decide)
@[simp] theorem Tryo.func180 : Tryo.prog.funcs[180]? = some Tryz.f180 := fn_o Tryz.func180 (by decide)
@[simp] theorem Tryo.func181 : Tryo.prog.funcs[181]? = some Tryz.f181 := fn_o Tryz.func181 (by decide)
@[simp] theorem Tryo.func182 : Tryo.prog.funcs[182]? = some Tryz.f182 := fn_o Tryz.func182 (by decide)
@[simp] theorem Tryo.func183 : Tryo.prog.funcs[183]? = some Tryz.f183 := fn_o Tryz.func183 (by decide)
@[simp] theorem Tryo.func184 : Tryo.prog.funcs[184]? = some Tryz.f184 := fn_o Tryz.func184 (by decide)
@[simp] theorem Tryo.func185 : Tryo.prog.funcs[185]? = some Tryz.f185 := fn_o Tryz.func185 (by decide)
@[simp] theorem Tryo.func186 : Tryo.prog.funcs[186]? = some Tryz.f186 := fn_o Tryz.func186 (by decide)
@[simp] theorem Tryo.func187 : Tryo.prog.funcs[187]? = some Tryz.f187 := fn_o Tryz.func187 (by decide)
@[simp] theorem Tryo.func188 : Tryo.prog.funcs[188]? = some Tryz.f188 := fn_o Tryz.func188 (by decide)
@[simp] theorem Tryo.func189 : Tryo.prog.funcs[189]? = some Tryz.f189 := fn_o Tryz.func189 (by decide)
@[simp] theorem Tryo.func190 : Tryo.prog.funcs[190]? = some Tryz.f190 := fn_o Tryz.func190 (by decide)
@[simp] theorem Tryo.func191 : Tryo.prog.funcs[191]? = some Tryz.f191 := fn_o Tryz.func191 (by decide)
@[simp] theorem Tryo.func192 : Tryo.prog.funcs[192]? = some Tryz.f192 := fn_o Tryz.func192 (by decide)
@[simp] theorem Tryo.func193 : Tryo.prog.funcs[193]? = some Tryz.f193 := fn_o Tryz.func193 (by decide)
@[simp] theorem Tryo.func194 : Tryo.prog.funcs[194]? = some Tryz.f194 := fn_o Tryz.func194 (by decide)
@[simp] theorem Tryo.func195 : Tryo.prog.funcs[195]? = some Tryz.f195 := fn_o Tryz.func195 (by decide)
@[simp] theorem Tryo.func196 : Tryo.prog.funcs[196]? = some Tryz.f196 := fn_o Tryz.func196 (by decide)
@[simp] theorem Tryo.func197 : Tryo.prog.funcs[197]? = some Tryz.f197 := fn_o Tryz.func197 (by decide)
@[simp] theorem Tryo.func198 : Tryo.prog.funcs[198]? = some Tryz.f198 := fn_o Tryz.func198 (by decide)
@[simp] theorem Tryo.func199 : Tryo.prog.funcs[199]? = some Tryz.f199 := fn_o Tryz.func199 (by decide)
@[simp] theorem Tryo.func200 : Tryo.prog.funcs[200]? = some Tryz.f200 := fn_o Tryz.func200 (by decide)
@[simp] theorem Tryo.func201 : Tryo.prog.funcs[201]? = some Tryz.f201 := fn_o Tryz.func201 (by decide)
@[simp] theorem Tryo.func202 : Tryo.prog.funcs[202]? = some Tryz.f202 := fn_o Tryz.func202 (by decide)
@[simp] theorem Tryo.func203 : Tryo.prog.funcs[203]? = some Tryz.f203 := fn_o Tryz.func203 (by decide)
@[simp] theorem Tryo.func204 : Tryo.prog.funcs[204]? = some Tryz.f204 := fn_o Tryz.func204 (by decide)
@[simp] theorem Tryo.func205 : Tryo.prog.funcs[205]? = some Tryz.f205 := fn_o Tryz.func205 (by decide)
@[simp] theorem Tryo.func206 : Tryo.prog.funcs[206]? = some Tryz.f206 := fn_o Tryz.func206 (by decide)
@[simp] theorem Tryo.func207 : Tryo.prog.funcs[207]? = some Tryz.f207 := fn_o Tryz.func207 (by decide)
@[simp] theorem Tryo.func208 : Tryo.prog.funcs[208]? = some Tryz.f208 := fn_o Tryz.func208 (by decide)
@[simp] theorem Tryo.func209 : Tryo.prog.funcs[209]? = some Tryz.f209 := fn_o Tryz.func209 (by decide)
@[simp] theorem Tryo.func210 : Tryo.prog.funcs[210]? = some Tryz.f210 := fn_o Tryz.func210 (by decide)
@[simp] theorem Tryo.func211 : Tryo.prog.funcs[211]? = some Tryz.f211 := fn_o Tryz.func211 (by decide)
@[simp] theorem Tryo.func212 : Tryo.prog.funcs[212]? = some Tryz.f212 := fn_o Tryz.func212 (by decide)
@[simp] theorem Tryo.func213 : Tryo.prog.funcs[213]? = some Tryz.f213 := fn_o Tryz.func213 (by decide)
@[simp] theorem Tryo.func214 : Tryo.prog.funcs[214]? = some Tryz.f214 := fn_o Tryz.func214 (by decide)
@[simp] theorem Tryo.call2 (args : Array Value) (w : World) : (callFunc 2 args).run Tryo.prog w = .ok (.enter 2 args) w := call_o Tryo.func2 rfl (by rfl) args w
@[simp] theorem Tryo.call3 (args : Array Value) (w : World) : (callFunc 3 args).run Tryo.prog w = .ok (.enter 3 args) w := call_o Tryo.func3 rfl (by rfl) args w
@[simp] theorem Tryo.call4 (args : Array Value) (w : World) : (callFunc 4 args).run Tryo.prog w = .ok (.enter 4 args) w := call_o Tryo.func4 rfl (by rfl) args w
@[simp] theorem Tryo.call5 (args : Array Value) (w : World) : (callFunc 5 args).run Tryo.prog w = .ok (.enter 5 args) w := call_o Tryo.func5 rfl (by rfl) args w
@[simp] theorem Tryo.call6 (args : Array Value) (w : World) : (callFunc 6 args).run Tryo.prog w = .ok (.enter 6 args) w := call_o Tryo.func6 rfl (by rfl) args w
@[simp] theorem Tryo.call7 (args : Array Value) (w : World) : (callFunc 7 args).run Tryo.prog w = .ok (.enter 7 args) w := call_o Tryo.func7 rfl (by rfl) args w
@[simp] theorem Tryo.call8 (args : Array Value) (w : World) : (callFunc 8 args).run Tryo.prog w = .ok (.enter 8 args) w := call_o Tryo.func8 rfl (by rfl) args w
@[simp] theorem Tryo.call9 (args : Array Value) (w : World) : (callFunc 9 args).run Tryo.prog w = .ok (.enter 9 args) w := call_o Tryo.func9 rfl (by rfl) args w
@[simp] theorem Tryo.call10 (args : Array Value) (w : World) : (callFunc 10 args).run Tryo.prog w = .ok (.enter 10 args) w := call_o Tryo.func10 rfl (by rfl) args w
@[simp] theorem Tryo.call11 (args : Array Value) (w : World) : (callFunc 11 args).run Tryo.prog w = .ok (.enter 11 args) w := call_o Tryo.func11 rfl (by rfl) args w
@[simp] theorem Tryo.call12 (args : Array Value) (w : World) : (callFunc 12 args).run Tryo.prog w = .ok (.enter 12 args) w := call_o Tryo.func12 rfl (by rfl) args w
@[simp] theorem Tryo.call13 (args : Array Value) (w : World) : (callFunc 13 args).run Tryo.prog w = .ok (.enter 13 args) w := call_o Tryo.func13 rfl (by rfl) args w
@[simp] theorem Tryo.call14 (args : Array Value) (w : World) : (callFunc 14 args).run Tryo.prog w = .ok (.enter 14 args) w := call_o Tryo.func14 rfl (by rfl) args w
@[simp] theorem Tryo.call15 (args : Array Value) (w : World) : (callFunc 15 args).run Tryo.prog w = .ok (.enter 15 args) w := call_o Tryo.func15 rfl (by rfl) args w
@[simp] theorem Tryo.call16 (args : Array Value) (w : World) : (callFunc 16 args).run Tryo.prog w = .ok (.enter 16 args) w := call_o Tryo.func16 rfl (by rfl) args w
@[simp] theorem Tryo.call17 (args : Array Value) (w : World) : (callFunc 17 args).run Tryo.prog w = .ok (.enter 17 args) w := call_o Tryo.func17 rfl (by rfl) args w
@[simp] theorem Tryo.call18 (args : Array Value) (w : World) : (callFunc 18 args).run Tryo.prog w = .ok (.enter 18 args) w := call_o Tryo.func18 rfl (by rfl) args w
@[simp] theorem Tryo.call19 (args : Array Value) (w : World) : (callFunc 19 args).run Tryo.prog w = .ok (.enter 19 args) w := call_o Tryo.func19 rfl (by rfl) args w
@[simp] theorem Tryo.call20 (args : Array Value) (w : World) : (callFunc 20 args).run Tryo.prog w = .ok (.enter 20 args) w := call_o Tryo.func20 rfl (by rfl) args w
@[simp] theorem Tryo.call21 (args : Array Value) (w : World) : (callFunc 21 args).run Tryo.prog w = .ok (.enter 21 args) w := call_o Tryo.func21 rfl (by rfl) args w
@[simp] theorem Tryo.call22 (args : Array Value) (w : World) : (callFunc 22 args).run Tryo.prog w = .ok (.enter 22 args) w := call_o Tryo.func22 rfl (by rfl) args w
@[simp] theorem Tryo.call23 (args : Array Value) (w : World) : (callFunc 23 args).run Tryo.prog w = .ok (.enter 23 args) w := call_o Tryo.func23 rfl (by rfl) args w
@[simp] theorem Tryo.call24 (args : Array Value) (w : World) : (callFunc 24 args).run Tryo.prog w = .ok (.enter 24 args) w := call_o Tryo.func24 rfl (by rfl) args w
@[simp] theorem Tryo.call25 (args : Array Value) (w : World) : (callFunc 25 args).run Tryo.prog w = .ok (.enter 25 args) w := call_o Tryo.func25 rfl (by rfl) args w
@[simp] theorem Tryo.call26 (args : Array Value) (w : World) : (callFunc 26 args).run Tryo.prog w = .ok (.enter 26 args) w := call_o Tryo.func26 rfl (by rfl) args w
@[simp] theorem Tryo.call27 (args : Array Value) (w : World) : (callFunc 27 args).run Tryo.prog w = .ok (.enter 27 args) w := call_o Tryo.func27 rfl (by rfl) args w
@[simp] theorem Tryo.call28 (args : Array Value) (w : World) : (callFunc 28 args).run Tryo.prog w = .ok (.enter 28 args) w := call_o Tryo.func28 rfl (by rfl) args w
@[simp] theorem Tryo.call29 (args : Array Value) (w : World) : (callFunc 29 args).run Tryo.prog w = .ok (.enter 29 args) w := call_o Tryo.func29 rfl (by rfl) args w
@[simp] theorem Tryo.call30 (args : Array Value) (w : World) : (callFunc 30 args).run Tryo.prog w = .ok (.enter 30 args) w := call_o Tryo.func30 rfl (by rfl) args w
@[simp] theorem Tryo.call31 (args : Array Value) (w : World) : (callFunc 31 args).run Tryo.prog w = .ok (.enter 31 args) w := call_o Tryo.func31 rfl (by rfl) args w
@[simp] theorem Tryo.call32 (args : Array Value) (w : World) : (callFunc 32 args).run Tryo.prog w = .ok (.enter 32 args) w := call_o Tryo.func32 rfl (by rfl) args w
@[simp] theorem Tryo.call33 (args : Array Value) (w : World) : (callFunc 33 args).run Tryo.prog w = .ok (.enter 33 args) w := call_o Tryo.func33 rfl (by rfl) args w
@[simp] theorem Tryo.call34 (args : Array Value) (w : World) : (callFunc 34 args).run Tryo.prog w = .ok (.enter 34 args) w := call_o Tryo.func34 rfl (by rfl) args w
@[simp] theorem Tryo.call35 (args : Array Value) (w : World) : (callFunc 35 args).run Tryo.prog w = .ok (.enter 35 args) w := call_o Tryo.func35 rfl (by rfl) args w
@[simp] theorem Tryo.call36 (args : Array Value) (w : World) : (callFunc 36 args).run Tryo.prog w = .ok (.enter 36 args) w := call_o Tryo.func36 rfl (by rfl) args w
@[simp] theorem Tryo.call37 (args : Array Value) (w : World) : (callFunc 37 args).run Tryo.prog w = .ok (.enter 37 args) w := call_o Tryo.func37 rfl (by rfl) args w
@[simp] theorem Tryo.call38 (args : Array Value) (w : World) : (callFunc 38 args).run Tryo.prog w = .ok (.enter 38 args) w := call_o Tryo.func38 rfl (by rfl) args w
@[simp] theorem Tryo.call39 (args : Array Value) (w : World) : (callFunc 39 args).run Tryo.prog w = .ok (.enter 39 args) w := call_o Tryo.func39 rfl (by rfl) args w
@[simp] theorem Tryo.call40 (args : Array Value) (w : World) : (callFunc 40 args).run Tryo.prog w = .ok (.enter 40 args) w := call_o Tryo.func40 rfl (by rfl) args w
@[simp] theorem Tryo.call41 (args : Array Value) (w : World) : (callFunc 41 args).run Tryo.prog w = .ok (.enter 41 args) w := call_o Tryo.func41 rfl (by rfl) args w
@[simp] theorem Tryo.call42 (args : Array Value) (w : World) : (callFunc 42 args).run Tryo.prog w = .ok (.enter 42 args) w := call_o Tryo.func42 rfl (by rfl) args w
@[simp] theorem Tryo.call43 (args : Array Value) (w : World) : (callFunc 43 args).run Tryo.prog w = .ok (.enter 43 args) w := call_o Tryo.func43 rfl (by rfl) args w
@[simp] theorem Tryo.call44 (args : Array Value) (w : World) : (callFunc 44 args).run Tryo.prog w = .ok (.enter 44 args) w := call_o Tryo.func44 rfl (by rfl) args w
@[simp] theorem Tryo.call45 (args : Array Value) (w : World) : (callFunc 45 args).run Tryo.prog w = .ok (.enter 45 args) w := call_o Tryo.func45 rfl (by rfl) args w
@[simp] theorem Tryo.call46 (args : Array Value) (w : World) : (callFunc 46 args).run Tryo.prog w = .ok (.enter 46 args) w := call_o Tryo.func46 rfl (by rfl) args w
@[simp] theorem Tryo.call47 (args : Array Value) (w : World) : (callFunc 47 args).run Tryo.prog w = .ok (.enter 47 args) w := call_o Tryo.func47 rfl (by rfl) args w
@[simp] theorem Tryo.call48 (args : Array Value) (w : World) : (callFunc 48 args).run Tryo.prog w = .ok (.enter 48 args) w := call_o Tryo.func48 rfl (by rfl) args w
@[simp] theorem Tryo.call49 (args : Array Value) (w : World) : (callFunc 49 args).run Tryo.prog w = .ok (.enter 49 args) w := call_o Tryo.func49 rfl (by rfl) args w
@[simp] theorem Tryo.call50 (args : Array Value) (w : World) : (callFunc 50 args).run Tryo.prog w = .ok (.enter 50 args) w := call_o Tryo.func50 rfl (by rfl) args w
@[simp] theorem Tryo.call51 (args : Array Value) (w : World) : (callFunc 51 args).run Tryo.prog w = .ok (.enter 51 args) w := call_o Tryo.func51 rfl (by rfl) args w
@[simp] theorem Tryo.call52 (args : Array Value) (w : World) : (callFunc 52 args).run Tryo.prog w = .ok (.enter 52 args) w := call_o Tryo.func52 rfl (by rfl) args w
@[simp] theorem Tryo.call53 (args : Array Value) (w : World) : (callFunc 53 args).run Tryo.prog w = .ok (.enter 53 args) w := call_o Tryo.func53 rfl (by rfl) args w
@[simp] theorem Tryo.call54 (args : Array Value) (w : World) : (callFunc 54 args).run Tryo.prog w = .ok (.enter 54 args) w := call_o Tryo.func54 rfl (by rfl) args w
@[simp] theorem Tryo.call55 (args : Array Value) (w : World) : (callFunc 55 args).run Tryo.prog w = .ok (.enter 55 args) w := call_o Tryo.func55 rfl (by rfl) args w
@[simp] theorem Tryo.call56 (args : Array Value) (w : World) : (callFunc 56 args).run Tryo.prog w = .ok (.enter 56 args) w := call_o Tryo.func56 rfl (by rfl) args w
@[simp] theorem Tryo.call57 (args : Array Value) (w : World) : (callFunc 57 args).run Tryo.prog w = .ok (.enter 57 args) w := call_o Tryo.func57 rfl (by rfl) args w
@[simp] theorem Tryo.call58 (args : Array Value) (w : World) : (callFunc 58 args).run Tryo.prog w = .ok (.enter 58 args) w := call_o Tryo.func58 rfl (by rfl) args w
@[simp] theorem Tryo.call59 (args : Array Value) (w : World) : (callFunc 59 args).run Tryo.prog w = .ok (.enter 59 args) w := call_o Tryo.func59 rfl (by rfl) args w
@[simp] theorem Tryo.call60 (args : Array Value) (w : World) : (callFunc 60 args).run Tryo.prog w = .ok (.enter 60 args) w := call_o Tryo.func60 rfl (by rfl) args w
@[simp] theorem Tryo.call61 (args : Array Value) (w : World) : (callFunc 61 args).run Tryo.prog w = .ok (.enter 61 args) w := call_o Tryo.func61 rfl (by rfl) args w
@[simp] theorem Tryo.call62 (args : Array Value) (w : World) : (callFunc 62 args).run Tryo.prog w = .ok (.enter 62 args) w := call_o Tryo.func62 rfl (by rfl) args w
@[simp] theorem Tryo.call63 (args : Array Value) (w : World) : (callFunc 63 args).run Tryo.prog w = .ok (.enter 63 args) w := call_o Tryo.func63 rfl (by rfl) args w
@[simp] theorem Tryo.call64 (args : Array Value) (w : World) : (callFunc 64 args).run Tryo.prog w = .ok (.enter 64 args) w := call_o Tryo.func64 rfl (by rfl) args w
@[simp] theorem Tryo.call65 (args : Array Value) (w : World) : (callFunc 65 args).run Tryo.prog w = .ok (.enter 65 args) w := call_o Tryo.func65 rfl (by rfl) args w
@[simp] theorem Tryo.call66 (args : Array Value) (w : World) : (callFunc 66 args).run Tryo.prog w = .ok (.enter 66 args) w := call_o Tryo.func66 rfl (by rfl) args w
@[simp] theorem Tryo.call67 (args : Array Value) (w : World) : (callFunc 67 args).run Tryo.prog w = .ok (.enter 67 args) w := call_o Tryo.func67 rfl (by rfl) args w
@[simp] theorem Tryo.call68 (args : Array Value) (w : World) : (callFunc 68 args).run Tryo.prog w = .ok (.enter 68 args) w := call_o Tryo.func68 rfl (by rfl) args w
@[simp] theorem Tryo.call69 (args : Array Value) (w : World) : (callFunc 69 args).run Tryo.prog w = .ok (.enter 69 args) w := call_o Tryo.func69 rfl (by rfl) args w
@[simp] theorem Tryo.call70 (args : Array Value) (w : World) : (callFunc 70 args).run Tryo.prog w = .ok (.enter 70 args) w := call_o Tryo.func70 rfl (by rfl) args w
@[simp] theorem Tryo.call71 (args : Array Value) (w : World) : (callFunc 71 args).run Tryo.prog w = .ok (.enter 71 args) w := call_o Tryo.func71 rfl (by rfl) args w
@[simp] theorem Tryo.call72 (args : Array Value) (w : World) : (callFunc 72 args).run Tryo.prog w = .ok (.enter 72 args) w := call_o Tryo.func72 rfl (by rfl) args w
@[simp] theorem Tryo.call73 (args : Array Value) (w : World) : (callFunc 73 args).run Tryo.prog w = .ok (.enter 73 args) w := call_o Tryo.func73 rfl (by rfl) args w
@[simp] theorem Tryo.call74 (args : Array Value) (w : World) : (callFunc 74 args).run Tryo.prog w = .ok (.enter 74 args) w := call_o Tryo.func74 rfl (by rfl) args w
@[simp] theorem Tryo.call75 (args : Array Value) (w : World) : (callFunc 75 args).run Tryo.prog w = .ok (.enter 75 args) w := call_o Tryo.func75 rfl (by rfl) args w
@[simp] theorem Tryo.call76 (args : Array Value) (w : World) : (callFunc 76 args).run Tryo.prog w = .ok (.enter 76 args) w := call_o Tryo.func76 rfl (by rfl) args w
@[simp] theorem Tryo.call77 (args : Array Value) (w : World) : (callFunc 77 args).run Tryo.prog w = .ok (.enter 77 args) w := call_o Tryo.func77 rfl (by rfl) args w
@[simp] theorem Tryo.call78 (args : Array Value) (w : World) : (callFunc 78 args).run Tryo.prog w = .ok (.enter 78 args) w := call_o Tryo.func78 rfl (by rfl) args w
@[simp] theorem Tryo.call79 (args : Array Value) (w : World) : (callFunc 79 args).run Tryo.prog w = .ok (.enter 79 args) w := call_o Tryo.func79 rfl (by rfl) args w
@[simp] theorem Tryo.call80 (args : Array Value) (w : World) : (callFunc 80 args).run Tryo.prog w = .ok (.enter 80 args) w := call_o Tryo.func80 rfl (by rfl) args w
@[simp] theorem Tryo.call81 (args : Array Value) (w : World) : (callFunc 81 args).run Tryo.prog w = .ok (.enter 81 args) w := call_o Tryo.func81 rfl (by rfl) args w
@[simp] theorem Tryo.call82 (args : Array Value) (w : World) : (callFunc 82 args).run Tryo.prog w = .ok (.enter 82 args) w := call_o Tryo.func82 rfl (by rfl) args w
@[simp] theorem Tryo.call83 (args : Array Value) (w : World) : (callFunc 83 args).run Tryo.prog w = .ok (.enter 83 args) w := call_o Tryo.func83 rfl (by rfl) args w
@[simp] theorem Tryo.call84 (args : Array Value) (w : World) : (callFunc 84 args).run Tryo.prog w = .ok (.enter 84 args) w := call_o Tryo.func84 rfl (by rfl) args w
@[simp] theorem Tryo.call85 (args : Array Value) (w : World) : (callFunc 85 args).run Tryo.prog w = .ok (.enter 85 args) w := call_o Tryo.func85 rfl (by rfl) args w
@[simp] theorem Tryo.call92 (args : Array Value) (w : World) : (callFunc 92 args).run Tryo.prog w = .ok (.enter 92 args) w := call_o Tryo.func92 rfl (by rfl) args w
@[simp] theorem Tryo.call93 (args : Array Value) (w : World) : (callFunc 93 args).run Tryo.prog w = .ok (.enter 93 args) w := call_o Tryo.func93 rfl (by rfl) args w
@[simp] theorem Tryo.call95 (args : Array Value) (w : World) : (callFunc 95 args).run Tryo.prog w = .ok (.enter 95 args) w := call_o Tryo.func95 rfl (by rfl) args w
@[simp] theorem Tryo.call96 (args : Array Value) (w : World) : (callFunc 96 args).run Tryo.prog w = .ok (.enter 96 args) w := call_o Tryo.func96 rfl (by rfl) args w
@[simp] theorem Tryo.call99 (args : Array Value) (w : World) : (callFunc 99 args).run Tryo.prog w = .ok (.enter 99 args) w := call_o Tryo.func99 rfl (by rfl) args w
@[simp] theorem Tryo.call102 (args : Array Value) (w : World) : (callFunc 102 args).run Tryo.prog w = .ok (.enter 102 args) w := call_o Tryo.func102 rfl (by rfl) args w
@[simp] theorem Tryo.call105 (args : Array Value) (w : World) : (callFunc 105 args).run Tryo.prog w = .ok (.enter 105 args) w := call_o Tryo.func105 rfl (by rfl) args w
@[simp] theorem Tryo.call106 (args : Array Value) (w : World) : (callFunc 106 args).run Tryo.prog w = .ok (.enter 106 args) w := call_o Tryo.func106 rfl (by rfl) args w
@[simp] theorem Tryo.call107 (args : Array Value) (w : World) : (callFunc 107 args).run Tryo.prog w = .ok (.enter 107 args) w := call_o Tryo.func107 rfl (by rfl) args w
@[simp] theorem Tryo.call108 (args : Array Value) (w : World) : (callFunc 108 args).run Tryo.prog w = .ok (.enter 108 args) w := call_o Tryo.func108 rfl (by rfl) args w
@[simp] theorem Tryo.call109 (args : Array Value) (w : World) : (callFunc 109 args).run Tryo.prog w = .ok (.enter 109 args) w := call_o Tryo.func109 rfl (by rfl) args w
@[simp] theorem Tryo.call110 (args : Array Value) (w : World) : (callFunc 110 args).run Tryo.prog w = .ok (.enter 110 args) w := call_o Tryo.func110 rfl (by rfl) args w
@[simp] theorem Tryo.call111 (args : Array Value) (w : World) : (callFunc 111 args).run Tryo.prog w = .ok (.enter 111 args) w := call_o Tryo.func111 rfl (by rfl) args w
@[simp] theorem Tryo.call112 (args : Array Value) (w : World) : (callFunc 112 args).run Tryo.prog w = .ok (.enter 112 args) w := call_o Tryo.func112 rfl (by rfl) args w
@[simp] theorem Tryo.call113 (args : Array Value) (w : World) : (callFunc 113 args).run Tryo.prog w = .ok (.enter 113 args) w := call_o Tryo.func113 rfl (by rfl) args w
@[simp] theorem Tryo.call114 (args : Array Value) (w : World) : (callFunc 114 args).run Tryo.prog w = .ok (.enter 114 args) w := call_o Tryo.func114 rfl (by rfl) args w
@[simp] theorem Tryo.call115 (args : Array Value) (w : World) : (callFunc 115 args).run Tryo.prog w = .ok (.enter 115 args) w := call_o Tryo.func115 rfl (by rfl) args w
@[simp] theorem Tryo.call116 (args : Array Value) (w : World) : (callFunc 116 args).run Tryo.prog w = .ok (.enter 116 args) w := call_o Tryo.func116 rfl (by rfl) args w
@[simp] theorem Tryo.call117 (args : Array Value) (w : World) : (callFunc 117 args).run Tryo.prog w = .ok (.enter 117 args) w := call_o Tryo.func117 rfl (by rfl) args w
@[simp] theorem Tryo.call118 (args : Array Value) (w : World) : (callFunc 118 args).run Tryo.prog w = .ok (.enter 118 args) w := call_o Tryo.func118 rfl (by rfl) args w
@[simp] theorem Tryo.call119 (args : Array Value) (w : World) : (callFunc 119 args).run Tryo.prog w = .ok (.enter 119 args) w := call_o Tryo.func119 rfl (by rfl) args w
@[simp] theorem Tryo.call120 (args : Array Value) (w : World) : (callFunc 120 args).run Tryo.prog w = .ok (.enter 120 args) w := call_o Tryo.func120 rfl (by rfl) args w
@[simp] theorem Tryo.call121 (args : Array Value) (w : World) : (callFunc 121 args).run Tryo.prog w = .ok (.enter 121 args) w := call_o Tryo.func121 rfl (by rfl) args w
@[simp] theorem Tryo.call122 (args : Array Value) (w : World) : (callFunc 122 args).run Tryo.prog w = .ok (.enter 122 args) w := call_o Tryo.func122 rfl (by rfl) args w
@[simp] theorem Tryo.call123 (args : Array Value) (w : World) : (callFunc 123 args).run Tryo.prog w = .ok (.enter 123 args) w := call_o Tryo.func123 rfl (by rfl) args w
@[simp] theorem Tryo.call124 (args : Array Value) (w : World) : (callFunc 124 args).run Tryo.prog w = .ok (.enter 124 args) w := call_o Tryo.func124 rfl (by rfl) args w
@[simp] theorem Tryo.call125 (args : Array Value) (w : World) : (callFunc 125 args).run Tryo.prog w = .ok (.enter 125 args) w := call_o Tryo.func125 rfl (by rfl) args w
@[simp] theorem Tryo.call126 (args : Array Value) (w : World) : (callFunc 126 args).run Tryo.prog w = .ok (.enter 126 args) w := call_o Tryo.func126 rfl (by rfl) args w
@[simp] theorem Tryo.call127 (args : Array Value) (w : World) : (callFunc 127 args).run Tryo.prog w = .ok (.enter 127 args) w := call_o Tryo.func127 rfl (by rfl) args w
@[simp] theorem Tryo.call128 (args : Array Value) (w : World) : (callFunc 128 args).run Tryo.prog w = .ok (.enter 128 args) w := call_o Tryo.func128 rfl (by rfl) args w
@[simp] theorem Tryo.call129 (args : Array Value) (w : World) : (callFunc 129 args).run Tryo.prog w = .ok (.enter 129 args) w := call_o Tryo.func129 rfl (by rfl) args w
@[simp] theorem Tryo.call130 (args : Array Value) (w : World) : (callFunc 130 args).run Tryo.prog w = .ok (.enter 130 args) w := call_o Tryo.func130 rfl (by rfl) args w
@[simp] theorem Tryo.call131 (args : Array Value) (w : World) : (callFunc 131 args).run Tryo.prog w = .ok (.enter 131 args) w := call_o Tryo.func131 rfl (by rfl) args w
@[simp] theorem Tryo.call132 (args : Array Value) (w : World) : (callFunc 132 args).run Tryo.prog w = .ok (.enter 132 args) w := call_o Tryo.func132 rfl (by rfl) args w
@[simp] theorem Tryo.call138 (args : Array Value) (w : World) : (callFunc 138 args).run Tryo.prog w = .ok (.enter 138 args) w := call_o Tryo.func138 rfl (by rfl) args w
@[simp] theorem Tryo.call139 (args : Array Value) (w : World) : (callFunc 139 args).run Tryo.prog w = .ok (.enter 139 args) w := call_o Tryo.func139 rfl (by rfl) args w
@[simp] theorem Tryo.call140 (args : Array Value) (w : World) : (callFunc 140 args).run Tryo.prog w = .ok (.enter 140 args) w := call_o Tryo.func140 rfl (by rfl) args w
@[simp] theorem Tryo.call141 (args : Array Value) (w : World) : (callFunc 141 args).run Tryo.prog w = .ok (.enter 141 args) w := call_o Tryo.func141 rfl (by rfl) args w
@[simp] theorem Tryo.call142 (args : Array Value) (w : World) : (callFunc 142 args).run Tryo.prog w = .ok (.enter 142 args) w := call_o Tryo.func142 rfl (by rfl) args w
@[simp] theorem Tryo.call143 (args : Array Value) (w : World) : (callFunc 143 args).run Tryo.prog w = .ok (.enter 143 args) w := call_o Tryo.func143 rfl (by rfl) args w
@[simp] theorem Tryo.call144 (args : Array Value) (w : World) : (callFunc 144 args).run Tryo.prog w = .ok (.enter 144 args) w := call_o Tryo.func144 rfl (by rfl) args w
@[simp] theorem Tryo.call145 (args : Array Value) (w : World) : (callFunc 145 args).run Tryo.prog w = .ok (.enter 145 args) w := call_o Tryo.func145 rfl (by rfl) args w
@[simp] theorem Tryo.call146 (args : Array Value) (w : World) : (callFunc 146 args).run Tryo.prog w = .ok (.enter 146 args) w := call_o Tryo.func146 rfl (by rfl) args w
@[simp] theorem Tryo.call147 (args : Array Value) (w : World) : (callFunc 147 args).run Tryo.prog w = .ok (.enter 147 args) w := call_o Tryo.func147 rfl (by rfl) args w
@[simp] theorem Tryo.call148 (args : Array Value) (w : World) : (callFunc 148 args).run Tryo.prog w = .ok (.enter 148 args) w := call_o Tryo.func148 rfl (by rfl) args w
@[simp] theorem Tryo.call149 (args : Array Value) (w : World) : (callFunc 149 args).run Tryo.prog w = .ok (.enter 149 args) w := call_o Tryo.func149 rfl (by rfl) args w
@[simp] theorem Tryo.call150 (args : Array Value) (w : World) : (callFunc 150 args).run Tryo.prog w = .ok (.enter 150 args) w := call_o Tryo.func150 rfl (by rfl) args w
@[simp] theorem Tryo.call151 (args : Array Value) (w : World) : (callFunc 151 args).run Tryo.prog w = .ok (.enter 151 args) w := call_o Tryo.func151 rfl (by rfl) args w
@[simp] theorem Tryo.call152 (args : Array Value) (w : World) : (callFunc 152 args).run Tryo.prog w = .ok (.enter 152 args) w := call_o Tryo.func152 rfl (by rfl) args w
@[simp] theorem Tryo.call153 (args : Array Value) (w : World) : (callFunc 153 args).run Tryo.prog w = .ok (.enter 153 args) w := call_o Tryo.func153 rfl (by rfl) args w
@[simp] theorem Tryo.call154 (args : Array Value) (w : World) : (callFunc 154 args).run Tryo.prog w = .ok (.enter 154 args) w := call_o Tryo.func154 rfl (by rfl) args w
@[simp] theorem Tryo.call155 (args : Array Value) (w : World) : (callFunc 155 args).run Tryo.prog w = .ok (.enter 155 args) w := call_o Tryo.func155 rfl (by rfl) args w
@[simp] theorem Tryo.call156 (args : Array Value) (w : World) : (callFunc 156 args).run Tryo.prog w = .ok (.enter 156 args) w := call_o Tryo.func156 rfl (by rfl) args w
@[simp] theorem Tryo.call157 (args : Array Value) (w : World) : (callFunc 157 args).run Tryo.prog w = .ok (.enter 157 args) w := call_o Tryo.func157 rfl (by rfl) args w
@[simp] theorem Tryo.call158 (args : Array Value) (w : World) : (callFunc 158 args).run Tryo.prog w = .ok (.enter 158 args) w := call_o Tryo.func158 rfl (by rfl) args w
@[simp] theorem Tryo.call159 (args : Array Value) (w : World) : (callFunc 159 args).run Tryo.prog w = .ok (.enter 159 args) w := call_o Tryo.func159 rfl (by rfl) args w
@[simp] theorem Tryo.call160 (args : Array Value) (w : World) : (callFunc 160 args).run Tryo.prog w = .ok (.enter 160 args) w := call_o Tryo.func160 rfl (by rfl) args w
@[simp] theorem Tryo.call161 (args : Array Value) (w : World) : (callFunc 161 args).run Tryo.prog w = .ok (.enter 161 args) w := call_o Tryo.func161 rfl (by rfl) args w
@[simp] theorem Tryo.call162 (args : Array Value) (w : World) : (callFunc 162 args).run Tryo.prog w = .ok (.enter 162 args) w := call_o Tryo.func162 rfl (by rfl) args w
@[simp] theorem Tryo.call163 (args : Array Value) (w : World) : (callFunc 163 args).run Tryo.prog w = .ok (.enter 163 args) w := call_o Tryo.func163 rfl (by rfl) args w
@[simp] theorem Tryo.call164 (args : Array Value) (w : World) : (callFunc 164 args).run Tryo.prog w = .ok (.enter 164 args) w := call_o Tryo.func164 rfl (by rfl) args w
@[simp] theorem Tryo.call165 (args : Array Value) (w : World) : (callFunc 165 args).run Tryo.prog w = .ok (.enter 165 args) w := call_o Tryo.func165 rfl (by rfl) args w
@[simp] theorem Tryo.call166 (args : Array Value) (w : World) : (callFunc 166 args).run Tryo.prog w = .ok (.enter 166 args) w := call_o Tryo.func166 rfl (by rfl) args w
@[simp] theorem Tryo.call167 (args : Array Value) (w : World) : (callFunc 167 args).run Tryo.prog w = .ok (.enter 167 args) w := call_o Tryo.func167 rfl (by rfl) args w
@[simp] theorem Tryo.call168 (args : Array Value) (w : World) : (callFunc 168 args).run Tryo.prog w = .ok (.enter 168 args) w := call_o Tryo.func168 rfl (by rfl) args w
@[simp] theorem Tryo.call169 (args : Array Value) (w : World) : (callFunc 169 args).run Tryo.prog w = .ok (.enter 169 args) w := call_o Tryo.func169 rfl (by rfl) args w
@[simp] theorem Tryo.call170 (args : Array Value) (w : World) : (callFunc 170 args).run Tryo.prog w = .ok (.enter 170 args) w := call_o Tryo.func170 rfl (by rfl) args w
@[simp] theorem Tryo.call171 (args : Array Value) (w : World) : (callFunc 171 args).run Tryo.prog w = .ok (.enter 171 args) w := call_o Tryo.func171 rfl (by rfl) args w
@[simp] theorem Tryo.call172 (args : Array Value) (w : World) : (callFunc 172 args).run Tryo.prog w = .ok (.enter 172 args) w := call_o Tryo.func172 rfl (by rfl) args w
@[simp] theorem Tryo.call173 (args : Array Value) (w : World) : (callFunc 173 args).run Tryo.prog w = .ok (.enter 173 args) w := call_o Tryo.func173 rfl (by rfl) args w
@[simp] theorem Tryo.call174 (args : Array Value) (w : World) : (callFunc 174 args).run Tryo.prog w = .ok (.enter 174 args) w := call_o Tryo.func174 rfl (by rfl) args w
@[simp] theorem Tryo.call175 (args : Array Value) (w : World) : (callFunc 175 args).run Tryo.prog w = .ok (.enter 175 args) w := call_o Tryo.func175 rfl (by rfl) args w
@[simp] theorem Tryo.call176 (args : Array Value) (w : World) : (callFunc 176 args).run Tryo.prog w = .ok (.enter 176 args) w := call_o Tryo.func176 rfl (by rfl) args w
@[simp] theorem Tryo.call177 (args : Array Value) (w : World) : (callFunc 177 args).run Tryo.prog w = .ok (.enter 177 args) w := call_o Tryo.func177 rfl (by rfl) args w
@[simp] theorem Tryo.call178 (args : Array Value) (w : World) : (callFunc 178 args).run Tryo.prog w = .ok (.enter 178 args) w := call_o Tryo.func178 rfl (by rfl) args w
@[simp] theorem Tryo.call179 (args : Array Value) (w : World) : (callFunc 179 args).run Tryo.prog w = .ok (.enter 179 args) w := call_o Tryo.func179 rfl (by rfl) args w
@[simp] theorem Tryo.call180 (args : Array Value) (w : World) : (callFunc 180 args).run Tryo.prog w = .ok (.enter 180 args) w := call_o Tryo.func180 rfl (by rfl) args w
@[simp] theorem Tryo.call181 (args : Array Value) (w : World) : (callFunc 181 args).run Tryo.prog w = .ok (.enter 181 args) w := call_o Tryo.func181 rfl (by rfl) args w
@[simp] theorem Tryo.call182 (args : Array Value) (w : World) : (callFunc 182 args).run Tryo.prog w = .ok (.enter 182 args) w := call_o Tryo.func182 rfl (by rfl) args w
@[simp] theorem Tryo.call183 (args : Array Value) (w : World) : (callFunc 183 args).run Tryo.prog w = .ok (.enter 183 args) w := call_o Tryo.func183 rfl (by rfl) args w
@[simp] theorem Tryo.call184 (args : Array Value) (w : World) : (callFunc 184 args).run Tryo.prog w = .ok (.enter 184 args) w := call_o Tryo.func184 rfl (by rfl) args w
@[simp] theorem Tryo.call185 (args : Array Value) (w : World) : (callFunc 185 args).run Tryo.prog w = .ok (.enter 185 args) w := call_o Tryo.func185 rfl (by rfl) args w
@[simp] theorem Tryo.call186 (args : Array Value) (w : World) : (callFunc 186 args).run Tryo.prog w = .ok (.enter 186 args) w := call_o Tryo.func186 rfl (by rfl) args w
@[simp] theorem Tryo.call187 (args : Array Value) (w : World) : (callFunc 187 args).run Tryo.prog w = .ok (.enter 187 args) w := call_o Tryo.func187 rfl (by rfl) args w
@[simp] theorem Tryo.call188 (args : Array Value) (w : World) : (callFunc 188 args).run Tryo.prog w = .ok (.enter 188 args) w := call_o Tryo.func188 rfl (by rfl) args w
@[simp] theorem Tryo.call189 (args : Array Value) (w : World) : (callFunc 189 args).run Tryo.prog w = .ok (.enter 189 args) w := call_o Tryo.func189 rfl (by rfl) args w
@[simp] theorem Tryo.call214 (args : Array Value) (w : World) : (callFunc 214 args).run Tryo.prog w = .ok (.enter 214 args) w := call_o Tryo.func214 rfl (by rfl) args w
end Go.Proofs
