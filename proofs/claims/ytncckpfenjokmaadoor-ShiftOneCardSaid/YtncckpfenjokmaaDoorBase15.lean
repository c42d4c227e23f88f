/- Structs of the laws, opened. -/
import Derived.Test.YtncckpfenjokmaaDoorBase
namespace Go.Proofs.YtncckpfenjokmaaDoor
open Go.ChangeShapes Go.WideShapes Go.ChangeAt Go.RowKit Go.Joins
set_option linter.unusedVariables false
set_option maxRecDepth 100000
section
variable {H : Type} {enc : TypeId × Value → H} {W : World} {base b0 : Nat} {spare : Nat → Bool} {held : Bool} {r : Reach} {v : Value} {d : DataW H} {p : List MemPlace}
theorem open_Code (hv : Value.okWide Tryd.prog W r base 37 v) (h : DataW.Trod enc Tryd.prog W b0 spare held 37 v d p) :
    ∃ (a0 : Int) (a1 : Bool), v = .agg #[.int .i64 a0, .bool a1] ∧ I64 a0 ∧ True := by
  obtain ⟨cs, rfl, hsz⟩ := okWide_struct Tryd.underlying37 hv
  obtain ⟨l⟩ := cs
  match l, hsz.trans (show Tryd.prog.cellsOf 37 = 2 by kernel_rfl) with
  | [c0, c1], _ =>
    obtain ⟨fuel, hf⟩ := h
    obtain ⟨m0, y0, h0⟩ := struct_field Tryd.underlying37 hf 0 _ rfl
    obtain ⟨m1, y1, h1⟩ := struct_field Tryd.underlying37 hf 1 _ rfl
    obtain ⟨a0, e0, _, w0⟩ := DataW.trod_int Tryd.underlying3 h0
    obtain ⟨a1, e1, _⟩ := DataW.trod_bool Tryd.underlying4 h1
    have k0 : Tryd.prog.cellsOf 3 = 1 := by kernel_rfl
    have k1 : Tryd.prog.cellsOf 4 = 1 := by kernel_rfl
    simp [Value.cells, k0, k1] at e0 e1
    subst e0 e1
    exact ⟨a0, a1, rfl, bounds_i64 w0, trivial⟩
theorem open_Ask15 (hv : Value.okWide Tryd.prog W r base 50 v) (h : DataW.Trod enc Tryd.prog W b0 spare held 50 v d p) :
    ∃ (a0 : Int) (a1 : Int) (a2 : Bool) (a3 : Int) (a4 : Int), v = .agg #[.int .i64 a0, .int .i64 a1, .bool a2, .int .i64 a3, .int .i64 a4] ∧ I64 a0 ∧ I64 a1 ∧ I64 a3 ∧ I64 a4 ∧ True := by
  obtain ⟨cs, rfl, hsz⟩ := okWide_struct Tryd.underlying50 hv
  obtain ⟨l⟩ := cs
  match l, hsz.trans (show Tryd.prog.cellsOf 50 = 5 by kernel_rfl) with
  | [c0, c1, c2, c3, c4], _ =>
    obtain ⟨fuel, hf⟩ := h
    obtain ⟨m0, y0, h0⟩ := struct_field Tryd.underlying50 hf 0 _ rfl
    obtain ⟨m1, y1, h1⟩ := struct_field Tryd.underlying50 hf 1 _ rfl
    obtain ⟨m2, y2, h2⟩ := struct_field Tryd.underlying37 h1 0 _ rfl
    obtain ⟨m3, y3, h3⟩ := struct_field Tryd.underlying37 h1 1 _ rfl
    obtain ⟨m4, y4, h4⟩ := struct_field Tryd.underlying50 hf 2 _ rfl
    obtain ⟨m5, y5, h5⟩ := struct_field Tryd.underlying50 hf 3 _ rfl
    obtain ⟨a0, e0, _, w0⟩ := DataW.trod_int Tryd.underlying3 h0
    obtain ⟨a1, e1, _, w1⟩ := DataW.trod_int Tryd.underlying3 h2
    obtain ⟨a2, e2, _⟩ := DataW.trod_bool Tryd.underlying4 h3
    obtain ⟨a3, e3, _, w3⟩ := DataW.trod_int Tryd.underlying3 h4
    obtain ⟨a4, e4, _, w4⟩ := DataW.trod_int Tryd.underlying3 h5
    have k0 : Tryd.prog.cellsOf 3 = 1 := by kernel_rfl
    have k1 : Tryd.prog.cellsOf 4 = 1 := by kernel_rfl
    have q0 : Tryd.prog.cellsOf 37 = 2 := by kernel_rfl
    simp [Value.cells, k0, k1, q0] at e0 e1 e2 e3 e4
    subst e0 e1 e2 e3 e4
    exact ⟨a0, a1, a2, a3, a4, rfl, bounds_i64 w0, bounds_i64 w1, bounds_i64 w3, bounds_i64 w4, trivial⟩
theorem open_Move15 (hv : Value.okWide Tryd.prog W r base 58 v) (h : DataW.Trod enc Tryd.prog W b0 spare held 58 v d p) :
    ∃ (a0 : Int) (a1 : Int) (a2 : Bool) (a3 : Int) (a4 : Int), v = .agg #[.int .i64 a0, .int .i64 a1, .bool a2, .int .i32 a3, .int .i32 a4] ∧ I64 a0 ∧ I64 a1 ∧ (-2147483648 ≤ a3 ∧ a3 ≤ 2147483647) ∧ (-2147483648 ≤ a4 ∧ a4 ≤ 2147483647) ∧ True := by
  obtain ⟨cs, rfl, hsz⟩ := okWide_struct Tryd.underlying58 hv
  obtain ⟨l⟩ := cs
  match l, hsz.trans (show Tryd.prog.cellsOf 58 = 5 by kernel_rfl) with
  | [c0, c1, c2, c3, c4], _ =>
    obtain ⟨fuel, hf⟩ := h
    obtain ⟨m0, y0, h0⟩ := struct_field Tryd.underlying58 hf 0 _ rfl
    obtain ⟨m1, y1, h1⟩ := struct_field Tryd.underlying58 hf 1 _ rfl
    obtain ⟨m2, y2, h2⟩ := struct_field Tryd.underlying37 h1 0 _ rfl
    obtain ⟨m3, y3, h3⟩ := struct_field Tryd.underlying37 h1 1 _ rfl
    obtain ⟨m4, y4, h4⟩ := struct_field Tryd.underlying58 hf 2 _ rfl
    obtain ⟨m5, y5, h5⟩ := struct_field Tryd.underlying58 hf 3 _ rfl
    obtain ⟨a0, e0, _, w0⟩ := DataW.trod_int Tryd.underlying3 h0
    obtain ⟨a1, e1, _, w1⟩ := DataW.trod_int Tryd.underlying3 h2
    obtain ⟨a2, e2, _⟩ := DataW.trod_bool Tryd.underlying4 h3
    obtain ⟨a3, e3, _, w3⟩ := DataW.trod_int Tryd.underlying21 h4
    obtain ⟨a4, e4, _, w4⟩ := DataW.trod_int Tryd.underlying21 h5
    have k0 : Tryd.prog.cellsOf 3 = 1 := by kernel_rfl
    have k1 : Tryd.prog.cellsOf 4 = 1 := by kernel_rfl
    have k2 : Tryd.prog.cellsOf 21 = 1 := by kernel_rfl
    have q0 : Tryd.prog.cellsOf 37 = 2 := by kernel_rfl
    simp [Value.cells, k0, k1, k2, q0] at e0 e1 e2 e3 e4
    subst e0 e1 e2 e3 e4
    exact ⟨a0, a1, a2, a3, a4, rfl, bounds_i64 w0, bounds_i64 w1, bounds_i32 w3, bounds_i32 w4, trivial⟩
end
end Go.Proofs.YtncckpfenjokmaaDoor
