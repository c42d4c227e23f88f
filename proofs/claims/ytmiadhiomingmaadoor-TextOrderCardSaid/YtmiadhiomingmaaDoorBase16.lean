/- Structs of the laws, opened. -/
import Derived.Test.YtmiadhiomingmaaDoorBase
namespace Go.Proofs.YtmiadhiomingmaaDoor
open Go.ChangeShapes Go.WideShapes Go.ChangeAt Go.RowKit Go.Joins
set_option linter.unusedVariables false
set_option maxRecDepth 100000
section
variable {H : Type} {enc : TypeId × Value → H} {W : World} {base b0 : Nat} {spare : Nat → Bool} {held : Bool} {r : Reach} {v : Value} {d : DataW H} {p : List MemPlace}
theorem open_Date (hv : Value.okWide Tryd.prog W r base 25 v) (h : DataW.Trod enc Tryd.prog W b0 spare held 25 v d p) :
    ∃ (a0 : Int) (a1 : Int) (a2 : Bool) (a3 : Int), v = .agg #[.int .i64 a0, .int .i64 a1, .bool a2, .int .i64 a3] ∧ I64 a0 ∧ I64 a1 ∧ I64 a3 ∧ True := by
  obtain ⟨cs, rfl, hsz⟩ := okWide_struct Tryd.underlying25 hv
  obtain ⟨l⟩ := cs
  match l, hsz.trans (show Tryd.prog.cellsOf 25 = 4 by kernel_rfl) with
  | [c0, c1, c2, c3], _ =>
    obtain ⟨fuel, hf⟩ := h
    obtain ⟨m0, y0, h0⟩ := struct_field Tryd.underlying25 hf 0 _ rfl
    obtain ⟨m1, y1, h1⟩ := struct_field Tryd.underlying25 hf 1 _ rfl
    obtain ⟨m2, y2, h2⟩ := struct_field Tryd.underlying23 h1 0 _ rfl
    obtain ⟨m3, y3, h3⟩ := struct_field Tryd.underlying23 h1 1 _ rfl
    obtain ⟨m4, y4, h4⟩ := struct_field Tryd.underlying25 hf 2 _ rfl
    obtain ⟨a0, e0, _, w0⟩ := DataW.trod_int Tryd.underlying3 h0
    obtain ⟨a1, e1, _, w1⟩ := DataW.trod_int Tryd.underlying3 h2
    obtain ⟨a2, e2, _⟩ := DataW.trod_bool Tryd.underlying4 h3
    obtain ⟨a3, e3, _, w3⟩ := DataW.trod_int Tryd.underlying3 h4
    have k0 : Tryd.prog.cellsOf 3 = 1 := by kernel_rfl
    have k1 : Tryd.prog.cellsOf 4 = 1 := by kernel_rfl
    have q0 : Tryd.prog.cellsOf 23 = 2 := by kernel_rfl
    simp [Value.cells, k0, k1, q0] at e0 e1 e2 e3
    subst e0 e1 e2 e3
    exact ⟨a0, a1, a2, a3, rfl, bounds_i64 w0, bounds_i64 w1, bounds_i64 w3, trivial⟩
theorem open_Span (hv : Value.okWide Tryd.prog W r base 42 v) (h : DataW.Trod enc Tryd.prog W b0 spare held 42 v d p) :
    ∃ (a0 : Int) (a1 : Int) (a2 : Int) (a3 : Int), v = .agg #[.int .i64 a0, .int .i64 a1, .int .i64 a2, .int .i64 a3] ∧ I64 a0 ∧ I64 a1 ∧ I64 a2 ∧ I64 a3 ∧ True := by
  obtain ⟨cs, rfl, hsz⟩ := okWide_struct Tryd.underlying42 hv
  obtain ⟨l⟩ := cs
  match l, hsz.trans (show Tryd.prog.cellsOf 42 = 4 by kernel_rfl) with
  | [c0, c1, c2, c3], _ =>
    obtain ⟨fuel, hf⟩ := h
    obtain ⟨m0, y0, h0⟩ := struct_field Tryd.underlying42 hf 0 _ rfl
    obtain ⟨m1, y1, h1⟩ := struct_field Tryd.underlying42 hf 1 _ rfl
    obtain ⟨m2, y2, h2⟩ := struct_field Tryd.underlying42 hf 2 _ rfl
    obtain ⟨m3, y3, h3⟩ := struct_field Tryd.underlying42 hf 3 _ rfl
    obtain ⟨a0, e0, _, w0⟩ := DataW.trod_int Tryd.underlying3 h0
    obtain ⟨a1, e1, _, w1⟩ := DataW.trod_int Tryd.underlying3 h1
    obtain ⟨a2, e2, _, w2⟩ := DataW.trod_int Tryd.underlying3 h2
    obtain ⟨a3, e3, _, w3⟩ := DataW.trod_int Tryd.underlying3 h3
    have k0 : Tryd.prog.cellsOf 3 = 1 := by kernel_rfl
    simp [Value.cells, k0] at e0 e1 e2 e3
    subst e0 e1 e2 e3
    exact ⟨a0, a1, a2, a3, rfl, bounds_i64 w0, bounds_i64 w1, bounds_i64 w2, bounds_i64 w3, trivial⟩
theorem open_Move16 (hv : Value.okWide Tryd.prog W r base 39 v) (h : DataW.Trod enc Tryd.prog W b0 spare held 39 v d p) :
    ∃ (a0 : Int) (a1 : Int) (a2 : Bool) (a3 : Int) (a4 : Int) (a5 : Int) (a6 : Int), v = .agg #[.int .i64 a0, .int .i64 a1, .bool a2, .int .i64 a3, .int .i32 a4, .int .i32 a5, .int .u8 a6] ∧ I64 a0 ∧ I64 a1 ∧ I64 a3 ∧ (-2147483648 ≤ a4 ∧ a4 ≤ 2147483647) ∧ (-2147483648 ≤ a5 ∧ a5 ≤ 2147483647) ∧ (0 ≤ a6 ∧ a6 ≤ 255) ∧ True := by
  obtain ⟨cs, rfl, hsz⟩ := okWide_struct Tryd.underlying39 hv
  obtain ⟨l⟩ := cs
  match l, hsz.trans (show Tryd.prog.cellsOf 39 = 7 by kernel_rfl) with
  | [c0, c1, c2, c3, c4, c5, c6], _ =>
    obtain ⟨fuel, hf⟩ := h
    obtain ⟨m0, y0, h0⟩ := struct_field Tryd.underlying39 hf 0 _ rfl
    obtain ⟨m1, y1, h1⟩ := struct_field Tryd.underlying25 h0 0 _ rfl
    obtain ⟨m2, y2, h2⟩ := struct_field Tryd.underlying25 h0 1 _ rfl
    obtain ⟨m3, y3, h3⟩ := struct_field Tryd.underlying23 h2 0 _ rfl
    obtain ⟨m4, y4, h4⟩ := struct_field Tryd.underlying23 h2 1 _ rfl
    obtain ⟨m5, y5, h5⟩ := struct_field Tryd.underlying25 h0 2 _ rfl
    obtain ⟨m6, y6, h6⟩ := struct_field Tryd.underlying39 hf 1 _ rfl
    obtain ⟨m7, y7, h7⟩ := struct_field Tryd.underlying39 hf 2 _ rfl
    obtain ⟨m8, y8, h8⟩ := struct_field Tryd.underlying39 hf 3 _ rfl
    obtain ⟨a0, e0, _, w0⟩ := DataW.trod_int Tryd.underlying3 h1
    obtain ⟨a1, e1, _, w1⟩ := DataW.trod_int Tryd.underlying3 h3
    obtain ⟨a2, e2, _⟩ := DataW.trod_bool Tryd.underlying4 h4
    obtain ⟨a3, e3, _, w3⟩ := DataW.trod_int Tryd.underlying3 h5
    obtain ⟨a4, e4, _, w4⟩ := DataW.trod_int Tryd.underlying21 h6
    obtain ⟨a5, e5, _, w5⟩ := DataW.trod_int Tryd.underlying21 h7
    obtain ⟨a6, e6, _, w6⟩ := DataW.trod_int Tryd.underlying5 h8
    have k0 : Tryd.prog.cellsOf 3 = 1 := by kernel_rfl
    have k1 : Tryd.prog.cellsOf 4 = 1 := by kernel_rfl
    have k2 : Tryd.prog.cellsOf 21 = 1 := by kernel_rfl
    have k3 : Tryd.prog.cellsOf 5 = 1 := by kernel_rfl
    have q0 : Tryd.prog.cellsOf 25 = 4 := by kernel_rfl
    have q1 : Tryd.prog.cellsOf 23 = 2 := by kernel_rfl
    simp [Value.cells, k0, k1, k2, k3, q0, q1] at e0 e1 e2 e3 e4 e5 e6
    subst e0 e1 e2 e3 e4 e5 e6
    exact ⟨a0, a1, a2, a3, a4, a5, a6, rfl, bounds_i64 w0, bounds_i64 w1, bounds_i64 w3, bounds_i32 w4, bounds_i32 w5, bounds_u8 w6, trivial⟩
theorem open_Rise16 (hv : Value.okWide Tryd.prog W r base 50 v) (h : DataW.Trod enc Tryd.prog W b0 spare held 50 v d p) :
    ∃ (a0 : Int) (a1 : Int) (a2 : Bool) (a3 : Int) (a4 : Int) (a5 : Int) (a6 : Int), v = .agg #[.int .i64 a0, .int .i64 a1, .bool a2, .int .i64 a3, .int .i16 a4, .int .i16 a5, .int .u8 a6] ∧ I64 a0 ∧ I64 a1 ∧ I64 a3 ∧ (-32768 ≤ a4 ∧ a4 ≤ 32767) ∧ (-32768 ≤ a5 ∧ a5 ≤ 32767) ∧ (0 ≤ a6 ∧ a6 ≤ 255) ∧ True := by
  obtain ⟨cs, rfl, hsz⟩ := okWide_struct Tryd.underlying50 hv
  obtain ⟨l⟩ := cs
  match l, hsz.trans (show Tryd.prog.cellsOf 50 = 7 by kernel_rfl) with
  | [c0, c1, c2, c3, c4, c5, c6], _ =>
    obtain ⟨fuel, hf⟩ := h
    obtain ⟨m0, y0, h0⟩ := struct_field Tryd.underlying50 hf 0 _ rfl
    obtain ⟨m1, y1, h1⟩ := struct_field Tryd.underlying25 h0 0 _ rfl
    obtain ⟨m2, y2, h2⟩ := struct_field Tryd.underlying25 h0 1 _ rfl
    obtain ⟨m3, y3, h3⟩ := struct_field Tryd.underlying23 h2 0 _ rfl
    obtain ⟨m4, y4, h4⟩ := struct_field Tryd.underlying23 h2 1 _ rfl
    obtain ⟨m5, y5, h5⟩ := struct_field Tryd.underlying25 h0 2 _ rfl
    obtain ⟨m6, y6, h6⟩ := struct_field Tryd.underlying50 hf 1 _ rfl
    obtain ⟨m7, y7, h7⟩ := struct_field Tryd.underlying50 hf 2 _ rfl
    obtain ⟨m8, y8, h8⟩ := struct_field Tryd.underlying50 hf 3 _ rfl
    obtain ⟨a0, e0, _, w0⟩ := DataW.trod_int Tryd.underlying3 h1
    obtain ⟨a1, e1, _, w1⟩ := DataW.trod_int Tryd.underlying3 h3
    obtain ⟨a2, e2, _⟩ := DataW.trod_bool Tryd.underlying4 h4
    obtain ⟨a3, e3, _, w3⟩ := DataW.trod_int Tryd.underlying3 h5
    obtain ⟨a4, e4, _, w4⟩ := DataW.trod_int Tryd.underlying48 h6
    obtain ⟨a5, e5, _, w5⟩ := DataW.trod_int Tryd.underlying48 h7
    obtain ⟨a6, e6, _, w6⟩ := DataW.trod_int Tryd.underlying5 h8
    have k0 : Tryd.prog.cellsOf 3 = 1 := by kernel_rfl
    have k1 : Tryd.prog.cellsOf 4 = 1 := by kernel_rfl
    have k2 : Tryd.prog.cellsOf 48 = 1 := by kernel_rfl
    have k3 : Tryd.prog.cellsOf 5 = 1 := by kernel_rfl
    have q0 : Tryd.prog.cellsOf 25 = 4 := by kernel_rfl
    have q1 : Tryd.prog.cellsOf 23 = 2 := by kernel_rfl
    simp [Value.cells, k0, k1, k2, k3, q0, q1] at e0 e1 e2 e3 e4 e5 e6
    subst e0 e1 e2 e3 e4 e5 e6
    exact ⟨a0, a1, a2, a3, a4, a5, a6, rfl, bounds_i64 w0, bounds_i64 w1, bounds_i64 w3, bounds_i16 w4, bounds_i16 w5, bounds_u8 w6, trivial⟩
end
end Go.Proofs.YtmiadhiomingmaaDoor
