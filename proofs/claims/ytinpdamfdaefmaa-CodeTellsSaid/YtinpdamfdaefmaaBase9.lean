/- Structs of the laws, opened. -/
import Derived.Test.YtinpdamfdaefmaaBase
namespace Go.Proofs.Ytinpdamfdaefmaa
open Go.ChangeShapes Go.WideShapes Go.ChangeAt Go.RowKit Go.Joins
set_option linter.unusedVariables false
section
variable {H : Type} {enc : TypeId × Value → H} {W : World} {base b0 : Nat} {spare : Nat → Bool} {held : Bool} {r : Reach} {v : Value} {d : DataW H} {p : List MemPlace}
theorem open_Code (hv : Value.okWide Try.prog W r base 23 v) (h : DataW.Trod enc Try.prog W b0 spare held 23 v d p) :
    ∃ (a0 : Int) (a1 : Bool), v = .agg #[.int .i64 a0, .bool a1] ∧ I64 a0 ∧ True := by
  obtain ⟨cs, rfl, hsz⟩ := okWide_struct Try.underlying23 hv
  obtain ⟨l⟩ := cs
  match l, hsz.trans (show Try.prog.cellsOf 23 = 2 by kernel_rfl) with
  | [c0, c1], _ =>
    obtain ⟨fuel, hf⟩ := h
    obtain ⟨m0, y0, h0⟩ := struct_field Try.underlying23 hf 0 _ rfl
    obtain ⟨m1, y1, h1⟩ := struct_field Try.underlying23 hf 1 _ rfl
    obtain ⟨a0, e0, _, w0⟩ := DataW.trod_int Try.underlying3 h0
    obtain ⟨a1, e1, _⟩ := DataW.trod_bool Try.underlying4 h1
    have k0 : Try.prog.cellsOf 3 = 1 := by kernel_rfl
    have k1 : Try.prog.cellsOf 4 = 1 := by kernel_rfl
    simp [Value.cells, k0, k1] at e0 e1
    subst e0 e1
    exact ⟨a0, a1, rfl, bounds_i64 w0, trivial⟩
theorem open_Ask9 (hv : Value.okWide Try.prog W r base 25 v) (h : DataW.Trod enc Try.prog W b0 spare held 25 v d p) :
    ∃ (a0 : Int) (a1 : Bool) (a2 : Int) (a3 : Bool) (a4 : ByteArray) (a5 : Int), v = .agg #[.int .i64 a0, .bool a1, .int .i64 a2, .bool a3, .string a4, .int .i64 a5] ∧ I64 a0 ∧ I64 a2 ∧ a4.size ≤ maxLen ∧ I64 a5 ∧ True := by
  obtain ⟨cs, rfl, hsz⟩ := okWide_struct Try.underlying25 hv
  obtain ⟨l⟩ := cs
  match l, hsz.trans (show Try.prog.cellsOf 25 = 6 by kernel_rfl) with
  | [c0, c1, c2, c3, c4, c5], _ =>
    obtain ⟨fuel, hf⟩ := h
    obtain ⟨m0, y0, h0⟩ := struct_field Try.underlying25 hf 0 _ rfl
    obtain ⟨m1, y1, h1⟩ := struct_field Try.underlying23 h0 0 _ rfl
    obtain ⟨m2, y2, h2⟩ := struct_field Try.underlying23 h0 1 _ rfl
    obtain ⟨m3, y3, h3⟩ := struct_field Try.underlying25 hf 1 _ rfl
    obtain ⟨m4, y4, h4⟩ := struct_field Try.underlying23 h3 0 _ rfl
    obtain ⟨m5, y5, h5⟩ := struct_field Try.underlying23 h3 1 _ rfl
    obtain ⟨m6, y6, h6⟩ := struct_field Try.underlying25 hf 2 _ rfl
    obtain ⟨m7, y7, h7⟩ := struct_field Try.underlying25 hf 3 _ rfl
    obtain ⟨a0, e0, _, w0⟩ := DataW.trod_int Try.underlying3 h1
    obtain ⟨a1, e1, _⟩ := DataW.trod_bool Try.underlying4 h2
    obtain ⟨a2, e2, _, w2⟩ := DataW.trod_int Try.underlying3 h4
    obtain ⟨a3, e3, _⟩ := DataW.trod_bool Try.underlying4 h5
    obtain ⟨a4, e4, _, w4⟩ := DataW.trod_string Try.underlying9 h6
    obtain ⟨a5, e5, _, w5⟩ := DataW.trod_int Try.underlying3 h7
    have k0 : Try.prog.cellsOf 3 = 1 := by kernel_rfl
    have k1 : Try.prog.cellsOf 4 = 1 := by kernel_rfl
    have k2 : Try.prog.cellsOf 9 = 1 := by kernel_rfl
    have q0 : Try.prog.cellsOf 23 = 2 := by kernel_rfl
    simp [Value.cells, k0, k1, k2, q0] at e0 e1 e2 e3 e4 e5
    subst e0 e1 e2 e3 e4 e5
    exact ⟨a0, a1, a2, a3, a4, a5, rfl, bounds_i64 w0, bounds_i64 w2, w4, bounds_i64 w5, trivial⟩
end
end Go.Proofs.Ytinpdamfdaefmaa
