/- The structs of layer 5's laws, opened. -/
import Derived.Test.YtemkngkaaabghaaBase4
namespace Go.Proofs.Ytemkngkaaabghaa
open Go.ChangeShapes Go.WideShapes Go.ChangeAt Go.RowKit Go.Joins
set_option linter.unusedVariables false
section
variable {H : Type} {enc : TypeId × Value → H} {W : World} {base b0 : Nat} {spare : Nat → Bool} {held : Bool} {r : Reach} {v : Value} {d : DataW H} {p : List MemPlace}
theorem open_Move5 (hv : Value.okWide Try.prog W r base 57 v) (h : DataW.Trod enc Try.prog W b0 spare held 57 v d p) :
    ∃ (a b : Int) (c e : Bool), v = .agg #[.int .i32 a, .int .u16 b, .bool c, .bool e] ∧ (-2147483648 ≤ a ∧ a ≤ 2147483647) ∧ (0 ≤ b ∧ b ≤ 65535) ∧ True := by
  obtain ⟨v0, v1, v2, v3, y0, y1, y2, y3, n, rfl, hd, hp, h0, h1, h2, h3⟩ := open_agg4 Try.underlying57 (by kernel_rfl) (by kernel_rfl) hv h
  obtain ⟨a, e0, _, wa⟩ := DataW.trod_int Try.underlying21 h0
  obtain ⟨b, e1, _, wb⟩ := DataW.trod_int Try.underlying41 h1
  obtain ⟨c, e2, _⟩ := DataW.trod_bool Try.underlying4 h2
  obtain ⟨e, e3, _⟩ := DataW.trod_bool Try.underlying4 h3
  rw [one_int e0, one_int e1, one_bool e2, one_bool e3]
  exact ⟨a, b, c, e, rfl, bounds_i32 wa, bounds_u16 wb, trivial⟩
theorem open_Ask5 (hv : Value.okWide Try.prog W r base 53 v) (h : DataW.Trod enc Try.prog W b0 spare held 53 v d p) :
    ∃ (a b : Int) (c e : Bool) (y : Int), v = .agg #[.int .i64 a, .int .i64 b, .bool c, .bool e, .int .i64 y] ∧ I64 a ∧ I64 b ∧ I64 y ∧ True := by
  obtain ⟨cs, rfl, hsz⟩ := okWide_struct Try.underlying53 hv
  obtain ⟨l⟩ := cs
  match l, hsz.trans (show Try.prog.cellsOf 53 = 5 by kernel_rfl) with
  | [c0, c1, c2, c3, c4], _ =>
    obtain ⟨fuel, hf⟩ := h
    obtain ⟨m0, y0, h0⟩ := struct_field Try.underlying53 hf 0 _ rfl
    obtain ⟨m1, y1, h1⟩ := struct_field Try.underlying53 hf 1 _ rfl
    obtain ⟨m2, y2, h2⟩ := struct_field Try.underlying53 hf 2 _ rfl
    obtain ⟨m3, y3, h3⟩ := struct_field Try.underlying53 hf 3 _ rfl
    obtain ⟨m4, y4, h4⟩ := struct_field Try.underlying30 h0 0 _ rfl
    obtain ⟨m5, y5, h5⟩ := struct_field Try.underlying30 h0 1 _ rfl
    obtain ⟨a, e0, _, wa⟩ := DataW.trod_int Try.underlying3 h4
    obtain ⟨b, e1, _, wb⟩ := DataW.trod_int Try.underlying3 h5
    obtain ⟨c, e2, _⟩ := DataW.trod_bool Try.underlying4 h1
    obtain ⟨e, e3, _⟩ := DataW.trod_bool Try.underlying4 h2
    obtain ⟨y, e4, _, wy⟩ := DataW.trod_int Try.underlying3 h3
    have k2 : Try.prog.cellsOf 30 = 2 := by kernel_rfl
    have k1 : Try.prog.cellsOf 3 = 1 := by kernel_rfl
    have k3 : Try.prog.cellsOf 4 = 1 := by kernel_rfl
    simp [Value.cells, k1, k2, k3] at e0 e1 e2 e3 e4
    subst e0 e1 e2 e3 e4
    exact ⟨a, b, c, e, y, rfl, bounds_i64 wa, bounds_i64 wb, bounds_i64 wy, trivial⟩
end
end Go.Proofs.Ytemkngkaaabghaa
