/- The structs of layer 4's laws, opened. -/
import Derived.Test.YtemkngkaaabghaaBase
namespace Go.Proofs.Ytemkngkaaabghaa
open Go.ChangeShapes Go.WideShapes Go.ChangeAt Go.RowKit Go.Joins
set_option linter.unusedVariables false
theorem one_int {k : IntKind} {v : Value} {n : Int} (h : [v] = [Value.int k n]) : v = .int k n := by simpa using h
theorem one_bool {v : Value} {b : Bool} (h : [v] = [Value.bool b]) : v = .bool b := by simpa using h
section
variable {H : Type} {enc : TypeId × Value → H} {W : World} {base b0 : Nat} {spare : Nat → Bool} {held : Bool} {r : Reach} {v : Value} {d : DataW H} {p : List MemPlace}
theorem open_Ask4 (hv : Value.okWide Try.prog W r base 44 v) (h : DataW.Trod enc Try.prog W b0 spare held 44 v d p) :
    ∃ a b c e : Int, v = .agg #[.int .i64 a, .int .i64 b, .int .i64 c, .int .i64 e] ∧ I64 a ∧ I64 b ∧ I64 c ∧ I64 e ∧ True := by
  obtain ⟨v0, v1, v2, v3, y0, y1, y2, y3, n, rfl, hd, hp, h0, h1, h2, h3⟩ := open_agg4 Try.underlying44 (by kernel_rfl) (by kernel_rfl) hv h
  obtain ⟨a, e0, _, wa⟩ := DataW.trod_int Try.underlying3 h0
  obtain ⟨b, e1, _, wb⟩ := DataW.trod_int Try.underlying3 h1
  obtain ⟨c, e2, _, wc⟩ := DataW.trod_int Try.underlying3 h2
  obtain ⟨e, e3, _, we⟩ := DataW.trod_int Try.underlying3 h3
  rw [one_int e0, one_int e1, one_int e2, one_int e3]
  exact ⟨a, b, c, e, rfl, bounds_i64 wa, bounds_i64 wb, bounds_i64 wc, bounds_i64 we, trivial⟩
theorem open_Molad (hv : Value.okWide Try.prog W r base 30 v) (h : DataW.Trod enc Try.prog W b0 spare held 30 v d p) :
    ∃ a b : Int, v = .agg #[.int .i64 a, .int .i64 b] ∧ I64 a ∧ I64 b ∧ True := by
  obtain ⟨v0, v1, y0, y1, n, rfl, hd, hp, h0, h1⟩ := open_agg2 Try.underlying30 (by kernel_rfl) (by kernel_rfl) hv h
  obtain ⟨a, e0, _, wa⟩ := DataW.trod_int Try.underlying3 h0
  obtain ⟨b, e1, _, wb⟩ := DataW.trod_int Try.underlying3 h1
  rw [one_int e0, one_int e1]
  exact ⟨a, b, rfl, bounds_i64 wa, bounds_i64 wb, trivial⟩
end
end Go.Proofs.Ytemkngkaaabghaa
