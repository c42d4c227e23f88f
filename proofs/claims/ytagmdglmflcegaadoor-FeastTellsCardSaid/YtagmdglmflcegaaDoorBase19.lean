/- Layer 19: its law's struct, opened: two slices of events. -/
import Derived.Test.YtagmdglmflcegaaDoorBase
import Derived.Test.YtagmdglmflcegaaDoorEvs
namespace Go.Proofs.YtagmdglmflcegaaDoor
open Go.ChangeShapes Go.WideShapes Go.ChangeAt Go.RowKit Go.Joins
set_option linter.unusedVariables false
set_option maxRecDepth 100000
theorem Ev.cells_of {w : World} {b off : Nat} : ∀ {l : List (Int × Int)}, (∀ i z, l[i]? = some z → w.cell? ⟨b, off + i * 2, none⟩ = some (.int .i64 z.1) ∧ w.cell? ⟨b, off + i * 2 + 1, none⟩ = some (.int .i64 z.2)) → ∀ j u, (Ev.flat l)[j]? = some u → w.cell? ⟨b, off + j, none⟩ = some u := fun {l} h j u hj => by
  have hl := Ev.flat_len l
  have hjl : j < (Ev.flat l).length := (List.getElem?_eq_some_iff.1 hj).1
  obtain ⟨z, hz⟩ : ∃ z, l[j / 2]? = some z := ⟨_, List.getElem?_eq_getElem (by omega)⟩
  obtain ⟨g1, g2⟩ := Ev.flat_get l (j / 2) z hz
  obtain ⟨h1, h2⟩ := h (j / 2) z hz
  rcases (show j % 2 = 0 ∨ j % 2 = 1 by omega) with e | e
  · rw [show 2 * (j / 2) = j by omega] at g1
    rw [g1] at hj
    rw [← Option.some.inj hj, show off + j = off + j / 2 * 2 by omega]
    exact h1
  · rw [show 2 * (j / 2) + 1 = j by omega] at g2
    rw [g2] at hj
    rw [← Option.some.inj hj, show off + j = off + j / 2 * 2 + 1 by omega]
    exact h2
section
variable {H : Type} {enc : TypeId × Value → H} {W : World} {base b0 : Nat} {spare : Nat → Bool} {held : Bool} {r : Reach} {v : Value} {d : DataW H} {p : List MemPlace}
theorem ev_cells {fuel : Nat} {a : Addr} {x : DataW H × List MemPlace} (h : (W.cells? b0 a 2).bind (DataW.trod enc Tryd.prog W b0 spare held fuel 38) = some x) :
    ∃ x1 x2 : Int, W.cell? a = some (.int .i64 x1) ∧ W.cell? (a.add 1) = some (.int .i64 x2) := by
  obtain ⟨cs, hcs, hf⟩ := Option.bind_eq_some_iff.1 h
  obtain ⟨_, hl, hcell⟩ := World.cells?_some hcs
  match cs, hl with
  | [c0, c1], _ =>
    obtain ⟨m0, y0, h0⟩ := struct_field Tryd.underlying38 hf 0 _ rfl
    obtain ⟨m1, y1, h1⟩ := struct_field Tryd.underlying38 hf 1 _ rfl
    obtain ⟨a0, e0, _, w0⟩ := DataW.trod_int Tryd.underlying3 h0
    obtain ⟨a1, e1, _, w1⟩ := DataW.trod_int Tryd.underlying3 h1
    have k0 : Tryd.prog.cellsOf 3 = 1 := by kernel_rfl
    simp [k0] at e0 e1
    subst e0 e1
    have q0 := hcell 0 (by omega)
    have q1 := hcell 1 (by omega)
    refine ⟨a0, a1, ?_, by simpa using q1⟩
    have : a.add 0 = a := by simp [Addr.add]
    rw [this] at q0
    simpa using q0
theorem ev_row {fuel : Nat} {c : Value} {x : DataW H × List MemPlace} (hw : Cell.okWide Tryd.prog W r base 22 c) (h : DataW.trod enc Tryd.prog W b0 spare held fuel 22 [c] = some x) : ∃ l, Ev.Row W c l := by
  have kE : Tryd.prog.cellsOf 38 = 2 := by kernel_rfl
  rcases DataW.trod_slice Tryd.underlying22 h with ⟨hc, _⟩ | ⟨a, len, cap, elems, rest, n, _, hc, _, _, _, _, hlen, hel, _⟩
  · simp at hc
    subst hc
    exact ⟨[], .inl ⟨rfl, rfl⟩⟩
  · simp at hc
    subst hc
    have hsp : a.spot = none := by
      simp only [Cell.okWide, Cell.ok, Tryd.underlying22] at hw
      exact hw.2.2.2.1
    obtain ⟨b, off, sp⟩ := a
    simp only at hsp
    subst hsp
    rw [kE] at hel
    have key : ∀ i, ∃ z : Int × Int, i < len → W.cell? ⟨b, off + i * 2, none⟩ = some (.int .i64 z.1) ∧ W.cell? ⟨b, off + i * 2 + 1, none⟩ = some (.int .i64 z.2) := fun i => by
      by_cases hi : i < len
      · have h1 := hel i hi
        rw [List.getElem?_eq_getElem (by omega)] at h1
        obtain ⟨x1, x2, q1, q2⟩ := ev_cells h1
        rw [Addr.add_lit] at q1
        rw [Addr.add_lit, Addr.add_lit] at q2
        exact ⟨(x1, x2), fun _ => ⟨q1, q2⟩⟩
      · exact ⟨(0, 0), fun g => absurd g hi⟩
    let f : Nat → Int × Int := fun i => (key i).choose
    have hf : ∀ i, i < len → W.cell? ⟨b, off + i * 2, none⟩ = some (.int .i64 (f i).1) ∧ W.cell? ⟨b, off + i * 2 + 1, none⟩ = some (.int .i64 (f i).2) := fun i => (key i).choose_spec
    refine ⟨(List.range len).map f, .inr ⟨b, off, cap, by simp, fun j u hj => ?_⟩⟩
    exact Ev.cells_of (fun i z hz => by
      rw [List.getElem?_map] at hz
      by_cases hi : i < len
      · rw [List.getElem?_range hi] at hz
        simp only [Option.map_some, Option.some.injEq] at hz
        rw [← hz]
        exact hf i hi
      · rw [List.getElem?_eq_none (by simp; omega)] at hz
        simp at hz) j u hj
theorem open_Ask (hv : Value.okWide Tryd.prog W r base 24 v) (h : DataW.Trod enc Tryd.prog W b0 spare held 24 v d p) :
    ∃ (a0 a1 a2 : Int) (va vb : Value) (la lb : List (Int × Int)), v = .agg #[.int .i64 a0, .int .i64 a1, .int .i64 a2, va, vb] ∧ I64 a0 ∧ I64 a1 ∧ I64 a2 ∧ Ev.Row W va la ∧ Ev.Row W vb lb := by
  have hv2 := hv
  simp only [Value.okWide, Tryd.underlying24] at hv2
  obtain ⟨cs2, ee, _, ts, hts, _, hrow⟩ := hv2
  obtain ⟨cs, rfl, hsz⟩ := okWide_struct Tryd.underlying24 hv
  have e3 : cs = cs2 := by injection ee
  clear ee
  subst e3
  obtain rfl : ts = [3, 3, 3, 22, 22] := Option.some.inj (hts.symm.trans (show Tryd.prog.cellTypes Tryd.prog.depth 24 = some [3, 3, 3, 22, 22] by kernel_rfl))
  obtain ⟨l⟩ := cs
  match l, hsz.trans (show Tryd.prog.cellsOf 24 = 5 by kernel_rfl), hrow, h with
  | [c0, c1, c2, c3, c4], _, hrow, h =>
    obtain ⟨u3, hu3, hw3⟩ := hrow 3 c3 rfl
    obtain ⟨u4, hu4, hw4⟩ := hrow 4 c4 rfl
    obtain rfl : 22 = u3 := Option.some.inj hu3
    obtain rfl : 22 = u4 := Option.some.inj hu4
    obtain ⟨fuel, hf⟩ := h
    obtain ⟨m0, y0, h0⟩ := struct_field Tryd.underlying24 hf 0 _ rfl
    obtain ⟨m1, y1, h1⟩ := struct_field Tryd.underlying24 hf 1 _ rfl
    obtain ⟨m2, y2, h2⟩ := struct_field Tryd.underlying24 hf 2 _ rfl
    obtain ⟨m3, y3, h3⟩ := struct_field Tryd.underlying24 hf 3 _ rfl
    obtain ⟨m4, y4, h4⟩ := struct_field Tryd.underlying24 hf 4 _ rfl
    obtain ⟨a0, e0, _, w0⟩ := DataW.trod_int Tryd.underlying3 h0
    obtain ⟨a1, e1, _, w1⟩ := DataW.trod_int Tryd.underlying3 h1
    obtain ⟨a2, e2, _, w2⟩ := DataW.trod_int Tryd.underlying3 h2
    have k0 : Tryd.prog.cellsOf 3 = 1 := by kernel_rfl
    have k1 : Tryd.prog.cellsOf 22 = 1 := by kernel_rfl
    simp [Value.cells, k0] at e0 e1 e2
    subst e0 e1 e2
    simp [Value.cells, k1] at h3 h4
    obtain ⟨la, ra⟩ := ev_row hw3 h3
    obtain ⟨lb, rb⟩ := ev_row hw4 h4
    exact ⟨a0, a1, a2, c3, c4, la, lb, rfl, bounds_i64 w0, bounds_i64 w1, bounds_i64 w2, ra, rb⟩
end
end Go.Proofs.YtagmdglmflcegaaDoor
