/- Layer 15: months, years away: plain arithmetic; the code's functions. -/
import Derived.Test.YtafenpgafmdenaaDoorHebR2
import Derived.Test.YtafenpgafmdenaaDoorLC
import Derived.Deep.QuietTactic
import Derived.BigQuiet
import Derived.LoopTactic
import Derived.RegionTactic
import Derived.BigRegion
import Derived.Deep.RegionWith
namespace Go.Proofs.YtafenpgafmdenaaDoor
open Go.ChangeShapes Go.WideShapes Go.ChangeAt Go.RowKit Go.Sort
set_option linter.unusedVariables false
set_option maxRecDepth 100000
namespace S15
def mY (a : Int) : Int := (19 * a + 252) / 235
def mM (a : Int) : Int := a - Cal.before (mY a) + 1
def monA (y n : Int) (l : Bool) (k : Int) : Int := Cal.before y + Cal.plV (Cal.leap y) n l - 1 + k
def monE (y n : Int) (l : Bool) (k : Int) : Int := if D10.lastE y n l = 0 then (if k < -4000000 ∨ 4000000 < k then 1 else if monA y n l k < 0 ∨ 123671 ≤ monA y n l k then 2 else 0) else D10.lastE y n l
def monY (y n : Int) (l : Bool) (k : Int) : Int := if monE y n l k = 0 then mY (monA y n l k) else 0
def monN (y n : Int) (l : Bool) (k : Int) : Int := if monE y n l k = 0 then Cal.ofN (Cal.leap (mY (monA y n l k))) (mM (monA y n l k)) else 0
def monL (y n : Int) (l : Bool) (k : Int) : Bool := if monE y n l k = 0 then Cal.ofL (Cal.leap (mY (monA y n l k))) (mM (monA y n l k)) else false
theorem mY_spec (a : Int) : Cal.before (mY a) ≤ a ∧ a < Cal.before (mY a + 1) := by unfold mY Cal.before; omega
theorem before_mono (a b : Int) (h : a ≤ b) : Cal.before a ≤ Cal.before b := by unfold Cal.before; omega
theorem mY_one (a y : Int) (h1 : Cal.before y ≤ a) (h2 : a < Cal.before (y + 1)) : mY a = y := by unfold Cal.before at h1 h2; unfold mY; omega
theorem before_next (y : Int) : Cal.before (y + 1) = Cal.before y + Cal.most (Cal.leap y) := by
  obtain ⟨q, r, e, r0, r1⟩ : ∃ q r : Int, y = 19 * q + r ∧ 0 ≤ r ∧ r < 19 := ⟨y / 19, y % 19, by omega, by omega, by omega⟩
  subst e
  unfold Cal.before Cal.most Cal.leap
  rw [show (7 * (19 * q + r) + 1) % 19 = (7 * r + 1) % 19 by omega, show (235 * (19 * q + r + 1) - 234) / 19 = 235 * q + (235 * r + 1) / 19 by omega, show (235 * (19 * q + r) - 234) / 19 = 235 * q + (235 * r - 234) / 19 by omega]
  rcases (show r = 0 ∨ r = 1 ∨ r = 2 ∨ r = 3 ∨ r = 4 ∨ r = 5 ∨ r = 6 ∨ r = 7 ∨ r = 8 ∨ r = 9 ∨ r = 10 ∨ r = 11 ∨ r = 12 ∨ r = 13 ∨ r = 14 ∨ r = 15 ∨ r = 16 ∨ r = 17 ∨ r = 18 by omega) with rfl | rfl | rfl | rfl | rfl | rfl | rfl | rfl | rfl | rfl | rfl | rfl | rfl | rfl | rfl | rfl | rfl | rfl | rfl <;> simp <;> omega
theorem before_1 : Cal.before 1 = 0 := by decide
theorem before_10000 : Cal.before 10000 = 123671 := by decide +kernel
theorem mY_in (a : Int) (h0 : 0 ≤ a) (h1 : a < 123671) : 1 ≤ mY a ∧ mY a ≤ 9999 := by unfold mY; omega
theorem mM_in (a : Int) : 1 ≤ mM a ∧ mM a ≤ Cal.most (Cal.leap (mY a)) := by
  have := mY_spec a
  rw [before_next] at this
  unfold mM; omega
theorem last_in {y n : Int} {l : Bool} (h : D10.lastE y n l = 0) : 1 ≤ y ∧ y ≤ 9999 ∧ Cal.plOk (Cal.leap y) n l = true := by
  unfold D10.lastE at h
  split at h
  · rename_i c
    split at h
    · rename_i p
      obtain ⟨h1, h2⟩ := D10.year_in y c
      exact ⟨h1, h2, p⟩
    · omega
  · omega
theorem before_bd (y : Int) (h1 : 0 ≤ y) (h2 : y ≤ 10000) : -20 ≤ Cal.before y ∧ Cal.before y ≤ 123671 := by unfold Cal.before; omega
end S15
def CodeAt (w : World) (g : Nat) (n : Int) (l : Bool) : Prop := w.cell? ⟨g, 0, none⟩ = some (.int .i64 n) ∧ w.cell? ⟨g, 1, none⟩ = some (.bool l) ∧ (∀ i, w.frozen? ⟨g, i, none⟩ = false) ∧ g < w.heap.size
theorem CodeAt.below {w w' : World} {g : Nat} {n : Int} {l : Bool} (h : CodeAt w g n l) (hb : Below w.heap.size w w') : CodeAt w' g n l := by
  obtain ⟨h0, h1, hf, hs⟩ := h
  have c := fun i => hb.cell (p := ⟨g, i, none⟩) hs
  exact ⟨(c 0).trans h0, (c 1).trans h1, fun i => (hb.frozen (p := ⟨g, i, none⟩) hs).trans (hf i), Nat.lt_of_lt_of_le hs hb.size⟩
end Go.Proofs.YtafenpgafmdenaaDoor
