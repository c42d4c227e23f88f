/- Layer 16: a duration, added: plainly. -/
import Derived.Test.YtafenpgafmdenaaGreatDoorW15
import Derived.Test.YtafenpgafmdenaaGreatDoorW10
namespace Go.Proofs.YtafenpgafmdenaaGreatDoor
open Go.ChangeShapes Go.WideShapes Go.ChangeAt Go.RowKit
set_option linter.unusedVariables false
set_option maxRecDepth 100000
namespace A16
def may (x : Int) : Bool := decide (-4000000 ≤ x) && decide (x ≤ 4000000)
def right (a b c d : Int) : Bool := may a && (may b && (may c && may d))
theorem may_in {x : Int} (h : may x = true) : -4000000 ≤ x ∧ x ≤ 4000000 := by simpa [may] using h
theorem right_in {a b c d : Int} (h : right a b c d = true) : (-4000000 ≤ a ∧ a ≤ 4000000) ∧ (-4000000 ≤ b ∧ b ≤ 4000000) ∧ (-4000000 ≤ c ∧ c ≤ 4000000) ∧ (-4000000 ≤ d ∧ d ≤ 4000000) := by
  simp only [right, Bool.and_eq_true] at h
  exact ⟨may_in h.1, may_in h.2.1, may_in h.2.2.1, may_in h.2.2.2⟩
def n1 (y n : Int) (l : Bool) (sy m : Int) : Int := S15.intoN (y + sy) n l m
def l1 (y n : Int) (l : Bool) (sy m : Int) : Bool := S15.intoL (y + sy) n l m
def y2 (y n : Int) (l : Bool) (sy sm m : Int) : Int := S15.monY (y + sy) (n1 y n l sy m) (l1 y n l sy m) sm
def n2 (y n : Int) (l : Bool) (sy sm m : Int) : Int := S15.monN (y + sy) (n1 y n l sy m) (l1 y n l sy m) sm
def l2 (y n : Int) (l : Bool) (sy sm m : Int) : Bool := S15.monL (y + sy) (n1 y n l sy m) (l1 y n l sy m) sm
def e2 (y n : Int) (l : Bool) (sy sm m : Int) : Int := S15.monE (y + sy) (n1 y n l sy m) (l1 y n l sy m) sm
def d2 (y n : Int) (l : Bool) (d sy sm m : Int) : Int := S15.fitV (y2 y n l sy sm m) (n2 y n l sy sm m) (l2 y n l sy sm m) d m
def e3 (y n : Int) (l : Bool) (d sy sm m : Int) : Int := S15.fitE (y2 y n l sy sm m) (n2 y n l sy sm m) (l2 y n l sy sm m) d m
/-- The day to which it leads. -/
def day (y n : Int) (l : Bool) (d sy sm sw sd m : Int) : Int := D10.dayV (y2 y n l sy sm m) (n2 y n l sy sm m) (l2 y n l sy sm m) (d2 y n l d sy sm m) + (7 * sw + sd)
def out (D : Int) : Prop := D < -1373427 ∨ 2278650 < D
instance (D : Int) : Decidable (out D) := by unfold out; exact inferInstance
def toE (y n : Int) (l : Bool) (d sy sm sw sd m : Int) : Int :=
  if right sy sm sw sd && S15.mode m then (if D10.dateE y n l d = 0 then (if S15.intoE (y + sy) n l m = 0 then (if e2 y n l sy sm m = 0 then (if e3 y n l d sy sm m = 0 then (if out (day y n l d sy sm sw sd m) then 2 else 0) else e3 y n l d sy sm m) else e2 y n l sy sm m) else S15.intoE (y + sy) n l m) else D10.dateE y n l d) else 1
theorem fit_date {y n d m : Int} {l : Bool} (h : S15.fitE y n l d m = 0) : D10.dateE y n l (S15.fitV y n l d m) = 0 := by
  have hv : S15.fitV y n l d m = if d ≤ D10.lastV y n l then d else D10.lastV y n l := by unfold S15.fitV; rw [if_pos h]
  unfold S15.fitE at h
  split at h
  · split at h
    · rename_i he
      obtain ⟨h1, h2, hp⟩ := S15.last_in he
      have hb := S15.lastV_bd he
      have e : D10.lastV y n l = D10.dLen y (Cal.plV (Cal.leap y) n l) := by simp [D10.lastV, Cal.yearIn_yes y h1 h2, hp]
      split at h
      · omega
      · rw [hv]
        have hx : 1 ≤ (if d ≤ D10.lastV y n l then d else D10.lastV y n l) ∧ (if d ≤ D10.lastV y n l then d else D10.lastV y n l) ≤ D10.lastV y n l := by split <;> omega
        generalize (if d ≤ D10.lastV y n l then d else D10.lastV y n l) = z at *
        rw [e] at hx
        unfold D10.dateE
        rw [Cal.yearIn_yes y h1 h2, hp]
        simp [hx]
    · rename_i he; exact absurd h he
  · omega
end A16
namespace A16
/-- What add.To answers. -/
def ToIs (y n : Int) (l : Bool) (d a b c f m ry rn : Int) (rl : Bool) (rd er : Int) : Prop :=
  (¬ toE y n l d a b c f m = 0 ∧ er = toE y n l d a b c f m ∧ ry = 0 ∧ rn = 0 ∧ rl = false ∧ rd = 0) ∨
  (toE y n l d a b c f m = 0 ∧ er = 0 ∧ ∃ rm, D10.Valid ry rm rd ∧ day y n l d a b c f m = D10.dayOf ry rm rd ∧ rn = Cal.ofN (Cal.leap ry) rm ∧ rl = Cal.ofL (Cal.leap ry) rm)
theorem ToIs.err {y n : Int} {l : Bool} {d a b c f m ry rn : Int} {rl : Bool} {rd er E : Int} (h : ToIs y n l d a b c f m ry rn rl rd er) (hE : toE y n l d a b c f m = E) (hne : ¬ E = 0) : ry = 0 ∧ rn = 0 ∧ rl = false ∧ rd = 0 ∧ er = E := by
  rcases h with ⟨_, h1, h2, h3, h4, h5⟩ | ⟨h0, _⟩
  · exact ⟨h2, h3, h4, h5, h1.trans hE⟩
  · rw [hE] at h0; exact absurd h0 hne
theorem ToIs.ok {y n : Int} {l : Bool} {d a b c f m ry rn : Int} {rl : Bool} {rd er : Int} (h : ToIs y n l d a b c f m ry rn rl rd er) (hE : toE y n l d a b c f m = 0) : er = 0 ∧ ∃ rm, D10.Valid ry rm rd ∧ day y n l d a b c f m = D10.dayOf ry rm rd ∧ rn = Cal.ofN (Cal.leap ry) rm ∧ rl = Cal.ofL (Cal.leap ry) rm := by
  rcases h with ⟨h0, _⟩ | ⟨_, h1, h2⟩
  · exact absurd hE h0
  · exact ⟨h1, h2⟩
end A16
end Go.Proofs.YtafenpgafmdenaaGreatDoor
