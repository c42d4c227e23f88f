/- Layer 2: the walks of its laws. -/
import Derived.Test.YtncckpfenjokmaaDoorHalak
namespace Go.Proofs.YtncckpfenjokmaaDoor
open Go.ChangeShapes Go.WideShapes Go.ChangeAt Go.RowKit
set_option linter.unusedVariables false
theorem bt {a b c : World} (h : Below a.heap.size a b) (k : Below b.heap.size b c) : Below a.heap.size a c := h.trans (k.mono h.size)
theorem ba (w : World) (o : Obj) : Below w.heap.size w (w.alloc o) := (Below.refl _ _).alloc (Nat.le_refl _) _
theorem baa {a b : World} (h : Below a.heap.size a b) (o : Obj) : Below a.heap.size a (b.alloc o) := h.alloc h.size _
theorem bs {a b : World} (h : Below a.heap.size a b) {p : Addr} (hp : a.heap.size ≤ p.block) (u : Value) : Below a.heap.size a (b.setCell p u) := h.setCell hp u
theorem join_split (n : Int) (hn : I64 n) : Cal.joinV (n / 25920) (n % 25920) = n ∧ Cal.joinE (n / 25920) (n % 25920) = 0 := by
  obtain ⟨h1, h2⟩ := hn
  have hz : Cal.fits (0 * 1080) = true := by decide
  by_cases c : n / 25920 < 0
  · rw [(Cal.join_neg _ _ (by omega) (by omega) c).1, (Cal.join_neg _ _ (by omega) (by omega) c).2]
    have f1 : Cal.fits ((n / 25920 + 1) * 25920) = true := fits_yes (by omega) (by omega)
    rw [(Cal.parts_zero_ok _ _ f1).1, (Cal.parts_zero_ok _ _ f1).2]
    have e : (n / 25920 + 1) * 25920 + (n % 25920 - 25920) = n := by omega
    have f2 : Cal.fits ((n / 25920 + 1) * 25920 + (n % 25920 - 25920)) = true := fits_yes (by omega) (by omega)
    rw [(addV_ok _ _ f2).1, (addV_ok _ _ f2).2]
    exact ⟨e, rfl⟩
  · rw [(Cal.join_pos _ _ (by omega) (by omega) (by omega)).1, (Cal.join_pos _ _ (by omega) (by omega) (by omega)).2]
    have f1 : Cal.fits ((n / 25920) * 25920) = true := fits_yes (by omega) (by omega)
    rw [(Cal.parts_zero_ok _ _ f1).1, (Cal.parts_zero_ok _ _ f1).2]
    have f2 : Cal.fits ((n / 25920) * 25920 + n % 25920) = true := fits_yes (by omega) (by omega)
    rw [(addV_ok _ _ f2).1, (addV_ok _ _ f2).2]
    exact ⟨by omega, rfl⟩
theorem join_cases (d p : Int) (h1 : 0 ≤ p) (h2 : p < 25920) :
    (Cal.joinE d p = 0 ∧ Cal.joinV d p = d * 25920 + p ∧ I64 (d * 25920 + p)) ∨ (Cal.joinE d p = 6 ∧ Cal.joinV d p = 0) := by
  by_cases c : d < 0
  · rw [(Cal.join_neg _ _ h1 h2 c).1, (Cal.join_neg _ _ h1 h2 c).2]
    by_cases f1 : Cal.fits ((d + 1) * 25920) = true
    · rw [(Cal.parts_zero_ok _ _ f1).1, (Cal.parts_zero_ok _ _ f1).2]
      by_cases f2 : Cal.fits ((d + 1) * 25920 + (p - 25920)) = true
      · rw [(addV_ok _ _ f2).1, (addV_ok _ _ f2).2]
        have := fits_I64 f2
        have e : (d + 1) * 25920 + (p - 25920) = d * 25920 + p := by omega
        rw [e] at this ⊢
        exact .inl ⟨rfl, rfl, this⟩
      · have f2 : Cal.fits ((d + 1) * 25920 + (p - 25920)) = false := by simpa using f2
        rw [(addV_no _ _ f2).1, (addV_no _ _ f2).2]
        exact .inr ⟨rfl, rfl⟩
    · have f1 : Cal.fits ((d + 1) * 25920) = false := by simpa using f1
      rw [(Cal.parts_no (d + 1) 0 (p - 25920) (by rw [f1]; simp)).1, (Cal.parts_no (d + 1) 0 (p - 25920) (by rw [f1]; simp)).2]
      exact .inr ⟨rfl, rfl⟩
  · rw [(Cal.join_pos _ _ h1 h2 (by omega)).1, (Cal.join_pos _ _ h1 h2 (by omega)).2]
    by_cases f1 : Cal.fits (d * 25920) = true
    · rw [(Cal.parts_zero_ok _ _ f1).1, (Cal.parts_zero_ok _ _ f1).2]
      by_cases f2 : Cal.fits (d * 25920 + p) = true
      · rw [(addV_ok _ _ f2).1, (addV_ok _ _ f2).2]
        exact .inl ⟨rfl, rfl, fits_I64 f2⟩
      · have f2 : Cal.fits (d * 25920 + p) = false := by simpa using f2
        rw [(addV_no _ _ f2).1, (addV_no _ _ f2).2]
        exact .inr ⟨rfl, rfl⟩
    · have f1 : Cal.fits (d * 25920) = false := by simpa using f1
      rw [(Cal.parts_no d 0 p (by rw [f1]; simp)).1, (Cal.parts_no d 0 p (by rw [f1]; simp)).2]
      exact .inr ⟨rfl, rfl⟩
theorem parts_small (d h p : Int) (hd : -2147483649 ≤ d ∧ d ≤ 2147483649) (hh : -2147483649 ≤ h ∧ h ≤ 2147483649) (hp : -2147483649 ≤ p ∧ p ≤ 2147483649) :
    Cal.partsV d h p = 25920 * d + 1080 * h + p ∧ Cal.partsE d h p = 0 := by
  have f1 : Cal.fits (d * 25920) = true := fits_yes (by omega) (by omega)
  have f2 : Cal.fits (h * 1080) = true := fits_yes (by omega) (by omega)
  have f3 : Cal.fits (d * 25920 + h * 1080) = true := fits_yes (by omega) (by omega)
  have f4 : Cal.fits (d * 25920 + h * 1080 + p) = true := fits_yes (by omega) (by omega)
  rw [(Cal.parts_ok d h p f1 f2 f3).1, (Cal.parts_ok d h p f1 f2 f3).2, (addV_ok _ _ f4).1, (addV_ok _ _ f4).2]
  exact ⟨by omega, rfl⟩
theorem halak_Parts_small (d h p : Int) (w : World) (hd : -2147483649 ≤ d ∧ d ≤ 2147483649) (hh : -2147483649 ≤ h ∧ h ≤ 2147483649) (hp : -2147483649 ≤ p ∧ p ≤ 2147483649) :
    Calls Tryd.prog 203 #[.int .i64 d, .int .i64 h, .int .i64 p] w fun e w' => e = .returned (.tuple #[.int .i64 (25920 * d + 1080 * h + p), .int .i64 0]) ∧ w = w' := by
  have := halak_Parts d h p w ⟨by omega, by omega⟩ ⟨by omega, by omega⟩ ⟨by omega, by omega⟩
  rwa [(parts_small d h p hd hh hp).1, (parts_small d h p hd hh hp).2] at this
end Go.Proofs.YtncckpfenjokmaaDoor
