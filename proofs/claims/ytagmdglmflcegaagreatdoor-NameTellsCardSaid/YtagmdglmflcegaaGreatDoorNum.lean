/- Digits of a text, and their number. -/
import Derived.Test.YtagmdglmflcegaaGreatDoorFlat
namespace Go.Proofs.YtagmdglmflcegaaGreatDoor
open Go.ChangeShapes Go.WideShapes Go.ChangeAt Go.RowKit
set_option linter.unusedVariables false
set_option maxRecDepth 100000
/-- A digit? -/
def isDig (b : UInt8) : Bool := decide (48 ≤ b.toNat) && decide (b.toNat ≤ 57)
def numFold (l : List UInt8) : Int := l.foldl (fun a b => 10 * a + ((b.toNat : Int) - 48)) 0
def numOk (l : List UInt8) (M : Nat) : Bool := decide (l.length = M) && l.all isDig
def numVal (l : List UInt8) (M : Nat) : Int := if numOk l M then numFold l else 0
theorem numFold_snoc (l : List UInt8) (b : UInt8) : numFold (l ++ [b]) = 10 * numFold l + ((b.toNat : Int) - 48) := by simp [numFold]
theorem numFold_bd' : ∀ (n : Nat) (l : List UInt8), l.length = n → l.all isDig = true → 0 ≤ numFold l ∧ numFold l < 10 ^ n
  | 0, l, hl, _ => by
    have : l = [] := List.length_eq_zero_iff.1 hl
    subst this
    simp [numFold]
  | n + 1, l, hl, h => by
    have hne : l ≠ [] := by rintro rfl; simp at hl
    obtain ⟨L, b, rfl⟩ : ∃ L b, l = L ++ [b] := ⟨_, _, (List.dropLast_concat_getLast hne).symm⟩
    rw [List.all_append, Bool.and_eq_true] at h
    obtain ⟨h1, h2⟩ := h
    have hb : isDig b = true := by simpa using h2
    unfold isDig at hb
    simp only [Bool.and_eq_true, decide_eq_true_eq] at hb
    obtain ⟨i1, i2⟩ := numFold_bd' n L (by simpa using hl) h1
    rw [numFold_snoc, Int.pow_succ]
    omega
theorem numFold_bd (l : List UInt8) (h : l.all isDig = true) : 0 ≤ numFold l ∧ numFold l < 10 ^ l.length := numFold_bd' _ l rfl h
theorem take_snoc' (s : ByteArray) (k : Nat) (h : k < s.size) : s.data.toList.take (k + 1) = s.data.toList.take k ++ [s[k]] := by
  rw [List.take_succ_eq_append_getElem (by simpa using h)]; rfl
theorem all_take (s : ByteArray) (k : Nat) (h : k < s.size) (hb : isDig s[k] = false) : s.data.toList.all isDig = false := by
  rw [Bool.eq_false_iff]
  intro hA
  have := List.all_eq_true.1 hA s[k] (by
    have e : s[k] = s.data.toList[k]'(by simpa using h) := rfl
    rw [e]; exact List.getElem_mem _)
  rw [hb] at this
  cases this
end Go.Proofs.YtagmdglmflcegaaGreatDoor
