/- Lists of events: their order, plainly. -/
import Derived.Test.YtbmcpeccofadhaaDoorProg
import Derived.Shelf.SlSortCmp.NoneTotal
import Derived.WalkKit
import Derived.ProofKit
import Derived.OpenShut
namespace Go.Proofs.YtbmcpeccofadhaaDoor
open Go.ChangeShapes Go.WideShapes Go.ChangeAt Go.RowKit
set_option linter.unusedVariables false
set_option maxRecDepth 100000
namespace Ev
/-- An event's cells: kind, day. -/
def enc (x : Int × Int) : List Value := [.int .i64 x.1, .int .i64 x.2]
def flat (l : List (Int × Int)) : List Value := l.flatMap enc
/-- By day, then by kind. -/
def lt (x y : Int × Int) : Bool := decide (x.2 < y.2) || (decide (x.2 = y.2) && decide (x.1 < y.1))
def cf (x y : Int × Int) : Int := if Lib.compareInt x.2 y.2 = 0 then Lib.compareInt x.1 y.1 else Lib.compareInt x.2 y.2
theorem lt_iff (x y : Int × Int) : lt x y = true ↔ (x.2 < y.2 ∨ x.2 = y.2 ∧ x.1 < y.1) := by simp [lt]
theorem lt_no (x y : Int × Int) : lt x y = false ↔ ¬ (x.2 < y.2 ∨ x.2 = y.2 ∧ x.1 < y.1) := by rw [← lt_iff, Bool.not_eq_true]
theorem lt_of (x y : Int × Int) : ltOf cf x y = lt x y := by
  have h1 : ∀ a b : Int, a < b → Lib.compareInt a b = -1 := fun a b h => by simp [Lib.compareInt, h]
  have h2 : ∀ a b : Int, b < a → Lib.compareInt a b = 1 := fun a b h => by simp [Lib.compareInt, h, show ¬ a < b by omega]
  have h3 : ∀ a : Int, Lib.compareInt a a = 0 := fun a => by simp [Lib.compareInt]
  obtain ⟨a, b⟩ := x
  obtain ⟨c, d⟩ := y
  unfold ltOf cf lt
  dsimp only
  rcases Int.lt_trichotomy b d with h | h | h
  · rw [h1 b d h]; simp [h]
  · subst h
    rw [h3, if_pos rfl]
    rcases Int.lt_trichotomy a c with g | g | g
    · rw [h1 a c g]; simp [g]
    · subst g; rw [h3]; simp
    · rw [h2 a c g]; simp; omega
  · rw [h2 b d h]; simp; omega
theorem swo : Sort.SWO (ltOf cf) where
  irrefl x := by rw [lt_of, lt_no]; omega
  trans x y z h1 h2 := by rw [lt_of, lt_iff] at *; omega
  ntrans x y z h1 h2 := by rw [lt_of, lt_no] at *; omega
theorem tot : ∀ x y, ltOf cf x y = false → ltOf cf y x = false → x = y := by
  intro x y h1 h2
  rw [lt_of, lt_no] at h1 h2
  obtain ⟨a, b⟩ := x
  obtain ⟨c, d⟩ := y
  simp only [Prod.mk.injEq]
  dsimp only at h1 h2
  omega
/-- In order. -/
def Srt (l : List (Int × Int)) : Prop := l.Pairwise fun x y => lt y x = false
theorem lt_anti {x y : Int × Int} (h1 : lt x y = false) (h2 : lt y x = false) : x = y := tot x y (by rw [lt_of]; exact h1) (by rw [lt_of]; exact h2)
/-- What is in order is told by what it holds. -/
theorem srt_one : ∀ {a b : List (Int × Int)}, Srt a → Srt b → a.Perm b → a = b
  | [], b, _, _, h => (List.Perm.nil_eq h)
  | x :: a, [], _, _, h => absurd h.length_eq (by simp)
  | x :: a, y :: b, ha, hb, h => by
    have ha' := List.pairwise_cons.1 ha
    have hb' := List.pairwise_cons.1 hb
    have e : x = y := by
      have m1 : x ∈ y :: b := h.mem_iff.1 List.mem_cons_self
      have m2 : y ∈ x :: a := h.mem_iff.2 List.mem_cons_self
      rcases List.mem_cons.1 m1 with e | m1
      · exact e
      · rcases List.mem_cons.1 m2 with e | m2
        · exact e.symm
        · exact lt_anti (hb'.1 x m1) (ha'.1 y m2)
    subst e
    rw [srt_one ha'.2 hb'.2 (List.Perm.cons_inv h)]
/-- In order, by putting each where it belongs. -/
def ins (x : Int × Int) : List (Int × Int) → List (Int × Int)
  | [] => [x]
  | y :: r => if lt x y then x :: y :: r else y :: ins x r
def sort : List (Int × Int) → List (Int × Int)
  | [] => []
  | x :: r => ins x (sort r)
theorem ins_perm (x : Int × Int) : ∀ l, (ins x l).Perm (x :: l)
  | [] => List.Perm.refl _
  | y :: r => by
    unfold ins
    split
    · exact List.Perm.refl _
    · exact ((ins_perm x r).cons y).trans (List.Perm.swap x y r)
theorem sort_perm : ∀ l, (sort l).Perm l
  | [] => List.Perm.refl _
  | x :: r => (ins_perm x (sort r)).trans ((sort_perm r).cons x)
theorem ins_srt (x : Int × Int) : ∀ l, Srt l → Srt (ins x l)
  | [], _ => List.pairwise_singleton _ _
  | y :: r, h => by
    have h' := List.pairwise_cons.1 h
    unfold ins
    split
    · rename_i hx
      refine List.pairwise_cons.2 ⟨fun z hz => ?_, h⟩
      rw [lt_iff] at hx
      rcases List.mem_cons.1 hz with rfl | hz
      · rw [lt_no]; omega
      · have := h'.1 z hz
        rw [lt_no] at this ⊢; omega
    · rename_i hx
      refine List.pairwise_cons.2 ⟨fun z hz => ?_, ins_srt x r h'.2⟩
      rcases List.mem_cons.1 ((ins_perm x r).mem_iff.1 hz) with rfl | hz
      · simpa using hx
      · exact h'.1 z hz
theorem sort_srt : ∀ l, Srt (sort l)
  | [] => List.Pairwise.nil
  | x :: r => ins_srt x _ (sort_srt r)
/-- The library's order of these. -/
theorem sort_lib (d : List (Int × Int)) : (d.mergeSort fun x y => !(ltOf cf) y x) = sort d := by
  refine srt_one ?_ (sort_srt d) ((List.mergeSort_perm d _).trans (sort_perm d).symm)
  have h : List.Pairwise (fun x y => (!(ltOf cf) y x) = true) (d.mergeSort fun x y => !(ltOf cf) y x) := by
    apply List.pairwise_mergeSort
    · intro a b c h1 h2
      rw [Bool.not_eq_true', lt_of, lt_no] at *
      omega
    · intro a b
      rw [Bool.or_eq_true, Bool.not_eq_true', Bool.not_eq_true', lt_of, lt_of, lt_no, lt_no]
      omega
  exact h.imp fun g => by rw [Bool.not_eq_true', lt_of] at g; exact g
theorem sort_of {s l : List (Int × Int)} (h : Srt s) (hp : s.Perm l) : sort l = s := srt_one (sort_srt l) h ((sort_perm l).trans hp.symm)
theorem sort_eq {a b : List (Int × Int)} (h : a.Perm b) : sort a = sort b := sort_of (sort_srt b) ((sort_perm b).trans h.symm)
/-- Days, counted from another one. -/
def sh (k : Int) (x : Int × Int) : Int × Int := (x.1, k + x.2)
theorem sort_sh (k : Int) (l : List (Int × Int)) : sort (l.map (sh k)) = (sort l).map (sh k) := by
  refine sort_of ?_ ((sort_perm l).map _)
  refine List.Pairwise.map _ (fun x y h => ?_) (sort_srt l)
  rw [lt_no] at h ⊢
  simp only [sh]
  omega
theorem flat_len : ∀ l, (flat l).length = l.length * 2
  | [] => rfl
  | x :: r => by
    have := flat_len r
    unfold flat at this ⊢
    rw [List.flatMap_cons, List.length_append, this]
    simp [enc]; omega
theorem flat_app (a b : List (Int × Int)) : flat (a ++ b) = flat a ++ flat b := by simp [flat]
theorem flat_get : ∀ (l : List (Int × Int)) (j : Nat) (x : Int × Int), l[j]? = some x → (flat l)[2 * j]? = some (.int .i64 x.1) ∧ (flat l)[2 * j + 1]? = some (.int .i64 x.2)
  | [], j, x, h => by simp at h
  | y :: r, 0, x, h => by
    obtain rfl : y = x := by simpa using h
    exact ⟨rfl, rfl⟩
  | y :: r, j + 1, x, h => by
    have := flat_get r j x (by simpa using h)
    have e : flat (y :: r) = .int .i64 y.1 :: .int .i64 y.2 :: flat r := rfl
    rw [e, show 2 * (j + 1) = 2 * j + 1 + 1 by omega, show 2 * j + 1 + 1 + 1 = (2 * j + 1) + 1 + 1 by omega]
    simpa using this
theorem flat_one (l : List (Int × Int)) : ∀ u ∈ flat l, u.oneCell' = true := by
  intro u hu
  obtain ⟨x, _, hx⟩ := List.mem_flatMap.1 hu
  simp [enc] at hx
  rcases hx with rfl | rfl <;> rfl
end Ev
end Go.Proofs.YtbmcpeccofadhaaDoor
