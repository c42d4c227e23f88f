/- strings.ReplaceAll of one byte by another one: byte by byte. -/
import Derived.Lib.Replace
import Derived.Lib.CountLaws
namespace Go.Proofs.YtagmdglmflcegaaGreatDoor
namespace Rep
open Go.Lib
def sub (a b x : UInt8) : UInt8 := if x = a then b else x
theorem index_nil (a : UInt8) : index [] [a] = -1 := rfl
theorem index_same (a : UInt8) (l : List UInt8) : index (a :: l) [a] = 0 := by simp [index]
theorem index_other (a x : UInt8) (l : List UInt8) (h : ¬ x = a) : index (x :: l) [a] = if index l [a] == -1 then -1 else index l [a] + 1 := by
  have : ([a] : List UInt8).isPrefixOf (x :: l) = false := by simp [List.isPrefixOf]; exact fun e => h e.symm
  rw [index, this]; rfl
theorem replace_one (a b : UInt8) : ∀ l : List UInt8, replaceK [a] [b] (count l [a]) l = l.map (sub a b)
  | [] => by rw [count_miss (index_nil a)]; rfl
  | x :: l => by
    have ih := replace_one a b l
    by_cases h : x = a
    · have hi : index (x :: l) [a] = (0 : Nat) := by rw [h]; exact index_same a l
      have hc := count_hit (by simp) hi
      rw [hc, Nat.add_comm, replaceK_hit _ _ _ _ 0 hi]
      simp only [List.length_singleton, Nat.zero_add, List.drop_succ_cons, List.drop_zero, List.take_zero, List.nil_append, List.map_cons]
      rw [ih, h]
      simp [sub]
    · have hs : sub a b x = x := by simp [sub, h]
      have ho := index_other a x l h
      by_cases hm : index l [a] = -1
      · rw [if_pos (by simp [hm])] at ho
        rw [count_miss ho]
        rw [count_miss hm] at ih
        rw [List.map_cons, ← ih, hs]
        rfl
      · have hge := index_ge l [a]
        obtain ⟨i, hi⟩ : ∃ i : Nat, index l [a] = i := ⟨(index l [a]).toNat, by omega⟩
        rw [if_neg (by simp [hm]), hi] at ho
        have ho' : index (x :: l) [a] = ((i + 1 : Nat) : Int) := by rw [ho]; omega
        have hc := count_hit (by simp) ho'
        have hc2 := count_hit (by simp) hi
        rw [hc, Nat.add_comm, replaceK_hit _ _ _ _ (i + 1) ho']
        rw [hc2, Nat.add_comm, replaceK_hit _ _ _ _ i hi] at ih
        rw [List.length_singleton] at ih ⊢
        rw [List.map_cons, ← ih, hs, List.drop_succ_cons, List.take_succ_cons]
        rfl
theorem replaceAll_one (a b : UInt8) (h : ¬ a = b) (l : List UInt8) : replaceAll l [a] [b] = l.map (sub a b) := by
  unfold replaceAll replace
  rw [if_neg (by simp [h])]
  have : replaceNum l [a] (-1) = count l [a] := by unfold replaceNum; rw [if_pos (.inl (by omega))]
  rw [this]
  exact replace_one a b l
theorem count_le (a : UInt8) : ∀ l : List UInt8, count l [a] ≤ l.length
  | [] => by rw [count_miss (index_nil a)]; exact Nat.zero_le _
  | x :: l => by
    have ih := count_le a l
    by_cases h : x = a
    · have hi : index (x :: l) [a] = (0 : Nat) := by rw [h]; exact index_same a l
      rw [count_hit (by simp) hi, List.length_singleton, Nat.zero_add, List.drop_succ_cons, List.drop_zero, List.length_cons]
      omega
    · have ho := index_other a x l h
      by_cases hm : index l [a] = -1
      · rw [if_pos (by simp [hm])] at ho
        rw [count_miss ho]; exact Nat.zero_le _
      · have hge := index_ge l [a]
        obtain ⟨i, hi⟩ : ∃ i : Nat, index l [a] = i := ⟨(index l [a]).toNat, by omega⟩
        rw [if_neg (by simp [hm]), hi] at ho
        have ho' : index (x :: l) [a] = ((i + 1 : Nat) : Int) := by rw [ho]; omega
        rw [count_hit (by simp) ho']
        rw [count_hit (by simp) hi] at ih
        rw [List.length_singleton] at ih ⊢
        rw [List.drop_succ_cons, List.length_cons]
        omega
end Rep
end Go.Proofs.YtagmdglmflcegaaGreatDoor
