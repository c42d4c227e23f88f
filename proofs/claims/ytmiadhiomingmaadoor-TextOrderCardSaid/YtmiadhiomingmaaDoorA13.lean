/- Layer 13: the order of Hebrew dates' texts. -/
import Derived.Test.YtmiadhiomingmaaDoorText3
import Derived.Test.YtmiadhiomingmaaDoorW10
namespace Go.Proofs.YtmiadhiomingmaaDoor
open Go.ChangeShapes Go.WideShapes Go.ChangeAt Go.RowKit
set_option linter.unusedVariables false
namespace D13
def P (u v : Int) (X : Bool) : Bool := decide (u < v) || (decide (u = v) && X)
theorem P_comb (q r q' r' : Int) (X : Bool) (h1 : 0 ≤ r) (h2 : r < 10) (h3 : 0 ≤ r') (h4 : r' < 10) : P q q' (P r r' X) = P (10 * q + r) (10 * q' + r') X := by
  cases X <;> simp only [P, Bool.and_false, Bool.and_true, Bool.or_false] <;> rw [Bool.eq_iff_iff] <;> simp <;> omega
theorem P_add (c u v : Int) (X : Bool) : P (c + u) (c + v) X = P u v X := by
  cases X <;> simp only [P, Bool.and_false, Bool.and_true, Bool.or_false] <;> rw [Bool.eq_iff_iff] <;> simp <;> omega
theorem bl (a b : Nat) (x y : List UInt8) (ha : a < 256) (hb : b < 256) : Op.bytesLess (UInt8.ofNat a :: x) (UInt8.ofNat b :: y) = P (a : Int) (b : Int) (Op.bytesLess x y) := by
  have e1 : (UInt8.ofNat a).toNat = a := by simp; omega
  have e2 : (UInt8.ofNat b).toNat = b := by simp; omega
  have k1 : decide (UInt8.ofNat a < UInt8.ofNat b) = decide ((a : Int) < (b : Int)) := by
    rw [decide_eq_decide, UInt8.lt_iff_toNat_lt, e1, e2]; omega
  have k2 : (UInt8.ofNat a == UInt8.ofNat b) = decide ((a : Int) = (b : Int)) := by
    rw [Bool.eq_iff_iff]
    simp only [beq_iff_eq, decide_eq_true_eq]
    rw [← UInt8.toNat_inj, e1, e2]; omega
  simp only [Op.bytesLess, P, k1, k2]
theorem bl_same (c : UInt8) (x y : List UInt8) : Op.bytesLess (c :: x) (c :: y) = Op.bytesLess x y := by simp [Op.bytesLess]
theorem bl_refl : ∀ x : List UInt8, Op.bytesLess x x = false
  | [] => rfl
  | c :: x => by rw [bl_same]; exact bl_refl x
theorem bl_lt (x y : List UInt8) : Op.bytesLess (45 :: x) (76 :: y) = true := by simp [Op.bytesLess]
theorem bl_gt (x y : List UInt8) : Op.bytesLess (76 :: x) (45 :: y) = false := by simp [Op.bytesLess]
def B (n p : Int) : UInt8 := UInt8.ofNat (digB n p).toNat
theorem bl_dig (n m p : Int) (x y : List UInt8) : Op.bytesLess (B n p :: x) (B m p :: y) = P (n / p % 10) (m / p % 10) (Op.bytesLess x y) := by
  have h1 := digB_bd n p
  have h2 := digB_bd m p
  unfold B
  rw [bl _ _ _ _ (by omega) (by omega), Int.toNat_of_nonneg (by omega), Int.toNat_of_nonneg (by omega)]
  exact P_add 48 _ _ _
theorem bl_num2 (n m : Nat) (hn : n < 100) (hm : m < 100) (x y : List UInt8) : Op.bytesLess (UInt8.ofNat (48 + n / 10) :: UInt8.ofNat (48 + n % 10) :: x) (UInt8.ofNat (48 + m / 10) :: UInt8.ofNat (48 + m % 10) :: y) = P (n : Int) (m : Int) (Op.bytesLess x y) := by
  rw [bl _ _ _ _ (by omega) (by omega), bl _ _ _ _ (by omega) (by omega)]
  rw [show ((48 + n / 10 : Nat) : Int) = 48 + (n : Int) / 10 by omega, show ((48 + m / 10 : Nat) : Int) = 48 + (m : Int) / 10 by omega, show ((48 + n % 10 : Nat) : Int) = 48 + (n : Int) % 10 by omega, show ((48 + m % 10 : Nat) : Int) = 48 + (m : Int) % 10 by omega, P_add, P_add, P_comb _ _ _ _ _ (by omega) (by omega) (by omega) (by omega)]
  rw [show 10 * ((n : Int) / 10) + (n : Int) % 10 = n by omega, show 10 * ((m : Int) / 10) + (m : Int) % 10 = m by omega]
theorem bl_d2 (n m : Int) (h1 : 0 ≤ n) (h2 : n < 100) (h3 : 0 ≤ m) (h4 : m < 100) (x y : List UInt8) : Op.bytesLess (B n 10 :: B n 1 :: x) (B m 10 :: B m 1 :: y) = P n m (Op.bytesLess x y) := by
  rw [bl_dig, bl_dig, P_comb _ _ _ _ _ (by omega) (by omega) (by omega) (by omega)]
  rw [show 10 * (n / 10 % 10) + n / 1 % 10 = n by omega, show 10 * (m / 10 % 10) + m / 1 % 10 = m by omega]
theorem bl_d4 (n m : Int) (h1 : 0 ≤ n) (h2 : n < 10000) (h3 : 0 ≤ m) (h4 : m < 10000) (x y : List UInt8) : Op.bytesLess (B n 1000 :: B n 100 :: B n 10 :: B n 1 :: x) (B m 1000 :: B m 100 :: B m 10 :: B m 1 :: y) = P n m (Op.bytesLess x y) := by
  rw [bl_dig, bl_dig, bl_dig, bl_dig, P_comb _ _ _ _ _ (by omega) (by omega) (by omega) (by omega)]
  rw [show 10 * (n / 1000 % 10) + n / 100 % 10 = n / 100 by omega, show 10 * (m / 1000 % 10) + m / 100 % 10 = m / 100 by omega, P_comb _ _ _ _ _ (by omega) (by omega) (by omega) (by omega)]
  rw [show 10 * (n / 100) + n / 10 % 10 = n / 10 by omega, show 10 * (m / 100) + m / 10 % 10 = m / 10 by omega, P_comb _ _ _ _ _ (by omega) (by omega) (by omega) (by omega)]
  rw [show 10 * (n / 10) + n / 1 % 10 = n by omega, show 10 * (m / 10) + m / 1 % 10 = m by omega]
theorem heb_list (y n : Int) (l : Bool) (d : Int) (h : Cal.right n l = true) : (hebTxt y n l d).toList = B y 1000 :: B y 100 :: B y 10 :: B y 1 :: 45 :: 77 :: UInt8.ofNat (48 + n.toNat / 10) :: UInt8.ofNat (48 + n.toNat % 10) :: ((if l then [76] else []) ++ [45, B d 10, B d 1]) := by
  rw [Lib.toList_data]
  unfold hebTxt txtV codeTxt
  rw [h]
  cases l <;> simp [digs, B]
theorem right_bd {n : Int} {l : Bool} (h : Cal.right n l = true) : 1 ≤ n ∧ n ≤ 12 := by simp [Cal.right] at h; omega
theorem order {y n d z k f : Int} {l h : Bool} (h1 : D10.dateE y n l d = 0) (h2 : D10.dateE z k h f = 0) : Op.bytesLess (hebTxt y n l d).toList (hebTxt z k h f).toList = D10.lessD y n l d z k h f := by
  obtain ⟨⟨a1, a2, a3, a4, a5, a6⟩, a7⟩ := D10.date_valid h1
  obtain ⟨⟨b1, b2, b3, b4, b5, b6⟩, b7⟩ := D10.date_valid h2
  have a8 := (D10.len_bd y _ a1 a2 a3 a4).2
  have b8 := (D10.len_bd z _ b1 b2 b3 b4).2
  have r1 : Cal.right n l = true := by simp [Cal.plOk] at a7; exact a7.1
  have r2 : Cal.right k h = true := by simp [Cal.plOk] at b7; exact b7.1
  have n1 := right_bd r1
  have n2 := right_bd r2
  rw [heb_list _ _ _ _ r1, heb_list _ _ _ _ r2, bl_d4 _ _ (by omega) (by omega) (by omega) (by omega), bl_same, bl_same, bl_num2 _ _ (by omega) (by omega), Int.toNat_of_nonneg (by omega), Int.toNat_of_nonneg (by omega)]
  have e : Op.bytesLess ((if l then [76] else []) ++ [45, B d 10, B d 1]) ((if h then [76] else []) ++ [45, B f 10, B f 1]) = if l = h then decide (d < f) else (!l && h) := by
    have q : Op.bytesLess [B d 10, B d 1] [B f 10, B f 1] = decide (d < f) := by
      rw [bl_d2 _ _ (by omega) (by omega) (by omega) (by omega)]; simp [P, Op.bytesLess]
    cases l <;> cases h
    · simp only [Bool.false_eq_true, if_false, List.nil_append, if_true, bl_same]; exact q
    · exact bl_lt _ _
    · exact bl_gt _ _
    · show Op.bytesLess (76 :: 45 :: [B d 10, B d 1]) (76 :: 45 :: [B f 10, B f 1]) = _
      rw [bl_same, bl_same, q]; rfl
  rw [e]
  unfold D10.lessD Cal.lessV P
  by_cases c1 : y = z
  · by_cases c2 : n = k
    · by_cases c3 : l = h <;> simp [c1, c2, c3]
    · simp [c1, c2]
  · simp [c1]
theorem alike {y n d z k f : Int} {l h : Bool} (h1 : D10.dateE y n l d = 0) (h2 : D10.dateE z k h f = 0) : ((hebTxt y n l d).toList == (hebTxt z k h f).toList) = decide (y = z ∧ n = k ∧ l = h ∧ d = f) := by
  by_cases c : y = z ∧ n = k ∧ l = h ∧ d = f
  · obtain ⟨rfl, rfl, rfl, rfl⟩ := c
    simp
  · have e : ¬ (hebTxt y n l d).toList = (hebTxt z k h f).toList := fun e => by
      have p := order h1 h2
      have q := order h2 h1
      rw [e, bl_refl, D10.less_day h1 h2] at p
      rw [e, bl_refl, D10.less_day h2 h1] at q
      have p := (decide_eq_false_iff_not.1 p.symm)
      have q := (decide_eq_false_iff_not.1 q.symm)
      exact c (D10.same_day h1 h2 (by omega))
    rw [decide_eq_false c]
    simpa using e
end D13
end Go.Proofs.YtmiadhiomingmaaDoor
