/- Plain mathematics of the calendar: no Go in sight. -/
namespace Go.Proofs.YtncckpfenjokmaaDoor
namespace Cal

/-- Fits 64 bits. -/
def fits (n : Int) : Bool := decide (-9223372036854775808 ≤ n) && decide (n ≤ 9223372036854775807)
def addV (a b : Int) : Int := if fits (a + b) then a + b else 0
def addE (a b : Int) : Int := if fits (a + b) then 0 else 6
def mulV (a b : Int) : Int := if fits (a * b) then a * b else 0
def mulE (a b : Int) : Int := if fits (a * b) then 0 else 6
def divV (a b : Int) : Int := if b ≤ 0 then 0 else a / b
def divE (b : Int) : Int := if b ≤ 0 then 1 else 0
def modV (a b : Int) : Int := if b ≤ 0 then 0 else a % b

/-- The number is reckoned first. -/
def force {α : Type} (n : Nat) (f : Nat → α) : α := match n with | 0 => f 0 | k + 1 => f (Nat.succ k)
theorem force_eq {α : Type} (n : Nat) (f : Nat → α) : force n f = f n := by cases n <;> rfl
/-- A check of a range of numbers, by halves. -/
def allUpto (f : Nat → Bool) : Nat → Nat → Bool
  | 0, lo => f lo
  | k + 1, lo => and (allUpto f k lo) (force (Nat.add lo (Nat.pow 2 k)) (allUpto f k))

theorem allUpto_spec (f : Nat → Bool) (k : Nat) : ∀ lo, allUpto f k lo = true → ∀ n, lo ≤ n → n < lo + 2 ^ k → f n = true := by
  induction k with
  | zero => intro lo h n h1 h2; simp at h2; have : n = lo := by omega
            subst this; exact h
  | succ k ih =>
    intro lo h n h1 h2
    simp only [allUpto, force_eq] at h
    rw [Bool.and_eq_true] at h
    by_cases hn : n < lo + 2 ^ k
    · exact ih lo h.1 n h1 hn
    · exact ih (lo + 2 ^ k) h.2 n (by omega) (by rw [Nat.pow_succ] at h2; omega)

/-! Rounding down, by Go's own division. -/
theorem div_down (a b : Int) (hb : 0 < b) (h : a.tmod b < 0) : a.tdiv b - 1 = a / b ∧ a.tmod b + b = a % b := by
  have h1 := Int.tmod_add_mul_tdiv a b
  have h2 := Int.lt_tmod_of_pos a hb
  have h3 := (Int.ediv_emod_unique (a := a) (r := a.tmod b + b) (q := a.tdiv b - 1) hb).2 ⟨by rw [Int.mul_sub]; omega, by omega, by omega⟩
  exact ⟨h3.1.symm, h3.2.symm⟩
theorem div_down' (a b : Int) (hb : 0 < b) (h : 0 ≤ a.tmod b) : a.tdiv b = a / b ∧ a.tmod b = a % b := by
  have h1 := Int.tmod_add_mul_tdiv a b
  have h2 := Int.tmod_lt_of_pos a hb
  have h3 := (Int.ediv_emod_unique (a := a) (r := a.tmod b) (q := a.tdiv b) hb).2 ⟨by omega, h, h2⟩
  exact ⟨h3.1.symm, h3.2.symm⟩

/-- Years. -/
def leap (y : Int) : Bool := decide ((7 * y + 1) % 19 < 7)
def months (y : Int) : Int := if leap y then 13 else 12
def before (y : Int) : Int := (235 * y - 234) / 19
def reck (y : Int) : Bool := decide (0 ≤ y) && decide (y ≤ 10001)
def leapV (y : Int) : Bool := reck y && leap y
def reckE (y : Int) : Int := if reck y then 0 else 2
def monthsV (y : Int) : Int := if reck y then months y else 0
def beforeV (y : Int) : Int := if reck y then before y else 0

/-- New moons. -/
def moonDay (n : Int) : Int := (5604 + 765433 * n) / 25920 - 1373427
def moonPart (n : Int) : Int := (5604 + 765433 * n) % 25920
def moonIn (n : Int) : Bool := decide (-200000 ≤ n) && decide (n ≤ 200000)
def moonE (n : Int) : Int := if moonIn n then 0 else 2
def moonD (n : Int) : Int := if moonIn n then moonDay n else 0
def moonP (n : Int) : Int := if moonIn n then moonPart n else 0
def ofIn (y m : Int) : Bool := decide (1 ≤ m) && decide (m ≤ months y)
def ofE (y m : Int) : Int := if reck y then (if ofIn y m then 0 else 3) else 2
def ofD (y m : Int) : Int := if reck y && ofIn y m then moonDay (before y + m - 1) else 0
def ofP (y m : Int) : Int := if reck y && ofIn y m then moonPart (before y + m - 1) else 0

/-- New years. -/
def delay0 (w p : Int) (leap after : Bool) : Int :=
  if 19440 ≤ p then 1 else if (!leap && (w == 2) && decide (9924 ≤ p)) then 1 else if (after && (w == 1) && decide (16789 ≤ p)) then 1 else 0
def delay (d p : Int) (leap after : Bool) : Int :=
  let n := delay0 (d % 7) p leap after
  if (d % 7 + n) % 7 = 0 ∨ (d % 7 + n) % 7 = 3 ∨ (d % 7 + n) % 7 = 5 then n + 1 else n
def first (y : Int) : Int := moonDay (before y) + delay (moonDay (before y)) (moonPart (before y)) (leap y) (leap (y - 1))
def firstV (y : Int) : Int := if reck y then first y else 0

/-- The other way. -/
def nearly0 (m : Int) : Int := 29 * m + (12084 + 13753 * m) / 25920
def nearly (y : Int) : Int := let d := nearly0 (before y); if (3 * d + 3) % 7 < 3 then d + 1 else d
def nearIn (y : Int) : Bool := decide (-1 ≤ y) && decide (y ≤ 10002)
def nearE (y : Int) : Int := if nearIn y then 0 else 2
def nearV (y : Int) : Int := if nearIn y then nearly y else 0
def first2 (y : Int) : Int :=
  if nearly (y + 1) - nearly y = 356 then nearly y + 2 - 1373427 else if nearly y - nearly (y - 1) = 382 then nearly y + 1 - 1373427 else nearly y - 1373427


/-! The same over natural numbers, for a check of all years. -/
def lpN (y : Nat) : Bool := Nat.blt (Nat.mod (Nat.add (Nat.mul 7 y) 1) 19) 7
def befN (y : Nat) : Nat := Nat.div (Nat.sub (Nat.mul 235 y) 234) 19
def delayN (w p : Nat) (lp af : Bool) : Nat := cond (Nat.ble 19440 p) 1 (cond (and (not lp) (and (Nat.beq w 2) (Nat.ble 9924 p))) 1 (cond (and af (and (Nat.beq w 1) (Nat.ble 16789 p))) 1 0))
def badN (w : Nat) : Bool := or (Nat.beq w 0) (or (Nat.beq w 3) (Nat.beq w 5))
def firstK {α : Type} (y : Nat) (k : Nat → α) : α :=
  force (befN y) fun mo => force (Nat.add 5604 (Nat.mul 765433 mo)) fun mm => force (Nat.div mm 25920) fun d => force (Nat.mod mm 25920) fun p =>
  force (Nat.mod (Nat.add d 1) 7) fun w => force (delayN w p (lpN y) (lpN (Nat.sub y 1))) fun n => force (Nat.mod (Nat.add w n) 7) fun w2 =>
  force (Nat.add d (Nat.add n (cond (badN w2) 1 0))) k
def nearK {α : Type} (y : Nat) (k : Nat → α) : α :=
  force (befN y) fun mo => force (Nat.add (Nat.mul 29 mo) (Nat.div (Nat.add 12084 (Nat.mul 13753 mo)) 25920)) fun d =>
  force (cond (Nat.blt (Nat.mod (Nat.add (Nat.mul 3 d) 3) 7) 3) (Nat.add d 1) d) k
def firstN (y : Nat) : Nat := firstK y id
def nearN (y : Nat) : Nat := nearK y id
theorem firstK_eq {α : Type} (y : Nat) (k : Nat → α) : firstK y k = k (firstN y) := by simp only [firstN, firstK, force_eq, id]
theorem nearK_eq {α : Type} (y : Nat) (k : Nat → α) : nearK y k = k (nearN y) := by simp only [nearN, nearK, force_eq, id]
def okN (y : Nat) : Bool :=
  firstK y fun a => firstK (Nat.succ y) fun b => force (cond (lpN y) (Nat.sub (Nat.sub b a) 30) (Nat.sub b a)) fun n => force (Nat.mod (Nat.add a 1) 7) fun w =>
  nearK (Nat.pred y) fun n0 => nearK y fun n1 => nearK (Nat.succ y) fun n2 =>
  and (or (Nat.beq n 353) (or (Nat.beq n 354) (Nat.beq n 355))) (and (not (badN w)) (Nat.beq a (cond (Nat.beq (Nat.sub n2 n1) 356) (Nat.add n1 2) (cond (Nat.beq (Nat.sub n1 n0) 382) (Nat.add n1 1) n1))))
theorem okN1 : allUpto okN 13 2 = true := by decide +kernel
theorem okN2 : allUpto okN 11 8194 = true := by decide +kernel
theorem okN_all (y : Nat) (h0 : 2 ≤ y) (h1 : y ≤ 10001) : okN y = true := by
  by_cases h : y < 8194
  · exact allUpto_spec _ _ _ okN1 y h0 (by omega)
  · exact allUpto_spec _ _ _ okN2 y (by omega) (by omega)
theorem okN_spec (y : Nat) (h0 : 2 ≤ y) (h1 : y ≤ 10001) :
    ((firstN (y + 1) - firstN y - (if lpN y then 30 else 0) = 353 ∨ firstN (y + 1) - firstN y - (if lpN y then 30 else 0) = 354 ∨ firstN (y + 1) - firstN y - (if lpN y then 30 else 0) = 355) ∧
      ((firstN y + 1) % 7 ≠ 0 ∧ (firstN y + 1) % 7 ≠ 3 ∧ (firstN y + 1) % 7 ≠ 5)) ∧
      firstN y = if nearN (y + 1) - nearN y = 356 then nearN y + 2 else if nearN y - nearN (y - 1) = 382 then nearN y + 1 else nearN y := by
  have h := okN_all y h0 h1
  unfold okN at h
  simp only [firstK_eq, nearK_eq, force_eq] at h
  rw [Bool.and_eq_true, Bool.and_eq_true] at h
  obtain ⟨h1, h2, h3⟩ := h
  refine ⟨⟨?_, ?_⟩, ?_⟩
  · simp only [Bool.or_eq_true, Nat.beq_eq] at h1
    cases hl : lpN y <;> rw [hl] at h1 <;> simpa using h1
  · simp only [badN, Bool.not_eq_true', Bool.or_eq_false_iff] at h2
    exact ⟨Nat.ne_of_beq_eq_false h2.1, Nat.ne_of_beq_eq_false h2.2.1, Nat.ne_of_beq_eq_false h2.2.2⟩
  · rw [Nat.beq_eq] at h3
    simp only [Bool.cond_eq_ite, Nat.beq_eq] at h3
    exact h3

theorem cast_div (a b c m : Nat) : (((a + b * m) / c : Nat) : Int) = ((a : Int) + b * m) / c := by rw [Int.natCast_ediv, Int.natCast_add, Int.natCast_mul]
theorem cast_mod (a b c m : Nat) : (((a + b * m) % c : Nat) : Int) = ((a : Int) + b * m) % c := by rw [Int.natCast_emod, Int.natCast_add, Int.natCast_mul]
theorem cast_mod' (a b c m : Nat) : (((b * m + a) % c : Nat) : Int) = ((b : Int) * m + a) % c := by rw [Int.natCast_emod, Int.natCast_add, Int.natCast_mul]
theorem lp_nat (y : Nat) : leap (y : Int) = lpN y := by
  rw [Bool.eq_iff_iff]
  unfold leap lpN
  rw [decide_eq_true_eq, Nat.blt_eq]
  show (7 * (y : Int) + 1) % 19 < 7 ↔ (7 * y + 1) % 19 < 7
  have e : (((7 * y + 1) % 19 : Nat) : Int) = (7 * (y : Int) + 1) % 19 := cast_mod' 1 7 19 y
  omega
theorem bef_nat (y : Nat) (h : 1 ≤ y) : before (y : Int) = (befN y : Int) := by
  show (235 * (y : Int) - 234) / 19 = (((235 * y - 234) / 19 : Nat) : Int)
  omega
theorem delay_nat (w p : Nat) (lp af : Bool) : delay0 (w : Int) (p : Int) lp af = (delayN w p lp af : Int) := by
  have e1 : Nat.ble 19440 p = decide (19440 ≤ (p : Int)) := by rw [Bool.eq_iff_iff, Nat.ble_eq, decide_eq_true_eq]; omega
  have e2 : Nat.ble 9924 p = decide (9924 ≤ (p : Int)) := by rw [Bool.eq_iff_iff, Nat.ble_eq, decide_eq_true_eq]; omega
  have e3 : Nat.ble 16789 p = decide (16789 ≤ (p : Int)) := by rw [Bool.eq_iff_iff, Nat.ble_eq, decide_eq_true_eq]; omega
  have e4 : Nat.beq w 2 = ((w : Int) == 2) := by rw [Bool.eq_iff_iff, Nat.beq_eq, beq_iff_eq]; omega
  have e5 : Nat.beq w 1 = ((w : Int) == 1) := by rw [Bool.eq_iff_iff, Nat.beq_eq, beq_iff_eq]; omega
  unfold delay0 delayN
  rw [e1, e2, e3, e4, e5]
  simp only [Bool.cond_eq_ite, decide_eq_true_eq, Bool.and_assoc]
  split
  · rfl
  · split
    · rfl
    · split <;> rfl
theorem bad_nat (w : Nat) : badN w = decide (w = 0 ∨ w = 3 ∨ w = 5) := by
  rw [Bool.eq_iff_iff]
  unfold badN
  simp only [Bool.or_eq_true, Nat.beq_eq, decide_eq_true_eq]
theorem first_nat (y : Nat) (h : 2 ≤ y) : first (y : Int) = (firstN y : Int) - 1373427 := by
  have hn : firstN y = (5604 + 765433 * befN y) / 25920 + (delayN (((5604 + 765433 * befN y) / 25920 + 1) % 7) ((5604 + 765433 * befN y) % 25920) (lpN y) (lpN (y - 1)) +
      cond (badN ((((5604 + 765433 * befN y) / 25920 + 1) % 7 + delayN (((5604 + 765433 * befN y) / 25920 + 1) % 7) ((5604 + 765433 * befN y) % 25920) (lpN y) (lpN (y - 1))) % 7)) 1 0) := by
    simp only [firstN, firstK, force_eq, id]
    rfl
  rw [hn]
  unfold first delay
  rw [bef_nat y (by omega), lp_nat y, show ((y : Int) - 1) = ((y - 1 : Nat) : Int) by omega, lp_nat (y - 1)]
  generalize befN y = m
  generalize lpN y = lp
  generalize lpN (y - 1) = af
  have hd : moonDay (m : Int) = (((5604 + 765433 * m) / 25920 : Nat) : Int) - 1373427 := by unfold moonDay; rw [show (((5604 + 765433 * m) / 25920 : Nat) : Int) = (5604 + 765433 * (m : Int)) / 25920 from cast_div 5604 765433 25920 m]
  have hp : moonPart (m : Int) = (((5604 + 765433 * m) % 25920 : Nat) : Int) := by (exact (cast_mod 5604 765433 25920 m).symm)
  have hw : moonDay (m : Int) % 7 = ((((5604 + 765433 * m) / 25920 + 1) % 7 : Nat) : Int) := by
    rw [hd]
    generalize (5604 + 765433 * m) / 25920 = d
    omega
  simp only [hw, hp, delay_nat]
  rw [hd]
  generalize (5604 + 765433 * m) % 25920 = p
  generalize (5604 + 765433 * m) / 25920 = d
  generalize delayN ((d + 1) % 7) p lp af = n
  rw [bad_nat, Bool.cond_eq_ite]
  simp only [decide_eq_true_eq]
  split <;> split <;> omega
theorem near_nat (y : Nat) (h : 1 ≤ y) : nearly (y : Int) = (nearN y : Int) := by
  have hn : nearN y = cond (Nat.blt ((3 * (29 * befN y + (12084 + 13753 * befN y) / 25920) + 3) % 7) 3) (29 * befN y + (12084 + 13753 * befN y) / 25920 + 1) (29 * befN y + (12084 + 13753 * befN y) / 25920) := by
    simp only [nearN, nearK, force_eq, id]
    rfl
  rw [hn]
  unfold nearly nearly0
  rw [bef_nat y h]
  generalize befN y = m
  have e0 : (((12084 + 13753 * m) / 25920 : Nat) : Int) = (12084 + 13753 * (m : Int)) / 25920 := cast_div 12084 13753 25920 m
  have e : (29 * (m : Int) + (12084 + 13753 * (m : Int)) / 25920) = ((29 * m + (12084 + 13753 * m) / 25920 : Nat) : Int) := by
    rw [← e0]; omega
  simp only [e]
  generalize 29 * m + (12084 + 13753 * m) / 25920 = d
  have e2 : (((3 * d + 3) % 7 : Nat) : Int) = (3 * (d : Int) + 3) % 7 := cast_mod' 3 3 7 d
  simp only [Bool.cond_eq_ite, Nat.blt_eq]
  split <;> split <;> omega

/-- Each year's length, each year's first weekday; both ways tell one day. -/
theorem year_long (y : Int) (h0 : 0 ≤ y) (h1 : y ≤ 10000) :
    first (y + 1) - first y - (if leap y then 30 else 0) = 353 ∨ first (y + 1) - first y - (if leap y then 30 else 0) = 354 ∨ first (y + 1) - first y - (if leap y then 30 else 0) = 355 := by
  by_cases h2 : y < 2
  · have : y = 0 ∨ y = 1 := by omega
    rcases this with rfl | rfl <;> decide +kernel
  · obtain ⟨n, rfl⟩ := Int.eq_ofNat_of_zero_le h0
    have h := (okN_spec n (by omega) (by omega)).1.1
    have e : ((n : Int) + 1) = ((n + 1 : Nat) : Int) := by omega
    rw [e, first_nat n (by omega), first_nat (n + 1) (by omega), lp_nat n]
    cases hl : lpN n <;> rw [hl] at h <;> simp only [Bool.false_eq_true, if_true, if_false] at h ⊢ <;> omega
theorem year_begins (y : Int) (h0 : 0 ≤ y) (h1 : y ≤ 10001) : first y % 7 ≠ 0 ∧ first y % 7 ≠ 3 ∧ first y % 7 ≠ 5 := by
  by_cases h2 : y < 2
  · have : y = 0 ∨ y = 1 := by omega
    rcases this with rfl | rfl <;> decide +kernel
  · obtain ⟨n, rfl⟩ := Int.eq_ofNat_of_zero_le h0
    have h := (okN_spec n (by omega) (by omega)).1.2
    rw [first_nat n (by omega)]
    omega
theorem year_same (y : Int) (h0 : 0 ≤ y) (h1 : y ≤ 10001) : first2 y = first y := by
  by_cases h2 : y < 2
  · have : y = 0 ∨ y = 1 := by omega
    rcases this with rfl | rfl <;> decide +kernel
  · obtain ⟨n, rfl⟩ := Int.eq_ofNat_of_zero_le h0
    have h := (okN_spec n (by omega) (by omega)).2
    have e : ((n : Int) + 1) = ((n + 1 : Nat) : Int) := by omega
    have e' : ((n : Int) - 1) = ((n - 1 : Nat) : Int) := by omega
    unfold first2
    rw [e, e', first_nat n (by omega), near_nat n (by omega), near_nat (n + 1) (by omega), near_nat (n - 1) (by omega)]
    split at h
    · rw [h, if_pos (by omega)]; omega
    · rw [if_neg (by omega)]
      split at h
      · rw [h, if_pos (by omega)]; omega
      · rw [h, if_neg (by omega)]
end Cal
end Go.Proofs.YtncckpfenjokmaaDoor
