/- Layer 2: the walks of its laws. -/
import Derived.Test.YtemkngkaaabghaaHalak
namespace Go.Proofs.Ytemkngkaaabghaa
open Go.ChangeShapes Go.WideShapes Go.ChangeAt Go.RowKit
set_option linter.unusedVariables false
theorem bt {a b c : World} (h : Below a.heap.size a b) (k : Below b.heap.size b c) : Below a.heap.size a c := h.trans (k.mono h.size)
theorem ba (w : World) (o : Obj) : Below w.heap.size w (w.alloc o) := (Below.refl _ _).alloc (Nat.le_refl _) _
theorem baa {a b : World} (h : Below a.heap.size a b) (o : Obj) : Below a.heap.size a (b.alloc o) := h.alloc h.size _
theorem bs {a b : World} (h : Below a.heap.size a b) {p : Addr} (hp : a.heap.size ≤ p.block) (u : Value) : Below a.heap.size a (b.setCell p u) := h.setCell hp u
theorem join_split (n : Int) (hn : I64 n) : Cal.joinV (n / 25920) (n % 25920) = n ∧ Cal.joinE (n / 25920) (n % 25920) = 0 := by
  obtain ⟨h1, h2⟩ := hn
  have hz : Cal.fits (0 * 1080) = true := by decide
  by_cases c : n / 25920 < 0
  · rw [(Cal.join_neg _ _ (by omega) (by omega) c).1, (Cal.join_neg _ _ (by omega) (by omega) c).2]
    have f1 : Cal.fits ((n / 25920 + 1) * 25920) = true := fits_yes (by omega) (by omega)
    rw [(Cal.parts_zero_ok _ _ f1).1, (Cal.parts_zero_ok _ _ f1).2]
    have e : (n / 25920 + 1) * 25920 + (n % 25920 - 25920) = n := by omega
    have f2 : Cal.fits ((n / 25920 + 1) * 25920 + (n % 25920 - 25920)) = true := fits_yes (by omega) (by omega)
    rw [(addV_ok _ _ f2).1, (addV_ok _ _ f2).2]
    exact ⟨e, rfl⟩
  · rw [(Cal.join_pos _ _ (by omega) (by omega) (by omega)).1, (Cal.join_pos _ _ (by omega) (by omega) (by omega)).2]
    have f1 : Cal.fits ((n / 25920) * 25920) = true := fits_yes (by omega) (by omega)
    rw [(Cal.parts_zero_ok _ _ f1).1, (Cal.parts_zero_ok _ _ f1).2]
    have f2 : Cal.fits ((n / 25920) * 25920 + n % 25920) = true := fits_yes (by omega) (by omega)
    rw [(addV_ok _ _ f2).1, (addV_ok _ _ f2).2]
    exact ⟨by omega, rfl⟩
theorem join_cases (d p : Int) (h1 : 0 ≤ p) (h2 : p < 25920) :
    (Cal.joinE d p = 0 ∧ Cal.joinV d p = d * 25920 + p ∧ I64 (d * 25920 + p)) ∨ (Cal.joinE d p = 6 ∧ Cal.joinV d p = 0) := by
  by_cases c : d < 0
  · rw [(Cal.join_neg _ _ h1 h2 c).1, (Cal.join_neg _ _ h1 h2 c).2]
    by_cases f1 : Cal.fits ((d + 1) * 25920) = true
    · rw [(Cal.parts_zero_ok _ _ f1).1, (Cal.parts_zero_ok _ _ f1).2]
      by_cases f2 : Cal.fits ((d + 1) * 25920 + (p - 25920)) = true
      · rw [(addV_ok _ _ f2).1, (addV_ok _ _ f2).2]
        have := fits_I64 f2
        have e : (d + 1) * 25920 + (p - 25920) = d * 25920 + p := by omega
        rw [e] at this ⊢
        exact .inl ⟨rfl, rfl, this⟩
      · have f2 : Cal.fits ((d + 1) * 25920 + (p - 25920)) = false := by simpa using f2
        rw [(addV_no _ _ f2).1, (addV_no _ _ f2).2]
        exact .inr ⟨rfl, rfl⟩
    · have f1 : Cal.fits ((d + 1) * 25920) = false := by simpa using f1
      rw [(Cal.parts_no (d + 1) 0 (p - 25920) (by rw [f1]; simp)).1, (Cal.parts_no (d + 1) 0 (p - 25920) (by rw [f1]; simp)).2]
      exact .inr ⟨rfl, rfl⟩
  · rw [(Cal.join_pos _ _ h1 h2 (by omega)).1, (Cal.join_pos _ _ h1 h2 (by omega)).2]
    by_cases f1 : Cal.fits (d * 25920) = true
    · rw [(Cal.parts_zero_ok _ _ f1).1, (Cal.parts_zero_ok _ _ f1).2]
      by_cases f2 : Cal.fits (d * 25920 + p) = true
      · rw [(addV_ok _ _ f2).1, (addV_ok _ _ f2).2]
        exact .inl ⟨rfl, rfl, fits_I64 f2⟩
      · have f2 : Cal.fits (d * 25920 + p) = false := by simpa using f2
        rw [(addV_no _ _ f2).1, (addV_no _ _ f2).2]
        exact .inr ⟨rfl, rfl⟩
    · have f1 : Cal.fits (d * 25920) = false := by simpa using f1
      rw [(Cal.parts_no d 0 p (by rw [f1]; simp)).1, (Cal.parts_no d 0 p (by rw [f1]; simp)).2]
      exact .inr ⟨rfl, rfl⟩
theorem parts_small (d h p : Int) (hd : -2147483649 ≤ d ∧ d ≤ 2147483649) (hh : -2147483649 ≤ h ∧ h ≤ 2147483649) (hp : -2147483649 ≤ p ∧ p ≤ 2147483649) :
    Cal.partsV d h p = 25920 * d + 1080 * h + p ∧ Cal.partsE d h p = 0 := by
  have f1 : Cal.fits (d * 25920) = true := fits_yes (by omega) (by omega)
  have f2 : Cal.fits (h * 1080) = true := fits_yes (by omega) (by omega)
  have f3 : Cal.fits (d * 25920 + h * 1080) = true := fits_yes (by omega) (by omega)
  have f4 : Cal.fits (d * 25920 + h * 1080 + p) = true := fits_yes (by omega) (by omega)
  rw [(Cal.parts_ok d h p f1 f2 f3).1, (Cal.parts_ok d h p f1 f2 f3).2, (addV_ok _ _ f4).1, (addV_ok _ _ f4).2]
  exact ⟨by omega, rfl⟩
theorem halak_Parts_small (d h p : Int) (w : World) (hd : -2147483649 ≤ d ∧ d ≤ 2147483649) (hh : -2147483649 ≤ h ∧ h ≤ 2147483649) (hp : -2147483649 ≤ p ∧ p ≤ 2147483649) :
    Calls Try.prog 31 #[.int .i64 d, .int .i64 h, .int .i64 p] w fun e w' => e = .returned (.tuple #[.int .i64 (25920 * d + 1080 * h + p), .int .i64 0]) ∧ w = w' := by
  have := halak_Parts d h p w ⟨by omega, by omega⟩ ⟨by omega, by omega⟩ ⟨by omega, by omega⟩
  rwa [(parts_small d h p hd hh hp).1, (parts_small d h p hd hh hp).2] at this
theorem halak_Join_split (n : Int) (w : World) (hn : I64 n) :
    Calls Try.prog 33 #[.agg #[.int .i64 (n / 25920), .int .i64 (n % 25920)]] w fun e w' => e = .returned (.tuple #[.int .i64 n, .int .i64 0]) ∧ Below w.heap.size w w' := by
  have h := hn
  obtain ⟨h1, h2⟩ := h
  have := halak_Join (n / 25920) (n % 25920) w ⟨by omega, by omega⟩ ⟨by omega, by omega⟩
  rwa [(join_split n hn).1, (join_split n hn).2] at this
theorem halak_Hours_yes (p : Int) (w : World) (h1 : 0 ≤ p) (h2 : p < 25920) :
    Calls Try.prog 37 #[.int .i64 p] w fun e w' => e = .returned (.tuple #[.int .i64 (p / 1080), .int .i64 (p % 1080)]) ∧ w = w' := by
  have := halak_Hours p w
  rwa [(Cal.hours_yes p h1 h2).1, (Cal.hours_yes p h1 h2).2] at this

theorem awake2 (w : World) : Calls Try.prog 39 #[] w fun e w' => e = .returned (.bool true) ∧ Below w.heap.size w w' := by
  have e1 : Cal.partsV 29 12 793 = 765433 := by decide
  have e2 : Cal.partsE 29 12 793 = 0 := by decide
  have e3 : Cal.mulV 1 765433 = 765433 := by decide
  have e4 : Cal.mulE 1 765433 = 0 := by decide
  go_enter Try.func39, Try.ntmps39
  go_wp2_with fail
  refine (halak_Parts 29 12 793 _ ⟨by omega, by omega⟩ ⟨by omega, by omega⟩ ⟨by omega, by omega⟩).mono ?_
  rintro e w' ⟨rfl, rfl⟩
  go_wp2_with fail
  refine (halak_Moons 1 _ ⟨by omega, by omega⟩).mono ?_
  rintro e w' ⟨rfl, rfl⟩
  go_wp2_with fail
  refine (halak_Split (-1) _ ⟨by omega, by omega⟩).mono ?_
  rintro e w1 ⟨rfl, hb1⟩
  obtain ⟨hc1, hf1⟩ := bcell hb1
  have hz1 := hb1.size
  try simp at hz1
  go_wp2_with fail
  go_ret
  exact ⟨rfl, hb1⟩
theorem HalakTells_walk (a b c : Int) (ha : I64 a) (hb : I64 b) (hc : I64 c) (w : World) :
    Calls Try.prog 7 #[.int .i64 a, .int .i64 b, .int .i64 c] w fun e w' => e = .returned (.bool true) ∧ Below w.heap.size w w' := by
  go_enter Try.func7, Try.ntmps7
  go_wp2_with fail
  refine (halak_Parts a b c _ ha hb hc).mono ?_
  rintro e w' ⟨rfl, rfl⟩
  go_wp2_with fail
  refine (ref_Parts a b c _ ha hb hc).mono ?_
  rintro e w' ⟨rfl, rfl⟩
  go_wp2_with fail
  refine (halak_Join a c _ ha hc).mono ?_
  rintro e w1 ⟨rfl, hb1⟩
  obtain ⟨hc1, hf1⟩ := bcell hb1
  have hz1 := hb1.size
  try simp at hz1
  go_wp2_with fail
  refine (ref_Join a c _ ha hc).mono ?_
  rintro e w2 ⟨rfl, hb2⟩
  obtain ⟨hc2, hf2⟩ := bcell hb2
  have hz2 := hb2.size
  try simp at hz2
  go_wp2_with fail
  refine (halak_Moons b _ hb).mono ?_
  rintro e w' ⟨rfl, rfl⟩
  go_wp2_with fail
  refine (ref_Moons b _ hb).mono ?_
  rintro e w' ⟨rfl, rfl⟩
  go_wp2_with fail
  refine (halak_Hours c _).mono ?_
  rintro e w' ⟨rfl, rfl⟩
  go_wp2_with fail
  refine (ref_Hours c _).mono ?_
  rintro e w' ⟨rfl, rfl⟩
  go_wp2_with fail
  refine (awake2 _).mono ?_
  rintro e w3 ⟨rfl, hb3⟩
  obtain ⟨hc3, hf3⟩ := bcell hb3
  have hz3 := hb3.size
  try simp at hz3
  go_wp2_with fail
  refine (halak_Split a _ ha).mono ?_
  rintro e w4 ⟨rfl, hb4⟩
  obtain ⟨hc4, hf4⟩ := bcell hb4
  have hz4 := hb4.size
  try simp at hz4
  go_wp2_with fail
  refine (ref_Split a _ ha).mono ?_
  rintro e w5 ⟨rfl, hb5⟩
  obtain ⟨hc5, hf5⟩ := bcell hb5
  have hz5 := hb5.size
  try simp at hz5
  go_wp2_with fail
  go_ret
  exact ⟨rfl, bt (bt (bt (bt hb1 hb2) hb3) hb4) hb5⟩
set_option maxHeartbeats 400000 in
theorem HalakSums_walk (d h p : Int) (hd : -2147483648 ≤ d ∧ d ≤ 2147483647) (hh : -2147483648 ≤ h ∧ h ≤ 2147483647) (hp : -2147483648 ≤ p ∧ p ≤ 2147483647) (w : World) :
    Calls Try.prog 9 #[.int .i32 d, .int .i32 h, .int .i32 p] w fun e w' => e = .returned (.bool true) ∧ Below w.heap.size w w' := by
  obtain ⟨d1, d2⟩ := hd
  obtain ⟨h1, h2⟩ := hh
  obtain ⟨p1, p2⟩ := hp
  have e1 : (25920 * (d + 1) + 1080 * h + p) / 25920 = (25920 * d + 1080 * h + p) / 25920 + 1 := by omega
  have e2 : (25920 * (d + 1) + 1080 * h + p) % 25920 = (25920 * d + 1080 * h + p) % 25920 := by omega
  go_enter Try.func9, Try.ntmps9
  go_wp2_with fail
  refine (halak_Parts_small d h p _ ⟨by omega, by omega⟩ ⟨by omega, by omega⟩ ⟨by omega, by omega⟩).mono ?_
  rintro e w' ⟨rfl, rfl⟩
  go_wp2_with fail
  refine (halak_Parts_small (d + 1) h p _ ⟨by omega, by omega⟩ ⟨by omega, by omega⟩ ⟨by omega, by omega⟩).mono ?_
  rintro e w' ⟨rfl, rfl⟩
  go_wp2_with fail
  refine (halak_Split (25920 * d + 1080 * h + p) _ ⟨by omega, by omega⟩).mono ?_
  rintro e w1 ⟨rfl, hb1⟩
  obtain ⟨hc1, hf1⟩ := bcell hb1
  have hz1 := hb1.size
  try simp at hz1
  go_wp2_with fail
  refine (halak_Split (25920 * (d + 1) + 1080 * h + p) _ ⟨by omega, by omega⟩).mono ?_
  rintro e w2 ⟨rfl, hb2⟩
  obtain ⟨hc2, hf2⟩ := bcell hb2
  have hz2 := hb2.size
  try simp at hz2
  go_wp2_with fail
  refine (awake2 _).mono ?_
  rintro e w3 ⟨rfl, hb3⟩
  obtain ⟨hc3, hf3⟩ := bcell hb3
  have hz3 := hb3.size
  try simp at hz3
  go_wp2_with fail
  go_ret
  exact ⟨rfl, bt (baa (baa (bt hb1 hb2) _) _) hb3⟩
end Go.Proofs.Ytemkngkaaabghaa
