/- Layer 4: contracts of new moons. -/
import Derived.Test.YtncckpfenjokmaaDoorW2
import Derived.Test.YtncckpfenjokmaaDoorCycle
namespace Go.Proofs.YtncckpfenjokmaaDoor
open Go.ChangeShapes Go.WideShapes Go.ChangeAt Go.RowKit
set_option linter.unusedVariables false

theorem molad_Weekday (d : Int) (w : World) (hd : I64 d) :
    Calls Tryd.prog 176 #[.int .i64 d] w fun e w' => e = .returned (.int .i64 (d % 7)) ∧ w = w' := by
  go_enter Tryd.func176, Tryd.ntmps176
  go_wp2_with fail
  refine (exact_Mod_pos d 7 _ hd ⟨by omega, by omega⟩ (by omega)).mono ?_
  rintro e w' ⟨rfl, rfl⟩
  go_wp2_with fail
  go_ret
  exact ⟨rfl, rfl⟩
theorem ref4_Weekday (d : Int) (w : World) :
    Calls Tryd.prog 131 #[.int .i64 d] w fun e w' => e = .returned (.int .i64 (d % 7)) ∧ w = w' := by
  go_enter Tryd.func131, Tryd.ntmps131
  go_wp2_with fail
  refine (ref_Left_pos d 7 _ ⟨by omega, by omega⟩ (by omega)).mono ?_
  rintro e w' ⟨rfl, rfl⟩
  go_wp2_with fail
  go_ret
  exact ⟨rfl, rfl⟩
theorem moon_yes (n : Int) (h1 : -200000 ≤ n) (h2 : n ≤ 200000) : Cal.moonD n = Cal.moonDay n ∧ Cal.moonP n = Cal.moonPart n ∧ Cal.moonE n = 0 := by
  have h : Cal.moonIn n = true := by simp [Cal.moonIn, h1, h2]
  rw [Cal.moonD, Cal.moonP, Cal.moonE, h]; exact ⟨rfl, rfl, rfl⟩
theorem moon_no (n : Int) (h : n < -200000 ∨ 200000 < n) : Cal.moonD n = 0 ∧ Cal.moonP n = 0 ∧ Cal.moonE n = 2 := by
  have h : Cal.moonIn n = false := by
    rw [Bool.eq_false_iff]; intro h'; simp only [Cal.moonIn, Bool.and_eq_true, decide_eq_true_eq] at h'; omega
  rw [Cal.moonD, Cal.moonP, Cal.moonE, h]; exact ⟨rfl, rfl, rfl⟩
theorem halak_Moons_ok (n : Int) (w : World) (h1 : -200000 ≤ n) (h2 : n ≤ 200000) :
    Calls Tryd.prog 202 #[.int .i64 n] w fun e w' => e = .returned (.tuple #[.int .i64 (n * 765433), .int .i64 0]) ∧ w = w' := by
  have := halak_Moons n w ⟨by omega, by omega⟩
  have hf : Cal.fits (n * 765433) = true := fits_yes (by omega) (by omega)
  rwa [← (mul_yes _ _ hf).1, ← (mul_yes _ _ hf).2] at this
theorem halak_Parts_moon (n : Int) (w : World) (h1 : -200000 ≤ n) (h2 : n ≤ 200000) :
    Calls Tryd.prog 203 #[.int .i64 (-1373427), .int .i64 5, .int .i64 (204 + n * 765433)] w fun e w' => e = .returned (.tuple #[.int .i64 (5604 + 765433 * n - 35599227840), .int .i64 0]) ∧ w = w' := by
  have := halak_Parts (-1373427) 5 (204 + n * 765433) w ⟨by omega, by omega⟩ ⟨by omega, by omega⟩ ⟨by omega, by omega⟩
  have f4 : Cal.fits (-1373427 * 25920 + 5 * 1080 + (204 + n * 765433)) = true := fits_yes (by omega) (by omega)
  rw [(Cal.parts_ok (-1373427) 5 (204 + n * 765433) (by decide) (by decide) (by decide)).1, (Cal.parts_ok (-1373427) 5 (204 + n * 765433) (by decide) (by decide) (by decide)).2, (addV_ok _ _ f4).1, (addV_ok _ _ f4).2] at this
  rwa [show -1373427 * 25920 + 5 * 1080 + (204 + n * 765433) = 5604 + 765433 * n - 35599227840 by omega] at this
theorem halak_Split_moon (n : Int) (w : World) (h1 : -200000 ≤ n) (h2 : n ≤ 200000) :
    Calls Tryd.prog 204 #[.int .i64 (5604 + 765433 * n - 35599227840)] w fun e w' => e = .returned (.agg #[.int .i64 (Cal.moonDay n), .int .i64 (Cal.moonPart n)]) ∧ Below w.heap.size w w' := by
  have := halak_Split (5604 + 765433 * n - 35599227840) w ⟨by omega, by omega⟩
  rwa [show (5604 + 765433 * n - 35599227840) / 25920 = Cal.moonDay n by unfold Cal.moonDay; omega, show (5604 + 765433 * n - 35599227840) % 25920 = Cal.moonPart n by unfold Cal.moonPart; omega] at this
theorem molad_Moon (n : Int) (w : World) :
    Calls Tryd.prog 196 #[.int .i64 n] w fun e w' => e = .returned (.tuple #[.agg #[.int .i64 (Cal.moonD n), .int .i64 (Cal.moonP n)], .int .i64 (Cal.moonE n)]) ∧ Below w.heap.size w w' := by
  rcases (show n < -200000 ∨ (-200000 ≤ n ∧ n ≤ 200000) ∨ (-200000 ≤ n ∧ 200000 < n) by omega) with c | ⟨c1, c2⟩ | ⟨c1, c⟩
  · have HS := moon_no n (by omega)
    rw [HS.1, HS.2.1, HS.2.2]
    clear HS
    go_enter Tryd.func196, Tryd.ntmps196
    go_wp2_with fail
    refine bodyPost_ret (v := .tuple #[.agg #[.int .i64 0, .int .i64 0], .int .i64 2]) (by simp [results, Tryd.results196, go_sem]) rfl ⟨rfl, ba _ _⟩
  · have HS := moon_yes n c1 c2
    rw [HS.1, HS.2.1, HS.2.2]
    clear HS
    go_enter Tryd.func196, Tryd.ntmps196
    go_wp2_with fail
    refine (halak_Moons_ok n _ c1 c2).mono ?_
    rintro e w' ⟨rfl, rfl⟩
    go_wp2_with fail
    refine (halak_Parts_moon n _ c1 c2).mono ?_
    rintro e w' ⟨rfl, rfl⟩
    go_wp2_with fail
    refine (halak_Split_moon n _ c1 c2).mono ?_
    rintro e w1 ⟨rfl, hb1⟩
    obtain ⟨hc1, hf1⟩ := bcell hb1
    have hz1 := hb1.size
    try simp at hz1
    have hl1w : w.heap.size < w1.heap.size := by omega
    have hm1w : w.heap.size ≤ w1.heap.size := by omega
    have g1x0 : w1.cell? ⟨w.heap.size, 0, none⟩ = some (.int .i64 0) := (hc1 _ _ (by simp; try omega)).trans (by first | assumption | simp [go_sem] | simp [go_sem, *])
    have g1x1 : w1.cell? ⟨w.heap.size, 1, none⟩ = some (.int .i64 0) := (hc1 _ _ (by simp; try omega)).trans (by first | assumption | simp [go_sem] | simp [go_sem, *])
    go_wp2_with fail
    refine bodyPost_ret (v := .tuple #[.agg #[.int .i64 (Cal.moonDay n), .int .i64 (Cal.moonPart n)], .int .i64 0]) (by simp [results, Tryd.results196, go_sem, g1x0, g1x1]) rfl ⟨rfl, ?_⟩
    exact bs (bs (bt (ba _ _) hb1) (Nat.le_refl _) _) (Nat.le_refl _) _
  · have HS := moon_no n (by omega)
    rw [HS.1, HS.2.1, HS.2.2]
    clear HS
    go_enter Tryd.func196, Tryd.ntmps196
    go_wp2_with fail
    refine bodyPost_ret (v := .tuple #[.agg #[.int .i64 0, .int .i64 0], .int .i64 2]) (by simp [results, Tryd.results196, go_sem]) rfl ⟨rfl, ba _ _⟩
theorem ref2_Split_moon (n : Int) (w : World) (h1 : -200000 ≤ n) (h2 : n ≤ 200000) :
    Calls Tryd.prog 158 #[.int .i64 (5604 + 765433 * n)] w fun e w' => e = .returned (.agg #[.int .i64 (Cal.moonDay n + 1373427), .int .i64 (Cal.moonPart n)]) ∧ Below w.heap.size w w' := by
  have := ref_Split (5604 + 765433 * n) w ⟨by omega, by omega⟩
  rwa [show (5604 + 765433 * n) / 25920 = Cal.moonDay n + 1373427 by unfold Cal.moonDay; omega, show (5604 + 765433 * n) % 25920 = Cal.moonPart n by unfold Cal.moonPart; rfl] at this
theorem moonDay_bd (n : Int) (h1 : -200000 ≤ n) (h2 : n ≤ 200000) : -7300000 ≤ Cal.moonDay n ∧ Cal.moonDay n ≤ 4600000 := by unfold Cal.moonDay; omega
theorem moonPart_bd (n : Int) : 0 ≤ Cal.moonPart n ∧ Cal.moonPart n < 25920 := by unfold Cal.moonPart; omega
theorem ref4_Moon (n : Int) (w : World) :
    Calls Tryd.prog 142 #[.int .i64 n] w fun e w' => e = .returned (.tuple #[.agg #[.int .i64 (Cal.moonD n), .int .i64 (Cal.moonP n)], .int .i64 (Cal.moonE n)]) ∧ Below w.heap.size w w' := by
  rcases (show n < -200000 ∨ (-200000 ≤ n ∧ n ≤ 200000) ∨ (-200000 ≤ n ∧ 200000 < n) by omega) with c | ⟨c1, c2⟩ | ⟨c1, c⟩
  · have HS := moon_no n (by omega)
    rw [HS.1, HS.2.1, HS.2.2]
    clear HS
    go_enter Tryd.func142, Tryd.ntmps142
    go_wp2_with fail
    refine bodyPost_ret (v := .tuple #[.agg #[.int .i64 0, .int .i64 0], .int .i64 2]) (by simp [results, Tryd.results142, go_sem]) rfl ⟨rfl, ba _ _⟩
  · have HS := moon_yes n c1 c2
    rw [HS.1, HS.2.1, HS.2.2]
    clear HS
    obtain ⟨d1, d2⟩ := moonDay_bd n c1 c2
    have e1 : Cal.moonDay n + 1373427 - 1373427 = Cal.moonDay n := by omega
    go_enter Tryd.func142, Tryd.ntmps142
    go_wp2_with fail
    refine (ref2_Split_moon n _ c1 c2).mono ?_
    rintro e w1 ⟨rfl, hb1⟩
    obtain ⟨hc1, hf1⟩ := bcell hb1
    have hz1 := hb1.size
    try simp at hz1
    have hl1w : w.heap.size < w1.heap.size := by omega
    have hm1w : w.heap.size ≤ w1.heap.size := by omega
    have g1x0 : w1.cell? ⟨w.heap.size, 0, none⟩ = some (.int .i64 0) := (hc1 _ _ (by simp; try omega)).trans (by first | assumption | simp [go_sem] | simp [go_sem, *])
    have g1x1 : w1.cell? ⟨w.heap.size, 1, none⟩ = some (.int .i64 0) := (hc1 _ _ (by simp; try omega)).trans (by first | assumption | simp [go_sem] | simp [go_sem, *])
    go_wp2_with fail
    refine bodyPost_ret (v := .tuple #[.agg #[.int .i64 (Cal.moonDay n), .int .i64 (Cal.moonPart n)], .int .i64 0]) (by simp [results, Tryd.results142, go_sem, g1x0, g1x1, hl1w]) rfl ⟨rfl, ?_⟩
    exact baa (bs (bs (bt (ba _ _) hb1) (Nat.le_refl _) _) (Nat.le_refl _) _) _
  · have HS := moon_no n (by omega)
    rw [HS.1, HS.2.1, HS.2.2]
    clear HS
    go_enter Tryd.func142, Tryd.ntmps142
    go_wp2_with fail
    refine bodyPost_ret (v := .tuple #[.agg #[.int .i64 0, .int .i64 0], .int .i64 2]) (by simp [results, Tryd.results142, go_sem]) rfl ⟨rfl, ba _ _⟩

theorem months_bd (y : Int) : 12 ≤ Cal.months y ∧ Cal.months y ≤ 13 := by unfold Cal.months; split <;> omega
theorem before_bd (y : Int) (h0 : 0 ≤ y) (h1 : y ≤ 10001) : -13 ≤ Cal.before y ∧ Cal.before y ≤ 123700 := by unfold Cal.before; omega
theorem of_no (y m : Int) (h : y < 0 ∨ 10001 < y) : Cal.ofD y m = 0 ∧ Cal.ofP y m = 0 ∧ Cal.ofE y m = 2 := by
  rw [Cal.ofD, Cal.ofP, Cal.ofE, reck_no y h]; exact ⟨rfl, rfl, rfl⟩
theorem of_yes (y m : Int) (h0 : 0 ≤ y) (h1 : y ≤ 10001) (m1 : 1 ≤ m) (m2 : m ≤ Cal.months y) : Cal.ofD y m = Cal.moonDay (Cal.before y + m - 1) ∧ Cal.ofP y m = Cal.moonPart (Cal.before y + m - 1) ∧ Cal.ofE y m = 0 := by
  have h : Cal.ofIn y m = true := by simp [Cal.ofIn, m1, m2]
  rw [Cal.ofD, Cal.ofP, Cal.ofE, reck_yes y h0 h1, h]; exact ⟨rfl, rfl, rfl⟩
theorem of_month (y m : Int) (h0 : 0 ≤ y) (h1 : y ≤ 10001) (h : m < 1 ∨ Cal.months y < m) : Cal.ofD y m = 0 ∧ Cal.ofP y m = 0 ∧ Cal.ofE y m = 3 := by
  have h : Cal.ofIn y m = false := by
    rw [Bool.eq_false_iff]; intro h'; simp only [Cal.ofIn, Bool.and_eq_true, decide_eq_true_eq] at h'; omega
  rw [Cal.ofD, Cal.ofP, Cal.ofE, reck_yes y h0 h1, h]; exact ⟨rfl, rfl, rfl⟩
theorem molad_Moon_ok (n : Int) (w : World) (h1 : -200000 ≤ n) (h2 : n ≤ 200000) :
    Calls Tryd.prog 196 #[.int .i64 n] w fun e w' => e = .returned (.tuple #[.agg #[.int .i64 (Cal.moonDay n), .int .i64 (Cal.moonPart n)], .int .i64 0]) ∧ Below w.heap.size w w' := by
  have := molad_Moon n w
  rwa [(moon_yes n h1 h2).1, (moon_yes n h1 h2).2.1, (moon_yes n h1 h2).2.2] at this
theorem ref4_Moon_ok (n : Int) (w : World) (h1 : -200000 ≤ n) (h2 : n ≤ 200000) :
    Calls Tryd.prog 142 #[.int .i64 n] w fun e w' => e = .returned (.tuple #[.agg #[.int .i64 (Cal.moonDay n), .int .i64 (Cal.moonPart n)], .int .i64 0]) ∧ Below w.heap.size w w' := by
  have := ref4_Moon n w
  rwa [(moon_yes n h1 h2).1, (moon_yes n h1 h2).2.1, (moon_yes n h1 h2).2.2] at this

theorem molad_Of (y m : Int) (w : World) (hm : I64 m) :
    Calls Tryd.prog 177 #[.int .i64 y, .int .i64 m] w fun e w' => e = .returned (.tuple #[.agg #[.int .i64 (Cal.ofD y m), .int .i64 (Cal.ofP y m)], .int .i64 (Cal.ofE y m)]) ∧ Below w.heap.size w w' := by
  by_cases c : 0 ≤ y ∧ y ≤ 10001
  · obtain ⟨c1, c2⟩ := c
    obtain ⟨b1, b2⟩ := months_bd y
    obtain ⟨b3, b4⟩ := before_bd y c1 c2
    rcases (show m < 1 ∨ (1 ≤ m ∧ m ≤ Cal.months y) ∨ (1 ≤ m ∧ Cal.months y < m) by omega) with c | ⟨m1, m2⟩ | ⟨m1, c⟩
    · have HS := of_month y m c1 c2 (.inl c)
      rw [HS.1, HS.2.1, HS.2.2]
      clear HS
      go_enter Tryd.func177, Tryd.ntmps177
      go_wp2_with fail
      refine (cycle_In_ok y _ c1 c2).mono ?_
      rintro e w' ⟨rfl, rfl⟩
      go_wp2_with fail
      refine bodyPost_ret (v := .tuple #[.agg #[.int .i64 0, .int .i64 0], .int .i64 3]) (by simp [results, Tryd.results177, go_sem]) rfl ⟨rfl, ba _ _⟩
    · have HS := of_yes y m c1 c2 m1 m2
      rw [HS.1, HS.2.1, HS.2.2]
      clear HS
      obtain ⟨m3, m4⟩ := hm
      go_enter Tryd.func177, Tryd.ntmps177
      go_wp2_with fail
      refine (cycle_In_ok y _ c1 c2).mono ?_
      rintro e w' ⟨rfl, rfl⟩
      go_wp2_with fail
      refine (cycle_Before_ok y _ c1 c2).mono ?_
      rintro e w' ⟨rfl, rfl⟩
      go_wp2_with fail
      refine (molad_Moon_ok (Cal.before y + m - 1) _ (by omega) (by omega)).mono ?_
      rintro e w1 ⟨rfl, hb1⟩
      obtain ⟨hc1, hf1⟩ := bcell hb1
      have hz1 := hb1.size
      try simp at hz1
      have hl1w : w.heap.size < w1.heap.size := by omega
      have hm1w : w.heap.size ≤ w1.heap.size := by omega
      have g1x0 : w1.cell? ⟨w.heap.size, 0, none⟩ = some (.int .i64 0) := (hc1 _ _ (by simp; try omega)).trans (by first | assumption | simp [go_sem] | simp [go_sem, *])
      have g1x1 : w1.cell? ⟨w.heap.size, 1, none⟩ = some (.int .i64 0) := (hc1 _ _ (by simp; try omega)).trans (by first | assumption | simp [go_sem] | simp [go_sem, *])
      go_wp2_with fail
      refine bodyPost_ret (v := .tuple #[.agg #[.int .i64 (Cal.moonDay (Cal.before y + m - 1)), .int .i64 (Cal.moonPart (Cal.before y + m - 1))], .int .i64 0]) (by simp [results, Tryd.results177, go_sem, g1x0, g1x1]) rfl ⟨rfl, ?_⟩
      exact bs (bs (bt (ba _ _) hb1) (Nat.le_refl _) _) (Nat.le_refl _) _
    · have HS := of_month y m c1 c2 (.inr c)
      rw [HS.1, HS.2.1, HS.2.2]
      clear HS
      go_enter Tryd.func177, Tryd.ntmps177
      go_wp2_with fail
      refine (cycle_In_ok y _ c1 c2).mono ?_
      rintro e w' ⟨rfl, rfl⟩
      go_wp2_with fail
      refine bodyPost_ret (v := .tuple #[.agg #[.int .i64 0, .int .i64 0], .int .i64 3]) (by simp [results, Tryd.results177, go_sem]) rfl ⟨rfl, ba _ _⟩
  · have HS := of_no y m (by omega)
    rw [HS.1, HS.2.1, HS.2.2]
    clear HS
    go_enter Tryd.func177, Tryd.ntmps177
    go_wp2_with fail
    refine (cycle_In_no y _ (by omega)).mono ?_
    rintro e w' ⟨rfl, rfl⟩
    go_wp2_with fail
    refine bodyPost_ret (v := .tuple #[.agg #[.int .i64 0, .int .i64 0], .int .i64 2]) (by simp [results, Tryd.results177, go_sem]) rfl ⟨rfl, ba _ _⟩

theorem ref4_Of (y m : Int) (w : World) (hm : I64 m) :
    Calls Tryd.prog 109 #[.int .i64 y, .int .i64 m] w fun e w' => e = .returned (.tuple #[.agg #[.int .i64 (Cal.ofD y m), .int .i64 (Cal.ofP y m)], .int .i64 (Cal.ofE y m)]) ∧ Below w.heap.size w w' := by
  by_cases c : 0 ≤ y ∧ y ≤ 10001
  · obtain ⟨c1, c2⟩ := c
    obtain ⟨b1, b2⟩ := months_bd y
    obtain ⟨b3, b4⟩ := before_bd y c1 c2
    rcases (show m < 1 ∨ (1 ≤ m ∧ m ≤ Cal.months y) ∨ (1 ≤ m ∧ Cal.months y < m) by omega) with c | ⟨m1, m2⟩ | ⟨m1, c⟩
    · have HS := of_month y m c1 c2 (.inl c)
      rw [HS.1, HS.2.1, HS.2.2]
      clear HS
      go_enter Tryd.func109, Tryd.ntmps109
      go_wp2_with fail
      refine (ref3_In_ok y _ c1 c2).mono ?_
      rintro e w' ⟨rfl, rfl⟩
      go_wp2_with fail
      refine bodyPost_ret (v := .tuple #[.agg #[.int .i64 0, .int .i64 0], .int .i64 3]) (by simp [results, Tryd.results109, go_sem]) rfl ⟨rfl, ba _ _⟩
    · have HS := of_yes y m c1 c2 m1 m2
      rw [HS.1, HS.2.1, HS.2.2]
      clear HS
      obtain ⟨m3, m4⟩ := hm
      go_enter Tryd.func109, Tryd.ntmps109
      go_wp2_with fail
      refine (ref3_In_ok y _ c1 c2).mono ?_
      rintro e w' ⟨rfl, rfl⟩
      go_wp2_with fail
      refine (ref3_Before_ok y _ c1 c2).mono ?_
      rintro e w' ⟨rfl, rfl⟩
      go_wp2_with fail
      refine (ref4_Moon_ok (Cal.before y + m - 1) _ (by omega) (by omega)).mono ?_
      rintro e w1 ⟨rfl, hb1⟩
      obtain ⟨hc1, hf1⟩ := bcell hb1
      have hz1 := hb1.size
      try simp at hz1
      have hl1w : w.heap.size < w1.heap.size := by omega
      have hm1w : w.heap.size ≤ w1.heap.size := by omega
      have g1x0 : w1.cell? ⟨w.heap.size, 0, none⟩ = some (.int .i64 0) := (hc1 _ _ (by simp; try omega)).trans (by first | assumption | simp [go_sem] | simp [go_sem, *])
      have g1x1 : w1.cell? ⟨w.heap.size, 1, none⟩ = some (.int .i64 0) := (hc1 _ _ (by simp; try omega)).trans (by first | assumption | simp [go_sem] | simp [go_sem, *])
      go_wp2_with fail
      refine bodyPost_ret (v := .tuple #[.agg #[.int .i64 (Cal.moonDay (Cal.before y + m - 1)), .int .i64 (Cal.moonPart (Cal.before y + m - 1))], .int .i64 0]) (by simp [results, Tryd.results109, go_sem, g1x0, g1x1]) rfl ⟨rfl, ?_⟩
      exact bs (bs (bt (ba _ _) hb1) (Nat.le_refl _) _) (Nat.le_refl _) _
    · have HS := of_month y m c1 c2 (.inr c)
      rw [HS.1, HS.2.1, HS.2.2]
      clear HS
      go_enter Tryd.func109, Tryd.ntmps109
      go_wp2_with fail
      refine (ref3_In_ok y _ c1 c2).mono ?_
      rintro e w' ⟨rfl, rfl⟩
      go_wp2_with fail
      refine bodyPost_ret (v := .tuple #[.agg #[.int .i64 0, .int .i64 0], .int .i64 3]) (by simp [results, Tryd.results109, go_sem]) rfl ⟨rfl, ba _ _⟩
  · have HS := of_no y m (by omega)
    rw [HS.1, HS.2.1, HS.2.2]
    clear HS
    go_enter Tryd.func109, Tryd.ntmps109
    go_wp2_with fail
    refine (ref3_In_no y _ (by omega)).mono ?_
    rintro e w' ⟨rfl, rfl⟩
    go_wp2_with fail
    refine bodyPost_ret (v := .tuple #[.agg #[.int .i64 0, .int .i64 0], .int .i64 2]) (by simp [results, Tryd.results109, go_sem]) rfl ⟨rfl, ba _ _⟩
end Go.Proofs.YtncckpfenjokmaaDoor
