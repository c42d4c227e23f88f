/- Layer 2: contracts of the parts. -/
import Derived.Test.YtemkngkaaabghaaW1
import Derived.Test.YtemkngkaaabghaaMath2
import Derived.Below
namespace Go.Proofs.Ytemkngkaaabghaa
open Go.ChangeShapes Go.WideShapes Go.ChangeAt Go.RowKit
set_option linter.unusedVariables false

theorem bcell {W w1 : World} (hb : Below W.heap.size W w1) : (∀ b o, b < W.heap.size → w1.cell? ⟨b, o, none⟩ = W.cell? ⟨b, o, none⟩) ∧ (∀ b o, b < W.heap.size → w1.frozen? ⟨b, o, none⟩ = W.frozen? ⟨b, o, none⟩) :=
  ⟨fun b o h => hb.cell (p := ⟨b, o, none⟩) h, fun b o h => hb.frozen (p := ⟨b, o, none⟩) h⟩

theorem halak_Split (n : Int) (w : World) (hn : I64 n) :
    Calls Try.prog 40 #[.int .i64 n] w fun e w' => e = .returned (.agg #[.int .i64 (n / 25920), .int .i64 (n % 25920)]) ∧ Below w.heap.size w w' := by
  go_enter Try.func40, Try.ntmps40
  go_wp2_with fail
  refine (exact_Div_pos n 25920 _ hn ⟨by omega, by omega⟩ (by omega)).mono ?_
  rintro e w' ⟨rfl, rfl⟩
  go_wp2_with fail
  refine (exact_Mod_pos n 25920 _ hn ⟨by omega, by omega⟩ (by omega)).mono ?_
  rintro e w' ⟨rfl, rfl⟩
  go_wp2_with fail
  refine bodyPost_ret (v := .agg #[.int .i64 (n / 25920), .int .i64 (n % 25920)]) (by simp [results, Try.results40, go_sem]) rfl ⟨rfl, ?_⟩
  exact ((Below.refl _ _).alloc (Nat.le_refl _) _)
theorem ref_Split (n : Int) (w : World) (hn : I64 n) :
    Calls Try.prog 41 #[.int .i64 n] w fun e w' => e = .returned (.agg #[.int .i64 (n / 25920), .int .i64 (n % 25920)]) ∧ Below w.heap.size w w' := by
  go_enter Try.func41, Try.ntmps41
  go_wp2_with fail
  refine (ref_Down_pos n 25920 _ hn (by omega)).mono ?_
  rintro e w' ⟨rfl, rfl⟩
  go_wp2_with fail
  refine (ref_Left_pos n 25920 _ ⟨by omega, by omega⟩ (by omega)).mono ?_
  rintro e w' ⟨rfl, rfl⟩
  go_wp2_with fail
  refine bodyPost_ret (v := .agg #[.int .i64 (n / 25920), .int .i64 (n % 25920)]) (by simp [results, Try.results41, go_sem]) rfl ⟨rfl, ?_⟩
  exact ((Below.refl _ _).alloc (Nat.le_refl _) _)
theorem fits_I64 {n : Int} (h : Cal.fits n = true) : I64 n := by
  simp only [Cal.fits, Bool.and_eq_true, decide_eq_true_eq] at h
  exact h

theorem halak_Parts (d h p : Int) (w : World) (hd : I64 d) (hh : I64 h) (hp : I64 p) :
    Calls Try.prog 31 #[.int .i64 d, .int .i64 h, .int .i64 p] w fun e w' => e = .returned (.tuple #[.int .i64 (Cal.partsV d h p), .int .i64 (Cal.partsE d h p)]) ∧ w = w' := by
  by_cases c1 : Cal.fits (d * 25920) = true
  · by_cases c2 : Cal.fits (h * 1080) = true
    · by_cases c3 : Cal.fits (d * 25920 + h * 1080) = true
      · have i1 := fits_I64 c1
        have i2 := fits_I64 c2
        have i3 := fits_I64 c3
        have HS := Lib.hid (Cal.parts_ok d h p c1 c2 c3)
        have HA := Lib.hid (fun w => exact_Add (d * 25920 + h * 1080) p w i3 hp)
        have e1 : wrap64 (d * 25920) = d * 25920 := IntWalk.wrap64_in _ i1
        clear e1
        go_enter Try.func31, Try.ntmps31
        go_wp2_with fail
        refine (exact_Mul_ok d 25920 _ hd ⟨by omega, by omega⟩ c1).mono ?_
        rintro e w' ⟨rfl, rfl⟩
        go_wp2_with fail
        refine (exact_Mul_ok h 1080 _ hh ⟨by omega, by omega⟩ c2).mono ?_
        rintro e w' ⟨rfl, rfl⟩
        go_wp2_with fail
        refine (exact_Add_ok (d * 25920) (h * 1080) _ i1 i2 c3).mono ?_
        rintro e w' ⟨rfl, rfl⟩
        go_wp2_with fail
        refine (HA.out _).mono ?_
        rintro e w' ⟨rfl, rfl⟩
        go_wp2_with fail
        go_ret2
        exact ⟨ret_ii HS.out.1.symm HS.out.2.symm, rfl⟩
      · have c3 : Cal.fits (d * 25920 + h * 1080) = false := by simpa using c3
        have i1 := fits_I64 c1
        have i2 := fits_I64 c2
        have HS := Lib.hid (Cal.parts_no d h p (by rw [c3]; simp))
        go_enter Try.func31, Try.ntmps31
        go_wp2_with fail
        refine (exact_Mul_ok d 25920 _ hd ⟨by omega, by omega⟩ c1).mono ?_
        rintro e w' ⟨rfl, rfl⟩
        go_wp2_with fail
        refine (exact_Mul_ok h 1080 _ hh ⟨by omega, by omega⟩ c2).mono ?_
        rintro e w' ⟨rfl, rfl⟩
        go_wp2_with fail
        refine (exact_Add_no (d * 25920) (h * 1080) _ i1 i2 c3).mono ?_
        rintro e w' ⟨rfl, rfl⟩
        go_wp2_with fail
        go_ret2
        exact ⟨ret_ii HS.out.1.symm HS.out.2.symm, rfl⟩
    · have c2 : Cal.fits (h * 1080) = false := by simpa using c2
      have HS := Lib.hid (Cal.parts_no d h p (by rw [c2]; simp))
      go_enter Try.func31, Try.ntmps31
      go_wp2_with fail
      refine (exact_Mul_ok d 25920 _ hd ⟨by omega, by omega⟩ c1).mono ?_
      rintro e w' ⟨rfl, rfl⟩
      go_wp2_with fail
      refine (exact_Mul_no h 1080 _ hh ⟨by omega, by omega⟩ c2).mono ?_
      rintro e w' ⟨rfl, rfl⟩
      go_wp2_with fail
      go_ret2
      exact ⟨ret_ii HS.out.1.symm HS.out.2.symm, rfl⟩
  · have c1 : Cal.fits (d * 25920) = false := by simpa using c1
    have HS := Lib.hid (Cal.parts_no d h p (by rw [c1]; simp))
    go_enter Try.func31, Try.ntmps31
    go_wp2_with fail
    refine (exact_Mul_no d 25920 _ hd ⟨by omega, by omega⟩ c1).mono ?_
    rintro e w' ⟨rfl, rfl⟩
    go_wp2_with fail
    go_ret2
    exact ⟨ret_ii HS.out.1.symm HS.out.2.symm, rfl⟩

theorem ref_Parts (d h p : Int) (w : World) (hd : I64 d) (hh : I64 h) (hp : I64 p) :
    Calls Try.prog 32 #[.int .i64 d, .int .i64 h, .int .i64 p] w fun e w' => e = .returned (.tuple #[.int .i64 (Cal.partsV d h p), .int .i64 (Cal.partsE d h p)]) ∧ w = w' := by
  by_cases c1 : Cal.fits (d * 25920) = true
  · by_cases c2 : Cal.fits (h * 1080) = true
    · by_cases c3 : Cal.fits (d * 25920 + h * 1080) = true
      · have i1 := fits_I64 c1
        have i2 := fits_I64 c2
        have i3 := fits_I64 c3
        have HS := Lib.hid (Cal.parts_ok d h p c1 c2 c3)
        have HA := Lib.hid (fun w => ref_Add (d * 25920 + h * 1080) p w i3 hp)
        have e1 : wrap64 (d * 25920) = d * 25920 := IntWalk.wrap64_in _ i1
        clear e1
        go_enter Try.func32, Try.ntmps32
        go_wp2_with fail
        refine (ref_Mul_ok d 25920 _ hd ⟨by omega, by omega⟩ c1).mono ?_
        rintro e w' ⟨rfl, rfl⟩
        go_wp2_with fail
        refine (ref_Mul_ok h 1080 _ hh ⟨by omega, by omega⟩ c2).mono ?_
        rintro e w' ⟨rfl, rfl⟩
        go_wp2_with fail
        refine (ref_Add_ok (d * 25920) (h * 1080) _ i1 i2 c3).mono ?_
        rintro e w' ⟨rfl, rfl⟩
        go_wp2_with fail
        refine (HA.out _).mono ?_
        rintro e w' ⟨rfl, rfl⟩
        go_wp2_with fail
        go_ret2
        exact ⟨ret_ii HS.out.1.symm HS.out.2.symm, rfl⟩
      · have c3 : Cal.fits (d * 25920 + h * 1080) = false := by simpa using c3
        have i1 := fits_I64 c1
        have i2 := fits_I64 c2
        have HS := Lib.hid (Cal.parts_no d h p (by rw [c3]; simp))
        go_enter Try.func32, Try.ntmps32
        go_wp2_with fail
        refine (ref_Mul_ok d 25920 _ hd ⟨by omega, by omega⟩ c1).mono ?_
        rintro e w' ⟨rfl, rfl⟩
        go_wp2_with fail
        refine (ref_Mul_ok h 1080 _ hh ⟨by omega, by omega⟩ c2).mono ?_
        rintro e w' ⟨rfl, rfl⟩
        go_wp2_with fail
        refine (ref_Add_no (d * 25920) (h * 1080) _ i1 i2 c3).mono ?_
        rintro e w' ⟨rfl, rfl⟩
        go_wp2_with fail
        go_ret2
        exact ⟨ret_ii HS.out.1.symm HS.out.2.symm, rfl⟩
    · have c2 : Cal.fits (h * 1080) = false := by simpa using c2
      have HS := Lib.hid (Cal.parts_no d h p (by rw [c2]; simp))
      go_enter Try.func32, Try.ntmps32
      go_wp2_with fail
      refine (ref_Mul_ok d 25920 _ hd ⟨by omega, by omega⟩ c1).mono ?_
      rintro e w' ⟨rfl, rfl⟩
      go_wp2_with fail
      refine (ref_Mul_no h 1080 _ hh ⟨by omega, by omega⟩ c2).mono ?_
      rintro e w' ⟨rfl, rfl⟩
      go_wp2_with fail
      go_ret2
      exact ⟨ret_ii HS.out.1.symm HS.out.2.symm, rfl⟩
  · have c1 : Cal.fits (d * 25920) = false := by simpa using c1
    have HS := Lib.hid (Cal.parts_no d h p (by rw [c1]; simp))
    go_enter Try.func32, Try.ntmps32
    go_wp2_with fail
    refine (ref_Mul_no d 25920 _ hd ⟨by omega, by omega⟩ c1).mono ?_
    rintro e w' ⟨rfl, rfl⟩
    go_wp2_with fail
    go_ret2
    exact ⟨ret_ii HS.out.1.symm HS.out.2.symm, rfl⟩

theorem halak_inDay (p : Int) (w : World) :
    Calls Try.prog 76 #[.int .i64 p] w fun e w' => e = .returned (.bool (Cal.inDay p)) ∧ w = w' := by
  rcases (show p < 0 ∨ (0 ≤ p ∧ p < 25920) ∨ (0 ≤ p ∧ 25920 ≤ p) by omega) with c | ⟨c, c'⟩ | ⟨c, c'⟩
  · have HS := Lib.hid (Cal.inDay_no p (by omega))
    go_enter Try.func76, Try.ntmps76
    go_wp2
    go_ret
    first | exact ⟨ret_b HS.out.symm, rfl⟩ | exact ⟨ret_b ((decide_eq_false (by omega)).trans HS.out.symm), rfl⟩ | exact ⟨ret_b ((decide_eq_true (by omega)).trans HS.out.symm), rfl⟩
  · have HS := Lib.hid (Cal.inDay_yes p c c')
    go_enter Try.func76, Try.ntmps76
    go_wp2
    go_ret
    first | exact ⟨ret_b HS.out.symm, rfl⟩ | exact ⟨ret_b ((decide_eq_false (by omega)).trans HS.out.symm), rfl⟩ | exact ⟨ret_b ((decide_eq_true (by omega)).trans HS.out.symm), rfl⟩
  · have HS := Lib.hid (Cal.inDay_no p (by omega))
    go_enter Try.func76, Try.ntmps76
    go_wp2
    go_ret
    first | exact ⟨ret_b HS.out.symm, rfl⟩ | exact ⟨ret_b ((decide_eq_false (by omega)).trans HS.out.symm), rfl⟩ | exact ⟨ret_b ((decide_eq_true (by omega)).trans HS.out.symm), rfl⟩
theorem halak_Hours (p : Int) (w : World) :
    Calls Try.prog 37 #[.int .i64 p] w fun e w' => e = .returned (.tuple #[.int .i64 (Cal.hoursV p), .int .i64 (Cal.hoursP p)]) ∧ w = w' := by
  by_cases c : 0 ≤ p ∧ p < 25920
  · obtain ⟨c1, c2⟩ := c
    have h := Cal.inDay_yes p c1 c2
    have HS := Lib.hid (Cal.hours_yes p c1 c2)
    go_enter Try.func37, Try.ntmps37
    go_wp2_with fail
    refine (halak_inDay p _).mono ?_
    rintro e w' ⟨rfl, rfl⟩
    go_wp2_with fail
    go_ret2
    exact ⟨ret_ii HS.out.1.symm HS.out.2.symm, rfl⟩
  · have h := Cal.inDay_no p (by omega)
    have HS := Lib.hid (Cal.hours_no p (by omega))
    go_enter Try.func37, Try.ntmps37
    go_wp2_with fail
    refine (halak_inDay p _).mono ?_
    rintro e w' ⟨rfl, rfl⟩
    go_wp2_with fail
    go_ret2
    exact ⟨ret_ii HS.out.1.symm HS.out.2.symm, rfl⟩
theorem ref_Hours (p : Int) (w : World) :
    Calls Try.prog 38 #[.int .i64 p] w fun e w' => e = .returned (.tuple #[.int .i64 (Cal.hoursV p), .int .i64 (Cal.hoursP p)]) ∧ w = w' := by
  rcases (show p < 0 ∨ (0 ≤ p ∧ p < 25920) ∨ (0 ≤ p ∧ 25920 ≤ p) by omega) with c | ⟨c1, c2⟩ | ⟨c1, c2⟩
  · have HS := Lib.hid (Cal.hours_no p (by omega))
    go_enter Try.func38, Try.ntmps38
    go_wp2_with fail
    go_ret2
    exact ⟨ret_ii HS.out.1.symm HS.out.2.symm, rfl⟩
  · have HS := Lib.hid (Cal.hours_yes p c1 c2)
    go_enter Try.func38, Try.ntmps38
    go_wp2_with fail
    go_ret2
    exact ⟨ret_ii HS.out.1.symm HS.out.2.symm, rfl⟩
  · have HS := Lib.hid (Cal.hours_no p (by omega))
    go_enter Try.func38, Try.ntmps38
    go_wp2_with fail
    go_ret2
    exact ⟨ret_ii HS.out.1.symm HS.out.2.symm, rfl⟩
theorem halak_Moons (n : Int) (w : World) (hn : I64 n) :
    Calls Try.prog 35 #[.int .i64 n] w fun e w' => e = .returned (.tuple #[.int .i64 (Cal.mulV n 765433), .int .i64 (Cal.mulE n 765433)]) ∧ w = w' := by
  go_enter Try.func35, Try.ntmps35
  go_wp2_with fail
  refine (exact_Mul n 765433 _ hn ⟨by omega, by omega⟩).mono ?_
  rintro e w' ⟨rfl, rfl⟩
  go_wp2_with fail
  go_ret2
  exact ⟨rfl, rfl⟩
theorem ref_Moons (n : Int) (w : World) (hn : I64 n) :
    Calls Try.prog 36 #[.int .i64 n] w fun e w' => e = .returned (.tuple #[.int .i64 (Cal.mulV n 765433), .int .i64 (Cal.mulE n 765433)]) ∧ w = w' := by
  go_enter Try.func36, Try.ntmps36
  go_wp2_with fail
  refine (ref_Mul n 765433 _ hn ⟨by omega, by omega⟩).mono ?_
  rintro e w' ⟨rfl, rfl⟩
  go_wp2_with fail
  go_ret2
  exact ⟨rfl, rfl⟩

/-! A moment's parts. -/
theorem halak_Join (d p : Int) (w : World) (hd : I64 d) (hp : I64 p) :
    Calls Try.prog 33 #[.agg #[.int .i64 d, .int .i64 p]] w fun e w' => e = .returned (.tuple #[.int .i64 (Cal.joinV d p), .int .i64 (Cal.joinE d p)]) ∧ Below w.heap.size w w' := by
  obtain ⟨d1, d2⟩ := hd
  by_cases c : 0 ≤ p ∧ p < 25920
  · obtain ⟨c1, c2⟩ := c
    have h := Cal.inDay_yes p c1 c2
    by_cases c3 : d < 0
    · have HS := Lib.hid (Cal.join_neg d p c1 c2 c3)
      go_enter Try.func33, Try.ntmps33
      go_wp2_with fail
      refine (halak_inDay p _).mono ?_
      rintro e w' ⟨rfl, rfl⟩
      go_wp2_with fail
      refine (halak_Parts (d + 1) 0 (p - 25920) _ ⟨by omega, by omega⟩ ⟨by omega, by omega⟩ ⟨by omega, by omega⟩).mono ?_
      rintro e w' ⟨rfl, rfl⟩
      go_wp2_with fail
      go_ret2
      exact ⟨ret_ii HS.out.1.symm HS.out.2.symm, (Below.refl _ _).alloc (Nat.le_refl _) _⟩
    · have HS := Lib.hid (Cal.join_pos d p c1 c2 (by omega))
      go_enter Try.func33, Try.ntmps33
      go_wp2_with fail
      refine (halak_inDay p _).mono ?_
      rintro e w' ⟨rfl, rfl⟩
      go_wp2_with fail
      refine (halak_Parts d 0 p _ ⟨by omega, by omega⟩ ⟨by omega, by omega⟩ ⟨by omega, by omega⟩).mono ?_
      rintro e w' ⟨rfl, rfl⟩
      go_wp2_with fail
      go_ret2
      exact ⟨ret_ii HS.out.1.symm HS.out.2.symm, (Below.refl _ _).alloc (Nat.le_refl _) _⟩
  · have h := Cal.inDay_no p (by omega)
    have HS := Lib.hid (Cal.join_no d p (by omega))
    go_enter Try.func33, Try.ntmps33
    go_wp2_with fail
    refine (halak_inDay p _).mono ?_
    rintro e w' ⟨rfl, rfl⟩
    go_wp2_with fail
    go_ret2
    exact ⟨ret_ii HS.out.1.symm HS.out.2.symm, (Below.refl _ _).alloc (Nat.le_refl _) _⟩
theorem ref_Join (d p : Int) (w : World) (hd : I64 d) (hp : I64 p) :
    Calls Try.prog 34 #[.agg #[.int .i64 d, .int .i64 p]] w fun e w' => e = .returned (.tuple #[.int .i64 (Cal.joinV d p), .int .i64 (Cal.joinE d p)]) ∧ Below w.heap.size w w' := by
  obtain ⟨d1, d2⟩ := hd
  rcases (show p < 0 ∨ (0 ≤ p ∧ p < 25920) ∨ (0 ≤ p ∧ 25920 ≤ p) by omega) with c | ⟨c1, c2⟩ | ⟨c1, c2⟩
  · have HS := Lib.hid (Cal.join_no d p (by omega))
    go_enter Try.func34, Try.ntmps34
    go_wp2_with fail
    go_ret2
    exact ⟨ret_ii HS.out.1.symm HS.out.2.symm, (Below.refl _ _).alloc (Nat.le_refl _) _⟩
  · by_cases c3 : d < 0
    · have hs := Cal.join_neg d p c1 c2 c3
      by_cases c4 : Cal.fits ((d + 1) * 25920) = true
      · have i4 := fits_I64 c4
        rw [Cal.parts_zero_ok (d + 1) (p - 25920) c4 |>.1, Cal.parts_zero_ok (d + 1) (p - 25920) c4 |>.2] at hs
        have HS := Lib.hid hs
        clear hs
        go_enter Try.func34, Try.ntmps34
        go_wp2_with fail
        refine (ref_Mul_ok (d + 1) 25920 _ ⟨by omega, by omega⟩ ⟨by omega, by omega⟩ c4).mono ?_
        rintro e w' ⟨rfl, rfl⟩
        go_wp2_with fail
        refine (ref_Add ((d + 1) * 25920) (p - 25920) _ i4 ⟨by omega, by omega⟩).mono ?_
        rintro e w' ⟨rfl, rfl⟩
        go_wp2_with fail
        go_ret2
        exact ⟨ret_ii HS.out.1.symm HS.out.2.symm, (Below.refl _ _).alloc (Nat.le_refl _) _⟩
      · have c4 : Cal.fits ((d + 1) * 25920) = false := by simpa using c4
        rw [Cal.parts_no (d + 1) 0 (p - 25920) (by rw [c4]; simp) |>.1, Cal.parts_no (d + 1) 0 (p - 25920) (by rw [c4]; simp) |>.2] at hs
        have HS := Lib.hid hs
        clear hs
        go_enter Try.func34, Try.ntmps34
        go_wp2_with fail
        refine (ref_Mul_no (d + 1) 25920 _ ⟨by omega, by omega⟩ ⟨by omega, by omega⟩ c4).mono ?_
        rintro e w' ⟨rfl, rfl⟩
        go_wp2_with fail
        go_ret2
        exact ⟨ret_ii HS.out.1.symm HS.out.2.symm, (Below.refl _ _).alloc (Nat.le_refl _) _⟩
    · have HS := Lib.hid (Cal.join_pos d p c1 c2 (by omega))
      go_enter Try.func34, Try.ntmps34
      go_wp2_with fail
      refine (ref_Parts d 0 p _ ⟨by omega, by omega⟩ ⟨by omega, by omega⟩ ⟨by omega, by omega⟩).mono ?_
      rintro e w' ⟨rfl, rfl⟩
      go_wp2_with fail
      go_ret2
      exact ⟨ret_ii HS.out.1.symm HS.out.2.symm, (Below.refl _ _).alloc (Nat.le_refl _) _⟩
  · have HS := Lib.hid (Cal.join_no d p (by omega))
    go_enter Try.func34, Try.ntmps34
    go_wp2_with fail
    go_ret2
    exact ⟨ret_ii HS.out.1.symm HS.out.2.symm, (Below.refl _ _).alloc (Nat.le_refl _) _⟩
end Go.Proofs.Ytemkngkaaabghaa
