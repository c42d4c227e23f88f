/- Layer 2: contracts of the parts. -/
import Derived.Test.YtncckpfenjokmaaDoorW1
import Derived.Test.YtncckpfenjokmaaDoorMath2
import Derived.Below
namespace Go.Proofs.YtncckpfenjokmaaDoor
open Go.ChangeShapes Go.WideShapes Go.ChangeAt Go.RowKit
set_option linter.unusedVariables false

theorem bcell {W w1 : World} (hb : Below W.heap.size W w1) : (∀ b o, b < W.heap.size → w1.cell? ⟨b, o, none⟩ = W.cell? ⟨b, o, none⟩) ∧ (∀ b o, b < W.heap.size → w1.frozen? ⟨b, o, none⟩ = W.frozen? ⟨b, o, none⟩) :=
  ⟨fun b o h => hb.cell (p := ⟨b, o, none⟩) h, fun b o h => hb.frozen (p := ⟨b, o, none⟩) h⟩

theorem halak_Split (n : Int) (w : World) (hn : I64 n) :
    Calls Tryd.prog 204 #[.int .i64 n] w fun e w' => e = .returned (.agg #[.int .i64 (n / 25920), .int .i64 (n % 25920)]) ∧ Below w.heap.size w w' := by
  go_enter Tryd.func204, Tryd.ntmps204
  go_wp2_with fail
  refine (exact_Div_pos n 25920 _ hn ⟨by omega, by omega⟩ (by omega)).mono ?_
  rintro e w' ⟨rfl, rfl⟩
  go_wp2_with fail
  refine (exact_Mod_pos n 25920 _ hn ⟨by omega, by omega⟩ (by omega)).mono ?_
  rintro e w' ⟨rfl, rfl⟩
  go_wp2_with fail
  refine bodyPost_ret (v := .agg #[.int .i64 (n / 25920), .int .i64 (n % 25920)]) (by simp [results, Tryd.results204, go_sem]) rfl ⟨rfl, ?_⟩
  exact ((Below.refl _ _).alloc (Nat.le_refl _) _)
theorem ref_Split (n : Int) (w : World) (hn : I64 n) :
    Calls Tryd.prog 158 #[.int .i64 n] w fun e w' => e = .returned (.agg #[.int .i64 (n / 25920), .int .i64 (n % 25920)]) ∧ Below w.heap.size w w' := by
  go_enter Tryd.func158, Tryd.ntmps158
  go_wp2_with fail
  refine (ref_Down_pos n 25920 _ hn (by omega)).mono ?_
  rintro e w' ⟨rfl, rfl⟩
  go_wp2_with fail
  refine (ref_Left_pos n 25920 _ ⟨by omega, by omega⟩ (by omega)).mono ?_
  rintro e w' ⟨rfl, rfl⟩
  go_wp2_with fail
  refine bodyPost_ret (v := .agg #[.int .i64 (n / 25920), .int .i64 (n % 25920)]) (by simp [results, Tryd.results158, go_sem]) rfl ⟨rfl, ?_⟩
  exact ((Below.refl _ _).alloc (Nat.le_refl _) _)
theorem fits_I64 {n : Int} (h : Cal.fits n = true) : I64 n := by
  simp only [Cal.fits, Bool.and_eq_true, decide_eq_true_eq] at h
  exact h

theorem halak_Parts (d h p : Int) (w : World) (hd : I64 d) (hh : I64 h) (hp : I64 p) :
    Calls Tryd.prog 203 #[.int .i64 d, .int .i64 h, .int .i64 p] w fun e w' => e = .returned (.tuple #[.int .i64 (Cal.partsV d h p), .int .i64 (Cal.partsE d h p)]) ∧ w = w' := by
  by_cases c1 : Cal.fits (d * 25920) = true
  · by_cases c2 : Cal.fits (h * 1080) = true
    · by_cases c3 : Cal.fits (d * 25920 + h * 1080) = true
      · have i1 := fits_I64 c1
        have i2 := fits_I64 c2
        have i3 := fits_I64 c3
        have HS := Lib.hid (Cal.parts_ok d h p c1 c2 c3)
        have HA := Lib.hid (fun w => exact_Add (d * 25920 + h * 1080) p w i3 hp)
        have e1 : wrap64 (d * 25920) = d * 25920 := IntWalk.wrap64_in _ i1
        clear e1
        go_enter Tryd.func203, Tryd.ntmps203
        go_wp2_with fail
        refine (exact_Mul_ok d 25920 _ hd ⟨by omega, by omega⟩ c1).mono ?_
        rintro e w' ⟨rfl, rfl⟩
        go_wp2_with fail
        refine (exact_Mul_ok h 1080 _ hh ⟨by omega, by omega⟩ c2).mono ?_
        rintro e w' ⟨rfl, rfl⟩
        go_wp2_with fail
        refine (exact_Add_ok (d * 25920) (h * 1080) _ i1 i2 c3).mono ?_
        rintro e w' ⟨rfl, rfl⟩
        go_wp2_with fail
        refine (HA.out _).mono ?_
        rintro e w' ⟨rfl, rfl⟩
        go_wp2_with fail
        go_ret2
        exact ⟨ret_ii HS.out.1.symm HS.out.2.symm, rfl⟩
      · have c3 : Cal.fits (d * 25920 + h * 1080) = false := by simpa using c3
        have i1 := fits_I64 c1
        have i2 := fits_I64 c2
        have HS := Lib.hid (Cal.parts_no d h p (by rw [c3]; simp))
        go_enter Tryd.func203, Tryd.ntmps203
        go_wp2_with fail
        refine (exact_Mul_ok d 25920 _ hd ⟨by omega, by omega⟩ c1).mono ?_
        rintro e w' ⟨rfl, rfl⟩
        go_wp2_with fail
        refine (exact_Mul_ok h 1080 _ hh ⟨by omega, by omega⟩ c2).mono ?_
        rintro e w' ⟨rfl, rfl⟩
        go_wp2_with fail
        refine (exact_Add_no (d * 25920) (h * 1080) _ i1 i2 c3).mono ?_
        rintro e w' ⟨rfl, rfl⟩
        go_wp2_with fail
        go_ret2
        exact ⟨ret_ii HS.out.1.symm HS.out.2.symm, rfl⟩
    · have c2 : Cal.fits (h * 1080) = false := by simpa using c2
      have HS := Lib.hid (Cal.parts_no d h p (by rw [c2]; simp))
      go_enter Tryd.func203, Tryd.ntmps203
      go_wp2_with fail
      refine (exact_Mul_ok d 25920 _ hd ⟨by omega, by omega⟩ c1).mono ?_
      rintro e w' ⟨rfl, rfl⟩
      go_wp2_with fail
      refine (exact_Mul_no h 1080 _ hh ⟨by omega, by omega⟩ c2).mono ?_
      rintro e w' ⟨rfl, rfl⟩
      go_wp2_with fail
      go_ret2
      exact ⟨ret_ii HS.out.1.symm HS.out.2.symm, rfl⟩
  · have c1 : Cal.fits (d * 25920) = false := by simpa using c1
    have HS := Lib.hid (Cal.parts_no d h p (by rw [c1]; simp))
    go_enter Tryd.func203, Tryd.ntmps203
    go_wp2_with fail
    refine (exact_Mul_no d 25920 _ hd ⟨by omega, by omega⟩ c1).mono ?_
    rintro e w' ⟨rfl, rfl⟩
    go_wp2_with fail
    go_ret2
    exact ⟨ret_ii HS.out.1.symm HS.out.2.symm, rfl⟩

theorem halak_Moons (n : Int) (w : World) (hn : I64 n) :
    Calls Tryd.prog 202 #[.int .i64 n] w fun e w' => e = .returned (.tuple #[.int .i64 (Cal.mulV n 765433), .int .i64 (Cal.mulE n 765433)]) ∧ w = w' := by
  go_enter Tryd.func202, Tryd.ntmps202
  go_wp2_with fail
  refine (exact_Mul n 765433 _ hn ⟨by omega, by omega⟩).mono ?_
  rintro e w' ⟨rfl, rfl⟩
  go_wp2_with fail
  go_ret2
  exact ⟨rfl, rfl⟩
/-! A moment's parts. -/
end Go.Proofs.YtncckpfenjokmaaDoor
