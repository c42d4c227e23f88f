/- Layer 7: the document's number; each year's row. -/
import Derived.Test.YtoofgalkchnpnaaGreatDoorZKev2
import Derived.Test.YtoofgalkchnpnaaGreatDoorZKevA
import Derived.Test.YtoofgalkchnpnaaGreatDoorZKevB
import Derived.Test.YtoofgalkchnpnaaGreatDoorZKevC
import Derived.Test.YtoofgalkchnpnaaGreatDoorZKevD
namespace Go.Proofs.YtoofgalkchnpnaaGreatDoor
open Go.ChangeShapes Go.WideShapes Go.ChangeAt Go.RowKit
set_option linter.unusedVariables false
set_option maxRecDepth 100000
theorem ref7_Type_yes (n : Nat) (hn : n < 14) (w : World) :
    Calls Tryo.prog 175 #[.int .i64 ((n : Int) + 1)] w fun e w' => e = .returned (.tuple #[.agg #[.int .i64 (kevB n), .int .i64 (kevK n), .bool (kevL n)], .bool true]) ∧ Below w.heap.size w w' := by
  match n, hn with
  | 0, _ => exact ref7_Type_0 w
  | 1, _ => exact ref7_Type_1 w
  | 2, _ => exact ref7_Type_2 w
  | 3, _ => exact ref7_Type_3 w
  | 4, _ => exact ref7_Type_4 w
  | 5, _ => exact ref7_Type_5 w
  | 6, _ => exact ref7_Type_6 w
  | 7, _ => exact ref7_Type_7 w
  | 8, _ => exact ref7_Type_8 w
  | 9, _ => exact ref7_Type_9 w
  | 10, _ => exact ref7_Type_10 w
  | 11, _ => exact ref7_Type_11 w
  | 12, _ => exact ref7_Type_12 w
  | 13, _ => exact ref7_Type_13 w
set_option maxHeartbeats 1000000 in
theorem ref7_Number_any (b k : Int) (l : Bool) (w : World) :
    Calls Tryo.prog 156 #[.agg #[.int .i64 b, .int .i64 k, .bool l]] w fun e w' => e = .returned (.int .i64 (number b k l)) ∧ Below w.heap.size w w' := by
  go_enter Tryo.func156, Tryz.ntmps156
  go_wp2_with fail
  go_loopw [3] (fun i wr => ∃ n : Nat, n ≤ 14 ∧ i = .int .i64 ((n : Int) + 1) ∧ Hid (numFrom b k l (14 - n) n = number b k l) ∧ wr.cell? ⟨w.heap.size, 0, none⟩ = some (.int .i64 b) ∧ wr.cell? ⟨w.heap.size, 1, none⟩ = some (.int .i64 k) ∧ wr.cell? ⟨w.heap.size, 2, none⟩ = some (.bool l) ∧ w.heap.size < wr.heap.size ∧ Below w.heap.size w wr) (fun i _ => 15 - (intOf i).toNat)
  case atStart => exact ⟨0, by omega, rfl, rfl, by simp [go_sem], by simp [go_sem], by simp [go_sem], by simp, ba _ _⟩
  case round =>
    obtain ⟨n, hn, rfl, hN, c0, c1, c2, hsz, hB⟩ := hrel
    by_cases hlt : n < 14
    · by_cases e1 : kevB n = b
      · obtain rfl := e1
        by_cases e2 : kevK n = k
        · obtain rfl := e2
          by_cases e3 : kevL n = l
          · obtain rfl := e3
            have hN2 := Lib.hid ((numFrom_yes _ _ _ n hlt (by unfold rowIs; simp)).symm.trans hN.out)
            clear hN
            go_wp2_with fail
            refine (ref7_Type_yes n hlt _).mono ?_
            rintro e w2 ⟨rfl, hb2⟩
            obtain ⟨hc2, hf2⟩ := bcell hb2
            have hz2 := hb2.size
            have g0 := (hc2 w.heap.size 0 hsz).trans c0
            have g1 := (hc2 w.heap.size 1 hsz).trans c1
            have g2 := (hc2 w.heap.size 2 hsz).trans c2
            have hsz2 : w.heap.size < w2.heap.size := by omega
            go_wp2_with fail
            go_ret
            exact ⟨ret_i hN2.out, baa (hB.trans (hb2.mono hB.size)) _⟩
          · have e3' : ¬ (l = kevL n) := fun h => e3 h.symm
            have hN2 := Lib.hid ((numFrom_no _ _ _ n hlt (by unfold rowIs; simp [*])).symm.trans hN.out)
            clear hN
            go_wp2_with fail
            refine (ref7_Type_yes n hlt _).mono ?_
            rintro e w2 ⟨rfl, hb2⟩
            obtain ⟨hc2, hf2⟩ := bcell hb2
            have hz2 := hb2.size
            have g0 := (hc2 w.heap.size 0 hsz).trans c0
            have g1 := (hc2 w.heap.size 1 hsz).trans c1
            have g2 := (hc2 w.heap.size 2 hsz).trans c2
            have hsz2 : w.heap.size < w2.heap.size := by omega
            go_wp2_with fail
            go_roundw
            case rel => exact ⟨n + 1, by omega, by go_num, hN2, by simp [go_sem, g0, hsz2], by simp [go_sem, g1, hsz2], by simp [go_sem, g2, hsz2], by simp; omega, baa (hB.trans (hb2.mono hB.size)) _⟩
            case measure => simp [intOf]; omega
        · have e2' : ¬ (k = kevK n) := fun h => e2 h.symm
          have hN2 := Lib.hid ((numFrom_no _ _ _ n hlt (by unfold rowIs; simp [*])).symm.trans hN.out)
          clear hN
          go_wp2_with fail
          refine (ref7_Type_yes n hlt _).mono ?_
          rintro e w2 ⟨rfl, hb2⟩
          obtain ⟨hc2, hf2⟩ := bcell hb2
          have hz2 := hb2.size
          have g0 := (hc2 w.heap.size 0 hsz).trans c0
          have g1 := (hc2 w.heap.size 1 hsz).trans c1
          have g2 := (hc2 w.heap.size 2 hsz).trans c2
          have hsz2 : w.heap.size < w2.heap.size := by omega
          go_wp2_with fail
          go_roundw
          case rel => exact ⟨n + 1, by omega, by go_num, hN2, by simp [go_sem, g0, hsz2], by simp [go_sem, g1, hsz2], by simp [go_sem, g2, hsz2], by simp; omega, baa (hB.trans (hb2.mono hB.size)) _⟩
          case measure => simp [intOf]; omega
      · have e1' : ¬ (b = kevB n) := fun h => e1 h.symm
        have hN2 := Lib.hid ((numFrom_no _ _ _ n hlt (by unfold rowIs; simp [*])).symm.trans hN.out)
        clear hN
        go_wp2_with fail
        refine (ref7_Type_yes n hlt _).mono ?_
        rintro e w2 ⟨rfl, hb2⟩
        obtain ⟨hc2, hf2⟩ := bcell hb2
        have hz2 := hb2.size
        have g0 := (hc2 w.heap.size 0 hsz).trans c0
        have g1 := (hc2 w.heap.size 1 hsz).trans c1
        have g2 := (hc2 w.heap.size 2 hsz).trans c2
        have hsz2 : w.heap.size < w2.heap.size := by omega
        go_wp2_with fail
        go_roundw
        case rel => exact ⟨n + 1, by omega, by go_num, hN2, by simp [go_sem, g0, hsz2], by simp [go_sem, g1, hsz2], by simp [go_sem, g2, hsz2], by simp; omega, baa (hB.trans (hb2.mono hB.size)) _⟩
        case measure => simp [intOf]; omega
    · go_wp2_with fail
      go_ret
      exact ⟨ret_i (by rw [← hN.out, show n = 14 by omega]; rfl), hB⟩
namespace Cal
/-- Each year's type is one of the fourteen: a check of all years. -/
def rowsN (c : Nat) (lp : Bool) : Bool := or (Nat.beq c 3) (or (Nat.beq c 5) (or (Nat.beq c 7) (or (Nat.beq c (cond lp 12 13)) (or (Nat.beq c 14) (or (Nat.beq c 18) (Nat.beq c 20))))))
def tyN (y : Nat) : Bool :=
  firstK y fun a => firstK (Nat.succ y) fun b => force (Nat.mod (Nat.add a 1) 7) fun w => force (Nat.sub (Nat.sub b a) (cond (lpN y) 383 353)) fun k => force (Nat.add (Nat.mul 3 w) k) fun c => and (Nat.ble k 2) (rowsN c (lpN y))
theorem tyN1 : allUpto tyN 13 2 = true := by decide +kernel
theorem tyN2 : allUpto tyN 11 8194 = true := by decide +kernel
theorem tyN_all (y : Nat) (h0 : 2 ≤ y) (h1 : y ≤ 10001) : tyN y = true := by
  by_cases h : y < 8194
  · exact allUpto_spec _ _ _ tyN1 y h0 (by omega)
  · exact allUpto_spec _ _ _ tyN2 y (by omega) (by omega)
theorem tyN_spec (y : Nat) (h0 : 2 ≤ y) (h1 : y ≤ 10001) :
    firstN (y + 1) - firstN y - (if lpN y then 383 else 353) ≤ 2 ∧ rowsN (3 * ((firstN y + 1) % 7) + (firstN (y + 1) - firstN y - (if lpN y then 383 else 353))) (lpN y) = true := by
  have h := tyN_all y h0 h1
  unfold tyN at h
  simp only [firstK_eq, force_eq] at h
  rw [Bool.and_eq_true] at h
  obtain ⟨h1, h2⟩ := h
  cases hl : lpN y <;> rw [hl] at h1 h2 <;> exact ⟨Nat.le_of_ble_eq_true h1, h2⟩
end Cal
theorem year_row (y : Int) (h1 : 1 ≤ y) (h2 : y ≤ 9999) : ∃ i : Nat, i < 14 ∧ Cal.first y % 7 = kevB i ∧ Cal.kind y = kevK i ∧ Cal.leap y = kevL i := by
  by_cases h : y < 2
  · obtain rfl : y = 1 := by omega
    exact ⟨1, by omega, by decide +kernel, by decide +kernel, by decide +kernel⟩
  · obtain ⟨n, rfl⟩ := Int.eq_ofNat_of_zero_le (show 0 ≤ y by omega)
    obtain ⟨hk, hr⟩ := Cal.tyN_spec n (by omega) (by omega)
    have hb := kind_bd n h1 h2
    unfold Cal.kind Cal.long at hb ⊢
    have e : ((n : Int) + 1) = ((n + 1 : Nat) : Int) := by omega
    rw [e, Cal.first_nat n (by omega), Cal.first_nat (n + 1) (by omega), Cal.lp_nat n] at hb
    rw [e, Cal.first_nat n (by omega), Cal.first_nat (n + 1) (by omega), Cal.lp_nat n]
    generalize Cal.firstN n = a at *
    generalize Cal.firstN (n + 1) = b at *
    unfold Cal.rowsN at hr
    cases hl : Cal.lpN n <;> rw [hl] at hk hr hb <;> simp only [Bool.or_eq_true, Nat.beq_eq, cond_true, cond_false, if_true, if_false, Bool.false_eq_true] at hk hr hb ⊢
    · rcases hr with c | c | c | c | c | c | c
      · exact ⟨0, by omega, by simp only [kevB]; omega, by simp only [kevK]; omega, rfl⟩
      · exact ⟨1, by omega, by simp only [kevB]; omega, by simp only [kevK]; omega, rfl⟩
      · exact ⟨2, by omega, by simp only [kevB]; omega, by simp only [kevK]; omega, rfl⟩
      · exact ⟨3, by omega, by simp only [kevB]; omega, by simp only [kevK]; omega, rfl⟩
      · exact ⟨4, by omega, by simp only [kevB]; omega, by simp only [kevK]; omega, rfl⟩
      · exact ⟨5, by omega, by simp only [kevB]; omega, by simp only [kevK]; omega, rfl⟩
      · exact ⟨6, by omega, by simp only [kevB]; omega, by simp only [kevK]; omega, rfl⟩
    · rcases hr with c | c | c | c | c | c | c
      · exact ⟨7, by omega, by simp only [kevB]; omega, by simp only [kevK]; omega, rfl⟩
      · exact ⟨8, by omega, by simp only [kevB]; omega, by simp only [kevK]; omega, rfl⟩
      · exact ⟨9, by omega, by simp only [kevB]; omega, by simp only [kevK]; omega, rfl⟩
      · exact ⟨10, by omega, by simp only [kevB]; omega, by simp only [kevK]; omega, rfl⟩
      · exact ⟨11, by omega, by simp only [kevB]; omega, by simp only [kevK]; omega, rfl⟩
      · exact ⟨12, by omega, by simp only [kevB]; omega, by simp only [kevK]; omega, rfl⟩
      · exact ⟨13, by omega, by simp only [kevB]; omega, by simp only [kevK]; omega, rfl⟩
end Go.Proofs.YtoofgalkchnpnaaGreatDoor
