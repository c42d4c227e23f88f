/- Through the layers: WholeTypes, by the contracts of its calls. -/
import Derived.Test.YtaaaalbgjpjgoaaGreatDoorVW28k
set_option linter.unusedVariables false
set_option linter.unusedSimpArgs false
set_option maxRecDepth 100000
namespace Go.Proofs.YtaaaalbgjpjgoaaGreatDoor
open Go.ChangeShapes Go.WideShapes Go.ChangeAt Go.RowKit Go.Lib
set_option maxHeartbeats 4000000 in
theorem WholeTypes_go (n fr b k : Int) (l : Bool) (j0 : Nat) (hn : 0 ≤ n ∧ n ≤ 255) (hf : 0 ≤ fr ∧ fr ≤ 65535) (hj : j0 < 9999) (hb : Cal.first (1 + (fr % 9999 + (j0 : Int)) % 9999) % 7 = b) (hk : Cal.kind (1 + (fr % 9999 + (j0 : Int)) % 9999) = k) (hl : Cal.leap (1 + (fr % 9999 + (j0 : Int)) % 9999) = l) (w : World)
    (HT : Hid (∀ W : World, Below w.heap.size w W → Calls Tryo.prog 37 #[.int .i64 (1 + n % 14)] W fun e w' => e = .returned (.tuple #[.agg #[.int .i64 (b), .int .i64 (k), .bool (l)], .bool true]) ∧ Below W.heap.size W w'))
    (HO : Hid (∀ z : Int, 1 ≤ z → z ≤ 9999 → ∀ W : World, Below w.heap.size w W → Calls Tryo.prog 30 #[.int .i64 z] W fun e w' => e = .returned (.tuple #[.agg #[.int .i64 (Cal.first z % 7), .int .i64 (Cal.kind z), .bool (Cal.leap z)], .int .i64 0]) ∧ Below W.heap.size W w'))
    (HW : Hid (∀ W : World, Below w.heap.size w W → Calls Tryo.prog 34 #[] W fun e w' => e = .returned (.bool true) ∧ Below W.heap.size W w')) :
    Calls Tryo.prog 6 #[.int .u8 n, .int .u16 fr] w fun e w' => e = .returned (.bool true) ∧ Below w.heap.size w w' := by
  have HY := Lib.hid (fun w => top_year fr hf w)
  obtain ⟨n1, n2⟩ := hn
  obtain ⟨f1, f2⟩ := hf
  have m0 : n.tmod 14 = n % 14 := Int.tmod_eq_emod_of_nonneg n1
  have m1 := Int.emod_nonneg n (show (14 : Int) ≠ 0 by decide)
  have m2 := Int.emod_lt_of_pos n (show (0 : Int) < 14 by decide)
  have k1 := Int.emod_nonneg fr (show (9999 : Int) ≠ 0 by decide)
  have k2 := Int.emod_lt_of_pos fr (show (0 : Int) < 9999 by decide)
  go_enter Tryo.func6, Tryz.ntmps6
  go_wp2_with fail
  refine (HT.out _ bel).mono ?_
  rintro e w1 ⟨rfl, hb1⟩
  have hB1 : Below w.heap.size w w1 := bel
  have hZ1 := hB1.size
  obtain ⟨hc1, hf1⟩ := bcell hb1
  have hz1 := hb1.size
  try simp at hz1
  go_wp2_with fail
  refine (HY.out _).mono ?_
  rintro e w' ⟨rfl, rfl⟩
  go_wp2_with fail
  have hlw : w.heap.size ≤ w1.heap.size := hZ1
  clear hc1 hf1
  go_loopw [8, 9] (fun y i wr => ∃ j : Nat, j ≤ j0 ∧ i = .int .i64 (j : Int) ∧ y = .int .i64 (1 + (fr % 9999 + (j : Int)) % 9999) ∧ wr.cell? ⟨w1.heap.size, 0, none⟩ = some (.int .i64 b) ∧ wr.cell? ⟨w1.heap.size, 1, none⟩ = some (.int .i64 k) ∧ wr.cell? ⟨w1.heap.size, 2, none⟩ = some (.bool l) ∧ w1.heap.size < wr.heap.size ∧ Below w.heap.size w wr) (fun _ i _ => 9999 - (intOf i).toNat)
  case atStart => exact ⟨0, Nat.zero_le _, rfl, by simp, by simp [go_sem], by simp [go_sem], by simp [go_sem], by simp, bel⟩
  case round =>
    obtain ⟨j, hjj, rfl, rfl, h90, h91, h92, hlt9, hBw⟩ := hrel
    obtain ⟨w9, rfl⟩ : ∃ x, x = wr := ⟨_, rfl⟩
    have j1 : (j : Int) < 9999 := by omega
    have j2 : (0 : Int) ≤ (j : Int) := by omega
    have z1 := Int.emod_nonneg (fr % 9999 + (j : Int)) (show (9999 : Int) ≠ 0 by decide)
    have z2 := Int.emod_lt_of_pos (fr % 9999 + (j : Int)) (show (0 : Int) < 9999 by decide)
    have HO9 := Lib.hid (HO.out (1 + (fr % 9999 + (j : Int)) % 9999) (by omega) (by omega))
    have hne : j = j0 → Cal.first (1 + (fr % 9999 + (j : Int)) % 9999) % 7 = b ∧ Cal.kind (1 + (fr % 9999 + (j : Int)) % 9999) = k ∧ Cal.leap (1 + (fr % 9999 + (j : Int)) % 9999) = l := fun e => by subst e; exact ⟨hb, hk, hl⟩
    have hnx : 1 + (1 + (fr % 9999 + (j : Int)) % 9999) % 9999 = 1 + (fr % 9999 + ((j + 1 : Nat) : Int)) % 9999 := by omega
    have hz9 : wrap64 (1 + (1 + (fr % 9999 + (j : Int)) % 9999) % 9999) = 1 + (fr % 9999 + ((j + 1 : Nat) : Int)) % 9999 := by rw [IntWalk.wrap64_in _ ⟨by omega, by omega⟩, hnx]
    have hz8 : wrap64 (1 + (1 + (fr % 9999 + (j : Int)) % 9999).tmod 9999) = 1 + (fr % 9999 + ((j + 1 : Nat) : Int)) % 9999 := by rw [Int.tmod_eq_emod_of_nonneg (by omega), hz9]
    generalize hzv : 1 + (fr % 9999 + (j : Int)) % 9999 = z at *
    generalize Cal.first z % 7 = xb at *
    generalize Cal.kind z = xk at *
    generalize Cal.leap z = xl at *
    have hzt : z.tmod 9999 = z % 9999 := Int.tmod_eq_emod_of_nonneg (by omega)
    by_cases c : xb = b ∧ xk = k ∧ xl = l
    · obtain ⟨rfl, rfl, rfl⟩ := c
      clear hne hnx hz9 hz8
      go_wp2_with fail
      refine (HO9.out _ hBw).mono ?_
      rintro e w2 ⟨rfl, hb2⟩
      have hB2 : Below w.heap.size w w2 := bt hBw hb2
      have hz2 := hb2.size
      have t0 := (hb2.cell (p := ⟨w1.heap.size, 0, none⟩) hlt9).trans h90
      have t1 := (hb2.cell (p := ⟨w1.heap.size, 1, none⟩) hlt9).trans h91
      have t2 := (hb2.cell (p := ⟨w1.heap.size, 2, none⟩) hlt9).trans h92
      have hl2 : w1.heap.size < w2.heap.size := by omega
      go_wp2_with fail
      refine (HW.out _ bel).mono ?_
      rintro e w5 ⟨rfl, hb5⟩
      go_wp2_with fail
      refine bodyPost_ret (v := .bool true) (by simp [results, Tryz.results6, go_sem, *]) rfl ?_
      refine ⟨rfl, ?_⟩
      exact bel
    · by_cases c1 : xb = b
      · subst c1
        by_cases c2 : xk = k
        · subst c2
          have c3 : ¬ xl = l := fun e => c ⟨rfl, rfl, e⟩
          have hjn : j + 1 ≤ j0 := by
            rcases Nat.lt_or_ge j j0 with c9 | c9
            · exact c9
            · exact absurd (hne (Nat.le_antisymm hjj c9)) c
          clear c hne
          go_wp2_with fail
          refine (HO9.out _ hBw).mono ?_
          rintro e w2 ⟨rfl, hb2⟩
          have hB2 : Below w.heap.size w w2 := bt hBw hb2
          have hz2 := hb2.size
          have t0 := (hb2.cell (p := ⟨w1.heap.size, 0, none⟩) hlt9).trans h90
          have t1 := (hb2.cell (p := ⟨w1.heap.size, 1, none⟩) hlt9).trans h91
          have t2 := (hb2.cell (p := ⟨w1.heap.size, 2, none⟩) hlt9).trans h92
          have hl2 : w1.heap.size < w2.heap.size := by omega
          go_wp2_with fail
          go_roundw
          case rel => exact ⟨j + 1, hjn, by go_num, by first | go_num | (simp [*]; done) | (congr 1; omega), by simp [go_sem, *], by simp [go_sem, *], by simp [go_sem, *], by simp; omega, bel⟩
          case measure => simp [intOf]; omega
        · have c4 : True := trivial
          have hjn : j + 1 ≤ j0 := by
            rcases Nat.lt_or_ge j j0 with c9 | c9
            · exact c9
            · exact absurd (hne (Nat.le_antisymm hjj c9)) c
          clear c hne
          go_wp2_with fail
          refine (HO9.out _ hBw).mono ?_
          rintro e w2 ⟨rfl, hb2⟩
          have hB2 : Below w.heap.size w w2 := bt hBw hb2
          have hz2 := hb2.size
          have t0 := (hb2.cell (p := ⟨w1.heap.size, 0, none⟩) hlt9).trans h90
          have t1 := (hb2.cell (p := ⟨w1.heap.size, 1, none⟩) hlt9).trans h91
          have t2 := (hb2.cell (p := ⟨w1.heap.size, 2, none⟩) hlt9).trans h92
          have hl2 : w1.heap.size < w2.heap.size := by omega
          go_wp2_with fail
          go_roundw
          case rel => exact ⟨j + 1, hjn, by go_num, by first | go_num | (simp [*]; done) | (congr 1; omega), by simp [go_sem, *], by simp [go_sem, *], by simp [go_sem, *], by simp; omega, bel⟩
          case measure => simp [intOf]; omega
      · have c4 : True := trivial
        have hjn : j + 1 ≤ j0 := by
          rcases Nat.lt_or_ge j j0 with c9 | c9
          · exact c9
          · exact absurd (hne (Nat.le_antisymm hjj c9)) c
        clear c hne
        go_wp2_with fail
        refine (HO9.out _ hBw).mono ?_
        rintro e w2 ⟨rfl, hb2⟩
        have hB2 : Below w.heap.size w w2 := bt hBw hb2
        have hz2 := hb2.size
        have t0 := (hb2.cell (p := ⟨w1.heap.size, 0, none⟩) hlt9).trans h90
        have t1 := (hb2.cell (p := ⟨w1.heap.size, 1, none⟩) hlt9).trans h91
        have t2 := (hb2.cell (p := ⟨w1.heap.size, 2, none⟩) hlt9).trans h92
        have hl2 : w1.heap.size < w2.heap.size := by omega
        go_wp2_with fail
        go_roundw
        case rel => exact ⟨j + 1, hjn, by go_num, by first | go_num | (simp [*]; done) | (congr 1; omega), by simp [go_sem, *], by simp [go_sem, *], by simp [go_sem, *], by simp; omega, bel⟩
        case measure => simp [intOf]; omega
end Go.Proofs.YtaaaalbgjpjgoaaGreatDoor
