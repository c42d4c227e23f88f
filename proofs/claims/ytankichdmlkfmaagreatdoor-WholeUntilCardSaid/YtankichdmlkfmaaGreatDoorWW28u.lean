import Derived.Test.YtankichdmlkfmaaGreatDoorWW28q
set_option maxHeartbeats 8000000
set_option maxRecDepth 100000
set_option linter.unusedSimpArgs false
set_option linter.unusedVariables false
namespace Go.Proofs.YtankichdmlkfmaaGreatDoor
open Go.ChangeShapes Go.WideShapes Go.ChangeAt Go.RowKit Go.Lib
theorem WholeUntil_ea (y n : Int) (l : Bool) (d z k : Int) (h : Bool) (f : Int) (unit : Int) (er D1 D2 eb : Int) (hu : 0 ≤ unit ∧ unit ≤ 255) (hne : (er != 0) = true) (hnz : (er == 0) = false) (hnz2 : ((0 : Int) == er) = false)  (w : World)
  (HA : Hid (∀ W : World, Below w.heap.size w W → Calls Tryo.prog 17 #[.agg #[.int .i64 (y), .int .i64 (n), .bool (l), .int .i64 (d)], .agg #[.int .i64 (z), .int .i64 (k), .bool (h), .int .i64 (f)], .int .i64 (unit % 4)] W fun e w' => e = .returned (.tuple #[.agg #[.int .i64 (0), .int .i64 (0), .int .i64 (0), .int .i64 (0)], .int .i64 er]) ∧ Below W.heap.size W w'))
  (HB : Hid (∀ W : World, Below w.heap.size w W → Calls Tryo.prog 18 #[.agg #[.int .i64 (y), .int .i64 (n), .bool (l), .int .i64 (d)]] W fun e w' => e = .returned (.tuple #[.int .i64 D1, .int .i64 er]) ∧ Below W.heap.size W w'))
  (HC : Hid (∀ W : World, Below w.heap.size w W → Calls Tryo.prog 18 #[.agg #[.int .i64 (z), .int .i64 (k), .bool (h), .int .i64 (f)]] W fun e w' => e = .returned (.tuple #[.int .i64 D2, .int .i64 eb]) ∧ Below W.heap.size W w'))
  (HW : Hid (∀ W : World, Below w.heap.size w W → Calls Tryo.prog 19 #[] W fun e w' => e = .returned (.bool true) ∧ Below W.heap.size W w')) :
  Calls Tryo.prog 4 #[.agg #[.int .i64 (y), .int .i64 (n), .bool (l), .int .i64 (d)], .agg #[.int .i64 (z), .int .i64 (k), .bool (h), .int .i64 (f)], .int .u8 unit] w fun e w' => e = .returned (.bool true) ∧ Below w.heap.size w w' := by
 obtain ⟨u1, u2⟩ := hu
 have k0 : unit.tmod 4 = unit % 4 := Int.tmod_eq_emod_of_nonneg u1
 go_enter Tryo.func4, Tryz.ntmps4
 go_wp2_with fail
 refine (HA.out _ bel28).mono ?_
 rintro e w1 ⟨rfl, hb1⟩
 have hB1 : Below w.heap.size w w1 := bel28
 have hZ1 := hB1.size
 obtain ⟨hc1, hf1⟩ := bcell hb1
 have hz1 := hb1.size
 try simp at hz1
 have hs1x0 : w.heap.size < w1.heap.size := by omega
 have hs1x1 : (w.heap.size + 1) < w1.heap.size := by omega
 obtain ⟨g1x0, g1x1, g1x2, g1x3⟩ := cel4 (B := w.heap.size) (a := .int .i64 (y)) (b := .int .i64 (n)) (c := .bool (l)) (d := .int .i64 (d)) hc1
 obtain ⟨g1x4, g1x5, g1x6, g1x7⟩ := cel4 (B := (w.heap.size + 1)) (a := .int .i64 (z)) (b := .int .i64 (k)) (c := .bool (h)) (d := .int .i64 (f)) hc1
 go_wp2_with fail
 refine (HB.out _ bel28).mono ?_
 rintro e w2 ⟨rfl, hb2⟩
 have hB2 : Below w.heap.size w w2 := bel28
 have hZ2 := hB2.size
 obtain ⟨hc2, hf2⟩ := bcell hb2
 have hz2 := hb2.size
 try simp at hz2
 have hl2w1 : w1.heap.size < w2.heap.size := by omega
 have hs2x0 : w.heap.size < w2.heap.size := by omega
 have hs2x1 : (w.heap.size + 1) < w2.heap.size := by omega
 obtain ⟨g2x0, g2x1, g2x2, g2x3⟩ := cel4 (B := w.heap.size) (a := .int .i64 (y)) (b := .int .i64 (n)) (c := .bool (l)) (d := .int .i64 (d)) hc2
 obtain ⟨g2x4, g2x5, g2x6, g2x7⟩ := cel4 (B := (w.heap.size + 1)) (a := .int .i64 (z)) (b := .int .i64 (k)) (c := .bool (h)) (d := .int .i64 (f)) hc2
 obtain ⟨g2x8, g2x9, g2x10, g2x11⟩ := cel4 (B := w1.heap.size) (a := .int .i64 (0)) (b := .int .i64 (0)) (c := .int .i64 (0)) (d := .int .i64 (0)) hc2
 go_wp2_with fail
 refine (HC.out _ bel28).mono ?_
 rintro e w3 ⟨rfl, hb3⟩
 have hB3 : Below w.heap.size w w3 := bel28
 have hZ3 := hB3.size
 obtain ⟨hc3, hf3⟩ := bcell hb3
 have hz3 := hb3.size
 try simp at hz3
 have hl3w1 : w1.heap.size < w3.heap.size := by omega
 have hs3x0 : w.heap.size < w3.heap.size := by omega
 have hs3x1 : (w.heap.size + 1) < w3.heap.size := by omega
 obtain ⟨g3x0, g3x1, g3x2, g3x3⟩ := cel4 (B := w.heap.size) (a := .int .i64 (y)) (b := .int .i64 (n)) (c := .bool (l)) (d := .int .i64 (d)) hc3
 obtain ⟨g3x4, g3x5, g3x6, g3x7⟩ := cel4 (B := (w.heap.size + 1)) (a := .int .i64 (z)) (b := .int .i64 (k)) (c := .bool (h)) (d := .int .i64 (f)) hc3
 obtain ⟨g3x8, g3x9, g3x10, g3x11⟩ := cel4 (B := w1.heap.size) (a := .int .i64 (0)) (b := .int .i64 (0)) (c := .int .i64 (0)) (d := .int .i64 (0)) hc3
 go_wp2_with fail
 refine (HW.out _ bel28).mono ?_
 rintro e w4 ⟨rfl, hb4⟩
 have hB4 : Below w.heap.size w w4 := bel28
 have hZ4 := hB4.size
 obtain ⟨hc4, hf4⟩ := bcell hb4
 have hz4 := hb4.size
 try simp at hz4
 go_wp2_with fail
 go_ret
 refine ⟨by first | rfl | (simp [*]; done), ?_⟩
 exact bel
theorem WholeUntil_eb (y n : Int) (l : Bool) (d z k : Int) (h : Bool) (f : Int) (unit : Int) (er D1 D2 eb : Int) (hu : 0 ≤ unit ∧ unit ≤ 255) (hne : (er != 0) = true) (hnz : (er == 0) = false) (hnz2 : ((0 : Int) == er) = false)  (w : World)
  (HA : Hid (∀ W : World, Below w.heap.size w W → Calls Tryo.prog 17 #[.agg #[.int .i64 (y), .int .i64 (n), .bool (l), .int .i64 (d)], .agg #[.int .i64 (z), .int .i64 (k), .bool (h), .int .i64 (f)], .int .i64 (unit % 4)] W fun e w' => e = .returned (.tuple #[.agg #[.int .i64 (0), .int .i64 (0), .int .i64 (0), .int .i64 (0)], .int .i64 er]) ∧ Below W.heap.size W w'))
  (HB : Hid (∀ W : World, Below w.heap.size w W → Calls Tryo.prog 18 #[.agg #[.int .i64 (y), .int .i64 (n), .bool (l), .int .i64 (d)]] W fun e w' => e = .returned (.tuple #[.int .i64 D1, .int .i64 0]) ∧ Below W.heap.size W w'))
  (HC : Hid (∀ W : World, Below w.heap.size w W → Calls Tryo.prog 18 #[.agg #[.int .i64 (z), .int .i64 (k), .bool (h), .int .i64 (f)]] W fun e w' => e = .returned (.tuple #[.int .i64 D2, .int .i64 er]) ∧ Below W.heap.size W w'))
  (HW : Hid (∀ W : World, Below w.heap.size w W → Calls Tryo.prog 19 #[] W fun e w' => e = .returned (.bool true) ∧ Below W.heap.size W w')) :
  Calls Tryo.prog 4 #[.agg #[.int .i64 (y), .int .i64 (n), .bool (l), .int .i64 (d)], .agg #[.int .i64 (z), .int .i64 (k), .bool (h), .int .i64 (f)], .int .u8 unit] w fun e w' => e = .returned (.bool true) ∧ Below w.heap.size w w' := by
 obtain ⟨u1, u2⟩ := hu
 have k0 : unit.tmod 4 = unit % 4 := Int.tmod_eq_emod_of_nonneg u1
 go_enter Tryo.func4, Tryz.ntmps4
 go_wp2_with fail
 refine (HA.out _ bel28).mono ?_
 rintro e w1 ⟨rfl, hb1⟩
 have hB1 : Below w.heap.size w w1 := bel28
 have hZ1 := hB1.size
 obtain ⟨hc1, hf1⟩ := bcell hb1
 have hz1 := hb1.size
 try simp at hz1
 have hs1x0 : w.heap.size < w1.heap.size := by omega
 have hs1x1 : (w.heap.size + 1) < w1.heap.size := by omega
 obtain ⟨g1x0, g1x1, g1x2, g1x3⟩ := cel4 (B := w.heap.size) (a := .int .i64 (y)) (b := .int .i64 (n)) (c := .bool (l)) (d := .int .i64 (d)) hc1
 obtain ⟨g1x4, g1x5, g1x6, g1x7⟩ := cel4 (B := (w.heap.size + 1)) (a := .int .i64 (z)) (b := .int .i64 (k)) (c := .bool (h)) (d := .int .i64 (f)) hc1
 go_wp2_with fail
 refine (HB.out _ bel28).mono ?_
 rintro e w2 ⟨rfl, hb2⟩
 have hB2 : Below w.heap.size w w2 := bel28
 have hZ2 := hB2.size
 obtain ⟨hc2, hf2⟩ := bcell hb2
 have hz2 := hb2.size
 try simp at hz2
 have hl2w1 : w1.heap.size < w2.heap.size := by omega
 have hs2x0 : w.heap.size < w2.heap.size := by omega
 have hs2x1 : (w.heap.size + 1) < w2.heap.size := by omega
 obtain ⟨g2x0, g2x1, g2x2, g2x3⟩ := cel4 (B := w.heap.size) (a := .int .i64 (y)) (b := .int .i64 (n)) (c := .bool (l)) (d := .int .i64 (d)) hc2
 obtain ⟨g2x4, g2x5, g2x6, g2x7⟩ := cel4 (B := (w.heap.size + 1)) (a := .int .i64 (z)) (b := .int .i64 (k)) (c := .bool (h)) (d := .int .i64 (f)) hc2
 obtain ⟨g2x8, g2x9, g2x10, g2x11⟩ := cel4 (B := w1.heap.size) (a := .int .i64 (0)) (b := .int .i64 (0)) (c := .int .i64 (0)) (d := .int .i64 (0)) hc2
 go_wp2_with fail
 refine (HC.out _ bel28).mono ?_
 rintro e w3 ⟨rfl, hb3⟩
 have hB3 : Below w.heap.size w w3 := bel28
 have hZ3 := hB3.size
 obtain ⟨hc3, hf3⟩ := bcell hb3
 have hz3 := hb3.size
 try simp at hz3
 have hl3w1 : w1.heap.size < w3.heap.size := by omega
 have hs3x0 : w.heap.size < w3.heap.size := by omega
 have hs3x1 : (w.heap.size + 1) < w3.heap.size := by omega
 obtain ⟨g3x0, g3x1, g3x2, g3x3⟩ := cel4 (B := w.heap.size) (a := .int .i64 (y)) (b := .int .i64 (n)) (c := .bool (l)) (d := .int .i64 (d)) hc3
 obtain ⟨g3x4, g3x5, g3x6, g3x7⟩ := cel4 (B := (w.heap.size + 1)) (a := .int .i64 (z)) (b := .int .i64 (k)) (c := .bool (h)) (d := .int .i64 (f)) hc3
 obtain ⟨g3x8, g3x9, g3x10, g3x11⟩ := cel4 (B := w1.heap.size) (a := .int .i64 (0)) (b := .int .i64 (0)) (c := .int .i64 (0)) (d := .int .i64 (0)) hc3
 go_wp2_with fail
 refine (HW.out _ bel28).mono ?_
 rintro e w4 ⟨rfl, hb4⟩
 have hB4 : Below w.heap.size w w4 := bel28
 have hZ4 := hB4.size
 obtain ⟨hc4, hf4⟩ := bcell hb4
 have hz4 := hb4.size
 try simp at hz4
 go_wp2_with fail
 go_ret
 refine ⟨by first | rfl | (simp [*]; done), ?_⟩
 exact bel
theorem WholeUntil_up (y n : Int) (l : Bool) (d z k : Int) (h : Bool) (f : Int) (unit : Int) (va vb vc vq D1 D2 : Int) (hu : 0 ≤ unit ∧ unit ≤ 255) (hb : -1373427 ≤ D1 ∧ D1 ≤ 2278650 ∧ -1373427 ≤ D2 ∧ D2 ≤ 2278650) (hd : D1 ≤ D2) (p0 : 0 ≤ va) (p1 : 0 ≤ vb) (p2 : 0 ≤ vc) (p3 : 0 ≤ vq)  (w : World)
  (HA : Hid (∀ W : World, Below w.heap.size w W → Calls Tryo.prog 17 #[.agg #[.int .i64 (y), .int .i64 (n), .bool (l), .int .i64 (d)], .agg #[.int .i64 (z), .int .i64 (k), .bool (h), .int .i64 (f)], .int .i64 (unit % 4)] W fun e w' => e = .returned (.tuple #[.agg #[.int .i64 (va), .int .i64 (vb), .int .i64 (vc), .int .i64 (vq)], .int .i64 0]) ∧ Below W.heap.size W w'))
  (HB : Hid (∀ W : World, Below w.heap.size w W → Calls Tryo.prog 18 #[.agg #[.int .i64 (y), .int .i64 (n), .bool (l), .int .i64 (d)]] W fun e w' => e = .returned (.tuple #[.int .i64 D1, .int .i64 0]) ∧ Below W.heap.size W w'))
  (HC : Hid (∀ W : World, Below w.heap.size w W → Calls Tryo.prog 18 #[.agg #[.int .i64 (z), .int .i64 (k), .bool (h), .int .i64 (f)]] W fun e w' => e = .returned (.tuple #[.int .i64 D2, .int .i64 0]) ∧ Below W.heap.size W w'))
  (HD : Hid (∀ W : World, Below w.heap.size w W → Calls Tryo.prog 20 #[.agg #[.int .i64 (y), .int .i64 (n), .bool (l), .int .i64 (d)], .agg #[.int .i64 (va), .int .i64 (vb), .int .i64 (vc), .int .i64 (vq)], .int .i64 0] W fun e w' => e = .returned (.tuple #[.agg #[.int .i64 (z), .int .i64 (k), .bool (h), .int .i64 (f)], .int .i64 0]) ∧ Below W.heap.size W w'))
  (HE : Hid (∀ W : World, Below w.heap.size w W → Calls Tryo.prog 17 #[.agg #[.int .i64 (z), .int .i64 (k), .bool (h), .int .i64 (f)], .agg #[.int .i64 (y), .int .i64 (n), .bool (l), .int .i64 (d)], .int .i64 0] W fun e w' => e = .returned (.tuple #[.agg #[.int .i64 (0), .int .i64 (0), .int .i64 (0), .int .i64 (D1 - D2)], .int .i64 0]) ∧ Below W.heap.size W w'))
  (HW : Hid (∀ W : World, Below w.heap.size w W → Calls Tryo.prog 19 #[] W fun e w' => e = .returned (.bool true) ∧ Below W.heap.size W w')) :
  Calls Tryo.prog 4 #[.agg #[.int .i64 (y), .int .i64 (n), .bool (l), .int .i64 (d)], .agg #[.int .i64 (z), .int .i64 (k), .bool (h), .int .i64 (f)], .int .u8 unit] w fun e w' => e = .returned (.bool true) ∧ Below w.heap.size w w' := by
 obtain ⟨u1, u2⟩ := hu
 have k0 : unit.tmod 4 = unit % 4 := Int.tmod_eq_emod_of_nonneg u1
 obtain ⟨d1, d2, d3, d4⟩ := hb
 have ew : wrap64 (D1 - D2) = D1 - D2 := IntWalk.wrap64_in _ ⟨by omega, by omega⟩
 go_enter Tryo.func4, Tryz.ntmps4
 go_wp2_with fail
 refine (HA.out _ bel28).mono ?_
 rintro e w1 ⟨rfl, hb1⟩
 have hB1 : Below w.heap.size w w1 := bel28
 have hZ1 := hB1.size
 obtain ⟨hc1, hf1⟩ := bcell hb1
 have hz1 := hb1.size
 try simp at hz1
 have hs1x0 : w.heap.size < w1.heap.size := by omega
 have hs1x1 : (w.heap.size + 1) < w1.heap.size := by omega
 obtain ⟨g1x0, g1x1, g1x2, g1x3⟩ := cel4 (B := w.heap.size) (a := .int .i64 (y)) (b := .int .i64 (n)) (c := .bool (l)) (d := .int .i64 (d)) hc1
 obtain ⟨g1x4, g1x5, g1x6, g1x7⟩ := cel4 (B := (w.heap.size + 1)) (a := .int .i64 (z)) (b := .int .i64 (k)) (c := .bool (h)) (d := .int .i64 (f)) hc1
 go_wp2_with fail
 refine (HB.out _ bel28).mono ?_
 rintro e w2 ⟨rfl, hb2⟩
 have hB2 : Below w.heap.size w w2 := bel28
 have hZ2 := hB2.size
 obtain ⟨hc2, hf2⟩ := bcell hb2
 have hz2 := hb2.size
 try simp at hz2
 have hl2w1 : w1.heap.size < w2.heap.size := by omega
 have hs2x0 : w.heap.size < w2.heap.size := by omega
 have hs2x1 : (w.heap.size + 1) < w2.heap.size := by omega
 obtain ⟨g2x0, g2x1, g2x2, g2x3⟩ := cel4 (B := w.heap.size) (a := .int .i64 (y)) (b := .int .i64 (n)) (c := .bool (l)) (d := .int .i64 (d)) hc2
 obtain ⟨g2x4, g2x5, g2x6, g2x7⟩ := cel4 (B := (w.heap.size + 1)) (a := .int .i64 (z)) (b := .int .i64 (k)) (c := .bool (h)) (d := .int .i64 (f)) hc2
 obtain ⟨g2x8, g2x9, g2x10, g2x11⟩ := cel4 (B := w1.heap.size) (a := .int .i64 (va)) (b := .int .i64 (vb)) (c := .int .i64 (vc)) (d := .int .i64 (vq)) hc2
 go_wp2_with fail
 refine (HC.out _ bel28).mono ?_
 rintro e w3 ⟨rfl, hb3⟩
 have hB3 : Below w.heap.size w w3 := bel28
 have hZ3 := hB3.size
 obtain ⟨hc3, hf3⟩ := bcell hb3
 have hz3 := hb3.size
 try simp at hz3
 have hl3w1 : w1.heap.size < w3.heap.size := by omega
 have hs3x0 : w.heap.size < w3.heap.size := by omega
 have hs3x1 : (w.heap.size + 1) < w3.heap.size := by omega
 obtain ⟨g3x0, g3x1, g3x2, g3x3⟩ := cel4 (B := w.heap.size) (a := .int .i64 (y)) (b := .int .i64 (n)) (c := .bool (l)) (d := .int .i64 (d)) hc3
 obtain ⟨g3x4, g3x5, g3x6, g3x7⟩ := cel4 (B := (w.heap.size + 1)) (a := .int .i64 (z)) (b := .int .i64 (k)) (c := .bool (h)) (d := .int .i64 (f)) hc3
 obtain ⟨g3x8, g3x9, g3x10, g3x11⟩ := cel4 (B := w1.heap.size) (a := .int .i64 (va)) (b := .int .i64 (vb)) (c := .int .i64 (vc)) (d := .int .i64 (vq)) hc3
 go_wp2_with fail
 refine (HD.out _ bel28).mono ?_
 rintro e w4 ⟨rfl, hb4⟩
 have hB4 : Below w.heap.size w w4 := bel28
 have hZ4 := hB4.size
 obtain ⟨hc4, hf4⟩ := bcell hb4
 have hz4 := hb4.size
 try simp at hz4
 have hl4w1 : w1.heap.size < w4.heap.size := by omega
 have hs4x0 : w.heap.size < w4.heap.size := by omega
 have hs4x1 : (w.heap.size + 1) < w4.heap.size := by omega
 obtain ⟨g4x0, g4x1, g4x2, g4x3⟩ := cel4 (B := w.heap.size) (a := .int .i64 (y)) (b := .int .i64 (n)) (c := .bool (l)) (d := .int .i64 (d)) hc4
 obtain ⟨g4x4, g4x5, g4x6, g4x7⟩ := cel4 (B := (w.heap.size + 1)) (a := .int .i64 (z)) (b := .int .i64 (k)) (c := .bool (h)) (d := .int .i64 (f)) hc4
 obtain ⟨g4x8, g4x9, g4x10, g4x11⟩ := cel4 (B := w1.heap.size) (a := .int .i64 (va)) (b := .int .i64 (vb)) (c := .int .i64 (vc)) (d := .int .i64 (vq)) hc4
 go_wp2_with fail
 refine (HE.out _ bel28).mono ?_
 rintro e w5 ⟨rfl, hb5⟩
 have hB5 : Below w.heap.size w w5 := bel28
 have hZ5 := hB5.size
 obtain ⟨hc5, hf5⟩ := bcell hb5
 have hz5 := hb5.size
 try simp at hz5
 have hl5w1 : w1.heap.size < w5.heap.size := by omega
 have hl5w4 : w4.heap.size < w5.heap.size := by omega
 have hs5x0 : w.heap.size < w5.heap.size := by omega
 have hs5x1 : (w.heap.size + 1) < w5.heap.size := by omega
 obtain ⟨g5x0, g5x1, g5x2, g5x3⟩ := cel4 (B := w.heap.size) (a := .int .i64 (y)) (b := .int .i64 (n)) (c := .bool (l)) (d := .int .i64 (d)) hc5
 obtain ⟨g5x4, g5x5, g5x6, g5x7⟩ := cel4 (B := (w.heap.size + 1)) (a := .int .i64 (z)) (b := .int .i64 (k)) (c := .bool (h)) (d := .int .i64 (f)) hc5
 obtain ⟨g5x8, g5x9, g5x10, g5x11⟩ := cel4 (B := w1.heap.size) (a := .int .i64 (va)) (b := .int .i64 (vb)) (c := .int .i64 (vc)) (d := .int .i64 (vq)) hc5
 obtain ⟨g5x12, g5x13, g5x14, g5x15⟩ := cel4 (B := w4.heap.size) (a := .int .i64 (z)) (b := .int .i64 (k)) (c := .bool (h)) (d := .int .i64 (f)) hc5
 go_wp2_with fail
 all_goals (
  refine (HW.out _ bel28).mono ?_
  rintro e w6 ⟨rfl, hb6⟩
  have hB6 : Below w.heap.size w w6 := bel28
  have hZ6 := hB6.size
  obtain ⟨hc6, hf6⟩ := bcell hb6
  have hz6 := hb6.size
  try simp at hz6
  have hl6w1 : w1.heap.size < w6.heap.size := by omega
  have hl6w4 : w4.heap.size < w6.heap.size := by omega
  have hl6w5 : w5.heap.size < w6.heap.size := by omega
  have hs6x0 : w.heap.size < w6.heap.size := by omega
  have hs6x1 : (w.heap.size + 1) < w6.heap.size := by omega
  obtain ⟨g6x0, g6x1, g6x2, g6x3⟩ := cel4 (B := w.heap.size) (a := .int .i64 (y)) (b := .int .i64 (n)) (c := .bool (l)) (d := .int .i64 (d)) hc6
  obtain ⟨g6x4, g6x5, g6x6, g6x7⟩ := cel4 (B := (w.heap.size + 1)) (a := .int .i64 (z)) (b := .int .i64 (k)) (c := .bool (h)) (d := .int .i64 (f)) hc6
  obtain ⟨g6x8, g6x9, g6x10, g6x11⟩ := cel4 (B := w1.heap.size) (a := .int .i64 (va)) (b := .int .i64 (vb)) (c := .int .i64 (vc)) (d := .int .i64 (vq)) hc6
  obtain ⟨g6x12, g6x13, g6x14, g6x15⟩ := cel4 (B := w4.heap.size) (a := .int .i64 (z)) (b := .int .i64 (k)) (c := .bool (h)) (d := .int .i64 (f)) hc6
  obtain ⟨g6x16, g6x17, g6x18, g6x19⟩ := cel4 (B := w5.heap.size) (a := .int .i64 (0)) (b := .int .i64 (0)) (c := .int .i64 (0)) (d := .int .i64 (D1 - D2)) hc6
  go_wp2_with fail
  go_ret
  refine ⟨by first | rfl | (simp [*]; done), ?_⟩
  exact bel
 )
theorem WholeUntil_down (y n : Int) (l : Bool) (d z k : Int) (h : Bool) (f : Int) (unit : Int) (va vb vc vq D1 D2 : Int) (hu : 0 ≤ unit ∧ unit ≤ 255) (hb : -1373427 ≤ D1 ∧ D1 ≤ 2278650 ∧ -1373427 ≤ D2 ∧ D2 ≤ 2278650) (hd : D2 < D1) (p0 : va ≤ 0) (p1 : vb ≤ 0) (p2 : vc ≤ 0) (p3 : vq ≤ 0)  (w : World)
  (HA : Hid (∀ W : World, Below w.heap.size w W → Calls Tryo.prog 17 #[.agg #[.int .i64 (y), .int .i64 (n), .bool (l), .int .i64 (d)], .agg #[.int .i64 (z), .int .i64 (k), .bool (h), .int .i64 (f)], .int .i64 (unit % 4)] W fun e w' => e = .returned (.tuple #[.agg #[.int .i64 (va), .int .i64 (vb), .int .i64 (vc), .int .i64 (vq)], .int .i64 0]) ∧ Below W.heap.size W w'))
  (HB : Hid (∀ W : World, Below w.heap.size w W → Calls Tryo.prog 18 #[.agg #[.int .i64 (y), .int .i64 (n), .bool (l), .int .i64 (d)]] W fun e w' => e = .returned (.tuple #[.int .i64 D1, .int .i64 0]) ∧ Below W.heap.size W w'))
  (HC : Hid (∀ W : World, Below w.heap.size w W → Calls Tryo.prog 18 #[.agg #[.int .i64 (z), .int .i64 (k), .bool (h), .int .i64 (f)]] W fun e w' => e = .returned (.tuple #[.int .i64 D2, .int .i64 0]) ∧ Below W.heap.size W w'))
  (HD : Hid (∀ W : World, Below w.heap.size w W → Calls Tryo.prog 20 #[.agg #[.int .i64 (y), .int .i64 (n), .bool (l), .int .i64 (d)], .agg #[.int .i64 (va), .int .i64 (vb), .int .i64 (vc), .int .i64 (vq)], .int .i64 0] W fun e w' => e = .returned (.tuple #[.agg #[.int .i64 (z), .int .i64 (k), .bool (h), .int .i64 (f)], .int .i64 0]) ∧ Below W.heap.size W w'))
  (HE : Hid (∀ W : World, Below w.heap.size w W → Calls Tryo.prog 17 #[.agg #[.int .i64 (z), .int .i64 (k), .bool (h), .int .i64 (f)], .agg #[.int .i64 (y), .int .i64 (n), .bool (l), .int .i64 (d)], .int .i64 0] W fun e w' => e = .returned (.tuple #[.agg #[.int .i64 (0), .int .i64 (0), .int .i64 (0), .int .i64 (D1 - D2)], .int .i64 0]) ∧ Below W.heap.size W w'))
  (HW : Hid (∀ W : World, Below w.heap.size w W → Calls Tryo.prog 19 #[] W fun e w' => e = .returned (.bool true) ∧ Below W.heap.size W w')) :
  Calls Tryo.prog 4 #[.agg #[.int .i64 (y), .int .i64 (n), .bool (l), .int .i64 (d)], .agg #[.int .i64 (z), .int .i64 (k), .bool (h), .int .i64 (f)], .int .u8 unit] w fun e w' => e = .returned (.bool true) ∧ Below w.heap.size w w' := by
 obtain ⟨u1, u2⟩ := hu
 have k0 : unit.tmod 4 = unit % 4 := Int.tmod_eq_emod_of_nonneg u1
 obtain ⟨d1, d2, d3, d4⟩ := hb
 have ew : wrap64 (D1 - D2) = D1 - D2 := IntWalk.wrap64_in _ ⟨by omega, by omega⟩
 go_enter Tryo.func4, Tryz.ntmps4
 go_wp2_with fail
 refine (HA.out _ bel28).mono ?_
 rintro e w1 ⟨rfl, hb1⟩
 have hB1 : Below w.heap.size w w1 := bel28
 have hZ1 := hB1.size
 obtain ⟨hc1, hf1⟩ := bcell hb1
 have hz1 := hb1.size
 try simp at hz1
 have hs1x0 : w.heap.size < w1.heap.size := by omega
 have hs1x1 : (w.heap.size + 1) < w1.heap.size := by omega
 obtain ⟨g1x0, g1x1, g1x2, g1x3⟩ := cel4 (B := w.heap.size) (a := .int .i64 (y)) (b := .int .i64 (n)) (c := .bool (l)) (d := .int .i64 (d)) hc1
 obtain ⟨g1x4, g1x5, g1x6, g1x7⟩ := cel4 (B := (w.heap.size + 1)) (a := .int .i64 (z)) (b := .int .i64 (k)) (c := .bool (h)) (d := .int .i64 (f)) hc1
 go_wp2_with fail
 refine (HB.out _ bel28).mono ?_
 rintro e w2 ⟨rfl, hb2⟩
 have hB2 : Below w.heap.size w w2 := bel28
 have hZ2 := hB2.size
 obtain ⟨hc2, hf2⟩ := bcell hb2
 have hz2 := hb2.size
 try simp at hz2
 have hl2w1 : w1.heap.size < w2.heap.size := by omega
 have hs2x0 : w.heap.size < w2.heap.size := by omega
 have hs2x1 : (w.heap.size + 1) < w2.heap.size := by omega
 obtain ⟨g2x0, g2x1, g2x2, g2x3⟩ := cel4 (B := w.heap.size) (a := .int .i64 (y)) (b := .int .i64 (n)) (c := .bool (l)) (d := .int .i64 (d)) hc2
 obtain ⟨g2x4, g2x5, g2x6, g2x7⟩ := cel4 (B := (w.heap.size + 1)) (a := .int .i64 (z)) (b := .int .i64 (k)) (c := .bool (h)) (d := .int .i64 (f)) hc2
 obtain ⟨g2x8, g2x9, g2x10, g2x11⟩ := cel4 (B := w1.heap.size) (a := .int .i64 (va)) (b := .int .i64 (vb)) (c := .int .i64 (vc)) (d := .int .i64 (vq)) hc2
 go_wp2_with fail
 refine (HC.out _ bel28).mono ?_
 rintro e w3 ⟨rfl, hb3⟩
 have hB3 : Below w.heap.size w w3 := bel28
 have hZ3 := hB3.size
 obtain ⟨hc3, hf3⟩ := bcell hb3
 have hz3 := hb3.size
 try simp at hz3
 have hl3w1 : w1.heap.size < w3.heap.size := by omega
 have hs3x0 : w.heap.size < w3.heap.size := by omega
 have hs3x1 : (w.heap.size + 1) < w3.heap.size := by omega
 obtain ⟨g3x0, g3x1, g3x2, g3x3⟩ := cel4 (B := w.heap.size) (a := .int .i64 (y)) (b := .int .i64 (n)) (c := .bool (l)) (d := .int .i64 (d)) hc3
 obtain ⟨g3x4, g3x5, g3x6, g3x7⟩ := cel4 (B := (w.heap.size + 1)) (a := .int .i64 (z)) (b := .int .i64 (k)) (c := .bool (h)) (d := .int .i64 (f)) hc3
 obtain ⟨g3x8, g3x9, g3x10, g3x11⟩ := cel4 (B := w1.heap.size) (a := .int .i64 (va)) (b := .int .i64 (vb)) (c := .int .i64 (vc)) (d := .int .i64 (vq)) hc3
 go_wp2_with fail
 refine (HD.out _ bel28).mono ?_
 rintro e w4 ⟨rfl, hb4⟩
 have hB4 : Below w.heap.size w w4 := bel28
 have hZ4 := hB4.size
 obtain ⟨hc4, hf4⟩ := bcell hb4
 have hz4 := hb4.size
 try simp at hz4
 have hl4w1 : w1.heap.size < w4.heap.size := by omega
 have hs4x0 : w.heap.size < w4.heap.size := by omega
 have hs4x1 : (w.heap.size + 1) < w4.heap.size := by omega
 obtain ⟨g4x0, g4x1, g4x2, g4x3⟩ := cel4 (B := w.heap.size) (a := .int .i64 (y)) (b := .int .i64 (n)) (c := .bool (l)) (d := .int .i64 (d)) hc4
 obtain ⟨g4x4, g4x5, g4x6, g4x7⟩ := cel4 (B := (w.heap.size + 1)) (a := .int .i64 (z)) (b := .int .i64 (k)) (c := .bool (h)) (d := .int .i64 (f)) hc4
 obtain ⟨g4x8, g4x9, g4x10, g4x11⟩ := cel4 (B := w1.heap.size) (a := .int .i64 (va)) (b := .int .i64 (vb)) (c := .int .i64 (vc)) (d := .int .i64 (vq)) hc4
 go_wp2_with fail
 refine (HE.out _ bel28).mono ?_
 rintro e w5 ⟨rfl, hb5⟩
 have hB5 : Below w.heap.size w w5 := bel28
 have hZ5 := hB5.size
 obtain ⟨hc5, hf5⟩ := bcell hb5
 have hz5 := hb5.size
 try simp at hz5
 have hl5w1 : w1.heap.size < w5.heap.size := by omega
 have hl5w4 : w4.heap.size < w5.heap.size := by omega
 have hs5x0 : w.heap.size < w5.heap.size := by omega
 have hs5x1 : (w.heap.size + 1) < w5.heap.size := by omega
 obtain ⟨g5x0, g5x1, g5x2, g5x3⟩ := cel4 (B := w.heap.size) (a := .int .i64 (y)) (b := .int .i64 (n)) (c := .bool (l)) (d := .int .i64 (d)) hc5
 obtain ⟨g5x4, g5x5, g5x6, g5x7⟩ := cel4 (B := (w.heap.size + 1)) (a := .int .i64 (z)) (b := .int .i64 (k)) (c := .bool (h)) (d := .int .i64 (f)) hc5
 obtain ⟨g5x8, g5x9, g5x10, g5x11⟩ := cel4 (B := w1.heap.size) (a := .int .i64 (va)) (b := .int .i64 (vb)) (c := .int .i64 (vc)) (d := .int .i64 (vq)) hc5
 obtain ⟨g5x12, g5x13, g5x14, g5x15⟩ := cel4 (B := w4.heap.size) (a := .int .i64 (z)) (b := .int .i64 (k)) (c := .bool (h)) (d := .int .i64 (f)) hc5
 go_wp2_with fail
 all_goals (
  refine (HW.out _ bel28).mono ?_
  rintro e w6 ⟨rfl, hb6⟩
  have hB6 : Below w.heap.size w w6 := bel28
  have hZ6 := hB6.size
  obtain ⟨hc6, hf6⟩ := bcell hb6
  have hz6 := hb6.size
  try simp at hz6
  have hl6w1 : w1.heap.size < w6.heap.size := by omega
  have hl6w4 : w4.heap.size < w6.heap.size := by omega
  have hl6w5 : w5.heap.size < w6.heap.size := by omega
  have hs6x0 : w.heap.size < w6.heap.size := by omega
  have hs6x1 : (w.heap.size + 1) < w6.heap.size := by omega
  obtain ⟨g6x0, g6x1, g6x2, g6x3⟩ := cel4 (B := w.heap.size) (a := .int .i64 (y)) (b := .int .i64 (n)) (c := .bool (l)) (d := .int .i64 (d)) hc6
  obtain ⟨g6x4, g6x5, g6x6, g6x7⟩ := cel4 (B := (w.heap.size + 1)) (a := .int .i64 (z)) (b := .int .i64 (k)) (c := .bool (h)) (d := .int .i64 (f)) hc6
  obtain ⟨g6x8, g6x9, g6x10, g6x11⟩ := cel4 (B := w1.heap.size) (a := .int .i64 (va)) (b := .int .i64 (vb)) (c := .int .i64 (vc)) (d := .int .i64 (vq)) hc6
  obtain ⟨g6x12, g6x13, g6x14, g6x15⟩ := cel4 (B := w4.heap.size) (a := .int .i64 (z)) (b := .int .i64 (k)) (c := .bool (h)) (d := .int .i64 (f)) hc6
  obtain ⟨g6x16, g6x17, g6x18, g6x19⟩ := cel4 (B := w5.heap.size) (a := .int .i64 (0)) (b := .int .i64 (0)) (c := .int .i64 (0)) (d := .int .i64 (D1 - D2)) hc6
  go_wp2_with fail
  go_ret
  refine ⟨by first | rfl | (simp [*]; done), ?_⟩
  exact bel
 )
end Go.Proofs.YtankichdmlkfmaaGreatDoor
