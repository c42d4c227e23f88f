/- Layer 14: a date, read of its words: its ways. -/
import Derived.Test.YtagmdglmflcegaaGreatDoorName4
import Derived.Lib.SmallJoins
import Derived.Outline
namespace Go.Proofs.YtagmdglmflcegaaGreatDoor
open Go.ChangeShapes Go.WideShapes Go.ChangeAt Go.RowKit
set_option linter.unusedVariables false
set_option maxRecDepth 100000
set_option maxHeartbeats 4000000 in
theorem name_Read_x (s fs rs : ByteArray) (fd : Bool)  (m : Int) (w : World) (hT : Tab w 2 kevCells) (hL : Tab w 3 lenCells) (hN : Tab w 0 nameCells) (hm : MaxAt w m)
    (HU : Hid (∀ w : World, MaxAt w m → Calls Tryz.prog 38 #[.string s, .string ⟨#[32]⟩] w fun e w' => e = .returned (.tuple #[.string fs, .string rs, .bool fd]) ∧ Below w.heap.size w w'))
    (HX : Hid (∀ w : World, Calls Tryz.prog 39 #[.string rs, .string ⟨#[32]⟩] w fun e w' => e = .returned (.int .i64 (-1)) ∧ w = w'))
    : Calls Tryz.prog 13 #[.string s] w fun e w' => e = .returned (.tuple #[.agg #[.int .i64 (0), .int .i64 (0), .bool (false), .int .i64 (0)], .int .i64 (5)]) ∧ Below w.heap.size w w' := by
  go_enter Tryz.func13, Tryz.ntmps13
  go_wp2_with fail
  have hmA := MaxAt.below hm (ba w (.cells #[.int .i64 0, .int .i64 0, .bool false, .int .i64 0] 25))
  refine (HU.out _ hmA).mono ?_
  rintro e w1 ⟨rfl, hb1⟩
  obtain ⟨hc1, hf1⟩ := bcell hb1
  have hz1 := hb1.size
  try simp at hz1
  have hs1x0 : w.heap.size < w1.heap.size := by omega
  have g1x0 : w1.cell? ⟨w.heap.size, 0, none⟩ = some (.int .i64 (0)) := (hc1 _ _ (by first | omega | (simp; done) | (simp; omega))).trans (by first | (with_reducible assumption) | (simp [go_sem]; done) | (simp [go_sem, *]; done) | assumption)
  have g1x1 : w1.cell? ⟨w.heap.size, 1, none⟩ = some (.int .i64 (0)) := (hc1 _ _ (by first | omega | (simp; done) | (simp; omega))).trans (by first | (with_reducible assumption) | (simp [go_sem]; done) | (simp [go_sem, *]; done) | assumption)
  have g1x2 : w1.cell? ⟨w.heap.size, 2, none⟩ = some (.bool (false)) := (hc1 _ _ (by first | omega | (simp; done) | (simp; omega))).trans (by first | (with_reducible assumption) | (simp [go_sem]; done) | (simp [go_sem, *]; done) | assumption)
  have g1x3 : w1.cell? ⟨w.heap.size, 3, none⟩ = some (.int .i64 (0)) := (hc1 _ _ (by first | omega | (simp; done) | (simp; omega))).trans (by first | (with_reducible assumption) | (simp [go_sem]; done) | (simp [go_sem, *]; done) | assumption)
  have z1x0 : w1.frozen? ⟨w.heap.size, 0, none⟩ = false := (hf1 _ _ (by first | omega | (simp; done) | (simp; omega))).trans (by first | (with_reducible assumption) | (simp [go_sem]; done) | (simp [go_sem, *]; done))
  have z1x1 : w1.frozen? ⟨w.heap.size, 1, none⟩ = false := (hf1 _ _ (by first | omega | (simp; done) | (simp; omega))).trans (by first | (with_reducible assumption) | (simp [go_sem]; done) | (simp [go_sem, *]; done))
  have z1x2 : w1.frozen? ⟨w.heap.size, 2, none⟩ = false := (hf1 _ _ (by first | omega | (simp; done) | (simp; omega))).trans (by first | (with_reducible assumption) | (simp [go_sem]; done) | (simp [go_sem, *]; done))
  have z1x3 : w1.frozen? ⟨w.heap.size, 3, none⟩ = false := (hf1 _ _ (by first | omega | (simp; done) | (simp; omega))).trans (by first | (with_reducible assumption) | (simp [go_sem]; done) | (simp [go_sem, *]; done))
  clear hc1 hf1
  go_wp2_with fail
  refine (HX.out _).mono ?_
  rintro e w' ⟨rfl, rfl⟩
  go_wp2_with fail
  refine bodyPost_ret (v := .tuple #[.agg #[.int .i64 (0), .int .i64 (0), .bool (false), .int .i64 (0)], .int .i64 (5)]) (by simp [results, Tryz.results13, go_sem, *]) rfl ⟨rfl, ?_⟩
  repeat (first | (with_reducible exact Below.refl _ _) | (with_reducible assumption) | (with_reducible refine bdrew ?_) | (with_reducible refine baa ?_ _) | (with_reducible refine bs ?_ (by first | exact Nat.le_refl _ | omega | (simp; done) | (simp; omega)) _) | (with_reducible refine bt ?_ (by with_reducible assumption)))
set_option maxHeartbeats 4000000 in
theorem name_Read_s1 (s fs rs : ByteArray) (fd : Bool) (k : Nat) (dd yy n : Int) (l : Bool) (o2 o3 : Bool) (m : Int) (w : World) (hT : Tab w 2 kevCells) (hL : Tab w 3 lenCells) (hN : Tab w 0 nameCells) (hm : MaxAt w m)
    (HU : Hid (∀ w : World, MaxAt w m → Calls Tryz.prog 38 #[.string s, .string ⟨#[32]⟩] w fun e w' => e = .returned (.tuple #[.string fs, .string rs, .bool fd]) ∧ Below w.heap.size w w'))
    (HX : Hid (∀ w : World, Calls Tryz.prog 39 #[.string rs, .string ⟨#[32]⟩] w fun e w' => e = .returned (.int .i64 (k : Int)) ∧ w = w'))
    (k0 : (0 : Int) ≤ (k : Int)) (k1 : (k : Int) < (rs.size : Int)) (k2 : (k : Int) + 1 ≤ (rs.size : Int)) (hrs : rs.size ≤ 1000000)
    (HD : Hid (∀ w : World, Calls Tryz.prog 40 #[.string fs, .int .i64 2] w fun e w' => e = .returned (.tuple #[.int .i64 dd, .bool false]) ∧ w = w'))
    (HK : Hid (∀ w : World, Tab w 0 nameCells → Calls Tryz.prog 41 #[] w fun e w' => e = .returned (.map (some w.heap.size)) ∧ w'.heap[w.heap.size]? = some (.map (codesAt 12) 14) ∧ Below w.heap.size w w'))
    (HL2 : Hid (∀ (b : Nat) (w : World), w.heap[b]? = some (.map (codesAt 12) 14) → (Instr.lookup 64 (.map (some b)) (.string (rs.extract 0 k)) true).run Tryz.prog w = .ok (.tuple #[.agg #[.int .i64 n, .bool l], .bool o2]) w))
    (HY : Hid (∀ w : World, Calls Tryz.prog 40 #[.string (rs.extract (k + 1) rs.size), .int .i64 4] w fun e w' => e = .returned (.tuple #[.int .i64 yy, .bool o3]) ∧ w = w'))
    : Calls Tryz.prog 13 #[.string s] w fun e w' => e = .returned (.tuple #[.agg #[.int .i64 (0), .int .i64 (0), .bool (false), .int .i64 (0)], .int .i64 (5)]) ∧ Below w.heap.size w w' := by
  go_enter Tryz.func13, Tryz.ntmps13
  go_wp2_with fail
  have hmA := MaxAt.below hm (ba w (.cells #[.int .i64 0, .int .i64 0, .bool false, .int .i64 0] 25))
  refine (HU.out _ hmA).mono ?_
  rintro e w1 ⟨rfl, hb1⟩
  obtain ⟨hc1, hf1⟩ := bcell hb1
  have hz1 := hb1.size
  try simp at hz1
  have hs1x0 : w.heap.size < w1.heap.size := by omega
  have g1x0 : w1.cell? ⟨w.heap.size, 0, none⟩ = some (.int .i64 (0)) := (hc1 _ _ (by first | omega | (simp; done) | (simp; omega))).trans (by first | (with_reducible assumption) | (simp [go_sem]; done) | (simp [go_sem, *]; done) | assumption)
  have g1x1 : w1.cell? ⟨w.heap.size, 1, none⟩ = some (.int .i64 (0)) := (hc1 _ _ (by first | omega | (simp; done) | (simp; omega))).trans (by first | (with_reducible assumption) | (simp [go_sem]; done) | (simp [go_sem, *]; done) | assumption)
  have g1x2 : w1.cell? ⟨w.heap.size, 2, none⟩ = some (.bool (false)) := (hc1 _ _ (by first | omega | (simp; done) | (simp; omega))).trans (by first | (with_reducible assumption) | (simp [go_sem]; done) | (simp [go_sem, *]; done) | assumption)
  have g1x3 : w1.cell? ⟨w.heap.size, 3, none⟩ = some (.int .i64 (0)) := (hc1 _ _ (by first | omega | (simp; done) | (simp; omega))).trans (by first | (with_reducible assumption) | (simp [go_sem]; done) | (simp [go_sem, *]; done) | assumption)
  have z1x0 : w1.frozen? ⟨w.heap.size, 0, none⟩ = false := (hf1 _ _ (by first | omega | (simp; done) | (simp; omega))).trans (by first | (with_reducible assumption) | (simp [go_sem]; done) | (simp [go_sem, *]; done))
  have z1x1 : w1.frozen? ⟨w.heap.size, 1, none⟩ = false := (hf1 _ _ (by first | omega | (simp; done) | (simp; omega))).trans (by first | (with_reducible assumption) | (simp [go_sem]; done) | (simp [go_sem, *]; done))
  have z1x2 : w1.frozen? ⟨w.heap.size, 2, none⟩ = false := (hf1 _ _ (by first | omega | (simp; done) | (simp; omega))).trans (by first | (with_reducible assumption) | (simp [go_sem]; done) | (simp [go_sem, *]; done))
  have z1x3 : w1.frozen? ⟨w.heap.size, 3, none⟩ = false := (hf1 _ _ (by first | omega | (simp; done) | (simp; omega))).trans (by first | (with_reducible assumption) | (simp [go_sem]; done) | (simp [go_sem, *]; done))
  clear hc1 hf1
  go_wp2_with fail
  refine (HX.out _).mono ?_
  rintro e w' ⟨rfl, rfl⟩
  go_wp2_with fail
  go_region
  all_goals go_wp2_with fail
  all_goals (refine (HD.out _).mono ?_; rintro e w' ⟨rfl, rfl⟩)
  all_goals go_wp2_with fail
  all_goals (
    refine (HK.out _ (Tab.below hN (by repeat (first | (with_reducible exact Below.refl _ _) | (with_reducible assumption) | (with_reducible refine bdrew ?_) | (with_reducible refine baa ?_ _) | (with_reducible refine bs ?_ (by first | exact Nat.le_refl _ | omega | (simp; done) | (simp; omega)) _) | (with_reducible refine bt ?_ (by with_reducible assumption)))))).mono ?_
    rintro e w2 ⟨rfl, hmp, hb2⟩
    obtain ⟨hc2, hf2⟩ := bcell hb2
    have hz2 := hb2.size
    try simp at hz2
    have hs2x0 : w.heap.size < w2.heap.size := by omega
    have g2x0 : w2.cell? ⟨w.heap.size, 0, none⟩ = some (.int .i64 (0)) := (hc2 _ _ (by first | omega | (simp; done) | (simp; omega))).trans (by first | (with_reducible assumption) | (simp [go_sem]; done) | (simp [go_sem, *]; done) | assumption)
    have g2x1 : w2.cell? ⟨w.heap.size, 1, none⟩ = some (.int .i64 (0)) := (hc2 _ _ (by first | omega | (simp; done) | (simp; omega))).trans (by first | (with_reducible assumption) | (simp [go_sem]; done) | (simp [go_sem, *]; done) | assumption)
    have g2x2 : w2.cell? ⟨w.heap.size, 2, none⟩ = some (.bool (false)) := (hc2 _ _ (by first | omega | (simp; done) | (simp; omega))).trans (by first | (with_reducible assumption) | (simp [go_sem]; done) | (simp [go_sem, *]; done) | assumption)
    have g2x3 : w2.cell? ⟨w.heap.size, 3, none⟩ = some (.int .i64 (0)) := (hc2 _ _ (by first | omega | (simp; done) | (simp; omega))).trans (by first | (with_reducible assumption) | (simp [go_sem]; done) | (simp [go_sem, *]; done) | assumption)
    have z2x0 : w2.frozen? ⟨w.heap.size, 0, none⟩ = false := (hf2 _ _ (by first | omega | (simp; done) | (simp; omega))).trans (by first | (with_reducible assumption) | (simp [go_sem]; done) | (simp [go_sem, *]; done))
    have z2x1 : w2.frozen? ⟨w.heap.size, 1, none⟩ = false := (hf2 _ _ (by first | omega | (simp; done) | (simp; omega))).trans (by first | (with_reducible assumption) | (simp [go_sem]; done) | (simp [go_sem, *]; done))
    have z2x2 : w2.frozen? ⟨w.heap.size, 2, none⟩ = false := (hf2 _ _ (by first | omega | (simp; done) | (simp; omega))).trans (by first | (with_reducible assumption) | (simp [go_sem]; done) | (simp [go_sem, *]; done))
    have z2x3 : w2.frozen? ⟨w.heap.size, 3, none⟩ = false := (hf2 _ _ (by first | omega | (simp; done) | (simp; omega))).trans (by first | (with_reducible assumption) | (simp [go_sem]; done) | (simp [go_sem, *]; done))
    clear hc2 hf2
    have hlk := HL2.out w1.heap.size w2 hmp
    have hq2 : w1.heap.size < w2.heap.size := by
      rcases Nat.lt_or_ge w1.heap.size w2.heap.size with c | c
      · exact c
      · have : w2.heap[w1.heap.size]? = none := Array.getElem?_eq_none (by simpa using c)
        simp_all
    go_wp2_with fail
    clear hlk hmp hq2
  )
  all_goals (
    refine (HY.out _).mono ?_
    rintro e w' ⟨rfl, rfl⟩
    go_wp2_with fail
  )
  all_goals (
    refine bodyPost_ret (v := .tuple #[.agg #[.int .i64 (0), .int .i64 (0), .bool (false), .int .i64 (0)], .int .i64 (5)]) (by simp [results, Tryz.results13, go_sem, *]) rfl ⟨rfl, ?_⟩
    repeat (first | (with_reducible exact Below.refl _ _) | (with_reducible assumption) | (with_reducible refine bdrew ?_) | (with_reducible refine baa ?_ _) | (with_reducible refine bs ?_ (by first | exact Nat.le_refl _ | omega | (simp; done) | (simp; omega)) _) | (with_reducible refine bt ?_ (by with_reducible assumption)))
  )
set_option maxHeartbeats 4000000 in
theorem name_Read_s2 (s fs rs : ByteArray) (fd : Bool) (k : Nat) (dd yy n : Int) (l : Bool) (o3 : Bool) (m : Int) (w : World) (hT : Tab w 2 kevCells) (hL : Tab w 3 lenCells) (hN : Tab w 0 nameCells) (hm : MaxAt w m)
    (HU : Hid (∀ w : World, MaxAt w m → Calls Tryz.prog 38 #[.string s, .string ⟨#[32]⟩] w fun e w' => e = .returned (.tuple #[.string fs, .string rs, .bool fd]) ∧ Below w.heap.size w w'))
    (HX : Hid (∀ w : World, Calls Tryz.prog 39 #[.string rs, .string ⟨#[32]⟩] w fun e w' => e = .returned (.int .i64 (k : Int)) ∧ w = w'))
    (k0 : (0 : Int) ≤ (k : Int)) (k1 : (k : Int) < (rs.size : Int)) (k2 : (k : Int) + 1 ≤ (rs.size : Int)) (hrs : rs.size ≤ 1000000)
    (HD : Hid (∀ w : World, Calls Tryz.prog 40 #[.string fs, .int .i64 2] w fun e w' => e = .returned (.tuple #[.int .i64 dd, .bool true]) ∧ w = w'))
    (HK : Hid (∀ w : World, Tab w 0 nameCells → Calls Tryz.prog 41 #[] w fun e w' => e = .returned (.map (some w.heap.size)) ∧ w'.heap[w.heap.size]? = some (.map (codesAt 12) 14) ∧ Below w.heap.size w w'))
    (HL2 : Hid (∀ (b : Nat) (w : World), w.heap[b]? = some (.map (codesAt 12) 14) → (Instr.lookup 64 (.map (some b)) (.string (rs.extract 0 k)) true).run Tryz.prog w = .ok (.tuple #[.agg #[.int .i64 n, .bool l], .bool false]) w))
    (HY : Hid (∀ w : World, Calls Tryz.prog 40 #[.string (rs.extract (k + 1) rs.size), .int .i64 4] w fun e w' => e = .returned (.tuple #[.int .i64 yy, .bool o3]) ∧ w = w'))
    : Calls Tryz.prog 13 #[.string s] w fun e w' => e = .returned (.tuple #[.agg #[.int .i64 (0), .int .i64 (0), .bool (false), .int .i64 (0)], .int .i64 (5)]) ∧ Below w.heap.size w w' := by
  go_enter Tryz.func13, Tryz.ntmps13
  go_wp2_with fail
  have hmA := MaxAt.below hm (ba w (.cells #[.int .i64 0, .int .i64 0, .bool false, .int .i64 0] 25))
  refine (HU.out _ hmA).mono ?_
  rintro e w1 ⟨rfl, hb1⟩
  obtain ⟨hc1, hf1⟩ := bcell hb1
  have hz1 := hb1.size
  try simp at hz1
  have hs1x0 : w.heap.size < w1.heap.size := by omega
  have g1x0 : w1.cell? ⟨w.heap.size, 0, none⟩ = some (.int .i64 (0)) := (hc1 _ _ (by first | omega | (simp; done) | (simp; omega))).trans (by first | (with_reducible assumption) | (simp [go_sem]; done) | (simp [go_sem, *]; done) | assumption)
  have g1x1 : w1.cell? ⟨w.heap.size, 1, none⟩ = some (.int .i64 (0)) := (hc1 _ _ (by first | omega | (simp; done) | (simp; omega))).trans (by first | (with_reducible assumption) | (simp [go_sem]; done) | (simp [go_sem, *]; done) | assumption)
  have g1x2 : w1.cell? ⟨w.heap.size, 2, none⟩ = some (.bool (false)) := (hc1 _ _ (by first | omega | (simp; done) | (simp; omega))).trans (by first | (with_reducible assumption) | (simp [go_sem]; done) | (simp [go_sem, *]; done) | assumption)
  have g1x3 : w1.cell? ⟨w.heap.size, 3, none⟩ = some (.int .i64 (0)) := (hc1 _ _ (by first | omega | (simp; done) | (simp; omega))).trans (by first | (with_reducible assumption) | (simp [go_sem]; done) | (simp [go_sem, *]; done) | assumption)
  have z1x0 : w1.frozen? ⟨w.heap.size, 0, none⟩ = false := (hf1 _ _ (by first | omega | (simp; done) | (simp; omega))).trans (by first | (with_reducible assumption) | (simp [go_sem]; done) | (simp [go_sem, *]; done))
  have z1x1 : w1.frozen? ⟨w.heap.size, 1, none⟩ = false := (hf1 _ _ (by first | omega | (simp; done) | (simp; omega))).trans (by first | (with_reducible assumption) | (simp [go_sem]; done) | (simp [go_sem, *]; done))
  have z1x2 : w1.frozen? ⟨w.heap.size, 2, none⟩ = false := (hf1 _ _ (by first | omega | (simp; done) | (simp; omega))).trans (by first | (with_reducible assumption) | (simp [go_sem]; done) | (simp [go_sem, *]; done))
  have z1x3 : w1.frozen? ⟨w.heap.size, 3, none⟩ = false := (hf1 _ _ (by first | omega | (simp; done) | (simp; omega))).trans (by first | (with_reducible assumption) | (simp [go_sem]; done) | (simp [go_sem, *]; done))
  clear hc1 hf1
  go_wp2_with fail
  refine (HX.out _).mono ?_
  rintro e w' ⟨rfl, rfl⟩
  go_wp2_with fail
  go_region
  all_goals go_wp2_with fail
  all_goals (refine (HD.out _).mono ?_; rintro e w' ⟨rfl, rfl⟩)
  all_goals go_wp2_with fail
  all_goals (
    refine (HK.out _ (Tab.below hN (by repeat (first | (with_reducible exact Below.refl _ _) | (with_reducible assumption) | (with_reducible refine bdrew ?_) | (with_reducible refine baa ?_ _) | (with_reducible refine bs ?_ (by first | exact Nat.le_refl _ | omega | (simp; done) | (simp; omega)) _) | (with_reducible refine bt ?_ (by with_reducible assumption)))))).mono ?_
    rintro e w2 ⟨rfl, hmp, hb2⟩
    obtain ⟨hc2, hf2⟩ := bcell hb2
    have hz2 := hb2.size
    try simp at hz2
    have hs2x0 : w.heap.size < w2.heap.size := by omega
    have g2x0 : w2.cell? ⟨w.heap.size, 0, none⟩ = some (.int .i64 (0)) := (hc2 _ _ (by first | omega | (simp; done) | (simp; omega))).trans (by first | (with_reducible assumption) | (simp [go_sem]; done) | (simp [go_sem, *]; done) | assumption)
    have g2x1 : w2.cell? ⟨w.heap.size, 1, none⟩ = some (.int .i64 (0)) := (hc2 _ _ (by first | omega | (simp; done) | (simp; omega))).trans (by first | (with_reducible assumption) | (simp [go_sem]; done) | (simp [go_sem, *]; done) | assumption)
    have g2x2 : w2.cell? ⟨w.heap.size, 2, none⟩ = some (.bool (false)) := (hc2 _ _ (by first | omega | (simp; done) | (simp; omega))).trans (by first | (with_reducible assumption) | (simp [go_sem]; done) | (simp [go_sem, *]; done) | assumption)
    have g2x3 : w2.cell? ⟨w.heap.size, 3, none⟩ = some (.int .i64 (0)) := (hc2 _ _ (by first | omega | (simp; done) | (simp; omega))).trans (by first | (with_reducible assumption) | (simp [go_sem]; done) | (simp [go_sem, *]; done) | assumption)
    have z2x0 : w2.frozen? ⟨w.heap.size, 0, none⟩ = false := (hf2 _ _ (by first | omega | (simp; done) | (simp; omega))).trans (by first | (with_reducible assumption) | (simp [go_sem]; done) | (simp [go_sem, *]; done))
    have z2x1 : w2.frozen? ⟨w.heap.size, 1, none⟩ = false := (hf2 _ _ (by first | omega | (simp; done) | (simp; omega))).trans (by first | (with_reducible assumption) | (simp [go_sem]; done) | (simp [go_sem, *]; done))
    have z2x2 : w2.frozen? ⟨w.heap.size, 2, none⟩ = false := (hf2 _ _ (by first | omega | (simp; done) | (simp; omega))).trans (by first | (with_reducible assumption) | (simp [go_sem]; done) | (simp [go_sem, *]; done))
    have z2x3 : w2.frozen? ⟨w.heap.size, 3, none⟩ = false := (hf2 _ _ (by first | omega | (simp; done) | (simp; omega))).trans (by first | (with_reducible assumption) | (simp [go_sem]; done) | (simp [go_sem, *]; done))
    clear hc2 hf2
    have hlk := HL2.out w1.heap.size w2 hmp
    have hq2 : w1.heap.size < w2.heap.size := by
      rcases Nat.lt_or_ge w1.heap.size w2.heap.size with c | c
      · exact c
      · have : w2.heap[w1.heap.size]? = none := Array.getElem?_eq_none (by simpa using c)
        simp_all
    go_wp2_with fail
    clear hlk hmp hq2
  )
  all_goals (
    refine (HY.out _).mono ?_
    rintro e w' ⟨rfl, rfl⟩
    go_wp2_with fail
  )
  all_goals (
    refine bodyPost_ret (v := .tuple #[.agg #[.int .i64 (0), .int .i64 (0), .bool (false), .int .i64 (0)], .int .i64 (5)]) (by simp [results, Tryz.results13, go_sem, *]) rfl ⟨rfl, ?_⟩
    repeat (first | (with_reducible exact Below.refl _ _) | (with_reducible assumption) | (with_reducible refine bdrew ?_) | (with_reducible refine baa ?_ _) | (with_reducible refine bs ?_ (by first | exact Nat.le_refl _ | omega | (simp; done) | (simp; omega)) _) | (with_reducible refine bt ?_ (by with_reducible assumption)))
  )
set_option maxHeartbeats 4000000 in
theorem name_Read_s3 (s fs rs : ByteArray) (fd : Bool) (k : Nat) (dd yy n : Int) (l : Bool) (m : Int) (w : World) (hT : Tab w 2 kevCells) (hL : Tab w 3 lenCells) (hN : Tab w 0 nameCells) (hm : MaxAt w m)
    (HU : Hid (∀ w : World, MaxAt w m → Calls Tryz.prog 38 #[.string s, .string ⟨#[32]⟩] w fun e w' => e = .returned (.tuple #[.string fs, .string rs, .bool fd]) ∧ Below w.heap.size w w'))
    (HX : Hid (∀ w : World, Calls Tryz.prog 39 #[.string rs, .string ⟨#[32]⟩] w fun e w' => e = .returned (.int .i64 (k : Int)) ∧ w = w'))
    (k0 : (0 : Int) ≤ (k : Int)) (k1 : (k : Int) < (rs.size : Int)) (k2 : (k : Int) + 1 ≤ (rs.size : Int)) (hrs : rs.size ≤ 1000000)
    (HD : Hid (∀ w : World, Calls Tryz.prog 40 #[.string fs, .int .i64 2] w fun e w' => e = .returned (.tuple #[.int .i64 dd, .bool true]) ∧ w = w'))
    (HK : Hid (∀ w : World, Tab w 0 nameCells → Calls Tryz.prog 41 #[] w fun e w' => e = .returned (.map (some w.heap.size)) ∧ w'.heap[w.heap.size]? = some (.map (codesAt 12) 14) ∧ Below w.heap.size w w'))
    (HL2 : Hid (∀ (b : Nat) (w : World), w.heap[b]? = some (.map (codesAt 12) 14) → (Instr.lookup 64 (.map (some b)) (.string (rs.extract 0 k)) true).run Tryz.prog w = .ok (.tuple #[.agg #[.int .i64 n, .bool l], .bool true]) w))
    (HY : Hid (∀ w : World, Calls Tryz.prog 40 #[.string (rs.extract (k + 1) rs.size), .int .i64 4] w fun e w' => e = .returned (.tuple #[.int .i64 yy, .bool false]) ∧ w = w'))
    : Calls Tryz.prog 13 #[.string s] w fun e w' => e = .returned (.tuple #[.agg #[.int .i64 (0), .int .i64 (0), .bool (false), .int .i64 (0)], .int .i64 (5)]) ∧ Below w.heap.size w w' := by
  go_enter Tryz.func13, Tryz.ntmps13
  go_wp2_with fail
  have hmA := MaxAt.below hm (ba w (.cells #[.int .i64 0, .int .i64 0, .bool false, .int .i64 0] 25))
  refine (HU.out _ hmA).mono ?_
  rintro e w1 ⟨rfl, hb1⟩
  obtain ⟨hc1, hf1⟩ := bcell hb1
  have hz1 := hb1.size
  try simp at hz1
  have hs1x0 : w.heap.size < w1.heap.size := by omega
  have g1x0 : w1.cell? ⟨w.heap.size, 0, none⟩ = some (.int .i64 (0)) := (hc1 _ _ (by first | omega | (simp; done) | (simp; omega))).trans (by first | (with_reducible assumption) | (simp [go_sem]; done) | (simp [go_sem, *]; done) | assumption)
  have g1x1 : w1.cell? ⟨w.heap.size, 1, none⟩ = some (.int .i64 (0)) := (hc1 _ _ (by first | omega | (simp; done) | (simp; omega))).trans (by first | (with_reducible assumption) | (simp [go_sem]; done) | (simp [go_sem, *]; done) | assumption)
  have g1x2 : w1.cell? ⟨w.heap.size, 2, none⟩ = some (.bool (false)) := (hc1 _ _ (by first | omega | (simp; done) | (simp; omega))).trans (by first | (with_reducible assumption) | (simp [go_sem]; done) | (simp [go_sem, *]; done) | assumption)
  have g1x3 : w1.cell? ⟨w.heap.size, 3, none⟩ = some (.int .i64 (0)) := (hc1 _ _ (by first | omega | (simp; done) | (simp; omega))).trans (by first | (with_reducible assumption) | (simp [go_sem]; done) | (simp [go_sem, *]; done) | assumption)
  have z1x0 : w1.frozen? ⟨w.heap.size, 0, none⟩ = false := (hf1 _ _ (by first | omega | (simp; done) | (simp; omega))).trans (by first | (with_reducible assumption) | (simp [go_sem]; done) | (simp [go_sem, *]; done))
  have z1x1 : w1.frozen? ⟨w.heap.size, 1, none⟩ = false := (hf1 _ _ (by first | omega | (simp; done) | (simp; omega))).trans (by first | (with_reducible assumption) | (simp [go_sem]; done) | (simp [go_sem, *]; done))
  have z1x2 : w1.frozen? ⟨w.heap.size, 2, none⟩ = false := (hf1 _ _ (by first | omega | (simp; done) | (simp; omega))).trans (by first | (with_reducible assumption) | (simp [go_sem]; done) | (simp [go_sem, *]; done))
  have z1x3 : w1.frozen? ⟨w.heap.size, 3, none⟩ = false := (hf1 _ _ (by first | omega | (simp; done) | (simp; omega))).trans (by first | (with_reducible assumption) | (simp [go_sem]; done) | (simp [go_sem, *]; done))
  clear hc1 hf1
  go_wp2_with fail
  refine (HX.out _).mono ?_
  rintro e w' ⟨rfl, rfl⟩
  go_wp2_with fail
  go_region
  all_goals go_wp2_with fail
  all_goals (refine (HD.out _).mono ?_; rintro e w' ⟨rfl, rfl⟩)
  all_goals go_wp2_with fail
  all_goals (
    refine (HK.out _ (Tab.below hN (by repeat (first | (with_reducible exact Below.refl _ _) | (with_reducible assumption) | (with_reducible refine bdrew ?_) | (with_reducible refine baa ?_ _) | (with_reducible refine bs ?_ (by first | exact Nat.le_refl _ | omega | (simp; done) | (simp; omega)) _) | (with_reducible refine bt ?_ (by with_reducible assumption)))))).mono ?_
    rintro e w2 ⟨rfl, hmp, hb2⟩
    obtain ⟨hc2, hf2⟩ := bcell hb2
    have hz2 := hb2.size
    try simp at hz2
    have hs2x0 : w.heap.size < w2.heap.size := by omega
    have g2x0 : w2.cell? ⟨w.heap.size, 0, none⟩ = some (.int .i64 (0)) := (hc2 _ _ (by first | omega | (simp; done) | (simp; omega))).trans (by first | (with_reducible assumption) | (simp [go_sem]; done) | (simp [go_sem, *]; done) | assumption)
    have g2x1 : w2.cell? ⟨w.heap.size, 1, none⟩ = some (.int .i64 (0)) := (hc2 _ _ (by first | omega | (simp; done) | (simp; omega))).trans (by first | (with_reducible assumption) | (simp [go_sem]; done) | (simp [go_sem, *]; done) | assumption)
    have g2x2 : w2.cell? ⟨w.heap.size, 2, none⟩ = some (.bool (false)) := (hc2 _ _ (by first | omega | (simp; done) | (simp; omega))).trans (by first | (with_reducible assumption) | (simp [go_sem]; done) | (simp [go_sem, *]; done) | assumption)
    have g2x3 : w2.cell? ⟨w.heap.size, 3, none⟩ = some (.int .i64 (0)) := (hc2 _ _ (by first | omega | (simp; done) | (simp; omega))).trans (by first | (with_reducible assumption) | (simp [go_sem]; done) | (simp [go_sem, *]; done) | assumption)
    have z2x0 : w2.frozen? ⟨w.heap.size, 0, none⟩ = false := (hf2 _ _ (by first | omega | (simp; done) | (simp; omega))).trans (by first | (with_reducible assumption) | (simp [go_sem]; done) | (simp [go_sem, *]; done))
    have z2x1 : w2.frozen? ⟨w.heap.size, 1, none⟩ = false := (hf2 _ _ (by first | omega | (simp; done) | (simp; omega))).trans (by first | (with_reducible assumption) | (simp [go_sem]; done) | (simp [go_sem, *]; done))
    have z2x2 : w2.frozen? ⟨w.heap.size, 2, none⟩ = false := (hf2 _ _ (by first | omega | (simp; done) | (simp; omega))).trans (by first | (with_reducible assumption) | (simp [go_sem]; done) | (simp [go_sem, *]; done))
    have z2x3 : w2.frozen? ⟨w.heap.size, 3, none⟩ = false := (hf2 _ _ (by first | omega | (simp; done) | (simp; omega))).trans (by first | (with_reducible assumption) | (simp [go_sem]; done) | (simp [go_sem, *]; done))
    clear hc2 hf2
    have hlk := HL2.out w1.heap.size w2 hmp
    have hq2 : w1.heap.size < w2.heap.size := by
      rcases Nat.lt_or_ge w1.heap.size w2.heap.size with c | c
      · exact c
      · have : w2.heap[w1.heap.size]? = none := Array.getElem?_eq_none (by simpa using c)
        simp_all
    go_wp2_with fail
    clear hlk hmp hq2
  )
  all_goals (
    refine (HY.out _).mono ?_
    rintro e w' ⟨rfl, rfl⟩
    go_wp2_with fail
  )
  all_goals (
    refine bodyPost_ret (v := .tuple #[.agg #[.int .i64 (0), .int .i64 (0), .bool (false), .int .i64 (0)], .int .i64 (5)]) (by simp [results, Tryz.results13, go_sem, *]) rfl ⟨rfl, ?_⟩
    repeat (first | (with_reducible exact Below.refl _ _) | (with_reducible assumption) | (with_reducible refine bdrew ?_) | (with_reducible refine baa ?_ _) | (with_reducible refine bs ?_ (by first | exact Nat.le_refl _ | omega | (simp; done) | (simp; omega)) _) | (with_reducible refine bt ?_ (by with_reducible assumption)))
  )
set_option maxHeartbeats 4000000 in
theorem name_Read_c (s fs rs : ByteArray) (fd : Bool) (k : Nat) (dd yy n : Int) (l : Bool) (er : Int) (m : Int) (w : World) (hT : Tab w 2 kevCells) (hL : Tab w 3 lenCells) (hN : Tab w 0 nameCells) (hm : MaxAt w m)
    (HU : Hid (∀ w : World, MaxAt w m → Calls Tryz.prog 38 #[.string s, .string ⟨#[32]⟩] w fun e w' => e = .returned (.tuple #[.string fs, .string rs, .bool fd]) ∧ Below w.heap.size w w'))
    (HX : Hid (∀ w : World, Calls Tryz.prog 39 #[.string rs, .string ⟨#[32]⟩] w fun e w' => e = .returned (.int .i64 (k : Int)) ∧ w = w'))
    (k0 : (0 : Int) ≤ (k : Int)) (k1 : (k : Int) < (rs.size : Int)) (k2 : (k : Int) + 1 ≤ (rs.size : Int)) (hrs : rs.size ≤ 1000000)
    (HD : Hid (∀ w : World, Calls Tryz.prog 40 #[.string fs, .int .i64 2] w fun e w' => e = .returned (.tuple #[.int .i64 dd, .bool true]) ∧ w = w'))
    (HK : Hid (∀ w : World, Tab w 0 nameCells → Calls Tryz.prog 41 #[] w fun e w' => e = .returned (.map (some w.heap.size)) ∧ w'.heap[w.heap.size]? = some (.map (codesAt 12) 14) ∧ Below w.heap.size w w'))
    (HL2 : Hid (∀ (b : Nat) (w : World), w.heap[b]? = some (.map (codesAt 12) 14) → (Instr.lookup 64 (.map (some b)) (.string (rs.extract 0 k)) true).run Tryz.prog w = .ok (.tuple #[.agg #[.int .i64 n, .bool l], .bool true]) w))
    (HY : Hid (∀ w : World, Calls Tryz.prog 40 #[.string (rs.extract (k + 1) rs.size), .int .i64 4] w fun e w' => e = .returned (.tuple #[.int .i64 yy, .bool true]) ∧ w = w'))
    (HC : Hid (∀ w : World, Tab w 2 kevCells → Tab w 3 lenCells → Calls Tryz.prog 34 #[.agg #[.int .i64 (yy), .int .i64 (n), .bool (l), .int .i64 (dd)]] w fun e w' => e = .returned (.int .i64 (er)) ∧ Below w.heap.size w w'))
    (h0 : (er != 0) = true)
    : Calls Tryz.prog 13 #[.string s] w fun e w' => e = .returned (.tuple #[.agg #[.int .i64 (0), .int .i64 (0), .bool (false), .int .i64 (0)], .int .i64 (2)]) ∧ Below w.heap.size w w' := by
  go_enter Tryz.func13, Tryz.ntmps13
  go_wp2_with fail
  have hmA := MaxAt.below hm (ba w (.cells #[.int .i64 0, .int .i64 0, .bool false, .int .i64 0] 25))
  refine (HU.out _ hmA).mono ?_
  rintro e w1 ⟨rfl, hb1⟩
  obtain ⟨hc1, hf1⟩ := bcell hb1
  have hz1 := hb1.size
  try simp at hz1
  have hs1x0 : w.heap.size < w1.heap.size := by omega
  have g1x0 : w1.cell? ⟨w.heap.size, 0, none⟩ = some (.int .i64 (0)) := (hc1 _ _ (by first | omega | (simp; done) | (simp; omega))).trans (by first | (with_reducible assumption) | (simp [go_sem]; done) | (simp [go_sem, *]; done) | assumption)
  have g1x1 : w1.cell? ⟨w.heap.size, 1, none⟩ = some (.int .i64 (0)) := (hc1 _ _ (by first | omega | (simp; done) | (simp; omega))).trans (by first | (with_reducible assumption) | (simp [go_sem]; done) | (simp [go_sem, *]; done) | assumption)
  have g1x2 : w1.cell? ⟨w.heap.size, 2, none⟩ = some (.bool (false)) := (hc1 _ _ (by first | omega | (simp; done) | (simp; omega))).trans (by first | (with_reducible assumption) | (simp [go_sem]; done) | (simp [go_sem, *]; done) | assumption)
  have g1x3 : w1.cell? ⟨w.heap.size, 3, none⟩ = some (.int .i64 (0)) := (hc1 _ _ (by first | omega | (simp; done) | (simp; omega))).trans (by first | (with_reducible assumption) | (simp [go_sem]; done) | (simp [go_sem, *]; done) | assumption)
  have z1x0 : w1.frozen? ⟨w.heap.size, 0, none⟩ = false := (hf1 _ _ (by first | omega | (simp; done) | (simp; omega))).trans (by first | (with_reducible assumption) | (simp [go_sem]; done) | (simp [go_sem, *]; done))
  have z1x1 : w1.frozen? ⟨w.heap.size, 1, none⟩ = false := (hf1 _ _ (by first | omega | (simp; done) | (simp; omega))).trans (by first | (with_reducible assumption) | (simp [go_sem]; done) | (simp [go_sem, *]; done))
  have z1x2 : w1.frozen? ⟨w.heap.size, 2, none⟩ = false := (hf1 _ _ (by first | omega | (simp; done) | (simp; omega))).trans (by first | (with_reducible assumption) | (simp [go_sem]; done) | (simp [go_sem, *]; done))
  have z1x3 : w1.frozen? ⟨w.heap.size, 3, none⟩ = false := (hf1 _ _ (by first | omega | (simp; done) | (simp; omega))).trans (by first | (with_reducible assumption) | (simp [go_sem]; done) | (simp [go_sem, *]; done))
  clear hc1 hf1
  go_wp2_with fail
  refine (HX.out _).mono ?_
  rintro e w' ⟨rfl, rfl⟩
  go_wp2_with fail
  go_region
  all_goals go_wp2_with fail
  all_goals (refine (HD.out _).mono ?_; rintro e w' ⟨rfl, rfl⟩)
  all_goals go_wp2_with fail
  all_goals (
    refine (HK.out _ (Tab.below hN (by repeat (first | (with_reducible exact Below.refl _ _) | (with_reducible assumption) | (with_reducible refine bdrew ?_) | (with_reducible refine baa ?_ _) | (with_reducible refine bs ?_ (by first | exact Nat.le_refl _ | omega | (simp; done) | (simp; omega)) _) | (with_reducible refine bt ?_ (by with_reducible assumption)))))).mono ?_
    rintro e w2 ⟨rfl, hmp, hb2⟩
    obtain ⟨hc2, hf2⟩ := bcell hb2
    have hz2 := hb2.size
    try simp at hz2
    have hs2x0 : w.heap.size < w2.heap.size := by omega
    have g2x0 : w2.cell? ⟨w.heap.size, 0, none⟩ = some (.int .i64 (0)) := (hc2 _ _ (by first | omega | (simp; done) | (simp; omega))).trans (by first | (with_reducible assumption) | (simp [go_sem]; done) | (simp [go_sem, *]; done) | assumption)
    have g2x1 : w2.cell? ⟨w.heap.size, 1, none⟩ = some (.int .i64 (0)) := (hc2 _ _ (by first | omega | (simp; done) | (simp; omega))).trans (by first | (with_reducible assumption) | (simp [go_sem]; done) | (simp [go_sem, *]; done) | assumption)
    have g2x2 : w2.cell? ⟨w.heap.size, 2, none⟩ = some (.bool (false)) := (hc2 _ _ (by first | omega | (simp; done) | (simp; omega))).trans (by first | (with_reducible assumption) | (simp [go_sem]; done) | (simp [go_sem, *]; done) | assumption)
    have g2x3 : w2.cell? ⟨w.heap.size, 3, none⟩ = some (.int .i64 (0)) := (hc2 _ _ (by first | omega | (simp; done) | (simp; omega))).trans (by first | (with_reducible assumption) | (simp [go_sem]; done) | (simp [go_sem, *]; done) | assumption)
    have z2x0 : w2.frozen? ⟨w.heap.size, 0, none⟩ = false := (hf2 _ _ (by first | omega | (simp; done) | (simp; omega))).trans (by first | (with_reducible assumption) | (simp [go_sem]; done) | (simp [go_sem, *]; done))
    have z2x1 : w2.frozen? ⟨w.heap.size, 1, none⟩ = false := (hf2 _ _ (by first | omega | (simp; done) | (simp; omega))).trans (by first | (with_reducible assumption) | (simp [go_sem]; done) | (simp [go_sem, *]; done))
    have z2x2 : w2.frozen? ⟨w.heap.size, 2, none⟩ = false := (hf2 _ _ (by first | omega | (simp; done) | (simp; omega))).trans (by first | (with_reducible assumption) | (simp [go_sem]; done) | (simp [go_sem, *]; done))
    have z2x3 : w2.frozen? ⟨w.heap.size, 3, none⟩ = false := (hf2 _ _ (by first | omega | (simp; done) | (simp; omega))).trans (by first | (with_reducible assumption) | (simp [go_sem]; done) | (simp [go_sem, *]; done))
    clear hc2 hf2
    have hlk := HL2.out w1.heap.size w2 hmp
    have hq2 : w1.heap.size < w2.heap.size := by
      rcases Nat.lt_or_ge w1.heap.size w2.heap.size with c | c
      · exact c
      · have : w2.heap[w1.heap.size]? = none := Array.getElem?_eq_none (by simpa using c)
        simp_all
    go_wp2_with fail
    clear hlk hmp hq2
  )
  all_goals (
    refine (HY.out _).mono ?_
    rintro e w' ⟨rfl, rfl⟩
    go_wp2_with fail
  )
  all_goals (
    have hq5 : w.heap.size < w2.heap.size + 1 + 1 := by omega
    refine (HC.out _ (Tab.below hT (by repeat (first | (with_reducible exact Below.refl _ _) | (with_reducible assumption) | (with_reducible refine bdrew ?_) | (with_reducible refine baa ?_ _) | (with_reducible refine bs ?_ (by first | exact Nat.le_refl _ | omega | (simp; done) | (simp; omega)) _) | (with_reducible refine bt ?_ (by with_reducible assumption))))) (Tab.below hL (by repeat (first | (with_reducible exact Below.refl _ _) | (with_reducible assumption) | (with_reducible refine bdrew ?_) | (with_reducible refine baa ?_ _) | (with_reducible refine bs ?_ (by first | exact Nat.le_refl _ | omega | (simp; done) | (simp; omega)) _) | (with_reducible refine bt ?_ (by with_reducible assumption)))))).mono ?_
    rintro e w3 ⟨rfl, hb3⟩
    obtain ⟨hc3, hf3⟩ := bcell hb3
    have hz3 := hb3.size
    try simp at hz3
    have hs3x0 : w.heap.size < w3.heap.size := by omega
    have hs3x1 : w2.heap.size < w3.heap.size := by omega
    have hs3x2 : (w2.heap.size + 1) < w3.heap.size := by omega
    have g3x0 : w3.cell? ⟨w.heap.size, 0, none⟩ = some (.int .i64 (0)) := (hc3 _ _ (by first | omega | (simp; done) | (simp; omega))).trans (by first | (with_reducible assumption) | (simp [go_sem]; done) | (simp [go_sem, *]; done) | assumption)
    have g3x1 : w3.cell? ⟨w.heap.size, 1, none⟩ = some (.int .i64 (0)) := (hc3 _ _ (by first | omega | (simp; done) | (simp; omega))).trans (by first | (with_reducible assumption) | (simp [go_sem]; done) | (simp [go_sem, *]; done) | assumption)
    have g3x2 : w3.cell? ⟨w.heap.size, 2, none⟩ = some (.bool (false)) := (hc3 _ _ (by first | omega | (simp; done) | (simp; omega))).trans (by first | (with_reducible assumption) | (simp [go_sem]; done) | (simp [go_sem, *]; done) | assumption)
    have g3x3 : w3.cell? ⟨w.heap.size, 3, none⟩ = some (.int .i64 (0)) := (hc3 _ _ (by first | omega | (simp; done) | (simp; omega))).trans (by first | (with_reducible assumption) | (simp [go_sem]; done) | (simp [go_sem, *]; done) | assumption)
    have g3x4 : w3.cell? ⟨w2.heap.size, 0, none⟩ = some (.int .i64 (n)) := (hc3 _ _ (by first | omega | (simp; done) | (simp; omega))).trans (by first | (with_reducible assumption) | (simp [go_sem]; done) | (simp [go_sem, *]; done) | assumption)
    have g3x5 : w3.cell? ⟨w2.heap.size, 1, none⟩ = some (.bool (l)) := (hc3 _ _ (by first | omega | (simp; done) | (simp; omega))).trans (by first | (with_reducible assumption) | (simp [go_sem]; done) | (simp [go_sem, *]; done) | assumption)
    have g3x6 : w3.cell? ⟨(w2.heap.size + 1), 0, none⟩ = some (.int .i64 (yy)) := (hc3 _ _ (by first | omega | (simp; done) | (simp; omega))).trans (by first | (with_reducible assumption) | (simp [go_sem]; done) | (simp [go_sem, *]; done) | assumption)
    have g3x7 : w3.cell? ⟨(w2.heap.size + 1), 1, none⟩ = some (.int .i64 (n)) := (hc3 _ _ (by first | omega | (simp; done) | (simp; omega))).trans (by first | (with_reducible assumption) | (simp [go_sem]; done) | (simp [go_sem, *]; done) | assumption)
    have g3x8 : w3.cell? ⟨(w2.heap.size + 1), 2, none⟩ = some (.bool (l)) := (hc3 _ _ (by first | omega | (simp; done) | (simp; omega))).trans (by first | (with_reducible assumption) | (simp [go_sem]; done) | (simp [go_sem, *]; done) | assumption)
    have g3x9 : w3.cell? ⟨(w2.heap.size + 1), 3, none⟩ = some (.int .i64 (dd)) := (hc3 _ _ (by first | omega | (simp; done) | (simp; omega))).trans (by first | (with_reducible assumption) | (simp [go_sem]; done) | (simp [go_sem, *]; done) | assumption)
    have z3x0 : w3.frozen? ⟨w.heap.size, 0, none⟩ = false := (hf3 _ _ (by first | omega | (simp; done) | (simp; omega))).trans (by first | (with_reducible assumption) | (simp [go_sem]; done) | (simp [go_sem, *]; done))
    have z3x1 : w3.frozen? ⟨w.heap.size, 1, none⟩ = false := (hf3 _ _ (by first | omega | (simp; done) | (simp; omega))).trans (by first | (with_reducible assumption) | (simp [go_sem]; done) | (simp [go_sem, *]; done))
    have z3x2 : w3.frozen? ⟨w.heap.size, 2, none⟩ = false := (hf3 _ _ (by first | omega | (simp; done) | (simp; omega))).trans (by first | (with_reducible assumption) | (simp [go_sem]; done) | (simp [go_sem, *]; done))
    have z3x3 : w3.frozen? ⟨w.heap.size, 3, none⟩ = false := (hf3 _ _ (by first | omega | (simp; done) | (simp; omega))).trans (by first | (with_reducible assumption) | (simp [go_sem]; done) | (simp [go_sem, *]; done))
    clear hc3 hf3
    go_wp2_with fail
  )
  all_goals (
    refine bodyPost_ret (v := .tuple #[.agg #[.int .i64 (0), .int .i64 (0), .bool (false), .int .i64 (0)], .int .i64 (2)]) (by simp [results, Tryz.results13, go_sem, *]) rfl ⟨rfl, ?_⟩
    repeat (first | (with_reducible exact Below.refl _ _) | (with_reducible assumption) | (with_reducible refine bdrew ?_) | (with_reducible refine baa ?_ _) | (with_reducible refine bs ?_ (by first | exact Nat.le_refl _ | omega | (simp; done) | (simp; omega)) _) | (with_reducible refine bt ?_ (by with_reducible assumption)))
  )
set_option maxHeartbeats 4000000 in
theorem name_Read_d (s fs rs : ByteArray) (fd : Bool) (k : Nat) (dd yy n : Int) (l : Bool) (sn : ByteArray) (me : Int) (m : Int) (w : World) (hT : Tab w 2 kevCells) (hL : Tab w 3 lenCells) (hN : Tab w 0 nameCells) (hm : MaxAt w m)
    (HU : Hid (∀ w : World, MaxAt w m → Calls Tryz.prog 38 #[.string s, .string ⟨#[32]⟩] w fun e w' => e = .returned (.tuple #[.string fs, .string rs, .bool fd]) ∧ Below w.heap.size w w'))
    (HX : Hid (∀ w : World, Calls Tryz.prog 39 #[.string rs, .string ⟨#[32]⟩] w fun e w' => e = .returned (.int .i64 (k : Int)) ∧ w = w'))
    (k0 : (0 : Int) ≤ (k : Int)) (k1 : (k : Int) < (rs.size : Int)) (k2 : (k : Int) + 1 ≤ (rs.size : Int)) (hrs : rs.size ≤ 1000000)
    (HD : Hid (∀ w : World, Calls Tryz.prog 40 #[.string fs, .int .i64 2] w fun e w' => e = .returned (.tuple #[.int .i64 dd, .bool true]) ∧ w = w'))
    (HK : Hid (∀ w : World, Tab w 0 nameCells → Calls Tryz.prog 41 #[] w fun e w' => e = .returned (.map (some w.heap.size)) ∧ w'.heap[w.heap.size]? = some (.map (codesAt 12) 14) ∧ Below w.heap.size w w'))
    (HL2 : Hid (∀ (b : Nat) (w : World), w.heap[b]? = some (.map (codesAt 12) 14) → (Instr.lookup 64 (.map (some b)) (.string (rs.extract 0 k)) true).run Tryz.prog w = .ok (.tuple #[.agg #[.int .i64 n, .bool l], .bool true]) w))
    (HY : Hid (∀ w : World, Calls Tryz.prog 40 #[.string (rs.extract (k + 1) rs.size), .int .i64 4] w fun e w' => e = .returned (.tuple #[.int .i64 yy, .bool true]) ∧ w = w'))
    (HC : Hid (∀ w : World, Tab w 2 kevCells → Tab w 3 lenCells → Calls Tryz.prog 34 #[.agg #[.int .i64 (yy), .int .i64 (n), .bool (l), .int .i64 (dd)]] w fun e w' => e = .returned (.int .i64 (0)) ∧ Below w.heap.size w w'))
    (HM : Hid (∀ w : World, Tab w 2 kevCells → Tab w 3 lenCells → Tab w 0 nameCells → Calls Tryz.prog 9 #[.int .i64 yy, .agg #[.int .i64 n, .bool l]] w fun e w' => e = .returned (.tuple #[.string sn, .int .i64 me]) ∧ Below w.heap.size w w'))
    (b1 : (sn.toList == (rs.extract 0 k).toList) = false)
    (a1 : ((rs.extract 0 k).toList == (⟨#[65, 100, 97, 114]⟩ : ByteArray).toList) = false) (a2 : ((rs.extract 0 k).toList == [65, 100, 97, 114]) = false)
    : Calls Tryz.prog 13 #[.string s] w fun e w' => e = .returned (.tuple #[.agg #[.int .i64 (0), .int .i64 (0), .bool (false), .int .i64 (0)], .int .i64 (2)]) ∧ Below w.heap.size w w' := by
  go_enter Tryz.func13, Tryz.ntmps13
  go_wp2_with fail
  have hmA := MaxAt.below hm (ba w (.cells #[.int .i64 0, .int .i64 0, .bool false, .int .i64 0] 25))
  refine (HU.out _ hmA).mono ?_
  rintro e w1 ⟨rfl, hb1⟩
  obtain ⟨hc1, hf1⟩ := bcell hb1
  have hz1 := hb1.size
  try simp at hz1
  have hs1x0 : w.heap.size < w1.heap.size := by omega
  have g1x0 : w1.cell? ⟨w.heap.size, 0, none⟩ = some (.int .i64 (0)) := (hc1 _ _ (by first | omega | (simp; done) | (simp; omega))).trans (by first | (with_reducible assumption) | (simp [go_sem]; done) | (simp [go_sem, *]; done) | assumption)
  have g1x1 : w1.cell? ⟨w.heap.size, 1, none⟩ = some (.int .i64 (0)) := (hc1 _ _ (by first | omega | (simp; done) | (simp; omega))).trans (by first | (with_reducible assumption) | (simp [go_sem]; done) | (simp [go_sem, *]; done) | assumption)
  have g1x2 : w1.cell? ⟨w.heap.size, 2, none⟩ = some (.bool (false)) := (hc1 _ _ (by first | omega | (simp; done) | (simp; omega))).trans (by first | (with_reducible assumption) | (simp [go_sem]; done) | (simp [go_sem, *]; done) | assumption)
  have g1x3 : w1.cell? ⟨w.heap.size, 3, none⟩ = some (.int .i64 (0)) := (hc1 _ _ (by first | omega | (simp; done) | (simp; omega))).trans (by first | (with_reducible assumption) | (simp [go_sem]; done) | (simp [go_sem, *]; done) | assumption)
  have z1x0 : w1.frozen? ⟨w.heap.size, 0, none⟩ = false := (hf1 _ _ (by first | omega | (simp; done) | (simp; omega))).trans (by first | (with_reducible assumption) | (simp [go_sem]; done) | (simp [go_sem, *]; done))
  have z1x1 : w1.frozen? ⟨w.heap.size, 1, none⟩ = false := (hf1 _ _ (by first | omega | (simp; done) | (simp; omega))).trans (by first | (with_reducible assumption) | (simp [go_sem]; done) | (simp [go_sem, *]; done))
  have z1x2 : w1.frozen? ⟨w.heap.size, 2, none⟩ = false := (hf1 _ _ (by first | omega | (simp; done) | (simp; omega))).trans (by first | (with_reducible assumption) | (simp [go_sem]; done) | (simp [go_sem, *]; done))
  have z1x3 : w1.frozen? ⟨w.heap.size, 3, none⟩ = false := (hf1 _ _ (by first | omega | (simp; done) | (simp; omega))).trans (by first | (with_reducible assumption) | (simp [go_sem]; done) | (simp [go_sem, *]; done))
  clear hc1 hf1
  go_wp2_with fail
  refine (HX.out _).mono ?_
  rintro e w' ⟨rfl, rfl⟩
  go_wp2_with fail
  go_region
  all_goals go_wp2_with fail
  all_goals (refine (HD.out _).mono ?_; rintro e w' ⟨rfl, rfl⟩)
  all_goals go_wp2_with fail
  all_goals (
    refine (HK.out _ (Tab.below hN (by repeat (first | (with_reducible exact Below.refl _ _) | (with_reducible assumption) | (with_reducible refine bdrew ?_) | (with_reducible refine baa ?_ _) | (with_reducible refine bs ?_ (by first | exact Nat.le_refl _ | omega | (simp; done) | (simp; omega)) _) | (with_reducible refine bt ?_ (by with_reducible assumption)))))).mono ?_
    rintro e w2 ⟨rfl, hmp, hb2⟩
    obtain ⟨hc2, hf2⟩ := bcell hb2
    have hz2 := hb2.size
    try simp at hz2
    have hs2x0 : w.heap.size < w2.heap.size := by omega
    have g2x0 : w2.cell? ⟨w.heap.size, 0, none⟩ = some (.int .i64 (0)) := (hc2 _ _ (by first | omega | (simp; done) | (simp; omega))).trans (by first | (with_reducible assumption) | (simp [go_sem]; done) | (simp [go_sem, *]; done) | assumption)
    have g2x1 : w2.cell? ⟨w.heap.size, 1, none⟩ = some (.int .i64 (0)) := (hc2 _ _ (by first | omega | (simp; done) | (simp; omega))).trans (by first | (with_reducible assumption) | (simp [go_sem]; done) | (simp [go_sem, *]; done) | assumption)
    have g2x2 : w2.cell? ⟨w.heap.size, 2, none⟩ = some (.bool (false)) := (hc2 _ _ (by first | omega | (simp; done) | (simp; omega))).trans (by first | (with_reducible assumption) | (simp [go_sem]; done) | (simp [go_sem, *]; done) | assumption)
    have g2x3 : w2.cell? ⟨w.heap.size, 3, none⟩ = some (.int .i64 (0)) := (hc2 _ _ (by first | omega | (simp; done) | (simp; omega))).trans (by first | (with_reducible assumption) | (simp [go_sem]; done) | (simp [go_sem, *]; done) | assumption)
    have z2x0 : w2.frozen? ⟨w.heap.size, 0, none⟩ = false := (hf2 _ _ (by first | omega | (simp; done) | (simp; omega))).trans (by first | (with_reducible assumption) | (simp [go_sem]; done) | (simp [go_sem, *]; done))
    have z2x1 : w2.frozen? ⟨w.heap.size, 1, none⟩ = false := (hf2 _ _ (by first | omega | (simp; done) | (simp; omega))).trans (by first | (with_reducible assumption) | (simp [go_sem]; done) | (simp [go_sem, *]; done))
    have z2x2 : w2.frozen? ⟨w.heap.size, 2, none⟩ = false := (hf2 _ _ (by first | omega | (simp; done) | (simp; omega))).trans (by first | (with_reducible assumption) | (simp [go_sem]; done) | (simp [go_sem, *]; done))
    have z2x3 : w2.frozen? ⟨w.heap.size, 3, none⟩ = false := (hf2 _ _ (by first | omega | (simp; done) | (simp; omega))).trans (by first | (with_reducible assumption) | (simp [go_sem]; done) | (simp [go_sem, *]; done))
    clear hc2 hf2
    have hlk := HL2.out w1.heap.size w2 hmp
    have hq2 : w1.heap.size < w2.heap.size := by
      rcases Nat.lt_or_ge w1.heap.size w2.heap.size with c | c
      · exact c
      · have : w2.heap[w1.heap.size]? = none := Array.getElem?_eq_none (by simpa using c)
        simp_all
    go_wp2_with fail
    clear hlk hmp hq2
  )
  all_goals (
    refine (HY.out _).mono ?_
    rintro e w' ⟨rfl, rfl⟩
    go_wp2_with fail
  )
  all_goals (
    have hq5 : w.heap.size < w2.heap.size + 1 + 1 := by omega
    refine (HC.out _ (Tab.below hT (by repeat (first | (with_reducible exact Below.refl _ _) | (with_reducible assumption) | (with_reducible refine bdrew ?_) | (with_reducible refine baa ?_ _) | (with_reducible refine bs ?_ (by first | exact Nat.le_refl _ | omega | (simp; done) | (simp; omega)) _) | (with_reducible refine bt ?_ (by with_reducible assumption))))) (Tab.below hL (by repeat (first | (with_reducible exact Below.refl _ _) | (with_reducible assumption) | (with_reducible refine bdrew ?_) | (with_reducible refine baa ?_ _) | (with_reducible refine bs ?_ (by first | exact Nat.le_refl _ | omega | (simp; done) | (simp; omega)) _) | (with_reducible refine bt ?_ (by with_reducible assumption)))))).mono ?_
    rintro e w3 ⟨rfl, hb3⟩
    obtain ⟨hc3, hf3⟩ := bcell hb3
    have hz3 := hb3.size
    try simp at hz3
    have hs3x0 : w.heap.size < w3.heap.size := by omega
    have hs3x1 : w2.heap.size < w3.heap.size := by omega
    have hs3x2 : (w2.heap.size + 1) < w3.heap.size := by omega
    have g3x0 : w3.cell? ⟨w.heap.size, 0, none⟩ = some (.int .i64 (0)) := (hc3 _ _ (by first | omega | (simp; done) | (simp; omega))).trans (by first | (with_reducible assumption) | (simp [go_sem]; done) | (simp [go_sem, *]; done) | assumption)
    have g3x1 : w3.cell? ⟨w.heap.size, 1, none⟩ = some (.int .i64 (0)) := (hc3 _ _ (by first | omega | (simp; done) | (simp; omega))).trans (by first | (with_reducible assumption) | (simp [go_sem]; done) | (simp [go_sem, *]; done) | assumption)
    have g3x2 : w3.cell? ⟨w.heap.size, 2, none⟩ = some (.bool (false)) := (hc3 _ _ (by first | omega | (simp; done) | (simp; omega))).trans (by first | (with_reducible assumption) | (simp [go_sem]; done) | (simp [go_sem, *]; done) | assumption)
    have g3x3 : w3.cell? ⟨w.heap.size, 3, none⟩ = some (.int .i64 (0)) := (hc3 _ _ (by first | omega | (simp; done) | (simp; omega))).trans (by first | (with_reducible assumption) | (simp [go_sem]; done) | (simp [go_sem, *]; done) | assumption)
    have g3x4 : w3.cell? ⟨w2.heap.size, 0, none⟩ = some (.int .i64 (n)) := (hc3 _ _ (by first | omega | (simp; done) | (simp; omega))).trans (by first | (with_reducible assumption) | (simp [go_sem]; done) | (simp [go_sem, *]; done) | assumption)
    have g3x5 : w3.cell? ⟨w2.heap.size, 1, none⟩ = some (.bool (l)) := (hc3 _ _ (by first | omega | (simp; done) | (simp; omega))).trans (by first | (with_reducible assumption) | (simp [go_sem]; done) | (simp [go_sem, *]; done) | assumption)
    have g3x6 : w3.cell? ⟨(w2.heap.size + 1), 0, none⟩ = some (.int .i64 (yy)) := (hc3 _ _ (by first | omega | (simp; done) | (simp; omega))).trans (by first | (with_reducible assumption) | (simp [go_sem]; done) | (simp [go_sem, *]; done) | assumption)
    have g3x7 : w3.cell? ⟨(w2.heap.size + 1), 1, none⟩ = some (.int .i64 (n)) := (hc3 _ _ (by first | omega | (simp; done) | (simp; omega))).trans (by first | (with_reducible assumption) | (simp [go_sem]; done) | (simp [go_sem, *]; done) | assumption)
    have g3x8 : w3.cell? ⟨(w2.heap.size + 1), 2, none⟩ = some (.bool (l)) := (hc3 _ _ (by first | omega | (simp; done) | (simp; omega))).trans (by first | (with_reducible assumption) | (simp [go_sem]; done) | (simp [go_sem, *]; done) | assumption)
    have g3x9 : w3.cell? ⟨(w2.heap.size + 1), 3, none⟩ = some (.int .i64 (dd)) := (hc3 _ _ (by first | omega | (simp; done) | (simp; omega))).trans (by first | (with_reducible assumption) | (simp [go_sem]; done) | (simp [go_sem, *]; done) | assumption)
    have z3x0 : w3.frozen? ⟨w.heap.size, 0, none⟩ = false := (hf3 _ _ (by first | omega | (simp; done) | (simp; omega))).trans (by first | (with_reducible assumption) | (simp [go_sem]; done) | (simp [go_sem, *]; done))
    have z3x1 : w3.frozen? ⟨w.heap.size, 1, none⟩ = false := (hf3 _ _ (by first | omega | (simp; done) | (simp; omega))).trans (by first | (with_reducible assumption) | (simp [go_sem]; done) | (simp [go_sem, *]; done))
    have z3x2 : w3.frozen? ⟨w.heap.size, 2, none⟩ = false := (hf3 _ _ (by first | omega | (simp; done) | (simp; omega))).trans (by first | (with_reducible assumption) | (simp [go_sem]; done) | (simp [go_sem, *]; done))
    have z3x3 : w3.frozen? ⟨w.heap.size, 3, none⟩ = false := (hf3 _ _ (by first | omega | (simp; done) | (simp; omega))).trans (by first | (with_reducible assumption) | (simp [go_sem]; done) | (simp [go_sem, *]; done))
    clear hc3 hf3
    go_wp2_with fail
  )
  all_goals (
    refine (HM.out _ (Tab.below hT (by repeat (first | (with_reducible exact Below.refl _ _) | (with_reducible assumption) | (with_reducible refine bdrew ?_) | (with_reducible refine baa ?_ _) | (with_reducible refine bs ?_ (by first | exact Nat.le_refl _ | omega | (simp; done) | (simp; omega)) _) | (with_reducible refine bt ?_ (by with_reducible assumption))))) (Tab.below hL (by repeat (first | (with_reducible exact Below.refl _ _) | (with_reducible assumption) | (with_reducible refine bdrew ?_) | (with_reducible refine baa ?_ _) | (with_reducible refine bs ?_ (by first | exact Nat.le_refl _ | omega | (simp; done) | (simp; omega)) _) | (with_reducible refine bt ?_ (by with_reducible assumption))))) (Tab.below hN (by repeat (first | (with_reducible exact Below.refl _ _) | (with_reducible assumption) | (with_reducible refine bdrew ?_) | (with_reducible refine baa ?_ _) | (with_reducible refine bs ?_ (by first | exact Nat.le_refl _ | omega | (simp; done) | (simp; omega)) _) | (with_reducible refine bt ?_ (by with_reducible assumption)))))).mono ?_
    rintro e w4 ⟨rfl, hb4⟩
    obtain ⟨hc4, hf4⟩ := bcell hb4
    have hz4 := hb4.size
    try simp at hz4
    have hs4x0 : w.heap.size < w4.heap.size := by omega
    have hs4x1 : w2.heap.size < w4.heap.size := by omega
    have hs4x2 : (w2.heap.size + 1) < w4.heap.size := by omega
    have g4x0 : w4.cell? ⟨w.heap.size, 0, none⟩ = some (.int .i64 (0)) := (hc4 _ _ (by first | omega | (simp; done) | (simp; omega))).trans (by first | (with_reducible assumption) | (simp [go_sem]; done) | (simp [go_sem, *]; done) | assumption)
    have g4x1 : w4.cell? ⟨w.heap.size, 1, none⟩ = some (.int .i64 (0)) := (hc4 _ _ (by first | omega | (simp; done) | (simp; omega))).trans (by first | (with_reducible assumption) | (simp [go_sem]; done) | (simp [go_sem, *]; done) | assumption)
    have g4x2 : w4.cell? ⟨w.heap.size, 2, none⟩ = some (.bool (false)) := (hc4 _ _ (by first | omega | (simp; done) | (simp; omega))).trans (by first | (with_reducible assumption) | (simp [go_sem]; done) | (simp [go_sem, *]; done) | assumption)
    have g4x3 : w4.cell? ⟨w.heap.size, 3, none⟩ = some (.int .i64 (0)) := (hc4 _ _ (by first | omega | (simp; done) | (simp; omega))).trans (by first | (with_reducible assumption) | (simp [go_sem]; done) | (simp [go_sem, *]; done) | assumption)
    have g4x4 : w4.cell? ⟨w2.heap.size, 0, none⟩ = some (.int .i64 (n)) := (hc4 _ _ (by first | omega | (simp; done) | (simp; omega))).trans (by first | (with_reducible assumption) | (simp [go_sem]; done) | (simp [go_sem, *]; done) | assumption)
    have g4x5 : w4.cell? ⟨w2.heap.size, 1, none⟩ = some (.bool (l)) := (hc4 _ _ (by first | omega | (simp; done) | (simp; omega))).trans (by first | (with_reducible assumption) | (simp [go_sem]; done) | (simp [go_sem, *]; done) | assumption)
    have g4x6 : w4.cell? ⟨(w2.heap.size + 1), 0, none⟩ = some (.int .i64 (yy)) := (hc4 _ _ (by first | omega | (simp; done) | (simp; omega))).trans (by first | (with_reducible assumption) | (simp [go_sem]; done) | (simp [go_sem, *]; done) | assumption)
    have g4x7 : w4.cell? ⟨(w2.heap.size + 1), 1, none⟩ = some (.int .i64 (n)) := (hc4 _ _ (by first | omega | (simp; done) | (simp; omega))).trans (by first | (with_reducible assumption) | (simp [go_sem]; done) | (simp [go_sem, *]; done) | assumption)
    have g4x8 : w4.cell? ⟨(w2.heap.size + 1), 2, none⟩ = some (.bool (l)) := (hc4 _ _ (by first | omega | (simp; done) | (simp; omega))).trans (by first | (with_reducible assumption) | (simp [go_sem]; done) | (simp [go_sem, *]; done) | assumption)
    have g4x9 : w4.cell? ⟨(w2.heap.size + 1), 3, none⟩ = some (.int .i64 (dd)) := (hc4 _ _ (by first | omega | (simp; done) | (simp; omega))).trans (by first | (with_reducible assumption) | (simp [go_sem]; done) | (simp [go_sem, *]; done) | assumption)
    have z4x0 : w4.frozen? ⟨w.heap.size, 0, none⟩ = false := (hf4 _ _ (by first | omega | (simp; done) | (simp; omega))).trans (by first | (with_reducible assumption) | (simp [go_sem]; done) | (simp [go_sem, *]; done))
    have z4x1 : w4.frozen? ⟨w.heap.size, 1, none⟩ = false := (hf4 _ _ (by first | omega | (simp; done) | (simp; omega))).trans (by first | (with_reducible assumption) | (simp [go_sem]; done) | (simp [go_sem, *]; done))
    have z4x2 : w4.frozen? ⟨w.heap.size, 2, none⟩ = false := (hf4 _ _ (by first | omega | (simp; done) | (simp; omega))).trans (by first | (with_reducible assumption) | (simp [go_sem]; done) | (simp [go_sem, *]; done))
    have z4x3 : w4.frozen? ⟨w.heap.size, 3, none⟩ = false := (hf4 _ _ (by first | omega | (simp; done) | (simp; omega))).trans (by first | (with_reducible assumption) | (simp [go_sem]; done) | (simp [go_sem, *]; done))
    clear hc4 hf4
    go_wp2_with fail
  )
  all_goals (
    refine bodyPost_ret (v := .tuple #[.agg #[.int .i64 (0), .int .i64 (0), .bool (false), .int .i64 (0)], .int .i64 (2)]) (by simp [results, Tryz.results13, go_sem, *]) rfl ⟨rfl, ?_⟩
    repeat (first | (with_reducible exact Below.refl _ _) | (with_reducible assumption) | (with_reducible refine bdrew ?_) | (with_reducible refine baa ?_ _) | (with_reducible refine bs ?_ (by first | exact Nat.le_refl _ | omega | (simp; done) | (simp; omega)) _) | (with_reducible refine bt ?_ (by with_reducible assumption)))
  )
set_option maxHeartbeats 4000000 in
theorem name_Read_e1 (s fs rs : ByteArray) (fd : Bool) (k : Nat) (dd yy n : Int) (l : Bool) (me : Int) (m : Int) (w : World) (hT : Tab w 2 kevCells) (hL : Tab w 3 lenCells) (hN : Tab w 0 nameCells) (hm : MaxAt w m)
    (HU : Hid (∀ w : World, MaxAt w m → Calls Tryz.prog 38 #[.string s, .string ⟨#[32]⟩] w fun e w' => e = .returned (.tuple #[.string fs, .string rs, .bool fd]) ∧ Below w.heap.size w w'))
    (HX : Hid (∀ w : World, Calls Tryz.prog 39 #[.string rs, .string ⟨#[32]⟩] w fun e w' => e = .returned (.int .i64 (k : Int)) ∧ w = w'))
    (k0 : (0 : Int) ≤ (k : Int)) (k1 : (k : Int) < (rs.size : Int)) (k2 : (k : Int) + 1 ≤ (rs.size : Int)) (hrs : rs.size ≤ 1000000)
    (HD : Hid (∀ w : World, Calls Tryz.prog 40 #[.string fs, .int .i64 2] w fun e w' => e = .returned (.tuple #[.int .i64 dd, .bool true]) ∧ w = w'))
    (HK : Hid (∀ w : World, Tab w 0 nameCells → Calls Tryz.prog 41 #[] w fun e w' => e = .returned (.map (some w.heap.size)) ∧ w'.heap[w.heap.size]? = some (.map (codesAt 12) 14) ∧ Below w.heap.size w w'))
    (HL2 : Hid (∀ (b : Nat) (w : World), w.heap[b]? = some (.map (codesAt 12) 14) → (Instr.lookup 64 (.map (some b)) (.string (rs.extract 0 k)) true).run Tryz.prog w = .ok (.tuple #[.agg #[.int .i64 n, .bool l], .bool true]) w))
    (HY : Hid (∀ w : World, Calls Tryz.prog 40 #[.string (rs.extract (k + 1) rs.size), .int .i64 4] w fun e w' => e = .returned (.tuple #[.int .i64 yy, .bool true]) ∧ w = w'))
    (HC : Hid (∀ w : World, Tab w 2 kevCells → Tab w 3 lenCells → Calls Tryz.prog 34 #[.agg #[.int .i64 (yy), .int .i64 (n), .bool (l), .int .i64 (dd)]] w fun e w' => e = .returned (.int .i64 (0)) ∧ Below w.heap.size w w'))
    (HM : Hid (∀ w : World, Tab w 2 kevCells → Tab w 3 lenCells → Tab w 0 nameCells → Calls Tryz.prog 9 #[.int .i64 yy, .agg #[.int .i64 n, .bool l]] w fun e w' => e = .returned (.tuple #[.string (rs.extract 0 k), .int .i64 me]) ∧ Below w.heap.size w w'))
    : Calls Tryz.prog 13 #[.string s] w fun e w' => e = .returned (.tuple #[.agg #[.int .i64 (yy), .int .i64 (n), .bool (l), .int .i64 (dd)], .int .i64 (0)]) ∧ Below w.heap.size w w' := by
  go_enter Tryz.func13, Tryz.ntmps13
  go_wp2_with fail
  have hmA := MaxAt.below hm (ba w (.cells #[.int .i64 0, .int .i64 0, .bool false, .int .i64 0] 25))
  refine (HU.out _ hmA).mono ?_
  rintro e w1 ⟨rfl, hb1⟩
  obtain ⟨hc1, hf1⟩ := bcell hb1
  have hz1 := hb1.size
  try simp at hz1
  have hs1x0 : w.heap.size < w1.heap.size := by omega
  have g1x0 : w1.cell? ⟨w.heap.size, 0, none⟩ = some (.int .i64 (0)) := (hc1 _ _ (by first | omega | (simp; done) | (simp; omega))).trans (by first | (with_reducible assumption) | (simp [go_sem]; done) | (simp [go_sem, *]; done) | assumption)
  have g1x1 : w1.cell? ⟨w.heap.size, 1, none⟩ = some (.int .i64 (0)) := (hc1 _ _ (by first | omega | (simp; done) | (simp; omega))).trans (by first | (with_reducible assumption) | (simp [go_sem]; done) | (simp [go_sem, *]; done) | assumption)
  have g1x2 : w1.cell? ⟨w.heap.size, 2, none⟩ = some (.bool (false)) := (hc1 _ _ (by first | omega | (simp; done) | (simp; omega))).trans (by first | (with_reducible assumption) | (simp [go_sem]; done) | (simp [go_sem, *]; done) | assumption)
  have g1x3 : w1.cell? ⟨w.heap.size, 3, none⟩ = some (.int .i64 (0)) := (hc1 _ _ (by first | omega | (simp; done) | (simp; omega))).trans (by first | (with_reducible assumption) | (simp [go_sem]; done) | (simp [go_sem, *]; done) | assumption)
  have z1x0 : w1.frozen? ⟨w.heap.size, 0, none⟩ = false := (hf1 _ _ (by first | omega | (simp; done) | (simp; omega))).trans (by first | (with_reducible assumption) | (simp [go_sem]; done) | (simp [go_sem, *]; done))
  have z1x1 : w1.frozen? ⟨w.heap.size, 1, none⟩ = false := (hf1 _ _ (by first | omega | (simp; done) | (simp; omega))).trans (by first | (with_reducible assumption) | (simp [go_sem]; done) | (simp [go_sem, *]; done))
  have z1x2 : w1.frozen? ⟨w.heap.size, 2, none⟩ = false := (hf1 _ _ (by first | omega | (simp; done) | (simp; omega))).trans (by first | (with_reducible assumption) | (simp [go_sem]; done) | (simp [go_sem, *]; done))
  have z1x3 : w1.frozen? ⟨w.heap.size, 3, none⟩ = false := (hf1 _ _ (by first | omega | (simp; done) | (simp; omega))).trans (by first | (with_reducible assumption) | (simp [go_sem]; done) | (simp [go_sem, *]; done))
  clear hc1 hf1
  go_wp2_with fail
  refine (HX.out _).mono ?_
  rintro e w' ⟨rfl, rfl⟩
  go_wp2_with fail
  go_region
  all_goals go_wp2_with fail
  all_goals (refine (HD.out _).mono ?_; rintro e w' ⟨rfl, rfl⟩)
  all_goals go_wp2_with fail
  all_goals (
    refine (HK.out _ (Tab.below hN (by repeat (first | (with_reducible exact Below.refl _ _) | (with_reducible assumption) | (with_reducible refine bdrew ?_) | (with_reducible refine baa ?_ _) | (with_reducible refine bs ?_ (by first | exact Nat.le_refl _ | omega | (simp; done) | (simp; omega)) _) | (with_reducible refine bt ?_ (by with_reducible assumption)))))).mono ?_
    rintro e w2 ⟨rfl, hmp, hb2⟩
    obtain ⟨hc2, hf2⟩ := bcell hb2
    have hz2 := hb2.size
    try simp at hz2
    have hs2x0 : w.heap.size < w2.heap.size := by omega
    have g2x0 : w2.cell? ⟨w.heap.size, 0, none⟩ = some (.int .i64 (0)) := (hc2 _ _ (by first | omega | (simp; done) | (simp; omega))).trans (by first | (with_reducible assumption) | (simp [go_sem]; done) | (simp [go_sem, *]; done) | assumption)
    have g2x1 : w2.cell? ⟨w.heap.size, 1, none⟩ = some (.int .i64 (0)) := (hc2 _ _ (by first | omega | (simp; done) | (simp; omega))).trans (by first | (with_reducible assumption) | (simp [go_sem]; done) | (simp [go_sem, *]; done) | assumption)
    have g2x2 : w2.cell? ⟨w.heap.size, 2, none⟩ = some (.bool (false)) := (hc2 _ _ (by first | omega | (simp; done) | (simp; omega))).trans (by first | (with_reducible assumption) | (simp [go_sem]; done) | (simp [go_sem, *]; done) | assumption)
    have g2x3 : w2.cell? ⟨w.heap.size, 3, none⟩ = some (.int .i64 (0)) := (hc2 _ _ (by first | omega | (simp; done) | (simp; omega))).trans (by first | (with_reducible assumption) | (simp [go_sem]; done) | (simp [go_sem, *]; done) | assumption)
    have z2x0 : w2.frozen? ⟨w.heap.size, 0, none⟩ = false := (hf2 _ _ (by first | omega | (simp; done) | (simp; omega))).trans (by first | (with_reducible assumption) | (simp [go_sem]; done) | (simp [go_sem, *]; done))
    have z2x1 : w2.frozen? ⟨w.heap.size, 1, none⟩ = false := (hf2 _ _ (by first | omega | (simp; done) | (simp; omega))).trans (by first | (with_reducible assumption) | (simp [go_sem]; done) | (simp [go_sem, *]; done))
    have z2x2 : w2.frozen? ⟨w.heap.size, 2, none⟩ = false := (hf2 _ _ (by first | omega | (simp; done) | (simp; omega))).trans (by first | (with_reducible assumption) | (simp [go_sem]; done) | (simp [go_sem, *]; done))
    have z2x3 : w2.frozen? ⟨w.heap.size, 3, none⟩ = false := (hf2 _ _ (by first | omega | (simp; done) | (simp; omega))).trans (by first | (with_reducible assumption) | (simp [go_sem]; done) | (simp [go_sem, *]; done))
    clear hc2 hf2
    have hlk := HL2.out w1.heap.size w2 hmp
    have hq2 : w1.heap.size < w2.heap.size := by
      rcases Nat.lt_or_ge w1.heap.size w2.heap.size with c | c
      · exact c
      · have : w2.heap[w1.heap.size]? = none := Array.getElem?_eq_none (by simpa using c)
        simp_all
    go_wp2_with fail
    clear hlk hmp hq2
  )
  all_goals (
    refine (HY.out _).mono ?_
    rintro e w' ⟨rfl, rfl⟩
    go_wp2_with fail
  )
  all_goals (
    have hq5 : w.heap.size < w2.heap.size + 1 + 1 := by omega
    refine (HC.out _ (Tab.below hT (by repeat (first | (with_reducible exact Below.refl _ _) | (with_reducible assumption) | (with_reducible refine bdrew ?_) | (with_reducible refine baa ?_ _) | (with_reducible refine bs ?_ (by first | exact Nat.le_refl _ | omega | (simp; done) | (simp; omega)) _) | (with_reducible refine bt ?_ (by with_reducible assumption))))) (Tab.below hL (by repeat (first | (with_reducible exact Below.refl _ _) | (with_reducible assumption) | (with_reducible refine bdrew ?_) | (with_reducible refine baa ?_ _) | (with_reducible refine bs ?_ (by first | exact Nat.le_refl _ | omega | (simp; done) | (simp; omega)) _) | (with_reducible refine bt ?_ (by with_reducible assumption)))))).mono ?_
    rintro e w3 ⟨rfl, hb3⟩
    obtain ⟨hc3, hf3⟩ := bcell hb3
    have hz3 := hb3.size
    try simp at hz3
    have hs3x0 : w.heap.size < w3.heap.size := by omega
    have hs3x1 : w2.heap.size < w3.heap.size := by omega
    have hs3x2 : (w2.heap.size + 1) < w3.heap.size := by omega
    have g3x0 : w3.cell? ⟨w.heap.size, 0, none⟩ = some (.int .i64 (0)) := (hc3 _ _ (by first | omega | (simp; done) | (simp; omega))).trans (by first | (with_reducible assumption) | (simp [go_sem]; done) | (simp [go_sem, *]; done) | assumption)
    have g3x1 : w3.cell? ⟨w.heap.size, 1, none⟩ = some (.int .i64 (0)) := (hc3 _ _ (by first | omega | (simp; done) | (simp; omega))).trans (by first | (with_reducible assumption) | (simp [go_sem]; done) | (simp [go_sem, *]; done) | assumption)
    have g3x2 : w3.cell? ⟨w.heap.size, 2, none⟩ = some (.bool (false)) := (hc3 _ _ (by first | omega | (simp; done) | (simp; omega))).trans (by first | (with_reducible assumption) | (simp [go_sem]; done) | (simp [go_sem, *]; done) | assumption)
    have g3x3 : w3.cell? ⟨w.heap.size, 3, none⟩ = some (.int .i64 (0)) := (hc3 _ _ (by first | omega | (simp; done) | (simp; omega))).trans (by first | (with_reducible assumption) | (simp [go_sem]; done) | (simp [go_sem, *]; done) | assumption)
    have g3x4 : w3.cell? ⟨w2.heap.size, 0, none⟩ = some (.int .i64 (n)) := (hc3 _ _ (by first | omega | (simp; done) | (simp; omega))).trans (by first | (with_reducible assumption) | (simp [go_sem]; done) | (simp [go_sem, *]; done) | assumption)
    have g3x5 : w3.cell? ⟨w2.heap.size, 1, none⟩ = some (.bool (l)) := (hc3 _ _ (by first | omega | (simp; done) | (simp; omega))).trans (by first | (with_reducible assumption) | (simp [go_sem]; done) | (simp [go_sem, *]; done) | assumption)
    have g3x6 : w3.cell? ⟨(w2.heap.size + 1), 0, none⟩ = some (.int .i64 (yy)) := (hc3 _ _ (by first | omega | (simp; done) | (simp; omega))).trans (by first | (with_reducible assumption) | (simp [go_sem]; done) | (simp [go_sem, *]; done) | assumption)
    have g3x7 : w3.cell? ⟨(w2.heap.size + 1), 1, none⟩ = some (.int .i64 (n)) := (hc3 _ _ (by first | omega | (simp; done) | (simp; omega))).trans (by first | (with_reducible assumption) | (simp [go_sem]; done) | (simp [go_sem, *]; done) | assumption)
    have g3x8 : w3.cell? ⟨(w2.heap.size + 1), 2, none⟩ = some (.bool (l)) := (hc3 _ _ (by first | omega | (simp; done) | (simp; omega))).trans (by first | (with_reducible assumption) | (simp [go_sem]; done) | (simp [go_sem, *]; done) | assumption)
    have g3x9 : w3.cell? ⟨(w2.heap.size + 1), 3, none⟩ = some (.int .i64 (dd)) := (hc3 _ _ (by first | omega | (simp; done) | (simp; omega))).trans (by first | (with_reducible assumption) | (simp [go_sem]; done) | (simp [go_sem, *]; done) | assumption)
    have z3x0 : w3.frozen? ⟨w.heap.size, 0, none⟩ = false := (hf3 _ _ (by first | omega | (simp; done) | (simp; omega))).trans (by first | (with_reducible assumption) | (simp [go_sem]; done) | (simp [go_sem, *]; done))
    have z3x1 : w3.frozen? ⟨w.heap.size, 1, none⟩ = false := (hf3 _ _ (by first | omega | (simp; done) | (simp; omega))).trans (by first | (with_reducible assumption) | (simp [go_sem]; done) | (simp [go_sem, *]; done))
    have z3x2 : w3.frozen? ⟨w.heap.size, 2, none⟩ = false := (hf3 _ _ (by first | omega | (simp; done) | (simp; omega))).trans (by first | (with_reducible assumption) | (simp [go_sem]; done) | (simp [go_sem, *]; done))
    have z3x3 : w3.frozen? ⟨w.heap.size, 3, none⟩ = false := (hf3 _ _ (by first | omega | (simp; done) | (simp; omega))).trans (by first | (with_reducible assumption) | (simp [go_sem]; done) | (simp [go_sem, *]; done))
    clear hc3 hf3
    go_wp2_with fail
  )
  all_goals (
    refine (HM.out _ (Tab.below hT (by repeat (first | (with_reducible exact Below.refl _ _) | (with_reducible assumption) | (with_reducible refine bdrew ?_) | (with_reducible refine baa ?_ _) | (with_reducible refine bs ?_ (by first | exact Nat.le_refl _ | omega | (simp; done) | (simp; omega)) _) | (with_reducible refine bt ?_ (by with_reducible assumption))))) (Tab.below hL (by repeat (first | (with_reducible exact Below.refl _ _) | (with_reducible assumption) | (with_reducible refine bdrew ?_) | (with_reducible refine baa ?_ _) | (with_reducible refine bs ?_ (by first | exact Nat.le_refl _ | omega | (simp; done) | (simp; omega)) _) | (with_reducible refine bt ?_ (by with_reducible assumption))))) (Tab.below hN (by repeat (first | (with_reducible exact Below.refl _ _) | (with_reducible assumption) | (with_reducible refine bdrew ?_) | (with_reducible refine baa ?_ _) | (with_reducible refine bs ?_ (by first | exact Nat.le_refl _ | omega | (simp; done) | (simp; omega)) _) | (with_reducible refine bt ?_ (by with_reducible assumption)))))).mono ?_
    rintro e w4 ⟨rfl, hb4⟩
    obtain ⟨hc4, hf4⟩ := bcell hb4
    have hz4 := hb4.size
    try simp at hz4
    have hs4x0 : w.heap.size < w4.heap.size := by omega
    have hs4x1 : w2.heap.size < w4.heap.size := by omega
    have hs4x2 : (w2.heap.size + 1) < w4.heap.size := by omega
    have g4x0 : w4.cell? ⟨w.heap.size, 0, none⟩ = some (.int .i64 (0)) := (hc4 _ _ (by first | omega | (simp; done) | (simp; omega))).trans (by first | (with_reducible assumption) | (simp [go_sem]; done) | (simp [go_sem, *]; done) | assumption)
    have g4x1 : w4.cell? ⟨w.heap.size, 1, none⟩ = some (.int .i64 (0)) := (hc4 _ _ (by first | omega | (simp; done) | (simp; omega))).trans (by first | (with_reducible assumption) | (simp [go_sem]; done) | (simp [go_sem, *]; done) | assumption)
    have g4x2 : w4.cell? ⟨w.heap.size, 2, none⟩ = some (.bool (false)) := (hc4 _ _ (by first | omega | (simp; done) | (simp; omega))).trans (by first | (with_reducible assumption) | (simp [go_sem]; done) | (simp [go_sem, *]; done) | assumption)
    have g4x3 : w4.cell? ⟨w.heap.size, 3, none⟩ = some (.int .i64 (0)) := (hc4 _ _ (by first | omega | (simp; done) | (simp; omega))).trans (by first | (with_reducible assumption) | (simp [go_sem]; done) | (simp [go_sem, *]; done) | assumption)
    have g4x4 : w4.cell? ⟨w2.heap.size, 0, none⟩ = some (.int .i64 (n)) := (hc4 _ _ (by first | omega | (simp; done) | (simp; omega))).trans (by first | (with_reducible assumption) | (simp [go_sem]; done) | (simp [go_sem, *]; done) | assumption)
    have g4x5 : w4.cell? ⟨w2.heap.size, 1, none⟩ = some (.bool (l)) := (hc4 _ _ (by first | omega | (simp; done) | (simp; omega))).trans (by first | (with_reducible assumption) | (simp [go_sem]; done) | (simp [go_sem, *]; done) | assumption)
    have g4x6 : w4.cell? ⟨(w2.heap.size + 1), 0, none⟩ = some (.int .i64 (yy)) := (hc4 _ _ (by first | omega | (simp; done) | (simp; omega))).trans (by first | (with_reducible assumption) | (simp [go_sem]; done) | (simp [go_sem, *]; done) | assumption)
    have g4x7 : w4.cell? ⟨(w2.heap.size + 1), 1, none⟩ = some (.int .i64 (n)) := (hc4 _ _ (by first | omega | (simp; done) | (simp; omega))).trans (by first | (with_reducible assumption) | (simp [go_sem]; done) | (simp [go_sem, *]; done) | assumption)
    have g4x8 : w4.cell? ⟨(w2.heap.size + 1), 2, none⟩ = some (.bool (l)) := (hc4 _ _ (by first | omega | (simp; done) | (simp; omega))).trans (by first | (with_reducible assumption) | (simp [go_sem]; done) | (simp [go_sem, *]; done) | assumption)
    have g4x9 : w4.cell? ⟨(w2.heap.size + 1), 3, none⟩ = some (.int .i64 (dd)) := (hc4 _ _ (by first | omega | (simp; done) | (simp; omega))).trans (by first | (with_reducible assumption) | (simp [go_sem]; done) | (simp [go_sem, *]; done) | assumption)
    have z4x0 : w4.frozen? ⟨w.heap.size, 0, none⟩ = false := (hf4 _ _ (by first | omega | (simp; done) | (simp; omega))).trans (by first | (with_reducible assumption) | (simp [go_sem]; done) | (simp [go_sem, *]; done))
    have z4x1 : w4.frozen? ⟨w.heap.size, 1, none⟩ = false := (hf4 _ _ (by first | omega | (simp; done) | (simp; omega))).trans (by first | (with_reducible assumption) | (simp [go_sem]; done) | (simp [go_sem, *]; done))
    have z4x2 : w4.frozen? ⟨w.heap.size, 2, none⟩ = false := (hf4 _ _ (by first | omega | (simp; done) | (simp; omega))).trans (by first | (with_reducible assumption) | (simp [go_sem]; done) | (simp [go_sem, *]; done))
    have z4x3 : w4.frozen? ⟨w.heap.size, 3, none⟩ = false := (hf4 _ _ (by first | omega | (simp; done) | (simp; omega))).trans (by first | (with_reducible assumption) | (simp [go_sem]; done) | (simp [go_sem, *]; done))
    clear hc4 hf4
    go_wp2_with fail
  )
  all_goals (
    refine bodyPost_ret (v := .tuple #[.agg #[.int .i64 (yy), .int .i64 (n), .bool (l), .int .i64 (dd)], .int .i64 (0)]) (by simp [results, Tryz.results13, go_sem, *]) rfl ⟨rfl, ?_⟩
    repeat (first | (with_reducible exact Below.refl _ _) | (with_reducible assumption) | (with_reducible refine bdrew ?_) | (with_reducible refine baa ?_ _) | (with_reducible refine bs ?_ (by first | exact Nat.le_refl _ | omega | (simp; done) | (simp; omega)) _) | (with_reducible refine bt ?_ (by with_reducible assumption)))
  )
set_option maxHeartbeats 4000000 in
theorem name_Read_e2 (s fs rs : ByteArray) (fd : Bool) (k : Nat) (dd yy n : Int) (l : Bool) (sn : ByteArray) (me : Int) (m : Int) (w : World) (hT : Tab w 2 kevCells) (hL : Tab w 3 lenCells) (hN : Tab w 0 nameCells) (hm : MaxAt w m)
    (HU : Hid (∀ w : World, MaxAt w m → Calls Tryz.prog 38 #[.string s, .string ⟨#[32]⟩] w fun e w' => e = .returned (.tuple #[.string fs, .string rs, .bool fd]) ∧ Below w.heap.size w w'))
    (HX : Hid (∀ w : World, Calls Tryz.prog 39 #[.string rs, .string ⟨#[32]⟩] w fun e w' => e = .returned (.int .i64 (k : Int)) ∧ w = w'))
    (k0 : (0 : Int) ≤ (k : Int)) (k1 : (k : Int) < (rs.size : Int)) (k2 : (k : Int) + 1 ≤ (rs.size : Int)) (hrs : rs.size ≤ 1000000)
    (HD : Hid (∀ w : World, Calls Tryz.prog 40 #[.string fs, .int .i64 2] w fun e w' => e = .returned (.tuple #[.int .i64 dd, .bool true]) ∧ w = w'))
    (HK : Hid (∀ w : World, Tab w 0 nameCells → Calls Tryz.prog 41 #[] w fun e w' => e = .returned (.map (some w.heap.size)) ∧ w'.heap[w.heap.size]? = some (.map (codesAt 12) 14) ∧ Below w.heap.size w w'))
    (HL2 : Hid (∀ (b : Nat) (w : World), w.heap[b]? = some (.map (codesAt 12) 14) → (Instr.lookup 64 (.map (some b)) (.string (rs.extract 0 k)) true).run Tryz.prog w = .ok (.tuple #[.agg #[.int .i64 n, .bool l], .bool true]) w))
    (HY : Hid (∀ w : World, Calls Tryz.prog 40 #[.string (rs.extract (k + 1) rs.size), .int .i64 4] w fun e w' => e = .returned (.tuple #[.int .i64 yy, .bool true]) ∧ w = w'))
    (HC : Hid (∀ w : World, Tab w 2 kevCells → Tab w 3 lenCells → Calls Tryz.prog 34 #[.agg #[.int .i64 (yy), .int .i64 (n), .bool (l), .int .i64 (dd)]] w fun e w' => e = .returned (.int .i64 (0)) ∧ Below w.heap.size w w'))
    (HM : Hid (∀ w : World, Tab w 2 kevCells → Tab w 3 lenCells → Tab w 0 nameCells → Calls Tryz.prog 9 #[.int .i64 yy, .agg #[.int .i64 n, .bool l]] w fun e w' => e = .returned (.tuple #[.string sn, .int .i64 me]) ∧ Below w.heap.size w w'))
    (b1 : (sn.toList == (rs.extract 0 k).toList) = false)
    (a1 : ((rs.extract 0 k).toList == (⟨#[65, 100, 97, 114]⟩ : ByteArray).toList) = true) (a2 : ((rs.extract 0 k).toList == [65, 100, 97, 114]) = true)
    : Calls Tryz.prog 13 #[.string s] w fun e w' => e = .returned (.tuple #[.agg #[.int .i64 (yy), .int .i64 (n), .bool (l), .int .i64 (dd)], .int .i64 (0)]) ∧ Below w.heap.size w w' := by
  go_enter Tryz.func13, Tryz.ntmps13
  go_wp2_with fail
  have hmA := MaxAt.below hm (ba w (.cells #[.int .i64 0, .int .i64 0, .bool false, .int .i64 0] 25))
  refine (HU.out _ hmA).mono ?_
  rintro e w1 ⟨rfl, hb1⟩
  obtain ⟨hc1, hf1⟩ := bcell hb1
  have hz1 := hb1.size
  try simp at hz1
  have hs1x0 : w.heap.size < w1.heap.size := by omega
  have g1x0 : w1.cell? ⟨w.heap.size, 0, none⟩ = some (.int .i64 (0)) := (hc1 _ _ (by first | omega | (simp; done) | (simp; omega))).trans (by first | (with_reducible assumption) | (simp [go_sem]; done) | (simp [go_sem, *]; done) | assumption)
  have g1x1 : w1.cell? ⟨w.heap.size, 1, none⟩ = some (.int .i64 (0)) := (hc1 _ _ (by first | omega | (simp; done) | (simp; omega))).trans (by first | (with_reducible assumption) | (simp [go_sem]; done) | (simp [go_sem, *]; done) | assumption)
  have g1x2 : w1.cell? ⟨w.heap.size, 2, none⟩ = some (.bool (false)) := (hc1 _ _ (by first | omega | (simp; done) | (simp; omega))).trans (by first | (with_reducible assumption) | (simp [go_sem]; done) | (simp [go_sem, *]; done) | assumption)
  have g1x3 : w1.cell? ⟨w.heap.size, 3, none⟩ = some (.int .i64 (0)) := (hc1 _ _ (by first | omega | (simp; done) | (simp; omega))).trans (by first | (with_reducible assumption) | (simp [go_sem]; done) | (simp [go_sem, *]; done) | assumption)
  have z1x0 : w1.frozen? ⟨w.heap.size, 0, none⟩ = false := (hf1 _ _ (by first | omega | (simp; done) | (simp; omega))).trans (by first | (with_reducible assumption) | (simp [go_sem]; done) | (simp [go_sem, *]; done))
  have z1x1 : w1.frozen? ⟨w.heap.size, 1, none⟩ = false := (hf1 _ _ (by first | omega | (simp; done) | (simp; omega))).trans (by first | (with_reducible assumption) | (simp [go_sem]; done) | (simp [go_sem, *]; done))
  have z1x2 : w1.frozen? ⟨w.heap.size, 2, none⟩ = false := (hf1 _ _ (by first | omega | (simp; done) | (simp; omega))).trans (by first | (with_reducible assumption) | (simp [go_sem]; done) | (simp [go_sem, *]; done))
  have z1x3 : w1.frozen? ⟨w.heap.size, 3, none⟩ = false := (hf1 _ _ (by first | omega | (simp; done) | (simp; omega))).trans (by first | (with_reducible assumption) | (simp [go_sem]; done) | (simp [go_sem, *]; done))
  clear hc1 hf1
  go_wp2_with fail
  refine (HX.out _).mono ?_
  rintro e w' ⟨rfl, rfl⟩
  go_wp2_with fail
  go_region
  all_goals go_wp2_with fail
  all_goals (refine (HD.out _).mono ?_; rintro e w' ⟨rfl, rfl⟩)
  all_goals go_wp2_with fail
  all_goals (
    refine (HK.out _ (Tab.below hN (by repeat (first | (with_reducible exact Below.refl _ _) | (with_reducible assumption) | (with_reducible refine bdrew ?_) | (with_reducible refine baa ?_ _) | (with_reducible refine bs ?_ (by first | exact Nat.le_refl _ | omega | (simp; done) | (simp; omega)) _) | (with_reducible refine bt ?_ (by with_reducible assumption)))))).mono ?_
    rintro e w2 ⟨rfl, hmp, hb2⟩
    obtain ⟨hc2, hf2⟩ := bcell hb2
    have hz2 := hb2.size
    try simp at hz2
    have hs2x0 : w.heap.size < w2.heap.size := by omega
    have g2x0 : w2.cell? ⟨w.heap.size, 0, none⟩ = some (.int .i64 (0)) := (hc2 _ _ (by first | omega | (simp; done) | (simp; omega))).trans (by first | (with_reducible assumption) | (simp [go_sem]; done) | (simp [go_sem, *]; done) | assumption)
    have g2x1 : w2.cell? ⟨w.heap.size, 1, none⟩ = some (.int .i64 (0)) := (hc2 _ _ (by first | omega | (simp; done) | (simp; omega))).trans (by first | (with_reducible assumption) | (simp [go_sem]; done) | (simp [go_sem, *]; done) | assumption)
    have g2x2 : w2.cell? ⟨w.heap.size, 2, none⟩ = some (.bool (false)) := (hc2 _ _ (by first | omega | (simp; done) | (simp; omega))).trans (by first | (with_reducible assumption) | (simp [go_sem]; done) | (simp [go_sem, *]; done) | assumption)
    have g2x3 : w2.cell? ⟨w.heap.size, 3, none⟩ = some (.int .i64 (0)) := (hc2 _ _ (by first | omega | (simp; done) | (simp; omega))).trans (by first | (with_reducible assumption) | (simp [go_sem]; done) | (simp [go_sem, *]; done) | assumption)
    have z2x0 : w2.frozen? ⟨w.heap.size, 0, none⟩ = false := (hf2 _ _ (by first | omega | (simp; done) | (simp; omega))).trans (by first | (with_reducible assumption) | (simp [go_sem]; done) | (simp [go_sem, *]; done))
    have z2x1 : w2.frozen? ⟨w.heap.size, 1, none⟩ = false := (hf2 _ _ (by first | omega | (simp; done) | (simp; omega))).trans (by first | (with_reducible assumption) | (simp [go_sem]; done) | (simp [go_sem, *]; done))
    have z2x2 : w2.frozen? ⟨w.heap.size, 2, none⟩ = false := (hf2 _ _ (by first | omega | (simp; done) | (simp; omega))).trans (by first | (with_reducible assumption) | (simp [go_sem]; done) | (simp [go_sem, *]; done))
    have z2x3 : w2.frozen? ⟨w.heap.size, 3, none⟩ = false := (hf2 _ _ (by first | omega | (simp; done) | (simp; omega))).trans (by first | (with_reducible assumption) | (simp [go_sem]; done) | (simp [go_sem, *]; done))
    clear hc2 hf2
    have hlk := HL2.out w1.heap.size w2 hmp
    have hq2 : w1.heap.size < w2.heap.size := by
      rcases Nat.lt_or_ge w1.heap.size w2.heap.size with c | c
      · exact c
      · have : w2.heap[w1.heap.size]? = none := Array.getElem?_eq_none (by simpa using c)
        simp_all
    go_wp2_with fail
    clear hlk hmp hq2
  )
  all_goals (
    refine (HY.out _).mono ?_
    rintro e w' ⟨rfl, rfl⟩
    go_wp2_with fail
  )
  all_goals (
    have hq5 : w.heap.size < w2.heap.size + 1 + 1 := by omega
    refine (HC.out _ (Tab.below hT (by repeat (first | (with_reducible exact Below.refl _ _) | (with_reducible assumption) | (with_reducible refine bdrew ?_) | (with_reducible refine baa ?_ _) | (with_reducible refine bs ?_ (by first | exact Nat.le_refl _ | omega | (simp; done) | (simp; omega)) _) | (with_reducible refine bt ?_ (by with_reducible assumption))))) (Tab.below hL (by repeat (first | (with_reducible exact Below.refl _ _) | (with_reducible assumption) | (with_reducible refine bdrew ?_) | (with_reducible refine baa ?_ _) | (with_reducible refine bs ?_ (by first | exact Nat.le_refl _ | omega | (simp; done) | (simp; omega)) _) | (with_reducible refine bt ?_ (by with_reducible assumption)))))).mono ?_
    rintro e w3 ⟨rfl, hb3⟩
    obtain ⟨hc3, hf3⟩ := bcell hb3
    have hz3 := hb3.size
    try simp at hz3
    have hs3x0 : w.heap.size < w3.heap.size := by omega
    have hs3x1 : w2.heap.size < w3.heap.size := by omega
    have hs3x2 : (w2.heap.size + 1) < w3.heap.size := by omega
    have g3x0 : w3.cell? ⟨w.heap.size, 0, none⟩ = some (.int .i64 (0)) := (hc3 _ _ (by first | omega | (simp; done) | (simp; omega))).trans (by first | (with_reducible assumption) | (simp [go_sem]; done) | (simp [go_sem, *]; done) | assumption)
    have g3x1 : w3.cell? ⟨w.heap.size, 1, none⟩ = some (.int .i64 (0)) := (hc3 _ _ (by first | omega | (simp; done) | (simp; omega))).trans (by first | (with_reducible assumption) | (simp [go_sem]; done) | (simp [go_sem, *]; done) | assumption)
    have g3x2 : w3.cell? ⟨w.heap.size, 2, none⟩ = some (.bool (false)) := (hc3 _ _ (by first | omega | (simp; done) | (simp; omega))).trans (by first | (with_reducible assumption) | (simp [go_sem]; done) | (simp [go_sem, *]; done) | assumption)
    have g3x3 : w3.cell? ⟨w.heap.size, 3, none⟩ = some (.int .i64 (0)) := (hc3 _ _ (by first | omega | (simp; done) | (simp; omega))).trans (by first | (with_reducible assumption) | (simp [go_sem]; done) | (simp [go_sem, *]; done) | assumption)
    have g3x4 : w3.cell? ⟨w2.heap.size, 0, none⟩ = some (.int .i64 (n)) := (hc3 _ _ (by first | omega | (simp; done) | (simp; omega))).trans (by first | (with_reducible assumption) | (simp [go_sem]; done) | (simp [go_sem, *]; done) | assumption)
    have g3x5 : w3.cell? ⟨w2.heap.size, 1, none⟩ = some (.bool (l)) := (hc3 _ _ (by first | omega | (simp; done) | (simp; omega))).trans (by first | (with_reducible assumption) | (simp [go_sem]; done) | (simp [go_sem, *]; done) | assumption)
    have g3x6 : w3.cell? ⟨(w2.heap.size + 1), 0, none⟩ = some (.int .i64 (yy)) := (hc3 _ _ (by first | omega | (simp; done) | (simp; omega))).trans (by first | (with_reducible assumption) | (simp [go_sem]; done) | (simp [go_sem, *]; done) | assumption)
    have g3x7 : w3.cell? ⟨(w2.heap.size + 1), 1, none⟩ = some (.int .i64 (n)) := (hc3 _ _ (by first | omega | (simp; done) | (simp; omega))).trans (by first | (with_reducible assumption) | (simp [go_sem]; done) | (simp [go_sem, *]; done) | assumption)
    have g3x8 : w3.cell? ⟨(w2.heap.size + 1), 2, none⟩ = some (.bool (l)) := (hc3 _ _ (by first | omega | (simp; done) | (simp; omega))).trans (by first | (with_reducible assumption) | (simp [go_sem]; done) | (simp [go_sem, *]; done) | assumption)
    have g3x9 : w3.cell? ⟨(w2.heap.size + 1), 3, none⟩ = some (.int .i64 (dd)) := (hc3 _ _ (by first | omega | (simp; done) | (simp; omega))).trans (by first | (with_reducible assumption) | (simp [go_sem]; done) | (simp [go_sem, *]; done) | assumption)
    have z3x0 : w3.frozen? ⟨w.heap.size, 0, none⟩ = false := (hf3 _ _ (by first | omega | (simp; done) | (simp; omega))).trans (by first | (with_reducible assumption) | (simp [go_sem]; done) | (simp [go_sem, *]; done))
    have z3x1 : w3.frozen? ⟨w.heap.size, 1, none⟩ = false := (hf3 _ _ (by first | omega | (simp; done) | (simp; omega))).trans (by first | (with_reducible assumption) | (simp [go_sem]; done) | (simp [go_sem, *]; done))
    have z3x2 : w3.frozen? ⟨w.heap.size, 2, none⟩ = false := (hf3 _ _ (by first | omega | (simp; done) | (simp; omega))).trans (by first | (with_reducible assumption) | (simp [go_sem]; done) | (simp [go_sem, *]; done))
    have z3x3 : w3.frozen? ⟨w.heap.size, 3, none⟩ = false := (hf3 _ _ (by first | omega | (simp; done) | (simp; omega))).trans (by first | (with_reducible assumption) | (simp [go_sem]; done) | (simp [go_sem, *]; done))
    clear hc3 hf3
    go_wp2_with fail
  )
  all_goals (
    refine (HM.out _ (Tab.below hT (by repeat (first | (with_reducible exact Below.refl _ _) | (with_reducible assumption) | (with_reducible refine bdrew ?_) | (with_reducible refine baa ?_ _) | (with_reducible refine bs ?_ (by first | exact Nat.le_refl _ | omega | (simp; done) | (simp; omega)) _) | (with_reducible refine bt ?_ (by with_reducible assumption))))) (Tab.below hL (by repeat (first | (with_reducible exact Below.refl _ _) | (with_reducible assumption) | (with_reducible refine bdrew ?_) | (with_reducible refine baa ?_ _) | (with_reducible refine bs ?_ (by first | exact Nat.le_refl _ | omega | (simp; done) | (simp; omega)) _) | (with_reducible refine bt ?_ (by with_reducible assumption))))) (Tab.below hN (by repeat (first | (with_reducible exact Below.refl _ _) | (with_reducible assumption) | (with_reducible refine bdrew ?_) | (with_reducible refine baa ?_ _) | (with_reducible refine bs ?_ (by first | exact Nat.le_refl _ | omega | (simp; done) | (simp; omega)) _) | (with_reducible refine bt ?_ (by with_reducible assumption)))))).mono ?_
    rintro e w4 ⟨rfl, hb4⟩
    obtain ⟨hc4, hf4⟩ := bcell hb4
    have hz4 := hb4.size
    try simp at hz4
    have hs4x0 : w.heap.size < w4.heap.size := by omega
    have hs4x1 : w2.heap.size < w4.heap.size := by omega
    have hs4x2 : (w2.heap.size + 1) < w4.heap.size := by omega
    have g4x0 : w4.cell? ⟨w.heap.size, 0, none⟩ = some (.int .i64 (0)) := (hc4 _ _ (by first | omega | (simp; done) | (simp; omega))).trans (by first | (with_reducible assumption) | (simp [go_sem]; done) | (simp [go_sem, *]; done) | assumption)
    have g4x1 : w4.cell? ⟨w.heap.size, 1, none⟩ = some (.int .i64 (0)) := (hc4 _ _ (by first | omega | (simp; done) | (simp; omega))).trans (by first | (with_reducible assumption) | (simp [go_sem]; done) | (simp [go_sem, *]; done) | assumption)
    have g4x2 : w4.cell? ⟨w.heap.size, 2, none⟩ = some (.bool (false)) := (hc4 _ _ (by first | omega | (simp; done) | (simp; omega))).trans (by first | (with_reducible assumption) | (simp [go_sem]; done) | (simp [go_sem, *]; done) | assumption)
    have g4x3 : w4.cell? ⟨w.heap.size, 3, none⟩ = some (.int .i64 (0)) := (hc4 _ _ (by first | omega | (simp; done) | (simp; omega))).trans (by first | (with_reducible assumption) | (simp [go_sem]; done) | (simp [go_sem, *]; done) | assumption)
    have g4x4 : w4.cell? ⟨w2.heap.size, 0, none⟩ = some (.int .i64 (n)) := (hc4 _ _ (by first | omega | (simp; done) | (simp; omega))).trans (by first | (with_reducible assumption) | (simp [go_sem]; done) | (simp [go_sem, *]; done) | assumption)
    have g4x5 : w4.cell? ⟨w2.heap.size, 1, none⟩ = some (.bool (l)) := (hc4 _ _ (by first | omega | (simp; done) | (simp; omega))).trans (by first | (with_reducible assumption) | (simp [go_sem]; done) | (simp [go_sem, *]; done) | assumption)
    have g4x6 : w4.cell? ⟨(w2.heap.size + 1), 0, none⟩ = some (.int .i64 (yy)) := (hc4 _ _ (by first | omega | (simp; done) | (simp; omega))).trans (by first | (with_reducible assumption) | (simp [go_sem]; done) | (simp [go_sem, *]; done) | assumption)
    have g4x7 : w4.cell? ⟨(w2.heap.size + 1), 1, none⟩ = some (.int .i64 (n)) := (hc4 _ _ (by first | omega | (simp; done) | (simp; omega))).trans (by first | (with_reducible assumption) | (simp [go_sem]; done) | (simp [go_sem, *]; done) | assumption)
    have g4x8 : w4.cell? ⟨(w2.heap.size + 1), 2, none⟩ = some (.bool (l)) := (hc4 _ _ (by first | omega | (simp; done) | (simp; omega))).trans (by first | (with_reducible assumption) | (simp [go_sem]; done) | (simp [go_sem, *]; done) | assumption)
    have g4x9 : w4.cell? ⟨(w2.heap.size + 1), 3, none⟩ = some (.int .i64 (dd)) := (hc4 _ _ (by first | omega | (simp; done) | (simp; omega))).trans (by first | (with_reducible assumption) | (simp [go_sem]; done) | (simp [go_sem, *]; done) | assumption)
    have z4x0 : w4.frozen? ⟨w.heap.size, 0, none⟩ = false := (hf4 _ _ (by first | omega | (simp; done) | (simp; omega))).trans (by first | (with_reducible assumption) | (simp [go_sem]; done) | (simp [go_sem, *]; done))
    have z4x1 : w4.frozen? ⟨w.heap.size, 1, none⟩ = false := (hf4 _ _ (by first | omega | (simp; done) | (simp; omega))).trans (by first | (with_reducible assumption) | (simp [go_sem]; done) | (simp [go_sem, *]; done))
    have z4x2 : w4.frozen? ⟨w.heap.size, 2, none⟩ = false := (hf4 _ _ (by first | omega | (simp; done) | (simp; omega))).trans (by first | (with_reducible assumption) | (simp [go_sem]; done) | (simp [go_sem, *]; done))
    have z4x3 : w4.frozen? ⟨w.heap.size, 3, none⟩ = false := (hf4 _ _ (by first | omega | (simp; done) | (simp; omega))).trans (by first | (with_reducible assumption) | (simp [go_sem]; done) | (simp [go_sem, *]; done))
    clear hc4 hf4
    go_wp2_with fail
  )
  all_goals (
    refine bodyPost_ret (v := .tuple #[.agg #[.int .i64 (yy), .int .i64 (n), .bool (l), .int .i64 (dd)], .int .i64 (0)]) (by simp [results, Tryz.results13, go_sem, *]) rfl ⟨rfl, ?_⟩
    repeat (first | (with_reducible exact Below.refl _ _) | (with_reducible assumption) | (with_reducible refine bdrew ?_) | (with_reducible refine baa ?_ _) | (with_reducible refine bs ?_ (by first | exact Nat.le_refl _ | omega | (simp; done) | (simp; omega)) _) | (with_reducible refine bt ?_ (by with_reducible assumption)))
  )
end Go.Proofs.YtagmdglmflcegaaGreatDoor
