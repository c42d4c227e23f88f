/- Layer 5: the walks of its laws over structs. -/
import Derived.Test.YtemkngkaaabghaaW5
import Derived.Deep.RegionHeld3
namespace Go.Proofs.Ytemkngkaaabghaa
open Go.ChangeShapes Go.WideShapes Go.ChangeAt Go.RowKit
set_option linter.unusedVariables false

theorem keepS {a b : World} {g : Nat} {v0 v1 : Value} (h : a.cell? ⟨g, 0, none⟩ = some v0 ∧ a.cell? ⟨g, 1, none⟩ = some v1 ∧ g < a.heap.size) (hb : Below a.heap.size a b) :
    b.cell? ⟨g, 0, none⟩ = some v0 ∧ b.cell? ⟨g, 1, none⟩ = some v1 ∧ g < b.heap.size :=
  ⟨(hb.cell (p := ⟨g, 0, none⟩) h.2.2).trans h.1, (hb.cell (p := ⟨g, 1, none⟩) h.2.2).trans h.2.1, Nat.lt_of_lt_of_le h.2.2 hb.size⟩
set_option maxHeartbeats 1000000 in
theorem NewyearTells_walk (d p : Int) (lp af : Bool) (y : Int) (hd : I64 d) (hp : I64 p) (hy : I64 y) (w : World) :
    Calls Try.prog 16 #[.agg #[.int .i64 d, .int .i64 p, .bool lp, .bool af, .int .i64 y]] w fun e w' => e = .returned (.bool true) ∧ Below w.heap.size w w' := by
  have HD := Lib.hid (fun w => newyear_Delay d p lp af w hd hp)
  have HE := Lib.hid (fun w => ref5_Delay d p lp af w hd hp)
  go_enter Try.func16, Try.ntmps16
  go_wp2_with fail
  go_region_held3 (fun x => x.cell? ⟨w.heap.size, 0, none⟩ = some (.int .i64 d) ∧ x.cell? ⟨w.heap.size, 1, none⟩ = some (.int .i64 p) ∧ x.cell? ⟨w.heap.size, 2, none⟩ = some (.bool lp) ∧ x.cell? ⟨w.heap.size, 3, none⟩ = some (.bool af) ∧ x.cell? ⟨w.heap.size, 4, none⟩ = some (.int .i64 y)) (go_keep) (first | fail)
  all_goals go_wp2_with fail
  have hg : w.heap.size + 1 < w.heap.size + 1 + 1 := by omega
  refine (newyear_First y _ hy).mono ?_
  rintro e w1 ⟨rfl, hb1⟩
  obtain ⟨hc1, hf1⟩ := bcell hb1
  have hz1 := hb1.size
  try simp at hz1
  have g1x0 : w1.cell? ⟨w.heap.size + 1, 0, none⟩ = some (.int .i64 d) := (hc1 _ _ (by first | omega | (simp; done) | (simp; omega))).trans (by first | assumption | simp [go_sem] | simp [go_sem, *])
  have g1x1 : w1.cell? ⟨w.heap.size + 1, 1, none⟩ = some (.int .i64 p) := (hc1 _ _ (by first | omega | (simp; done) | (simp; omega))).trans (by first | assumption | simp [go_sem] | simp [go_sem, *])
  go_wp2_with fail
  have hs1 : w.heap.size + 1 < w1.heap.size := by omega
  have hs1' : w.heap.size + 1 ≤ w1.heap.size := by omega
  refine (ref5_First y _ hy).mono ?_
  rintro e w2 ⟨rfl, hb2⟩
  obtain ⟨hc2, hf2⟩ := bcell hb2
  have hz2 := hb2.size
  try simp at hz2
  have g2x0 : w2.cell? ⟨w.heap.size + 1, 0, none⟩ = some (.int .i64 d) := (hc2 _ _ (by first | omega | (simp; done) | (simp; omega))).trans (by first | assumption | simp [go_sem] | simp [go_sem, *])
  have g2x1 : w2.cell? ⟨w.heap.size + 1, 1, none⟩ = some (.int .i64 p) := (hc2 _ _ (by first | omega | (simp; done) | (simp; omega))).trans (by first | assumption | simp [go_sem] | simp [go_sem, *])
  go_wp2_with fail
  have hs2 : w.heap.size + 1 < w2.heap.size := by omega
  clear hc1 hf1 hc2 hf2
  go_region_held3 (fun x => x.cell? ⟨w.heap.size + 1, 0, none⟩ = some (.int .i64 d) ∧ x.cell? ⟨w.heap.size + 1, 1, none⟩ = some (.int .i64 p) ∧ w.heap.size + 1 < x.heap.size) (first | assumption | go_keep)
      (first | (go_at_call 58; refine (awake5 _).mono ?_; rintro e w3 ⟨rfl, hb3⟩; have hk3 := keepS (by assumption) hb3)
             | (go_at_call 59; refine (HD.out _).mono ?_; rintro e w4 ⟨rfl, hb4⟩; have hk4 := keepS (by assumption) hb4)
             | (go_at_call 60; refine (HE.out _).mono ?_; rintro e w5 ⟨rfl, hb5⟩; have hk5 := keepS (by assumption) hb5))
  all_goals go_wp2_with fail
  all_goals go_ret
  all_goals exact ⟨rfl, bt (bt (bt (bdw (bt (bt (bdw (baa (ba _ _) _)) hb1) hb2)) hb3) hb4) hb5⟩

theorem delay_good (d q : Int) (lp af : Bool) : (d + Cal.delay d q lp af) % 7 ≠ 0 ∧ (d + Cal.delay d q lp af) % 7 ≠ 3 ∧ (d + Cal.delay d q lp af) % 7 ≠ 5 ∧ (19440 ≤ q → 1 ≤ Cal.delay d q lp af) ∧ Cal.delay d q lp false ≤ Cal.delay d q lp af := by
  cases lp <;> cases af
  · rw [delay_ff]; repeat' split
    all_goals omega
  · rw [delay_ft, delay_ff]; repeat' split
    all_goals omega
  · rw [delay_tf]; repeat' split
    all_goals omega
  · rw [delay_tt, delay_tf]; repeat' split
    all_goals omega
set_option maxHeartbeats 1000000 in
theorem NewyearMoves_walk (d p : Int) (lp af : Bool) (hd : -2147483648 ≤ d ∧ d ≤ 2147483647) (hp : 0 ≤ p ∧ p ≤ 65535) (w : World) :
    Calls Try.prog 18 #[.agg #[.int .i32 d, .int .u16 p, .bool lp, .bool af]] w fun e w' => e = .returned (.bool true) ∧ Below w.heap.size w w' := by
  obtain ⟨d1, d2⟩ := hd
  obtain ⟨p1, p2⟩ := hp
  go_enter Try.func18, Try.ntmps18
  go_wp2_with fail
  go_region_held3 (fun x => x.cell? ⟨w.heap.size, 0, none⟩ = some (.int .i32 d) ∧ x.cell? ⟨w.heap.size, 1, none⟩ = some (.int .u16 p) ∧ x.cell? ⟨w.heap.size, 2, none⟩ = some (.bool lp) ∧ x.cell? ⟨w.heap.size, 3, none⟩ = some (.bool af)) (go_keep) (first | fail)
  go_wp2_with fail
  have q1 : 0 ≤ p % 25920 := by omega
  have q2 : p % 25920 < 25920 := by omega
  generalize p % 25920 = q at *
  have HD := Lib.hid (fun w => newyear_Delay d q lp af w ⟨by omega, by omega⟩ ⟨by omega, by omega⟩)
  have HE := Lib.hid (fun w => newyear_Delay d q lp false w ⟨by omega, by omega⟩ ⟨by omega, by omega⟩)
  obtain ⟨n1, n2⟩ := delay_bd d q lp af
  have hgood := delay_good d q lp af
  generalize Cal.delay d q lp af = n at *
  generalize Cal.delay d q lp false = m at *
  have ew := tmod7 (d + n)
  have g1 : ((d + n) % 7 != 0) = true := by rw [bne_iff_ne]; exact hgood.1
  have g2 : ((d + n) % 7 != 3) = true := by rw [bne_iff_ne]; exact hgood.2.1
  have g3 : ((d + n) % 7 != 5) = true := by rw [bne_iff_ne]; exact hgood.2.2.1
  have g4 : q < 19440 ∨ (19440 ≤ q ∧ 1 ≤ n) := by have := hgood.2.2.2.1; omega
  have g5 : m ≤ n := hgood.2.2.2.2
  clear hgood
  refine (HD.out _).mono ?_
  rintro e w1 ⟨rfl, hb1⟩
  obtain ⟨hc1, hf1⟩ := bcell hb1
  have hz1 := hb1.size
  try simp at hz1
  have g1x0 : w1.cell? ⟨w.heap.size + 1, 0, none⟩ = some (.int .i64 d) := (hc1 _ _ (by first | omega | (simp; done) | (simp; omega))).trans (by first | assumption | simp [go_sem] | simp [go_sem, *])
  have g1x1 : w1.cell? ⟨w.heap.size + 1, 1, none⟩ = some (.int .i64 q) := (hc1 _ _ (by first | omega | (simp; done) | (simp; omega))).trans (by first | assumption | simp [go_sem] | simp [go_sem, *])
  go_wp2_with fail
  have hs1 : w.heap.size + 1 < w1.heap.size := by omega
  have hs1' : w.heap.size + 1 ≤ w1.heap.size := by omega
  clear hc1 hf1
  rcases g4 with g4 | ⟨g4, g6⟩
  · skip
    refine (awake5 _).mono ?_
    rintro e w3 ⟨rfl, hb3⟩
    obtain ⟨hc3, hf3⟩ := bcell hb3
    have hz3 := hb3.size
    try simp at hz3
    have g3x0 : w3.cell? ⟨w.heap.size + 1, 0, none⟩ = some (.int .i64 d) := (hc3 _ _ (by first | omega | (simp; done) | (simp; omega))).trans (by first | assumption | simp [go_sem] | simp [go_sem, *])
    have g3x1 : w3.cell? ⟨w.heap.size + 1, 1, none⟩ = some (.int .i64 q) := (hc3 _ _ (by first | omega | (simp; done) | (simp; omega))).trans (by first | assumption | simp [go_sem] | simp [go_sem, *])
    go_wp2_with fail
    refine (HE.out _).mono ?_
    rintro e w4 ⟨rfl, hb4⟩
    obtain ⟨hc4, hf4⟩ := bcell hb4
    have hz4 := hb4.size
    try simp at hz4
    go_wp2_with fail
    go_ret
    exact ⟨rfl, bt (bt (bt (bdw (baa (ba _ _) _)) hb1) hb3) hb4⟩
  · skip
    refine (awake5 _).mono ?_
    rintro e w3 ⟨rfl, hb3⟩
    obtain ⟨hc3, hf3⟩ := bcell hb3
    have hz3 := hb3.size
    try simp at hz3
    have g3x0 : w3.cell? ⟨w.heap.size + 1, 0, none⟩ = some (.int .i64 d) := (hc3 _ _ (by first | omega | (simp; done) | (simp; omega))).trans (by first | assumption | simp [go_sem] | simp [go_sem, *])
    have g3x1 : w3.cell? ⟨w.heap.size + 1, 1, none⟩ = some (.int .i64 q) := (hc3 _ _ (by first | omega | (simp; done) | (simp; omega))).trans (by first | assumption | simp [go_sem] | simp [go_sem, *])
    go_wp2_with fail
    refine (HE.out _).mono ?_
    rintro e w4 ⟨rfl, hb4⟩
    obtain ⟨hc4, hf4⟩ := bcell hb4
    have hz4 := hb4.size
    try simp at hz4
    go_wp2_with fail
    go_ret
    exact ⟨rfl, bt (bt (bt (bdw (baa (ba _ _) _)) hb1) hb3) hb4⟩
end Go.Proofs.Ytemkngkaaabghaa
