/- Layer 2: parts come back of their moment. -/
import Derived.Test.YtemkngkaaabghaaW2
import Derived.Test.YtemkngkaaabghaaReg
namespace Go.Proofs.Ytemkngkaaabghaa
open Go.ChangeShapes Go.WideShapes Go.ChangeAt Go.RowKit
set_option linter.unusedVariables false
theorem keep2 {a b : World} {g : Nat} {v0 v1 : Value} (h : a.cell? ⟨g, 0, none⟩ = some v0 ∧ a.cell? ⟨g, 1, none⟩ = some v1 ∧ g < a.heap.size) (hb : Below a.heap.size a b) :
    b.cell? ⟨g, 0, none⟩ = some v0 ∧ b.cell? ⟨g, 1, none⟩ = some v1 ∧ g < b.heap.size :=
  ⟨(hb.cell (p := ⟨g, 0, none⟩) h.2.2).trans h.1, (hb.cell (p := ⟨g, 1, none⟩) h.2.2).trans h.2.1, Nat.lt_of_lt_of_le h.2.2 hb.size⟩
theorem bdw2 {a b : World} (h : Below a.heap.size a b) : Below a.heap.size a b.drew := h.drew

set_option maxRecDepth 100000 in
set_option maxHeartbeats 1000000 in
theorem HalakBack_a (n d p : Int) (hn : I64 n) (hd : I64 d) (hp : I64 p) (w : World) (c : p < 0) :
    Calls Try.prog 8 #[.int .i64 n, .agg #[.int .i64 d, .int .i64 p]] w fun e w' => e = .returned (.bool true) ∧ Below w.heap.size w w' := by
  have k1 : 0 ≤ n % 25920 := by omega
  have k2 : n % 25920 < 25920 := by omega
  have k3 : n % 25920 / 1080 * 1080 + n % 25920 % 1080 = n % 25920 := by omega
  have hJ := fun w => halak_Join d p w hd hp
  have j1 := (Cal.join_no d p (by omega)).1
  have j2 := (Cal.join_no d p (by omega)).2
  rw [j1, j2] at hJ
  have HJ := Lib.hid hJ
  clear hJ j1 j2
  try have d1 : decide (p < 0) = false := by simpa using c1
  try have d2 : decide (25920 ≤ p) = true := by simpa using c
  try have d3 : decide (25920 ≤ p) = false := by simpa using c2
  have q1 : ((1 : Int) != 0) = true := by decide
  have q2 : ((6 : Int) != 0) = true := by decide
  have q3 : ((0 : Int) != 0) = false := by decide
  have q4 : ((6 : Int) == 1) = false := by decide
  have q5 : ((0 : Int) == 1) = false := by decide
  go_enter Try.func8, Try.ntmps8
  go_wp2_with fail
  refine (halak_Split n _ hn).mono ?_
  rintro e w1 ⟨rfl, hb1⟩
  obtain ⟨hc1, hf1⟩ := bcell hb1
  have hz1 := hb1.size
  try simp at hz1
  have hl1w : w.heap.size < w1.heap.size := by omega
  have hm1w : w.heap.size ≤ w1.heap.size := by omega
  have g1x0 : w1.cell? ⟨w.heap.size, 0, none⟩ = some (.int .i64 d) := (hc1 _ _ (by first | omega | (simp; done) | (simp; omega))).trans (by first | assumption | simp [go_sem] | simp [go_sem, *])
  have g1x1 : w1.cell? ⟨w.heap.size, 1, none⟩ = some (.int .i64 p) := (hc1 _ _ (by first | omega | (simp; done) | (simp; omega))).trans (by first | assumption | simp [go_sem] | simp [go_sem, *])
  go_wp2_with fail
  refine (halak_Join_split n _ hn).mono ?_
  rintro e w2 ⟨rfl, hb2⟩
  obtain ⟨hc2, hf2⟩ := bcell hb2
  have hz2 := hb2.size
  try simp at hz2
  have hl2w : w.heap.size < w2.heap.size := by omega
  have hm2w : w.heap.size ≤ w2.heap.size := by omega
  have hl2w1 : w1.heap.size < w2.heap.size := by omega
  have hm2w1 : w1.heap.size ≤ w2.heap.size := by omega
  have g2x0 : w2.cell? ⟨w.heap.size, 0, none⟩ = some (.int .i64 d) := (hc2 _ _ (by first | omega | (simp; done) | (simp; omega))).trans (by first | assumption | simp [go_sem] | simp [go_sem, *])
  have g2x1 : w2.cell? ⟨w.heap.size, 1, none⟩ = some (.int .i64 p) := (hc2 _ _ (by first | omega | (simp; done) | (simp; omega))).trans (by first | assumption | simp [go_sem] | simp [go_sem, *])
  have g2x2 : w2.cell? ⟨w1.heap.size, 0, none⟩ = some (.int .i64 (n / 25920)) := (hc2 _ _ (by first | omega | (simp; done) | (simp; omega))).trans (by first | assumption | simp [go_sem] | simp [go_sem, *])
  have g2x3 : w2.cell? ⟨w1.heap.size, 1, none⟩ = some (.int .i64 (n % 25920)) := (hc2 _ _ (by first | omega | (simp; done) | (simp; omega))).trans (by first | assumption | simp [go_sem] | simp [go_sem, *])
  go_wp2_with fail
  refine (halak_Hours_yes (n % 25920) _ (by omega) (by omega)).mono ?_
  rintro e w' ⟨rfl, rfl⟩
  go_wp2_with fail
  refine (HJ.out _).mono ?_
  rintro e w3 ⟨rfl, hb3⟩
  obtain ⟨hc3, hf3⟩ := bcell hb3
  have hz3 := hb3.size
  try simp at hz3
  have hl3w : w.heap.size < w3.heap.size := by omega
  have hm3w : w.heap.size ≤ w3.heap.size := by omega
  have g3x0 : w3.cell? ⟨w.heap.size, 0, none⟩ = some (.int .i64 d) := (hc3 _ _ (by first | omega | (simp; done) | (simp; omega))).trans (by first | assumption | simp [go_sem] | simp [go_sem, *])
  have g3x1 : w3.cell? ⟨w.heap.size, 1, none⟩ = some (.int .i64 p) := (hc3 _ _ (by first | omega | (simp; done) | (simp; omega))).trans (by first | assumption | simp [go_sem] | simp [go_sem, *])
  go_wp2_with fail
  clear hc1 hf1 hc2 hf2 hc3 hf3
  have hall := fun q => class_all (W := w3) q
  refine wp_region_class (by kernel_rfl) (by kernel_rfl) ?_
  repeat (first | go_big_quiet_skip | (go_big_quiet_want; first | (refine quiet_load1 _ _ _ rfl rfl ?_ ?_ ?_; (focus (intro _; simp; done)); (focus (first | assumption | omega | (simp; done) | (simp; omega))); apply Exists.intro; refine ⟨?_, ?_⟩; assumption; go_simp; go_big_quiet_on) | (refine quiet_load2 _ _ _ _ rfl rfl ?_ ?_ ?_ ?_; (focus (intro _; simp; done)); (focus (intro _; simp; done)); (focus (first | assumption | omega | (simp; done) | (simp; omega))); apply Exists.intro; apply Exists.intro; refine ⟨?_, ?_, ?_⟩; assumption; assumption; go_simp; go_big_quiet_on) | (refine quiet_load3 _ _ _ _ rfl rfl ?_ ?_ ?_ ?_; (focus (intro _; simp; done)); (focus (intro _; simp; done)); (focus (first | assumption | omega | (simp; done) | (simp; omega))); apply Exists.intro; apply Exists.intro; apply Exists.intro; refine ⟨?_, ?_, ?_, ?_⟩; assumption; assumption; assumption; go_simp; go_big_quiet_on) | (refine quiet_load4 _ _ _ _ rfl rfl ?_ ?_ ?_ ?_; (focus (intro _; simp; done)); (focus (intro _; simp; done)); (focus (first | assumption | omega | (simp; done) | (simp; omega))); apply Exists.intro; apply Exists.intro; apply Exists.intro; apply Exists.intro; refine ⟨?_, ?_, ?_, ?_, ?_⟩; assumption; assumption; assumption; assumption; go_simp; go_big_quiet_on) | (go_big_quiet_op; first | go_big_quiet_on | (apply Exists.intro; refine ⟨fun x hx => ?_, ?_⟩; (first | exact call_below hx (awake2 x)); go_big_quiet_on))))
  refine wpQuiet_nil ?_
  clear hall
  intro x4 hx4
  go_wp2_with fail
  go_ret
  exact ⟨rfl, bt (baa (bt (ba _ _) hb1) _ |> fun h => bt (bt h hb2) hb3) hx4⟩

set_option maxRecDepth 100000 in
set_option maxHeartbeats 1000000 in
theorem HalakBack_b (n d p : Int) (hn : I64 n) (hd : I64 d) (hp : I64 p) (w : World) (c1 : 0 ≤ p) (c : 25920 ≤ p) :
    Calls Try.prog 8 #[.int .i64 n, .agg #[.int .i64 d, .int .i64 p]] w fun e w' => e = .returned (.bool true) ∧ Below w.heap.size w w' := by
  have k1 : 0 ≤ n % 25920 := by omega
  have k2 : n % 25920 < 25920 := by omega
  have k3 : n % 25920 / 1080 * 1080 + n % 25920 % 1080 = n % 25920 := by omega
  have hJ := fun w => halak_Join d p w hd hp
  have j1 := (Cal.join_no d p (by omega)).1
  have j2 := (Cal.join_no d p (by omega)).2
  rw [j1, j2] at hJ
  have HJ := Lib.hid hJ
  clear hJ j1 j2
  try have d1 : decide (p < 0) = false := by simpa using c1
  try have d2 : decide (25920 ≤ p) = true := by simpa using c
  try have d3 : decide (25920 ≤ p) = false := by simpa using c2
  have q1 : ((1 : Int) != 0) = true := by decide
  have q2 : ((6 : Int) != 0) = true := by decide
  have q3 : ((0 : Int) != 0) = false := by decide
  have q4 : ((6 : Int) == 1) = false := by decide
  have q5 : ((0 : Int) == 1) = false := by decide
  go_enter Try.func8, Try.ntmps8
  go_wp2_with fail
  refine (halak_Split n _ hn).mono ?_
  rintro e w1 ⟨rfl, hb1⟩
  obtain ⟨hc1, hf1⟩ := bcell hb1
  have hz1 := hb1.size
  try simp at hz1
  have hl1w : w.heap.size < w1.heap.size := by omega
  have hm1w : w.heap.size ≤ w1.heap.size := by omega
  have g1x0 : w1.cell? ⟨w.heap.size, 0, none⟩ = some (.int .i64 d) := (hc1 _ _ (by first | omega | (simp; done) | (simp; omega))).trans (by first | assumption | simp [go_sem] | simp [go_sem, *])
  have g1x1 : w1.cell? ⟨w.heap.size, 1, none⟩ = some (.int .i64 p) := (hc1 _ _ (by first | omega | (simp; done) | (simp; omega))).trans (by first | assumption | simp [go_sem] | simp [go_sem, *])
  go_wp2_with fail
  refine (halak_Join_split n _ hn).mono ?_
  rintro e w2 ⟨rfl, hb2⟩
  obtain ⟨hc2, hf2⟩ := bcell hb2
  have hz2 := hb2.size
  try simp at hz2
  have hl2w : w.heap.size < w2.heap.size := by omega
  have hm2w : w.heap.size ≤ w2.heap.size := by omega
  have hl2w1 : w1.heap.size < w2.heap.size := by omega
  have hm2w1 : w1.heap.size ≤ w2.heap.size := by omega
  have g2x0 : w2.cell? ⟨w.heap.size, 0, none⟩ = some (.int .i64 d) := (hc2 _ _ (by first | omega | (simp; done) | (simp; omega))).trans (by first | assumption | simp [go_sem] | simp [go_sem, *])
  have g2x1 : w2.cell? ⟨w.heap.size, 1, none⟩ = some (.int .i64 p) := (hc2 _ _ (by first | omega | (simp; done) | (simp; omega))).trans (by first | assumption | simp [go_sem] | simp [go_sem, *])
  have g2x2 : w2.cell? ⟨w1.heap.size, 0, none⟩ = some (.int .i64 (n / 25920)) := (hc2 _ _ (by first | omega | (simp; done) | (simp; omega))).trans (by first | assumption | simp [go_sem] | simp [go_sem, *])
  have g2x3 : w2.cell? ⟨w1.heap.size, 1, none⟩ = some (.int .i64 (n % 25920)) := (hc2 _ _ (by first | omega | (simp; done) | (simp; omega))).trans (by first | assumption | simp [go_sem] | simp [go_sem, *])
  go_wp2_with fail
  refine (halak_Hours_yes (n % 25920) _ (by omega) (by omega)).mono ?_
  rintro e w' ⟨rfl, rfl⟩
  go_wp2_with fail
  refine (HJ.out _).mono ?_
  rintro e w3 ⟨rfl, hb3⟩
  obtain ⟨hc3, hf3⟩ := bcell hb3
  have hz3 := hb3.size
  try simp at hz3
  have hl3w : w.heap.size < w3.heap.size := by omega
  have hm3w : w.heap.size ≤ w3.heap.size := by omega
  have g3x0 : w3.cell? ⟨w.heap.size, 0, none⟩ = some (.int .i64 d) := (hc3 _ _ (by first | omega | (simp; done) | (simp; omega))).trans (by first | assumption | simp [go_sem] | simp [go_sem, *])
  have g3x1 : w3.cell? ⟨w.heap.size, 1, none⟩ = some (.int .i64 p) := (hc3 _ _ (by first | omega | (simp; done) | (simp; omega))).trans (by first | assumption | simp [go_sem] | simp [go_sem, *])
  go_wp2_with fail
  clear hc1 hf1 hc2 hf2 hc3 hf3
  have hall := fun q => class_all (W := w3) q
  refine wp_region_class (by kernel_rfl) (by kernel_rfl) ?_
  repeat (first | go_big_quiet_skip | (go_big_quiet_want; first | (refine quiet_load1 _ _ _ rfl rfl ?_ ?_ ?_; (focus (intro _; simp; done)); (focus (first | assumption | omega | (simp; done) | (simp; omega))); apply Exists.intro; refine ⟨?_, ?_⟩; assumption; go_simp; go_big_quiet_on) | (refine quiet_load2 _ _ _ _ rfl rfl ?_ ?_ ?_ ?_; (focus (intro _; simp; done)); (focus (intro _; simp; done)); (focus (first | assumption | omega | (simp; done) | (simp; omega))); apply Exists.intro; apply Exists.intro; refine ⟨?_, ?_, ?_⟩; assumption; assumption; go_simp; go_big_quiet_on) | (refine quiet_load3 _ _ _ _ rfl rfl ?_ ?_ ?_ ?_; (focus (intro _; simp; done)); (focus (intro _; simp; done)); (focus (first | assumption | omega | (simp; done) | (simp; omega))); apply Exists.intro; apply Exists.intro; apply Exists.intro; refine ⟨?_, ?_, ?_, ?_⟩; assumption; assumption; assumption; go_simp; go_big_quiet_on) | (refine quiet_load4 _ _ _ _ rfl rfl ?_ ?_ ?_ ?_; (focus (intro _; simp; done)); (focus (intro _; simp; done)); (focus (first | assumption | omega | (simp; done) | (simp; omega))); apply Exists.intro; apply Exists.intro; apply Exists.intro; apply Exists.intro; refine ⟨?_, ?_, ?_, ?_, ?_⟩; assumption; assumption; assumption; assumption; go_simp; go_big_quiet_on) | (go_big_quiet_op; first | go_big_quiet_on | (apply Exists.intro; refine ⟨fun x hx => ?_, ?_⟩; (first | exact call_below hx (awake2 x)); go_big_quiet_on))))
  refine wpQuiet_nil ?_
  clear hall
  intro x4 hx4
  go_wp2_with fail
  go_ret
  exact ⟨rfl, bt (baa (bt (ba _ _) hb1) _ |> fun h => bt (bt h hb2) hb3) hx4⟩

set_option maxRecDepth 100000 in
set_option maxHeartbeats 1000000 in
theorem HalakBack_c (n d p : Int) (hn : I64 n) (hd : I64 d) (hp : I64 p) (w : World) (c1 : 0 ≤ p) (c2 : p < 25920) (j1 : Cal.joinE d p = 0) (j2 : Cal.joinV d p = d * 25920 + p) (j3 : I64 (d * 25920 + p)) :
    Calls Try.prog 8 #[.int .i64 n, .agg #[.int .i64 d, .int .i64 p]] w fun e w' => e = .returned (.bool true) ∧ Below w.heap.size w w' := by
  have k1 : 0 ≤ n % 25920 := by omega
  have k2 : n % 25920 < 25920 := by omega
  have k3 : n % 25920 / 1080 * 1080 + n % 25920 % 1080 = n % 25920 := by omega
  have hJ := fun w => halak_Join d p w hd hp
  rw [j1, j2] at hJ
  have HJ := Lib.hid hJ
  clear hJ j1 j2
  have e1 : (d * 25920 + p) / 25920 = d := by omega
  have e2 : (d * 25920 + p) % 25920 = p := by omega
  try have d1 : decide (p < 0) = false := by simpa using c1
  try have d2 : decide (25920 ≤ p) = true := by simpa using c
  try have d3 : decide (25920 ≤ p) = false := by simpa using c2
  have q1 : ((1 : Int) != 0) = true := by decide
  have q2 : ((6 : Int) != 0) = true := by decide
  have q3 : ((0 : Int) != 0) = false := by decide
  have q4 : ((6 : Int) == 1) = false := by decide
  have q5 : ((0 : Int) == 1) = false := by decide
  go_enter Try.func8, Try.ntmps8
  go_wp2_with fail
  refine (halak_Split n _ hn).mono ?_
  rintro e w1 ⟨rfl, hb1⟩
  obtain ⟨hc1, hf1⟩ := bcell hb1
  have hz1 := hb1.size
  try simp at hz1
  have hl1w : w.heap.size < w1.heap.size := by omega
  have hm1w : w.heap.size ≤ w1.heap.size := by omega
  have g1x0 : w1.cell? ⟨w.heap.size, 0, none⟩ = some (.int .i64 d) := (hc1 _ _ (by first | omega | (simp; done) | (simp; omega))).trans (by first | assumption | simp [go_sem] | simp [go_sem, *])
  have g1x1 : w1.cell? ⟨w.heap.size, 1, none⟩ = some (.int .i64 p) := (hc1 _ _ (by first | omega | (simp; done) | (simp; omega))).trans (by first | assumption | simp [go_sem] | simp [go_sem, *])
  go_wp2_with fail
  refine (halak_Join_split n _ hn).mono ?_
  rintro e w2 ⟨rfl, hb2⟩
  obtain ⟨hc2, hf2⟩ := bcell hb2
  have hz2 := hb2.size
  try simp at hz2
  have hl2w : w.heap.size < w2.heap.size := by omega
  have hm2w : w.heap.size ≤ w2.heap.size := by omega
  have hl2w1 : w1.heap.size < w2.heap.size := by omega
  have hm2w1 : w1.heap.size ≤ w2.heap.size := by omega
  have g2x0 : w2.cell? ⟨w.heap.size, 0, none⟩ = some (.int .i64 d) := (hc2 _ _ (by first | omega | (simp; done) | (simp; omega))).trans (by first | assumption | simp [go_sem] | simp [go_sem, *])
  have g2x1 : w2.cell? ⟨w.heap.size, 1, none⟩ = some (.int .i64 p) := (hc2 _ _ (by first | omega | (simp; done) | (simp; omega))).trans (by first | assumption | simp [go_sem] | simp [go_sem, *])
  have g2x2 : w2.cell? ⟨w1.heap.size, 0, none⟩ = some (.int .i64 (n / 25920)) := (hc2 _ _ (by first | omega | (simp; done) | (simp; omega))).trans (by first | assumption | simp [go_sem] | simp [go_sem, *])
  have g2x3 : w2.cell? ⟨w1.heap.size, 1, none⟩ = some (.int .i64 (n % 25920)) := (hc2 _ _ (by first | omega | (simp; done) | (simp; omega))).trans (by first | assumption | simp [go_sem] | simp [go_sem, *])
  go_wp2_with fail
  refine (halak_Hours_yes (n % 25920) _ (by omega) (by omega)).mono ?_
  rintro e w' ⟨rfl, rfl⟩
  go_wp2_with fail
  refine (HJ.out _).mono ?_
  rintro e w3 ⟨rfl, hb3⟩
  obtain ⟨hc3, hf3⟩ := bcell hb3
  have hz3 := hb3.size
  try simp at hz3
  have hl3w : w.heap.size < w3.heap.size := by omega
  have hm3w : w.heap.size ≤ w3.heap.size := by omega
  have g3x0 : w3.cell? ⟨w.heap.size, 0, none⟩ = some (.int .i64 d) := (hc3 _ _ (by first | omega | (simp; done) | (simp; omega))).trans (by first | assumption | simp [go_sem] | simp [go_sem, *])
  have g3x1 : w3.cell? ⟨w.heap.size, 1, none⟩ = some (.int .i64 p) := (hc3 _ _ (by first | omega | (simp; done) | (simp; omega))).trans (by first | assumption | simp [go_sem] | simp [go_sem, *])
  go_wp2_with fail
  clear hc1 hf1 hc2 hf2 hc3 hf3
  have hall := fun q => class_all (W := w3) q
  refine wp_region_class (by kernel_rfl) (by kernel_rfl) ?_
  repeat (first | go_big_quiet_skip | (go_big_quiet_want; first | (refine quiet_load1 _ _ _ rfl rfl ?_ ?_ ?_; (focus (intro _; simp; done)); (focus (first | assumption | omega | (simp; done) | (simp; omega))); apply Exists.intro; refine ⟨?_, ?_⟩; assumption; go_simp; go_big_quiet_on) | (refine quiet_load2 _ _ _ _ rfl rfl ?_ ?_ ?_ ?_; (focus (intro _; simp; done)); (focus (intro _; simp; done)); (focus (first | assumption | omega | (simp; done) | (simp; omega))); apply Exists.intro; apply Exists.intro; refine ⟨?_, ?_, ?_⟩; assumption; assumption; go_simp; go_big_quiet_on) | (refine quiet_load3 _ _ _ _ rfl rfl ?_ ?_ ?_ ?_; (focus (intro _; simp; done)); (focus (intro _; simp; done)); (focus (first | assumption | omega | (simp; done) | (simp; omega))); apply Exists.intro; apply Exists.intro; apply Exists.intro; refine ⟨?_, ?_, ?_, ?_⟩; assumption; assumption; assumption; go_simp; go_big_quiet_on) | (refine quiet_load4 _ _ _ _ rfl rfl ?_ ?_ ?_ ?_; (focus (intro _; simp; done)); (focus (intro _; simp; done)); (focus (first | assumption | omega | (simp; done) | (simp; omega))); apply Exists.intro; apply Exists.intro; apply Exists.intro; apply Exists.intro; refine ⟨?_, ?_, ?_, ?_, ?_⟩; assumption; assumption; assumption; assumption; go_simp; go_big_quiet_on) | (go_big_quiet_op; first | go_big_quiet_on | (apply Exists.intro; refine ⟨fun x hx => ?_, ?_⟩; (first | exact call_below hx (awake2 x) | exact call_below hx (halak_Split (d * 25920 + p) x j3)); go_big_quiet_on))))
  refine wpQuiet_nil ?_
  clear hall
  intro x4 hx4
  go_wp2_with fail
  go_ret
  exact ⟨rfl, bt (baa (bt (ba _ _) hb1) _ |> fun h => bt (bt h hb2) hb3) hx4⟩

set_option maxRecDepth 100000 in
set_option maxHeartbeats 1000000 in
theorem HalakBack_d (n d p : Int) (hn : I64 n) (hd : I64 d) (hp : I64 p) (w : World) (c1 : 0 ≤ p) (c2 : p < 25920) (j1 : Cal.joinE d p = 6) (j2 : Cal.joinV d p = 0) :
    Calls Try.prog 8 #[.int .i64 n, .agg #[.int .i64 d, .int .i64 p]] w fun e w' => e = .returned (.bool true) ∧ Below w.heap.size w w' := by
  have k1 : 0 ≤ n % 25920 := by omega
  have k2 : n % 25920 < 25920 := by omega
  have k3 : n % 25920 / 1080 * 1080 + n % 25920 % 1080 = n % 25920 := by omega
  have hJ := fun w => halak_Join d p w hd hp
  rw [j1, j2] at hJ
  have HJ := Lib.hid hJ
  clear hJ j1 j2
  try have d1 : decide (p < 0) = false := by simpa using c1
  try have d2 : decide (25920 ≤ p) = true := by simpa using c
  try have d3 : decide (25920 ≤ p) = false := by simpa using c2
  have q1 : ((1 : Int) != 0) = true := by decide
  have q2 : ((6 : Int) != 0) = true := by decide
  have q3 : ((0 : Int) != 0) = false := by decide
  have q4 : ((6 : Int) == 1) = false := by decide
  have q5 : ((0 : Int) == 1) = false := by decide
  go_enter Try.func8, Try.ntmps8
  go_wp2_with fail
  refine (halak_Split n _ hn).mono ?_
  rintro e w1 ⟨rfl, hb1⟩
  obtain ⟨hc1, hf1⟩ := bcell hb1
  have hz1 := hb1.size
  try simp at hz1
  have hl1w : w.heap.size < w1.heap.size := by omega
  have hm1w : w.heap.size ≤ w1.heap.size := by omega
  have g1x0 : w1.cell? ⟨w.heap.size, 0, none⟩ = some (.int .i64 d) := (hc1 _ _ (by first | omega | (simp; done) | (simp; omega))).trans (by first | assumption | simp [go_sem] | simp [go_sem, *])
  have g1x1 : w1.cell? ⟨w.heap.size, 1, none⟩ = some (.int .i64 p) := (hc1 _ _ (by first | omega | (simp; done) | (simp; omega))).trans (by first | assumption | simp [go_sem] | simp [go_sem, *])
  go_wp2_with fail
  refine (halak_Join_split n _ hn).mono ?_
  rintro e w2 ⟨rfl, hb2⟩
  obtain ⟨hc2, hf2⟩ := bcell hb2
  have hz2 := hb2.size
  try simp at hz2
  have hl2w : w.heap.size < w2.heap.size := by omega
  have hm2w : w.heap.size ≤ w2.heap.size := by omega
  have hl2w1 : w1.heap.size < w2.heap.size := by omega
  have hm2w1 : w1.heap.size ≤ w2.heap.size := by omega
  have g2x0 : w2.cell? ⟨w.heap.size, 0, none⟩ = some (.int .i64 d) := (hc2 _ _ (by first | omega | (simp; done) | (simp; omega))).trans (by first | assumption | simp [go_sem] | simp [go_sem, *])
  have g2x1 : w2.cell? ⟨w.heap.size, 1, none⟩ = some (.int .i64 p) := (hc2 _ _ (by first | omega | (simp; done) | (simp; omega))).trans (by first | assumption | simp [go_sem] | simp [go_sem, *])
  have g2x2 : w2.cell? ⟨w1.heap.size, 0, none⟩ = some (.int .i64 (n / 25920)) := (hc2 _ _ (by first | omega | (simp; done) | (simp; omega))).trans (by first | assumption | simp [go_sem] | simp [go_sem, *])
  have g2x3 : w2.cell? ⟨w1.heap.size, 1, none⟩ = some (.int .i64 (n % 25920)) := (hc2 _ _ (by first | omega | (simp; done) | (simp; omega))).trans (by first | assumption | simp [go_sem] | simp [go_sem, *])
  go_wp2_with fail
  refine (halak_Hours_yes (n % 25920) _ (by omega) (by omega)).mono ?_
  rintro e w' ⟨rfl, rfl⟩
  go_wp2_with fail
  refine (HJ.out _).mono ?_
  rintro e w3 ⟨rfl, hb3⟩
  obtain ⟨hc3, hf3⟩ := bcell hb3
  have hz3 := hb3.size
  try simp at hz3
  have hl3w : w.heap.size < w3.heap.size := by omega
  have hm3w : w.heap.size ≤ w3.heap.size := by omega
  have g3x0 : w3.cell? ⟨w.heap.size, 0, none⟩ = some (.int .i64 d) := (hc3 _ _ (by first | omega | (simp; done) | (simp; omega))).trans (by first | assumption | simp [go_sem] | simp [go_sem, *])
  have g3x1 : w3.cell? ⟨w.heap.size, 1, none⟩ = some (.int .i64 p) := (hc3 _ _ (by first | omega | (simp; done) | (simp; omega))).trans (by first | assumption | simp [go_sem] | simp [go_sem, *])
  go_wp2_with fail
  clear hc1 hf1 hc2 hf2 hc3 hf3
  have hall := fun q => class_all (W := w3) q
  refine wp_region_class (by kernel_rfl) (by kernel_rfl) ?_
  repeat (first | go_big_quiet_skip | (go_big_quiet_want; first | (refine quiet_load1 _ _ _ rfl rfl ?_ ?_ ?_; (focus (intro _; simp; done)); (focus (first | assumption | omega | (simp; done) | (simp; omega))); apply Exists.intro; refine ⟨?_, ?_⟩; assumption; go_simp; go_big_quiet_on) | (refine quiet_load2 _ _ _ _ rfl rfl ?_ ?_ ?_ ?_; (focus (intro _; simp; done)); (focus (intro _; simp; done)); (focus (first | assumption | omega | (simp; done) | (simp; omega))); apply Exists.intro; apply Exists.intro; refine ⟨?_, ?_, ?_⟩; assumption; assumption; go_simp; go_big_quiet_on) | (refine quiet_load3 _ _ _ _ rfl rfl ?_ ?_ ?_ ?_; (focus (intro _; simp; done)); (focus (intro _; simp; done)); (focus (first | assumption | omega | (simp; done) | (simp; omega))); apply Exists.intro; apply Exists.intro; apply Exists.intro; refine ⟨?_, ?_, ?_, ?_⟩; assumption; assumption; assumption; go_simp; go_big_quiet_on) | (refine quiet_load4 _ _ _ _ rfl rfl ?_ ?_ ?_ ?_; (focus (intro _; simp; done)); (focus (intro _; simp; done)); (focus (first | assumption | omega | (simp; done) | (simp; omega))); apply Exists.intro; apply Exists.intro; apply Exists.intro; apply Exists.intro; refine ⟨?_, ?_, ?_, ?_, ?_⟩; assumption; assumption; assumption; assumption; go_simp; go_big_quiet_on) | (go_big_quiet_op; first | go_big_quiet_on | (apply Exists.intro; refine ⟨fun x hx => ?_, ?_⟩; (first | exact call_below hx (awake2 x)); go_big_quiet_on))))
  refine wpQuiet_nil ?_
  clear hall
  intro x4 hx4
  go_wp2_with fail
  go_ret
  exact ⟨rfl, bt (baa (bt (ba _ _) hb1) _ |> fun h => bt (bt h hb2) hb3) hx4⟩

theorem HalakBack_walk (n d p : Int) (hn : I64 n) (hd : I64 d) (hp : I64 p) (w : World) :
    Calls Try.prog 8 #[.int .i64 n, .agg #[.int .i64 d, .int .i64 p]] w fun e w' => e = .returned (.bool true) ∧ Below w.heap.size w w' := by
  rcases (show p < 0 ∨ (0 ≤ p ∧ 25920 ≤ p) ∨ (0 ≤ p ∧ p < 25920) by omega) with c | ⟨c1, c⟩ | ⟨c1, c2⟩
  · exact HalakBack_a n d p hn hd hp w c
  · exact HalakBack_b n d p hn hd hp w c1 c
  · rcases join_cases d p c1 c2 with ⟨j1, j2, j3⟩ | ⟨j1, j2⟩
    · exact HalakBack_c n d p hn hd hp w c1 c2 j1 j2 j3
    · exact HalakBack_d n d p hn hd hp w c1 c2 j1 j2
end Go.Proofs.Ytemkngkaaabghaa
