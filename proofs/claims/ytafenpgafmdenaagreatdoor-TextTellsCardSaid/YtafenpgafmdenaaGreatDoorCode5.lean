/- Layer 9: codes of texts. -/
import Derived.Test.YtafenpgafmdenaaGreatDoorCode4
namespace Go.Proofs.YtafenpgafmdenaaGreatDoor
open Go.ChangeShapes Go.WideShapes Go.ChangeAt Go.RowKit
set_option linter.unusedVariables false
set_option maxRecDepth 100000

theorem code_Read_empty (w : World) : Calls Tryz.prog 48 #[.string ByteArray.empty] w fun e w' => e = .returned (.tuple #[.agg #[.int .i64 0, .bool false], .bool false]) ∧ Below w.heap.size w w' := by
  go_enter Tryz.func48, Tryz.ntmps48
  go_wp2_with fail
  refine bodyPost_ret (v := .tuple #[.agg #[.int .i64 0, .bool false], .bool false]) (by simp [results, Tryz.results48, go_sem]) rfl ⟨rfl, ba _ _⟩

set_option maxHeartbeats 1000000 in
theorem code_Read_1 (w : World) : Calls Tryz.prog 48 #[.string ⟨#[77, 48, 49]⟩] w fun e w' => e = .returned (.tuple #[.agg #[.int .i64 1, .bool false], .bool true]) ∧ Below w.heap.size w w' := by
  have x1 : ∀ h, (({ data := #[77, 48, 49] } : ByteArray)[1]'h).toNat = 48 := fun _ => rfl
  have x2 : ∀ h, (({ data := #[77, 48, 49] } : ByteArray)[2]'h).toNat = 49 := fun _ => rfl
  go_enter Tryz.func48, Tryz.ntmps48
  go_wp2_with fail
  go_region_held (fun x => x.cell? ⟨w.heap.size, 0, none⟩ = some (.int .i64 0) ∧ x.cell? ⟨w.heap.size, 1, none⟩ = some (.bool false)) (first | assumption | go_keep) (first | fail)
  all_goals go_wp2_with fail
  all_goals
    refine (code_Text_1 _).mono ?_
    rintro e w1 ⟨rfl, hb1⟩
    obtain ⟨hc1, hf1⟩ := bcell hb1
    have hz1 := hb1.size
    try simp at hz1
    have g1x0 : w1.cell? ⟨w.heap.size, 0, none⟩ = some (.int .i64 0) := (hc1 _ _ (by first | omega | (simp; done) | (simp; omega))).trans (by first | assumption | simp [go_sem] | simp [go_sem, *])
    have g1x1 : w1.cell? ⟨w.heap.size, 1, none⟩ = some (.bool false) := (hc1 _ _ (by first | omega | (simp; done) | (simp; omega))).trans (by first | assumption | simp [go_sem] | simp [go_sem, *])
    have g1x2 : w1.cell? ⟨w.heap.size + 1, 0, none⟩ = some (.int .i64 1) := (hc1 _ _ (by first | omega | (simp; done) | (simp; omega))).trans (by first | assumption | simp [go_sem] | simp [go_sem, *])
    have g1x3 : w1.cell? ⟨w.heap.size + 1, 1, none⟩ = some (.bool false) := (hc1 _ _ (by first | omega | (simp; done) | (simp; omega))).trans (by first | assumption | simp [go_sem] | simp [go_sem, *])
    go_wp2_with fail
    refine bodyPost_ret (v := .tuple #[.agg #[.int .i64 1, .bool false], .bool true]) (by simp [results, Tryz.results48, go_sem, g1x0, g1x1]) rfl ⟨rfl, ?_⟩
    first
      | exact bt (baa (ba _ _) _).drew hb1
      | exact bs (bs (bt (baa (ba _ _) _).drew hb1) (Nat.le_refl _) _) (Nat.le_refl _) _

set_option maxHeartbeats 1000000 in
theorem code_Read_2 (w : World) : Calls Tryz.prog 48 #[.string ⟨#[77, 48, 50]⟩] w fun e w' => e = .returned (.tuple #[.agg #[.int .i64 2, .bool false], .bool true]) ∧ Below w.heap.size w w' := by
  have x1 : ∀ h, (({ data := #[77, 48, 50] } : ByteArray)[1]'h).toNat = 48 := fun _ => rfl
  have x2 : ∀ h, (({ data := #[77, 48, 50] } : ByteArray)[2]'h).toNat = 50 := fun _ => rfl
  go_enter Tryz.func48, Tryz.ntmps48
  go_wp2_with fail
  go_region_held (fun x => x.cell? ⟨w.heap.size, 0, none⟩ = some (.int .i64 0) ∧ x.cell? ⟨w.heap.size, 1, none⟩ = some (.bool false)) (first | assumption | go_keep) (first | fail)
  all_goals go_wp2_with fail
  all_goals
    refine (code_Text_2 _).mono ?_
    rintro e w1 ⟨rfl, hb1⟩
    obtain ⟨hc1, hf1⟩ := bcell hb1
    have hz1 := hb1.size
    try simp at hz1
    have g1x0 : w1.cell? ⟨w.heap.size, 0, none⟩ = some (.int .i64 0) := (hc1 _ _ (by first | omega | (simp; done) | (simp; omega))).trans (by first | assumption | simp [go_sem] | simp [go_sem, *])
    have g1x1 : w1.cell? ⟨w.heap.size, 1, none⟩ = some (.bool false) := (hc1 _ _ (by first | omega | (simp; done) | (simp; omega))).trans (by first | assumption | simp [go_sem] | simp [go_sem, *])
    have g1x2 : w1.cell? ⟨w.heap.size + 1, 0, none⟩ = some (.int .i64 2) := (hc1 _ _ (by first | omega | (simp; done) | (simp; omega))).trans (by first | assumption | simp [go_sem] | simp [go_sem, *])
    have g1x3 : w1.cell? ⟨w.heap.size + 1, 1, none⟩ = some (.bool false) := (hc1 _ _ (by first | omega | (simp; done) | (simp; omega))).trans (by first | assumption | simp [go_sem] | simp [go_sem, *])
    go_wp2_with fail
    refine bodyPost_ret (v := .tuple #[.agg #[.int .i64 2, .bool false], .bool true]) (by simp [results, Tryz.results48, go_sem, g1x0, g1x1]) rfl ⟨rfl, ?_⟩
    first
      | exact bt (baa (ba _ _) _).drew hb1
      | exact bs (bs (bt (baa (ba _ _) _).drew hb1) (Nat.le_refl _) _) (Nat.le_refl _) _

set_option maxHeartbeats 1000000 in
theorem code_Read_3 (w : World) : Calls Tryz.prog 48 #[.string ⟨#[77, 48, 51]⟩] w fun e w' => e = .returned (.tuple #[.agg #[.int .i64 3, .bool false], .bool true]) ∧ Below w.heap.size w w' := by
  have x1 : ∀ h, (({ data := #[77, 48, 51] } : ByteArray)[1]'h).toNat = 48 := fun _ => rfl
  have x2 : ∀ h, (({ data := #[77, 48, 51] } : ByteArray)[2]'h).toNat = 51 := fun _ => rfl
  go_enter Tryz.func48, Tryz.ntmps48
  go_wp2_with fail
  go_region_held (fun x => x.cell? ⟨w.heap.size, 0, none⟩ = some (.int .i64 0) ∧ x.cell? ⟨w.heap.size, 1, none⟩ = some (.bool false)) (first | assumption | go_keep) (first | fail)
  all_goals go_wp2_with fail
  all_goals
    refine (code_Text_3 _).mono ?_
    rintro e w1 ⟨rfl, hb1⟩
    obtain ⟨hc1, hf1⟩ := bcell hb1
    have hz1 := hb1.size
    try simp at hz1
    have g1x0 : w1.cell? ⟨w.heap.size, 0, none⟩ = some (.int .i64 0) := (hc1 _ _ (by first | omega | (simp; done) | (simp; omega))).trans (by first | assumption | simp [go_sem] | simp [go_sem, *])
    have g1x1 : w1.cell? ⟨w.heap.size, 1, none⟩ = some (.bool false) := (hc1 _ _ (by first | omega | (simp; done) | (simp; omega))).trans (by first | assumption | simp [go_sem] | simp [go_sem, *])
    have g1x2 : w1.cell? ⟨w.heap.size + 1, 0, none⟩ = some (.int .i64 3) := (hc1 _ _ (by first | omega | (simp; done) | (simp; omega))).trans (by first | assumption | simp [go_sem] | simp [go_sem, *])
    have g1x3 : w1.cell? ⟨w.heap.size + 1, 1, none⟩ = some (.bool false) := (hc1 _ _ (by first | omega | (simp; done) | (simp; omega))).trans (by first | assumption | simp [go_sem] | simp [go_sem, *])
    go_wp2_with fail
    refine bodyPost_ret (v := .tuple #[.agg #[.int .i64 3, .bool false], .bool true]) (by simp [results, Tryz.results48, go_sem, g1x0, g1x1]) rfl ⟨rfl, ?_⟩
    first
      | exact bt (baa (ba _ _) _).drew hb1
      | exact bs (bs (bt (baa (ba _ _) _).drew hb1) (Nat.le_refl _) _) (Nat.le_refl _) _

set_option maxHeartbeats 1000000 in
theorem code_Read_4 (w : World) : Calls Tryz.prog 48 #[.string ⟨#[77, 48, 52]⟩] w fun e w' => e = .returned (.tuple #[.agg #[.int .i64 4, .bool false], .bool true]) ∧ Below w.heap.size w w' := by
  have x1 : ∀ h, (({ data := #[77, 48, 52] } : ByteArray)[1]'h).toNat = 48 := fun _ => rfl
  have x2 : ∀ h, (({ data := #[77, 48, 52] } : ByteArray)[2]'h).toNat = 52 := fun _ => rfl
  go_enter Tryz.func48, Tryz.ntmps48
  go_wp2_with fail
  go_region_held (fun x => x.cell? ⟨w.heap.size, 0, none⟩ = some (.int .i64 0) ∧ x.cell? ⟨w.heap.size, 1, none⟩ = some (.bool false)) (first | assumption | go_keep) (first | fail)
  all_goals go_wp2_with fail
  all_goals
    refine (code_Text_4 _).mono ?_
    rintro e w1 ⟨rfl, hb1⟩
    obtain ⟨hc1, hf1⟩ := bcell hb1
    have hz1 := hb1.size
    try simp at hz1
    have g1x0 : w1.cell? ⟨w.heap.size, 0, none⟩ = some (.int .i64 0) := (hc1 _ _ (by first | omega | (simp; done) | (simp; omega))).trans (by first | assumption | simp [go_sem] | simp [go_sem, *])
    have g1x1 : w1.cell? ⟨w.heap.size, 1, none⟩ = some (.bool false) := (hc1 _ _ (by first | omega | (simp; done) | (simp; omega))).trans (by first | assumption | simp [go_sem] | simp [go_sem, *])
    have g1x2 : w1.cell? ⟨w.heap.size + 1, 0, none⟩ = some (.int .i64 4) := (hc1 _ _ (by first | omega | (simp; done) | (simp; omega))).trans (by first | assumption | simp [go_sem] | simp [go_sem, *])
    have g1x3 : w1.cell? ⟨w.heap.size + 1, 1, none⟩ = some (.bool false) := (hc1 _ _ (by first | omega | (simp; done) | (simp; omega))).trans (by first | assumption | simp [go_sem] | simp [go_sem, *])
    go_wp2_with fail
    refine bodyPost_ret (v := .tuple #[.agg #[.int .i64 4, .bool false], .bool true]) (by simp [results, Tryz.results48, go_sem, g1x0, g1x1]) rfl ⟨rfl, ?_⟩
    first
      | exact bt (baa (ba _ _) _).drew hb1
      | exact bs (bs (bt (baa (ba _ _) _).drew hb1) (Nat.le_refl _) _) (Nat.le_refl _) _

set_option maxHeartbeats 1000000 in
theorem code_Read_5 (w : World) : Calls Tryz.prog 48 #[.string ⟨#[77, 48, 53]⟩] w fun e w' => e = .returned (.tuple #[.agg #[.int .i64 5, .bool false], .bool true]) ∧ Below w.heap.size w w' := by
  have x1 : ∀ h, (({ data := #[77, 48, 53] } : ByteArray)[1]'h).toNat = 48 := fun _ => rfl
  have x2 : ∀ h, (({ data := #[77, 48, 53] } : ByteArray)[2]'h).toNat = 53 := fun _ => rfl
  go_enter Tryz.func48, Tryz.ntmps48
  go_wp2_with fail
  go_region_held (fun x => x.cell? ⟨w.heap.size, 0, none⟩ = some (.int .i64 0) ∧ x.cell? ⟨w.heap.size, 1, none⟩ = some (.bool false)) (first | assumption | go_keep) (first | fail)
  all_goals go_wp2_with fail
  all_goals
    refine (code_Text_5 _).mono ?_
    rintro e w1 ⟨rfl, hb1⟩
    obtain ⟨hc1, hf1⟩ := bcell hb1
    have hz1 := hb1.size
    try simp at hz1
    have g1x0 : w1.cell? ⟨w.heap.size, 0, none⟩ = some (.int .i64 0) := (hc1 _ _ (by first | omega | (simp; done) | (simp; omega))).trans (by first | assumption | simp [go_sem] | simp [go_sem, *])
    have g1x1 : w1.cell? ⟨w.heap.size, 1, none⟩ = some (.bool false) := (hc1 _ _ (by first | omega | (simp; done) | (simp; omega))).trans (by first | assumption | simp [go_sem] | simp [go_sem, *])
    have g1x2 : w1.cell? ⟨w.heap.size + 1, 0, none⟩ = some (.int .i64 5) := (hc1 _ _ (by first | omega | (simp; done) | (simp; omega))).trans (by first | assumption | simp [go_sem] | simp [go_sem, *])
    have g1x3 : w1.cell? ⟨w.heap.size + 1, 1, none⟩ = some (.bool false) := (hc1 _ _ (by first | omega | (simp; done) | (simp; omega))).trans (by first | assumption | simp [go_sem] | simp [go_sem, *])
    go_wp2_with fail
    refine bodyPost_ret (v := .tuple #[.agg #[.int .i64 5, .bool false], .bool true]) (by simp [results, Tryz.results48, go_sem, g1x0, g1x1]) rfl ⟨rfl, ?_⟩
    first
      | exact bt (baa (ba _ _) _).drew hb1
      | exact bs (bs (bt (baa (ba _ _) _).drew hb1) (Nat.le_refl _) _) (Nat.le_refl _) _

set_option maxHeartbeats 1000000 in
theorem code_Read_6 (w : World) : Calls Tryz.prog 48 #[.string ⟨#[77, 48, 54]⟩] w fun e w' => e = .returned (.tuple #[.agg #[.int .i64 6, .bool false], .bool true]) ∧ Below w.heap.size w w' := by
  have x1 : ∀ h, (({ data := #[77, 48, 54] } : ByteArray)[1]'h).toNat = 48 := fun _ => rfl
  have x2 : ∀ h, (({ data := #[77, 48, 54] } : ByteArray)[2]'h).toNat = 54 := fun _ => rfl
  go_enter Tryz.func48, Tryz.ntmps48
  go_wp2_with fail
  go_region_held (fun x => x.cell? ⟨w.heap.size, 0, none⟩ = some (.int .i64 0) ∧ x.cell? ⟨w.heap.size, 1, none⟩ = some (.bool false)) (first | assumption | go_keep) (first | fail)
  all_goals go_wp2_with fail
  all_goals
    refine (code_Text_6 _).mono ?_
    rintro e w1 ⟨rfl, hb1⟩
    obtain ⟨hc1, hf1⟩ := bcell hb1
    have hz1 := hb1.size
    try simp at hz1
    have g1x0 : w1.cell? ⟨w.heap.size, 0, none⟩ = some (.int .i64 0) := (hc1 _ _ (by first | omega | (simp; done) | (simp; omega))).trans (by first | assumption | simp [go_sem] | simp [go_sem, *])
    have g1x1 : w1.cell? ⟨w.heap.size, 1, none⟩ = some (.bool false) := (hc1 _ _ (by first | omega | (simp; done) | (simp; omega))).trans (by first | assumption | simp [go_sem] | simp [go_sem, *])
    have g1x2 : w1.cell? ⟨w.heap.size + 1, 0, none⟩ = some (.int .i64 6) := (hc1 _ _ (by first | omega | (simp; done) | (simp; omega))).trans (by first | assumption | simp [go_sem] | simp [go_sem, *])
    have g1x3 : w1.cell? ⟨w.heap.size + 1, 1, none⟩ = some (.bool false) := (hc1 _ _ (by first | omega | (simp; done) | (simp; omega))).trans (by first | assumption | simp [go_sem] | simp [go_sem, *])
    go_wp2_with fail
    refine bodyPost_ret (v := .tuple #[.agg #[.int .i64 6, .bool false], .bool true]) (by simp [results, Tryz.results48, go_sem, g1x0, g1x1]) rfl ⟨rfl, ?_⟩
    first
      | exact bt (baa (ba _ _) _).drew hb1
      | exact bs (bs (bt (baa (ba _ _) _).drew hb1) (Nat.le_refl _) _) (Nat.le_refl _) _

set_option maxHeartbeats 1000000 in
theorem code_Read_7 (w : World) : Calls Tryz.prog 48 #[.string ⟨#[77, 48, 55]⟩] w fun e w' => e = .returned (.tuple #[.agg #[.int .i64 7, .bool false], .bool true]) ∧ Below w.heap.size w w' := by
  have x1 : ∀ h, (({ data := #[77, 48, 55] } : ByteArray)[1]'h).toNat = 48 := fun _ => rfl
  have x2 : ∀ h, (({ data := #[77, 48, 55] } : ByteArray)[2]'h).toNat = 55 := fun _ => rfl
  go_enter Tryz.func48, Tryz.ntmps48
  go_wp2_with fail
  go_region_held (fun x => x.cell? ⟨w.heap.size, 0, none⟩ = some (.int .i64 0) ∧ x.cell? ⟨w.heap.size, 1, none⟩ = some (.bool false)) (first | assumption | go_keep) (first | fail)
  all_goals go_wp2_with fail
  all_goals
    refine (code_Text_7 _).mono ?_
    rintro e w1 ⟨rfl, hb1⟩
    obtain ⟨hc1, hf1⟩ := bcell hb1
    have hz1 := hb1.size
    try simp at hz1
    have g1x0 : w1.cell? ⟨w.heap.size, 0, none⟩ = some (.int .i64 0) := (hc1 _ _ (by first | omega | (simp; done) | (simp; omega))).trans (by first | assumption | simp [go_sem] | simp [go_sem, *])
    have g1x1 : w1.cell? ⟨w.heap.size, 1, none⟩ = some (.bool false) := (hc1 _ _ (by first | omega | (simp; done) | (simp; omega))).trans (by first | assumption | simp [go_sem] | simp [go_sem, *])
    have g1x2 : w1.cell? ⟨w.heap.size + 1, 0, none⟩ = some (.int .i64 7) := (hc1 _ _ (by first | omega | (simp; done) | (simp; omega))).trans (by first | assumption | simp [go_sem] | simp [go_sem, *])
    have g1x3 : w1.cell? ⟨w.heap.size + 1, 1, none⟩ = some (.bool false) := (hc1 _ _ (by first | omega | (simp; done) | (simp; omega))).trans (by first | assumption | simp [go_sem] | simp [go_sem, *])
    go_wp2_with fail
    refine bodyPost_ret (v := .tuple #[.agg #[.int .i64 7, .bool false], .bool true]) (by simp [results, Tryz.results48, go_sem, g1x0, g1x1]) rfl ⟨rfl, ?_⟩
    first
      | exact bt (baa (ba _ _) _).drew hb1
      | exact bs (bs (bt (baa (ba _ _) _).drew hb1) (Nat.le_refl _) _) (Nat.le_refl _) _

set_option maxHeartbeats 1000000 in
theorem code_Read_8 (w : World) : Calls Tryz.prog 48 #[.string ⟨#[77, 48, 56]⟩] w fun e w' => e = .returned (.tuple #[.agg #[.int .i64 8, .bool false], .bool true]) ∧ Below w.heap.size w w' := by
  have x1 : ∀ h, (({ data := #[77, 48, 56] } : ByteArray)[1]'h).toNat = 48 := fun _ => rfl
  have x2 : ∀ h, (({ data := #[77, 48, 56] } : ByteArray)[2]'h).toNat = 56 := fun _ => rfl
  go_enter Tryz.func48, Tryz.ntmps48
  go_wp2_with fail
  go_region_held (fun x => x.cell? ⟨w.heap.size, 0, none⟩ = some (.int .i64 0) ∧ x.cell? ⟨w.heap.size, 1, none⟩ = some (.bool false)) (first | assumption | go_keep) (first | fail)
  all_goals go_wp2_with fail
  all_goals
    refine (code_Text_8 _).mono ?_
    rintro e w1 ⟨rfl, hb1⟩
    obtain ⟨hc1, hf1⟩ := bcell hb1
    have hz1 := hb1.size
    try simp at hz1
    have g1x0 : w1.cell? ⟨w.heap.size, 0, none⟩ = some (.int .i64 0) := (hc1 _ _ (by first | omega | (simp; done) | (simp; omega))).trans (by first | assumption | simp [go_sem] | simp [go_sem, *])
    have g1x1 : w1.cell? ⟨w.heap.size, 1, none⟩ = some (.bool false) := (hc1 _ _ (by first | omega | (simp; done) | (simp; omega))).trans (by first | assumption | simp [go_sem] | simp [go_sem, *])
    have g1x2 : w1.cell? ⟨w.heap.size + 1, 0, none⟩ = some (.int .i64 8) := (hc1 _ _ (by first | omega | (simp; done) | (simp; omega))).trans (by first | assumption | simp [go_sem] | simp [go_sem, *])
    have g1x3 : w1.cell? ⟨w.heap.size + 1, 1, none⟩ = some (.bool false) := (hc1 _ _ (by first | omega | (simp; done) | (simp; omega))).trans (by first | assumption | simp [go_sem] | simp [go_sem, *])
    go_wp2_with fail
    refine bodyPost_ret (v := .tuple #[.agg #[.int .i64 8, .bool false], .bool true]) (by simp [results, Tryz.results48, go_sem, g1x0, g1x1]) rfl ⟨rfl, ?_⟩
    first
      | exact bt (baa (ba _ _) _).drew hb1
      | exact bs (bs (bt (baa (ba _ _) _).drew hb1) (Nat.le_refl _) _) (Nat.le_refl _) _

set_option maxHeartbeats 1000000 in
theorem code_Read_9 (w : World) : Calls Tryz.prog 48 #[.string ⟨#[77, 48, 57]⟩] w fun e w' => e = .returned (.tuple #[.agg #[.int .i64 9, .bool false], .bool true]) ∧ Below w.heap.size w w' := by
  have x1 : ∀ h, (({ data := #[77, 48, 57] } : ByteArray)[1]'h).toNat = 48 := fun _ => rfl
  have x2 : ∀ h, (({ data := #[77, 48, 57] } : ByteArray)[2]'h).toNat = 57 := fun _ => rfl
  go_enter Tryz.func48, Tryz.ntmps48
  go_wp2_with fail
  go_region_held (fun x => x.cell? ⟨w.heap.size, 0, none⟩ = some (.int .i64 0) ∧ x.cell? ⟨w.heap.size, 1, none⟩ = some (.bool false)) (first | assumption | go_keep) (first | fail)
  all_goals go_wp2_with fail
  all_goals
    refine (code_Text_9 _).mono ?_
    rintro e w1 ⟨rfl, hb1⟩
    obtain ⟨hc1, hf1⟩ := bcell hb1
    have hz1 := hb1.size
    try simp at hz1
    have g1x0 : w1.cell? ⟨w.heap.size, 0, none⟩ = some (.int .i64 0) := (hc1 _ _ (by first | omega | (simp; done) | (simp; omega))).trans (by first | assumption | simp [go_sem] | simp [go_sem, *])
    have g1x1 : w1.cell? ⟨w.heap.size, 1, none⟩ = some (.bool false) := (hc1 _ _ (by first | omega | (simp; done) | (simp; omega))).trans (by first | assumption | simp [go_sem] | simp [go_sem, *])
    have g1x2 : w1.cell? ⟨w.heap.size + 1, 0, none⟩ = some (.int .i64 9) := (hc1 _ _ (by first | omega | (simp; done) | (simp; omega))).trans (by first | assumption | simp [go_sem] | simp [go_sem, *])
    have g1x3 : w1.cell? ⟨w.heap.size + 1, 1, none⟩ = some (.bool false) := (hc1 _ _ (by first | omega | (simp; done) | (simp; omega))).trans (by first | assumption | simp [go_sem] | simp [go_sem, *])
    go_wp2_with fail
    refine bodyPost_ret (v := .tuple #[.agg #[.int .i64 9, .bool false], .bool true]) (by simp [results, Tryz.results48, go_sem, g1x0, g1x1]) rfl ⟨rfl, ?_⟩
    first
      | exact bt (baa (ba _ _) _).drew hb1
      | exact bs (bs (bt (baa (ba _ _) _).drew hb1) (Nat.le_refl _) _) (Nat.le_refl _) _

set_option maxHeartbeats 1000000 in
theorem code_Read_10 (w : World) : Calls Tryz.prog 48 #[.string ⟨#[77, 49, 48]⟩] w fun e w' => e = .returned (.tuple #[.agg #[.int .i64 10, .bool false], .bool true]) ∧ Below w.heap.size w w' := by
  have x1 : ∀ h, (({ data := #[77, 49, 48] } : ByteArray)[1]'h).toNat = 49 := fun _ => rfl
  have x2 : ∀ h, (({ data := #[77, 49, 48] } : ByteArray)[2]'h).toNat = 48 := fun _ => rfl
  go_enter Tryz.func48, Tryz.ntmps48
  go_wp2_with fail
  go_region_held (fun x => x.cell? ⟨w.heap.size, 0, none⟩ = some (.int .i64 0) ∧ x.cell? ⟨w.heap.size, 1, none⟩ = some (.bool false)) (first | assumption | go_keep) (first | fail)
  all_goals go_wp2_with fail
  all_goals
    refine (code_Text_10 _).mono ?_
    rintro e w1 ⟨rfl, hb1⟩
    obtain ⟨hc1, hf1⟩ := bcell hb1
    have hz1 := hb1.size
    try simp at hz1
    have g1x0 : w1.cell? ⟨w.heap.size, 0, none⟩ = some (.int .i64 0) := (hc1 _ _ (by first | omega | (simp; done) | (simp; omega))).trans (by first | assumption | simp [go_sem] | simp [go_sem, *])
    have g1x1 : w1.cell? ⟨w.heap.size, 1, none⟩ = some (.bool false) := (hc1 _ _ (by first | omega | (simp; done) | (simp; omega))).trans (by first | assumption | simp [go_sem] | simp [go_sem, *])
    have g1x2 : w1.cell? ⟨w.heap.size + 1, 0, none⟩ = some (.int .i64 10) := (hc1 _ _ (by first | omega | (simp; done) | (simp; omega))).trans (by first | assumption | simp [go_sem] | simp [go_sem, *])
    have g1x3 : w1.cell? ⟨w.heap.size + 1, 1, none⟩ = some (.bool false) := (hc1 _ _ (by first | omega | (simp; done) | (simp; omega))).trans (by first | assumption | simp [go_sem] | simp [go_sem, *])
    go_wp2_with fail
    refine bodyPost_ret (v := .tuple #[.agg #[.int .i64 10, .bool false], .bool true]) (by simp [results, Tryz.results48, go_sem, g1x0, g1x1]) rfl ⟨rfl, ?_⟩
    first
      | exact bt (baa (ba _ _) _).drew hb1
      | exact bs (bs (bt (baa (ba _ _) _).drew hb1) (Nat.le_refl _) _) (Nat.le_refl _) _

set_option maxHeartbeats 1000000 in
theorem code_Read_11 (w : World) : Calls Tryz.prog 48 #[.string ⟨#[77, 49, 49]⟩] w fun e w' => e = .returned (.tuple #[.agg #[.int .i64 11, .bool false], .bool true]) ∧ Below w.heap.size w w' := by
  have x1 : ∀ h, (({ data := #[77, 49, 49] } : ByteArray)[1]'h).toNat = 49 := fun _ => rfl
  have x2 : ∀ h, (({ data := #[77, 49, 49] } : ByteArray)[2]'h).toNat = 49 := fun _ => rfl
  go_enter Tryz.func48, Tryz.ntmps48
  go_wp2_with fail
  go_region_held (fun x => x.cell? ⟨w.heap.size, 0, none⟩ = some (.int .i64 0) ∧ x.cell? ⟨w.heap.size, 1, none⟩ = some (.bool false)) (first | assumption | go_keep) (first | fail)
  all_goals go_wp2_with fail
  all_goals
    refine (code_Text_11 _).mono ?_
    rintro e w1 ⟨rfl, hb1⟩
    obtain ⟨hc1, hf1⟩ := bcell hb1
    have hz1 := hb1.size
    try simp at hz1
    have g1x0 : w1.cell? ⟨w.heap.size, 0, none⟩ = some (.int .i64 0) := (hc1 _ _ (by first | omega | (simp; done) | (simp; omega))).trans (by first | assumption | simp [go_sem] | simp [go_sem, *])
    have g1x1 : w1.cell? ⟨w.heap.size, 1, none⟩ = some (.bool false) := (hc1 _ _ (by first | omega | (simp; done) | (simp; omega))).trans (by first | assumption | simp [go_sem] | simp [go_sem, *])
    have g1x2 : w1.cell? ⟨w.heap.size + 1, 0, none⟩ = some (.int .i64 11) := (hc1 _ _ (by first | omega | (simp; done) | (simp; omega))).trans (by first | assumption | simp [go_sem] | simp [go_sem, *])
    have g1x3 : w1.cell? ⟨w.heap.size + 1, 1, none⟩ = some (.bool false) := (hc1 _ _ (by first | omega | (simp; done) | (simp; omega))).trans (by first | assumption | simp [go_sem] | simp [go_sem, *])
    go_wp2_with fail
    refine bodyPost_ret (v := .tuple #[.agg #[.int .i64 11, .bool false], .bool true]) (by simp [results, Tryz.results48, go_sem, g1x0, g1x1]) rfl ⟨rfl, ?_⟩
    first
      | exact bt (baa (ba _ _) _).drew hb1
      | exact bs (bs (bt (baa (ba _ _) _).drew hb1) (Nat.le_refl _) _) (Nat.le_refl _) _

set_option maxHeartbeats 1000000 in
theorem code_Read_12 (w : World) : Calls Tryz.prog 48 #[.string ⟨#[77, 49, 50]⟩] w fun e w' => e = .returned (.tuple #[.agg #[.int .i64 12, .bool false], .bool true]) ∧ Below w.heap.size w w' := by
  have x1 : ∀ h, (({ data := #[77, 49, 50] } : ByteArray)[1]'h).toNat = 49 := fun _ => rfl
  have x2 : ∀ h, (({ data := #[77, 49, 50] } : ByteArray)[2]'h).toNat = 50 := fun _ => rfl
  go_enter Tryz.func48, Tryz.ntmps48
  go_wp2_with fail
  go_region_held (fun x => x.cell? ⟨w.heap.size, 0, none⟩ = some (.int .i64 0) ∧ x.cell? ⟨w.heap.size, 1, none⟩ = some (.bool false)) (first | assumption | go_keep) (first | fail)
  all_goals go_wp2_with fail
  all_goals
    refine (code_Text_12 _).mono ?_
    rintro e w1 ⟨rfl, hb1⟩
    obtain ⟨hc1, hf1⟩ := bcell hb1
    have hz1 := hb1.size
    try simp at hz1
    have g1x0 : w1.cell? ⟨w.heap.size, 0, none⟩ = some (.int .i64 0) := (hc1 _ _ (by first | omega | (simp; done) | (simp; omega))).trans (by first | assumption | simp [go_sem] | simp [go_sem, *])
    have g1x1 : w1.cell? ⟨w.heap.size, 1, none⟩ = some (.bool false) := (hc1 _ _ (by first | omega | (simp; done) | (simp; omega))).trans (by first | assumption | simp [go_sem] | simp [go_sem, *])
    have g1x2 : w1.cell? ⟨w.heap.size + 1, 0, none⟩ = some (.int .i64 12) := (hc1 _ _ (by first | omega | (simp; done) | (simp; omega))).trans (by first | assumption | simp [go_sem] | simp [go_sem, *])
    have g1x3 : w1.cell? ⟨w.heap.size + 1, 1, none⟩ = some (.bool false) := (hc1 _ _ (by first | omega | (simp; done) | (simp; omega))).trans (by first | assumption | simp [go_sem] | simp [go_sem, *])
    go_wp2_with fail
    refine bodyPost_ret (v := .tuple #[.agg #[.int .i64 12, .bool false], .bool true]) (by simp [results, Tryz.results48, go_sem, g1x0, g1x1]) rfl ⟨rfl, ?_⟩
    first
      | exact bt (baa (ba _ _) _).drew hb1
      | exact bs (bs (bt (baa (ba _ _) _).drew hb1) (Nat.le_refl _) _) (Nat.le_refl _) _

set_option maxHeartbeats 1000000 in
theorem code_Read_5L (w : World) : Calls Tryz.prog 48 #[.string ⟨#[77, 48, 53, 76]⟩] w fun e w' => e = .returned (.tuple #[.agg #[.int .i64 5, .bool true], .bool true]) ∧ Below w.heap.size w w' := by
  have x1 : ∀ h, (({ data := #[77, 48, 53, 76] } : ByteArray)[1]'h).toNat = 48 := fun _ => rfl
  have x2 : ∀ h, (({ data := #[77, 48, 53, 76] } : ByteArray)[2]'h).toNat = 53 := fun _ => rfl
  go_enter Tryz.func48, Tryz.ntmps48
  go_wp2_with fail
  go_region_held (fun x => x.cell? ⟨w.heap.size, 0, none⟩ = some (.int .i64 0) ∧ x.cell? ⟨w.heap.size, 1, none⟩ = some (.bool false)) (first | assumption | go_keep) (first | fail)
  all_goals go_wp2_with fail
  all_goals
    refine (code_Text_5L _).mono ?_
    rintro e w1 ⟨rfl, hb1⟩
    obtain ⟨hc1, hf1⟩ := bcell hb1
    have hz1 := hb1.size
    try simp at hz1
    have g1x0 : w1.cell? ⟨w.heap.size, 0, none⟩ = some (.int .i64 0) := (hc1 _ _ (by first | omega | (simp; done) | (simp; omega))).trans (by first | assumption | simp [go_sem] | simp [go_sem, *])
    have g1x1 : w1.cell? ⟨w.heap.size, 1, none⟩ = some (.bool false) := (hc1 _ _ (by first | omega | (simp; done) | (simp; omega))).trans (by first | assumption | simp [go_sem] | simp [go_sem, *])
    have g1x2 : w1.cell? ⟨w.heap.size + 1, 0, none⟩ = some (.int .i64 5) := (hc1 _ _ (by first | omega | (simp; done) | (simp; omega))).trans (by first | assumption | simp [go_sem] | simp [go_sem, *])
    have g1x3 : w1.cell? ⟨w.heap.size + 1, 1, none⟩ = some (.bool true) := (hc1 _ _ (by first | omega | (simp; done) | (simp; omega))).trans (by first | assumption | simp [go_sem] | simp [go_sem, *])
    go_wp2_with fail
    refine bodyPost_ret (v := .tuple #[.agg #[.int .i64 5, .bool true], .bool true]) (by simp [results, Tryz.results48, go_sem, g1x0, g1x1]) rfl ⟨rfl, ?_⟩
    first
      | exact bt (baa (ba _ _) _).drew hb1
      | exact bs (bs (bt (baa (ba _ _) _).drew hb1) (Nat.le_refl _) _) (Nat.le_refl _) _
end Go.Proofs.YtafenpgafmdenaaGreatDoor
