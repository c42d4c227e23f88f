/- Layer 13: digits. -/
import Derived.Test.YtafenpgafmdenaaGreatDoorLD
import Derived.Test.YtafenpgafmdenaaGreatDoorFlat
import Derived.LoopTactic
import Derived.Outline
namespace Go.Proofs.YtafenpgafmdenaaGreatDoor
open Go.ChangeShapes Go.WideShapes Go.ChangeAt Go.RowKit
set_option linter.unusedVariables false
set_option maxRecDepth 100000
/-- The table of powers, as the text lays it. -/
def powCells : List Value := [.int .i64 1, .int .i64 10, .int .i64 100, .int .i64 1000]
/-- A digit's byte. -/
def digB (n p : Int) : Int := 48 + n / p % 10
theorem digB_bd (n p : Int) : 48 ≤ digB n p ∧ digB n p ≤ 57 := by unfold digB; omega
def digs (n : Int) (ps : List Int) : ByteArray := ⟨(ps.map fun p => UInt8.ofNat (digB n p).toNat).toArray⟩
set_option maxHeartbeats 4000000 in
theorem text_digits_2 (n : Int) (h0 : 0 ≤ n) (h1 : n ≤ 9999) (w : World) (hP : Tab w 1 powCells) :
    Calls Tryz.prog 40 #[.int .i64 n, .int .i64 2] w fun e w' => e = .returned (.string (digs n [10, 1])) ∧ Below w.heap.size w w' := by
  have hp0 : w.cell? ⟨1, 0, none⟩ = some (.int .i64 1) := hP.cell 0
  have hp1 : w.cell? ⟨1, 1, none⟩ = some (.int .i64 10) := hP.cell 1
  have hp2 : w.cell? ⟨1, 2, none⟩ = some (.int .i64 100) := hP.cell 2
  have hp3 : w.cell? ⟨1, 3, none⟩ = some (.int .i64 1000) := hP.cell 3
  have hps := hP.lt
  have hmk : ∀ w : World, (Instr.makeSlice 105 (.int .i64 2) (.int .i64 2)).run Tryz.prog w = .ok (.slice (some ⟨w.heap.size, 0, none⟩) 2 2) (w.alloc (.cells #[.int .u8 0, .int .u8 0] 5)) := fun _ => by kernel_rfl
  go_enter Tryz.func40, Tryz.ntmps40
  go_wp2_with fail
  go_loopw [11] (fun i wr => ∃ k : Int, (k = 0 ∨ k = 1 ∨ k = 2) ∧ i = .int .i64 k ∧ wr.cell? ⟨w.heap.size, 0, none⟩ = some (.int .u8 (if 0 < k then 48 + n / 10 % 10 else 0)) ∧ wr.cell? ⟨w.heap.size, 1, none⟩ = some (.int .u8 (if 1 < k then 48 + n % 10 else 0)) ∧ wr.frozen? ⟨w.heap.size, 0, none⟩ = false ∧ wr.frozen? ⟨w.heap.size, 1, none⟩ = false ∧ w.heap.size < wr.heap.size ∧ Below w.heap.size w wr) (fun i _ => (2 - intOf i).toNat)
  case atStart => exact ⟨0, by omega, rfl, by simp [go_sem], by simp [go_sem], by simp [go_sem], by simp [go_sem], by simp, ba _ _⟩
  case round =>
    obtain ⟨k, hk, rfl, c0, c1, f0, f1, hs, hB⟩ := hrel
    have q0 := (hB.cell (p := ⟨1, 0, none⟩) hps).trans hp0
    have q1 := (hB.cell (p := ⟨1, 1, none⟩) hps).trans hp1
    have q2 := (hB.cell (p := ⟨1, 2, none⟩) hps).trans hp2
    have q3 := (hB.cell (p := ⟨1, 3, none⟩) hps).trans hp3
    clear hp0 hp1 hp2 hp3 hP
    rcases hk with rfl | rfl | rfl
    · have d0 : wr.cell? ⟨w.heap.size, 0, none⟩ = some (.int .u8 (0)) := by simpa using c0
      have d1 : wr.cell? ⟨w.heap.size, 1, none⟩ = some (.int .u8 (0)) := by simpa using c1
      clear c0 c1
      have b0 : 0 ≤ n / 10 % 10 := by omega
      have b1 : n / 10 % 10 < 10 := by omega
      go_wp2_with fail
      go_roundw
      case rel => exact ⟨1, by omega, rfl, by simp [go_sem, *], by simp [go_sem, *], by simp [go_sem, *], by simp [go_sem, *], by simpa [World.setCell] using hs, bs hB (Nat.le_refl _) _⟩
      case measure => simp [intOf]
    · have d0 : wr.cell? ⟨w.heap.size, 0, none⟩ = some (.int .u8 (48 + n / 10 % 10)) := by simpa using c0
      have d1 : wr.cell? ⟨w.heap.size, 1, none⟩ = some (.int .u8 (0)) := by simpa using c1
      clear c0 c1
      have b0 : 0 ≤ n / 1 % 10 := by omega
      have b1 : n / 1 % 10 < 10 := by omega
      go_wp2_with fail
      go_roundw
      case rel => exact ⟨2, by omega, rfl, by simp [go_sem, *], by simp [go_sem, *], by simp [go_sem, *], by simp [go_sem, *], by simpa [World.setCell] using hs, bs hB (Nat.le_refl _) _⟩
      case measure => simp [intOf]
    · have d0 : wr.cell? ⟨w.heap.size, 0, none⟩ = some (.int .u8 (48 + n / 10 % 10)) := by simpa using c0
      have d1 : wr.cell? ⟨w.heap.size, 1, none⟩ = some (.int .u8 (48 + n % 10)) := by simpa using c1
      clear c0 c1
      have kc := run_convert_bytes_arg (P := Tryz.prog) wr 105 5 Tryz.underlying105 Tryz.underlying5 w.heap.size 0 2 2 [48 + n / 10 % 10, 48 + n % 10] rfl (by
        intro i hi
        rcases i with _ | _ | i
        · exact d0
        · exact d1
        · exact absurd (show i + 2 < 2 from hi) (by omega)) 9 Tryz.underlying9
      go_wp2_with fail
      go_ret
      refine ⟨?_, hB⟩
      first | rfl | (simp [digs, digB]; rfl) | (simp [digs, digB, strOfNums]; done)
set_option maxHeartbeats 4000000 in
theorem text_digits_4 (n : Int) (h0 : 0 ≤ n) (h1 : n ≤ 9999) (w : World) (hP : Tab w 1 powCells) :
    Calls Tryz.prog 40 #[.int .i64 n, .int .i64 4] w fun e w' => e = .returned (.string (digs n [1000, 100, 10, 1])) ∧ Below w.heap.size w w' := by
  have hp0 : w.cell? ⟨1, 0, none⟩ = some (.int .i64 1) := hP.cell 0
  have hp1 : w.cell? ⟨1, 1, none⟩ = some (.int .i64 10) := hP.cell 1
  have hp2 : w.cell? ⟨1, 2, none⟩ = some (.int .i64 100) := hP.cell 2
  have hp3 : w.cell? ⟨1, 3, none⟩ = some (.int .i64 1000) := hP.cell 3
  have hps := hP.lt
  have hmk : ∀ w : World, (Instr.makeSlice 105 (.int .i64 4) (.int .i64 4)).run Tryz.prog w = .ok (.slice (some ⟨w.heap.size, 0, none⟩) 4 4) (w.alloc (.cells #[.int .u8 0, .int .u8 0, .int .u8 0, .int .u8 0] 5)) := fun _ => by kernel_rfl
  go_enter Tryz.func40, Tryz.ntmps40
  go_wp2_with fail
  go_loopw [11] (fun i wr => ∃ k : Int, (k = 0 ∨ k = 1 ∨ k = 2 ∨ k = 3 ∨ k = 4) ∧ i = .int .i64 k ∧ wr.cell? ⟨w.heap.size, 0, none⟩ = some (.int .u8 (if 0 < k then 48 + n / 1000 % 10 else 0)) ∧ wr.cell? ⟨w.heap.size, 1, none⟩ = some (.int .u8 (if 1 < k then 48 + n / 100 % 10 else 0)) ∧ wr.cell? ⟨w.heap.size, 2, none⟩ = some (.int .u8 (if 2 < k then 48 + n / 10 % 10 else 0)) ∧ wr.cell? ⟨w.heap.size, 3, none⟩ = some (.int .u8 (if 3 < k then 48 + n % 10 else 0)) ∧ wr.frozen? ⟨w.heap.size, 0, none⟩ = false ∧ wr.frozen? ⟨w.heap.size, 1, none⟩ = false ∧ wr.frozen? ⟨w.heap.size, 2, none⟩ = false ∧ wr.frozen? ⟨w.heap.size, 3, none⟩ = false ∧ w.heap.size < wr.heap.size ∧ Below w.heap.size w wr) (fun i _ => (4 - intOf i).toNat)
  case atStart => exact ⟨0, by omega, rfl, by simp [go_sem], by simp [go_sem], by simp [go_sem], by simp [go_sem], by simp [go_sem], by simp [go_sem], by simp [go_sem], by simp [go_sem], by simp, ba _ _⟩
  case round =>
    obtain ⟨k, hk, rfl, c0, c1, c2, c3, f0, f1, f2, f3, hs, hB⟩ := hrel
    have q0 := (hB.cell (p := ⟨1, 0, none⟩) hps).trans hp0
    have q1 := (hB.cell (p := ⟨1, 1, none⟩) hps).trans hp1
    have q2 := (hB.cell (p := ⟨1, 2, none⟩) hps).trans hp2
    have q3 := (hB.cell (p := ⟨1, 3, none⟩) hps).trans hp3
    clear hp0 hp1 hp2 hp3 hP
    rcases hk with rfl | rfl | rfl | rfl | rfl
    · have d0 : wr.cell? ⟨w.heap.size, 0, none⟩ = some (.int .u8 (0)) := by simpa using c0
      have d1 : wr.cell? ⟨w.heap.size, 1, none⟩ = some (.int .u8 (0)) := by simpa using c1
      have d2 : wr.cell? ⟨w.heap.size, 2, none⟩ = some (.int .u8 (0)) := by simpa using c2
      have d3 : wr.cell? ⟨w.heap.size, 3, none⟩ = some (.int .u8 (0)) := by simpa using c3
      clear c0 c1 c2 c3
      have b0 : 0 ≤ n / 1000 % 10 := by omega
      have b1 : n / 1000 % 10 < 10 := by omega
      go_wp2_with fail
      go_roundw
      case rel => exact ⟨1, by omega, rfl, by simp [go_sem, *], by simp [go_sem, *], by simp [go_sem, *], by simp [go_sem, *], by simp [go_sem, *], by simp [go_sem, *], by simp [go_sem, *], by simp [go_sem, *], by simpa [World.setCell] using hs, bs hB (Nat.le_refl _) _⟩
      case measure => simp [intOf]
    · have d0 : wr.cell? ⟨w.heap.size, 0, none⟩ = some (.int .u8 (48 + n / 1000 % 10)) := by simpa using c0
      have d1 : wr.cell? ⟨w.heap.size, 1, none⟩ = some (.int .u8 (0)) := by simpa using c1
      have d2 : wr.cell? ⟨w.heap.size, 2, none⟩ = some (.int .u8 (0)) := by simpa using c2
      have d3 : wr.cell? ⟨w.heap.size, 3, none⟩ = some (.int .u8 (0)) := by simpa using c3
      clear c0 c1 c2 c3
      have b0 : 0 ≤ n / 100 % 10 := by omega
      have b1 : n / 100 % 10 < 10 := by omega
      go_wp2_with fail
      go_roundw
      case rel => exact ⟨2, by omega, rfl, by simp [go_sem, *], by simp [go_sem, *], by simp [go_sem, *], by simp [go_sem, *], by simp [go_sem, *], by simp [go_sem, *], by simp [go_sem, *], by simp [go_sem, *], by simpa [World.setCell] using hs, bs hB (Nat.le_refl _) _⟩
      case measure => simp [intOf]
    · have d0 : wr.cell? ⟨w.heap.size, 0, none⟩ = some (.int .u8 (48 + n / 1000 % 10)) := by simpa using c0
      have d1 : wr.cell? ⟨w.heap.size, 1, none⟩ = some (.int .u8 (48 + n / 100 % 10)) := by simpa using c1
      have d2 : wr.cell? ⟨w.heap.size, 2, none⟩ = some (.int .u8 (0)) := by simpa using c2
      have d3 : wr.cell? ⟨w.heap.size, 3, none⟩ = some (.int .u8 (0)) := by simpa using c3
      clear c0 c1 c2 c3
      have b0 : 0 ≤ n / 10 % 10 := by omega
      have b1 : n / 10 % 10 < 10 := by omega
      go_wp2_with fail
      go_roundw
      case rel => exact ⟨3, by omega, rfl, by simp [go_sem, *], by simp [go_sem, *], by simp [go_sem, *], by simp [go_sem, *], by simp [go_sem, *], by simp [go_sem, *], by simp [go_sem, *], by simp [go_sem, *], by simpa [World.setCell] using hs, bs hB (Nat.le_refl _) _⟩
      case measure => simp [intOf]
    · have d0 : wr.cell? ⟨w.heap.size, 0, none⟩ = some (.int .u8 (48 + n / 1000 % 10)) := by simpa using c0
      have d1 : wr.cell? ⟨w.heap.size, 1, none⟩ = some (.int .u8 (48 + n / 100 % 10)) := by simpa using c1
      have d2 : wr.cell? ⟨w.heap.size, 2, none⟩ = some (.int .u8 (48 + n / 10 % 10)) := by simpa using c2
      have d3 : wr.cell? ⟨w.heap.size, 3, none⟩ = some (.int .u8 (0)) := by simpa using c3
      clear c0 c1 c2 c3
      have b0 : 0 ≤ n / 1 % 10 := by omega
      have b1 : n / 1 % 10 < 10 := by omega
      go_wp2_with fail
      go_roundw
      case rel => exact ⟨4, by omega, rfl, by simp [go_sem, *], by simp [go_sem, *], by simp [go_sem, *], by simp [go_sem, *], by simp [go_sem, *], by simp [go_sem, *], by simp [go_sem, *], by simp [go_sem, *], by simpa [World.setCell] using hs, bs hB (Nat.le_refl _) _⟩
      case measure => simp [intOf]
    · have d0 : wr.cell? ⟨w.heap.size, 0, none⟩ = some (.int .u8 (48 + n / 1000 % 10)) := by simpa using c0
      have d1 : wr.cell? ⟨w.heap.size, 1, none⟩ = some (.int .u8 (48 + n / 100 % 10)) := by simpa using c1
      have d2 : wr.cell? ⟨w.heap.size, 2, none⟩ = some (.int .u8 (48 + n / 10 % 10)) := by simpa using c2
      have d3 : wr.cell? ⟨w.heap.size, 3, none⟩ = some (.int .u8 (48 + n % 10)) := by simpa using c3
      clear c0 c1 c2 c3
      have kc := run_convert_bytes_arg (P := Tryz.prog) wr 105 5 Tryz.underlying105 Tryz.underlying5 w.heap.size 0 4 4 [48 + n / 1000 % 10, 48 + n / 100 % 10, 48 + n / 10 % 10, 48 + n % 10] rfl (by
        intro i hi
        rcases i with _ | _ | _ | _ | i
        · exact d0
        · exact d1
        · exact d2
        · exact d3
        · exact absurd (show i + 4 < 4 from hi) (by omega)) 9 Tryz.underlying9
      go_wp2_with fail
      go_ret
      refine ⟨?_, hB⟩
      first | rfl | (simp [digs, digB]; rfl) | (simp [digs, digB, strOfNums]; done)
end Go.Proofs.YtafenpgafmdenaaGreatDoor
