/- Layer 7: the number of a type. -/
import Derived.Test.YtoofgalkchnpnaaGreatDoorZKev
import Derived.Test.YtoofgalkchnpnaaGreatDoorZBB
import Derived.Test.YtoofgalkchnpnaaGreatDoorZBB
import Derived.LoopTactic
namespace Go.Proofs.YtoofgalkchnpnaaGreatDoor
open Go.ChangeShapes Go.WideShapes Go.ChangeAt Go.RowKit
set_option linter.unusedVariables false
set_option maxRecDepth 100000
def rowIs (b k : Int) (l : Bool) (i : Nat) : Bool := (b == kevB i) && ((k == kevK i) && (l == kevL i))
/-- The number: the first row that fits, counted from 1; 0 if none does. -/
def numFrom (b k : Int) (l : Bool) : Nat → Nat → Int
  | 0, _ => 0
  | f + 1, i => if rowIs b k l i then (i : Int) + 1 else numFrom b k l f (i + 1)
def number (b k : Int) (l : Bool) : Int := numFrom b k l 14 0
def kevCells : List Value := (List.range 14).flatMap fun i => [.int .i64 (kevB i), .int .i64 (kevK i), .bool (kevL i)]
/-- The table's cells as one array. -/
def kevArr : Array Value := kevCells.toArray
theorem kevArr_size : kevArr.size = 42 := by kernel_rfl
set_option maxRecDepth 100000 in
theorem kev_index (i : Nat) (hi : i < 14) : ∀ w : World, (Instr.index 184 (.agg kevArr) (.int .i64 (i : Int))).run Tryo.prog w = .ok (.agg #[.int .i64 (kevB i), .int .i64 (kevK i), .bool (kevL i)]) w := by
  match i, hi with
  | 0, _ | 1, _ | 2, _ | 3, _ | 4, _ | 5, _ | 6, _ | 7, _ | 8, _ | 9, _ | 10, _ | 11, _ | 12, _ | 13, _ => exact fun _ => by kernel_rfl
attribute [irreducible] kevArr
theorem numFrom_yes (b k : Int) (l : Bool) (n : Nat) (hn : n < 14) (h : rowIs b k l n = true) : numFrom b k l (14 - n) n = (n : Int) + 1 := by
  rw [show 14 - n = (13 - n) + 1 by omega, numFrom, if_pos h]
theorem numFrom_no (b k : Int) (l : Bool) (n : Nat) (hn : n < 14) (h : rowIs b k l n = false) : numFrom b k l (14 - n) n = numFrom b k l (14 - (n + 1)) (n + 1) := by
  rw [show 14 - n = (13 - n) + 1 by omega, numFrom, if_neg (by rw [h]; exact Bool.false_ne_true), show 14 - (n + 1) = 13 - n by omega]

set_option maxHeartbeats 1000000 in
theorem keviah_Number_any (b k : Int) (l : Bool) (w : World) (hT : Tab w 4 kevCells) :
    Calls Tryo.prog 148 #[.agg #[.int .i64 b, .int .i64 k, .bool l]] w fun e w' => e = .returned (.int .i64 (number b k l)) ∧ Below w.heap.size w w' := by
  have hlt0 := hT.lt
  obtain ⟨t, hT⟩ := hT
  have hT2 : w.heap[4]? = some (.cells kevArr t (0, 0)) := by unfold kevArr; exact hT
  have hsz : (Tryo.prog.info? 184).map (·.size) = some kevArr.size := by rw [kevArr_size]; kernel_rfl
  have HT := Lib.hid hT2
  have HS := Lib.hid hsz
  clear hT hT2 hsz
  go_enter Tryo.func148, Tryz.ntmps148
  go_wp2_with (refine wpList_load_row rfl 184 _ rfl 4 rfl t kevArr (0, 0) _ ((Below.heap_alloc _ _ _ hlt0).trans HT.out) (und_o Tryz.underlying184) rfl HS.out ?_)
  go_loopw [6] (fun i wr => ∃ n : Nat, n ≤ 14 ∧ i = .int .i64 n ∧ Hid (numFrom b k l (14 - n) n = number b k l) ∧ wr.cell? ⟨w.heap.size, 0, none⟩ = some (.int .i64 b) ∧ wr.cell? ⟨w.heap.size, 1, none⟩ = some (.int .i64 k) ∧ wr.cell? ⟨w.heap.size, 2, none⟩ = some (.bool l) ∧ w.heap.size < wr.heap.size ∧ Below w.heap.size w wr) (fun i _ => 14 - (intOf i).toNat)
  case atStart => exact ⟨0, by omega, rfl, rfl, by simp [go_sem], by simp [go_sem], by simp [go_sem], by simp, ba _ _⟩
  case round =>
    obtain ⟨n, hn, rfl, hN, c0, c1, c2, hsz, hB⟩ := hrel
    by_cases hlt : n < 14
    · have hix := kev_index n hlt
      by_cases e1 : b = kevB n
      · obtain rfl := e1
        by_cases e2 : k = kevK n
        · obtain rfl := e2
          by_cases e3 : l = kevL n
          · obtain rfl := e3
            have hN2 := Lib.hid ((numFrom_yes _ _ _ n hlt (by unfold rowIs; simp)).symm.trans hN.out)
            clear hN
            go_wp2_with fail
            go_ret
            exact ⟨ret_i hN2.out, baa hB _⟩
          · skip
            have hN2 := Lib.hid ((numFrom_no _ _ _ n hlt (by unfold rowIs; simp [*])).symm.trans hN.out)
            clear hN
            go_wp2_with fail
            go_roundw
            case rel => exact ⟨n + 1, by omega, by go_num, hN2, by simp [go_sem, c0, hsz], by simp [go_sem, c1, hsz], by simp [go_sem, c2, hsz], by simp; omega, baa hB _⟩
            case measure => simp [intOf]; omega
        · skip
          have hN2 := Lib.hid ((numFrom_no _ _ _ n hlt (by unfold rowIs; simp [*])).symm.trans hN.out)
          clear hN
          go_wp2_with fail
          go_roundw
          case rel => exact ⟨n + 1, by omega, by go_num, hN2, by simp [go_sem, c0, hsz], by simp [go_sem, c1, hsz], by simp [go_sem, c2, hsz], by simp; omega, baa hB _⟩
          case measure => simp [intOf]; omega
      · skip
        have hN2 := Lib.hid ((numFrom_no _ _ _ n hlt (by unfold rowIs; simp [*])).symm.trans hN.out)
        clear hN
        go_wp2_with fail
        go_roundw
        case rel => exact ⟨n + 1, by omega, by go_num, hN2, by simp [go_sem, c0, hsz], by simp [go_sem, c1, hsz], by simp [go_sem, c2, hsz], by simp; omega, baa hB _⟩
        case measure => simp [intOf]; omega
    · go_wp2_with fail
      go_ret
      exact ⟨ret_i (by rw [← hN.out, show n = 14 by omega]; rfl), hB⟩
end Go.Proofs.YtoofgalkchnpnaaGreatDoor
