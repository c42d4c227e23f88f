/- Layer 20: counted from the year's first day. -/
import Derived.Test.YtagmdglmflcegaaDoorYr
import Derived.Test.YtagmdglmflcegaaDoorFa
import Derived.Test.YtagmdglmflcegaaDoorFaR
namespace Go.Proofs.YtagmdglmflcegaaDoor
open Go.ChangeShapes Go.WideShapes Go.ChangeAt Go.RowKit Go.Lib Go.Sort Go.Shelf
set_option linter.unusedVariables false
set_option maxRecDepth 100000
namespace Fa
theorem fm_congr {f g : Int × Int × Int → List (Int × Int)} : ∀ {l : List (Int × Int × Int)}, (∀ x ∈ l, f x = g x) → l.flatMap f = l.flatMap g
  | [], _ => rfl
  | a :: l, h => by rw [List.flatMap_cons, List.flatMap_cons, h a (List.mem_cons_self ..), fm_congr fun x hx => h x (List.mem_cons_of_mem _ hx)]
def rowO (sw : Bool) (i : Nat) (r : Int × Int × Int) : List (Int × Int) := evs sw r.1 (Yr.offV i r.2.1 false r.2.2 + mvd r.1 ((kevB i + Yr.offV i r.2.1 false r.2.2) % 7))
def allO (sw : Bool) (i : Nat) : List (Int × Int) := rows.flatMap (rowO sw i)
def fastL (i : Nat) : List (Int × Int) := Ev.sort (allO false i)
theorem evs_sh (sw : Bool) (kd F e : Int) : evs sw kd (F + e) = (evs sw kd e).map (Ev.sh F) := by
  unfold evs Ev.sh
  split
  · split
    · simp; omega
    · simp; omega
  · simp
theorem ok_all : ((List.range 14).all fun i => (rows.all fun r => Yr.okV i r.2.1 false r.2.2 && (decide (0 ≤ Yr.offV i r.2.1 false r.2.2) && decide (Yr.offV i r.2.1 false r.2.2 ≤ 400))) && decide (Ev.sort (allO true i) = fastL i)) = true := by decide +kernel
theorem row_ok {y : Int} {i : Nat} (h : Yr.Is y i) (r : Int × Int × Int) (hr : r ∈ rows) : D10.dateE y r.2.1 false r.2.2 = 0 ∧ D10.dayV y r.2.1 false r.2.2 = Cal.first y + Yr.offV i r.2.1 false r.2.2 ∧ 0 ≤ Yr.offV i r.2.1 false r.2.2 ∧ Yr.offV i r.2.1 false r.2.2 ≤ 400 := by
  have h1 := List.all_eq_true.1 ok_all i (List.mem_range.2 h.2.2.1)
  simp only [Bool.and_eq_true] at h1
  have h2 := List.all_eq_true.1 h1.1 r hr
  simp only [Bool.and_eq_true, decide_eq_true_eq] at h2
  obtain ⟨e1, e2⟩ := Yr.day_off h h2.1
  exact ⟨e1, e2, h2.2.1, h2.2.2⟩
theorem all_off {y : Int} {i : Nat} (h : Yr.Is y i) (sw : Bool) : all sw (fun n d => D10.dayV y n false d) = (allO sw i).map (Ev.sh (Cal.first y)) := by
  unfold all allO
  rw [List.map_flatMap]
  apply fm_congr
  intro r hr
  obtain ⟨_, e, _, _⟩ := row_ok h r hr
  unfold rowEv rowO
  dsimp only
  rw [← evs_sh, e]
  have hm : (Cal.first y + Yr.offV i r.2.1 false r.2.2) % 7 = (kevB i + Yr.offV i r.2.1 false r.2.2) % 7 := by have := h.2.2.2.1; omega
  rw [hm, Int.add_assoc]
theorem sort_ref (i : Nat) (hi : i < 14) : Ev.sort (allO true i) = fastL i := by
  have h1 := List.all_eq_true.1 ok_all i (List.mem_range.2 hi)
  simp only [Bool.and_eq_true, decide_eq_true_eq] at h1
  exact h1.2
theorem bd {y : Int} {i : Nat} (h : Yr.Is y i) (r : Int × Int × Int) (hr : r ∈ rows) : -2000000 ≤ D10.dayV y r.2.1 false r.2.2 ∧ D10.dayV y r.2.1 false r.2.2 ≤ 3000000 := by
  obtain ⟨_, e, _, _⟩ := row_ok h r hr
  have := Yr.first_bd h
  omega
end Fa
theorem fast_Of_at (y : Int) (i : Nat) (w : World) (h : Yr.Is y i) (hT : Tab w 3 kevCells) (hL : Tab w 2 lenCells) (hF : Tab w 1 Fa.cells) :
    Calls Tryd.prog 23 #[.int .i64 y] w fun e w' => ∃ v, e = .returned (.tuple #[v, .int .i64 0]) ∧ Ev.Own w' w.heap.size v ((Fa.fastL i).map (Ev.sh (Cal.first y))) ∧ Below w.heap.size w w' := by
  have e : Ev.sort (Fa.upto (fun n d => D10.dayV y n false d) 9) = (Fa.fastL i).map (Ev.sh (Cal.first y)) := by
    unfold Fa.fastL
    rw [← Ev.sort_sh, ← Fa.all_off h false]
    rfl
  rw [← e]
  exact fast_Of_ok y w h.1 h.2.1 hT hL hF (Lib.hid (fun k hk => by
    have hr := List.mem_of_getElem? (Fa.row_get k hk)
    exact ⟨(Fa.row_ok h _ hr).1, Fa.bd h _ hr⟩))
theorem ref20_Of_at (y : Int) (i : Nat) (w : World) (h : Yr.Is y i) :
    Calls Tryd.prog 24 #[.int .i64 y] w fun e w' => ∃ v, e = .returned (.tuple #[v, .int .i64 0]) ∧ Ev.Own w' w.heap.size v ((Fa.fastL i).map (Ev.sh (Cal.first y))) ∧ Below w.heap.size w w' := by
  have e : Ev.sort (Fa.all true (fun n d => D10.dayV y n false d)) = (Fa.fastL i).map (Ev.sh (Cal.first y)) := by
    rw [Fa.all_off h true, Ev.sort_sh, Fa.sort_ref i h.2.2.1]
  rw [← e]
  have hy : I64 y := ⟨by have := h.1; omega, by have := h.2.1; omega⟩
  have hb := Fa.bd h (21, 8, 5) (by simp [Fa.rows])
  have hm := Fa.mvd_bd 21 (D10.dayV y 8 false 5 % 7)
  have hE : -2000002 ≤ D10.dayV y 8 false 5 + Fa.mvd 21 (D10.dayV y 8 false 5 % 7) ∧ D10.dayV y 8 false 5 + Fa.mvd 21 (D10.dayV y 8 false 5 % 7) ≤ 3000001 := by dsimp only at hb; omega
  exact ref20_Of_go y _ _ _ _ _ _ _ _ _ w h.1 h.2.1 hE (Lib.hid (fun x => ref20_at 2 y 1 3 x hy (Fa.bd h (2, 1, 3) (by simp [Fa.rows])))) (Lib.hid (fun x => ref20_at 10 y 4 10 x hy (Fa.bd h (10, 4, 10) (by simp [Fa.rows])))) (Lib.hid (fun x => ref20_at 13 y 6 13 x hy (Fa.bd h (13, 6, 13) (by simp [Fa.rows])))) (Lib.hid (fun x => ref20_at 16 y 7 14 x hy (Fa.bd h (16, 7, 14) (by simp [Fa.rows])))) (Lib.hid (fun x => ref20_at 19 y 7 27 x hy (Fa.bd h (19, 7, 27) (by simp [Fa.rows])))) (Lib.hid (fun x => ref20_at 21 y 8 5 x hy (Fa.bd h (21, 8, 5) (by simp [Fa.rows])))) (Lib.hid (fun x => ref20_at 24 y 8 28 x hy (Fa.bd h (24, 8, 28) (by simp [Fa.rows])))) (Lib.hid (fun x => ref20_at 26 y 10 17 x hy (Fa.bd h (26, 10, 17) (by simp [Fa.rows])))) (Lib.hid (fun x => ref20_at 27 y 11 9 x hy (Fa.bd h (27, 11, 9) (by simp [Fa.rows]))))
end Go.Proofs.YtagmdglmflcegaaDoor
