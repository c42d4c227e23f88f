import Derived.Test.YtgojeobnoebnlaaGreatDoorQFE
import Derived.Test.YtgojeobnoebnlaaGreatDoorQTail
import Derived.Test.YtgojeobnoebnlaaGreatDoorQBB
import Derived.Test.YtgojeobnoebnlaaGreatDoorQYM
import Derived.LoopTactic
set_option maxHeartbeats 8000000
set_option maxRecDepth 100000
set_option linter.unusedVariables false
section
namespace Go.Proofs.YtgojeobnoebnlaaGreatDoor
open Go.ChangeShapes Go.WideShapes Go.ChangeAt Go.RowKit Go.Lib Go.Sort Go.Shelf
namespace Fa
def mvd (k w : Int) : Int :=
 if k = 2 then if w = 6 then 1 else 0 else
 if k = 26 then if w = 6 then 1 else 0 else
 if k = 27 then if w = 6 then 1 else 0 else
 if k = 13 then if w = 6 then (-2) else 0 else
 if k = 16 then if w = 6 then (-2) else 0 else
 if k = 19 then if w = 5 then (-1) else if w = 0 then 1 else 0 else
 if k = 21 then if w = 5 then (-1) else if w = 6 then (-2) else if w = 1 then 1 else 0 else
 0
theorem mvd_bd (k w : Int) : -2 ≤ mvd k w ∧ mvd k w ≤ 1 := by
 unfold mvd
 repeat' split
 all_goals omega
end Fa
theorem fast_Moved_2_6 (x : World) : Calls Tryo.prog 25 #[.int .i64 2, .int .i64 6] x fun e x' => e = .returned (.int .i64 1) ∧ x = x' := by
 go_enter Tryo.func25, Tryz.ntmps25
 go_wp2_with fail
 go_ret
 exact ⟨rfl, rfl⟩
theorem fast_Moved_2_no (w : Int) (h6 : (w == 6) = false) (x : World) : Calls Tryo.prog 25 #[.int .i64 2, .int .i64 w] x fun e x' => e = .returned (.int .i64 0) ∧ x = x' := by
 go_enter Tryo.func25, Tryz.ntmps25
 go_wp2_with fail
 go_ret
 exact ⟨rfl, rfl⟩
theorem fast_Moved_26_6 (x : World) : Calls Tryo.prog 25 #[.int .i64 26, .int .i64 6] x fun e x' => e = .returned (.int .i64 1) ∧ x = x' := by
 go_enter Tryo.func25, Tryz.ntmps25
 go_wp2_with fail
 go_ret
 exact ⟨rfl, rfl⟩
theorem fast_Moved_26_no (w : Int) (h6 : (w == 6) = false) (x : World) : Calls Tryo.prog 25 #[.int .i64 26, .int .i64 w] x fun e x' => e = .returned (.int .i64 0) ∧ x = x' := by
 go_enter Tryo.func25, Tryz.ntmps25
 go_wp2_with fail
 go_ret
 exact ⟨rfl, rfl⟩
theorem fast_Moved_27_6 (x : World) : Calls Tryo.prog 25 #[.int .i64 27, .int .i64 6] x fun e x' => e = .returned (.int .i64 1) ∧ x = x' := by
 go_enter Tryo.func25, Tryz.ntmps25
 go_wp2_with fail
 go_ret
 exact ⟨rfl, rfl⟩
theorem fast_Moved_27_no (w : Int) (h6 : (w == 6) = false) (x : World) : Calls Tryo.prog 25 #[.int .i64 27, .int .i64 w] x fun e x' => e = .returned (.int .i64 0) ∧ x = x' := by
 go_enter Tryo.func25, Tryz.ntmps25
 go_wp2_with fail
 go_ret
 exact ⟨rfl, rfl⟩
theorem fast_Moved_13_6 (x : World) : Calls Tryo.prog 25 #[.int .i64 13, .int .i64 6] x fun e x' => e = .returned (.int .i64 (-2)) ∧ x = x' := by
 go_enter Tryo.func25, Tryz.ntmps25
 go_wp2_with fail
 go_ret
 exact ⟨rfl, rfl⟩
theorem fast_Moved_13_no (w : Int) (h6 : (w == 6) = false) (x : World) : Calls Tryo.prog 25 #[.int .i64 13, .int .i64 w] x fun e x' => e = .returned (.int .i64 0) ∧ x = x' := by
 go_enter Tryo.func25, Tryz.ntmps25
 go_wp2_with fail
 go_ret
 exact ⟨rfl, rfl⟩
theorem fast_Moved_16_6 (x : World) : Calls Tryo.prog 25 #[.int .i64 16, .int .i64 6] x fun e x' => e = .returned (.int .i64 (-2)) ∧ x = x' := by
 go_enter Tryo.func25, Tryz.ntmps25
 go_wp2_with fail
 go_ret
 exact ⟨rfl, rfl⟩
theorem fast_Moved_16_no (w : Int) (h6 : (w == 6) = false) (x : World) : Calls Tryo.prog 25 #[.int .i64 16, .int .i64 w] x fun e x' => e = .returned (.int .i64 0) ∧ x = x' := by
 go_enter Tryo.func25, Tryz.ntmps25
 go_wp2_with fail
 go_ret
 exact ⟨rfl, rfl⟩
theorem fast_Moved_19_5 (x : World) : Calls Tryo.prog 25 #[.int .i64 19, .int .i64 5] x fun e x' => e = .returned (.int .i64 (-1)) ∧ x = x' := by
 go_enter Tryo.func25, Tryz.ntmps25
 go_wp2_with fail
 go_ret
 exact ⟨rfl, rfl⟩
theorem fast_Moved_19_0 (x : World) : Calls Tryo.prog 25 #[.int .i64 19, .int .i64 0] x fun e x' => e = .returned (.int .i64 1) ∧ x = x' := by
 go_enter Tryo.func25, Tryz.ntmps25
 go_wp2_with fail
 go_ret
 exact ⟨rfl, rfl⟩
theorem fast_Moved_19_no (w : Int) (h5 : (w == 5) = false) (h0 : (w == 0) = false) (x : World) : Calls Tryo.prog 25 #[.int .i64 19, .int .i64 w] x fun e x' => e = .returned (.int .i64 0) ∧ x = x' := by
 go_enter Tryo.func25, Tryz.ntmps25
 go_wp2_with fail
 go_ret
 exact ⟨rfl, rfl⟩
theorem fast_Moved_21_5 (x : World) : Calls Tryo.prog 25 #[.int .i64 21, .int .i64 5] x fun e x' => e = .returned (.int .i64 (-1)) ∧ x = x' := by
 go_enter Tryo.func25, Tryz.ntmps25
 go_wp2_with fail
 go_ret
 exact ⟨rfl, rfl⟩
theorem fast_Moved_21_6 (x : World) : Calls Tryo.prog 25 #[.int .i64 21, .int .i64 6] x fun e x' => e = .returned (.int .i64 (-2)) ∧ x = x' := by
 go_enter Tryo.func25, Tryz.ntmps25
 go_wp2_with fail
 go_ret
 exact ⟨rfl, rfl⟩
theorem fast_Moved_21_1 (x : World) : Calls Tryo.prog 25 #[.int .i64 21, .int .i64 1] x fun e x' => e = .returned (.int .i64 1) ∧ x = x' := by
 go_enter Tryo.func25, Tryz.ntmps25
 go_wp2_with fail
 go_ret
 exact ⟨rfl, rfl⟩
theorem fast_Moved_21_no (w : Int) (h5 : (w == 5) = false) (h6 : (w == 6) = false) (h1 : (w == 1) = false) (x : World) : Calls Tryo.prog 25 #[.int .i64 21, .int .i64 w] x fun e x' => e = .returned (.int .i64 0) ∧ x = x' := by
 go_enter Tryo.func25, Tryz.ntmps25
 go_wp2_with fail
 go_ret
 exact ⟨rfl, rfl⟩
theorem fast_Moved_no (k w : Int) (h2 : (k == 2) = false) (h26 : (k == 26) = false) (h27 : (k == 27) = false) (h13 : (k == 13) = false) (h16 : (k == 16) = false) (h19 : (k == 19) = false) (h21 : (k == 21) = false) (x : World) : Calls Tryo.prog 25 #[.int .i64 k, .int .i64 w] x fun e x' => e = .returned (.int .i64 0) ∧ x = x' := by
 go_enter Tryo.func25, Tryz.ntmps25
 go_wp2_with fail
 go_ret
 exact ⟨rfl, rfl⟩
theorem fast_Moved (k w : Int) (x : World) : Calls Tryo.prog 25 #[.int .i64 k, .int .i64 w] x fun e x' => e = .returned (.int .i64 (Fa.mvd k w)) ∧ x = x' := by
 by_cases e2 : k = 2
 ·subst e2
  by_cases d6 : w = 6
  ·subst d6; exact fast_Moved_2_6 x
  rw [show Fa.mvd 2 w = 0 by simp [Fa.mvd, d6]]
  exact fast_Moved_2_no w (by simpa using d6) x
 by_cases e26 : k = 26
 ·subst e26
  by_cases d6 : w = 6
  ·subst d6; exact fast_Moved_26_6 x
  rw [show Fa.mvd 26 w = 0 by simp [Fa.mvd, d6]]
  exact fast_Moved_26_no w (by simpa using d6) x
 by_cases e27 : k = 27
 ·subst e27
  by_cases d6 : w = 6
  ·subst d6; exact fast_Moved_27_6 x
  rw [show Fa.mvd 27 w = 0 by simp [Fa.mvd, d6]]
  exact fast_Moved_27_no w (by simpa using d6) x
 by_cases e13 : k = 13
 ·subst e13
  by_cases d6 : w = 6
  ·subst d6; exact fast_Moved_13_6 x
  rw [show Fa.mvd 13 w = 0 by simp [Fa.mvd, d6]]
  exact fast_Moved_13_no w (by simpa using d6) x
 by_cases e16 : k = 16
 ·subst e16
  by_cases d6 : w = 6
  ·subst d6; exact fast_Moved_16_6 x
  rw [show Fa.mvd 16 w = 0 by simp [Fa.mvd, d6]]
  exact fast_Moved_16_no w (by simpa using d6) x
 by_cases e19 : k = 19
 ·subst e19
  by_cases d5 : w = 5
  ·subst d5; exact fast_Moved_19_5 x
  by_cases d0 : w = 0
  ·subst d0; exact fast_Moved_19_0 x
  rw [show Fa.mvd 19 w = 0 by simp [Fa.mvd, d5, d0]]
  exact fast_Moved_19_no w (by simpa using d5) (by simpa using d0) x
 by_cases e21 : k = 21
 ·subst e21
  by_cases d5 : w = 5
  ·subst d5; exact fast_Moved_21_5 x
  by_cases d6 : w = 6
  ·subst d6; exact fast_Moved_21_6 x
  by_cases d1 : w = 1
  ·subst d1; exact fast_Moved_21_1 x
  rw [show Fa.mvd 21 w = 0 by simp [Fa.mvd, d5, d6, d1]]
  exact fast_Moved_21_no w (by simpa using d5) (by simpa using d6) (by simpa using d1) x
 rw [show Fa.mvd k w = 0 by simp [Fa.mvd, e2, e26, e27, e13, e16, e19, e21]]
 exact fast_Moved_no k w (by simpa using e2) (by simpa using e26) (by simpa using e27) (by simpa using e13) (by simpa using e16) (by simpa using e19) (by simpa using e21) x
end Go.Proofs.YtgojeobnoebnlaaGreatDoor
end
section
namespace Go.Proofs.YtgojeobnoebnlaaGreatDoor
open Go.ChangeShapes Go.WideShapes Go.ChangeAt Go.RowKit Go.Lib Go.Sort Go.Shelf
namespace Fa
def rows : List (Int × Int × Int) := [(2, 1, 3), (10, 4, 10), (13, 6, 13), (16, 7, 14), (19, 7, 27), (21, 8, 5), (24, 8, 28), (26, 10, 17), (27, 11, 9)]
def row (k : Nat) : Int × Int × Int := rows.getD k (0, 0, 0)
def rowCells (r : Int × Int × Int) : List Value := [.int .i64 r.1, .int .i64 r.2.1, .int .i64 r.2.2]
def cells : List Value := rows.flatMap rowCells
def arr : Array Value := cells.toArray
theorem arr_size : arr.size = 27 := by kernel_rfl
theorem index (k : Nat) (hk : k < 9) : ∀ w : World, (Instr.index 69 (.agg arr) (.int .i64 (k : Int))).run Tryo.prog w = .ok (.agg (rowCells (row k)).toArray) w := by
 rcases (show k = 0 ∨ k = 1 ∨ k = 2 ∨ k = 3 ∨ k = 4 ∨ k = 5 ∨ k = 6 ∨ k = 7 ∨ k = 8 by omega) with rfl | rfl | rfl | rfl | rfl | rfl | rfl | rfl | rfl
 all_goals exact fun _ => by kernel_rfl
attribute [irreducible] arr
def evs (sw : Bool) (kd e : Int) : List (Int × Int) := if kd = 21 then (if sw then [(20, e - 1), (21, e)] else [(21, e), (20, e - 1)]) else [(kd, e)]
def rowEv (sw : Bool) (dv : Int → Int → Int) (r : Int × Int × Int) : List (Int × Int) := evs sw r.1 (dv r.2.1 r.2.2 + mvd r.1 (dv r.2.1 r.2.2 % 7))
def all (sw : Bool) (dv : Int → Int → Int) : List (Int × Int) := rows.flatMap (rowEv sw dv)
def upto (dv : Int → Int → Int) (k : Nat) : List (Int × Int) := (rows.take k).flatMap (rowEv false dv)
theorem row_get (k : Nat) (hk : k < 9) : rows[k]? = some (row k) := by
 have : k < rows.length := hk
 rw [List.getElem?_eq_getElem this]
 unfold row
 rw [List.getD_eq_getElem?_getD, List.getElem?_eq_getElem this]
 rfl
theorem upto_next (dv : Int → Int → Int) (k : Nat) (hk : k < 9) : upto dv (k + 1) = upto dv k ++ rowEv false dv (row k) := by
 unfold upto
 rw [List.take_add_one, row_get k hk, List.flatMap_append]
 simp
end Fa
theorem fast_Of_ok (y : Int) (w : World) (hy1 : 1 ≤ y) (hy2 : y ≤ 9999) (hT : Tab w 6 kevCells) (hL : Tab w 3 lenCells) (hF : Tab w 1 Fa.cells)
  (HD : Hid (∀ k, k < 9 → D10.dateE y (Fa.row k).2.1 false (Fa.row k).2.2 = 0 ∧ -2000000 ≤ D10.dayV y (Fa.row k).2.1 false (Fa.row k).2.2 ∧ D10.dayV y (Fa.row k).2.1 false (Fa.row k).2.2 ≤ 3000000)) :
  Calls Tryo.prog 8 #[.int .i64 y] w fun e w' => ∃ v, e = .returned (.tuple #[v, .int .i64 0]) ∧ Ev.Own w' w.heap.size v (Ev.sort (Fa.upto (fun n d => D10.dayV y n false d) 9)) ∧ Below w.heap.size w w' := by
 obtain ⟨i0, ih, iz0, iz1, iz2⟩ := info_parts A_infoEvent
 obtain ⟨t, hF⟩ := hF
 have hF2 : w.heap[1]? = some (.cells Fa.arr t (0, 0)) := by unfold Fa.arr; exact hF
 have HT := Lib.hid hF2
 have HZ := Lib.hid (show (Tryo.prog.info? 69).map (·.size) = some Fa.arr.size by rw [Fa.arr_size]; kernel_rfl)
 have HC := Lib.hid (fun (n d : Int) (w : World) hT hL => heb_ToDay y n false d w ⟨by omega, by omega⟩ hT hL)
 clear hF hF2
 go_enter Tryo.func8, Tryz.ntmps8
 go_wp2_with (refine wpList_load_row rfl 69 _ rfl 1 rfl t Fa.arr (0, 0) _ HT.out (und_o Tryz.underlying69) rfl HZ.out ?_)
 go_loopw [4, 16] (fun v i wr => ∃ (k : Nat) (S : List (Int × Int)), k ≤ 9 ∧ i = .int .i64 (k : Int) ∧ Hid (S = Fa.upto (fun n d => D10.dayV y n false d) k) ∧ S.length ≤ 2 * k ∧ Ev.Own wr w.heap.size v S ∧ Below w.heap.size w wr) (fun _ i _ => 9 - (intOf i).toNat)
 case atStart => exact ⟨0, [], by omega, rfl, Lib.hid rfl, by simp, Ev.Own.nil _ _, Below.refl _ _⟩
 case round =>
  obtain ⟨k, S, hk, rfl, HS, hlen, HO, hB⟩ := hrel
  obtain ⟨w1, rfl⟩ : ∃ x, x = wr := ⟨_, rfl⟩
  by_cases hlt : k < 9
  ·have hix := Fa.index k hlt
   have hde2 := HD.out k hlt
   have HNx := Lib.hid (Fa.upto_next (fun n d => D10.dayV y n false d) k hlt)
   obtain ⟨r, hr⟩ : ∃ r, Fa.row k = r := ⟨_, rfl⟩
   rw [hr] at hix hde2 HNx
   obtain ⟨kd, n, d⟩ := r
   have hix2 : ∀ w : World, (Instr.index 69 (.agg Fa.arr) (.int .i64 (k : Int))).run Tryo.prog w = .ok (.agg #[.int .i64 kd, .int .i64 n, .int .i64 d]) w := hix
   have k1 : (k : Int) < 9 := by omega
   clear hix hr
   have hde3 : D10.dateE y n false d = 0 ∧ -2000000 ≤ D10.dayV y n false d ∧ D10.dayV y n false d ≤ 3000000 := hde2
   obtain ⟨he0, hd1, hd2⟩ := hde3
   have HE : Hid (Fa.upto (fun n d => D10.dayV y n false d) (k + 1) = S ++ Fa.evs false kd (D10.dayV y n false d + Fa.mvd kd (D10.dayV y n false d % 7))) := Lib.hid (by rw [HNx.out, ← HS.out]; rfl)
   have HC2 := Lib.hid (fun (w : World) hT hL => HC.out n d w hT hL)
   rw [he0] at HC2
   clear hde2 he0
   generalize D10.dayV y n false d = D at *
   have HWd := Lib.hid (fun x => molad_Weekday D x ⟨by omega, by omega⟩)
   have HMv := Lib.hid (fun x => fast_Moved kd (D % 7) x)
   have hm := Fa.mvd_bd kd (D % 7)
   obtain ⟨M, hM⟩ : ∃ M, Fa.mvd kd (D % 7) = M := ⟨_, rfl⟩
   rw [hM] at HMv hm HE
   clear hM
   obtain ⟨hm1, hm2⟩ := hm
   go_wp2_with fail
   refine (HC2.out _ (Tab.below hT bel) (Tab.below hL bel)).mono ?_
   rintro e w2 ⟨rfl, hb2⟩
   obtain ⟨hc2, hf2⟩ := bcell hb2
   have hz2 := hb2.size
   try simp at hz2
   have hl2w1 : w1.heap.size < w2.heap.size := by omega
   have hm2w1 : w1.heap.size ≤ w2.heap.size := by omega
   have g2x0 : w2.cell? ⟨w1.heap.size, 0, none⟩ = some (.int .i64 kd) := cel hc2
   go_wp2_with fail
   refine wp_region_class (by kernel_rfl) (by kernel_rfl) (fun hall => ?_)
   repeat (first | go_big_quiet_skip | (go_big_quiet_want; first | (refine quiet_load1 _ _ _ rfl rfl ?_ ?_ ?_; (focus (intro _; simp; done)); (focus (first | assumption | omega | (simp; done) | (simp; omega))); apply Exists.intro; refine ⟨?_, ?_⟩; assumption; go_simp; go_big_quiet_on) | (refine quiet_load2 _ _ _ _ rfl rfl ?_ ?_ ?_ ?_; (focus (intro _; simp; done)); (focus (intro _; simp; done)); (focus (first | assumption | omega | (simp; done) | (simp; omega))); apply Exists.intro; apply Exists.intro; refine ⟨?_, ?_, ?_⟩; assumption; assumption; go_simp; go_big_quiet_on) | (refine quiet_load3 _ _ _ _ rfl rfl ?_ ?_ ?_ ?_; (focus (intro _; simp; done)); (focus (intro _; simp; done)); (focus (first | assumption | omega | (simp; done) | (simp; omega))); apply Exists.intro; apply Exists.intro; apply Exists.intro; refine ⟨?_, ?_, ?_, ?_⟩; assumption; assumption; assumption; go_simp; go_big_quiet_on) | (refine quiet_load4 _ _ _ _ rfl rfl ?_ ?_ ?_ ?_; (focus (intro _; simp; done)); (focus (intro _; simp; done)); (focus (first | assumption | omega | (simp; done) | (simp; omega))); apply Exists.intro; apply Exists.intro; apply Exists.intro; apply Exists.intro; refine ⟨?_, ?_, ?_, ?_, ?_⟩; assumption; assumption; assumption; assumption; go_simp; go_big_quiet_on) | (go_big_quiet_op; first | go_big_quiet_on | (apply Exists.intro; refine ⟨fun x hx => ?_, ?_⟩; (first | (with_reducible exact call_same hx (HWd.out x)) | (with_reducible exact call_same hx (HMv.out x)) | exact call_same hx (HWd.out x) | exact call_same hx (HMv.out x)); go_big_quiet_on))))
   refine wpQuiet_nil ?_
   clear hall
   intro x10 hx10
   have x10c : x10.cell? ⟨w1.heap.size, 0, none⟩ = some (.int .i64 kd) := (hx10.cell (by first | assumption | omega)).trans g2x0
   have x10s : w1.heap.size < x10.heap.size := World.block_lt_of_cell? _ _ x10c
   have hBx1 : Below w1.heap.size w1 x10 := bel
   have hB10 : Below w.heap.size w x10 := bt hB hBx1
   have HO5 : x10.ownsRow w.heap.size 36 2 u4 S.length (Ev.flat S) := HO.below hBx1
   have HN4 : Hid (u4.ownBlock ≠ some w1.heap.size) := Lib.hid (fun e => by have := (HO.lt _ e).2; omega)
   have hsz4 := hB10.size
   obtain ⟨E, hE⟩ : ∃ E, D + M = E := ⟨_, rfl⟩
   rw [hE] at HE
   have hE1 : -2000002 ≤ E := by omega
   have hE2 : E ≤ 3000001 := by omega
   have HEe := Lib.hid hE
   clear HO
   by_cases hk21 : kd = 21
   ·subst hk21
    go_wp2_with (first | (at_builtin; refine wpList_append_own_at _ rfl (.tmp 40) (.tmp 45) 24 rfl w.heap.size 36 i0 (.agg #[.int .i64 0, .int .i64 0]) 2 16 (und_o Tryz.underlying24) ih iz0 iz1 iz2 rfl (by decide) _ S.length (Ev.flat S) rfl (HO5.alloc _) ⟨x10.heap.size, 0, none⟩ 1 1 [.int .i64 _, .int .i64 _] rfl rfl (ev_news _ _ _) (ev_one _ _) (by simp only [maxLen]; omega) (by omega) (by first | assumption | (simp; omega) | omega) ?_; intro v6 w6 hown6 hgrow6 _ hblk6; have c6 : w6.cell? ⟨w1.heap.size, 0, none⟩ = some (.int .i64 21) := hgrow6.cell (by simp [go_sem, *]) (fun e => HN4.out e.symm); have l6 : w1.heap.size < w6.heap.size := (by have := hgrow6.size; simp at this; omega); have z6 : w.heap.size ≤ w6.heap.size := (by have := hgrow6.size; simp at this; omega)) | (at_builtin; refine wpList_append_own_at _ rfl (.tmp 50) (.tmp 54) 24 rfl w.heap.size 36 i0 (.agg #[.int .i64 0, .int .i64 0]) 2 16 (und_o Tryz.underlying24) ih iz0 iz1 iz2 rfl (by decide) _ (S.length + 1) (Ev.flat S ++ [.int .i64 21, .int .i64 E]) rfl (hown6.alloc _) ⟨w6.heap.size, 0, none⟩ 1 1 [.int .i64 _, .int .i64 _] rfl rfl (ev_news _ _ _) (ev_one _ _) (by simp only [maxLen]; omega) (by omega) (by first | assumption | (simp; omega) | omega) ?_; intro v7 w7 hown7 hgrow7 _ hblk7))
    go_roundw
    case rel =>
     have hb6 : Below w.heap.size w w6 := bgrown (baa hB10 _) hgrow6 (fun k e => (World.ownsRow.lt HO5 k e).1)
     refine ⟨k + 1, S ++ [(21, E)] ++ [(20, E - 1)], by omega, by go_num, Lib.hid ?_, by simp; omega, Ev.own_snoc (n := S.length + 1) (by simp) (by rw [Ev.flat_app]; exact hown7), bgrown (baa hb6 _) hgrow7 (fun k e => (World.ownsRow.lt hown6 k e).1)⟩
     rw [HE.out]; unfold Fa.evs; rw [if_pos rfl, if_neg Bool.false_ne_true, List.append_assoc]; rfl
    case measure => simp [intOf]; omega
   ·have hk2 : (kd == 21) = false := by simpa using hk21
    have HK := Lib.hid hk21
    clear hk21
    go_wp2_with (at_builtin; refine wpList_append_own_at _ rfl (.tmp 40) (.tmp 45) 24 rfl w.heap.size 36 i0 (.agg #[.int .i64 0, .int .i64 0]) 2 16 (und_o Tryz.underlying24) ih iz0 iz1 iz2 rfl (by decide) _ S.length (Ev.flat S) rfl (HO5.alloc _) ⟨x10.heap.size, 0, none⟩ 1 1 [.int .i64 _, .int .i64 _] rfl rfl (ev_news _ _ _) (ev_one _ _) (by simp only [maxLen]; omega) (by omega) (by first | assumption | (simp; omega) | omega) ?_; intro v6 w6 hown6 hgrow6 _ hblk6; have c6 : w6.cell? ⟨w1.heap.size, 0, none⟩ = some (.int .i64 kd) := hgrow6.cell (by simp [go_sem, *]) (fun e => HN4.out e.symm); have l6 : w1.heap.size < w6.heap.size := (by have := hgrow6.size; simp at this; omega); have z6 : w.heap.size ≤ w6.heap.size := (by have := hgrow6.size; simp at this; omega))
    go_roundw
    case rel =>
     refine ⟨k + 1, S ++ [(kd, E)], by omega, by go_num, Lib.hid ?_, by simp; omega, Ev.own_snoc rfl hown6, bgrown (baa hB10 _) hgrow6 (fun k e => (World.ownsRow.lt HO5 k e).1)⟩
     rw [HE.out]; unfold Fa.evs; rw [if_neg HK.out]
    case measure => simp [intOf]; omega
  ·obtain rfl : k = 9 := by omega
   clear hlt
   go_wp2_with fail
   refine (feast_Sort _ S _ HO.row (by omega)).mono ?_
   rintro e w9 ⟨v9, rfl, ho9, hb9⟩
   go_wp2_with fail
   go_ret2
   exact ⟨_, rfl, by rw [← HS.out]; exact ho9.base hB.size, bt hB hb9⟩
end Go.Proofs.YtgojeobnoebnlaaGreatDoor
end
section
namespace Go.Proofs.YtgojeobnoebnlaaGreatDoor
open Go.ChangeShapes Go.WideShapes Go.ChangeAt Go.RowKit Go.Lib Go.Sort Go.Shelf
end Go.Proofs.YtgojeobnoebnlaaGreatDoor
end
section
namespace Go.Proofs.YtgojeobnoebnlaaGreatDoor
open Go.ChangeShapes Go.WideShapes Go.ChangeAt Go.RowKit Go.Lib Go.Sort Go.Shelf
namespace Fa
theorem fm_congr {f g : Int × Int × Int → List (Int × Int)} : ∀ {l : List (Int × Int × Int)}, (∀ x ∈ l, f x = g x) → l.flatMap f = l.flatMap g
 | [], _ => rfl
 | a :: l, h => by rw [List.flatMap_cons, List.flatMap_cons, h a (List.mem_cons_self ..), fm_congr fun x hx => h x (List.mem_cons_of_mem _ hx)]
def rowO (sw : Bool) (i : Nat) (r : Int × Int × Int) : List (Int × Int) := evs sw r.1 (Yr.offV i r.2.1 false r.2.2 + mvd r.1 ((kevB i + Yr.offV i r.2.1 false r.2.2) % 7))
def allO (sw : Bool) (i : Nat) : List (Int × Int) := rows.flatMap (rowO sw i)
def fastL (i : Nat) : List (Int × Int) := Ev.sort (allO false i)
theorem evs_sh (sw : Bool) (kd F e : Int) : evs sw kd (F + e) = (evs sw kd e).map (Ev.sh F) := by
 unfold evs Ev.sh
 split
 ·split
  ·simp; omega
  ·simp; omega
 ·simp
theorem ok_all : ((List.range 14).all fun i => (rows.all fun r => Yr.okV i r.2.1 false r.2.2 && (decide (0 ≤ Yr.offV i r.2.1 false r.2.2) && decide (Yr.offV i r.2.1 false r.2.2 ≤ 400))) && decide (Ev.sort (allO true i) = fastL i)) = true := by decide +kernel
theorem row_ok {y : Int} {i : Nat} (h : Yr.Is y i) (r : Int × Int × Int) (hr : r ∈ rows) : D10.dateE y r.2.1 false r.2.2 = 0 ∧ D10.dayV y r.2.1 false r.2.2 = Cal.first y + Yr.offV i r.2.1 false r.2.2 ∧ 0 ≤ Yr.offV i r.2.1 false r.2.2 ∧ Yr.offV i r.2.1 false r.2.2 ≤ 400 := by
 have h1 := List.all_eq_true.1 ok_all i (List.mem_range.2 h.2.2.1)
 simp only [Bool.and_eq_true] at h1
 have h2 := List.all_eq_true.1 h1.1 r hr
 simp only [Bool.and_eq_true, decide_eq_true_eq] at h2
 obtain ⟨e1, e2⟩ := Yr.day_off h h2.1
 exact ⟨e1, e2, h2.2.1, h2.2.2⟩
theorem all_off {y : Int} {i : Nat} (h : Yr.Is y i) (sw : Bool) : all sw (fun n d => D10.dayV y n false d) = (allO sw i).map (Ev.sh (Cal.first y)) := by
 unfold all allO
 rw [List.map_flatMap]
 apply fm_congr
 intro r hr
 obtain ⟨_, e, _, _⟩ := row_ok h r hr
 unfold rowEv rowO
 dsimp only
 rw [← evs_sh, e]
 have hm : (Cal.first y + Yr.offV i r.2.1 false r.2.2) % 7 = (kevB i + Yr.offV i r.2.1 false r.2.2) % 7 := by have := h.2.2.2.1; omega
 rw [hm, Int.add_assoc]
theorem bd {y : Int} {i : Nat} (h : Yr.Is y i) (r : Int × Int × Int) (hr : r ∈ rows) : -2000000 ≤ D10.dayV y r.2.1 false r.2.2 ∧ D10.dayV y r.2.1 false r.2.2 ≤ 3000000 := by
 obtain ⟨_, e, _, _⟩ := row_ok h r hr
 have := Yr.first_bd h
 omega
end Fa
theorem fast_Of_at (y : Int) (i : Nat) (w : World) (h : Yr.Is y i) (hT : Tab w 6 kevCells) (hL : Tab w 3 lenCells) (hF : Tab w 1 Fa.cells) :
  Calls Tryo.prog 8 #[.int .i64 y] w fun e w' => ∃ v, e = .returned (.tuple #[v, .int .i64 0]) ∧ Ev.Own w' w.heap.size v ((Fa.fastL i).map (Ev.sh (Cal.first y))) ∧ Below w.heap.size w w' := by
 have e : Ev.sort (Fa.upto (fun n d => D10.dayV y n false d) 9) = (Fa.fastL i).map (Ev.sh (Cal.first y)) := by
  unfold Fa.fastL
  rw [← Ev.sort_sh, ← Fa.all_off h false]
  rfl
 rw [← e]
 exact fast_Of_ok y w h.1 h.2.1 hT hL hF (Lib.hid (fun k hk => by
  have hr := List.mem_of_getElem? (Fa.row_get k hk)
  exact ⟨(Fa.row_ok h _ hr).1, Fa.bd h _ hr⟩))
end Go.Proofs.YtgojeobnoebnlaaGreatDoor
end
section
namespace Go.Proofs.YtgojeobnoebnlaaGreatDoor
open Go.ChangeShapes Go.WideShapes Go.ChangeAt Go.RowKit Go.Lib Go.Sort Go.Shelf
namespace Fa
def has (l : List (Int × Int)) : Bool := l.any fun x => x.1 == 21 && x.2 == 739020
theorem len_all : ((List.range 14).all fun i => decide ((fastL i).length = 10)) = true := by decide +kernel
end Fa
end Go.Proofs.YtgojeobnoebnlaaGreatDoor
end
